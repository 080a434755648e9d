import PyProof.Rows.All
import Wide.All
import OpenK.AllK
import Wide.FinOn
import Lean
import PyProof.EqAt
import PyProof.EqKinds
import PyProof.TupleCall
import KE.KIsAll
import OpenK.KOwn
import PySem.Challenge.RW_offseat_k05_refused
set_option Elab.async false
set_option linter.all false
set_option maxRecDepth 100000
set_option maxHeartbeats 0
namespace L2
open PySem PySem.Spec PyProof.Rows
abbrev Key := Sum Int Str
def keyIs : Key → Value → Bool
  | .inl k, v => Value.isInt k v
  | .inr x, v => Value.isStrOf x v
def keyH (w : World) : Key → Int
  | .inl k => hashInt k
  | .inr x => hashStr w x
theorem keyIs_shape : ∀ {k : Key} {v : Value}, keyIs k v = true → (∃ i t, k = Sum.inl i ∧ v = Value.int i t) ∨ (∃ x t, k = Sum.inr x ∧ v = Value.str x t)
  | .inl i, v, h => by
    obtain ⟨t, e⟩ := Value.isInt_shape (k := i) (v := v) h
    exact .inl ⟨i, t, rfl, e⟩
  | .inr x, v, h => by
    obtain ⟨t, e⟩ := Value.isStrOf_shape (x := x) (v := v) h
    exact .inr ⟨x, t, rfl, e⟩
theorem keyIs_int (i : Int) (t : Tok) : keyIs (.inl i) (.int i t) = true := by simp [keyIs, Value.isInt]
theorem keyIs_str (x : Str) (t : Tok) : keyIs (.inr x) (.str x t) = true := by simp [keyIs, Value.isStrOf]
theorem key_ll (a b : Int) : decide ((Sum.inl a : Key) = Sum.inl b) = (a == b) := by
  by_cases e : a = b
  · subst e; simp
  · have h : ¬ (Sum.inl a : Key) = Sum.inl b := fun q => e (Sum.inl.inj q)
    rw [decide_eq_false h]
    exact (beq_eq_false_iff_ne.mpr e).symm
theorem key_rr (a b : Str) : decide ((Sum.inr a : Key) = Sum.inr b) = decide (a = b) := by
  by_cases e : a = b
  · subst e; simp
  · have h : ¬ (Sum.inr a : Key) = Sum.inr b := fun q => e (Sum.inr.inj q)
    rw [decide_eq_false h, decide_eq_false e]
theorem key_lr (a : Int) (b : Str) : decide ((Sum.inl a : Key) = Sum.inr b) = false := decide_eq_false (fun q => nomatch q)
theorem key_rl (a : Str) (b : Int) : decide ((Sum.inr a : Key) = Sum.inl b) = false := decide_eq_false (fun q => nomatch q)
def mixKind (prog : Program) (w : World) : PySem.KeyKind prog w Key where
  is := keyIs
  hash := keyH w
  inj := fun v a b ha hb => by
    rcases keyIs_shape ha with ⟨i, t, rfl, rfl⟩ | ⟨x, t, rfl, rfl⟩
    · rcases keyIs_shape hb with ⟨j, u, rfl, e⟩ | ⟨y, u, rfl, e⟩
      · injection e with e1 _; rw [e1]
      · exact nomatch e
    · rcases keyIs_shape hb with ⟨j, u, rfl, e⟩ | ⟨y, u, rfl, e⟩
      · exact nomatch e
      · injection e with e1 _; rw [e1]
  byValue := fun k v h => by
    rcases keyIs_shape h with ⟨i, t, rfl, rfl⟩ | ⟨x, t, rfl, rfl⟩ <;> rfl
  pyHash := fun hv h => by
    rcases keyIs_shape hv with ⟨i, t, rfl, rfl⟩ | ⟨x, t, rfl, rfl⟩
    · exact wpAny_pyHash_int h
    · exact wpAny_pyHash_str h
  eqBool := fun hu hv h => by
    rcases keyIs_shape hu with ⟨i, t, rfl, rfl⟩ | ⟨x, t, rfl, rfl⟩
    · rcases keyIs_shape hv with ⟨j, u, rfl, rfl⟩ | ⟨y, u, rfl, rfl⟩
      · rw [key_ll] at h; exact wpAny_eqBool_int h
      · rw [key_lr] at h; exact SeqAt.EqAt.int_str i t y u _ _ _ _ h
    · rcases keyIs_shape hv with ⟨j, u, rfl, rfl⟩ | ⟨y, u, rfl, rfl⟩
      · rw [key_rl] at h; exact SeqAt.EqAt.str_int x t j u _ _ _ _ h
      · rw [key_rr] at h; exact wpAny_eqBool_str h
  «strs» := fun k x t v h => by
    rcases keyIs_shape h with ⟨i, u, rfl, e⟩ | ⟨y, u, rfl, e⟩
    · exact nomatch e
    · injection e with e1 _
      subst e1
      cases v <;> rfl
theorem mixKind_int (prog : Program) (w : World) (i : Int) (t : Tok) : (mixKind prog w).is (.inl i) (.int i t) = true := keyIs_int i t
theorem mixKind_str (prog : Program) (w : World) (x : Str) (t : Tok) : (mixKind prog w).is (.inr x) (.str x t) = true := keyIs_str x t
end L2
namespace L2
open PySem PySem.Spec PyProof.Rows
inductive V where
  | non | bl (b : Bool) | int (i : Int) | str (x : Str) | byt (b : Array UInt8) | flt (b : UInt64) | ref (a : Addr) | ty (n : String)
  deriving DecidableEq
def RelV : V → Value → Prop
  | .non, u => u = Value.none
  | .bl b, u => u = Value.bool b
  | .int i, u => ∃ t, u = Value.int i t
  | .str x, u => ∃ t, u = Value.str x t
  | .byt b, u => ∃ t, u = Value.bytes b t
  | .flt b, u => ∃ t, u = Value.float b t
  | .ref a, u => u = Value.ref a
  | .ty n, u => u = Value.type n
abbrev Vals : List V → List Value → Prop := Paired RelV
theorem Vals.length {xs : List V} {us : List Value} (r : Vals xs us) : xs.length = us.length := Paired.length r
theorem Vals.get : ∀ {xs : List V} {us : List Value} {i : Nat} {x : V}, Vals xs us → xs[i]? = some x → ∃ u, us[i]? = some u ∧ RelV x u
  | _, _, _, _, .nil, e => by simp at e
  | _, _, 0, _, .cons r _, e => by simp at e; subst e; exact ⟨_, rfl, r⟩
  | _, _, i + 1, x, .cons _ t, e => by
    obtain ⟨u, h1, h2⟩ := Vals.get (i := i) (x := x) t (by simpa using e)
    exact ⟨u, by simpa using h1, h2⟩
theorem Vals.set {x : V} {u : Value} (r : RelV x u) : ∀ {xs : List V} {us : List Value} (i : Nat), Vals xs us → Vals (xs.set i x) (us.set i u)
  | _, _, _, .nil => .nil
  | _, _, 0, .cons _ t => .cons r t
  | _, _, i + 1, .cons q t => .cons q (Vals.set r i t)
theorem Vals.append : ∀ {xs ys : List V} {us ws : List Value}, Vals xs us → Vals ys ws → Vals (xs ++ ys) (us ++ ws)
  | _, _, _, _, .nil, s => s
  | _, _, _, _, .cons r t, s => .cons r (Vals.append t s)
theorem Vals.take : ∀ {xs : List V} {us : List Value} (n : Nat), Vals xs us → Vals (xs.take n) (us.take n)
  | _, _, 0, _ => .nil
  | _, _, _ + 1, .nil => .nil
  | _, _, n + 1, .cons r t => .cons r (Vals.take n t)
theorem Vals.drop : ∀ {xs : List V} {us : List Value} (n : Nat), Vals xs us → Vals (xs.drop n) (us.drop n)
  | _, _, 0, r => r
  | _, _, _ + 1, .nil => .nil
  | _, _, n + 1, .cons _ t => Vals.drop n t
theorem Vals.none_of : ∀ {xs : List V} {us : List Value} {i : Nat}, Vals xs us → xs[i]? = none → us[i]? = none := fun {xs us i} r e => by
  have h1 := r.length
  have h2 : xs.length ≤ i := List.getElem?_eq_none_iff.mp e
  exact List.getElem?_eq_none_iff.mpr (by omega)
def RelO : Option V → Option Value → Prop
  | some v, some u => RelV v u
  | none, none => True
  | _, _ => False
def KV {κ : Type} : List (κ × V) → List (κ × Value) → Prop := Paired fun (p : κ × V) (q : κ × Value) => p.1 = q.1 ∧ RelV p.2 q.2
def kV : Key → V
  | .inl i => .int i
  | .inr x => .str x
inductive HO where
  /-- a list -/
  | lst (xs : List V)
  /-- a tuple (never changes) -/
  | tup (xs : List V)
  /-- a dict whose keys are ints and texts; one whose keys are tuples of ints and texts (the empty one is both) -/
  | dK (kvs : List (Key × V)) | dT (kvs : List (List Key × V))
  /-- a set of ints: its members, its size -/
  | set (S : Int → Bool) (n : Nat)
  /-- an instance of the class at C, its dict at dx, its attributes -/
  | ins (C dx : Addr) (fs : List (Str × V))
  /-- the dict of the instance at x -/
  | own (x : Addr)
  /-- the dict of an exception -/
  | xd (fs : List (Str × V))
  /-- a bound method, f of x -/
  | met (f x : Addr)
  /-- a range object lo, lo + 1, .. below hi -/
  | rng (lo hi : Int)
  /-- a thing that is known to the object (the script; a dict while a loop walks it): read, never written while it is so -/
  | frz (o : Obj) (u : HO)
  /-- a code object's table -/
  | tbl (ps : Array Value)
  /-- any other thing, by what is true of its one object (a def of one's own: SetO a S n := HO.ext fun h => ..) -/
  | ext (φ : Heap → Prop)
abbrev Hp := Addr → Option HO
def upd (H : Hp) (a : Addr) (o : HO) : Hp := fun b => if b = a then some o else H b
theorem upd_same {H : Hp} {a : Addr} {o : HO} : upd H a o a = some o := by unfold upd; rw [if_pos rfl]
theorem upd_ne {H : Hp} {a b : Addr} {o : HO} (h : b ≠ a) : upd H a o b = H b := by unfold upd; rw [if_neg h]
theorem ne_of {H : Hp} {a b : Addr} {o u : HO} (h : H a = some o) (h' : H b = some u) (d : o ≠ u) : a ≠ b := by
  intro e; subst e; rw [h] at h'; exact d (Option.some.inj h')
theorem ne_of_none {H : Hp} {a b : Addr} {o : HO} (h : H a = some o) (h' : H b = none) : a ≠ b := by
  intro e; subst e; rw [h] at h'; cases h'
section
variable (P : Program) (w : World)
def ObjOk (H : Hp) (h : Heap) (a : Addr) : HO → Prop
  | .lst xs => xs.length ≤ sizeLine ∧ ∃ (its : List Value) (n : Nat), Vals xs its ∧ h.get? a = some { cls := .type "list", data := .seq its.toArray n }
  | .tup xs => xs.length ≤ sizeLine ∧ ∃ its : List Value, Vals xs its ∧ IsTup h a its.toArray
  | .dK kvs => kvs.length ≤ sizeLine ∧ (a == sysModules) = false ∧ ∃ vs, KV kvs vs ∧ h.DictOf (mixKind P w) a vs
  | .dT kvs => kvs.length ≤ sizeLine ∧ (a == sysModules) = false ∧ ∃ xs : List (List Key × Addr × Value),
      Paired (fun (p : List Key × V) (q : List Key × Addr × Value) => p.1 = q.1 ∧ H q.2.1 = some (.tup (p.1.map kV)) ∧ RelV p.2 q.2.2) kvs xs ∧
      ∃ o es ep, h.get? a = some o ∧ o.ExactDict ∧ o.data = .dict es ep ∧ es.toList = xs.map (entryOfKey (tupleKind (mixKind P w))) ∧ (xs.map (·.1)).Nodup
  | .set S n => h.SetOf (intKind P w) a S n
  | .ins C dx fs => H dx = some (.own a) ∧ fs.length ≤ 1000 ∧ dx ≠ a ∧ h.get? a = some (PySem.W.instObj C dx) ∧
      ∃ mA, h.Ns1 dx mA ∧ (∀ f, RelO (fs.lookup f) (mA f)) ∧ PySem.Within mA (fs.map (·.1))
  | .own _ => ∃ o, h.get? a = some o
  | .xd fs => ∃ mA, h.Ns1 a mA ∧ ∀ f, RelO (fs.lookup f) (mA f)
  | .rng lo hi => ∃ t u v, h.get? a = some { cls := .type "range", data := .fields #[.int lo t, .int hi u, .int 1 v] }
  | .frz o u => h.get? a = some o ∧ ObjOk H h a u
  | .tbl ps => h.get? a = some { cls := .none, data := .fields ps }
  | .met f x => h.get? a = some (PySem.W.methodObj (.ref f) (.ref x))
  | .ext φ => φ h ∧ (∃ o, h.get? a = some o) ∧ ∀ h1 h2 : Heap, φ h1 → (∀ o, h1.get? a = some o → h2.get? a = some o) → φ h2
def HOk (H : Hp) (h : Heap) : Prop := ∀ a o, H a = some o → ObjOk P w H h a o
end
section
variable {P : Program} {w : World} {H H' : Hp} {h h' : Heap} {a : Addr} {o : HO}
theorem ObjOk.lt (x : ObjOk P w H h a o) : a < h.objs.size := by
  cases o with
  | lst xs => obtain ⟨_, _, _, _, e⟩ := x; exact Heap.lt_size e
  | tup xs => obtain ⟨_, _, _, p⟩ := x; exact p.lt
  | dK kvs => obtain ⟨_, _, _, _, o, _, _, e, _⟩ := x; exact Heap.lt_size e
  | dT kvs => obtain ⟨_, _, _, _, o, _, _, e, _⟩ := x; exact Heap.lt_size e
  | set S n => obtain ⟨o, _, _, _, e, _⟩ := x; exact Heap.lt_size e
  | ins C dx fs => obtain ⟨_, _, _, e, _⟩ := x; exact Heap.lt_size e
  | own y => obtain ⟨_, e⟩ := x; exact Heap.lt_size e
  | xd fs => obtain ⟨_, ⟨_, _, _, e, _⟩, _⟩ := x; exact Heap.lt_size e
  | rng lo hi => obtain ⟨_, _, _, e⟩ := x; exact Heap.lt_size e
  | frz ob u => obtain ⟨e, _⟩ := x; exact Heap.lt_size e
  | tbl ps => exact Heap.lt_size (show h.get? a = some _ from x)
  | met f y => exact Heap.lt_size (show h.get? a = some _ from x)
  | ext φ => obtain ⟨_, ⟨_, e⟩, _⟩ := x; exact Heap.lt_size e
theorem Paired.mapP {α β : Type} {F G : α → β → Prop} : ∀ {l₁ : List α} {l₂ : List β}, Paired F l₁ l₂ → (∀ a b, F a b → G a b) → Paired G l₁ l₂
  | _, _, .nil, _ => .nil
  | _, _, .cons r t, f => .cons (f _ _ r) (Paired.mapP t f)
theorem ObjOk.stay (x : ObjOk P w H h a o) (k : ∀ b u, (b = a ∨ H b = some (.own a)) → h.get? b = some u → h'.get? b = some u)
    (ho : ∀ b, H b = some (.own a) → H' b = some (.own a)) (ht : ∀ b xs, H b = some (.tup xs) → H' b = some (.tup xs)) : ObjOk P w H' h' a o := by
  induction o with
  | lst xs => obtain ⟨z, its, n, r, e⟩ := x; exact ⟨z, its, n, r, k _ _ (.inl rfl) e⟩
  | tup xs => obtain ⟨z, its, r, ob, e, c⟩ := x; exact ⟨z, its, r, ob, k _ _ (.inl rfl) e, c⟩
  | dK kvs => obtain ⟨z, y, vs, r, ob, es, ep, e, c⟩ := x; exact ⟨z, y, vs, r, ob, es, ep, k _ _ (.inl rfl) e, c⟩
  | dT kvs =>
    obtain ⟨z, y, xs, r, ob, es, ep, e, c⟩ := x
    exact ⟨z, y, xs, Paired.mapP r fun p q z => ⟨z.1, ht _ _ z.2.1, z.2.2⟩, ob, es, ep, k _ _ (.inl rfl) e, c⟩
  | set S n => obtain ⟨ob, es, ep, t, e, c⟩ := x; exact ⟨ob, es, ep, t, k _ _ (.inl rfl) e, c⟩
  | ins C dx fs =>
    obtain ⟨d, z, ne, e, mA, ⟨od, es, ep, e2, c⟩, r⟩ := x
    exact ⟨ho _ d, z, ne, k _ _ (.inl rfl) e, mA, ⟨od, es, ep, k _ _ (.inr d) e2, c⟩, r⟩
  | own y => obtain ⟨ob, e⟩ := x; exact ⟨ob, k _ _ (.inl rfl) e⟩
  | xd fs => obtain ⟨mA, ⟨od, es, ep, e, c⟩, r⟩ := x; exact ⟨mA, ⟨od, es, ep, k _ _ (.inl rfl) e, c⟩, r⟩
  | rng lo hi => obtain ⟨t, u, v, e⟩ := x; exact ⟨t, u, v, k _ _ (.inl rfl) e⟩
  | frz ob u ih => obtain ⟨e, q⟩ := x; exact ⟨k _ _ (.inl rfl) e, ih q⟩
  | tbl ps =>
    have e : h.get? a = some { cls := .none, data := .fields ps } := x
    show h'.get? a = some { cls := .none, data := .fields ps }
    exact k a _ (.inl rfl) e
  | met f y =>
    have e : h.get? a = some (PySem.W.methodObj (.ref f) (.ref y)) := x
    show h'.get? a = some (PySem.W.methodObj (.ref f) (.ref y))
    exact k a _ (.inl rfl) e
  | ext φ => obtain ⟨p, ⟨o, e⟩, st⟩ := x; exact ⟨st _ _ p fun o q => k _ _ (.inl rfl) q, ⟨o, k _ _ (.inl rfl) e⟩, st⟩
theorem HOk.lt (x : HOk P w H h) (e : H a = some o) : a < h.objs.size := (x a o e).lt
theorem HOk.fresh (x : HOk P w H h) (e : h.objs.size ≤ a) : H a = none := by
  cases q : H a with
  | none => rfl
  | some u => exact absurd (Nat.lt_of_lt_of_le (x.lt q) e) (Nat.lt_irrefl _)
theorem HOk.kept (x : HOk P w H h) (k : ∀ b u, h.get? b = some u → h'.get? b = some u) : HOk P w H h' := fun a o e =>
  (x a o e).stay (fun b u _ q => k b u q) (fun _ q => q) fun _ _ q => q
theorem HOk.laid (x : HOk P w H h) (k : ∀ b u, h.get? b = some u → h'.get? b = some u) (hp : h.objs.size ≤ a) (new : ObjOk P w (upd H a o) h' a o) : HOk P w (upd H a o) h' := fun b u e => by
  have hn := x.fresh hp
  by_cases hb : b = a
  · subst hb; rw [upd_same] at e; cases e; exact new
  · rw [upd_ne hb] at e
    exact (x b u e).stay (fun c v _ q => k c v q) (fun c q => by rw [upd_ne (ne_of_none q hn)]; exact q) fun c xs q => by rw [upd_ne (ne_of_none q hn)]; exact q
end
def Rd (H : Hp) (a : Addr) (u : HO) : Prop := H a = some u ∨ ∃ o, H a = some (.frz o u)
theorem Rd.of {H : Hp} {a : Addr} {u : HO} (h : H a = some u) : Rd H a u := .inl h
theorem Rd.ok {P : Program} {w : World} {H : Hp} {h : Heap} {a : Addr} {u : HO} (r : Rd H a u) (x : HOk P w H h) : ObjOk P w H h a u := by
  rcases r with r | ⟨o, r⟩
  · exact x a u r
  · obtain ⟨_, q⟩ := x a _ r
    exact q
def Mut : Option HO → Prop
  | some (.lst _) => True
  | some (.dK _) => True
  | some (.dT _) => True
  | some (.set _ _) => True
  | some (.ins _ _ _) => True
  | some (.ext _) => True
  | _ => False
section
variable {P : Program} {w : World} {H : Hp} {h h' : Heap} {x e : Addr} {o' : HO}
theorem HOk.write (ok : HOk P w H h) (mu : Mut (H x)) (he : e = x ∨ H e = some (.own x)) (k : ∀ b u, b ≠ e → h.get? b = some u → h'.get? b = some u) (heo : ∃ u, h'.get? e = some u)
    (new : ObjOk P w (upd H x o') h' x o') : HOk P w (upd H x o') h' := fun b u q => by
  have nown : ∀ c y, H c = some (.own y) → c ≠ x := fun c y r z => by subst z; rw [r] at mu; exact mu
  have ntup : ∀ c xs, H c = some (.tup xs) → c ≠ x := fun c xs r z => by subst z; rw [r] at mu; exact mu
  by_cases hb : b = x
  · subst hb; rw [upd_same] at q; cases q; exact new
  · rw [upd_ne hb] at q
    by_cases hbe : b = e
    · have q' : H b = some (.own x) := by
        rcases he with z | z
        · exact absurd (hbe.trans z) hb
        · rw [hbe]; exact z
      rw [q] at q'; cases q'
      obtain ⟨v, hv⟩ := heo
      exact ⟨v, by rw [hbe]; exact hv⟩
    · refine (ok b u q).stay (fun c v hc r => k c v ?_ r) (fun c r => by rw [upd_ne (nown c b r)]; exact r) fun c xs r => by rw [upd_ne (ntup c xs r)]; exact r
      rcases hc with rfl | hc
      · exact hbe
      · rintro rfl
        rcases he with z | z
        · exact nown c b hc z
        · rw [hc] at z; cases z; exact hb rfl
end
structure Un (fs ex : List Addr) (H H' : Hp) (h h' : Heap) : Prop where
  keep : ∀ b o, h.get? b = some o → H b = none → b ∉ fs → b ∉ ex → h'.get? b = some o
  slot : ∀ b o, h.get? b = some o → H b = none → b ∈ fs → b ∉ ex → ∃ sl, h'.get? b = some { o with slots := sl }
  free : ∀ b o, h.get? b = some o → H b = none → b ∉ ex → H' b = none
  there : ∀ b o, h.get? b = some o → b ∉ ex → ∃ o', h'.get? b = some o'
  tups : ∀ b xs, H b = some (.tup xs) → H' b = some (.tup xs)
  frzs : ∀ b o u, H b = some (.frz o u) → H' b = some (.frz o u)
  tbls : ∀ b ps, H b = some (.tbl ps) → ∃ more, H' b = some (.tbl (ps ++ more))
section
variable {fs fs' ex ex' : List Addr} {H H1 H2 : Hp} {h h1 h2 h' : Heap} {a x e : Addr} {o : HO}
theorem Un.any (u : Un fs ex H H1 h h1) {b : Addr} {ob : Obj} (q : h.get? b = some ob) (n : H b = none) (hx : b ∉ ex) : ∃ sl, h1.get? b = some { ob with slots := sl } := by
  by_cases hb : b ∈ fs
  · exact u.slot b ob q n hb hx
  · exact ⟨ob.slots, u.keep b ob q n hb hx⟩
theorem Un.trans (a : Un fs ex H H1 h h1) (b : Un fs ex H1 H2 h1 h2) : Un fs ex H H2 h h2 where
  keep := fun c ob q n hc hx => b.keep c ob (a.keep c ob q n hc hx) (a.free c ob q n hx) hc hx
  slot := fun c ob q n hc hx => by
    obtain ⟨sl, e1⟩ := a.slot c ob q n hc hx
    obtain ⟨sl', e2⟩ := b.slot c _ e1 (a.free c ob q n hx) hc hx
    exact ⟨sl', e2⟩
  free := fun c ob q n hx => by
    obtain ⟨o', e1⟩ := a.there c ob q hx
    exact b.free c o' e1 (a.free c ob q n hx) hx
  there := fun c ob q hx => by
    obtain ⟨o', e1⟩ := a.there c ob q hx
    exact b.there c o' e1 hx
  tups := fun c xs q => b.tups c xs (a.tups c xs q)
  frzs := fun c ob xs q => b.frzs c ob xs (a.frzs c ob xs q)
  tbls := fun c ps q => by
    obtain ⟨m1, e1⟩ := a.tbls c ps q
    obtain ⟨m2, e2⟩ := b.tbls c _ e1
    exact ⟨m1 ++ m2, by rw [e2, Array.append_assoc]⟩
theorem Un.kept (k : ∀ b u, h.get? b = some u → h'.get? b = some u) : Un fs ex H H h h' :=
  ⟨fun b ob q _ _ _ => k b ob q, fun b ob q _ _ _ => ⟨ob.slots, k b ob q⟩, fun _ _ _ n _ => n, fun b ob q _ => ⟨ob, k b ob q⟩, fun _ _ q => q, fun _ _ _ q => q, fun _ ps q => ⟨#[], by rw [q]; simp⟩⟩
theorem Un.refl : Un fs ex H H h h := Un.kept fun _ _ q => q
theorem Un.laid (k : ∀ b u, h.get? b = some u → h'.get? b = some u) (hp : h.objs.size ≤ a) (hn : H a = none) : Un fs ex H (upd H a o) h h' where
  keep := fun b u q _ _ _ => k b u q
  slot := fun b u q _ _ _ => ⟨u.slots, k b u q⟩
  free := fun b u q n _ => by rw [upd_ne (Nat.ne_of_lt (Nat.lt_of_lt_of_le (Heap.lt_size q) hp))]; exact n
  there := fun b u q _ => ⟨u, k b u q⟩
  tups := fun b xs q => by rw [upd_ne (ne_of_none q hn)]; exact q
  frzs := fun b u xs q => by rw [upd_ne (ne_of_none q hn)]; exact q
  tbls := fun b ps q => ⟨#[], by rw [upd_ne (ne_of_none q hn), q]; simp⟩
theorem Un.write (mu : Mut (H x)) (he : e = x ∨ H e = some (.own x)) (k : ∀ b u, b ≠ e → h.get? b = some u → h'.get? b = some u) (heo : ∃ u, h'.get? e = some u) : Un fs ex H (upd H x o) h h' := by
  have hx : ∀ b, H b = none → b ≠ x := fun b n z => by subst z; rw [n] at mu; exact mu
  have hb : ∀ b, H b = none → b ≠ e := fun b n z => by
    subst z
    rcases he with r | r
    · exact hx b n r
    · rw [n] at r; cases r
  have hm : ∀ b u, H b = some u → ¬ Mut (some u) → b ≠ x := fun b u q nm z => by subst z; rw [q] at mu; exact nm mu
  refine ⟨fun b u q n _ _ => k b u (hb b n) q, fun b u q n _ _ => ⟨u.slots, k b u (hb b n) q⟩, fun b u q n _ => by rw [upd_ne (hx b n)]; exact n, fun b u q _ => ?_,
    fun b xs q => by rw [upd_ne (hm b _ q fun z => z)]; exact q, fun b u xs q => by rw [upd_ne (hm b _ q fun z => z)]; exact q, fun b ps q => ⟨#[], by rw [upd_ne (hm b _ q fun z => z), q]; simp⟩⟩
  by_cases hbe : b = e
  · subst hbe; exact heo
  · exact ⟨u, k b u hbe q⟩
theorem Un.mono (u : Un fs ex H H1 h h1) (hs : ∀ b ∈ fs, b ∈ fs') (hx : ∀ b ∈ ex, b ∈ ex') : Un fs' ex' H H1 h h1 :=
  ⟨fun b ob q n hb he => u.keep b ob q n (fun z => hb (hs b z)) fun z => he (hx b z), fun _ _ q n _ he => u.any q n fun z => he (hx _ z), fun b ob q n he => u.free b ob q n fun z => he (hx b z), fun b ob q he => u.there b ob q fun z => he (hx b z), u.tups, u.frzs, u.tbls⟩
end
def trk (h : Heap) (H : Hp) : List Addr := (List.range h.objs.size).filter fun a => (H a).isSome
def hidT (h : Heap) (H : Hp) : Heap := PySem.W.hideAll h (trk h H)
theorem hidT_size (h : Heap) (H : Hp) : (hidT h H).objs.size = h.objs.size := PySem.W.hideAll_size _ _
theorem hidT_get {h : Heap} {H : Hp} {b : Addr} {o : Obj} (e : h.get? b = some o) (n : H b = none) : (hidT h H).get? b = some o :=
  PySem.W.hideAll_get _ e fun hm => by
    have q : (H b).isSome = true := (List.mem_filter.mp hm).2
    rw [n] at q; simp at q
theorem of_hidT {h : Heap} {H : Hp} {b : Addr} {o : Obj} (e : (hidT h H).get? b = some o) : h.get? b = some o ∧ H b = none := by
  have e' : h.get? b = some o := PySem.W.of_hideAll (trk h H) e
  refine ⟨e', ?_⟩
  cases q : H b with
  | none => rfl
  | some x =>
    have hm : b ∈ trk h H := List.mem_filter.mpr ⟨List.mem_range.mpr (Heap.lt_size e'), by simp [q]⟩
    have z : (hidT h H).get? b = none := PySem.W.hideAll_none (trk h H) hm
    rw [z] at e; cases e
def allNews (g h : Heap) (L : Addr) : List (Addr × Obj) := (List.range h.objs.size).filterMap fun a => if a = L ∨ (g.get? a).isSome = true then none else (h.get? a).map fun o => (a, o)
def rest (g h : Heap) (L d : Addr) : List (Addr × Obj) := (allNews g h L).filter fun p => decide (p.1 ≠ d)
end L2
namespace L2
open PySem PySem.Spec PyProof.Rows
structure Mod (K : PySem.W.Frag) (mg : Str → Option Value) (base : Heap) : Prop where
  kin : K.In base
  glob : base.Ns mainGlobals mg
  blt : ∃ mb, base.Ns builtinsNs mb ∧ ∀ x : Str, x ≠ "__name__" → mb x = bootBuiltins x
  nolimit : base.NoLimit
/-- the context: a def's body (or a comprehension's block) running. base: fixed through the whole law; s₀, H₀: the entry; outer: the frames whose slots others may change (a def's callers); stack: all frames that run;
   ex: iterators that were made ahead of the entry and are walked here (a comprehension's); fn: the names whose cells were made at the entry (a def: all; a comprehension's block: its own); calm: not within an except suite; pn: pins that every state bears; xe: what is wanted of an exception that leaves the code -/
structure Cx where
  prog : Program
  w : World
  K : PySem.W.Frag
  mg : Str → Option Value
  base : Heap
  A : Around
  N : List Str
  s₀ : Shared
  H₀ : Hp
  env : Env
  outer : List Env
  stack : List Env
  ex : List Addr
  fn : Str → Bool
  calm : Bool
  pn : List (Addr × Obj)
  xe : Value → Shared → Prop
def frs (l : List Env) : List Addr := l.filterMap (·.frame)
abbrev Cx.fs (X : Cx) : List Addr := frs X.outer
def Vis (sc : Scope) (x : Str) : Prop := sc.names.lookup x = some .local ∨ sc.names.lookup x = some .cell ∨ sc.names.lookup x = some .free
def Loc (sc : Scope) (x : Str) : Prop := sc.names.lookup x = some .local ∨ sc.names.lookup x = some .cell
def Look (env : Env) (h : Heap) (m : Str → Option Value) (x : Str) (u : Value) : Prop :=
  (env.kindOf x = some .local ∧ m x = some u) ∨ ((env.kindOf x = some .cell ∨ env.kindOf x = some .free) ∧ ∃ c, env.cells.lookup x = some c ∧ h.IsCell c (some u))
structure Cx.Ok (X : Cx) : Prop where
  mod : Mod X.K X.mg X.base
  kind : X.env.scope.kind = .function
  glob : X.env.globals = mainGlobals
  blt : X.env.builtins = builtinsNs
  above : X.s₀.heap.objs.size ≤ X.env.locals
  inj : ∀ x y c, X.env.cells.lookup x = some c → X.env.cells.lookup y = some c → x = y
  has : ∀ x, (X.env.kindOf x = some .cell ∨ X.env.kindOf x = some .free) → ∃ c, X.env.cells.lookup x = some c
  cab : ∀ x c, X.fn x = true → X.env.cells.lookup x = some c → X.s₀.heap.objs.size ≤ c
  hd : X.calm = true → X.A.handled = none
  frames : X.A.frames = some X.stack
  stk : X.stack = X.outer ∨ (X.stack = X.env :: X.outer ∧ X.env.frame = some X.env.locals)
  exf : ∀ b ∈ X.ex, b ≠ X.env.locals ∧ ∀ x c, X.env.cells.lookup x = some c → c ≠ b
  bs : ∀ b o, X.base.get? b = some o → X.s₀.heap.get? b = some o ∧ X.H₀ b = none
  bsz : X.base.objs.size ≤ X.s₀.heap.objs.size
  noex : ∀ b o, X.base.get? b = some o → b ∉ X.ex
  exfs : ∀ b ∈ X.ex, b ∉ X.fs
  funs : X.s₀.heap.FunFrames X.base X.outer
  frf : ∀ b ∈ X.fs, X.H₀ b = none
structure Inv (X : Cx) (pins : List (Addr × Obj)) (σ : List (Option V)) (H : Hp) (s : Shared) : Prop where
  ok : X.Ok
  os : s.os = X.s₀.os
  bare : AllBare s.gens
  base : Un X.fs X.ex X.H₀ H X.s₀.heap s.heap
  loc : ∃ m, s.heap.Ns X.env.locals m ∧ ∀ (i : Nat) (x : Str) (v : V), X.N[i]? = some x → σ[i]? = some (some v) → Vis X.env.scope x → ∃ u, RelV v u ∧ Look X.env s.heap m x u
  cell : ∀ x c, X.env.cells.lookup x = some c → ∃ v, s.heap.IsCell c v
  free : H X.env.locals = none
  freeC : ∀ x c, X.env.cells.lookup x = some c → H c = none
  pin : ∀ p ∈ X.pn ++ pins, s.heap.get? p.1 = some p.2 ∧ H p.1 = none ∧ p.1 ≠ X.env.locals ∧ p.1 ∉ X.fs ∧ ∀ v, p.2.data ≠ .cell v
  hok : HOk X.prog X.w H s.heap
  len : σ.length = X.N.length
section
variable {X : Cx} {pins : List (Addr × Obj)} {σ : List (Option V)} {H H' : Hp} {s : Shared} {h' : Heap}
theorem Cx.Ok.nofr (ok : X.Ok) {b : Addr} {o : Obj} (e : X.base.get? b = some o) : b ∉ X.fs := fun hb => by
  have := (ok.funs.mem hb).1
  rw [e] at this; cases this
theorem Inv.bs (I : Inv X pins σ H s) : ∀ b o, X.base.get? b = some o → s.heap.get? b = some o ∧ H b = none := fun b o e =>
  ⟨I.base.keep b o (I.ok.bs b o e).1 (I.ok.bs b o e).2 (I.ok.nofr e) (I.ok.noex b o e), I.base.free b o (I.ok.bs b o e).1 (I.ok.bs b o e).2 (I.ok.noex b o e)⟩
theorem Inv.bk (I : Inv X pins σ H s) : ∀ b o, X.base.get? b = some o → s.heap.get? b = some o := fun b o e => (I.bs b o e).1
theorem Inv.mod (I : Inv X pins σ H s) : Mod X.K X.mg X.base := I.ok.mod
theorem Inv.kIn (I : Inv X pins σ H s) : X.K.In s.heap := I.ok.mod.kin.keeps I.bk
theorem Inv.nolimit (I : Inv X pins σ H s) : s.heap.NoLimit := I.ok.mod.nolimit.keeps I.bk
theorem Inv.fr (I : Inv X pins σ H s) : ∃ m, Fr X.base X.env.locals s.heap m :=
  let ⟨m, hn, _⟩ := I.loc
  ⟨m, hn, I.bk, Nat.le_trans I.ok.bsz I.ok.above⟩
theorem Inv.lt (I : Inv X pins σ H s) : X.env.locals < s.heap.objs.size := let ⟨_, hn, _⟩ := I.loc; hn.lt
theorem Inv.sz (I : Inv X pins σ H s) : X.s₀.heap.objs.size ≤ s.heap.objs.size := Nat.le_trans I.ok.above (Nat.le_of_lt I.lt)
theorem Inv.nofs (I : Inv X pins σ H s) {a : Addr} (h : s.heap.objs.size ≤ a) : a ∉ X.fs := fun hb => by
  obtain ⟨_, o, ho, _⟩ := I.ok.funs.mem hb
  exact absurd (Nat.lt_of_lt_of_le (Heap.lt_size ho) (Nat.le_trans I.sz h)) (Nat.lt_irrefl _)
theorem Inv.cne (I : Inv X pins σ H s) : ∀ x c, X.env.cells.lookup x = some c → c ≠ X.env.locals := fun x c e z => by
  obtain ⟨v, o, ho, hd⟩ := I.cell x c e
  obtain ⟨m, ⟨o', es, ep, ho', hd', _⟩, _⟩ := I.loc
  rw [z, ho'] at ho; cases ho; rw [hd'] at hd; cases hd
theorem Inv.funs (I : Inv X pins σ H s) : s.heap.FunFrames X.base X.outer := by
  have all : ∀ (l : List Env), (∀ b ∈ frs l, b ∈ X.fs) → X.s₀.heap.FunFrames X.base l → s.heap.FunFrames X.base l := by
    intro l
    induction l with
    | nil => intro _ _; trivial
    | cons env r ih =>
      intro hs hl
      obtain ⟨hk, ⟨L, o, hf, hn, ho, hd⟩, hr⟩ := hl
      have hL : L ∈ X.fs := hs L (by unfold frs; rw [List.filterMap_cons, hf]; exact List.mem_cons_self)
      obtain ⟨sl, e⟩ := I.base.slot L o ho (I.ok.frf L hL) hL fun z => I.ok.exfs L z hL
      exact ⟨hk, ⟨L, _, hf, hn, e, hd⟩, ih (fun b hb => hs b (by unfold frs; rw [List.filterMap_cons, hf]; exact List.mem_cons_of_mem _ hb)) hr⟩
  exact all X.outer (fun _ hb => hb) I.ok.funs
theorem Inv.stack (I : Inv X pins σ H s) : s.heap.FunFrames X.base X.stack := by
  rcases I.ok.stk with e | ⟨e, hf⟩
  · rw [e]; exact I.funs
  · rw [e]
    obtain ⟨m, hn, _⟩ := I.loc
    refine .cons (by rw [I.ok.kind]; decide) hf hn ?_ I.funs
    exact Heap.get?_none_of_le (Nat.le_trans I.ok.bsz I.ok.above)
theorem Inv.stkSub (I : Inv X pins σ H s) : ∀ b ∈ frs X.stack, b ∈ X.env.locals :: X.fs := fun b hb => by
  rcases I.ok.stk with e | ⟨e, hf⟩
  · rw [e] at hb; exact List.mem_cons_of_mem _ hb
  · rw [e] at hb
    unfold frs at hb
    rw [List.filterMap_cons, hf] at hb
    exact hb
theorem Inv.stkFree (I : Inv X pins σ H s) : ∀ b ∈ frs X.stack, H b = none := fun b hb => by
  rcases List.mem_cons.mp (I.stkSub b hb) with e | hb
  · rw [e]; exact I.free
  · obtain ⟨_, o, ho, _⟩ := I.ok.funs.mem hb
    exact I.base.free b o ho (I.ok.frf b hb) fun z => I.ok.exfs b z hb
theorem Inv.step {g' : Array GenState} {t' : Nat} {d' : Drawn} {ch : List Addr} (I : Inv X pins σ H s)
    (hch : ∀ b ∈ ch, (b ∈ X.ex ∨ X.s₀.heap.objs.size ≤ b) ∧ b ≠ X.env.locals ∧ (∀ x c, X.env.cells.lookup x = some c → c ≠ b) ∧ ∀ p ∈ X.pn ++ pins, p.1 ≠ b)
    (keep : ∀ b o, b ≠ X.env.locals → b ∉ X.fs → b ∉ ch → s.heap.get? b = some o → H b = none → h'.get? b = some o)
    (slot : ∀ b o, b ≠ X.env.locals → b ∈ X.fs → b ∉ ch → s.heap.get? b = some o → H b = none → ∃ sl, h'.get? b = some { o with slots := sl }) (free : ∀ b o, b ∉ ch → s.heap.get? b = some o → H b = none → H' b = none)
    (there : ∀ b o, b ∉ ch → s.heap.get? b = some o → ∃ o', h'.get? b = some o')
    (tups : ∀ b xs, H b = some (.tup xs) → H' b = some (.tup xs)) (frzs : ∀ b o u, H b = some (.frz o u) → H' b = some (.frz o u)) (tbls : ∀ b ps, H b = some (.tbl ps) → ∃ more, H' b = some (.tbl (ps ++ more)))
    (ns : ∀ m, s.heap.Ns X.env.locals m → h'.Ns X.env.locals m) (hok : HOk X.prog X.w H' h') (hg : AllBare g') :
    Inv X pins σ H' { s with heap := h', gens := g', drawn := d', toks := t' } := by
  have neL : ∀ b o, X.s₀.heap.get? b = some o → b ≠ X.env.locals := fun b o e => Nat.ne_of_lt (Nat.lt_of_lt_of_le (Heap.lt_size e) I.ok.above)
  have neC : ∀ b o, X.s₀.heap.get? b = some o → b ∉ X.ex → b ∉ ch := fun b o e hx hb => by
    rcases (hch b hb).1 with z | z
    · exact hx z
    · exact absurd (Nat.lt_of_lt_of_le (Heap.lt_size e) z) (Nat.lt_irrefl _)
  have cellK : ∀ x c, X.env.cells.lookup x = some c → ∀ v, s.heap.IsCell c v → h'.IsCell c v := fun x c e v ⟨o, ho, hd⟩ => by
    have nch : c ∉ ch := fun z => (hch c z).2.2.1 x c e rfl
    by_cases hc : c ∈ X.fs
    · obtain ⟨sl, q⟩ := slot c o (I.cne x c e) hc nch ho (I.freeC x c e)
      exact ⟨_, q, hd⟩
    · exact ⟨o, keep c o (I.cne x c e) hc nch ho (I.freeC x c e), hd⟩
  refine ⟨I.ok, I.os, hg, ⟨fun b o e n hb hx => ?_, fun b o e n hb hx => ?_, fun b o e n hx => ?_, fun b o e hx => ?_, fun b xs e => tups b xs (I.base.tups b xs e), fun b o xs e => frzs b o xs (I.base.frzs b o xs e), fun b ps e => ?_⟩, ?_, fun x c e => ?_, ?_, fun x c e => ?_, fun p hp => ?_, hok, I.len⟩
  · exact keep b o (neL b o e) hb (neC b o e hx) (I.base.keep b o e n hb hx) (I.base.free b o e n hx)
  · obtain ⟨sl, e1⟩ := I.base.slot b o e n hb hx
    obtain ⟨sl', e2⟩ := slot b _ (neL b o e) hb (neC b o e hx) e1 (I.base.free b o e n hx)
    exact ⟨sl', e2⟩
  · obtain ⟨o', e1⟩ := I.base.there b o e hx
    exact free b o' (neC b o e hx) e1 (I.base.free b o e n hx)
  · obtain ⟨o', e1⟩ := I.base.there b o e hx
    exact there b o' (neC b o e hx) e1
  · obtain ⟨m1, e1⟩ := I.base.tbls b ps e
    obtain ⟨m2, e2⟩ := tbls b _ e1
    exact ⟨m1 ++ m2, by rw [e2, Array.append_assoc]⟩
  · obtain ⟨m, hn, hl⟩ := I.loc
    refine ⟨m, ns m hn, fun i x v e1 e2 e3 => ?_⟩
    obtain ⟨u, r, l⟩ := hl i x v e1 e2 e3
    refine ⟨u, r, ?_⟩
    rcases l with l | ⟨k, c, e, z⟩
    · exact .inl l
    · exact .inr ⟨k, c, e, cellK x c e _ z⟩
  · obtain ⟨v, z⟩ := I.cell x c e
    exact ⟨v, cellK x c e v z⟩
  · obtain ⟨m, ⟨o, _, _, ho, _⟩, _⟩ := I.loc
    exact free _ o (fun z => (hch _ z).2.1 rfl) ho I.free
  · obtain ⟨v, o, ho, hd⟩ := I.cell x c e
    exact free c o (fun z => (hch c z).2.2.1 x c e rfl) ho (I.freeC x c e)
  · obtain ⟨e, n, ne, nf, d⟩ := I.pin p hp
    have nch : p.1 ∉ ch := fun z => (hch p.1 z).2.2.2 p hp rfl
    exact ⟨keep p.1 p.2 ne nf nch e n, free p.1 p.2 nch e n, ne, nf, d⟩
theorem Inv.un {t' : Nat} (I : Inv X pins σ H s) (u : Un X.fs [] H H' s.heap h') (hok : HOk X.prog X.w H' h') : Inv X pins σ H' { s with heap := h', toks := t' } := by
  obtain ⟨m, ⟨o, es, ep, ho, r⟩, _⟩ := id I.loc
  obtain ⟨sl, hL⟩ := u.any ho I.free (by simp)
  exact I.step (g' := s.gens) (d' := s.drawn) (ch := []) (fun _ z => nomatch z) (fun b o _ hb _ e n => u.keep b o e n hb (by simp)) (fun b o _ hb _ e n => u.slot b o e n hb (by simp)) (fun b o _ e n => u.free b o e n (by simp)) (fun b o _ e => u.there b o e (by simp)) u.tups u.frzs u.tbls (fun m' hm => by
    obtain ⟨o', es', ep', ho', r'⟩ := hm
    rw [ho] at ho'; cases ho'
    exact ⟨_, es', ep', hL, r'⟩) hok I.bare
theorem Inv.call {g' : Array GenState} {t' : Nat} {d' : Drawn} {ch : List Addr} (I : Inv X pins σ H s) (u : Un (frs X.stack) ch H H' s.heap h') (hok : HOk X.prog X.w H' h') (hg : AllBare g')
    (hch : ∀ b ∈ ch, (b ∈ X.ex ∨ X.s₀.heap.objs.size ≤ b) ∧ b ≠ X.env.locals ∧ (∀ x c, X.env.cells.lookup x = some c → c ≠ b) ∧ ∀ p ∈ X.pn ++ pins, p.1 ≠ b) :
    Inv X pins σ H' { s with heap := h', gens := g', drawn := d', toks := t' } := by
  obtain ⟨m, ⟨o, es, ep, ho, r⟩, _⟩ := id I.loc
  obtain ⟨sl, hL⟩ := u.any ho I.free fun z => (hch _ z).2.1 rfl
  exact I.step (ch := ch) hch (fun b o hL hb hc e n => u.keep b o e n (fun z => (List.mem_cons.mp (I.stkSub b z)).elim hL hb) hc) (fun b o _ _ hc e n => u.any e n hc) (fun b o hc e n => u.free b o e n hc) (fun b o hc e => u.there b o e hc) u.tups u.frzs u.tbls (fun m' hm => by
    obtain ⟨o', es', ep', ho', r'⟩ := hm
    rw [ho] at ho'; cases ho'
    exact ⟨_, es', ep', hL, r'⟩) hok hg
theorem Inv.turned {t' : Nat} {it : Addr} (I : Inv X pins σ H s) (k : ∀ b o, b ≠ it → s.heap.get? b = some o → h'.get? b = some o) (hn : H it = none) (hL : it ≠ X.env.locals)
    (h1 : it ∈ X.ex ∨ X.s₀.heap.objs.size ≤ it) (h2 : ∀ x c, X.env.cells.lookup x = some c → c ≠ it) (h3 : ∀ p ∈ X.pn ++ pins, p.1 ≠ it) : Inv X pins σ H { s with heap := h', toks := t' } := by
  have nit : ∀ b u, H b = some u → b ≠ it := fun b u e z => by rw [z, hn] at e; cases e
  refine I.step (g' := s.gens) (d' := s.drawn) (ch := [it]) (fun b hb => ?_) (fun b o _ _ hc e _ => k b o (fun z => hc (by simp [z])) e) (fun b o _ _ hc e _ => ⟨o.slots, k b o (fun z => hc (by simp [z])) e⟩) (fun _ _ _ _ n => n)
    (fun b o hc e => ⟨o, k b o (fun z => hc (by simp [z])) e⟩) (fun _ _ e => e) (fun _ _ _ e => e) (fun b ps e => ⟨#[], by rw [e]; simp⟩) (fun m hm => ?_) (fun b u e => ?_) I.bare
  · have e : b = it := by simpa using hb
    subst e
    exact ⟨h1, hL, h2, h3⟩
  · obtain ⟨o, es, ep, ho, r⟩ := hm
    exact ⟨o, es, ep, k _ o (Ne.symm hL) ho, r⟩
  · refine (I.hok b u e).stay (fun c v hc q => k c v ?_ q) (fun _ q => q) fun _ _ q => q
    rcases hc with z | z
    · rw [z]; exact nit b u e
    · exact nit c _ z
theorem Inv.tok (I : Inv X pins σ H s) (t : Nat) : Inv X pins σ H { s with toks := t } := I.un (h' := s.heap) (t' := t) Un.refl I.hok
theorem Inv.kept {t' : Nat} (I : Inv X pins σ H s) (k : ∀ b u, s.heap.get? b = some u → h'.get? b = some u) : Inv X pins σ H { s with heap := h', toks := t' } := I.un (Un.kept k) (I.hok.kept k)
theorem Inv.laid {a : Addr} {o : HO} {t' : Nat} (I : Inv X pins σ H s) (k : ∀ b u, s.heap.get? b = some u → h'.get? b = some u) (hp : s.heap.objs.size ≤ a) (new : ObjOk X.prog X.w (upd H a o) h' a o) :
    Inv X pins σ (upd H a o) { s with heap := h', toks := t' } := I.un (Un.laid k hp (I.hok.fresh hp)) (I.hok.laid k hp new)
theorem Inv.write {x e : Addr} {o : HO} {t' : Nat} (I : Inv X pins σ H s) (mu : Mut (H x)) (he : e = x ∨ H e = some (.own x)) (k : ∀ b u, b ≠ e → s.heap.get? b = some u → h'.get? b = some u) (heo : ∃ u, h'.get? e = some u)
    (new : ObjOk X.prog X.w (upd H x o) h' x o) : Inv X pins σ (upd H x o) { s with heap := h', toks := t' } := I.un (Un.write mu he k heo) (I.hok.write mu he k heo new)
theorem Inv.pins_of {pins' : List (Addr × Obj)} (I : Inv X pins σ H s) (h : ∀ p ∈ pins', s.heap.get? p.1 = some p.2 ∧ H p.1 = none ∧ p.1 ≠ X.env.locals ∧ p.1 ∉ X.fs ∧ ∀ v, p.2.data ≠ .cell v) : Inv X pins' σ H s :=
  ⟨I.ok, I.os, I.bare, I.base, I.loc, I.cell, I.free, I.freeC, fun p hp => (List.mem_append.mp hp).elim (fun z => I.pin p (List.mem_append_left _ z)) (h p), I.hok, I.len⟩
theorem nodup_ix {N : List Str} (hN : N.Nodup) {i j : Nat} {x : Str} (a : N[i]? = some x) (b : N[j]? = some x) : i = j := by
  obtain ⟨h1, e1⟩ := List.getElem?_eq_some_iff.mp a
  obtain ⟨h2, e2⟩ := List.getElem?_eq_some_iff.mp b
  exact (List.getElem_inj hN).mp (e1.trans e2.symm)
theorem store_ok2 {M : Model} {A : Around} {E : Value → Shared → Prop} {i : Nat} {x : Str} {v : V} {u : Value} {Q : Unit → Shared → Prop} (I : Inv X pins σ H s) (hN : X.N.Nodup) (hi : X.N[i]? = some x) (hx : Loc X.env.scope x) (r : RelV v u)
    (h : ∀ s', Inv X pins (σ.set i (some v)) H s' → (∃ a, Heap.SameBut a s.heap s'.heap ∧ (a = X.env.locals ∨ X.env.cells.lookup x = some a)) → Q () s') (hf : X.fn x = true ∨ X.env.scope.names.lookup x = some .local := by first | exact .inl rfl | exact .inr rfl | assumption) : wpAny M A (storeName X.env x u) Q E s := by
  obtain ⟨m, hn, hl⟩ := id I.loc
  have hcls : (X.env.scope.kind == .class || (X.env.scope.kind == .module && X.env.locals != X.env.globals)) = false := by rw [I.ok.kind]; rfl
  have hiσ : i < σ.length := by rw [I.len]; exact (List.getElem?_eq_some_iff.mp hi).1
  have cne := I.cne
  have tracked : ∀ {a : Addr} {h' : Heap}, (∃ o, s.heap.get? a = some o ∧ H a = none) → Heap.SameBut a s.heap h' → HOk X.prog X.w H h' := fun {a h'} ha hs b ob e => by
    obtain ⟨_, _, hfree⟩ := ha
    refine (I.hok b ob e).stay (fun c w' hc q => (hs.2 c ?_).trans q) (fun _ q => q) fun _ _ q => q
    rintro rfl
    rcases hc with rfl | hc
    · rw [hfree] at e; cases e
    · rw [hfree] at hc; cases hc
  rcases hx with hk | hk
  · refine wpAny_storeName_local hk hn (fun h' hn' hs => ?_) hcls
    obtain ⟨oL, _, _, hoL, _⟩ := id hn
    refine h _ ⟨I.ok, I.os, I.bare, ⟨fun b o e n hb hx => ?_, fun b o e n hb hx => ?_, I.base.free, fun b o e hx => ?_, I.base.tups, I.base.frzs, I.base.tbls⟩, ⟨_, hn', fun j y v' e1 e2 e3 => ?_⟩, fun y c e => ?_, I.free, I.freeC, fun p hp => ?_, tracked ⟨oL, hoL, I.free⟩ hs, by simpa using I.len⟩ ⟨_, hs, .inl rfl⟩
    · exact (hs.2 b (Nat.ne_of_lt (Nat.lt_of_lt_of_le (Heap.lt_size e) I.ok.above))).trans (I.base.keep b o e n hb hx)
    · obtain ⟨sl, e1⟩ := I.base.slot b o e n hb hx
      exact ⟨sl, (hs.2 b (Nat.ne_of_lt (Nat.lt_of_lt_of_le (Heap.lt_size e) I.ok.above))).trans e1⟩
    · obtain ⟨o', e1⟩ := I.base.there b o e hx
      exact ⟨o', (hs.2 b (Nat.ne_of_lt (Nat.lt_of_lt_of_le (Heap.lt_size e) I.ok.above))).trans e1⟩
    · by_cases hj : j = i
      · subst hj
        rw [hi] at e1; cases e1
        rw [List.getElem?_set_self hiσ] at e2
        cases e2
        exact ⟨u, r, .inl ⟨hk, by simp⟩⟩
      · rw [List.getElem?_set_ne (Ne.symm hj)] at e2
        obtain ⟨u', r', q⟩ := hl j y v' e1 e2 e3
        refine ⟨u', r', ?_⟩
        rcases q with ⟨k, e⟩ | ⟨k, c, e, z⟩
        · refine .inl ⟨k, ?_⟩
          have : y ≠ x := fun e => hj (nodup_ix hN e1 (e ▸ hi))
          simp [this, e]
        · exact .inr ⟨k, c, e, z.sameBut hs (cne y c e)⟩
    · obtain ⟨w', z⟩ := I.cell y c e
      exact ⟨w', z.sameBut hs (cne y c e)⟩
    · obtain ⟨e, n, ne, nf, d⟩ := I.pin p hp
      exact ⟨(hs.2 p.1 ne).trans e, n, ne, nf, d⟩
  · have hfn : X.fn x = true := by
      rcases hf with z | z
      · exact z
      · rw [z] at hk; cases hk
    obtain ⟨c, hc⟩ := I.ok.has x (.inl hk)
    obtain ⟨w', z⟩ := I.cell x c hc
    refine wpAny_storeName_cell I.ok.kind hk hc z (fun h' hc' hs => ?_)
    obtain ⟨oc, hoc, hocd⟩ := id z
    refine h { s with heap := h' } ⟨I.ok, I.os, I.bare, ⟨fun b o e n hb hx => ?_, fun b o e n hb hx => ?_, I.base.free, fun b o e hx => ?_, I.base.tups, I.base.frzs, I.base.tbls⟩, ⟨m, hn.sameBut hs (Ne.symm (cne x c hc)), fun j y v' e1 e2 e3 => ?_⟩, fun y c' e => ?_, I.free, I.freeC, fun p hp => ?_, tracked ⟨oc, hoc, I.freeC x c hc⟩ hs, by simpa using I.len⟩ ⟨c, hs, .inr hc⟩
    · exact (hs.2 b (Nat.ne_of_lt (Nat.lt_of_lt_of_le (Heap.lt_size e) (I.ok.cab x c hfn hc)))).trans (I.base.keep b o e n hb hx)
    · obtain ⟨sl, e1⟩ := I.base.slot b o e n hb hx
      exact ⟨sl, (hs.2 b (Nat.ne_of_lt (Nat.lt_of_lt_of_le (Heap.lt_size e) (I.ok.cab x c hfn hc)))).trans e1⟩
    · obtain ⟨o', e1⟩ := I.base.there b o e hx
      exact ⟨o', (hs.2 b (Nat.ne_of_lt (Nat.lt_of_lt_of_le (Heap.lt_size e) (I.ok.cab x c hfn hc)))).trans e1⟩
    · by_cases hj : j = i
      · subst hj
        rw [hi] at e1; cases e1
        rw [List.getElem?_set_self hiσ] at e2
        cases e2
        exact ⟨u, r, .inr ⟨.inl hk, c, hc, hc'⟩⟩
      · rw [List.getElem?_set_ne (Ne.symm hj)] at e2
        obtain ⟨u', r', q⟩ := hl j y v' e1 e2 e3
        refine ⟨u', r', ?_⟩
        rcases q with q | ⟨k, c', e, z'⟩
        · exact .inl q
        · refine .inr ⟨k, c', e, z'.sameBut hs ?_⟩
          rintro rfl
          exact hj (nodup_ix hN e1 (I.ok.inj _ _ _ e hc ▸ hi))
    · by_cases hcc : c' = c
      · subst hcc; exact ⟨_, hc'⟩
      · obtain ⟨w2, z2⟩ := I.cell y c' e
        exact ⟨w2, z2.sameBut hs hcc⟩
    · obtain ⟨e, n, ne, nf, d⟩ := I.pin p hp
      refine ⟨(hs.2 p.1 ?_).trans e, n, ne, nf, d⟩
      intro q
      rw [q, hoc] at e
      have q' : oc = p.2 := Option.some.inj e
      exact d w' (by rw [← q']; exact hocd)
theorem store_ok {M : Model} {A : Around} {E : Value → Shared → Prop} {i : Nat} {x : Str} {v : V} {u : Value} {Q : Unit → Shared → Prop} (I : Inv X pins σ H s) (hN : X.N.Nodup) (hi : X.N[i]? = some x) (hx : Loc X.env.scope x) (r : RelV v u)
    (h : ∀ s', Inv X pins (σ.set i (some v)) H s' → Q () s') (hf : X.fn x = true ∨ X.env.scope.names.lookup x = some .local := by first | exact .inl rfl | exact .inr rfl | assumption) : wpAny M A (storeName X.env x u) Q E s :=
  store_ok2 I hN hi hx r (fun s' I' _ => h s' I') hf
theorem Inv.call' {s' : Shared} {ch : List Addr} (I : Inv X pins σ H s) (ho : s'.os = s.os) (u : Un (frs X.stack) ch H H' s.heap s'.heap) (hok : HOk X.prog X.w H' s'.heap) (hg : AllBare s'.gens)
    (hch : ∀ b ∈ ch, (b ∈ X.ex ∨ X.s₀.heap.objs.size ≤ b) ∧ b ≠ X.env.locals ∧ (∀ x c, X.env.cells.lookup x = some c → c ≠ b) ∧ ∀ p ∈ X.pn ++ pins, p.1 ≠ b) : Inv X pins σ H' s' := by
  obtain ⟨h', g', d', t', o'⟩ := s'
  have e : o' = s.os := ho
  subst e
  exact I.call (g' := g') (t' := t') (d' := d') u hok hg hch
end
abbrev XK := Value → Option Addr → Hp → Prop
abbrev St := List (Option V)
abbrev VK := V → Hp → Prop
abbrev TE := St → Hp → VK → Prop
abbrev TT := St → Hp → (Bool → Hp → Prop) → Prop
abbrev TA := St → Hp → (List V → Hp → Prop) → Prop
structure Ends where
  nx : St → Hp → Prop
  rt : VK
  bk : St → Hp → Prop := fun _ _ => False
  ct : St → Hp → Prop := fun _ _ => False
abbrev TS := Ends → St → Hp → Prop
def EP (X : Cx) (pins : List (Addr × Obj)) (σ : St) (Q : VK) (u : Value) (s' : Shared) : Prop := ∃ v H', Inv X pins σ H' s' ∧ RelV v u ∧ Q v H'
def TP (X : Cx) (pins : List (Addr × Obj)) (σ : St) (Q : Bool → Hp → Prop) (b : Bool) (s' : Shared) : Prop := ∃ H', Inv X pins σ H' s' ∧ Q b H'
def AP (X : Cx) (pins : List (Addr × Obj)) (σ : St) (Q : List V → Hp → Prop) (us : List Value) (s' : Shared) : Prop := ∃ vs H', Inv X pins σ H' s' ∧ Vals vs us ∧ Q vs H'
def SP (X : Cx) (pins : List (Addr × Obj)) (D : Ends) (f : Flow) (s' : Shared) : Prop :=
  match f with
  | .next => ∃ σ' H', Inv X pins σ' H' s' ∧ D.nx σ' H'
  | .brk => ∃ σ' H', Inv X pins σ' H' s' ∧ D.bk σ' H'
  | .cont => ∃ σ' H', Inv X pins σ' H' s' ∧ D.ct σ' H'
  | .ret u => ∃ v σ' H', Inv X pins σ' H' s' ∧ RelV v u ∧ D.rt v H'
def PE (X : Cx) (e : Expr) (t : TE) : Prop :=
  ∀ (pins : List (Addr × Obj)) (s : Shared) (σ : St) (H : Hp) (Q : VK), Inv X pins σ H s → t σ H Q → wpAny (model X.prog X.w) X.A (eval e X.env) (EP X pins σ Q) X.xe s
def PT (X : Cx) (e : Expr) (t : TT) : Prop :=
  ∀ (pins : List (Addr × Obj)) (s : Shared) (σ : St) (H : Hp) (Q : Bool → Hp → Prop), Inv X pins σ H s → t σ H Q → wpAny (model X.prog X.w) X.A (isTrue e X.env (eval e X.env)) (TP X pins σ Q) X.xe s
def PW (X : Cx) (e : Expr) (t : TT) : Prop :=
  ∀ (whole : Sem Value) (pins : List (Addr × Obj)) (s : Shared) (σ : St) (H : Hp) (Q : Bool → Hp → Prop), Inv X pins σ H s → t σ H Q → wpAny (model X.prog X.w) X.A (isTrue e X.env whole) (TP X pins σ Q) X.xe s
theorem PW.pt {X : Cx} {e : Expr} {t : TT} (h : PW X e t) : PT X e t := h _
def PA (X : Cx) (es : List Expr) (t : TA) : Prop :=
  ∀ (pos : Pos) (pins : List (Addr × Obj)) (s : Shared) (σ : St) (H : Hp) (Q : List V → Hp → Prop), Inv X pins σ H s → t σ H Q → wpAny (model X.prog X.w) X.A (spliced (backTo pos (starEach es X.env))) (AP X pins σ Q) X.xe s
def PS (X : Cx) (st : Stmt) (t : TS) : Prop :=
  ∀ (pins : List (Addr × Obj)) (s : Shared) (σ : St) (H : Hp) (D : Ends), Inv X pins σ H s → t D σ H → wpAny (model X.prog X.w) X.A (exec st X.env) (SP X pins D) X.xe s
def PSs (X : Cx) (st : List Stmt) (t : TS) : Prop :=
  ∀ (pins : List (Addr × Obj)) (s : Shared) (σ : St) (H : Hp) (D : Ends), Inv X pins σ H s → t D σ H → wpAny (model X.prog X.w) X.A (execs st X.env) (SP X pins D) X.xe s
theorem thn {α : Type} {t : Sem α} {Q Q' : α → Shared → Prop} {M : Model} {A : Around} {E : Value → Shared → Prop} {s : Shared} (h : wpAny M A t Q E s) (hQ : ∀ a s, Q a s → Q' a s) : wpAny M A t Q' E s := wpAny_mono h hQ fun _ _ x => x
end L2
namespace L2
open PySem PySem.Spec PyProof.Rows
section
variable {X : Cx}
def tVar (i : Nat) : TE := fun σ H Q => ∃ v, σ[i]? = some (some v) ∧ Q v H
def tC (v : V) : TE := fun _ H Q => Q v H
theorem pe_var {i : Nat} {x : Str} {pos : Pos} (hN : X.N[i]? = some x) (hv : Vis X.env.scope x) (hd : (x == ("__debug__" : Str)) = false := by decide) (hcd : (x == ("__classdict__" : Str)) = false := by decide) : PE X (.Name x pos) (tVar i) := by
  intro pins s σ H Q I h
  obtain ⟨v, e, h⟩ := h
  obtain ⟨m, hn, hl⟩ := I.loc
  obtain ⟨u, r, l⟩ := hl i x v hN e hv
  have fin : EP X pins σ Q u s := ⟨v, H, I, r, h⟩
  rcases l with ⟨hk, hm⟩ | ⟨hk, c, hc, hcell⟩
  · exact wpAny_Name (wpAny_loadName_local I.ok.kind hk hn hm fin) hd
  · rcases hk with hk | hk
    · exact wpAny_Name (wpAny_loadName_cell I.ok.kind hk hc hcell fin) hd
    · exact wpAny_Name (wpAny_loadName_free I.ok.kind hk hc hcell fin hcd) hd
theorem pe_int {i j pos} : PE X (.Constant (.int i) j pos) (tC (.int i)) := fun _ _ _ H _ I h => wpAny_Constant_int ⟨.int i, H, I.tok _, ⟨_, rfl⟩, h⟩
theorem pe_bl {b j pos} : PE X (.Constant (.bool b) j pos) (tC (.bl b)) := fun _ _ _ H _ I h => Constant_bool ⟨.bl b, H, I, rfl, h⟩
theorem pe_non {j pos} : PE X (.Constant .none j pos) (tC .non) := fun _ _ _ H _ I h => Constant_none ⟨.non, H, I, rfl, h⟩
theorem pe_str {x j pos} : PE X (.Constant (.str x) j pos) (tC (.str x)) := fun _ _ _ H _ I h => Calls.Constant_str ⟨.str x, H, I.tok _, ⟨_, rfl⟩, h⟩
def Gl (X : Cx) (x : Str) : Prop := X.env.kindOf x = some .globalImplicit
theorem ld_glob {E : Value → Shared → Prop} {pins : List (Addr × Obj)} {s : Shared} {σ : St} {H : Hp} {x : Str} {u : Value} {pos : Pos} {Q : Value → Shared → Prop} (I : Inv X pins σ H s) (hg : Gl X x) (hm : X.mg x = some u) (h : Q u s)
    (hd : (x == ("__debug__" : Str)) = false := by decide) : wpAny (model X.prog X.w) X.A (eval (.Name x pos) X.env) Q E s :=
  Calls.Name_function_global I.ok.kind hg (Calls.loadGlobal_global (by rw [I.ok.glob]; exact I.mod.glob.keeps I.bk) hm h) hd
theorem ld_blt {E : Value → Shared → Prop} {pins : List (Addr × Obj)} {s : Shared} {σ : St} {H : Hp} {x : Str} {u : Value} {pos : Pos} {Q : Value → Shared → Prop} (I : Inv X pins σ H s) (hg : Gl X x) (hm : X.mg x = none) (hv : bootBuiltins x = some u) (h : Q u s)
    (hn : x ≠ "__name__" := by decide) (hd : (x == ("__debug__" : Str)) = false := by decide) : wpAny (model X.prog X.w) X.A (eval (.Name x pos) X.env) Q E s := by
  obtain ⟨mb, h1, h2⟩ := I.mod.blt
  exact Calls.Name_function_global I.ok.kind hg (Calls.loadGlobal_builtin (by rw [I.ok.glob]; exact I.mod.glob.keeps I.bk) hm (by rw [I.ok.blt]; exact h1.keeps I.bk) ((h2 x hn).trans hv) h) hd
theorem pe_glob {x : Str} {v : V} {u : Value} {pos : Pos} (hg : Gl X x) (hm : X.mg x = some u) (r : RelV v u) (hd : (x == ("__debug__" : Str)) = false := by decide) : PE X (.Name x pos) (tC v) :=
  fun _ _ _ H _ I h => ld_glob I hg hm ⟨v, H, I, r, h⟩ hd
theorem pe_bltn {x : Str} {v : V} {u : Value} {pos : Pos} (hg : Gl X x) (hm : X.mg x = none) (hv : bootBuiltins x = some u) (r : RelV v u) (hn : x ≠ "__name__" := by decide) (hd : (x == ("__debug__" : Str)) = false := by decide) : PE X (.Name x pos) (tC v) :=
  fun _ _ _ H _ I h => ld_blt I hg hm hv ⟨v, H, I, r, h⟩ hn hd
variable {a b : Expr} {ta tb : TE} {pos : Pos}
def PC (X : Cx) (op : CmpOp) (a b : Expr) (t : TE) : Prop :=
  ∀ (pins : List (Addr × Obj)) (s : Shared) (σ : St) (H : Hp) (Q : VK), Inv X pins σ H s → t σ H Q →
    wpAny (model X.prog X.w) X.A (eval a X.env) (fun v s₁ => wpAny (model X.prog X.w) X.A (eval b X.env) (fun u s₂ => wpAny (model X.prog X.w) X.A (compareOp op v u) (EP X pins σ Q) X.xe s₂) X.xe s₁) X.xe s
theorem nobehind (b : Expr) {op : CmpOp} (h : op ≠ .In) (h2 : op ≠ .NotIn) : behindInMarks op b = false := by
  have e1 : (op == CmpOp.In) = false := by cases op <;> first | rfl | exact absurd rfl h
  have e2 : (op == CmpOp.NotIn) = false := by cases op <;> first | rfl | exact absurd rfl h2
  cases b <;> simp [behindInMarks, e1, e2]
def tB (t : TE) : TT := fun σ H Q => t σ H fun x H1 => ∃ c, x = .bl c ∧ Q c H1
theorem pt_cmp {op : CmpOp} {t : TE} (h : PC X op a b t) (h1 : behindInMarks op b = false := by first | exact nobehind _ (by decide) (by decide) | rfl) : PT X (.Compare a [op] [b] pos) (tB t) := by
  intro pins s σ H Q I hw
  refine wpAny_isTrue_Compare1 (thn (h pins s σ H _ I hw) fun v s1 h1 => thn h1 fun u s2 h2 => thn h2 fun c s3 ⟨x, H1, I1, r1, q1⟩ => ?_) h1
  obtain ⟨d, rfl, q⟩ := q1
  cases r1
  exact wpAny_truthy_bool ⟨H1, I1, q⟩
theorem pt_val {e : Expr} {t : TE} (h : PE X e t) (he : ∀ whole, isTrue e X.env whole = (do let v ← whole; standAt e.pos; holding [v] (truthy v)) := by intro _; rfl) : PT X e (tB t) := by
  intro pins s σ H Q I hw
  refine isTrue_plain (thn (h pins s σ H _ I hw) fun v s1 ⟨x, H1, I1, r1, q1⟩ => ?_) (he _)
  obtain ⟨d, rfl, q⟩ := q1
  cases r1
  exact wpAny_truthy_bool ⟨H1, I1, q⟩
variable {tA tB' : TT} {rest : List Expr}
def tOr (t u : TT) : TT := fun σ H Q => t σ H fun c H1 => if c = true then Q true H1 else u σ H1 Q
def tNot (t : TT) : TT := fun σ H Q => t σ H fun c H1 => Q (!c) H1
theorem pw_or1 (ha : PT X a tA) : PW X (.BoolOp .Or [a] pos) tA := by
  intro wh pins s σ H Q I h
  refine isTrue_or (thn (ha pins s σ H Q I h) fun c s1 e => ?_)
  cases c with
  | false => exact isTrue_or_nil e
  | true => exact e
theorem pw_or (ha : PT X a tA) (hb : PW X (.BoolOp .Or (b :: rest) pos) tB') : PW X (.BoolOp .Or (a :: b :: rest) pos) (tOr tA tB') := by
  intro wh pins s σ H Q I h
  refine isTrue_or (thn (ha pins s σ H _ I h) fun c s1 ⟨H1, I1, q1⟩ => ?_)
  cases c with
  | true => exact ⟨H1, I1, q1⟩
  | false => exact hb wh pins s1 σ H1 Q I1 q1
theorem pt_not (ha : PT X a tA) : PT X (.UnaryOp .Not a pos) (tNot tA) := by
  intro pins s σ H Q I h
  exact isTrue_not (ha pins s σ H (fun c H1 => Q (!c) H1) I h)
def tAndV (ta tb : TE) : TE := fun σ H Q => ta σ H fun x H1 => ∃ c, x = .bl c ∧ if c = true then tb σ H1 Q else Q (.bl false) H1
def tNotV (ta : TE) : TE := fun σ H Q => ta σ H fun x H1 => ∃ c, x = .bl c ∧ Q (.bl (!c)) H1
theorem pe_one {op} {t : TE} (h : PE X a t) : PE X (.BoolOp op [a] pos) t := fun pins s σ H Q I hw => BoolOp_one (h pins s σ H Q I hw)
theorem pe_and (ha : PE X a ta) (hb : PE X (.BoolOp .And (b :: rest) pos) tb) : PE X (.BoolOp .And (a :: b :: rest) pos) (tAndV ta tb) := by
  intro pins s σ H Q I h
  refine BoolOp_and (thn (ha pins s σ H _ I h) fun v s1 ⟨x, H1, I1, r1, q1⟩ => ?_)
  obtain ⟨c, rfl, q1⟩ := q1
  cases r1
  refine wpAny_truthy_bool ?_
  cases c with
  | true => exact hb pins s1 σ H1 Q I1 q1
  | false => exact ⟨.bl false, H1, I1, rfl, q1⟩
theorem pe_not (ha : PE X a ta) : PE X (.UnaryOp .Not a pos) (tNotV ta) := by
  intro pins s σ H Q I h
  refine UnaryOp_ (thn (ha pins s σ H _ I h) fun v s1 ⟨x, H1, I1, r1, q1⟩ => ?_)
  obtain ⟨c, rfl, q1⟩ := q1
  cases r1
  exact not_of (wpAny_truthy_bool ⟨.bl (!c), H1, I1, rfl, q1⟩)
def tIf (t : TT) (ta tb : TE) : TE := fun σ H Q => t σ H fun c H1 => if c = true then ta σ H1 Q else tb σ H1 Q
theorem pe_ifExp {c : Expr} (hc : PT X c tA) (ha : PE X a ta) (hb : PE X b tb) : PE X (.IfExp c a b pos) (tIf tA ta tb) := by
  intro pins s σ H Q I h
  refine wpAny_IfExp (thn (hc pins s σ H _ I h) fun d s1 ⟨H1, I1, q1⟩ => ?_)
  cases d with
  | true => exact ha pins s1 σ H1 Q I1 q1
  | false => exact hb pins s1 σ H1 Q I1 q1
end
end L2
namespace L2
open PySem PySem.Spec PyProof.Rows
def SqL (K : PySem.W.Frag) (H : Hp) (a : Addr) (xs : List V) : Prop :=
  Rd H a (.lst xs) ∨
    ∃ (o : Obj) (its : Array Value) (n : Nat), K.lookup a = some o ∧ o.cls = .type "list" ∧ o.dict = none ∧ o.data = .seq its n ∧ its.size ≤ sizeLine ∧ Vals xs its.toList
def SqT (K : PySem.W.Frag) (H : Hp) (a : Addr) (xs : List V) : Prop :=
  Rd H a (.tup xs) ∨
    ∃ (o : Obj) (its : Array Value) (n : Nat), K.lookup a = some o ∧ o.cls = .type "tuple" ∧ o.data = .seq its n ∧ its.size ≤ sizeLine ∧ Vals xs its.toList
def absV : Value → Option V
  | .none => some .non
  | .bool b => some (.bl b)
  | .int i _ => some (.int i)
  | .str x _ => some (.str x)
  | .bytes b _ => some (.byt b)
  | .float b _ => some (.flt b)
  | .ref a => some (.ref a)
  | .type n => some (.ty n)
  | _ => none
theorem RelV.abs {x : V} {u : Value} (r : RelV x u) : absV u = some x := by
  cases x with
  | non => cases r; rfl
  | bl _ => cases r; rfl
  | int _ => obtain ⟨t, rfl⟩ := r; rfl
  | str _ => obtain ⟨t, rfl⟩ := r; rfl
  | byt _ => obtain ⟨t, rfl⟩ := r; rfl
  | flt _ => obtain ⟨t, rfl⟩ := r; rfl
  | ref _ => cases r; rfl
  | ty _ => cases r; rfl
theorem RelV.inj {x y : V} {u : Value} (r : RelV x u) (q : RelV y u) : x = y := Option.some.inj (r.abs.symm.trans q.abs)
theorem Vals.inj : ∀ {xs ys : List V} {us : List Value}, Vals xs us → Vals ys us → xs = ys
  | _, _, _, .nil, .nil => rfl
  | _, _, _, .cons r t, .cons r' t' => by rw [r.inj r', Vals.inj t t']
section
variable {X : Cx} {pins : List (Addr × Obj)} {σ : St} {H : Hp} {s : Shared} {a : Addr} {xs ys : List V}
theorem SqL.of {K : PySem.W.Frag} (h : H a = some (.lst xs)) : SqL K H a xs := .inl (.inl h)
theorem SqT.of {K : PySem.W.Frag} (h : H a = some (.tup xs)) : SqT K H a xs := .inl (.inl h)
theorem Inv.list (I : Inv X pins σ H s) (h : SqL X.K H a xs) : ∃ its : List Value, Vals xs its ∧ PlainL s.heap a its.toArray ∧ xs.length ≤ sizeLine := by
  rcases h with h | ⟨o, its, n, hk, hc, hd, hs, hz, r⟩
  · obtain ⟨z, its, n, r, e⟩ := h.ok I.hok
    exact ⟨its, r, ⟨_, n, e, rfl, rfl, rfl⟩, z⟩
  · refine ⟨its.toList, r, ⟨o, n, I.kIn a o hk, hc, hd, by simpa using hs⟩, ?_⟩
    have e := r.length
    simp only [Array.length_toList] at e
    omega
theorem Inv.tuple (I : Inv X pins σ H s) (h : SqT X.K H a xs) : ∃ its : List Value, Vals xs its ∧ IsTup s.heap a its.toArray ∧ xs.length ≤ sizeLine := by
  rcases h with h | ⟨o, its, n, hk, hc, hs, hz, r⟩
  · obtain ⟨z, its, r, p⟩ := h.ok I.hok
    exact ⟨its, r, p, z⟩
  · refine ⟨its.toList, r, ⟨o, I.kIn a o hk, hc, n, by simpa using hs⟩, ?_⟩
    have e := r.length
    simp only [Array.length_toList] at e
    omega
theorem Inv.list_inj (I : Inv X pins σ H s) (h : SqL X.K H a xs) (h' : SqL X.K H a ys) : xs = ys := by
  obtain ⟨its, r, ⟨o, n, e, _, _, d⟩, _⟩ := I.list h
  obtain ⟨its', r', ⟨o', n', e', _, _, d'⟩, _⟩ := I.list h'
  rw [e] at e'; cases e'
  rw [d] at d'
  injection d' with d1 _
  have : its = its' := by simpa using congrArg Array.toList d1
  subst this
  exact r.inj r'
theorem Inv.tuple_inj (I : Inv X pins σ H s) (h : SqT X.K H a xs) (h' : SqT X.K H a ys) : xs = ys := by
  obtain ⟨its, r, ⟨o, e, _, n, d⟩, _⟩ := I.tuple h
  obtain ⟨its', r', ⟨o', e', _, n', d'⟩, _⟩ := I.tuple h'
  rw [e] at e'; cases e'
  rw [d] at d'
  injection d' with d1 _
  have : its = its' := by simpa using congrArg Array.toList d1
  subst this
  exact r.inj r'
end
abbrev Cx.wish (X : Cx) (E : Value → Shared → Prop) : Cx := { X with xe := E }
abbrev Cx.nox (X : Cx) : Cx := X.wish fun _ _ => False
theorem Cx.Ok.wish {X : Cx} (ok : X.Ok) (E : Value → Shared → Prop) : (X.wish E).Ok :=
  ⟨ok.mod, ok.kind, ok.glob, ok.blt, ok.above, ok.inj, ok.has, ok.cab, ok.hd, ok.frames, ok.stk, ok.exf, ok.bs, ok.bsz, ok.noex, ok.exfs, ok.funs, ok.frf⟩
theorem Cx.Ok.unwish {X : Cx} {E : Value → Shared → Prop} (ok : (X.wish E).Ok) : X.Ok :=
  ⟨ok.mod, ok.kind, ok.glob, ok.blt, ok.above, ok.inj, ok.has, ok.cab, ok.hd, ok.frames, ok.stk, ok.exf, ok.bs, ok.bsz, ok.noex, ok.exfs, ok.funs, ok.frf⟩
section
variable {X : Cx} {pins : List (Addr × Obj)} {σ : St} {H : Hp} {s : Shared} {E : Value → Shared → Prop}
theorem Inv.wish (I : Inv X pins σ H s) (E : Value → Shared → Prop) : Inv (X.wish E) pins σ H s := ⟨I.ok.wish E, I.os, I.bare, I.base, I.loc, I.cell, I.free, I.freeC, I.pin, I.hok, I.len⟩
theorem Inv.unwish (I : Inv (X.wish E) pins σ H s) : Inv X pins σ H s := ⟨I.ok.unwish, I.os, I.bare, I.base, I.loc, I.cell, I.free, I.freeC, I.pin, I.hok, I.len⟩
theorem SP.unwish {D : Ends} {f : Flow} {s' : Shared} (h : SP (X.wish E) pins D f s') : SP X pins D f s' := by
  cases f with
  | next => obtain ⟨σ', H', I, q⟩ := h; exact ⟨σ', H', I.unwish, q⟩
  | brk => obtain ⟨σ', H', I, q⟩ := h; exact ⟨σ', H', I.unwish, q⟩
  | cont => obtain ⟨σ', H', I, q⟩ := h; exact ⟨σ', H', I.unwish, q⟩
  | ret u => obtain ⟨v, σ', H', I, r, q⟩ := h; exact ⟨v, σ', H', I.unwish, r, q⟩
theorem PE.nox {e : Expr} {t : TE} (h : PE X.nox e t) : PE X e t := fun pins s σ H Q I hw =>
  wpAny_mono (h pins s σ H Q (I.wish _) hw) (fun _ _ ⟨v, H', I', r, q⟩ => ⟨v, H', I'.unwish, r, q⟩) fun _ _ z => False.elim z
theorem PT.nox {e : Expr} {t : TT} (h : PT X.nox e t) : PT X e t := fun pins s σ H Q I hw =>
  wpAny_mono (h pins s σ H Q (I.wish _) hw) (fun _ _ ⟨H', I', q⟩ => ⟨H', I'.unwish, q⟩) fun _ _ z => False.elim z
theorem PSs.nox {st : List Stmt} {t : TS} (h : PSs X.nox st t) : PSs X st t := fun pins s σ H D I hw =>
  wpAny_mono (h pins s σ H D (I.wish _) hw) (fun _ _ q => q.unwish) fun _ _ z => False.elim z
end
section
variable {X : Cx} {st : Stmt} {rest : List Stmt} {t u : TS} {e : Expr} {te : TE} {pos : Pos}
def tNext : TS := fun D σ H => D.nx σ H
def tSeq (t u : TS) : TS := fun D σ H => t { D with nx := u D } σ H
theorem pss_nil : PSs X [] tNext := fun _ _ σ H _ I h => wpAny_execs_nil ⟨σ, H, I, h⟩
theorem pss_cons (h1 : PS X st t) (h2 : PSs X rest u) : PSs X (st :: rest) (tSeq t u) := by
  intro pins s σ H D I h
  refine wpAny_execs_cons (thn (h1 pins s σ H { D with nx := u D } I h) fun f s1 q => ?_)
  cases f with
  | next =>
    obtain ⟨σ', H', I', q⟩ := q
    exact h2 pins s1 σ' H' D I' q
  | ret v => exact q
  | brk => exact q
  | cont => exact q
theorem pss_one (h1 : PS X st t) : PSs X [st] t := by
  intro pins s σ H D I h
  refine wpAny_execs_cons (thn (h1 pins s σ H D I h) fun f s1 q => ?_)
  cases f with
  | next => exact wpAny_execs_nil q
  | ret v => exact q
  | brk => exact q
  | cont => exact q
theorem Inv.quiet {pins : List (Addr × Obj)} {σ : St} {H : Hp} {s : Shared} (I : Inv X pins σ H s) : interactive X.env = false := by simp [interactive, I.ok.kind]
def tDrop (te : TE) : TS := fun D σ H => te σ H fun _ H1 => D.nx σ H1
theorem ps_expr (he : PE X e te) (hs : swapsWith e none pos.line X.env = pure false := by rfl) : PS X (.Expr e pos) (tDrop te) := by
  intro pins s σ H D I h
  exact wpAny_Expr_any (thn (he pins s σ H _ I h) fun v s1 ⟨x, H1, I1, r1, q1⟩ => ⟨σ, H1, I1, q1⟩) I.quiet hs
def tRet (te : TE) : TS := fun D σ H => te σ H D.rt
theorem ps_ret (he : PE X e te) : PS X (.Return (some e) pos) (tRet te) := by
  intro pins s σ H D I h
  exact wpAny_Return_some (thn (he pins s σ H _ I h) fun v s1 ⟨x, H1, I1, r1, q1⟩ => ⟨x, σ, H1, I1, r1, q1⟩)
def tIfS (c : TT) (t u : TS) : TS := fun D σ H => c σ H fun b H1 => if b = true then t D σ H1 else u D σ H1
theorem ps_if {c : Expr} {a b : List Stmt} {tc : TT} (hc : PT X c tc) (ha : PSs X a t) (hb : PSs X b u) : PS X (.If c a b pos) (tIfS tc t u) := by
  intro pins s σ H D I h
  refine wpAny_If (thn (hc pins s σ H _ I h) fun d s1 ⟨H1, I1, q1⟩ => ?_)
  cases d with
  | true => exact ha pins s1 σ H1 D I1 q1
  | false => exact hb pins s1 σ H1 D I1 q1
def tNever : TS := fun _ _ _ => False
theorem ps_never : PS X st tNever := fun _ _ _ _ _ _ h => h.elim
theorem pss_never {sts : List Stmt} : PSs X sts tNever := fun _ _ _ _ _ _ h => h.elim
end
abbrev TG := V → St → Hp → (St → Hp → Prop) → Prop
abbrev TGs := List V → St → Hp → (St → Hp → Prop) → Prop
def PG (X : Cx) (target : Expr) (t : TG) : Prop :=
  ∀ (pins : List (Addr × Obj)) (s : Shared) (σ : St) (H : Hp) (v : V) (u : Value) (Q : St → Hp → Prop), Inv X pins σ H s → RelV v u → t v σ H Q →
    wpAny (model X.prog X.w) X.A (assign target X.env u) (fun _ s' => ∃ σ' H', Inv X pins σ' H' s' ∧ Q σ' H') X.xe s
def PGs (X : Cx) (ts : List Expr) (t : TGs) : Prop :=
  ∀ (pins : List (Addr × Obj)) (s : Shared) (σ : St) (H : Hp) (vs : List V) (us : List Value) (Q : St → Hp → Prop), Inv X pins σ H s → Vals vs us → t vs σ H Q →
    wpAny (model X.prog X.w) X.A (assignInOrder ((assignEach ts X.env).map (·.2)) us) (fun _ s' => ∃ σ' H', Inv X pins σ' H' s' ∧ Q σ' H') X.xe s
abbrev TSet := V → V → V → Hp → (Hp → Prop) → Prop
def PSet (X : Cx) (t : TSet) : Prop :=
  ∀ (pins : List (Addr × Obj)) (s : Shared) (σ : St) (H : Hp) (o i v : V) (ov iv u : Value) (Q : Hp → Prop), Inv X pins σ H s → RelV o ov → RelV i iv → RelV v u → t o i v H Q →
    wpAny (model X.prog X.w) X.A (setItem ov iv u) (fun _ s' => ∃ H', Inv X pins σ H' s' ∧ Q H') X.xe s
abbrev TIp := V → V → Hp → VK → Prop
def PIp (X : Cx) (op : Operator) (t : TIp) : Prop :=
  ∀ (pins : List (Addr × Obj)) (s : Shared) (σ : St) (H : Hp) (x y : V) (v u : Value) (Q : VK), Inv X pins σ H s → RelV x v → RelV y u → t x y H Q →
    wpAny (model X.prog X.w) X.A (inplaceOp op v u) (EP X pins σ Q) X.xe s
section
variable {X : Cx} {pos : Pos}
def gName (i : Nat) : TG := fun v σ H Q => Q (σ.set i (some v)) H
theorem pg_name {i : Nat} {x : Str} (hN : X.N.Nodup) (hi : X.N[i]? = some x) (hx : Loc X.env.scope x) (hf : X.fn x = true ∨ X.env.scope.names.lookup x = some .local := by first | exact .inl rfl | exact .inr rfl | assumption) : PG X (.Name x pos) (gName i) := by
  intro pins s σ H v u Q I r h
  exact wpAny_assign_Name (store_ok I hN hi hx r (fun s' I' => ⟨_, H, I', h⟩) hf)
def gNil : TGs := fun vs σ H Q => vs = [] ∧ Q σ H
def gCons (t : TG) (u : TGs) : TGs := fun vs σ H Q => ∃ v r, vs = v :: r ∧ t v σ H fun σ' H' => u r σ' H' Q
theorem pgs_nil : PGs X [] gNil := by
  intro pins s σ H vs us Q I r h
  obtain ⟨e, h⟩ := h
  subst e
  cases r
  exact assignInOrder_nil ⟨σ, H, I, h⟩
theorem pgs_cons {e : Expr} {es : List Expr} {t : TG} {u : TGs} (h1 : PG X e t) (h2 : PGs X es u)
    (hs : (assignEach (e :: es) X.env).map (·.2) = assign e X.env :: (assignEach es X.env).map (·.2) := by rfl) : PGs X (e :: es) (gCons t u) := by
  intro pins s σ H vs us Q I r h
  obtain ⟨v, vr, e1, h⟩ := h
  subst e1
  cases r with
  | cons r rr =>
    rw [hs]
    refine assignInOrder_cons (thn (h1 pins s σ H _ _ _ I r h) fun _ s1 ⟨σ1, H1, I1, q1⟩ => ?_)
    exact h2 pins s1 σ1 H1 _ _ Q I1 rr q1
def gTup (K : PySem.W.Frag) (n : Nat) (t : TGs) : TG := fun v σ H Q => ∃ a xs, v = .ref a ∧ SqT K H a xs ∧ xs.length = n ∧ t xs σ H Q
theorem pg_tup {es : List Expr} {k : Nat} {t : TGs} {n : Nat} (hc : X.calm = true) (h : PGs X es t)
    (hn : (assignEach es X.env).length = n := by rfl) (hst : (assignEach es X.env).findIdx? (·.1) = none := by rfl) : PG X (.Tuple es k pos) (gTup X.K n t) := by
  intro pins s σ H v u Q I r hw
  obtain ⟨a, xs, e1, hq, hl, hw⟩ := hw
  subst e1
  cases r
  obtain ⟨its, rv, ht, hz⟩ := I.tuple hq
  refine assign_Tuple_tuple (I.ok.hd hc) ht (by simp [hn, ← hl, rv.length]) hst fun h' hx => ?_
  have I1 : Inv X pins σ H { s with heap := h' } := I.kept (t' := s.toks) fun b o e => hx b o (Nat.ne_of_lt (Heap.lt_size e)) e
  exact h pins _ σ H xs _ Q I1 (by simpa using rv) hw
def gSub (to ti : TE) (t : TSet) : TG := fun v σ H Q => to σ H fun o H1 => ti σ H1 fun i H2 => t o i v H2 fun H3 => Q σ H3
theorem pg_sub {o i : Expr} {to ti : TE} {t : TSet} (ho : PE X o to) (hi : PE X i ti) (hs : PSet X t)
    (ha : ∀ v, assign (.Subscript o i pos) X.env v = (do
      let ov ← holding [v] (eval o X.env)
      let iv ← holding [v, ov] (eval i X.env)
      standAt pos
      holding [v, ov, iv] (setItem ov iv v)
      release [v, ov, iv] []) := by intro _; rfl) : PG X (.Subscript o i pos) (gSub to ti t) := by
  intro pins s σ H v u Q I r h
  rw [ha]
  refine wpAny_bind (wpAny_holding (thn (ho pins s σ H _ I h) fun ov s1 ⟨x, H1, I1, r1, q1⟩ => ?_))
  refine wpAny_bind (wpAny_holding (thn (hi pins s1 σ H1 _ I1 q1) fun iv s2 ⟨y, H2, I2, r2, q2⟩ => ?_))
  refine wpAny_bind (wpAny_standAt (wpAny_bind (wpAny_holding (thn (hs pins s2 σ H2 x y v ov iv u _ I2 r1 r2 r q2) fun _ s3 ⟨H3, I3, q3⟩ => ?_))))
  exact wpAny_release ⟨σ, H3, I3, q3⟩
def tAsg (te : TE) (g : TG) : TS := fun D σ H => te σ H fun x H1 => g x σ H1 D.nx
theorem ps_asg {tg e : Expr} {te : TE} {g : TG} (he : PE X e te) (hg : PG X tg g) (hs : swapsWithSole [tg] e pos.line X.env = pure false := by rfl) (hw : swappedStores [tg] e X.env = pure none := by rfl)
    (h1 : (assignEach [tg] X.env).map (·.2) = [assign tg X.env] := by rfl) : PS X (.Assign [tg] e pos) (tAsg te g) := by
  intro pins s σ H D I h
  refine wpAny_Assign_stores (thn (he pins s σ H _ I h) fun v s1 ⟨x, H1, I1, r1, q1⟩ => ?_) hs hw
  rw [h1]
  exact thn (hg pins s1 σ H1 x v _ I1 r1 q1) fun _ s2 q => q
theorem ps_set {i : Nat} {x : Str} {e : Expr} {te : TE} {pos' : Pos} (hN : X.N.Nodup) (hi : X.N[i]? = some x) (hx : Loc X.env.scope x) (he : PE X e te) (hs : swapsWith e (some (.Name x pos')) pos.line X.env = pure false := by rfl) (hf : X.fn x = true ∨ X.env.scope.names.lookup x = some .local := by first | exact .inl rfl | exact .inr rfl | assumption) :
    PS X (.Assign [.Name x pos'] e pos) (tAsg te (gName i)) := by
  intro pins s σ H D I h
  refine wpAny_Assign_Name (thn (he pins s σ H _ I h) fun v s1 ⟨y, H1, I1, r1, q1⟩ => ?_) hs
  exact store_ok I1 hN hi hx r1 (fun s2 I2 => ⟨_, H1, I2, q1⟩) hf
def tPar (i j : Nat) (ta : TA) : TS := fun D σ H => ta σ H fun vs H1 => ∃ v w, vs = [v, w] ∧ D.nx ((σ.set i (some v)).set j (some w)) H1
theorem ps_par {i j : Nat} {x y : Str} {a b : Expr} {ta : TA} {px py pt : Pos} {kt k2 pt2} (hc : X.calm = true) (hN : X.N.Nodup) (hi : X.N[i]? = some x) (hj : X.N[j]? = some y) (hij : i ≠ j)
    (hx : X.env.scope.names.lookup x = some .local) (hy : X.env.scope.names.lookup y = some .local) (ha : PA X [a, b] ta)
    (hw : swappedStores [.Tuple [.Name x px, .Name y py] kt pt] (.Tuple [a, b] k2 pt2) X.env = pure (some [x, y]))
    (hs : swapsWithSole [.Tuple [.Name x px, .Name y py] kt pt] (.Tuple [a, b] k2 pt2) pos.line X.env = pure false := by rfl) :
    PS X (.Assign [.Tuple [.Name x px, .Name y py] kt pt] (.Tuple [a, b] k2 pt2) pos) (tPar i j ta) := by
  intro pins s σ H D I h
  rw [exec_Assign_arm]
  refine wpAny_bind (wpAny_standAt ?_)
  rw [hs]
  refine wpAny_bind (wpAny_pure ?_)
  rw [if_neg (by decide)]
  refine wpAny_bind (Tuple_ (thn (ha _ pins s σ H _ I h) fun us s1 ⟨vs, H1, I1, r1, q1⟩ => ?_))
  obtain ⟨v, w, e1, q1⟩ := q1
  subst e1
  obtain ⟨u1, u2, rfl, rv, rw'⟩ : ∃ u1 u2, us = [u1, u2] ∧ RelV v u1 ∧ RelV w u2 := by
    cases r1 with
    | cons p q =>
      cases q with
      | cons p' q' =>
        cases q'
        exact ⟨_, _, rfl, p, p'⟩
  refine wpAny_newObj_type ?_ (by show 2 ≤ sizeLine; decide)
  have I2 : Inv X pins σ H1 { s1 with heap := s1.heap.push { cls := .type "tuple", data := .seq [u1, u2].toArray } } := I1.kept (t' := s1.toks) fun b o e => Heap.get?_push_of_some _ e
  rw [hw]
  refine wpAny_bind (wpAny_pure ?_)
  show wpAny (model X.prog X.w) X.A (do rule "assign.swapped-stores"; let items ← unpackItems (.ref s1.heap.objs.size) 2 none; assignInOrder [fun v => bindName X.env y v, fun v => bindName X.env x v] items.reverse; pure Flow.next) _ _ _
  refine wpAny_bind (wpAny_rule (wpAny_bind (unpackItems_tuple (items := #[u1, u2]) (I.ok.hd hc) (IsTup.new s1.heap _) fun h' hx' => ?_)))
  have I3 := I2.kept (h' := h') (t' := s1.toks) fun b o e => hx' b o (Nat.ne_of_lt (Heap.lt_size e)) e
  show wpAny _ _ (assignInOrder [fun v => bindName X.env y v, fun v => bindName X.env x v] [u2, u1] >>= fun _ => pure Flow.next) _ _ _
  refine wpAny_bind (assignInOrder_cons (wpAny_bindName (store_ok I3 hN hj (.inl hy) rw' (fun s2 I4 => ?_) (.inr hy))))
  refine assignInOrder_cons (wpAny_bindName (store_ok I4 hN hi (.inl hx) rv (fun s3 I5 => assignInOrder_nil (wpAny_pure ?_)) (.inr hx)))
  rw [List.set_comm _ _ (Ne.symm hij)] at I5
  exact ⟨_, H1, I5, q1⟩
def tAug (i : Nat) (te : TE) (ti : TIp) : TS := fun D σ H => ∃ x, σ[i]? = some (some x) ∧ te σ H fun y H1 => ti x y H1 fun z H2 => D.nx (σ.set i (some z)) H2
theorem ps_aug {i : Nat} {x : Str} {e : Expr} {te : TE} {op : Operator} {ti : TIp} {pos' : Pos} (hN : X.N.Nodup) (hi : X.N[i]? = some x) (hx : Loc X.env.scope x) (he : PE X e te) (ho : PIp X op ti) (hf : X.fn x = true ∨ X.env.scope.names.lookup x = some .local := by first | exact .inl rfl | exact .inr rfl | assumption) :
    PS X (.AugAssign (.Name x pos') op e pos) (tAug i te ti) := by
  intro pins s σ H D I h
  obtain ⟨v, e1, h⟩ := h
  obtain ⟨m, hn, hl⟩ := I.loc
  have vis : Vis X.env.scope x := by rcases hx with k | k; exact .inl k; exact .inr (.inl k)
  obtain ⟨u, r, l⟩ := hl i x v hi e1 vis
  refine wpAny_AugAssign_Name ?_
  have go : wpAny (model X.prog X.w) X.A (eval e X.env) (fun w s₂ => wpAny (model X.prog X.w) X.A (inplaceOp op u w) (fun r s₃ => wpAny (model X.prog X.w) X.A (storeName X.env x r) (fun _ => SP X pins D .next) X.xe s₃) X.xe s₂) X.xe s := by
    refine thn (he pins s σ H _ I h) fun w s1 ⟨y, H1, I1, r1, q1⟩ => ?_
    refine thn (ho pins s1 σ H1 v y u w _ I1 r r1 q1) fun z s2 ⟨zv, H2, I2, r2, q2⟩ => ?_
    exact store_ok I2 hN hi hx r2 (fun s3 I3 => ⟨_, H2, I3, q2⟩) hf
  rcases l with ⟨hk, hm⟩ | ⟨hk, c, hc, hcell⟩
  · exact wpAny_loadName_local I.ok.kind hk hn hm go
  · rcases hk with hk | hk
    · exact wpAny_loadName_cell I.ok.kind hk hc hcell go
    · rcases hx with k | k
      · have : X.env.scope.names.lookup x = some .free := hk
        rw [k] at this; cases this
      · have : X.env.scope.names.lookup x = some .free := hk
        rw [k] at this; cases this
def tAugS (to ti te : TE) (tget : V → V → Hp → VK → Prop) (tip : TIp) (tset : TSet) : TS := fun D σ H => to σ H fun o H1 => ti σ H1 fun i H2 => tget o i H2 fun x H3 => te σ H3 fun y H4 => tip x y H4 fun z H5 => tset o i z H5 fun H6 => D.nx σ H6
def PGet (X : Cx) (t : V → V → Hp → VK → Prop) : Prop :=
  ∀ (pins : List (Addr × Obj)) (s : Shared) (σ : St) (H : Hp) (o i : V) (ov iv : Value) (Q : VK), Inv X pins σ H s → RelV o ov → RelV i iv → t o i H Q →
    wpAny (model X.prog X.w) X.A (getItem ov iv) (EP X pins σ Q) X.xe s
theorem ps_augS {o i e : Expr} {to ti te : TE} {tget : V → V → Hp → VK → Prop} {tip : TIp} {tset : TSet} {op : Operator} {tpos : Pos} (ho : PE X o to) (hi : PE X i ti) (hg : PGet X tget) (he : PE X e te) (hp : PIp X op tip) (hs : PSet X tset)
    (ha : ∀ ov iv new, augStore i ov iv new = (do holding [new, ov, iv] (setItem ov iv new); release [new, ov, iv] []; pure .next) := by intros; rfl) : PS X (.AugAssign (.Subscript o i tpos) op e pos) (tAugS to ti te tget tip tset) := by
  intro pins s σ H D I h
  refine wpAny_AugAssign_SubscriptAny (thn (ho pins s σ H _ I h) fun ov s1 ⟨x1, H1, I1, r1, q1⟩ => ?_) ha
  refine thn (hi pins s1 σ H1 _ I1 q1) fun iv s2 ⟨x2, H2, I2, r2, q2⟩ => ?_
  refine thn (hg pins s2 σ H2 x1 x2 ov iv _ I2 r1 r2 q2) fun old s3 ⟨x3, H3, I3, r3, q3⟩ => ?_
  refine thn (he pins s3 σ H3 _ I3 q3) fun v s4 ⟨x4, H4, I4, r4, q4⟩ => ?_
  refine thn (hp pins s4 σ H4 x3 x4 old v _ I4 r3 r4 q4) fun new s5 ⟨x5, H5, I5, r5, q5⟩ => ?_
  exact thn (hs pins s5 σ H5 x1 x2 x5 ov iv new _ I5 r1 r2 r5 q5) fun _ s6 ⟨H6, I6, q6⟩ => ⟨σ, H6, I6, q6⟩
def ipI (f : Int → Int → Int) : TIp := fun x y H Q => ∃ i j, x = .int i ∧ y = .int j ∧ Q (.int (f i j)) H
theorem ip_add : PIp X .Add (ipI fun i j => i + j) := by
  intro pins s σ H x y v u Q I r1 r2 h
  obtain ⟨i, j, e1, e2, q⟩ := h
  subst e1; subst e2
  obtain ⟨t, rfl⟩ := r1
  obtain ⟨t', rfl⟩ := r2
  exact iadd_int ⟨.int _, H, I.tok _, ⟨_, rfl⟩, q⟩
theorem ip_sub : PIp X .Sub (ipI fun i j => i - j) := by
  intro pins s σ H x y v u Q I r1 r2 h
  obtain ⟨i, j, e1, e2, q⟩ := h
  subst e1; subst e2
  obtain ⟨t, rfl⟩ := r1
  obtain ⟨t', rfl⟩ := r2
  exact isub_int ⟨.int _, H, I.tok _, ⟨_, rfl⟩, q⟩
end
section
variable {X : Cx} {pos : Pos}
def tWhile (c : TT) (tb : TS) : TS := fun D σ H => ∃ W : Nat → St → Hp → Prop, (∃ m, W m σ H) ∧ ∀ m σ H, W m σ H →
  c σ H fun b H1 => if b = true then ∃ N : St → Hp → Prop, (∀ σ' H', N σ' H' → ∃ m', m' < m ∧ W m' σ' H') ∧ tb { D with nx := N, ct := N, bk := D.nx } σ H1 else D.nx σ H1
theorem ps_while {c : Expr} {body : List Stmt} {tc : TT} {tb : TS} (hp : PassesOwn (model X.prog X.w) X.A X.env X.xe) (hc : PT X c tc) (hb : PSs X body tb) : PS X (.While c body [] pos) (tWhile tc tb) := by
  intro pins s σ H D I h
  obtain ⟨W, ⟨m0, w0⟩, turn⟩ := h
  refine wpAny_While (codeAny_whileLoop (fun n s' => ∃ σ' H', Inv X pins σ' H' s' ∧ W n σ' H') ?_ m0 ⟨σ, H, I, w0⟩)
  rintro n s1 ⟨σ1, H1, I1, w1⟩
  refine wpAny_passesOwn hp (thn (hc pins s1 σ1 H1 _ I1 (turn n σ1 H1 w1)) fun b s2 ⟨H2, I2, q2⟩ => ?_)
  cases b with
  | true =>
    obtain ⟨N, hN, q2⟩ := q2
    rw [if_pos rfl]
    refine wpAny_passesOwn hp (thn (hb pins s2 σ1 H2 _ I2 q2) fun f s3 q3 => ?_)
    cases f with
    | next =>
      obtain ⟨σ3, H3, I3, n3⟩ := q3
      obtain ⟨m', hm, w3⟩ := hN σ3 H3 n3
      exact ⟨m', hm, σ3, H3, I3, w3⟩
    | cont =>
      obtain ⟨σ3, H3, I3, n3⟩ := q3
      obtain ⟨m', hm, w3⟩ := hN σ3 H3 n3
      exact ⟨m', hm, σ3, H3, I3, w3⟩
    | brk => exact q3
    | ret v => exact q3
  | false =>
    rw [if_neg Bool.false_ne_true]
    exact wpAny_execs_nil ⟨σ1, H2, I2, q2⟩
end
structure It where
  go : Nat → Hp → Prop
  yld : Nat → Hp → V → Hp → Prop
  stop : Nat → Hp → Prop
def FpOk (X : Cx) (pins : List (Addr × Obj)) (H : Hp) (b : Addr) : Prop :=
  H b = none ∧ b ≠ X.env.locals ∧ b ∉ X.fs ∧ (b ∈ X.ex ∨ X.s₀.heap.objs.size ≤ b) ∧ (∀ x c, X.env.cells.lookup x = some c → c ≠ b) ∧ ∀ p ∈ X.pn ++ pins, p.1 ≠ b
theorem Inv.fpOk {X : Cx} {pins : List (Addr × Obj)} {σ : St} {H H' : Hp} {s : Shared} {b : Addr} (I : Inv X pins σ H s) (hb : s.heap.objs.size ≤ b) (hn : H' b = none) : FpOk X pins H' b := by
  refine ⟨hn, Nat.ne_of_gt (Nat.lt_of_lt_of_le I.lt hb), I.nofs hb, .inr (Nat.le_trans I.sz hb), fun x c e z => ?_, fun p hp z => ?_⟩
  · obtain ⟨v, q⟩ := I.cell x c e
    exact absurd (Nat.lt_of_lt_of_le q.lt (by rw [z]; exact hb)) (Nat.lt_irrefl _)
  · exact absurd (Nat.lt_of_lt_of_le (Heap.lt_size (I.pin p hp).1) (by rw [z]; exact hb)) (Nat.lt_irrefl _)
structure Turn (P : Program) (w : World) (K : PySem.W.Frag) (tg : Expr) (J : It) (fp : List Addr) (it : Addr) (tn : Nat → Heap → Prop) : Prop where
  mem : it ∈ fp
  obj : ∀ i h, tn i h → ∀ b ∈ fp, ∃ o, h.get? b = some o ∧ ∀ v, o.data ≠ .cell v
  keep : ∀ i h h', tn i h → (∀ b ∈ fp, ∀ o, h.get? b = some o → h'.get? b = some o) → tn i h'
  item : ∀ (X : Cx), X.prog = P → X.w = w → X.K = K → X.calm = true → ∀ (i : Nat) (pins : List (Addr × Obj)) (s : Shared) (σ : St) (H : Hp) (E : Value → Shared → Prop), Inv X pins σ H s → (∀ b ∈ fp, FpOk X pins H b) → tn i s.heap → J.go i H →
    wpAny (model P w) X.A (pyNext (.ref it)) (fun r s1 => ∃ u, r = some u ∧
      wpAny (model P w) X.A (letOwnedTupleGo tg (.ref it) u) (fun _ s2 => ∃ x H', Inv X pins σ H' s2 ∧ RelV x u ∧ J.yld i H x H' ∧ tn (i + 1) s2.heap ∧ ∀ b ∈ fp, H' b = none) E s1) E s
  done : ∀ (X : Cx), X.prog = P → X.w = w → X.K = K → X.calm = true → ∀ (i : Nat) (pins : List (Addr × Obj)) (s : Shared) (σ : St) (H : Hp) (E : Value → Shared → Prop), Inv X pins σ H s → (∀ b ∈ fp, FpOk X pins H b) → tn i s.heap → J.stop i H →
    wpAny (model P w) X.A (pyNext (.ref it)) (fun r s1 => r = none ∧ Inv X pins σ H s1) E s
  self : ∀ (A : Around) (i : Nat) (s : Shared) (Q : Value → Shared → Prop) (E : Value → Shared → Prop), tn i s.heap → Q (.ref it) s → wpAny (model P w) A (pyIter (.ref it)) Q E s
abbrev TI := St → Hp → (It → Hp → Prop) → Prop
def PIE (X : Cx) (pins : List (Addr × Obj)) (σ : St) (tg : Expr) (R : It → Hp → Prop) (itv : Value) (s2 : Shared) : Prop :=
  ∃ (it : Addr) (fp : List Addr) (tn : Nat → Heap → Prop) (J : It) (H' : Hp), itv = .ref it ∧ Inv X pins σ H' s2 ∧ Turn X.prog X.w X.K tg J fp it tn ∧ tn 0 s2.heap ∧ (∀ b ∈ fp, FpOk X pins H' b) ∧ R J H'
def PI (X : Cx) (tg iter : Expr) (wi : TI) : Prop :=
  ∀ (pins : List (Addr × Obj)) (s : Shared) (σ : St) (H : Hp) (R : It → Hp → Prop), Inv X pins σ H s → wi σ H R →
    wpAny (model X.prog X.w) X.A (eval iter X.env) (fun v s1 => wpAny (model X.prog X.w) X.A (pyIter v) (PIE X pins σ tg R) X.xe s1) X.xe s
theorem go_of {M : Model} {A : Around} {E : Value → Shared → Prop} {s : Shared} {tg : Expr} {it : Addr} {u : Value} {o : Obj} {n : String} {vs : Array Value} {Q : Unit → Shared → Prop} (ho : s.heap.get? it = some o) (hc : o.cls = .type n) (hd : o.data = .fields vs)
    (hn : ["enumerate", "zip", "dict_itemiterator", "dict_reverseitemiterator", "odict_iterator", "itertools.zip_longest", "itertools.pairwise"].contains n = false) (hQ : Q () s) : wpAny M A (letOwnedTupleGo tg (.ref it) u) Q E s := by
  unfold letOwnedTupleGo
  cases tg <;> first
    | exact wpAny_pure hQ
    | (cases u <;> first
        | exact wpAny_pure hQ
        | (refine wpAny_bind (wpAny_load ho ?_)
           rw [hc, hd]
           show wpAny M A (if (["enumerate", "zip", "dict_itemiterator", "dict_reverseitemiterator", "odict_iterator", "itertools.zip_longest", "itertools.pairwise"].contains n && vs[0]? == some (rawInt _)) = true then _ else _) Q E s
           rw [if_neg (by intro h; rw [hn, Bool.false_and] at h; cases h)]
           exact wpAny_pure hQ))
def Itl (K : PySem.W.Frag) (a : Addr) : It :=
  ⟨fun i H => ∃ xs x, SqL K H a xs ∧ xs[i]? = some x, fun i H x H' => H' = H ∧ ∀ xs, SqL K H a xs → xs[i]? = some x, fun i H => ∃ xs, SqL K H a xs ∧ xs.length ≤ i⟩
def Itt (K : PySem.W.Frag) (a : Addr) : It :=
  ⟨fun i H => ∃ xs x, SqT K H a xs ∧ xs[i]? = some x, fun i H x H' => H' = H ∧ ∀ xs, SqT K H a xs → xs[i]? = some x, fun i H => ∃ xs, SqT K H a xs ∧ xs.length ≤ i⟩
def Itr (lo : Int) (n : Nat) : It := ⟨fun i _ => i < n, fun i H x H' => H' = H ∧ x = .int (lo + i), fun i _ => n ≤ i⟩
theorem turn_list {P : Program} {w : World} {K : PySem.W.Frag} {tg : Expr} (a it : Addr) : Turn P w K tg (Itl K a) [it] it (fun i h => h.IsListIter it a i) where
  mem := by simp
  obj := fun i h st b hb => by
    have e : b = it := by simpa using hb
    subst e
    obtain ⟨o, e, c, d⟩ := st
    exact ⟨o, e, fun v z => by rw [d] at z; cases z⟩
  keep := fun i h h' st k => st.at fun o e => k it (by simp) o e
  item := by
    intro X hP hw hK hc i pins s σ H E I hf st hg
    subst hP hw hK
    obtain ⟨xs, x, hq, hx⟩ := hg
    obtain ⟨its, rv, p, hz⟩ := I.list hq
    obtain ⟨u, hu, ru⟩ := rv.get hx
    obtain ⟨f0, f1, f2, f3, f4, f5⟩ := hf it (by simp)
    refine wpAny_pyNext_list_item st p.isList (x := u) (by simpa using hu) fun h' st' sb => ?_
    have I1 : Inv X pins σ H { s with heap := h' } := I.turned (t' := s.toks) (fun b o hb e => (sb.2 b hb).trans e) f0 f1 f3 f4 f5
    obtain ⟨o, e, c, d⟩ := id st'
    exact ⟨u, rfl, go_of (s := { s with heap := h' }) e c d (by decide) ⟨x, H, I1, ru, ⟨rfl, fun ys hy => by rw [I.list_inj hy hq]; exact hx⟩, st', fun b hb => (hf b hb).1⟩⟩
  done := by
    intro X hP hw hK hc i pins s σ H E I hf st hg
    subst hP hw hK
    obtain ⟨xs, hq, hx⟩ := hg
    obtain ⟨its, rv, p, hz⟩ := I.list hq
    obtain ⟨f0, f1, f2, f3, f4, f5⟩ := hf it (by simp)
    have hl := rv.length
    exact wpAny_pyNext_list_end (I.ok.hd hc) st p.isList (by simp; omega) fun h' eb => ⟨rfl, I.turned (t' := s.toks) (fun b o hb e => eb b o hb e) f0 f1 f3 f4 f5⟩
  self := fun _ _ _ _ _ st h => wpAny_pyIter_listiter st h
theorem turn_tuple {P : Program} {w : World} {K : PySem.W.Frag} {tg : Expr} (a it : Addr) : Turn P w K tg (Itt K a) [it] it (fun i h => h.IsTupleIter it a i) where
  mem := by simp
  obj := fun i h st b hb => by
    have e : b = it := by simpa using hb
    subst e
    obtain ⟨o, e, c, d⟩ := st
    exact ⟨o, e, fun v z => by rw [d] at z; cases z⟩
  keep := fun i h h' st k => st.at fun o e => k it (by simp) o e
  item := by
    intro X hP hw hK hc i pins s σ H E I hf st hg
    subst hP hw hK
    obtain ⟨xs, x, hq, hx⟩ := hg
    obtain ⟨its, rv, p, hz⟩ := I.tuple hq
    obtain ⟨u, hu, ru⟩ := rv.get hx
    obtain ⟨f0, f1, f2, f3, f4, f5⟩ := hf it (by simp)
    refine wpAny_pyNext_tuple_item st (show s.heap.IsTuple a its.toArray from p) (x := u) (by simpa using hu) fun h' st' sb => ?_
    have I1 : Inv X pins σ H { s with heap := h' } := I.turned (t' := s.toks) (fun b o hb e => (sb.2 b hb).trans e) f0 f1 f3 f4 f5
    obtain ⟨o, e, c, d⟩ := id st'
    exact ⟨u, rfl, go_of (s := { s with heap := h' }) e c d (by decide) ⟨x, H, I1, ru, ⟨rfl, fun ys hy => by rw [I.tuple_inj hy hq]; exact hx⟩, st', fun b hb => (hf b hb).1⟩⟩
  done := by
    intro X hP hw hK hc i pins s σ H E I hf st hg
    subst hP hw hK
    obtain ⟨xs, hq, hx⟩ := hg
    obtain ⟨its, rv, p, hz⟩ := I.tuple hq
    obtain ⟨f0, f1, f2, f3, f4, f5⟩ := hf it (by simp)
    have hl := rv.length
    exact wpAny_pyNext_tuple_end (I.ok.hd hc) st (show s.heap.IsTuple a its.toArray from p) (by simp; omega) fun h' eb => ⟨rfl, I.turned (t' := s.toks) (fun b o hb e => eb b o hb e) f0 f1 f3 f4 f5⟩
  self := fun _ _ _ _ _ st h => wpAny_pyIter_tupleiter st h
theorem turn_range {P : Program} {w : World} {K : PySem.W.Frag} {tg : Expr} (it : Addr) (lo : Int) (n : Nat) : Turn P w K tg (Itr lo n) [it] it (fun i h => IsRangeIter h it (lo + (i : Nat) * 1) ((n : Int) - (i : Nat)) 1) where
  mem := by simp
  obj := fun i h st b hb => by
    have e : b = it := by simpa using hb
    subst e
    exact ⟨_, st, fun v z => by
      have z' : Data.fields _ = Data.cell v := z
      cases z'⟩
  keep := fun i h h' st k => k it (by simp) _ st
  item := by
    intro X hP hw hK hc i pins s σ H E I hf st hg
    subst hP hw hK
    obtain ⟨f0, f1, f2, f3, f4, f5⟩ := hf it (by simp)
    have W := Walks.range (prog := X.prog) (w := X.w) (I.ok.hd hc) it lo 1 n
    refine W.item i s _ _ hg st fun v h' tk hv st' kk => ?_
    obtain ⟨t, rfl⟩ := hv
    have I1 : Inv X pins σ H { s with heap := h', toks := tk } := I.turned (fun b o hb e => kk b o (by simpa using hb) e) f0 f1 f3 f4 f5
    refine ⟨_, rfl, go_of (s := { s with heap := h', toks := tk }) (n := "range_iterator") st' rfl rfl (by decide) ⟨.int (lo + i), H, I1, ⟨t, ?_⟩, ⟨rfl, rfl⟩, st', fun b hb => (hf b hb).1⟩⟩
    rw [Int.mul_one]
  done := by
    intro X hP hw hK hc i pins s σ H E I hf st hg
    subst hP hw hK
    obtain ⟨f0, f1, f2, f3, f4, f5⟩ := hf it (by simp)
    exact wpAny_pyNext_range_end (I.ok.hd hc) st (by have : n ≤ i := hg; omega) fun h' eb => ⟨rfl, I.turned (t' := s.toks) (fun b o hb e => eb b o hb e) f0 f1 f3 f4 f5⟩
  self := fun _ _ _ _ _ st h => wpAny_pyIter_rangeiter st h
end L2
namespace L2
open PySem PySem.Spec PyProof.Rows
section
variable {X : Cx} {tg : Expr}
def iList (K : PySem.W.Frag) (tl : TE) : TI := fun σ H R => tl σ H fun x H1 => ∃ a, x = .ref a ∧ (∃ xs, SqL K H1 a xs) ∧ R (Itl K a) H1
def iTup (K : PySem.W.Frag) (tl : TE) : TI := fun σ H R => tl σ H fun x H1 => ∃ a, x = .ref a ∧ (∃ xs, SqT K H1 a xs) ∧ R (Itt K a) H1
theorem pi_list {l : Expr} {tl : TE} (hl : PE X l tl) : PI X tg l (iList X.K tl) := by
  intro pins s σ H R I h
  refine thn (hl pins s σ H _ I h) fun v s1 ⟨x, H1, I1, r1, q1⟩ => ?_
  obtain ⟨a, e, ⟨xs, hq⟩, q⟩ := q1
  subst e
  cases r1
  obtain ⟨its, rv, p, hz⟩ := I1.list hq
  refine wpAny_pyIter_list p.isList ?_
  refine ⟨s1.heap.objs.size, [s1.heap.objs.size], _, _, H1, rfl, I1.kept (t' := s1.toks) fun b o e => Heap.get?_push_of_some _ e, turn_list a _, ⟨_, Heap.get?_push_size _ rfl, rfl, rfl⟩, fun b hb => ?_, q⟩
  have e : b = s1.heap.objs.size := by simpa using hb
  subst e
  exact I1.fpOk (Nat.le_refl _) (I1.hok.fresh (Nat.le_refl _))
theorem pi_tup {l : Expr} {tl : TE} (hl : PE X l tl) : PI X tg l (iTup X.K tl) := by
  intro pins s σ H R I h
  refine thn (hl pins s σ H _ I h) fun v s1 ⟨x, H1, I1, r1, q1⟩ => ?_
  obtain ⟨a, e, ⟨xs, hq⟩, q⟩ := q1
  subst e
  cases r1
  obtain ⟨its, rv, p, hz⟩ := I1.tuple hq
  refine wpAny_pyIter_tuple (show s1.heap.IsTuple a its.toArray from p) ?_
  refine ⟨s1.heap.objs.size, [s1.heap.objs.size], _, _, H1, rfl, I1.kept (t' := s1.toks) fun b o e => Heap.get?_push_of_some _ e, turn_tuple a _, ⟨_, Heap.get?_push_size _ rfl, rfl, rfl⟩, fun b hb => ?_, q⟩
  have e : b = s1.heap.objs.size := by simpa using hb
  subst e
  exact I1.fpOk (Nat.le_refl _) (I1.hok.fresh (Nat.le_refl _))
theorem range_it {pins : List (Addr × Obj)} {σ : St} {H : Hp} {s : Shared} {R : It → Hp → Prop} {E : Value → Shared → Prop} {lo hi : Int} {t u v : Tok} {tk : Nat} (I : Inv X pins σ H s) (h1 : -(2 ^ 62) ≤ lo) (h2 : lo < 2 ^ 62) (h3 : -(2 ^ 62) ≤ hi) (h4 : hi < 2 ^ 62)
    (q : R (Itr lo (hi - lo).toNat) H) : wpAny (model X.prog X.w) X.A (pyIter (.ref s.heap.objs.size)) (PIE X pins σ tg R) E { s with heap := s.heap.push { cls := .type "range", data := .fields #[.int lo t, .int hi u, .int 1 v] }, toks := tk } := by
  refine wpAny_pyIter_range (IsRange.new ..) (small_one h1 h2 h3 h4) ?_
  have I1 : Inv X pins σ H { s with heap := s.heap.push { cls := .type "range", data := .fields #[.int lo t, .int hi u, .int 1 v] }, toks := tk } := I.kept fun b o e => Heap.get?_push_of_some _ e
  refine ⟨(s.heap.push { cls := .type "range", data := .fields #[.int lo t, .int hi u, .int 1 v] }).objs.size, [(s.heap.push { cls := .type "range", data := .fields #[.int lo t, .int hi u, .int 1 v] }).objs.size], _, _, H, rfl,
    I1.kept (t' := tk) fun b o e => Heap.get?_push_of_some _ e, turn_range _ lo (hi - lo).toNat, ?_, fun b hb => ?_, q⟩
  · have e1 : lo + ((0 : Nat) : Int) * 1 = lo := by simp
    have e2 : (((hi - lo).toNat : Nat) : Int) - ((0 : Nat) : Int) = Builtin.Range.rangeSize lo hi 1 := by rw [rangeSize_one]; split <;> omega
    show IsRangeIter _ _ (lo + ((0 : Nat) : Int) * 1) ((((hi - lo).toNat : Nat) : Int) - ((0 : Nat) : Int)) 1
    rw [e1, e2]
    exact Heap.get?_push_size _ rfl
  · have e : b = (s.heap.push { cls := .type "range", data := .fields #[.int lo t, .int hi u, .int 1 v] }).objs.size := by simpa using hb
    subst e
    exact I1.fpOk (Nat.le_refl _) (I1.hok.fresh (Nat.le_refl _))
def iRng1 (ta : TA) : TI := fun σ H R => ta σ H fun vs H1 => ∃ j : Int, vs = [.int j] ∧ -(2 ^ 62) ≤ j ∧ j < 2 ^ 62 ∧ R (Itr 0 j.toNat) H1
def iRng2 (ta : TA) : TI := fun σ H R => ta σ H fun vs H1 => ∃ i j : Int, vs = [.int i, .int j] ∧ (-(2 ^ 62) ≤ i ∧ i < 2 ^ 62 ∧ -(2 ^ 62) ≤ j ∧ j < 2 ^ 62) ∧ R (Itr i (j - i).toNat) H1
theorem pi_range1 {a : Expr} {ta : TA} {p pos : Pos} (hg : Gl X "range") (hm : X.mg "range" = none) (ha : PA X [a] ta) (hs : starEach [a] X.env = [(false, eval a X.env)] := by rfl) : PI X tg (.Call (.Name "range" p) [a] [] pos) (iRng1 ta) := by
  intro pins s σ H R I h
  refine Call_ (ld_blt I hg hm boot_range (PyProof.Rows.callWith_type1 (thn (ha pos pins s σ H _ I h) fun us s1 ⟨vs, H1, I1, r1, q1⟩ => ?_) hs rfl))
  obtain ⟨j, e, q1, q2, q⟩ := q1
  subst e
  cases r1 with
  | cons r rr =>
    cases rr
    obtain ⟨t, rfl⟩ := r
    exact call_range_1 (range_it I1 (by omega) (by omega) q1 q2 (by simpa using q))
theorem pi_range2 {a b : Expr} {ta : TA} {p pos : Pos} (hg : Gl X "range") (hm : X.mg "range" = none) (ha : PA X [a, b] ta) (hs : starEach [a, b] X.env = [(false, eval a X.env), (false, eval b X.env)] := by rfl) (hs2 : starEach [b] X.env = [(false, eval b X.env)] := by rfl) :
    PI X tg (.Call (.Name "range" p) [a, b] [] pos) (iRng2 ta) := by
  intro pins s σ H R I h
  refine Call_ (ld_blt I hg hm boot_range (PyProof.Rows.callWith_type1 (thn (ha pos pins s σ H _ I h) fun us s1 ⟨vs, H1, I1, r1, q1⟩ => ?_) (by rw [hs, hs2]) (by rw [hs2]; rfl)))
  obtain ⟨i, j, e, ⟨q1, q2, q3, q4⟩, q⟩ := q1
  subst e
  cases r1 with
  | cons r rr =>
    cases rr with
    | cons r' rr =>
      cases rr
      obtain ⟨t, rfl⟩ := r
      obtain ⟨t', rfl⟩ := r'
      exact call_range_2 (range_it I1 q1 q2 q3 q4 q)
def tFor (wi : TI) (g : TG) (tb : TS) : TS := fun D σ H => wi σ H fun J H1 => ∃ W : Nat → Nat → St → Hp → Prop, (∃ m, W 0 m σ H1) ∧ ∀ i m σ H, W i m σ H →
  (J.stop i H ∧ D.nx σ H) ∨ (J.go i H ∧ ∃ N : St → Hp → Prop, (∀ σ' H', N σ' H' → ∃ m', m' < m ∧ W (i + 1) m' σ' H') ∧ ∀ x H', J.yld i H x H' → g x σ H' fun σ2 H2 => tb { D with nx := N, ct := N, bk := D.nx } σ2 H2)
def pinsAt (fp : List Addr) (h : Heap) : List (Addr × Obj) := fp.filterMap fun b => (h.get? b).map fun o => (b, o)
theorem mem_pinsAt {fp : List Addr} {h : Heap} {b : Addr} {o : Obj} (hb : b ∈ fp) (e : h.get? b = some o) : (b, o) ∈ pinsAt fp h := List.mem_filterMap.mpr ⟨b, hb, by rw [e]; rfl⟩
theorem of_pinsAt {fp : List Addr} {h : Heap} {p : Addr × Obj} (hp : p ∈ pinsAt fp h) : p.1 ∈ fp ∧ h.get? p.1 = some p.2 := by
  obtain ⟨b, hb, e⟩ := List.mem_filterMap.mp hp
  cases q : h.get? b with
  | none => rw [q] at e; cases e
  | some o =>
    rw [q] at e
    have e' : (b, o) = p := Option.some.inj e
    subst e'
    exact ⟨hb, q⟩
theorem Inv.pinned {pins : List (Addr × Obj)} {σ : St} {H : Hp} {s : Shared} {fp : List Addr} (I : Inv X pins σ H s) (hf : ∀ b ∈ fp, FpOk X pins H b) (ho : ∀ b ∈ fp, ∃ o, s.heap.get? b = some o ∧ ∀ v, o.data ≠ .cell v) : Inv X (pins ++ pinsAt fp s.heap) σ H s :=
  I.pins_of fun p hp => (List.mem_append.mp hp).elim (fun z => I.pin p (List.mem_append_right _ z)) fun z => by
    obtain ⟨hb, e⟩ := of_pinsAt z
    obtain ⟨f0, f1, f2, _⟩ := hf p.1 hb
    obtain ⟨o, e', d⟩ := ho p.1 hb
    rw [e] at e'; cases e'
    exact ⟨e, f0, f1, f2, d⟩
theorem Inv.unpinned {pins pl : List (Addr × Obj)} {σ : St} {H : Hp} {s : Shared} (I : Inv X (pins ++ pl) σ H s) : Inv X pins σ H s := I.pins_of fun p hp => I.pin p (List.mem_append_right _ (List.mem_append_left _ hp))
theorem ps_for {iter : Expr} {body : List Stmt} {wi : TI} {g : TG} {tb : TS} {pos : Pos} (hp : PassesOwn (model X.prog X.w) X.A X.env X.xe) (hc : X.calm = true) (hi : PI X tg iter wi) (hg : PG X tg g) (hb : PSs X body tb)
    (hs : ∀ x, foldedSetIterable iter X.env x = pure x := by intro _; rfl) : PS X (.For tg iter body [] pos) (tFor wi g tb) := by
  intro pins s σ H D I h
  refine wpAny_For (thn (hi pins s σ H _ I h) fun v s1 h1 => thn h1 fun itv s2 h2 => ?_) hs
  obtain ⟨it, fp, tn, J, H2, e, I2, T, st2, f2, W, ⟨m0, w0⟩, turn⟩ := h2
  subst e
  have stat : ∀ {H' : Hp}, (∀ b ∈ fp, H' b = none) → ∀ b ∈ fp, FpOk X pins H' b := fun hn b hb => ⟨hn b hb, (f2 b hb).2⟩
  refine codeAny_forLoop_any (fun n s' => ∃ i σ' H', Inv X pins σ' H' s' ∧ tn i s'.heap ∧ (∀ b ∈ fp, H' b = none) ∧ W i n σ' H') ?_ m0 ⟨0, σ, H2, I2, st2, fun b hb => (f2 b hb).1, w0⟩
  rintro n s3 ⟨i, σ3, H3, I3, st3, fr3, w3⟩
  rcases turn i n σ3 H3 w3 with ⟨stop, qn⟩ | ⟨go, N, hN, step⟩
  · refine wpAny_passesOwn hp (thn (T.done X rfl rfl rfl hc i pins s3 σ3 H3 X.xe I3 (stat fr3) st3 stop) fun r s4 ⟨hr, I4⟩ => ?_)
    subst hr
    exact wpAny_execs_nil ⟨σ3, H3, I4, qn⟩
  · refine wpAny_passesOwn hp (thn (T.item X rfl rfl rfl hc i pins s3 σ3 H3 X.xe I3 (stat fr3) st3 go) fun r s4 ⟨u, hr, h4⟩ => ?_)
    subst hr
    refine wpAny_passesOwn hp (thn h4 fun _ s5 ⟨x, H5, I5, r5, y5, st5, fr5⟩ => ?_)
    have I5' := I5.pinned (stat fr5) (T.obj _ _ st5)
    refine wpAny_passesOwn hp (thn (hg _ s5 σ3 H5 x u _ I5' r5 (step x H5 y5)) fun _ s6 ⟨σ6, H6, I6, q6⟩ => ?_)
    refine wpAny_passesOwn hp (thn (hb _ s6 σ6 H6 _ I6 q6) fun f s7 q7 => ?_)
    have again : ∀ {σ7 : St} {H7 : Hp}, Inv X (pins ++ pinsAt fp s5.heap) σ7 H7 s7 → N σ7 H7 → ∃ m, m < n ∧ ∃ i σ' H', Inv X pins σ' H' s7 ∧ tn i s7.heap ∧ (∀ b ∈ fp, H' b = none) ∧ W i m σ' H' := fun {σ7 H7} I7 n7 => by
      obtain ⟨m', hm, w7⟩ := hN σ7 H7 n7
      refine ⟨m', hm, i + 1, σ7, H7, I7.unpinned, T.keep _ _ _ st5 fun b hb o e => (I7.pin (b, o) (List.mem_append_right _ (List.mem_append_right _ (mem_pinsAt hb e)))).1, fun b hb => ?_, w7⟩
      obtain ⟨o, e, d⟩ := T.obj _ _ st5 b hb
      exact (I7.pin (b, o) (List.mem_append_right _ (List.mem_append_right _ (mem_pinsAt hb e)))).2.1
    cases f with
    | next => obtain ⟨σ7, H7, I7, n7⟩ := q7; exact again I7 n7
    | cont => obtain ⟨σ7, H7, I7, n7⟩ := q7; exact again I7 n7
    | brk => obtain ⟨σ7, H7, I7, q7⟩ := q7; exact ⟨σ7, H7, I7.unpinned, q7⟩
    | ret v => obtain ⟨x7, σ7, H7, I7, r7, q7⟩ := q7; exact ⟨x7, σ7, H7, I7.unpinned, r7, q7⟩
end
theorem for_list {K : PySem.W.Frag} {a : Addr} {xs : List V} {g : TG} {tb : TS} {D : Ends} {σ : St} {H : Hp} (Pv : Nat → St → Hp → Prop) (h0 : Pv 0 σ H) (hl : ∀ i σ H, i ≤ xs.length → Pv i σ H → SqL K H a xs)
    (hs : ∀ i x σ H, xs[i]? = some x → Pv i σ H → g x σ H fun σ2 H2 => tb { D with nx := Pv (i + 1), ct := Pv (i + 1), bk := D.nx } σ2 H2) (hd : ∀ σ H, Pv xs.length σ H → D.nx σ H) :
    ∃ W : Nat → Nat → St → Hp → Prop, (∃ m, W 0 m σ H) ∧ ∀ i m σ H, W i m σ H →
      ((Itl K a).stop i H ∧ D.nx σ H) ∨ ((Itl K a).go i H ∧ ∃ N : St → Hp → Prop, (∀ σ' H', N σ' H' → ∃ m', m' < m ∧ W (i + 1) m' σ' H') ∧ ∀ x H', (Itl K a).yld i H x H' → g x σ H' fun σ2 H2 => tb { D with nx := N, ct := N, bk := D.nx } σ2 H2) := by
  refine ⟨fun i m σ H => m = xs.length - i ∧ i ≤ xs.length ∧ Pv i σ H, ⟨xs.length, by simp, Nat.zero_le _, h0⟩, ?_⟩
  rintro i m σ H ⟨rfl, hi, p⟩
  have q := hl i σ H hi p
  by_cases hlt : i < xs.length
  · refine .inr ⟨⟨xs, xs[i], q, by simp [hlt]⟩, Pv (i + 1), fun σ' H' p' => ⟨xs.length - (i + 1), by omega, rfl, hlt, p'⟩, fun x H' y => ?_⟩
    obtain ⟨e, y⟩ := y
    subst e
    exact hs i x σ _ (y xs q) p
  · have e : i = xs.length := by omega
    subst e
    exact .inl ⟨⟨xs, q, Nat.le_refl _⟩, hd σ H p⟩
theorem for_tup {K : PySem.W.Frag} {a : Addr} {xs : List V} {g : TG} {tb : TS} {D : Ends} {σ : St} {H : Hp} (Pv : Nat → St → Hp → Prop) (h0 : Pv 0 σ H) (hl : ∀ i σ H, i ≤ xs.length → Pv i σ H → SqT K H a xs)
    (hs : ∀ i x σ H, xs[i]? = some x → Pv i σ H → g x σ H fun σ2 H2 => tb { D with nx := Pv (i + 1), ct := Pv (i + 1), bk := D.nx } σ2 H2) (hd : ∀ σ H, Pv xs.length σ H → D.nx σ H) :
    ∃ W : Nat → Nat → St → Hp → Prop, (∃ m, W 0 m σ H) ∧ ∀ i m σ H, W i m σ H →
      ((Itt K a).stop i H ∧ D.nx σ H) ∨ ((Itt K a).go i H ∧ ∃ N : St → Hp → Prop, (∀ σ' H', N σ' H' → ∃ m', m' < m ∧ W (i + 1) m' σ' H') ∧ ∀ x H', (Itt K a).yld i H x H' → g x σ H' fun σ2 H2 => tb { D with nx := N, ct := N, bk := D.nx } σ2 H2) := by
  refine ⟨fun i m σ H => m = xs.length - i ∧ i ≤ xs.length ∧ Pv i σ H, ⟨xs.length, by simp, Nat.zero_le _, h0⟩, ?_⟩
  rintro i m σ H ⟨rfl, hi, p⟩
  have q := hl i σ H hi p
  by_cases hlt : i < xs.length
  · refine .inr ⟨⟨xs, xs[i], q, by simp [hlt]⟩, Pv (i + 1), fun σ' H' p' => ⟨xs.length - (i + 1), by omega, rfl, hlt, p'⟩, fun x H' y => ?_⟩
    obtain ⟨e, y⟩ := y
    subst e
    exact hs i x σ _ (y xs q) p
  · have e : i = xs.length := by omega
    subst e
    exact .inl ⟨⟨xs, q, Nat.le_refl _⟩, hd σ H p⟩
theorem for_range {lo : Int} {n : Nat} {g : TG} {tb : TS} {D : Ends} {σ : St} {H : Hp} (Pv : Nat → St → Hp → Prop) (h0 : Pv 0 σ H)
    (hs : ∀ i σ H, i < n → Pv i σ H → g (.int (lo + i)) σ H fun σ2 H2 => tb { D with nx := Pv (i + 1), ct := Pv (i + 1), bk := D.nx } σ2 H2) (hd : ∀ σ H, Pv n σ H → D.nx σ H) :
    ∃ W : Nat → Nat → St → Hp → Prop, (∃ m, W 0 m σ H) ∧ ∀ i m σ H, W i m σ H →
      ((Itr lo n).stop i H ∧ D.nx σ H) ∨ ((Itr lo n).go i H ∧ ∃ N : St → Hp → Prop, (∀ σ' H', N σ' H' → ∃ m', m' < m ∧ W (i + 1) m' σ' H') ∧ ∀ x H', (Itr lo n).yld i H x H' → g x σ H' fun σ2 H2 => tb { D with nx := N, ct := N, bk := D.nx } σ2 H2) := by
  refine ⟨fun i m σ H => m = n - i ∧ i ≤ n ∧ Pv i σ H, ⟨n, by simp, Nat.zero_le _, h0⟩, ?_⟩
  rintro i m σ H ⟨rfl, hi, p⟩
  by_cases hlt : i < n
  · refine .inr ⟨hlt, Pv (i + 1), fun σ' H' p' => ⟨n - (i + 1), by omega, rfl, hlt, p'⟩, fun x H' y => ?_⟩
    obtain ⟨e, y⟩ := y
    subst e y
    exact hs i σ _ hlt p
  · have e : i = n := by omega
    subst e
    exact .inl ⟨Nat.le_refl _, hd σ H p⟩
end L2
namespace L2
open PySem PySem.Spec PyProof.Rows
abbrev R2 := V → V → Hp → VK → Prop
def OpR (X : Cx) (f : Value → Value → Sem Value) (r : R2) : Prop :=
  ∀ (pins : List (Addr × Obj)) (s : Shared) (σ : St) (H : Hp) (x y : V) (v u : Value) (Q : VK), Inv X pins σ H s → RelV x v → RelV y u → r x y H Q →
    wpAny (model X.prog X.w) X.A (f v u) (EP X pins σ Q) X.xe s
def UnR (X : Cx) (f : Value → Sem Value) (r : V → Hp → VK → Prop) : Prop :=
  ∀ (pins : List (Addr × Obj)) (s : Shared) (σ : St) (H : Hp) (x : V) (v : Value) (Q : VK), Inv X pins σ H s → RelV x v → r x H Q →
    wpAny (model X.prog X.w) X.A (f v) (EP X pins σ Q) X.xe s
def CallR (X : Cx) (f : Value) (r : List V → Hp → VK → Prop) : Prop :=
  ∀ (pins : List (Addr × Obj)) (s : Shared) (σ : St) (H : Hp) (xs : List V) (us : List Value) (Q : VK), Inv X pins σ H s → Vals xs us → r xs H Q →
    wpAny (model X.prog X.w) X.A (call f us) (EP X pins σ Q) X.xe s
def tOp (r : R2) (ta tb : TE) : TE := fun σ H Q => ta σ H fun x H1 => tb σ H1 fun y H2 => r x y H2 Q
def tUn (r : V → Hp → VK → Prop) (ta : TE) : TE := fun σ H Q => ta σ H fun x H1 => r x H1 Q
def rI (C : Int → Int → Prop) (g : Int → Int → V) : R2 := fun x y H Q => ∃ i j, x = .int i ∧ y = .int j ∧ C i j ∧ Q (g i j) H
def rI0 (g : Int → Int → V) : R2 := fun x y H Q => ∃ i j, x = .int i ∧ y = .int j ∧ Q (g i j) H
def rU (g : Int → V) : V → Hp → VK → Prop := fun x H Q => ∃ i, x = .int i ∧ Q (g i) H
section
variable {X : Cx} {a b c : Expr} {ta tb tc : TE} {pos : Pos}
theorem binT (ha : PE X a ta) (hb : PE X b tb) {pins : List (Addr × Obj)} {s : Shared} {σ : St} {H : Hp} {R : V → V → Hp → Prop} (I : Inv X pins σ H s)
    (h : ta σ H fun x H1 => tb σ H1 fun y H2 => R x y H2) {Q : Value → Shared → Prop} {f : Value → Value → Sem Value}
    (hf : ∀ v u s2 x y H2, Inv X pins σ H2 s2 → RelV x v → RelV y u → R x y H2 → wpAny (model X.prog X.w) X.A (f v u) Q X.xe s2) :
    wpAny (model X.prog X.w) X.A (eval a X.env) (fun v s₁ => wpAny (model X.prog X.w) X.A (eval b X.env) (fun u s₂ => wpAny (model X.prog X.w) X.A (f v u) Q X.xe s₂) X.xe s₁) X.xe s := by
  refine thn (ha pins s σ H _ I h) fun v s1 ⟨x, H1, I1, r1, q1⟩ => ?_
  refine thn (hb pins s1 σ H1 _ I1 q1) fun u s2 ⟨y, H2, I2, r2, q2⟩ => ?_
  exact hf v u s2 x y H2 I2 r1 r2 q2
theorem pe_op {op : Operator} {r : R2} (ho : OpR X (binaryOp op) r) (ha : PE X a ta) (hb : PE X b tb) : PE X (.BinOp a op b pos) (tOp r ta tb) := by
  intro pins s σ H Q I h
  exact wpAny_BinOp (binT ha hb I h fun v u s2 x y H2 I2 rx ry q => ho pins s2 σ H2 x y v u Q I2 rx ry q)
theorem pe_un {op : UnaryOp} {r : V → Hp → VK → Prop} (ho : UnR X (unaryOp op) r) (ha : PE X a ta) : PE X (.UnaryOp op a pos) (tUn r ta) := by
  intro pins s σ H Q I h
  exact UnaryOp_ (thn (ha pins s σ H _ I h) fun v s1 ⟨x, H1, I1, r1, q1⟩ => ho pins s1 σ H1 x v Q I1 r1 q1)
theorem opI {f : Value → Value → Sem Value} {C : Int → Int → Prop} {g : Int → Int → Int}
    (rule : ∀ (i j : Int) (t u : Tok) (s : Shared) (Q : Value → Shared → Prop) (E : Value → Shared → Prop), C i j → Q (.int (g i j) s.toks) { s with toks := s.toks + 1 } → wpAny (model X.prog X.w) X.A (f (.int i t) (.int j u)) Q E s) :
    OpR X f (rI C fun i j => .int (g i j)) := by
  intro pins s σ H x y v u Q I rx ry h
  obtain ⟨i, j, rfl, rfl, hc, q⟩ := h
  obtain ⟨t, rfl⟩ := rx
  obtain ⟨t', rfl⟩ := ry
  exact rule i j t t' s _ _ hc ⟨.int (g i j), H, I.tok _, ⟨_, rfl⟩, q⟩
theorem opI0 {f : Value → Value → Sem Value} {g : Int → Int → Int}
    (rule : ∀ (i j : Int) (t u : Tok) (s : Shared) (Q : Value → Shared → Prop) (E : Value → Shared → Prop), Q (.int (g i j) s.toks) { s with toks := s.toks + 1 } → wpAny (model X.prog X.w) X.A (f (.int i t) (.int j u)) Q E s) :
    OpR X f (rI0 fun i j => .int (g i j)) := by
  intro pins s σ H x y v u Q I rx ry h
  obtain ⟨i, j, rfl, rfl, q⟩ := h
  obtain ⟨t, rfl⟩ := rx
  obtain ⟨t', rfl⟩ := ry
  exact rule i j t t' s _ _ ⟨.int (g i j), H, I.tok _, ⟨_, rfl⟩, q⟩
theorem opB0 {f : Value → Value → Sem Value} {g : Int → Int → Bool}
    (rule : ∀ (i j : Int) (t u : Tok) (s : Shared) (Q : Value → Shared → Prop) (E : Value → Shared → Prop), Q (.bool (g i j)) s → wpAny (model X.prog X.w) X.A (f (.int i t) (.int j u)) Q E s) :
    OpR X f (rI0 fun i j => .bl (g i j)) := by
  intro pins s σ H x y v u Q I rx ry h
  obtain ⟨i, j, rfl, rfl, q⟩ := h
  obtain ⟨t, rfl⟩ := rx
  obtain ⟨t', rfl⟩ := ry
  exact rule i j t t' s _ _ ⟨.bl (g i j), H, I, rfl, q⟩
def CDiv (i j : Int) : Prop := 0 < j ∧ j < 1073741824
def CPow (i j : Int) : Prop := 0 ≤ j ∧ j ≤ 1000000 ∧ i.natAbs < 2 ^ 64
def CMul (i j : Int) : Prop := (-(2 ^ 64) < i ∧ i < 2 ^ 64) ∨ (-(2 ^ 64) < j ∧ j < 2 ^ 64)
theorem CMul.ok {i j : Int} (h : CMul i j) : IntMulOk i j := by
  rcases h with ⟨h1, h2⟩ | ⟨h1, h2⟩
  · exact .of_left (intBits_le_64 h1 h2)
  · exact .of_right (intBits_le_64 h1 h2)
theorem op_add : OpR X (binaryOp .Add) (rI0 fun i j => .int (i + j)) := opI0 fun _ _ _ _ _ _ _ q => add_int q
theorem op_sub : OpR X (binaryOp .Sub) (rI0 fun i j => .int (i - j)) := opI0 fun _ _ _ _ _ _ _ q => sub_int q
theorem op_mul : OpR X (binaryOp .Mult) (rI CMul fun i j => .int (i * j)) := opI fun _ _ _ _ _ _ _ hc q => mul_int q hc.ok
theorem op_fdiv : OpR X (binaryOp .FloorDiv) (rI CDiv fun i j => .int (i / j)) := opI fun i j _ _ _ _ _ hc q => by
  have h1 : (0 : Int) < j := hc.1
  have h2 : j < 1073741824 := hc.2
  exact floordiv_int (by omega) (by rw [Int.fdiv_eq_ediv_of_nonneg i (by omega)]; exact q) (.inl (PyProof.noPylong_small (by omega)))
theorem op_mod : OpR X (binaryOp .Mod) (rI (fun _ j => 0 < j) fun i j => .int (i % j)) := opI fun i j _ _ _ _ _ hc q => by
  have h1 : (0 : Int) < j := hc
  exact mod_int' (by omega) (by rw [Int.fmod_eq_emod_of_nonneg i (by omega)]; exact q)
theorem op_pow : OpR X (binaryOp .Pow) (rI CPow fun i j => .int (i ^ j.toNat)) := opI fun _ _ _ _ _ _ _ hc q => pow_int_small hc.1 hc.2.1 hc.2.2 q
theorem unI {f : Value → Sem Value} {g : Int → Int}
    (rule : ∀ (i : Int) (t : Tok) (s : Shared) (Q : Value → Shared → Prop) (E : Value → Shared → Prop), Q (.int (g i) s.toks) { s with toks := s.toks + 1 } → wpAny (model X.prog X.w) X.A (f (.int i t)) Q E s) :
    UnR X f (rU fun i => .int (g i)) := by
  intro pins s σ H x v Q I rx h
  obtain ⟨i, rfl, q⟩ := h
  obtain ⟨t, rfl⟩ := rx
  exact rule i t s _ _ ⟨.int (g i), H, I.tok _, ⟨_, rfl⟩, q⟩
theorem un_neg : UnR X (unaryOp .USub) (rU fun i => .int (-i)) := unI fun _ _ _ _ _ q => neg_int q
end
def scal : V → V → Bool
  | .non, .non => true | .non, .int _ => true | .int _, .non => true | .non, .bl _ => true | .bl _, .non => true | .non, .str _ => true | .str _, .non => true
  | .int _, .int _ => true | .bl _, .bl _ => true | .str _, .str _ => true | .byt _, .byt _ => true
  | .int _, .str _ => true | .str _, .int _ => true | .bl _, .str _ => true | .str _, .bl _ => true
  | _, _ => false
def rEq : R2 := fun x y H Q => scal x y = true ∧ Q (.bl (decide (x = y))) H
def rNe : R2 := fun x y H Q => scal x y = true ∧ Q (.bl (!decide (x = y))) H
theorem dec_int {i j : Int} : decide (V.int i = V.int j) = (i == j) := by
  rw [Bool.eq_iff_iff]
  simp
theorem dec_bl {i j : Bool} : decide (V.bl i = V.bl j) = (i == j) := by
  rw [Bool.eq_iff_iff]
  simp
theorem dec_str {i j : Str} : decide (V.str i = V.str j) = (i == j) := by
  rw [Bool.eq_iff_iff]
  simp
theorem dec_byt {i j : Array UInt8} : decide (V.byt i = V.byt j) = (i.toList == j.toList) := by
  rw [Bool.eq_iff_iff]
  cases i
  cases j
  simp
section
variable {X : Cx} {a b c : Expr} {ta tb tc : TE} {pos : Pos}
theorem fin_bl {pins : List (Addr × Obj)} {σ : St} {H : Hp} {s : Shared} {Q : VK} {k k' : Bool} (I : Inv X pins σ H s) (q : Q (.bl k) H) (e : k = k') : EP X pins σ Q (.bool k') s := by
  subst e
  exact ⟨.bl k, H, I, rfl, q⟩
theorem op_eq : OpR X (compareOp .Eq) rEq := by
  intro pins s σ H x y v u Q I rx ry h
  obtain ⟨hs, q⟩ := h
  cases x with
  | non =>
    cases rx
    cases y with
    | non => cases ry; exact PySem.EqNone.eq_none_none (fin_bl I q (by simp))
    | bl j => cases ry; exact PySem.EqNone.eq_none_bool (fin_bl I q (by simp))
    | int j => obtain ⟨t', rfl⟩ := ry; exact PySem.EqNone.eq_none_int (fin_bl I q (by simp))
    | str j => obtain ⟨t', rfl⟩ := ry; exact PySem.EqNone.eq_none_str (fin_bl I q (by simp))
    | _ => exact absurd (show false = true from hs) Bool.false_ne_true
  | bl i =>
    cases rx
    cases y with
    | non => cases ry; exact PySem.EqNone.eq_bool_none (fin_bl I q (by simp))
    | bl j => cases ry; exact eq_bool (fin_bl I q dec_bl)
    | str j => obtain ⟨t', rfl⟩ := ry; exact PySem.EqMixed.eq_bool_str (fin_bl I q (by simp))
    | _ => exact absurd (show false = true from hs) Bool.false_ne_true
  | int i =>
    obtain ⟨t, rfl⟩ := rx
    cases y with
    | non => cases ry; exact PySem.EqNone.eq_int_none (fin_bl I q (by simp))
    | int j => obtain ⟨t', rfl⟩ := ry; exact eq_int (fin_bl I q dec_int)
    | str j => obtain ⟨t', rfl⟩ := ry; exact PySem.EqMixed.eq_int_str (fin_bl I q (by simp))
    | _ => exact absurd (show false = true from hs) Bool.false_ne_true
  | str i =>
    obtain ⟨t, rfl⟩ := rx
    cases y with
    | non => cases ry; exact PySem.EqNone.eq_str_none (fin_bl I q (by simp))
    | bl j => cases ry; exact PySem.EqMixed.eq_str_bool (fin_bl I q (by simp))
    | int j => obtain ⟨t', rfl⟩ := ry; exact PySem.EqMixed.eq_str_int (fin_bl I q (by simp))
    | str j => obtain ⟨t', rfl⟩ := ry; exact eq_str (fin_bl I q dec_str)
    | _ => exact absurd (show false = true from hs) Bool.false_ne_true
  | byt i =>
    obtain ⟨t, rfl⟩ := rx
    cases y with
    | byt j => obtain ⟨t', rfl⟩ := ry; exact PySem.W.eq_bytes (fin_bl I q dec_byt)
    | _ => exact absurd (show false = true from hs) Bool.false_ne_true
  | _ => cases y <;> exact absurd (show false = true from hs) Bool.false_ne_true
theorem op_ne : OpR X (compareOp .NotEq) rNe := by
  intro pins s σ H x y v u Q I rx ry h
  obtain ⟨hs, q⟩ := h
  cases x with
  | non =>
    cases rx
    cases y with
    | non => cases ry; exact PySem.EqNone.ne_none_none (fin_bl I q (by simp))
    | bl j => cases ry; exact PySem.EqNone.ne_none_bool (fin_bl I q (by simp))
    | int j => obtain ⟨t', rfl⟩ := ry; exact PySem.EqNone.ne_none_int (fin_bl I q (by simp))
    | str j => obtain ⟨t', rfl⟩ := ry; exact PySem.EqNone.ne_none_str (fin_bl I q (by simp))
    | _ => exact absurd (show false = true from hs) Bool.false_ne_true
  | bl i =>
    cases rx
    cases y with
    | non => cases ry; exact PySem.EqNone.ne_bool_none (fin_bl I q (by simp))
    | bl j => cases ry; exact ne_bool (fin_bl I q (congrArg not dec_bl))
    | str j => obtain ⟨t', rfl⟩ := ry; exact PySem.EqMixed.ne_bool_str (fin_bl I q (by simp))
    | _ => exact absurd (show false = true from hs) Bool.false_ne_true
  | int i =>
    obtain ⟨t, rfl⟩ := rx
    cases y with
    | non => cases ry; exact PySem.EqNone.ne_int_none (fin_bl I q (by simp))
    | int j => obtain ⟨t', rfl⟩ := ry; exact ne_int (fin_bl I q (congrArg not dec_int))
    | str j => obtain ⟨t', rfl⟩ := ry; exact PySem.EqMixed.ne_int_str (fin_bl I q (by simp))
    | _ => exact absurd (show false = true from hs) Bool.false_ne_true
  | str i =>
    obtain ⟨t, rfl⟩ := rx
    cases y with
    | non => cases ry; exact PySem.EqNone.ne_str_none (fin_bl I q (by simp))
    | bl j => cases ry; exact PySem.EqMixed.ne_str_bool (fin_bl I q (by simp))
    | int j => obtain ⟨t', rfl⟩ := ry; exact PySem.EqMixed.ne_str_int (fin_bl I q (by simp))
    | str j => obtain ⟨t', rfl⟩ := ry; exact ne_str (fin_bl I q (congrArg not dec_str))
    | _ => exact absurd (show false = true from hs) Bool.false_ne_true
  | byt i =>
    obtain ⟨t, rfl⟩ := rx
    cases y with
    | byt j => obtain ⟨t', rfl⟩ := ry; exact PySem.W.ne_bytes (fin_bl I q (congrArg not dec_byt))
    | _ => exact absurd (show false = true from hs) Bool.false_ne_true
  | _ => cases y <;> exact absurd (show false = true from hs) Bool.false_ne_true
theorem op_lt : OpR X (compareOp .Lt) (rI0 fun i j => .bl (decide (i < j))) := opB0 fun _ _ _ _ _ _ _ q => lt_int q
theorem op_le : OpR X (compareOp .LtE) (rI0 fun i j => .bl (decide (i ≤ j))) := opB0 fun _ _ _ _ _ _ _ q => le_int q
theorem op_gt : OpR X (compareOp .Gt) (rI0 fun i j => .bl (decide (j < i))) := opB0 fun _ _ _ _ _ _ _ q => gt_int q
theorem op_ge : OpR X (compareOp .GtE) (rI0 fun i j => .bl (decide (j ≤ i))) := opB0 fun _ _ _ _ _ _ _ q => ge_int q
theorem OpR.or {f : Value → Value → Sem Value} {r r' : R2} (h : OpR X f r) (h' : OpR X f r') : OpR X f (fun x y H Q => r x y H Q ∨ r' x y H Q) := by
  intro pins s σ H x y v u Q I rx ry q
  rcases q with q | q
  · exact h pins s σ H x y v u Q I rx ry q
  · exact h' pins s σ H x y v u Q I rx ry q
theorem nomark (b : Expr) {op : CmpOp} (h : op ≠ .In := by decide) (h2 : op ≠ .NotIn := by decide) : behindInMarks op b = false := by
  have e1 : (op == CmpOp.In) = false := by cases op <;> first | rfl | exact absurd rfl h
  have e2 : (op == CmpOp.NotIn) = false := by cases op <;> first | rfl | exact absurd rfl h2
  cases b <;> simp [behindInMarks, e1, e2]
theorem pe_cmpR {op : CmpOp} {r : R2} (ho : OpR X (compareOp op) r) (ha : PE X a ta) (hb : PE X b tb) (hm : behindInMarks op b = false) : PE X (.Compare a [op] [b] pos) (tOp r ta tb) := by
  intro pins s σ H Q I h
  exact wpAny_Compare1 (binT ha hb I h fun v u s2 x y H2 I2 rx ry q => ho pins s2 σ H2 x y v u Q I2 rx ry q) hm
def tTest (t : TE) : TT := fun σ H Q => t σ H fun x H' => ∃ k, x = .bl k ∧ Q k H'
theorem pt_cmpR {op : CmpOp} {r : R2} (ho : OpR X (compareOp op) r) (ha : PE X a ta) (hb : PE X b tb) (hm : behindInMarks op b = false) : PT X (.Compare a [op] [b] pos) (tTest (tOp r ta tb)) := by
  intro pins s σ H Q I h
  refine wpAny_isTrue_Compare1 (thn (ha pins s σ H _ I h) fun v s1 ⟨x, H1, I1, r1, q1⟩ => thn (hb pins s1 σ H1 _ I1 q1) fun u s2 ⟨y, H2, I2, r2, q2⟩ =>
    thn (ho pins s2 σ H2 x y v u _ I2 r1 r2 q2) fun c s3 ⟨z, H3, I3, r3, k, e, q3⟩ => ?_) hm
  subst e
  cases r3
  exact wpAny_truthy_bool ⟨H3, I3, q3⟩
theorem line63 : (sizeLine : Nat) < 2 ^ 63 := by rw [sizeLine_eq]; decide
theorem vals1 {x : V} {us : List Value} (r : Vals [x] us) : ∃ u, us = [u] ∧ RelV x u := by
  cases r with
  | cons r1 r2 => cases r2; exact ⟨_, rfl, r1⟩
theorem vals2 {x y : V} {us : List Value} (r : Vals [x, y] us) : ∃ u w', us = [u, w'] ∧ RelV x u ∧ RelV y w' := by
  cases r with
  | cons r1 r2 =>
    cases r2 with
    | cons r3 r4 => cases r4; exact ⟨_, _, rfl, r1, r3⟩
theorem call_max2 (hc : X.calm = true) : CallR X (.builtin "max") (fun xs H Q => ∃ i j, xs = [.int i, .int j] ∧ Q (.int (if j > i then j else i)) H) := by
  intro pins s σ H xs us Q I r h
  obtain ⟨i, j, rfl, q⟩ := h
  obtain ⟨u, w', rfl, ⟨t, rfl⟩, ⟨t', rfl⟩⟩ := vals2 r
  refine max_two_ints (I.ok.hd hc) fun h' tk k => ⟨_, H, I.kept k, ?_, q⟩
  by_cases hj : j > i
  · rw [if_pos hj, if_pos hj]; exact ⟨_, rfl⟩
  · rw [if_neg hj, if_neg hj]; exact ⟨_, rfl⟩
end
end L2
namespace L2
open PySem PySem.Spec PyProof.Rows
structure ObjM (h : Heap) (x dx C : Addr) (mA : Str → Option Value) : Prop where
  obj : h.get? x = some (PySem.W.instObj C dx)
  ns : h.Ns1 dx mA
  ne : dx ≠ x
theorem lookIn_ns {h : Heap} {dx : Addr} {mA : Str → Option Value} (n : h.Ns1 dx mA) : ∃ od, h.get? dx = some od ∧ ∀ name, PySem.W.lookIn name od = some (mA name) := by
  obtain ⟨o, es, ep, ho, hd, hk, _, hm⟩ := n
  refine ⟨o, ho, fun name => ?_⟩
  have e := hm name
  unfold nsFind findBy at e
  rw [← Array.find?_toList] at e
  unfold PySem.W.lookIn
  rw [hd]
  dsimp only
  split
  · rename_i y q
    rw [q] at e
    exact congrArg some e
  · rename_i q
    rw [q] at e
    have a : es.toList.any (·.refKey) = false := by
      rw [List.any_eq_false]
      intro y hy
      obtain ⟨z, t, hkey⟩ := hk y (Array.mem_toList_iff.mp hy)
      simp [DictEntry.refKey, hkey]
    have a' : ¬ es.toList.any (·.refKey) = true := by rw [a]; exact Bool.false_ne_true
    rw [if_neg a']
    exact congrArg some e
theorem ObjM.look {h : Heap} {x dx C : Addr} {mA : Str → Option Value} (I : ObjM h x dx C mA) : ∃ od, PySem.W.InstAt h x (PySem.W.instObj C dx) C (some od) ∧ ∀ name, PySem.W.lookIn name od = some (mA name) :=
  let ⟨od, ho, hl⟩ := lookIn_ns I.ns
  ⟨od, ⟨I.obj, rfl, rfl, ho⟩, hl⟩
section
variable {prog : Program} {w : World} {A : Around} {E : Value → Shared → Prop} {s : Shared} {K : PySem.W.Frag} {x dx C f : Addr} {mA : Str → Option Value} {name : Str} {v : Value}
theorem get_map {expr : Bool} {Q : Value → Shared → Prop} (X : K.In s.heap) (I : ObjM s.heap x dx C mA) (hg : PySem.W.plainGet K C name = true) (hh : PySem.W.hasDictIn K C = true)
    (ha : PySem.W.findIn K (.ref C) name = some none) (hv : mA name = some v) (hv' : PySem.W.handedIn v = true) (h : Q v { s with toks := s.toks + 1 }) :
    wpAny (model prog w) A (getAttr (.ref x) name expr) Q E s := by
  obtain ⟨od, J, hl⟩ := I.look
  exact PySem.W.get_value X J (PySem.W.plainGet_of hg).1 (PySem.W.findObj_own hh ha rfl (by rw [hl, hv])) hv' h
theorem get_meth {pl : Sem Bool} {Q : Value × List Value → Shared → Prop} (X : K.In s.heap) (I : ObjM s.heap x dx C mA) (hg : PySem.W.plainGet K C name = true)
    (hf : PySem.W.findIn K (.ref C) name = some (some (.ref f))) (ht : PySem.W.isFn K (.ref f) = true) (hv : mA name = none) (h : Q (.ref f, [.ref x]) s) :
    wpAny (model prog w) A (getMethod (.ref x) name pl) Q E s := by
  obtain ⟨od, J, hl⟩ := I.look
  exact PySem.W.method_fn X J (PySem.W.plainGet_of hg).1 (PySem.W.plainGet_of hg).2 hf (beq_iff_eq.mp ht) (by show (PySem.W.lookIn name od).map (·.isSome) = some false; rw [hl, hv]; rfl) h
theorem set_map {ns : List Str} {Q : Unit → Shared → Prop} (X : K.In s.heap) (I : ObjM s.heap x dx C mA)
    (hs : PySem.W.findIn K (.ref C) "__setattr__" = some (some (.builtin "object.__setattr__"))) (hp : PySem.W.plainOver K C = true) (ht : PySem.W.takerIn K C name = some none) (hh : PySem.W.hasDictIn K C = true)
    (hw : PySem.Within mA ns) (hsz : ns.length ≤ sizeLine)
    (h : ∀ h', ObjM h' x dx C (fun y => if y = name then some v else mA y) → Heap.SameBut dx s.heap h' → Q () { s with heap := h', toks := s.toks + 2 }) :
    wpAny (model prog w) A (setAttr (.ref x) name v) Q E s := by
  obtain ⟨od, J, hl⟩ := I.look
  refine PySem.W.set_plain X J hs (PySem.W.osa_open (s := { s with toks := s.toks + 1 }) (r := none) X J hp ht fun b => ?_)
  obtain ⟨cd, hc, hd'⟩ := PySem.W.any_some hh
  have hx : s.heap.get? x = some ⟨.ref C, some dx, .plain, #[]⟩ := I.obj
  refine wpAny_bind (wpAny_pure (wpAny_bind (wpAny_bind (wpAny_loadPart hx (wpAny_bind (PySem.W.Looks.here (s := { s with toks := s.toks + 1 }) (PySem.W.looks_clsIn X hc) ?_))))))
  rw [hd']
  refine wpAny_pure (a := some dx) (wpAny_bind (wpAny_pure (wpAny_bind ?_)))
  refine wpAny_nsSet1 (s := { s with toks := s.toks + 1 }) I.ns fun h' hn2 hs2 => ?_
  obtain ⟨oD, esD, epD, hoD, hdD, hcD⟩ := hn2.count (PySem.Within.cons name v hw)
  refine wpAny_bind (wpAny_lookBehind hoD (by rw [hdD]; exact pastItsLine_dict (Nat.le_trans hcD (by rw [List.length_cons]; omega))) ?_)
  exact wpAny_pure (h _ ⟨(hs2.2 _ (Ne.symm I.ne)).trans I.obj, hn2, I.ne⟩ hs2)
theorem make_map {R : Result → Shared → Prop} {vs : List Value} {kw : List (Str × Value)} (X : K.In s.heap) (hm : PySem.W.makesIn K C = true)
    (hi : PySem.W.findIn K (.ref C) "__init__" = some (some (.ref f))) (hf : PySem.W.typeIn K (.ref f) = some (.type "function"))
    (h : codeAny (model prog w) (A.under (.builtin "type.__call__" ⟨.ref C :: vs, kw⟩)) (.call (.ref f) ⟨.ref (s.heap.objs.size + 1) :: vs, kw⟩) (PySem.W.InitBack (s.heap.objs.size + 1) R)
      { s with heap := (s.heap.push PySem.W.emptyDict).push (PySem.W.instObj C s.heap.objs.size) }) :
    codeAny (model prog w) A (.call (.ref C) ⟨vs, kw⟩) R s := by
  obtain ⟨hh, g, d, t, os⟩ := s
  exact PySem.W.make_core (PySem.W.makes_of X hm) (PySem.W.looks_findIn X hi) (fun self => PySem.W.bind_fn X self hf) (.inl rfl) h
end
def putF (f : Str) (v : V) : List (Str × V) → List (Str × V)
  | [] => [(f, v)]
  | (g, x) :: r => if g = f then (g, v) :: r else (g, x) :: putF f v r
theorem lookup_putF (f g : Str) (v : V) : ∀ fs : List (Str × V), (putF f v fs).lookup g = if g = f then some v else fs.lookup g
  | [] => by
    show List.lookup g [(f, v)] = _
    by_cases h : g = f
    · have hb : (g == f) = true := beq_iff_eq.mpr h
      simp only [List.lookup, hb, if_pos h]
    · have hb : (g == f) = false := beq_eq_false_iff_ne.mpr h
      simp only [List.lookup, hb, if_neg h]
  | (k, x) :: r => by
    have ih := lookup_putF f g v r
    rw [show putF f v ((k, x) :: r) = (if k = f then (k, v) :: r else (k, x) :: putF f v r) from rfl]
    by_cases hk : k = f
    · rw [if_pos hk]
      by_cases h : g = k
      · have hb : (g == k) = true := beq_iff_eq.mpr h
        simp only [List.lookup, hb, if_pos (h.trans hk)]
      · have hb : (g == k) = false := beq_eq_false_iff_ne.mpr h
        simp only [List.lookup, hb, if_neg (fun e : g = f => h (e.trans hk.symm))]
    · rw [if_neg hk]
      by_cases h : g = k
      · have hb : (g == k) = true := beq_iff_eq.mpr h
        simp only [List.lookup, hb, if_neg (fun e : g = f => hk (h.symm.trans e))]
      · have hb : (g == k) = false := beq_eq_false_iff_ne.mpr h
        simp only [List.lookup, hb]
        exact ih
theorem keys_putF (f : Str) (v : V) : ∀ fs : List (Str × V), f ∈ (putF f v fs).map (·.1) ∧ ∀ g, g ∈ fs.map (·.1) → g ∈ (putF f v fs).map (·.1)
  | [] => ⟨by simp [putF], fun g h => by simp at h⟩
  | (k, x) :: r => by
    obtain ⟨i1, i2⟩ := keys_putF f v r
    rw [show putF f v ((k, x) :: r) = (if k = f then (k, v) :: r else (k, x) :: putF f v r) from rfl]
    by_cases hk : k = f
    · rw [if_pos hk]
      subst hk
      exact ⟨by simp, fun g h => by simpa using h⟩
    · rw [if_neg hk]
      refine ⟨?_, fun g h => ?_⟩
      · rw [List.map_cons]
        exact List.mem_cons_of_mem _ i1
      · rw [List.map_cons] at h ⊢
        rcases List.mem_cons.mp h with e | e
        · exact List.mem_cons.mpr (.inl e)
        · exact List.mem_cons_of_mem _ (i2 g e)
theorem length_putF (f : Str) (v : V) : ∀ fs : List (Str × V), (putF f v fs).length ≤ fs.length + 1
  | [] => by simp [putF]
  | (k, x) :: r => by
    have ih := length_putF f v r
    rw [show putF f v ((k, x) :: r) = (if k = f then (k, v) :: r else (k, x) :: putF f v r) from rfl]
    by_cases hk : k = f
    · rw [if_pos hk, List.length_cons, List.length_cons]; omega
    · rw [if_neg hk, List.length_cons, List.length_cons]; omega
theorem RelO.some_of {v : V} {o : Option Value} (r : RelO (some v) o) : ∃ u, o = some u ∧ RelV v u := by
  cases o with
  | none => exact (show False from r).elim
  | some u => exact ⟨u, rfl, r⟩
theorem RelO.none_of {o : Option Value} (r : RelO none o) : o = none := by
  cases o with
  | none => rfl
  | some u => exact (show False from r).elim
theorem handed_of {v : V} {u : Value} (r : RelV v u) : PySem.W.handedIn u = true := by
  cases v with
  | non => cases (show u = Value.none from r); rfl
  | bl b => cases (show u = Value.bool b from r); rfl
  | int i => obtain ⟨t, e⟩ := (show ∃ t, u = Value.int i t from r); cases e; rfl
  | str x => obtain ⟨t, e⟩ := (show ∃ t, u = Value.str x t from r); cases e; rfl
  | byt b => obtain ⟨t, e⟩ := (show ∃ t, u = Value.bytes b t from r); cases e; rfl
  | flt b => obtain ⟨t, e⟩ := (show ∃ t, u = Value.float b t from r); cases e; rfl
  | ref a => cases (show u = Value.ref a from r); rfl
  | ty n => cases (show u = Value.type n from r); rfl
section
variable {P : Program} {w : World} {H H' : Hp} {h h' : Heap} {a C dx : Addr} {fs fs' : List (Str × V)}
theorem ins_get (hok : HOk P w H h) (e : H a = some (.ins C dx fs)) : ∃ mA, ObjM h a dx C mA ∧ (∀ f, RelO (fs.lookup f) (mA f)) ∧ PySem.Within mA (fs.map (·.1)) ∧ fs.length ≤ 1000 ∧ H dx = some (.own a) := by
  obtain ⟨d, z, ne, ob, mA, n, r, q⟩ := (show ObjOk P w H h a (.ins C dx fs) from hok a _ e)
  exact ⟨mA, ⟨ob, n, ne⟩, r, q, z, d⟩
end
structure Cls (K : PySem.W.Frag) (C : Addr) : Prop where
  pg : PySem.W.plainGet K C Str.empty = true
  hd : PySem.W.hasDictIn K C = true
  po : PySem.W.plainOver K C = true
  sa : PySem.W.findIn K (.ref C) "__setattr__" = some (some (.builtin "object.__setattr__"))
theorem Cls.get {K : PySem.W.Frag} {C : Addr} (c : Cls K C) (f : Str) : PySem.W.plainGet K C f = true := c.pg
def NoAttr (K : PySem.W.Frag) (C : Addr) (f : Str) : Prop := PySem.W.findIn K (.ref C) f = some none
theorem NoAttr.taker {K : PySem.W.Frag} {C : Addr} {f : Str} (n : NoAttr K C f) : PySem.W.takerIn K C f = some none := by
  unfold PySem.W.takerIn
  rw [show PySem.W.findIn K (.ref C) f = some none from n]
  rfl
structure Con (K : PySem.W.Frag) (C : Addr) (f : Str) (v : V) (u : Value) : Prop where
  at_ : PySem.W.findIn K (.ref C) f = some (some u)
  rel : RelV v u
  get : PySem.W.specialIn K u "__get__" = some none
  cp : PySem.W.copiedNames.contains f = false
structure Meth (K : PySem.W.Frag) (C : Addr) (m : Str) (f : Addr) : Prop where
  at_ : PySem.W.findIn K (.ref C) m = some (some (.ref f))
  fn : PySem.W.isFn K (.ref f) = true
  kp : PySem.W.keepIn K (.ref f) = true
section
variable {X : Cx} {pins : List (Addr × Obj)} {σ : St} {H : Hp} {s : Shared} {a C dx : Addr} {fs : List (Str × V)} {f : Str} {v : V} {A : Around} {E : Value → Shared → Prop}
theorem getattr_ok {b : Bool} {Q : Value → Shared → Prop} (I : Inv X pins σ H s) (e : H a = some (.ins C dx fs)) (c : Cls X.K C) (n : NoAttr X.K C f) (l : fs.lookup f = some v)
    (h : ∀ u s', Inv X pins σ H s' → RelV v u → Q u s') : wpAny (model X.prog X.w) A (getAttr (.ref a) f b) Q E s := by
  obtain ⟨mA, O, r, _, _, _⟩ := ins_get I.hok e
  obtain ⟨u, hu, ru⟩ := RelO.some_of (v := v) (o := mA f) (by rw [← l]; exact r f)
  exact get_map I.kIn O (c.get f) c.hd n hu (handed_of ru) (h u _ (I.tok _) ru)
theorem getmeth_ok {m : Str} {g : Addr} {pl : Sem Bool} {Q : Value × List Value → Shared → Prop} (I : Inv X pins σ H s) (e : H a = some (.ins C dx fs)) (c : Cls X.K C) (k : Meth X.K C m g) (l : fs.lookup m = none)
    (h : Q (.ref g, [.ref a]) s) : wpAny (model X.prog X.w) A (getMethod (.ref a) m pl) Q E s := by
  obtain ⟨mA, O, r, _, _, _⟩ := ins_get I.hok e
  have hn : mA m = none := RelO.none_of (by rw [← l]; exact r m)
  exact get_meth I.kIn O (c.get m) k.at_ k.fn hn h
theorem setattr_ok {y : V} {u : Value} {Q : Unit → Shared → Prop} (I : Inv X pins σ H s) (e : H a = some (.ins C dx fs)) (c : Cls X.K C) (n : NoAttr X.K C f) (hl : fs.length < 1000) (ry : RelV y u)
    (h : ∀ s', Inv X pins σ (upd H a (.ins C dx (putF f y fs))) s' → Q () s') : wpAny (model X.prog X.w) A (setAttr (.ref a) f u) Q E s := by
  obtain ⟨mA, O, r, wi, _, ho⟩ := ins_get I.hok e
  have hz : (fs.map (·.1)).length ≤ sizeLine := by rw [List.length_map, sizeLine_eq]; omega
  refine set_map I.kIn O c.sa c.po n.taker c.hd wi hz fun h' O' sb => h _ ?_
  have hd : ∃ o, h'.get? dx = some o := let ⟨o, _, _, e', _⟩ := O'.ns; ⟨o, e'⟩
  refine I.write (x := a) (e := dx) (by rw [e]; exact True.intro) (.inr ho) (fun b q hb z => (sb.2 b hb).trans z) hd ?_
  refine ⟨by rw [upd_ne O.ne]; exact ho, ?_, O.ne, O'.obj, _, O'.ns, fun g => ?_, fun g hg => ?_⟩
  · have := length_putF f y fs; omega
  · show RelO ((putF f y fs).lookup g) (if g = f then some u else mA g)
    rw [lookup_putF]
    by_cases q : g = f
    · rw [if_pos q, if_pos q]; exact ry
    · rw [if_neg q, if_neg q]; exact r g
  · by_cases q : g = f
    · rw [q]; exact (keys_putF f y fs).1
    · refine (keys_putF f y fs).2 g (wi g fun z => hg ?_)
      show (if g = f then some u else mA g) = none
      rw [if_neg q]; exact z
theorem Inv.made (I : Inv X pins σ H s) : Inv X pins σ (upd (upd H s.heap.objs.size (.own (s.heap.objs.size + 1))) (s.heap.objs.size + 1) (.ins C s.heap.objs.size []))
    { s with heap := (s.heap.push PySem.W.emptyDict).push (PySem.W.instObj C s.heap.objs.size) } := by
  have e1 : (s.heap.push PySem.W.emptyDict).get? s.heap.objs.size = some PySem.W.emptyDict := Heap.get?_push_size s.heap rfl
  have e2 : ((s.heap.push PySem.W.emptyDict).push (PySem.W.instObj C s.heap.objs.size)).get? (s.heap.objs.size + 1) = some (PySem.W.instObj C s.heap.objs.size) := by
    have := Heap.get?_push_size (s.heap.push PySem.W.emptyDict) (o := PySem.W.instObj C s.heap.objs.size) rfl
    rwa [Heap.size_push] at this
  have e3 : (s.heap.push PySem.W.emptyDict).Ns s.heap.objs.size (fun _ => none) := ⟨PySem.W.emptyDict, #[], _, e1, rfl, (fun e he => absurd he (by simp)), fun _ => rfl⟩
  have I1 := I.laid (a := s.heap.objs.size) (o := .own (s.heap.objs.size + 1)) (h' := s.heap.push PySem.W.emptyDict) (t' := s.toks) (fun b u q => Heap.get?_push_of_some _ q) (Nat.le_refl _) ⟨_, e1⟩
  refine I1.laid (a := s.heap.objs.size + 1) (o := .ins C s.heap.objs.size []) (t' := s.toks) (fun b u q => Heap.get?_push_of_some _ q) (Nat.le_of_eq (Heap.size_push _ _)) ?_
  have ne : s.heap.objs.size ≠ s.heap.objs.size + 1 := Nat.ne_of_lt (Nat.lt_succ_self _)
  refine ⟨by rw [upd_ne ne, upd_same], Nat.zero_le _, ne, e2, fun _ => none, (Heap.Ns1.of_empty e3).at fun o q => Heap.get?_push_of_some _ q, fun _ => True.intro, fun y hy => absurd rfl hy⟩
theorem attr_of {prog : Program} {w : World} {env : Env} {e : Expr} {f : Str} {pos : Pos} {s : Shared} {Q : Value → Shared → Prop} (hb : attributeBase e f env (eval e env) = eval e env)
    (h : wpAny (model prog w) A (eval e env) (fun o s₁ => wpAny (model prog w) A (getAttr o f true) Q E s₁) E s) : wpAny (model prog w) A (eval (.Attribute e f pos) env) Q E s :=
  Attribute_any_ h (by rw [arm_eval_Attribute, hb])
end
def tFld (K : PySem.W.Frag) (ta : TE) (f : Str) : TE := fun σ H Q => ta σ H fun x H1 => ∃ a C dx fs v, x = .ref a ∧ H1 a = some (.ins C dx fs) ∧ Cls K C ∧ NoAttr K C f ∧ fs.lookup f = some v ∧ Q v H1
def sFld (K : PySem.W.Frag) (ta tv : TE) (f : Str) : TS := fun D σ H => tv σ H fun y H1 => ta σ H1 fun x H2 => ∃ a C dx fs, x = .ref a ∧ H2 a = some (.ins C dx fs) ∧ Cls K C ∧ NoAttr K C f ∧ fs.length < 1000 ∧
  D.nx σ (upd H2 a (.ins C dx (putF f y fs)))
def InOp (X : Cx) (op : Operator) (rd : V → V → Hp → VK → Prop) : Prop :=
  ∀ (pins : List (Addr × Obj)) (s : Shared) (σ : St) (H : Hp) (x y : V) (u v : Value) (Q : VK), Inv X pins σ H s → RelV x u → RelV y v → rd x y H Q → wpAny (model X.prog X.w) X.A (inplaceOp op u v) (EP X pins σ Q) X.xe s
section
variable {X : Cx} {o e value : Expr} {f : Str} {pos pos' tpos : Pos} {ta tv : TE}
theorem pe_fld (he : PE X e ta) (hb : attributeBase e f X.env (eval e X.env) = eval e X.env) : PE X (.Attribute e f pos) (tFld X.K ta f) := by
  intro pins s σ H Q I h
  refine attr_of hb (thn (he pins s σ H _ I h) fun u s1 ⟨x, H1, I1, rx, a, C, dx, fs, v, ex, ea, c, n, l, q⟩ => ?_)
  subst ex
  obtain rfl : u = Value.ref a := rx
  exact getattr_ok I1 ea c n l fun u' s2 I2 ru => ⟨v, H1, I2, ru, q⟩
theorem ps_fld (ha : PE X o ta) (hv : PE X value tv) (hs : swapsWith value (some (.Attribute o f pos')) pos.line X.env = pure false) : PS X (.Assign [.Attribute o f pos'] value pos) (sFld X.K ta tv f) := by
  intro pins s σ H D I h
  refine plainObj_wpAny_Assign_Attribute (thn (hv pins s σ H _ I h) fun u s1 ⟨y, H1, I1, ry, q⟩ => thn (ha pins s1 σ H1 _ I1 q) fun ov s2 ⟨x, H2, I2, rx, a, C, dx, fs, ex, ea, c, n, l, q2⟩ => ?_) hs
  subst ex
  obtain rfl : ov = Value.ref a := rx
  exact setattr_ok I2 ea c n l ry fun s3 I3 => ⟨σ, _, I3, q2⟩
def rAdd : V → V → Hp → VK → Prop := fun x y H Q => ∃ i j, x = .int i ∧ y = .int j ∧ Q (.int (i + j)) H
theorem in_add : InOp X .Add rAdd := by
  rintro pins s σ H x y u v Q I rx ry ⟨i, j, rfl, rfl, q⟩
  obtain ⟨t, rfl⟩ := (show ∃ t, u = Value.int i t from rx)
  obtain ⟨t', rfl⟩ := (show ∃ t', v = Value.int j t' from ry)
  exact PyProof.Rows.iadd_int ⟨.int (i + j), H, I.tok _, ⟨_, rfl⟩, q⟩
end
section
variable {X : Cx} {pins : List (Addr × Obj)} {σ : St} {H : Hp} {s : Shared} {A : Around} {E : Value → Shared → Prop} {Q : Value → Shared → Prop} {c : Value} {b : Bool}
inductive TyOf (K : PySem.W.Frag) (H : Hp) : V → Value → Prop where
  | non : TyOf K H .non (.type "NoneType")
  | bl (x : Bool) : TyOf K H (.bl x) (.type "bool")
  | int (i : Int) : TyOf K H (.int i) (.type "int")
  | str (x : Str) : TyOf K H (.str x) (.type "str")
  | flt (x : UInt64) : TyOf K H (.flt x) (.type "float")
  | lst {a : Addr} {xs : List V} (e : H a = some (.lst xs)) : TyOf K H (.ref a) (.type "list")
  | frz {a : Addr} {o : Obj} {xs : List V} (e : H a = some (.frz o (.lst xs))) : TyOf K H (.ref a) (.type "list")
  | tup {a : Addr} {xs : List V} (e : H a = some (.tup xs)) : TyOf K H (.ref a) (.type "tuple")
  | dK {a : Addr} {kvs : List (Key × V)} (e : H a = some (.dK kvs)) : TyOf K H (.ref a) (.type "dict")
  | dT {a : Addr} {kvs : List (List Key × V)} (e : H a = some (.dT kvs)) : TyOf K H (.ref a) (.type "dict")
  | ins {a C dx : Addr} {fs : List (Str × V)} (e : H a = some (.ins C dx fs)) (cl : Cls K C) (ha : PySem.W.findIn K (.ref C) "__class__" = some (some (.builtin "object.__class__")))
      (hn : PySem.W.specialIn K (.builtin "object.__class__") "__get__" = some (some (.builtin "getset_descriptor.__get__"))) (htk : PySem.W.takesIn K (.builtin "object.__class__") = some true)
      (hm : PySem.W.mroIn K C (.type "object") = some true) : TyOf K H (.ref a) (.ref C)
theorem isinst_ok {x : V} {u t : Value} (I : Inv X pins σ H s) (rx : RelV x u) (ty : TyOf X.K H x t) (e : PySem.W.kitOne X.K t c = some b) (h : ∀ tk, Q (.bool b) { s with toks := tk }) :
    wpAny (model X.prog X.w) A (call (.builtin "isinstance") [u, c]) Q E s := by
  cases ty with
  | non => cases (show u = Value.none from rx); exact PySem.W.kia_one PySem.W.kitx_none I.kIn True.intro e (fun z => nomatch z) h
  | bl y => cases (show u = Value.bool y from rx); exact PySem.W.kia_one PySem.W.kitx_bool I.kIn True.intro e (fun z => nomatch z) h
  | int i => obtain ⟨t, q⟩ := (show ∃ t, u = Value.int i t from rx); cases q; exact PySem.W.kia_one PySem.W.kitx_int I.kIn True.intro e (fun z => nomatch z) h
  | str y => obtain ⟨t, q⟩ := (show ∃ t, u = Value.str y t from rx); cases q; exact PySem.W.kia_one PySem.W.kitx_str I.kIn True.intro e (fun z => nomatch z) h
  | flt y => obtain ⟨t, q⟩ := (show ∃ t, u = Value.float y t from rx); cases q; exact PySem.W.kia_one PySem.W.kitx_float I.kIn True.intro e (fun z => nomatch z) h
  | @lst a xs ea =>
    cases (show u = Value.ref a from rx)
    obtain ⟨_, _, n, _, h1⟩ := (show ObjOk X.prog X.w H s.heap a (.lst xs) from I.hok a _ ea)
    exact PySem.W.kia_one PySem.W.kitx_list I.kIn ⟨_, h1, rfl⟩ e (fun z => nomatch z) h
  | @frz a ob xs ea =>
    cases (show u = Value.ref a from rx)
    obtain ⟨_, _, _, n, _, h1⟩ := (show ObjOk X.prog X.w H s.heap a (.frz ob (.lst xs)) from I.hok a _ ea)
    exact PySem.W.kia_one PySem.W.kitx_list I.kIn ⟨_, h1, rfl⟩ e (fun z => nomatch z) h
  | @tup a xs ea =>
    cases (show u = Value.ref a from rx)
    obtain ⟨_, _, _, p⟩ := (show ObjOk X.prog X.w H s.heap a (.tup xs) from I.hok a _ ea)
    obtain ⟨o, h1, h2, _⟩ := p
    exact PySem.W.kia_one PySem.W.kitx_tuple I.kIn ⟨o, h1, h2⟩ e (fun z => nomatch z) h
  | @dK a kvs ea =>
    cases (show u = Value.ref a from rx)
    obtain ⟨_, _, vs, _, p⟩ := (show ObjOk X.prog X.w H s.heap a (.dK kvs) from I.hok a _ ea)
    obtain ⟨o, es, ep, h1, h2, _⟩ := p
    exact PySem.W.kia_one PySem.W.kitx_dict I.kIn ⟨o, h1, h2.1⟩ e (fun z => nomatch z) h
  | @dT a kvs ea =>
    cases (show u = Value.ref a from rx)
    obtain ⟨_, _, xs, _, o, es, ep, h1, h2, _⟩ := (show ObjOk X.prog X.w H s.heap a (.dT kvs) from I.hok a _ ea)
    exact PySem.W.kia_one PySem.W.kitx_dict I.kIn ⟨o, h1, h2.1⟩ e (fun z => nomatch z) h
  | @ins a C dx fs ea cl ha hn htk hm =>
    cases (show u = Value.ref a from rx)
    obtain ⟨mA, O, _⟩ := ins_get I.hok ea
    obtain ⟨od, J, _⟩ := O.look
    exact PySem.W.kia_one (PySem.W.kitx_own (cl.get _) cl.hd ha hn htk hm) I.kIn J e (fun z => nomatch z) h
end
end L2
namespace L2
open PySem PySem.Spec PyProof.Rows
structure Room (k : Nat) (A : Around) : Prop where
  hd : A.handled = none
  dp : A.depth + 3 * k + 5 < recursionLimit
  un : A.units + 16 * k + 200 < cLine
theorem Room.mono {j k : Nat} {A : Around} (r : Room k A) (h : j ≤ k) : Room j A := ⟨r.hd, by have := r.dp; omega, by have := r.un; omega⟩
theorem Room.deeper {k : Nat} {A : Around} (r : Room (k + 1) A) (env : Env) : Room k (A.deeper env) :=
  ⟨r.hd, by have := r.dp; show A.depth + 1 + 3 * k + 5 < _; omega, by have := r.un; show A.units + 3 + 16 * k + 200 < _; omega⟩
theorem Room.in1 {k : Nat} {A : Around} (r : Room (k + 1) A) : Room k A.in1 :=
  ⟨r.hd, by have := r.dp; show A.depth + 3 * k + 5 < _; omega, by have := r.un; show A.units + 1 + 16 * k + 200 < _; omega⟩
theorem make_depth {A : Around} {C : Addr} {us : List Value} {kw : List (Str × Value)} : (A.under (.builtin "type.__call__" ⟨.ref C :: us, kw⟩)).depth = A.depth + 1 := by
  first | rfl | simp [Around.under, Code.weight, Code.isCreation, Code.isGuard, Code.isCaller, Code.frames, Code.isFrame, guardIds]
theorem make_units {A : Around} {C : Addr} {us : List Value} {kw : List (Str × Value)} : (A.under (.builtin "type.__call__" ⟨.ref C :: us, kw⟩)).units = A.units + 1 := by
  first | rfl | simp [Around.under, Code.cUnits, Code.frames, Code.isFrame]
theorem Room.make {k : Nat} {A : Around} (r : Room (k + 1) A) (C : Addr) (us : List Value) (kw : List (Str × Value)) : Room k (A.under (.builtin "type.__call__" ⟨.ref C :: us, kw⟩)) :=
  ⟨r.hd, by have := r.dp; rw [make_depth]; omega, by have := r.un; rw [make_units]; omega⟩
theorem Room.depth {k : Nat} {A : Around} (r : Room k A) : A.depth < recursionLimit := by have := r.dp; omega
theorem Room.units {k : Nat} {A : Around} (r : Room k A) : A.units + 64 < cLine := by have := r.un; omega
theorem Room.units0 {k : Nat} {A : Around} (r : Room k A) : A.units < cLine := by have := r.un; omega
def tNil : TA := fun _ H Q => Q [] H
def tCons (ta : TE) (tr : TA) : TA := fun σ H Q => ta σ H fun x H1 => tr σ H1 fun xs H2 => Q (x :: xs) H2
section
variable {X : Cx} {e : Expr} {es : List Expr} {te : TE} {t : TA} {pos : Pos}
theorem pa_nil : PA X [] tNil := fun _ _ _ _ H Q I h => Calls.spliced_nil ⟨[], H, I, .nil, h⟩
theorem pa_cons (ha : PE X e te) (hr : PA X es t) (hs : starEach (e :: es) X.env = (false, eval e X.env) :: starEach es X.env := by rfl) : PA X (e :: es) (tCons te t) := by
  intro pos pins s σ H Q I h
  rw [hs]
  show wpAny _ _ (spliced ((false, eval e X.env) :: backTo pos (starEach es X.env))) _ _ s
  refine Calls.spliced_cons (thn (ha pins s σ H _ I h) fun u s1 ⟨x, H1, I1, r1, q1⟩ => ?_)
  exact thn (hr pos pins s1 σ H1 _ I1 q1) fun us s2 ⟨xs, H2, I2, r2, q2⟩ => ⟨x :: xs, H2, I2, .cons r1 r2, q2⟩
def tTup (t : TA) : TE := fun σ H Q => t σ H fun xs H1 => xs.length ≤ sizeLine ∧ ∀ p, H1 p = none → Q (.ref p) (upd H1 p (.tup xs))
def tLst (t : TA) : TE := fun σ H Q => t σ H fun xs H1 => xs.length ≤ sizeLine ∧ ∀ p, H1 p = none → Q (.ref p) (upd H1 p (.lst xs))
theorem pe_tup {x1} (h : PA X es t) : PE X (.Tuple es x1 pos) (tTup t) := by
  intro pins s σ H Q I hq
  refine wpAny_Tuple_spliced (thn (h pos pins s σ H _ I hq) fun us s1 ⟨xs, H1, I1, r, z, q⟩ => ⟨by rw [← r.length]; exact z, ?_⟩)
  have hf : H1 s1.heap.objs.size = none := I1.hok.fresh (Nat.le_refl _)
  refine ⟨.ref s1.heap.objs.size, upd H1 s1.heap.objs.size (.tup xs), I1.laid (t' := s1.toks) (fun b u e => Heap.get?_push_of_some _ e) (Nat.le_refl _) ?_, rfl, q _ hf⟩
  exact ⟨z, us, r, ⟨_, Heap.get?_push_size _ rfl, rfl, _, rfl⟩⟩
theorem pe_lst (h : PA X es t) : PE X (.List es pos) (tLst t) := by
  intro pins s σ H Q I hq
  refine wpAny_List_spliced (thn (h pos pins s σ H _ I hq) fun us s1 ⟨xs, H1, I1, r, z, q⟩ => ⟨by rw [← r.length]; exact z, ?_⟩)
  have hf : H1 s1.heap.objs.size = none := I1.hok.fresh (Nat.le_refl _)
  refine ⟨.ref s1.heap.objs.size, upd H1 s1.heap.objs.size (.lst xs), I1.laid (t' := s1.toks) (fun b u e => Heap.get?_push_of_some _ e) (Nat.le_refl _) ?_, rfl, q _ hf⟩
  exact ⟨z, us, 0, r, Heap.get?_push_size _ rfl⟩
end
abbrev Sp := List V → Hp → VK → XK → Prop
abbrev CXT := List Env → Hp → Shared → XK → Value → Shared → Prop
structure Env0 (P : Program) (w : World) (K : PySem.W.Frag) (mg : Str → Option Value) (base : Heap) (A : Around) (outer : List Env) (s : Shared) (H : Hp) : Prop where
  frames : A.frames = some outer
  mod : Mod K mg base
  bs : ∀ b o, base.get? b = some o → s.heap.get? b = some o ∧ H b = none
  bsz : base.objs.size ≤ s.heap.objs.size
  funs : s.heap.FunFrames base outer
  frf : ∀ b ∈ frs outer, H b = none
  hok : HOk P w H s.heap
  bare : AllBare s.gens
def CE (outer : List Env) (P : Program) (w : World) (H : Hp) (s : Shared) (Q : VK) (u : Value) (s' : Shared) : Prop :=
  ∃ v H', s'.os = s.os ∧ AllBare s'.gens ∧ Un (frs outer) [] H H' s.heap s'.heap ∧ HOk P w H' s'.heap ∧ RelV v u ∧ Q v H'
def CR (CX : CXT) (outer : List Env) (P : Program) (w : World) (H : Hp) (s : Shared) (Q : VK) (E : XK) (r : Result) (s' : Shared) : Prop :=
  match r with
  | .ok (.ret u) => CE outer P w H s Q u s'
  | .ok _ => False
  | .error e => CX outer H s E e s'
structure FnOk (P : Program) (w : World) (K : PySem.W.Frag) (mg : Str → Option Value) (base : Heap) (CX : CXT) (k : Nat) (f : Addr) (fd : FuncData) (ps : List Str) (sp : Sp) : Prop where
  len : ∀ vs H Q E, sp vs H Q E → vs.length = ps.length
  run : ∀ (A : Around) (outer : List Env) (s : Shared) (H : Hp) (args : Args) (us : List Value) (vs : List V) (Q : VK) (E : XK), Room k A → Env0 P w K mg base A outer s H → BindsTo s fd args (ps.zip us) → Vals vs us → sp vs H Q E →
    codeAny (model P w) A (.call (.ref f) args) (CR CX outer P w H s Q E) s
theorem FnOk.mono {P : Program} {w : World} {K : PySem.W.Frag} {mg : Str → Option Value} {base : Heap} {CX : CXT} {j k : Nat} {f : Addr} {fd : FuncData} {ps : List Str} {sp : Sp} (F : FnOk P w K mg base CX j f fd ps sp) (h : j ≤ k) :
    FnOk P w K mg base CX k f fd ps sp := ⟨F.len, fun A outer s H args us vs Q E hr => F.run A outer s H args us vs Q E (hr.mono h)⟩
theorem FnOk.imp {P : Program} {w : World} {K : PySem.W.Frag} {mg : Str → Option Value} {base : Heap} {CX : CXT} {k : Nat} {f : Addr} {fd : FuncData} {ps : List Str} {sp sp' : Sp} (F : FnOk P w K mg base CX k f fd ps sp)
    (h : ∀ vs H Q E, sp' vs H Q E → sp vs H Q E) : FnOk P w K mg base CX k f fd ps sp' :=
  ⟨fun vs H Q E q => F.len vs H Q E (h _ _ _ _ q), fun A outer s H args us vs Q E hr he hb hv hs => F.run A outer s H args us vs Q E hr he hb hv (h _ _ _ _ hs)⟩
theorem Env0.make {P : Program} {w : World} {K : PySem.W.Frag} {mg : Str → Option Value} {base : Heap} {A : Around} {outer : List Env} {s : Shared} {H : Hp} (e : Env0 P w K mg base A outer s H) (C : Addr) (us : List Value) (kw : List (Str × Value)) :
    Env0 P w K mg base (A.under (.builtin "type.__call__" ⟨.ref C :: us, kw⟩)) outer s H := ⟨by first | exact e.frames | (simpa [Around.under, Code.envs, Code.isFrame, pushEnvs] using e.frames), e.mod, e.bs, e.bsz, e.funs, e.frf, e.hok, e.bare⟩
theorem Env0.in1 {P : Program} {w : World} {K : PySem.W.Frag} {mg : Str → Option Value} {base : Heap} {A : Around} {outer : List Env} {s : Shared} {H : Hp} (e : Env0 P w K mg base A outer s H) :
    Env0 P w K mg base A.in1 outer s H := ⟨e.frames, e.mod, e.bs, e.bsz, e.funs, e.frf, e.hok, e.bare⟩
section
variable {X : Cx} {pins : List (Addr × Obj)} {σ : St} {H : Hp} {s s' : Shared}
theorem Inv.env0 (I : Inv X pins σ H s) : Env0 X.prog X.w X.K X.mg X.base X.A X.stack s H :=
  ⟨I.ok.frames, I.ok.mod, I.bs, Nat.le_trans I.ok.bsz I.sz, I.stack, I.stkFree, I.hok, I.bare⟩
theorem Inv.after {Q : VK} {u : Value} (I : Inv X pins σ H s) (h : CE X.stack X.prog X.w H s Q u s') : EP X pins σ Q u s' := by
  obtain ⟨v, H', os, bare, un, hok, r, q⟩ := h
  obtain ⟨hh, g, d, t, os'⟩ := s'
  obtain rfl : os' = s.os := os
  exact ⟨v, H', I.call (h' := hh) (g' := g) (d' := d) (t' := t) (ch := []) un hok bare (fun b z => absurd z (by simp)), r, q⟩
end
def tCall (sp : Sp) (dvs : List V) (E : XK) (t : TA) : TE := fun σ H Q => t σ H fun vs H1 => sp (vs ++ dvs) H1 Q E
def tMeth (C : Addr) (m : Str) (sp : Sp) (dvs : List V) (E : XK) (ta : TE) (t : TA) : TE := fun σ H Q => ta σ H fun x H1 => ∃ a dx fs, x = .ref a ∧ H1 a = some (.ins C dx fs) ∧ fs.lookup m = none ∧
  t σ H1 fun vs H2 => sp (x :: (vs ++ dvs)) H2 Q E
def tMake (C : Addr) (sp : Sp) (dvs : List V) (E : XK) (t : TA) : TE := fun σ H Q => t σ H fun vs H1 => ∀ x dx, H1 x = none → H1 dx = none → dx ≠ x →
  sp (.ref x :: (vs ++ dvs)) (upd (upd H1 dx (.own x)) x (.ins C dx [])) (fun v H2 => v = .non ∧ Q (.ref x) H2) E
def Binds (K : PySem.W.Frag) (fd : FuncData) (ps : List Str) (ds : List Value) : Prop :=
  ∀ (s : Shared) (us : List Value), K.In s.heap → (us ++ ds).length = ps.length → BindsTo s fd ⟨us, []⟩ (ps.zip (us ++ ds))
theorem Binds.all {K : PySem.W.Frag} {fd : FuncData} {ps : List Str} (h : ∀ us : List Value, us.length = ps.length → bindArgs fd ⟨us, []⟩ = pure (ps.zip us)) : Binds K fd ps [] := fun s us _ hl => by
  rw [List.append_nil] at hl ⊢
  exact .of_eq (h us hl)
def Passes (CX : CXT) (X : Cx) (E : XK) : Prop := ∀ (pins : List (Addr × Obj)) (σ : St) (H : Hp) (s : Shared) (e : Value) (s' : Shared), Inv X pins σ H s → CX X.stack H s E e s' → X.xe e s'
section
variable {X : Cx} {CX : CXT} {k : Nat} {f C : Addr} {fd : FuncData} {ps : List Str} {sp : Sp} {dvs : List V} {ds : List Value} {E : XK} {x m : Str} {p pos apos : Pos} {e o : Expr} {es : List Expr} {ta : TE} {t : TA}
theorem run_fn {pins : List (Addr × Obj)} {σ : St} {H : Hp} {s : Shared} {Q : VK} {us : List Value} {vs : List V} (F : FnOk X.prog X.w X.K X.mg X.base CX k f fd ps sp) (hr : Room k X.A) (hb : Binds X.K fd ps ds) (hd : Vals dvs ds) (hx : Passes CX X E)
    (I : Inv X pins σ H s) (r : Vals vs us) (h : sp (vs ++ dvs) H Q E) : wpAny (model X.prog X.w) X.A (call (.ref f) us) (EP X pins σ Q) X.xe s := by
  have r2 : Vals (vs ++ dvs) (us ++ ds) := r.append hd
  have hl : (us ++ ds).length = ps.length := by rw [← r2.length]; exact F.len _ _ _ _ h
  refine wpAny_call (codeAny_mono (F.run X.A X.stack s H ⟨us, []⟩ (us ++ ds) (vs ++ dvs) Q E hr I.env0 (hb s us I.kIn hl) r2 h) fun r s' hq => ?_)
  cases r with
  | error e => exact hx pins σ H s e s' I hq
  | ok fl =>
    cases fl with
    | ret u => exact I.after hq
    | next => exact False.elim hq
    | brk => exact False.elim hq
    | cont => exact False.elim hq
theorem pe_call (F : FnOk X.prog X.w X.K X.mg X.base CX k f fd ps sp) (hr : Room k X.A) (hg : Gl X x) (hm : X.mg x = some (.ref f)) (hk : PySem.W.keepIn X.K (.ref f) = true) (hb : Binds X.K fd ps ds) (hd : Vals dvs ds) (hx : Passes CX X E)
    (ha : PA X (e :: es) t) (hdb : (x == ("__debug__" : Str)) = false := by decide) (he : starEach (e :: es) X.env = (false, eval e X.env) :: starEach es X.env := by rfl) (hpl : (backTo pos (starEach es X.env)).any (·.1) = false := by rfl) :
    PE X (.Call (.Name x p) (e :: es) [] pos) (tCall sp dvs E t) := by
  intro pins s σ H Q I h
  refine wpAny_Call_Name_kw (ld_glob I hg hm ?_ hdb)
  refine PySem.W.callWith_K (h₀ := X.base) I.ok.mod.kin hk (thn (ha pos pins s σ H _ I h) fun us s1 ⟨vs, H1, I1, r, q⟩ => ⟨I1.kIn, ?_⟩) he hpl
  exact run_fn F hr hb hd hx I1 r q
theorem pe_meth {pl : Sem Bool} (he : PE X o ta) (c : Cls X.K C) (hm : Meth X.K C m f) (F : FnOk X.prog X.w X.K X.mg X.base CX k f fd ps sp) (hr : Room k X.A) (hb : Binds X.K fd ps ds) (hd : Vals dvs ds) (hx : Passes CX X E) (ha : PA X (e :: es) t)
    (hst : starEach (e :: es) X.env = (false, eval e X.env) :: starEach es X.env := by rfl) (hpl : (backTo pos (starEach es X.env)).any (·.1) = false := by rfl)
    (ht : eval (.Call (.Attribute o m apos) (e :: es) [] pos) X.env = (do
      let ov ← eval o X.env
      standAt apos.atName
      let (f, first) ← holding [ov] (getMethod ov m pl)
      callWith pos f first (backTo pos (starEach (e :: es) X.env)) (backToKw pos (keywordEach [] X.env))) := by rfl) :
    PE X (.Call (.Attribute o m apos) (e :: es) [] pos) (tMeth C m sp dvs E ta t) := by
  intro pins s σ H Q I h
  refine PySem.W.methodCall_KW (pl := pl) (thn (he pins s σ H _ I h) fun u s1 ⟨x, H1, I1, rx, a, dx, fs, ex, ea, l, q⟩ => ?_) ht
  subst ex
  obtain rfl : u = Value.ref a := rx
  refine getmeth_ok I1 ea c hm l ?_
  refine PySem.W.callWith_K (first := [.ref a]) (h₀ := X.base) I.ok.mod.kin hm.kp (thn (ha pos pins s1 σ H1 _ I1 q) fun us s2 ⟨vs, H2, I2, r, q2⟩ => ⟨I2.kIn, ?_⟩) hst hpl
  exact run_fn (us := .ref a :: us) (vs := .ref a :: vs) F hr hb hd hx I2 (.cons rfl r) q2
structure Mk (K : PySem.W.Frag) (C f : Addr) : Prop where
  makes : PySem.W.makesIn K C = true
  init : PySem.W.findIn K (.ref C) "__init__" = some (some (.ref f))
  fn : PySem.W.isFn K (.ref f) = true
  kp : PySem.W.keepIn K (.ref C) = true
theorem run_make {pins : List (Addr × Obj)} {σ : St} {H : Hp} {s : Shared} {Q : VK} {us : List Value} {vs : List V} (M : Mk X.K C f) (F : FnOk X.prog X.w X.K X.mg X.base CX k f fd ps sp) (hr : Room (k + 1) X.A) (hb : Binds X.K fd ps ds) (hd : Vals dvs ds)
    (hx : Passes CX X E) (I : Inv X pins σ H s) (r : Vals vs us)
    (h : ∀ x dx, H x = none → H dx = none → dx ≠ x → sp (.ref x :: (vs ++ dvs)) (upd (upd H dx (.own x)) x (.ins C dx [])) (fun v H2 => v = .non ∧ Q (.ref x) H2) E) :
    wpAny (model X.prog X.w) X.A (call (.ref C) us) (EP X pins σ Q) X.xe s := by
  have hq := h (s.heap.objs.size + 1) s.heap.objs.size (I.hok.fresh (Nat.le_succ _)) (I.hok.fresh (Nat.le_refl _)) (Nat.ne_of_lt (Nat.lt_succ_self _))
  have I2 := Inv.made (C := C) I
  have r2 : Vals (V.ref (s.heap.objs.size + 1) :: (vs ++ dvs)) (Value.ref (s.heap.objs.size + 1) :: (us ++ ds)) := .cons rfl (r.append hd)
  have hl : (Value.ref (s.heap.objs.size + 1) :: us ++ ds).length = ps.length := by
    have e := r2.length
    rw [F.len _ _ _ _ hq] at e
    exact e.symm
  refine wpAny_call (make_map (f := f) I.kIn M.makes M.init (beq_iff_eq.mp M.fn) (codeAny_mono (F.run _ X.stack _ _ ⟨Value.ref (s.heap.objs.size + 1) :: us, []⟩ (Value.ref (s.heap.objs.size + 1) :: (us ++ ds)) _ _ E (hr.make C us [])
    (I2.env0.make C us []) (hb _ (Value.ref (s.heap.objs.size + 1) :: us) I2.kIn hl) r2 hq) fun r s' hq' => ?_))
  cases r with
  | error e => exact hx pins σ _ _ e s' I2 hq'
  | ok fl =>
    cases fl with
    | ret u =>
      obtain ⟨v, H', I3, rv, ev, q3⟩ := I2.after hq'
      subst ev
      exact ⟨rv, ⟨V.ref (s.heap.objs.size + 1), H', I3, rfl, q3⟩⟩
    | next => exact False.elim hq'
    | brk => exact False.elim hq'
    | cont => exact False.elim hq'
theorem pe_make (M : Mk X.K C f) (F : FnOk X.prog X.w X.K X.mg X.base CX k f fd ps sp) (hr : Room (k + 1) X.A) (hg : Gl X x) (hm : X.mg x = some (.ref C)) (hb : Binds X.K fd ps ds) (hd : Vals dvs ds) (hx : Passes CX X E)
    (ha : PA X (e :: es) t) (hdb : (x == ("__debug__" : Str)) = false := by decide) (he : starEach (e :: es) X.env = (false, eval e X.env) :: starEach es X.env := by rfl) (hpl : (backTo pos (starEach es X.env)).any (·.1) = false := by rfl) :
    PE X (.Call (.Name x p) (e :: es) [] pos) (tMake C sp dvs E t) := by
  intro pins s σ H Q I h
  refine wpAny_Call_Name_kw (ld_glob I hg hm ?_ hdb)
  refine PySem.W.callWith_K (h₀ := X.base) I.ok.mod.kin M.kp (thn (ha pos pins s σ H _ I h) fun us s1 ⟨vs, H1, I1, r, q⟩ => ⟨I1.kIn, ?_⟩) he hpl
  exact run_make M F hr hb hd hx I1 r q
end
section
variable {X : Cx} {CX : CXT} {k : Nat} {f C : Addr} {fd : FuncData} {ps ks : List Str} {sp : Sp} {E : XK} {x m : Str} {p pos apos kpos : Pos} {e o : Expr} {es : List Expr} {kws : List Keyword} {te ta : TE} {t tk : TA} {nm : Option Str}
structure KBinds (K : PySem.W.Frag) (fd : FuncData) (ps ks : List Str) (g : List Value → List Value → List Value) (gV : List V → List V → List V) : Prop where
  to : ∀ (s : Shared) (us ws : List Value), K.In s.heap → (g us ws).length = ps.length → BindsTo s fd ⟨us, ks.zip ws⟩ (ps.zip (g us ws))
  rel : ∀ {vs : List V} {us : List Value} {zs : List V} {ws : List Value}, Vals vs us → Vals zs ws → Vals (gV vs zs) (g us ws)
variable {g : List Value → List Value → List Value} {gV : List V → List V → List V}
end
structure FnScope (N P : List Str) (sc : Scope) : Prop where
  kind : sc.kind = .function
  co : sc.isCoroutine = false
  gen : sc.isGenerator = false
  nd : N.Nodup
  pre : N.take P.length = P
  par : ∀ x ∈ P, sc.names.lookup x = some .local ∨ sc.names.lookup x = some .cell
  nofree : ∀ y ∈ sc.names, y.2 ≠ .free
theorem bindL_out {kindOf : Str → Option NameKind} {x : Str} : ∀ {binds : List (Str × Value)} {m : Str → Option Value}, (∀ v, (x, v) ∉ binds) → bindL kindOf binds m x = m x
  | [], _, _ => rfl
  | (n, v) :: r, m, h => by
    unfold bindL
    rw [bindL_out fun w hw => h w (List.mem_cons_of_mem _ hw)]
    split
    · have : x ≠ n := by rintro rfl; exact h v List.mem_cons_self
      simp [this]
    · rfl
theorem bindC_out {kindOf : Str → Option NameKind} {x : Str} : ∀ {binds : List (Str × Value)} {m : Str → Option Value}, (∀ v, (x, v) ∉ binds) → bindC kindOf binds m x = m x
  | [], _, _ => rfl
  | (n, v) :: r, m, h => by
    unfold bindC
    rw [bindC_out fun w hw => h w (List.mem_cons_of_mem _ hw)]
    split
    · rfl
    · have : x ≠ n := by rintro rfl; exact h v List.mem_cons_self
      simp [this]
theorem bindL_get {kindOf : Str → Option NameKind} {x : Str} {v : Value} : ∀ {P : List Str} {vs : List Value} {i : Nat} {m : Str → Option Value}, P.Nodup → P[i]? = some x → vs[i]? = some v → kindOf x = some .local →
    bindL kindOf (P.zip vs) m x = some v
  | [], _, _, _, _, h, _, _ => by simp at h
  | _ :: _, [], _, _, _, _, h, _ => by simp at h
  | p :: P, w :: vs, 0, m, nd, h1, h2, hk => by
    simp at h1 h2; subst h1; subst h2
    show bindL kindOf ((p, w) :: P.zip vs) m p = _
    unfold bindL
    rw [bindL_out fun v hv => (List.nodup_cons.mp nd).1 (List.of_mem_zip hv).1, if_pos hk]
    simp
  | p :: P, w :: vs, i + 1, m, nd, h1, h2, hk => by
    show bindL kindOf ((p, w) :: P.zip vs) m x = _
    unfold bindL
    exact bindL_get (i := i) (List.nodup_cons.mp nd).2 (by simpa using h1) (by simpa using h2) hk
theorem bindC_get {kindOf : Str → Option NameKind} {x : Str} {v : Value} : ∀ {P : List Str} {vs : List Value} {i : Nat} {m : Str → Option Value}, P.Nodup → P[i]? = some x → vs[i]? = some v → kindOf x ≠ some .local →
    bindC kindOf (P.zip vs) m x = some v
  | [], _, _, _, _, h, _, _ => by simp at h
  | _ :: _, [], _, _, _, _, h, _ => by simp at h
  | p :: P, w :: vs, 0, m, nd, h1, h2, hk => by
    simp at h1 h2; subst h1; subst h2
    show bindC kindOf ((p, w) :: P.zip vs) m p = _
    unfold bindC
    rw [bindC_out fun v hv => (List.nodup_cons.mp nd).1 (List.of_mem_zip hv).1, if_neg hk]
    simp
  | p :: P, w :: vs, i + 1, m, nd, h1, h2, hk => by
    show bindC kindOf ((p, w) :: P.zip vs) m x = _
    unfold bindC
    exact bindC_get (i := i) (List.nodup_cons.mp nd).2 (by simpa using h1) (by simpa using h2) hk
def start (N : List Str) (vs : List V) : St := vs.map some ++ List.replicate (N.length - vs.length) none
def cxOf (CX : CXT) (P : Program) (w : World) (K : PySem.W.Frag) (mg : Str → Option Value) (base : Heap) (N : List Str) (qual : Str) (scope : Scope) (f : Addr) (cd : Value) (A : Around) (outer : List Env) (s : Shared) (H : Hp) (E : XK) : Cx where
  prog := P
  w := w
  K := K
  mg := mg
  base := base
  A := A.deeper (envOfC qual scope s.heap.objs.size f cd)
  N := N
  s₀ := s
  H₀ := H
  env := envOfC qual scope s.heap.objs.size f cd
  outer := outer
  stack := envOfC qual scope s.heap.objs.size f cd :: outer
  ex := []
  calm := true
  fn := fun _ => true
  pn := []
  xe := fun e s' => wpAny (model P w) (A.deeper (envOfC qual scope s.heap.objs.size f cd)) (leaving (envOfC qual scope s.heap.objs.size f cd) e) (fun _ s'' => CX outer H s E e s'') (fun e' s'' => CX outer H s E e' s'') s'
theorem cell_has {sc : Scope} {n : Nat} {x : Str} (h : sc.names.lookup x = some .cell) : ∃ c, (cellsFrom n sc.names []).lookup x = some c := by
  have q := PySem.W.cellsFrom_some sc.names n [] (.inl h)
  exact Option.isSome_iff_exists.mp q
theorem inv_start {CX : CXT} {P : Program} {w : World} {K : PySem.W.Frag} {mg : Str → Option Value} {base : Heap} {N ps : List Str} {qual : Str} {scope : Scope} {f : Addr} {cd : Value} {A : Around} {outer : List Env} {s s1 : Shared} {H : Hp} {E : XK} {us : List Value} {vs : List V}
    (S : FnScope N ps scope) (hd : A.handled = none) (e0 : Env0 P w K mg base A outer s H) (hl : vs.length = ps.length) (r : Vals vs us)
    (x : InCallC s s.heap.objs.size (bindL (envOfC qual scope s.heap.objs.size f cd).kindOf (ps.zip us) fun _ => none) (cellsFrom (s.heap.objs.size + 1) scope.names []) (bindC (envOfC qual scope s.heap.objs.size f cd).kindOf (ps.zip us) fun _ => none) s1) :
    Inv (cxOf CX P w K mg base N qual scope f cd A outer s H E) [] (start N vs) H s1 := by
  have hpl : ps.length ≤ N.length := by have := congrArg List.length S.pre; rw [List.length_take] at this; omega
  obtain ⟨h1, tk, rfl, hk⟩ := x.done
  have noA : ∀ b : Addr, b ∉ (cxOf CX P w K mg base N qual scope f cd A outer s H E).ex := fun b z => absurd (show b ∈ ([] : List Addr) from z) (by simp)
  refine ⟨⟨e0.mod, S.kind, rfl, rfl, Nat.le_refl _, fun y z c h1 h2 => ?_, fun y hy => ?_, fun y c _ h => ?_, fun _ => hd, Around.frames_deeper e0.frames, .inr ⟨rfl, rfl⟩, fun b z => absurd z (noA b), e0.bs, e0.bsz, fun b _ _ => noA b, fun b z => absurd z (noA b), e0.funs, e0.frf⟩,
    rfl, e0.bare, Un.kept hk, ⟨_, x.toInCall.ns, fun i y v h1 h2 h3 => ?_⟩, fun y c h => ⟨_, x.cell y c h⟩, e0.hok.fresh (Nat.le_refl _), fun y c h => ?_, fun p hp => absurd (show p ∈ ([] : List (Addr × Obj)) from hp) (by simp), e0.hok.kept hk, ?_⟩
  · exact name_of_addr x.apart (PySem.mem_of_lookup h1) (PySem.mem_of_lookup h2)
  · have hy : scope.names.lookup y = some .cell ∨ scope.names.lookup y = some .free := hy
    rcases hy with hy | hy
    · exact cell_has hy
    · exact absurd rfl (S.nofree _ (PySem.mem_of_lookup hy))
  · exact Nat.le_of_lt (x.above y c (PySem.mem_of_lookup h))
  · have hi : i < vs.length := by
      unfold start at h2
      by_cases hi : i < vs.length
      · exact hi
      · rw [List.getElem?_append_right (by simpa using hi)] at h2
        rw [List.getElem?_replicate] at h2
        split at h2 <;> cases h2
    have ha : vs[i]? = some v := by
      unfold start at h2
      rw [List.getElem?_append_left (by simpa using hi), List.getElem?_map] at h2
      cases e : vs[i]? with
      | none => rw [e] at h2; cases h2
      | some a => rw [e] at h2; cases h2; rfl
    obtain ⟨u, hu, rv⟩ := r.get ha
    have hp : ps[i]? = some y := by
      rw [← S.pre, List.getElem?_take_of_lt (by omega)]; exact h1
    have ndP : ps.Nodup := by rw [← S.pre]; exact S.nd.sublist (List.take_sublist _ _)
    refine ⟨u, rv, ?_⟩
    rcases S.par y (List.mem_of_getElem? hp) with k | k
    · exact .inl ⟨k, bindL_get ndP hp hu k⟩
    · obtain ⟨c, e⟩ := cell_has (n := s.heap.objs.size + 1) k
      refine .inr ⟨.inl k, c, e, ?_⟩
      have q := x.cell y c e
      rw [bindC_get ndP hp hu (by show scope.names.lookup y ≠ _; rw [k]; decide)] at q
      exact q
  · exact e0.hok.fresh (Nat.le_of_lt (x.above y c (PySem.mem_of_lookup h)))
  · unfold start
    show _ = N.length
    rw [List.length_append, List.length_map, List.length_replicate]
    omega
theorem fn_of {CX : CXT} {P : Program} {w : World} {K : PySem.W.Frag} {mg : Str → Option Value} {base : Heap} {k : Nat} {f : Addr} {name qual : Str} {params : Arguments} {body : List Stmt} {scope : Scope} {dV kV doc pm cdv ct oc : Value} {an od : Option Addr}
    {osl : Array (Option Value)} {N ps : List Str} {sp : Sp} (lk : K.lookup f = some ⟨oc, od, .func (PySem.W.fnOf name qual params body scope dV kV doc pm an cdv ct), osl⟩) (hcd : PySem.W.codeIn K cdv qual = true) (S : FnScope N ps scope)
    (len : ∀ vs H Q E, sp vs H Q E → vs.length = ps.length)
    (hbody : ∀ (A : Around) (outer : List Env) (s : Shared) (H : Hp) (vs : List V) (Q : VK) (E : XK), Room k (A.deeper (envOfC qual scope s.heap.objs.size f cdv)) → sp vs H Q E →
      ∃ t, PSs (cxOf CX P w K mg base N qual scope f cdv A outer s H E) body t ∧ t { nx := fun _ H' => Q .non H', rt := Q } (start N vs) H) :
    FnOk P w K mg base CX (k + 1) f (PySem.W.fnOf name qual params body scope dV kV doc pm an cdv ct) ps sp := by
  refine ⟨len, fun A outer s H args us vs Q E hr e0 hb r hsp => ?_⟩
  have hl := len _ _ _ _ hsp
  have KX : K.In s.heap := e0.mod.kin.keeps fun b o e => (e0.bs b o e).1
  have lim : s.heap.NoLimit := e0.mod.nolimit.keeps fun b o e => (e0.bs b o e).1
  have hkind : ∀ y ∈ ps.zip us, scope.names.lookup y.1 = some .local ∨ (scope.names.lookup y.1 = some .cell ∧ ((cellsFrom (s.heap.objs.size + 1) scope.names []).lookup y.1).isSome = true) := fun ⟨n, v⟩ hy => by
    rcases S.par n (List.of_mem_zip hy).1 with q | q
    · exact .inl q
    · exact .inr ⟨q, PySem.W.cellsFrom_some _ _ _ (.inl q)⟩
  refine codeAny_call_function hr.depth (KX _ _ lk) rfl S.co S.gen rfl (PySem.W.codeRec_of KX hcd) (hb _ _ _ _ ?_)
  refine wpAny_newFunctionEnv_cells S.kind hkind fun env he s1 x => ?_
  subst he
  refine ⟨lim.keeps x.toInCall.keep, codeAny_func ?_⟩
  obtain ⟨t, ht, hq⟩ := hbody A outer s H vs Q E (hr.deeper _) hsp
  have I : Inv (cxOf CX P w K mg base N qual scope f cdv A outer s H E) [] (start N vs) H s1 := inv_start S hr.hd e0 hl r x
  refine wpAny_mono (ht [] s1 (start N vs) H _ I hq) (fun fl s' hs => ?_) fun e s' hs => hs
  have fin : ∀ {σ' : St} {H' : Hp} {v : V} {u : Value}, Inv (cxOf CX P w K mg base N qual scope f cdv A outer s H E) [] σ' H' s' → RelV v u → Q v H' → CE outer P w H s Q u s' :=
    fun {σ' H' v u} J rv q => ⟨v, H', J.os, J.bare, J.base, J.hok, rv, q⟩
  cases fl with
  | ret u =>
    obtain ⟨v, σ', H', J, rv, q⟩ := hs
    exact fin J rv q
  | next =>
    obtain ⟨σ', H', J, q⟩ := hs
    exact fin (v := V.non) (u := Value.none) J rfl q
  | brk =>
    obtain ⟨_, _, _, q⟩ := hs
    exact False.elim q
  | cont =>
    obtain ⟨_, _, _, q⟩ := hs
    exact False.elim q
end L2
namespace L2
open PySem PySem.Spec PyProof.Rows
section
variable {X : Cx} {x : Str} {p pos : Pos} {e : Expr} {es : List Expr} {t : TA} {id T : String} {r : List V → Hp → VK → Prop}
def tCB (r : List V → Hp → VK → Prop) (t : TA) : TE := fun σ H Q => t σ H fun vs H1 => r vs H1 Q
theorem pe_callB (hc : CallR X (.builtin id) r) (hg : Gl X x) (hm : X.mg x = none) (hv : bootBuiltins x = some (.builtin id)) (ha : PA X (e :: es) t) (hn : x ≠ "__name__" := by decide) (hdb : (x == ("__debug__" : Str)) = false := by decide)
    (he : starEach (e :: es) X.env = (false, eval e X.env) :: starEach es X.env := by rfl) (hpl : (backTo pos (starEach es X.env)).any (·.1) = false := by rfl) : PE X (.Call (.Name x p) (e :: es) [] pos) (tCB r t) := by
  intro pins s σ H Q I h
  refine wpAny_Call_Name_kw (ld_blt I hg hm hv ?_ hn hdb)
  exact PyProof.Rows.callWith_builtin1 (thn (ha pos pins s σ H _ I h) fun us s1 ⟨vs, H1, I1, r1, q1⟩ => hc pins s1 σ H1 vs us Q I1 r1 q1) he hpl
theorem pe_callTy (hc : CallR X (.type T) r) (hg : Gl X x) (hm : X.mg x = none) (hv : bootBuiltins x = some (.type T)) (ha : PA X (e :: es) t) (hn : x ≠ "__name__" := by decide) (hdb : (x == ("__debug__" : Str)) = false := by decide)
    (he : starEach (e :: es) X.env = (false, eval e X.env) :: starEach es X.env := by rfl) (hpl : (backTo pos (starEach es X.env)).any (·.1) = false := by rfl) : PE X (.Call (.Name x p) (e :: es) [] pos) (tCB r t) := by
  intro pins s σ H Q I h
  refine wpAny_Call_Name_kw (ld_blt I hg hm hv ?_ hn hdb)
  exact PyProof.Rows.callWith_type1 (thn (ha pos pins s σ H _ I h) fun us s1 ⟨vs, H1, I1, r1, q1⟩ => hc pins s1 σ H1 vs us Q I1 r1 q1) he hpl
end
end L2
namespace HT
open PySem PyProof.Rows
section
open PySem.SeqAt
open PySem.AutoSeq1 (wpAny_loadPart')
open PySem.MeetsSeq PySem.MeetsSeq2 PySem.MeetsSeq3
end
section
variable {prog : Program} {w : World} {A : Around} {E : Value → Shared → Prop} {s : Shared}
def sIx (n d : Nat) : Option Int → Nat
  | none => d
  | some v => if v < 0 then (v + (n : Int)).toNat else min v.toNat n
theorem sIx_none (n d : Nat) : sIx n d none = d := rfl
theorem sIx_nat (n d k : Nat) : sIx n d (some (k : Int)) = min k n := by
  show (if (k : Int) < 0 then ((k : Int) + (n : Int)).toNat else min (k : Int).toNat n) = min k n
  rw [if_neg (by omega), Int.toNat_natCast]
end
end HT
namespace L2
open PySem PySem.Spec PyProof.Rows
abbrev TO := St → Hp → (Option Int → Hp → Prop) → Prop
def PO (X : Cx) (e : Option Expr) (t : TO) : Prop :=
  ∀ (pins : List (Addr × Obj)) (s : Shared) (σ : St) (H : Hp) (Q : Option Int → Hp → Prop), Inv X pins σ H s → t σ H Q →
    wpAny (model X.prog X.w) X.A (evalPart e X.env) (fun u s' => ∃ o H', Inv X pins σ H' s' ∧ IsPart u o ∧ Q o H') X.xe s
def tNoPart : TO := fun _ H Q => Q none H
def tPart (t : TE) : TO := fun σ H Q => t σ H fun x H1 => ∃ i, x = .int i ∧ Q (some i) H1
theorem intsAre_of {ns : List Int} : ∀ {us : List Value}, Vals (ns.map V.int) us → IntsAre us ns := by
  induction ns with
  | nil => intro us r; rw [List.map_nil] at r; cases r; exact .nil
  | cons n ns ih =>
    intro us r
    rw [List.map_cons] at r
    cases r with
    | cons r1 r2 =>
      obtain ⟨t, e⟩ := r1
      subst e
      exact .cons n t (ih r2)
section
variable {X : Cx} {e : Expr} {te : TE} {lo hi : Option Expr} {tl th : TO} {pos p2 : Pos}
theorem po_none : PO X none tNoPart := by
  intro pins s σ H Q I h
  rw [evalPart_none]
  exact wpAny_pure ⟨none, H, I, .none, h⟩
theorem po_some (h : PE X e te) : PO X (some e) (tPart te) := by
  intro pins s σ H Q I hw
  rw [evalPart_some]
  refine thn (h pins s σ H _ I hw) fun u s1 ⟨x, H1, I1, r1, q1⟩ => ?_
  obtain ⟨i, rfl, q⟩ := q1
  obtain ⟨t, rfl⟩ := r1
  exact ⟨some i, H1, I1, .int i t, q⟩
def SlR (X : Cx) (r : V → Option Int → Option Int → Hp → VK → Prop) : Prop :=
  ∀ (pins : List (Addr × Obj)) (s : Shared) (σ : St) (H : Hp) (x : V) (v vl vu : Value) (lo hi : Option Int) (sl : Addr) (Q : VK), Inv X pins σ H s → RelV x v → s.heap.IsSliceOf sl vl vu .none → IsPart vl lo → IsPart vu hi → r x lo hi H Q →
    ∃ T id, typeLookup (.type T) "__getitem__" = pure (some (.builtin id)) ∧ s.TypeIs v T ∧ wpAny (model X.prog X.w) X.A (getItem v (.ref sl)) (EP X pins σ Q) X.xe s
theorem SlR.or {r r' : V → Option Int → Option Int → Hp → VK → Prop} (h : SlR X r) (h' : SlR X r') : SlR X (fun x lo hi H Q => r x lo hi H Q ∨ r' x lo hi H Q) := by
  intro pins s σ H x v vl vu lo hi sl Q I rx hs pl pu q
  rcases q with q | q
  · exact h pins s σ H x v vl vu lo hi sl Q I rx hs pl pu q
  · exact h' pins s σ H x v vl vu lo hi sl Q I rx hs pl pu q
def tSl (r : V → Option Int → Option Int → Hp → VK → Prop) (te : TE) (tl th : TO) : TE := fun σ H Q => te σ H fun x H1 => tl σ H1 fun l H2 => th σ H2 fun u H3 => r x l u H3 Q
theorem pe_slice {r : V → Option Int → Option Int → Hp → VK → Prop} (hr : SlR X r) (he : PE X e te) (hl : PO X lo tl) (hu : PO X hi th) : PE X (.Subscript e (.Slice lo hi none p2) pos) (tSl r te tl th) := by
  intro pins s σ H Q I h
  refine Subscript_ (thn (he pins s σ H _ I h) fun v s1 ⟨x, H1, I1, r1, q1⟩ => ?_)
  refine wpAny_Slice (thn (hl pins s1 σ H1 _ I1 q1) fun vl s2 ⟨l, H2, I2, pl, q2⟩ => thn (hu pins s2 σ H2 _ I2 q2) fun vu s3 ⟨u, H3, I3, pu, q3⟩ => ?_)
  rw [evalPart_none]
  refine wpAny_pure ?_
  have I4 : Inv X pins σ H3 { s3 with heap := s3.heap.push { cls := .type "slice", data := .fields #[vl, vu, .none] } } := I3.kept (t' := s3.toks) fun b ob q => Heap.get?_push_of_some _ q
  obtain ⟨T, id, hT, ht, hg⟩ := hr pins { s3 with heap := s3.heap.push { cls := .type "slice", data := .fields #[vl, vu, .none] } } σ H3 x v vl vu l u s3.heap.objs.size Q I4 r1 (Heap.IsSliceOf.new ..) pl pu q3
  show wpAny (model X.prog X.w) X.A (subscriptTail e (.Slice lo hi none p2) v (.ref s3.heap.objs.size)) (EP X pins σ Q) X.xe { s3 with heap := s3.heap.push { cls := .type "slice", data := .fields #[vl, vu, .none] } }
  exact tail_any (ops := [.ref s3.heap.objs.size, v]) ht hT hg (by with_unfolding_all rfl)
def cutV (xs : List V) (lo hi : Option Int) : List V := (xs.drop (HT.sIx xs.length 0 lo)).take (HT.sIx xs.length xs.length hi - HT.sIx xs.length 0 lo)
theorem cutV_length (xs : List V) (lo hi : Option Int) : (cutV xs lo hi).length ≤ xs.length := by
  unfold cutV
  rw [List.length_take, List.length_drop]
  omega
end
end L2
namespace L2
open PySem PySem.Spec PyProof.Rows
def ixN (n : Nat) (i : Int) : Option Nat := if 0 ≤ i then (if i < n then some i.toNat else none) else if -(n : Int) ≤ i then some (i + n).toNat else none
def atI {α : Type} (xs : List α) (i : Int) : Option α := (ixN xs.length i).bind fun j => xs[j]?
theorem ixN_seq {n : Nat} {i : Int} {j : Nat} (h : ixN n i = some j) : seqIndex? i n = some j ∧ j < n ∧ -(n : Int) ≤ i ∧ i < n := by
  unfold ixN at h
  by_cases h0 : 0 ≤ i
  · rw [if_pos h0] at h
    by_cases h1 : i < n
    · rw [if_pos h1] at h
      have e : i.toNat = j := Option.some.inj h
      exact ⟨by rw [seqIndex_of h0 h1, e], by omega, by omega, h1⟩
    · rw [if_neg h1] at h; cases h
  · rw [if_neg h0] at h
    by_cases h1 : -(n : Int) ≤ i
    · rw [if_pos h1] at h
      have e : (i + n).toNat = j := Option.some.inj h
      exact ⟨by rw [seqIndex_neg (by omega) h1, e], by omega, h1, by omega⟩
    · rw [if_neg h1] at h; cases h
theorem atI_get {α : Type} {xs : List α} {i : Int} {v : α} (h : atI xs i = some v) : ∃ j, seqIndex? i xs.length = some j ∧ xs[j]? = some v ∧ j < xs.length ∧ -(xs.length : Int) ≤ i ∧ i < xs.length := by
  unfold atI at h
  cases e : ixN xs.length i with
  | none => rw [e] at h; cases h
  | some j =>
    rw [e] at h
    obtain ⟨h1, h2, h3, h4⟩ := ixN_seq e
    exact ⟨j, h1, h, h2, h3, h4⟩
theorem atI_nat {α : Type} {xs : List α} {j : Nat} {v : α} (h : xs[j]? = some v) : atI xs (j : Int) = some v := by
  have hj : j < xs.length := (List.getElem?_eq_some_iff.mp h).1
  have e : ixN xs.length (j : Int) = some j := by
    unfold ixN
    rw [if_pos (by omega), if_pos (by omega)]; simp
  unfold atI; rw [e]; exact h
theorem atI_last {α : Type} (xs : List α) (v : α) : atI (xs ++ [v]) (-1) = some v := by
  have hl : (xs ++ [v]).length = xs.length + 1 := by simp
  have e : ixN (xs ++ [v]).length (-1) = some xs.length := by
    unfold ixN
    rw [hl, if_neg (by decide), if_pos (by omega)]
    congr 1
    omega
  unfold atI
  rw [e]
  show (xs ++ [v])[xs.length]? = some v
  simp
def PlainIx (b : Expr) : Prop := ∀ o i, subscripted b false o i = operate [o, i] (getItem o i)
def IxR (X : Cx) (r : R2) : Prop :=
  ∀ (value slice : Expr) (pins : List (Addr × Obj)) (s : Shared) (σ : St) (H : Hp) (x y : V) (v u : Value) (Q : VK), Inv X pins σ H s → RelV x v → RelV y u → r x y H Q →
    subscripted slice false v u = operate [v, u] (getItem v u) → wpAny (model X.prog X.w) X.A (subscriptTail value slice v u) (EP X pins σ Q) X.xe s
def MtR (X : Cx) (id : String) (r : V → List V → Hp → VK → Prop) : Prop :=
  ∀ (pins : List (Addr × Obj)) (s : Shared) (σ : St) (H : Hp) (x : V) (xs : List V) (v : Value) (us : List Value) (Q : VK), Inv X pins σ H s → RelV x v → Vals xs us → r x xs H Q →
    wpAny (model X.prog X.w) X.A (call (.builtin id) (v :: us)) (EP X pins σ Q) X.xe s
section
variable {X : Cx} {a b : Expr} {ta tb : TE} {pos : Pos}
theorem IxR.or {r r' : R2} (h : IxR X r) (h' : IxR X r') : IxR X (fun x y H Q => r x y H Q ∨ r' x y H Q) := by
  intro value slice pins s σ H x y v u Q I rx ry q hs
  rcases q with q | q
  · exact h value slice pins s σ H x y v u Q I rx ry q hs
  · exact h' value slice pins s σ H x y v u Q I rx ry q hs
theorem MtR.or {id : String} {r r' : V → List V → Hp → VK → Prop} (h : MtR X id r) (h' : MtR X id r') : MtR X id (fun x xs H Q => r x xs H Q ∨ r' x xs H Q) := by
  intro pins s σ H x xs v us Q I rx rs q
  rcases q with q | q
  · exact h pins s σ H x xs v us Q I rx rs q
  · exact h' pins s σ H x xs v us Q I rx rs q
theorem pe_ix {r : R2} (hr : IxR X r) (ha : PE X a ta) (hb : PE X b tb) (hs : PlainIx b) : PE X (.Subscript a b pos) (tOp r ta tb) := by
  intro pins s σ H Q I h
  exact Subscript_ (binT ha hb I h fun v u s2 x y H2 I2 rx ry q => hr a b pins s2 σ H2 x y v u Q I2 rx ry q (hs _ _))
def rIxL (K : PySem.W.Frag) : R2 := fun x y H Q => ∃ p xs i v, x = .ref p ∧ y = .int i ∧ SqL K H p xs ∧ atI xs i = some v ∧ Q v H
def rIxT (K : PySem.W.Frag) : R2 := fun x y H Q => ∃ p xs i v, x = .ref p ∧ y = .int i ∧ SqT K H p xs ∧ atI xs i = some v ∧ Q v H
theorem ix_list : IxR X (rIxL X.K) := by
  intro value slice pins s σ H x y v u Q I rx ry h hs
  obtain ⟨p, xs, i, z, rfl, rfl, hq, he, q⟩ := h
  cases rx
  obtain ⟨t, rfl⟩ := ry
  obtain ⟨its, r, pl, hz⟩ := I.list hq
  obtain ⟨j, h1, h2, h3, h4, h5⟩ := atI_get he
  obtain ⟨w, ew, rw'⟩ := r.get h2
  have hl := r.length
  have hn := line63
  have fin : EP X pins σ Q w s := ⟨z, H, I, rw', q⟩
  by_cases h0 : 0 ≤ i
  · have hj : i.toNat = j := by
      rw [seqIndex_of h0 h5] at h1
      exact Option.some.inj h1
    exact item_listR pl.isList h0 (by omega) (by rw [hj]; simpa using ew) fin hs
  · have hj : (i + (its.toArray.size : Int)).toNat = j := by
      rw [seqIndex_neg (by omega) h4] at h1
      rw [List.size_toArray, ← hl]
      exact Option.some.inj h1
    exact subscriptTail_builtinR (x := w) pl.isList.typeIs slot_list_getitem.lookup
      (wpAny_getItem_list_neg (Q := fun r s' => r = w ∧ EP X pins σ Q r s') pl.isList (by omega) (by rw [List.size_toArray] <;> omega) (by omega) (by rw [hj]; simpa using ew) ⟨rfl, fin⟩) hs
theorem ix_tup : IxR X (rIxT X.K) := by
  intro value slice pins s σ H x y v u Q I rx ry h hs
  obtain ⟨p, xs, i, z, rfl, rfl, hq, he, q⟩ := h
  cases rx
  obtain ⟨t, rfl⟩ := ry
  obtain ⟨its, r, pl, hz⟩ := I.tuple hq
  obtain ⟨j, h1, h2, h3, h4, h5⟩ := atI_get he
  obtain ⟨w, ew, rw'⟩ := r.get h2
  have hl := r.length
  have hn := line63
  have fin : EP X pins σ Q w s := ⟨z, H, I, rw', q⟩
  exact subscriptTail_builtinR (x := w) pl.typeIs slot_tuple_getitem.lookup
    (getItem_tuple (j := j) (Q := fun r s' => r = w ∧ EP X pins σ Q r s') pl (by omega) (by omega) (by rw [List.size_toArray, ← hl]; exact h1) (by simpa using ew) ⟨rfl, fin⟩) hs
theorem mapSeq_set (its : List Value) (n j : Nat) (u : Value) : Obj.mapSeq (·.setIfInBounds j u) { cls := .type "list", data := .seq its.toArray n } = { cls := .type "list", data := .seq (its.set j u).toArray n } := by
  simp [Obj.mapSeq]
theorem Inv.lst {pins : List (Addr × Obj)} {σ : St} {H : Hp} {s : Shared} {p : Addr} {xs : List V} (I : Inv X pins σ H s) (h : H p = some (.lst xs)) :
    ∃ (its : List Value) (n : Nat), Vals xs its ∧ s.heap.get? p = some { cls := .type "list", data := .seq its.toArray n } ∧ xs.length ≤ sizeLine := by
  obtain ⟨z, its, n, r, e⟩ := I.hok p _ h
  exact ⟨its, n, r, e, z⟩
theorem Inv.lstUpd {pins : List (Addr × Obj)} {σ : St} {H : Hp} {s : Shared} {p : Addr} {xs ys : List V} {its its' : List Value} {n n' : Nat} {f : Obj → Obj} (I : Inv X pins σ H s) (h : H p = some (.lst xs))
    (ho : s.heap.get? p = some { cls := .type "list", data := .seq its.toArray n }) (hf : f { cls := .type "list", data := .seq its.toArray n } = { cls := .type "list", data := .seq its'.toArray n' }) (r : Vals ys its') (hz : ys.length ≤ sizeLine) (t : Nat) :
    Inv X pins σ (upd H p (.lst ys)) { s with heap := s.heap.update p f, toks := t } := by
  have e : (s.heap.update p f).get? p = some { cls := .type "list", data := .seq its'.toArray n' } := by
    rw [Heap.get?_update_self f ho (by rw [hf] <;> rfl), hf]
  refine I.write (x := p) (e := p) (by rw [h]; trivial) (.inl rfl) (fun b u hb q => (Heap.get?_update_other _ _ (Ne.symm hb)).trans q) ⟨_, e⟩ ?_
  exact ⟨hz, its', n', r, e⟩
def rSetL : V → V → V → Hp → (Hp → Prop) → Prop := fun o i v H Q => ∃ p xs k j, o = .ref p ∧ i = .int k ∧ H p = some (.lst xs) ∧ ixN xs.length k = some j ∧ Q (upd H p (.lst (xs.set j v)))
theorem set_list : PSet X rSetL := by
  intro pins s σ H o i v ov iv u Q I ro ri rv h
  obtain ⟨p, xs, k, j, rfl, rfl, hp, hj, q⟩ := h
  cases ro
  obtain ⟨t, rfl⟩ := ri
  obtain ⟨its, n, r, ho, hz⟩ := I.lst hp
  obtain ⟨h1, h2, h3, h4⟩ := ixN_seq hj
  have hl := r.length
  have hn := line63
  have I' : Inv X pins σ (upd H p (.lst (xs.set j v))) { s with heap := s.heap.update p (Obj.mapSeq (·.setIfInBounds j u)) } :=
    I.lstUpd hp ho (mapSeq_set its n j u) (r.set rv j) (by rw [List.length_set]; exact hz) s.toks
  by_cases h0 : 0 ≤ k
  · have hk : k.toNat = j := by
      rw [seqIndex_of h0 h4] at h1
      exact Option.some.inj h1
    exact PySem.W.ki_setAt ho h0 (by omega) (by rw [List.size_toArray, ← hl]; exact h4) (by rw [hk]; exact ⟨_, I', q⟩)
  · have hk : (k + (its.toArray.size : Int)).toNat = j := by
      rw [seqIndex_neg (by omega) h3] at h1
      rw [List.size_toArray, ← hl]
      exact Option.some.inj h1
    exact PySem.W.ki_setBack ho (by omega) (by rw [List.size_toArray, ← hl]; exact h3) (by omega) (by rw [hk]; exact ⟨_, I', q⟩)
theorem slice_bounds (lo hi : Option Int) (n : Nat) : (sliceBounds lo hi none n).1 = ((HT.sIx n 0 lo : Nat) : Int) ∧ (sliceBounds lo hi none n).2.1 = ((HT.sIx n n hi : Nat) : Int) ∧ (sliceBounds lo hi none n).2.2 = 1 := by
  refine ⟨?_, ?_, rfl⟩
  · cases lo with
    | none => simp [sliceBounds, HT.sIx]
    | some i =>
      simp only [sliceBounds, HT.sIx, Option.getD_none, show (1 : Int) > 0 by decide, if_true]
      by_cases h : i < 0
      · simp only [h, if_true] <;> omega
      · simp only [h, if_false] <;> omega
  · cases hi with
    | none => simp [sliceBounds, HT.sIx]
    | some i =>
      simp only [sliceBounds, HT.sIx, Option.getD_none, show (1 : Int) > 0 by decide, if_true]
      by_cases h : i < 0
      · simp only [h, if_true] <;> omega
      · simp only [h, if_false] <;> omega
theorem slicePick_cut (its : List Value) (lo hi : Option Int) : slicePick its.toArray lo hi none = ((its.drop (HT.sIx its.length 0 lo)).take (HT.sIx its.length its.length hi - HT.sIx its.length 0 lo)).toArray := by
  obtain ⟨h1, h2, h3⟩ := slice_bounds lo hi its.toArray.size
  unfold slicePick
  rw [h1, h2, h3]
  simp only [sliceRange_one, pick_run, List.size_toArray] <;> rfl
def rSlL (K : PySem.W.Frag) : V → Option Int → Option Int → Hp → VK → Prop := fun x lo hi H Q => ∃ a xs, x = .ref a ∧ SqL K H a xs ∧ ∀ p, H p = none → Q (.ref p) (upd H p (.lst (cutV xs lo hi)))
theorem sl_list : SlR X (rSlL X.K) := by
  intro pins s σ H x v vl vu lo hi sl Q I rx hs pl pu h
  obtain ⟨a, xs, rfl, hx, q⟩ := h
  cases rx
  obtain ⟨its, r, ht, hz⟩ := I.list hx
  have hlen := r.length
  refine ⟨"list", _, slot_list_getitem.lookup, ht.isList.typeIs, ?_⟩
  refine wpAny_getItem_list_slice ht.isList hs pl pu .none (by simp) ?_ (by rw [List.size_toArray] <;> omega)
  rw [slicePick_cut, ← hlen]
  refine ⟨.ref s.heap.objs.size, _, I.laid (t' := s.toks) (o := .lst (cutV xs lo hi)) (fun b ob q => Heap.get?_push_of_some _ q) (Nat.le_refl _) ?_, rfl, q _ (I.hok.fresh (Nat.le_refl _))⟩
  exact ⟨Nat.le_trans (cutV_length xs lo hi) hz, _, 0, (r.drop (HT.sIx xs.length 0 lo)).take (HT.sIx xs.length xs.length hi - HT.sIx xs.length 0 lo), Heap.get?_push_size _ rfl⟩
def flatV : V → Bool
  | .non => true
  | .bl _ => true
  | .int _ => true
  | .str _ => true
  | _ => false
def eqV : V → V → Bool
  | .non, .non => true
  | .bl a, .bl b => a == b
  | .bl a, .int b => (if a then 1 else 0) == b
  | .int a, .bl b => a == (if b then 1 else 0)
  | .int a, .int b => a == b
  | .str a, .str b => a == b
  | _, _ => false
theorem eqAt_V {A : Around} {s : Shared} {y x : V} {u v : Value} (ry : RelV y u) (rx : RelV x v) (fy : flatV y = true) (fx : flatV x = true) : SeqAt.EqAt A s u v (eqV y x) := by
  cases y with
  | non =>
    cases ry
    cases x with
    | non => cases rx; exact SeqAt.EqAt.same _
    | bl b => cases rx; exact SeqAt.EqAt.none_bool b
    | int b => obtain ⟨t, rfl⟩ := rx; exact SeqAt.EqAt.none_int b t
    | str b => obtain ⟨t, rfl⟩ := rx; exact SeqAt.EqAt.none_str b t
    | _ => exact absurd (show false = true from fx) Bool.false_ne_true
  | bl a =>
    cases ry
    cases x with
    | non => cases rx; exact SeqAt.EqAt.bool_none a
    | bl b => cases rx; exact SeqAt.EqAt.bool_bool a b
    | int b => obtain ⟨t, rfl⟩ := rx; exact SeqAt.EqAt.bool_int a b t
    | str b => obtain ⟨t, rfl⟩ := rx; exact SeqAt.EqAt.bool_str a b t
    | _ => exact absurd (show false = true from fx) Bool.false_ne_true
  | int a =>
    obtain ⟨t', rfl⟩ := ry
    cases x with
    | non => cases rx; exact SeqAt.EqAt.int_none a t'
    | bl b => cases rx; exact SeqAt.EqAt.int_bool a t' b
    | int b => obtain ⟨t, rfl⟩ := rx; exact SeqAt.EqAt.int_int a t' b t
    | str b => obtain ⟨t, rfl⟩ := rx; exact SeqAt.EqAt.int_str a t' b t
    | _ => exact absurd (show false = true from fx) Bool.false_ne_true
  | str a =>
    obtain ⟨t', rfl⟩ := ry
    cases x with
    | non => cases rx; exact SeqAt.EqAt.str_none a t'
    | bl b => cases rx; exact SeqAt.EqAt.str_bool a t' b
    | int b => obtain ⟨t, rfl⟩ := rx; exact SeqAt.EqAt.str_int a t' b t
    | str b => obtain ⟨t, rfl⟩ := rx; exact SeqAt.EqAt.str_str a t' b t
    | _ => exact absurd (show false = true from fx) Bool.false_ne_true
  | _ => exact absurd (show false = true from fy) Bool.false_ne_true
def eqU (x : V) (u : Value) : Bool := match u with
  | .none => eqV .non x
  | .bool b => eqV (.bl b) x
  | .int i _ => eqV (.int i) x
  | .str z _ => eqV (.str z) x
  | _ => false
theorem eqU_of {x y : V} {u : Value} (r : RelV y u) (f : flatV y = true) : eqU x u = eqV y x := by
  cases y with
  | non => cases r; rfl
  | bl b => cases r; rfl
  | int i => obtain ⟨t, rfl⟩ := r; rfl
  | str z => obtain ⟨t, rfl⟩ := r; rfl
  | _ => exact absurd (show false = true from f) Bool.false_ne_true
theorem any_eqU {x : V} : ∀ {xs : List V} {us : List Value}, Vals xs us → xs.all flatV = true → us.any (eqU x) = xs.any fun y => eqV y x
  | _, _, .nil, _ => rfl
  | y :: xs, u :: us, .cons r t, f => by
    rw [List.all_cons, Bool.and_eq_true] at f
    rw [List.any_cons, List.any_cons, eqU_of r f.1, any_eqU t f.2]
theorem mem_eqAt {A : Around} {s : Shared} {x : V} {v : Value} (rx : RelV x v) (fx : flatV x = true) : ∀ {xs : List V} {us : List Value}, Vals xs us → xs.all flatV = true → ∀ u ∈ us, SeqAt.EqAt A s u v (eqU x u)
  | _, _, .nil, _ => fun u hu => by cases hu
  | y :: xs, u :: us, .cons r t, f => fun u' hu => by
    rw [List.all_cons, Bool.and_eq_true] at f
    rcases List.mem_cons.mp hu with rfl | hu
    · rw [eqU_of r f.1]; exact eqAt_V r rx f.1 fx
    · exact mem_eqAt rx fx t f.2 u' hu
def inV (x : V) (xs : List V) : Bool := xs.any fun y => eqV y x
def rIn (K : PySem.W.Frag) (neg : Bool) : R2 := fun x y H Q => ∃ p xs, y = .ref p ∧ (SqL K H p xs ∨ SqT K H p xs) ∧ flatV x = true ∧ xs.all flatV = true ∧ Q (.bl (if neg then !inV x xs else inV x xs)) H
theorem op_in_seq : OpR X (compareOp .In) (rIn X.K false) := by
  intro pins s σ H x y v u Q I rx ry h
  obtain ⟨p, xs, rfl, hq, fx, fs, q⟩ := h
  cases ry
  rcases hq with hq | hq
  · obtain ⟨its, r, pl, hz⟩ := I.list hq
    refine SeqAt.in_listAt (eqU x) pl.isList (fun w hw => mem_eqAt rx fx r fs w (by simpa using hw)) ⟨.bl _, H, I, rfl, ?_⟩
    rw [show its.toArray.any (eqU x) = its.any (eqU x) by simp, any_eqU r fs]
    exact q
  · obtain ⟨its, r, pl, hz⟩ := I.tuple hq
    refine SeqAt.in_tupleAt (eqU x) pl (fun w hw => mem_eqAt rx fx r fs w (by simpa using hw)) ⟨.bl _, H, I, rfl, ?_⟩
    rw [show its.toArray.any (eqU x) = its.any (eqU x) by simp, any_eqU r fs]
    exact q
theorem call_len_seq : CallR X (.builtin "len") (fun xs H Q => ∃ p ys, xs = [.ref p] ∧ (SqL X.K H p ys ∨ SqT X.K H p ys) ∧ Q (.int ys.length) H) := by
  intro pins s σ H xs us Q I r h
  obtain ⟨p, ys, rfl, hq, q⟩ := h
  obtain ⟨u, rfl, rx⟩ := vals1 r
  cases rx
  have hn := line63
  rcases hq with hq | hq
  · obtain ⟨its, r', pl, hz⟩ := I.list hq
    have hlen := r'.length
    exact Calls.call_len_list pl.isList (by simp only [List.size_toArray] <;> omega) ⟨.int ys.length, H, I.tok _, ⟨s.toks + 1, by rw [List.size_toArray, hlen]⟩, q⟩
  · obtain ⟨its, r', pl, hz⟩ := I.tuple hq
    have hlen := r'.length
    exact len_tuple pl (by simp only [List.size_toArray] <;> omega) ⟨.int ys.length, H, I.tok _, ⟨s.toks + 1, by rw [List.size_toArray, hlen]⟩, q⟩
theorem CallR.or {f : Value} {r r' : List V → Hp → VK → Prop} (h : CallR X f r) (h' : CallR X f r') : CallR X f (fun xs H Q => r xs H Q ∨ r' xs H Q) := by
  intro pins s σ H xs us Q I rs q
  rcases q with q | q
  · exact h pins s σ H xs us Q I rs q
  · exact h' pins s σ H xs us Q I rs q
theorem call_list_of : CallR X (.type "list") (fun xs H Q => ∃ p ys, xs = [.ref p] ∧ (SqL X.K H p ys ∨ SqT X.K H p ys) ∧ ∀ l, H l = none → Q (.ref l) (upd H l (.lst ys))) := by
  intro pins s σ H xs us Q I r h
  obtain ⟨p, ys, rfl, hq, q⟩ := h
  obtain ⟨u, rfl, rx⟩ := vals1 r
  cases rx
  have fin : ∀ (its : List Value), Vals ys its → ys.length ≤ sizeLine → ∀ (h' : Heap) (c' : Nat), (∀ b o', s.heap.get? b = some o' → h'.get? b = some o') →
      h'.get? s.heap.objs.size = some { cls := .type "list", dict := none, data := .seq its.toArray c', slots := #[] } → EP X pins σ Q (.ref s.heap.objs.size) { s with heap := h' } := fun its r' hz h' c' kp e =>
    ⟨.ref s.heap.objs.size, _, I.laid (t' := s.toks) kp (Nat.le_refl _) (show ObjOk X.prog X.w _ h' _ (.lst ys) from ⟨hz, its, c', r', e⟩), rfl, q _ (I.hok.fresh (Nat.le_refl _))⟩
  rcases hq with hq | hq
  · obtain ⟨its, r', pl, hz⟩ := I.list hq
    have hlen := r'.length
    obtain ⟨o, ho, hc, n, hd⟩ := pl.isList
    exact call_list_seq p (.inl rfl) ho hc hd (fun h' c' kp e => fin its r' hz h' c' kp e) (by simp only [List.size_toArray] <;> omega)
  · obtain ⟨its, r', pl, hz⟩ := I.tuple hq
    have hlen := r'.length
    obtain ⟨o, ho, hc, n, hd⟩ := pl
    exact call_list_seq p (.inr rfl) ho hc hd (fun h' c' kp e => fin its r' hz h' c' kp e) (by simp only [List.size_toArray] <;> omega)
theorem call_tuple_of : CallR X (.type "tuple") (fun xs H Q => ∃ p ys, xs = [.ref p] ∧ ((SqL X.K H p ys ∧ ∀ l, H l = none → Q (.ref l) (upd H l (.tup ys))) ∨ (SqT X.K H p ys ∧ Q (.ref p) H))) := by
  intro pins s σ H xs us Q I r h
  obtain ⟨p, ys, rfl, h⟩ := h
  obtain ⟨u, rfl, rx⟩ := vals1 r
  cases rx
  rcases h with ⟨hq, q⟩ | ⟨hq, q⟩
  · obtain ⟨its, r', pl, hz⟩ := I.list hq
    have hlen := r'.length
    refine call_tuple_list pl.isList (fun h' kp => ?_) (by simp only [List.size_toArray] <;> omega)
    have I1 : Inv X pins σ H { s with heap := h' } := I.kept (t' := s.toks) kp
    have I2 : Inv X pins σ (upd H h'.objs.size (.tup ys)) { s with heap := h'.push { cls := .type "tuple", data := .seq its.toArray } } :=
      I1.laid (t' := s.toks) (fun b o e => Heap.get?_push_of_some _ e) (Nat.le_refl _) (show ObjOk X.prog X.w _ _ _ (.tup ys) from ⟨hz, its, r', IsTup.new _ _⟩)
    exact ⟨.ref h'.objs.size, _, I2, rfl, q _ (I1.hok.fresh (Nat.le_refl _))⟩
  · obtain ⟨its, r', pl, hz⟩ := I.tuple hq
    exact call_tuple_same pl ⟨.ref p, H, I, rfl, q⟩
def tyV (K : PySem.W.Frag) (T : String) (x : V) (H : Hp) : Prop := match x with
  | .str _ => T = "str"
  | .int _ => T = "int"
  | .ref p => (T = "list" ∧ ∃ xs, SqL K H p xs) ∨ (T = "tuple" ∧ ∃ o, K.lookup p = some o ∧ o.cls = .type "tuple" ∧ o.dict = none) ∨
      (T = "dict" ∧ ((∃ kvs, H p = some (.dK kvs)) ∨ ∃ kvs, H p = some (.dT kvs))) ∨ (T = "set" ∧ ∃ S n, H p = some (.set S n))
  | _ => False
theorem tyV_is {pins : List (Addr × Obj)} {σ : St} {H : Hp} {s : Shared} {T : String} {x : V} {v : Value} (I : Inv X pins σ H s) (r : RelV x v) (ty : tyV X.K T x H) :
    s.TypeIs v T ∧ ∀ a, v = .ref a → ∃ ob, s.heap.get? a = some ob ∧ ob.dict = none := by
  cases x with
  | str z =>
    obtain ⟨t, rfl⟩ := r
    cases (show T = "str" from ty)
    exact ⟨typeIs_str s z t, fun _ e => nomatch e⟩
  | int i =>
    obtain ⟨t, rfl⟩ := r
    cases (show T = "int" from ty)
    exact ⟨typeIs_int s i t, fun _ e => nomatch e⟩
  | ref p =>
    cases r
    rcases ty with ⟨rfl, xs, hq⟩ | ⟨rfl, o, hk, hc, hd⟩ | ⟨rfl, hk⟩ | ⟨rfl, S, n, hk⟩
    · obtain ⟨its, _, pl, _⟩ := I.list hq
      refine ⟨pl.isList.typeIs, fun a e => ?_⟩
      cases e
      obtain ⟨o, n, e, c, hd, _⟩ := pl
      exact ⟨o, e, hd⟩
    · refine ⟨⟨o, I.kIn p o hk, hc⟩, fun a e => ?_⟩
      cases e
      exact ⟨o, I.kIn _ o hk, hd⟩
    · have z : ∃ o, s.heap.get? p = some o ∧ o.ExactDict := by
        rcases hk with ⟨kvs, hk⟩ | ⟨kvs, hk⟩
        · obtain ⟨_, _, _, _, o, _, _, e, ex, _⟩ := I.hok p _ hk
          exact ⟨o, e, ex⟩
        · obtain ⟨_, _, _, _, o, _, _, e, ex, _⟩ := I.hok p _ hk
          exact ⟨o, e, ex⟩
      obtain ⟨o, e, ex⟩ := z
      refine ⟨⟨o, e, ex.1⟩, fun a e2 => ?_⟩
      cases e2
      exact ⟨o, e, ex.2.1⟩
    · obtain ⟨o, _, _, _, e, ex, _⟩ := I.hok p _ hk
      refine ⟨⟨o, e, ex.1⟩, fun a e2 => ?_⟩
      cases e2
      exact ⟨o, e, ex.2.1⟩
  | _ => exact False.elim ty
def tBM0 (K : PySem.W.Frag) (T : String) (r : V → List V → Hp → VK → Prop) (to : TE) : TE := fun σ H Q => to σ H fun x H1 => tyV K T x H1 ∧ r x [] H1 Q
def tBM (K : PySem.W.Frag) (T : String) (r : V → List V → Hp → VK → Prop) (to : TE) (t : TA) : TE := fun σ H Q => to σ H fun x H1 => tyV K T x H1 ∧ t σ H1 fun xs H2 => r x xs H2 Q
variable {o e : Expr} {es : List Expr} {to : TE} {t : TA} {name : Str} {apos cpos : Pos} {T id : String} {r : V → List V → Hp → VK → Prop}
theorem pe_bm0 (pa : PlainAttrs T) (slot : Slot T name id) (hty : typeOf (.builtin id) = pure (.type "method_descriptor")) (hm : MtR X id r) (ho : PE X o to)
    (hbase : attributeBase o name X.env (eval o X.env) = eval o X.env := by rfl) (hline : (apos.endLine == cpos.line) = true := by rfl) : PE X (.Call (.Attribute o name apos) [] [] cpos) (tBM0 X.K T r to) := by
  intro pins s σ H Q I h
  refine wpAny_Call_method0_late hbase hline (thn (ho pins s σ H _ I h) fun v s1 ⟨x, H1, I1, r1, ty, q1⟩ => ?_)
  obtain ⟨h1, h2⟩ := tyV_is I1 r1 ty
  exact ⟨T, id, pa, slot, hty, h1, h2, Calls.callWith_builtin rfl (PySem.evalArgs_none (hm pins s1 σ H1 x [] v [] Q I1 r1 .nil q1))⟩
theorem pe_bm (pa : PlainAttrs T) (slot : Slot T name id) (hty : typeOf (.builtin id) = pure (.type "method_descriptor")) (hm : MtR X id r) (ho : PE X o to) (ha : PA X (e :: es) t)
    (hbase : attributeBase o name X.env (eval o X.env) = eval o X.env := by rfl)
    (hfew : ((backTo cpos (starEach (e :: es) X.env)).all (fun x => !x.1) && (backToKw cpos (keywordEach [] X.env)).all (fun x => x.1.isSome)
      && decide ((e :: es).length + ([] : List Keyword).length + (if ([] : List Keyword).isEmpty then 0 else 1) < 30)) = true := by rfl)
    (hline : (apos.endLine == cpos.line) = true := by rfl) (hs : starEach (e :: es) X.env = (false, eval e X.env) :: starEach es X.env := by rfl) (hplain : (backTo cpos (starEach es X.env)).any (·.1) = false := by rfl) :
    PE X (.Call (.Attribute o name apos) (e :: es) [] cpos) (tBM X.K T r to t) := by
  intro pins s σ H Q I h
  refine wpAny_Call_method_late hbase hfew hline rfl (thn (ho pins s σ H _ I h) fun v s1 ⟨x, H1, I1, r1, ty, q1⟩ => ?_)
  obtain ⟨h1, h2⟩ := tyV_is I1 r1 ty
  refine ⟨T, id, pa, slot, hty, h1, h2, ?_⟩
  have hA := ha cpos pins s1 σ H1 _ I1 q1
  rw [hs] at hA ⊢
  refine Calls.callWith_builtin (by show (false || (backTo cpos (starEach es X.env)).any (·.1)) = false; rw [hplain] <;> rfl) (Calls.evalArgs_plain ?_)
  exact thn hA fun us s2 ⟨vs, H2, I2, r2, q2⟩ => hm pins s2 σ H2 x vs v us Q I2 r1 r2 q2
/- xs.append(e), list.index on a module's tuple .. are MtR facts of 06m -/
end
end L2
namespace L2
open PySem PySem.Spec PyProof.Rows
def MtM (X : Cx) (id : String) (r : V → List V → Hp → VK → Prop) : Prop :=
  ∀ (pins : List (Addr × Obj)) (s : Shared) (σ : St) (H : Hp) (x : V) (xs : List V) (v : Value) (us : List Value) (Q : VK), Inv X pins σ H s → RelV x v → Vals xs us → r x xs H Q →
    wpAny (model X.prog X.w) X.A (call (.builtin id) (v :: us)) (EP X pins σ Q) X.xe s
theorem Vals.one : ∀ {x : V} {us : List Value}, Vals [x] us → ∃ u, us = [u] ∧ RelV x u
  | _, _, .cons r .nil => ⟨_, rfl, r⟩
theorem Vals.two : ∀ {x y : V} {us : List Value}, Vals [x, y] us → ∃ u v, us = [u, v] ∧ RelV x u ∧ RelV y v
  | _, _, _, .cons r (.cons q .nil) => ⟨_, _, rfl, r, q⟩
theorem Vals.zero : ∀ {us : List Value}, Vals [] us → us = []
  | _, .nil => rfl
theorem Vals.dropLast {xs : List V} {us : List Value} (h : Vals xs us) : Vals xs.dropLast us.dropLast := by
  induction h with
  | nil => exact .nil
  | cons r t ih =>
    cases t with
    | nil => exact .nil
    | cons q t' => exact .cons r ih
theorem Vals.eraseIdx : ∀ {xs : List V} {us : List Value} (i : Nat), Vals xs us → Vals (xs.eraseIdx i) (us.eraseIdx i)
  | _, _, _, .nil => .nil
  | _, _, 0, .cons _ t => t
  | _, _, i + 1, .cons r t => .cons r (Vals.eraseIdx i t)
theorem Vals.reverse {xs : List V} {us : List Value} (h : Vals xs us) : Vals xs.reverse us.reverse := by
  induction h with
  | nil => exact .nil
  | cons r t ih => rw [List.reverse_cons, List.reverse_cons]; exact Vals.append ih (.cons r .nil)
theorem Vals.rep {xs : List V} {us : List Value} (h : Vals xs us) : ∀ k : Nat, Vals (List.replicate k xs).flatten (List.replicate k us).flatten
  | 0 => .nil
  | k + 1 => by
    rw [List.replicate_succ, List.replicate_succ, List.flatten_cons, List.flatten_cons]
    exact Vals.append h (Vals.rep h k)
theorem erase_last {α : Type} (l : List α) : l.eraseIdx (l.length - 1) = l.dropLast := by
  induction l with
  | nil => rfl
  | cons a r ih =>
    cases r with
    | nil => rfl
    | cons b r =>
      have e : (a :: b :: r).length - 1 = ((b :: r).length - 1) + 1 := by
        have h1 : (a :: b :: r).length = r.length + 2 := rfl
        have h2 : (b :: r).length = r.length + 1 := rfl
        omega
      rw [e, List.eraseIdx_cons_succ, ih]
      all_goals rfl
theorem foldl_rep (its : List Value) : ∀ (k : Nat) (acc : List Value),
    List.foldl (fun x1 x2 => x1 ++ x2) acc.toArray (List.replicate k its.toArray) = (acc ++ (List.replicate k its).flatten).toArray
  | 0, acc => by simp
  | k + 1, acc => by
    have e : acc.toArray ++ its.toArray = (acc ++ its).toArray := by simp
    have e2 : (acc ++ its) ++ (List.replicate k its).flatten = acc ++ (List.replicate (k + 1) its).flatten := by
      rw [List.replicate_succ, List.flatten_cons, List.append_assoc]
    rw [← e2, ← foldl_rep its k (acc ++ its), ← e, List.replicate_succ, List.foldl_cons]
section
variable {X : Cx} {pins : List (Addr × Obj)} {σ : St} {H : Hp} {s : Shared} {l b : Addr} {xs ys zs : List V}
theorem Inv.lset {its its' : List Value} {n : Nat} {f : Array Value → Array Value} {t' : Nat} (I : Inv X pins σ H s) (hH : H l = some (.lst xs))
    (e : s.heap.get? l = some { cls := .type "list", data := .seq its.toArray n }) (hf : f its.toArray = its'.toArray) (hv : Vals ys its') (hz : ys.length ≤ sizeLine) :
    Inv X pins σ (upd H l (.lst ys)) { s with heap := s.heap.update l (Obj.mapSeq f), toks := t' } := by
  have q := PySem.IsL.update e f
  rw [hf] at q
  refine I.write (x := l) (e := l) (by rw [hH]; exact trivial) (.inl rfl) (fun b' u hb hu => (Heap.get?_update_other s.heap (Obj.mapSeq f) (Ne.symm hb)).trans hu) ⟨_, q⟩ ?_
  exact ⟨hz, its', _, hv, q⟩
theorem Inv.lnew {its : List Value} {t' : Nat} (I : Inv X pins σ H s) (hv : Vals ys its) (hz : ys.length ≤ sizeLine) :
    Inv X pins σ (upd H s.heap.objs.size (.lst ys)) { s with heap := s.heap.push { cls := .type "list", data := .seq its.toArray }, toks := t' } :=
  I.laid (fun _ _ q => Heap.get?_push_of_some _ q) (Nat.le_refl _) ⟨hz, its, 0, hv, Heap.get?_push_size _ rfl⟩
theorem Inv.fresh (I : Inv X pins σ H s) : H s.heap.objs.size = none := I.hok.fresh (Nat.le_refl _)
theorem Inv.lstM (I : Inv X pins σ H s) (hH : H l = some (.lst xs)) : xs.length ≤ sizeLine ∧ ∃ (its : List Value) (n : Nat), Vals xs its ∧ xs.length = its.length ∧ s.heap.get? l = some { cls := .type "list", data := .seq its.toArray n } := by
  obtain ⟨z, its, n, r, e⟩ := I.hok l _ hH
  exact ⟨z, its, n, r, r.length, e⟩
theorem notLongL {n : Nat} (h : n ≤ sizeLine) : Builtin.List.listTooLong n = false := by
  unfold Builtin.List.listTooLong
  exact decide_eq_false (by omega)
end
section
variable {X : Cx}
def rAppend : V → List V → Hp → VK → Prop := fun x vs H Q => ∃ l xs y, x = .ref l ∧ vs = [y] ∧ H l = some (.lst xs) ∧ xs.length < sizeLine ∧ Q .non (upd H l (.lst (xs ++ [y])))
theorem mt_append : MtM X "list.append" rAppend := by
  intro pins s σ H x vs v us Q I rx rv h
  obtain ⟨l, xs, y, rfl, rfl, hH, hz, q⟩ := h
  cases rx
  obtain ⟨u, rfl, ru⟩ := rv.one
  obtain ⟨z, its, n, r, hl, e⟩ := I.lstM hH
  refine call_meets F.slot_list_append ⟨_, e, rfl⟩ F.entry_list_append (F.args_list_append_2 _ _) (PySem.list_append l its.toArray n u (by rw [List.size_toArray]; omega)) ⟨e, ?_⟩
  refine ⟨.non, _, I.lset (its' := its ++ [u]) hH e (by simp) (r.append (.cons ru .nil)) ?_, rfl, q⟩
  rw [List.length_append, List.length_singleton]
  omega
def rPop : V → List V → Hp → VK → Prop := fun x vs H Q => ∃ l xs y, x = .ref l ∧ vs = [] ∧ H l = some (.lst xs) ∧ xs[xs.length - 1]? = some y ∧ Q y (upd H l (.lst xs.dropLast))
theorem mt_pop : MtM X "list.pop" rPop := by
  intro pins s σ H x vs v us Q I rx rv h
  obtain ⟨l, xs, y, rfl, rfl, hH, hy, q⟩ := h
  cases rx
  have hus := rv.zero
  subst hus
  obtain ⟨z, its, n, r, hl, e⟩ := I.lstM hH
  obtain ⟨u, hu, ru⟩ := r.get hy
  have hy' : its.toArray[its.toArray.size - 1]? = some u := by
    show its.toArray[its.length - 1]? = some u
    rw [← Array.getElem?_toList, ← hl]
    exact hu
  refine call_meets F.slot_list_pop ⟨_, e, rfl⟩ F.entry_list_pop (F.args_list_pop_1 _) (MeetsSeq.list_pop_last l its.toArray n u hy' (by rw [List.size_toArray]; omega)) ⟨e, ?_⟩
  refine ⟨y, _, I.lset (its' := its.dropLast) hH e ?_ r.dropLast ?_, ru, q⟩
  · show its.toArray.eraseIdxIfInBounds (its.toArray.size - 1) = its.dropLast.toArray
    rw [List.size_toArray, List.eraseIdxIfInBounds_toArray, erase_last]
  · rw [List.length_dropLast]
    omega
def rCat : R2 := fun x y H Q => ∃ l b xs zs, x = .ref l ∧ y = .ref b ∧ H l = some (.lst xs) ∧ H b = some (.lst zs) ∧ xs.length + zs.length ≤ sizeLine ∧ ∀ p, H p = none → Q (.ref p) (upd H p (.lst (xs ++ zs)))
theorem op_cat : OpR X (binaryOp .Add) rCat := by
  intro pins s σ H x y v u Q I rx ry h
  obtain ⟨l, b, xs, zs, rfl, rfl, hH, hB, hz, q⟩ := h
  cases rx
  cases ry
  obtain ⟨z, its, n, r, hl, e⟩ := I.lstM hH
  obtain ⟨z2, its2, n2, r2, hl2, e2⟩ := I.lstM hB
  refine PySem.P.add_list e e2 ?_ (by rw [List.size_toArray, List.size_toArray]; omega)
  have ea : its.toArray ++ its2.toArray = (its ++ its2).toArray := by simp
  rw [ea]
  exact ⟨.ref _, _, I.lnew (t' := s.toks) (r.append r2) (by rw [List.length_append]; omega), rfl, q _ I.fresh⟩
def rRep : R2 := fun x y H Q => ∃ l k xs, x = .ref l ∧ y = .int k ∧ H l = some (.lst xs) ∧ -(2 ^ 63) ≤ k ∧ k < 2 ^ 63 ∧ xs.length * k.toNat ≤ sizeLine ∧
  ∀ p, H p = none → Q (.ref p) (upd H p (.lst (List.replicate k.toNat xs).flatten))
theorem len_rep {α : Type} (xs : List α) (k : Nat) : (List.replicate k xs).flatten.length = k * xs.length := by
  induction k with
  | zero => simp
  | succ k ih => rw [List.replicate_succ, List.flatten_cons, List.length_append, ih, Nat.succ_mul, Nat.add_comm]
theorem op_rep : OpR X (binaryOp .Mult) rRep := by
  intro pins s σ H x y v u Q I rx ry h
  obtain ⟨l, k, xs, rfl, rfl, hH, h1, h2, hz, q⟩ := h
  cases rx
  obtain ⟨t, rfl⟩ := ry
  obtain ⟨z, its, n, r, hl, e⟩ := I.lstM hH
  have hlen : its.toArray.size * k.toNat ≤ sizeLine := by rw [List.size_toArray, ← hl]; exact hz
  have hcap : ¬ its.toArray.size * k.toNat > (2 ^ 63 - 1) / 8 := by
    have : (sizeLine : Nat) ≤ (2 ^ 63 - 1) / 8 := by decide
    omega
  have hfit : ¬ (!Builtin.List.listFitsIndex k) = true := by
    rw [fitsIndex_both h1 h2]
    exact Bool.false_ne_true
  have hlong : ¬ Builtin.List.listTooLong (its.toArray.size * k.toNat) = true := by
    rw [notLongL hlen]
    exact Bool.false_ne_true
  have hnew : List.foldl (fun x1 x2 => x1 ++ x2) #[] (List.replicate (if its.toArray.isEmpty = true then 0 else k.toNat) its.toArray) = (List.replicate k.toNat its).flatten.toArray := by
    have f0 : ∀ m : Nat, List.foldl (fun x1 x2 => x1 ++ x2) #[] (List.replicate m its.toArray) = (List.replicate m its).flatten.toArray := fun m => by
      have := foldl_rep its m []
      rw [List.nil_append] at this
      exact this
    rw [f0]
    cases its with
    | nil => simp
    | cons a r' => rw [if_neg (by simp)]
  refine wpAny_binaryOp_repeat_ref (T := "list") (U := "int") (by decide) ⟨_, e, rfl⟩ (fun s' => typeIs_int s' k t) noFill_list_mul F.fills_int_mul F.slot_int_rmul repeat_list F.slot_int_index.lookup
    (call_meets F.slot_int_rmul (typeIs_int s k t) F.entry_int_rmul (F.args_int_rmul_2 _ _) (int___rmul___int_list k t l its.toArray n)
      ⟨e, rfl, ⟨_, e, rfl⟩, call_meets F.slot_list_mul ⟨_, e, rfl⟩ F.entry_list_mul (F.args_list_mul_2 _ _) (AutoListH.list___mul___list_int_3 l its.toArray n k t hfit hcap hlong) ⟨e, ?_⟩⟩)
  rw [hnew]
  exact ⟨.ref _, _, I.lnew (t' := s.toks) (r.rep k.toNat) (by rw [len_rep, Nat.mul_comm]; exact hz), rfl, q _ I.fresh⟩
end
section
variable {prog : Program} {w : World} {A : Around} {E : Value → Shared → Prop} {s : Shared}
set_option maxRecDepth 100000 in
end
section
variable {X : Cx}
end
end L2
namespace L2
open PySem PySem.Spec PyProof.Rows
section
variable {κ : Type} [DecidableEq κ]
def valV (kvs : List (κ × V)) (k : κ) : Option V := (kvs.find? fun kv => decide (kv.1 = k)).map (·.2)
def putK (kvs : List (κ × V)) (k : κ) (v : V) : List (κ × V) :=
  if (kvs.any fun kv => decide (kv.1 = k)) = true then kvs.map (fun kv => if kv.1 = k then (kv.1, v) else kv) else kvs ++ [(k, v)]
def dropK (kvs : List (κ × V)) (k : κ) : List (κ × V) := kvs.filter fun kv => decide (kv.1 ≠ k)
theorem valV_pos {p : κ × V} {r : List (κ × V)} {k : κ} (e : p.1 = k) : valV (p :: r) k = some p.2 := by simp [valV, List.find?_cons, e]
theorem valV_neg {p : κ × V} {r : List (κ × V)} {k : κ} (e : ¬ p.1 = k) : valV (p :: r) k = valV r k := by simp [valV, List.find?_cons, e]
theorem valV_any (k : κ) : ∀ kvs : List (κ × V), (kvs.any fun kv => decide (kv.1 = k)) = (valV kvs k).isSome
  | [] => rfl
  | p :: r => by
    rw [List.any_cons]
    by_cases e : p.1 = k
    · simp only [valV_pos e, decide_eq_true e, Bool.true_or, Option.isSome_some]
    · rw [valV_neg e, decide_eq_false e, Bool.false_or]; exact valV_any k r
theorem length_putK (kvs : List (κ × V)) (k : κ) (v : V) : (putK kvs k v).length ≤ kvs.length + 1 := by
  unfold putK
  split
  · rw [List.length_map]; omega
  · rw [List.length_append, List.length_cons, List.length_nil]; omega
theorem putK_new {kvs : List (κ × V)} {k : κ} (v : V) (h : valV kvs k = none) : putK kvs k v = kvs ++ [(k, v)] := by
  unfold putK
  rw [valV_any, h]
  exact if_neg (by decide)
theorem RelO.isSome_eq {o : Option V} {u : Option Value} (r : RelO o u) : o.isSome = u.isSome := by
  cases o with
  | none => cases u with
    | none => rfl
    | some _ => exact (show False from r).elim
  | some _ => cases u with
    | none => exact (show False from r).elim
    | some _ => rfl
theorem RelO.getD {o : Option V} {u : Option Value} {d : V} {d' : Value} (r : RelO o u) (rd : RelV d d') : RelV (o.getD d) (u.getD d') := by
  cases o with
  | none => cases u with
    | none => exact rd
    | some _ => exact (show False from r).elim
  | some _ => cases u with
    | none => exact (show False from r).elim
    | some _ => exact r
theorem KV.val {kvs : List (κ × V)} {vs : List (κ × Value)} (r : KV kvs vs) (k : κ) : RelO (valV kvs k) (valueAt vs k) := by
  unfold KV at r
  induction r with
  | nil => exact True.intro
  | @cons p q ps qs h t ih =>
    obtain ⟨h1, h2⟩ := h
    by_cases e : p.1 = k
    · have e' : q.1 = k := h1.symm.trans e
      have b : valueAt (q :: qs) k = some q.2 := by simp [valueAt, List.find?_cons, e']
      rw [valV_pos e, b]; exact h2
    · have e' : ¬ q.1 = k := fun z => e (h1.trans z)
      have b : valueAt (q :: qs) k = valueAt qs k := by simp [valueAt, List.find?_cons, e']
      rw [valV_neg e, b]; exact ih
theorem KV.any {kvs : List (κ × V)} {vs : List (κ × Value)} (r : KV kvs vs) (k : κ) : (kvs.any fun kv => decide (kv.1 = k)) = vs.any fun kv => decide (kv.1 = k) := by
  unfold KV at r
  induction r with
  | nil => rfl
  | cons h t ih => rw [List.any_cons, List.any_cons, ih, h.1]
theorem KV.repl {kvs : List (κ × V)} {vs : List (κ × Value)} (r : KV kvs vs) (k : κ) {y : V} {u : Value} (ry : RelV y u) :
    KV (kvs.map fun kv => if kv.1 = k then (kv.1, y) else kv) (vs.map fun kv => if kv.1 = k then (kv.1, u) else kv) := by
  unfold KV at r ⊢
  induction r with
  | nil => exact .nil
  | @cons p q ps qs h t ih =>
    rw [List.map_cons, List.map_cons]
    refine .cons ?_ ih
    obtain ⟨h1, h2⟩ := h
    by_cases e : p.1 = k
    · rw [if_pos e, if_pos (h1.symm.trans e)]; exact ⟨h1, ry⟩
    · rw [if_neg e, if_neg (fun z => e (h1.trans z))]; exact ⟨h1, h2⟩
theorem KV.put {kvs : List (κ × V)} {vs : List (κ × Value)} (r : KV kvs vs) (k : κ) {y : V} {u : Value} (ry : RelV y u) : KV (putK kvs k y) (stored vs k u) := by
  unfold putK stored
  rw [r.any k]
  by_cases e : (vs.any fun kv => decide (kv.1 = k)) = true
  · rw [if_pos e, if_pos e]; exact r.repl k ry
  · rw [if_neg e, if_neg e]; exact Paired.snoc r ⟨rfl, ry⟩
theorem KV.drop {kvs : List (κ × V)} {vs : List (κ × Value)} (r : KV kvs vs) (k : κ) : KV (dropK kvs k) (without vs k) := by
  unfold KV at r ⊢
  unfold dropK without
  induction r with
  | nil => exact .nil
  | @cons p q ps qs h t ih =>
    obtain ⟨h1, h2⟩ := h
    rw [List.filter_cons, List.filter_cons]
    by_cases e : p.1 = k
    · have a : ¬ decide (p.1 ≠ k) = true := by simp [e]
      have b : ¬ decide (q.1 ≠ k) = true := by simp [h1.symm.trans e]
      rw [if_neg a, if_neg b]; exact ih
    · have e' : ¬ q.1 = k := fun z => e (h1.trans z)
      have a : decide (p.1 ≠ k) = true := by simp [e]
      have b : decide (q.1 ≠ k) = true := by simp [e']
      rw [if_pos a, if_pos b]; exact .cons ⟨h1, h2⟩ ih
theorem KV.keys {kvs : List (κ × V)} {vs : List (κ × Value)} (r : KV kvs vs) : kvs.map (·.1) = vs.map (·.1) := by
  unfold KV at r
  induction r with
  | nil => rfl
  | cons h t ih => rw [List.map_cons, List.map_cons, ih, h.1]
theorem KV.length {kvs : List (κ × V)} {vs : List (κ × Value)} (r : KV kvs vs) : kvs.length = vs.length := Paired.length r
theorem dropK_le (kvs : List (κ × V)) (k : κ) : (dropK kvs k).length ≤ kvs.length := List.length_filter_le _ _
end
theorem kV_is {P : Program} {w : World} {k : Key} {u : Value} (r : RelV (kV k) u) : (mixKind P w).is k u = true := by
  cases k with
  | inl i => obtain ⟨t, e⟩ := (show ∃ t, u = Value.int i t from r); subst e; exact mixKind_int P w i t
  | inr x => obtain ⟨t, e⟩ := (show ∃ t, u = Value.str x t from r); subst e; exact mixKind_str P w x t
theorem items_are {P : Program} {w : World} : ∀ {ks : List Key} {us : List Value}, Vals (ks.map kV) us → ItemsAre (mixKind P w) ks us
  | [], _, r => by rw [List.map_nil] at r; cases r; exact .nil
  | k :: ks, _, r => by
    rw [List.map_cons] at r
    cases r with
    | cons h t => exact .cons (kV_is h) (items_are t)
abbrev KT (H : Hp) : List (List Key × V) → List (List Key × Addr × Value) → Prop := Paired fun p q => p.1 = q.1 ∧ H q.2.1 = some (.tup (p.1.map kV)) ∧ RelV p.2 q.2.2
theorem KT.val {H : Hp} {kvs : List (List Key × V)} {xs : List (List Key × Addr × Value)} (r : KT H kvs xs) (k : List Key) : RelO (valV kvs k) ((atKey xs k).map (·.2)) := by
  induction r with
  | nil => exact True.intro
  | @cons p q ps qs h t ih =>
    obtain ⟨h1, _, h2⟩ := h
    by_cases e : p.1 = k
    · have e' : q.1 = k := h1.symm.trans e
      have b : atKey (q :: qs) k = some q.2 := by simp [atKey, List.find?_cons, e']
      rw [valV_pos e, b]; exact h2
    · have e' : ¬ q.1 = k := fun z => e (h1.trans z)
      have b : atKey (q :: qs) k = atKey qs k := by simp [atKey, List.find?_cons, e']
      rw [valV_neg e, b]; exact ih
theorem KT.repl {H : Hp} {kvs : List (List Key × V)} {xs : List (List Key × Addr × Value)} (r : KT H kvs xs) (k : List Key) {y : V} {u : Value} (ry : RelV y u) :
    KT H (kvs.map fun kv => if kv.1 = k then (kv.1, y) else kv) (xs.map (putAt k u)) := by
  induction r with
  | nil => exact .nil
  | @cons p q ps qs h t ih =>
    rw [List.map_cons, List.map_cons]
    refine .cons ?_ ih
    obtain ⟨h1, h2, h3⟩ := h
    unfold putAt
    by_cases e : p.1 = k
    · rw [if_pos e, if_pos (h1.symm.trans e)]; exact ⟨h1, h2, ry⟩
    · rw [if_neg e, if_neg (fun z => e (h1.trans z))]; exact ⟨h1, h2, h3⟩
theorem KT.put {H : Hp} {kvs : List (List Key × V)} {xs : List (List Key × Addr × Value)} (r : KT H kvs xs) (k : List Key) {b : Addr} {y : V} {u : Value} (hb : H b = some (.tup (k.map kV))) (ry : RelV y u) :
    KT H (putK kvs k y) (storedH xs k b u) := by
  have e : (kvs.any fun kv => decide (kv.1 = k)) = (atKey xs k).isSome := by
    rw [valV_any, (r.val k).isSome_eq, Option.isSome_map]
  unfold putK storedH
  rw [e]
  by_cases q : (atKey xs k).isSome = true
  · rw [if_pos q, if_pos q]; exact r.repl k ry
  · rw [if_neg q, if_neg q]; exact Paired.snoc r ⟨rfl, hb, ry⟩
theorem KT.keeps {H H' : Hp} {kvs : List (List Key × V)} {xs : List (List Key × Addr × Value)} (r : KT H kvs xs) (ht : ∀ b ys, H b = some (.tup ys) → H' b = some (.tup ys)) : KT H' kvs xs :=
  Paired.mapP r fun _ _ z => ⟨z.1, ht _ _ z.2.1, z.2.2⟩
section
variable {P : Program} {w : World} {H : Hp} {h : Heap} {a : Addr}
theorem rd_of {u : HO} (ok : HOk P w H h) (e : Rd H a u) : ObjOk P w H h a u := e.ok ok
theorem dk_rd {kvs : List (Key × V)} (ok : HOk P w H h) (e : Rd H a (.dK kvs)) : kvs.length ≤ sizeLine ∧ (a == sysModules) = false ∧ ∃ vs, KV kvs vs ∧ h.DictOf (mixKind P w) a vs :=
  show ObjOk P w H h a (.dK kvs) from rd_of ok e
theorem dk_of {kvs : List (Key × V)} (ok : HOk P w H h) (e : H a = some (.dK kvs)) : kvs.length ≤ sizeLine ∧ (a == sysModules) = false ∧ ∃ vs, KV kvs vs ∧ h.DictOf (mixKind P w) a vs := dk_rd ok (.inl e)
theorem key_of {ks : List Key} (ok : HOk P w H h) (e : H a = some (.tup (ks.map kV))) : (tupleKind (mixKind P w)).is h ks a := by
  obtain ⟨_, its, r, o, h1, h2, n, h3⟩ := (show ObjOk P w H h a (.tup (ks.map kV)) from ok a _ e)
  exact ⟨o, its.toArray, n, h1, h2, h3, by simpa using items_are r⟩
theorem dt_rd {kvs : List (List Key × V)} (ok : HOk P w H h) (e : Rd H a (.dT kvs)) : kvs.length ≤ sizeLine ∧ (a == sysModules) = false ∧
    ∃ xs, KT H kvs xs ∧ h.DictOfH (tupleKind (mixKind P w)) a xs := by
  obtain ⟨z, y, xs, r, o, es, ep, h1, h2, h3, h4, h5⟩ := (show ObjOk P w H h a (.dT kvs) from rd_of ok e)
  refine ⟨z, y, xs, r, o, es, ep, h1, h2, h3, h4, fun x hx => ?_, h5⟩
  have all : ∀ {l : List (List Key × V)} {m : List (List Key × Addr × Value)}, KT H l m → ∀ x ∈ m, (tupleKind (mixKind P w)).is h x.1 x.2.1 := by
    intro l m q
    induction q with
    | nil => intro x hx; exact nomatch hx
    | @cons p q ps qs hq t ih =>
      intro x hx
      rcases List.mem_cons.mp hx with e | hx
      · subst e
        exact key_of ok (by rw [← hq.1]; exact hq.2.1)
      · exact ih x hx
  exact all r x hx
theorem dt_of {kvs : List (List Key × V)} (ok : HOk P w H h) (e : H a = some (.dT kvs)) : kvs.length ≤ sizeLine ∧ (a == sysModules) = false ∧
    ∃ xs, KT H kvs xs ∧ h.DictOfH (tupleKind (mixKind P w)) a xs := dt_rd ok (.inl e)
end
def DGet (H : Hp) (a : Addr) (y : V) (r : Option V) : Prop :=
  (∃ kvs k, Rd H a (.dK kvs) ∧ y = kV k ∧ r = valV kvs k) ∨ ∃ kvs k b, Rd H a (.dT kvs) ∧ y = .ref b ∧ H b = some (.tup (k.map kV)) ∧ r = valV kvs k
def DPut (H : Hp) (a : Addr) (y v : V) (H' : Hp) : Prop :=
  (∃ kvs k, H a = some (.dK kvs) ∧ y = kV k ∧ kvs.length < sizeLine ∧ H' = upd H a (.dK (putK kvs k v))) ∨
  ∃ kvs k b, H a = some (.dT kvs) ∧ y = .ref b ∧ H b = some (.tup (k.map kV)) ∧ kvs.length < sizeLine ∧ H' = upd H a (.dT (putK kvs k v))
theorem DGet.k {H : Hp} {a : Addr} {kvs : List (Key × V)} {k : Key} (e : H a = some (.dK kvs)) : DGet H a (kV k) (valV kvs k) := .inl ⟨kvs, k, .inl e, rfl, rfl⟩
theorem DGet.t {H : Hp} {a b : Addr} {kvs : List (List Key × V)} {k : List Key} (e : H a = some (.dT kvs)) (eb : H b = some (.tup (k.map kV))) : DGet H a (.ref b) (valV kvs k) := .inr ⟨kvs, k, b, .inl e, rfl, eb, rfl⟩
theorem DPut.k {H : Hp} {a : Addr} {kvs : List (Key × V)} {k : Key} {v : V} (e : H a = some (.dK kvs)) (hl : kvs.length < sizeLine) : DPut H a (kV k) v (upd H a (.dK (putK kvs k v))) := .inl ⟨kvs, k, e, rfl, hl, rfl⟩
theorem DPut.t {H : Hp} {a b : Addr} {kvs : List (List Key × V)} {k : List Key} {v : V} (e : H a = some (.dT kvs)) (eb : H b = some (.tup (k.map kV))) (hl : kvs.length < sizeLine) :
    DPut H a (.ref b) v (upd H a (.dT (putK kvs k v))) := .inr ⟨kvs, k, b, e, rfl, eb, hl, rfl⟩
section
variable {X : Cx} {pins : List (Addr × Obj)} {σ : St} {H : Hp} {s : Shared} {a : Addr} {y v : V} {u r : Value} {o : Option V} {A : Around} {E : Value → Shared → Prop}
theorem Inv.big (I : Inv X pins σ H s) : sysModules < s.heap.objs.size := by
  have h : mainGlobals < s.heap.objs.size := (I.mod.glob.keeps I.bk).lt
  exact Nat.lt_trans (by decide) h
theorem d_getItem {Q : Value → Shared → Prop} (hu : A.units + 1 < cLine) (I : Inv X pins σ H s) (g : DGet H a y (some v)) (ry : RelV y u) (h : ∀ w' s', Inv X pins σ H s' → RelV v w' → Q w' s') :
    wpAny (model X.prog X.w) A (getItem (.ref a) u) Q E s := by
  rcases g with ⟨kvs, k, e, ey, l⟩ | ⟨kvs, k, b, e, ey, eb, l⟩
  · subst ey
    obtain ⟨z, hd, vs, rel, dd⟩ := dk_rd I.hok e
    obtain ⟨w', hw, rw'⟩ := RelO.some_of (v := v) (o := valueAt vs k) (by rw [l]; exact rel.val k)
    exact wpAny_getItem_of (kV_is ry) dd.mapOf hw (h w' _ (I.tok _) rw')
  · subst ey
    cases (show u = Value.ref b from ry)
    obtain ⟨z, hd, xs, rel, dd⟩ := dt_rd I.hok e
    obtain ⟨w', hw, rw'⟩ := RelO.some_of (v := v) (o := (atKey xs k).map (·.2)) (by rw [l]; exact rel.val k)
    obtain ⟨p, hp, hp2⟩ := Option.map_eq_some_iff.mp hw
    refine wpAny_getItem_heap (tupleKind_room_in1 hu) (key_of I.hok eb) dd hp ?_
    rw [hp2]
    exact h w' _ (I.tok _) rw'
theorem d_in {Q : Value → Shared → Prop} (hu : A.units + 1 < cLine) (I : Inv X pins σ H s) (g : DGet H a y o) (ry : RelV y u) (h : ∀ s', Inv X pins σ H s' → Q (.bool o.isSome) s') :
    wpAny (model X.prog X.w) A (compareOp .In u (.ref a)) Q E s := by
  rcases g with ⟨kvs, k, e, ey, l⟩ | ⟨kvs, k, b, e, ey, eb, l⟩
  · subst ey
    obtain ⟨z, hd, vs, rel, dd⟩ := dk_rd I.hok e
    refine wpAny_in_of (kV_is ry) hd dd.mapOf ?_
    rw [← (rel.val k).isSome_eq, ← l]
    exact h _ (I.tok _)
  · subst ey
    cases (show u = Value.ref b from ry)
    obtain ⟨z, hd, xs, rel, dd⟩ := dt_rd I.hok e
    refine wpAny_in_heap (tupleKind_room_in1 hu) (key_of I.hok eb) hd dd ?_
    have q := (rel.val k).isSome_eq
    rw [Option.isSome_map] at q
    rw [← q, ← l]
    exact h _ (I.tok _)
theorem d_notIn {Q : Value → Shared → Prop} (hu : A.units + 1 < cLine) (I : Inv X pins σ H s) (g : DGet H a y o) (ry : RelV y u) (h : ∀ s', Inv X pins σ H s' → Q (.bool (!o.isSome)) s') :
    wpAny (model X.prog X.w) A (compareOp .NotIn u (.ref a)) Q E s := by
  rcases g with ⟨kvs, k, e, ey, l⟩ | ⟨kvs, k, b, e, ey, eb, l⟩
  · subst ey
    obtain ⟨z, hd, vs, rel, dd⟩ := dk_rd I.hok e
    refine wpAny_notIn_of (kV_is ry) hd dd.mapOf ?_
    rw [← (rel.val k).isSome_eq, ← l]
    exact h _ (I.tok _)
  · subst ey
    cases (show u = Value.ref b from ry)
    obtain ⟨z, hd, xs, rel, dd⟩ := dt_rd I.hok e
    refine wpAny_notIn_heap (tupleKind_room_in1 hu) (key_of I.hok eb) hd dd ?_
    have q := (rel.val k).isSome_eq
    rw [Option.isSome_map] at q
    rw [← q, ← l]
    exact h _ (I.tok _)
theorem d_write {h' : Heap} {t' : Nat} {ob : HO} (I : Inv X pins σ H s) (mu : Mut (H a)) (hs : Heap.SameBut a s.heap h') (he : ∃ q, h'.get? a = some q) (new : ObjOk X.prog X.w (upd H a ob) h' a ob) :
    Inv X pins σ (upd H a ob) { s with heap := h', toks := t' } :=
  I.write (x := a) (e := a) mu (.inl rfl) (fun b q hb z => (hs.2 b hb).trans z) he new
theorem dk_new {P : Program} {w : World} {H' : Hp} {h' : Heap} {kvs : List (Key × V)} {vs : List (Key × Value)} (z : kvs.length ≤ sizeLine) (hd : (a == sysModules) = false) (rel : KV kvs vs) (dd : h'.DictOf (mixKind P w) a vs) :
    ObjOk P w H' h' a (.dK kvs) := ⟨z, hd, vs, rel, dd⟩
theorem d_setItem {H' : Hp} {Q : Unit → Shared → Prop} (hu : A.units + 1 < cLine) (I : Inv X pins σ H s) (g : DPut H a y v H') (ry : RelV y u) (rv : RelV v r) (h : ∀ s', Inv X pins σ H' s' → Q () s') :
    wpAny (model X.prog X.w) A (setItem (.ref a) u r) Q E s := by
  rcases g with ⟨kvs, k, e, ey, l, eH⟩ | ⟨kvs, k, b, e, ey, eb, l, eH⟩
  · subst ey eH
    obtain ⟨z, hd, vs, rel, dd⟩ := dk_of I.hok e
    have hz : vs.length ≤ sizeLine := by rw [← rel.length]; exact z
    have hl : (putK kvs k v).length ≤ sizeLine := by have := length_putK kvs k v; omega
    refine wpAny_setItem_pairs (hsz := hz) (kV_is ry) dd fun h' dd' hs => h _ ?_
    have he : ∃ q, h'.get? a = some q := let ⟨q, _, _, hq, _⟩ := dd'; ⟨q, hq⟩
    exact d_write I (by rw [e]; exact True.intro) hs he (dk_new hl hd (rel.put k rv) dd')
  · subst ey eH
    cases (show u = Value.ref b from ry)
    obtain ⟨z, hd, xs, rel, dd⟩ := dt_of I.hok e
    have hz : xs.length ≤ sizeLine := by rw [← Paired.length rel]; exact z
    have hl : (putK kvs k v).length ≤ sizeLine := by have := length_putK kvs k v; omega
    refine wpAny_setItem_heap (hsz := hz) (tupleKind_room_in1 hu) (key_of I.hok eb) dd fun h' dd' hs => h _ ?_
    obtain ⟨q, es, ep, hq, h2, h3, h4, _, h5⟩ := dd'
    refine d_write I (by rw [e]; exact True.intro) hs ⟨q, hq⟩ ⟨hl, hd, _, (rel.put k eb rv).keeps fun c ys ec => ?_, q, es, ep, hq, h2, h3, h4, h5⟩
    rw [upd_ne (ne_of ec e (fun z => nomatch z))]
    exact ec
end
section
variable {X : Cx} {pins : List (Addr × Obj)} {σ : St} {H : Hp} {s : Shared} {a : Addr} {kvs : List (Key × V)} {k : Key} {u : Value} {A : Around} {E : Value → Shared → Prop}
theorem d_pop {v : V} {more : List Value} {Q : Value → Shared → Prop} (I : Inv X pins σ H s) (e : H a = some (.dK kvs)) (ry : RelV (kV k) u) (l : valV kvs k = some v) (hm : more = [] ∨ ∃ x, more = [x])
    (h : ∀ w' s', Inv X pins σ (upd H a (.dK (dropK kvs k))) s' → RelV v w' → Q w' s') : wpAny (model X.prog X.w) A (call (.builtin "dict.pop") (.ref a :: u :: more)) Q E s := by
  obtain ⟨z, hd, vs, rel, dd⟩ := dk_of I.hok e
  obtain ⟨w', hw, rw'⟩ := RelO.some_of (v := v) (o := valueAt vs k) (by rw [← l]; exact rel.val k)
  have hp : (keyPart u).isSome = true := by
    cases k with
    | inl i => obtain ⟨t, q⟩ := (show ∃ t, u = Value.int i t from ry); subst q; rfl
    | inr x => obtain ⟨t, q⟩ := (show ∃ t, u = Value.str x t from ry); subst q; rfl
  have ha : argsOk "dict.pop" ⟨.ref a :: u :: more, []⟩ := by
    rcases hm with q | ⟨x, q⟩
    · subst q; exact PySem.F.args_dict_pop_2 _ _
    · subst q; exact PySem.F.args_dict_pop_3 _ _ _
  refine call_meetsIn PySem.F.slot_dict_pop dd.typeIs PySem.F.entry_dict_pop ha (meets_dict_pop_there (mixKind X.prog X.w) a (kV_is ry) more hm hp)
    ⟨vs, w', dd, by rw [← rel.length]; exact z, hw, fun h' dd' hs => h w' _ ?_ rw'⟩
  have he : ∃ q, h'.get? a = some q := let ⟨q, _, _, hq, _⟩ := dd'; ⟨q, hq⟩
  exact d_write I (by rw [e]; exact True.intro) hs he (dk_new (Nat.le_trans (dropK_le kvs k) z) hd (rel.drop k) dd')
end
def NoSl (i : Expr) : Prop := ∀ ov iv, subscripted i false ov iv = operate [ov, iv] (getItem ov iv)
theorem subD_of {prog : Program} {w : World} {A : Around} {E : Value → Shared → Prop} {s : Shared} {env : Env} {value slice : Expr} {pos : Pos} {T id : String} {Q : Value → Shared → Prop}
    (hl : typeLookup (.type T) "__getitem__" = pure (some (.builtin id))) (hs : NoSl slice)
    (h : wpAny (model prog w) A (eval value env) (fun o s₁ => wpAny (model prog w) A (eval slice env) (fun i s₂ => s₂.TypeIs o T ∧ wpAny (model prog w) A (getItem o i) Q E s₂) E s₁) E s) :
    wpAny (model prog w) A (eval (.Subscript value slice pos) env) Q E s := by
  refine Subscript_ (wpAny_mono h (fun o s₁ h₁ => wpAny_mono h₁ (fun i s₂ h₂ => ?_) fun _ _ x => x) fun _ _ x => x)
  obtain ⟨hT, h₂⟩ := h₂
  unfold subscriptTail
  refine wpAny_bind ?_
  rw [getitemInPython_of_ne hT.not_modules]
  refine wpAny_bind (wpAny_specialOf hT hl ?_)
  have fin : wpAny (model prog w) A (subscripted slice false o i) (fun r s₃ => wpAny (model prog w) A (letTemporaryGo value o r >>= fun _ => pure r) Q E s₃) E s₂ := by
    rw [hs o i]
    exact wpAny_operating (wpAny_mono h₂ (fun r s₃ h₃ => wpAny_bind (wpAny_letTemporaryGo (wpAny_pure h₃))) fun _ _ x => x)
  first
    | exact wpAny_pure (wpAny_bind fin)
    | exact wpAny_bind (wpAny_pure (wpAny_bind fin))
    | exact wpAny_bind fin
theorem dict_typeIs {X : Cx} {pins : List (Addr × Obj)} {σ : St} {H : Hp} {s : Shared} {a : Addr} {y : V} {o : Option V} (I : Inv X pins σ H s) (g : DGet H a y o) : s.TypeIs (.ref a) "dict" := by
  rcases g with ⟨kvs, k, e, _, _⟩ | ⟨kvs, k, b, e, _, _, _⟩
  · obtain ⟨_, _, vs, _, dd⟩ := dk_rd I.hok e
    exact dd.typeIs
  · obtain ⟨_, _, xs, _, dd⟩ := dt_rd I.hok e
    exact dd.typeIs
def tDGet (td ty : TE) : TE := fun σ H Q => td σ H fun x H1 => ty σ H1 fun y H2 => ∃ a v, x = .ref a ∧ DGet H2 a y (some v) ∧ Q v H2
def tDIn (ty td : TE) : TE := fun σ H Q => ty σ H fun y H1 => td σ H1 fun x H2 => ∃ a o, x = .ref a ∧ DGet H2 a y o ∧ Q (.bl o.isSome) H2
def tDNotIn (ty td : TE) : TE := fun σ H Q => ty σ H fun y H1 => td σ H1 fun x H2 => ∃ a o, x = .ref a ∧ DGet H2 a y o ∧ Q (.bl (!o.isSome)) H2
def sDPut (td ty tv : TE) : TS := fun D σ H => tv σ H fun v H1 => td σ H1 fun x H2 => ty σ H2 fun y H3 => ∃ a H4, x = .ref a ∧ DPut H3 a y v H4 ∧ D.nx σ H4
def sDAug (td ty tv : TE) (rd : V → V → Hp → VK → Prop) : TS := fun D σ H => td σ H fun x H1 => ty σ H1 fun y H2 => ∃ a v, x = .ref a ∧ DGet H2 a y (some v) ∧
  tv σ H2 fun y2 H3 => rd v y2 H3 fun z H4 => ∃ H5, DPut H4 a y z H5 ∧ D.nx σ H5
section
variable {X : Cx} {o i e value : Expr} {pos pos' tpos : Pos} {td ty tv : TE}
theorem pe_dget (hu : X.A.units + 1 < cLine) (ho : PE X o td) (hi : PE X i ty) (hs : NoSl i) : PE X (.Subscript o i pos) (tDGet td ty) := by
  intro pins s σ H Q I h
  refine subD_of PySem.F.slot_dict_getitem.lookup hs (thn (ho pins s σ H _ I h) fun u s1 ⟨x, H1, I1, rx, q1⟩ => thn (hi pins s1 σ H1 _ I1 q1) fun iv s2 ⟨y, H2, I2, ry, a, v, ex, g, q2⟩ => ?_)
  subst ex
  obtain rfl : u = Value.ref a := rx
  exact ⟨dict_typeIs I2 g, d_getItem hu I2 g ry fun w' s3 I3 rw' => ⟨v, H2, I3, rw', q2⟩⟩
theorem pc_din (hu : X.A.units + 1 < cLine) (hi : PE X i ty) (ho : PE X o td) : PC X .In i o (tDIn ty td) := by
  intro pins s σ H Q I h
  refine thn (hi pins s σ H _ I h) fun iv s1 ⟨y, H1, I1, ry, q1⟩ => thn (ho pins s1 σ H1 _ I1 q1) fun u s2 ⟨x, H2, I2, rx, a, ov, ex, g, q2⟩ => ?_
  subst ex
  obtain rfl : u = Value.ref a := rx
  exact d_in hu I2 g ry fun s3 I3 => ⟨.bl ov.isSome, H2, I3, rfl, q2⟩
theorem pc_dnotin (hu : X.A.units + 1 < cLine) (hi : PE X i ty) (ho : PE X o td) : PC X .NotIn i o (tDNotIn ty td) := by
  intro pins s σ H Q I h
  refine thn (hi pins s σ H _ I h) fun iv s1 ⟨y, H1, I1, ry, q1⟩ => thn (ho pins s1 σ H1 _ I1 q1) fun u s2 ⟨x, H2, I2, rx, a, ov, ex, g, q2⟩ => ?_
  subst ex
  obtain rfl : u = Value.ref a := rx
  exact d_notIn hu I2 g ry fun s3 I3 => ⟨.bl (!ov.isSome), H2, I3, rfl, q2⟩
theorem ps_dput (hu : X.A.units + 1 < cLine) (ho : PE X o td) (hi : PE X i ty) (hv : PE X value tv) (hs : swapsWith value (some (.Subscript o i pos')) pos.line X.env = pure false) :
    PS X (.Assign [.Subscript o i pos'] value pos) (sDPut td ty tv) := by
  intro pins s σ H D I h
  refine wpAny_Assign_Subscript (thn (hv pins s σ H _ I h) fun r s1 ⟨v, H1, I1, rv, q1⟩ => thn (ho pins s1 σ H1 _ I1 q1) fun u s2 ⟨x, H2, I2, rx, q2⟩ => thn (hi pins s2 σ H2 _ I2 q2) fun iv s3 ⟨y, H3, I3, ry, a, H4, ex, g, q3⟩ => ?_) hs
  subst ex
  obtain rfl : u = Value.ref a := rx
  exact d_setItem hu I3 g ry rv fun s4 I4 => ⟨σ, H4, I4, q3⟩
theorem ps_daug {op : Operator} {rd : V → V → Hp → VK → Prop} (hu : X.A.units + 1 < cLine) (ho : PE X o td) (hi : PE X i ty) (hv : PE X value tv) (hop : InOp X op rd)
    (ha : ∀ ov iv new, augStore i ov iv new = (do holding [new, ov, iv] (setItem ov iv new); release [new, ov, iv] []; pure .next)) : PS X (.AugAssign (.Subscript o i tpos) op value pos) (sDAug td ty tv rd) := by
  intro pins s σ H D I h
  refine wpAny_AugAssign_SubscriptAny (thn (ho pins s σ H _ I h) fun u s1 ⟨x, H1, I1, rx, q1⟩ => thn (hi pins s1 σ H1 _ I1 q1) fun iv s2 ⟨y, H2, I2, ry, a, v, ex, g, q2⟩ => ?_) ha
  subst ex
  obtain rfl : u = Value.ref a := rx
  refine d_getItem hu I2 g ry fun w' s3 I3 rw' => thn (hv pins s3 σ H2 _ I3 q2) fun w2 s4 ⟨y2, H3, I4, ry2, q3⟩ => thn (hop pins s4 σ H3 v y2 w' w2 _ I4 rw' ry2 q3) fun w3 s5 ⟨z, H4, I5, rz, H5, g5, q4⟩ => ?_
  exact d_setItem hu I5 g5 ry rz fun s6 I6 => ⟨σ, H5, I6, q4⟩
end
theorem dk_empty {P : Program} {w : World} {H : Hp} (h : Heap) (hb : sysModules < h.objs.size) : ObjOk P w H (h.push { cls := .type "dict", data := .dict #[] }) h.objs.size (.dK []) :=
  ⟨Nat.zero_le _, beq_eq_false_iff_ne.mpr (Ne.symm (Nat.ne_of_lt hb)), [], .nil, Heap.DictOf.new h⟩
def tDNewK : TE := fun _ H Q => ∀ p, H p = none → Q (.ref p) (upd H p (.dK []))
section
variable {X : Cx} {pos : Pos}
theorem pe_dnewK : PE X (.Dict [] [] pos) tDNewK := fun pins s σ H Q I h =>
  wpAny_Dict_empty ⟨.ref s.heap.objs.size, _, I.laid (a := s.heap.objs.size) (o := .dK []) (t' := s.toks) (fun _ _ q => Heap.get?_push_of_some _ q) (Nat.le_refl _) (dk_empty s.heap I.big), rfl, h _ (I.hok.fresh (Nat.le_refl _))⟩
end
structure M1 (X : Cx) (o : Expr) (m : Str) (apos : Pos) (e : Expr) (cpos : Pos) : Prop where
  base : attributeBase o m X.env (eval o X.env) = eval o X.env
  few : ((backTo cpos (starEach [e] X.env)).all (fun x => !x.1) && (backToKw cpos (keywordEach [] X.env)).all (fun x => x.1.isSome)
    && decide (([e] : List Expr).length + ([] : List Keyword).length + (if ([] : List Keyword).isEmpty then 0 else 1) < 30)) = true
  line : (apos.endLine == cpos.line) = true
  trees : backTo cpos (starEach [e] X.env) = [(false, eval e X.env)]
structure M2 (X : Cx) (o : Expr) (m : Str) (apos : Pos) (e f : Expr) (cpos : Pos) : Prop where
  base : attributeBase o m X.env (eval o X.env) = eval o X.env
  few : ((backTo cpos (starEach [e, f] X.env)).all (fun x => !x.1) && (backToKw cpos (keywordEach [] X.env)).all (fun x => x.1.isSome)
    && decide (([e, f] : List Expr).length + ([] : List Keyword).length + (if ([] : List Keyword).isEmpty then 0 else 1) < 30)) = true
  line : (apos.endLine == cpos.line) = true
  trees : backTo cpos (starEach [e, f] X.env) = [(false, eval e X.env), (false, eval f X.env)]
def IsD (H : Hp) (a : Addr) : Prop := (∃ kvs, Rd H a (.dK kvs)) ∨ ∃ kvs, Rd H a (.dT kvs)
theorem isD_at {X : Cx} {pins : List (Addr × Obj)} {σ : St} {H : Hp} {s : Shared} {a : Addr} (I : Inv X pins σ H s) (d : IsD H a) :
    s.TypeIs (.ref a) "dict" ∧ (∀ b, Value.ref a = .ref b → ∃ ob, s.heap.get? b = some ob ∧ ob.dict = none) ∧ (a == sysModules) = false := by
  rcases d with ⟨kvs, e⟩ | ⟨kvs, e⟩
  · obtain ⟨_, hd, vs, _, dd⟩ := dk_rd I.hok e
    refine ⟨dd.typeIs, fun b q => ?_, hd⟩
    cases q
    obtain ⟨ob, _, _, h1, h2, _⟩ := dd
    exact ⟨ob, h1, h2.2.1⟩
  · obtain ⟨_, hd, xs, _, dd⟩ := dt_rd I.hok e
    refine ⟨dd.typeIs, fun b q => ?_, hd⟩
    cases q
    obtain ⟨ob, _, _, h1, h2, _⟩ := dd
    exact ⟨ob, h1, h2.2.1⟩
section
variable {X : Cx} {pins : List (Addr × Obj)} {σ : St} {H : Hp} {s : Shared} {a : Addr} {y d : V} {u r : Value} {o : Option V} {A : Around} {E : Value → Shared → Prop}
end
def tDPop1 (td ty : TE) : TE := fun σ H Q => td σ H fun x H1 => ∃ a, x = .ref a ∧ IsD H1 a ∧ ty σ H1 fun y H2 => ∃ kvs k v, H2 a = some (.dK kvs) ∧ y = kV k ∧ valV kvs k = some v ∧ Q v (upd H2 a (.dK (dropK kvs k)))
section
variable {X : Cx} {o e f : Expr} {apos cpos : Pos} {td ty tx : TE}
theorem pe_dpop1 (ho : PE X o td) (he : PE X e ty) (m : M1 X o "pop" apos e cpos) : PE X (.Call (.Attribute o "pop" apos) [e] [] cpos) (tDPop1 td ty) := by
  intro pins s σ H Q I h
  refine wpAny_Call_method m.base m.few m.line PySem.F.plainAttrs_dict PySem.F.slot_dict_pop PySem.F.type_dict_pop (thn (ho pins s σ H _ I h) fun u s1 ⟨x, H1, I1, rx, a, ex, d, q1⟩ => ?_)
  subst ex
  obtain rfl : u = Value.ref a := rx
  obtain ⟨t1, t2, _⟩ := isD_at I1 d
  refine ⟨t1, t2, ?_⟩
  rw [m.trees]
  refine Calls.callWith_builtin rfl (Calls.evalArgs_plain (Calls.spliced_cons (thn (he pins s1 σ H1 _ I1 q1) fun iv s2 ⟨y, H2, I2, ry, kvs, k, v, ea, ey, l, q2⟩ => Calls.spliced_nil ?_)))
  subst ey
  exact d_pop I2 ea ry l (.inl rfl) fun w' s3 I3 rw' => ⟨v, _, I3, rw', q2⟩
end
section
variable {X : Cx} {pins : List (Addr × Obj)} {σ : St} {H : Hp} {s : Shared} {a : Addr} {kvs : List (Key × V)} {A : Around} {E : Value → Shared → Prop}
end
section
variable {X : Cx} {pins : List (Addr × Obj)} {σ : St} {H : Hp} {s : Shared} {a : Addr} {y : V} {u : Value} {A : Around} {E : Value → Shared → Prop}
end
end L2
namespace Att
open PySem PySem.W PySem.Calls PyProof.Rows
theorem ints_of_wellAll {P : Params} {h : Heap} : ∀ (ns : List Int) (vs : List Value), WellAll P h vs (ns.map WData.int) → IntsAre vs ns := by
  intro ns
  induction ns with
  | nil =>
    intro vs w
    rw [List.map_nil] at w
    cases w
    exact .nil
  | cons n ns ih =>
    intro vs w
    rw [List.map_cons] at w
    cases w with
    | cons a b =>
      cases a
      exact .cons _ _ (ih _ b)
theorem script_of {l : OpenLaw} {n : Nat} (hn : l.most = some n) {P : Params} {h : Heap} {args : List WData} {vals : List Value}
    (hpre : l.row.toRowW.claim.pre args = true) (hwl : WellAll P h vals args) :
    ∃ a vs ns, vals = [Value.ref a] ∧ args = [WData.list (ns.map WData.int)] ∧ h.get? a = some { cls := .type "list", data := .seq vs.toArray } ∧ IntsAre vs ns ∧ ns.length ≤ n := by
  have hsh : WShape.hasAll [] args [.list .int] = true := (pre_splitW hpre).1
  have hc : l.pre.holds [] { args := args } = true := (pre_splitW hpre).2
  obtain ⟨d, r, rfl, h1, h2⟩ := hasAllW_cons hsh
  obtain rfl := hasAllW_nil h2
  obtain ⟨xs, rfl, h3⟩ := hasW_list h1
  obtain ⟨ns, rfl⟩ := items_int h3
  have hlen : ns.length ≤ n := by
    unfold OpenLaw.pre at hc
    have h4 : (WTm.not (.lt (.lit (.int (n : Int))) (.len (.arg 0)))).holds [] { args := [.list (ns.map .int)] } = true := by
      have h4 := (holds_andW hc).1
      rw [hn] at h4
      exact h4
    have h5 := condW_of h4 (w_not (w_lt w_lit (w_len_list (w_arg rfl))))
    rw [List.length_map] at h5
    refine Nat.le_of_not_lt fun q => ?_
    have q' : (n : Int) < ((ns.length : Nat) : Int) := by omega
    first
      | (rw [decide_eq_true q'] at h5; exact absurd h5 (by decide))
      | (simp at h5; omega)
  cases hwl with
  | cons w1 w2 =>
    cases w2
    cases w1 with
    | list ho hall => exact ⟨_, _, ns, rfl, rfl, ho, ints_of_wellAll ns _ hall, hlen⟩
theorem post_true (l : OpenLaw) (args : List WData) : l.row.toRowW.claim.post args (.bool true) args = true :=
  postW_of (r := l.row.toRowW) (X := (true == true))
    (show WShape.has [] (.bool true) .bool = true by first | rfl | decide | simp [WShape.has, WShape.arms, WShape.armsAll])
    (show (WTm.eq .res (.lit (.bool true))).value [] { args := args, res := some (.bool true), after := args } = some (.bool (true == true)) from w_eq_bool (w_res rfl) w_lit) rfl
theorem attach_call {l : OpenLaw} {n : Nat} {q : Program} {loose : List Str} {XP : (Str → Option Value) → Heap → Prop} {YP : World → Heap → Prop} {d : DefRec}
    (hn : l.most = some n) (hdf : d.params.defaults = [])
    (call : ∀ (w : World) (s₀ s₁ : Shared) (mg mb : Str → Option Value) (fa : Addr) (o : Obj) (pm cd doc : Value) (a : Addr) (vs : List Value) (ns : List Int),
      Ground q loose [] XP w s₀ mg mb s₁.heap → YP w s₁.heap →
      s₁.heap.get? fa = some o → o.data = .func (docDef d.name d.params d.body d.scope pm cd doc) → s₁.heap.CodeRec cd d.name → mg d.name = some (.ref fa) →
      s₁.heap.get? a = some { cls := .type "list", data := .seq vs.toArray } → IntsAre vs ns → ns.length ≤ n → s₁.gens = #[] →
      codeAny (model l.prog w) callerA (.call (.ref fa) ⟨[.ref a], []⟩) (fun r s' => r = .ok (.ret (.bool true)) ∧ OldK s₁.heap s'.heap ∧ s'.os = s₁.os ∧ AllBare s'.gens) s₁) :
    WalkO q loose XP YP l.row.toRowW d [] (fun f vs => PySem.call f vs) := by
  intro w s₀ s₁ mg mb G Y fa o pm cd doc dV kV ho hd hcd hD hmg hg args vals as hpre hlay hrd hwl hlo
  obtain rfl : dV = .none := Dflts.none hD hdf
  obtain rfl : kV = .none := Dflts.noKw hD
  obtain ⟨a, vs, ns, rfl, rfl, hobj, hints, hlen⟩ := script_of hn hpre hwl
  refine enter_call (codeAny_mono (call w s₀ s₁ mg mb fa o pm cd doc a vs ns G Y ho (fd_plain hd) hcd hmg hobj hints hlen hg) fun r s' hq => ?_)
  obtain ⟨rfl, h2, h3, h4⟩ := hq
  exact ⟨.inl ⟨.bool true, .bool true, [], rfl, fun _ => rfl, .bool true, post_true l _, fun _ => ⟨List.Pairwise.nil, fun _ hm => (nomatch hm)⟩⟩, h2, h3, h4⟩
section
variable {prog : Program} {w : World} {A : Around} {E : Value → Shared → Prop} {s : Shared} {K : Frag}
def ledger (h : Heap) (L d : Addr) : List (Addr × Obj) := (List.range h.objs.size).filterMap fun a => if a = L ∨ a = d then none else (h.get? a).map fun o => (a, o)
end
end Att
namespace L2
open PySem PySem.Spec PyProof.Rows
theorem vals_ints : ∀ {vs : List Value} {ns : List Int}, IntsAre vs ns → Vals (ns.map V.int) vs
  | _, _, .nil => .nil
  | _, _, .cons n t h => .cons ⟨t, rfl⟩ (vals_ints h)
def Only (H : Hp) : Prop := ∀ b, H b = none ∨ ∃ o xs, H b = some (.frz o (.lst xs))
theorem law_call {P : Program} {w : World} {K : PySem.W.Frag} {mg mb : Str → Option Value} {CX : CXT} {k : Nat} {fa a : Addr} {fd : FuncData} {x : Str} {sp : Sp} {s₁ : Shared} {vs : List Value} {ns : List Int}
    (KX : K.In s₁.heap) (hns : s₁.heap.Ns mainGlobals mg) (hb : s₁.heap.Ns builtinsNs mb) (hbb : ∀ x : Str, x ≠ "__name__" → mb x = bootBuiltins x) (hlim : s₁.heap.NoLimit) (hg : s₁.gens = #[])
    (ha : s₁.heap.get? a = some { cls := .type "list", data := .seq vs.toArray }) (hi : IntsAre vs ns) (hl : ns.length ≤ sizeLine) (hr : Room k callerA)
    (F : ∀ base : Heap, K.In base → base.Ns mainGlobals mg → FnOk P w K mg base CX k fa fd [x] sp) (hbind : ∀ (s : Shared) (u : Value), BindsTo s fd ⟨[u], []⟩ [(x, u)])
    (hsp : ∀ H : Hp, Only H → SqL K H a (ns.map V.int) → sp [.ref a] H (fun v _ => v = .bl true) fun _ _ _ => False)
    (hCX : ∀ H e s', CX [] H s₁ (fun _ _ _ => False) e s' → False) :
    codeAny (model P w) callerA (.call (.ref fa) ⟨[.ref a], []⟩) (fun r s' => r = .ok (.ret (.bool true)) ∧ OldK s₁.heap s'.heap ∧ s'.os = s₁.os ∧ AllBare s'.gens) s₁ := by
  have rv := vals_ints hi
  have lenV := hi.length
  have core : ∀ H : Hp, Only H → SqL K H a (ns.map V.int) → HOk P w H s₁.heap → (∀ b, H b ≠ none → b = a) → (H a ≠ none → K.lookup a = none) →
      codeAny (model P w) callerA (.call (.ref fa) ⟨[.ref a], []⟩) (fun r s' => r = .ok (.ret (.bool true)) ∧ OldK s₁.heap s'.heap ∧ s'.os = s₁.os ∧ AllBare s'.gens) s₁ := by
    intro H hO hS hok hA hK
    have base_of : ∀ {b : Addr} {o : Obj}, s₁.heap.get? b = some o → H b = none → (hidT s₁.heap H).get? b = some o := fun e n => hidT_get e n
    have noA : ∀ {b : Addr} {o : Obj} {es : Array DictEntry} {ep : Nat}, s₁.heap.get? b = some o → o.data = .dict es ep → H b = none := fun {b o es ep} e d => by
      cases q : H b with
      | none => rfl
      | some u =>
        have e' : b = a := hA b (by rw [q]; simp)
        subst e'
        rw [ha] at e; cases e
        have d' : Data.seq vs.toArray _ = Data.dict es ep := d
        cases d'
    have nsK : ∀ {b : Addr} {m : Str → Option Value}, s₁.heap.Ns b m → (hidT s₁.heap H).Ns b m := fun {b m} ⟨o, es, ep, e, d, r⟩ => ⟨o, es, ep, base_of e (noA e d), d, r⟩
    have hKb : K.In (hidT s₁.heap H) := fun b o e => base_of (KX b o e) (by
      cases q : H b with
      | none => rfl
      | some u =>
        have e' : b = a := hA b (by rw [q]; simp)
        subst e'
        rw [hK (by rw [q]; simp)] at e; cases e)
    have hM : Mod K mg (hidT s₁.heap H) := ⟨hKb, nsK hns, ⟨mb, nsK hb, hbb⟩, let ⟨mc, h1, h2⟩ := hlim; ⟨mc, nsK h1, h2⟩⟩
    have e0 : Env0 P w K mg (hidT s₁.heap H) callerA [] s₁ H := ⟨rfl, hM, fun b o e => of_hidT e, Nat.le_of_eq (hidT_size _ _), trivial, fun b hb => absurd (show b ∈ ([] : List Addr) from hb) (by simp), hok, .of_eq hg⟩
    refine codeAny_mono ((F _ hKb (nsK hns)).run callerA [] s₁ H ⟨[.ref a], []⟩ [.ref a] [.ref a] _ _ hr e0 (hbind s₁ (.ref a)) (.cons rfl .nil) (hsp H hO hS)) fun r s' h => ?_
    cases r with
    | error e => exact (hCX H e s' h).elim
    | ok fl =>
      cases fl with
      | next => exact False.elim h
      | brk => exact False.elim h
      | cont => exact False.elim h
      | ret u =>
        obtain ⟨v, H', os, bare, un, hok', r', q⟩ := h
        have q' : v = .bl true := q
        subst q'
        obtain rfl : u = Value.bool true := r'
        refine ⟨rfl, OldK.of_keep fun b o e => ?_, os, bare⟩
        cases q : H b with
        | none => exact un.keep b o e q (by intro z; exact absurd (show b ∈ ([] : List Addr) from z) (by simp)) (by simp)
        | some u =>
          rcases hO b with z | ⟨ob, xs, z⟩
          · rw [q] at z; cases z
          · have z2 := un.frzs b ob _ z
            obtain ⟨e1, _⟩ := hok b _ z
            obtain ⟨e2, _⟩ := hok' b _ z2
            rw [e] at e1; cases e1
            exact e2
  cases hk : K.lookup a with
  | some o =>
    have e := KX a o hk
    rw [ha] at e
    cases e
    refine core (fun _ => none) (fun _ => .inl rfl) (.inr ⟨_, vs.toArray, _, hk, rfl, rfl, rfl, by rw [List.size_toArray, lenV]; exact hl, by simpa using rv⟩) (fun b u z => by have z' : (none : Option HO) = some u := z; cases z') (fun b z => absurd rfl z) fun z => absurd rfl z
  | none =>
    refine core (fun b => if b = a then some (.frz { cls := .type "list", data := .seq vs.toArray } (.lst (ns.map V.int))) else none) (fun b => ?_) (.inl (.inr ⟨{ cls := .type "list", data := .seq vs.toArray }, if_pos rfl⟩)) (fun b u z => ?_) (fun b z => ?_) fun _ => hk
    · by_cases hb : b = a
      · exact .inr ⟨_, _, if_pos hb⟩
      · exact .inl (if_neg hb)
    · by_cases hb : b = a
      · have z' := (if_pos hb).symm.trans z
        cases z'
        subst hb
        exact ⟨ha, by rw [List.length_map]; exact hl, vs, _, rv, ha⟩
      · have z' := (if_neg hb).symm.trans z
        cases z'
    · by_cases hb : b = a
      · exact hb
      · exact absurd (if_neg hb) z
end L2
namespace L2
open PySem PySem.Spec PyProof.Rows
abbrev KOf {K : PySem.W.Frag} {h : Heap} (_ : K.In h) : PySem.W.Frag := K
theorem walk_of {l : PySem.W.OpenLaw} {n k : Nat} {q : Program} {loose : List Str} {XP : (Str → Option Value) → Heap → Prop} {YP : World → Heap → Prop} {d : DefRec} {K : Params → PySem.W.Frag} {CX : World → CXT} {sp : World → Sp} {x : Str}
    (hn : l.most = some n) (hn2 : n ≤ sizeLine) (hdf : d.params.defaults = []) (hr : Room k callerA)
    (hY : ∀ (w : World) (h : Heap), YP w h → (K w.params).In h)
    (F : ∀ (w : World) (mg : Str → Option Value) (fa : Addr) (h : Heap), (K w.params).In h → h.Ns mainGlobals mg → mg d.name = some (.ref fa) →
      ∃ fd : FuncData, (∀ (s : Shared) (u : Value), BindsTo s fd ⟨[u], []⟩ [(x, u)]) ∧
        ∀ base : Heap, (K w.params).In base → base.Ns mainGlobals mg → FnOk l.prog w (K w.params) mg base (CX w) k fa fd [x] (sp w))
    (hsp : ∀ (w : World) (H : Hp) (a : Addr) (ns : List Int), ns.length ≤ n → Only H → SqL (K w.params) H a (ns.map V.int) → sp w [.ref a] H (fun v _ => v = .bl true) fun _ _ _ => False)
    (hCX : ∀ (w : World) (H : Hp) (s : Shared) (e : Value) (s' : Shared), CX w [] H s (fun _ _ _ => False) e s' → False) :
    PySem.W.WalkO q loose XP YP l.row.toRowW d [] (fun f vs => PySem.call f vs) := by
  refine Att.attach_call hn hdf fun w s₀ s₁ mg mb fa o pm cd doc a vs ns G Y ho hd hcd hmg hobj hints hlen hg => ?_
  have KX := hY w _ Y
  obtain ⟨fd, hb, hF⟩ := F w mg fa _ KX G.T.g hmg
  exact law_call KX G.T.g G.T.b G.T.builtins G.T.nolimit hg hobj hints (Nat.le_trans hlen hn2) hr hF hb (fun H hO hS => hsp w H a ns hlen hO hS) fun H e s' => hCX w H s₁ e s'
end L2
/- THE LAST THEOREM (shape; LID, My.* are yours):
   My.Adr: a structure of the addresses that your layer names (classes, functions); My.Txt K t: a structure (Prop) of the equations over K;
   My.txt_mk : {K} {implicit addresses ..} (e1 : nsIn K mainGlobals "law" = some (some (.ref f))) (e2 : K.lookup f = some ⟨oc, od, .func (fnOf "law" "law" params body scope dV kV doc pm an cdv ct), sl⟩) (e3 : codeIn K cdv "law" = true) .. : ∃ t, My.Txt K t
set_option maxRecDepth 100000 in
set_option maxHeartbeats 0 in
theorem PySem.Challenge.cw_LID_holds : PySem.Challenge.rw_LID.Holds := by
  w_on; o_law; k_head; (case hw => w_witness2)
  k_fill
  refine L2.walk_of (l := PySem.Challenge.rw_LID) (n := 63) (k := 40) (x := "script") (CX := fun w => ..) (sp := fun _ => My.sp_law) rfl (by decide) rfl ⟨rfl, by decide, by decide⟩ (fun w h Y => PySem.W.kIn_of Y) ?F ?S ?C
  case F =>
    intro w mg fa h KX G hmg
    have T : ∃ t, My.Txt (L2.KOf KX) t := by
      dsimp only [L2.KOf]                          -- K must stand as «<heap const> w.params» for k_is
      refine' My.txt_mk ?e1 ?e2 ?e3 ..
      (case e1 => PySem.W.k_is)                    -- in the order: a name -> its address -> its object -> its parts
      (case e2 => PySem.W.k_is)
      ..
    obtain ⟨t, T⟩ := T
    have e0 := hmg.symm.trans (PySem.W.mg_of KX G T.law)
    cases e0                                       -- fa is the law's own address
    exact ⟨_, fun s u => .of_eq rfl, fun base kb nb => My.law_fn T kb nb⟩     -- if «.of_eq rfl» comes too early: refine' ⟨_, ?b, fun base kb nb => My.law_fn T kb nb⟩; exact fun s u => .of_eq rfl
  case S => exact fun w H a ns hl hO hS => ..
  case C => exact ..
(the tactic k_is has no namespace: write k_is) -/
namespace L2
open PySem PySem.Spec PyProof.Rows
def inClass (s : Stmt) (j : Nat) : Stmt := match s with
  | .ClassDef _ _ _ body _ _ _ _ _ _ _ => body.getD j (.Pass ⟨0, 0, 0, 0⟩)
  | _ => .Pass ⟨0, 0, 0, 0⟩
def defArgs (s : Stmt) : Arguments := match s with
  | .FunctionDef _ a _ _ _ _ _ _ _ _ => a
  | _ => { posonlyargs := [], args := [], vararg := none, kwonlyargs := [], kw_defaults := [], kwarg := none, defaults := [] }
def defBody (s : Stmt) : List Stmt := match s with
  | .FunctionDef _ _ b _ _ _ _ _ _ _ => b
  | _ => []
def defScope (s : Stmt) : Scope := match s with
  | .FunctionDef _ _ _ _ _ _ sc _ _ _ => sc
  | _ => { kind := .function, names := [], isGenerator := false, isCoroutine := false }
abbrev CX0 : CXT := fun _ _ _ _ _ _ => False
abbrev E0 : XK := fun _ _ _ => False
theorem pass0 {X : Cx} : Passes CX0 X E0 := fun _ _ _ _ _ _ _ h => h.elim
structure Fun (K : PySem.W.Frag) (x qual : Str) (st : Stmt) (f : Addr) (fd : FuncData) : Prop where
  ex : ∃ (oc : Value) (od : Option Addr) (kV doc pm : Value) (an : Option Addr) (cdv ct : Value) (osl : Array (Option Value)),
    fd = PySem.W.fnOf x qual (defArgs st) (defBody st) (defScope st) .none kV doc pm an cdv ct ∧ K.lookup f = some ⟨oc, od, .func fd, osl⟩ ∧ PySem.W.codeIn K cdv qual = true
  kp : PySem.W.keepIn K (.ref f) = true
section
variable {P : Program} {w : World} {K : PySem.W.Frag} {mg : Str → Option Value} {base : Heap}
theorem Fun.ok {x qual : Str} {st : Stmt} {f : Addr} {fd : FuncData} {N ps : List Str} {k : Nat} {sp : Sp} (F : Fun K x qual st f fd) (S : FnScope N ps (defScope st)) (len : ∀ vs H Q E, sp vs H Q E → vs.length = ps.length)
    (hbody : ∀ (cdv : Value) (A : Around) (outer : List Env) (s : Shared) (H : Hp) (vs : List V) (Q : VK) (E : XK), Room k (A.deeper (envOfC qual (defScope st) s.heap.objs.size f cdv)) → sp vs H Q E →
      ∃ t, PSs (cxOf CX0 P w K mg base N qual (defScope st) f cdv A outer s H E).nox (defBody st) t ∧ t { nx := fun _ H' => Q .non H', rt := Q } (start N vs) H) : FnOk P w K mg base CX0 (k + 1) f fd ps sp := by
  obtain ⟨oc, od, kV, doc, pm, an, cdv, ct, osl, rfl, lk, hcd⟩ := F.ex
  refine fn_of lk hcd S len fun A outer s H vs Q E hr hsp => ?_
  obtain ⟨t, h, q⟩ := hbody cdv A outer s H vs Q E hr hsp
  exact ⟨t, h.nox, q⟩
theorem Fun.binds {x qual : Str} {st : Stmt} {f : Addr} {fd : FuncData} {ps : List Str} (F : Fun K x qual st f fd)
    (h : ∀ (kV doc pm : Value) (an : Option Addr) (cdv ct : Value) (us : List Value), us.length = ps.length → bindArgs (PySem.W.fnOf x qual (defArgs st) (defBody st) (defScope st) .none kV doc pm an cdv ct) ⟨us, []⟩ = pure (ps.zip us)) : Binds K fd ps [] := by
  obtain ⟨oc, od, kV, doc, pm, an, cdv, ct, osl, rfl, lk, hcd⟩ := F.ex
  exact .all (h kV doc pm an cdv ct)
theorem fun_mk {x qual : Str} {st : Stmt} {f : Addr} {oc : Value} {od an : Option Addr} {osl : Array (Option Value)} {kV doc pm cdv ct : Value} (l : K.lookup f = some ⟨oc, od, .func (PySem.W.fnOf x qual (defArgs st) (defBody st) (defScope st) .none kV doc pm an cdv ct), osl⟩)
    (c : PySem.W.codeIn K cdv qual = true) (k : PySem.W.keepIn K (.ref f) = true) : Fun K x qual st f (PySem.W.fnOf x qual (defArgs st) (defBody st) (defScope st) .none kV doc pm an cdv ct) := ⟨⟨oc, od, kV, doc, pm, an, cdv, ct, osl, rfl, l, c⟩, k⟩
end
theorem hu_of {A : Around} {k : Nat} (hr : Room k A) : A.units + 1 < cLine := Nat.lt_of_le_of_lt (Nat.add_le_add_left (by decide : 1 ≤ 64) _) hr.units
theorem small1000 {n : Nat} (h : n ≤ 1000) : n < sizeLine := Nat.lt_of_le_of_lt h (by decide)
section
variable {X : Cx}
theorem pv (i : Nat) {x : Str} {pos : Pos} (hN : X.N[i]? = some x := by rfl) (hv : Vis X.env.scope x := by first | exact Or.inl rfl | exact Or.inr (Or.inl rfl) | exact Or.inr (Or.inr rfl)) (hd : (x == ("__debug__" : Str)) = false := by decide)
    (hcd : (x == ("__classdict__" : Str)) = false := by decide) : PE X (.Name x pos) (tVar i) := pe_var hN hv hd hcd
end
theorem iteF {A B : Prop} (h : B) : if false = true then A else B := by
  rw [if_neg Bool.false_ne_true]
  exact h
theorem iteT {A B : Prop} (h : A) : if true = true then A else B := by
  rw [if_pos rfl]
  exact h
theorem ite2 {c A B : Prop} [Decidable c] (h1 : c → A) (h2 : ¬ c → B) : if c then A else B := by
  by_cases h : c
  · rw [if_pos h]
    exact h1 h
  · rw [if_neg h]
    exact h2 h
def Same (H H' : Hp) : Prop := ∀ b o, H b = some o → H' b = some o
theorem Same.refl (H : Hp) : Same H H := fun _ _ h => h
theorem Same.trans {H H1 H2 : Hp} (a : Same H H1) (b : Same H1 H2) : Same H H2 := fun c o h => b c o (a c o h)
theorem Same.free {H H' : Hp} (e : Same H H') {l : Addr} (h : H' l = Option.none) : H l = Option.none := by
  cases q : H l with
  | none => rfl
  | some o =>
    rw [e l o q] at h
    cases h
theorem Same.seq {K : PySem.W.Frag} {H H' : Hp} {a : Addr} {xs : List V} (e : Same H H') (h : SqL K H a xs) : SqL K H' a xs := by
  rcases h with (h | ⟨o, h⟩) | h
  · exact .inl (.inl (e _ _ h))
  · exact .inl (.inr ⟨o, e _ _ h⟩)
  · exact .inr h
section
variable {X : Cx}
end
section
variable {κ : Type} [DecidableEq κ]
end
end L2

namespace OS
def sh (f : Nat → Int) : Nat → Int
  | 0 => 0
  | j + 1 => f j
def fact : Nat → Int
  | 0 => 1
  | n + 1 => ((n : Int) + 1) * fact n
def h : Nat → List Int → Nat → Int
  | n, [], j => if j = 0 then fact n else 0
  | n, t :: ts, j => h n ts j + t * (sh (h (n - 1) ts) j - h (n - 1) ts j)
theorem sh_add (f g : Nat → Int) (j : Nat) : sh (fun i => f i + g i) j = sh f j + sh g j := by
  cases j <;> simp [sh]
theorem sh_sub (f g : Nat → Int) (j : Nat) : sh (fun i => f i - g i) j = sh f j - sh g j := by
  cases j <;> simp [sh]
theorem sh_mul (c : Int) (f : Nat → Int) (j : Nat) : sh (fun i => c * f i) j = c * sh f j := by
  cases j <;> simp [sh]
theorem h_cons (n : Nat) (t : Int) (ts : List Int) (j : Nat) : h n (t :: ts) j = h n ts j + t * (sh (h (n - 1) ts) j - h (n - 1) ts j) := rfl
theorem h_cons_f (n : Nat) (t : Int) (ts : List Int) : h n (t :: ts) = fun j => h n ts j + t * (sh (h (n - 1) ts) j - h (n - 1) ts j) := rfl
theorem sh_h_cons (n : Nat) (t : Int) (ts : List Int) (j : Nat) : sh (h n (t :: ts)) j = sh (h n ts) j + t * (sh (sh (h (n - 1) ts)) j - sh (h (n - 1) ts) j) := by
  rw [h_cons_f, sh_add, sh_mul, sh_sub]
theorem h_zero (n : Nat) (ts : List Int) (j : Nat) : h n (0 :: ts) j = h n ts j := by
  simp [h_cons]
theorem h_perm {as bs : List Int} (p : as.Perm bs) : ∀ (n j : Nat), h n as j = h n bs j := by
  induction p with
  | nil => intro n j; rfl
  | cons x _ ih =>
    intro n j
    have e : h (n - 1) _ = h (n - 1) _ := funext (ih (n - 1))
    rw [h_cons, h_cons, ih, e]
  | swap x y l =>
    intro n j
    simp only [h_cons, sh_h_cons]
    grind
  | trans _ _ i1 i2 => intro n j; rw [i1, i2]
theorem h_filter (ts : List Int) : ∀ (n j : Nat), h n (ts.filter (fun t => t != 0)) j = h n ts j := by
  induction ts with
  | nil => intro n j; rfl
  | cons t ts ih =>
    intro n j
    by_cases e : t = 0
    · subst e
      rw [h_zero, ← ih]; simp
    · have e2 : (t != 0) = true := by simpa using e
      have e3 : h (n - 1) (ts.filter (fun t => t != 0)) = h (n - 1) ts := funext (ih (n - 1))
      rw [List.filter_cons_of_pos (by simpa using e2), h_cons, h_cons, ih, e3]
def decs : List Int → List (Int × List Int)
  | [] => []
  | t :: ts => (t, (t - 1) :: ts) :: (decs ts).map (fun p => (p.1, t :: p.2))
def S (n : Nat) (ps : List (Int × List Int)) (j : Nat) : Int := (ps.map (fun p => p.1 * h n p.2 j)).sum
theorem S_map (n : Nat) (t : Int) (ps : List (Int × List Int)) (j : Nat) :
    S n (ps.map (fun p => (p.1, t :: p.2))) j = S n ps j + t * (sh (S (n - 1) ps) j - S (n - 1) ps j) := by
  induction ps with
  | nil => cases j <;> simp [S, sh]
  | cons p ps ih =>
    have e : S (n - 1) (p :: ps) = fun j => p.1 * h (n - 1) p.2 j + S (n - 1) ps j := by
      funext i; simp [S]
    rw [e, sh_add, sh_mul]
    have e1 : S n ((p :: ps).map (fun p => (p.1, t :: p.2))) j = p.1 * h n (t :: p.2) j + S n (ps.map (fun p => (p.1, t :: p.2))) j := by simp [S]
    have e2 : S n (p :: ps) j = p.1 * h n p.2 j + S n ps j := by simp [S]
    rw [e1, e2, ih, h_cons]
    grind
theorem row : ∀ (ts : List Int) (n : Nat), ts.length ≤ n → ∀ j, h (n + 1) ts j = S n (decs ts) j + ((n : Int) + 1 - ts.sum) * h n ts j
  | [], n, _, j => by
    simp only [decs, S, h, List.map_nil, List.sum_nil]
    by_cases e : j = 0 <;> simp [e, fact]
  | t :: ts, n, hn, j => by
    obtain ⟨m, rfl⟩ : ∃ m, n = m + 1 := ⟨n - 1, by simp at hn; omega⟩
    have hm : ts.length ≤ m := by simpa using hn
    have i1 := row ts (m + 1) (by omega)
    have i0 := row ts m hm
    have i0f : h (m + 1) ts = fun j => S m (decs ts) j + ((m : Int) + 1 - ts.sum) * h m ts j := funext i0
    have i0s : ∀ j, sh (h (m + 1) ts) j = sh (S m (decs ts)) j + ((m : Int) + 1 - ts.sum) * sh (h m ts) j := by
      intro j; rw [i0f, sh_add, sh_mul]
    have e1 : S (m + 1) (decs (t :: ts)) j = t * h (m + 1) ((t - 1) :: ts) j + S (m + 1) ((decs ts).map (fun p => (p.1, t :: p.2))) j := by simp [S, decs]
    rw [e1, S_map]
    simp only [h_cons, Nat.add_sub_cancel, List.sum_cons]
    have a := i1 j
    have b := i0 j
    have c := i0s j
    push_cast at *
    grind
theorem row_with (t : Int) (ts : List Int) (n : Nat) (hn : ts.length ≤ n) (j : Nat) :
    h (n + 1) (t :: ts) j = t * sh (h n ts) j + S n (decs ts) j + ((n : Int) + 1 - t - ts.sum) * h n ts j := by
  rw [h_cons, row ts n hn, Nat.add_sub_cancel]
  grind
theorem decs_mem : ∀ (ts : List Int), (∀ t ∈ ts, 0 ≤ t) → ∀ p ∈ decs ts, 0 ≤ p.1 ∧ p.2.length = ts.length ∧ p.2.sum = ts.sum - 1 ∧ (0 < p.1 → ∀ t ∈ p.2, 0 ≤ t)
  | [], _, p, hp => by simp [decs] at hp
  | t :: ts, hh, p, hp => by
    simp only [decs, List.mem_cons, List.mem_map] at hp
    have ht : 0 ≤ t := hh t (by simp)
    have hts : ∀ t ∈ ts, 0 ≤ t := fun u hu => hh u (by simp [hu])
    rcases hp with rfl | ⟨q, hq, rfl⟩
    · refine ⟨ht, by simp, by simp; omega, fun h1 u hu => ?_⟩
      simp only [List.mem_cons] at hu
      rcases hu with rfl | hu
      · simp only at h1; omega
      · exact hts u hu
    · obtain ⟨a, b, c, d⟩ := decs_mem ts hts q hq
      refine ⟨a, by simp [b], by simp [c]; omega, fun h1 u hu => ?_⟩
      simp only [List.mem_cons] at hu
      rcases hu with rfl | hu
      · exact ht
      · exact d h1 u hu
theorem sum_nonneg : ∀ (ts : List Int), (∀ t ∈ ts, 0 ≤ t) → 0 ≤ ts.sum
  | [], _ => by simp
  | t :: ts, hh => by
    have a := hh t (by simp)
    have b := sum_nonneg ts (fun u hu => hh u (by simp [hu]))
    simp only [List.sum_cons]; omega
theorem fact_pos : ∀ n, 0 < fact n
  | 0 => by decide
  | n + 1 => by
    have := fact_pos n
    simp only [fact]
    exact Int.mul_pos (by omega) this
theorem h_nonneg : ∀ (m : Nat) (ts : List Int) (n : Nat), ts.length = m → ts.length ≤ n → (∀ t ∈ ts, 0 ≤ t) → ts.sum ≤ n → ∀ j, 0 ≤ h n ts j
  | 0, ts, n, hm, _, _, _, j => by
    have : ts = [] := List.length_eq_zero_iff.mp hm
    subst this
    simp only [h]
    split
    · exact Int.le_of_lt (fact_pos n)
    · exact Int.le_refl _
  | m + 1, ts, n, hm, hn, hp, hs, j => by
    match ts, hm with
    | t :: ts, hm =>
      obtain ⟨k, rfl⟩ : ∃ k, n = k + 1 := ⟨n - 1, by simp at hn; omega⟩
      have hk : ts.length ≤ k := by simpa using hn
      have hm' : ts.length = m := by simpa using hm
      have ht : 0 ≤ t := hp t (by simp)
      have hts : ∀ t ∈ ts, 0 ≤ t := fun u hu => hp u (by simp [hu])
      simp only [List.sum_cons] at hs
      have hsn := sum_nonneg ts hts
      rw [row_with t ts k hk]
      have e2 : 0 ≤ S k (decs ts) j := by
        refine sum_nonneg _ fun u hu => ?_
        simp only [List.mem_map] at hu
        obtain ⟨p, hpm, rfl⟩ := hu
        obtain ⟨a, b, c, d⟩ := decs_mem ts hts p hpm
        by_cases z : p.1 = 0
        · rw [z]; simp
        · have zz : 0 < p.1 := by omega
          refine Int.mul_nonneg a (h_nonneg m p.2 k (by omega) (by omega) (d zz) (by omega) j)
      by_cases z : ts.sum ≤ k
      · have ih := h_nonneg m ts k hm' hk hts z
        have e1 : 0 ≤ t * sh (h k ts) j := Int.mul_nonneg ht (by cases j with | zero => exact Int.le_refl _ | succ j => exact ih j)
        have e3 : 0 ≤ ((k : Int) + 1 - t - ts.sum) * h k ts j := Int.mul_nonneg (by omega) (ih j)
        omega
      · have ez : t = 0 := by omega
        have es : (k : Int) + 1 - t - ts.sum = 0 := by omega
        rw [es, ez]; simp; exact e2
def tab {α : Type} (m : Nat) (f : Nat → α) : List α := (List.range m).map f
theorem tab_length {α : Type} (m : Nat) (f : Nat → α) : (tab m f).length = m := by simp [tab]
theorem tab_get {α : Type} (m : Nat) (f : Nat → α) (i : Nat) (hi : i < m) : (tab m f)[i]? = some (f i) := by simp [tab, hi]
theorem tab_congr {α : Type} {m : Nat} {f g : Nat → α} (e : ∀ i, i < m → f i = g i) : tab m f = tab m g := by
  unfold tab
  exact List.map_congr_left fun i hi => e i (by simpa using hi)
theorem tab_succ {α : Type} (m : Nat) (f : Nat → α) : tab (m + 1) f = tab m f ++ [f m] := by
  simp [tab, List.range_succ]
theorem tab_append {α : Type} (m k : Nat) (f : Nat → α) : tab (m + k) f = tab m f ++ tab k (fun i => f (m + i)) := by
  induction k with
  | zero => simp [tab]
  | succ k ih => rw [← Nat.add_assoc, tab_succ, ih, tab_succ, List.append_assoc]
theorem tab_set {α : Type} (m : Nat) (f : Nat → α) (k : Nat) (v : α) : (tab m f).set k v = tab m (fun i => if i = k then v else f i) := by
  apply List.ext_getElem?
  intro i
  rw [List.getElem?_set]
  by_cases hi : i < m
  · have e0 := tab_get m (fun i => if i = k then v else f i) i hi
    rw [e0]
    by_cases e : k = i
    · subst e; simp [tab_length, hi]
    · have : ¬ i = k := fun z => e z.symm
      rw [if_neg e, tab_get m f i hi, if_neg this]
  · have e1 : ∀ (f : Nat → α), (tab m f)[i]? = none := fun f => by simp [tab]; omega
    rw [e1, e1]
    by_cases e : k = i
    · subst e; simp [tab_length, hi]
    · simp [e]
theorem tab_const (m : Nat) (f : Nat → Int) (e : ∀ i, i < m → f i = 0) : tab m f = List.replicate m 0 := by
  apply List.ext_getElem?
  intro i
  by_cases hi : i < m
  · rw [tab_get _ _ i hi, e i hi]; simp [hi]
  · have : (tab m f)[i]? = none := by simp [tab]; omega
    rw [this]; simp; omega
def pk : List Int → Nat → Int
  | [], k => if k = 0 then 1 else 0
  | t :: ts, k => pk ts k + t * sh (pk ts) k
theorem pk_zero_of : ∀ (ts : List Int) (k : Nat), ts.length < k → pk ts k = 0
  | [], k, hk => by simp [pk]; simp at hk; omega
  | t :: ts, k, hk => by
    obtain ⟨m, rfl⟩ : ∃ m, k = m + 1 := ⟨k - 1, by simp at hk; omega⟩
    simp only [List.length_cons] at hk
    rw [pk, pk_zero_of ts _ (by omega)]
    simp only [sh]
    rw [pk_zero_of ts _ (by omega)]; simp
def hit : Nat → (Nat → Int) → Nat → Int
  | 0, _, _ => 0
  | m + 1, c, j => (if j = 0 then c 0 else 0) + sh (hit m (fun k => c (k + 1))) j - hit m (fun k => c (k + 1)) j
theorem hit_congr : ∀ (m : Nat) (c d : Nat → Int), (∀ k, k < m → c k = d k) → ∀ j, hit m c j = hit m d j
  | 0, c, d, _, j => rfl
  | m + 1, c, d, e, j => by
    have i := hit_congr m (fun k => c (k + 1)) (fun k => d (k + 1)) (fun k hk => e (k + 1) (by omega))
    have f : hit m (fun k => c (k + 1)) = hit m (fun k => d (k + 1)) := funext i
    simp only [hit, f, e 0 (by omega)]
theorem hit_zero : ∀ (m : Nat) (j : Nat), hit m (fun _ => 0) j = 0
  | 0, j => rfl
  | m + 1, j => by
    have f : hit m (fun _ => 0) = fun _ => 0 := funext (hit_zero m)
    simp only [hit, f]
    cases j <;> simp [sh]
theorem hit_add : ∀ (m : Nat) (c d : Nat → Int) (j : Nat), hit m (fun k => c k + d k) j = hit m c j + hit m d j
  | 0, c, d, j => by simp [hit]
  | m + 1, c, d, j => by
    have i := hit_add m (fun k => c (k + 1)) (fun k => d (k + 1))
    have f : hit m (fun k => c (k + 1) + d (k + 1)) = fun j => hit m (fun k => c (k + 1)) j + hit m (fun k => d (k + 1)) j := funext i
    simp only [hit, f, sh_add]
    split <;> omega
theorem hit_mul : ∀ (m : Nat) (a : Int) (c : Nat → Int) (j : Nat), hit m (fun k => a * c k) j = a * hit m c j
  | 0, a, c, j => by simp [hit]
  | m + 1, a, c, j => by
    have i := hit_mul m a (fun k => c (k + 1))
    have f : hit m (fun k => a * c (k + 1)) = fun j => a * hit m (fun k => c (k + 1)) j := funext i
    simp only [hit, f, sh_mul]
    split <;> grind
theorem hit_pk : ∀ (ts : List Int) (m n : Nat), ts.length ≤ m → m ≤ n → ∀ j, hit (m + 1) (fun k => pk ts k * fact (n - k)) j = h n ts j
  | [], m, n, _, _, j => by
    have e : ∀ j, hit m (fun k => pk [] (k + 1) * fact (n - (k + 1))) j = 0 := by
      intro j
      rw [hit_congr m _ (fun _ => 0) (fun k _ => by simp [pk]), hit_zero]
    have f : hit m (fun k => pk [] (k + 1) * fact (n - (k + 1))) = fun _ => 0 := funext e
    simp only [hit, f, h]
    cases j <;> simp [sh, pk]
  | t :: ts, m, n, hm, hn, j => by
    obtain ⟨m, rfl⟩ : ∃ k, m = k + 1 := ⟨m - 1, by simp at hm; omega⟩
    have hm' : ts.length ≤ m := by simpa using hm
    have i1 := hit_pk ts (m + 1) n (by omega) hn j
    have i0 := hit_pk ts m (n - 1) hm' (by omega)
    have e : (fun k => pk (t :: ts) k * fact (n - k)) = fun k => pk ts k * fact (n - k) + t * (sh (pk ts) k * fact (n - k)) := by
      funext k; simp only [pk]; grind
    have g : ∀ j, hit (m + 1) (fun k => sh (pk ts) (k + 1) * fact (n - (k + 1))) j = h (n - 1) ts j := by
      intro j
      rw [← i0 j]
      refine hit_congr _ _ _ (fun k hk => ?_) j
      show pk ts k * fact (n - (k + 1)) = pk ts k * fact (n - 1 - k)
      rw [show n - (k + 1) = n - 1 - k by omega]
    have gf : hit (m + 1) (fun k => sh (pk ts) (k + 1) * fact (n - (k + 1))) = h (n - 1) ts := funext g
    rw [e, hit_add, i1, hit_mul, h_cons]
    congr 2
    rw [hit, gf]
    simp [sh]
theorem h_zero_of : ∀ (ts : List Int) (n j : Nat), ts.length < j → h n ts j = 0
  | [], n, j, hj => by simp [h]; simp at hj; omega
  | t :: ts, n, j, hj => by
    obtain ⟨m, rfl⟩ : ∃ m, j = m + 1 := ⟨j - 1, by simp at hj; omega⟩
    simp only [List.length_cons] at hj
    rw [h_cons, h_zero_of ts _ _ (by omega), h_zero_of ts _ (m + 1) (by omega)]
    simp only [sh]
    rw [h_zero_of ts _ m (by omega)]; simp
def bs : Nat → (Nat → Int) → Nat → Int
  | 0, _, _ => 0
  | m + 1, c, 0 => c 0 - bs m (fun k => c (k + 1)) 0
  | m + 1, c, k + 1 => bs m (fun k => c (k + 1)) k
theorem bs_out : ∀ (m : Nat) (c : Nat → Int) (k : Nat), m ≤ k → bs m c k = 0
  | 0, c, k, _ => by cases k <;> rfl
  | m + 1, c, k, hk => by
    obtain ⟨k, rfl⟩ : ∃ i, k = i + 1 := ⟨k - 1, by omega⟩
    rw [bs, bs_out m _ k (by omega)]
theorem bs_step : ∀ (m : Nat) (c : Nat → Int) (k : Nat), k < m → bs m c k = c k - bs m c (k + 1)
  | 0, c, k, hk => by omega
  | m + 1, c, 0, hk => by simp only [bs]
  | m + 1, c, k + 1, hk => by
    rw [bs, bs_step m _ k (by omega)]
    simp only [bs]
theorem hit_bs : ∀ (m : Nat) (c : Nat → Int) (j : Nat), hit (m + 1) c j = (if j = 0 then bs (m + 1) c 0 else 0) + sh (hit m (fun k => bs (m + 1) c (k + 1))) j
  | 0, c, j => by
    cases j <;> simp [hit, bs, sh]
  | m + 1, c, j => by
    have ih := hit_bs m (fun k => c (k + 1))
    have ihf := funext ih
    have e2 : ∀ j, hit (m + 1) (fun k => bs (m + 1 + 1) c (k + 1)) j = (if j = 0 then bs (m + 1) (fun k => c (k + 1)) 0 else 0) + sh (hit m (fun k => bs (m + 1) (fun k => c (k + 1)) (k + 1))) j - hit m (fun k => bs (m + 1) (fun k => c (k + 1)) (k + 1)) j := by
      intro j
      simp only [hit, bs]
    have e2f := funext e2
    rw [hit, e2f, ihf]
    cases j with
    | zero => simp [sh, bs]
    | succ j =>
      cases j with
      | zero => simp [sh, bs]
      | succ j => simp [sh]
theorem hit_bs0 (m : Nat) (c : Nat → Int) : hit (m + 1) c 0 = bs (m + 1) c 0 := by
  rw [hit_bs]; simp [sh]
theorem hit_bsS (m : Nat) (c : Nat → Int) (j : Nat) : hit (m + 1) c (j + 1) = hit m (fun k => bs (m + 1) c (k + 1)) j := by
  rw [hit_bs]; simp [sh]
theorem sum_tab_add (m : Nat) (f g : Nat → Int) : (tab m (fun i => f i + g i)).sum = (tab m f).sum + (tab m g).sum := by
  induction m with
  | zero => simp [tab]
  | succ m ih => rw [tab_succ, tab_succ, tab_succ]; simp [ih]; omega
def cs (n : Nat) (xs : List Int) : List Int := tab n (fun s => (xs.count (s : Int) : Int))
theorem cs_length (n : Nat) (xs : List Int) : (cs n xs).length = n := tab_length _ _
theorem cs_nonneg (n : Nat) (xs : List Int) : ∀ t ∈ cs n xs, 0 ≤ t := by
  intro t ht
  simp only [cs, tab, List.mem_map] at ht
  obtain ⟨a, _, rfl⟩ := ht
  omega
theorem sum_tab_one (n : Nat) (x : Int) : (tab n (fun s => if x = (s : Int) then (1 : Int) else 0)).sum = if 0 ≤ x ∧ x < n then 1 else 0 := by
  induction n with
  | zero =>
    rw [if_neg (by omega)]; simp [tab]
  | succ n ih =>
    rw [tab_succ, List.sum_append, ih]
    simp only [List.sum_cons, List.sum_nil]
    by_cases e : x = (n : Int)
    · subst e; simp; omega
    · have : (0 ≤ x ∧ x < ((n + 1 : Nat) : Int)) ↔ (0 ≤ x ∧ x < (n : Int)) := by omega
      rw [if_neg e]
      by_cases c : 0 ≤ x ∧ x < (n : Int)
      · rw [if_pos c, if_pos (this.mpr c)]; rfl
      · rw [if_neg c, if_neg (fun z => c (this.mp z))]; rfl
theorem cs_cons (x : Int) (xs : List Int) (s : Nat) : ((x :: xs).count (s : Int) : Int) = (xs.count (s : Int) : Int) + if x = (s : Int) then 1 else 0 := by
  rw [List.count_cons]
  by_cases e : x = (s : Int) <;> simp [e]
theorem cs_sum_le (n : Nat) : ∀ (xs : List Int), (cs n xs).sum ≤ xs.length
  | [] => by
    rw [cs, tab_const _ _ (fun i _ => by simp)]; simp
  | x :: xs => by
    have e : cs n (x :: xs) = tab n (fun s => (xs.count (s : Int) : Int) + if x = (s : Int) then 1 else 0) := by
      unfold cs
      exact tab_congr fun i _ => cs_cons x xs i
    have i := cs_sum_le n xs
    rw [e, sum_tab_add, sum_tab_one]
    unfold cs at i
    simp only [List.length_cons]
    split <;> omega
def due (n : Nat) (xs : List Int) : List Int := tab (n + 1) (h n (cs n xs))
theorem due_nonneg (n : Nat) (xs : List Int) (hx : xs.length = n) : ∀ t ∈ due n xs, 0 ≤ t := by
  intro t ht
  simp only [due, tab, List.mem_map] at ht
  obtain ⟨a, _, rfl⟩ := ht
  refine h_nonneg n _ n (cs_length _ _) (by rw [cs_length]; exact Nat.le_refl _) (cs_nonneg _ _) ?_ a
  have := cs_sum_le n xs
  omega
theorem nodup_map_inj {α β : Type} {f : α → β} (hf : ∀ a b, f a = f b → a = b) : ∀ {l : List α}, l.Nodup → (l.map f).Nodup
  | [], _ => by simp
  | x :: l, hl => by
    rw [List.nodup_cons] at hl
    rw [List.map_cons, List.nodup_cons]
    refine ⟨fun hm => ?_, nodup_map_inj hf hl.2⟩
    obtain ⟨a, ha, e⟩ := List.mem_map.mp hm
    exact hl.1 (hf _ _ e ▸ ha)
theorem pow2_mono {a b : Nat} (h : a ≤ b) : (2 : Int) ^ a ≤ 2 ^ b := by
  have : (2 : Nat) ^ a ≤ 2 ^ b := Nat.pow_le_pow_right (by decide) h
  exact_mod_cast this
theorem one_add_le_pow (t : Nat) : (t : Int) + 1 ≤ 2 ^ t := by
  have : t + 1 ≤ 2 ^ t := Nat.lt_two_pow_self
  exact_mod_cast this
theorem pk_bound : ∀ (ts : List Int), (∀ t ∈ ts, 0 ≤ t) → ∀ k, 0 ≤ pk ts k ∧ pk ts k ≤ 2 ^ ts.sum.toNat
  | [], _, k => by
    simp only [pk, List.sum_nil]
    split <;> decide
  | t :: ts, h, k => by
    have ht : 0 ≤ t := h t (by simp)
    have hts : ∀ t ∈ ts, 0 ≤ t := fun u hu => h u (by simp [hu])
    have hs := sum_nonneg ts hts
    have ih := pk_bound ts hts
    obtain ⟨a1, a2⟩ := ih k
    have b : 0 ≤ sh (pk ts) k ∧ sh (pk ts) k ≤ 2 ^ ts.sum.toNat := by
      cases k with
      | zero =>
        refine ⟨Int.le_refl _, ?_⟩
        have := pow2_mono (Nat.zero_le ts.sum.toNat)
        show (0 : Int) ≤ _
        omega
      | succ k => exact ih k
    have e : (t :: ts).sum.toNat = t.toNat + ts.sum.toNat := by rw [List.sum_cons]; omega
    rw [pk, e, Int.pow_add]
    have q := one_add_le_pow t.toNat
    have p0 : (0 : Int) ≤ 2 ^ ts.sum.toNat := Int.le_trans a1 a2
    have m1 : t * sh (pk ts) k ≤ t * 2 ^ ts.sum.toNat := Int.mul_le_mul_of_nonneg_left b.2 ht
    have m2 : ((t.toNat : Int) + 1) * 2 ^ ts.sum.toNat ≤ 2 ^ t.toNat * 2 ^ ts.sum.toNat := Int.mul_le_mul_of_nonneg_right q p0
    have m0 : 0 ≤ t * sh (pk ts) k := Int.mul_nonneg ht b.1
    have et : ((t.toNat : Int) + 1) * 2 ^ ts.sum.toNat = t * 2 ^ ts.sum.toNat + 2 ^ ts.sum.toNat := by
      rw [show ((t.toNat : Nat) : Int) = t by omega, Int.add_mul, Int.one_mul]
    omega
theorem sum_perm {as bs : List Int} (p : as.Perm bs) : as.sum = bs.sum := by
  induction p with
  | nil => rfl
  | cons x _ ih => simp [ih]
  | swap x y l => simp; omega
  | trans _ _ a b => rw [a, b]
theorem sum_filter_ne (ts : List Int) : (ts.filter (fun t => t != 0)).sum = ts.sum := by
  induction ts with
  | nil => rfl
  | cons t ts ih =>
    by_cases e : t = 0
    · subst e; simp [ih]
    · rw [List.filter_cons_of_pos (by simpa using e)]; simp [ih]
theorem pk_small {ts : List Int} (h : ∀ t ∈ ts, 0 ≤ t) (hs : ts.sum ≤ 63) (k : Nat) : -(2 ^ 64) < pk ts k ∧ pk ts k < 2 ^ 64 := by
  obtain ⟨a, b⟩ := pk_bound ts h k
  have := pow2_mono (a := ts.sum.toNat) (b := 63) (by omega)
  have e : (2 : Int) ^ 63 = 9223372036854775808 := by decide
  have e' : (2 : Int) ^ 64 = 18446744073709551616 := by decide
  omega
theorem le_sum {ts : List Int} (h : ∀ t ∈ ts, 0 ≤ t) {t : Int} (ht : t ∈ ts) : t ≤ ts.sum := by
  induction ts with
  | nil => simp at ht
  | cons u us ih =>
    have hu := h u (by simp)
    have hus : ∀ t ∈ us, 0 ≤ t := fun v hv => h v (by simp [hv])
    have := sum_nonneg us hus
    simp only [List.sum_cons]
    rcases List.mem_cons.mp ht with rfl | ht
    · omega
    · have := ih hus ht; omega
theorem ways_start (P : List Int) : tab (P.length + 1) (pk P) ++ [0] = tab (P.length + 2) (pk P) := by
  rw [tab_succ (P.length + 1), pk_zero_of P _ (Nat.lt_succ_self _)]
def ex (m : Nat) (c : Nat → Int) : Nat → Nat → Int
  | 0 => c
  | d + 1 => fun i => if i < d then ex m c d i else bs (m - d) (fun k => ex m c d (k + d)) (i - d)
theorem ex_step (m : Nat) (c : Nat → Int) (d i : Nat) (h1 : d ≤ i) (h2 : i + 1 < m) : ex m c (d + 1) i = ex m c d i - ex m c (d + 1) (i + 1) := by
  simp only [ex]
  rw [if_neg (by omega), if_neg (by omega), bs_step _ _ _ (by omega)]
  rw [show i - d + d = i by omega, show i + 1 - d = i - d + 1 by omega]
theorem ex_last (m : Nat) (c : Nat → Int) (d : Nat) (h : d < m) : ex m c (d + 1) (m - 1) = ex m c d (m - 1) := by
  simp only [ex]
  rw [if_neg (by omega), bs_step _ _ _ (by omega), bs_out _ _ _ (by omega)]
  rw [show m - 1 - d + d = m - 1 by omega]; omega
theorem ex_low (m : Nat) (c : Nat → Int) (d i : Nat) (h : i < d) : ex m c (d + 1) i = ex m c d i := by
  simp only [ex]
  rw [if_pos h]
theorem ex_inv (m : Nat) (c : Nat → Int) : ∀ d, d < m → (∀ j, j < d → ex m c d j = hit m c j) ∧ ∀ j, hit m c (d + j) = hit (m - d) (fun k => ex m c d (k + d)) j
  | 0, _ => ⟨fun j hj => by omega, fun j => by rw [Nat.zero_add]; rfl⟩
  | d + 1, hd => by
    obtain ⟨a, b⟩ := ex_inv m c d (by omega)
    obtain ⟨r, hr⟩ : ∃ r, m - d = r + 1 := ⟨m - d - 1, by omega⟩
    have hr2 : m - (d + 1) = r := by omega
    constructor
    · intro j hj
      by_cases e : j < d
      · rw [ex_low m c d j e, a j e]
      · have : j = d := by omega
        subst this
        have := b 0
        rw [Nat.add_zero] at this
        rw [this, hr, hit_bs0]
        simp only [ex]
        rw [if_neg (by omega), hr, Nat.sub_self]
    · intro j
      have := b (j + 1)
      rw [show d + 1 + j = d + (j + 1) by omega, this, hr, hit_bsS, hr2]
      refine hit_congr _ _ _ (fun k hk => ?_) j
      simp only [ex]
      rw [if_neg (by omega), hr, show k + (d + 1) - d = k + 1 by omega]
theorem ex_done (m : Nat) (c : Nat → Int) (hm : 0 < m) : tab m (ex m c (m - 1)) = tab m (hit m c) := by
  obtain ⟨a, b⟩ := ex_inv m c (m - 1) (by omega)
  refine tab_congr fun i hi => ?_
  by_cases e : i < m - 1
  · exact a i e
  · have : i = m - 1 := by omega
    subst this
    have := b 0
    rw [Nat.add_zero, show m - (m - 1) = 0 + 1 by omega] at this
    rw [this]
    simp [hit, sh]
def exF (m : Nat) (c : Nat → Int) (d j i : Nat) : Int := if m ≤ i + j + 1 then ex m c (d + 1) i else ex m c d i
theorem exF_zero (m : Nat) (c : Nat → Int) (d : Nat) (hd : d < m) : tab m (exF m c d 0) = tab m (ex m c d) := by
  refine tab_congr fun i hi => ?_
  unfold exF
  split
  · have : i = m - 1 := by omega
    subst this
    exact ex_last m c d hd
  · rfl
theorem exF_end (m : Nat) (c : Nat → Int) (d : Nat) (hd : d < m) : tab m (exF m c d (m - 1 - d)) = tab m (ex m c (d + 1)) := by
  refine tab_congr fun i hi => ?_
  unfold exF
  split
  · rfl
  · exact (ex_low m c d i (by omega)).symm
theorem exF_step (m : Nat) (c : Nat → Int) (d j : Nat) (hj : j < m - 1 - d) :
    (tab m (exF m c d j)).set (m - 2 - j) (exF m c d j (m - 2 - j) - exF m c d j (m - 1 - j)) = tab m (exF m c d (j + 1)) := by
  rw [tab_set]
  refine tab_congr fun i hi => ?_
  by_cases e : i = m - 2 - j
  · subst e
    rw [if_pos rfl]
    unfold exF
    have q := ex_step m c d (m - 2 - j) (by omega) (by omega)
    rw [show m - 2 - j + 1 = m - 1 - j by omega] at q
    rw [if_neg (by omega), if_pos (by omega), if_pos (by omega), q]
  · rw [if_neg e]
    unfold exF
    by_cases cc : m ≤ i + j + 1
    · rw [if_pos cc, if_pos (by omega)]
    · rw [if_neg cc, if_neg (by omega)]
theorem law_counts_eq (n : Nat) (xs : List Int) : ∀ j, hit (n + 1) (fun k => pk (cs n xs).reverse k * fact (n - k)) j = h n (cs n xs) j := by
  intro j
  rw [hit_pk (cs n xs).reverse n n (by simp [cs_length]) (Nat.le_refl _) j, h_perm (List.reverse_perm _)]
theorem cs_succ (m : Nat) (xs : List Int) : (cs (m + 1) xs).reverse = (xs.count (m : Int) : Int) :: (cs m xs).reverse := by
  unfold cs
  rw [tab_succ, List.reverse_append]; rfl
theorem picks_at (P : List Int) (t : Int) (i : Nat) (hi : i < P.length + 2) :
    (tab (P.length + 1) (pk P) ++ [0])[i]?.getD 0 + t * (0 :: tab (P.length + 1) (pk P))[i]?.getD 0 = pk (t :: P) i := by
  rw [ways_start, tab_get _ _ _ hi, Option.getD_some, pk]
  congr 2
  cases i with
  | zero => rfl
  | succ i => rw [List.getElem?_cons_succ, tab_get _ _ _ (by omega)]; rfl
def left (m : Nat) (c : Nat → Int) : Nat → Nat → Int
  | 0 => c
  | d + 1 => fun i => bs (m - d) (left m c d) (i + 1)
theorem left_inv (m : Nat) (c : Nat → Int) : ∀ d, d ≤ m → ∀ j, hit m c (d + j) = hit (m - d) (left m c d) j
  | 0, _, j => by rw [Nat.zero_add]; rfl
  | d + 1, hd, j => by
    have b := left_inv m c d (by omega) (j + 1)
    obtain ⟨r, hr⟩ : ∃ r, m - d = r + 1 := ⟨m - d - 1, by omega⟩
    rw [show d + 1 + j = d + (j + 1) by omega, b, hr, hit_bsS, show m - (d + 1) = r by omega]
    simp only [left, hr]
theorem left_head (m : Nat) (c : Nat → Int) (d : Nat) (hd : d < m) : bs (m - d) (left m c d) 0 = hit m c d := by
  have b := left_inv m c d (by omega) 0
  obtain ⟨r, hr⟩ : ∃ r, m - d = r + 1 := ⟨m - d - 1, by omega⟩
  rw [Nat.add_zero] at b
  rw [b, hr, hit_bs0]
theorem tab_reverse {α : Type} (m : Nat) (f : Nat → α) : (tab m f).reverse = tab m (fun i => f (m - 1 - i)) := by
  apply List.ext_getElem?
  intro i
  by_cases hi : i < m
  · rw [tab_get _ _ _ hi, List.getElem?_reverse (by simpa [tab_length] using hi), tab_length, tab_get _ _ _ (by omega)]
  · rw [List.getElem?_eq_none (by simp [tab_length]; omega), List.getElem?_eq_none (by simp [tab_length]; omega)]
theorem tab_dropLast {α : Type} (m : Nat) (f : Nat → α) : (tab (m + 1) f).dropLast = tab m f := by
  rw [tab_succ, List.dropLast_concat]
end OS

namespace OS
def rngI (n : Nat) : List Int := tab n (fun i => (i : Int))
def Seat (n : Nat) (ss : List Int) : Prop := ss.Perm (rngI n)
theorem rngI_mem (n : Nat) (s : Int) : s ∈ rngI n ↔ 0 ≤ s ∧ s < n := by
  unfold rngI tab
  rw [List.mem_map]
  constructor
  · rintro ⟨a, ha, rfl⟩
    rw [List.mem_range] at ha
    omega
  · rintro ⟨h1, h2⟩
    exact ⟨s.toNat, by rw [List.mem_range]; omega, by omega⟩
theorem rngI_nodup (n : Nat) : (rngI n).Nodup := nodup_map_inj (fun a b h => by omega) List.nodup_range
theorem rngI_length (n : Nat) : (rngI n).length = n := tab_length _ _
theorem rngI_succ (n : Nat) : rngI (n + 1) = rngI n ++ [(n : Int)] := tab_succ _ _
theorem perm_of_sub {α : Type} : ∀ (l m : List α), l.Nodup → (∀ x ∈ l, x ∈ m) → m.length ≤ l.length → l.Perm m
  | [], m, _, _, hl => by
    have : m = [] := List.length_eq_zero_iff.mp (by simpa using hl)
    subst this; exact .nil
  | a :: l, m, hn, hs, hl => by
    obtain ⟨A, B, rfl⟩ := List.append_of_mem (hs a (List.mem_cons_self))
    rw [List.nodup_cons] at hn
    have ih := perm_of_sub l (A ++ B) hn.2 (fun x hx => by
      have := hs x (List.mem_cons_of_mem _ hx)
      rw [List.mem_append, List.mem_cons] at this
      rw [List.mem_append]
      rcases this with h | h | h
      · exact .inl h
      · subst h; exact absurd hx hn.1
      · exact .inr h) (by
      simp only [List.length_append, List.length_cons] at hl ⊢
      omega)
    exact (ih.cons a).trans List.perm_middle.symm
theorem seat_of {n : Nat} {ss : List Int} (hl : ss.length = n) (hr : ∀ s ∈ ss, 0 ≤ s ∧ s < n) (hn : ss.Nodup) : Seat n ss :=
  perm_of_sub _ _ hn (fun s hs => (rngI_mem n s).mpr (hr s hs)) (by rw [rngI_length, hl]; exact Nat.le_refl _)
theorem Seat.len {n : Nat} {ss : List Int} (h : Seat n ss) : ss.length = n := by rw [List.Perm.length_eq h, rngI_length]
theorem Seat.mem {n : Nat} {ss : List Int} (h : Seat n ss) (s : Int) : s ∈ ss ↔ 0 ≤ s ∧ s < n := by rw [List.Perm.mem_iff h, rngI_mem]
theorem Seat.nodup {n : Nat} {ss : List Int} (h : Seat n ss) : ss.Nodup := (List.Perm.nodup_iff h).mpr (rngI_nodup n)
theorem seat_iff {n : Nat} {ss : List Int} : Seat n ss ↔ ss.length = n ∧ (∀ s ∈ ss, 0 ≤ s ∧ s < n) ∧ ss.Nodup :=
  ⟨fun h => ⟨h.len, fun s hs => (h.mem s).mp hs, h.nodup⟩, fun ⟨a, b, c⟩ => seat_of a b c⟩
instance (n : Nat) (ss : List Int) : Decidable (Seat n ss) := decidable_of_iff _ (seat_iff).symm
theorem sorted_unique : ∀ {as bs : List Int}, as.Perm bs → as.Pairwise (· ≤ ·) → bs.Pairwise (· ≤ ·) → as = bs
  | [], bs, p, _, _ => (List.nil_perm.mp p).symm
  | a :: as, [], p, _, _ => by have := p.length_eq; simp at this
  | a :: as, b :: bs, p, ha, hb => by
    rw [List.pairwise_cons] at ha hb
    have e : a = b := by
      have h1 : a ∈ b :: bs := p.mem_iff.mp List.mem_cons_self
      have h2 : b ∈ a :: as := p.mem_iff.mpr List.mem_cons_self
      rw [List.mem_cons] at h1 h2
      rcases h1 with h1 | h1
      · exact h1
      · rcases h2 with h2 | h2
        · exact h2.symm
        · have := ha.1 b h2; have := hb.1 a h1; omega
    subst e
    rw [sorted_unique (p.cons_inv) ha.2 hb.2]
theorem rngI_sorted (n : Nat) : (rngI n).Pairwise (· ≤ ·) := by
  unfold rngI tab
  rw [List.pairwise_map]
  exact List.pairwise_lt_range.imp (fun h => by omega)
theorem sorted_seat {n : Nat} {ss ns : List Int} (p : ns.Perm ss) (hs : ns.Pairwise (· ≤ ·)) : ns = rngI n ↔ Seat n ss :=
  ⟨fun e => by subst e; exact p.symm, fun h => sorted_unique (p.trans h) hs (rngI_sorted n)⟩
def noHit (ss xs : List Int) : Bool := (ss.zip xs).all (fun p => decide (p.1 ≠ p.2))
def offB (xs ss : List Int) : Bool := decide (Seat xs.length ss) && noHit ss xs
theorem idx_get {M : List Int} (hn : M.Nodup) {i : Nat} {a : Int} (h : M[i]? = some a) : M.idxOf a = i := by
  obtain ⟨hi, e⟩ := List.getElem?_eq_some_iff.mp h
  subst e
  exact hn.idxOf_getElem i hi
end OS

namespace OS
theorem told_due2 (n : Nat) (xs ts : List Int) (hl : ts.length ≤ n) (e0 : ∀ j, h n ts j = h n (cs n xs) j) :
    tab (ts.length + 1) (hit (ts.length + 1) (fun k => pk ts.reverse k * fact (n - k))) ++ List.replicate (n - ts.length) 0 = due n xs := by
  have e : ∀ j, hit (ts.length + 1) (fun k => pk ts.reverse k * fact (n - k)) j = h n (cs n xs) j := by
    intro j
    have := hit_pk ts.reverse ts.length n (by simp) hl j
    rw [this, h_perm (List.reverse_perm _), e0]
  have ed : due n xs = tab (ts.length + 1) (h n (cs n xs)) ++ tab (n - ts.length) (fun i => h n (cs n xs) (ts.length + 1 + i)) := by
    unfold due
    rw [← tab_append, show ts.length + 1 + (n - ts.length) = n + 1 by omega]
  rw [ed]
  congr 1
  · exact tab_congr fun i _ => e i
  · refine (tab_const _ _ fun i _ => ?_).symm
    rw [← e0]
    exact h_zero_of _ _ _ (by omega)
def posT (ts : List Int) : List Int := ts.filter (fun t => decide (0 < t))
theorem posT_eq {ts : List Int} (hn : ∀ t ∈ ts, 0 ≤ t) : posT ts = ts.filter (fun t => t != 0) := by
  unfold posT
  refine List.filter_congr fun t ht => ?_
  have := hn t ht
  rw [Bool.eq_iff_iff, decide_eq_true_iff, bne_iff_ne]
  omega
theorem h_pos (n : Nat) (xs : List Int) (m j : Nat) : h m (posT (cs n xs)) j = h m (cs n xs) j := by
  rw [posT_eq (cs_nonneg n xs), h_filter]
theorem posT_length (ts : List Int) : (posT ts).length ≤ ts.length := List.length_filter_le _ _
theorem posT_sum {ts : List Int} (hn : ∀ t ∈ ts, 0 ≤ t) : (posT ts).sum = ts.sum := by
  rw [posT_eq hn, sum_filter_ne]
theorem pk_perm {as bs : List Int} (p : as.Perm bs) : ∀ k, pk as k = pk bs k := by
  induction p with
  | nil => intro k; rfl
  | cons x _ ih =>
    intro k
    show pk _ k + x * sh (pk _) k = pk _ k + x * sh (pk _) k
    rw [ih k]
    congr 2
    cases k with
    | zero => rfl
    | succ k => exact ih k
  | swap x y l =>
    intro k
    show (pk l k + x * sh (pk l) k) + y * sh (pk (x :: l)) k = (pk l k + y * sh (pk l) k) + x * sh (pk (y :: l)) k
    cases k with
    | zero => simp [sh]
    | succ k =>
      show (pk l (k + 1) + x * pk l k) + y * (pk l k + x * sh (pk l) k) = (pk l (k + 1) + y * pk l k) + x * (pk l k + y * sh (pk l) k)
      grind
  | trans _ _ i1 i2 => intro k; rw [i1, i2]
def withF (P : List Int) (t : Int) (j i : Nat) : Int := if i ≤ j then pk (t :: P) i else pk P i
theorem withF_zero (P : List Int) (t : Int) : tab (P.length + 2) (withF P t 0) = tab (P.length + 2) (pk P) := by
  refine tab_congr fun i _ => ?_
  unfold withF
  split
  · have : i = 0 := by omega
    subst this
    simp [pk, sh]
  · rfl
theorem withF_end (P : List Int) (t : Int) : tab (P.length + 2) (withF P t (P.length + 1)) = tab (P.length + 2) (pk (t :: P)) :=
  tab_congr fun i hi => if_pos (by omega)
theorem withF_step (P : List Int) (t : Int) (j : Nat) (hj : j < P.length + 1) :
    (tab (P.length + 2) (withF P t j)).set (j + 1) (withF P t j (j + 1) + pk P j * t) = tab (P.length + 2) (withF P t (j + 1)) := by
  rw [tab_set]
  refine tab_congr fun i hi => ?_
  by_cases e : i = j + 1
  · subst e
    rw [if_pos rfl]
    unfold withF
    rw [if_neg (by omega), if_pos (Nat.le_refl _)]
    show _ = pk P (j + 1) + t * pk P j
    rw [Int.mul_comm]
  · rw [if_neg e]
    unfold withF
    by_cases c : i ≤ j
    · rw [if_pos c, if_pos (by omega)]
    · rw [if_neg c, if_neg (by omega)]
theorem without_step (P : List Int) (t : Int) (j : Nat) : pk (t :: P) j - sh (pk P) j * t = pk P j := by
  show (pk P j + t * sh (pk P) j) - sh (pk P) j * t = pk P j
  rw [Int.mul_comm]; omega
def ho (m : Nat) (w : Nat → Int) : Nat → Int
  | 0 => 0
  | k + 1 => ho m w k * ((m : Int) + 1 - k) + (-1) ^ k * w k
def alt (c : Nat → Int) : Nat → Int
  | 0 => 0
  | k + 1 => alt c k + (-1) ^ k * c k
theorem ho_alt (m : Nat) (w : Nat → Int) : ∀ k, k ≤ m + 1 → ho m w k * fact (m + 1 - k) = alt (fun k => w k * fact (m - k)) k
  | 0, _ => by simp [ho, alt]
  | k + 1, hk => by
    have ih := ho_alt m w k (by omega)
    have e : fact (m + 1 - k) = ((m : Int) + 1 - k) * fact (m - k) := by
      rw [show m + 1 - k = (m - k) + 1 by omega]
      show (((m - k : Nat) : Int) + 1) * fact (m - k) = _
      congr 1; omega
    rw [e] at ih
    show (ho m w k * ((m : Int) + 1 - k) + (-1) ^ k * w k) * fact (m + 1 - (k + 1)) = alt _ k + (-1) ^ k * (w k * fact (m - k))
    rw [show m + 1 - (k + 1) = m - k by omega, ← ih]
    grind
theorem alt_shift (c : Nat → Int) : ∀ k, alt c (k + 1) = c 0 - alt (fun i => c (i + 1)) k
  | 0 => by simp [alt]
  | k + 1 => by
    have ih := alt_shift c k
    show alt c (k + 1) + (-1) ^ (k + 1) * c (k + 1) = c 0 - (alt (fun i => c (i + 1)) k + (-1) ^ k * c (k + 1))
    rw [ih]
    have : (-1 : Int) ^ (k + 1) = - (-1) ^ k := by rw [Int.pow_succ]; omega
    rw [this]
    grind
theorem hit_alt : ∀ (m : Nat) (c : Nat → Int), hit m c 0 = alt c m
  | 0, c => rfl
  | m + 1, c => by
    rw [alt_shift, ← hit_alt m]
    simp [hit, sh]
    try omega
theorem ho_h (ts : List Int) (m : Nat) (hl : ts.length ≤ m) : ho m (pk ts) (m + 1) = h m ts 0 := by
  have e := ho_alt m (pk ts) (m + 1) (Nat.le_refl _)
  rw [Nat.sub_self, ← hit_alt, hit_pk ts m m hl (Nat.le_refl _)] at e
  simpa [fact] using e
def D (n : Nat) (ts : List Int) : Int := h n ts 0
theorem D_cons (n : Nat) (t : Int) (ts : List Int) : D n (t :: ts) = D n ts - t * D (n - 1) ts := by
  unfold D
  rw [h_cons]
  show h n ts 0 + t * (0 - h (n - 1) ts 0) = _
  grind
theorem D_perm {as bs : List Int} (p : as.Perm bs) (n : Nat) : D n as = D n bs := h_perm p n 0
theorem D_nil (n : Nat) : D n [] = fact n := by
  unfold D h
  simp
theorem rowS (c : Int → Int) : ∀ (fs : List Int) (m : Nat), fs.Nodup → fs.length ≤ m → D (m + 1) (fs.map c) = (fs.map (fun s => D m ((fs.erase s).map c))).sum + ((m : Int) + 1 - fs.length) * D m (fs.map c)
  | [], m, _, _ => by
    show D (m + 1) [] = 0 + _ * D m []
    rw [D_nil, D_nil]
    show ((m : Int) + 1) * fact m = _
    simp
  | f :: fs, m, hn, hl => by
    rw [List.nodup_cons] at hn
    simp only [List.length_cons] at hl
    obtain ⟨k, rfl⟩ : ∃ k, m = k + 1 := ⟨m - 1, by omega⟩
    have ih := rowS c fs (k + 1) hn.2 (by omega)
    have ih1 := rowS c fs k hn.2 (by omega)
    have e1 : (fs.map (fun s => D (k + 1) (((f :: fs).erase s).map c))).sum = (fs.map (fun s => D (k + 1) ((fs.erase s).map c))).sum - c f * (fs.map (fun s => D k ((fs.erase s).map c))).sum := by
      have : ∀ gs : List Int, (∀ g ∈ gs, g ≠ f) → (gs.map (fun s => D (k + 1) (((f :: fs).erase s).map c))).sum = (gs.map (fun s => D (k + 1) ((fs.erase s).map c))).sum - c f * (gs.map (fun s => D k ((fs.erase s).map c))).sum := by
        intro gs
        induction gs with
        | nil => intro _; simp
        | cons g gs ih2 =>
          intro hg
          have hne : ¬ (f == g) = true := by rw [beq_iff_eq]; exact fun e => hg g (by simp) e.symm
          simp only [List.map_cons, List.sum_cons, ih2 (fun u hu => hg u (by simp [hu]))]
          rw [List.erase_cons_tail hne, List.map_cons, D_cons]
          simp only [Nat.add_sub_cancel]
          grind
      exact this fs fun g hg e => hn.1 (e ▸ hg)
    rw [List.map_cons, List.map_cons, List.sum_cons, List.erase_cons_head, e1, D_cons, D_cons]
    simp only [Nat.add_sub_cancel, List.length_cons]
    rw [ih, ih1]
    push_cast
    grind
theorem sum_perm_erase (c : Int → Int) (m : Nat) {fs gs : List Int} (p : fs.Perm gs) : (fs.map (fun s => D m ((fs.erase s).map c))).sum = (gs.map (fun s => D m ((gs.erase s).map c))).sum := by
  rw [sum_perm (p.map _)]
  congr 1
  refine List.map_congr_left fun s _ => ?_
  exact D_perm ((p.erase s).map c) m
theorem row1 (c : Int → Int) (fs : List Int) (m : Nat) (hn : fs.Nodup) (hl : fs.length = m + 1) (z : Int) (hz : z ∈ fs) (h0 : c z = 0) : D (m + 1) (fs.map c) = (fs.map (fun s => D m ((fs.erase s).map c))).sum := by
  have p : fs.Perm (z :: fs.erase z) := List.perm_cons_erase hz
  rw [D_perm (p.map c), sum_perm_erase c m p]
  have hn2 := p.nodup_iff.mp hn
  have hl2 : (fs.erase z).length = m := by have := p.length_eq; simp at this; omega
  generalize fs.erase z = gs at hn2 hl2
  rw [List.nodup_cons] at hn2
  have r := rowS c gs m hn2.2 (by omega)
  rw [List.map_cons, D_cons, h0, r, List.map_cons, List.sum_cons, List.erase_cons_head, hl2]
  have e1 : (gs.map (fun s => D m (((z :: gs).erase s).map c))).sum = (gs.map (fun s => D m ((gs.erase s).map c))).sum := by
    congr 1
    refine List.map_congr_left fun s hs => ?_
    have hne : ¬ (z == s) = true := by rw [beq_iff_eq]; exact fun e => hn2.1 (e ▸ hs)
    rw [List.erase_cons_tail hne, List.map_cons, D_cons, h0]
    omega
  rw [e1]
  grind
theorem count_sum_le : ∀ (xs fs : List Int), fs.Nodup → (fs.map (fun s => (xs.count s : Int))).sum ≤ xs.length
  | [], fs, _ => by
    have : fs.map (fun s => (([] : List Int).count s : Int)) = fs.map (fun _ => 0) := List.map_congr_left fun s _ => by simp
    rw [this]
    have : ∀ gs : List Int, (gs.map (fun _ => (0 : Int))).sum = 0 := fun gs => by induction gs with
      | nil => rfl
      | cons g gs ih => simpa using ih
    rw [this]; simp
  | x :: xs, fs, hn => by
    have ih := count_sum_le xs fs hn
    have e : ∀ gs : List Int, gs.Nodup → (gs.map (fun s => ((x :: xs).count s : Int))).sum ≤ (gs.map (fun s => (xs.count s : Int))).sum + (if x ∈ gs then 1 else 0) := by
      intro gs
      induction gs with
      | nil => intro _; simp
      | cons g gs ih2 =>
        intro hg
        rw [List.nodup_cons] at hg
        have := ih2 hg.2
        simp only [List.map_cons, List.sum_cons, List.count_cons, List.mem_cons]
        by_cases c : x = g
        · subst c
          rw [if_neg hg.1] at this
          simp at this ⊢
          have e2 : ((gs.map (fun s => ((xs.count s + if x = s then 1 else 0 : Nat) : Int))).sum) = ((gs.map (fun s => ((x :: xs).count s : Int))).sum) := by
            congr 1
            refine List.map_congr_left fun s _ => ?_
            rw [List.count_cons]; simp
          simp only [List.count_cons, beq_iff_eq] at this
          push_cast at this ⊢
          omega
        · have hb : (x == g) = false := by rw [beq_eq_false_iff_ne]; exact c
          simp only [hb, c, false_or]
          simp only [List.count_cons, beq_iff_eq] at this
          simp only [beq_iff_eq]
          push_cast at this ⊢
          simp at this ⊢
          omega
    have := e fs hn
    simp only [List.length_cons]
    push_cast
    split at this <;> omega
def cnt (fs xs : List Int) : Int := D fs.length (fs.map (fun s => (xs.count s : Int)))
theorem cnt_nonneg {fs xs : List Int} (hn : fs.Nodup) (hl : fs.length = xs.length) : 0 ≤ cnt fs xs := by
  unfold cnt D
  refine h_nonneg fs.length _ _ (by simp) (by simp) ?_ ?_ 0
  · intro t ht
    rw [List.mem_map] at ht
    obtain ⟨s, _, rfl⟩ := ht
    omega
  · have := count_sum_le xs fs hn
    omega
def opts (fs : List Int) (x : Int) : List Int := fs.filter (fun s => decide (s ≠ x))
theorem free_zero {fs xs : List Int} (hn : fs.Nodup) (hl : fs.length = xs.length + 1) : ∃ z ∈ fs, (xs.count z : Int) = 0 := by
  apply Classical.byContradiction
  intro hno
  have h1 : ∀ gs : List Int, (∀ g ∈ gs, (xs.count g : Int) ≠ 0) → (gs.length : Int) ≤ (gs.map (fun s => (xs.count s : Int))).sum := by
    intro gs
    induction gs with
    | nil => intro _; simp
    | cons g gs ih =>
      intro hg
      have := ih fun u hu => hg u (by simp [hu])
      have := hg g (by simp)
      simp only [List.length_cons, List.map_cons, List.sum_cons]
      push_cast
      omega
  have := h1 fs fun g hg e => hno ⟨g, hg, e⟩
  have := count_sum_le xs fs hn
  omega
theorem cnt_step {fs xs : List Int} (x : Int) (hn : fs.Nodup) (hl : fs.length = xs.length + 1) : cnt fs (x :: xs) = ((opts fs x).map (fun s => cnt (fs.erase s) xs)).sum := by
  obtain ⟨z, hz, h0⟩ := free_zero hn hl
  have r := row1 (fun s => (xs.count s : Int)) fs xs.length hn hl z hz h0
  have el : ∀ s ∈ fs, cnt (fs.erase s) xs = D xs.length ((fs.erase s).map (fun s => (xs.count s : Int))) := by
    intro s hs
    unfold cnt
    rw [List.length_erase_of_mem hs, hl, Nat.add_sub_cancel]
  by_cases hx : x ∈ fs
  · have p : fs.Perm (x :: fs.erase x) := List.perm_cons_erase hx
    have e1 : opts fs x = fs.erase x := by
      unfold opts
      rw [hn.erase_eq_filter]
      refine List.filter_congr fun s _ => ?_
      rw [Bool.eq_iff_iff]; simp
    have e2 : cnt fs (x :: xs) = D (xs.length + 1) (fs.map (fun s => (xs.count s : Int))) - D xs.length ((fs.erase x).map (fun s => (xs.count s : Int))) := by
      unfold cnt
      rw [hl, D_perm (p.map _), D_perm (p.map (fun s => (xs.count s : Int))), List.map_cons, List.map_cons, D_cons, D_cons]
      have : (fs.erase x).map (fun s => ((x :: xs).count s : Int)) = (fs.erase x).map (fun s => (xs.count s : Int)) := by
        refine List.map_congr_left fun s hs => ?_
        have hne : s ≠ x := fun e => by
          subst e
          exact (List.Nodup.not_mem_erase hn) hs
        have hb : (x == s) = false := by rw [beq_eq_false_iff_ne]; exact fun e => hne e.symm
        rw [List.count_cons, hb]; simp
      rw [this, List.count_cons_self]
      simp only [Nat.add_sub_cancel]
      push_cast
      grind
    rw [e2, r, e1, sum_perm (p.map _), List.map_cons, List.sum_cons]
    have e3 : (fs.erase x).map (fun s => cnt (fs.erase s) xs) = (fs.erase x).map (fun s => D xs.length ((fs.erase s).map (fun s => (xs.count s : Int)))) :=
      List.map_congr_left fun s hs => el s (List.mem_of_mem_erase hs)
    rw [e3]
    omega
  · have e1 : opts fs x = fs := by
      unfold opts
      rw [List.filter_eq_self]
      intro s hs
      rw [decide_eq_true_iff]
      exact fun e => hx (e ▸ hs)
    have e2 : cnt fs (x :: xs) = D (xs.length + 1) (fs.map (fun s => (xs.count s : Int))) := by
      unfold cnt
      rw [hl]
      congr 1
      refine List.map_congr_left fun s hs => ?_
      have hb : (x == s) = false := by rw [beq_eq_false_iff_ne]; exact fun e => hx (e ▸ hs)
      rw [List.count_cons, hb]; simp
    rw [e2, r, e1]
    congr 1
    exact List.map_congr_left fun s hs => (el s hs).symm
def pre (Ns : List Int) (i : Nat) : Int := (Ns.take i).sum
theorem pre_succ {Ns : List Int} {i : Nat} {a : Int} (h : Ns[i]? = some a) : pre Ns (i + 1) = pre Ns i + a := by
  unfold pre
  rw [List.take_add_one, h, List.sum_append]; simp
theorem pre_mono {Ns : List Int} (hn : ∀ a ∈ Ns, 0 ≤ a) {i : Nat} : ∀ d, pre Ns i ≤ pre Ns (i + d)
  | 0 => Int.le_refl _
  | d + 1 => by
    have ih := pre_mono hn (i := i) d
    cases e : Ns[i + d]? with
    | none =>
      have hl : Ns.length ≤ i + d := List.getElem?_eq_none_iff.mp e
      have : pre Ns (i + (d + 1)) = pre Ns (i + d) := by
        unfold pre
        rw [List.take_of_length_le (by omega), List.take_of_length_le hl]
      omega
    | some a =>
      have := pre_succ e
      have := hn a (List.mem_of_getElem? e)
      rw [show i + (d + 1) = i + d + 1 by omega]
      omega
def beh (fs : List Int) (x : Int) (xs : List Int) : List Int := (opts fs x).map (fun s => cnt (fs.erase s) xs)
inductive Num : List Int → List Int → List Int → Int → Prop
  | nil : Num [] [] [] 0
  | cons {fs xs ss : List Int} {x s k : Int} {i : Nat} (hi : (opts fs x)[i]? = some s) (hr : Num (fs.erase s) xs ss k) : Num fs (x :: xs) (s :: ss) (pre (beh fs x xs) i + k)
theorem opts_mem {fs : List Int} {x s : Int} : s ∈ opts fs x ↔ s ∈ fs ∧ s ≠ x := by
  unfold opts
  rw [List.mem_filter]; simp
theorem beh_nonneg {fs xs : List Int} (x : Int) (hn : fs.Nodup) (hl : fs.length = xs.length + 1) : ∀ a ∈ beh fs x xs, 0 ≤ a := by
  intro a ha
  unfold beh at ha
  rw [List.mem_map] at ha
  obtain ⟨s, hs, rfl⟩ := ha
  have hs := (opts_mem.mp hs).1
  exact cnt_nonneg (hn.erase _) (by rw [List.length_erase_of_mem hs]; omega)
theorem beh_sum {fs xs : List Int} (x : Int) (hn : fs.Nodup) (hl : fs.length = xs.length + 1) : pre (beh fs x xs) (opts fs x).length = cnt fs (x :: xs) := by
  rw [cnt_step x hn hl]
  unfold pre beh
  rw [List.take_of_length_le (by simp)]
theorem Num.fact {fs xs ss : List Int} {k : Int} (h : Num fs xs ss k) : fs.Nodup → ss.Perm fs ∧ noHit ss xs = true ∧ ss.length = xs.length ∧ 0 ≤ k ∧ k < cnt fs xs := by
  induction h with
  | nil => intro _; exact ⟨.nil, rfl, rfl, Int.le_refl _, by decide⟩
  | @cons fs xs ss x s k i hi hr ih =>
    intro hn
    have hs := opts_mem.mp (List.mem_of_getElem? hi)
    obtain ⟨p, nh, hl, h0, h1⟩ := ih (hn.erase _)
    have hlf : fs.length = xs.length + 1 := by
      have := p.length_eq
      rw [List.length_erase_of_mem hs.1] at this
      have := List.length_pos_of_mem hs.1
      omega
    have hb : (beh fs x xs)[i]? = some (cnt (fs.erase s) xs) := by unfold beh; rw [List.getElem?_map, hi]; rfl
    have hnn := beh_nonneg x hn hlf
    have m0 := pre_mono hnn (i := 0) i
    have ms := pre_succ hb
    have hil : i < (opts fs x).length := (List.getElem?_eq_some_iff.mp hi).1
    have m1 := pre_mono hnn (i := i + 1) ((opts fs x).length - (i + 1))
    rw [show i + 1 + ((opts fs x).length - (i + 1)) = (opts fs x).length by omega, beh_sum x hn hlf] at m1
    have z0 : pre (beh fs x xs) 0 = 0 := rfl
    rw [Nat.zero_add] at m0
    refine ⟨(p.cons s).trans (List.perm_cons_erase hs.1).symm, ?_, by simp [hl], by omega, by omega⟩
    unfold noHit at nh ⊢
    rw [List.zip_cons_cons, List.all_cons, nh]
    simp [hs.2]
theorem Num.len {fs xs ss : List Int} {k : Int} (h : Num fs xs ss k) : fs.length = xs.length := by
  induction h with
  | nil => rfl
  | @cons fs xs ss x s k i hi hr ih =>
    have hs := opts_mem.mp (List.mem_of_getElem? hi)
    rw [List.length_erase_of_mem hs.1] at ih
    have := List.length_pos_of_mem hs.1
    simp only [List.length_cons]; omega
theorem falls {fs xs : List Int} {x k : Int} {i j : Nat} (hn : fs.Nodup) (hl : fs.length = xs.length + 1) {a : Int} (hi : (beh fs x xs)[i]? = some a) (h0 : pre (beh fs x xs) i ≤ k) (h1 : k < pre (beh fs x xs) i + a)
    (hj : pre (beh fs x xs) j ≤ k) : j ≤ i := by
  apply Classical.byContradiction
  intro hlt
  have := pre_mono (beh_nonneg x hn hl) (i := i + 1) (j - (i + 1))
  rw [show i + 1 + (j - (i + 1)) = j by omega] at this
  have := pre_succ hi
  omega
theorem Num.seat {fs xs ss : List Int} {k : Int} (h : Num fs xs ss k) : fs.Nodup → ∀ {ss'}, Num fs xs ss' k → ss = ss' := by
  induction h with
  | nil => intro _ ss' h'; cases h'; rfl
  | @cons fs xs ss x s k i hi hr ih =>
    intro hn ss' h'
    have hs := opts_mem.mp (List.mem_of_getElem? hi)
    have f1 := hr.fact (hn.erase _)
    have hl0 := hr.len
    have hlf : fs.length = xs.length + 1 := by
      rw [List.length_erase_of_mem hs.1] at hl0
      have := List.length_pos_of_mem hs.1
      omega
    generalize hk : pre (beh fs x xs) i + k = K at h'
    cases h' with
    | @cons _ _ ss2 _ s2 k2 j hj hr2 =>
      have f2 := hr2.fact (hn.erase _)
      have hbi : (beh fs x xs)[i]? = some (cnt (fs.erase s) xs) := by unfold beh; rw [List.getElem?_map, hi]; rfl
      have hbj : (beh fs x xs)[j]? = some (cnt (fs.erase s2) xs) := by unfold beh; rw [List.getElem?_map, hj]; rfl
      have a1 := falls hn hlf hbi (k := pre (beh fs x xs) i + k) (j := j) (by omega) (by omega) (by omega)
      have a2 := falls hn hlf hbj (k := pre (beh fs x xs) i + k) (j := i) (by omega) (by omega) (by omega)
      have : i = j := by omega
      subst this
      rw [hi] at hj
      cases hj
      have : k = k2 := by omega
      subst this
      rw [ih (hn.erase _) hr2]
theorem opts_nodup {fs : List Int} (hn : fs.Nodup) (x : Int) : (opts fs x).Nodup := List.Pairwise.filter _ hn
theorem Num.ex : ∀ (xs ss fs : List Int), fs.Nodup → ss.Perm fs → ss.length = xs.length → noHit ss xs = true → ∃ k, Num fs xs ss k
  | [], [], fs, _, p, _, _ => by
    have : fs = [] := List.nil_perm.mp p
    subst this
    exact ⟨0, .nil⟩
  | [], s :: ss, _, _, _, hl, _ => by simp at hl
  | x :: xs, [], _, _, _, hl, _ => by simp at hl
  | x :: xs, s :: ss, fs, hn, p, hl, nh => by
    have hs : s ∈ fs := p.mem_iff.mp List.mem_cons_self
    have p2 : ss.Perm (fs.erase s) := by
      have := p.trans (List.perm_cons_erase hs)
      exact this.cons_inv
    unfold noHit at nh
    rw [List.zip_cons_cons, List.all_cons, Bool.and_eq_true] at nh
    obtain ⟨k, hk⟩ := Num.ex xs ss (fs.erase s) (hn.erase _) p2 (by simpa using hl) nh.2
    have hne : s ≠ x := by simpa using nh.1
    obtain ⟨i, hi⟩ := List.mem_iff_getElem?.mp (opts_mem.mpr ⟨hs, hne⟩)
    exact ⟨_, .cons hi hk⟩
end OS

namespace L2
open PySem PySem.Spec PyProof.Rows
theorem same_new {H : Hp} {p : Addr} (h : H p = none) (o : HO) : Same H (upd H p o) := fun b u q => by rw [upd_ne (ne_of_none q h)]; exact q
section
variable {prog : Program} {w : World} {A : Around} {R : Result → Shared → Prop} {s : Shared}
theorem compLoop_go {elt target iter : Expr} {ifs : List Expr} {scope : Scope} {pos : Pos} {it acc : Value} {env : Env} (I : Nat → Shared → Prop)
    (turn : ∀ n s, I n s → wpAny (model prog w) A (pyNext it) (fun r s₁ => match r with
      | none => R (.ok .next) s₁
      | some v => wpAny (model prog w) A (letOwnedTupleGo target it v) (fun _ s₀ => wpAny (model prog w) A (assign target env v) (fun _ s₂ =>
          wpAny (model prog w) A (forIn ifs true fun c r => if r = true then do let ok ← isTrue c env (eval c env); pure (ForInStep.yield ok) else pure (ForInStep.yield r)) (fun ok s₃ =>
            if ok = true then wpAny (model prog w) A (eval elt env) (fun x s₄ =>
              wpAny (model prog w) A (call (.builtin "list.append") [acc, x]) (fun _ s₅ => ∃ m, m < n ∧ I m s₅) (fun _ _ => False) s₄) (fun _ _ => False) s₃
            else ∃ m, m < n ∧ I m s₃) (fun _ _ => False) s₂) (fun _ _ => False) s₀) (fun _ _ => False) s₁) (fun _ _ => False) s)
    (n : Nat) (h : I n s) :
    codeAny (model prog w) A (.compLoop (.ListComp elt [⟨target, iter, ifs, 0⟩] scope pos) 0 it acc env) R s := by
  refine codeAny_loop rfl I (fun n s hI => ?_) n h
  show wpAny _ A ((compTurn (.ListComp elt [⟨target, iter, ifs, 0⟩] scope pos) 0 it acc env).onRaise (fun x => do noteFrame x env; theTreesLotGoes x)) _ _ s
  refine wpAny_noted ?_
  rw [compTurn_list]
  refine wpAny_bind (wpAny_standAt (wpAny_bind (wpAny_mono (turn n s hI) (fun r s₁ h₁ => ?_) fun _ _ h' => h'.elim)))
  cases r with
  | none => exact wpAny_pure h₁
  | some v =>
    refine wpAny_bind (wpAny_mono h₁ (fun _ s₀ h₀ => ?_) fun _ _ h' => h'.elim)
    refine wpAny_bind (wpAny_mono h₀ (fun _ s₂ h₂ => wpAny_bind (wpAny_mono h₂ (fun ok s₃ h₃ => ?_) fun _ _ h' => h'.elim)) fun _ _ h' => h'.elim)
    cases ok with
    | false => exact wpAny_pure ⟨rfl, h₃⟩
    | true =>
      exact wpAny_bind (wpAny_bind (wpAny_mono h₃ (fun x s₄ h₄ => wpAny_bind (wpAny_mono h₄ (fun _ s₅ h₅ => wpAny_pure (wpAny_pure ⟨rfl, h₅⟩)) fun _ _ h' => h'.elim)) fun _ _ h' => h'.elim))
end
def clAdd (env : Env) (y : Str × NameKind) (cl : List (Str × Addr)) : List (Str × Addr) := if (y.2 == NameKind.free) = true then (y.1, (env.cells.lookup y.1).getD 0) :: cl else cl
theorem forIn_yield_fold {α β : Type} {f : α → β → Sem (ForInStep β)} {g : α → β → β} : ∀ {l : List α} (c : β), (∀ x ∈ l, ∀ c, f x c = pure (.yield (g x c))) → forIn l c f = pure (l.foldl (fun c x => g x c) c)
  | [], c, _ => rfl
  | x :: l, c, h => by
    rw [List.forIn_cons, h x List.mem_cons_self, pure_bind]
    exact forIn_yield_fold (g x c) fun y hy => h y (List.mem_cons_of_mem _ hy)
def clOf (scope : Scope) (env : Env) : List (Str × Addr) := scope.names.foldl (fun c y => clAdd env y c) []
theorem closure_ok {scope : Scope} {env : Env} (h : ∀ y ∈ scope.names, y.2 = .free → ∃ c, env.cells.lookup y.1 = some c) : closureFor scope env = pure (clOf scope env) := by
  simp only [closureFor]
  rw [forIn_yield_fold (g := clAdd env) [] (fun x hx c => by
    obtain ⟨n, kind⟩ := x
    by_cases hk : kind = .free
    · subst hk
      obtain ⟨a, ha⟩ := h _ hx rfl
      have ha' : env.cells.lookup n = some a := ha
      simp only [clAdd, cellOf, ha', beq_self_eq_true, if_true, Option.getD_some, pure_bind]
    · have e : (kind == NameKind.free) = false := by simpa using hk
      simp only [clAdd, e, Bool.false_eq_true, if_false])]
  rfl
theorem cl_sub {env : Env} : ∀ (ns : List (Str × NameKind)) (acc : List (Str × Addr)), (∀ y ∈ ns, y.2 = .free → ∃ c, env.cells.lookup y.1 = some c) → (∀ x c, acc.lookup x = some c → env.cells.lookup x = some c) →
    ∀ x c, (ns.foldl (fun c y => clAdd env y c) acc).lookup x = some c → env.cells.lookup x = some c
  | [], acc, _, ha, x, c, e => ha x c e
  | y :: r, acc, h, ha, x, c, e => by
    rw [List.foldl_cons] at e
    refine cl_sub r (clAdd env y acc) (fun z hz => h z (List.mem_cons_of_mem _ hz)) (fun x' c' e' => ?_) x c e
    unfold clAdd at e'
    by_cases hk : (y.2 == NameKind.free) = true
    · rw [if_pos hk, List.lookup_cons] at e'
      obtain ⟨a, ha2⟩ := h y List.mem_cons_self (beq_iff_eq.mp hk)
      cases hx : x' == y.1 with
      | true =>
        rw [hx] at e'
        have e'' : (env.cells.lookup y.1).getD 0 = c' := Option.some.inj e'
        rw [ha2] at e''
        rw [beq_iff_eq.mp hx, ha2]
        exact congrArg some e''
      | false =>
        rw [hx] at e'
        exact ha x' c' e'
    · rw [if_neg hk] at e'
      exact ha x' c' e'
theorem cl_more {env : Env} : ∀ (ns : List (Str × NameKind)) (acc : List (Str × Addr)) (x : Str), (∃ c, acc.lookup x = some c) → ∃ c, (ns.foldl (fun c y => clAdd env y c) acc).lookup x = some c
  | [], _, _, h => h
  | y :: r, acc, x, ⟨c, e⟩ => by
    rw [List.foldl_cons]
    refine cl_more r _ x ?_
    unfold clAdd
    split
    · rw [List.lookup_cons]
      cases hx : x == y.1 with
      | true => exact ⟨_, rfl⟩
      | false => exact ⟨c, e⟩
    · exact ⟨c, e⟩
theorem cl_has {env : Env} : ∀ (ns : List (Str × NameKind)) (acc : List (Str × Addr)) (y : Str × NameKind), y ∈ ns → y.2 = .free → ∃ c, (ns.foldl (fun c y => clAdd env y c) acc).lookup y.1 = some c
  | [], _, _, h, _ => nomatch h
  | z :: r, acc, y, h, hf => by
    rw [List.foldl_cons]
    rcases List.mem_cons.mp h with rfl | h
    · refine cl_more r _ _ ?_
      unfold clAdd
      rw [if_pos (by rw [hf]; rfl), List.lookup_cons]
      simp
    · exact cl_has r _ y h hf
theorem relabel_free {env : Env} : ∀ {names : List (Str × NameKind)} {x : Str}, names.lookup x = some .free →
    (names.map fun (n, k) => if (k == NameKind.free && env.scope.kind == .function && env.kindOf n == some .cell) then (n, NameKind.cell) else (n, k)).lookup x = some .cell ∨
    (names.map fun (n, k) => if (k == NameKind.free && env.scope.kind == .function && env.kindOf n == some .cell) then (n, NameKind.cell) else (n, k)).lookup x = some .free
  | [], _, h => by simp at h
  | (n, k) :: r, x, h => by
    have ih := @relabel_free env r x
    rw [List.map_cons]
    show List.lookup x ((if (k == NameKind.free && env.scope.kind == .function && env.kindOf n == some .cell) = true then (n, NameKind.cell) else (n, k)) :: _) = _ ∨ List.lookup x ((if (k == NameKind.free && env.scope.kind == .function && env.kindOf n == some .cell) = true then (n, NameKind.cell) else (n, k)) :: _) = _
    cases hx : x == n with
    | true =>
      simp only [List.lookup_cons, hx] at h
      cases h
      by_cases hc : (NameKind.free == NameKind.free && env.scope.kind == .function && env.kindOf n == some .cell) = true
      · rw [if_pos hc]; left; simp only [List.lookup_cons, hx]
      · rw [if_neg hc]; right; simp only [List.lookup_cons, hx]
    | false =>
      simp only [List.lookup_cons, hx] at h
      by_cases hc : (k == NameKind.free && env.scope.kind == .function && env.kindOf n == some .cell) = true
      · rw [if_pos hc]; simp only [List.lookup_cons, hx]; exact ih h
      · rw [if_neg hc]; simp only [List.lookup_cons, hx]; exact ih h
theorem of_relabel {env : Env} : ∀ {names : List (Str × NameKind)} {x : Str}, (∀ y ∈ names, y.2 ≠ .cell) →
    ((names.map fun (n, k) => if (k == NameKind.free && env.scope.kind == .function && env.kindOf n == some .cell) then (n, NameKind.cell) else (n, k)).lookup x = some .cell ∨
    (names.map fun (n, k) => if (k == NameKind.free && env.scope.kind == .function && env.kindOf n == some .cell) then (n, NameKind.cell) else (n, k)).lookup x = some .free) → (x, NameKind.free) ∈ names
  | [], _, _, h => by simp at h
  | (n, k) :: r, x, hn, h => by
    have ih := @of_relabel env r x (fun y hy => hn y (List.mem_cons_of_mem _ hy))
    have hk := hn (n, k) List.mem_cons_self
    rw [List.map_cons] at h
    change List.lookup x ((if (k == NameKind.free && env.scope.kind == .function && env.kindOf n == some .cell) = true then (n, NameKind.cell) else (n, k)) :: _) = _ ∨ List.lookup x ((if (k == NameKind.free && env.scope.kind == .function && env.kindOf n == some .cell) = true then (n, NameKind.cell) else (n, k)) :: _) = _ at h
    cases hx : x == n with
    | true =>
      have ex : x = n := beq_iff_eq.mp hx
      subst ex
      by_cases hc : (k == NameKind.free && env.scope.kind == .function && env.kindOf x == some .cell) = true
      · have : k = .free := by
          rw [Bool.and_eq_true, Bool.and_eq_true] at hc
          exact beq_iff_eq.mp hc.1.1
        subst this
        exact List.mem_cons_self
      · rw [if_neg hc] at h
        simp only [List.lookup_cons, hx] at h
        rcases h with h | h
        · exact absurd (Option.some.inj h) hk
        · rw [Option.some.inj h]; exact List.mem_cons_self
    | false =>
      refine List.mem_cons_of_mem _ (ih ?_)
      by_cases hc : (k == NameKind.free && env.scope.kind == .function && env.kindOf n == some .cell) = true
      · rw [if_pos hc] at h; simp only [List.lookup_cons, hx] at h; exact h
      · rw [if_neg hc] at h; simp only [List.lookup_cons, hx] at h; exact h
structure CompSc (N : List Str) (sc scope : Scope) (N' : List Str) (own : Nat) (fr : List Nat) : Prop where
  kind : scope.kind = .function
  nocell : ∀ y ∈ scope.names, y.2 ≠ .cell
  loc : ∀ y ∈ scope.names, y.2 = .local → scope.names.lookup y.1 = some .local
  free : ∀ y ∈ scope.names, y.2 = .free → sc.names.lookup y.1 = some .cell ∨ sc.names.lookup y.1 = some .free
  nd : N'.Nodup
  len : N'.length = own + fr.length
  names : N'.drop own = fr.map (fun i => N.getD i "")
  ins : ∀ i ∈ fr, i < N.length
  frees : ∀ x ∈ N'.drop own, scope.names.lookup x = some .free
def startC (own : Nat) (fr : List Nat) (σ : St) : St := List.replicate own none ++ fr.map (fun i => (σ[i]?).getD none)
def cxComp (X : Cx) (scope : Scope) (N' : List Str) (s2 : Shared) (H2 : Hp) (fp : List Addr) : Cx :=
  { X with N := N', s₀ := s2, H₀ := H2, env := compEnvC scope (clOf scope X.env) (s2.heap.objs.size + 1) X.env, outer := X.stack, stack := X.stack, ex := fp, fn := fun _ => false, pn := [], xe := fun _ _ => False }
section
variable {X : Cx} {pins : List (Addr × Obj)} {σ : St} {H : Hp} {s : Shared} {scope : Scope} {N' : List Str} {own : Nat} {fr : List Nat} {fp : List Addr}
theorem comp_cells (I : Inv X pins σ H s) (S : CompSc X.N X.env.scope scope N' own fr) : ∀ y ∈ scope.names, y.2 = .free → ∃ c, X.env.cells.lookup y.1 = some c :=
  fun y hy hf => I.ok.has y.1 (S.free y hy hf)
theorem comp_cl (I : Inv X pins σ H s) (S : CompSc X.N X.env.scope scope N' own fr) {x : Str} {c : Addr} (h : (clOf scope X.env).lookup x = some c) : X.env.cells.lookup x = some c :=
  cl_sub scope.names [] (comp_cells I S) (fun _ _ e => by simp at e) x c h
theorem ok_comp (I : Inv X pins σ H s) (S : CompSc X.N X.env.scope scope N' own fr) (hf : ∀ b ∈ fp, FpOk X pins H b) (ho : ∀ b ∈ fp, ∃ o, s.heap.get? b = some o) : (cxComp X scope N' s H fp).Ok where
  mod := I.ok.mod
  kind := S.kind
  glob := I.ok.glob
  blt := I.ok.blt
  above := Nat.le_succ _
  inj := fun x y c h1 h2 => I.ok.inj x y c (comp_cl I S h1) (comp_cl I S h2)
  has := fun x hx => by
    have hm := of_relabel (env := X.env) S.nocell hx
    exact cl_has scope.names [] (x, .free) hm rfl
  cab := fun x c h => by cases h
  hd := I.ok.hd
  frames := I.ok.frames
  stk := .inl rfl
  exf := fun b hb => by
    obtain ⟨o, e⟩ := ho b hb
    obtain ⟨_, _, _, _, f4, _⟩ := hf b hb
    exact ⟨Nat.ne_of_lt (Nat.lt_succ_of_lt (Heap.lt_size e)), fun x c h => f4 x c (comp_cl I S h)⟩
  bs := I.bs
  bsz := Nat.le_trans I.ok.bsz I.sz
  noex := fun b o e hb => by
    obtain ⟨_, _, _, f3, _, _⟩ := hf b hb
    rcases f3 with z | z
    · exact I.ok.noex b o e z
    · exact absurd (Nat.lt_of_lt_of_le (Heap.lt_size e) (Nat.le_trans I.ok.bsz z)) (Nat.lt_irrefl _)
  exfs := fun b hb hz => by
    obtain ⟨_, f1, f2, _⟩ := hf b hb
    rcases List.mem_cons.mp (I.stkSub b hz) with e | e
    · exact f1 e
    · exact f2 e
  funs := I.stack
  frf := I.stkFree
theorem inv_comp {h1 : Heap} {tk : Nat} (I : Inv X pins σ H s) (S : CompSc X.N X.env.scope scope N' own fr) (hf : ∀ b ∈ fp, FpOk X pins H b) (ho : ∀ b ∈ fp, ∃ o, s.heap.get? b = some o)
    (hk : ∀ b o, s.heap.get? b = some o → h1.get? b = some o) (hD : h1.get? s.heap.objs.size = some { cls := .type "list", data := .seq ([] : List Value).toArray }) (hC : h1.Ns (s.heap.objs.size + 1) fun _ => none) :
    Inv (cxComp X scope N' s H fp) [] (startC own fr σ) (upd H s.heap.objs.size (.lst [])) { s with heap := h1, toks := tk } := by
  have hDn : H s.heap.objs.size = none := I.fresh
  have hCn : H (s.heap.objs.size + 1) = none := I.hok.fresh (Nat.le_succ _)
  refine ⟨ok_comp I S hf ho, rfl, I.bare, Un.laid hk (Nat.le_refl _) hDn, ⟨_, hC, fun i x v e1 e2 e3 => ?_⟩, fun x c e => ?_, ?_, fun x c e => ?_, fun p hp => absurd (show p ∈ ([] : List (Addr × Obj)) from hp) (by simp), I.hok.laid hk (Nat.le_refl _) ⟨Nat.zero_le _, [], 0, .nil, hD⟩, ?_⟩
  · change N'[i]? = some x at e1
    have hi : own ≤ i := by
      rcases Nat.lt_or_ge i own with h | h
      · exfalso
        unfold startC at e2
        rw [List.getElem?_append_left (by simpa using h), List.getElem?_replicate, if_pos h] at e2
        cases e2
      · exact h
    obtain ⟨j, rfl⟩ : ∃ j, i = own + j := ⟨i - own, by omega⟩
    unfold startC at e2
    rw [List.getElem?_append_right (by simp)] at e2
    simp only [List.length_replicate, Nat.add_sub_cancel_left, List.getElem?_map] at e2
    have e1' : (N'.drop own)[j]? = some x := by rw [List.getElem?_drop]; exact e1
    have hfr := S.frees x (List.mem_of_getElem? e1')
    rw [S.names, List.getElem?_map] at e1'
    cases hj : fr[j]? with
    | none => rw [hj] at e2; cases e2
    | some k =>
      rw [hj] at e1' e2
      have e1'' : X.N.getD k "" = x := Option.some.inj e1'
      have hkl : k < X.N.length := S.ins k (List.mem_of_getElem? hj)
      have hN : X.N[k]? = some x := by
        rw [List.getElem?_eq_getElem hkl]
        rw [List.getD_eq_getElem?_getD, List.getElem?_eq_getElem hkl] at e1''
        exact congrArg some e1''
      have hσ : σ[k]? = some (some v) := by
        have z : (σ[k]?).getD none = some v := Option.some.inj e2
        cases hs : σ[k]? with
        | none => rw [hs] at z; cases z
        | some o => rw [hs] at z; exact congrArg some z
      have kd := S.free (x, .free) (PySem.mem_of_lookup hfr) rfl
      obtain ⟨m, _, hl⟩ := I.loc
      obtain ⟨u, r, l⟩ := hl k x v hN hσ (by rcases kd with z | z; exact .inr (.inl z); exact .inr (.inr z))
      refine ⟨u, r, .inr ⟨relabel_free hfr, ?_⟩⟩
      rcases l with ⟨z, _⟩ | ⟨_, c, hc, cell⟩
      · exfalso
        have z' : X.env.scope.names.lookup x = some .local := z
        rcases kd with q | q <;> (rw [z'] at q; cases q)
      · obtain ⟨c', hc'⟩ := cl_has (env := X.env) scope.names [] (x, .free) (PySem.mem_of_lookup hfr) rfl
        have : X.env.cells.lookup x = some c' := comp_cl I S hc'
        rw [hc] at this; cases this
        refine ⟨c, hc', ?_⟩
        obtain ⟨o, ho', hd⟩ := cell
        exact ⟨o, hk _ _ ho', hd⟩
  · obtain ⟨v, o, ho', hd⟩ := I.cell x c (comp_cl I S e)
    exact ⟨v, o, hk _ _ ho', hd⟩
  · show upd H s.heap.objs.size (.lst []) (s.heap.objs.size + 1) = none
    rw [upd_ne (Nat.succ_ne_self _)]; exact hCn
  · have z := I.freeC x c (comp_cl I S e)
    obtain ⟨v, q⟩ := I.cell x c (comp_cl I S e)
    rw [upd_ne (Nat.ne_of_lt q.lt)]; exact z
  · unfold startC
    show _ = N'.length
    rw [List.length_append, List.length_replicate, List.length_map, S.len]
end
def PIf (X : Cx) (ifs : List Expr) (t : TT) : Prop :=
  ∀ (pins : List (Addr × Obj)) (s : Shared) (σ : St) (H : Hp) (Q : Bool → Hp → Prop), Inv X pins σ H s → t σ H Q →
    wpAny (model X.prog X.w) X.A (forIn ifs true fun c r => if r = true then do let ok ← isTrue c X.env (eval c X.env); pure (ForInStep.yield ok) else pure (ForInStep.yield r)) (TP X pins σ Q) X.xe s
def tAll : TT := fun _ H Q => Q true H
theorem pif_nil {X : Cx} : PIf X [] tAll := fun _ _ _ H _ I h => wpAny_tests_nil ⟨H, I, h⟩
theorem pif_one {X : Cx} {c : Expr} {t : TT} (h : PT X c t) : PIf X [c] t := fun pins s σ H Q I hw => wpAny_tests_one (h pins s σ H Q I hw)
def WComp (J : It) (g : TG) (tc : TT) (te : TE) (D : Addr) (Q : Hp → Prop) (σ0 : St) (H0 : Hp) : Prop :=
  ∃ W : Nat → Nat → List V → St → Hp → Prop, (∃ m, W 0 m [] σ0 H0) ∧ ∀ i m ys σ H, W i m ys σ H → H D = some (.lst ys) ∧
    ((J.stop i H ∧ Q H) ∨ (J.go i H ∧ ys.length < sizeLine ∧ ∃ N : List V → St → Hp → Prop, (∀ ys' σ' H', N ys' σ' H' → ∃ m', m' < m ∧ W (i + 1) m' ys' σ' H') ∧ ∀ x H2, J.yld i H x H2 → g x σ H2 fun σ2 H3 => tc σ2 H3 fun b H4 =>
      if b = true then te σ2 H4 fun y H5 => H5 D = some (.lst ys) ∧ N (ys ++ [y]) σ2 (upd H5 D (.lst (ys ++ [y]))) else N ys σ2 H4))
def tComp (wi : TI) (g : Shared → Hp → List Addr → TG) (tc : Shared → Hp → List Addr → TT) (te : Shared → Hp → List Addr → TE) (own : Nat) (fr : List Nat) : TE := fun σ H Q => wi σ H fun J H1 => ∀ D, H1 D = none → ∀ s fp, WComp J (g s H1 fp) (tc s H1 fp) (te s H1 fp) D (fun H2 => Q (.ref D) H2) (startC own fr σ) (upd H1 D (.lst []))
section
variable {X : Cx} {tg elt iter : Expr} {ifs : List Expr} {scope : Scope} {pos : Pos} {N' : List Str} {own : Nat} {fr : List Nat} {wi : TI}
theorem comp_run {g : TG} {tc : TT} {te : TE} {pins : List (Addr × Obj)} {σ : St} {H : Hp} {s : Shared} {J : It} {fp : List Addr} {it : Addr} {tn : Nat → Heap → Prop} {E : Value → Shared → Prop} {RR : Value → Addr → Result → Shared → Prop} {Q : Addr → Hp → Prop}
    (hc : X.calm = true) (S : CompSc X.N X.env.scope scope N' own fr) (I : Inv X pins σ H s) (T : Turn X.prog X.w X.K tg J fp it tn) (st : tn 0 s.heap) (hf : ∀ b ∈ fp, FpOk X pins H b)
    (hg : PG (cxComp X scope N' s H fp) tg g) (hi : PIf (cxComp X scope N' s H fp) ifs tc) (he : PE (cxComp X scope N' s H fp) elt te)
    (hW : WComp J g tc te s.heap.objs.size (Q s.heap.objs.size) (startC own fr σ) (upd H s.heap.objs.size (.lst [])))
    (hR : ∀ σ' H' s', Inv (cxComp X scope N' s H fp) [] σ' H' s' → Q s.heap.objs.size H' → RR (.ref s.heap.objs.size) (s.heap.objs.size + 1) (.ok .next) s') :
    wpAny (model X.prog X.w) X.A (newList []) (fun acc s₃ => wpAny (model X.prog X.w) X.A (newFunctionEnv scope X.env.globals (clOf scope X.env) [] X.env.qual none .none (some X.env)) (fun cenv s₄ =>
      codeAny (model X.prog X.w) X.A (.compStart (.ListComp elt [⟨tg, iter, ifs, 0⟩] scope pos) 0 (.ref it) acc { cenv with scope := relabel scope X.env }) (RR acc cenv.locals) s₄) E s₃) E s := by
  have hobj := T.obj 0 _ st
  have ho : ∀ b ∈ fp, ∃ o, s.heap.get? b = some o := fun b hb => let ⟨o, e, _⟩ := hobj b hb; ⟨o, e⟩
  refine wpAny_newObj_type (wpAny_newFunctionEnv S.nocell (by intro y hy; simp at hy) (fun h₁ hns₁ hsb₁ => ?_) S.kind)
  dsimp only at hns₁ hsb₁ ⊢
  generalize hH2 : s.heap.push { cls := .type "list", dict := none, data := .seq ([] : List Value).toArray } = H2 at hns₁ hsb₁ ⊢
  have hC : H2.objs.size = s.heap.objs.size + 1 := by rw [← hH2, Heap.size_push]
  rw [hC] at hns₁ hsb₁ ⊢
  have old : ∀ b o, s.heap.get? b = some o → h₁.get? b = some o := fun b o e => hsb₁.extBut b o (Nat.ne_of_lt (Nat.lt_succ_of_lt (Heap.lt_size e))) (Heap.get?_push_of_some _ (hH2 ▸ Heap.get?_push_of_some _ e))
  have hacc : h₁.get? s.heap.objs.size = some { cls := .type "list", data := .seq ([] : List Value).toArray } := hsb₁.extBut _ _ (Nat.ne_of_lt (Nat.lt_succ_self _)) (Heap.get?_push_of_some _ (hH2 ▸ Heap.get?_push_size _ rfl))
  have hst₁ : tn 0 h₁ := T.keep _ _ _ st fun b _ o e => old b o e
  have I1 := inv_comp (tk := s.toks + ([] : List (Str × Value)).length) I S hf ho old hacc hns₁
  have stat : ∀ {H' : Hp}, (∀ b ∈ fp, H' b = none) → ∀ b ∈ fp, FpOk (cxComp X scope N' s H fp) [] H' b := fun hn b hb => by
    obtain ⟨_, f1, f2, f3, f4, f5⟩ := hf b hb
    obtain ⟨o, e⟩ := ho b hb
    refine ⟨hn b hb, Nat.ne_of_lt (Nat.lt_succ_of_lt (Heap.lt_size e)), fun hz => ?_, .inl hb, fun x c h => f4 x c (comp_cl I S h), fun p hp => absurd (show p ∈ ([] : List (Addr × Obj)) from hp) (by simp)⟩
    rcases List.mem_cons.mp (I.stkSub b hz) with e | e
    · exact f1 e
    · exact f2 e
  obtain ⟨W, ⟨m0, w0⟩, turn⟩ := hW
  have hfr0 : ∀ b ∈ fp, (upd H s.heap.objs.size (.lst [])) b = none := fun b hb => by
    obtain ⟨o, e⟩ := ho b hb
    rw [upd_ne (Nat.ne_of_lt (Heap.lt_size e))]; exact (hf b hb).1
  have loop : ∀ s₃ : Shared, s₃ = { s with heap := h₁, toks := s.toks + ([] : List (Str × Value)).length } →
      codeAny (model X.prog X.w) X.A (.compLoop (.ListComp elt [⟨tg, iter, ifs, 0⟩] scope pos) 0 (.ref it) (.ref s.heap.objs.size) (compEnvC scope (clOf scope X.env) (s.heap.objs.size + 1) X.env))
        (RR (.ref s.heap.objs.size) (s.heap.objs.size + 1)) s₃ := by
    rintro s₃ rfl
    refine compLoop_go (fun n s' => ∃ i ys σ' H', Inv (cxComp X scope N' s H fp) [] σ' H' s' ∧ tn i s'.heap ∧ (∀ b ∈ fp, H' b = none) ∧ W i n ys σ' H') ?_ m0 ⟨0, [], _, _, I1, hst₁, hfr0, w0⟩
    rintro n s3 ⟨i, ys, σ3, H3, I3, st3, fr3, w3⟩
    obtain ⟨hD3, turn3⟩ := turn i n ys σ3 H3 w3
    rcases turn3 with ⟨stop, qn⟩ | ⟨go, hys, N, hN, step⟩
    · refine wpAny_mono (T.done (cxComp X scope N' s H fp) rfl rfl rfl hc i [] s3 σ3 H3 _ I3 (stat fr3) st3 stop) (fun r s4 ⟨hr, I4⟩ => ?_) fun _ _ z => z
      subst hr
      exact hR σ3 H3 s4 I4 qn
    · refine wpAny_mono (T.item (cxComp X scope N' s H fp) rfl rfl rfl hc i [] s3 σ3 H3 _ I3 (stat fr3) st3 go) (fun r s4 ⟨u, hr, h4⟩ => ?_) fun _ _ z => z
      subst hr
      refine wpAny_mono h4 (fun _ s5 ⟨x, H5, I5, r5, y5, st5, fr5⟩ => ?_) fun _ _ z => z
      have I5' := I5.pinned (stat fr5) (T.obj _ _ st5)
      refine wpAny_mono (hg _ s5 σ3 H5 x u _ I5' r5 (step x H5 y5)) (fun _ s6 ⟨σ6, H6, I6, q6⟩ => ?_) fun _ _ z => z
      refine wpAny_mono (hi _ s6 σ6 H6 _ I6 q6) (fun ok s7 ⟨H7, I7, q7⟩ => ?_) fun _ _ z => z
      have again : ∀ {ys' : List V} {σ8 : St} {H8 : Hp} {s8 : Shared}, Inv (cxComp X scope N' s H fp) ([] ++ pinsAt fp s5.heap) σ8 H8 s8 → N ys' σ8 H8 →
          ∃ m, m < n ∧ ∃ i ys σ' H', Inv (cxComp X scope N' s H fp) [] σ' H' s8 ∧ tn i s8.heap ∧ (∀ b ∈ fp, H' b = none) ∧ W i m ys σ' H' := fun {ys' σ8 H8 s8} I8 n8 => by
        obtain ⟨m', hm, w8⟩ := hN ys' σ8 H8 n8
        refine ⟨m', hm, i + 1, ys', σ8, H8, I8.unpinned, T.keep _ _ _ st5 fun b hb o e => (I8.pin (b, o) (List.mem_append_right _ (List.mem_append_right _ (mem_pinsAt hb e)))).1, fun b hb => ?_, w8⟩
        obtain ⟨o, e, d⟩ := T.obj _ _ st5 b hb
        exact (I8.pin (b, o) (List.mem_append_right _ (List.mem_append_right _ (mem_pinsAt hb e)))).2.1
      cases ok with
      | false =>
        rw [if_neg Bool.false_ne_true] at q7 ⊢
        exact again I7 q7
      | true =>
        rw [if_pos rfl] at q7 ⊢
        refine wpAny_mono (he _ s7 σ6 H7 _ I7 q7) (fun v s8 ⟨y, H8, I8, r8, hD8, q8⟩ => ?_) fun _ _ z => z
        refine wpAny_mono (mt_append (X := cxComp X scope N' s H fp) _ s8 σ6 H8 (.ref s.heap.objs.size) [y] (.ref s.heap.objs.size) [v] (fun _ H9 => H9 = upd H8 s.heap.objs.size (.lst (ys ++ [y]))) I8 rfl (.cons r8 .nil) ⟨_, ys, y, rfl, rfl, hD8, hys, rfl⟩) (fun _ s9 ⟨_, H9, I9, _, e9⟩ => ?_) fun _ _ z => z
        subst e9
        exact again I9 q8
  exact codeAny_compStart_list (loop _ rfl) (T.self _ 0 _ _ _ hst₁ (loop _ rfl))
theorem comp_after {pins : List (Addr × Obj)} {σ σ' : St} {H H' : Hp} {s s' : Shared} {fp : List Addr} (I : Inv X pins σ H s) (hf : ∀ b ∈ fp, FpOk X pins H b) (I' : Inv (cxComp X scope N' s H fp) [] σ' H' s') : Inv X pins σ H' s' :=
  I.call' I'.os I'.base I'.hok I'.bare fun b hb => let ⟨_, f1, _, f3, f4, f5⟩ := hf b hb; ⟨f3, f1, f4, f5⟩
theorem comp_gone {pins : List (Addr × Obj)} {σ σ1 : St} {H H' : Hp} {s s' : Shared} {h' : Heap} (I : Inv X pins σ H s) (J : Inv X pins σ1 H' s') (hn : H' (s.heap.objs.size + 1) = none) (hs : Heap.SameBut (s.heap.objs.size + 1) s'.heap h') : Inv X pins σ1 H' { s' with heap := h' } := by
  obtain ⟨f0, f1, f2, f3, f4, f5⟩ := I.fpOk (H' := H') (Nat.le_succ _) hn
  exact J.turned (t' := s'.toks) (fun b o hb e => (hs.2 b hb).trans e) f0 f1 f3 f4 f5
theorem pe_comp {g : Shared → Hp → List Addr → TG} {tc : Shared → Hp → List Addr → TT} {te : Shared → Hp → List Addr → TE} (hc : X.calm = true) (S : CompSc X.N X.env.scope scope N' own fr) (hi : PI X tg iter wi) (hg : ∀ s H fp, PG (cxComp X scope N' s H fp) tg (g s H fp)) (hif : ∀ s H fp, PIf (cxComp X scope N' s H fp) ifs (tc s H fp)) (he : ∀ s H fp, PE (cxComp X scope N' s H fp) elt (te s H fp))
    (hs : ∀ x, foldedSetIterable iter X.env x = pure x := by intro _; rfl) : PE X (.ListComp elt [⟨tg, iter, ifs, 0⟩] scope pos) (tComp wi g tc te own fr) := by
  intro pins s σ H Q I h
  rw [eval_ListComp]
  refine wpAny_comprehension_free (use := none) rfl hs (closure_ok (comp_cells I S)) S.kind S.loc (thn (hi pins s σ H _ I h) fun xv s1 h1 => thn h1 fun itv s2 h2 => ?_)
  obtain ⟨it, fp, tn, J, H2, rfl, I2, T, st2, f2, hW⟩ := h2
  refine comp_run (Q := fun D' H3 => Q (.ref D') H3) hc S I2 T st2 f2 (hg _ _ _) (hif _ _ _) (he _ _ _) (hW _ I2.fresh _ _) fun σ' H' s' I' q => ?_
  obtain ⟨m, hn, _⟩ := I'.loc
  refine ⟨m, hn, fun h' hs' => ?_⟩
  exact ⟨.ref s2.heap.objs.size, H', comp_gone I2 (comp_after I2 f2 I') I'.free hs', rfl, q⟩
theorem ps_comp {i : Nat} {x : Str} {px spos : Pos} {g : Shared → Hp → List Addr → TG} {tc : Shared → Hp → List Addr → TT} {te : Shared → Hp → List Addr → TE} (hc : X.calm = true) (S : CompSc X.N X.env.scope scope N' own fr) (hi : PI X tg iter wi) (hg : ∀ s H fp, PG (cxComp X scope N' s H fp) tg (g s H fp)) (hif : ∀ s H fp, PIf (cxComp X scope N' s H fp) ifs (tc s H fp)) (he : ∀ s H fp, PE (cxComp X scope N' s H fp) elt (te s H fp))
    (hN : X.N.Nodup) (hx : X.N[i]? = some x) (hl : X.env.scope.names.lookup x = some .local)
    (hsw : swapsWith (.ListComp elt [⟨tg, iter, ifs, 0⟩] scope pos) (some (.Name x px)) spos.line X.env = pure true)
    (hs : ∀ x, foldedSetIterable iter X.env x = pure x := by intro _; rfl) : PS X (.Assign [.Name x px] (.ListComp elt [⟨tg, iter, ifs, 0⟩] scope pos) spos) (tAsg (tComp wi g tc te own fr) (gName i)) := by
  intro pins s σ H D I h
  rw [exec_Assign_Name_used _ _ _ _ hsw]
  refine wpAny_bind (wpAny_standAt (wpAny_bind ?_))
  show wpAny _ X.A (do let _ ← comprehension (.ListComp elt [⟨tg, iter, ifs, 0⟩] scope pos) scope X.env _ (newList []) false (eval iter X.env) (some (assign (.Name x px) X.env))) _ _ s
  refine wpAny_bind (wpAny_mono (wpAny_comprehension_free (use := some (assign (.Name x px) X.env)) (Q := fun _ s' => SP X pins D .next s') rfl hs (closure_ok (comp_cells I S)) S.kind S.loc
    (thn (hi pins s σ H _ I h) fun xv s1 h1 => thn h1 fun itv s2 h2 => ?_)) (fun _ s' hq => wpAny_pure (wpAny_pure hq)) fun _ _ e => e)
  obtain ⟨it, fp, tn, J, H2, rfl, I2, T, st2, f2, hW⟩ := h2
  refine comp_run (Q := fun D' H3 => D.nx (σ.set i (some (.ref D'))) H3) hc S I2 T st2 f2 (hg _ _ _) (hif _ _ _) (he _ _ _) (hW _ I2.fresh _ _) fun σ' H' s' I' q => ?_
  obtain ⟨m, hn, _⟩ := I'.loc
  have J' := comp_after I2 f2 I'
  refine wpAny_assign_Name (store_ok2 J' hN hx (.inl hl) (v := .ref s2.heap.objs.size) rfl (fun s3 I3 hsame => ?_) (.inr hl))
  obtain ⟨a, hsb, ha⟩ := hsame
  have hne : s2.heap.objs.size + 1 ≠ a := by
    rcases ha with e | e
    · rw [e]; exact Nat.ne_of_gt (Nat.lt_succ_of_lt I2.lt)
    · obtain ⟨v, z⟩ := I2.cell _ _ e
      exact Nat.ne_of_gt (Nat.lt_succ_of_lt z.lt)
  refine ⟨m, hn.sameBut hsb hne, fun h' hs' => ?_⟩
  exact ⟨_, H', comp_gone I2 I3 I'.free hs', q⟩
end
def tCut (t u : TS) : TS := fun D σ H => ∃ I : St → Hp → Prop, t { D with nx := I } σ H ∧ ∀ σ' H', I σ' H' → u D σ' H'
theorem pss_cut {X : Cx} {st : Stmt} {rest : List Stmt} {t u : TS} (h1 : PS X st t) (h2 : PSs X rest u) : PSs X (st :: rest) (tCut t u) := by
  intro pins s σ H D I h
  obtain ⟨J, h, k⟩ := h
  refine wpAny_execs_cons (thn (h1 pins s σ H { D with nx := J } I h) fun f s1 q => ?_)
  cases f with
  | next =>
    obtain ⟨σ', H', I', q⟩ := q
    exact h2 pins s1 σ' H' D I' (k σ' H' q)
  | ret v => exact q
  | brk => exact q
  | cont => exact q
end L2

namespace L2
open PySem PySem.Spec PyProof.Rows
section
variable {X : Cx} {pins : List (Addr × Obj)} {σ : St} {H : Hp} {s : Shared} {h' : Heap} {ch : List Addr}
theorem Inv.turnedAll {t' : Nat} (I : Inv X pins σ H s) (k : ∀ b o, b ∉ ch → s.heap.get? b = some o → h'.get? b = some o) (hch : ∀ b ∈ ch, FpOk X pins H b) : Inv X pins σ H { s with heap := h', toks := t' } := by
  have nch : ∀ b u, H b = some u → b ∉ ch := fun b u e z => by rw [(hch b z).1] at e; cases e
  refine I.step (g' := s.gens) (d' := s.drawn) (ch := ch) (fun b hb => let ⟨_, f1, _, f3, f4, f5⟩ := hch b hb; ⟨f3, f1, f4, f5⟩) (fun b o _ _ hc e _ => k b o hc e) (fun b o _ _ hc e _ => ⟨o.slots, k b o hc e⟩) (fun _ _ _ _ n => n)
    (fun b o hc e => ⟨o, k b o hc e⟩) (fun _ _ e => e) (fun _ _ _ e => e) (fun b ps e => ⟨#[], by rw [e]; simp⟩) (fun m hm => ?_) (fun b u e => ?_) I.bare
  · obtain ⟨o, es, ep, ho, r⟩ := hm
    exact ⟨o, es, ep, k _ o (fun z => (hch _ z).2.1 rfl) ho, r⟩
  · refine (I.hok b u e).stay (fun c v hc q => k c v ?_ q) (fun _ q => q) fun _ _ q => q
    rcases hc with z | z
    · rw [z]; exact nch b u e
    · exact nch c _ z
theorem Inv.turnedNew {t' : Nat} {a : Addr} {o : HO} (I : Inv X pins σ H s) (k : ∀ b o, b ∉ ch → s.heap.get? b = some o → h'.get? b = some o) (hch : ∀ b ∈ ch, FpOk X pins H b) (hp : s.heap.objs.size ≤ a)
    (new : ObjOk X.prog X.w (upd H a o) h' a o) : Inv X pins σ (upd H a o) { s with heap := h', toks := t' } := by
  have nch : ∀ b u, H b = some u → b ∉ ch := fun b u e z => by rw [(hch b z).1] at e; cases e
  have ha : H a = none := I.hok.fresh hp
  have na : ∀ b u, s.heap.get? b = some u → b ≠ a := fun b u e => Nat.ne_of_lt (Nat.lt_of_lt_of_le (Heap.lt_size e) hp)
  refine I.step (g' := s.gens) (d' := s.drawn) (ch := ch) (fun b hb => let ⟨_, f1, _, f3, f4, f5⟩ := hch b hb; ⟨f3, f1, f4, f5⟩) (fun b o _ _ hc e _ => k b o hc e) (fun b o _ _ hc e _ => ⟨o.slots, k b o hc e⟩) (fun b u _ e n => by rw [upd_ne (na b u e)]; exact n)
    (fun b o hc e => ⟨o, k b o hc e⟩) (fun b xs e => by rw [upd_ne (ne_of_none e ha)]; exact e) (fun b u xs e => by rw [upd_ne (ne_of_none e ha)]; exact e) (fun b ps e => ⟨#[], by rw [upd_ne (ne_of_none e ha), e]; simp⟩) (fun m hm => ?_) (fun b u e => ?_) I.bare
  · obtain ⟨o, es, ep, ho, r⟩ := hm
    exact ⟨o, es, ep, k _ o (fun z => (hch _ z).2.1 rfl) ho, r⟩
  · by_cases hb : b = a
    · subst hb; rw [upd_same] at e; cases e; exact new
    · rw [upd_ne hb] at e
      refine (I.hok b u e).stay (fun c v hc q => k c v ?_ q) (fun c q => by rw [upd_ne (ne_of_none q ha)]; exact q) fun c xs q => by rw [upd_ne (ne_of_none q ha)]; exact q
      rcases hc with z | z
      · rw [z]; exact nch b u e
      · exact nch c _ z
end
def Ite (K : PySem.W.Frag) (a : Addr) : It :=
  ⟨fun i H => ∃ xs x, SqL K H a xs ∧ xs[i]? = some x, fun i H x H' => ∃ p y, H p = none ∧ x = .ref p ∧ H' = upd H p (.tup [.int i, y]) ∧ ∀ xs, SqL K H a xs → xs[i]? = some y, fun i H => ∃ xs, SqL K H a xs ∧ xs.length ≤ i⟩
theorem turn_enum {P : Program} {w : World} {K : PySem.W.Frag} {es : List Expr} {k : Nat} {tp : Pos} (a e it : Addr) (hei : e ≠ it) :
    Turn P w K (.Tuple es k tp) (Ite K a) [e, it] e (fun i h => (∃ old, IsEnum h e it i old) ∧ h.IsListIter it a i) where
  mem := by simp
  obj := fun i h st b hb => by
    obtain ⟨⟨old, he⟩, o, e1, c, d⟩ := st
    rcases List.mem_cons.mp hb with z | hb
    · subst z
      exact ⟨_, he, fun v z => by
        have z' : Data.fields _ = Data.cell v := z
        cases z'⟩
    · have z : b = it := by simpa using hb
      subst z
      exact ⟨o, e1, fun v z => by rw [d] at z; cases z⟩
  keep := fun i h h' st k => by
    obtain ⟨⟨old, he⟩, hi⟩ := st
    exact ⟨⟨old, k e (by simp) _ he⟩, hi.at fun o q => k it (by simp) o q⟩
  item := by
    intro X hP hw hK hc i pins s σ H E I hf st hg
    subst hP hw hK
    obtain ⟨xs, x, hq, hx⟩ := hg
    obtain ⟨⟨old, he⟩, hi⟩ := st
    obtain ⟨its, rv, p, hz⟩ := I.list hq
    obtain ⟨u, hu, ru⟩ := rv.get hx
    have hT : H s.heap.objs.size = none := I.fresh
    refine wpAny_pyNext_enum_item he hi p.isList (x := u) (by simpa using hu) hei fun h1 ho1 hi1 hp1 hs1 hk1 => ?_
    refine ⟨_, rfl, wpAny_letOwnedTupleGo_enum (s := { s with heap := h1, toks := s.toks + 1 }) ho1 fun h2 he2 hsb2 => ?_⟩
    replace hsb2 : Heap.SameBut e h1 h2 := hsb2
    have he_lt : e < s.heap.objs.size := Heap.lt_size he
    have kk : ∀ b o, b ∉ [e, it] → s.heap.get? b = some o → h2.get? b = some o := fun b o hb q => by
      have b1 : b ≠ e := fun z => hb (by simp [z])
      have b2 : b ≠ it := fun z => hb (by simp [z])
      exact hsb2.extBut b o b1 (hk1 b o b1 b2 q)
    have tup2 : h2.get? s.heap.objs.size = some { cls := .type "tuple", data := .seq #[.int i s.toks, u] } := hsb2.extBut _ _ (Nat.ne_of_gt he_lt) hp1
    have I2 : Inv X pins σ (upd H s.heap.objs.size (.tup [.int i, x])) { s with heap := h2, toks := s.toks + 1 } := I.turnedNew kk hf (Nat.le_refl _) ⟨by show 2 ≤ sizeLine; decide, [.int i s.toks, u], .cons ⟨_, rfl⟩ (.cons ru .nil), _, tup2, rfl, _, rfl⟩
    have ez : ((i + 1 : Nat) : Int) = (i : Int) + 1 := by push_cast; rfl
    have he3 : IsEnum h2 e it ((i + 1 : Nat) : Int) u := by rw [ez]; exact he2
    refine ⟨.ref s.heap.objs.size, _, I2, rfl, ⟨_, x, hT, rfl, rfl, fun ys hy => by rw [I.list_inj hy hq]; exact hx⟩, ⟨⟨u, he3⟩, hi1.extBut hsb2.extBut hei.symm⟩, fun b hb => ?_⟩
    have hb1 := (hf b hb).1
    have : b ≠ s.heap.objs.size := by
      rcases List.mem_cons.mp hb with z | hb
      · rw [z]; exact Nat.ne_of_lt he_lt
      · have z : b = it := by simpa using hb
        obtain ⟨o, e1, _⟩ := hi
        rw [z]; exact Nat.ne_of_lt (Heap.lt_size e1)
    rw [upd_ne this]; exact hb1
  done := by
    intro X hP hw hK hc i pins s σ H E I hf st hg
    subst hP hw hK
    obtain ⟨xs, hq, hx⟩ := hg
    obtain ⟨⟨old, he⟩, hi⟩ := st
    obtain ⟨its, rv, p, hz⟩ := I.list hq
    have hl := rv.length
    refine wpAny_pyNext_enum_end (I.ok.hd hc) he hi p.isList (by simp; omega) fun h1 hk1 => ⟨rfl, ?_⟩
    exact I.turnedAll (t' := s.toks) (ch := [e, it]) (fun b o hb q => hk1 b o (fun z => hb (by simp [z])) q) hf
  self := fun _ _ _ _ _ st h => let ⟨⟨_, he⟩, _⟩ := st; wpAny_pyIter_enum he h
def Itz (K : PySem.W.Frag) (a b : Addr) : It :=
  ⟨fun i H => ∃ xs ys x y, SqL K H a xs ∧ SqL K H b ys ∧ xs[i]? = some x ∧ ys[i]? = some y,
   fun i H x H' => ∃ p u v, H p = none ∧ x = .ref p ∧ H' = upd H p (.tup [u, v]) ∧ (∀ xs, SqL K H a xs → xs[i]? = some u) ∧ ∀ ys, SqL K H b ys → ys[i]? = some v,
   fun i H => ∃ xs ys, SqL K H a xs ∧ SqL K H b ys ∧ (xs.length ≤ i ∨ ys.length ≤ i)⟩
structure Apart5 (z TI TO i1 i2 : Addr) : Prop where
  TIz : TI ≠ z
  TOz : TO ≠ z
  i1z : i1 ≠ z
  i2z : i2 ≠ z
  TITO : TI ≠ TO
  TIi1 : TI ≠ i1
  TIi2 : TI ≠ i2
  TOi1 : TO ≠ i1
  TOi2 : TO ≠ i2
  i12 : i1 ≠ i2
theorem plus_ne (n i j : Nat) (h : i ≠ j) : @Ne Addr (n + i : Nat) (n + j : Nat) := fun e => by
  have e' : n + i = n + j := e
  omega
theorem apart_mk (n : Nat) : Apart5 (n + 4 : Nat) (n + 2 : Nat) (n + 3 : Nat) (n + 0 : Nat) (n + 1 : Nat) :=
  ⟨plus_ne n _ _ (by decide), plus_ne n _ _ (by decide), plus_ne n _ _ (by decide), plus_ne n _ _ (by decide), plus_ne n _ _ (by decide), plus_ne n _ _ (by decide), plus_ne n _ _ (by decide), plus_ne n _ _ (by decide), plus_ne n _ _ (by decide), plus_ne n _ _ (by decide)⟩
theorem cls_ne {h : Heap} {a b : Addr} {o u : Obj} (e1 : h.get? a = some o) (e2 : h.get? b = some u) (hc : o.cls ≠ u.cls) : a ≠ b := by
  rintro rfl
  rw [e1] at e2; cases e2; exact hc rfl
theorem Apart5.all {h : Heap} {z TI TO i1 i2 l1 l2 : Addr} {xs ys : Array Value} {f0 a b : Value} {k1 k2 : Nat} {m1 m2 : Addr} (D : Apart5 z TI TO i1 i2) (hz : IsZip h z TI TO f0) (hTO : IsPair h TO a b) (h1 : h.IsListIter i1 m1 k1) (h2 : h.IsListIter i2 m2 k2)
    (hl1 : h.IsList l1 xs) (hl2 : h.IsList l2 ys) : ZipApart z TI TO i1 i2 l1 l2 := by
  obtain ⟨o1, e1, c1, _⟩ := hl1
  obtain ⟨o2, e2, c2, _⟩ := hl2
  obtain ⟨p1, f1, d1, _⟩ := h1
  obtain ⟨p2, f2, d2, _⟩ := h2
  refine ⟨D.TIz, D.TOz, D.i1z, D.i2z, D.TITO, D.TIi1, D.TIi2, D.TOi1, D.TOi2, D.i12, cls_ne e1 hz ?_, cls_ne e1 hTO ?_, cls_ne e1 f1 ?_, cls_ne e1 f2 ?_, cls_ne e2 hz ?_, cls_ne e2 hTO ?_, cls_ne e2 f1 ?_, cls_ne e2 f2 ?_⟩
  all_goals (first | rw [c1] | rw [c2]); (try first | rw [d1] | rw [d2]); intro q; (injection q with q); revert q; decide
theorem turn_zip {P : Program} {w : World} {K : PySem.W.Frag} {es : List Expr} {k : Nat} {tp : Pos} (l1 l2 z TI TO i1 i2 : Addr) (D : Apart5 z TI TO i1 i2) :
    Turn P w K (.Tuple es k tp) (Itz K l1 l2) [z, TI, TO, i1, i2] z
      (fun i h => IsZip h z TI TO .none ∧ IsPair h TI (.ref i1) (.ref i2) ∧ (∃ a b, IsPair h TO a b) ∧ h.IsListIter i1 l1 i ∧ h.IsListIter i2 l2 i) where
  mem := by simp
  obj := fun i h st b hb => by
    obtain ⟨hz, hTI, ⟨a, b', hTO⟩, ⟨o1, e1, c1, d1⟩, ⟨o2, e2, c2, d2⟩⟩ := st
    simp only [List.mem_cons, List.not_mem_nil, or_false] at hb
    rcases hb with q | q | q | q | q <;> subst q
    · exact ⟨_, hz, fun v z => by have z' : Data.fields _ = Data.cell v := z; cases z'⟩
    · exact ⟨_, hTI, fun v z => by have z' : Data.seq _ _ = Data.cell v := z; cases z'⟩
    · exact ⟨_, hTO, fun v z => by have z' : Data.seq _ _ = Data.cell v := z; cases z'⟩
    · exact ⟨o1, e1, fun v z => by rw [d1] at z; cases z⟩
    · exact ⟨o2, e2, fun v z => by rw [d2] at z; cases z⟩
  keep := fun i h h' st k => by
    obtain ⟨hz, hTI, ⟨a, b, hTO⟩, h1, h2⟩ := st
    exact ⟨k z (by simp) _ hz, k TI (by simp) _ hTI, ⟨a, b, k TO (by simp) _ hTO⟩, h1.at fun o q => k i1 (by simp) o q, h2.at fun o q => k i2 (by simp) o q⟩
  item := by
    intro X hP hw hK hc i pins s σ H E I hf st hg
    subst hP hw hK
    obtain ⟨xs, ys, x, y, hq1, hq2, hx, hy⟩ := hg
    obtain ⟨hz, hTI, ⟨a, b, hTO⟩, h1, h2⟩ := st
    obtain ⟨its1, rv1, p1, hz1⟩ := I.list hq1
    obtain ⟨its2, rv2, p2, hz2⟩ := I.list hq2
    obtain ⟨u1, hu1, ru1⟩ := rv1.get hx
    obtain ⟨u2, hu2, ru2⟩ := rv2.get hy
    have D' := D.all hz hTO h1 h2 p1.isList p2.isList
    have hT : H s.heap.objs.size = none := I.fresh
    have lt : ∀ {c : Addr} {o : Obj}, s.heap.get? c = some o → s.heap.objs.size ≠ c := fun e => Nat.ne_of_gt (Heap.lt_size e)
    obtain ⟨oi1, ei1, _⟩ := id h1
    obtain ⟨oi2, ei2, _⟩ := id h2
    refine wpAny_pyNext_zip_item D' hz hTI hTO h1 h2 p1.isList p2.isList (x := u1) (y := u2) (by simpa using hu1) (by simpa using hu2) fun h3 a1 a2 a3 a4 a5 a6 hk => ?_
    refine ⟨_, rfl, wpAny_letOwnedTupleGo_zip (s := { s with heap := h3 }) a1 fun h4 hz4 hs4 => ?_⟩
    replace hs4 : Heap.SameBut z h3 h4 := hs4
    have kk : ∀ c o, c ∉ [z, TI, TO, i1, i2] → s.heap.get? c = some o → h4.get? c = some o := fun c o hb q => by
      simp only [List.mem_cons, List.not_mem_nil, or_false, not_or] at hb
      exact hs4.extBut c o hb.1 (hk c o hb.1 hb.2.2.1 hb.2.2.2.1 hb.2.2.2.2 q)
    have tup4 : h4.get? s.heap.objs.size = some { cls := .type "tuple", data := .seq #[u1, u2] } := hs4.extBut _ _ (lt hz) a5
    have I2 : Inv X pins σ (upd H s.heap.objs.size (.tup [x, y])) { s with heap := h4, toks := s.toks } := I.turnedNew kk hf (Nat.le_refl _) ⟨by show 2 ≤ sizeLine; decide, [u1, u2], .cons ru1 (.cons ru2 .nil), _, tup4, rfl, _, rfl⟩
    refine ⟨.ref s.heap.objs.size, _, I2, rfl, ⟨_, x, y, hT, rfl, rfl, fun ws hy => by rw [I.list_inj hy hq1]; exact hx, fun ws hy' => by rw [I.list_inj hy' hq2]; exact hy⟩,
      ⟨hz4, hs4.extBut _ _ D.TIz (hk _ _ D.TIz D.TITO D.TIi1 D.TIi2 hTI), ⟨_, _, hs4.extBut _ _ D.TOz a2⟩, a3.extBut hs4.extBut D.i1z, a4.extBut hs4.extBut D.i2z⟩, fun b hb => ?_⟩
    have hb1 := (hf b hb).1
    have hne : b ≠ s.heap.objs.size := by
      simp only [List.mem_cons, List.not_mem_nil, or_false] at hb
      rcases hb with q | q | q | q | q <;> subst q
      · exact (lt hz).symm
      · exact (lt hTI).symm
      · exact (lt hTO).symm
      · exact (lt ei1).symm
      · exact (lt ei2).symm
    rw [upd_ne hne]; exact hb1
  done := by
    intro X hP hw hK hc i pins s σ H E I hf st hg
    subst hP hw hK
    obtain ⟨xs, ys, hq1, hq2, hx⟩ := hg
    obtain ⟨hz, hTI, ⟨a, b, hTO⟩, h1, h2⟩ := st
    obtain ⟨its1, rv1, p1, hz1⟩ := I.list hq1
    obtain ⟨its2, rv2, p2, hz2⟩ := I.list hq2
    have hl1 := rv1.length
    have hl2 := rv2.length
    have D' := D.all hz hTO h1 h2 p1.isList p2.isList
    refine wpAny_pyNext_zip_end (I.ok.hd hc) D' hz hTI hTO h1 h2 p1.isList p2.isList (by
      rcases hx with q | q
      · left; simp; omega
      · right; simp; omega) fun h3 hk => ⟨rfl, ?_⟩
    refine I.turnedAll (t' := s.toks) (ch := [z, TI, TO, i1, i2]) (fun c o hb q => ?_) hf
    simp only [List.mem_cons, List.not_mem_nil, or_false, not_or] at hb
    exact hk c o hb.1 hb.2.2.1 hb.2.2.2.1 hb.2.2.2.2 q
  self := fun _ _ _ _ _ st h => wpAny_pyIter_zip st.1 h
def Itd (lo : Int) (n : Nat) : It := ⟨fun i _ => i < n, fun i H x H' => H' = H ∧ x = .int (lo - i), fun i _ => n ≤ i⟩
theorem turn_down {P : Program} {w : World} {K : PySem.W.Frag} {tg : Expr} (it : Addr) (lo : Int) (n : Nat) : Turn P w K tg (Itd lo n) [it] it (fun i h => IsRangeIter h it (lo + (i : Nat) * (-1)) ((n : Int) - (i : Nat)) (-1)) where
  mem := by simp
  obj := fun i h st b hb => by
    have e : b = it := by simpa using hb
    subst e
    exact ⟨_, st, fun v z => by
      have z' : Data.fields _ = Data.cell v := z
      cases z'⟩
  keep := fun i h h' st k => k it (by simp) _ st
  item := by
    intro X hP hw hK hc i pins s σ H E I hf st hg
    subst hP hw hK
    obtain ⟨f0, f1, f2, f3, f4, f5⟩ := hf it (by simp)
    have W := Walks.range (prog := X.prog) (w := X.w) (I.ok.hd hc) it lo (-1) n
    refine W.item i s _ _ hg st fun v h' tk hv st' kk => ?_
    obtain ⟨t, rfl⟩ := hv
    have I1 : Inv X pins σ H { s with heap := h', toks := tk } := I.turned (fun b o hb e => kk b o (by simpa using hb) e) f0 f1 f3 f4 f5
    refine ⟨_, rfl, go_of (s := { s with heap := h', toks := tk }) (n := "range_iterator") st' rfl rfl (by decide) ⟨.int (lo - i), H, I1, ⟨t, ?_⟩, ⟨rfl, rfl⟩, st', fun b hb => (hf b hb).1⟩⟩
    congr 1; omega
  done := by
    intro X hP hw hK hc i pins s σ H E I hf st hg
    subst hP hw hK
    obtain ⟨f0, f1, f2, f3, f4, f5⟩ := hf it (by simp)
    exact wpAny_pyNext_range_end (I.ok.hd hc) st (by have : n ≤ i := hg; omega) fun h' eb => ⟨rfl, I.turned (t' := s.toks) (fun b o hb e => eb b o hb e) f0 f1 f3 f4 f5⟩
  self := fun _ _ _ _ _ st h => wpAny_pyIter_rangeiter st h
theorem rangeSize_down (a b : Int) : Builtin.Range.rangeSize a b (-1) = ((a - b).toNat : Int) := by
  unfold Builtin.Range.rangeSize
  rw [if_neg (by decide)]
  split
  · rename_i h
    have e : ∀ x : Int, x / (- -1) = x := fun x => by simp
    first | (simp; omega) | omega
  · omega
theorem small_down {a b : Int} (ha : -(2 ^ 62) ≤ a) (ha' : a < 2 ^ 62) (hb : -(2 ^ 62) ≤ b) (hb' : b < 2 ^ 62) : Builtin.Range.small a b (-1) = true := by
  unfold Builtin.Range.small
  rw [rangeSize_down]
  unfold Builtin.Range.rangeFitsLong
  simp
  omega
section
variable {X : Cx}
def iEnum (K : PySem.W.Frag) (ta : TA) : TI := fun σ H R => ta σ H fun vs H1 => ∃ a xs, vs = [.ref a] ∧ SqL K H1 a xs ∧ R (Ite K a) H1
theorem pi_enum {a : Expr} {ta : TA} {p pos : Pos} {es : List Expr} {k : Nat} {tp : Pos} (hg : Gl X "enumerate") (hm : X.mg "enumerate" = none) (ha : PA X [a] ta) (hs : starEach [a] X.env = [(false, eval a X.env)] := by rfl) :
    PI X (.Tuple es k tp) (.Call (.Name "enumerate" p) [a] [] pos) (iEnum X.K ta) := by
  intro pins s σ H R I h
  refine Call_ (ld_blt I hg hm boot_enumerate (PyProof.Rows.callWith_type1 (thn (ha pos pins s σ H _ I h) fun us s1 ⟨vs, H1, I1, r1, q1⟩ => ?_) hs rfl))
  obtain ⟨l, xs, e, hq, q⟩ := q1
  subst e
  obtain ⟨u, rfl, ru⟩ := Vals.one r1
  cases ru
  obtain ⟨its, rv, pl, hz⟩ := I1.list hq
  refine call_enumerate_list pl.isList fun h2 he hi hsz hk => ?_
  have I2 : Inv X pins σ H1 { s1 with heap := h2 } := I1.kept (t' := s1.toks) hk
  refine wpAny_pyIter_enum (s := { s1 with heap := h2 }) he ?_
  refine ⟨s1.heap.objs.size + 1, [s1.heap.objs.size + 1, s1.heap.objs.size], _, _, H1, rfl, I2, turn_enum l _ _ (Nat.succ_ne_self _), ⟨⟨.none, he⟩, hi⟩, fun b hb => ?_, q⟩
  rcases List.mem_cons.mp hb with z | hb
  · rw [z]; exact I1.fpOk (Nat.le_succ _) (I1.hok.fresh (Nat.le_succ _))
  · have z : b = s1.heap.objs.size := by simpa using hb
    rw [z]; exact I1.fpOk (Nat.le_refl _) (I1.hok.fresh (Nat.le_refl _))
def iZip (K : PySem.W.Frag) (ta : TA) : TI := fun σ H R => ta σ H fun vs H1 => ∃ a b xs ys, vs = [.ref a, .ref b] ∧ SqL K H1 a xs ∧ SqL K H1 b ys ∧ R (Itz K a b) H1
theorem pi_zip {a b : Expr} {ta : TA} {p pos : Pos} {es : List Expr} {k : Nat} {tp : Pos} (hg : Gl X "zip") (hm : X.mg "zip" = none) (ha : PA X [a, b] ta) (hs : starEach [a, b] X.env = [(false, eval a X.env), (false, eval b X.env)] := by rfl) (hs2 : starEach [b] X.env = [(false, eval b X.env)] := by rfl) :
    PI X (.Tuple es k tp) (.Call (.Name "zip" p) [a, b] [] pos) (iZip X.K ta) := by
  intro pins s σ H R I h
  refine Call_ (ld_blt I hg hm boot_zip (PyProof.Rows.callWith_type1 (thn (ha pos pins s σ H _ I h) fun us s1 ⟨vs, H1, I1, r1, q1⟩ => ?_) (by rw [hs, hs2]) (by rw [hs2]; rfl)))
  obtain ⟨l1, l2, xs, ys, e, hq1, hq2, q⟩ := q1
  subst e
  obtain ⟨u1, u2, rfl, ru1, ru2⟩ := Vals.two r1
  cases ru1
  cases ru2
  obtain ⟨its1, rv1, p1, hz1⟩ := I1.list hq1
  obtain ⟨its2, rv2, p2, hz2⟩ := I1.list hq2
  refine call_zip_2 p1.isList p2.isList fun h2 hz hTI hTO hi1 hi2 hsz hk => ?_
  have I2 : Inv X pins σ H1 { s1 with heap := h2 } := I1.kept (t' := s1.toks) hk
  refine wpAny_pyIter_zip (s := { s1 with heap := h2 }) hz ?_
  refine ⟨s1.heap.objs.size + 4, [s1.heap.objs.size + 4, s1.heap.objs.size + 2, s1.heap.objs.size + 3, s1.heap.objs.size, s1.heap.objs.size + 1], _, _, H1, rfl, I2,
    turn_zip l1 l2 _ _ _ _ _ (apart_mk _), ⟨hz, hTI, ⟨_, _, hTO⟩, hi1, hi2⟩, fun b hb => ?_, q⟩
  have hb' : s1.heap.objs.size ≤ b := by
    simp only [List.mem_cons, List.not_mem_nil, or_false] at hb
    rcases hb with z | z | z | z | z <;> rw [z] <;> omega
  exact I1.fpOk hb' (I1.hok.fresh hb')
def iRngD (ta : TA) : TI := fun σ H R => ta σ H fun vs H1 => ∃ i j : Int, vs = [.int i, .int j, .int (-1)] ∧ (-(2 ^ 28) ≤ i ∧ i < 2 ^ 28 ∧ -(2 ^ 28) ≤ j ∧ j < 2 ^ 28) ∧ R (Itd i (i - j).toNat) H1
theorem Vals.three : ∀ {x y z : V} {us : List Value}, Vals [x, y, z] us → ∃ u v w', us = [u, v, w'] ∧ RelV x u ∧ RelV y v ∧ RelV z w'
  | _, _, _, _, .cons r (.cons q (.cons t .nil)) => ⟨_, _, _, rfl, r, q, t⟩
theorem pi_down {a b c : Expr} {ta : TA} {p pos : Pos} {tg : Expr} (hg : Gl X "range") (hm : X.mg "range" = none) (ha : PA X [a, b, c] ta)
    (hs : starEach [a, b, c] X.env = (false, eval a X.env) :: starEach [b, c] X.env := by rfl) (hs2 : (backTo pos (starEach [b, c] X.env)).any (·.1) = false := by rfl) :
    PI X tg (.Call (.Name "range" p) [a, b, c] [] pos) (iRngD ta) := by
  intro pins s σ H R I h
  refine Call_ (ld_blt I hg hm boot_range (PyProof.Rows.callWith_type1 (thn (ha pos pins s σ H _ I h) fun us s1 ⟨vs, H1, I1, r1, q1⟩ => ?_) hs hs2))
  obtain ⟨i, j, e, ⟨q1, q2, q3, q4⟩, q⟩ := q1
  subst e
  obtain ⟨u1, u2, u3, rfl, ⟨t1, rfl⟩, ⟨t2, rfl⟩, ⟨t3, rfl⟩⟩ := Vals.three r1
  refine call_range_3 (by decide) ?_ (Or.inl (PyProof.noPylong_small (by decide)))
  refine wpAny_pyIter_range (IsRange.new ..) (small_down (by omega) (by omega) (by omega) (by omega)) ?_
  generalize hO : s1.heap.push { cls := .type "range", data := .fields #[.int i t1, .int j t2, .int (-1) t3] } = h2
  have k2 : ∀ b o, s1.heap.get? b = some o → h2.get? b = some o := fun b o e => hO ▸ Heap.get?_push_of_some _ e
  have I2 : Inv X pins σ H1 { s1 with heap := h2 } := I1.kept (t' := s1.toks) k2
  refine ⟨h2.objs.size, [h2.objs.size], _, _, H1, rfl, I2.kept (t' := s1.toks) fun b o e => Heap.get?_push_of_some _ e, turn_down _ i (i - j).toNat, ?_, fun b hb => ?_, q⟩
  · have e1 : i + ((0 : Nat) : Int) * (-1) = i := by simp
    have e2 : (((i - j).toNat : Nat) : Int) - ((0 : Nat) : Int) = Builtin.Range.rangeSize i j (-1) := by rw [rangeSize_down]; simp
    show IsRangeIter _ _ (i + ((0 : Nat) : Int) * (-1)) ((((i - j).toNat : Nat) : Int) - ((0 : Nat) : Int)) (-1)
    rw [e1, e2]
    exact Heap.get?_push_size _ rfl
  · have e : b = h2.objs.size := by simpa using hb
    subst e
    exact I2.fpOk (Nat.le_refl _) (I2.hok.fresh (Nat.le_refl _))
end
theorem for_down {lo : Int} {n : Nat} {g : TG} {tb : TS} {D : Ends} {σ : St} {H : Hp} (Pv : Nat → St → Hp → Prop) (h0 : Pv 0 σ H)
    (hs : ∀ i σ H, i < n → Pv i σ H → g (.int (lo - i)) σ H fun σ2 H2 => tb { D with nx := Pv (i + 1), ct := Pv (i + 1), bk := D.nx } σ2 H2) (hd : ∀ σ H, Pv n σ H → D.nx σ H) :
    ∃ W : Nat → Nat → St → Hp → Prop, (∃ m, W 0 m σ H) ∧ ∀ i m σ H, W i m σ H →
      ((Itd lo n).stop i H ∧ D.nx σ H) ∨ ((Itd lo n).go i H ∧ ∃ N : St → Hp → Prop, (∀ σ' H', N σ' H' → ∃ m', m' < m ∧ W (i + 1) m' σ' H') ∧ ∀ x H', (Itd lo n).yld i H x H' → g x σ H' fun σ2 H2 => tb { D with nx := N, ct := N, bk := D.nx } σ2 H2) := by
  refine ⟨fun i m σ H => m = n - i ∧ i ≤ n ∧ Pv i σ H, ⟨n, by simp, Nat.zero_le _, h0⟩, ?_⟩
  rintro i m σ H ⟨rfl, hi, p⟩
  by_cases hlt : i < n
  · refine .inr ⟨hlt, Pv (i + 1), fun σ' H' p' => ⟨n - (i + 1), by omega, rfl, hlt, p'⟩, fun x H' y => ?_⟩
    obtain ⟨e, y⟩ := y
    subst e y
    exact hs i σ _ hlt p
  · have e : i = n := by omega
    subst e
    exact .inl ⟨Nat.le_refl _, hd σ H p⟩
theorem comp_list {K : PySem.W.Frag} {a D : Addr} {xs : List V} {g : TG} {tc : TT} {te : TE} {Q : Hp → Prop} {σ0 : St} {H0 : Hp} (Pv : Nat → List V → St → Hp → Prop) (h0 : Pv 0 [] σ0 H0)
    (hl : ∀ i ys σ H, i ≤ xs.length → Pv i ys σ H → SqL K H a xs ∧ H D = some (.lst ys))
    (hs : ∀ i x ys σ H, xs[i]? = some x → Pv i ys σ H → ys.length < sizeLine ∧ g x σ H fun σ2 H3 => tc σ2 H3 fun b H4 => if b = true then te σ2 H4 fun y H5 => H5 D = some (.lst ys) ∧ Pv (i + 1) (ys ++ [y]) σ2 (upd H5 D (.lst (ys ++ [y]))) else Pv (i + 1) ys σ2 H4)
    (hd : ∀ ys σ H, Pv xs.length ys σ H → Q H) : WComp (Itl K a) g tc te D Q σ0 H0 := by
  refine ⟨fun i m ys σ H => m = xs.length - i ∧ i ≤ xs.length ∧ Pv i ys σ H, ⟨xs.length, by simp, Nat.zero_le _, h0⟩, ?_⟩
  rintro i m ys σ H ⟨rfl, hi, p⟩
  obtain ⟨q, hD⟩ := hl i ys σ H hi p
  refine ⟨hD, ?_⟩
  by_cases hlt : i < xs.length
  · have hx : xs[i]? = some xs[i] := by simp [hlt]
    refine .inr ⟨⟨xs, xs[i], q, hx⟩, (hs i _ ys σ H hx p).1, Pv (i + 1), fun ys' σ' H' p' => ⟨xs.length - (i + 1), by omega, rfl, hlt, p'⟩, fun x H2 y => ?_⟩
    obtain ⟨e, y⟩ := y
    subst e
    exact (hs i x ys σ _ (y xs q) p).2
  · have e : i = xs.length := by omega
    subst e
    exact .inl ⟨⟨xs, q, Nat.le_refl _⟩, hd ys σ H p⟩
theorem comp_range {lo : Int} {n : Nat} {D : Addr} {g : TG} {tc : TT} {te : TE} {Q : Hp → Prop} {σ0 : St} {H0 : Hp} (Pv : Nat → List V → St → Hp → Prop) (h0 : Pv 0 [] σ0 H0)
    (hl : ∀ i ys σ H, i ≤ n → Pv i ys σ H → H D = some (.lst ys))
    (hs : ∀ i ys σ H, i < n → Pv i ys σ H → ys.length < sizeLine ∧ g (.int (lo + i)) σ H fun σ2 H3 => tc σ2 H3 fun b H4 => if b = true then te σ2 H4 fun y H5 => H5 D = some (.lst ys) ∧ Pv (i + 1) (ys ++ [y]) σ2 (upd H5 D (.lst (ys ++ [y]))) else Pv (i + 1) ys σ2 H4)
    (hd : ∀ ys σ H, Pv n ys σ H → Q H) : WComp (Itr lo n) g tc te D Q σ0 H0 := by
  refine ⟨fun i m ys σ H => m = n - i ∧ i ≤ n ∧ Pv i ys σ H, ⟨n, by simp, Nat.zero_le _, h0⟩, ?_⟩
  rintro i m ys σ H ⟨rfl, hi, p⟩
  refine ⟨hl i ys σ H hi p, ?_⟩
  by_cases hlt : i < n
  · refine .inr ⟨hlt, (hs i ys σ H hlt p).1, Pv (i + 1), fun ys' σ' H' p' => ⟨n - (i + 1), by omega, rfl, hlt, p'⟩, fun x H2 y => ?_⟩
    obtain ⟨e, y⟩ := y
    subst e y
    exact (hs i ys σ _ hlt p).2
  · have e : i = n := by omega
    subst e
    exact .inl ⟨Nat.le_refl _, hd ys σ H p⟩
theorem comp_enum {K : PySem.W.Frag} {a D : Addr} {xs : List V} {g : TG} {tc : TT} {te : TE} {Q : Hp → Prop} {σ0 : St} {H0 : Hp} (Pv : Nat → List V → St → Hp → Prop) (h0 : Pv 0 [] σ0 H0)
    (hl : ∀ i ys σ H, i ≤ xs.length → Pv i ys σ H → SqL K H a xs ∧ H D = some (.lst ys))
    (hs : ∀ i x ys σ H p, xs[i]? = some x → H p = none → Pv i ys σ H → ys.length < sizeLine ∧ g (.ref p) σ (upd H p (.tup [.int i, x])) fun σ2 H3 => tc σ2 H3 fun b H4 => if b = true then te σ2 H4 fun y H5 => H5 D = some (.lst ys) ∧ Pv (i + 1) (ys ++ [y]) σ2 (upd H5 D (.lst (ys ++ [y]))) else Pv (i + 1) ys σ2 H4)
    (hz : ∀ i ys σ H, i < xs.length → Pv i ys σ H → ys.length < sizeLine)
    (hd : ∀ ys σ H, Pv xs.length ys σ H → Q H) : WComp (Ite K a) g tc te D Q σ0 H0 := by
  refine ⟨fun i m ys σ H => m = xs.length - i ∧ i ≤ xs.length ∧ Pv i ys σ H, ⟨xs.length, by simp, Nat.zero_le _, h0⟩, ?_⟩
  rintro i m ys σ H ⟨rfl, hi, p⟩
  obtain ⟨q, hD⟩ := hl i ys σ H hi p
  refine ⟨hD, ?_⟩
  by_cases hlt : i < xs.length
  · have hx : xs[i]? = some xs[i] := by simp [hlt]
    refine .inr ⟨⟨xs, xs[i], q, hx⟩, hz i ys σ H hlt p, Pv (i + 1), fun ys' σ' H' p' => ⟨xs.length - (i + 1), by omega, rfl, hlt, p'⟩, fun x H2 y => ?_⟩
    obtain ⟨t, u, ht, e, e2, y⟩ := y
    subst e e2
    exact (hs i u ys σ _ t (y xs q) ht p).2
  · have e : i = xs.length := by omega
    subst e
    exact .inl ⟨⟨xs, q, Nat.le_refl _⟩, hd ys σ H p⟩
theorem comp_zip {K : PySem.W.Frag} {a b D : Addr} {xs ws : List V} {g : TG} {tc : TT} {te : TE} {Q : Hp → Prop} {σ0 : St} {H0 : Hp} (Pv : Nat → List V → St → Hp → Prop) (h0 : Pv 0 [] σ0 H0)
    (hl : ∀ i ys σ H, i ≤ min xs.length ws.length → Pv i ys σ H → SqL K H a xs ∧ SqL K H b ws ∧ H D = some (.lst ys))
    (hs : ∀ i x u ys σ H p, xs[i]? = some x → ws[i]? = some u → H p = none → Pv i ys σ H → ys.length < sizeLine ∧ g (.ref p) σ (upd H p (.tup [x, u])) fun σ2 H3 => tc σ2 H3 fun b H4 => if b = true then te σ2 H4 fun y H5 => H5 D = some (.lst ys) ∧ Pv (i + 1) (ys ++ [y]) σ2 (upd H5 D (.lst (ys ++ [y]))) else Pv (i + 1) ys σ2 H4)
    (hz : ∀ i ys σ H, i < min xs.length ws.length → Pv i ys σ H → ys.length < sizeLine)
    (hd : ∀ ys σ H, Pv (min xs.length ws.length) ys σ H → Q H) : WComp (Itz K a b) g tc te D Q σ0 H0 := by
  refine ⟨fun i m ys σ H => m = min xs.length ws.length - i ∧ i ≤ min xs.length ws.length ∧ Pv i ys σ H, ⟨min xs.length ws.length, by simp, Nat.zero_le _, h0⟩, ?_⟩
  rintro i m ys σ H ⟨rfl, hi, p⟩
  obtain ⟨q, q2, hD⟩ := hl i ys σ H hi p
  refine ⟨hD, ?_⟩
  by_cases hlt : i < min xs.length ws.length
  · have h1 : i < xs.length := by omega
    have h2 : i < ws.length := by omega
    have hx : xs[i]? = some xs[i] := by simp [h1]
    have hw : ws[i]? = some ws[i] := by simp [h2]
    refine .inr ⟨⟨xs, ws, xs[i], ws[i], q, q2, hx, hw⟩, hz i ys σ H hlt p, Pv (i + 1), fun ys' σ' H' p' => ⟨min xs.length ws.length - (i + 1), by omega, rfl, by omega, p'⟩, fun x H2 y => ?_⟩
    obtain ⟨t, u, v, ht, e, e2, y1, y2⟩ := y
    subst e e2
    exact (hs i u v ys σ _ t (y1 xs q) (y2 ws q2) ht p).2
  · have e : i = min xs.length ws.length := by omega
    subst e
    refine .inl ⟨⟨xs, ws, q, q2, by omega⟩, hd ys σ H p⟩
end L2

namespace L2
open PySem PySem.Spec PyProof.Rows
section
variable {X : Cx} {a b c e : Expr} {ta tb tc te : TE} {pos p2 : Pos}
def rIsT (K : PySem.W.Frag) : List V → Hp → VK → Prop := fun xs H Q => ∃ x T t b, xs = [x, .ty T] ∧ TyOf K H x t ∧ PySem.W.kitOne K t (.type T) = some b ∧ Q (.bl b) H
theorem call_isT : CallR X (.builtin "isinstance") (rIsT X.K) := by
  intro pins s σ H xs us Q I r h
  obtain ⟨x, T, t, b, rfl, ty, e, q⟩ := h
  obtain ⟨u, v, rfl, ru, rv⟩ := vals2 r
  cases rv
  exact isinst_ok I ru ty e fun tk => ⟨.bl b, H, I.tok tk, rfl, q⟩
theorem kit_same (K : PySem.W.Frag) (T : String) : PySem.W.kitOne K (.type T) (.type T) = some true := by
  unfold PySem.W.kitOne
  rw [if_pos (beq_self_eq_true _)]
theorem kit_int_bool (K : PySem.W.Frag) : PySem.W.kitOne K (.type "int") (.type "bool") = some false := by first | rfl | decide +kernel
theorem kit_bool_int (K : PySem.W.Frag) : PySem.W.kitOne K (.type "bool") (.type "int") = some true := by first | rfl | decide +kernel
theorem bools_of {bs : List Bool} : ∀ {us : List Value}, Vals (bs.map V.bl) us → LSm.BoolsAre us bs := by
  induction bs with
  | nil => intro us r; rw [List.map_nil] at r; cases r; exact .nil
  | cons n ns ih =>
    intro us r
    rw [List.map_cons] at r
    cases r with
    | cons r1 r2 =>
      cases r1
      exact .cons n (ih r2)
def rAllB (K : PySem.W.Frag) : List V → Hp → VK → Prop := fun xs H Q => ∃ (p : Addr) (bs : List Bool), xs = [.ref p] ∧ SqL K H p (bs.map V.bl) ∧ Q (.bl (bs.all id)) H
def rAnyB (K : PySem.W.Frag) : List V → Hp → VK → Prop := fun xs H Q => ∃ (p : Addr) (bs : List Bool), xs = [.ref p] ∧ SqL K H p (bs.map V.bl) ∧ Q (.bl (bs.any id)) H
theorem call_allB (hc : X.calm = true) : CallR X (.builtin "all") (rAllB X.K) := by
  intro pins s σ H xs us Q I r h
  obtain ⟨p, bs, rfl, hq, q⟩ := h
  obtain ⟨u, rfl, ru⟩ := vals1 r
  cases ru
  obtain ⟨vs, rv, pl, hz⟩ := I.list hq
  have hb := bools_of rv
  have hl := pl.isList
  have hlt : p < s.heap.objs.size := by obtain ⟨_, e, _⟩ := hl; exact Heap.lt_size e
  refine call_all_walk (wpAny_pyIter_list hl ?_)
  refine ⟨s.heap.objs.size, [s.heap.objs.size, p], [s.heap.objs.size], vs.toArray.size, _, _, fun i => (bs[i]?).getD true, rfl, Walks.list (A := X.A.in1) (I.ok.hd hc) _ p (Nat.ne_of_lt hlt) vs.toArray,
    ⟨⟨_, Heap.get?_push_size _ rfl, rfl, rfl⟩, hl.push _⟩, fun i v s' Q' E' hP hQ => ?_, fun h' tk hk => ?_⟩
  · obtain ⟨b, e, rfl⟩ := hb.get i v (by simpa using hP)
    simp only [e, Option.getD_some] at hQ
    exact wpAny_truthy_bool hQ
  · have e : ((List.range vs.toArray.size).all fun i => (bs[i]?).getD true) = bs.all id := by
      rw [List.size_toArray, hb.length]; exact LSm.range_all bs
    rw [e]
    exact ⟨.bl _, H, I.kept (LSm.kept_iter hk), rfl, q⟩
theorem call_anyB (hc : X.calm = true) : CallR X (.builtin "any") (rAnyB X.K) := by
  intro pins s σ H xs us Q I r h
  obtain ⟨p, bs, rfl, hq, q⟩ := h
  obtain ⟨u, rfl, ru⟩ := vals1 r
  cases ru
  obtain ⟨vs, rv, pl, hz⟩ := I.list hq
  have hb := bools_of rv
  have hl := pl.isList
  have hlt : p < s.heap.objs.size := by obtain ⟨_, e, _⟩ := hl; exact Heap.lt_size e
  refine call_any_walk (wpAny_pyIter_list hl ?_)
  refine ⟨s.heap.objs.size, [s.heap.objs.size, p], [s.heap.objs.size], vs.toArray.size, _, _, fun i => (bs[i]?).getD false, rfl, Walks.list (A := X.A.in1) (I.ok.hd hc) _ p (Nat.ne_of_lt hlt) vs.toArray,
    ⟨⟨_, Heap.get?_push_size _ rfl, rfl, rfl⟩, hl.push _⟩, fun i v s' Q' E' hP hQ => ?_, fun h' tk hk => ?_⟩
  · obtain ⟨b, e, rfl⟩ := hb.get i v (by simpa using hP)
    simp only [e, Option.getD_some] at hQ
    exact wpAny_truthy_bool hQ
  · have e : ((List.range vs.toArray.size).any fun i => (bs[i]?).getD false) = bs.any id := by
      rw [List.size_toArray, hb.length]; exact LSm.range_any bs
    rw [e]
    exact ⟨.bl _, H, I.kept (LSm.kept_iter hk), rfl, q⟩
theorem vals_of_ints {ns : List Int} {us : List Value} (h : IntsAre us ns) : Vals (ns.map V.int) us := by
  induction h with
  | nil => exact .nil
  | cons n t _ ih => exact .cons ⟨t, rfl⟩ ih
theorem get_list : PGet X (rIxL X.K) := by
  intro pins s σ H x y v u Q I rx ry h
  obtain ⟨p, xs, i, z, rfl, rfl, hq, he, q⟩ := h
  cases rx
  obtain ⟨t, rfl⟩ := ry
  obtain ⟨its, r, pl, hz⟩ := I.list hq
  obtain ⟨j, h1, h2, h3, h4, h5⟩ := atI_get he
  obtain ⟨w, ew, rw'⟩ := r.get h2
  have hl := r.length
  have hn := line63
  have fin : EP X pins σ Q w s := ⟨z, H, I, rw', q⟩
  by_cases h0 : 0 ≤ i
  · have hj : i.toNat = j := by
      rw [seqIndex_of h0 h5] at h1
      exact Option.some.inj h1
    exact wpAny_getItem_list pl.isList h0 (by omega) (by rw [hj]; simpa using ew) fin
  · have hj : (i + (its.toArray.size : Int)).toNat = j := by
      rw [seqIndex_neg (by omega) h4] at h1
      rw [List.size_toArray, ← hl]
      exact Option.some.inj h1
    exact wpAny_getItem_list_neg pl.isList (by omega) (by rw [List.size_toArray] <;> omega) (by omega) (by rw [hj]; simpa using ew) fin
def rCount (K : PySem.W.Frag) : V → List V → Hp → VK → Prop := fun x vs H Q => ∃ (p : Addr) (ns : List Int) (k : Int), x = .ref p ∧ vs = [.int k] ∧ SqL K H p (ns.map V.int) ∧ Q (.int (ns.count k : Nat)) H
theorem mt_count : MtM X "list.count" (rCount X.K) := by
  intro pins s σ H x vs v us Q I rx rv h
  obtain ⟨p, ns, k, rfl, rfl, hq, q⟩ := h
  cases rx
  obtain ⟨u, rfl, t, rfl⟩ := rv.one
  obtain ⟨its, r, pl, hz⟩ := I.list hq
  exact count_list_ints pl.isList (intsAre_of r) ⟨.int _, H, I.tok _, ⟨_, rfl⟩, q⟩
def tRev (K : PySem.W.Frag) (te tc : TE) : TE := fun σ H Q => te σ H fun x H1 => tc σ H1 fun y H2 => ∃ (p : Addr) (xs : List V), x = .ref p ∧ y = .int (-1) ∧ SqL K H2 p xs ∧ ∀ l, H2 l = none → Q (.ref l) (upd H2 l (.lst xs.reverse))
theorem pe_rev (he : PE X e te) (hk : PE X c tc) : PE X (.Subscript e (.Slice none none (some c) p2) pos) (tRev X.K te tc) := by
  intro pins s σ H Q I h
  refine Subscript_ (thn (he pins s σ H _ I h) fun v s1 ⟨x, H1, I1, r1, q1⟩ => ?_)
  refine wpAny_Slice ?_
  rw [evalPart_none]
  refine wpAny_pure ?_
  refine wpAny_pure ?_
  rw [evalPart_some]
  refine thn (hk pins s1 σ H1 _ I1 q1) fun vk s3 ⟨y, H3, I3, rk, q3⟩ => ?_
  obtain ⟨p, xs, rfl, rfl, hq, q⟩ := q3
  cases r1
  obtain ⟨t, rfl⟩ := rk
  have I4 : Inv X pins σ H3 { s3 with heap := s3.heap.push { cls := .type "slice", data := .fields #[.none, .none, .int (-1) t] } } := I3.kept (t' := s3.toks) fun b ob q => Heap.get?_push_of_some _ q
  obtain ⟨its, r, ht, hz⟩ := I4.list hq
  have hlen := r.length
  have hg : wpAny (model X.prog X.w) X.A (getItem (.ref p) (.ref s3.heap.objs.size)) (EP X pins σ Q) X.xe { s3 with heap := s3.heap.push { cls := .type "slice", data := .fields #[.none, .none, .int (-1) t] } } := by
    refine wpAny_getItem_list_slice ht.isList (Heap.IsSliceOf.new ..) .none .none (IsPart.int _ _) (by decide) ?_ (by rw [List.size_toArray] <;> omega)
    rw [PySem.W.krv_pick]
    refine ⟨.ref _, _, I4.laid (t' := s3.toks) (o := .lst xs.reverse) (fun b ob q => Heap.get?_push_of_some _ q) (Nat.le_refl _) ?_, rfl, q _ (I4.hok.fresh (Nat.le_refl _))⟩
    exact ⟨by rw [List.length_reverse]; exact hz, _, 0, r.reverse, Heap.get?_push_size _ rfl⟩
  exact tail_any (ops := [.ref p, .ref s3.heap.objs.size]) ht.isList.typeIs slot_list_getitem.lookup hg (by with_unfolding_all rfl)
theorem all_range_eq {ns ms : List Int} (hl : ns.length = ms.length) : ((List.range ns.length).all fun j => decide (ns.getD j 0 = ms.getD j 0)) = decide (ns = ms) := by
  rw [Bool.eq_iff_iff, List.all_eq_true, decide_eq_true_eq]
  constructor
  · intro h
    apply List.ext_getElem hl
    intro i h1 h2
    have := of_decide_eq_true (h i (List.mem_range.mpr h1))
    simpa [List.getD_eq_getElem?_getD, List.getElem?_eq_getElem h1, List.getElem?_eq_getElem h2] using this
  · rintro rfl i _
    simp
theorem ints_at {vs : List Value} {ns : List Int} (h : IntsAre vs ns) : ∀ (j : Nat) (hj : j < vs.length), ∃ t, vs[j] = .int (ns.getD j 0) t := by
  induction h with
  | nil => intro j hj; exact absurd hj (by simp)
  | cons n t _ ih =>
    intro j hj
    cases j with
    | zero => exact ⟨t, rfl⟩
    | succ j =>
      obtain ⟨t', e⟩ := ih j (by simpa using hj)
      exact ⟨t', by simpa using e⟩
theorem eqAt_ints {A : Around} {s : Shared} {vs ws : List Value} {ns ms : List Int} (hv : IntsAre vs ns) (hw : IntsAre ws ms) :
    ∀ j (h1 : j < vs.toArray.size) (h2 : j < ws.toArray.size), SeqAt.EqAt A s vs.toArray[j] ws.toArray[j] (decide (ns.getD j 0 = ms.getD j 0)) := by
  intro j h1 h2
  obtain ⟨t, e1⟩ := ints_at hv j (by simpa using h1)
  obtain ⟨u, e2⟩ := ints_at hw j (by simpa using h2)
  have e1' : vs.toArray[j] = .int (ns.getD j 0) t := by simpa using e1
  have e2' : ws.toArray[j] = .int (ms.getD j 0) u := by simpa using e2
  rw [e1', e2']
  intro prog w E Q hq
  refine wpAny_eqBool_int ?_
  rw [Bool.beq_eq_decide_eq] 
  exact hq
def rEqL (K : PySem.W.Frag) : R2 := fun x y H Q => ∃ (p q : Addr) (ns ms : List Int), x = .ref p ∧ y = .ref q ∧ SqL K H p (ns.map V.int) ∧ SqL K H q (ms.map V.int) ∧ Q (.bl (decide (ns = ms))) H
def rNeL (K : PySem.W.Frag) : R2 := fun x y H Q => ∃ (p q : Addr) (ns ms : List Int), x = .ref p ∧ y = .ref q ∧ SqL K H p (ns.map V.int) ∧ SqL K H q (ms.map V.int) ∧ Q (.bl (!decide (ns = ms))) H
theorem op_eqL (hu : X.A.units < cLine) : OpR X (compareOp .Eq) (rEqL X.K) := by
  intro pins s σ H x y v u Q I rx ry h
  obtain ⟨p, q', ns, ms, rfl, rfl, h1, h2, q⟩ := h
  cases rx; cases ry
  obtain ⟨vs, rv, pl, hz⟩ := I.list h1
  obtain ⟨ws, rw', pl', hz'⟩ := I.list h2
  have i1 := intsAre_of rv
  have i2 := intsAre_of rw'
  have l1 := i1.length
  have l2 := i2.length
  by_cases hl : ns.length = ms.length
  · refine SeqAt.eq_listAt pl.isList pl'.isList (by simp; omega) hu (eqAt_ints i1 i2) ?_
    rw [List.size_toArray, l1, all_range_eq hl]
    exact ⟨.bl _, H, I, rfl, q⟩
  · refine SeqAt.eq_list_lengthsAt pl.isList pl'.isList (by simp; omega) hu ?_
    have e : decide (ns = ms) = false := decide_eq_false fun z => hl (by rw [z])
    rw [e] at q
    exact ⟨.bl _, H, I, rfl, q⟩
theorem op_neL (hu : X.A.units < cLine) : OpR X (compareOp .NotEq) (rNeL X.K) := by
  intro pins s σ H x y v u Q I rx ry h
  obtain ⟨p, q', ns, ms, rfl, rfl, h1, h2, q⟩ := h
  cases rx; cases ry
  obtain ⟨vs, rv, pl, hz⟩ := I.list h1
  obtain ⟨ws, rw', pl', hz'⟩ := I.list h2
  have i1 := intsAre_of rv
  have i2 := intsAre_of rw'
  have l1 := i1.length
  have l2 := i2.length
  by_cases hl : ns.length = ms.length
  · refine SeqAt.RcNeAt.lists pl.isList pl'.isList (by simp; omega) hu (eqAt_ints i1 i2) _ _ _ _ ?_
    rw [List.size_toArray, l1, all_range_eq hl]
    exact ⟨.bl _, H, I, rfl, q⟩
  · refine SeqAt.RcNeAt.lists_lengths pl.isList pl'.isList (by simp; omega) hu _ _ _ _ ?_
    have e : decide (ns = ms) = false := decide_eq_false fun z => hl (by rw [z])
    rw [e] at q
    exact ⟨.bl _, H, I, rfl, q⟩
def rValues : V → List V → Hp → VK → Prop := fun x vs H Q => ∃ (d : Addr) (kvs : List (Key × V)), x = .ref d ∧ vs = [] ∧ H d = some (.dK kvs) ∧ ∀ v, H v = none → Q (.ref v) (upd H v (.ext fun h => h.IsValuesView v d))
theorem mt_values : MtM X "dict.values" rValues := by
  intro pins s σ H x vs v us Q I rx rv h
  obtain ⟨d, kvs, rfl, rfl, hd, q⟩ := h
  cases rx
  have hus := rv.zero
  subst hus
  obtain ⟨z, hne, ws, rel, dd⟩ := I.hok d _ hd
  refine call_meetsIn PySem.F.slot_dict_values dd.typeIs PySem.F.entry_dict_values (PySem.F.args_dict_values_1 _) (meets_dict_values (mixKind X.prog X.w) d hne) ⟨⟨_, dd⟩, ?_⟩
  have hv : (s.heap.push { cls := .type "dict_values", data := .fields #[.ref d] }).IsValuesView s.heap.objs.size d := ⟨_, Heap.get?_push_size _ rfl, rfl, rfl⟩
  refine ⟨.ref s.heap.objs.size, _, I.laid (t' := s.toks) (o := .ext fun h => h.IsValuesView s.heap.objs.size d) (fun b ob q => Heap.get?_push_of_some _ q) (Nat.le_refl _) ⟨hv, ⟨_, Heap.get?_push_size _ rfl⟩, fun h1 h2 p k => ?_⟩, rfl, q _ I.fresh⟩
  obtain ⟨o, e, c⟩ := p
  exact ⟨o, k o e, c⟩
theorem kv_vals {κ : Type} : ∀ {kvs : List (κ × V)} {vs : List (κ × Value)}, KV kvs vs → Vals (kvs.map (·.2)) (vs.map (·.2))
  | _, _, .nil => .nil
  | _, _, .cons r t => .cons r.2 (kv_vals t)
def rListVals : List V → Hp → VK → Prop := fun xs H Q => ∃ (v d : Addr) (kvs : List (Key × V)), xs = [.ref v] ∧ H v = some (.ext fun h => h.IsValuesView v d) ∧ H d = some (.dK kvs) ∧ ∀ l, H l = none → Q (.ref l) (upd H l (.lst (kvs.map (·.2))))
theorem call_list_vals (hc : X.calm = true) : CallR X (.type "list") rListVals := by
  intro pins s σ H xs us Q I r h
  obtain ⟨v, d, kvs, rfl, hv, hd, q⟩ := h
  obtain ⟨u, rfl, ru⟩ := vals1 r
  cases ru
  obtain ⟨z, hne, ws, rel, dd⟩ := I.hok d _ hd
  obtain ⟨view, _, _⟩ := I.hok v _ hv
  obtain ⟨ep, hat⟩ := dd.dictAt
  have hl := rel.length
  refine PySem.W.kdl_call (PySem.W.kdl_values (knd := mixKind X.prog X.w) (kvs := ws) (ep := ep)) (I.ok.hd hc) ⟨view, hat⟩ (by rw [← hl]; exact z) fun h' tk acc' c' hk hS hacc => ?_
  have e := PySem.W.kdl_vals_eq (kvs := ws) acc'.toList (by rw [Array.length_toList]; exact hacc.1) fun j u hu => hacc.2 j u (by rw [← Array.getElem?_toList]; exact hu)
  refine ⟨.ref s.heap.objs.size, _, I.laid (o := .lst (kvs.map (·.2))) hk (Nat.le_refl _) ⟨by rw [List.length_map]; exact z, acc'.toList, c', by rw [e]; exact kv_vals rel, by simpa using hS⟩, rfl, q _ I.fresh⟩
end
end L2

namespace L2
open PySem PySem.Spec PyProof.Rows
section
variable {X : Cx} {a b c e o : Expr} {ta tb tc te : TE} {pos p2 apos p : Pos}
theorem PE.imp {t t' : TE} (h : PE X e t) (i : ∀ σ H Q, t' σ H Q → t σ H Q) : PE X e t' := fun pins s σ H Q I q => h pins s σ H Q I (i σ H Q q)
def rRng1 : List V → Hp → VK → Prop := fun xs H Q => ∃ j : Int, xs = [.int j] ∧ ∀ r, H r = none → Q (.ref r) (upd H r (.rng 0 j))
theorem call_rng1 : CallR X (.type "range") rRng1 := by
  intro pins s σ H xs us Q I r h
  obtain ⟨j, rfl, q⟩ := h
  obtain ⟨u, rfl, ru⟩ := vals1 r
  obtain ⟨t, rfl⟩ := (show ∃ t, u = Value.int j t from ru)
  refine call_range_1 ?_
  exact ⟨.ref s.heap.objs.size, _, I.laid (o := .rng 0 j) (fun b ob q => Heap.get?_push_of_some _ q) (Nat.le_refl _) ⟨_, _, _, Heap.get?_push_size _ rfl⟩, rfl, q _ I.fresh⟩
theorem vals_pt (f : Nat → Int) : ∀ (vs : List Value) (k : Nat), (∀ j v, vs[j]? = some v → ∃ t, v = Value.int (f (k + j)) t) → Vals ((List.range' k vs.length).map (fun i => V.int (f i))) vs
  | [], _, _ => .nil
  | v :: vs, k, h => by
    obtain ⟨t, e⟩ := h 0 v rfl
    refine .cons (show RelV (.int (f k)) v from ⟨t, e⟩) (vals_pt f vs (k + 1) fun j u hu => ?_)
    obtain ⟨t', e'⟩ := h (j + 1) u (by simpa using hu)
    exact ⟨t', by rw [e']; congr 2; omega⟩
def rListRng : List V → Hp → VK → Prop := fun xs H Q => ∃ (r : Addr) (n : Nat), xs = [.ref r] ∧ H r = some (.rng 0 (n : Int)) ∧ n ≤ 1000 ∧ ∀ l, H l = none → Q (.ref l) (upd H l (.lst ((List.range n).map fun (i : Nat) => V.int (i : Int))))
theorem call_list_rng (hc : X.calm = true) : CallR X (.type "list") rListRng := by
  intro pins s σ H xs us Q I r h
  obtain ⟨p, n, rfl, hv, hn, q⟩ := h
  obtain ⟨u, rfl, ru⟩ := vals1 r
  cases ru
  obtain ⟨t, u', v', hr⟩ := (show ∃ t u v, s.heap.get? p = some { cls := .type "range", data := .fields #[.int 0 t, .int (n : Int) u, .int 1 v] } from I.hok p _ hv)
  refine call_list_range (n := n) (I.ok.hd hc) (show IsRange s.heap p 0 n 1 t u' v' from hr) (small_one (by omega) (by omega) (by omega) (by omega)) (by rw [rangeSize_one]; split <;> omega) (by omega) fun h' tk acc' c' hk hS hacc => ?_
  have el : acc'.toList.length = n := by rw [Array.length_toList]; exact hacc.1
  have ev : Vals ((List.range n).map fun (i : Nat) => V.int (i : Int)) acc'.toList := by
    have := vals_pt (fun i => (i : Int)) acc'.toList 0 fun j v hv => by
      obtain ⟨t, e⟩ := hacc.2 j v (by rw [← Array.getElem?_toList]; exact hv)
      exact ⟨t, by rw [e]; congr 1; simp⟩
    rw [el] at this
    rwa [List.range_eq_range']
  refine ⟨.ref s.heap.objs.size, _, I.laid (o := .lst ((List.range n).map fun (i : Nat) => V.int (i : Int))) hk (Nat.le_refl _) ⟨by rw [List.length_map, List.length_range, sizeLine_eq]; omega, acc'.toList, c', ev, by simpa using hS⟩, rfl, q _ I.fresh⟩
theorem lr_facts {H1 : Hp} {n : Int} {r l : Addr} (o : HO) (hr : H1 r = none) (hl : (upd H1 r (.rng 0 n)) l = none) : Same H1 (upd (upd H1 r (.rng 0 n)) l o) ∧ H1 l = none := by
  refine ⟨fun b u hb => ?_, ?_⟩
  · rw [upd_ne (ne_of_none (show (upd H1 r (.rng 0 n)) b = some u by rw [upd_ne (ne_of_none hb hr)]; exact hb) hl), upd_ne (ne_of_none hb hr)]
    exact hb
  · by_cases z : l = r
    · subst z; exact hr
    · rwa [upd_ne z] at hl
end
theorem for_enum {K : PySem.W.Frag} {a : Addr} {xs : List V} {g : TG} {tb : TS} {D : Ends} {σ : St} {H : Hp} (Pv : Nat → St → Hp → Prop) (h0 : Pv 0 σ H) (hl : ∀ i σ H, i ≤ xs.length → Pv i σ H → SqL K H a xs)
    (hs : ∀ i x σ H p, xs[i]? = some x → H p = none → Pv i σ H → g (.ref p) σ (upd H p (.tup [.int i, x])) fun σ2 H2 => tb { D with nx := Pv (i + 1), ct := Pv (i + 1), bk := D.nx } σ2 H2) (hd : ∀ σ H, Pv xs.length σ H → D.nx σ H) :
    ∃ W : Nat → Nat → St → Hp → Prop, (∃ m, W 0 m σ H) ∧ ∀ i m σ H, W i m σ H →
      ((Ite K a).stop i H ∧ D.nx σ H) ∨ ((Ite K a).go i H ∧ ∃ N : St → Hp → Prop, (∀ σ' H', N σ' H' → ∃ m', m' < m ∧ W (i + 1) m' σ' H') ∧ ∀ x H', (Ite K a).yld i H x H' → g x σ H' fun σ2 H2 => tb { D with nx := N, ct := N, bk := D.nx } σ2 H2) := by
  refine ⟨fun i m σ H => m = xs.length - i ∧ i ≤ xs.length ∧ Pv i σ H, ⟨xs.length, by simp, Nat.zero_le _, h0⟩, ?_⟩
  rintro i m σ H ⟨rfl, hi, p⟩
  have q := hl i σ H hi p
  by_cases hlt : i < xs.length
  · have hx : xs[i]? = some xs[i] := by simp [hlt]
    refine .inr ⟨⟨xs, xs[i], q, hx⟩, Pv (i + 1), fun σ' H' p' => ⟨xs.length - (i + 1), by omega, rfl, hlt, p'⟩, fun x H2 y => ?_⟩
    obtain ⟨t, u, ht, e, e2, y⟩ := y
    subst e e2
    exact hs i u σ _ t (y xs q) ht p
  · have e : i = xs.length := by omega
    subst e
    exact .inl ⟨⟨xs, q, Nat.le_refl _⟩, hd σ H p⟩
end L2

namespace L2
open PySem PySem.Spec PyProof.Rows
def Fz (P : Program) (w : World) (d : Addr) (kvs : List (Key × V)) (o : Obj) (ep : Nat) : Prop :=
  kvs.length ≤ sizeLine ∧ (d == sysModules) = false ∧ ∃ vs es, KV kvs vs ∧ o.ExactDict ∧ o.data = .dict es ep ∧ KeysOf (mixKind P w) es ∧ Pairs (mixKind P w) es.toList vs ∧ (vs.map (·.1)).Nodup
def fzO (d : Addr) (o : Obj) : HO := .ext fun h => h.get? d = some o
section
variable {X : Cx} {pins : List (Addr × Obj)} {σ : St} {H : Hp} {s : Shared} {d : Addr} {kvs : List (Key × V)} {o : Obj} {ep : Nat}
theorem freeze (I : Inv X pins σ H s) (hd : H d = some (.dK kvs)) : ∃ o ep, Fz X.prog X.w d kvs o ep ∧ Inv X pins σ (upd H d (fzO d o)) s := by
  obtain ⟨hz, hne, vs, kv, o, es, ep, ho, r⟩ := I.hok d _ hd
  refine ⟨o, ep, ⟨hz, hne, vs, es, kv, r⟩, ?_⟩
  exact I.write (t' := s.toks) (x := d) (e := d) (by rw [hd]; exact True.intro) (.inl rfl) (fun b u _ e => e) ⟨o, ho⟩ ⟨ho, ⟨o, ho⟩, fun h1 h2 p k => k o p⟩
theorem thaw (I : Inv X pins σ H s) (hd : H d = some (fzO d o)) (hf : Fz X.prog X.w d kvs o ep) : Inv X pins σ (upd H d (.dK kvs)) s := by
  obtain ⟨hz, hne, vs, es, kv, r⟩ := hf
  obtain ⟨ho, _⟩ := I.hok d _ hd
  exact I.write (t' := s.toks) (x := d) (e := d) (by rw [hd]; exact True.intro) (.inl rfl) (fun b u _ e => e) ⟨o, ho⟩ ⟨hz, hne, vs, kv, o, es, ep, ho, r⟩
end
theorem kv_get {κ : Type} {kvs : List (κ × V)} {vs : List (κ × Value)} (r : KV kvs vs) : ∀ {i : Nat} {k : κ} {v : V}, kvs[i]? = some (k, v) → ∃ u, vs[i]? = some (k, u) ∧ RelV v u := by
  induction r with
  | nil => intro i k v h; simp at h
  | @cons p q ps qs h t ih =>
    intro i k v e
    cases i with
    | zero =>
      simp at e
      subst e
      obtain ⟨h1, h2⟩ := h
      obtain ⟨q1, q2⟩ := q
      simp only at h1 h2
      subst h1
      exact ⟨q2, rfl, h2⟩
    | succ i =>
      simp at e
      obtain ⟨u, e1, e2⟩ := ih e
      exact ⟨u, by simpa using e1, e2⟩
theorem is_kV {P : Program} {w : World} {k : Key} {u : Value} (h : (mixKind P w).is k u = true) : RelV (kV k) u := by
  rcases keyIs_shape (k := k) (v := u) h with ⟨i, t, rfl, rfl⟩ | ⟨x, t, rfl, rfl⟩
  · exact ⟨t, rfl⟩
  · exact ⟨t, rfl⟩
def Iti (d : Addr) (kvs : List (Key × V)) (o : Obj) : It :=
  ⟨fun i H => H d = some (fzO d o) ∧ i < kvs.length, fun i H x H' => ∃ p k v, H p = none ∧ x = .ref p ∧ H' = upd H p (.tup [kV k, v]) ∧ kvs[i]? = some (k, v), fun i H => H d = some (fzO d o) ∧ kvs.length ≤ i⟩
theorem turn_items {P : Program} {w : World} {K : PySem.W.Frag} {es : List Expr} {k : Nat} {tp : Pos} (d it : Addr) (kvs : List (Key × V)) (o : Obj) (ep : Nat) (hF : Fz P w d kvs o ep) (hne : d ≠ it) :
    Turn P w K (.Tuple es k tp) (Iti d kvs o) [it] it (fun i h => ∃ ok ov, IsItemIter h it d i kvs.length ep ok ov) where
  mem := by simp
  obj := fun i h st b hb => by
    obtain ⟨ok, ov, e⟩ := st
    have z : b = it := by simpa using hb
    subst z
    exact ⟨_, e, fun v z => by
      have z' : Data.fields _ = Data.cell v := z
      cases z'⟩
  keep := fun i h h' st k => by
    obtain ⟨ok, ov, e⟩ := st
    exact ⟨ok, ov, k it (by simp) _ e⟩
  item := by
    intro X hP hw hK hc i pins s σ H E I hf st hg
    subst hP hw hK
    obtain ⟨hd, hi⟩ := hg
    obtain ⟨ok, ov, he⟩ := st
    obtain ⟨hz, hs, vs, es', kv, r⟩ := hF
    obtain ⟨ho, _⟩ := I.hok d _ hd
    have hm : s.heap.DictAt (mixKind X.prog X.w) d vs ep := ⟨o, es', ho, r⟩
    have hl := kv.length
    have hx : kvs[i]? = some kvs[i] := List.getElem?_eq_getElem hi
    generalize kvs[i] = kx at hx
    obtain ⟨kk, vv⟩ := kx
    obtain ⟨u, hu, ru⟩ := kv_get kv hx
    have hT : H s.heap.objs.size = none := I.fresh
    have he' : IsItemIter s.heap it d i vs.length ep ok ov := by rw [← hl]; exact he
    refine wpAny_pyNext_items_item he' hm hu fun key h1 hkey hout htup hsz hk1 => ?_
    refine ⟨_, rfl, wpAny_letOwnedTupleGo_items (s := { s with heap := h1 }) hout fun h2 he2 hsb2 => ?_⟩
    replace hsb2 : Heap.SameBut it h1 h2 := hsb2
    have he_lt : it < s.heap.objs.size := Heap.lt_size he
    have kk2 : ∀ b ob, b ∉ [it] → s.heap.get? b = some ob → h2.get? b = some ob := fun b ob hb q => by
      have b1 : b ≠ it := fun z => hb (by simp [z])
      exact hsb2.extBut b ob b1 (hk1 b ob b1 q)
    have tup2 : h2.get? s.heap.objs.size = some { cls := .type "tuple", data := .seq #[key, u] } := hsb2.extBut _ _ (Nat.ne_of_gt he_lt) htup
    have I2 : Inv X pins σ (upd H s.heap.objs.size (.tup [kV kk, vv])) { s with heap := h2 } := I.turnedNew (t' := s.toks) kk2 hf (Nat.le_refl _) ⟨by show 2 ≤ sizeLine; decide, [key, u], .cons (is_kV hkey) (.cons ru .nil), _, tup2, rfl, _, rfl⟩
    refine ⟨.ref s.heap.objs.size, _, I2, rfl, ⟨_, kk, vv, hT, rfl, rfl, hx⟩, ⟨key, u, by rw [hl]; exact he2⟩, fun b hb => ?_⟩
    have hb1 := (hf b hb).1
    have : b ≠ s.heap.objs.size := by
      have z : b = it := by simpa using hb
      rw [z]; exact Nat.ne_of_lt he_lt
    rw [upd_ne this]; exact hb1
  done := by
    intro X hP hw hK hc i pins s σ H E I hf st hg
    subst hP hw hK
    obtain ⟨hd, hi⟩ := hg
    obtain ⟨ok, ov, he⟩ := st
    obtain ⟨hz, hs, vs, es', kv, r⟩ := hF
    obtain ⟨ho, _⟩ := I.hok d _ hd
    have hm : s.heap.DictAt (mixKind X.prog X.w) d vs ep := ⟨o, es', ho, r⟩
    have hl := kv.length
    have he' : IsItemIter s.heap it d i vs.length ep ok ov := by rw [← hl]; exact he
    refine wpAny_pyNext_items_end (I.ok.hd hc) he' hm (by rw [List.getElem?_eq_none_iff]; omega) fun h1 hk1 => ⟨rfl, ?_⟩
    exact I.turnedAll (t' := s.toks) (ch := [it]) (fun b ob hb q => hk1 b ob (fun z => hb (by simp [z])) q) hf
  self := fun _ _ _ _ _ st h => let ⟨_, _, he⟩ := st; PySem.W.kcp_self he h
def rItems : V → List V → Hp → VK → Prop := fun x vs H Q => ∃ (d : Addr) (kvs : List (Key × V)), x = .ref d ∧ vs = [] ∧ H d = some (.dK kvs) ∧ ∀ v, H v = none → Q (.ref v) (upd H v (.ext fun h => h.IsItemsView v d))
section
variable {X : Cx} {e : Expr} {te : TE}
theorem mt_items : MtM X "dict.items" rItems := by
  intro pins s σ H x vs v us Q I rx rv h
  obtain ⟨d, kvs, rfl, rfl, hd, q⟩ := h
  cases rx
  have hus := rv.zero
  subst hus
  obtain ⟨z, hne, ws, rel, dd⟩ := I.hok d _ hd
  refine call_meetsIn PySem.F.slot_dict_items dd.typeIs PySem.F.entry_dict_items (PySem.F.args_dict_items_1 _) (meets_dict_items (mixKind X.prog X.w) d hne) ⟨⟨_, dd⟩, ?_⟩
  have hv : (s.heap.push { cls := .type "dict_items", data := .fields #[.ref d] }).IsItemsView s.heap.objs.size d := ⟨_, Heap.get?_push_size _ rfl, rfl, rfl⟩
  refine ⟨.ref s.heap.objs.size, _, I.laid (t' := s.toks) (o := .ext fun h => h.IsItemsView s.heap.objs.size d) (fun b ob q => Heap.get?_push_of_some _ q) (Nat.le_refl _) ⟨hv, ⟨_, Heap.get?_push_size _ rfl⟩, fun h1 h2 p k => ?_⟩, rfl, q _ I.fresh⟩
  obtain ⟨o, e, c⟩ := p
  exact ⟨o, k o e, c⟩
def iItems (P : Program) (w : World) (te : TE) : TI := fun σ H R => te σ H fun x H1 => ∃ v d kvs, x = .ref v ∧ H1 v = some (.ext fun h => h.IsItemsView v d) ∧ H1 d = some (.dK kvs) ∧ ∀ o ep, Fz P w d kvs o ep → R (Iti d kvs o) (upd H1 d (fzO d o))
theorem pi_items {es : List Expr} {k : Nat} {tp : Pos} (he : PE X e te) : PI X (.Tuple es k tp) e (iItems X.prog X.w te) := by
  intro pins s σ H R I h
  refine thn (he pins s σ H _ I h) fun u s1 ⟨x, H1, I1, r1, v, d, kvs, ex, hv, hd, q⟩ => ?_
  subst ex
  cases r1
  obtain ⟨view, _, _⟩ := I1.hok v _ hv
  obtain ⟨o, ep, hF, I2⟩ := freeze I1 hd
  obtain ⟨hz, hs, vs, es', kv, r⟩ := id hF
  obtain ⟨ho, _⟩ := I2.hok d (fzO d o) upd_same
  have hm : s1.heap.DictAt (mixKind X.prog X.w) d vs ep := ⟨o, es', ho, r⟩
  refine wpAny_pyIter_items view hm ?_
  have hfr : (upd H1 d (fzO d o)) s1.heap.objs.size = none := I2.fresh
  have hdl : d ≠ s1.heap.objs.size := Nat.ne_of_lt (Heap.lt_size ho)
  refine ⟨s1.heap.objs.size, [s1.heap.objs.size], _, _, _, rfl, I2.kept (t' := s1.toks) fun b ob e => Heap.get?_push_of_some _ e, turn_items d _ kvs o ep hF hdl, ⟨.none, .none, ?_⟩, fun b hb => ?_, q o ep hF⟩
  · rw [kv.length]; exact Heap.get?_push_size _ rfl
  · have e : b = s1.heap.objs.size := by simpa using hb
    subst e
    exact I2.fpOk (Nat.le_refl _) hfr
def Itv (d : Addr) (kvs : List (Key × V)) (o : Obj) : It :=
  ⟨fun i H => H d = some (fzO d o) ∧ i < kvs.length, fun i H x H' => H' = H ∧ ∃ k, kvs[i]? = some (k, x), fun i H => H d = some (fzO d o) ∧ kvs.length ≤ i⟩
theorem turn_vals {P : Program} {w : World} {K : PySem.W.Frag} {tg : Expr} (d it : Addr) (kvs : List (Key × V)) (o : Obj) (ep : Nat) (hF : Fz P w d kvs o ep) (hne : d ≠ it) :
    Turn P w K tg (Itv d kvs o) [it] it (fun i h => h.IsValIter it d i kvs.length ep) where
  mem := by simp
  obj := fun i h st b hb => by
    obtain ⟨ob, e, c, dd⟩ := st
    have z : b = it := by simpa using hb
    subst z
    exact ⟨ob, e, fun v z => by rw [dd] at z; cases z⟩
  keep := fun i h h' st k => st.at fun ob e => k it (by simp) ob e
  item := by
    intro X hP hw hK hc i pins s σ H E I hf st hg
    subst hP hw hK
    obtain ⟨hd, hi⟩ := hg
    obtain ⟨hz, hs, vs, es', kv, r⟩ := hF
    obtain ⟨ho, _⟩ := I.hok d _ hd
    have hm : s.heap.DictAt (mixKind X.prog X.w) d vs ep := ⟨o, es', ho, r⟩
    have hl := kv.length
    have hx : kvs[i]? = some kvs[i] := List.getElem?_eq_getElem hi
    generalize kvs[i] = kx at hx
    obtain ⟨kk, vv⟩ := kx
    obtain ⟨u, hu, ru⟩ := kv_get kv hx
    obtain ⟨f0, f1, f2, f3, f4, f5⟩ := hf it (by simp)
    have he' : s.heap.IsValIter it d i vs.length ep := by rw [← hl]; exact st
    refine wpAny_pyNext_values_item he' hm hu fun h' st' sb => ?_
    have I1 : Inv X pins σ H { s with heap := h' } := I.turned (t' := s.toks) (fun b ob hb e => (sb.2 b hb).trans e) f0 f1 f3 f4 f5
    obtain ⟨ob, e, c, dd⟩ := id st'
    exact ⟨u, rfl, go_of (s := { s with heap := h' }) e c dd (by decide) ⟨vv, H, I1, ru, ⟨rfl, kk, hx⟩, by rw [hl]; exact st', fun b hb => (hf b hb).1⟩⟩
  done := by
    intro X hP hw hK hc i pins s σ H E I hf st hg
    subst hP hw hK
    obtain ⟨hd, hi⟩ := hg
    obtain ⟨hz, hs, vs, es', kv, r⟩ := hF
    obtain ⟨ho, _⟩ := I.hok d _ hd
    have hm : s.heap.DictAt (mixKind X.prog X.w) d vs ep := ⟨o, es', ho, r⟩
    have hl := kv.length
    obtain ⟨f0, f1, f2, f3, f4, f5⟩ := hf it (by simp)
    have he' : s.heap.IsValIter it d i vs.length ep := by rw [← hl]; exact st
    exact wpAny_pyNext_values_end (I.ok.hd hc) he' hm (by rw [List.getElem?_eq_none_iff]; omega) fun h' eb => ⟨rfl, I.turned (t' := s.toks) (fun b ob hb e => eb b ob hb e) f0 f1 f3 f4 f5⟩
  self := fun _ _ _ _ _ st h => wpAny_pyIter_valiter st h
def iVals (P : Program) (w : World) (te : TE) : TI := fun σ H R => te σ H fun x H1 => ∃ v d kvs, x = .ref v ∧ H1 v = some (.ext fun h => h.IsValuesView v d) ∧ H1 d = some (.dK kvs) ∧ ∀ o ep, Fz P w d kvs o ep → R (Itv d kvs o) (upd H1 d (fzO d o))
theorem pi_vals {tg : Expr} (he : PE X e te) : PI X tg e (iVals X.prog X.w te) := by
  intro pins s σ H R I h
  refine thn (he pins s σ H _ I h) fun u s1 ⟨x, H1, I1, r1, v, d, kvs, ex, hv, hd, q⟩ => ?_
  subst ex
  cases r1
  obtain ⟨view, _, _⟩ := I1.hok v _ hv
  obtain ⟨o, ep, hF, I2⟩ := freeze I1 hd
  obtain ⟨hz, hs, vs, es', kv, r⟩ := id hF
  obtain ⟨ho, _⟩ := I2.hok d (fzO d o) upd_same
  have hm : s1.heap.DictAt (mixKind X.prog X.w) d vs ep := ⟨o, es', ho, r⟩
  refine wpAny_pyIter_values view hm ?_
  have hfr : (upd H1 d (fzO d o)) s1.heap.objs.size = none := I2.fresh
  have hdl : d ≠ s1.heap.objs.size := Nat.ne_of_lt (Heap.lt_size ho)
  refine ⟨s1.heap.objs.size, [s1.heap.objs.size], _, _, _, rfl, I2.kept (t' := s1.toks) fun b ob e => Heap.get?_push_of_some _ e, turn_vals d _ kvs o ep hF hdl, ⟨_, Heap.get?_push_size _ rfl, rfl, by rw [kv.length]; rfl⟩, fun b hb => ?_, q o ep hF⟩
  have e : b = s1.heap.objs.size := by simpa using hb
  subst e
  exact I2.fpOk (Nat.le_refl _) hfr
def Thw (P : Program) (w : World) (R : Hp → Prop) : Hp → Prop := fun H => ∃ d kvs o ep, H d = some (fzO d o) ∧ Fz P w d kvs o ep ∧ R (upd H d (.dK kvs))
def sThaw (P : Program) (w : World) (t : TS) : TS := fun D σ H => t { D with nx := fun σ' H' => Thw P w (D.nx σ') H' } σ H
theorem ps_thaw {st : Stmt} {t : TS} (h : PS X st t) : PS X st (sThaw X.prog X.w t) := by
  intro pins s σ H D I q
  refine thn (h pins s σ H _ I q) fun f s1 r => ?_
  cases f with
  | next =>
    obtain ⟨σ', H', I', d, kvs, o, ep, hd, hF, q'⟩ := r
    exact ⟨σ', _, thaw I' hd hF, q'⟩
  | ret v => exact r
  | brk => exact r
  | cont => exact r
def tThaw (P : Program) (w : World) (t : TE) : TE := fun σ H Q => t σ H fun x H' => Thw P w (Q x) H'
theorem pe_thaw {t : TE} (h : PE X e t) : PE X e (tThaw X.prog X.w t) := by
  intro pins s σ H Q I q
  refine thn (h pins s σ H _ I q) fun u s1 r => ?_
  obtain ⟨x, H', I', rx, d, kvs, o, ep, hd, hF, q'⟩ := r
  exact ⟨x, _, thaw I' hd hF, rx, q'⟩
end
theorem for_items {d : Addr} {kvs : List (Key × V)} {o : Obj} {g : TG} {tb : TS} {D : Ends} {σ : St} {H : Hp} (Pv : Nat → St → Hp → Prop) (h0 : Pv 0 σ H) (hl : ∀ i σ H, i ≤ kvs.length → Pv i σ H → H d = some (fzO d o))
    (hs : ∀ i k v σ H p, kvs[i]? = some (k, v) → H p = none → Pv i σ H → g (.ref p) σ (upd H p (.tup [kV k, v])) fun σ2 H2 => tb { D with nx := Pv (i + 1), ct := Pv (i + 1), bk := D.nx } σ2 H2) (hd : ∀ σ H, Pv kvs.length σ H → D.nx σ H) :
    ∃ W : Nat → Nat → St → Hp → Prop, (∃ m, W 0 m σ H) ∧ ∀ i m σ H, W i m σ H →
      ((Iti d kvs o).stop i H ∧ D.nx σ H) ∨ ((Iti d kvs o).go i H ∧ ∃ N : St → Hp → Prop, (∀ σ' H', N σ' H' → ∃ m', m' < m ∧ W (i + 1) m' σ' H') ∧ ∀ x H', (Iti d kvs o).yld i H x H' → g x σ H' fun σ2 H2 => tb { D with nx := N, ct := N, bk := D.nx } σ2 H2) := by
  refine ⟨fun i m σ H => m = kvs.length - i ∧ i ≤ kvs.length ∧ Pv i σ H, ⟨kvs.length, by simp, Nat.zero_le _, h0⟩, ?_⟩
  rintro i m σ H ⟨rfl, hi, p⟩
  have q := hl i σ H hi p
  by_cases hlt : i < kvs.length
  · refine .inr ⟨⟨q, hlt⟩, Pv (i + 1), fun σ' H' p' => ⟨kvs.length - (i + 1), by omega, rfl, hlt, p'⟩, fun x H2 y => ?_⟩
    obtain ⟨t, k, v, ht, e, e2, y⟩ := y
    subst e e2
    exact hs i k v σ _ t y ht p
  · have e : i = kvs.length := by omega
    subst e
    exact .inl ⟨⟨q, Nat.le_refl _⟩, hd σ H p⟩
theorem comp_items {d D : Addr} {kvs : List (Key × V)} {o : Obj} {g : TG} {tc : TT} {te : TE} {Q : Hp → Prop} {σ0 : St} {H0 : Hp} (Pv : Nat → List V → St → Hp → Prop) (h0 : Pv 0 [] σ0 H0)
    (hl : ∀ i ys σ H, i ≤ kvs.length → Pv i ys σ H → H d = some (fzO d o) ∧ H D = some (.lst ys))
    (hs : ∀ i k v ys σ H p, kvs[i]? = some (k, v) → H p = none → Pv i ys σ H → g (.ref p) σ (upd H p (.tup [kV k, v])) fun σ2 H3 => tc σ2 H3 fun b H4 => if b = true then te σ2 H4 fun y H5 => H5 D = some (.lst ys) ∧ Pv (i + 1) (ys ++ [y]) σ2 (upd H5 D (.lst (ys ++ [y]))) else Pv (i + 1) ys σ2 H4)
    (hz : ∀ i ys σ H, i < kvs.length → Pv i ys σ H → ys.length < sizeLine)
    (hd : ∀ ys σ H, Pv kvs.length ys σ H → Q H) : WComp (Iti d kvs o) g tc te D Q σ0 H0 := by
  refine ⟨fun i m ys σ H => m = kvs.length - i ∧ i ≤ kvs.length ∧ Pv i ys σ H, ⟨kvs.length, by simp, Nat.zero_le _, h0⟩, ?_⟩
  rintro i m ys σ H ⟨rfl, hi, p⟩
  obtain ⟨q, hD⟩ := hl i ys σ H hi p
  refine ⟨hD, ?_⟩
  by_cases hlt : i < kvs.length
  · refine .inr ⟨⟨q, hlt⟩, hz i ys σ H hlt p, Pv (i + 1), fun ys' σ' H' p' => ⟨kvs.length - (i + 1), by omega, rfl, hlt, p'⟩, fun x H2 y => ?_⟩
    obtain ⟨t, k, v, ht, e, e2, y⟩ := y
    subst e e2
    exact hs i k v ys σ _ t y ht p
  · have e : i = kvs.length := by omega
    subst e
    exact .inl ⟨⟨q, Nat.le_refl _⟩, hd ys σ H p⟩
theorem comp_vals {d D : Addr} {kvs : List (Key × V)} {o : Obj} {g : TG} {tc : TT} {te : TE} {Q : Hp → Prop} {σ0 : St} {H0 : Hp} (Pv : Nat → List V → St → Hp → Prop) (h0 : Pv 0 [] σ0 H0)
    (hl : ∀ i ys σ H, i ≤ kvs.length → Pv i ys σ H → H d = some (fzO d o) ∧ H D = some (.lst ys))
    (hs : ∀ i k v ys σ H, kvs[i]? = some (k, v) → Pv i ys σ H → ys.length < sizeLine ∧ g v σ H fun σ2 H3 => tc σ2 H3 fun b H4 => if b = true then te σ2 H4 fun y H5 => H5 D = some (.lst ys) ∧ Pv (i + 1) (ys ++ [y]) σ2 (upd H5 D (.lst (ys ++ [y]))) else Pv (i + 1) ys σ2 H4)
    (hd : ∀ ys σ H, Pv kvs.length ys σ H → Q H) : WComp (Itv d kvs o) g tc te D Q σ0 H0 := by
  refine ⟨fun i m ys σ H => m = kvs.length - i ∧ i ≤ kvs.length ∧ Pv i ys σ H, ⟨kvs.length, by simp, Nat.zero_le _, h0⟩, ?_⟩
  rintro i m ys σ H ⟨rfl, hi, p⟩
  obtain ⟨q, hD⟩ := hl i ys σ H hi p
  refine ⟨hD, ?_⟩
  by_cases hlt : i < kvs.length
  · have hx : kvs[i]? = some kvs[i] := List.getElem?_eq_getElem hlt
    refine .inr ⟨⟨q, hlt⟩, (hs i _ _ ys σ H hx p).1, Pv (i + 1), fun ys' σ' H' p' => ⟨kvs.length - (i + 1), by omega, rfl, hlt, p'⟩, fun x H2 y => ?_⟩
    obtain ⟨e, k, y⟩ := y
    subst e
    exact (hs i k x ys σ _ y p).2
  · have e : i = kvs.length := by omega
    subst e
    exact .inl ⟨⟨q, Nat.le_refl _⟩, hd ys σ H p⟩
end L2

namespace S64
open PySem PyProof.Rows
def IK (a : Array Keyed) : Prop := ∀ (i : Nat) (p : Keyed), a[i]? = some p → ∃ k t, p = (Value.int k t, Value.int k t)
structure AI (N : Nat) (st : SortSt) : Prop where
  kind : kindOf st = oneType'
  size : (arrOf st).size = N
  ik : IK (arrOf st)
  ok : failedOf st = none
section
variable {prog : Program} {w : World} {A : Around} {E : Value → Shared → Prop} {s : Shared}
theorem wpS_lt {st : SortSt} {x y : Keyed} {Q : Option Bool → SortSt → Prop} (hk : kindOf st = oneType') (hx : ∃ k t, x = (Value.int k t, Value.int k t)) (hy : ∃ k t, y = (Value.int k t, Value.int k t)) (h : ∀ b, Q (some b) st) : wpS (model prog w) A E s (lt' x y) Q st := by
  obtain ⟨k, t, rfl⟩ := hx
  obtain ⟨k', t', rfl⟩ := hy
  rw [lt'_eq]
  refine wpS_bind (wpS_get ?_)
  rw [hk, keyLt'_oneType]
  refine wpS_bind (wpS_lift (wpAny_attempt (oneLt_int ⟨rfl, ?_⟩)))
  exact wpS_pure (h _)
theorem wpS_elem {st : SortSt} {a : Array Keyed} {i : Nat} {Q : Keyed → SortSt → Prop} (hi : i < a.size) (hik : IK a) (h : ∀ p, a[i]? = some p → (∃ k t, p = (Value.int k t, Value.int k t)) → Q p st) : wpS (model prog w) A E s (elem' a i) Q st := by
  rw [elem'_eq, getElem?_pos a i hi]
  exact wpS_pure (h _ (getElem?_pos a i hi) (hik i _ (getElem?_pos a i hi)))
theorem wpS_ltA {N : Nat} {st : SortSt} {i j : Nat} {Q : Option Bool → SortSt → Prop} (hA : AI N st) (hi : i < N) (hj : j < N) (h : ∀ b, Q (some b) st) : wpS (model prog w) A E s (ltAt' i j) Q st := by
  rw [ltAt'_eq]
  refine wpS_bind (wpS_get ?_)
  refine wpS_bind (wpS_elem (by rw [hA.size]; exact hi) hA.ik fun p _ hp => ?_)
  refine wpS_bind (wpS_elem (by rw [hA.size]; exact hj) hA.ik fun q _ hq => ?_)
  exact wpS_lt hA.kind hp hq h
theorem IK.perm {a b : Array Keyed} (p : a.Perm b) (h : IK b) : IK a := fun i x e => by
  have hm : x ∈ a.toList := Array.mem_toList_iff.mpr (Array.mem_of_getElem? e)
  have hm2 := (Array.perm_iff_toList_perm.mp p).mem_iff.mp hm
  obtain ⟨j, hj⟩ := List.mem_iff_getElem?.mp hm2
  exact h j x (by rw [← Array.getElem?_toList]; exact hj)
theorem AI.set {N : Nat} {st : SortSt} {xs : Array Keyed} (hA : AI N st) (p : xs.Perm (arrOf st)) : AI N (setArr st xs) := ⟨hA.kind, by show xs.size = N; rw [p.size_eq]; exact hA.size, IK.perm p hA.ik, hA.ok⟩
theorem wpS_rev {N : Nat} {st : SortSt} {i j : Nat} {Q : Unit → SortSt → Prop} (hA : AI N st) (hp : pendingOf st = pendingOf st) (h : ∀ st', AI N st' → pendingOf st' = pendingOf st → Q () st') : wpS (model prog w) A E s (reverseSlice' i j) Q st := by
  rw [reverseSlice'_eq]
  exact wpS_modify (h _ (hA.set (mirror_perm _ _ _ _)) rfl)
theorem wpS_asc {N : Nat} {st : SortSt} {lo n0 nrem : Nat} {β : Type} (hA : AI N st) (hN : lo + nrem ≤ N) (h1 : 1 ≤ n0) {Q : Option (Option Nat) × Nat → SortSt → Prop} (h : ∀ n, n0 ≤ n → n ≤ max n0 nrem → Q (none, n) st) :
    wpS (model prog w) A E s (forIn [n0:nrem] ((none, n0) : Option (Option Nat) × Nat) fun _ r => do
      let x ← ltAt' (lo + r.2) (lo + r.2 - 1)
      match x with
      | some b => if b = true then pure (ForInStep.done (none, r.2)) else pure (ForInStep.yield (none, r.2 + 1))
      | _ => pure (ForInStep.done (some none, r.2))) Q st := by
  refine wpS_forRange (I := fun x c st' => st' = st ∧ c = (none, x) ∧ n0 ≤ x) ?_ ?_ ⟨rfl, rfl, Nat.le_refl _⟩
  · rintro x c st' hax hxn ⟨rfl, rfl, hx⟩
    refine wpS_bind (wpS_ltA hA (by dsimp only; omega) (by dsimp only; omega) fun b => ?_)
    cases b
    · exact wpS_pure ⟨rfl, rfl, by omega⟩
    · exact wpS_pure (h x hx (by omega))
  · rintro c st' ⟨rfl, rfl, hx⟩
    exact h _ hx (Nat.le_refl _)
theorem wpS_count {N : Nat} {st : SortSt} {lo nrem : Nat} {Q : Option Nat → SortSt → Prop} (hA : AI N st) (hN : lo + nrem ≤ N) (h1 : 1 ≤ nrem) (h : ∀ m st', AI N st' → pendingOf st' = pendingOf st → 1 ≤ m → m ≤ nrem → Q (some m) st') :
    wpS (model prog w) A E s (countRun' lo nrem) Q st := by
  rw [countRun'_eq]
  refine wpS_bind (wpS_asc (β := Nat) hA hN (Nat.le_refl _) fun n hn1 hn2 => ?_)
  dsimp only
  by_cases e : n = nrem
  · rw [if_pos (by simpa using e)]
    exact wpS_pure (h n st hA rfl hn1 (by omega))
  rw [if_neg (by simpa using e)]
  have hlt : n < nrem := by omega
  split
  · refine wpS_bind (wpS_ltA hA (by omega) (by omega) fun b => ?_)
    cases b
    · refine wpS_bind (wpS_rev hA rfl fun st1 hA1 hp1 => ?_)
      refine wpS_bind (wpS_lift (wpAny_rule ⟨rfl, ?_⟩))
      refine wpS_bind (wpS_mono (wpS_forRange (I := fun x c st' => (∃ q, c = (none, x, q)) ∧ AI N st' ∧ pendingOf st' = pendingOf st ∧ n + 1 ≤ x) (Q := fun c st' => (∃ m q, c = (none, m, q) ∧ n + 1 ≤ m ∧ m ≤ nrem) ∧ AI N st' ∧ pendingOf st' = pendingOf st) ?_ ?_ ⟨⟨0, rfl⟩, hA1, hp1, Nat.le_refl _⟩) ?_)
      · rintro x c st' hax hxn ⟨⟨q, rfl⟩, hA2, hp2, hx⟩
        refine wpS_bind (wpS_ltA (i := lo + x) (j := lo + x - 1) hA2 (by omega) (by omega) fun b => ?_)
        cases b
        · refine wpS_bind (wpS_ltA (i := lo + x - 1) (j := lo + x) hA2 (by omega) (by omega) fun b => ?_)
          cases b
          · exact wpS_pure ⟨⟨_, rfl⟩, hA2, hp2, by omega⟩
          · exact wpS_pure ⟨⟨x, _, rfl, hx, by omega⟩, hA2, hp2⟩
        · dsimp only
          rw [if_pos rfl]
          split
          · exact wpS_bind (wpS_rev hA2 rfl fun st3 hA3 hp3 => wpS_pure ⟨⟨_, rfl⟩, hA3, hp3.trans hp2, by omega⟩)
          · exact wpS_pure ⟨⟨_, rfl⟩, hA2, hp2, by omega⟩
      · rintro c st' ⟨⟨q, rfl⟩, hA2, hp2, hx⟩
        exact ⟨⟨_, _, rfl, hx, by omega⟩, hA2, hp2⟩
      · rintro c st' ⟨⟨m, q, rfl, hm1, hm2⟩, hA2, hp2⟩
        dsimp only
        split
        · refine wpS_bind (wpS_rev hA2 rfl fun st3 hA3 hp3 => ?_)
          refine wpS_bind (wpS_rev hA3 rfl fun st4 hA4 hp4 => ?_)
          refine wpS_bind (wpS_asc (β := Nat) hA4 hN (by omega) fun k hk1 hk2 => ?_)
          exact wpS_pure (h k _ hA4 (hp4.trans (hp3.trans hp2)) (by omega) (by omega))
        · refine wpS_bind (wpS_rev hA2 rfl fun st4 hA4 hp4 => ?_)
          refine wpS_bind (wpS_asc (β := Nat) hA4 hN (by omega) fun k hk1 hk2 => ?_)
          exact wpS_pure (h k _ hA4 (hp4.trans hp2) (by omega) (by omega))
    · exact wpS_pure (h n st hA rfl hn1 (by omega))
  · have hA1 := hA
    have hp1 : pendingOf st = pendingOf st := rfl
    refine wpS_bind (wpS_lift (wpAny_rule ⟨rfl, ?_⟩))
    refine wpS_bind (wpS_mono (wpS_forRange (I := fun x c st' => (∃ q, c = (none, x, q)) ∧ AI N st' ∧ pendingOf st' = pendingOf st ∧ n + 1 ≤ x) (Q := fun c st' => (∃ m q, c = (none, m, q) ∧ n + 1 ≤ m ∧ m ≤ nrem) ∧ AI N st' ∧ pendingOf st' = pendingOf st) ?_ ?_ ⟨⟨0, rfl⟩, hA1, hp1, Nat.le_refl _⟩) ?_)
    · rintro x c st' hax hxn ⟨⟨q, rfl⟩, hA2, hp2, hx⟩
      refine wpS_bind (wpS_ltA (i := lo + x) (j := lo + x - 1) hA2 (by omega) (by omega) fun b => ?_)
      cases b
      · refine wpS_bind (wpS_ltA (i := lo + x - 1) (j := lo + x) hA2 (by omega) (by omega) fun b => ?_)
        cases b
        · exact wpS_pure ⟨⟨_, rfl⟩, hA2, hp2, by omega⟩
        · exact wpS_pure ⟨⟨x, _, rfl, hx, by omega⟩, hA2, hp2⟩
      · dsimp only
        rw [if_pos rfl]
        split
        · exact wpS_bind (wpS_rev hA2 rfl fun st3 hA3 hp3 => wpS_pure ⟨⟨_, rfl⟩, hA3, hp3.trans hp2, by omega⟩)
        · exact wpS_pure ⟨⟨_, rfl⟩, hA2, hp2, by omega⟩
    · rintro c st' ⟨⟨q, rfl⟩, hA2, hp2, hx⟩
      exact ⟨⟨_, _, rfl, hx, by omega⟩, hA2, hp2⟩
    · rintro c st' ⟨⟨m, q, rfl, hm1, hm2⟩, hA2, hp2⟩
      dsimp only
      split
      · refine wpS_bind (wpS_rev hA2 rfl fun st3 hA3 hp3 => ?_)
        refine wpS_bind (wpS_rev hA3 rfl fun st4 hA4 hp4 => ?_)
        refine wpS_bind (wpS_asc (β := Nat) hA4 hN (by omega) fun k hk1 hk2 => ?_)
        exact wpS_pure (h k _ hA4 (hp4.trans (hp3.trans hp2)) (by omega) (by omega))
      · refine wpS_bind (wpS_rev hA2 rfl fun st4 hA4 hp4 => ?_)
        refine wpS_bind (wpS_asc (β := Nat) hA4 hN (by omega) fun k hk1 hk2 => ?_)
        exact wpS_pure (h k _ hA4 (hp4.trans hp2) (by omega) (by omega))
theorem wpS_bins {N : Nat} {st : SortSt} {lo n ok : Nat} {Q : Bool → SortSt → Prop} (hA : AI N st) (hN : lo + n ≤ N) (h : ∀ st', AI N st' → pendingOf st' = pendingOf st → Q true st') :
    wpS (model prog w) A E s (binarySort' lo n ok) Q st := by
  rw [binarySort'_eq]
  refine wpS_bind (wpS_mono (wpS_forRange (I := fun k c st' => c = (none, ()) ∧ AI N st' ∧ pendingOf st' = pendingOf st)
    (Q := fun c st' => c = (none, ()) ∧ AI N st' ∧ pendingOf st' = pendingOf st) ?_ (fun c st' h => h) ⟨rfl, hA, rfl⟩) ?_)
  · rintro k c st' hak hkn ⟨rfl, hA', hp'⟩
    refine wpS_bind (wpS_mono (wpS_forRange (I := fun x c st'' => st'' = st' ∧ ∃ l r, c = (none, l, r) ∧ r ≤ k)
      (Q := fun c st'' => st'' = st' ∧ ∃ l r, c = (none, l, r)) ?_ ?_ ⟨rfl, 0, k, rfl, Nat.le_refl _⟩) ?_)
    · rintro x c st'' _ hxk ⟨rfl, l, r, rfl, hrk⟩
      dsimp only
      split
      · exact wpS_pure ⟨rfl, _, _, rfl⟩
      · refine wpS_bind (wpS_ltA hA' (by omega) (by omega) fun b => ?_)
        cases b
        · exact wpS_pure ⟨rfl, _, _, rfl, hrk⟩
        · exact wpS_pure ⟨rfl, _, _, rfl, by omega⟩
    · rintro c st'' ⟨rfl, l, r, rfl, hrk⟩
      exact ⟨rfl, _, _, rfl⟩
    · rintro c st'' ⟨rfl, l, r, rfl⟩
      dsimp only
      rw [moveDown'_eq]
      exact wpS_bind (wpS_modify (wpS_pure ⟨rfl, hA'.set (bubble_perm _ _ _), hp'⟩))
  · rintro c st' ⟨rfl, hA', hp'⟩
    exact wpS_pure (h st' hA' hp')
def gallop' : Bool → Keyed → Array Keyed → Nat → Nat → Nat → StateT SortSt Sem (Option Nat) := sortPriv% PySem.Builtin.gallop
theorem wpS_gallop {st : SortSt} {left : Bool} {key : Keyed} {a : Array Keyed} {base n hint : Nat} {Q : Option Nat → SortSt → Prop} (hk : kindOf st = oneType') (hkey : ∃ k t, key = (Value.int k t, Value.int k t)) (hik : IK a)
    (hb : base + n ≤ a.size) (hh : hint < n) (h : ∀ k, k ≤ n → Q (some k) st) : wpS (model prog w) A E s (gallop' left key a base n hint) Q st := by
  have bey : ∀ (i : Nat) (R : Option Bool → SortSt → Prop), i < n → (∀ b, R (some b) st) → wpS (model prog w) A E s (do
      let x ← elem' a (base + i)
      if left = true then lt' x key else do
        let r ← lt' key x
        pure (Option.map (fun b => !b) r)) R st := by
    intro i R hi hR
    refine wpS_bind (wpS_elem (by omega) hik fun p _ hp => ?_)
    split
    · exact wpS_lt hk hp hkey hR
    · exact wpS_bind (wpS_lt hk hkey hp fun b => wpS_pure (hR _))
  unfold gallop'
  refine wpS_bind (bey hint _ hh fun b => ?_)
  cases b
  · dsimp only
    rw [if_neg Bool.false_ne_true]
    refine wpS_bind (wpS_mono (wpS_forRange (I := fun x c st' => st = st' ∧ ∃ l o, c = (none, l, o)) (Q := fun c st' => st = st' ∧ ∃ l o, c = (none, l, o)) ?_ (fun _ _ h => h) ⟨rfl, _, _, rfl⟩) ?_)
    · rintro x c st' _ hx ⟨rfl, l, o, rfl⟩
      dsimp only
      split
      · exact wpS_pure ⟨rfl, _, _, rfl⟩
      · refine wpS_bind (bey _ _ (by omega) fun b => ?_)
        cases b
        · exact wpS_pure ⟨rfl, _, _, rfl⟩
        · exact wpS_pure ⟨rfl, _, _, rfl⟩
    · rintro c st' ⟨rfl, l, o, rfl⟩
      dsimp only
      refine wpS_bind (wpS_mono (wpS_forRange (I := fun x c st' => st = st' ∧ ∃ l o, c = (none, l, o) ∧ o ≤ n) (Q := fun c st' => st = st' ∧ ∃ l o, c = (none, l, o) ∧ o ≤ n) ?_ (fun _ _ h => h) ⟨rfl, _, _, rfl, by omega⟩) ?_)
      · rintro x c st' _ hx ⟨rfl, l, o, rfl, ho⟩
        dsimp only
        split
        · exact wpS_pure ⟨rfl, _, _, rfl, ho⟩
        · refine wpS_bind (bey _ _ (by omega) fun b => ?_)
          cases b
          · exact wpS_pure ⟨rfl, _, _, rfl, by omega⟩
          · exact wpS_pure ⟨rfl, _, _, rfl, ho⟩
      · rintro c st' ⟨rfl, l, o, rfl, ho⟩
        exact wpS_pure (h o ho)
  · dsimp only
    rw [if_pos rfl]
    refine wpS_bind (wpS_mono (wpS_forRange (I := fun x c st' => st = st' ∧ ∃ l o, c = (none, l, o)) (Q := fun c st' => st = st' ∧ ∃ l o, c = (none, l, o)) ?_ (fun _ _ h => h) ⟨rfl, _, _, rfl⟩) ?_)
    · rintro x c st' _ hx ⟨rfl, l, o, rfl⟩
      dsimp only
      split
      · exact wpS_pure ⟨rfl, _, _, rfl⟩
      · refine wpS_bind (bey _ _ (by omega) fun b => ?_)
        cases b
        · exact wpS_pure ⟨rfl, _, _, rfl⟩
        · exact wpS_pure ⟨rfl, _, _, rfl⟩
    · rintro c st' ⟨rfl, l, o, rfl⟩
      dsimp only
      refine wpS_bind (wpS_mono (wpS_forRange (I := fun x c st' => st = st' ∧ ∃ l o, c = (none, l, o) ∧ o ≤ n) (Q := fun c st' => st = st' ∧ ∃ l o, c = (none, l, o) ∧ o ≤ n) ?_ (fun _ _ h => h) ⟨rfl, _, _, rfl, by omega⟩) ?_)
      · rintro x c st' _ hx ⟨rfl, l, o, rfl, ho⟩
        dsimp only
        split
        · exact wpS_pure ⟨rfl, _, _, rfl, ho⟩
        · refine wpS_bind (bey _ _ (by omega) fun b => ?_)
          cases b
          · exact wpS_pure ⟨rfl, _, _, rfl, by omega⟩
          · exact wpS_pure ⟨rfl, _, _, rfl, ho⟩
      · rintro c st' ⟨rfl, l, o, rfl, ho⟩
        exact wpS_pure (h o ho)
def mergeLo' : Array Keyed → Array Keyed → StateT SortSt Sem (Array Keyed) := sortPriv% PySem.Builtin.mergeLo
def mergeHi' : Array Keyed → Array Keyed → StateT SortSt Sem (Array Keyed) := sortPriv% PySem.Builtin.mergeHi
theorem IK.push {a : Array Keyed} {p : Keyed} (h : IK a) (hp : ∃ k t, p = (Value.int k t, Value.int k t)) : IK (a.push p) := fun i q e => by
  rw [Array.getElem?_push] at e
  split at e
  · cases e; exact hp
  · exact h i q e
theorem IK.app {a b : Array Keyed} (ha : IK a) (hb : IK b) : IK (a ++ b) := fun i q e => by
  rw [Array.getElem?_append] at e
  split at e
  · exact ha i q e
  · exact hb _ q e
theorem IK.ext {a : Array Keyed} (ha : IK a) (x y : Nat) : IK (a.extract x y) := fun i q e => by
  rw [Array.getElem?_extract] at e
  split at e
  · exact ha _ q e
  · cases e
theorem IK.rev {a : Array Keyed} (ha : IK a) : IK a.reverse := IK.perm (Array.perm_iff_toList_perm.mpr (by rw [Array.toList_reverse]; exact List.reverse_perm _)) ha
structure Good (st : SortSt) (st' : SortSt) : Prop where
  kind : kindOf st' = kindOf st
  arr : arrOf st' = arrOf st
  pend : pendingOf st' = pendingOf st
  fail : failedOf st' = failedOf st
theorem Good.refl (st : SortSt) : Good st st := ⟨rfl, rfl, rfl, rfl⟩
theorem Good.trans {a b c : SortSt} (h : Good a b) (g : Good b c) : Good a c := ⟨g.kind.trans h.kind, g.arr.trans h.arr, g.pend.trans h.pend, g.fail.trans h.fail⟩
theorem wpS_ite {c : Prop} [Decidable c] {α : Type} {m n : StateT SortSt Sem α} {Q : α → SortSt → Prop} {st : SortSt} (h1 : c → wpS (model prog w) A E s m Q st) (h2 : ¬ c → wpS (model prog w) A E s n Q st) : wpS (model prog w) A E s (if c then m else n) Q st := by
  by_cases h : c
  · rw [if_pos h]; exact h1 h
  · rw [if_neg h]; exact h2 h
def setMin' : Nat → StateT SortSt Sem Unit := sortPriv% PySem.Builtin.setMinGallop
theorem wpS_setMin {st st0 : SortSt} {g : Nat} {Q : Unit → SortSt → Prop} (h0 : Good st0 st) (h : ∀ st', Good st0 st' → Q () st') : wpS (model prog w) A E s (setMin' g) Q st := by
  unfold setMin'
  exact wpS_modify (h _ (h0.trans ⟨rfl, rfl, rfl, rfl⟩))
def Out (a b r : Array Keyed) : Prop := IK r ∧ r.size = a.size + b.size
structure ML (a b out : Array Keyed) (ia ib : Nat) : Prop where
  ik : IK out
  sz : out.size = ia + ib
  la : ia + 1 < a.size
  lb : ib < b.size
theorem wpS_mergeLo {st : SortSt} {a b : Array Keyed} {Q : Array Keyed → SortSt → Prop} (hk : kindOf st = oneType') (ha : IK a) (hb : IK b) (ha0 : 0 < a.size) (hb0 : 0 < b.size)
    (h : ∀ (r : Array Keyed) st', Good st st' → Out a b r → Q r st') : wpS (model prog w) A E s (mergeLo' a b) Q st := by
  unfold mergeLo'
  refine wpS_bind (wpS_lift (wpAny_rule ⟨rfl, ?_⟩))
  refine wpS_bind (wpS_elem hb0 hb fun p0 _ hp0 => ?_)
  dsimp only
  have ik0 : IK #[p0] := fun i q e => by
    cases i with
    | zero => simp at e; subst e; exact hp0
    | succ i => simp at e
  refine wpS_ite (fun hQ => ?_) (fun hQ => ?_)
  · have hc := hQ
    simp only [beq_iff_eq] at hc
    exact wpS_pure (h _ _ (Good.refl _) ⟨(by repeat (first | assumption | apply IK.push | apply IK.app | apply IK.ext | apply IK.rev)), (by (try simp only [Array.size_append, Array.size_push, Array.size_extract, Array.size_reverse, List.size_toArray, List.length_cons, List.length_nil]); omega)⟩)
  have hc := hQ
  simp only [beq_iff_eq] at hc
  refine wpS_ite (fun hQ => ?_) (fun hQ => ?_)
  · have hc2 := hQ
    simp only [beq_iff_eq] at hc2
    exact wpS_pure (h _ _ (Good.refl _) ⟨(by repeat (first | assumption | apply IK.push | apply IK.app | apply IK.ext | apply IK.rev)), (by (try simp only [Array.size_append, Array.size_push, Array.size_extract, Array.size_reverse, List.size_toArray, List.length_cons, List.length_nil]); omega)⟩)
  have hc2 := hQ
  simp only [beq_iff_eq] at hc2
  refine wpS_bind (wpS_get ?_)
  refine wpS_bind (wpS_mono (wpS_forRange (I := fun x c st' => Good st st' ∧ ∃ out ia ib mg, c = (none, out, ia, ib, mg) ∧ ML a b out ia ib ∧ x < out.size)
    (Q := fun c st' => Good st st' ∧ ∃ r out ia ib mg, c = (some r, out, ia, ib, mg) ∧ Out a b r) ?_ ?_ ⟨Good.refl _, _, _, _, _, rfl, ⟨ik0, rfl, by omega, by omega⟩, by show 0 < 1; decide⟩) ?_)
  · rintro x c st1 _ hx ⟨g1, out, ia, ib, mg, rfl, M, hxo⟩
    obtain ⟨ik1, sz1, la1, lb1⟩ := M
    refine wpS_bind (wpS_mono (wpS_forRange (I := fun y c st' => Good st st' ∧ ∃ o ja jb p q, c = (none, o, ja, jb, p, q) ∧ ML a b o ja jb ∧ o.size = out.size + y)
      (Q := fun c st' => Good st st' ∧ ((∃ r o ja jb p q, c = (some r, o, ja, jb, p, q) ∧ Out a b r) ∨ (∃ o ja jb p q, c = (none, o, ja, jb, p, q) ∧ ML a b o ja jb ∧ out.size < o.size))) ?_ ?_ ⟨g1, _, _, _, _, _, rfl, ⟨ik1, sz1, la1, lb1⟩, rfl⟩) ?_)
    · rintro y c st2 _ hy ⟨g2, o, ja, jb, p, q, rfl, ⟨ik2, sz2, la2, lb2⟩, ho⟩
      refine wpS_bind (wpS_elem lb2 hb fun pb _ hpb => ?_)
      refine wpS_bind (wpS_elem (i := ja) (by omega) ha fun pa _ hpa => ?_)
      refine wpS_bind (wpS_lt (g2.kind.trans hk) hpb hpa fun bw => ?_)
      dsimp only
      cases bw
      · rw [if_neg Bool.false_ne_true]
        refine wpS_bind (wpS_elem (by omega) ha fun pa2 _ hpa2 => ?_)
        refine wpS_ite (fun hQ => ?_) (fun hQ => ?_)
        · have h1 := hQ
          simp only [beq_iff_eq] at h1
          exact wpS_pure ⟨g2, .inl ⟨_, _, _, _, _, _, rfl, (by repeat (first | assumption | apply IK.push | apply IK.app | apply IK.ext | apply IK.rev)), (by (try simp only [Array.size_append, Array.size_push, Array.size_extract, Array.size_reverse, List.size_toArray, List.length_cons, List.length_nil]); omega)⟩⟩
        have h1 := hQ
        simp only [beq_iff_eq] at h1
        refine wpS_ite (fun hQ => ?_) (fun hQ => ?_)
        · exact wpS_pure ⟨g2, .inr ⟨_, _, _, _, _, rfl, ⟨(by repeat (first | assumption | apply IK.push | apply IK.app | apply IK.ext | apply IK.rev)), (by (try simp only [Array.size_append, Array.size_push, Array.size_extract, Array.size_reverse, List.size_toArray, List.length_cons, List.length_nil]); omega), by omega, by omega⟩, (by (try simp only [Array.size_append, Array.size_push, Array.size_extract, Array.size_reverse, List.size_toArray, List.length_cons, List.length_nil]); omega)⟩⟩
        · exact wpS_pure ⟨g2, _, _, _, _, _, rfl, ⟨(by repeat (first | assumption | apply IK.push | apply IK.app | apply IK.ext | apply IK.rev)), (by (try simp only [Array.size_append, Array.size_push, Array.size_extract, Array.size_reverse, List.size_toArray, List.length_cons, List.length_nil]); omega), by omega, by omega⟩, (by (try simp only [Array.size_append, Array.size_push, Array.size_extract, Array.size_reverse, List.size_toArray, List.length_cons, List.length_nil]); omega)⟩
      · rw [if_pos rfl]
        refine wpS_bind (wpS_elem lb2 hb fun pb2 _ hpb2 => ?_)
        refine wpS_ite (fun hQ => ?_) (fun hQ => ?_)
        · have h1 := hQ
          simp only [beq_iff_eq] at h1
          exact wpS_pure ⟨g2, .inl ⟨_, _, _, _, _, _, rfl, (by repeat (first | assumption | apply IK.push | apply IK.app | apply IK.ext | apply IK.rev)), (by (try simp only [Array.size_append, Array.size_push, Array.size_extract, Array.size_reverse, List.size_toArray, List.length_cons, List.length_nil]); omega)⟩⟩
        have h1 := hQ
        simp only [beq_iff_eq] at h1
        refine wpS_ite (fun hQ => ?_) (fun hQ => ?_)
        · exact wpS_pure ⟨g2, .inr ⟨_, _, _, _, _, rfl, ⟨(by repeat (first | assumption | apply IK.push | apply IK.app | apply IK.ext | apply IK.rev)), (by (try simp only [Array.size_append, Array.size_push, Array.size_extract, Array.size_reverse, List.size_toArray, List.length_cons, List.length_nil]); omega), by omega, by omega⟩, (by (try simp only [Array.size_append, Array.size_push, Array.size_extract, Array.size_reverse, List.size_toArray, List.length_cons, List.length_nil]); omega)⟩⟩
        · exact wpS_pure ⟨g2, _, _, _, _, _, rfl, ⟨(by repeat (first | assumption | apply IK.push | apply IK.app | apply IK.ext | apply IK.rev)), (by (try simp only [Array.size_append, Array.size_push, Array.size_extract, Array.size_reverse, List.size_toArray, List.length_cons, List.length_nil]); omega), by omega, by omega⟩, (by (try simp only [Array.size_append, Array.size_push, Array.size_extract, Array.size_reverse, List.size_toArray, List.length_cons, List.length_nil]); omega)⟩
    · rintro c st2 ⟨g2, o, ja, jb, p, q, rfl, M2, ho⟩
      exact ⟨g2, .inr ⟨_, _, _, _, _, rfl, M2, by omega⟩⟩
    rintro c st2 ⟨g2, ⟨r, o, ja, jb, p, q, rfl, hr⟩ | ⟨o, ja, jb, p, q, rfl, M2, ho⟩⟩
    · exact wpS_pure ⟨g2, _, _, _, _, _, rfl, hr⟩
    dsimp only
    refine wpS_bind (wpS_lift (wpAny_rule ⟨rfl, ?_⟩))
    refine wpS_bind (wpS_mono (wpS_forRange (I := fun y c st' => Good st st' ∧ ∃ o ja jb m p q, c = (none, o, ja, jb, m, p, q) ∧ ML a b o ja jb ∧ out.size < o.size)
      (Q := fun c st' => Good st st' ∧ ((∃ r o ja jb m p q, c = (some r, o, ja, jb, m, p, q) ∧ Out a b r) ∨ (∃ o ja jb m p q, c = (none, o, ja, jb, m, p, q) ∧ ML a b o ja jb ∧ out.size < o.size))) ?_ ?_ ⟨g2, _, _, _, _, _, _, rfl, M2, ho⟩) ?_)
    · rintro y c st3 _ hy ⟨g3, o, ja, jb, m, p, q, rfl, ⟨ik2, sz2, la2, lb2⟩, ho⟩
      dsimp only
      refine wpS_ite (fun hQ => ?_) (fun hQ => ?_)
      all_goals
        refine wpS_bind (wpS_setMin g3 fun st4 g4 => ?_)
        refine wpS_bind (wpS_elem lb2 hb fun pb _ hpb => ?_)
        refine wpS_bind (wpS_gallop (g4.kind.trans hk) hpb ha (by omega) (by omega) fun k hkk => ?_)
        dsimp only
        refine wpS_ite (fun hQ => ?_) (fun hQ => ?_)
        · refine wpS_ite (fun hQ => ?_) (fun hQ => ?_)
          · have h1 := hQ
            simp only [beq_iff_eq] at h1
            exact wpS_pure ⟨g4, .inl ⟨_, _, _, _, _, _, _, rfl, (by repeat (first | assumption | apply IK.push | apply IK.app | apply IK.ext | apply IK.rev)), (by (try simp only [Array.size_append, Array.size_push, Array.size_extract, Array.size_reverse, List.size_toArray, List.length_cons, List.length_nil]); omega)⟩⟩
          have h1 := hQ
          simp only [beq_iff_eq] at h1
          refine wpS_ite (fun hQ => ?_) (fun hQ => ?_)
          · have h2 := hQ
            simp only [beq_iff_eq] at h2
            exact wpS_pure ⟨g4, .inl ⟨_, _, _, _, _, _, _, rfl, (by repeat (first | assumption | apply IK.push | apply IK.app | apply IK.ext | apply IK.rev)), (by (try simp only [Array.size_append, Array.size_push, Array.size_extract, Array.size_reverse, List.size_toArray, List.length_cons, List.length_nil]); omega)⟩⟩
          have h2 := hQ
          simp only [beq_iff_eq] at h2
          refine wpS_bind (wpS_elem lb2 hb fun pb2 _ hpb2 => ?_)
          refine wpS_ite (fun hQ => ?_) (fun hQ => ?_)
          · have h3 := hQ
            simp only [beq_iff_eq] at h3
            exact wpS_pure ⟨g4, .inl ⟨_, _, _, _, _, _, _, rfl, (by repeat (first | assumption | apply IK.push | apply IK.app | apply IK.ext | apply IK.rev)), (by (try simp only [Array.size_append, Array.size_push, Array.size_extract, Array.size_reverse, List.size_toArray, List.length_cons, List.length_nil]); omega)⟩⟩
          have h3 := hQ
          simp only [beq_iff_eq] at h3
          refine wpS_bind (wpS_elem (by omega) ha fun pa _ hpa => ?_)
          refine wpS_bind (wpS_gallop (g4.kind.trans hk) hpa hb (by omega) (by omega) fun k2 hk2 => ?_)
          dsimp only
          refine wpS_ite (fun hQ => ?_) (fun hQ => ?_)
          · refine wpS_ite (fun hQ => ?_) (fun hQ => ?_)
            · have h4 := hQ
              simp only [beq_iff_eq] at h4
              exact wpS_pure ⟨g4, .inl ⟨_, _, _, _, _, _, _, rfl, (by repeat (first | assumption | apply IK.push | apply IK.app | apply IK.ext | apply IK.rev)), (by (try simp only [Array.size_append, Array.size_push, Array.size_extract, Array.size_reverse, List.size_toArray, List.length_cons, List.length_nil]); omega)⟩⟩
            have h4 := hQ
            simp only [beq_iff_eq] at h4
            refine wpS_bind (wpS_elem (by omega) ha fun pa2 _ hpa2 => ?_)
            refine wpS_ite (fun hQ => ?_) (fun hQ => ?_)
            · have h5 := hQ
              simp only [beq_iff_eq] at h5
              exact wpS_pure ⟨g4, .inl ⟨_, _, _, _, _, _, _, rfl, (by repeat (first | assumption | apply IK.push | apply IK.app | apply IK.ext | apply IK.rev)), (by (try simp only [Array.size_append, Array.size_push, Array.size_extract, Array.size_reverse, List.size_toArray, List.length_cons, List.length_nil]); omega)⟩⟩
            have h5 := hQ
            simp only [beq_iff_eq] at h5
            refine wpS_ite (fun hQ => ?_) (fun hQ => ?_)
            · exact wpS_pure ⟨g4, .inr ⟨_, _, _, _, _, _, rfl, ⟨(by repeat (first | assumption | apply IK.push | apply IK.app | apply IK.ext | apply IK.rev)), (by (try simp only [Array.size_append, Array.size_push, Array.size_extract, Array.size_reverse, List.size_toArray, List.length_cons, List.length_nil]); omega), by omega, by omega⟩, (by (try simp only [Array.size_append, Array.size_push, Array.size_extract, Array.size_reverse, List.size_toArray, List.length_cons, List.length_nil]); omega)⟩⟩
            · exact wpS_pure ⟨g4, _, _, _, _, _, _, rfl, ⟨(by repeat (first | assumption | apply IK.push | apply IK.app | apply IK.ext | apply IK.rev)), (by (try simp only [Array.size_append, Array.size_push, Array.size_extract, Array.size_reverse, List.size_toArray, List.length_cons, List.length_nil]); omega), by omega, by omega⟩, (by (try simp only [Array.size_append, Array.size_push, Array.size_extract, Array.size_reverse, List.size_toArray, List.length_cons, List.length_nil]); omega)⟩
          · refine wpS_bind (wpS_elem (by omega) ha fun pa2 _ hpa2 => ?_)
            refine wpS_ite (fun hQ => ?_) (fun hQ => ?_)
            · have h5 := hQ
              simp only [beq_iff_eq] at h5
              exact wpS_pure ⟨g4, .inl ⟨_, _, _, _, _, _, _, rfl, (by repeat (first | assumption | apply IK.push | apply IK.app | apply IK.ext | apply IK.rev)), (by (try simp only [Array.size_append, Array.size_push, Array.size_extract, Array.size_reverse, List.size_toArray, List.length_cons, List.length_nil]); omega)⟩⟩
            have h5 := hQ
            simp only [beq_iff_eq] at h5
            refine wpS_ite (fun hQ => ?_) (fun hQ => ?_)
            · exact wpS_pure ⟨g4, .inr ⟨_, _, _, _, _, _, rfl, ⟨(by repeat (first | assumption | apply IK.push | apply IK.app | apply IK.ext | apply IK.rev)), (by (try simp only [Array.size_append, Array.size_push, Array.size_extract, Array.size_reverse, List.size_toArray, List.length_cons, List.length_nil]); omega), by omega, by omega⟩, (by (try simp only [Array.size_append, Array.size_push, Array.size_extract, Array.size_reverse, List.size_toArray, List.length_cons, List.length_nil]); omega)⟩⟩
            · exact wpS_pure ⟨g4, _, _, _, _, _, _, rfl, ⟨(by repeat (first | assumption | apply IK.push | apply IK.app | apply IK.ext | apply IK.rev)), (by (try simp only [Array.size_append, Array.size_push, Array.size_extract, Array.size_reverse, List.size_toArray, List.length_cons, List.length_nil]); omega), by omega, by omega⟩, (by (try simp only [Array.size_append, Array.size_push, Array.size_extract, Array.size_reverse, List.size_toArray, List.length_cons, List.length_nil]); omega)⟩
        · refine wpS_bind (wpS_elem lb2 hb fun pb2 _ hpb2 => ?_)
          refine wpS_ite (fun hQ => ?_) (fun hQ => ?_)
          · have h3 := hQ
            simp only [beq_iff_eq] at h3
            exact wpS_pure ⟨g4, .inl ⟨_, _, _, _, _, _, _, rfl, (by repeat (first | assumption | apply IK.push | apply IK.app | apply IK.ext | apply IK.rev)), (by (try simp only [Array.size_append, Array.size_push, Array.size_extract, Array.size_reverse, List.size_toArray, List.length_cons, List.length_nil]); omega)⟩⟩
          have h3 := hQ
          simp only [beq_iff_eq] at h3
          refine wpS_bind (wpS_elem (by omega) ha fun pa _ hpa => ?_)
          refine wpS_bind (wpS_gallop (g4.kind.trans hk) hpa hb (by omega) (by omega) fun k2 hk2 => ?_)
          dsimp only
          refine wpS_ite (fun hQ => ?_) (fun hQ => ?_)
          · refine wpS_ite (fun hQ => ?_) (fun hQ => ?_)
            · have h4 := hQ
              simp only [beq_iff_eq] at h4
              exact wpS_pure ⟨g4, .inl ⟨_, _, _, _, _, _, _, rfl, (by repeat (first | assumption | apply IK.push | apply IK.app | apply IK.ext | apply IK.rev)), (by (try simp only [Array.size_append, Array.size_push, Array.size_extract, Array.size_reverse, List.size_toArray, List.length_cons, List.length_nil]); omega)⟩⟩
            have h4 := hQ
            simp only [beq_iff_eq] at h4
            refine wpS_bind (wpS_elem (by omega) ha fun pa2 _ hpa2 => ?_)
            refine wpS_ite (fun hQ => ?_) (fun hQ => ?_)
            · have h5 := hQ
              simp only [beq_iff_eq] at h5
              exact wpS_pure ⟨g4, .inl ⟨_, _, _, _, _, _, _, rfl, (by repeat (first | assumption | apply IK.push | apply IK.app | apply IK.ext | apply IK.rev)), (by (try simp only [Array.size_append, Array.size_push, Array.size_extract, Array.size_reverse, List.size_toArray, List.length_cons, List.length_nil]); omega)⟩⟩
            have h5 := hQ
            simp only [beq_iff_eq] at h5
            refine wpS_ite (fun hQ => ?_) (fun hQ => ?_)
            · exact wpS_pure ⟨g4, .inr ⟨_, _, _, _, _, _, rfl, ⟨(by repeat (first | assumption | apply IK.push | apply IK.app | apply IK.ext | apply IK.rev)), (by (try simp only [Array.size_append, Array.size_push, Array.size_extract, Array.size_reverse, List.size_toArray, List.length_cons, List.length_nil]); omega), by omega, by omega⟩, (by (try simp only [Array.size_append, Array.size_push, Array.size_extract, Array.size_reverse, List.size_toArray, List.length_cons, List.length_nil]); omega)⟩⟩
            · exact wpS_pure ⟨g4, _, _, _, _, _, _, rfl, ⟨(by repeat (first | assumption | apply IK.push | apply IK.app | apply IK.ext | apply IK.rev)), (by (try simp only [Array.size_append, Array.size_push, Array.size_extract, Array.size_reverse, List.size_toArray, List.length_cons, List.length_nil]); omega), by omega, by omega⟩, (by (try simp only [Array.size_append, Array.size_push, Array.size_extract, Array.size_reverse, List.size_toArray, List.length_cons, List.length_nil]); omega)⟩
          · refine wpS_bind (wpS_elem (by omega) ha fun pa2 _ hpa2 => ?_)
            refine wpS_ite (fun hQ => ?_) (fun hQ => ?_)
            · have h5 := hQ
              simp only [beq_iff_eq] at h5
              exact wpS_pure ⟨g4, .inl ⟨_, _, _, _, _, _, _, rfl, (by repeat (first | assumption | apply IK.push | apply IK.app | apply IK.ext | apply IK.rev)), (by (try simp only [Array.size_append, Array.size_push, Array.size_extract, Array.size_reverse, List.size_toArray, List.length_cons, List.length_nil]); omega)⟩⟩
            have h5 := hQ
            simp only [beq_iff_eq] at h5
            refine wpS_ite (fun hQ => ?_) (fun hQ => ?_)
            · exact wpS_pure ⟨g4, .inr ⟨_, _, _, _, _, _, rfl, ⟨(by repeat (first | assumption | apply IK.push | apply IK.app | apply IK.ext | apply IK.rev)), (by (try simp only [Array.size_append, Array.size_push, Array.size_extract, Array.size_reverse, List.size_toArray, List.length_cons, List.length_nil]); omega), by omega, by omega⟩, (by (try simp only [Array.size_append, Array.size_push, Array.size_extract, Array.size_reverse, List.size_toArray, List.length_cons, List.length_nil]); omega)⟩⟩
            · exact wpS_pure ⟨g4, _, _, _, _, _, _, rfl, ⟨(by repeat (first | assumption | apply IK.push | apply IK.app | apply IK.ext | apply IK.rev)), (by (try simp only [Array.size_append, Array.size_push, Array.size_extract, Array.size_reverse, List.size_toArray, List.length_cons, List.length_nil]); omega), by omega, by omega⟩, (by (try simp only [Array.size_append, Array.size_push, Array.size_extract, Array.size_reverse, List.size_toArray, List.length_cons, List.length_nil]); omega)⟩
    · rintro c st3 ⟨g3, o, ja, jb, m, p, q, rfl, M3, ho⟩
      exact ⟨g3, .inr ⟨_, _, _, _, _, _, rfl, M3, ho⟩⟩
    rintro c st3 ⟨g3, ⟨r, o, ja, jb, m, p, q, rfl, hr⟩ | ⟨o, ja, jb, m, p, q, rfl, M3, ho⟩⟩
    · exact wpS_pure ⟨g3, _, _, _, _, _, rfl, hr⟩
    · dsimp only
      exact wpS_bind (wpS_setMin g3 fun st4 g4 => wpS_pure ⟨g4, _, _, _, _, rfl, M3, by omega⟩)
  · rintro c st1 ⟨g1, out, ia, ib, mg, rfl, M, hxo⟩
    exfalso
    have := M.sz
    have := M.la
    have := M.lb
    omega
  · rintro c st1 ⟨g1, r, out, ia, ib, mg, rfl, hr⟩
    exact wpS_pure (h r st1 g1 hr)
end
end S64

namespace S64
open PySem PyProof.Rows
section
variable {prog : Program} {w : World} {A : Around} {E : Value → Shared → Prop} {s : Shared}
structure MT (a b : Array Keyed) (na nb : Nat) (out : Array Keyed) : Prop where
  ik : IK out
  sz : out.size + na + nb = a.size + b.size
  la : na ≤ a.size
  lb : nb ≤ b.size
section
variable {a b out : Array Keyed} {na nb k : Nat} {p : Keyed}
theorem MT.pushA (t : MT a b na nb out) (h : 0 < na) (hp : ∃ k t, p = (Value.int k t, Value.int k t)) : MT a b (na - 1) nb (out.push p) := by
  obtain ⟨x, y, z, u⟩ := t
  refine ⟨x.push hp, ?_, by omega, u⟩
  rw [Array.size_push]; omega
theorem MT.pushB (t : MT a b na nb out) (h : 0 < nb) (hp : ∃ k t, p = (Value.int k t, Value.int k t)) : MT a b na (nb - 1) (out.push p) := by
  obtain ⟨x, y, z, u⟩ := t
  refine ⟨x.push hp, ?_, z, by omega⟩
  rw [Array.size_push]; omega
theorem MT.appA (t : MT a b na nb out) (h : k ≤ na) (ha : IK a) : MT a b k nb (out ++ (a.extract k na).reverse) := by
  obtain ⟨x, y, z, u⟩ := t
  refine ⟨x.app (ha.ext _ _).rev, ?_, by omega, u⟩
  rw [Array.size_append, Array.size_reverse, Array.size_extract, Nat.min_eq_left z]; omega
theorem MT.appB (t : MT a b na nb out) (h : k ≤ nb) (hb : IK b) : MT a b na k (out ++ (b.extract k nb).reverse) := by
  obtain ⟨x, y, z, u⟩ := t
  refine ⟨x.app (hb.ext _ _).rev, ?_, z, by omega⟩
  rw [Array.size_append, Array.size_reverse, Array.size_extract, Nat.min_eq_left u]; omega
theorem MT.done (t : MT a b na nb out) (ha : IK a) (hb : IK b) : Out a b (a.extract 0 na ++ b.extract 0 nb ++ out.reverse) := by
  obtain ⟨x, y, z, u⟩ := t
  refine ⟨((ha.ext _ _).app (hb.ext _ _)).app x.rev, ?_⟩
  rw [Array.size_append, Array.size_append, Array.size_reverse, Array.size_extract, Array.size_extract, Nat.min_eq_left z, Nat.min_eq_left u]; omega
theorem MT.first (t : MT a b na nb out) (ha : IK a) (hb : IK b) : Out a b (b.extract 0 nb ++ a.extract 0 na ++ out.reverse) := by
  obtain ⟨x, y, z, u⟩ := t
  refine ⟨((hb.ext _ _).app (ha.ext _ _)).app x.rev, ?_⟩
  rw [Array.size_append, Array.size_append, Array.size_reverse, Array.size_extract, Array.size_extract, Nat.min_eq_left z, Nat.min_eq_left u]; omega
end
theorem nbe {x y : Nat} (h : ¬ (x == y) = true) : ¬ x = y := fun e => h (beq_iff_eq.mpr e)
theorem wpS_mergeHi {st : SortSt} {a b : Array Keyed} {Q : Array Keyed → SortSt → Prop} (hk : kindOf st = oneType') (ha : IK a) (hb : IK b) (ha0 : 0 < a.size) (hb0 : 0 < b.size)
    (h : ∀ (r : Array Keyed) st', Good st st' → Out a b r → Q r st') : wpS (model prog w) A E s (mergeHi' a b) Q st := by
  unfold mergeHi'
  refine wpS_bind (wpS_lift (wpAny_rule ⟨rfl, ?_⟩))
  refine wpS_bind (wpS_elem (i := a.size - 1) (by omega) ha fun p0 _ hp0 => ?_)
  dsimp only
  have t0 : MT a b (a.size - 1) b.size #[p0] := by
    refine ⟨fun i q e => ?_, ?_, by omega, Nat.le_refl _⟩
    · cases i with
      | zero => simp at e; subst e; exact hp0
      | succ i => simp at e
    · show 1 + (a.size - 1) + b.size = a.size + b.size
      omega
  refine wpS_ite (fun hQ => ?_) (fun hQ => ?_)
  · exact wpS_pure (h _ _ (Good.refl _) (t0.done ha hb))
  have hc := nbe hQ
  refine wpS_ite (fun hQ => ?_) (fun hQ => ?_)
  · exact wpS_pure (h _ _ (Good.refl _) (t0.first ha hb))
  have hc2 := nbe hQ
  refine wpS_bind (wpS_get ?_)
  refine wpS_bind (wpS_mono (wpS_forRange (I := fun x c st' => Good st st' ∧ ∃ na nb out mg, c = (none, na, nb, out, mg) ∧ MT a b na nb out ∧ 0 < na ∧ 1 < nb ∧ x + na + nb < a.size + b.size)
    (Q := fun c st' => Good st st' ∧ ∃ r na nb out mg, c = (some r, na, nb, out, mg) ∧ Out a b r) ?_ ?_ ⟨Good.refl _, _, _, _, _, rfl, t0, by omega, by omega, by omega⟩) ?_)
  · clear hQ hc hc2 t0
    rintro x c st1 _ hx ⟨g1, na, nb, out, mg, rfl, t1, la1, lb1, hm⟩
    refine wpS_bind (wpS_mono (wpS_forRange (I := fun y c st' => Good st st' ∧ ∃ ja jb o p q, c = (none, ja, jb, o, p, q) ∧ MT a b ja jb o ∧ 0 < ja ∧ 1 < jb ∧ y + ja + jb = na + nb)
      (Q := fun c st' => Good st st' ∧ ((∃ r ja jb o p q, c = (some r, ja, jb, o, p, q) ∧ Out a b r) ∨ (∃ ja jb o p q, c = (none, ja, jb, o, p, q) ∧ MT a b ja jb o ∧ 0 < ja ∧ 1 < jb ∧ ja + jb < na + nb))) ?_ ?_ ⟨g1, na, nb, out, _, _, rfl, t1, la1, lb1, by omega⟩) ?_)
    · rintro y c st2 _ hy ⟨g2, ja, jb, o, p, q, rfl, t2, la2, lb2, ho⟩
      refine wpS_bind (wpS_elem (i := jb - 1) (by have := t2.lb; omega) hb fun pb _ hpb => ?_)
      refine wpS_bind (wpS_elem (i := ja - 1) (by have := t2.la; omega) ha fun pa _ hpa => ?_)
      refine wpS_bind (wpS_lt (g2.kind.trans hk) hpb hpa fun bw => ?_)
      dsimp only
      cases bw
      · rw [if_neg Bool.false_ne_true]
        refine wpS_bind (wpS_elem (by have := t2.lb; omega) hb fun pa2 _ hpa2 => ?_)
        have t3 := t2.pushB (by omega) hpa2
        refine wpS_ite (fun hQ => ?_) (fun hQ => ?_)
        · exact wpS_pure ⟨g2, .inl ⟨_, _, _, _, _, _, rfl, t3.first ha hb⟩⟩
        have h1 := nbe hQ
        refine wpS_ite (fun hQ => ?_) (fun hQ => ?_)
        · exact wpS_pure ⟨g2, .inr ⟨_, _, _, _, _, rfl, t3, by omega, by omega, by omega⟩⟩
        · exact wpS_pure ⟨g2, _, _, _, _, _, rfl, t3, by omega, by omega, by omega⟩
      · rw [if_pos rfl]
        refine wpS_bind (wpS_elem (by have := t2.la; omega) ha fun pb2 _ hpb2 => ?_)
        have t3 := t2.pushA (by omega) hpb2
        refine wpS_ite (fun hQ => ?_) (fun hQ => ?_)
        · exact wpS_pure ⟨g2, .inl ⟨_, _, _, _, _, _, rfl, t3.done ha hb⟩⟩
        have h1 := nbe hQ
        refine wpS_ite (fun hQ => ?_) (fun hQ => ?_)
        · exact wpS_pure ⟨g2, .inr ⟨_, _, _, _, _, rfl, t3, by omega, by omega, by omega⟩⟩
        · exact wpS_pure ⟨g2, _, _, _, _, _, rfl, t3, by omega, by omega, by omega⟩
    · rintro c st2 ⟨g2, ja, jb, o, p, q, rfl, t2, la2, lb2, ho⟩
      exact ⟨g2, .inr ⟨_, _, _, _, _, rfl, t2, la2, lb2, by omega⟩⟩
    rintro c st2 ⟨g2, ⟨r, ja, jb, o, p, q, rfl, hr⟩ | ⟨ja, jb, o, p, q, rfl, t2, la2, lb2, ho⟩⟩
    · exact wpS_pure ⟨g2, _, _, _, _, _, rfl, hr⟩
    dsimp only
    refine wpS_bind (wpS_lift (wpAny_rule ⟨rfl, ?_⟩))
    refine wpS_bind (wpS_mono (wpS_forRange (I := fun y c st' => Good st st' ∧ ∃ ja jb o m p q, c = (none, ja, jb, o, m, p, q) ∧ MT a b ja jb o ∧ 0 < ja ∧ 1 < jb ∧ ja + jb < na + nb)
      (Q := fun c st' => Good st st' ∧ ((∃ r ja jb o m p q, c = (some r, ja, jb, o, m, p, q) ∧ Out a b r) ∨ (∃ ja jb o m p q, c = (none, ja, jb, o, m, p, q) ∧ MT a b ja jb o ∧ 0 < ja ∧ 1 < jb ∧ ja + jb < na + nb))) ?_ ?_ ⟨g2, _, _, _, _, _, _, rfl, t2, la2, lb2, ho⟩) ?_)
    · clear hx hm t1 la1 lb1 t2 la2 lb2 ho
      rintro y c st3 _ hy ⟨g3, ja, jb, o, m, p, q, rfl, t1, la1, lb1, ho⟩
      clear hy
      dsimp only
      refine wpS_ite (fun hQ => ?_) (fun hQ => ?_)
      all_goals
        clear hQ
        refine wpS_bind (wpS_setMin g3 fun st4 g4 => ?_)
        refine wpS_bind (wpS_elem (by have := t1.lb; omega) hb fun pb _ hpb => ?_)
        refine wpS_bind (wpS_gallop (g4.kind.trans hk) hpb ha (by have := t1.la; omega) (by omega) fun k hkk => ?_)
        dsimp only
        refine wpS_ite (fun hQ => ?_) (fun hQ => ?_)
        · have t5 := t1.appA hkk ha
          refine wpS_ite (fun hR => ?_) (fun hR => ?_)
          · exact wpS_pure ⟨g4, .inl ⟨_, _, _, _, _, _, _, rfl, t5.done ha hb⟩⟩
          have h1 := nbe hR
          refine wpS_bind (wpS_elem (by have := t5.lb; omega) hb fun pb2 _ hpb2 => ?_)
          have t2 := t5.pushB (by omega) hpb2
          refine wpS_ite (fun hR => ?_) (fun hR => ?_)
          · exact wpS_pure ⟨g4, .inl ⟨_, _, _, _, _, _, _, rfl, t2.first ha hb⟩⟩
          have h3 := nbe hR
          refine wpS_bind (wpS_elem (by have := t5.la; omega) ha fun pa _ hpa => ?_)
          refine wpS_bind (wpS_gallop (g4.kind.trans hk) hpa hb (by have := t5.lb; omega) (by omega) fun k2 hk2 => ?_)
          dsimp only
          refine wpS_ite (fun hR => ?_) (fun hR => ?_)
          · have t3 := t2.appB hk2 hb
            refine wpS_ite (fun hR => ?_) (fun hR => ?_)
            · exact wpS_pure ⟨g4, .inl ⟨_, _, _, _, _, _, _, rfl, t3.first ha hb⟩⟩
            have h4 := nbe hR
            refine wpS_ite (fun hR => ?_) (fun hR => ?_)
            · exact wpS_pure ⟨g4, .inl ⟨_, _, _, _, _, _, _, rfl, t3.done ha hb⟩⟩
            have h6 := nbe hR
            refine wpS_bind (wpS_elem (by have := t3.la; omega) ha fun pa2 _ hpa2 => ?_)
            have t4 := t3.pushA (by omega) hpa2
            refine wpS_ite (fun hR => ?_) (fun hR => ?_)
            · exact wpS_pure ⟨g4, .inl ⟨_, _, _, _, _, _, _, rfl, t4.done ha hb⟩⟩
            have h5 := nbe hR
            refine wpS_ite (fun hR => ?_) (fun hR => ?_)
            · exact wpS_pure ⟨g4, .inr ⟨_, _, _, _, _, _, rfl, t4, by omega, by omega, by omega⟩⟩
            · exact wpS_pure ⟨g4, _, _, _, _, _, _, rfl, t4, by omega, by omega, by omega⟩
          · refine wpS_bind (wpS_elem (by have := t2.la; omega) ha fun pa2 _ hpa2 => ?_)
            have t4 := t2.pushA (by omega) hpa2
            refine wpS_ite (fun hR => ?_) (fun hR => ?_)
            · exact wpS_pure ⟨g4, .inl ⟨_, _, _, _, _, _, _, rfl, t4.done ha hb⟩⟩
            have h5 := nbe hR
            refine wpS_ite (fun hR => ?_) (fun hR => ?_)
            · exact wpS_pure ⟨g4, .inr ⟨_, _, _, _, _, _, rfl, t4, by omega, by omega, by omega⟩⟩
            · exact wpS_pure ⟨g4, _, _, _, _, _, _, rfl, t4, by omega, by omega, by omega⟩
        · refine wpS_bind (wpS_elem (by have := t1.lb; omega) hb fun pb2 _ hpb2 => ?_)
          have t2 := t1.pushB (by omega) hpb2
          refine wpS_ite (fun hR => ?_) (fun hR => ?_)
          · exact wpS_pure ⟨g4, .inl ⟨_, _, _, _, _, _, _, rfl, t2.first ha hb⟩⟩
          have h3 := nbe hR
          refine wpS_bind (wpS_elem (by have := t1.la; omega) ha fun pa _ hpa => ?_)
          refine wpS_bind (wpS_gallop (g4.kind.trans hk) hpa hb (by have := t1.lb; omega) (by omega) fun k2 hk2 => ?_)
          dsimp only
          refine wpS_ite (fun hR => ?_) (fun hR => ?_)
          · have t3 := t2.appB hk2 hb
            refine wpS_ite (fun hR => ?_) (fun hR => ?_)
            · exact wpS_pure ⟨g4, .inl ⟨_, _, _, _, _, _, _, rfl, t3.first ha hb⟩⟩
            have h4 := nbe hR
            refine wpS_ite (fun hR => ?_) (fun hR => ?_)
            · exact wpS_pure ⟨g4, .inl ⟨_, _, _, _, _, _, _, rfl, t3.done ha hb⟩⟩
            have h6 := nbe hR
            refine wpS_bind (wpS_elem (by have := t3.la; omega) ha fun pa2 _ hpa2 => ?_)
            have t4 := t3.pushA (by omega) hpa2
            refine wpS_ite (fun hR => ?_) (fun hR => ?_)
            · exact wpS_pure ⟨g4, .inl ⟨_, _, _, _, _, _, _, rfl, t4.done ha hb⟩⟩
            have h5 := nbe hR
            refine wpS_ite (fun hR => ?_) (fun hR => ?_)
            · exact wpS_pure ⟨g4, .inr ⟨_, _, _, _, _, _, rfl, t4, by omega, by omega, by omega⟩⟩
            · exact wpS_pure ⟨g4, _, _, _, _, _, _, rfl, t4, by omega, by omega, by omega⟩
          · refine wpS_bind (wpS_elem (by have := t2.la; omega) ha fun pa2 _ hpa2 => ?_)
            have t4 := t2.pushA (by omega) hpa2
            refine wpS_ite (fun hR => ?_) (fun hR => ?_)
            · exact wpS_pure ⟨g4, .inl ⟨_, _, _, _, _, _, _, rfl, t4.done ha hb⟩⟩
            have h5 := nbe hR
            refine wpS_ite (fun hR => ?_) (fun hR => ?_)
            · exact wpS_pure ⟨g4, .inr ⟨_, _, _, _, _, _, rfl, t4, by omega, by omega, by omega⟩⟩
            · exact wpS_pure ⟨g4, _, _, _, _, _, _, rfl, t4, by omega, by omega, by omega⟩
    · rintro c st3 ⟨g3, ja, jb, o, m, p, q, rfl, M3⟩
      exact ⟨g3, .inr ⟨_, _, _, _, _, _, rfl, M3⟩⟩
    rintro c st3 ⟨g3, ⟨r, ja, jb, o, m, p, q, rfl, hr⟩ | ⟨ja, jb, o, m, p, q, rfl, t3, la3, lb3, ho3⟩⟩
    · exact wpS_pure ⟨g3, _, _, _, _, _, rfl, hr⟩
    · dsimp only
      exact wpS_bind (wpS_setMin g3 fun st4 g4 => wpS_pure ⟨g4, _, _, _, _, rfl, t3, la3, lb3, by omega⟩)
  · rintro c st1 ⟨g1, na, nb, out, mg, rfl, t1, la1, lb1, hm⟩
    exfalso
    omega
  · rintro c st1 ⟨g1, r, na, nb, out, mg, rfl, hr⟩
    exact wpS_pure (h r st1 g1 hr)
end
end S64

namespace S64
open PySem PyProof.Rows
section
variable {prog : Program} {w : World} {A : Around} {E : Value → Shared → Prop} {s : Shared}
theorem wpS_set {σ : Type} {M : Model} {Q : PUnit → σ → Prop} {st st' : σ} (h : Q ⟨⟩ st') : wpS M A E s (set st' : StateT σ Sem PUnit) Q st := by
  unfold wpS; rw [StateT.run_set]; exact wpAny_pure ⟨rfl, h⟩
theorem fold_set : ∀ (l : List (Keyed × Nat)) (sa : Nat) (a : Array Keyed), IK a → (∀ p ∈ l, ∃ k t, p.1 = (Value.int k t, Value.int k t)) →
    IK (l.foldl (fun a (p : Keyed × Nat) => a.setIfInBounds (sa + p.2) p.1) a) ∧ (l.foldl (fun a (p : Keyed × Nat) => a.setIfInBounds (sa + p.2) p.1) a).size = a.size
  | [], _, a, h, _ => ⟨h, rfl⟩
  | p :: l, sa, a, h, hl => by
    have := fold_set l sa (a.setIfInBounds (sa + p.2) p.1) (fun i q e => by
      rw [Array.getElem?_setIfInBounds] at e
      split at e
      · split at e
        · cases e; exact hl p (by simp)
        · cases e
      · exact h i q e) (fun q hq => hl q (by simp [hq]))
    refine ⟨this.1, ?_⟩
    show (l.foldl _ (a.setIfInBounds (sa + p.2) p.1)).size = _
    rw [this.2, Array.size_setIfInBounds]
theorem wpS_mergeAt {N : Nat} {st : SortSt} {n1 n2 p1 p2 : Nat} {Q : Bool → SortSt → Prop} (hA : AI N st) (hp : pendingOf st = #[(0, n1, p1), (n1, n2, p2)]) (h1 : 0 < n1) (h2 : 0 < n2) (hN : n1 + n2 = N)
    (h : ∀ st', AI N st' → (pendingOf st').size ≤ 1 → Q true st') : wpS (model prog w) A E s (mergeAt' 0) Q st := by
  unfold mergeAt'
  refine wpS_bind (wpS_get ?_)
  have e0 : (pendingOf st)[0]? = some (0, n1, p1) := by rw [hp]; rfl
  have e1 : (pendingOf st)[0 + 1]? = some (n1, n2, p2) := by rw [hp]; rfl
  rw [e0, e1]
  dsimp only
  refine wpS_bind (wpS_set ?_)
  have hA1 : AI N (SortSt.mk' (kindOf st) (arrOf st) (((pendingOf st).setIfInBounds 0 (0, n1 + n2, p1)).eraseIdxIfInBounds (0 + 1)) (gallopOf st) (failedOf st)) := ⟨hA.kind, hA.size, hA.ik, hA.ok⟩
  have hP1 : (pendingOf (SortSt.mk' (kindOf st) (arrOf st) (((pendingOf st).setIfInBounds 0 (0, n1 + n2, p1)).eraseIdxIfInBounds (0 + 1)) (gallopOf st) (failedOf st))).size ≤ 1 := by
    show (((pendingOf st).setIfInBounds 0 (0, n1 + n2, p1)).eraseIdxIfInBounds (0 + 1)).size ≤ 1
    rw [hp]
    simp [Array.setIfInBounds, Array.eraseIdxIfInBounds]
  have hsz := hA.size
  refine wpS_bind (wpS_elem (a := arrOf st) (by omega) hA.ik fun pb _ hpb => ?_)
  refine wpS_bind (wpS_gallop (a := arrOf st) hA.kind hpb hA.ik (by omega) h1 fun k hk => ?_)
  dsimp only
  refine wpS_ite (fun hQ => wpS_pure (h _ hA1 hP1)) (fun hQ => ?_)
  have hk0 := hQ
  simp only [beq_iff_eq] at hk0
  refine wpS_bind (wpS_elem (a := arrOf st) (by omega) hA.ik fun pa _ hpa => ?_)
  refine wpS_bind (wpS_gallop (a := arrOf st) hA.kind hpa hA.ik (by omega) (by omega) fun k2 hk2 => ?_)
  dsimp only
  refine wpS_ite (fun hR => wpS_pure (h _ hA1 hP1)) (fun hR => ?_)
  have hk3 := hR
  simp only [beq_iff_eq] at hk3
  have fin : ∀ (r : Array Keyed) st', Good (SortSt.mk' (kindOf st) (arrOf st) (((pendingOf st).setIfInBounds 0 (0, n1 + n2, p1)).eraseIdxIfInBounds (0 + 1)) (gallopOf st) (failedOf st)) st' → IK r →
      AI N (setArr st' (r.toList.zipIdx.foldl (fun a (p : Keyed × Nat) => a.setIfInBounds (0 + k + p.2) p.1) (arrOf st'))) ∧ (pendingOf st').size ≤ 1 ∧ failedOf st' = none := by
    intro r st' g hr
    have f := fold_set r.toList.zipIdx (0 + k) (arrOf st') (by rw [g.arr]; exact hA.ik) (fun p hp' => by
      obtain ⟨i, hi⟩ := List.mem_iff_getElem?.mp hp'
      rw [List.getElem?_zipIdx] at hi
      obtain ⟨q, hq, rfl⟩ := Option.map_eq_some_iff.mp hi
      exact hr i q (by rw [← Array.getElem?_toList]; exact hq))
    refine ⟨⟨g.kind.trans hA.kind, ?_, f.1, g.fail.trans hA.ok⟩, ?_, g.fail.trans hA.ok⟩
    · show (r.toList.zipIdx.foldl _ (arrOf st')).size = N
      rw [f.2, g.arr]; exact hA.size
    · rw [g.pend]; exact hP1
  have hxs : ((arrOf st).extract (0 + k) n1).size = n1 - k := by rw [Array.size_extract]; omega
  have hys : ((arrOf st).extract n1 (n1 + k2)).size = k2 := by rw [Array.size_extract]; omega
  refine wpS_ite (fun _ => ?_) (fun _ => ?_)
  · refine wpS_bind (wpS_mergeLo (a := (arrOf st).extract (0 + k) n1) (b := (arrOf st).extract n1 (n1 + k2)) hA.kind (hA.ik.ext _ _) (hA.ik.ext _ _) (by omega) (by omega) fun r st' g hr => ?_)
    obtain ⟨f1, f2, f3⟩ := fin r st' g hr.1
    refine wpS_bind (wpS_modify (wpS_bind (wpS_get ?_)))
    have e : (failedOf st').isNone = true := by rw [f3]; rfl
    exact e ▸ wpS_pure (h _ f1 f2)
  · refine wpS_bind (wpS_mergeHi (a := (arrOf st).extract (0 + k) n1) (b := (arrOf st).extract n1 (n1 + k2)) hA.kind (hA.ik.ext _ _) (hA.ik.ext _ _) (by omega) (by omega) fun r st' g hr => ?_)
    obtain ⟨f1, f2, f3⟩ := fin r st' g hr.1
    refine wpS_bind (wpS_modify (wpS_bind (wpS_get ?_)))
    have e : (failedOf st').isNone = true := by rw [f3]; rfl
    exact e ▸ wpS_pure (h _ f1 f2)
theorem wpS_runs64 {st : SortSt} {Q : Unit → SortSt → Prop} (hA : AI 64 st) (hp : pendingOf st = #[]) (h : ∀ st', AI 64 st' → Q () st') : wpS (model prog w) A E s sortRuns' Q st := by
  rw [sortRuns'_eq]
  refine wpS_bind (wpS_get ?_)
  dsimp only
  have hmr : minRun' 64 64 0 = 32 := rfl
  simp only [hA.size, hmr]
  refine wpS_bind (wpS_mono (wpS_forRange
    (I := fun x c st' => AI 64 st' ∧ ((x = 0 ∧ c = (none, 0) ∧ pendingOf st' = #[]) ∨ (x = 1 ∧ ∃ n, c = (none, n) ∧ 32 ≤ n ∧ n ≤ 64 ∧ pendingOf st' = #[(0, n, 0)]) ∨ (2 ≤ x ∧ c = (none, 64) ∧ ∃ n p, 0 < n ∧ n < 64 ∧ pendingOf st' = #[(0, n, p), (n, 64 - n, 0)])))
    (Q := fun c st' => AI 64 st' ∧ c = (none, 64) ∧ (pendingOf st' = #[(0, 64, 0)] ∨ ∃ n p, 0 < n ∧ n < 64 ∧ pendingOf st' = #[(0, n, p), (n, 64 - n, 0)])) ?_ ?_ ⟨hA, .inl ⟨rfl, rfl, hp⟩⟩) ?_)
  · rintro x c st1 _ hx ⟨hA1, ⟨rfl, rfl, hp1⟩ | ⟨rfl, n, rfl, hn1, hn2, hp1⟩ | ⟨hx2, rfl, n, p, hn1, hn2, hp1⟩⟩
    · dsimp only
      rw [if_neg (by omega)]
      refine wpS_bind (wpS_count hA1 (by omega) (by omega) fun m st2 hA2 hp2 hm1 hm2 => ?_)
      dsimp only
      have hb : ∀ st3, pendingOf st3 = pendingOf st1 → (pendingOf st3).back? = none := fun st3 e => by rw [e, hp1]; rfl
      refine wpS_ite (fun hlt => ?_) (fun hlt => ?_)
      · refine wpS_bind (wpS_lift (wpAny_rule ⟨rfl, ?_⟩))
        refine wpS_bind (wpS_bins hA2 (by omega) fun st3 hA3 hp3 => ?_)
        simp only [Bool.not_true, Bool.false_eq_true, if_false]
        refine wpS_bind (wpS_get ?_)
        rw [hb st3 (hp3.trans hp2)]
        dsimp only
        refine wpS_bind (wpS_modify (wpS_pure ⟨⟨hA3.kind, hA3.size, hA3.ik, hA3.ok⟩, .inr (.inl ⟨by first | rfl | trivial, 0 + min (64 - 0) 32, rfl, by decide, by decide, ?_⟩)⟩))
        show (pendingOf st3).push _ = _
        rw [hp3, hp2, hp1]
        rfl
      · refine wpS_bind (wpS_get ?_)
        rw [hb st2 hp2]
        dsimp only
        refine wpS_bind (wpS_modify (wpS_pure ⟨⟨hA2.kind, hA2.size, hA2.ik, hA2.ok⟩, .inr (.inl ⟨by omega, _, rfl, by omega, by omega, ?_⟩)⟩))
        show (pendingOf st2).push _ = _
        rw [hp2, hp1, Nat.zero_add]
        rfl
    · dsimp only
      refine wpS_ite (fun hge => ?_) (fun hge => ?_)
      · have : n = 64 := by omega
        subst this
        exact wpS_pure ⟨hA1, rfl, .inl hp1⟩
      refine wpS_bind (wpS_count hA1 (by omega) (by omega) fun m st2 hA2 hp2 hm1 hm2 => ?_)
      dsimp only
      refine wpS_ite (fun hlt => ?_) (fun hlt => ?_)
      · refine wpS_bind (wpS_lift (wpAny_rule ⟨rfl, ?_⟩))
        refine wpS_bind (wpS_bins hA2 (by omega) fun st3 hA3 hp3 => ?_)
        simp only [Bool.not_true, Bool.false_eq_true, if_false]
        have hp4 : pendingOf st3 = #[(0, n, 0)] := hp3.trans (hp2.trans hp1)
        refine wpS_bind (wpS_get ?_)
        have hbk : (pendingOf st3).back? = some (0, n, 0) := by rw [hp4]; rfl
        have hsz1 : ¬ (pendingOf st3).size > 1 := by rw [hp4]; exact Nat.lt_irrefl 1
        rw [hbk]
        dsimp only
        refine wpS_bind (wpS_mono (wpS_forRange (I := fun y c st' => c = (none, ()) ∧ st3 = st') (Q := fun c st' => c = (none, ()) ∧ st3 = st') ?_ (fun _ _ h => h) ⟨rfl, rfl⟩) ?_)
        · rintro y c st4 _ hy ⟨rfl, rfl⟩
          refine wpS_bind (wpS_get ?_)
          rw [if_neg hsz1]
          exact wpS_pure ⟨rfl, rfl⟩
        · rintro c st4 ⟨rfl, rfl⟩
          dsimp only
          refine wpS_bind (wpS_modify (wpS_bind (wpS_modify (wpS_pure ⟨⟨hA3.kind, hA3.size, hA3.ik, hA3.ok⟩, .inr (.inr ⟨by omega, ?_, n, power' 64 (2 * 0 + n) (2 * 0 + n + n + min (64 - n) 32) 64, by omega, by omega, ?_⟩)⟩))))
          · congr 1; omega
          · show ((pendingOf st3).modify ((pendingOf st3).size - 1) _).push _ = _
            rw [hp4]
            have e : min (64 - n) 32 = 64 - n := by omega
            rw [e]
            rfl
      · have hp4 : pendingOf st2 = #[(0, n, 0)] := hp2.trans hp1
        refine wpS_bind (wpS_get ?_)
        have hbk : (pendingOf st2).back? = some (0, n, 0) := by rw [hp4]; rfl
        have hsz1 : ¬ (pendingOf st2).size > 1 := by rw [hp4]; exact Nat.lt_irrefl 1
        rw [hbk]
        dsimp only
        refine wpS_bind (wpS_mono (wpS_forRange (I := fun y c st' => c = (none, ()) ∧ st2 = st') (Q := fun c st' => c = (none, ()) ∧ st2 = st') ?_ (fun _ _ h => h) ⟨rfl, rfl⟩) ?_)
        · rintro y c st4 _ hy ⟨rfl, rfl⟩
          refine wpS_bind (wpS_get ?_)
          rw [if_neg hsz1]
          exact wpS_pure ⟨rfl, rfl⟩
        · rintro c st4 ⟨rfl, rfl⟩
          dsimp only
          refine wpS_bind (wpS_modify (wpS_bind (wpS_modify (wpS_pure ⟨⟨hA2.kind, hA2.size, hA2.ik, hA2.ok⟩, .inr (.inr ⟨by omega, ?_, n, power' 64 (2 * 0 + n) (2 * 0 + n + n + m) 64, by omega, by omega, ?_⟩)⟩))))
          · congr 1; omega
          · show ((pendingOf st2).modify ((pendingOf st2).size - 1) _).push _ = _
            rw [hp4]
            have e : m = 64 - n := by omega
            rw [e]
            rfl
    · dsimp only
      rw [if_pos (Nat.le_refl _)]
      exact wpS_pure ⟨hA1, rfl, .inr ⟨n, p, hn1, hn2, hp1⟩⟩
  · rintro c st1 ⟨hA1, ⟨hx, _⟩ | ⟨hx, n, rfl, hn1, hn2, hp1⟩ | ⟨hx2, rfl, n, p, hn1, hn2, hp1⟩⟩
    · omega
    · omega
    · exact ⟨hA1, rfl, .inr ⟨n, p, hn1, hn2, hp1⟩⟩
  · rintro c st1 ⟨hA1, rfl, hp1⟩
    dsimp only
    refine wpS_bind (wpS_mono (wpS_forRange (I := fun y c st' => AI 64 st' ∧ c = (none, ()) ∧ ((pendingOf st').size ≤ 1 ∨ ∃ n p, 0 < n ∧ n < 64 ∧ pendingOf st' = #[(0, n, p), (n, 64 - n, 0)])) (Q := fun c st' => AI 64 st' ∧ c = (none, ())) ?_ (fun _ _ h => ⟨h.1, h.2.1⟩) ⟨hA1, rfl, ?_⟩) ?_)
    · rintro y c st2 _ hy ⟨hA2, rfl, hp2⟩
      refine wpS_bind (wpS_get ?_)
      refine wpS_ite (fun hle => wpS_pure ⟨hA2, rfl⟩) (fun hgt => ?_)
      obtain ⟨n, p, hn1, hn2, hp3⟩ := hp2.resolve_left hgt
      have e : (pendingOf st2).size - 2 = 0 := by rw [hp3]; rfl
      simp only [e, gt_iff_lt, Nat.lt_irrefl, if_false, Option.any_none, Bool.false_eq_true]
      refine wpS_bind (wpS_mergeAt hA2 hp3 hn1 (by omega) (by omega) fun st3 hA3 hp4 => ?_)
      exact wpS_pure ⟨hA3, rfl, .inl hp4⟩
    · rcases hp1 with hp1 | hp1
      · left; rw [hp1]; exact Nat.le_refl 1
      · exact .inr hp1
    · rintro c st2 ⟨hA2, rfl⟩
      exact wpS_pure (h st2 hA2)
end
end S64

namespace S64
open PySem PyProof.Rows
section
variable {prog : Program} {w : World} {A : Around} {E : Value → Shared → Prop} {s : Shared}
theorem ints_out {xs : Array Keyed} (hx : IK xs) : IntsAre (xs.map (·.2)).toList ((xs.map (·.2)).toList.map numOf) := by
  refine intsAre_map _ fun v hv => ?_
  rw [Array.toList_map, List.mem_map] at hv
  obtain ⟨p, hp, rfl⟩ := hv
  obtain ⟨i, hi⟩ := List.mem_iff_getElem?.mp hp
  obtain ⟨k, t, rfl⟩ := hx i p (by rw [← Array.getElem?_toList]; exact hi)
  exact ⟨k, t, rfl⟩
theorem start64 {us : List Value} {ns : List Int} (hI : IntsAre us ns) (hl : us.length = 64) : AI 64 (SortSt.mk' oneType' (us.toArray.zip us.toArray) #[] 7 none) := by
  refine ⟨rfl, (pairsOf_size us).trans hl, fun i p e => ?_, rfl⟩
  have hm : p ∈ us.zip us := by
    rw [← pairsOf_toList]
    exact List.mem_iff_getElem?.mpr ⟨i, by rw [Array.getElem?_toList]; exact e⟩
  obtain ⟨h1, h2⟩ := mem_zip_self hm
  obtain ⟨k, t, hk⟩ := hI.all _ h2
  exact ⟨k, t, Prod.ext hk (h1.symm.trans hk)⟩
theorem sort_tree64 {d : Addr} {us : List Value} {ns : List Int} {c : Nat} {R : Fin → Shared → Prop} (hd : s.heap.get? d = some (seqObj "list" us.toArray c)) (hI : IntsAre us ns) (hl : us.length = 64)
    (k : ∀ (o : Array Value) (ms : List Int), IntsAre o.toList ms → ms.length = 64 → R (.done (.ret .none)) { s with heap := sortedHeap s.heap d us o }) : wpAny (model prog w) A (Builtin.«list.sort» ⟨[.ref d], []⟩) R E s := by
  rw [list_sort_plain]
  have hlt := Heap.lt_size hd
  refine wpAny_bind (listItems_at hd rfl (wpAny_bind (listUpdate_at hd rfl ?_)))
  obtain ⟨c1, hd1⟩ : ∃ c1, (s.heap.update d (Obj.mapSeq fun _ => #[])).get? d = some (seqObj "list" #[] c1) := ⟨_, get?_update_seq hd _⟩
  refine wpAny_bind (seqEpoch_at hd1 rfl (wpAny_bind (wpAny_newTuple (wpAny_bind (wpAny_newList (wpAny_holding ?_))))))
  have hd2 : (((s.heap.update d (Obj.mapSeq fun _ => #[])).push (seqObj "tuple" us.toArray 0)).push (seqObj "list" #[] 0)).get? d = some (seqObj "list" #[] c1) := by
    have n2 : d ≠ (s.heap.update d (Obj.mapSeq fun _ => #[])).objs.size := by rw [Heap.size_update]; exact Nat.ne_of_lt hlt
    have n1 : d ≠ ((s.heap.update d (Obj.mapSeq fun _ => #[])).push (seqObj "tuple" us.toArray 0)).objs.size := by rw [size_push', Heap.size_update]; exact Nat.ne_of_lt (Nat.lt_succ_of_lt hlt)
    rw [Heap.get?_push_ne _ _ _ n1, Heap.get?_push_ne _ _ _ n2]; exact hd1
  show wpAny (model prog w) A _ R E { s with heap := ((s.heap.update d (Obj.mapSeq fun _ => #[])).push (seqObj "tuple" us.toArray 0)).push (seqObj "list" #[] 0) }
  dsimp only
  have nz : ¬ us.toArray.size < 2 := by rw [List.size_toArray, hl]; decide
  rw [if_neg nz, if_neg nz]
  have kk : keyKind' us.toArray = pure oneType' := by
    match us, hI, hl with
    | [], _, hl => cases hl
    | [_], _, hl => cases hl
    | _ :: _ :: _, hI, _ => exact keyKind_ints hI
  rw [kk]
  refine wpAny_bind (wpAny_pure (wpAny_bind (wpAny_mono (wpS_runs64 (st := SortSt.mk' oneType' (us.toArray.zip us.toArray) #[] 7 none) (Q := fun _ st' => AI 64 st') (start64 hI hl) rfl fun st' z => z) ?_ fun _ _ e => e)))
  rintro ⟨⟨⟩, st'⟩ s' ⟨rfl, hA⟩
  dsimp only
  have hz : ((arrOf st').map (·.2)).size = 64 := by rw [Array.size_map]; exact hA.size
  refine wpAny_bind (seqEpoch_at hd2 rfl (wpAny_bind (listUpdate_at hd2 rfl ?_ (hsz2 := by rw [hz, sizeLine_eq]; decide))))
  have hf : failedOf st' = none := hA.ok
  rw [hf]
  simp only [bne_self_eq_false, Bool.false_eq_true, if_false]
  refine wpAny_pure (k _ _ (ints_out hA.ik) ?_)
  rw [List.length_map, Array.length_toList]; exact hz
theorem sorted64 {l : Addr} {us : List Value} {ns : List Int} {R : Value → Shared → Prop} (hl : s.heap.IsList l us.toArray) (hI : IntsAre us ns) (h64 : us.length = 64)
    (k : ∀ (o : Array Value) (ms : List Int), IntsAre o.toList ms → ms.length = 64 → R (.ref (s.heap.objs.size + 1)) { s with heap := sortedAll s.heap us o }) : wpAny (model prog w) A (call (.builtin "sorted") [.ref l]) R E s := by
  refine Calls.call_function_entry kind_sorted plain_sorted entry_sorted (args_sorted1 _) ?_
  unfold Builtin.«sorted»
  refine wpAny_bind (m := checkCount "sorted" 1 1 _) (wpAny_pure (wpAny_bind (collect_list hl (wpAny_bind (wpAny_newList ?_)) (by rw [h64, sizeLine_eq]; decide))))
  have z1 : ((s.heap.push (seqObj "list" #[] 0)).update s.heap.objs.size (Obj.mapSeq (· ++ us.toArray))).objs.size = s.heap.objs.size + 1 := (Heap.size_update ..).trans (size_push' ..)
  have z2 : (((s.heap.push (seqObj "list" #[] 0)).update s.heap.objs.size (Obj.mapSeq (· ++ us.toArray))).push (seqObj "list" us.toArray 0)).get? (s.heap.objs.size + 1) = some (seqObj "list" us.toArray 0) := z1 ▸ Heap.get?_push_size _ rfl
  show wpAny _ _ _ _ _ { s with heap := ((s.heap.push (seqObj "list" #[] 0)).update s.heap.objs.size (Obj.mapSeq (· ++ us.toArray))).push (seqObj "list" us.toArray 0) }
  rw [z1]
  refine wpAny_bind (wpAny_holding (wpAny_call_entry slot_list_sort ⟨_, z2, rfl⟩ entry_list_sort (sort_tree64 z2 hI h64 fun o ms a1 a2 => ⟨_, rfl, wpAny_pure ⟨_, rfl, k o ms a1 a2⟩⟩) (args_list_sort _)))
end
end S64

namespace L2
open PySem PySem.Spec PyProof.Rows
section
variable {X : Cx}
def rSortedW (K : PySem.W.Frag) : List V → Hp → VK → Prop := fun xs H Q => ∃ (p : Addr) (ns : List Int), xs = [.ref p] ∧ SqL K H p (ns.map V.int) ∧ ns.length ≤ 64 ∧ ∀ (l : Addr) (ns' : List Int), H l = none → ns'.length = ns.length → (ns.length < 64 → ns'.Perm ns ∧ ns'.Pairwise (· ≤ ·)) → Q (.ref l) (upd H l (.lst (ns'.map V.int)))
theorem call_sortedW : CallR X (.builtin "sorted") (rSortedW X.K) := by
  intro pins s σ H xs us Q I r h
  obtain ⟨p, ns, rfl, hq, h64, q⟩ := h
  obtain ⟨u, rfl, ru⟩ := vals1 r
  cases ru
  obtain ⟨vs, rv, pl, hz⟩ := I.list hq
  have hi := intsAre_of rv
  have hl1 : vs.length = ns.length := by rw [hi.length]
  have hn : H (s.heap.objs.size + 1) = none := I.hok.fresh (Nat.le_succ _)
  have fin : ∀ (out : Array Value) (ns' : List Int), IntsAre out.toList ns' → ns'.length = ns.length → (ns.length < 64 → ns'.Perm ns ∧ ns'.Pairwise (· ≤ ·)) → EP X pins σ Q (.ref (s.heap.objs.size + 1)) { s with heap := sortedAll s.heap vs out } := by
    intro out ns' a1 a2 a3
    obtain ⟨e, he⟩ := sortedAll_at s.heap vs out
    refine ⟨.ref (s.heap.objs.size + 1), _, I.laid (t' := s.toks) (o := .lst (ns'.map V.int)) (fun b o q => sortedAll_old q) (Nat.le_succ _) ?_, rfl, q _ ns' hn a2 a3⟩
    refine ⟨?_, out.toList, e, vals_of_ints a1, by simpa using he⟩
    rw [List.length_map] at hz ⊢
    omega
  by_cases hc : ns.length < 64
  · exact sorted_ints pl.isList hi (by omega) fun out ns' a1 a2 a3 => fin out ns' a1 a2.length_eq fun _ => ⟨a2, a3⟩
  · exact S64.sorted64 pl.isList hi (by omega) fun out ns' a1 a2 => fin out ns' a1 (by omega) fun h => absurd h hc
end
end L2
namespace L2
open PySem PySem.Spec PyProof.Rows
section
variable {X : Cx}
end
end L2

namespace L2X
open PySem PySem.W PySem.Spec PySem.Calls PyProof.Rows Builtin Builtin.ObjectAttr Builtin.Getset_descriptor
section
variable {prog : Program} {w : World} {A : Around} {E : Value → Shared → Prop} {K : Frag} {e C : Addr} {o : Obj}
theorem ex_type {M : Model} {h : Heap} (he : h.get? e = some o) (hc : o.cls = .ref C) : Looks M h (typeOf (.ref e)) (.ref C) := hc ▸ (Looks.ld he).andThen .now
theorem ex_find {M : Model} {h : Heap} {name : Str} {a g : Value} (X : K.In h) (ha : findIn K (.ref C) name = some (some a)) (hg : specialIn K a "__get__" = some (some g)) (ht : takesIn K a = some true) :
    Looks M h (find (.ref e) (.ref C) name) (.bind g a) := by
  have L1 := looks_findIn (M := M) X ha
  have L2 : Looks M h (getOf (some a)) (some g) := looks_specialIn X hg
  have L3 := looks_takesIn (M := M) X ht
  exact L1.andThen (L2.andThen ((show Looks M h (dataDescriptor? (some a) (some g)) (some (g, a)) from L3.andThen .now).andThen (Looks.tag .now)))
theorem ex_get {s : Shared} {R : Result → Shared → Prop} {tp : Value} (X : K.In s.heap) (he : s.heap.get? e = some o) (hc : o.cls = .ref C) (hm : mroIn K C (.type "object") = some true)
    (h : R (.ok (.ret (.ref C))) s) : codeAny (model prog w) A (.call (.builtin "getset_descriptor.__get__") ⟨[.builtin "object.__class__", .ref e, tp], []⟩) R s := by
  obtain ⟨hh, g, dr, t, os⟩ := s
  have L0 := ex_type (M := model prog w) he hc
  have L1 := looks_mroIn (M := model prog w) X hm
  refine codeAny_call_builtin KF.slot_gs.plain KF.entry_gs (KF.slot_gs.check _ _ _ _ _ _ _ _ KF.type_class (KF.args_gs _ _ _) ?_)
  unfold Builtin.«getset_descriptor.__get__» descrGet
  rw [dga_obj]
  refine wpAny_bind (wpAny_pure ?_)
  unfold descrGetter descrCheckInstance descrNameAndClass isInstance
  simp only [KF.owner_class]
  repeat lk
  refine ⟨Code.quiet_builtin _ (by decide +kernel), codeAny_builtin KF.entry_class ?_⟩
  unfold Builtin.«object.__class__» shownTypeOf
  repeat lk
  exact h
theorem ex_class {s : Shared} {Q : Option Value → Shared → Prop} (X : K.In s.heap) (he : s.heap.get? e = some o) (hc : o.cls = .ref C) (hnc : notCls o = true)
    (hga : findIn K (.ref C) "__getattribute__" = some (some (.builtin "BaseException.__getattribute__"))) (hgk : findIn K (.ref C) "__getattr__" = some none)
    (ha : findIn K (.ref C) "__class__" = some (some (.builtin "object.__class__"))) (hn : specialIn K (.builtin "object.__class__") "__get__" = some (some (.builtin "getset_descriptor.__get__"))) (htk : takesIn K (.builtin "object.__class__") = some true)
    (hmO : mroIn K C (.type "object") = some true) (hmB : mroIn K C (.type "BaseException") = some true) (h : Q (some (.ref C)) { s with toks := s.toks + 1 }) :
    wpAny (model prog w) A (getAttr? (.ref e) "__class__") Q E s := by
  obtain ⟨hh, g, d, t, os⟩ := s
  have L0 := ex_type (M := model prog w) he hc
  have L1 := looks_findIn (M := model prog w) X hga
  have L2 := looks_findIn (M := model prog w) X hgk
  have L3 := ex_find (M := model prog w) (e := e) X ha hn htk
  have LB := looks_mroIn (M := model prog w) X hmB
  have LO := looks_mroIn (M := model prog w) X hmO
  unfold getAttr? getAttrBy? getAttrBy
  refine wpAny_bind (wpAny_mkText (wpAny_bind (wpAny_attempt (wpAny_holding (wpAny_bind (L0.at (wpAny_bind (L1.at ?_))))))))
  have hx2 : (Value.builtin "BaseException.__getattribute__" == Value.builtin "object.__getattribute__") = false := by decide +kernel
  have hx1 : (onTheHeap (Value.ref C) && Value.builtin "BaseException.__getattribute__" == Value.builtin "object.__getattribute__") = false := by rw [hx2]; rfl
  dsimp only
  rw [hx1]
  simp only [Bool.false_eq_true, if_false]
  unfold getAttrByItsOwn hookBefore
  rw [if_pos (show onTheHeap (Value.ref C) = true from rfl)]
  refine wpAny_bind (L2.at ?_)
  refine wpAny_bind (wpAny_attempt (wpAny_holding ?_))
  unfold callGetattribute boundAndCalled
  simp only [Bool.false_and, Bool.false_eq_true, if_false]
  refine wpAny_bind (wpAny_of_eq (F.attr_ValueError.ga.bind _) ?_)
  refine wpAny_call (codeAny_call_builtin F.attr_ValueError.ga.plain F.entry_bexc_ga ?_)
  have hck : ∀ {Q : Unit → Shared → Prop} {E : Value → Shared → Prop} {A : Around} {nameV : Value} {tk : Nat}, Q () ⟨hh, g, d, tk, os⟩ → wpAny (model prog w) A (checkBuiltinCall "BaseException.__getattribute__" ⟨[.ref e, nameV], []⟩) Q E ⟨hh, g, d, tk, os⟩ := by
    intro Q E A nameV tk hq
    have hk : builtinKind "BaseException.__getattribute__" = some .slot := by decide +kernel
    have hsplit : splitId "BaseException.__getattribute__" = some ("BaseException", "__getattribute__") := by decide +kernel
    have ha := F.args_bexc_ga (.ref e) nameV
    simp only [checkBuiltinCall, hk, hsplit]
    have LI : Looks (model prog w) hh (isInstance (.ref e) (.type "BaseException")) true := L0.andThen LB
    refine wpAny_bind (LI.at ?_)
    repeat (any_goals (first | assumption | wp_step))
  refine hck ?_
  unfold Builtin.«object.__getattribute__»
  refine wpAny_bind (wpAny_pure ?_)
  dsimp only
  refine wpAny_bind (wpAny_pure ?_)
  refine wpAny_bind (L0.at ?_)
  refine wpAny_bind (L3.at ?_)
  dsimp only
  refine wpAny_bind (wpAny_holding (wpAny_call (ex_get (s := ⟨hh, g, d, t + 1, os⟩) X he hc hmO ?_)))
  refine wpAny_pure ?_
  exact handed_on rfl (wpAny_pure h)
end
end L2X

namespace L2
open PySem PySem.Spec PyProof.Rows
section
variable {X : Cx} {pins : List (Addr × Obj)} {σ : List (Option V)} {H H' : Hp} {s : Shared} {h' : Heap}
theorem Inv.step2 {g' : Array GenState} {t' : Nat} {d' : Drawn} {ch : List Addr} (I : Inv X pins σ H s)
    (hch : ∀ b ∈ ch, X.s₀.heap.get? b = none ∧ b ≠ X.env.locals ∧ (∀ x c, X.env.cells.lookup x = some c → c ≠ b) ∧ ∀ p ∈ X.pn ++ pins, p.1 ≠ b)
    (keep : ∀ b o, b ≠ X.env.locals → b ∉ X.fs → b ∉ ch → s.heap.get? b = some o → H b = none → h'.get? b = some o)
    (slot : ∀ b o, b ≠ X.env.locals → b ∈ X.fs → b ∉ ch → s.heap.get? b = some o → H b = none → ∃ sl, h'.get? b = some { o with slots := sl }) (free : ∀ b o, b ∉ ch → s.heap.get? b = some o → H b = none → H' b = none)
    (there : ∀ b o, b ∉ ch → s.heap.get? b = some o → ∃ o', h'.get? b = some o')
    (tups : ∀ b xs, H b = some (.tup xs) → H' b = some (.tup xs)) (frzs : ∀ b o u, H b = some (.frz o u) → H' b = some (.frz o u)) (tbls : ∀ b ps, H b = some (.tbl ps) → ∃ more, H' b = some (.tbl (ps ++ more)))
    (ns : ∀ m, s.heap.Ns X.env.locals m → h'.Ns X.env.locals m) (hok : HOk X.prog X.w H' h') (hg : AllBare g') :
    Inv X pins σ H' { s with heap := h', gens := g', drawn := d', toks := t' } := by
  have neL : ∀ b o, X.s₀.heap.get? b = some o → b ≠ X.env.locals := fun b o e => Nat.ne_of_lt (Nat.lt_of_lt_of_le (Heap.lt_size e) I.ok.above)
  have neC : ∀ b o, X.s₀.heap.get? b = some o → b ∉ X.ex → b ∉ ch := fun b o e _ hb => by
    rw [(hch b hb).1] at e; cases e
  have cellK : ∀ x c, X.env.cells.lookup x = some c → ∀ v, s.heap.IsCell c v → h'.IsCell c v := fun x c e v ⟨o, ho, hd⟩ => by
    have nch : c ∉ ch := fun z => (hch c z).2.2.1 x c e rfl
    by_cases hc : c ∈ X.fs
    · obtain ⟨sl, q⟩ := slot c o (I.cne x c e) hc nch ho (I.freeC x c e)
      exact ⟨_, q, hd⟩
    · exact ⟨o, keep c o (I.cne x c e) hc nch ho (I.freeC x c e), hd⟩
  refine ⟨I.ok, I.os, hg, ⟨fun b o e n hb hx => ?_, fun b o e n hb hx => ?_, fun b o e n hx => ?_, fun b o e hx => ?_, fun b xs e => tups b xs (I.base.tups b xs e), fun b o xs e => frzs b o xs (I.base.frzs b o xs e), fun b ps e => ?_⟩, ?_, fun x c e => ?_, ?_, fun x c e => ?_, fun p hp => ?_, hok, I.len⟩
  · exact keep b o (neL b o e) hb (neC b o e hx) (I.base.keep b o e n hb hx) (I.base.free b o e n hx)
  · obtain ⟨sl, e1⟩ := I.base.slot b o e n hb hx
    obtain ⟨sl', e2⟩ := slot b _ (neL b o e) hb (neC b o e hx) e1 (I.base.free b o e n hx)
    exact ⟨sl', e2⟩
  · obtain ⟨o', e1⟩ := I.base.there b o e hx
    exact free b o' (neC b o e hx) e1 (I.base.free b o e n hx)
  · obtain ⟨o', e1⟩ := I.base.there b o e hx
    exact there b o' (neC b o e hx) e1
  · obtain ⟨m1, e1⟩ := I.base.tbls b ps e
    obtain ⟨m2, e2⟩ := tbls b _ e1
    exact ⟨m1 ++ m2, by rw [e2, Array.append_assoc]⟩
  · obtain ⟨m, hn, hl⟩ := I.loc
    refine ⟨m, ns m hn, fun i x v e1 e2 e3 => ?_⟩
    obtain ⟨u, r, l⟩ := hl i x v e1 e2 e3
    refine ⟨u, r, ?_⟩
    rcases l with l | ⟨k, c, e, z⟩
    · exact .inl l
    · exact .inr ⟨k, c, e, cellK x c e _ z⟩
  · obtain ⟨v, z⟩ := I.cell x c e
    exact ⟨v, cellK x c e v z⟩
  · obtain ⟨m, ⟨o, _, _, ho, _⟩, _⟩ := I.loc
    exact free _ o (fun z => (hch _ z).2.1 rfl) ho I.free
  · obtain ⟨v, o, ho, hd⟩ := I.cell x c e
    exact free c o (fun z => (hch c z).2.2.1 x c e rfl) ho (I.freeC x c e)
  · obtain ⟨e, n, ne, nf, d⟩ := I.pin p hp
    have nch : p.1 ∉ ch := fun z => (hch p.1 z).2.2.2 p hp rfl
    exact ⟨keep p.1 p.2 ne nf nch e n, free p.1 p.2 nch e n, ne, nf, d⟩
end
theorem ObjOk.has {P : Program} {w : World} {H : Hp} {h : Heap} {a : Addr} {o : HO} (x : ObjOk P w H h a o) : ∃ u, h.get? a = some u := by
  cases o with
  | lst xs => obtain ⟨_, _, _, _, e⟩ := x; exact ⟨_, e⟩
  | tup xs => obtain ⟨_, _, _, o, e, _⟩ := x; exact ⟨_, e⟩
  | dK kvs => obtain ⟨_, _, _, _, o, _, _, e, _⟩ := x; exact ⟨_, e⟩
  | dT kvs => obtain ⟨_, _, _, _, o, _, _, e, _⟩ := x; exact ⟨_, e⟩
  | set S n => obtain ⟨o, _, _, _, e, _⟩ := x; exact ⟨_, e⟩
  | ins C dx fs => obtain ⟨_, _, _, e, _⟩ := x; exact ⟨_, e⟩
  | own y => exact x
  | xd fs => obtain ⟨_, ⟨_, _, _, e, _⟩, _⟩ := x; exact ⟨_, e⟩
  | rng lo hi => obtain ⟨_, _, _, e⟩ := x; exact ⟨_, e⟩
  | frz ob u => obtain ⟨e, _⟩ := x; exact ⟨_, e⟩
  | tbl ps => exact ⟨_, x⟩
  | met f y => exact ⟨_, x⟩
  | ext φ => exact x.2.1
theorem HOk.un {P : Program} {w : World} {H : Hp} {h : Heap} {a : Addr} (x : HOk P w H h) (e : h.get? a = none) : H a = none := by
  cases q : H a with
  | none => rfl
  | some o =>
    obtain ⟨u, z⟩ := (x a o q).has
    rw [e] at z; cases z
section
variable {X : Cx} {pins : List (Addr × Obj)} {σ : St} {H H' : Hp} {s s' : Shared} {h' : Heap}
theorem Inv.old (I : Inv X pins σ H s) (hx : X.ex = []) {b : Addr} (e : s.heap.get? b = none) : X.s₀.heap.get? b = none := by
  cases q : X.s₀.heap.get? b with
  | none => rfl
  | some o =>
    obtain ⟨o', z⟩ := I.base.there b o q (by rw [hx]; exact List.not_mem_nil)
    rw [e] at z; cases z
theorem Inv.apart (I : Inv X pins σ H s) (hx : X.ex = []) {b : Addr} (e : s.heap.get? b = none) :
    X.s₀.heap.get? b = none ∧ b ≠ X.env.locals ∧ (∀ x c, X.env.cells.lookup x = some c → c ≠ b) ∧ ∀ p ∈ X.pn ++ pins, p.1 ≠ b := by
  refine ⟨I.old hx e, fun z => ?_, fun x c q z => ?_, fun p hp z => ?_⟩
  · obtain ⟨m, ⟨o, _, _, ho, _⟩, _⟩ := I.loc
    rw [← z, e] at ho; cases ho
  · obtain ⟨v, o, ho, _⟩ := I.cell x c q
    rw [z, e] at ho; cases ho
  · have := (I.pin p hp).1
    rw [z, e] at this; cases this
theorem Inv.flew {ch : List Addr} (J : Inv X pins σ H s) (hch : ∀ b ∈ ch, H b = none ∧ X.s₀.heap.get? b = none ∧ b ≠ X.env.locals ∧ (∀ x c, X.env.cells.lookup x = some c → c ≠ b) ∧ ∀ p ∈ X.pn ++ pins, p.1 ≠ b)
    (k1 : ∀ b o, b ∉ frs X.stack → b ∉ ch → s.heap.get? b = some o → h'.get? b = some o) (k2 : s.heap.UpToSlots h') : Inv X pins σ H { s with heap := h' } := by
  have nst : ∀ b, b ≠ X.env.locals → b ∉ X.fs → b ∉ frs X.stack := fun b h1 h2 h3 => (List.mem_cons.mp (J.stkSub b h3)).elim h1 h2
  refine J.step2 (g' := s.gens) (d' := s.drawn) (t' := s.toks) (ch := ch) (fun b hb => (hch b hb).2) (fun b o h1 h2 h3 e _ => k1 b o (nst b h1 h2) h3 e) (fun b o h1 h2 h3 e _ => ?_) (fun _ _ _ _ n => n) (fun b o h3 e => ?_)
    (fun _ _ e => e) (fun _ _ _ e => e) (fun b ps e => ⟨#[], by rw [e]; simp⟩) (fun m hm => k2.ns hm) (fun b u e => ?_) J.bare
  · obtain ⟨_, o', ho, hd⟩ := J.funs.mem h2
    rw [e] at ho; cases ho
    exact k2 b o e hd
  · by_cases hs : b ∈ frs X.stack
    · obtain ⟨_, o', ho, hd⟩ := J.stack.mem hs
      rw [e] at ho; cases ho
      obtain ⟨sl, z⟩ := k2 b o e hd
      exact ⟨_, z⟩
    · exact ⟨o, k1 b o hs h3 e⟩
  · refine (J.hok b u e).stay (fun c v hc q => ?_) (fun _ q => q) fun _ _ q => q
    have hne : H c ≠ none := by
      rcases hc with z | z
      · rw [z, e]; exact fun q => nomatch q
      · rw [z]; exact fun q => nomatch q
    exact k1 c v (fun z => hne (J.stkFree c z)) (fun z => hne (hch c z).1) q
end
def Fly (h : Heap) (a : Addr) (c : Value) (T : Addr) : Prop := ∃ oe vs oT ts a0, h.get? a = some oe ∧ (oe.cls = c ∧ vs[0]? = some a0) ∧ oe.data = .fields vs ∧ vs[1]? = some (.ref T) ∧ T ≠ a ∧ h.get? T = some oT ∧ oT.data = .fields ts ∧ ts[3]? = some .none
end L2

namespace L2
open PySem PySem.Spec PyProof.Rows
theorem Fly.of {h base : Heap} {a : Addr} {c a0 : Value} (x : h.TracedW base a c a0) : ∃ T, base.get? T = none ∧ Fly h a c T := by
  obtain ⟨oe, vs, T, oT, ts, e1, e2, e3, e4, e5, e6, e7, e8, e9⟩ := x
  exact ⟨T, e5, oe, vs, oT, ts, a0, e1, e2, e3, e4, e6, e7, e8, e9⟩
theorem Fly.to {h base : Heap} {a T : Addr} {c : Value} (x : Fly h a c T) (n : base.get? T = none) : ∃ a0, h.TracedW base a c a0 := by
  obtain ⟨oe, vs, oT, ts, a0, e1, e2, e3, e4, e6, e7, e8, e9⟩ := x
  exact ⟨a0, oe, vs, T, oT, ts, e1, e2, e3, e4, n, e6, e7, e8, e9⟩
theorem Fly.head {h : Heap} {a T : Addr} {c : Value} (x : Fly h a c T) : ∃ oT ts, h.get? T = some oT ∧ oT.data = .fields ts := by
  obtain ⟨oe, vs, oT, ts, a0, e1, e2, e3, e4, e6, e7, e8, e9⟩ := x
  exact ⟨oT, ts, e7, e8⟩
theorem Fly.ne {h : Heap} {a T : Addr} {c : Value} (x : Fly h a c T) : T ≠ a := by
  obtain ⟨oe, vs, oT, ts, a0, e1, e2, e3, e4, e6, _⟩ := x
  exact e6
section
variable {X : Cx} {pins : List (Addr × Obj)} {σ : St} {H : Hp} {s : Shared}
abbrev hid (X : Cx) (h : Heap) (ch : List Addr) : Heap := PySem.W.hideAll h (frs X.stack ++ ch)
theorem hid_frames (J : Inv X pins σ H s) (ch : List Addr) : s.heap.FunFrames (hid X s.heap ch) X.stack :=
  PySem.W.funFrames_hide J.stack fun env he b hb => List.mem_append_left _ (List.mem_filterMap.mpr ⟨env, he, hb⟩)
theorem hid_head (J : Inv X pins σ H s) {ch : List Addr} {h' : Heap} {a T : Addr} {c : Value} (up : s.heap.UpToSlots h') (n : (hid X s.heap ch).get? T = none) (f : Fly h' a c T) : s.heap.get? T = none ∨ T ∈ ch := by
  cases q : s.heap.get? T with
  | none => exact .inl rfl
  | some o =>
    by_cases hm : T ∈ frs X.stack ++ ch
    · rcases List.mem_append.mp hm with z | z
      · obtain ⟨_, o', ho, hd⟩ := J.stack.mem z
        rw [q] at ho; cases ho
        obtain ⟨sl, e⟩ := up T o q hd
        obtain ⟨oT, ts, e7, e8⟩ := f.head
        rw [e] at e7; cases e7
        exact absurd e8 (hd ts)
      · exact .inr z
    · have := PySem.W.hideAll_get _ q hm
      rw [n] at this; cases this
theorem leave_fly {M : Model} {E : Value → Shared → Prop} {Q : Unit → Shared → Prop} {a T : Addr} {c : Value} (J : Inv X pins σ H s) (hx : X.ex = []) (hstk : X.stack = X.env :: X.outer) (hf : X.env.frame = some X.env.locals) (fl : Fly s.heap a c T)
    (hch : ∀ b ∈ [a, T], H b = none ∧ X.s₀.heap.get? b = none ∧ b ≠ X.env.locals ∧ (∀ x c, X.env.cells.lookup x = some c → c ≠ b) ∧ ∀ p ∈ X.pn ++ pins, p.1 ≠ b)
    (hQ : ∀ h' T', Inv X pins σ H { s with heap := h' } → Fly h' a c T' → X.s₀.heap.get? T' = none → H T' = none → Q () { s with heap := h' }) : wpAny M X.A (leaving X.env (.ref a)) Q E s := by
  have nT : (hid X s.heap [a, T]).get? T = none := PySem.W.hideAll_none _ (List.mem_append_right _ (by simp))
  obtain ⟨a0, tr⟩ := fl.to nT
  have fw : Heap.FlyingW (hid X s.heap [a, T]) (X.env :: X.outer) a c a0 s.heap :=
    ⟨fun b o q => PySem.W.of_hideAll _ q, PySem.W.hideAll_none _ (List.mem_append_right _ (by simp)), hstk ▸ hid_frames J _, tr⟩
  refine wpAny_leaves_onW (by rw [J.ok.frames, hstk]) hf fw fun h' fl' up => ?_
  obtain ⟨st, _, _, tr'⟩ := fl'
  obtain ⟨T', n', f'⟩ := Fly.of tr'
  have J' : Inv X pins σ H { s with heap := h' } := J.flew hch (fun b o h1 h2 e => st b o (PySem.W.hideAll_get _ e fun z => (List.mem_append.mp z).elim h1 h2)) up
  rcases hid_head J up n' f' with z | z
  · exact hQ h' T' J' f' (J.old hx z) (J.hok.un z)
  · exact hQ h' T' J' f' (hch T' z).2.1 (hch T' z).1
theorem leave_made {M : Model} {E : Value → Shared → Prop} {Q : Unit → Shared → Prop} {a : Addr} {c : Value} {hm : Heap} {args : List Value} (J : Inv X pins σ H s) (hx : X.ex = []) (hstk : X.stack = X.env :: X.outer) (hf : X.env.frame = some X.env.locals)
    (mk : Heap.MadeExcOf s.heap hm a c args)
    (hQ : ∀ h' T', Inv X pins σ H { s with heap := h' } → Fly h' a c T' → X.s₀.heap.get? T' = none → H T' = none → Q () { s with heap := h' }) : wpAny M X.A (leaving X.env (.ref a)) Q E { s with heap := hm } := by
  refine wpAny_leaves_madeW (base := hid X s.heap []) (by rw [J.ok.frames, hstk]) hf (fun b o q => PySem.W.of_hideAll _ q) (hstk ▸ hid_frames J _) mk fun h' t fl' _ _ up => ?_
  obtain ⟨st, _, _, tr'⟩ := fl'
  obtain ⟨T', n', f'⟩ := Fly.of tr'
  have up' : s.heap.UpToSlots h' := (Heap.UpToSlots.of_keeps mk.keeps).trans up
  have J' : Inv X pins σ H { s with heap := h' } := J.flew (ch := []) (fun b z => nomatch z) (fun b o h1 h2 e => st b o (PySem.W.hideAll_get _ e fun z => (List.mem_append.mp z).elim h1 h2)) up'
  rcases hid_head J up' n' f' with z | z
  · exact hQ h' T' J' f' (J.old hx z) (J.hok.un z)
  · cases z
end
theorem exc_obj {K : PySem.W.Frag} {h : Heap} {C : Addr} {bmB : List Value} {newId : String} (X : K.In h) (q : PySem.W.excIn K C bmB newId = true) : ∃ bm N nm qn bs hdct sn sub ab col dd k0 k1 k2 k3 k5 mN,
    h.get? C = some (excClassObj nm qn C N bs bm hdct sn sub ab col dd k0 k1 k2 k3 k5 newId) ∧ h.Ns N mN ∧ mN "__init__" = none ∧ OwnTail h bmB bm := by
  unfold PySem.W.excIn at q
  split at q
  case h_2 => cases q
  rename_i dd cd sl look
  split at q
  case h_2 => cases q
  rename_i C1 bm g0 g1 g2 g3 id g5 em es
  simp only [Bool.and_eq_true, beq_iff_eq, Bool.not_eq_true'] at q
  obtain ⟨⟨⟨⟨⟨q1, q2⟩, q3⟩, q4⟩, q5⟩, q6⟩ := q
  subst q1 q2
  obtain ⟨nm, bs, mro, ns, qn, hdct, sn, sub, ab, col, del⟩ := cd
  have e1 : mro = .ref C1 :: bm := em
  have e2 : del = false := q3
  have e3 : sl = #[g0, g1, g2, g3, some (.builtin id), g5] := Array.toList_inj.mp es
  rw [e1, e2, e3] at look
  exact ⟨bm, ns, nm, qn, bs, hdct, sn, sub, ab, col, dd, g0, g1, g2, g3, g5, _, X _ _ look, .of_isNs (PySem.W.isNs_of_in X q5), PySem.W.nsMap_none_of_in X q5 q6, PySem.W.tail_of_in X q4⟩
def CXe (P : Program) (w : World) : CXT := fun outer H s E e s' => ∃ a C T H', e = .ref a ∧ s'.os = s.os ∧ AllBare s'.gens ∧ Fly s'.heap a (.ref C) T ∧ s.heap.get? a = none ∧ s.heap.get? T = none ∧ H' a = none ∧ H' T = none ∧
  Un (frs outer) [] H H' s.heap s'.heap ∧ HOk P w H' s'.heap ∧ E (.ref C) none H'
section
variable {P : Program} {w : World} {K : PySem.W.Frag} {mg : Str → Option Value} {base : Heap} {N : List Str} {qual : Str} {scope : Scope} {f : Addr} {cd : Value} {A : Around} {outer : List Env} {s₀ : Shared} {H₀ : Hp} {E : XK}
theorem passE : Passes (CXe P w) (cxOf (CXe P w) P w K mg base N qual scope f cd A outer s₀ H₀ E) E := by
  intro pins σ H s e s' I hc
  obtain ⟨a, C, T, H', rfl, os, bare, fl, na, nT, ha, hT, un, hok, hE⟩ := hc
  have J : Inv (cxOf (CXe P w) P w K mg base N qual scope f cd A outer s₀ H₀ E) pins σ H' s' := I.call' os un hok bare fun b z => nomatch z
  refine leave_fly J rfl rfl rfl fl (fun b hb => ?_) fun h' T' J' f' n1 n2 => ⟨a, C, T', H', rfl, J'.os, J'.bare, f', I.old rfl na, n1, ha, n2, J'.base, J'.hok, hE⟩
  rcases List.mem_cons.mp hb with z | z
  · subst z; exact ⟨ha, I.apart rfl na⟩
  · have z : b = T := by simpa using z
    subst z; exact ⟨hT, I.apart rfl nT⟩
def tRaise (C : Addr) (E : XK) (t : TA) : TS := fun _ σ H => t σ H fun vs H1 => vs.length ≤ 1000 ∧ E (.ref C) none H1
theorem ps_raise {x : Str} {C : Addr} {np cpos pos : Pos} {e : Expr} {es : List Expr} {t : TA} (hg : Gl (cxOf (CXe P w) P w K mg base N qual scope f cd A outer s₀ H₀ E) x) (hm : mg x = some (.ref C))
    (q : PySem.W.excIn K C [.type "ValueError", .type "Exception", .type "BaseException", .type "object"] "ValueError.__new__" = true)
    (ha : PA (cxOf (CXe P w) P w K mg base N qual scope f cd A outer s₀ H₀ E) (e :: es) t) (hd : (x == ("__debug__" : Str)) = false := by decide)
    (he : starEach (e :: es) (cxOf (CXe P w) P w K mg base N qual scope f cd A outer s₀ H₀ E).env = (false, eval e (cxOf (CXe P w) P w K mg base N qual scope f cd A outer s₀ H₀ E).env) :: starEach es (cxOf (CXe P w) P w K mg base N qual scope f cd A outer s₀ H₀ E).env := by rfl)
    (hpl : (backTo cpos (starEach es (cxOf (CXe P w) P w K mg base N qual scope f cd A outer s₀ H₀ E).env)).any (·.1) = false := by rfl) :
    PS (cxOf (CXe P w) P w K mg base N qual scope f cd A outer s₀ H₀ E) (.Raise (some (.Call (.Name x np) (e :: es) [] cpos)) none pos) (tRaise C E t) := by
  intro pins s σ H D I h
  obtain ⟨tl, N', nm, qn, bs, hdct, sn, sub, ab, col, dd, k0, k1, k2, k3, k5, mN, hC, hN, hni, T⟩ := exc_obj I.ok.mod.kin q
  refine wpAny_Raise_call_subT (nm := nm) (q := qn) (N := N') (bs := bs) (bm := tl) (hdct := hdct) (sn := sn) (sub := sub) (ab := ab) (col := col) (dd := dd) (k0 := k0) (k1 := k1)
    (k2 := k2) (k3 := k3) (k5 := k5) (mN := mN) F.excBase_ValueError (T.hasType rfl) (I.ok.hd rfl)
    (by rw [he]; show (false || (backTo cpos (starEach es (cxOf (CXe P w) P w K mg base N qual scope f cd A outer s₀ H₀ E).env)).any (·.1)) = false; rw [hpl]; rfl) hni (ld_glob I hg hm ⟨rfl, ?_⟩ hd)
  rw [he]
  refine Calls.evalArgs_plain ?_
  have ha' := ha cpos pins s σ H _ I h
  rw [he] at ha'
  refine thn ha' fun us s1 ⟨vs, H1, I1, r, hlen, q1⟩ => ⟨rfl, ?_, I1.bk _ _ hC, hN.keeps I1.bk, T.keeps I1.bk, fun h' a mk => ?_⟩
  · rw [← r.length]; exact Nat.le_trans hlen (by decide)
  · exact leave_made I1 rfl rfl rfl mk fun h' T' J' f' n1 n2 => ⟨a, C, T', H1, rfl, J'.os, J'.bare, f', I1.old rfl mk.new, n1, I1.hok.un mk.new, n2, J'.base, J'.hok, q1⟩
end
end L2

namespace L2
open PySem PySem.Spec PyProof.Rows
abbrev Cx.held (X : Cx) (v : Value) : Cx := { X with A := X.A.mark (some v), calm := false, xe := fun _ _ => False }
abbrev Cx.loud (X : Cx) : Cx := { X with calm := false, xe := fun _ _ => False }
section
variable {X : Cx} {pins : List (Addr × Obj)} {σ : St} {H : Hp} {s : Shared}
theorem Inv.held (I : Inv X pins σ H s) (v : Value) : Inv (X.held v) pins σ H s :=
  have ok := I.ok
  ⟨⟨ok.mod, ok.kind, ok.glob, ok.blt, ok.above, ok.inj, ok.has, ok.cab, (fun z => nomatch z), ok.frames, ok.stk, ok.exf, ok.bs, ok.bsz, ok.noex, ok.exfs, ok.funs, ok.frf⟩, I.os, I.bare, I.base, I.loc, I.cell, I.free, I.freeC, I.pin, I.hok, I.len⟩
theorem Inv.unheld {v : Value} (I : Inv (X.held v) pins σ H s) (ok : X.Ok) : Inv X pins σ H s :=
  ⟨ok, I.os, I.bare, I.base, I.loc, I.cell, I.free, I.freeC, I.pin, I.hok, I.len⟩
theorem Inv.forget {h' : Heap} {m' : Str → Option Value} {t : Nat} (I : Inv X pins σ H s) (hn : h'.Ns X.env.locals m') (hs : Heap.SameBut X.env.locals s.heap h') : Inv X pins (List.replicate X.N.length none) H { s with heap := h', toks := t } := by
  have oth : ∀ b o, b ≠ X.env.locals → s.heap.get? b = some o → h'.get? b = some o := fun b o n e => (hs.2 b n).trans e
  have ab : ∀ b o, X.s₀.heap.get? b = some o → b ≠ X.env.locals := fun b o e => Nat.ne_of_lt (Nat.lt_of_lt_of_le (Heap.lt_size e) I.ok.above)
  refine ⟨I.ok, I.os, I.bare, ⟨fun b o e n hb hx => oth b o (ab b o e) (I.base.keep b o e n hb hx), fun b o e n hb hx => ?_, I.base.free, fun b o e hx => ?_, I.base.tups, I.base.frzs, I.base.tbls⟩, ⟨m', hn, fun i x v _ e2 _ => ?_⟩, fun x c e => ?_, I.free, I.freeC, fun p hp => ?_, fun b u e => ?_, List.length_replicate⟩
  · obtain ⟨sl, z⟩ := I.base.slot b o e n hb hx
    exact ⟨sl, oth b _ (ab b o e) z⟩
  · obtain ⟨o', z⟩ := I.base.there b o e hx
    exact ⟨o', oth b _ (ab b o e) z⟩
  · rw [List.getElem?_replicate] at e2
    split at e2 <;> cases e2
  · obtain ⟨v, z⟩ := I.cell x c e
    exact ⟨v, z.sameBut hs (I.cne x c e)⟩
  · obtain ⟨e, n, ne, nf, d⟩ := I.pin p hp
    exact ⟨oth p.1 _ ne e, n, ne, nf, d⟩
  · refine (I.hok b u e).stay (fun c v hc q => oth c v ?_ q) (fun _ q => q) fun _ _ q => q
    rintro rfl
    rcases hc with z | z
    · rw [← z, I.free] at e; cases e
    · rw [I.free] at z; cases z
def xo (a C : Addr) : HO := .ext fun h => ∃ o, h.get? a = some o ∧ o.cls = .ref C ∧ PySem.W.notCls o = true
theorem Inv.track {a C : Addr} (I : Inv X pins σ H s) (hx : X.ex = []) (na : X.s₀.heap.get? a = none) (ha : H a = none) (nl : a ≠ X.env.locals) (nc : ∀ x c, X.env.cells.lookup x = some c → c ≠ a) (np : ∀ p ∈ X.pn ++ pins, p.1 ≠ a)
    (ok : ∃ o, s.heap.get? a = some o ∧ o.cls = .ref C ∧ PySem.W.notCls o = true) : Inv X pins σ (upd H a (xo a C)) s := by
  have un : ∀ {b : Addr} {u : HO}, H b = some u → b ≠ a := fun e z => by rw [z, ha] at e; cases e
  refine ⟨I.ok, I.os, I.bare, ⟨I.base.keep, I.base.slot, fun b o e n h => ?_, I.base.there, fun b xs e => ?_, fun b o u e => ?_, fun b ps e => ?_⟩, I.loc, I.cell, ?_, fun x c e => ?_, fun p hp => ?_, fun b u e => ?_, I.len⟩
  · rw [upd_ne (fun z => by rw [z, na] at e; cases e)]; exact I.base.free b o e n h
  · have := I.base.tups b xs e
    rw [upd_ne (un this)]; exact this
  · have := I.base.frzs b o u e
    rw [upd_ne (un this)]; exact this
  · obtain ⟨more, this⟩ := I.base.tbls b ps e
    exact ⟨more, by rw [upd_ne (un this)]; exact this⟩
  · rw [upd_ne (Ne.symm nl)]; exact I.free
  · rw [upd_ne (nc x c e)]; exact I.freeC x c e
  · obtain ⟨e, n, r⟩ := I.pin p hp
    exact ⟨e, by rw [upd_ne (np p hp)]; exact n, r⟩
  · by_cases hb : b = a
    · subst hb
      rw [upd_same] at e
      cases e
      exact ⟨ok, let ⟨o, z, _⟩ := ok; ⟨o, z⟩, fun h1 h2 ⟨o, e1, e2⟩ k => ⟨o, k o e1, e2⟩⟩
    · rw [upd_ne hb] at e
      exact (I.hok b u e).stay (fun _ _ _ q => q) (fun c q => by rw [upd_ne (un q)]; exact q) fun c xs q => by rw [upd_ne (un q)]; exact q
end
structure RoomH (k : Nat) (A : Around) : Prop where
  dp : A.depth + 3 * k + 5 < recursionLimit
  un : A.units + 16 * k + 200 < cLine
theorem Room.h {k : Nat} {A : Around} (r : Room k A) (v : Option Value) : RoomH k (A.mark v) := ⟨r.dp, r.un⟩
theorem RoomH.units0 {k : Nat} {A : Around} (r : RoomH k A) : A.units < cLine := by have := r.un; omega
structure FnH (P : Program) (w : World) (K : PySem.W.Frag) (mg : Str → Option Value) (base : Heap) (k : Nat) (f : Addr) (fd : FuncData) (ps : List Str) (sp : Sp) : Prop where
  len : ∀ vs H Q E, sp vs H Q E → vs.length = ps.length
  run : ∀ (A : Around) (outer : List Env) (s : Shared) (H : Hp) (args : Args) (us : List Value) (vs : List V) (Q : VK) (E : XK), RoomH k A → Env0 P w K mg base A outer s H → BindsTo s fd args (ps.zip us) → Vals vs us → sp vs H Q E →
    codeAny (model P w) A (.call (.ref f) args) (CR CX0 outer P w H s Q E) s
section
variable {P : Program} {w : World} {K : PySem.W.Frag} {mg : Str → Option Value} {base : Heap}
theorem Fun.okE {x qual : Str} {st : Stmt} {f : Addr} {fd : FuncData} {N ps : List Str} {k : Nat} {sp : Sp} (F : Fun K x qual st f fd) (S : FnScope N ps (defScope st)) (len : ∀ vs H Q E, sp vs H Q E → vs.length = ps.length)
    (hbody : ∀ (cdv : Value) (A : Around) (outer : List Env) (s : Shared) (H : Hp) (vs : List V) (Q : VK) (E : XK), Room k (A.deeper (envOfC qual (defScope st) s.heap.objs.size f cdv)) → sp vs H Q E →
      ∃ t, PSs (cxOf (CXe P w) P w K mg base N qual (defScope st) f cdv A outer s H E) (defBody st) t ∧ t { nx := fun _ H' => Q .non H', rt := Q } (start N vs) H) : FnOk P w K mg base (CXe P w) (k + 1) f fd ps sp := by
  obtain ⟨oc, od, kV, doc, pm, an, cdv, ct, osl, rfl, lk, hcd⟩ := F.ex
  exact fn_of lk hcd S len fun A outer s H vs Q E hr hsp => hbody cdv A outer s H vs Q E hr hsp
theorem Fun.okH {x qual : Str} {st : Stmt} {f : Addr} {fd : FuncData} {N ps : List Str} {k : Nat} {sp : Sp} (F : Fun K x qual st f fd) (S : FnScope N ps (defScope st)) (len : ∀ vs H Q E, sp vs H Q E → vs.length = ps.length)
    (hbody : ∀ (cdv : Value) (A : Around) (outer : List Env) (s : Shared) (H : Hp) (vs : List V) (Q : VK) (E : XK), RoomH k (A.deeper (envOfC qual (defScope st) s.heap.objs.size f cdv)) → sp vs H Q E →
      ∃ t, PSs (cxOf CX0 P w K mg base N qual (defScope st) f cdv A outer s H E).loud (defBody st) t ∧ t { nx := fun _ H' => Q .non H', rt := Q } (start N vs) H) : FnH P w K mg base (k + 1) f fd ps sp := by
  obtain ⟨oc, od, kV, doc, pm, an, cdv, ct, osl, rfl, lk, hcd⟩ := F.ex
  refine ⟨len, fun A outer s H args us vs Q E hr e0 hb r hsp => ?_⟩
  have hl := len _ _ _ _ hsp
  have KX : K.In s.heap := e0.mod.kin.keeps fun b o e => (e0.bs b o e).1
  have lim : s.heap.NoLimit := e0.mod.nolimit.keeps fun b o e => (e0.bs b o e).1
  have hkind : ∀ y ∈ ps.zip us, (defScope st).names.lookup y.1 = some .local ∨ ((defScope st).names.lookup y.1 = some .cell ∧ ((cellsFrom (s.heap.objs.size + 1) (defScope st).names []).lookup y.1).isSome = true) := fun ⟨n, v⟩ hy => by
    rcases S.par n (List.of_mem_zip hy).1 with q | q
    · exact .inl q
    · exact .inr ⟨q, PySem.W.cellsFrom_some _ _ _ (.inl q)⟩
  refine codeAny_call_function (by have := hr.dp; omega) (KX _ _ lk) rfl S.co S.gen rfl (PySem.W.codeRec_of KX hcd) (hb _ _ _ _ ?_)
  refine wpAny_newFunctionEnv_cells S.kind hkind fun env he s1 x => ?_
  subst he
  refine ⟨lim.keeps x.toInCall.keep, codeAny_func ?_⟩
  obtain ⟨t, ht, hq⟩ := hbody cdv A outer s H vs Q E ⟨by have := hr.dp; show A.depth + 1 + 3 * k + 5 < _; omega, by have := hr.un; show A.units + 3 + 16 * k + 200 < _; omega⟩ hsp
  have e1 : Env0 P w K mg base { A with handled := none } outer s H := ⟨e0.frames, e0.mod, e0.bs, e0.bsz, e0.funs, e0.frf, e0.hok, e0.bare⟩
  have I0 : Inv (cxOf CX0 P w K mg base N qual (defScope st) f cdv { A with handled := none } outer s H E) [] (start N vs) H s1 := inv_start S rfl e1 hl r x
  have I : Inv (cxOf CX0 P w K mg base N qual (defScope st) f cdv A outer s H E).loud [] (start N vs) H s1 := by
    have ok := I0.ok
    exact ⟨⟨ok.mod, ok.kind, ok.glob, ok.blt, ok.above, ok.inj, ok.has, ok.cab, (fun z => nomatch z), Around.frames_deeper e0.frames, ok.stk, ok.exf, ok.bs, ok.bsz, ok.noex, ok.exfs, ok.funs, ok.frf⟩, I0.os, I0.bare, I0.base, I0.loc, I0.cell, I0.free, I0.freeC, I0.pin, I0.hok, I0.len⟩
  refine wpAny_mono (ht [] s1 (start N vs) H _ I hq) (fun fl s' hs => ?_) fun e s' hs => False.elim hs
  have fin : ∀ {σ' : St} {H' : Hp} {v : V} {u : Value}, Inv (cxOf CX0 P w K mg base N qual (defScope st) f cdv A outer s H E).loud [] σ' H' s' → RelV v u → Q v H' → CE outer P w H s Q u s' :=
    fun {σ' H' v u} J rv q => ⟨v, H', J.os, J.bare, J.base, J.hok, rv, q⟩
  cases fl with
  | ret u =>
    obtain ⟨v, σ', H', J, rv, q⟩ := hs
    exact fin J rv q
  | next =>
    obtain ⟨σ', H', J, q⟩ := hs
    exact fin (v := V.non) (u := Value.none) J rfl q
  | brk =>
    obtain ⟨_, _, _, q⟩ := hs
    exact False.elim q
  | cont =>
    obtain ⟨_, _, _, q⟩ := hs
    exact False.elim q
end
section
variable {X : Cx} {k : Nat} {f : Addr} {fd : FuncData} {ps : List Str} {sp : Sp} {x : Str} {p pos : Pos} {e : Expr} {es : List Expr} {t : TA}
theorem pe_callH (F : FnH X.prog X.w X.K X.mg X.base k f fd ps sp) (hr : RoomH k X.A) (hg : Gl X x) (hm : X.mg x = some (.ref f)) (hk : PySem.W.keepIn X.K (.ref f) = true) (hb : Binds X.K fd ps [])
    (ha : PA X (e :: es) t) (hdb : (x == ("__debug__" : Str)) = false := by decide) (he : starEach (e :: es) X.env = (false, eval e X.env) :: starEach es X.env := by rfl) (hpl : (backTo pos (starEach es X.env)).any (·.1) = false := by rfl) :
    PE X (.Call (.Name x p) (e :: es) [] pos) (tCall sp [] E0 t) := by
  intro pins s σ H Q I h
  refine wpAny_Call_Name_kw (ld_glob I hg hm ?_ hdb)
  refine PySem.W.callWith_K (h₀ := X.base) I.ok.mod.kin hk (thn (ha pos pins s σ H _ I h) fun us s1 ⟨vs, H1, I1, r, q⟩ => ⟨I1.kIn, ?_⟩) he hpl
  have r2 : Vals (vs ++ []) (us ++ []) := r.append .nil
  have hl : (us ++ []).length = ps.length := by rw [← r2.length]; exact F.len _ _ _ _ q
  refine wpAny_call (codeAny_mono (F.run X.A X.stack s1 H1 ⟨us, []⟩ (us ++ []) (vs ++ []) Q E0 hr I1.env0 (hb s1 us I1.kIn hl) r2 q) fun r s' hq => ?_)
  cases r with
  | error e => exact False.elim hq
  | ok fl =>
    cases fl with
    | ret u => exact I1.after hq
    | next => exact False.elim hq
    | brk => exact False.elim hq
    | cont => exact False.elim hq
end
end L2

namespace L2X
open PySem PySem.W PySem.Spec PySem.Calls PyProof.Rows Builtin Builtin.ObjectAttr Builtin.Getset_descriptor
structure Ex (K : Frag) (C : Addr) : Prop where
  ga : findIn K (.ref C) "__getattribute__" = some (some (.builtin "BaseException.__getattribute__"))
  gk : findIn K (.ref C) "__getattr__" = some none
  cl : findIn K (.ref C) "__class__" = some (some (.builtin "object.__class__"))
  hn : specialIn K (.builtin "object.__class__") "__get__" = some (some (.builtin "getset_descriptor.__get__"))
  tk : takesIn K (.builtin "object.__class__") = some true
  mO : mroIn K C (.type "object") = some true
  mB : mroIn K C (.type "BaseException") = some true
  ty : typeIn K (.ref C) = some (.type "type")
section
variable {K : Frag} {e C : Addr}
theorem Ex.cls (x : Ex K C) : ∃ cd, clsIn K C = some cd := by
  obtain ⟨cd, h, _⟩ := Option.bind_eq_some_iff.mp x.mO
  exact ⟨cd, h⟩
theorem Ex.obj (x : Ex K C) : ∃ c d cd sl, K.lookup C = some ⟨c, d, .cls cd, sl⟩ := by
  obtain ⟨cd, h⟩ := x.cls
  unfold clsIn at h
  split at h
  · exact ⟨_, _, _, _, by assumption⟩
  · cases h
theorem Ex.isType (x : Ex K C) {M : Model} {h : Heap} (X : K.In h) : Looks M h (PySem.isType (.ref C)) true := by
  obtain ⟨c, d, cd, sl, look⟩ := x.obj
  intro A' Q' E' s' k q
  unfold PySem.isType loadHead
  exact wpAny_bind (wpAny_loadPart (k _ _ (X _ _ look)) (wpAny_pure q))
theorem kitx_exc (x : Ex K C) : KitX K (.ref e) (.ref C) (fun h => ∃ o, h.get? e = some o ∧ o.cls = .ref C ∧ notCls o = true) where
  ty := fun _ _ _ ⟨_, h1, h2, _⟩ => ex_type h1 h2
  it := fun _ _ X _ => x.isType X
  ne := fun h tp dd its n sl X htp => by
    obtain ⟨c, d, cd, sl', look⟩ := x.obj
    refine Bool.eq_false_iff.mpr fun q => ?_
    have z : C = tp := Value.ref.inj (beq_iff_eq.mp q)
    subst z
    have := (X _ _ look).symm.trans htp
    cases this
  ca := fun X ⟨o, h1, h2, h3⟩ k => ex_class X h1 h2 h3 x.ga x.gk x.cl x.hn x.tk x.mO x.mB k
theorem ex_matches {M : Model} {A : Around} {E : Value → Shared → Prop} {s : Shared} {o : Obj} {S : Addr} {Q : Bool → Shared → Prop} (xS : Ex K S) (X : K.In s.heap) (he : s.heap.get? e = some o) (hc : o.cls = .ref C) (hsub : mroIn K C (.ref S) = some true)
    (hq : Q true s) : wpAny M A (excMatches (.ref e) (.ref S)) Q E s := by
  obtain ⟨hh, g, d, t, os⟩ := s
  have L0 := ex_type (M := M) he hc
  have LS := looks_mroIn (M := M) X hsub
  have LB := looks_mroIn (M := M) X xS.mB
  have LT := xS.isType (M := M) X
  have LY := looks_typeIn (M := M) X xS.ty
  have LI : Looks M hh (isInstance (.ref S) (.type "tuple")) false := LY.andThen (Looks.of_pure tc_notTuple)
  have LX : Looks M hh (isExcClass (.ref S)) true := LT.andThen (by simp only [if_true]; exact LB)
  unfold excMatches
  refine wpAny_bind (LI.at ?_)
  simp only [Bool.false_eq_true, if_false]
  refine wpAny_bind (wpAny_pure ?_)
  rw [List.forIn_cons]
  refine wpAny_bind (wpAny_bind (wpAny_bind (LX.at ?_)))
  simp only [Bool.not_true, Bool.false_eq_true, if_false]
  refine wpAny_pure ?_
  dsimp only
  rw [List.forIn_nil]
  refine wpAny_pure ?_
  refine wpAny_bind (L0.at ?_)
  rw [List.forIn_cons]
  refine wpAny_bind (wpAny_bind (wpAny_bind (LS.at ?_)))
  simp only [if_true]
  exact wpAny_pure (wpAny_pure (wpAny_pure hq))
end
end L2X

namespace L2
open PySem PySem.Spec PyProof.Rows
section
variable {X : Cx}
def rIsX (K : PySem.W.Frag) : List V → Hp → VK → Prop := fun xs H Q => ∃ a C c b, (xs = [.ref a, .ref c] ∧ PySem.W.kitOne K (.ref C) (.ref c) = some b) ∧ H a = some (xo a C) ∧ L2X.Ex K C ∧ Q (.bl b) H
theorem call_isX : CallR X (.builtin "isinstance") (rIsX X.K) := by
  intro pins s σ H xs us Q I r h
  obtain ⟨a, C, c, b, ⟨rfl, e⟩, ha, x, q⟩ := h
  obtain ⟨u, v, rfl, ru, rv⟩ := vals2 r
  cases rv
  cases ru
  obtain ⟨φ, _⟩ := (show ObjOk X.prog X.w H s.heap a (xo a C) from I.hok a _ ha)
  exact PySem.W.kia_one (L2X.kitx_exc x) I.kIn φ e (fun z => nomatch z) fun tk => ⟨.bl b, H, I.tok tk, rfl, q⟩
def rIsXT (K : PySem.W.Frag) : List V → Hp → VK → Prop := fun xs H Q => ∃ a C n b, (xs = [.ref a, .ty n] ∧ PySem.W.kitOne K (.ref C) (.type n) = some b) ∧ H a = some (xo a C) ∧ L2X.Ex K C ∧ Q (.bl b) H
theorem call_isXT : CallR X (.builtin "isinstance") (rIsXT X.K) := by
  intro pins s σ H xs us Q I r h
  obtain ⟨a, C, n, b, ⟨rfl, e⟩, ha, x, q⟩ := h
  obtain ⟨u, v, rfl, ru, rv⟩ := vals2 r
  cases rv
  cases ru
  obtain ⟨φ, _⟩ := (show ObjOk X.prog X.w H s.heap a (xo a C) from I.hok a _ ha)
  exact PySem.W.kia_one (L2X.kitx_exc x) I.kIn φ e (fun z => nomatch z) fun tk => ⟨.bl b, H, I.tok tk, rfl, q⟩
def tTry (X : Cx) (k i j : Nat) (S : Addr) (ta : TA) (tb : TS) : TS := fun D σ H => ∃ f fd ps sp, σ[j]? = some (some (.ref f)) ∧ PySem.W.keepIn X.K (.ref f) = true ∧ Binds X.K fd ps [] ∧ FnOk X.prog X.w X.K X.mg X.base (CXe X.prog X.w) k f fd ps sp ∧
  ta σ H fun vs H1 => sp vs H1 (fun _ _ => False) fun c _ H2 => ∃ C, c = .ref C ∧ PySem.W.mroIn X.K C (.ref S) = some true ∧ ∀ a, H2 a = none → tb { nx := fun _ _ => False, rt := D.rt } (σ.set i (some (.ref a))) (upd H2 a (xo a C))
theorem ask_call {pins : List (Addr × Obj)} {σ : St} {H : Hp} {s : Shared} {E' : Value → Shared → Prop} {Q' : Flow → Shared → Prop} {Ew : XK} {k j : Nat} {ask : Str} {f : Addr} {fd : FuncData} {ps : List Str} {sp : Sp} {e : Expr} {es : List Expr} {ta : TA} {p1 cpos xpos : Pos}
    (I : Inv X pins σ H s) (hr : Room k X.A) (hj : X.N[j]? = some ask) (hv : Vis X.env.scope ask) (ef : σ[j]? = some (some (.ref f))) (kf : PySem.W.keepIn X.K (.ref f) = true) (bf : Binds X.K fd ps [])
    (F : FnOk X.prog X.w X.K X.mg X.base (CXe X.prog X.w) k f fd ps sp) (ha : ∀ E, PA (X.wish E) (e :: es) ta) (hta : ta σ H fun vs H1 => sp vs H1 (fun _ _ => False) Ew)
    (herr : ∀ H2 s2 x s', Inv X pins σ H2 s2 → CXe X.prog X.w X.stack H2 s2 Ew x s' → E' x s') (hda : (ask == ("__debug__" : Str)) = false) (hdc : (ask == ("__classdict__" : Str)) = false)
    (hs : swapsWith (.Call (.Name ask p1) (e :: es) [] cpos) none xpos.line X.env = pure false) (he : starEach (e :: es) X.env = (false, eval e X.env) :: starEach es X.env) (hpl : (backTo cpos (starEach es X.env)).any (·.1) = false) :
    wpAny (model X.prog X.w) X.A (execs [.Expr (.Call (.Name ask p1) (e :: es) [] cpos) xpos] X.env) Q' E' s := by
  refine wpAny_execs_cons (wpAny_Expr_any ?_ I.quiet hs)
  refine wpAny_Call_Name_kw (thn ((pe_var hj hv hda hdc : PE (X.wish E') (.Name ask p1) (tVar j)) pins s σ H (fun v H1 => v = .ref f ∧ H1 = H) (I.wish E') ⟨_, ef, rfl, rfl⟩) fun u s1 ⟨v, H1, I1, r1, e1, e2⟩ => ?_)
  subst e1 e2
  cases r1
  refine PySem.W.callWith_K (h₀ := X.base) I.ok.mod.kin kf (thn (ha E' cpos pins s1 σ H1 _ I1 hta) fun us s2 ⟨vs, H2, I2, r2, q2⟩ => ⟨I2.kIn, ?_⟩) he hpl
  replace I2 : Inv X pins σ H2 s2 := I2.unwish
  have hlen : us.length = ps.length := by rw [← r2.length]; exact F.len _ _ _ _ q2
  refine wpAny_call (codeAny_mono (F.run X.A X.stack s2 H2 ⟨us, []⟩ us vs _ _ hr I2.env0 (by have := bf s2 us I2.kIn (by simpa using hlen); simpa using this) r2 q2) fun r s' hq => ?_)
  cases r with
  | ok fl =>
    cases fl with
    | ret u => obtain ⟨_, _, _, _, _, _, _, z⟩ := (show CE _ _ _ _ _ _ _ _ from hq); exact z.elim
    | next => exact False.elim hq
    | brk => exact False.elim hq
    | cont => exact False.elim hq
  | error x => exact herr H2 s2 x s' I2 hq
theorem ps_try {k i j : Nat} {x nm ask : Str} {S : Addr} {e : Expr} {es : List Expr} {b₀ : Stmt} {suite : List Stmt} {ta : TA} {tb : TS} {p1 cpos xpos np hpos tpos : Pos}
    (hx : X.ex = []) (hstk : X.stack = X.env :: X.outer) (hf : X.env.frame = some X.env.locals) (hr : Room k X.A) (hN : X.N.Nodup) (hi : X.N[i]? = some nm) (hl : X.env.scope.names.lookup nm = some .local) (hj : X.N[j]? = some ask) (hv : Vis X.env.scope ask)
    (hg : Gl X x) (hm : X.mg x = some (.ref S)) (xS : L2X.Ex X.K S) (ha : ∀ E, PA (X.wish E) (e :: es) ta) (hb : ∀ v, PSs (X.held v) (b₀ :: suite) tb)
    (hd : (x == ("__debug__" : Str)) = false := by decide) (hda : (ask == ("__debug__" : Str)) = false := by decide) (hdc : (ask == ("__classdict__" : Str)) = false := by decide)
    (hs : swapsWith (.Call (.Name ask p1) (e :: es) [] cpos) none xpos.line X.env = pure false := by rfl) (he : starEach (e :: es) X.env = (false, eval e X.env) :: starEach es X.env := by rfl) (hpl : (backTo cpos (starEach es X.env)).any (·.1) = false := by rfl) :
    PS X (.Try [.Expr (.Call (.Name ask p1) (e :: es) [] cpos) xpos] [.ExceptHandler (some (.Name x np)) (some nm) (b₀ :: suite) hpos] [] [] tpos) (tTry X k i j S ta tb) := by
  intro pins s σ H D I h
  obtain ⟨f, fd, ps, sp, ef, kf, bf, F, hta⟩ := h
  refine wpAny_Try_except ?_
  refine ask_call I hr hj hv ef kf bf F ha hta (fun H2 s2 e s' I2 hq => ?_) hda hdc hs he hpl
  · obtain ⟨a, C, T, H', rfl, os, bare, fl, na, nT, ha', hT, un, hok, C', hc, hsub, hk⟩ := (show CXe X.prog X.w X.stack H2 s2 _ e s' from hq)
    cases hc
    have J : Inv X pins σ H' s' := I2.call' os un hok bare fun b z => nomatch z
    have hch : ∀ b ∈ [a, T], H' b = none ∧ X.s₀.heap.get? b = none ∧ b ≠ X.env.locals ∧ (∀ x c, X.env.cells.lookup x = some c → c ≠ b) ∧ ∀ p ∈ X.pn ++ pins, p.1 ≠ b := by
      intro b hb
      rcases List.mem_cons.mp hb with z | z
      · subst z; exact ⟨ha', I2.apart hx na⟩
      · have z : b = T := by simpa using z
        subst z; exact ⟨hT, I2.apart hx nT⟩
    obtain ⟨a0, tr⟩ := fl.to (base := hid X s'.heap [a, T]) (PySem.W.hideAll_none _ (List.mem_append_right _ (by simp)))
    have fw : Heap.FlyingW (hid X s'.heap [a, T]) (X.env :: X.outer) a (.ref C) a0 s'.heap :=
      ⟨fun b o q => PySem.W.of_hideAll _ q, PySem.W.hideAll_none _ (List.mem_append_right _ (by simp)), hstk ▸ hid_frames J _, tr⟩
    have hfr : X.A.frames = some (X.env :: X.outer) := by rw [J.ok.frames, hstk]
    refine wpAny_looks_onW hfr hf fw fun h4 fl4 up4 => ?_
    refine wpAny_landsW fl4 fun h5 fl5 up5 => ?_
    have J5 : Inv X pins σ H' { s' with heap := h5 } := J.flew hch (fun b o h1 h2 e => fl5.1 b o (PySem.W.hideAll_get _ e fun z => (List.mem_append.mp z).elim h1 h2)) (up4.trans up5)
    obtain ⟨oe, ho, hoc⟩ := fl5.there
    refine wpAny_handleBy_cons (codeAny_handlers_test (ld_glob (J5.held (.ref a)) hg hm ?_ hd)) (by intro q; cases q)
    refine L2X.ex_matches xS J5.kIn ho hoc hsub ?_
    refine codeAny_handlers_suite_as ?_
    refine lands_againW fl5 fun h6 fl6 up6 => ?_
    have J6 : Inv X pins σ H' { s' with heap := h6 } := J.flew hch (fun b o h1 h2 e => fl6.1 b o (PySem.W.hideAll_get _ e fun z => (List.mem_append.mp z).elim h1 h2)) ((up4.trans up5).trans up6)
    obtain ⟨oe6, ws6, ho6, hoc6, hod6, _⟩ := fl6.first
    obtain ⟨_, c1, c2, c3, c4⟩ := hch a (by simp)
    have J7 : Inv X pins σ (upd H' a (xo a C)) { s' with heap := h6 } := J6.track hx c1 ha' c2 c3 c4 ⟨oe6, ho6, hoc6, by unfold PySem.W.notCls; rw [hod6]⟩
    refine store_ok (X := X) J7 hN hi (.inl hl) (show RelV (.ref a) (.ref a) from rfl) (fun s7 I7 => ?_) (.inr hl)
    refine wpAny_mono (hb (.ref a) pins s7 _ _ _ (I7.held (.ref a)) (hk a ha')) (fun g s8 hg8 => ?_) fun _ _ z => False.elim z
    have goes : ∀ {σ8 : St} {H8 : Hp} {Q : Unit → Shared → Prop} {E : Value → Shared → Prop}, Inv X pins σ8 H8 s8 → (∀ s9, Inv X pins (List.replicate X.N.length none) H8 s9 → Q () s9) → wpAny (model X.prog X.w) X.A (do bindName X.env nm .none; unbindBehindTheSuite X.env nm hpos) Q E s8 := by
      intro σ8 H8 Q E I8 hQ
      obtain ⟨m, hn, _⟩ := id I8.loc
      exact wpAny_nameGoes hl hn (by rw [I8.ok.kind]; rfl) fun h' m' hn' hs' => hQ _ (I8.forget hn' hs')
    cases g with
    | ret u =>
      obtain ⟨v, σ8, H8, I8, r8, q8⟩ := hg8
      exact goes (I8.unheld I.ok) fun s9 I9 => ⟨v, _, H8, I9, r8, q8⟩
    | next => obtain ⟨_, _, _, z⟩ := hg8; exact z.elim
    | brk => obtain ⟨_, _, _, z⟩ := hg8; exact z.elim
    | cont => obtain ⟨_, _, _, z⟩ := hg8; exact z.elim
end
end L2

namespace L2
open PySem PySem.Spec PyProof.Rows
theorem bls_at {bs : List Bool} {vs : List Value} (h : Vals (bs.map V.bl) vs) : vs = bs.map Value.bool := by
  induction bs generalizing vs with
  | nil => cases h; rfl
  | cons b bs ih =>
    cases h with
    | cons r t =>
      cases r
      rw [ih t]; rfl
section
variable {X : Cx}
theorem eqAt_self {A : Around} {s : Shared} (v : Value) : SeqAt.EqAt A s v v true := by
  intro prog w E Q hq
  unfold eqBool
  refine wpAny_holding ?_
  rw [if_pos (by simp)]
  exact wpAny_bind (wpAny_rule (wpAny_pure hq))
def rEqB (K : PySem.W.Frag) : R2 := fun x y H Q => ∃ (p q : Addr) (bs : List Bool), x = .ref p ∧ y = .ref q ∧ SqL K H p (bs.map V.bl) ∧ SqL K H q (bs.map V.bl) ∧ Q (.bl true) H
def rNeB (K : PySem.W.Frag) : R2 := fun x y H Q => ∃ (p q : Addr) (bs : List Bool), x = .ref p ∧ y = .ref q ∧ SqL K H p (bs.map V.bl) ∧ SqL K H q (bs.map V.bl) ∧ Q (.bl false) H
theorem op_eqB (hu : X.A.units < cLine) : OpR X (compareOp .Eq) (rEqB X.K) := by
  intro pins s σ H x y v u Q I rx ry h
  obtain ⟨p, q', bs, rfl, rfl, h1, h2, q⟩ := h
  cases rx; cases ry
  obtain ⟨vs, rv, pl, hz⟩ := I.list h1
  obtain ⟨ws, rw', pl', hz'⟩ := I.list h2
  have e1 := bls_at rv
  have e2 := bls_at rw'
  subst e1 e2
  refine SeqAt.eq_listAt pl.isList pl'.isList rfl hu (e := fun _ => true) (fun j h1 h2 => eqAt_self _) ?_
  rw [show ((List.range (bs.map Value.bool).toArray.size).all fun _ => true) = true by simp]
  exact ⟨.bl _, H, I, rfl, q⟩
theorem op_neB (hu : X.A.units < cLine) : OpR X (compareOp .NotEq) (rNeB X.K) := by
  intro pins s σ H x y v u Q I rx ry h
  obtain ⟨p, q', bs, rfl, rfl, h1, h2, q⟩ := h
  cases rx; cases ry
  obtain ⟨vs, rv, pl, hz⟩ := I.list h1
  obtain ⟨ws, rw', pl', hz'⟩ := I.list h2
  have e1 := bls_at rv
  have e2 := bls_at rw'
  subst e1 e2
  refine SeqAt.RcNeAt.lists pl.isList pl'.isList rfl hu (e := fun _ => true) (fun j h1 h2 => eqAt_self _) _ _ _ _ ?_
  rw [show ((List.range (bs.map Value.bool).toArray.size).all fun _ => true) = true by simp]
  exact ⟨.bl _, H, I, rfl, q⟩
end
def Itu (lo st : Int) (n : Nat) : It := ⟨fun i _ => i < n, fun i H x H' => H' = H ∧ x = .int (lo + i * st), fun i _ => n ≤ i⟩
theorem turn_up {P : Program} {w : World} {K : PySem.W.Frag} {tg : Expr} (it : Addr) (lo st : Int) (n : Nat) : Turn P w K tg (Itu lo st n) [it] it (fun i h => IsRangeIter h it (lo + (i : Nat) * st) ((n : Int) - (i : Nat)) st) where
  mem := by simp
  obj := fun i h st b hb => by
    have e : b = it := by simpa using hb
    subst e
    exact ⟨_, st, fun v z => by
      have z' : Data.fields _ = Data.cell v := z
      cases z'⟩
  keep := fun i h h' st k => k it (by simp) _ st
  item := by
    intro X hP hw hK hc i pins s σ H E I hf st' hg
    subst hP hw hK
    obtain ⟨f0, f1, f2, f3, f4, f5⟩ := hf it (by simp)
    have W := Walks.range (prog := X.prog) (w := X.w) (I.ok.hd hc) it lo st n
    refine W.item i s _ _ hg st' fun v h' tk hv st2 kk => ?_
    obtain ⟨t, rfl⟩ := hv
    have I1 : Inv X pins σ H { s with heap := h', toks := tk } := I.turned (fun b o hb e => kk b o (by simpa using hb) e) f0 f1 f3 f4 f5
    exact ⟨_, rfl, go_of (s := { s with heap := h', toks := tk }) (n := "range_iterator") st2 rfl rfl (by decide) ⟨.int (lo + i * st), H, I1, ⟨t, rfl⟩, ⟨rfl, rfl⟩, st2, fun b hb => (hf b hb).1⟩⟩
  done := by
    intro X hP hw hK hc i pins s σ H E I hf st' hg
    subst hP hw hK
    obtain ⟨f0, f1, f2, f3, f4, f5⟩ := hf it (by simp)
    exact wpAny_pyNext_range_end (I.ok.hd hc) st' (by have : n ≤ i := hg; omega) fun h' eb => ⟨rfl, I.turned (t' := s.toks) (fun b o hb e => eb b o hb e) f0 f1 f3 f4 f5⟩
  self := fun _ _ _ _ _ st h => wpAny_pyIter_rangeiter st h
theorem rangeSize_up {n st : Int} (h : 0 < st) : Builtin.Range.rangeSize 0 n st = (((if 0 < n then (n - 1) / st + 1 else 0).toNat : Nat) : Int) := by
  unfold Builtin.Range.rangeSize
  rw [if_pos h]
  split
  · have : 0 ≤ (n - 1) / st := Int.ediv_nonneg (by omega) (by omega)
    simp only [Int.sub_zero]
    omega
  · rfl
theorem small_up {n st : Int} (h0 : 0 ≤ n) (h1 : n < 2 ^ 28) (h2 : 0 < st) (h3 : st < 2 ^ 28) : Builtin.Range.small 0 n st = true := by
  have e : 0 ≤ (n - 1) / st ∨ (n - 1) / st < 0 := by omega
  have l : (n - 1) / st ≤ n := by
    have := Int.ediv_mul_le (n - 1) (show st ≠ 0 by omega)
    rcases e with e | e
    · have : (n - 1) / st * 1 ≤ (n - 1) / st * st := Int.mul_le_mul_of_nonneg_left (by omega) e
      omega
    · omega
  unfold Builtin.Range.small
  rw [rangeSize_up h2]
  unfold Builtin.Range.rangeFitsLong
  simp
  split <;> omega
section
variable {X : Cx}
def iRngU (ta : TA) : TI := fun σ H R => ta σ H fun vs H1 => ∃ n st : Int, vs = [.int 0, .int n, .int st] ∧ (0 ≤ n ∧ n < 2 ^ 28 ∧ 0 < st ∧ st < 2 ^ 28) ∧ R (Itu 0 st (if 0 < n then (n - 1) / st + 1 else 0).toNat) H1
theorem pi_up {a b c : Expr} {ta : TA} {p pos : Pos} {tg : Expr} (hg : Gl X "range") (hm : X.mg "range" = none) (ha : PA X [a, b, c] ta)
    (hs : starEach [a, b, c] X.env = (false, eval a X.env) :: starEach [b, c] X.env := by rfl) (hs2 : (backTo pos (starEach [b, c] X.env)).any (·.1) = false := by rfl) :
    PI X tg (.Call (.Name "range" p) [a, b, c] [] pos) (iRngU ta) := by
  intro pins s σ H R I h
  refine Call_ (ld_blt I hg hm boot_range (PyProof.Rows.callWith_type1 (thn (ha pos pins s σ H _ I h) fun us s1 ⟨vs, H1, I1, r1, q1⟩ => ?_) hs hs2))
  obtain ⟨j, st, e, ⟨q1, q2, q3, q4⟩, q⟩ := q1
  subst e
  obtain ⟨u1, u2, u3, rfl, ⟨t1, rfl⟩, ⟨t2, rfl⟩, ⟨t3, rfl⟩⟩ := Vals.three r1
  refine call_range_3 (by omega) ?_ (Or.inl (PyProof.noPylong_small (by omega)))
  refine wpAny_pyIter_range (IsRange.new ..) (small_up q1 q2 q3 q4) ?_
  generalize hO : s1.heap.push { cls := .type "range", data := .fields #[.int 0 t1, .int j t2, .int st t3] } = h2
  have k2 : ∀ b o, s1.heap.get? b = some o → h2.get? b = some o := fun b o e => hO ▸ Heap.get?_push_of_some _ e
  have I2 : Inv X pins σ H1 { s1 with heap := h2 } := I1.kept (t' := s1.toks) k2
  refine ⟨h2.objs.size, [h2.objs.size], _, _, H1, rfl, I2.kept (t' := s1.toks) fun b o e => Heap.get?_push_of_some _ e, turn_up _ 0 st _, ?_, fun b hb => ?_, q⟩
  · show IsRangeIter _ _ (0 + ((0 : Nat) : Int) * st) (_ - ((0 : Nat) : Int)) st
    rw [← rangeSize_up q3]
    have e1 : 0 + ((0 : Nat) : Int) * st = 0 := by simp
    have e2 : Builtin.Range.rangeSize 0 j st - ((0 : Nat) : Int) = Builtin.Range.rangeSize 0 j st := by simp
    rw [e1, e2]
    exact Heap.get?_push_size _ rfl
  · have e : b = h2.objs.size := by simpa using hb
    subst e
    exact I2.fpOk (Nat.le_refl _) (I2.hok.fresh (Nat.le_refl _))
end
theorem for_up {lo st : Int} {n : Nat} {g : TG} {tb : TS} {D : Ends} {σ : St} {H : Hp} (Pv : Nat → St → Hp → Prop) (h0 : Pv 0 σ H)
    (hs : ∀ i σ H, i < n → Pv i σ H → g (.int (lo + i * st)) σ H fun σ2 H2 => tb { D with nx := Pv (i + 1), ct := Pv (i + 1), bk := D.nx } σ2 H2) (hd : ∀ σ H, Pv n σ H → D.nx σ H) :
    ∃ W : Nat → Nat → St → Hp → Prop, (∃ m, W 0 m σ H) ∧ ∀ i m σ H, W i m σ H →
      ((Itu lo st n).stop i H ∧ D.nx σ H) ∨ ((Itu lo st n).go i H ∧ ∃ N : St → Hp → Prop, (∀ σ' H', N σ' H' → ∃ m', m' < m ∧ W (i + 1) m' σ' H') ∧ ∀ x H', (Itu lo st n).yld i H x H' → g x σ H' fun σ2 H2 => tb { D with nx := N, ct := N, bk := D.nx } σ2 H2) := by
  refine ⟨fun i m σ H => m = n - i ∧ i ≤ n ∧ Pv i σ H, ⟨n, by simp, Nat.zero_le _, h0⟩, ?_⟩
  rintro i m σ H ⟨rfl, hi, p⟩
  by_cases hlt : i < n
  · refine .inr ⟨hlt, Pv (i + 1), fun σ' H' p' => ⟨n - (i + 1), by omega, rfl, hlt, p'⟩, fun x H' y => ?_⟩
    obtain ⟨e, y⟩ := y
    subst e y
    exact hs i σ _ hlt p
  · have e : i = n := by omega
    subst e
    exact .inl ⟨Nat.le_refl _, hd σ H p⟩
theorem up_lt {n st : Int} {k : Nat} (h : 0 < st) (hk : k < (if 0 < n then (n - 1) / st + 1 else 0).toNat) : (k : Int) * st < n := by
  split at hk
  · have : (k : Int) ≤ (n - 1) / st := by omega
    have := (Int.le_ediv_iff_mul_le h).mp this
    omega
  · simp at hk
end L2

namespace OS
open PySem PySem.Spec PyProof.Rows L2
theorem b_len : bootBuiltins "len" = some (.builtin "len") := by decide +kernel
theorem b_isinstance : bootBuiltins "isinstance" = some (.builtin "isinstance") := by decide +kernel
theorem b_max : bootBuiltins "max" = some (.builtin "max") := by decide +kernel
theorem b_all : bootBuiltins "all" = some (.builtin "all") := by decide +kernel
theorem b_any : bootBuiltins "any" = some (.builtin "any") := by decide +kernel
theorem b_sorted : bootBuiltins "sorted" = some (.builtin "sorted") := by decide +kernel
theorem b_int : bootBuiltins "int" = some (.type "int") := by decide +kernel
theorem b_bool : bootBuiltins "bool" = some (.type "bool") := by decide +kernel
theorem b_list : bootBuiltins "list" = some (.type "list") := by decide +kernel
structure Nm (mg : Str → Option Value) : Prop where
  n_len : mg "len" = none
  n_isinstance : mg "isinstance" = none
  n_sum : mg "sum" = none
  n_min : mg "min" = none
  n_max : mg "max" = none
  n_all : mg "all" = none
  n_any : mg "any" = none
  n_sorted : mg "sorted" = none
  n_int : mg "int" = none
  n_bool : mg "bool" = none
  n_list : mg "list" = none
  n_range : mg "range" = none
  n_enumerate : mg "enumerate" = none
  n_zip : mg "zip" = none
structure Fx (K : PySem.W.Frag) (mg : Str → Option Value) (x : Str) (ps : List Str) (st : Stmt) (f : Addr) (fd : FuncData) : Prop where
  F : Fun K x x st f fd
  m : mg x = some (.ref f)
  b : Binds K fd ps []
theorem se_const {c : Const} {j : Nat} {pos : Pos} {es : List Expr} {env : Env} : starEach (.Constant c j pos :: es) env = (false, eval (.Constant c j pos) env) :: starEach es env := rfl
theorem pss_of {X : Cx} {b l : List Stmt} {t : TS} (e : b = l) (h : PSs X l t) : PSs X b t := by subst e; exact h
theorem ps_of {X : Cx} {a b : Stmt} {t : TS} (e : a = b) (h : PS X b t) : PS X a t := by subst e; exact h
inductive IsConsts : List Expr → List Int → Prop where
  | nil : IsConsts [] []
  | cons {i : Int} {j : Nat} {pos : Pos} {es : List Expr} {ns : List Int} (h : IsConsts es ns) : IsConsts (.Constant (.int i) j pos :: es) (i :: ns)
theorem pa_consts {X : Cx} {es : List Expr} {ns : List Int} (h : IsConsts es ns) : PA X es (fun _ H Q => Q (ns.map V.int) H) := by
  induction h with
  | nil => exact pa_nil
  | cons h ih =>
    intro pos pins s σ H Q I hw
    exact pa_cons pe_int ih se_const pos pins s σ H Q I hw
theorem ifY {c A B : Prop} [Decidable c] (hc : c) (h : A) : if decide c = true then A else B := by rw [decide_eq_true hc]; exact iteT h
theorem ifN {c A B : Prop} [Decidable c] (hc : ¬ c) (h : B) : if decide c = true then A else B := by rw [decide_eq_false hc]; exact iteF h
theorem ifNY {c A B : Prop} [Decidable c] (hc : ¬ c) (h : A) : if (!decide c) = true then A else B := by rw [decide_eq_false hc]; exact iteT h
theorem ifNN {c A B : Prop} [Decidable c] (hc : c) (h : B) : if (!decide c) = true then A else B := by rw [decide_eq_true hc]; exact iteF h
theorem if2 {c A B : Prop} [Decidable c] (h1 : c → A) (h2 : ¬ c → B) : if decide c = true then A else B := by
  by_cases h : c
  · exact ifY h (h1 h)
  · exact ifN h (h2 h)
theorem vi_ne {a b : Int} (h : a ≠ b) : ¬ V.int a = V.int b := fun e => h (V.int.inj e)
abbrev lz (xs : List Int) : HO := .lst (xs.map V.int)
theorem lz_get {xs : List Int} {i : Nat} {z : Int} (h : xs[i]? = some z) : (xs.map V.int)[i]? = some (V.int z) := by rw [List.getElem?_map, h]; rfl
theorem lz_at {xs : List Int} {i : Nat} {y : V} (h : (xs.map V.int)[i]? = some y) : ∃ z, xs[i]? = some z ∧ y = .int z := by
  rw [List.getElem?_map] at h
  cases e : xs[i]? with
  | none => rw [e] at h; cases h
  | some z => rw [e] at h; exact ⟨z, rfl, (Option.some.inj h).symm⟩
theorem lz_set (xs : List Int) (i : Nat) (z : Int) : (xs.map V.int).set i (.int z) = (xs.set i z).map V.int := by rw [List.map_set]
theorem lz_snoc (xs : List Int) (z : Int) : xs.map V.int ++ [V.int z] = (xs ++ [z]).map V.int := by simp
theorem lz_len (xs : List Int) : (xs.map V.int).length = xs.length := List.length_map _
theorem atI_of {α : Type} {xs : List α} {i : Int} {v : α} (j : Nat) (e : i = (j : Int)) (h : xs[j]? = some v) : atI xs i = some v := by subst e; exact atI_nat h
theorem atI_neg1 {xs : List Int} {z : Int} (h : xs[xs.length - 1]? = some z) : atI (xs.map V.int) (-1) = some (V.int z) := by
  have hl : xs ≠ [] := fun e => by subst e; simp at h
  have hp : 0 < xs.length := List.length_pos_iff.mpr hl
  unfold atI ixN
  rw [if_neg (by decide), List.length_map, if_pos (by omega)]
  show (xs.map V.int)[((-1 : Int) + (xs.length : Int)).toNat]? = _
  rw [show ((-1 : Int) + (xs.length : Int)).toNat = xs.length - 1 by omega]
  exact lz_get h
theorem ixN_of {n : Nat} {i : Int} (j : Nat) (e : i = (j : Int)) (h : j < n) : ixN n i = some j := by
  subst e
  unfold ixN
  rw [if_pos (by omega), if_pos (by omega)]; simp
theorem small {n : Nat} (h : n ≤ 1000) : n ≤ sizeLine := Nat.le_of_lt (small1000 h)
theorem tab_last (m : Nat) (f : Nat → Int) : (tab (m + 1) f)[(tab (m + 1) f).length - 1]? = some (f m) := by
  rw [tab_length, Nat.add_sub_cancel, tab_get _ _ _ (Nat.lt_succ_self m)]
theorem same_upd {H H' : Hp} {p : Addr} {o : HO} (s : Same H H') (h : H p = none) : Same H (upd H' p o) := fun b u q => by
  rw [upd_ne (ne_of_none q h)]; exact s b u q
structure Gm (mg : Str → Option Value) (x : Str) (C : Addr) : Prop where
  m : mg x = some (.ref C)
structure Cs (K : PySem.W.Frag) (mg : Str → Option Value) (x : Str) (C : Addr) : Prop where
  m : mg x = some (.ref C)
  cl : Cls K C
  ha : PySem.W.findIn K (.ref C) "__class__" = some (some (.builtin "object.__class__"))
  hn : PySem.W.specialIn K (.builtin "object.__class__") "__get__" = some (some (.builtin "getset_descriptor.__get__"))
  htk : PySem.W.takesIn K (.builtin "object.__class__") = some true
  hm : PySem.W.mroIn K C (.type "object") = some true
  mks : PySem.W.makesIn K C = true
  kc : PySem.W.keepIn K (.ref C) = true
theorem Cs.ty {K : PySem.W.Frag} {mg : Str → Option Value} {x : Str} {C : Addr} (c : Cs K mg x C) {H : Hp} {a dx : Addr} {fs : List (Str × V)} (e : H a = some (.ins C dx fs)) : TyOf K H (.ref a) (.ref C) := .ins e c.cl c.ha c.hn c.htk c.hm
structure Mx (K : PySem.W.Frag) (C : Addr) (x qual : Str) (ps : List Str) (st : Stmt) (f : Addr) (fd : FuncData) : Prop where
  F : Fun K x qual st f fd
  b : Binds K fd ps []
  me : Meth K C x f
theorem lk1 (f : Str) (v : V) : (putF f v []).lookup f = some v := by rw [lookup_putF, if_pos rfl]
theorem bools_all (n : Nat) : ((List.replicate n true).all id) = true := by
  induction n with
  | zero => rfl
  | succ n ih => rw [List.replicate_succ, List.all_cons, ih]; rfl
theorem rep_true (i : Nat) (b : Bool) (hb : b = true) : (List.replicate i true).map V.bl ++ [V.bl b] = (List.replicate (i + 1) true).map V.bl := by
  subst hb
  rw [List.replicate_succ', List.map_append]; rfl
theorem rep_flat {α : Type} (a : α) (n : Nat) : (List.replicate n [a]).flatten = List.replicate n a := by
  induction n with
  | zero => rfl
  | succ n ih => rw [List.replicate_succ, List.flatten_cons, ih, List.replicate_succ]; rfl
theorem zip_at {a b : List Int} {j : Nat} {y z : Int} (hy : a[j]? = some y) (hz : b[j]? = some z) : (a.zip b).take (j + 1) = (a.zip b).take j ++ [(y, z)] := by
  have e : (a.zip b)[j]? = some (y, z) := List.getElem?_zip_eq_some.mpr ⟨hy, hz⟩
  rw [List.take_add_one, e]; rfl
theorem cut_to (xs : List V) (k : Nat) : cutV xs none (some (k : Int)) = xs.take k := by
  unfold cutV
  rw [HT.sIx_none, HT.sIx_nat, List.drop_zero, Nat.sub_zero]
  by_cases h : k ≤ xs.length
  · rw [Nat.min_eq_left h]
  · rw [Nat.min_eq_right (by omega), List.take_length, List.take_of_length_le (by omega)]
theorem cut_from (xs : List V) (k : Nat) : cutV xs (some (k : Int)) none = xs.drop k := by
  unfold cutV
  rw [HT.sIx_none, HT.sIx_nat]
  by_cases h : k ≤ xs.length
  · rw [Nat.min_eq_left h]; exact List.take_of_length_le (by simp)
  · rw [Nat.min_eq_right (by omega), Nat.sub_self, List.take_zero, List.drop_eq_nil_of_le (by omega)]
theorem cut_last (xs : List V) : cutV xs none (some (-1)) = xs.take (xs.length - 1) := by
  unfold cutV
  rw [HT.sIx_none, List.drop_zero, Nat.sub_zero]
  congr 1
  unfold HT.sIx
  simp
  omega
theorem rng_lz (n : Nat) : (List.range n).map (fun (i : Nat) => V.int (i : Int)) = (rngI n).map V.int := by
  unfold rngI tab; rw [List.map_map]; rfl
theorem kit_of {K : PySem.W.Frag} {C D : Addr} {b : Bool} (ty : PySem.W.typeIn K (.ref D) = some (.type "type")) (cl : PySem.W.mroIn K D (.type "object") = some true) (sb : PySem.W.subIn K (.ref C) (.ref D) = some b) (hne : C ≠ D ∨ b = true) : PySem.W.kitOne K (.ref C) (.ref D) = some b := by
  unfold PySem.W.kitOne
  by_cases e : (Value.ref C == Value.ref D) = true
  · rw [if_pos e]
    rcases hne with h | h
    · have := eq_of_beq e
      cases this
      exact absurd rfl h
    · rw [h]
  · rw [if_neg e]
    obtain ⟨cd, h1, _⟩ := Option.bind_eq_some_iff.mp cl
    show (if ((PySem.W.clsIn K D).isSome && PySem.W.typeIn K (.ref D) == some (.type "type")) = true then PySem.W.subIn K (.ref C) (.ref D) else none) = some b
    rw [h1, ty, sb, if_pos]
    simp
end OS

namespace OS
open PySem L2
def top (i : Nat) : Stmt := PySem.Challenge.pw_offseat_k05_refused.main.body.getD i (.Pass ⟨0, 0, 0, 0⟩)
abbrev s_is_whole_number : Stmt := top 7
theorem sc_is_whole_number : FnScope ["value"] ["value"] (defScope s_is_whole_number) := ⟨rfl, rfl, rfl, by decide +kernel, rfl, by decide +kernel, by decide +kernel⟩
abbrev s_are_shuns : Stmt := top 8
theorem sc_are_shuns : FnScope ["value"] ["value"] (defScope s_are_shuns) := ⟨rfl, rfl, rfl, by decide +kernel, rfl, by decide +kernel, by decide +kernel⟩
theorem sc_are_shuns_0 : CompSc ["value"] (defScope s_are_shuns) ({ kind := PySem.ScopeKind.function, names := [ (PySem.Str.ofString ".0", PySem.NameKind.local), (PySem.Str.ofString "seat", PySem.NameKind.local), (PySem.Str.ofString "is_whole_number", PySem.NameKind.globalImplicit), (PySem.Str.ofString "len", PySem.NameKind.globalImplicit), (PySem.Str.ofString "value", PySem.NameKind.free)], isGenerator := false, isCoroutine := false, more := [] : PySem.Scope }) ["seat", "value"] 1 [0] :=
  ⟨rfl, by decide +kernel, by decide +kernel, by decide +kernel, by decide +kernel, rfl, by decide +kernel, by decide +kernel, by decide +kernel⟩
abbrev s_refuse_bad_shuns : Stmt := top 9
theorem sc_refuse_bad_shuns : FnScope ["shuns"] ["shuns"] (defScope s_refuse_bad_shuns) := ⟨rfl, rfl, rfl, by decide +kernel, rfl, by decide +kernel, by decide +kernel⟩
abbrev s_is_seating : Stmt := top 10
theorem sc_is_seating : FnScope ["value", "guests", "taken", "seat"] ["value", "guests"] (defScope s_is_seating) := ⟨rfl, rfl, rfl, by decide +kernel, rfl, by decide +kernel, by decide +kernel⟩
abbrev s_is_seating_off : Stmt := top 11
theorem sc_is_seating_off : FnScope ["value", "shuns"] ["value", "shuns"] (defScope s_is_seating_off) := ⟨rfl, rfl, rfl, by decide +kernel, rfl, by decide +kernel, by decide +kernel⟩
theorem sc_is_seating_off_0 : CompSc ["value", "shuns"] (defScope s_is_seating_off) ({ kind := PySem.ScopeKind.function, names := [ (PySem.Str.ofString ".0", PySem.NameKind.local), (PySem.Str.ofString "seat", PySem.NameKind.local), (PySem.Str.ofString "shun", PySem.NameKind.local)], isGenerator := false, isCoroutine := false, more := [] : PySem.Scope }) ["seat", "shun"] 2 [] :=
  ⟨rfl, by decide +kernel, by decide +kernel, by decide +kernel, by decide +kernel, rfl, by decide +kernel, by decide +kernel, by decide +kernel⟩
abbrev s_shunner_tallies : Stmt := top 14
theorem sc_shunner_tallies : FnScope ["shuns", "tallies", "seat"] ["shuns"] (defScope s_shunner_tallies) := ⟨rfl, rfl, rfl, by decide +kernel, rfl, by decide +kernel, by decide +kernel⟩
abbrev s_ways_to_choose : Stmt := top 15
theorem sc_ways_to_choose : FnScope ["tallies", "ways", "tally"] ["tallies"] (defScope s_ways_to_choose) := ⟨rfl, rfl, rfl, by decide +kernel, rfl, by decide +kernel, by decide +kernel⟩
abbrev s_ways_with_seat : Stmt := top 16
theorem sc_ways_with_seat : FnScope ["ways", "tally", "more", "k", "way"] ["ways", "tally"] (defScope s_ways_with_seat) := ⟨rfl, rfl, rfl, by decide +kernel, rfl, by decide +kernel, by decide +kernel⟩
section
variable {P : Program} {w : World} {K : PySem.W.Frag} {mg : Str → Option Value} {base : Heap}
def spIsW : Sp := fun vs H Q _ => ∃ i : Int, vs = [.int i] ∧ Q (.bl true) H
theorem ok_is_whole_number {f : Addr} {fd : FuncData} (T : Nm mg) (F : Fun K "is_whole_number" "is_whole_number" s_is_whole_number f fd) : FnOk P w K mg base CX0 1 f fd ["value"] spIsW := by
  refine F.ok sc_is_whole_number (fun vs H Q E h => ?_) (fun cdv A outer s H vs Q E hr h => ?_)
  · obtain ⟨i, rfl, _⟩ := h
    rfl
  obtain ⟨i, rfl, q⟩ := h
  refine ⟨_, (pss_of (l := [_]) rfl (pss_one (ps_ret (pe_and (pe_callB call_isT rfl T.n_isinstance b_isinstance (pa_cons (pv 0) (pa_cons (pe_bltn (v := V.ty "int") rfl T.n_int b_int rfl) pa_nil))) (pe_one (pe_not (pe_callB call_isT rfl T.n_isinstance b_isinstance (pa_cons (pv 0) (pa_cons (pe_bltn (v := V.ty "bool") rfl T.n_bool b_bool rfl) pa_nil))))))))), ?_⟩
  refine ⟨_, rfl, _, _, _, _, rfl, .int i, kit_same _ _, true, rfl, ?_⟩
  refine iteT ?_
  exact ⟨_, rfl, _, _, _, _, rfl, .int i, kit_int_bool _, false, rfl, q⟩
def spAre : Sp := fun vs H Q _ => ∃ (a : Addr) (xs : List Int), vs = [.ref a] ∧ H a = some (lz xs) ∧ xs.length ≤ 100 ∧ (∀ x ∈ xs, -1 ≤ x ∧ x < xs.length) ∧ ∀ H', Same H H' → Q (.bl true) H'
theorem ok_are_shuns {f g : Addr} {fd gd : FuncData} (T : Nm mg) (F : Fun K "are_shuns" "are_shuns" s_are_shuns f fd)
    (x_is_whole_number : Fx K mg "is_whole_number" ["value"] s_is_whole_number g gd) : FnOk P w K mg base CX0 2 f fd ["value"] spAre := by
  have G_is_whole_number : FnOk P w K mg base CX0 1 g gd ["value"] spIsW := ok_is_whole_number T x_is_whole_number.F
  refine F.ok sc_are_shuns (fun vs H Q E h => ?_) (fun cdv A outer s H vs Q E hr h => ?_)
  · obtain ⟨a, xs, rfl, _⟩ := h
    rfl
  obtain ⟨a, xs, rfl, ha, hl, hv, q⟩ := h
  refine ⟨_, (pss_of (l := [_, _]) rfl (pss_cons (ps_if (pt_not (pt_val (pe_callB call_isT rfl T.n_isinstance b_isinstance (pa_cons (pv 0) (pa_cons (pe_bltn (v := V.ty "list") rfl T.n_list b_list rfl) pa_nil))))) (pss_one (ps_ret pe_bl)) pss_nil)
      (pss_one (ps_ret (pe_callB (call_allB rfl) rfl T.n_all b_all (pa_cons (pe_comp rfl sc_are_shuns_0 (pi_list (pv 0)) (fun _ _ _ => (pg_name (i := 0) sc_are_shuns_0.nd rfl (Or.inl rfl))) (fun _ _ _ => pif_nil) (fun _ _ _ => (pe_and (pe_call G_is_whole_number hr rfl x_is_whole_number.m x_is_whole_number.F.kp x_is_whole_number.b .nil pass0 (pa_cons (pv 0) pa_nil)) (pe_and (pe_cmpR op_ge (pv 0) (pe_un un_neg pe_int) (nomark _)) (pe_one (pe_cmpR op_lt (pv 0) (pe_callB call_len_seq rfl T.n_len b_len (pa_cons (pv 1) pa_nil)) (nomark _))))))) pa_nil)))))), ?_⟩
  refine ⟨_, rfl, _, _, _, _, rfl, .lst ha, kit_same _ _, true, rfl, ?_⟩
  refine iteF ?_
  refine ⟨_, rfl, a, rfl, ⟨_, SqL.of ha⟩, fun D hD _ _ => ?_⟩
  refine comp_list (K := K) (a := a) (xs := xs.map V.int) (fun i ys σ H' => Same H H' ∧ H' D = some (.lst ys) ∧ ys = (List.replicate i true).map V.bl ∧ ∃ u, σ = [u, some (.ref a)])
    ⟨same_new hD _, upd_same, rfl, none, rfl⟩ (fun i ys σ H' _ ⟨s6, e6, _⟩ => ⟨SqL.of (s6 _ _ ha), e6⟩) ?_ ?_
  · rintro j x ys σ H' hj ⟨s6, e6, rfl, u, rfl⟩
    have hjl := (List.getElem?_eq_some_iff.mp hj).1
    rw [lz_len] at hjl
    obtain ⟨z, hz, rfl⟩ := lz_at hj
    have hb := hv z (List.mem_of_getElem? hz)
    refine ⟨small1000 (by simp; omega), ?_⟩
    refine ⟨_, rfl, z, rfl, true, rfl, iteT ?_⟩
    refine ⟨_, rfl, _, rfl, _, _, rfl, rfl, _, rfl, ifY (by omega) ?_⟩
    refine ⟨_, rfl, _, rfl, a, _, rfl, .inl (SqL.of (s6 _ _ ha)), _, _, rfl, rfl, ?_⟩
    refine ⟨e6, same_upd s6 hD, upd_same, rep_true _ _ (decide_eq_true ?_), _, rfl⟩
    rw [lz_len]; exact hb.2
  rintro ys σ H' ⟨s6, e6, rfl, u, rfl⟩
  refine ⟨D, _, rfl, SqL.of e6, ?_⟩
  rw [bools_all]
  exact q _ s6
def spRefuse : Sp := fun vs H Q _ => ∃ (a : Addr) (xs : List Int), vs = [.ref a] ∧ H a = some (lz xs) ∧ xs.length ≤ 100 ∧ (∀ x ∈ xs, -1 ≤ x ∧ x < xs.length) ∧ ∀ H', Same H H' → Q .non H'
theorem ok_refuse_bad_shuns {f g g2 : Addr} {fd gd gd2 : FuncData} (T : Nm mg) (F : Fun K "refuse_bad_shuns" "refuse_bad_shuns" s_refuse_bad_shuns f fd)
    (x_are_shuns : Fx K mg "are_shuns" ["value"] s_are_shuns g2 gd2) (x_is_whole_number : Fx K mg "is_whole_number" ["value"] s_is_whole_number g gd) : FnOk P w K mg base CX0 3 f fd ["shuns"] spRefuse := by
  have G_are_shuns : FnOk P w K mg base CX0 2 g2 gd2 ["value"] spAre := ok_are_shuns T x_are_shuns.F x_is_whole_number
  refine F.ok sc_refuse_bad_shuns (fun vs H Q E h => ?_) (fun cdv A outer s H vs Q E hr h => ?_)
  · obtain ⟨a, xs, rfl, _⟩ := h
    rfl
  obtain ⟨a, xs, rfl, ha, hl, hv, q⟩ := h
  refine ⟨_, (pss_of (l := [_]) rfl (pss_one (ps_if (pt_not (pt_val (pe_call G_are_shuns hr rfl x_are_shuns.m x_are_shuns.F.kp x_are_shuns.b .nil pass0 (pa_cons (pv 0) pa_nil)))) (pss_one ps_never) pss_nil))), ?_⟩
  refine ⟨_, rfl, a, xs, rfl, ha, hl, hv, fun H' s1 => ?_⟩
  refine ⟨true, rfl, iteF ?_⟩
  exact q _ s1
def spIsSeat : Sp := fun vs H Q _ => ∃ (a : Addr) (ss : List Int) (n : Nat), vs = [.ref a, .int (n : Int)] ∧ H a = some (lz ss) ∧ n ≤ 100 ∧ ∀ H', Same H H' → Q (.bl (decide (Seat n ss))) H'
theorem ok_is_seating {f g : Addr} {fd gd : FuncData} (T : Nm mg) (F : Fun K "is_seating" "is_seating" s_is_seating f fd)
    (x_is_whole_number : Fx K mg "is_whole_number" ["value"] s_is_whole_number g gd) : FnOk P w K mg base CX0 2 f fd ["value", "guests"] spIsSeat := by
  have G_is_whole_number : FnOk P w K mg base CX0 1 g gd ["value"] spIsW := ok_is_whole_number T x_is_whole_number.F
  refine F.ok sc_is_seating (fun vs H Q E h => ?_) (fun cdv A outer s H vs Q E hr h => ?_)
  · obtain ⟨a, ss, n, rfl, _⟩ := h
    rfl
  obtain ⟨a, ss, n, rfl, ha, hn, q⟩ := h
  refine ⟨_, (pss_of (l := [_, _, _, _]) rfl (pss_cons (ps_if (PW.pt (pw_or (pt_not (pt_val (pe_callB call_isT rfl T.n_isinstance b_isinstance (pa_cons (pv 0) (pa_cons (pe_bltn (v := V.ty "list") rfl T.n_list b_list rfl) pa_nil))))) (pw_or1 (pt_cmpR op_ne (pe_callB call_len_seq rfl T.n_len b_len (pa_cons (pv 0) pa_nil)) (pv 1) (nomark _))))) (pss_one (ps_ret pe_bl)) pss_nil)
      (pss_cons (ps_set (i := 2) sc_is_seating.nd rfl (Or.inl rfl) (pe_op op_rep (pe_lst (pa_cons pe_bl pa_nil)) (pv 1)))
      (pss_cons (ps_for PassesOwn.never rfl (pi_list (pv 0)) (pg_name (i := 3) sc_is_seating.nd rfl (Or.inl rfl)) (pss_cons (ps_if (PW.pt (pw_or (pt_not (pt_val (pe_call G_is_whole_number hr rfl x_is_whole_number.m x_is_whole_number.F.kp x_is_whole_number.b .nil pass0 (pa_cons (pv 3) pa_nil)))) (pw_or (pt_cmpR op_lt (pv 3) pe_int (nomark _)) (pw_or (pt_cmpR op_ge (pv 3) (pv 1) (nomark _)) (pw_or1 (pt_val (pe_ix ix_list (pv 2) (pv 3) (fun _ _ => rfl)))))))) (pss_one (ps_ret pe_bl)) pss_nil)
      (pss_one (ps_asg pe_bl (pg_sub (pv 2) (pv 3) set_list)))))
      (pss_one (ps_ret pe_bl)))))), ?_⟩
  have no : ∀ {H' : Hp}, Same H H' → ¬ Seat n ss → Q (.bl false) H' := fun s1 hs => by
    have := q _ s1
    rwa [decide_eq_false hs] at this
  refine ⟨_, rfl, _, _, _, _, rfl, .lst ha, kit_same _ _, true, rfl, iteF ?_⟩
  refine ⟨_, rfl, a, _, rfl, .inl (SqL.of ha), _, rfl, rfl, _, rfl, ?_⟩
  rw [lz_len]
  by_cases hl : ss.length = n
  rotate_left
  · refine ifNY (fun z => hl (by have := V.int.inj z; omega)) ?_
    exact no (Same.refl _) fun z => hl z.len
  refine ifNN (by rw [hl]) ?_
  refine ⟨(by show 1 ≤ sizeLine; decide), fun p1 hp1 => ?_⟩
  have s1 : Same H (upd H p1 (.lst [.bl false])) := same_new hp1 _
  refine ⟨_, rfl, p1, _, _, rfl, rfl, upd_same, by omega, by omega, small (by simp; omega), fun tk htk => ?_⟩
  have e0 : (List.replicate ((n : Int)).toNat [V.bl false]).flatten = (tab n (fun s => decide ((s : Int) ∈ ss.take 0))).map V.bl := by
    rw [rep_flat, show ((n : Int)).toNat = n by omega]
    unfold tab
    simp only [List.take_zero, List.not_mem_nil, decide_false, List.map_map]
    rw [show (V.bl ∘ fun (s : Nat) => false) = (fun _ => V.bl false) from rfl, List.map_const', List.length_range]
  rw [e0]
  have hk0 : H tk = none := s1.free htk
  have s2 : Same H (upd (upd H p1 (.lst [.bl false])) tk (.lst ((tab n (fun s => decide ((s : Int) ∈ ss.take 0))).map V.bl))) := s1.trans (same_new htk _)
  have e2 : (upd (upd H p1 (.lst [.bl false])) tk (.lst ((tab n (fun s => decide ((s : Int) ∈ ss.take 0))).map V.bl))) tk = some (.lst ((tab n (fun s => decide ((s : Int) ∈ ss.take 0))).map V.bl)) := upd_same
  generalize (upd (upd H p1 (.lst [.bl false])) tk (.lst ((tab n (fun s => decide ((s : Int) ∈ ss.take 0))).map V.bl))) = H2 at s2 e2 ⊢
  refine ⟨_, rfl, a, rfl, ⟨_, SqL.of (s2 _ _ ha)⟩, for_list (K := K) (a := a) (xs := ss.map V.int) (fun i σ H' => Same H H' ∧ H' tk = some (.lst ((tab n (fun s => decide ((s : Int) ∈ ss.take i))).map V.bl)) ∧ (∀ s ∈ ss.take i, 0 ≤ s ∧ s < n) ∧ (ss.take i).Nodup ∧ ∃ v, σ = [some (.ref a), some (.int (n : Int)), some (.ref tk), v])
    ⟨s2, e2, by simp, by simp, none, rfl⟩ (fun i σ H' _ ⟨e, _⟩ => SqL.of (e _ _ ha)) ?_ ?_⟩
  · rintro i y σ H' hi ⟨s3, e3, hr3, hn3, v, rfl⟩
    obtain ⟨z, hz, rfl⟩ := lz_at hi
    have hm := List.mem_of_getElem? hz
    have ht : ss.take (i + 1) = ss.take i ++ [z] := by rw [List.take_add_one, hz]; rfl
    refine ⟨_, rfl, z, rfl, true, rfl, iteF ?_⟩
    refine ⟨_, rfl, _, _, rfl, rfl, _, rfl, ?_⟩
    refine if2 (fun c => iteT (no s3 fun hs => by have := (hs.mem z).mp hm; omega)) (fun c => ?_)
    refine ⟨_, rfl, _, rfl, _, _, rfl, rfl, _, rfl, ?_⟩
    refine if2 (fun c2 => iteT (no s3 fun hs => by have := (hs.mem z).mp hm; omega)) (fun c2 => ?_)
    have hzn : z.toNat < n := by omega
    have hat : ((tab n (fun s => decide ((s : Int) ∈ ss.take i))).map V.bl)[z.toNat]? = some (V.bl (decide (z ∈ ss.take i))) := by
      rw [List.getElem?_map, tab_get _ _ _ hzn, show ((z.toNat : Nat) : Int) = z by omega]; rfl
    refine ⟨_, rfl, _, rfl, tk, _, _, _, rfl, rfl, SqL.of e3, atI_of z.toNat (by omega) hat, _, rfl, ?_⟩
    refine if2 (fun c3 => no s3 fun hs => ?_) (fun c3 => ?_)
    · have hd := hs.nodup
      have : (ss.take (i + 1)).Nodup := List.Pairwise.sublist (List.take_sublist _ _) hd
      rw [ht, List.nodup_append] at this
      exact this.2.2 z c3 z (List.mem_singleton.mpr rfl) rfl
    · refine ⟨_, rfl, _, rfl, tk, _, _, z.toNat, rfl, rfl, e3, ixN_of z.toNat (by omega) (by rw [List.length_map, tab_length]; omega), ?_⟩
      refine ⟨same_upd s3 hk0, ?_, ?_, ?_, _, rfl⟩
      · rw [upd_same, ← List.map_set, tab_set]
        congr 3
        refine tab_congr fun k _ => ?_
        rw [ht]
        by_cases ek : k = z.toNat
        · rw [if_pos ek, decide_eq_true]
          rw [List.mem_append, List.mem_singleton]; right; omega
        · rw [if_neg ek]
          congr 1
          rw [List.mem_append, List.mem_singleton]
          apply propext
          constructor
          · exact .inl
          · rintro (h | h)
            · exact h
            · omega
      · intro s hs
        rw [ht, List.mem_append, List.mem_singleton] at hs
        rcases hs with hs | hs
        · exact hr3 s hs
        · subst hs; omega
      · rw [ht, List.nodup_append]
        refine ⟨hn3, by simp, fun x hx y hy e => ?_⟩
        rw [List.mem_singleton] at hy
        subst e hy
        exact c3 hx
  · rintro σ H' ⟨s3, e3, hr3, hn3, v, rfl⟩
    rw [lz_len, List.take_length] at hr3 hn3
    have := q _ s3
    rwa [decide_eq_true (seat_of hl hr3 hn3)] at this
def spIsOff : Sp := fun vs H Q _ => ∃ (a b : Addr) (ss xs : List Int), vs = [.ref a, .ref b] ∧ H a = some (lz ss) ∧ H b = some (lz xs) ∧ xs.length ≤ 100 ∧ ∀ H', Same H H' → Q (.bl (offB xs ss)) H'
theorem ok_is_seating_off {f g g2 : Addr} {fd gd gd2 : FuncData} (T : Nm mg) (F : Fun K "is_seating_off" "is_seating_off" s_is_seating_off f fd)
    (x_is_seating : Fx K mg "is_seating" ["value", "guests"] s_is_seating g2 gd2) (x_is_whole_number : Fx K mg "is_whole_number" ["value"] s_is_whole_number g gd) : FnOk P w K mg base CX0 3 f fd ["value", "shuns"] spIsOff := by
  have G_is_seating : FnOk P w K mg base CX0 2 g2 gd2 ["value", "guests"] spIsSeat := ok_is_seating T x_is_seating.F x_is_whole_number
  refine F.ok sc_is_seating_off (fun vs H Q E h => ?_) (fun cdv A outer s H vs Q E hr h => ?_)
  · obtain ⟨a, b, ss, xs, rfl, _⟩ := h
    rfl
  obtain ⟨a, b, ss, xs, rfl, ha, hb, hl, q⟩ := h
  refine ⟨_, (pss_of (l := [_, _]) rfl (pss_cons (ps_if (pt_not (pt_val (pe_call G_is_seating hr rfl x_is_seating.m x_is_seating.F.kp x_is_seating.b .nil pass0 (pa_cons (pv 0) (pa_cons (pe_callB call_len_seq rfl T.n_len b_len (pa_cons (pv 1) pa_nil)) pa_nil))))) (pss_one (ps_ret pe_bl)) pss_nil)
      (pss_one (ps_ret (pe_callB (call_allB rfl) rfl T.n_all b_all (pa_cons (pe_comp rfl sc_is_seating_off_0 (pi_zip rfl T.n_zip (pa_cons (pv 0) (pa_cons (pv 1) pa_nil))) (fun _ _ _ => (pg_tup rfl (pgs_cons (pg_name (i := 0) sc_is_seating_off_0.nd rfl (Or.inl rfl)) (pgs_cons (pg_name (i := 1) sc_is_seating_off_0.nd rfl (Or.inl rfl)) pgs_nil)))) (fun _ _ _ => pif_nil) (fun _ _ _ => (pe_cmpR op_ne (pv 0) (pv 1) (nomark _)))) pa_nil)))))), ?_⟩
  refine ⟨_, rfl, _, rfl, b, _, rfl, .inl (SqL.of hb), a, ss, xs.length, by rw [lz_len]; rfl, ha, by omega, fun H1 s1 => ?_⟩
  refine ⟨_, rfl, ?_⟩
  by_cases hs : Seat xs.length ss
  rotate_left
  · refine ifNY hs ?_
    have := q _ s1
    unfold offB at this
    rwa [decide_eq_false hs] at this
  refine ifNN hs ?_
  have ha1 := s1 _ _ ha
  have hb1 := s1 _ _ hb
  have hsl := hs.len
  refine ⟨_, rfl, _, rfl, a, b, _, _, rfl, SqL.of ha1, SqL.of hb1, fun D hD _ _ => ?_⟩
  refine comp_zip (K := K) (a := a) (b := b) (xs := ss.map V.int) (ws := xs.map V.int)
    (fun j ys σ H' => Same H1 H' ∧ H' D = some (.lst ys) ∧ ys = (((ss.zip xs).take j).map (fun p => decide (p.1 ≠ p.2))).map V.bl ∧ ∃ u v, σ = [u, v])
    ⟨same_new hD _, upd_same, rfl, none, none, rfl⟩ (fun j ys σ H' _ ⟨t4, e4, _⟩ => ⟨SqL.of (t4 _ _ ha1), SqL.of (t4 _ _ hb1), e4⟩) ?_ (fun j ys σ H' hj ⟨_, _, hy, _⟩ => ?_) ?_
  · rintro j y1 z1 ys σ H4 pp hy hz hpp ⟨t4, e4, rfl, u4, v4, rfl⟩
    obtain ⟨y, hy', rfl⟩ := lz_at hy
    obtain ⟨z, hz', rfl⟩ := lz_at hz
    have hjl := (List.getElem?_eq_some_iff.mp hy').1
    have t5 : Same H4 (upd H4 pp (.tup [.int y, .int z])) := same_new hpp _
    refine ⟨small1000 (by simp; omega), pp, _, rfl, SqT.of upd_same, rfl, _, _, rfl, _, _, rfl, rfl, ?_⟩
    refine ⟨_, rfl, _, rfl, rfl, t5 _ _ e4, same_upd (t4.trans t5) hD, upd_same, ?_, _, _, rfl⟩
    rw [zip_at hy' hz', List.map_append, List.map_append]
    congr 3
    by_cases e : y = z
    · subst e; simp
    · have : ¬ V.int y = V.int z := vi_ne e
      simp [e]
  · subst hy
    rw [lz_len, lz_len] at hj
    exact small1000 (by simp; omega)
  rintro ys σ H4 ⟨t4, e4, rfl, u4, v4, rfl⟩
  rw [lz_len, lz_len, hsl, Nat.min_self, List.take_of_length_le (by rw [List.length_zip]; omega)] at e4
  refine ⟨D, _, rfl, SqL.of e4, ?_⟩
  have := q _ (s1.trans t4)
  unfold offB at this
  rw [decide_eq_true hs, Bool.true_and] at this
  rw [List.all_map]
  exact this
def kvF (fs : List Int) (c : Int → Int) : List (Key × V) := fs.map (fun s => ((Sum.inl s : Key), V.int (c s)))
theorem kvF_len (fs : List Int) (c : Int → Int) : (kvF fs c).length = fs.length := by unfold kvF; rw [List.length_map]
theorem kvF_val (c : Int → Int) (x : Int) : ∀ fs : List Int, valV (kvF fs c) (Sum.inl x : Key) = if x ∈ fs then some (V.int (c x)) else none
  | [] => by simp [valV, kvF]
  | k :: ks => by
    show valV (((Sum.inl k : Key), V.int (c k)) :: kvF ks c) _ = _
    by_cases e : k = x
    · subst e
      rw [valV_pos rfl]; simp
    · rw [valV_neg (by intro z; exact e (Sum.inl.inj z)), kvF_val c x ks]
      have : (x ∈ k :: ks) ↔ x ∈ ks := by
        rw [List.mem_cons]
        exact ⟨fun h => h.resolve_left fun z => e z.symm, .inr⟩
      simp [this]
theorem kvF_congr {fs : List Int} {c c' : Int → Int} (h : ∀ s ∈ fs, c s = c' s) : kvF fs c = kvF fs c' := by
  unfold kvF
  exact List.map_congr_left fun s hs => by rw [h s hs]
theorem kvF_put {fs : List Int} {c : Int → Int} {x : Int} (y : Int) (hx : x ∈ fs) : putK (kvF fs c) (Sum.inl x : Key) (V.int y) = kvF fs (fun s => if s = x then y else c s) := by
  unfold putK
  rw [valV_any, kvF_val, if_pos hx, if_pos (Option.isSome_some)]
  unfold kvF
  rw [List.map_map]
  refine List.map_congr_left fun k hk => ?_
  show (if (Sum.inl k : Key) = Sum.inl x then ((Sum.inl k : Key), V.int y) else ((Sum.inl k : Key), V.int (c k))) = ((Sum.inl k : Key), V.int (if k = x then y else c k))
  by_cases e : k = x
  · subst e; rw [if_pos rfl, if_pos rfl]
  · rw [if_neg (fun z => e (Sum.inl.inj z)), if_neg e]
theorem kvF_new {fs : List Int} {c : Int → Int} {x : Int} (y : Int) (hx : x ∉ fs) : putK (kvF fs c) (Sum.inl x : Key) (V.int y) = kvF (fs ++ [x]) (fun s => if s = x then y else c s) := by
  rw [putK_new _ (by rw [kvF_val, if_neg hx])]
  unfold kvF
  rw [List.map_append]
  congr 1
  · refine List.map_congr_left fun s hs => ?_
    have hne : ¬ s = x := fun e => hx (by rw [← e]; exact hs)
    show ((Sum.inl s : Key), V.int (c s)) = ((Sum.inl s : Key), V.int (if s = x then y else c s))
    rw [if_neg hne]
  · simp
theorem kvF_vals (fs : List Int) (c : Int → Int) : (kvF fs c).map (·.2) = (fs.map c).map V.int := by
  unfold kvF
  rw [List.map_map, List.map_map]; rfl
theorem kvF_at {fs : List Int} {c : Int → Int} {i : Nat} {k : Key} {v : V} (h : (kvF fs c)[i]? = some (k, v)) : ∃ s, fs[i]? = some s ∧ k = Sum.inl s ∧ v = .int (c s) := by
  unfold kvF at h
  rw [List.getElem?_map] at h
  obtain ⟨s, e, z⟩ := Option.map_eq_some_iff.mp h
  cases z
  exact ⟨s, e, rfl, rfl⟩
theorem dget_kvF {H : Hp} {d : Addr} {fs : List Int} {c : Int → Int} {x : Int} (e : H d = some (.dK (kvF fs c))) (hx : x ∈ fs) : DGet H d (.int x) (some (.int (c x))) := by
  have := DGet.k (k := Sum.inl x) e
  rw [kvF_val, if_pos hx] at this
  exact this
theorem dget_kvF0 {H : Hp} {d : Addr} {fs : List Int} {c : Int → Int} {x : Int} (e : H d = some (.dK (kvF fs c))) (hx : x ∉ fs) : DGet H d (.int x) none := by
  have := DGet.k (k := Sum.inl x) e
  rw [kvF_val, if_neg hx] at this
  exact this
theorem rngI_out (i : Nat) : (i : Int) ∉ rngI i := fun h => by have := (rngI_mem i i).mp h; omega
theorem cs_map (n : Nat) (xs : List Int) : (rngI n).map (fun s => (xs.count s : Int)) = cs n xs := by
  unfold rngI cs tab
  rw [List.map_map]; rfl
def spTallies : Sp := fun vs H Q _ => ∃ (a : Addr) (xs : List Int), vs = [.ref a] ∧ H a = some (lz xs) ∧ xs.length ≤ 63 ∧ (∀ x ∈ xs, -1 ≤ x ∧ x < xs.length) ∧
  ∀ (r : Addr) (H' : Hp), Same H H' → H r = none → H' r = some (.dK (kvF (rngI xs.length) (fun s => (xs.count s : Int)))) → Q (.ref r) H'
theorem ok_shunner_tallies {f : Addr} {fd : FuncData} (T : Nm mg) (F : Fun K "shunner_tallies" "shunner_tallies" s_shunner_tallies f fd) : FnOk P w K mg base CX0 1 f fd ["shuns"] spTallies := by
  refine F.ok sc_shunner_tallies (fun vs H Q E h => ?_) (fun cdv A outer s H vs Q E hr h => ?_)
  · obtain ⟨a, xs, rfl, _⟩ := h
    rfl
  obtain ⟨a, xs, rfl, ha, hl, hv, q⟩ := h
  have hu := hu_of hr
  refine ⟨_, (pss_of (l := [_, _, _, _]) rfl (pss_cons (ps_set (i := 1) sc_shunner_tallies.nd rfl (Or.inl rfl) pe_dnewK)
      (pss_cons (ps_for PassesOwn.never rfl (pi_range1 rfl T.n_range (pa_cons (pe_callB call_len_seq rfl T.n_len b_len (pa_cons (pv 0) pa_nil)) pa_nil)) (pg_name (i := 2) sc_shunner_tallies.nd rfl (Or.inl rfl)) (pss_one (ps_dput hu (pv 1) (pv 2) pe_int rfl)))
      (pss_cons (ps_for PassesOwn.never rfl (pi_list (pv 0)) (pg_name (i := 2) sc_shunner_tallies.nd rfl (Or.inl rfl)) (pss_one (ps_if (pt_cmpR op_ne (pv 2) (pe_un un_neg pe_int) (nomark _)) (pss_one (ps_daug hu (pv 1) (pv 2) pe_int in_add (fun _ _ _ => rfl))) pss_nil)))
      (pss_one (ps_ret (pv 1))))))), ?_⟩
  intro d hd
  have s0 : Same H (upd H d (.dK [])) := same_new hd _
  refine ⟨_, rfl, a, _, rfl, .inl (SqL.of (s0 _ _ ha)), _, rfl, by omega, by rw [lz_len]; omega, ?_⟩
  rw [lz_len]
  refine for_range (lo := 0) (n := ((xs.length : Int)).toNat) (fun i σ H' => Same H H' ∧ H' d = some (.dK (kvF (rngI i) (fun _ => 0))) ∧ ∃ v, σ = [some (.ref a), some (.ref d), v]) ⟨s0, upd_same, none, rfl⟩ ?_ ?_
  · rintro i σ H' hi ⟨s1, e1, v, rfl⟩
    refine ⟨_, rfl, _, rfl, d, _, rfl, DPut.k (k := Sum.inl (0 + (i : Int))) e1 ?_, ?_⟩
    · rw [kvF_len, rngI_length]; exact small1000 (by omega)
    · refine ⟨same_upd s1 hd, ?_, _, rfl⟩
      rw [upd_same, Int.zero_add, kvF_new _ (rngI_out i), ← rngI_succ]
      congr 2
      exact kvF_congr fun s _ => by split <;> rfl
  rintro σ H1 ⟨s1, e1, v, rfl⟩
  rw [show ((xs.length : Int)).toNat = xs.length by omega] at e1
  have ha1 := s1 _ _ ha
  refine ⟨_, rfl, a, rfl, ⟨_, SqL.of ha1⟩, for_list (K := K) (a := a) (xs := xs.map V.int) (fun i σ H' => Same H H' ∧ H' d = some (.dK (kvF (rngI xs.length) (fun s => ((xs.take i).count s : Int)))) ∧ ∃ v, σ = [some (.ref a), some (.ref d), v]) ⟨s1, ?_, v, rfl⟩ (fun i σ H' _ ⟨e, _⟩ => SqL.of (e _ _ ha)) ?_ ?_⟩
  · rw [e1]
    congr 2
  · rintro i y σ H' hi ⟨s2, e2, v, rfl⟩
    obtain ⟨z, hz, rfl⟩ := lz_at hi
    have hzb := hv z (List.mem_of_getElem? hz)
    have ht : xs.take (i + 1) = xs.take i ++ [z] := by rw [List.take_add_one, hz]; rfl
    have hc : ∀ s, ((xs.take (i + 1)).count s : Int) = ((xs.take i).count s : Int) + if s = z then 1 else 0 := by
      intro s
      rw [ht, List.count_append]
      by_cases e : s = z
      · subst e; simp
      · have : (z == s) = false := by rw [beq_eq_false_iff_ne]; exact fun q => e q.symm
        simp [List.count_cons, this, e]
    refine ⟨_, rfl, _, rfl, rfl, _, rfl, ?_⟩
    by_cases c : z = -1
    · refine ifNN (by rw [c]) ?_
      refine ⟨s2, ?_, _, rfl⟩
      rw [e2]
      congr 2
      refine kvF_congr fun s hs => ?_
      have := (rngI_mem _ _).mp hs
      rw [hc, if_neg (by omega)]; simp
    · refine ifNY (vi_ne c) ?_
      have hzm : z ∈ rngI xs.length := (rngI_mem _ _).mpr ⟨by omega, hzb.2⟩
      refine ⟨_, rfl, _, rfl, d, _, rfl, dget_kvF e2 hzm, _, _, rfl, rfl, _, DPut.k (k := Sum.inl z) e2 ?_, ?_⟩
      · rw [kvF_len, rngI_length]; exact small1000 (by omega)
      · refine ⟨same_upd s2 hd, ?_, _, rfl⟩
        rw [upd_same, kvF_put _ hzm]
        congr 2
        refine kvF_congr fun s _ => ?_
        rw [hc]
        by_cases e : s = z
        · subst e; rw [if_pos rfl, if_pos rfl]
        · rw [if_neg e, if_neg e]; simp
  · rintro σ H' ⟨s2, e2, v, rfl⟩
    rw [lz_len, List.take_length] at e2
    exact ⟨_, rfl, q d H' s2 hd e2⟩
def spWith : Sp := fun vs H Q _ => ∃ (a : Addr) (ps : List Int) (t : Int), vs = [.ref a, .int t] ∧ H a = some (lz (tab (ps.length + 1) (pk ps))) ∧ ps.length ≤ 100 ∧ -(2 ^ 64) < t ∧ t < 2 ^ 64 ∧
  ∀ (r : Addr) (H' : Hp), Same H H' → H r = none → H' r = some (lz (tab (ps.length + 2) (pk (t :: ps)))) → Q (.ref r) H'
theorem ok_ways_with_seat {f : Addr} {fd : FuncData} (T : Nm mg) (F : Fun K "ways_with_seat" "ways_with_seat" s_ways_with_seat f fd) : FnOk P w K mg base CX0 1 f fd ["ways", "tally"] spWith := by
  refine F.ok sc_ways_with_seat (fun vs H Q E h => ?_) (fun cdv A outer s H vs Q E hr h => ?_)
  · obtain ⟨a, ps, t, rfl, _⟩ := h
    rfl
  obtain ⟨a, ps, t, rfl, ha, hl, ht1, ht2, q⟩ := h
  refine ⟨_, (pss_of (l := [_, _, _]) rfl (pss_cons (ps_set (i := 2) sc_ways_with_seat.nd rfl (Or.inl rfl) (pe_op op_cat (pv 0) (pe_lst (pa_cons pe_int pa_nil))))
      (pss_cons (ps_for PassesOwn.never rfl (pi_enum rfl T.n_enumerate (pa_cons (pv 0) pa_nil)) (pg_tup rfl (pgs_cons (pg_name (i := 3) sc_ways_with_seat.nd rfl (Or.inl rfl)) (pgs_cons (pg_name (i := 4) sc_ways_with_seat.nd rfl (Or.inl rfl)) pgs_nil))) (pss_one (ps_augS (pv 2) (pe_op op_add (pv 3) pe_int) get_list (pe_op op_mul (pv 4) (pv 1)) ip_add set_list)))
      (pss_one (ps_ret (pv 2)))))), ?_⟩
  refine ⟨_, rfl, (by show 1 ≤ sizeLine; decide), fun z1 hz1 => ?_⟩
  have s1 : Same H (upd H z1 (.lst [.int 0])) := same_new hz1 _
  refine ⟨a, z1, _, _, rfl, rfl, s1 _ _ ha, upd_same, ?_, fun mo hmo => ?_⟩
  · rw [lz_len, tab_length]; exact small (by simp; omega)
  have e0 : (tab (ps.length + 1) (pk ps)).map V.int ++ [V.int 0] = (tab (ps.length + 2) (withF ps t 0)).map V.int := by
    rw [lz_snoc, ways_start, withF_zero]
  rw [e0]
  have nmo : H mo = none := s1.free hmo
  have s2 : Same H (upd (upd H z1 (.lst [.int 0])) mo (lz (tab (ps.length + 2) (withF ps t 0)))) := s1.trans (same_new hmo _)
  have e2 : (upd (upd H z1 (.lst [.int 0])) mo (lz (tab (ps.length + 2) (withF ps t 0)))) mo = some (lz (tab (ps.length + 2) (withF ps t 0))) := upd_same
  generalize (upd (upd H z1 (.lst [.int 0])) mo (lz (tab (ps.length + 2) (withF ps t 0)))) = H2 at s2 e2 ⊢
  refine ⟨_, rfl, a, _, rfl, SqL.of (s2 _ _ ha), ?_⟩
  refine for_enum (K := K) (a := a) (xs := (tab (ps.length + 1) (pk ps)).map V.int) (fun i σ H' => Same H H' ∧ H' mo = some (lz (tab (ps.length + 2) (withF ps t i))) ∧ ∃ v3 v4, σ = [some (.ref a), some (.int t), some (.ref mo), v3, v4])
    ⟨s2, e2, none, none, rfl⟩ (fun i σ H' _ ⟨s, _⟩ => SqL.of (s _ _ ha)) ?_ ?_
  · rintro i x σ H' pp hi hpp ⟨s3, e3, v3, v4, rfl⟩
    obtain ⟨z, hz, rfl⟩ := lz_at hi
    have hil : i < ps.length + 1 := by have := (List.getElem?_eq_some_iff.mp hz).1; rwa [tab_length] at this
    rw [tab_get _ _ _ hil] at hz
    cases hz
    have s5 : Same H' (upd H' pp (.tup [.int i, .int (pk ps i)])) := same_new hpp _
    have e5 := s5 _ _ e3
    refine ⟨pp, _, rfl, SqT.of upd_same, rfl, _, _, rfl, _, _, rfl, rfl, ?_⟩
    refine ⟨_, rfl, _, rfl, _, _, rfl, rfl, mo, _, _, _, rfl, rfl, SqL.of e5, atI_of (i + 1) (by omega) (lz_get (tab_get _ _ _ (by omega))), _, rfl, _, rfl, _, _, rfl, rfl, .inr ⟨ht1, ht2⟩, _, _, rfl, rfl, mo, _, _, i + 1, rfl, rfl, e5, ixN_of (i + 1) (by omega) (by rw [lz_len, tab_length]; omega), ?_⟩
    refine ⟨same_upd (s3.trans s5) nmo, ?_, _, _, rfl⟩
    rw [upd_same, lz_set, withF_step ps t i hil]
  · rintro σ H' ⟨s3, e3, v3, v4, rfl⟩
    rw [lz_len, tab_length, withF_end] at e3
    exact ⟨_, rfl, q mo H' s3 nmo e3⟩
def spWays : Sp := fun vs H Q _ => ∃ (a : Addr) (ts : List Int), vs = [.ref a] ∧ H a = some (lz ts) ∧ ts.length ≤ 100 ∧ (∀ t ∈ ts, -(2 ^ 64) < t ∧ t < 2 ^ 64) ∧
  ∀ (r : Addr) (H' : Hp), Same H H' → H r = none → H' r = some (lz (tab (ts.length + 1) (pk ts.reverse))) → Q (.ref r) H'
theorem ok_ways_to_choose {f f1 : Addr} {fd fd1 : FuncData} (T : Nm mg) (F : Fun K "ways_to_choose" "ways_to_choose" s_ways_to_choose f fd)
    (x_ways_with_seat : Fx K mg "ways_with_seat" ["ways", "tally"] s_ways_with_seat f1 fd1) : FnOk P w K mg base CX0 2 f fd ["tallies"] spWays := by
  have G_ways_with_seat : FnOk P w K mg base CX0 1 f1 fd1 ["ways", "tally"] spWith := ok_ways_with_seat T x_ways_with_seat.F
  refine F.ok sc_ways_to_choose (fun vs H Q E h => ?_) (fun cdv A outer s H vs Q E hr h => ?_)
  · obtain ⟨a, ts, rfl, _⟩ := h
    rfl
  obtain ⟨a, ts, rfl, ha, hl, hb, q⟩ := h
  refine ⟨_, (pss_of (l := [_, _, _]) rfl (pss_cons (ps_set (i := 1) sc_ways_to_choose.nd rfl (Or.inl rfl) (pe_lst (pa_cons pe_int pa_nil)))
      (pss_cons (ps_for PassesOwn.never rfl (pi_list (pv 0)) (pg_name (i := 2) sc_ways_to_choose.nd rfl (Or.inl rfl)) (pss_one (ps_set (i := 1) sc_ways_to_choose.nd rfl (Or.inl rfl) (pe_call G_ways_with_seat hr rfl x_ways_with_seat.m x_ways_with_seat.F.kp x_ways_with_seat.b .nil pass0 (pa_cons (pv 1) (pa_cons (pv 2) pa_nil))))))
      (pss_one (ps_ret (pv 1)))))), ?_⟩
  refine ⟨(by show 1 ≤ sizeLine; decide), fun p hp => ?_⟩
  have s0 : Same H (upd H p (lz [1])) := same_new hp _
  refine ⟨_, rfl, a, rfl, ⟨_, SqL.of (s0 _ _ ha)⟩, for_list (K := K) (a := a) (xs := ts.map V.int) (fun i σ H' => Same H H' ∧ ∃ p, H p = none ∧ H' p = some (lz (tab (i + 1) (pk (ts.take i).reverse))) ∧ ∃ v, σ = [some (.ref a), some (.ref p), v]) ⟨s0, p, hp, upd_same, none, rfl⟩ (fun i σ H' _ ⟨e, _⟩ => SqL.of (e _ _ ha)) ?_ ?_⟩
  · rintro i y σ H' hi ⟨s1, p1, np1, e1, v, rfl⟩
    obtain ⟨t, hz, rfl⟩ := lz_at hi
    have hil : i < ts.length := (List.getElem?_eq_some_iff.mp hz).1
    have ht : (ts.take (i + 1)).reverse = t :: (ts.take i).reverse := by
      rw [List.take_add_one, hz, List.reverse_append]; rfl
    have hPl : (ts.take i).reverse.length = i := by simp; omega
    have hbt := hb t (List.mem_of_getElem? hz)
    rw [ht]
    generalize hP : (ts.take i).reverse = P' at *
    subst hPl
    refine ⟨_, rfl, _, rfl, p1, P', t, rfl, e1, by omega, hbt.1, hbt.2, fun r H2 s2 n2 e2 => ?_⟩
    exact ⟨s1.trans s2, r, s1.free n2, e2, _, rfl⟩
  · rintro σ H' ⟨s1, p1, np1, e1, v, rfl⟩
    rw [lz_len, List.take_length] at e1
    exact ⟨_, rfl, q p1 H' s1 np1 e1⟩
end
end OS

namespace OS
open PySem L2
abbrev s_ways_without_seat : Stmt := top 17
theorem sc_ways_without_seat : FnScope ["ways", "tally", "fewer", "way_before", "way"] ["ways", "tally"] (defScope s_ways_without_seat) := ⟨rfl, rfl, rfl, by decide +kernel, rfl, by decide +kernel, by decide +kernel⟩
abbrev s_count_off : Stmt := top 21
theorem sc_count_off : FnScope ["ways", "guests", "total", "sign", "k", "way"] ["ways"] (defScope s_count_off) := ⟨rfl, rfl, rfl, by decide +kernel, rfl, by decide +kernel, by decide +kernel⟩
abbrev s_Table___init__ : Stmt := inClass (top 23) 0
theorem sc_Table___init__ : FnScope ["self", "shuns"] ["self", "shuns"] (defScope s_Table___init__) := ⟨rfl, rfl, rfl, by decide +kernel, rfl, by decide +kernel, by decide +kernel⟩
abbrev s_Table_call_guest : Stmt := inClass (top 23) 1
theorem sc_Table_call_guest : FnScope ["self", "shun", "tally"] ["self", "shun"] (defScope s_Table_call_guest) := ⟨rfl, rfl, rfl, by decide +kernel, rfl, by decide +kernel, by decide +kernel⟩
abbrev s_Table_first_numbers : Stmt := inClass (top 23) 2
theorem sc_Table_first_numbers : FnScope ["self", "shun", "behind", "firsts", "first", "seat", "tally"] ["self", "shun"] (defScope s_Table_first_numbers) := ⟨rfl, rfl, rfl, by decide +kernel, rfl, by decide +kernel, by decide +kernel⟩
abbrev s_Table_fill : Stmt := inClass (top 23) 3
theorem sc_Table_fill : FnScope ["self", "seat"] ["self", "seat"] (defScope s_Table_fill) := ⟨rfl, rfl, rfl, by decide +kernel, rfl, by decide +kernel, by decide +kernel⟩
abbrev s_seating_of : Stmt := top 24
theorem sc_seating_of : FnScope ["shuns", "number", "table", "seating", "left", "shun", "firsts", "taken"] ["shuns", "number"] (defScope s_seating_of) := ⟨rfl, rfl, rfl, by decide +kernel, rfl, by decide +kernel, by decide +kernel⟩
theorem sc_seating_of_0 : CompSc ["shuns", "number", "table", "seating", "left", "shun", "firsts", "taken"] (defScope s_seating_of) ({ kind := PySem.ScopeKind.function, names := [ (PySem.Str.ofString ".0", PySem.NameKind.local), (PySem.Str.ofString "seat", PySem.NameKind.local), (PySem.Str.ofString "first", PySem.NameKind.local), (PySem.Str.ofString "left", PySem.NameKind.free)], isGenerator := false, isCoroutine := false, more := [] : PySem.Scope }) ["seat", "first", "left"] 2 [4] :=
  ⟨rfl, by decide +kernel, by decide +kernel, by decide +kernel, by decide +kernel, rfl, by decide +kernel, by decide +kernel, by decide +kernel⟩
abbrev s_number_of : Stmt := top 25
theorem sc_number_of : FnScope ["shuns", "seating", "table", "number", "shun", "taken"] ["shuns", "seating"] (defScope s_number_of) := ⟨rfl, rfl, rfl, by decide +kernel, rfl, by decide +kernel, by decide +kernel⟩
section
variable {P : Program} {w : World} {K : PySem.W.Frag} {mg : Str → Option Value} {base : Heap}
theorem tab_take {α : Type} (m k : Nat) (f : Nat → α) (h : k ≤ m) : (tab m f).take k = tab k f := by
  obtain ⟨j, rfl⟩ : ∃ j, m = k + j := ⟨m - k, by omega⟩
  rw [tab_append, List.take_append_of_le_length (by rw [tab_length]; exact Nat.le_refl _), List.take_of_length_le (by rw [tab_length]; exact Nat.le_refl _)]
theorem sgn (i : Nat) : (-1 : Int) ^ i = 1 ∨ (-1 : Int) ^ i = -1 := by
  induction i with
  | zero => exact .inl rfl
  | succ i ih => rw [Int.pow_succ]; rcases ih with e | e <;> rw [e] <;> simp
def spWithout : Sp := fun vs H Q _ => ∃ (a : Addr) (ps : List Int) (t : Int), vs = [.ref a, .int t] ∧ H a = some (lz (tab (ps.length + 2) (pk (t :: ps)))) ∧ ps.length ≤ 100 ∧ -(2 ^ 64) < t ∧ t < 2 ^ 64 ∧
  ∀ (r : Addr) (H' : Hp), Same H H' → H r = none → H' r = some (lz (tab (ps.length + 1) (pk ps))) → Q (.ref r) H'
theorem ok_ways_without_seat {f : Addr} {fd : FuncData} (T : Nm mg) (F : Fun K "ways_without_seat" "ways_without_seat" s_ways_without_seat f fd) : FnOk P w K mg base CX0 1 f fd ["ways", "tally"] spWithout := by
  refine F.ok sc_ways_without_seat (fun vs H Q E h => ?_) (fun cdv A outer s H vs Q E hr h => ?_)
  · obtain ⟨a, ps, t, rfl, _⟩ := h
    rfl
  obtain ⟨a, ps, t, rfl, ha, hl, ht1, ht2, q⟩ := h
  refine ⟨_, (pss_of (l := [_, _, _, _]) rfl (pss_cons (ps_set (i := 2) sc_ways_without_seat.nd rfl (Or.inl rfl) (pe_lst pa_nil))
      (pss_cons (ps_set (i := 3) sc_ways_without_seat.nd rfl (Or.inl rfl) pe_int)
      (pss_cons (ps_for PassesOwn.never rfl (pi_list (pe_slice sl_list (pv 0) po_none (po_some (pe_un un_neg pe_int)))) (pg_name (i := 4) sc_ways_without_seat.nd rfl (Or.inl rfl)) (pss_cons (ps_set (i := 3) sc_ways_without_seat.nd rfl (Or.inl rfl) (pe_op op_sub (pv 4) (pe_op op_mul (pv 3) (pv 1))))
      (pss_one (ps_expr (pe_bm PySem.F.plainAttrs_list PySem.F.slot_list_append PySem.F.type_list_append mt_append (pv 2) (pa_cons (pv 3) pa_nil))))))
      (pss_one (ps_ret (pv 2))))))), ?_⟩
  refine ⟨Nat.zero_le _, fun fe hfe => ?_⟩
  have s1 : Same H (upd H fe (.lst [])) := same_new hfe _
  have e1 : (upd H fe (.lst [])) fe = some (lz []) := upd_same
  generalize (upd H fe (.lst [])) = H1 at s1 e1 ⊢
  refine ⟨_, rfl, _, rfl, _, rfl, a, _, rfl, SqL.of (s1 _ _ ha), fun p1 hp1 => ?_⟩
  have ec : cutV ((tab (ps.length + 2) (pk (t :: ps))).map V.int) none (some (-1)) = (tab (ps.length + 1) (pk (t :: ps))).map V.int := by
    rw [cut_last, lz_len, tab_length, ← List.map_take, tab_take _ _ _ (by omega)]; rfl
  rw [ec]
  have s2 : Same H1 (upd H1 p1 (lz (tab (ps.length + 1) (pk (t :: ps))))) := same_new hp1 _
  have f1 : (upd H1 p1 (lz (tab (ps.length + 1) (pk (t :: ps))))) p1 = some (lz (tab (ps.length + 1) (pk (t :: ps)))) := upd_same
  have nfe : p1 ≠ fe := (ne_of_none e1 hp1).symm
  generalize (upd H1 p1 (lz (tab (ps.length + 1) (pk (t :: ps))))) = H2 at s2 f1 ⊢
  refine ⟨p1, rfl, ⟨_, SqL.of f1⟩, ?_⟩
  refine for_list (K := K) (a := p1) (xs := (tab (ps.length + 1) (pk (t :: ps))).map V.int) (fun i σ H' => (∀ b o, b ≠ fe → H2 b = some o → H' b = some o) ∧ H' fe = some (lz (tab i (pk ps))) ∧ ∃ v, σ = [some (.ref a), some (.int t), some (.ref fe), some (.int (sh (pk ps) i)), v])
    ⟨fun _ _ _ e => e, s2 _ _ e1, none, rfl⟩ (fun i σ H' _ ⟨kp, _⟩ => SqL.of (kp _ _ nfe f1)) ?_ ?_
  · rintro i y σ H' hi ⟨kp, e3, v, rfl⟩
    obtain ⟨z, hz, rfl⟩ := lz_at hi
    have hil : i < ps.length + 1 := by have := (List.getElem?_eq_some_iff.mp hz).1; rwa [tab_length] at this
    rw [tab_get _ _ _ hil] at hz
    cases hz
    refine ⟨_, rfl, _, rfl, _, rfl, _, _, rfl, rfl, .inr ⟨ht1, ht2⟩, _, _, rfl, rfl, ?_⟩
    dsimp only
    rw [without_step]
    refine ⟨_, rfl, .inl ⟨rfl, _, SqL.of e3⟩, _, rfl, fe, _, _, rfl, rfl, e3, ?_, ?_⟩
    · rw [lz_len, tab_length]; exact small1000 (by omega)
    · refine ⟨fun b o hb e => by rw [upd_ne hb]; exact kp b o hb e, ?_, _, rfl⟩
      rw [upd_same, lz_snoc, tab_succ i]
  · rintro σ H' ⟨kp, e3, v, rfl⟩
    rw [lz_len, tab_length] at e3
    exact ⟨_, rfl, q fe H' (fun b o e => kp b o (ne_of_none e hfe) (s2 _ _ (s1 _ _ e))) hfe e3⟩
def spOff0 : Sp := fun vs H Q _ => ∃ (a : Addr) (ps : List Int), vs = [.ref a] ∧ H a = some (lz (tab (ps.length + 1) (pk ps))) ∧ ps.length ≤ 100 ∧ ∀ H', Same H H' → Q (.int (D ps.length ps)) H'
theorem ok_count_off {f : Addr} {fd : FuncData} (T : Nm mg) (F : Fun K "count_off" "count_off" s_count_off f fd) : FnOk P w K mg base CX0 1 f fd ["ways"] spOff0 := by
  refine F.ok sc_count_off (fun vs H Q E h => ?_) (fun cdv A outer s H vs Q E hr h => ?_)
  · obtain ⟨a, ps, rfl, _⟩ := h
    rfl
  obtain ⟨a, ps, rfl, ha, hl, q⟩ := h
  refine ⟨_, (pss_of (l := [_, _, _, _, _]) rfl (pss_cons (ps_set (i := 1) sc_count_off.nd rfl (Or.inl rfl) (pe_op op_sub (pe_callB call_len_seq rfl T.n_len b_len (pa_cons (pv 0) pa_nil)) pe_int))
      (pss_cons (ps_set (i := 2) sc_count_off.nd rfl (Or.inl rfl) pe_int)
      (pss_cons (ps_set (i := 3) sc_count_off.nd rfl (Or.inl rfl) pe_int)
      (pss_cons (ps_for PassesOwn.never rfl (pi_enum rfl T.n_enumerate (pa_cons (pv 0) pa_nil)) (pg_tup rfl (pgs_cons (pg_name (i := 4) sc_count_off.nd rfl (Or.inl rfl)) (pgs_cons (pg_name (i := 5) sc_count_off.nd rfl (Or.inl rfl)) pgs_nil))) (pss_cons (ps_set (i := 2) sc_count_off.nd rfl (Or.inl rfl) (pe_op op_add (pe_op op_mul (pv 2) (pe_op op_sub (pe_op op_add (pv 1) pe_int) (pv 4))) (pe_op op_mul (pv 3) (pv 5))))
      (pss_one (ps_set (i := 3) sc_count_off.nd rfl (Or.inl rfl) (pe_un un_neg (pv 3))))))
      (pss_one (ps_ret (pv 2)))))))), ?_⟩
  refine ⟨_, rfl, a, _, rfl, .inl (SqL.of ha), _, _, rfl, rfl, ?_⟩
  have eg : (((tab (ps.length + 1) (pk ps)).map V.int).length : Int) - 1 = (ps.length : Int) := by rw [lz_len, tab_length]; omega
  dsimp only
  rw [eg]
  refine ⟨_, rfl, a, _, rfl, SqL.of ha, ?_⟩
  refine for_enum (K := K) (a := a) (xs := (tab (ps.length + 1) (pk ps)).map V.int) (fun i σ H' => Same H H' ∧ ∃ v4 v5, σ = [some (.ref a), some (.int (ps.length : Int)), some (.int (ho ps.length (pk ps) i)), some (.int ((-1) ^ i)), v4, v5])
    ⟨Same.refl _, none, none, rfl⟩ (fun i σ H' _ ⟨s, _⟩ => SqL.of (s _ _ ha)) ?_ ?_
  · rintro i x σ H' pp hi hpp ⟨s3, v4, v5, rfl⟩
    obtain ⟨z, hz, rfl⟩ := lz_at hi
    have hil : i < ps.length + 1 := by have := (List.getElem?_eq_some_iff.mp hz).1; rwa [tab_length] at this
    rw [tab_get _ _ _ hil] at hz
    cases hz
    have s5 : Same H' (upd H' pp (.tup [.int i, .int (pk ps i)])) := same_new hpp _
    have hsg : -(2 ^ 64) < (-1 : Int) ^ i ∧ (-1 : Int) ^ i < 2 ^ 64 := by rcases sgn i with e | e <;> rw [e] <;> decide
    refine ⟨pp, _, rfl, SqT.of upd_same, rfl, _, _, rfl, _, _, rfl, rfl, ?_⟩
    refine ⟨_, rfl, _, rfl, _, _, rfl, rfl, _, rfl, _, _, rfl, rfl, _, _, rfl, rfl, .inr ⟨by omega, by omega⟩, _, rfl, _, rfl, _, _, rfl, rfl, .inl hsg, _, _, rfl, rfl, ?_⟩
    refine ⟨_, rfl, _, rfl, s3.trans s5, some (.int i), some (.int (pk ps i)), ?_⟩
    have e1 : (-1 : Int) ^ (i + 1) = -(-1) ^ i := by rw [Int.pow_succ]; omega
    rw [e1]
    rfl
  · rintro σ H' ⟨s3, v4, v5, rfl⟩
    rw [lz_len, tab_length, ho_h ps ps.length (Nat.le_refl _)]
    exact ⟨_, rfl, q H' s3⟩
def tfl (d r : Addr) : List (Str × V) := putF "ways" (.ref r) (putF "tallies" (.ref d) [])
theorem nWT : ¬ ("tallies" : Str) = "ways" := by decide +kernel
theorem tfl_t (d r : Addr) : (tfl d r).lookup ("tallies" : Str) = some (.ref d) := by
  unfold tfl
  rw [lookup_putF, if_neg nWT, lookup_putF, if_pos rfl]
theorem tfl_w (d r : Addr) : (tfl d r).lookup ("ways" : Str) = some (.ref r) := by
  unfold tfl
  rw [lookup_putF, if_pos rfl]
theorem tfl_no (d r : Addr) {m : Str} (h1 : ¬ m = "ways") (h2 : ¬ m = "tallies") : (tfl d r).lookup m = none := by
  unfold tfl
  rw [lookup_putF, if_neg h1, lookup_putF, if_neg h2]
  all_goals rfl
theorem tfl_eq (d r : Addr) : tfl d r = ([("tallies", V.ref d), ("ways", V.ref r)] : List (Str × V)) := by
  show (if ("tallies" : Str) = "ways" then [(("tallies" : Str), V.ref r)] else (("tallies" : Str), V.ref d) :: putF "ways" (V.ref r) []) = _
  rw [if_neg nWT]
  all_goals rfl
theorem tfl_put (d r r' : Addr) : putF "ways" (.ref r') (tfl d r) = tfl d r' := by
  rw [tfl_eq, tfl_eq]
  show (if ("tallies" : Str) = "ways" then _ else (("tallies" : Str), V.ref d) :: (if ("ways" : Str) = "ways" then [(("ways" : Str), V.ref r')] else _)) = _
  rw [if_neg nWT, if_pos rfl]
structure TableAt (C : Addr) (H : Hp) (p d r : Addr) (fs : List Int) (c : Int → Int) : Prop where
  ob : ∃ dx, H p = some (.ins C dx (tfl d r))
  ws : H r = some (lz (tab (fs.length + 1) (pk (fs.map c))))
  dc : H d = some (.dK (kvF fs c))
theorem TableAt.same {C : Addr} {H H' : Hp} {p d r : Addr} {fs : List Int} {c : Int → Int} (h : TableAt C H p d r fs c) (s : Same H H') : TableAt C H' p d r fs c :=
  ⟨let ⟨dx, e1⟩ := h.ob; ⟨dx, s _ _ e1⟩, s _ _ h.ws, s _ _ h.dc⟩
theorem TableAt.ne {C : Addr} {H : Hp} {p d r : Addr} {fs : List Int} {c : Int → Int} (h : TableAt C H p d r fs c) : p ≠ d :=
  let ⟨_, e1⟩ := h.ob; ne_of e1 h.dc (by intro z; cases z)
theorem TableAt.congr {C : Addr} {H : Hp} {p d r : Addr} {fs : List Int} {c c' : Int → Int} (h : TableAt C H p d r fs c) (e : ∀ s ∈ fs, c s = c' s) : TableAt C H p d r fs c' := by
  obtain ⟨e1, e2, e3⟩ := h
  refine ⟨e1, ?_, ?_⟩
  · rw [e2, List.map_congr_left e]
  · rw [e3, kvF_congr e]
structure TX (K : PySem.W.Frag) (C : Addr) : Prop where
  cl : Cls K C
  nT : NoAttr K C "tallies"
  nW : NoAttr K C "ways"
def spTInit (C : Addr) : Sp := fun vs H Q _ => ∃ (p dx a : Addr) (xs : List Int), vs = [.ref p, .ref a] ∧ H p = some (.ins C dx []) ∧ H a = some (lz xs) ∧ xs.length ≤ 63 ∧ (∀ x ∈ xs, -1 ≤ x ∧ x < xs.length) ∧
  ∀ (d r : Addr) (H' : Hp), H d = none → H r = none → (∀ b o, b ≠ p → H b = some o → H' b = some o) → TableAt C H' p d r (rngI xs.length) (fun s => (xs.count s : Int)) → Q .non H'
theorem ok_Table_init {f C f1 f2 f3 : Addr} {fd fd1 fd2 fd3 : FuncData} (T : Nm mg) (F : Fun K "__init__" "Table.__init__" s_Table___init__ f fd) (X : TX K C)
    (x_shunner_tallies : Fx K mg "shunner_tallies" ["shuns"] s_shunner_tallies f1 fd1) (x_ways_to_choose : Fx K mg "ways_to_choose" ["tallies"] s_ways_to_choose f2 fd2) (x_ways_with_seat : Fx K mg "ways_with_seat" ["ways", "tally"] s_ways_with_seat f3 fd3) :
    FnOk P w K mg base CX0 3 f fd ["self", "shuns"] (spTInit C) := by
  have G_shunner_tallies : FnOk P w K mg base CX0 2 f1 fd1 ["shuns"] spTallies := (ok_shunner_tallies T x_shunner_tallies.F).mono (by decide)
  have G_ways_to_choose : FnOk P w K mg base CX0 2 f2 fd2 ["tallies"] spWays := ok_ways_to_choose T x_ways_to_choose.F x_ways_with_seat
  refine F.ok sc_Table___init__ (fun vs H Q E h => ?_) (fun cdv A outer s H vs Q E hr h => ?_)
  · obtain ⟨p, dx, a, xs, rfl, _⟩ := h
    rfl
  obtain ⟨p, dx, a, xs, rfl, hp, ha, hl, hv, k⟩ := h
  refine ⟨_, (pss_of (l := [_, _]) rfl (pss_cons (ps_fld (pv 0) (pe_call G_shunner_tallies hr rfl x_shunner_tallies.m x_shunner_tallies.F.kp x_shunner_tallies.b .nil pass0 (pa_cons (pv 1) pa_nil)) rfl)
      (pss_one (ps_fld (pv 0) (pe_call G_ways_to_choose hr rfl x_ways_to_choose.m x_ways_to_choose.F.kp x_ways_to_choose.b .nil pass0 (pa_cons (pe_callTy (call_list_vals rfl) rfl T.n_list b_list (pa_cons (pe_bm0 PySem.F.plainAttrs_dict PySem.F.slot_dict_values PySem.F.type_dict_values mt_values (pe_fld (pv 0) rfl)) pa_nil)) pa_nil)) rfl)))), ?_⟩
  refine ⟨_, rfl, a, xs, rfl, ha, hl, hv, fun d H1 s1 nd e1 => ?_⟩
  have npd : p ≠ d := ne_of_none hp nd
  refine ⟨_, rfl, p, C, dx, [], rfl, s1 _ _ hp, X.cl, X.nT, (by show 0 < 1000; decide), ?_⟩
  have ep : (upd H1 p (.ins C dx (putF "tallies" (.ref d) []))) p = some (.ins C dx (putF "tallies" (.ref d) [])) := upd_same
  have ed : (upd H1 p (.ins C dx (putF "tallies" (.ref d) []))) d = some (.dK (kvF (rngI xs.length) (fun s => (xs.count s : Int)))) := by rw [upd_ne npd.symm]; exact e1
  have kp : ∀ b o, b ≠ p → H b = some o → (upd H1 p (.ins C dx (putF "tallies" (.ref d) []))) b = some o := fun b o hb e => by rw [upd_ne hb]; exact s1 _ _ e
  generalize (upd H1 p (.ins C dx (putF "tallies" (.ref d) []))) = H2 at ep ed kp ⊢
  refine ⟨_, rfl, p, C, dx, _, _, rfl, ep, X.cl, X.nT, lk1 _ _, .inr (.inr (.inl ⟨rfl, .inl ⟨_, ed⟩⟩)), d, _, rfl, rfl, ed, fun u hu' => ?_⟩
  have n1 : u ≠ d := (ne_of_none ed hu').symm
  have s3 : Same H2 (upd H2 u (.ext fun h => h.IsValuesView u d)) := same_new hu' _
  refine ⟨u, d, _, rfl, upd_same, s3 _ _ ed, fun l hl' => ?_⟩
  rw [kvF_vals, cs_map]
  have s4 : Same H2 (upd (upd H2 u (.ext fun h => h.IsValuesView u d)) l (lz (cs xs.length xs))) := s3.trans (same_new hl' _)
  have e4 : (upd (upd H2 u (.ext fun h => h.IsValuesView u d)) l (lz (cs xs.length xs))) l = some (lz (cs xs.length xs)) := upd_same
  generalize (upd (upd H2 u (.ext fun h => h.IsValuesView u d)) l (lz (cs xs.length xs))) = H3 at s4 e4 ⊢
  refine ⟨l, cs xs.length xs, rfl, e4, by rw [cs_length]; omega, fun t ht => ?_, fun r H4 s5 n5 e5 => ?_⟩
  · have h1 := cs_nonneg xs.length xs t ht
    have h2 := le_sum (cs_nonneg xs.length xs) ht
    have h3 := cs_sum_le xs.length xs
    omega
  refine ⟨_, rfl, p, C, dx, _, rfl, s5 _ _ (s4 _ _ ep), X.cl, X.nW, ?_, ?_⟩
  · show 1 < 1000; decide
  have npr : r ≠ p := fun z => by
    subst z
    have := s4 _ _ ep
    rw [n5] at this; cases this
  have npd2 : d ≠ p := npd.symm
  have nrH : H r = none := by
    cases eH : H r with
    | none => rfl
    | some o =>
      have := s4 _ _ (kp r o npr eH)
      rw [n5] at this; cases this
  refine k d r _ nd nrH (fun b o hb e => by rw [upd_ne hb]; exact s5 _ _ (s4 _ _ (kp b o hb e))) ⟨⟨dx, upd_same⟩, ?_, ?_⟩
  · rw [upd_ne npr, e5, cs_length, rngI_length, cs_map]
    congr 3
    exact funext fun i => pk_perm (List.reverse_perm _) i
  · rw [upd_ne npd2]; exact s5 _ _ (s4 _ _ ed)
def spTCall (C : Addr) : Sp := fun vs H Q _ => ∃ (p d r : Addr) (fs : List Int) (c : Int → Int) (x : Int), vs = [.ref p, .int x] ∧ TableAt C H p d r fs c ∧ fs.Nodup ∧ fs.length ≤ 63 ∧ (∀ s ∈ fs, 0 ≤ c s ∧ c s ≤ 100) ∧
  ∀ (r' : Addr) (H' : Hp), (r' = r ∨ H r' = none) → (∀ b o, b ≠ p → b ≠ d → H b = some o → H' b = some o) → TableAt C H' p d r' fs (fun s => if s = x then c s - 1 else c s) → Q .non H'
theorem map_erase_perm {fs : List Int} {x : Int} (hx : x ∈ fs) (c : Int → Int) : (fs.map c).Perm (c x :: (fs.erase x).map c) := by
  have := (List.perm_cons_erase hx).map c
  rwa [List.map_cons] at this
theorem ok_Table_call_guest {f C f1 f2 : Addr} {fd fd1 fd2 : FuncData} (T : Nm mg) (F : Fun K "call_guest" "Table.call_guest" s_Table_call_guest f fd) (X : TX K C)
    (x_ways_with_seat : Fx K mg "ways_with_seat" ["ways", "tally"] s_ways_with_seat f1 fd1) (x_ways_without_seat : Fx K mg "ways_without_seat" ["ways", "tally"] s_ways_without_seat f2 fd2) :
    FnOk P w K mg base CX0 2 f fd ["self", "shun"] (spTCall C) := by
  have G_ways_with_seat : FnOk P w K mg base CX0 1 f1 fd1 ["ways", "tally"] spWith := ok_ways_with_seat T x_ways_with_seat.F
  have G_ways_without_seat : FnOk P w K mg base CX0 1 f2 fd2 ["ways", "tally"] spWithout := ok_ways_without_seat T x_ways_without_seat.F
  refine F.ok sc_Table_call_guest (fun vs H Q E h => ?_) (fun cdv A outer s H vs Q E hr h => ?_)
  · obtain ⟨p, d, r, fs, c, x, rfl, _⟩ := h
    rfl
  obtain ⟨p, d, r, fs, c, x, rfl, O, hn, hl, hc, k⟩ := h
  have hu := hu_of hr
  have npd := O.ne
  obtain ⟨⟨dx, eo⟩, er, ed⟩ := id O
  refine ⟨_, (pss_of (l := [_]) rfl (pss_one (ps_if (pt_cmp (pc_din hu (pv 1) (pe_fld (pv 0) rfl))) (pss_cons (ps_set (i := 2) sc_Table_call_guest.nd rfl (Or.inl rfl) (pe_dget hu (pe_fld (pv 0) rfl) (pv 1) (fun _ _ => rfl)))
      (pss_cons (ps_fld (pv 0) (pe_call G_ways_with_seat hr rfl x_ways_with_seat.m x_ways_with_seat.F.kp x_ways_with_seat.b .nil pass0 (pa_cons (pe_call G_ways_without_seat hr rfl x_ways_without_seat.m x_ways_without_seat.F.kp x_ways_without_seat.b .nil pass0 (pa_cons (pe_fld (pv 0) rfl) (pa_cons (pv 2) pa_nil))) (pa_cons (pe_op op_sub (pv 2) pe_int) pa_nil))) rfl)
      (pss_one (ps_dput hu (pe_fld (pv 0) rfl) (pv 1) (pe_op op_sub (pv 2) pe_int) rfl)))) pss_nil))), ?_⟩
  by_cases hx : x ∈ fs
  rotate_left
  · refine ⟨_, rfl, _, rfl, p, C, dx, _, _, rfl, eo, X.cl, X.nT, tfl_t _ _, d, _, rfl, dget_kvF0 ed hx, _, rfl, iteF ?_⟩
    exact k r H (.inl rfl) (fun b o _ _ e => e) (O.congr fun s hs => by
      have hne : ¬ s = x := fun e => hx (by rw [← e]; exact hs)
      rw [if_neg hne])
  refine ⟨_, rfl, _, rfl, p, C, dx, _, _, rfl, eo, X.cl, X.nT, tfl_t _ _, d, _, rfl, dget_kvF ed hx, _, rfl, iteT ?_⟩
  refine ⟨_, rfl, p, C, dx, _, _, rfl, eo, X.cl, X.nT, tfl_t _ _, _, rfl, d, _, rfl, dget_kvF ed hx, ?_⟩
  have hcx := hc x hx
  have hle : (fs.erase x).length + 1 = fs.length := by rw [List.length_erase_of_mem hx]; have := List.length_pos_of_mem hx; omega
  have hml : ((fs.erase x).map c).length = (fs.erase x).length := List.length_map _
  have er1 : H r = some (lz (tab (((fs.erase x).map c).length + 2) (pk (c x :: (fs.erase x).map c)))) := by
    rw [er, hml, show (fs.erase x).length + 2 = fs.length + 1 by omega]
    congr 3
    exact funext fun i => pk_perm (map_erase_perm hx c) i
  refine ⟨_, rfl, p, C, dx, _, _, rfl, eo, X.cl, X.nW, tfl_w _ _, _, rfl, r, (fs.erase x).map c, c x, rfl, er1, by omega, by omega, by omega, fun r1 H1 s1 n1 e1 => ?_⟩
  refine ⟨_, rfl, _, _, rfl, rfl, r1, (fs.erase x).map c, c x - 1, rfl, e1, by omega, by omega, by omega, fun r2 H2 s2 n2 e2 => ?_⟩
  have s3 : Same H H2 := s1.trans s2
  have nr2 : H r2 = none := s1.free n2
  refine ⟨_, rfl, p, C, dx, _, rfl, s3 _ _ eo, X.cl, X.nW, (by rw [tfl_eq]; show 2 < 1000; decide), ?_⟩
  rw [tfl_put]
  have ep : (upd H2 p (.ins C dx (tfl d r2))) p = some (.ins C dx (tfl d r2)) := upd_same
  have ed2 : (upd H2 p (.ins C dx (tfl d r2))) d = some (.dK (kvF fs c)) := by rw [upd_ne npd.symm]; exact s3 _ _ ed
  have er2 : (upd H2 p (.ins C dx (tfl d r2))) r2 = some (lz (tab (((fs.erase x).map c).length + 2) (pk ((c x - 1) :: (fs.erase x).map c)))) := by
    rw [upd_ne (ne_of_none eo nr2).symm]; exact e2
  have kp : ∀ b o, b ≠ p → H b = some o → (upd H2 p (.ins C dx (tfl d r2))) b = some o := fun b o hb e => by rw [upd_ne hb]; exact s3 _ _ e
  have nr2d : r2 ≠ d := (ne_of_none ed nr2).symm
  generalize (upd H2 p (.ins C dx (tfl d r2))) = H3 at ep ed2 er2 kp ⊢
  refine ⟨_, rfl, _, _, rfl, rfl, _, rfl, p, C, dx, _, _, rfl, ep, X.cl, X.nT, tfl_t _ _, _, rfl, d, _, rfl, DPut.k (k := Sum.inl x) ed2 (by rw [kvF_len]; exact small1000 (by omega)), ?_⟩
  refine k r2 _ (.inr nr2) (fun b o hb hb2 e => by rw [upd_ne hb2]; exact kp b o hb e) ⟨⟨dx, by rw [upd_ne npd]; exact ep⟩, ?_, ?_⟩
  · rw [upd_ne nr2d, er2, hml, show (fs.erase x).length + 2 = fs.length + 1 by omega]
    congr 3
    refine funext fun i => ?_
    have hp := map_erase_perm hx (fun s => if s = x then c s - 1 else c s)
    simp only [if_true] at hp
    have he : (fs.erase x).map (fun s => if s = x then c s - 1 else c s) = (fs.erase x).map c := List.map_congr_left fun s hs => by
      rw [if_neg (fun e => by subst e; exact (List.Nodup.not_mem_erase hn) hs)]
    rw [he] at hp
    exact (pk_perm hp i).symm
  · rw [upd_same, kvF_put _ hx]
    congr 2
    exact kvF_congr fun s _ => by
      by_cases e : s = x
      · subst e; simp
      · rw [if_neg e, if_neg e]
def spTFill (C : Addr) : Sp := fun vs H Q _ => ∃ (p d r : Addr) (fs : List Int) (c : Int → Int) (x : Int), vs = [.ref p, .int x] ∧ TableAt C H p d r fs c ∧ fs.Nodup ∧ fs.length ≤ 63 ∧ (∀ s ∈ fs, 0 ≤ c s ∧ c s ≤ 100) ∧ x ∈ fs ∧
  ∀ (r' : Addr) (H' : Hp), H r' = none → (∀ b o, b ≠ p → b ≠ d → H b = some o → H' b = some o) → TableAt C H' p d r' (fs.erase x) c → Q .non H'
theorem kvF_drop {fs : List Int} (hn : fs.Nodup) (c : Int → Int) (x : Int) : dropK (kvF fs c) (Sum.inl x : Key) = kvF (fs.erase x) c := by
  unfold dropK kvF
  rw [List.filter_map, hn.erase_eq_filter]
  congr 1
  refine List.filter_congr fun s _ => ?_
  show decide ((Sum.inl s : Key) ≠ Sum.inl x) = _
  by_cases e : s = x
  · subst e; simp
  · have : ¬ (Sum.inl s : Key) = Sum.inl x := fun z => e (Sum.inl.inj z)
    simp [this, e]
theorem ok_Table_fill {f C f2 : Addr} {fd fd2 : FuncData} (T : Nm mg) (F : Fun K "fill" "Table.fill" s_Table_fill f fd) (X : TX K C)
    (x_ways_without_seat : Fx K mg "ways_without_seat" ["ways", "tally"] s_ways_without_seat f2 fd2) :
    FnOk P w K mg base CX0 2 f fd ["self", "seat"] (spTFill C) := by
  have G_ways_without_seat : FnOk P w K mg base CX0 1 f2 fd2 ["ways", "tally"] spWithout := ok_ways_without_seat T x_ways_without_seat.F
  refine F.ok sc_Table_fill (fun vs H Q E h => ?_) (fun cdv A outer s H vs Q E hr h => ?_)
  · obtain ⟨p, d, r, fs, c, x, rfl, _⟩ := h
    rfl
  obtain ⟨p, d, r, fs, c, x, rfl, O, hn, hl, hc, hx, k⟩ := h
  have hu := hu_of hr
  have npd := O.ne
  obtain ⟨⟨dx, eo⟩, er, ed⟩ := id O
  have nrd : r ≠ d := ne_of er ed (by intro z; cases z)
  have npr : p ≠ r := ne_of eo er (by intro z; cases z)
  refine ⟨_, (pss_of (l := [_]) rfl (pss_one (ps_fld (pv 0) (pe_call G_ways_without_seat hr rfl x_ways_without_seat.m x_ways_without_seat.F.kp x_ways_without_seat.b .nil pass0 (pa_cons (pe_fld (pv 0) rfl) (pa_cons (pe_dpop1 (pe_fld (pv 0) rfl) (pv 1) ⟨rfl, rfl, rfl, rfl⟩) pa_nil))) rfl))), ?_⟩
  have hcx := hc x hx
  have hle : (fs.erase x).length + 1 = fs.length := by rw [List.length_erase_of_mem hx]; have := List.length_pos_of_mem hx; omega
  have hml : ((fs.erase x).map c).length = (fs.erase x).length := List.length_map _
  have er1 : H r = some (lz (tab (((fs.erase x).map c).length + 2) (pk (c x :: (fs.erase x).map c)))) := by
    rw [er, hml, show (fs.erase x).length + 2 = fs.length + 1 by omega]
    congr 3
    exact funext fun i => pk_perm (map_erase_perm hx c) i
  refine ⟨_, rfl, p, C, dx, _, _, rfl, eo, X.cl, X.nW, tfl_w _ _, _, rfl, p, C, dx, _, _, rfl, eo, X.cl, X.nT, tfl_t _ _, d, rfl, .inl ⟨_, .inl ed⟩, _, rfl, _, Sum.inl x, V.int (c x), ed, rfl, by rw [kvF_val, if_pos hx], ?_⟩
  rw [kvF_drop hn]
  have ed2 : (upd H d (.dK (kvF (fs.erase x) c))) d = some (.dK (kvF (fs.erase x) c)) := upd_same
  have er2 : (upd H d (.dK (kvF (fs.erase x) c))) r = some (lz (tab (((fs.erase x).map c).length + 2) (pk (c x :: (fs.erase x).map c)))) := by rw [upd_ne nrd]; exact er1
  have eo2 : (upd H d (.dK (kvF (fs.erase x) c))) p = some (.ins C dx (tfl d r)) := by rw [upd_ne npd]; exact eo
  have kp : ∀ b o, b ≠ d → H b = some o → (upd H d (.dK (kvF (fs.erase x) c))) b = some o := fun b o hb e => by rw [upd_ne hb]; exact e
  generalize (upd H d (.dK (kvF (fs.erase x) c))) = H1 at ed2 er2 eo2 kp ⊢
  refine ⟨r, (fs.erase x).map c, c x, rfl, er2, by omega, by omega, by omega, fun r1 H2 s2 n2 e2 => ?_⟩
  refine ⟨_, rfl, p, C, dx, _, rfl, s2 _ _ eo2, X.cl, X.nW, (by rw [tfl_eq]; show 2 < 1000; decide), ?_⟩
  rw [tfl_put]
  have nr1 : r1 ≠ p := (ne_of_none eo2 n2).symm
  have nr1H : H r1 = none := by
    cases eH : H r1 with
    | none => rfl
    | some o =>
      have hd : r1 ≠ d := fun z => by rw [z, ed2] at n2; cases n2
      have := kp r1 o hd eH
      rw [n2] at this; cases this
  refine k r1 _ nr1H (fun b o hb hb2 e => by rw [upd_ne hb]; exact s2 _ _ (kp b o hb2 e)) ⟨⟨dx, upd_same⟩, ?_, ?_⟩
  · rw [upd_ne nr1, e2, hml]
  · rw [upd_ne npd.symm]; exact s2 _ _ ed2
end
end OS

namespace OS
open PySem L2
section
variable {P : Program} {w : World} {K : PySem.W.Frag} {mg : Str → Option Value} {base : Heap}
theorem erase_map {fs : List Int} {s : Int} (hs : s ∈ fs) (c : Int → Int) : ((fs.erase s).map c).Perm ((fs.map c).erase (c s)) :=
  ((map_erase_perm hs c).symm.trans (List.perm_cons_erase (List.mem_map_of_mem hs))).cons_inv
def bN (m : Nat) (ts : List Int) (t : Int) : Int := D m (ts.erase t)
def behC (fs : List Int) (x : Int) (m : Nat) (c : Int → Int) : List Int := (opts fs x).map (fun s => D m ((fs.erase s).map c))
def firstC (fs : List Int) (x : Int) (m : Nat) (c : Int → Int) (s : Int) : Int := pre (behC fs x m c) ((opts fs x).idxOf s)
theorem opts_app (as bs : List Int) (x : Int) : opts (as ++ bs) x = opts as x ++ opts bs x := List.filter_append ..
theorem opts_take {fs : List Int} {x z : Int} {i : Nat} (hz : fs[i]? = some z) (hne : z ≠ x) : opts (fs.take (i + 1)) x = opts (fs.take i) x ++ [z] ∧ (opts fs x)[(opts (fs.take i) x).length]? = some z := by
  have ht : fs.take (i + 1) = fs.take i ++ [z] := by rw [List.take_add_one, hz]; rfl
  have h1 : opts [z] x = [z] := by unfold opts; simp [hne]
  refine ⟨by rw [ht, opts_app, h1], ?_⟩
  have e : fs = (fs.take i ++ [z]) ++ fs.drop (i + 1) := by rw [← ht, List.take_append_drop]
  have e2 : opts fs x = opts (fs.take i) x ++ [z] ++ opts (fs.drop (i + 1)) x := by
    conv => lhs; rw [e, opts_app, opts_app, h1]
  rw [e2, List.append_assoc, List.getElem?_append_right (Nat.le_refl _), Nat.sub_self]; rfl
theorem opts_skip {fs : List Int} {x : Int} {i : Nat} (hz : fs[i]? = some x) : opts (fs.take (i + 1)) x = opts (fs.take i) x := by
  have ht : fs.take (i + 1) = fs.take i ++ [x] := by rw [List.take_add_one, hz]; rfl
  have h1 : opts [x] x = [] := by unfold opts; simp
  rw [ht, opts_app, h1, List.append_nil]
theorem behC_at {fs : List Int} {x z : Int} {m i : Nat} {c : Int → Int} (h : (opts fs x)[i]? = some z) : (behC fs x m c)[i]? = some (bN m (fs.map c) (c z)) := by
  unfold behC bN
  rw [List.getElem?_map, h]
  show some (D m ((fs.erase z).map c)) = some _
  rw [D_perm (erase_map (opts_mem.mp (List.mem_of_getElem? h)).1 c)]
theorem behC_beh {fs xs : List Int} (x : Int) (hl : fs.length = xs.length + 1) : behC fs x xs.length (fun s => (xs.count s : Int)) = beh fs x xs := by
  unfold behC beh
  refine List.map_congr_left fun s hs => ?_
  unfold cnt
  rw [List.length_erase_of_mem (opts_mem.mp hs).1, hl, Nat.add_sub_cancel]
def spTFirst (C : Addr) : Sp := fun vs H Q _ => ∃ (p d r : Addr) (fs : List Int) (c : Int → Int) (x : Int) (m : Nat), vs = [.ref p, .int x] ∧ TableAt C H p d r fs c ∧ fs.Nodup ∧ fs.length = m + 1 ∧ m ≤ 62 ∧ (∀ s ∈ fs, 0 ≤ c s ∧ c s ≤ 100) ∧
  ∀ (q : Addr) (H' : Hp), Same H H' → H q = none → H' q = some (.dK (kvF (opts fs x) (firstC fs x m c))) → Q (.ref q) H'
theorem ok_Table_first_numbers {f C f1 f2 : Addr} {fd fd1 fd2 : FuncData} (T : Nm mg) (F : Fun K "first_numbers" "Table.first_numbers" s_Table_first_numbers f fd) (X : TX K C)
    (x_count_off : Fx K mg "count_off" ["ways"] s_count_off f1 fd1) (x_ways_without_seat : Fx K mg "ways_without_seat" ["ways", "tally"] s_ways_without_seat f2 fd2) :
    FnOk P w K mg base CX0 2 f fd ["self", "shun"] (spTFirst C) := by
  have G_count_off : FnOk P w K mg base CX0 1 f1 fd1 ["ways"] spOff0 := ok_count_off T x_count_off.F
  have G_ways_without_seat : FnOk P w K mg base CX0 1 f2 fd2 ["ways", "tally"] spWithout := ok_ways_without_seat T x_ways_without_seat.F
  refine F.ok sc_Table_first_numbers (fun vs H Q E h => ?_) (fun cdv A outer s H vs Q E hr h => ?_)
  · obtain ⟨p, d, r, fs, c, x, m, rfl, _⟩ := h
    rfl
  obtain ⟨p, d, r, fs, c, x, m, rfl, O, hn, hm, hm2, hc, k⟩ := h
  have hu := hu_of hr
  have npd := O.ne
  obtain ⟨⟨dx, eo⟩, er, ed⟩ := id O
  have nrd : r ≠ d := ne_of er ed (by intro z; cases z)
  refine ⟨_, (pss_of (l := [_, _, _, _, _]) rfl (pss_cons (ps_set (i := 2) sc_Table_first_numbers.nd rfl (Or.inl rfl) pe_dnewK)
      (pss_cons (ps_set (i := 3) sc_Table_first_numbers.nd rfl (Or.inl rfl) pe_dnewK)
      (pss_cons (ps_set (i := 4) sc_Table_first_numbers.nd rfl (Or.inl rfl) pe_int)
      (pss_cons (ps_thaw (ps_for PassesOwn.never rfl (pi_items (pe_bm0 PySem.F.plainAttrs_dict PySem.F.slot_dict_items PySem.F.type_dict_items mt_items (pe_fld (pv 0) rfl))) (pg_tup rfl (pgs_cons (pg_name (i := 5) sc_Table_first_numbers.nd rfl (Or.inl rfl)) (pgs_cons (pg_name (i := 6) sc_Table_first_numbers.nd rfl (Or.inl rfl)) pgs_nil))) (pss_one (ps_if (pt_cmpR op_ne (pv 5) (pv 1) (nomark _)) (pss_cut (ps_if (pt_cmp (pc_dnotin hu (pv 6) (pv 2))) (pss_one (ps_dput hu (pv 2) (pv 6) (pe_call G_count_off hr rfl x_count_off.m x_count_off.F.kp x_count_off.b .nil pass0 (pa_cons (pe_call G_ways_without_seat hr rfl x_ways_without_seat.m x_ways_without_seat.F.kp x_ways_without_seat.b .nil pass0 (pa_cons (pe_fld (pv 0) rfl) (pa_cons (pv 6) pa_nil))) pa_nil)) rfl)) pss_nil)
      (pss_cons (ps_dput hu (pv 3) (pv 5) (pv 4) rfl)
      (pss_one (ps_aug (i := 4) sc_Table_first_numbers.nd rfl (Or.inl rfl) (pe_dget hu (pv 2) (pv 6) (fun _ _ => rfl)) ip_add)))) pss_nil))))
      (pss_one (ps_ret (pv 3)))))))), ?_⟩
  intro be hbe fi hfi
  have s1 : Same H (upd H be (.dK [])) := same_new hbe _
  have s2 : Same H (upd (upd H be (.dK [])) fi (.dK [])) := s1.trans (same_new hfi _)
  have ef0 : (upd (upd H be (.dK [])) fi (.dK [])) fi = some (.dK []) := upd_same
  have nbf : be ≠ fi := ne_of_none (H := upd H be (.dK [])) upd_same hfi
  have eb0 : (upd (upd H be (.dK [])) fi (.dK [])) be = some (.dK []) := by rw [upd_ne nbf, upd_same]
  have nfi : H fi = none := s1.free hfi
  generalize (upd (upd H be (.dK [])) fi (.dK [])) = H2 at s2 ef0 eb0 ⊢
  refine ⟨_, rfl, p, C, dx, _, _, rfl, s2 _ _ eo, X.cl, X.nT, tfl_t _ _, .inr (.inr (.inl ⟨rfl, .inl ⟨_, s2 _ _ ed⟩⟩)), d, _, rfl, rfl, s2 _ _ ed, fun u hu' => ?_⟩
  have s3 : Same H2 (upd H2 u (.ext fun h => h.IsItemsView u d)) := same_new hu' _
  refine ⟨u, d, _, rfl, upd_same, s3 _ _ (s2 _ _ ed), fun o ep hF => ?_⟩
  have nbd : be ≠ d := (ne_of_none ed hbe).symm
  have nfd : fi ≠ d := (ne_of_none ed nfi).symm
  have ez : (upd (upd H2 u (.ext fun h => h.IsItemsView u d)) d (fzO d o)) d = some (fzO d o) := upd_same
  have kz : ∀ b ob, b ≠ d → H2 b = some ob → (upd (upd H2 u (.ext fun h => h.IsItemsView u d)) d (fzO d o)) b = some ob := fun b ob hb e => by rw [upd_ne hb]; exact s3 _ _ e
  generalize (upd (upd H2 u (.ext fun h => h.IsItemsView u d)) d (fzO d o)) = Hz at ez kz ⊢
  have eoz := kz _ _ npd (s2 _ _ eo)
  have erz := kz _ _ nrd (s2 _ _ er)
  have ebz := kz _ _ nbd eb0
  have efz := kz _ _ nfd ef0
  have npb : p ≠ be := ne_of_none eo hbe
  have npf : p ≠ fi := ne_of_none eo nfi
  have nrb : r ≠ be := ne_of_none er hbe
  have nrf : r ≠ fi := ne_of_none er nfi
  refine for_items (d := d) (o := o) (kvs := kvF fs c) (fun i σ H' => (∀ b ob, b ≠ be → b ≠ fi → Hz b = some ob → H' b = some ob) ∧ (∃ ts : List Int, H' be = some (.dK (kvF ts (bN m (fs.map c)))) ∧ ts.length ≤ i) ∧
      H' fi = some (.dK (kvF (opts (fs.take i) x) (firstC fs x m c))) ∧ ∃ v5 v6, σ = [some (.ref p), some (.int x), some (.ref be), some (.ref fi), some (.int (pre (behC fs x m c) (opts (fs.take i) x).length)), v5, v6])
    ⟨fun _ _ _ _ e => e, ⟨[], ebz, Nat.le_refl _⟩, efz, none, none, rfl⟩ (fun i σ H' _ ⟨kp, _⟩ => kp _ _ nbd.symm nfd.symm ez) ?_ ?_
  · rintro i k v σ H' pp hi hpp ⟨kp, ⟨ts, eb, htl⟩, ef, v5, v6, rfl⟩
    obtain ⟨z, hz, rfl, rfl⟩ := kvF_at hi
    have hzm := List.mem_of_getElem? hz
    have hil := (List.getElem?_eq_some_iff.mp hz).1
    have hoi : (opts (fs.take i) x).length ≤ i := Nat.le_trans (List.length_filter_le _ _) (by rw [List.length_take]; omega)
    have s5 : Same H' (upd H' pp (.tup [.int z, .int (c z)])) := same_new hpp _
    rw [show kV (Sum.inl z) = V.int z from rfl]
    refine ⟨pp, _, rfl, SqT.of upd_same, rfl, _, _, rfl, _, _, rfl, rfl, ?_⟩
    have kp5 : ∀ b ob, b ≠ be → b ≠ fi → Hz b = some ob → (upd H' pp (.tup [.int z, .int (c z)])) b = some ob := fun b ob h1 h2 e => s5 _ _ (kp b ob h1 h2 e)
    have eb5 := s5 _ _ eb
    have ef5 := s5 _ _ ef
    generalize (upd H' pp (.tup [.int z, .int (c z)])) = H5 at kp5 eb5 ef5 ⊢
    clear kp eb ef s5 hpp
    refine ⟨_, rfl, _, rfl, rfl, _, rfl, ?_⟩
    by_cases hne : z = x
    · refine ifNN (by rw [hne]) ?_
      subst hne
      rw [opts_skip hz]
      exact ⟨kp5, ⟨ts, eb5, by omega⟩, ef5, _, _, rfl⟩
    refine ifNY (vi_ne hne) ?_
    obtain ⟨ot, og⟩ := opts_take hz hne
    refine ⟨fun σ H6 => (∀ b ob, b ≠ be → b ≠ fi → Hz b = some ob → H6 b = some ob) ∧ (∃ ts : List Int, H6 be = some (.dK (kvF ts (bN m (fs.map c)))) ∧ c z ∈ ts ∧ ts.length ≤ i + 1) ∧
      H6 fi = some (.dK (kvF (opts (fs.take i) x) (firstC fs x m c))) ∧ σ = [some (.ref p), some (.int x), some (.ref be), some (.ref fi), some (.int (pre (behC fs x m c) (opts (fs.take i) x).length)), some (.int z), some (.int (c z))], ?_, ?_⟩
    · by_cases hct : c z ∈ ts
      · refine ⟨_, rfl, _, rfl, be, _, rfl, dget_kvF eb5 hct, _, rfl, iteF ?_⟩
        exact ⟨kp5, ⟨ts, eb5, hct, by omega⟩, ef5, rfl⟩
      refine ⟨_, rfl, _, rfl, be, _, rfl, dget_kvF0 eb5 hct, _, rfl, iteT ?_⟩
      have hcm : c z ∈ fs.map c := List.mem_map_of_mem hzm
      have hcl : ((fs.map c).erase (c z)).length = m := by rw [List.length_erase_of_mem hcm, List.length_map]; omega
      have er5 : H5 r = some (lz (tab (((fs.map c).erase (c z)).length + 2) (pk (c z :: (fs.map c).erase (c z))))) := by
        rw [kp5 _ _ nrb nrf erz, hcl, hm]
        congr 3
        exact funext fun i => pk_perm (List.perm_cons_erase hcm) i
      have hcz := hc z hzm
      refine ⟨_, rfl, p, C, dx, _, _, rfl, kp5 _ _ npb npf eoz, X.cl, X.nW, tfl_w _ _, _, rfl, r, (fs.map c).erase (c z), c z, rfl, er5, by omega, by omega, by omega, fun r1 H6 s6 n6 e6 => ?_⟩
      refine ⟨r1, (fs.map c).erase (c z), rfl, e6, by omega, fun H7 s7 => ?_⟩
      have s8 := s6.trans s7
      refine ⟨_, rfl, _, rfl, be, _, rfl, DPut.k (k := Sum.inl (c z)) (s8 _ _ eb5) (by rw [kvF_len]; exact small1000 (by omega)), ?_⟩
      refine ⟨fun b ob h1 h2 e => by rw [upd_ne h1]; exact s8 _ _ (kp5 b ob h1 h2 e), ⟨ts ++ [c z], ?_, by simp, by simp; omega⟩, by rw [upd_ne nbf.symm]; exact s8 _ _ ef5, rfl⟩
      rw [upd_same, kvF_new _ hct, hcl]
      congr 2
      refine kvF_congr fun s _ => ?_
      by_cases e : s = c z
      · subst e; rw [if_pos rfl]; rfl
      · rw [if_neg e]
    · rintro σ H6 ⟨kp6, ⟨ts6, eb6, hct, htl6⟩, ef6, rfl⟩
      have hzo : z ∉ opts (fs.take i) x := fun hz' => by
        have h1 := (opts_mem.mp hz').1
        have hd : (fs.take (i + 1)).Nodup := List.Pairwise.sublist (List.take_sublist _ _) hn
        rw [List.take_add_one, hz] at hd
        have hd := List.nodup_append.mp hd
        exact hd.2.2 z h1 z (by simp) rfl
      refine ⟨_, rfl, _, rfl, _, rfl, fi, _, rfl, DPut.k (k := Sum.inl z) ef6 (by rw [kvF_len]; exact small1000 (by omega)), ?_⟩
      have ebx : (upd H6 fi (.dK (putK (kvF (opts (fs.take i) x) (firstC fs x m c)) (Sum.inl z : Key) (.int (pre (behC fs x m c) (opts (fs.take i) x).length))))) be = some (.dK (kvF ts6 (bN m (fs.map c)))) := by rw [upd_ne nbf]; exact eb6
      refine ⟨_, rfl, _, rfl, _, rfl, be, _, rfl, dget_kvF ebx hct, _, _, rfl, rfl, ?_⟩
      refine ⟨fun b ob h1 h2 e => by rw [upd_ne h2]; exact kp6 b ob h1 h2 e, ⟨ts6, ebx, by omega⟩, ?_, some (.int z), some (.int (c z)), ?_⟩
      · rw [upd_same, kvF_new _ hzo, ot]
        congr 2
        refine kvF_congr fun s _ => ?_
        by_cases e : s = z
        · subst e
          rw [if_pos rfl]
          unfold firstC
          rw [idx_get (opts_nodup hn x) og]
        · rw [if_neg e]
      · rw [ot, List.length_append, List.length_singleton, pre_succ (behC_at (m := m) (c := c) og)]
        rfl
  · rintro σ H' ⟨kp, _, ef, v5, v6, rfl⟩
    rw [kvF_len, List.take_length] at ef
    refine ⟨d, _, o, ep, kp _ _ nbd.symm nfd.symm ez, hF, ?_⟩
    refine ⟨_, rfl, k fi _ (fun b ob e => ?_) nfi (by rw [upd_ne nfd]; exact ef)⟩
    by_cases hb : b = d
    · subst hb
      rw [upd_same, ← ed, e]
    · rw [upd_ne hb]
      exact kp b ob (ne_of_none e hbe) (ne_of_none e nfi) (kz b ob hb (s2 _ _ e))
end
end OS

namespace OS
open PySem L2
section
variable {P : Program} {w : World} {K : PySem.W.Frag} {mg : Str → Option Value} {base : Heap}
theorem falls_ex {Ns : List Int} {lf : Int} (h0 : 0 ≤ lf) : ∀ m, lf < pre Ns m → ∃ j, j < m ∧ pre Ns j ≤ lf ∧ lf < pre Ns (j + 1)
  | 0, h => by
    have : pre Ns 0 = 0 := rfl
    omega
  | m + 1, h => by
    by_cases c : pre Ns m ≤ lf
    · exact ⟨m, Nat.lt_succ_self _, c, h⟩
    · obtain ⟨j, h1, h2, h3⟩ := falls_ex (Ns := Ns) h0 m (by omega)
      exact ⟨j, by omega, h2, h3⟩
theorem filter_take {os : List Int} (hn : os.Nodup) {Ns : List Int} (hnn : ∀ a ∈ Ns, 0 ≤ a) {j : Nat} {lf : Int} (h1 : pre Ns j ≤ lf) (h2 : lf < pre Ns (j + 1)) :
    os.filter (fun s => decide (pre Ns (os.idxOf s) ≤ lf)) = os.take (j + 1) := by
  conv => lhs; rw [← List.take_append_drop (j + 1) os]
  rw [List.filter_append]
  have e1 : (os.take (j + 1)).filter (fun s => decide (pre Ns ((os.take (j + 1) ++ os.drop (j + 1)).idxOf s) ≤ lf)) = os.take (j + 1) := by
    rw [List.filter_eq_self]
    intro s hs
    obtain ⟨k, hk⟩ := List.mem_iff_getElem?.mp hs
    have hkl := (List.getElem?_eq_some_iff.mp hk).1
    rw [List.length_take] at hkl
    rw [List.getElem?_take_of_lt (by omega)] at hk
    rw [List.take_append_drop, idx_get hn hk, decide_eq_true_iff]
    have := pre_mono hnn (i := k) (j - k)
    rw [show k + (j - k) = j by omega] at this
    omega
  have e2 : (os.drop (j + 1)).filter (fun s => decide (pre Ns ((os.take (j + 1) ++ os.drop (j + 1)).idxOf s) ≤ lf)) = [] := by
    rw [List.filter_eq_nil_iff]
    intro s hs
    obtain ⟨k, hk⟩ := List.mem_iff_getElem?.mp hs
    rw [List.getElem?_drop] at hk
    rw [List.take_append_drop, idx_get hn hk, decide_eq_true_iff]
    have := pre_mono hnn (i := j + 1) k
    omega
  rw [e1, e2, List.append_nil]
theorem count_drop {x : Int} {rest : List Int} (s : Int) : (if s = x then (((x :: rest).count s : Nat) : Int) - 1 else (((x :: rest).count s : Nat) : Int)) = ((rest.count s : Nat) : Int) := by
  by_cases e : s = x
  · subst e; rw [if_pos rfl, List.count_cons_self]; omega
  · have : (x == s) = false := by rw [beq_eq_false_iff_ne]; exact fun z => e z.symm
    rw [if_neg e, List.count_cons, this]; simp
theorem count_le (xs : List Int) (s : Int) (h : xs.length ≤ 63) : 0 ≤ ((xs.count s : Nat) : Int) ∧ ((xs.count s : Nat) : Int) ≤ 100 := by
  have := List.count_le_length (a := s) (l := xs)
  omega
def spSeatOf : Sp := fun vs H Q _ => ∃ (a : Addr) (xs : List Int) (k : Int), vs = [.ref a, .int k] ∧ H a = some (lz xs) ∧ xs.length ≤ 63 ∧ (∀ x ∈ xs, -1 ≤ x ∧ x < xs.length) ∧ 0 ≤ k ∧ k < cnt (rngI xs.length) xs ∧
  ∀ (r : Addr) (ss : List Int) (H' : Hp), Same H H' → H r = none → H' r = some (lz ss) → Num (rngI xs.length) xs ss k → Q (.ref r) H'
structure TF (P : Program) (w : World) (K : PySem.W.Frag) (mg : Str → Option Value) (base : Heap) (C f1 f2 f3 f4 f5 f6 f7 : Addr) (fd1 fd2 fd3 fd4 fd5 fd6 fd7 : FuncData) : Prop where
  x_Table : Cs K mg "Table" C
  X : TX K C
  x_refuse_bad_shuns : Fx K mg "refuse_bad_shuns" ["shuns"] s_refuse_bad_shuns f1 fd1
  G_refuse_bad_shuns : FnOk P w K mg base CX0 4 f1 fd1 ["shuns"] spRefuse
  x_is_whole_number : Fx K mg "is_whole_number" ["value"] s_is_whole_number f2 fd2
  G_is_whole_number : FnOk P w K mg base CX0 4 f2 fd2 ["value"] spIsW
  x_count_off : Fx K mg "count_off" ["ways"] s_count_off f3 fd3
  G_count_off : FnOk P w K mg base CX0 4 f3 fd3 ["ways"] spOff0
  x_Table___init__ : Mx K C "__init__" "Table.__init__" ["self", "shuns"] s_Table___init__ f4 fd4
  G_Table___init__ : FnOk P w K mg base CX0 3 f4 fd4 ["self", "shuns"] (spTInit C)
  x_Table_call_guest : Mx K C "call_guest" "Table.call_guest" ["self", "shun"] s_Table_call_guest f5 fd5
  G_Table_call_guest : FnOk P w K mg base CX0 4 f5 fd5 ["self", "shun"] (spTCall C)
  x_Table_first_numbers : Mx K C "first_numbers" "Table.first_numbers" ["self", "shun"] s_Table_first_numbers f6 fd6
  G_Table_first_numbers : FnOk P w K mg base CX0 4 f6 fd6 ["self", "shun"] (spTFirst C)
  x_Table_fill : Mx K C "fill" "Table.fill" ["self", "seat"] s_Table_fill f7 fd7
  G_Table_fill : FnOk P w K mg base CX0 4 f7 fd7 ["self", "seat"] (spTFill C)
theorem ok_seating_of {f C f1 f2 f3 f4 f5 f6 f7 : Addr} {fd fd1 fd2 fd3 fd4 fd5 fd6 fd7 : FuncData} (T : Nm mg) (F : Fun K "seating_of" "seating_of" s_seating_of f fd) (B : TF P w K mg base C f1 f2 f3 f4 f5 f6 f7 fd1 fd2 fd3 fd4 fd5 fd6 fd7) :
    FnOk P w K mg base CX0 5 f fd ["shuns", "number"] spSeatOf := by
  obtain ⟨x_Table, X, x_refuse_bad_shuns, G_refuse_bad_shuns, x_is_whole_number, G_is_whole_number, x_count_off, G_count_off, x_Table___init__, G_Table___init__, x_Table_call_guest, G_Table_call_guest, x_Table_first_numbers, G_Table_first_numbers, x_Table_fill, G_Table_fill⟩ := B
  refine F.ok sc_seating_of (fun vs H Q E h => ?_) (fun cdv A outer s H vs Q E hr h => ?_)
  · obtain ⟨a, xs, k, rfl, _⟩ := h
    rfl
  obtain ⟨a, xs, k, rfl, ha, hl, hv, hk0, hk1, q⟩ := h
  have hu := hu_of hr
  have nm1 : ¬ ("call_guest" : Str) = "ways" := by decide +kernel
  have nm2 : ¬ ("call_guest" : Str) = "tallies" := by decide +kernel
  have nm3 : ¬ ("first_numbers" : Str) = "ways" := by decide +kernel
  have nm4 : ¬ ("first_numbers" : Str) = "tallies" := by decide +kernel
  have nm5 : ¬ ("fill" : Str) = "ways" := by decide +kernel
  have nm6 : ¬ ("fill" : Str) = "tallies" := by decide +kernel
  refine ⟨_, (pss_of (l := [_, _, _, _, _, _, _]) rfl (pss_cons (ps_expr (pe_call G_refuse_bad_shuns hr rfl x_refuse_bad_shuns.m x_refuse_bad_shuns.F.kp x_refuse_bad_shuns.b .nil pass0 (pa_cons (pv 0) pa_nil)))
      (pss_cons (ps_set (i := 2) sc_seating_of.nd rfl (Or.inl rfl) (pe_make ⟨x_Table.mks, x_Table___init__.me.at_, x_Table___init__.me.fn, x_Table.kc⟩ G_Table___init__ hr rfl x_Table.m x_Table___init__.b .nil pass0 (pa_cons (pv 0) pa_nil)))
      (pss_cons (ps_if (PW.pt (pw_or (pt_not (pt_val (pe_call G_is_whole_number hr rfl x_is_whole_number.m x_is_whole_number.F.kp x_is_whole_number.b .nil pass0 (pa_cons (pv 1) pa_nil)))) (pw_or (pt_cmpR op_lt (pv 1) pe_int (nomark _)) (pw_or1 (pt_cmpR op_ge (pv 1) (pe_call G_count_off hr rfl x_count_off.m x_count_off.F.kp x_count_off.b .nil pass0 (pa_cons (pe_fld (pv 2) rfl) pa_nil)) (nomark _)))))) (pss_one ps_never) pss_nil)
      (pss_cons (ps_set (i := 3) sc_seating_of.nd rfl (Or.inl rfl) (pe_lst pa_nil))
      (pss_cons (ps_set (i := 4) sc_seating_of.nd rfl (Or.inr rfl) (pv 1))
      (pss_cons (ps_for PassesOwn.never rfl (pi_list (pv 0)) (pg_name (i := 5) sc_seating_of.nd rfl (Or.inl rfl)) (pss_cons (ps_expr (pe_meth (pv 2) x_Table.cl x_Table_call_guest.me G_Table_call_guest hr x_Table_call_guest.b .nil pass0 (pa_cons (pv 5) pa_nil)))
      (pss_cons (ps_set (i := 6) sc_seating_of.nd rfl (Or.inl rfl) (pe_meth (pv 2) x_Table.cl x_Table_first_numbers.me G_Table_first_numbers hr x_Table_first_numbers.b .nil pass0 (pa_cons (pv 5) pa_nil)))
      (pss_cons (ps_set (i := 7) sc_seating_of.nd rfl (Or.inl rfl) (pe_ix ix_list (pe_thaw (pe_comp rfl sc_seating_of_0 (pi_items (pe_bm0 PySem.F.plainAttrs_dict PySem.F.slot_dict_items PySem.F.type_dict_items mt_items (pv 6))) (fun _ _ _ => (pg_tup rfl (pgs_cons (pg_name (i := 0) sc_seating_of_0.nd rfl (Or.inl rfl)) (pgs_cons (pg_name (i := 1) sc_seating_of_0.nd rfl (Or.inl rfl)) pgs_nil)))) (fun _ _ _ => pif_one (pt_cmpR op_le (pv 1) (pv 2) (nomark _))) (fun _ _ _ => (pv 0)))) (pe_un un_neg pe_int) (fun _ _ => rfl)))
      (pss_cons (ps_aug (i := 4) sc_seating_of.nd rfl (Or.inr rfl) (pe_dget hu (pv 6) (pv 7) (fun _ _ => rfl)) ip_sub)
      (pss_cons (ps_expr (pe_meth (pv 2) x_Table.cl x_Table_fill.me G_Table_fill hr x_Table_fill.b .nil pass0 (pa_cons (pv 7) pa_nil)))
      (pss_one (ps_expr (pe_bm PySem.F.plainAttrs_list PySem.F.slot_list_append PySem.F.type_list_append mt_append (pv 3) (pa_cons (pv 7) pa_nil))))))))))
      (pss_one (ps_ret (pv 3)))))))))), ?_⟩
  refine ⟨_, rfl, a, xs, rfl, ha, by omega, hv, fun H1 s1 => ?_⟩
  refine ⟨_, rfl, fun p dx np ndx nex => ?_⟩
  have s2 : Same H1 (upd (upd H1 dx (.own p)) p (.ins C dx [])) := fun b o e => by
    rw [upd_ne (ne_of_none e np), upd_ne (ne_of_none e ndx)]
    exact e
  refine ⟨p, dx, a, xs, rfl, upd_same, s2 _ _ (s1 _ _ ha), hl, hv, fun d r1 H2 nd nr1 kp2 O => ⟨rfl, ?_⟩⟩
  have npH : H p = none := s1.free np
  have ndH : H d = none := s1.free (s2.free nd)
  have s3 : Same H H2 := fun b o e => kp2 b o (ne_of_none (s1 _ _ e) np) (s2 _ _ (s1 _ _ e))
  clear kp2 s2 s1 np ndx nd nex
  refine ⟨_, rfl, k, rfl, true, rfl, iteF ?_⟩
  refine ⟨_, rfl, _, _, rfl, rfl, _, rfl, ifN (by omega) ?_⟩
  obtain ⟨⟨dx1, eo⟩, er, ed⟩ := id O
  have er' : H2 r1 = some (lz (tab (((rngI xs.length).map (fun s => ((xs.count s : Nat) : Int))).length + 1) (pk ((rngI xs.length).map (fun s => ((xs.count s : Nat) : Int)))))) := by
    rw [er, List.length_map]
  refine ⟨_, rfl, _, rfl, p, C, dx1, _, _, rfl, eo, X.cl, X.nW, tfl_w _ _, r1, _, rfl, er', by rw [List.length_map, rngI_length]; omega, fun H3 s4 => ?_⟩
  refine ⟨_, _, rfl, rfl, _, rfl, ifN ?_ ?_⟩
  · rw [List.length_map]
    show ¬ cnt (rngI xs.length) xs ≤ k
    omega
  have O3 := O.same s4
  have s5 : Same H H3 := s3.trans s4
  clear s3 s4 O eo er er' ed
  refine ⟨Nat.zero_le _, fun se hse => ?_⟩
  have nse : H se = none := s5.free hse
  have s6 : Same H3 (upd H3 se (.lst [])) := same_new hse _
  have ese : (upd H3 se (.lst [])) se = some (lz []) := upd_same
  have O4 := O3.same s6
  have nsp : se ≠ p := by
    obtain ⟨dx2, eo2⟩ := O3.ob
    exact (ne_of_none eo2 hse).symm
  have nsd : se ≠ d := (ne_of_none O3.dc hse).symm
  have nsr : r1 ≠ se := ne_of_none O3.ws hse
  have s7 : Same H (upd H3 se (.lst [])) := s5.trans s6
  generalize (upd H3 se (.lst [])) = H4 at ese O4 s7 ⊢
  clear s5 s6 O3 hse
  refine ⟨_, rfl, ?_⟩
  refine ⟨_, rfl, a, rfl, ⟨_, SqL.of (s7 _ _ ha)⟩, ?_⟩
  refine for_list (K := K) (a := a) (xs := xs.map V.int) (fun i σ H' => ∃ (r : Addr) (fs ss : List Int) (lf : Int), r ≠ se ∧ Same H H' ∧ TableAt C H' p d r fs (fun s => (((xs.drop i).count s : Nat) : Int)) ∧ fs.Nodup ∧ fs.length = (xs.drop i).length ∧ H' se = some (lz ss) ∧ ss.length = i ∧
      0 ≤ lf ∧ lf < cnt fs (xs.drop i) ∧ (∀ ss', Num fs (xs.drop i) ss' lf → Num (rngI xs.length) xs (ss ++ ss') k) ∧ ∃ v5 v6 v7, σ = [some (.ref a), some (.int k), some (.ref p), some (.ref se), some (.int lf), v5, v6, v7])
    ⟨r1, rngI xs.length, [], k, nsr, s7, O4, rngI_nodup _, by rw [rngI_length]; rfl, ese, rfl, hk0, hk1, fun _ h => h, none, none, none, rfl⟩ (fun i σ H' _ ⟨_, _, _, _, _, e, _⟩ => SqL.of (e _ _ ha)) ?_ ?_
  · rintro i y σ H5 hi ⟨r5, fs, ss, lf, nr5, s8, O5, hn, hlf, es, hsl, h0, h1, hN, v5, v6, v7, rfl⟩
    obtain ⟨x, hx, rfl⟩ := lz_at hi
    have hil := (List.getElem?_eq_some_iff.mp hx).1
    have hdr : xs.drop i = x :: xs.drop (i + 1) := by
      rw [List.drop_eq_getElem_cons hil]
      congr 1
      have := List.getElem?_eq_getElem hil
      rw [hx] at this
      exact (Option.some.inj this).symm
    have hrl : (xs.drop (i + 1)).length ≤ 62 := by rw [List.length_drop]; omega
    rw [hdr] at O5 hlf h1 hN
    simp only [List.length_cons] at hlf
    generalize xs.drop (i + 1) = rest at *
    obtain ⟨⟨dx5, eo5⟩, er5, ed5⟩ := id O5
    refine ⟨_, rfl, p, dx5, _, rfl, eo5, tfl_no _ _ nm1 nm2, _, rfl, p, d, r5, fs, _, x, rfl, O5, hn, by omega, fun s _ => count_le _ s (by simp; omega), fun r6 H6 hr6 kp6 O6 => ?_⟩
    have nr6 : r6 ≠ se := by
      rcases hr6 with e | e
      · rw [e]; exact nr5
      · exact (ne_of_none es e).symm
    replace O6 := O6.congr fun s _ => count_drop s
    have es6 := kp6 _ _ nsp nsd es
    have s9 : Same H H6 := fun b o e => kp6 b o (ne_of_none e npH) (ne_of_none e ndH) (s8 _ _ e)
    clear kp6 s8 O5 eo5 er5 ed5 es
    obtain ⟨⟨dx6, eo6⟩, er6, ed6⟩ := id O6
    refine ⟨_, rfl, p, dx6, _, rfl, eo6, tfl_no _ _ nm3 nm4, _, rfl, p, d, r6, fs, _, x, rest.length, rfl, O6, hn, hlf, hrl, fun s _ => count_le _ s (by omega), fun fq H7 s10 nfq efq => ?_⟩
    rw [show firstC fs x rest.length (fun s => ((rest.count s : Nat) : Int)) = fun s => pre (beh fs x rest) ((opts fs x).idxOf s) by unfold firstC; rw [behC_beh x hlf]] at efq
    have hnn := beh_nonneg x hn hlf
    obtain ⟨j, hj, hj1, hj2⟩ := falls_ex (Ns := beh fs x rest) h0 (opts fs x).length (by rw [beh_sum x hn hlf]; exact h1)
    have hft := filter_take (opts_nodup hn x) hnn hj1 hj2
    have hoj : (opts fs x)[j]? = some (opts fs x)[j] := List.getElem?_eq_getElem hj
    generalize (opts fs x)[j] = sj at hoj
    have hsj := List.mem_of_getElem? hoj
    have hol : (opts fs x).length ≤ 63 := Nat.le_trans (List.length_filter_le _ _) (by omega)
    refine ⟨_, rfl, .inr (.inr (.inl ⟨rfl, .inl ⟨_, efq⟩⟩)), fq, _, rfl, rfl, efq, fun u hu' => ?_⟩
    have s11 : Same H7 (upd H7 u (.ext fun h => h.IsItemsView u fq)) := same_new hu' _
    refine ⟨u, fq, _, rfl, upd_same, s11 _ _ efq, fun o ep hF D2 hD2 _ _ => ?_⟩
    have ez : (upd (upd H7 u (.ext fun h => h.IsItemsView u fq)) fq (fzO fq o)) fq = some (fzO fq o) := upd_same
    have kz : ∀ b ob, b ≠ fq → H7 b = some ob → (upd (upd H7 u (.ext fun h => h.IsItemsView u fq)) fq (fzO fq o)) b = some ob := fun b ob hb e => by rw [upd_ne hb]; exact s11 _ _ e
    generalize (upd (upd H7 u (.ext fun h => h.IsItemsView u fq)) fq (fzO fq o)) = Hz at ez kz hD2 ⊢
    clear s11 hu'
    refine comp_items (d := fq) (o := o) (kvs := kvF (opts fs x) (fun s => pre (beh fs x rest) ((opts fs x).idxOf s))) (fun i ys σ H' => Same Hz H' ∧ H' D2 = some (.lst ys) ∧ ys = (((opts fs x).take i).filter (fun s => decide (pre (beh fs x rest) ((opts fs x).idxOf s) ≤ lf))).map V.int ∧ ∃ u v, σ = [u, v, some (.int lf)])
      ⟨same_new hD2 _, upd_same, rfl, none, none, rfl⟩ (fun i ys σ H' _ ⟨s4, e4, _⟩ => ⟨s4 _ _ ez, e4⟩) ?_ (fun i ys σ H' hi ⟨_, _, ey, _⟩ => ?_) ?_
    · rintro i2 kk vv ys σ H8 pp hi2 hpp ⟨s12, e12, rfl, u2, v2, rfl⟩
      obtain ⟨z, hz, rfl, rfl⟩ := kvF_at hi2
      rw [show kV (Sum.inl z) = V.int z from rfl]
      have s13 : Same H8 (upd H8 pp (.tup [.int z, .int (pre (beh fs x rest) ((opts fs x).idxOf z))])) := same_new hpp _
      have ht : (opts fs x).take (i2 + 1) = (opts fs x).take i2 ++ [z] := by rw [List.take_add_one, hz]; rfl
      refine ⟨pp, _, rfl, SqT.of upd_same, rfl, _, _, rfl, _, _, rfl, rfl, ?_⟩
      refine ⟨_, rfl, _, rfl, _, _, rfl, rfl, _, rfl, ?_⟩
      rw [ht, List.filter_append]
      refine if2 (fun c => ?_) (fun c => ?_)
      · refine ⟨_, rfl, s13 _ _ e12, same_upd (s12.trans s13) hD2, upd_same, ?_, _, _, rfl⟩
        rw [lz_snoc, List.filter_cons_of_pos (by rw [decide_eq_true c]), List.filter_nil]
      · refine ⟨s12.trans s13, s13 _ _ e12, ?_, _, _, rfl⟩
        rw [List.filter_cons_of_neg (by rw [decide_eq_false c]; decide), List.filter_nil, List.append_nil]
    · subst ey
      rw [lz_len]
      refine small1000 (Nat.le_trans (List.length_filter_le _ _) ?_)
      rw [List.length_take]; omega
    rintro ys σ H8 ⟨s12, e12, rfl, u2, v2, rfl⟩
    rw [kvF_len, List.take_length, hft] at e12
    have nDq : D2 ≠ fq := (ne_of_none ez hD2).symm
    refine ⟨fq, _, o, ep, s12 _ _ ez, hF, ?_⟩
    have eq9 : (upd H8 fq (.dK (kvF (opts fs x) (fun s => pre (beh fs x rest) ((opts fs x).idxOf s))))) fq = some (.dK (kvF (opts fs x) (fun s => pre (beh fs x rest) ((opts fs x).idxOf s)))) := upd_same
    have eD9 : (upd H8 fq (.dK (kvF (opts fs x) (fun s => pre (beh fs x rest) ((opts fs x).idxOf s))))) D2 = some (lz ((opts fs x).take (j + 1))) := by rw [upd_ne nDq]; exact e12
    have s14 : Same H6 (upd H8 fq (.dK (kvF (opts fs x) (fun s => pre (beh fs x rest) ((opts fs x).idxOf s))))) := fun b ob e => by
      rw [upd_ne (ne_of_none e nfq)]
      exact s12 _ _ (kz b ob (ne_of_none e nfq) (s10 _ _ e))
    generalize (upd H8 fq (.dK (kvF (opts fs x) (fun s => pre (beh fs x rest) ((opts fs x).idxOf s))))) = H9 at eq9 eD9 s14 ⊢
    clear s12 e12 kz ez s10 hD2
    have hlast : ((opts fs x).take (j + 1))[((opts fs x).take (j + 1)).length - 1]? = some sj := by
      rw [List.length_take, Nat.min_eq_left (by omega), Nat.add_sub_cancel, List.getElem?_take_of_lt (Nat.lt_succ_self _)]
      exact hoj
    refine ⟨_, rfl, D2, _, _, _, rfl, rfl, SqL.of eD9, atI_neg1 hlast, ?_⟩
    refine ⟨_, rfl, _, rfl, _, rfl, fq, _, rfl, dget_kvF eq9 hsj, _, _, rfl, rfl, ?_⟩
    rw [idx_get (opts_nodup hn x) hoj]
    replace O6 := O6.same s14
    replace es6 := s14 _ _ es6
    replace s9 := s9.trans s14
    clear s14 eD9 eq9 eo6 er6 ed6
    obtain ⟨⟨dx6, eo6⟩, er6, ed6⟩ := id O6
    have hsf := opts_mem.mp hsj
    refine ⟨_, rfl, p, dx6, _, rfl, eo6, tfl_no _ _ nm5 nm6, _, rfl, p, d, r6, fs, _, sj, rfl, O6, hn, by omega, fun s _ => count_le _ s (by omega), hsf.1, fun r8 H10 nr8' kp10 O10 => ?_⟩
    have nr8 : r8 ≠ se := (ne_of_none es6 nr8').symm
    have es10 := kp10 _ _ nsp nsd es6
    have s15 : Same H H10 := fun b o e => kp10 b o (ne_of_none e npH) (ne_of_none e ndH) (s9 _ _ e)
    refine ⟨_, rfl, .inl ⟨rfl, _, SqL.of es10⟩, _, rfl, se, _, _, rfl, rfl, es10, small1000 (by rw [lz_len]; omega), ?_⟩
    have hbj : (beh fs x rest)[j]? = some (cnt (fs.erase sj) rest) := by unfold beh; rw [List.getElem?_map, hoj]; rfl
    have hps := pre_succ hbj
    refine ⟨r8, fs.erase sj, ss ++ [sj], lf - pre (beh fs x rest) j, nr8, same_upd s15 nse, ?_, hn.erase _, by rw [List.length_erase_of_mem hsf.1]; omega, by rw [upd_same, lz_snoc], by simp [hsl], by omega, by omega, fun ss' hs' => ?_, _, _, _, rfl⟩
    · obtain ⟨⟨dx8, eo8⟩, er8, ed8⟩ := O10
      exact ⟨⟨dx8, by rw [upd_ne nsp.symm]; exact eo8⟩, by rw [upd_ne nr8]; exact er8, by rw [upd_ne nsd.symm]; exact ed8⟩
    · have := Num.cons hoj hs'
      rw [show pre (beh fs x rest) j + (lf - pre (beh fs x rest) j) = lf by omega] at this
      have := hN _ this
      rwa [List.append_assoc, List.singleton_append]
  · rintro σ H5 ⟨r5, fs, ss, lf, nr5, s8, O5, hn, hlf, es, hsl, h0, h1, hN, v5, v6, v7, rfl⟩
    rw [lz_len, List.drop_length] at hlf h1 hN
    have hfs : fs = [] := List.length_eq_zero_iff.mp hlf
    subst hfs
    have hc1 : cnt [] [] = 1 := by decide
    have : lf = 0 := by omega
    subst this
    have := hN [] .nil
    rw [List.append_nil] at this
    exact ⟨_, rfl, q se ss H5 s8 nse es this⟩
end
end OS

namespace OS
open PySem L2
abbrev s_factorials : Stmt := top 18
theorem sc_factorials : FnScope ["top", "products", "factor"] ["top"] (defScope s_factorials) := ⟨rfl, rfl, rfl, by decide +kernel, rfl, by decide +kernel, by decide +kernel⟩
abbrev s_exact_counts : Stmt := top 20
theorem sc_exact_counts : FnScope ["chosen", "exact", "last", "done", "k"] ["chosen"] (defScope s_exact_counts) := ⟨rfl, rfl, rfl, by decide +kernel, rfl, by decide +kernel, by decide +kernel⟩
abbrev s_chosen_counts : Stmt := top 19
theorem sc_chosen_counts : FnScope ["shuns", "ways", "rest"] ["shuns"] (defScope s_chosen_counts) := ⟨rfl, rfl, rfl, by decide +kernel, rfl, by decide +kernel, by decide +kernel⟩
theorem sc_chosen_counts_0 : CompSc ["shuns", "ways", "rest"] (defScope s_chosen_counts) ({ kind := PySem.ScopeKind.function, names := [(PySem.Str.ofString ".0", PySem.NameKind.local), (PySem.Str.ofString "tally", PySem.NameKind.local)], isGenerator := false, isCoroutine := false, more := [] : PySem.Scope }) ["tally"] 1 [] :=
  ⟨rfl, by decide +kernel, by decide +kernel, by decide +kernel, by decide +kernel, rfl, by decide +kernel, by decide +kernel, by decide +kernel⟩
theorem sc_chosen_counts_1 : CompSc ["shuns", "ways", "rest"] (defScope s_chosen_counts) ({ kind := PySem.ScopeKind.function, names := [ (PySem.Str.ofString ".0", PySem.NameKind.local), (PySem.Str.ofString "k", PySem.NameKind.local), (PySem.Str.ofString "way", PySem.NameKind.local), (PySem.Str.ofString "len", PySem.NameKind.globalImplicit), (PySem.Str.ofString "rest", PySem.NameKind.free), (PySem.Str.ofString "shuns", PySem.NameKind.free)], isGenerator := false, isCoroutine := false, more := [] : PySem.Scope }) ["k", "way", "rest", "shuns"] 2 [2, 0] :=
  ⟨rfl, by decide +kernel, by decide +kernel, by decide +kernel, by decide +kernel, rfl, by decide +kernel, by decide +kernel, by decide +kernel⟩
abbrev s_counts : Stmt := top 13
theorem sc_counts : FnScope ["shuns", "told"] ["shuns"] (defScope s_counts) := ⟨rfl, rfl, rfl, by decide +kernel, rfl, by decide +kernel, by decide +kernel⟩
abbrev s_seated : Stmt := top 31
theorem sc_seated : FnScope ["shuns", "guest", "movers", "lone", "partners", "seating", "k"] ["shuns"] (defScope s_seated) := ⟨rfl, rfl, rfl, by decide +kernel, rfl, by decide +kernel, by decide +kernel⟩
section
variable {P : Program} {w : World} {K : PySem.W.Frag} {mg : Str → Option Value} {base : Heap}
def spFact : Sp := fun vs H Q _ => ∃ (n : Nat), vs = [.int n] ∧ n ≤ 100 ∧ ∀ (r : Addr) (H' : Hp), Same H H' → H r = none → H' r = some (lz (tab (n + 1) fact)) → Q (.ref r) H'
theorem ok_factorials {f : Addr} {fd : FuncData} (T : Nm mg) (F : Fun K "factorials" "factorials" s_factorials f fd) : FnOk P w K mg base CX0 1 f fd ["top"] spFact := by
  refine F.ok sc_factorials (fun vs H Q E h => ?_) (fun cdv A outer s H vs Q E hr h => ?_)
  · obtain ⟨n, rfl, _⟩ := h
    rfl
  obtain ⟨n, rfl, hn, q⟩ := h
  refine ⟨_, (pss_of (l := [_, _, _]) rfl (pss_cons (ps_set (i := 1) sc_factorials.nd rfl (Or.inl rfl) (pe_lst (pa_cons pe_int pa_nil)))
      (pss_cons (ps_for PassesOwn.never rfl (pi_range2 rfl T.n_range (pa_cons pe_int (pa_cons (pe_op op_add (pv 0) pe_int) pa_nil))) (pg_name (i := 2) sc_factorials.nd rfl (Or.inl rfl)) (pss_one (ps_expr (pe_bm PySem.F.plainAttrs_list PySem.F.slot_list_append PySem.F.type_list_append mt_append (pv 1) (pa_cons (pe_op op_mul (pe_ix ix_list (pv 1) (pe_un un_neg pe_int) (fun _ _ => rfl)) (pv 2)) pa_nil)))))
      (pss_one (ps_ret (pv 1)))))), ?_⟩
  refine ⟨(by show 1 ≤ sizeLine; decide), fun p hp => ?_⟩
  refine ⟨_, rfl, _, _, rfl, rfl, 1, (n : Int) + 1, rfl, ⟨by decide, by decide, by omega, by omega⟩, ?_⟩
  refine for_range (lo := 1) (n := ((n : Int) + 1 - 1).toNat) (fun i σ H' => Same H H' ∧ H' p = some (lz (tab (i + 1) fact)) ∧ ∃ v, σ = [some (.int n), some (.ref p), v]) ⟨same_new hp _, upd_same, none, rfl⟩ ?_ ?_
  · rintro i σ H' hi ⟨s1, e1, v, rfl⟩
    refine ⟨_, rfl, .inl ⟨rfl, _, SqL.of e1⟩, _, rfl, _, rfl, p, _, _, _, rfl, rfl, SqL.of e1, atI_neg1 (tab_last i fact), _, rfl, _, _, rfl, rfl, .inr ⟨by omega, by omega⟩, p, _, _, rfl, rfl, e1, ?_, ?_⟩
    · rw [lz_len, tab_length]
      exact small1000 (by omega)
    · refine ⟨same_upd s1 hp, ?_, _, rfl⟩
      rw [upd_same, lz_snoc, tab_succ (i + 1)]
      congr 5
      show fact i * (1 + (i : Int)) = fact (i + 1)
      rw [fact, Int.mul_comm, Int.add_comm]
  · rintro σ H' ⟨s1, e1, v, rfl⟩
    rw [show ((n : Int) + 1 - 1).toNat = n by omega] at e1
    exact ⟨_, rfl, q p H' s1 hp e1⟩
def spExact : Sp := fun vs H Q _ => ∃ (a : Addr) (m : Nat) (c : Nat → Int), vs = [.ref a] ∧ H a = some (lz (tab m c)) ∧ 0 < m ∧ m ≤ 100 ∧
  ∀ (r : Addr) (H' : Hp), Same H H' → H r = none → H' r = some (lz (tab m (hit m c))) → Q (.ref r) H'
theorem ok_exact_counts {f : Addr} {fd : FuncData} (T : Nm mg) (F : Fun K "exact_counts" "exact_counts" s_exact_counts f fd) : FnOk P w K mg base CX0 1 f fd ["chosen"] spExact := by
  refine F.ok sc_exact_counts (fun vs H Q E h => ?_) (fun cdv A outer s H vs Q E hr h => ?_)
  · obtain ⟨a, m, c, rfl, _⟩ := h
    rfl
  obtain ⟨a, m, c, rfl, ha, hm, hl, q⟩ := h
  refine ⟨_, (pss_of (l := [_, _, _, _]) rfl (pss_cons (ps_set (i := 1) sc_exact_counts.nd rfl (Or.inl rfl) (pe_callTy call_list_of rfl T.n_list b_list (pa_cons (pv 0) pa_nil)))
      (pss_cons (ps_set (i := 2) sc_exact_counts.nd rfl (Or.inl rfl) (pe_op op_sub (pe_callB call_len_seq rfl T.n_len b_len (pa_cons (pv 1) pa_nil)) pe_int))
      (pss_cons (ps_for PassesOwn.never rfl (pi_range1 rfl T.n_range (pa_cons (pv 2) pa_nil)) (pg_name (i := 3) sc_exact_counts.nd rfl (Or.inl rfl)) (pss_one (ps_for PassesOwn.never rfl (pi_down rfl T.n_range (pa_cons (pe_op op_sub (pv 2) pe_int) (pa_cons (pe_op op_sub (pv 3) pe_int) (pa_cons (pe_un un_neg pe_int) pa_nil)))) (pg_name (i := 4) sc_exact_counts.nd rfl (Or.inl rfl)) (pss_one (ps_augS (pv 1) (pv 4) get_list (pe_ix ix_list (pv 1) (pe_op op_add (pv 4) pe_int) (fun _ _ => rfl)) ip_sub set_list)))))
      (pss_one (ps_ret (pv 1))))))), ?_⟩
  refine ⟨_, rfl, a, _, rfl, .inl (SqL.of ha), fun p hp => ?_⟩
  have e0 : (upd H p (lz (tab m c))) p = some (lz (tab m c)) := upd_same
  refine ⟨_, rfl, p, _, rfl, .inl (SqL.of e0), _, _, rfl, rfl, ?_⟩
  have hlast : (((tab m c).map V.int).length : Int) - 1 = ((m - 1 : Nat) : Int) := by rw [lz_len, tab_length]; omega
  dsimp only
  rw [hlast]
  refine ⟨_, rfl, _, rfl, by omega, by omega, ?_⟩
  refine for_range (lo := 0) (n := (((m - 1 : Nat) : Int)).toNat) (fun d σ H' => Same H H' ∧ H' p = some (lz (tab m (ex m c d))) ∧ ∃ v u, σ = [some (.ref a), some (.ref p), some (.int ((m - 1 : Nat) : Int)), v, u]) ⟨same_new hp _, e0, none, none, rfl⟩ ?_ ?_
  · rintro d σ H' hd ⟨s1, e1, v, u, rfl⟩
    have hd' : d < m - 1 := by omega
    refine ⟨_, rfl, _, _, rfl, rfl, _, rfl, _, _, rfl, rfl, _, rfl, _, _, rfl, ⟨by omega, by omega, by omega, by omega⟩, ?_⟩
    refine for_down (lo := ((m - 1 : Nat) : Int) - 1) (n := (((m - 1 : Nat) : Int) - 1 - ((0 : Int) + (d : Int) - 1)).toNat) (fun j σ H2 => Same H H2 ∧ H2 p = some (lz (tab m (exF m c d j))) ∧ ∃ u, σ = [some (.ref a), some (.ref p), some (.int ((m - 1 : Nat) : Int)), some (.int ((0 : Int) + (d : Int))), u]) ⟨s1, by rw [exF_zero m c d (by omega)]; exact e1, u, rfl⟩ ?_ ?_
    · rintro j σ H2 hj ⟨s2, e3, u', rfl⟩
      have hj' : j < m - 1 - d := by omega
      refine ⟨_, rfl, _, rfl, p, _, _, _, rfl, rfl, SqL.of e3, atI_of (m - 2 - j) (by omega) (lz_get (tab_get _ _ _ (by omega))), _, rfl, _, rfl, _, _, rfl, rfl, p, _, _, _, rfl, rfl, SqL.of e3, atI_of (m - 1 - j) (by omega) (lz_get (tab_get _ _ _ (by omega))), _, _, rfl, rfl, p, _, _, _, rfl, rfl, e3, ixN_of (m - 2 - j) (by omega) (by rw [lz_len, tab_length]; omega), ?_⟩
      refine ⟨same_upd s2 hp, ?_, _, rfl⟩
      rw [upd_same, lz_set, exF_step m c d j hj']
    · rintro σ H2 ⟨s2, e3, u', rfl⟩
      refine ⟨s2, ?_, _, _, rfl⟩
      rw [e3, show (((m - 1 : Nat) : Int) - 1 - ((0 : Int) + (d : Int) - 1)).toNat = m - 1 - d by omega, exF_end m c d (by omega)]
  · rintro σ H' ⟨s1, e1, v, u, rfl⟩
    refine ⟨_, rfl, q p H' s1 hp ?_⟩
    rw [e1, show (((m - 1 : Nat) : Int)).toNat = m - 1 by omega, ex_done m c hm]
def spChosen : Sp := fun vs H Q _ => ∃ (a : Addr) (xs : List Int), vs = [.ref a] ∧ H a = some (lz xs) ∧ xs.length ≤ 63 ∧ (∀ x ∈ xs, -1 ≤ x ∧ x < xs.length) ∧
  ∀ (r : Addr) (H' : Hp), Same H H' → H r = none → H' r = some (lz (tab ((posT (cs xs.length xs)).length + 1) (fun k => pk (posT (cs xs.length xs)).reverse k * fact (xs.length - k)))) → Q (.ref r) H'
theorem ok_chosen_counts {f f1 f2 f3 f4 : Addr} {fd fd1 fd2 fd3 fd4 : FuncData} (T : Nm mg) (F : Fun K "chosen_counts" "chosen_counts" s_chosen_counts f fd)
    (x_shunner_tallies : Fx K mg "shunner_tallies" ["shuns"] s_shunner_tallies f1 fd1) (x_ways_to_choose : Fx K mg "ways_to_choose" ["tallies"] s_ways_to_choose f2 fd2) (x_factorials : Fx K mg "factorials" ["top"] s_factorials f3 fd3)
    (x_ways_with_seat : Fx K mg "ways_with_seat" ["ways", "tally"] s_ways_with_seat f4 fd4) :
    FnOk P w K mg base CX0 3 f fd ["shuns"] spChosen := by
  have G_shunner_tallies : FnOk P w K mg base CX0 2 f1 fd1 ["shuns"] spTallies := (ok_shunner_tallies T x_shunner_tallies.F).mono (by decide)
  have G_ways_to_choose : FnOk P w K mg base CX0 2 f2 fd2 ["tallies"] spWays := ok_ways_to_choose T x_ways_to_choose.F x_ways_with_seat
  have G_factorials : FnOk P w K mg base CX0 2 f3 fd3 ["top"] spFact := (ok_factorials T x_factorials.F).mono (by decide)
  refine F.ok sc_chosen_counts (fun vs H Q E h => ?_) (fun cdv A outer s H vs Q E hr h => ?_)
  · obtain ⟨a, xs, rfl, _⟩ := h
    rfl
  obtain ⟨a, xs, rfl, ha, hl, hv, q⟩ := h
  refine ⟨_, (pss_of (l := [_, _, _]) rfl (pss_cons (ps_set (i := 1) sc_chosen_counts.nd rfl (Or.inl rfl) (pe_call G_ways_to_choose hr rfl x_ways_to_choose.m x_ways_to_choose.F.kp x_ways_to_choose.b .nil pass0 (pa_cons (pe_thaw (pe_comp rfl sc_chosen_counts_0 (pi_vals (pe_bm0 PySem.F.plainAttrs_dict PySem.F.slot_dict_values PySem.F.type_dict_values mt_values (pe_call G_shunner_tallies hr rfl x_shunner_tallies.m x_shunner_tallies.F.kp x_shunner_tallies.b .nil pass0 (pa_cons (pv 0) pa_nil)))) (fun _ _ _ => (pg_name (i := 0) sc_chosen_counts_0.nd rfl (Or.inl rfl))) (fun _ _ _ => pif_one (pt_cmpR op_gt (pv 0) pe_int (nomark _))) (fun _ _ _ => (pv 0)))) pa_nil)))
      (pss_cons (ps_set (i := 2) sc_chosen_counts.nd rfl (Or.inr rfl) (pe_call G_factorials hr rfl x_factorials.m x_factorials.F.kp x_factorials.b .nil pass0 (pa_cons (pe_callB call_len_seq rfl T.n_len b_len (pa_cons (pv 0) pa_nil)) pa_nil)))
      (pss_one (ps_ret (pe_comp rfl sc_chosen_counts_1 (pi_enum rfl T.n_enumerate (pa_cons (pv 1) pa_nil)) (fun _ _ _ => (pg_tup rfl (pgs_cons (pg_name (i := 0) sc_chosen_counts_1.nd rfl (Or.inl rfl)) (pgs_cons (pg_name (i := 1) sc_chosen_counts_1.nd rfl (Or.inl rfl)) pgs_nil)))) (fun _ _ _ => pif_nil) (fun _ _ _ => (pe_op op_mul (pv 1) (pe_ix ix_list (pv 2) (pe_op op_sub (pe_callB call_len_seq rfl T.n_len b_len (pa_cons (pv 3) pa_nil)) (pv 0)) (fun _ _ => rfl)))))))))), ?_⟩
  have hcl := cs_length xs.length xs
  have tl : (posT (cs xs.length xs)).length ≤ xs.length := by have := posT_length (cs xs.length xs); omega
  have cn := cs_nonneg xs.length xs
  have tn : ∀ t ∈ posT (cs xs.length xs), 0 ≤ t := fun t ht => cn t (List.mem_filter.mp ht).1
  have tsum : (posT (cs xs.length xs)).sum ≤ xs.length := by rw [posT_sum cn]; exact cs_sum_le _ _
  refine ⟨_, rfl, a, xs, rfl, ha, hl, hv, fun d H1 s1 nd e1 => ?_⟩
  refine ⟨.inr (.inr (.inl ⟨rfl, .inl ⟨_, e1⟩⟩)), d, _, rfl, rfl, e1, fun u hu' => ?_⟩
  have n1 : u ≠ d := (ne_of_none e1 hu').symm
  have s1u : Same H1 (upd H1 u (.ext fun h => h.IsValuesView u d)) := same_new hu' _
  refine ⟨u, d, _, rfl, upd_same, s1u _ _ e1, fun o ep hF D hD _ _ => ?_⟩
  have ha2 : (upd (upd H1 u (.ext fun h => h.IsValuesView u d)) d (fzO d o)) a = some (lz xs) := by
    rw [upd_ne (ne_of_none ha nd)]; exact s1u _ _ (s1 _ _ ha)
  have s2 : ∀ b ob, H b = some ob → (upd (upd H1 u (.ext fun h => h.IsValuesView u d)) d (fzO d o)) b = some ob := fun b ob e => by
    rw [upd_ne (ne_of_none e nd)]; exact s1u _ _ (s1 _ _ e)
  have e2 : (upd (upd H1 u (.ext fun h => h.IsValuesView u d)) d (fzO d o)) d = some (fzO d o) := upd_same
  generalize (upd (upd H1 u (.ext fun h => h.IsValuesView u d)) d (fzO d o)) = H2 at hD s2 e2 ha2 ⊢
  refine comp_vals (d := d) (o := o) (kvs := kvF (rngI xs.length) (fun s => (xs.count s : Int))) (fun i ys σ H' => Same H2 H' ∧ H' D = some (.lst ys) ∧ ys = (posT ((cs xs.length xs).take i)).map V.int ∧ ∃ v, σ = [v])
    ⟨same_new hD _, upd_same, rfl, none, rfl⟩ (fun i ys σ H' _ ⟨s4, e4, _⟩ => ⟨s4 _ _ e2, e4⟩) ?_ ?_
  · rintro i k v ys σ H' hi ⟨s4, e4, rfl, v', rfl⟩
    obtain ⟨z, hz, rfl, rfl⟩ := kvF_at hi
    have hz2 : (cs xs.length xs)[i]? = some ((xs.count z : Nat) : Int) := by rw [← cs_map, List.getElem?_map, hz]; rfl
    have hil := (List.getElem?_eq_some_iff.mp hz2).1
    have hpl : (posT ((cs xs.length xs).take i)).length ≤ i := Nat.le_trans (posT_length _) (by rw [List.length_take]; omega)
    have ht : (cs xs.length xs).take (i + 1) = (cs xs.length xs).take i ++ [((xs.count z : Nat) : Int)] := by rw [List.take_add_one, hz2]; rfl
    refine ⟨small1000 (by rw [lz_len]; omega), ?_⟩
    refine ⟨_, rfl, _, _, rfl, rfl, _, rfl, ?_⟩
    rw [ht]
    unfold posT
    rw [List.filter_append]
    refine if2 (fun c => ?_) (fun c => ?_)
    · refine ⟨_, rfl, e4, same_upd s4 hD, upd_same, ?_, _, rfl⟩
      rw [lz_snoc, List.filter_cons_of_pos (by rw [decide_eq_true c]), List.filter_nil]
    · refine ⟨s4, e4, ?_, _, rfl⟩
      rw [List.filter_cons_of_neg (by rw [decide_eq_false c]; decide), List.filter_nil, List.append_nil]
  rintro ys σ H3 ⟨s4, e4, rfl, v', rfl⟩
  rw [kvF_len, rngI_length, List.take_of_length_le (by rw [hcl]; exact Nat.le_refl _)] at e4
  refine ⟨d, _, o, ep, s4 _ _ e2, hF, ?_⟩
  have nDd : D ≠ d := (ne_of_none e2 hD).symm
  have s5 : Same H (upd H3 d (.dK (kvF (rngI xs.length) (fun s => (xs.count s : Int))))) := fun b ob e => by rw [upd_ne (ne_of_none e nd)]; exact s4 _ _ (s2 _ _ e)
  have e5 : (upd H3 d (.dK (kvF (rngI xs.length) (fun s => (xs.count s : Int))))) D = some (lz (posT (cs xs.length xs))) := by rw [upd_ne nDd]; exact e4
  have nDH : H D = none := by
    cases eH : H D with
    | none => rfl
    | some ob => have := s2 _ _ eH; rw [hD] at this; cases this
  generalize (upd H3 d (.dK (kvF (rngI xs.length) (fun s => (xs.count s : Int))))) = H4 at s5 e5 ⊢
  generalize hts : posT (cs xs.length xs) = ts at *
  refine ⟨D, ts, rfl, e5, by omega, fun t ht => ?_, fun r2 H5 s6 n6 e6 => ?_⟩
  · have := tn t ht
    have := le_sum tn ht
    omega
  refine ⟨_, rfl, a, _, rfl, .inl (SqL.of (s6 _ _ (s5 _ _ ha))), xs.length, by rw [lz_len]; rfl, by omega, fun r3 H6 s7 n7 e7 => ?_⟩
  have e6' := s7 _ _ e6
  have ha' : H6 a = some (lz xs) := s7 _ _ (s6 _ _ (s5 _ _ ha))
  refine ⟨_, rfl, r2, _, rfl, SqL.of e6', fun D2 hD2 _ _ => ?_⟩
  refine comp_enum (a := r2) (xs := (tab (ts.length + 1) (pk ts.reverse)).map V.int) (fun i ys σ H' => Same H6 H' ∧ H' D2 = some (.lst ys) ∧ ys = (tab i (fun k => pk ts.reverse k * fact (xs.length - k))).map V.int ∧ ∃ u v, σ = [u, v, some (.ref r3), some (.ref a)])
    ⟨same_new hD2 _, upd_same, rfl, none, none, rfl⟩ (fun i ys σ H' _ ⟨s4, e4, _⟩ => ⟨SqL.of (s4 _ _ e6'), e4⟩) ?_ (fun i ys σ H' hi ⟨_, _, ey, _⟩ => ?_) ?_
  · rintro i x ys σ H' pp hi hpp ⟨s8, e8, rfl, u, v, rfl⟩
    obtain ⟨z, hz, rfl⟩ := lz_at hi
    have hil : i < ts.length + 1 := by
      have := (List.getElem?_eq_some_iff.mp hz).1
      rwa [tab_length] at this
    rw [tab_get _ _ _ hil] at hz
    have hz' := Option.some.inj hz
    subst hz'
    have s9 : Same H' (upd H' pp (.tup [.int i, .int (pk ts.reverse i)])) := same_new hpp _
    refine ⟨small1000 (by rw [lz_len, tab_length]; omega), pp, _, rfl, SqT.of upd_same, rfl, _, _, rfl, _, _, rfl, rfl, ?_⟩
    have hsm := pk_small (ts := ts.reverse) (fun t ht => tn t (List.mem_reverse.mp ht)) (by rw [List.sum_reverse]; omega) i
    refine ⟨_, rfl, _, rfl, _, rfl, a, _, rfl, .inl (SqL.of (s9 _ _ (s8 _ _ ha'))), _, rfl, _, _, rfl, rfl, r3, _, _, _, rfl, rfl, SqL.of (s9 _ _ (s8 _ _ e7)), atI_of (xs.length - i) (by rw [lz_len]; omega) (lz_get (tab_get _ _ _ (by omega))), _, _, rfl, rfl, .inl hsm, s9 _ _ e8, ?_⟩
    refine ⟨?_, upd_same, ?_, _, _, rfl⟩
    · exact same_upd (s8.trans s9) hD2
    · rw [lz_snoc, tab_succ i]
  · subst ey
    rw [lz_len, tab_length] at hi ⊢
    exact small1000 (by omega)
  · rintro ys σ H' ⟨s8, e8, rfl, u, v, rfl⟩
    rw [lz_len, tab_length] at e8
    exact q D2 H' (s5.trans (s6.trans (s7.trans s8))) (s5.free (s6.free (s7.free hD2))) e8
def spCounts : Sp := fun vs H Q _ => ∃ (a : Addr) (xs : List Int), vs = [.ref a] ∧ H a = some (lz xs) ∧ xs.length ≤ 63 ∧ (∀ x ∈ xs, -1 ≤ x ∧ x < xs.length) ∧
  ∀ (r : Addr) (H' : Hp), Same H H' → H r = none → H' r = some (lz (due xs.length xs)) → Q (.ref r) H'
theorem ok_counts {f f1 f2 f3 f4 f5 f6 f7 f8 f9 : Addr} {fd fd1 fd2 fd3 fd4 fd5 fd6 fd7 fd8 fd9 : FuncData} (T : Nm mg) (F : Fun K "counts" "counts" s_counts f fd)
    (x_shunner_tallies : Fx K mg "shunner_tallies" ["shuns"] s_shunner_tallies f1 fd1) (x_ways_to_choose : Fx K mg "ways_to_choose" ["tallies"] s_ways_to_choose f2 fd2) (x_factorials : Fx K mg "factorials" ["top"] s_factorials f3 fd3)
    (x_chosen_counts : Fx K mg "chosen_counts" ["shuns"] s_chosen_counts f4 fd4) (x_exact_counts : Fx K mg "exact_counts" ["chosen"] s_exact_counts f5 fd5) (x_refuse_bad_shuns : Fx K mg "refuse_bad_shuns" ["shuns"] s_refuse_bad_shuns f6 fd6)
    (x_is_whole_number : Fx K mg "is_whole_number" ["value"] s_is_whole_number f7 fd7) (x_are_shuns : Fx K mg "are_shuns" ["value"] s_are_shuns f8 fd8) (x_ways_with_seat : Fx K mg "ways_with_seat" ["ways", "tally"] s_ways_with_seat f9 fd9) :
    FnOk P w K mg base CX0 4 f fd ["shuns"] spCounts := by
  have G_chosen_counts : FnOk P w K mg base CX0 3 f4 fd4 ["shuns"] spChosen := ok_chosen_counts T x_chosen_counts.F x_shunner_tallies x_ways_to_choose x_factorials x_ways_with_seat
  have G_exact_counts : FnOk P w K mg base CX0 3 f5 fd5 ["chosen"] spExact := (ok_exact_counts T x_exact_counts.F).mono (by decide)
  have G_refuse_bad_shuns : FnOk P w K mg base CX0 3 f6 fd6 ["shuns"] spRefuse := ok_refuse_bad_shuns T x_refuse_bad_shuns.F x_are_shuns x_is_whole_number
  refine F.ok sc_counts (fun vs H Q E h => ?_) (fun cdv A outer s H vs Q E hr h => ?_)
  · obtain ⟨a, xs, rfl, _⟩ := h
    rfl
  obtain ⟨a, xs, rfl, ha, hl, hv, q⟩ := h
  refine ⟨_, (pss_of (l := [_, _, _]) rfl (pss_cons (ps_expr (pe_call G_refuse_bad_shuns hr rfl x_refuse_bad_shuns.m x_refuse_bad_shuns.F.kp x_refuse_bad_shuns.b .nil pass0 (pa_cons (pv 0) pa_nil)))
      (pss_cons (ps_set (i := 1) sc_counts.nd rfl (Or.inl rfl) (pe_call G_exact_counts hr rfl x_exact_counts.m x_exact_counts.F.kp x_exact_counts.b .nil pass0 (pa_cons (pe_call G_chosen_counts hr rfl x_chosen_counts.m x_chosen_counts.F.kp x_chosen_counts.b .nil pass0 (pa_cons (pv 0) pa_nil)) pa_nil)))
      (pss_one (ps_ret (pe_op op_cat (pv 1) (pe_op op_rep (pe_lst (pa_cons pe_int pa_nil)) (pe_op op_sub (pe_op op_add (pe_callB call_len_seq rfl T.n_len b_len (pa_cons (pv 0) pa_nil)) pe_int) (pe_callB call_len_seq rfl T.n_len b_len (pa_cons (pv 1) pa_nil)))))))))), ?_⟩
  have tl : (posT (cs xs.length xs)).length ≤ xs.length := by have := posT_length (cs xs.length xs); rw [cs_length] at this; omega
  refine ⟨_, rfl, a, xs, rfl, ha, by omega, hv, fun H0 s0 => ?_⟩
  refine ⟨_, rfl, a, xs, rfl, s0 _ _ ha, hl, hv, fun r1 H1 s1 n1 e1 => ?_⟩
  replace s1 := s0.trans s1
  replace n1 := s0.free n1
  refine ⟨r1, _, _, rfl, e1, Nat.succ_pos _, by omega, fun r2 H2 s2 n2 e2 => ?_⟩
  refine ⟨_, rfl, (by show 1 ≤ sizeLine; decide), fun p hp => ?_⟩
  have s3 : Same H2 (upd H2 p (.lst [.int 0])) := same_new hp _
  refine ⟨_, rfl, a, _, rfl, .inl (SqL.of (s3 _ _ (s2 _ _ (s1 _ _ ha)))), _, _, rfl, rfl, _, rfl, r2, _, rfl, .inl (SqL.of (s3 _ _ e2)), _, _, rfl, rfl, p, _, _, rfl, rfl, upd_same, ?_⟩
  rw [lz_len, lz_len, tab_length]
  generalize hts : posT (cs xs.length xs) = ts at *
  refine ⟨by omega, by omega, ?_, fun p2 hp2 => ?_⟩
  · rw [List.length_singleton, Nat.one_mul]
    exact small (by omega)
  have s4 : Same H2 (upd (upd H2 p (.lst [.int 0])) p2 (.lst (List.replicate ((xs.length : Int) + 1 - ((ts.length + 1 : Nat) : Int)).toNat [V.int 0]).flatten)) := s3.trans (same_new hp2 _)
  refine ⟨r2, p2, _, _, rfl, rfl, s4 _ _ e2, upd_same, ?_, fun p3 hp3 => ?_⟩
  · rw [lz_len, tab_length, len_rep]
    exact small (by rw [List.length_singleton]; omega)
  · refine q p3 _ (s1.trans (s2.trans (s4.trans (same_new hp3 _)))) (s1.free (s2.free (s4.free hp3))) ?_
    rw [upd_same, ← told_due2 xs.length xs ts tl (fun j => by rw [← hts, h_pos])]
    unfold lz
    rw [List.map_append]
    congr 3
    rw [show ((xs.length : Int) + 1 - ((ts.length + 1 : Nat) : Int)).toNat = xs.length - ts.length by omega]
    simp
end
end OS

namespace OS
open PySem L2
abbrev s__law_cell_at : Stmt := top 33
theorem sc__law_cell_at : FnScope ["_law_script", "_law_k"] ["_law_script", "_law_k"] (defScope s__law_cell_at) := ⟨rfl, rfl, rfl, by decide +kernel, rfl, by decide +kernel, by decide +kernel⟩
abbrev s__law_draw : Stmt := top 34
theorem sc__law_draw : FnScope ["_law_cell", "_law_k", "_law_many", "_law_primes"] ["_law_cell", "_law_k", "_law_many"] (defScope s__law_draw) := ⟨rfl, rfl, rfl, by decide +kernel, rfl, by decide +kernel, by decide +kernel⟩
abbrev s__law_whole : Stmt := top 39
theorem sc__law_whole : FnScope ["_law_number"] ["_law_number"] (defScope s__law_whole) := ⟨rfl, rfl, rfl, by decide +kernel, rfl, by decide +kernel, by decide +kernel⟩
abbrev s__law_shuns : Stmt := top 35
theorem sc__law_shuns : FnScope ["_law_script", "_law_kind", "_law_size", "_law_found", "_law_one"] ["_law_script"] (defScope s__law_shuns) := ⟨rfl, rfl, rfl, by decide +kernel, rfl, by decide +kernel, by decide +kernel⟩
theorem sc__law_shuns_0 : CompSc ["_law_script", "_law_kind", "_law_size", "_law_found", "_law_one"] (defScope s__law_shuns) ({ kind := PySem.ScopeKind.function, names := [ (PySem.Str.ofString ".0", PySem.NameKind.local), (PySem.Str.ofString "_law_cell", PySem.NameKind.local), (PySem.Str.ofString "_law_size", PySem.NameKind.free)], isGenerator := false, isCoroutine := false, more := [] : PySem.Scope }) ["_law_cell", "_law_size"] 1 [2] :=
  ⟨rfl, by decide +kernel, by decide +kernel, by decide +kernel, by decide +kernel, rfl, by decide +kernel, by decide +kernel, by decide +kernel⟩
theorem sc__law_shuns_1 : CompSc ["_law_script", "_law_kind", "_law_size", "_law_found", "_law_one"] (defScope s__law_shuns) ({ kind := PySem.ScopeKind.function, names := [ (PySem.Str.ofString ".0", PySem.NameKind.local), (PySem.Str.ofString "_law_k", PySem.NameKind.local), (PySem.Str.ofString "_law_draw", PySem.NameKind.globalImplicit), (PySem.Str.ofString "_law_cell_at", PySem.NameKind.globalImplicit), (PySem.Str.ofString "_law_script", PySem.NameKind.free), (PySem.Str.ofString "_law_size", PySem.NameKind.free)], isGenerator := false, isCoroutine := false, more := [] : PySem.Scope }) ["_law_k", "_law_script", "_law_size"] 1 [0, 2] :=
  ⟨rfl, by decide +kernel, by decide +kernel, by decide +kernel, by decide +kernel, rfl, by decide +kernel, by decide +kernel, by decide +kernel⟩
theorem sc__law_shuns_2 : CompSc ["_law_script", "_law_kind", "_law_size", "_law_found", "_law_one"] (defScope s__law_shuns) ({ kind := PySem.ScopeKind.function, names := [ (PySem.Str.ofString ".0", PySem.NameKind.local), (PySem.Str.ofString "_law_seat", PySem.NameKind.local), (PySem.Str.ofString "_law_size", PySem.NameKind.free)], isGenerator := false, isCoroutine := false, more := [] : PySem.Scope }) ["_law_seat", "_law_size"] 1 [2] :=
  ⟨rfl, by decide +kernel, by decide +kernel, by decide +kernel, by decide +kernel, rfl, by decide +kernel, by decide +kernel, by decide +kernel⟩
theorem sc__law_shuns_3 : CompSc ["_law_script", "_law_kind", "_law_size", "_law_found", "_law_one"] (defScope s__law_shuns) ({ kind := PySem.ScopeKind.function, names := [ (PySem.Str.ofString ".0", PySem.NameKind.local), (PySem.Str.ofString "_law_cell", PySem.NameKind.local), (PySem.Str.ofString "_law_kind", PySem.NameKind.free), (PySem.Str.ofString "_law_one", PySem.NameKind.free), (PySem.Str.ofString "_law_size", PySem.NameKind.free)], isGenerator := false, isCoroutine := false, more := [] : PySem.Scope }) ["_law_cell", "_law_kind", "_law_one", "_law_size"] 1 [1, 4, 2] :=
  ⟨rfl, by decide +kernel, by decide +kernel, by decide +kernel, by decide +kernel, rfl, by decide +kernel, by decide +kernel, by decide +kernel⟩
theorem sc__law_shuns_4 : CompSc ["_law_script", "_law_kind", "_law_size", "_law_found", "_law_one"] (defScope s__law_shuns) ({ kind := PySem.ScopeKind.function, names := [ (PySem.Str.ofString ".0", PySem.NameKind.local), (PySem.Str.ofString "_law_k", PySem.NameKind.local), (PySem.Str.ofString "_law_seat", PySem.NameKind.local), (PySem.Str.ofString "_law_script", PySem.NameKind.free)], isGenerator := false, isCoroutine := false, more := [] : PySem.Scope }) ["_law_k", "_law_seat", "_law_script"] 2 [0] :=
  ⟨rfl, by decide +kernel, by decide +kernel, by decide +kernel, by decide +kernel, rfl, by decide +kernel, by decide +kernel, by decide +kernel⟩
abbrev s__law_counts : Stmt := top 36
theorem sc__law_counts : FnScope ["_law_shuns_here", "_law_size", "_law_picks", "_law_seat", "_law_many", "_law_orders", "_law_k", "_law_left", "_law_found", "_law_rest", "_law_low", "_law_part"] ["_law_shuns_here"] (defScope s__law_counts) := ⟨rfl, rfl, rfl, by decide +kernel, rfl, by decide +kernel, by decide +kernel⟩
theorem sc__law_counts_0 : CompSc ["_law_shuns_here", "_law_size", "_law_picks", "_law_seat", "_law_many", "_law_orders", "_law_k", "_law_left", "_law_found", "_law_rest", "_law_low", "_law_part"] (defScope s__law_counts) ({ kind := PySem.ScopeKind.function, names := [ (PySem.Str.ofString ".0", PySem.NameKind.local), (PySem.Str.ofString "_law_one", PySem.NameKind.local), (PySem.Str.ofString "_law_other", PySem.NameKind.local), (PySem.Str.ofString "_law_many", PySem.NameKind.free)], isGenerator := false, isCoroutine := false, more := [] : PySem.Scope }) ["_law_one", "_law_other", "_law_many"] 2 [4] :=
  ⟨rfl, by decide +kernel, by decide +kernel, by decide +kernel, by decide +kernel, rfl, by decide +kernel, by decide +kernel, by decide +kernel⟩
theorem sc__law_counts_1 : CompSc ["_law_shuns_here", "_law_size", "_law_picks", "_law_seat", "_law_many", "_law_orders", "_law_k", "_law_left", "_law_found", "_law_rest", "_law_low", "_law_part"] (defScope s__law_counts) ({ kind := PySem.ScopeKind.function, names := [ (PySem.Str.ofString ".0", PySem.NameKind.local), (PySem.Str.ofString "_law_k", PySem.NameKind.local), (PySem.Str.ofString "_law_orders", PySem.NameKind.free), (PySem.Str.ofString "_law_picks", PySem.NameKind.free), (PySem.Str.ofString "_law_size", PySem.NameKind.free)], isGenerator := false, isCoroutine := false, more := [] : PySem.Scope }) ["_law_k", "_law_orders", "_law_picks", "_law_size"] 1 [5, 2, 1] :=
  ⟨rfl, by decide +kernel, by decide +kernel, by decide +kernel, by decide +kernel, rfl, by decide +kernel, by decide +kernel, by decide +kernel⟩
abbrev s__law_off : Stmt := top 37
theorem sc__law_off : FnScope ["_law_shuns_here", "_law_found"] ["_law_shuns_here", "_law_found"] (defScope s__law_off) := ⟨rfl, rfl, rfl, by decide +kernel, rfl, by decide +kernel, by decide +kernel⟩
theorem sc__law_off_0 : CompSc ["_law_shuns_here", "_law_found"] (defScope s__law_off) ({ kind := PySem.ScopeKind.function, names := [ (PySem.Str.ofString ".0", PySem.NameKind.local), (PySem.Str.ofString "_law_seat", PySem.NameKind.local), (PySem.Str.ofString "_law_whole", PySem.NameKind.globalImplicit)], isGenerator := false, isCoroutine := false, more := [] : PySem.Scope }) ["_law_seat"] 1 [] :=
  ⟨rfl, by decide +kernel, by decide +kernel, by decide +kernel, by decide +kernel, rfl, by decide +kernel, by decide +kernel, by decide +kernel⟩
theorem sc__law_off_1 : CompSc ["_law_shuns_here", "_law_found"] (defScope s__law_off) ({ kind := PySem.ScopeKind.function, names := [ (PySem.Str.ofString ".0", PySem.NameKind.local), (PySem.Str.ofString "_law_seat", PySem.NameKind.local), (PySem.Str.ofString "_law_other", PySem.NameKind.local)], isGenerator := false, isCoroutine := false, more := [] : PySem.Scope }) ["_law_seat", "_law_other"] 2 [] :=
  ⟨rfl, by decide +kernel, by decide +kernel, by decide +kernel, by decide +kernel, rfl, by decide +kernel, by decide +kernel, by decide +kernel⟩
abbrev s__law_kinds : Stmt := top 40
theorem sc__law_kinds : FnScope ["_law_error", "_law_found"] ["_law_error"] (defScope s__law_kinds) := ⟨rfl, rfl, rfl, by decide +kernel, rfl, by decide +kernel, by decide +kernel⟩
abbrev s__law_with_shuns : Stmt := top 41
theorem sc__law_with_shuns : FnScope ["_law_door", "_law_shuns_here"] ["_law_door", "_law_shuns_here"] (defScope s__law_with_shuns) := ⟨rfl, rfl, rfl, by decide +kernel, rfl, by decide +kernel, by decide +kernel⟩
abbrev s__law_told : Stmt := top 42
theorem sc__law_told : FnScope ["_law_ask", "_law_one", "_law_other", "_law_error"] ["_law_ask", "_law_one", "_law_other"] (defScope s__law_told) := ⟨rfl, rfl, rfl, by decide +kernel, rfl, by decide +kernel, by decide +kernel⟩
abbrev s__law_seatings_right : Stmt := top 43
theorem sc__law_seatings_right : FnScope ["_law_shuns_here", "_law_due", "_law_far_here", "_law_size", "_law_order", "_law_wrong", "_law_guest"] ["_law_shuns_here", "_law_due", "_law_far_here"] (defScope s__law_seatings_right) := ⟨rfl, rfl, rfl, by decide +kernel, rfl, by decide +kernel, by decide +kernel⟩
theorem sc__law_seatings_right_0 : CompSc ["_law_shuns_here", "_law_due", "_law_far_here", "_law_size", "_law_order", "_law_wrong", "_law_guest"] (defScope s__law_seatings_right) ({ kind := PySem.ScopeKind.function, names := [ (PySem.Str.ofString ".0", PySem.NameKind.local), (PySem.Str.ofString "_law_seat", PySem.NameKind.local), (PySem.Str.ofString "_law_guest", PySem.NameKind.free), (PySem.Str.ofString "_law_shuns_here", PySem.NameKind.free)], isGenerator := false, isCoroutine := false, more := [] : PySem.Scope }) ["_law_seat", "_law_guest", "_law_shuns_here"] 1 [6, 0] :=
  ⟨rfl, by decide +kernel, by decide +kernel, by decide +kernel, by decide +kernel, rfl, by decide +kernel, by decide +kernel, by decide +kernel⟩
theorem sc__law_seatings_right_1 : CompSc ["_law_shuns_here", "_law_due", "_law_far_here", "_law_size", "_law_order", "_law_wrong", "_law_guest"] (defScope s__law_seatings_right) ({ kind := PySem.ScopeKind.function, names := [ (PySem.Str.ofString ".0", PySem.NameKind.local), (PySem.Str.ofString "_law_thing", PySem.NameKind.local), (PySem.Str.ofString "isinstance", PySem.NameKind.globalImplicit), (PySem.Str.ofString "list", PySem.NameKind.globalImplicit), (PySem.Str.ofString "_law_off", PySem.NameKind.globalImplicit), (PySem.Str.ofString "_law_shuns_here", PySem.NameKind.free)], isGenerator := false, isCoroutine := false, more := [] : PySem.Scope }) ["_law_thing", "_law_shuns_here"] 1 [0] :=
  ⟨rfl, by decide +kernel, by decide +kernel, by decide +kernel, by decide +kernel, rfl, by decide +kernel, by decide +kernel, by decide +kernel⟩
theorem sc__law_seatings_right_2 : CompSc ["_law_shuns_here", "_law_due", "_law_far_here", "_law_size", "_law_order", "_law_wrong", "_law_guest"] (defScope s__law_seatings_right) ({ kind := PySem.ScopeKind.function, names := [ (PySem.Str.ofString ".0", PySem.NameKind.local), (PySem.Str.ofString "_law_thing", PySem.NameKind.local), (PySem.Str.ofString "_law_told", PySem.NameKind.globalImplicit), (PySem.Str.ofString "number_of", PySem.NameKind.globalImplicit), (PySem.Str.ofString "_law_due", PySem.NameKind.free), (PySem.Str.ofString "_law_shuns_here", PySem.NameKind.free)], isGenerator := false, isCoroutine := false, more := [] : PySem.Scope }) ["_law_thing", "_law_due", "_law_shuns_here"] 1 [1, 0] :=
  ⟨rfl, by decide +kernel, by decide +kernel, by decide +kernel, by decide +kernel, rfl, by decide +kernel, by decide +kernel, by decide +kernel⟩
abbrev s_law : Stmt := top 44
theorem sc_law : FnScope ["_law_script", "_law_far_here", "_law_due", "_law_k", "_law_shuns_here", "_law_kept", "_law_size", "_law_bad", "_law_at", "_law_door", "_law_whole_here", "_law_number"] ["_law_script"] (defScope s_law) := ⟨rfl, rfl, rfl, by decide +kernel, rfl, by decide +kernel, by decide +kernel⟩
theorem sc_law_0 : CompSc ["_law_script", "_law_far_here", "_law_due", "_law_k", "_law_shuns_here", "_law_kept", "_law_size", "_law_bad", "_law_at", "_law_door", "_law_whole_here", "_law_number"] (defScope s_law) ({ kind := PySem.ScopeKind.function, names := [ (PySem.Str.ofString ".0", PySem.NameKind.local), (PySem.Str.ofString "_law_thing", PySem.NameKind.local), (PySem.Str.ofString "_law_told", PySem.NameKind.globalImplicit), (PySem.Str.ofString "_law_with_shuns", PySem.NameKind.globalImplicit), (PySem.Str.ofString "_law_door", PySem.NameKind.free), (PySem.Str.ofString "_law_due", PySem.NameKind.free)], isGenerator := false, isCoroutine := false, more := [] : PySem.Scope }) ["_law_thing", "_law_door", "_law_due"] 1 [9, 2] :=
  ⟨rfl, by decide +kernel, by decide +kernel, by decide +kernel, by decide +kernel, rfl, by decide +kernel, by decide +kernel, by decide +kernel⟩
section
variable {P : Program} {w : World} {K : PySem.W.Frag} {mg : Str → Option Value} {base : Heap}
def spCell (K : PySem.W.Frag) : Sp := fun vs H Q _ => ∃ (a : Addr) (ns : List Int) (k : Nat), vs = [.ref a, .int k] ∧ SqL K H a (ns.map V.int) ∧ ∀ v : Int, Q (.int v) H
theorem ok_law_cell_at {f : Addr} {fd : FuncData} (T : Nm mg) (F : Fun K "_law_cell_at" "_law_cell_at" s__law_cell_at f fd) : FnOk P w K mg base CX0 1 f fd ["_law_script", "_law_k"] (spCell K) := by
  refine F.ok sc__law_cell_at (fun vs H Q E h => ?_) (fun cdv A outer s H vs Q E hr h => ?_)
  · obtain ⟨a, ns, k, rfl, _⟩ := h
    rfl
  obtain ⟨a, ns, k, rfl, ha, q⟩ := h
  refine ⟨_, (pss_of (l := [_, _]) rfl (pss_cons (ps_if (pt_cmpR op_lt (pv 1) (pe_callB call_len_seq rfl T.n_len b_len (pa_cons (pv 0) pa_nil)) (nomark _)) (pss_one (ps_ret (pe_ix ix_list (pv 0) (pv 1) (fun _ _ => rfl)))) pss_nil)
      (pss_one (ps_ret pe_int)))), ?_⟩
  refine ⟨_, rfl, _, rfl, a, _, rfl, .inl ha, _, _, rfl, rfl, _, rfl, ?_⟩
  refine if2 (fun c => ?_) (fun c => ?_)
  · rw [lz_len] at c
    have hk : k < ns.length := by omega
    exact ⟨_, rfl, _, rfl, a, _, _, _, rfl, rfl, ha, atI_of k rfl (lz_get (List.getElem?_eq_getElem hk)), q _⟩
  · exact q 0
theorem primes_at (j : Nat) (hj : j < 16) : ∃ z : Int, ([V.int 1000003, V.int 1000033, V.int 1000037, V.int 1000039, V.int 1000081, V.int 1000099, V.int 1000117, V.int 1000121, V.int 1000133, V.int 1000151, V.int 1000159, V.int 1000171, V.int 1000183, V.int 1000187, V.int 1000193, V.int 1000199] : List V)[j]? = some (V.int z) ∧ 0 < z := by
  have h : j = 0 ∨ j = 1 ∨ j = 2 ∨ j = 3 ∨ j = 4 ∨ j = 5 ∨ j = 6 ∨ j = 7 ∨ j = 8 ∨ j = 9 ∨ j = 10 ∨ j = 11 ∨ j = 12 ∨ j = 13 ∨ j = 14 ∨ j = 15 := by omega
  rcases h with h | h | h | h | h | h | h | h | h | h | h | h | h | h | h | h <;> subst h <;> exact ⟨_, rfl, by decide⟩
def spDraw : Sp := fun vs H Q _ => ∃ (c k m : Int), vs = [.int c, .int k, .int m] ∧ 0 ≤ k ∧ 0 < m ∧ ∀ (r : Int) (H' : Hp), 0 ≤ r → r < m → Same H H' → Q (.int r) H'
theorem ok_law_draw {f : Addr} {fd : FuncData} (F : Fun K "_law_draw" "_law_draw" s__law_draw f fd) : FnOk P w K mg base CX0 1 f fd ["_law_cell", "_law_k", "_law_many"] spDraw := by
  refine F.ok sc__law_draw (fun vs H Q E h => ?_) (fun cdv A outer s H vs Q E hr h => ?_)
  · obtain ⟨c, k, m, rfl, _⟩ := h
    rfl
  obtain ⟨c, k, m, rfl, hk, hm, q⟩ := h
  obtain ⟨es, p1, p2, p3, st2, hb, hc, h2⟩ : ∃ es p1 p2 p3 st2, defBody s__law_draw = [.Assign [.Name "_law_primes" p1] (.Tuple es 0 p2) p3, st2] ∧
      IsConsts es [1000003, 1000033, 1000037, 1000039, 1000081, 1000099, 1000117, 1000121, 1000133, 1000151, 1000159, 1000171, 1000183, 1000187, 1000193, 1000199] ∧ st2 = (defBody s__law_draw).getD 1 (.Pass ⟨0, 0, 0, 0⟩) :=
    ⟨_, _, _, _, _, rfl, (.cons (.cons (.cons (.cons (.cons (.cons (.cons (.cons (.cons (.cons (.cons (.cons (.cons (.cons (.cons (.cons .nil)))))))))))))))), rfl⟩
  rw [hb]
  refine ⟨_, pss_cons (ps_set (i := 3) sc__law_draw.nd rfl (Or.inl rfl) (pe_tup (pa_consts hc)))
    (pss_one (ps_of h2 (ps_ret (pe_op op_mod (pe_op op_mod (pe_op op_add (pe_op op_mul (pv 0) pe_int) (pe_op op_mul (pv 1) pe_int)) (pe_ix ix_tup (pv 3) (pe_op op_mod (pv 1) pe_int) (fun _ _ => rfl))) (pv 2))))), ?_⟩
  refine ⟨(by rw [List.length_map]; show 16 ≤ sizeLine; decide), fun p hp => ?_⟩
  have h16 : (k % 16).toNat < 16 := by omega
  obtain ⟨z, hz, hz0⟩ := primes_at (k % 16).toNat h16
  refine ⟨_, rfl, _, _, rfl, rfl, .inr ⟨by omega, by omega⟩, ?_⟩
  refine ⟨_, rfl, _, _, rfl, rfl, .inr ⟨by omega, by omega⟩, _, _, rfl, rfl, ?_⟩
  refine ⟨_, rfl, _, rfl, _, _, rfl, rfl, (by show (0 : Int) < 16; decide), ?_⟩
  refine ⟨p, _, _, _, rfl, rfl, SqT.of upd_same, atI_of (k % 16).toNat (by omega) hz, _, _, rfl, rfl, hz0, _, rfl, _, _, rfl, rfl, hm, ?_⟩
  exact q _ _ (Int.emod_nonneg _ (by omega)) (Int.emod_lt_of_pos _ hm) (same_new hp _)
theorem ok_law_whole {f : Addr} {fd : FuncData} (T : Nm mg) (F : Fun K "_law_whole" "_law_whole" s__law_whole f fd) : FnOk P w K mg base CX0 1 f fd ["_law_number"] spIsW := by
  refine F.ok sc__law_whole (fun vs H Q E h => ?_) (fun cdv A outer s H vs Q E hr h => ?_)
  · obtain ⟨i, rfl, _⟩ := h
    rfl
  obtain ⟨i, rfl, q⟩ := h
  refine ⟨_, (pss_of (l := [_]) rfl (pss_one (ps_ret (pe_and (pe_callB call_isT rfl T.n_isinstance b_isinstance (pa_cons (pv 0) (pa_cons (pe_bltn (v := V.ty "int") rfl T.n_int b_int rfl) pa_nil))) (pe_one (pe_not (pe_callB call_isT rfl T.n_isinstance b_isinstance (pa_cons (pv 0) (pa_cons (pe_bltn (v := V.ty "bool") rfl T.n_bool b_bool rfl) pa_nil))))))))), ?_⟩
  refine ⟨_, rfl, _, _, _, _, rfl, .int i, kit_same _ _, true, rfl, ?_⟩
  refine iteT ?_
  exact ⟨_, rfl, _, _, _, _, rfl, .int i, kit_int_bool _, false, rfl, q⟩
end
end OS

namespace OS
open PySem L2
section
variable {P : Program} {w : World} {K : PySem.W.Frag} {mg : Str → Option Value} {base : Heap}
structure Good (n : Nat) (xs : List Int) : Prop where
  len : xs.length = n
  ok : ∀ x ∈ xs, -1 ≤ x ∧ x < n
def GoodPre (n i : Nat) (ys : List V) : Prop := ∃ zs : List Int, ys = zs.map V.int ∧ zs.length = i ∧ ∀ z ∈ zs, -1 ≤ z ∧ z < n
theorem GoodPre.nil (n : Nat) : GoodPre n 0 [] := ⟨[], rfl, rfl, by simp⟩
theorem GoodPre.snoc {n i : Nat} {ys : List V} {z : Int} (h : GoodPre n i ys) (h1 : -1 ≤ z) (h2 : z < n) : GoodPre n (i + 1) (ys ++ [.int z]) := by
  obtain ⟨zs, rfl, rfl, h⟩ := h
  refine ⟨zs ++ [z], by simp, by simp, fun u hu => ?_⟩
  rcases List.mem_append.mp hu with hu | hu
  · exact h u hu
  · rw [List.mem_singleton.mp hu]; exact ⟨h1, h2⟩
theorem GoodPre.size {n i : Nat} {ys : List V} (h : GoodPre n i ys) (hi : i ≤ 100) : ys.length < sizeLine := by
  obtain ⟨zs, rfl, rfl, _⟩ := h
  rw [List.length_map]
  exact small1000 (by omega)
theorem GoodPre.good {n : Nat} {ys : List V} (h : GoodPre n n ys) : ∃ zs : List Int, ys = zs.map V.int ∧ Good n zs := by
  obtain ⟨zs, rfl, hl, hv⟩ := h
  exact ⟨zs, rfl, hl, hv⟩
theorem cut63 {xs : List V} (h : xs.length ≤ 63) : cutV xs none (some 63) = xs := by
  unfold cutV
  rw [HT.sIx_none, show HT.sIx xs.length xs.length (some 63) = min 63 xs.length from HT.sIx_nat _ _ 63, List.drop_zero, Nat.sub_zero]
  exact List.take_of_length_le (by omega)
def spShuns (K : PySem.W.Frag) : Sp := fun vs H Q _ => ∃ (a : Addr) (ns : List Int), vs = [.ref a] ∧ SqL K H a (ns.map V.int) ∧ ns.length ≤ 63 ∧
  ∀ (r : Addr) (H' : Hp) (xs : List Int), Same H H' → H r = none → H' r = some (lz xs) → Good ns.length xs → Q (.ref r) H'
def ShI (H0 : Hp) (p : Addr) (kd : Int) (ns : List Int) (σ : St) (H : Hp) : Prop :=
  Same H0 H ∧ H p = some (lz ns) ∧ ∃ (r : Addr) (xs : List Int) (v : Option V), σ = [some (.ref p), some (.int kd), some (.int (ns.length : Int)), some (.ref r), v] ∧ H0 r = none ∧ H r = some (lz xs) ∧ Good ns.length xs
theorem mod_good (c : Int) (n : Nat) : -1 ≤ c % ((n : Int) + 1) - 1 ∧ c % ((n : Int) + 1) - 1 < n := by
  have h1 := Int.emod_nonneg c (show (n : Int) + 1 ≠ 0 by omega)
  have h2 := Int.emod_lt_of_pos c (show (0 : Int) < (n : Int) + 1 by omega)
  omega
theorem ok_law_shuns {f f1 f2 : Addr} {fd fd1 fd2 : FuncData} (T : Nm mg) (F : Fun K "_law_shuns" "_law_shuns" s__law_shuns f fd)
    (x__law_draw : Fx K mg "_law_draw" ["_law_cell", "_law_k", "_law_many"] s__law_draw f1 fd1) (x__law_cell_at : Fx K mg "_law_cell_at" ["_law_script", "_law_k"] s__law_cell_at f2 fd2) :
    FnOk P w K mg base CX0 2 f fd ["_law_script"] (spShuns K) := by
  have G__law_draw : FnOk P w K mg base CX0 1 f1 fd1 ["_law_cell", "_law_k", "_law_many"] spDraw := ok_law_draw x__law_draw.F
  have G__law_cell_at : FnOk P w K mg base CX0 1 f2 fd2 ["_law_script", "_law_k"] (spCell K) := ok_law_cell_at T x__law_cell_at.F
  refine F.ok sc__law_shuns (fun vs H Q E h => ?_) (fun cdv A outer s H vs Q E hr h => ?_)
  · obtain ⟨a, ns, rfl, _⟩ := h
    rfl
  obtain ⟨a, ns, rfl, ha, hl, q⟩ := h
  refine ⟨_, (pss_of (l := [_, _, _, _, _, _, _, _]) rfl (pss_cons (ps_set (i := 0) sc__law_shuns.nd rfl (Or.inr rfl) (pe_slice sl_list (pv 0) po_none (po_some pe_int)))
      (pss_cons (ps_asg (pe_tup (pa_cons (pe_call G__law_draw hr rfl x__law_draw.m x__law_draw.F.kp x__law_draw.b .nil pass0 (pa_cons (pe_call G__law_cell_at hr rfl x__law_cell_at.m x__law_cell_at.F.kp x__law_cell_at.b .nil pass0 (pa_cons (pv 0) (pa_cons pe_int pa_nil))) (pa_cons pe_int (pa_cons pe_int pa_nil)))) (pa_cons (pe_callB call_len_seq rfl T.n_len b_len (pa_cons (pv 0) pa_nil)) pa_nil))) (pg_tup rfl (pgs_cons (pg_name (i := 1) sc__law_shuns.nd rfl (Or.inr rfl)) (pgs_cons (pg_name (i := 2) sc__law_shuns.nd rfl (Or.inr rfl)) pgs_nil))))
      (pss_cons (ps_comp rfl sc__law_shuns_0 (pi_list (pv 0)) (fun _ _ _ => (pg_name (i := 0) sc__law_shuns_0.nd rfl (Or.inl rfl))) (fun _ _ _ => pif_nil) (fun _ _ _ => (pe_op op_sub (pe_op op_mod (pv 0) (pe_op op_add (pv 1) pe_int)) pe_int)) sc__law_shuns.nd rfl rfl rfl (i := 3))
      (pss_cut (ps_if (pt_cmpR op_eq (pv 1) pe_int (nomark _)) (pss_one (ps_comp rfl sc__law_shuns_1 (pi_range1 rfl T.n_range (pa_cons (pv 2) pa_nil)) (fun _ _ _ => (pg_name (i := 0) sc__law_shuns_1.nd rfl (Or.inl rfl))) (fun _ _ _ => pif_nil) (fun _ _ _ => (pe_op op_mod (pe_op op_add (pv 0) (pe_call G__law_draw hr rfl x__law_draw.m x__law_draw.F.kp x__law_draw.b .nil pass0 (pa_cons (pe_call G__law_cell_at hr rfl x__law_cell_at.m x__law_cell_at.F.kp x__law_cell_at.b .nil pass0 (pa_cons (pv 1) (pa_cons pe_int pa_nil))) (pa_cons pe_int (pa_cons (pv 2) pa_nil))))) (pv 2))) sc__law_shuns.nd rfl rfl rfl (i := 3))) pss_nil)
      (pss_cut (ps_if (pt_cmpR op_eq (pv 1) pe_int (nomark _)) (pss_one (ps_comp rfl sc__law_shuns_2 (pi_list (pv 3)) (fun _ _ _ => (pg_name (i := 0) sc__law_shuns_2.nd rfl (Or.inl rfl))) (fun _ _ _ => pif_nil) (fun _ _ _ => (pe_ifExp (pt_cmpR op_gt (pv 1) pe_int (nomark _)) (pe_op op_mod (pv 0) pe_int) (pv 0))) sc__law_shuns.nd rfl rfl rfl (i := 3))) pss_nil)
      (pss_cut (ps_if (pt_cmpR op_in_seq (pv 1) (pe_tup (pa_cons pe_int (pa_cons pe_int pa_nil))) (by with_unfolding_all rfl)) (pss_cons (ps_set (i := 4) sc__law_shuns.nd rfl (Or.inr rfl) (pe_call G__law_draw hr rfl x__law_draw.m x__law_draw.F.kp x__law_draw.b .nil pass0 (pa_cons (pe_call G__law_cell_at hr rfl x__law_cell_at.m x__law_cell_at.F.kp x__law_cell_at.b .nil pass0 (pa_cons (pv 0) (pa_cons pe_int pa_nil))) (pa_cons pe_int (pa_cons (pe_callB (call_max2 rfl) rfl T.n_max b_max (pa_cons pe_int (pa_cons (pv 2) pa_nil))) pa_nil)))))
      (pss_one (ps_comp rfl sc__law_shuns_3 (pi_list (pv 0)) (fun _ _ _ => (pg_name (i := 0) sc__law_shuns_3.nd rfl (Or.inl rfl))) (fun _ _ _ => pif_nil) (fun _ _ _ => (pe_ifExp (PW.pt (pw_or (pt_cmpR op_eq (pv 1) pe_int (nomark _)) (pw_or1 (pt_cmpR op_gt (pe_op op_mod (pe_op op_fdiv (pv 0) pe_int) pe_int) pe_int (nomark _))))) (pv 2) (pe_op op_sub (pe_op op_mod (pv 0) (pe_op op_add (pv 3) pe_int)) pe_int))) sc__law_shuns.nd rfl rfl rfl (i := 3)))) pss_nil)
      (pss_cut (ps_if (pt_cmpR op_eq (pv 1) pe_int (nomark _)) (pss_one (ps_comp rfl sc__law_shuns_4 (pi_enum rfl T.n_enumerate (pa_cons (pv 3) pa_nil)) (fun _ _ _ => (pg_tup rfl (pgs_cons (pg_name (i := 0) sc__law_shuns_4.nd rfl (Or.inl rfl)) (pgs_cons (pg_name (i := 1) sc__law_shuns_4.nd rfl (Or.inl rfl)) pgs_nil)))) (fun _ _ _ => pif_nil) (fun _ _ _ => (pe_ifExp (pt_cmpR op_eq (pe_op op_mod (pe_op op_fdiv (pe_ix ix_list (pv 2) (pv 0) (fun _ _ => rfl)) pe_int) pe_int) pe_int (nomark _)) (pv 1) (pe_un un_neg pe_int))) sc__law_shuns.nd rfl rfl rfl (i := 3))) pss_nil)
      (pss_one (ps_ret (pv 3))))))))))), ?_⟩
  refine ⟨_, rfl, _, rfl, a, _, rfl, ha, fun p hp => ?_⟩
  rw [cut63 (by rw [lz_len]; exact hl)]
  have s0 : Same H (upd H p (lz ns)) := same_new hp _
  have e0 : (upd H p (lz ns)) p = some (lz ns) := upd_same
  generalize (upd H p (lz ns)) = H1 at s0 e0 ⊢
  refine ⟨_, rfl, p, ns, 0, rfl, SqL.of e0, fun c0 => ?_⟩
  refine ⟨c0, 6, 7, rfl, by decide, by decide, fun kd H2 k0 k7 s2 => ?_⟩
  have e2 := s2 _ _ e0
  refine ⟨_, rfl, p, _, rfl, .inl (SqL.of e2), (by show 2 ≤ sizeLine; decide), fun tp htp => ?_⟩
  refine ⟨tp, _, rfl, SqT.of upd_same, rfl, _, _, rfl, _, _, rfl, rfl, ?_⟩
  rw [lz_len]
  have s3 : Same H (upd H2 tp (.tup [.int kd, .int (ns.length : Int)])) := s0.trans (s2.trans (same_new htp _))
  have e3 : (upd H2 tp (.tup [.int kd, .int (ns.length : Int)])) p = some (lz ns) := same_new htp _ _ _ e2
  generalize (upd H2 tp (.tup [.int kd, .int (ns.length : Int)])) = H3 at s3 e3 ⊢
  refine ⟨_, rfl, p, rfl, ⟨_, SqL.of e3⟩, fun D hD _ _ => ?_⟩
  refine comp_list (K := K) (a := p) (xs := ns.map V.int) (fun i ys σ H' => Same H3 H' ∧ H' D = some (.lst ys) ∧ GoodPre ns.length i ys ∧ ∃ u, σ = [u, some (.int (ns.length : Int))])
    ⟨same_new hD _, upd_same, GoodPre.nil _, none, rfl⟩ (fun i ys σ H' _ ⟨s4, e4, _⟩ => ⟨SqL.of (s4 _ _ e3), e4⟩) ?_ ?_
  · rintro i x ys σ H' hi ⟨s4, e4, g4, u, rfl⟩
    have hil := (List.getElem?_eq_some_iff.mp hi).1
    rw [lz_len] at hil
    obtain ⟨z, hz, rfl⟩ := lz_at hi
    refine ⟨g4.size (by omega), ?_⟩
    refine ⟨_, rfl, _, rfl, _, _, rfl, rfl, _, _, rfl, rfl, (by show (0 : Int) < (ns.length : Int) + 1; omega), _, _, rfl, rfl, e4, ?_⟩
    have := mod_good z ns.length
    exact ⟨same_upd s4 hD, upd_same, g4.snoc this.1 this.2, _, rfl⟩
  rintro ys σ H' ⟨s4, e4, g4, u, rfl⟩
  rw [lz_len] at g4
  obtain ⟨xs, rfl, g⟩ := g4.good
  have I4 : ShI H p kd ns [some (.ref p), some (.int kd), some (.int (ns.length : Int)), some (.ref D), none] H' :=
    ⟨s3.trans s4, s4 _ _ e3, D, xs, none, rfl, s3.free hD, e4, g⟩
  refine ⟨ShI H p kd ns, ?_, fun σ5 H5 I5 => ?_⟩
  · refine ⟨_, rfl, rfl, _, rfl, ?_⟩
    refine if2 (fun c => ?_) (fun c => I4)
    refine ⟨_, rfl, _, rfl, by omega, by omega, fun D2 hD2 _ _ => ?_⟩
    have e5 := s4 _ _ e3
    refine comp_range (lo := 0) (n := ((ns.length : Int)).toNat) (fun i ys σ H'' => Same H' H'' ∧ H'' D2 = some (.lst ys) ∧ GoodPre ns.length i ys ∧ ∃ u, σ = [u, some (.ref p), some (.int (ns.length : Int))])
      ⟨same_new hD2 _, upd_same, GoodPre.nil _, none, rfl⟩ (fun i ys σ H'' _ ⟨_, e6, _⟩ => e6) ?_ ?_
    · rintro i ys σ H'' hi ⟨s6, e6, g6, u, rfl⟩
      have hn : 0 < (ns.length : Int) := by omega
      refine ⟨g6.size (by omega), ?_⟩
      refine ⟨_, rfl, _, rfl, p, ns, 1, rfl, SqL.of (s6 _ _ e5), fun c1 => ?_⟩
      refine ⟨_, rfl, c1, 3, _, rfl, by decide, hn, fun r H7 r0 r1 s7 => ?_⟩
      refine ⟨_, _, rfl, rfl, _, rfl, _, _, rfl, rfl, hn, s7 _ _ e6, ?_⟩
      refine ⟨same_upd (s6.trans s7) hD2, upd_same, g6.snoc ?_ ?_, _, rfl⟩
      · have := Int.emod_nonneg (0 + (i : Int) + r) (show (ns.length : Int) ≠ 0 by omega)
        show -1 ≤ (0 + (i : Int) + r) % (ns.length : Int)
        omega
      · exact Int.emod_lt_of_pos _ hn
    · rintro ys σ H'' ⟨s6, e6, g6, u, rfl⟩
      rw [show ((ns.length : Int)).toNat = ns.length by omega] at g6
      obtain ⟨xs', rfl, g'⟩ := g6.good
      exact ⟨(s3.trans s4).trans s6, s6 _ _ e5, D2, xs', none, rfl, s3.free (s4.free hD2), e6, g'⟩
  refine ⟨ShI H p kd ns, ?_, fun σ6 H6 I6 => ?_⟩
  · obtain ⟨s5, e5, r, xs5, v, rfl, n5, er, g5⟩ := I5
    refine ⟨_, rfl, rfl, _, rfl, ?_⟩
    refine if2 (fun c => ?_) (fun c => ⟨s5, e5, r, xs5, v, rfl, n5, er, g5⟩)
    refine ⟨_, rfl, r, rfl, ⟨_, SqL.of er⟩, fun D2 hD2 _ _ => ?_⟩
    refine comp_list (K := K) (a := r) (xs := xs5.map V.int) (fun i ys σ H'' => Same H5 H'' ∧ H'' D2 = some (.lst ys) ∧ GoodPre ns.length i ys ∧ ∃ u, σ = [u, some (.int (ns.length : Int))])
      ⟨same_new hD2 _, upd_same, GoodPre.nil _, none, rfl⟩ (fun i ys σ H'' _ ⟨s6, e6, _⟩ => ⟨SqL.of (s6 _ _ er), e6⟩) ?_ ?_
    · rintro i x ys σ H'' hi ⟨s6, e6, g6, u, rfl⟩
      have hil := (List.getElem?_eq_some_iff.mp hi).1
      rw [lz_len, g5.len] at hil
      obtain ⟨z, hz, rfl⟩ := lz_at hi
      have hz5 := g5.ok z (List.mem_of_getElem? hz)
      refine ⟨g6.size (by omega), ?_⟩
      refine ⟨_, rfl, _, _, rfl, rfl, _, rfl, ?_⟩
      refine if2 (fun c2 => ?_) (fun c2 => ?_)
      · refine ⟨_, rfl, _, _, rfl, rfl, (by show (0 : Int) < 3; decide), e6, ?_⟩
        refine ⟨same_upd s6 hD2, upd_same, g6.snoc ?_ ?_, _, rfl⟩
        · show -1 ≤ z % 3
          omega
        · show z % 3 < (ns.length : Int)
          omega
      · refine ⟨_, rfl, e6, ?_⟩
        exact ⟨same_upd s6 hD2, upd_same, g6.snoc hz5.1 hz5.2, _, rfl⟩
    · rintro ys σ H'' ⟨s6, e6, g6, u, rfl⟩
      rw [lz_len, g5.len] at g6
      obtain ⟨xs', rfl, g'⟩ := g6.good
      exact ⟨s5.trans s6, s6 _ _ e5, D2, xs', v, rfl, s5.free hD2, e6, g'⟩
  refine ⟨ShI H p kd ns, ?_, fun σ7 H7 I7 => ?_⟩
  · obtain ⟨s5, e5, r, xs5, v, rfl, n5, er, g5⟩ := I6
    refine ⟨_, rfl, (by show 2 ≤ sizeLine; decide), fun tq htq => ?_⟩
    have s6 : Same H6 (upd H6 tq (.tup [.int 3, .int 4])) := same_new htq _
    refine ⟨tq, _, rfl, .inr (SqT.of upd_same), rfl, rfl, _, rfl, ?_⟩
    generalize (upd H6 tq (.tup [.int 3, .int 4])) = H8 at s6 ⊢
    refine ite2 (fun c => ?_) (fun c => ⟨s5.trans s6, s6 _ _ e5, r, xs5, v, rfl, n5, s6 _ _ er, g5⟩)
    refine ⟨_, rfl, p, ns, 1, rfl, SqL.of (s6 _ _ e5), fun c1 => ?_⟩
    refine ⟨_, rfl, _, _, rfl, c1, 4, _, rfl, by decide, ?_, fun o H9 o0 o1 s9 => ?_⟩
    · split <;> omega
    have e9 := s9 _ _ (s6 _ _ e5)
    refine ⟨_, rfl, p, rfl, ⟨_, SqL.of e9⟩, fun D2 hD2 _ _ => ?_⟩
    refine comp_list (K := K) (a := p) (xs := ns.map V.int) (fun i ys σ H'' => Same H9 H'' ∧ H'' D2 = some (.lst ys) ∧ GoodPre ns.length i ys ∧ ∃ u, σ = [u, some (.int kd), some (.int o), some (.int (ns.length : Int))])
      ⟨same_new hD2 _, upd_same, GoodPre.nil _, none, rfl⟩ (fun i ys σ H'' _ ⟨s6, e6, _⟩ => ⟨SqL.of (s6 _ _ e9), e6⟩) ?_ ?_
    · rintro i x ys σ H'' hi ⟨sa, ea, ga, u, rfl⟩
      have hil := (List.getElem?_eq_some_iff.mp hi).1
      rw [lz_len] at hil
      obtain ⟨z, hz, rfl⟩ := lz_at hi
      have ho : o < (ns.length : Int) := by
        split at o1 <;> omega
      have done : ∀ y : Int, -1 ≤ y → y < ns.length → H'' D2 = some (.lst ys) ∧ (Same H9 (upd H'' D2 (.lst (ys ++ [.int y]))) ∧ upd H'' D2 (.lst (ys ++ [.int y])) D2 = some (.lst (ys ++ [.int y])) ∧ GoodPre ns.length (i + 1) (ys ++ [.int y]) ∧ ∃ u, [some (V.int z), some (.int kd), some (.int o), some (.int (ns.length : Int))] = [u, some (.int kd), some (.int o), some (.int (ns.length : Int))]) :=
        fun y y1 y2 => ⟨ea, same_upd sa hD2, upd_same, ga.snoc y1 y2, _, rfl⟩
      refine ⟨ga.size (by omega), ?_⟩
      refine ⟨_, rfl, rfl, _, rfl, ?_⟩
      refine if2 (fun c2 => ?_) (fun c2 => ?_)
      · refine iteT ?_
        exact ⟨_, rfl, done o (by omega) ho⟩
      · refine ⟨_, rfl, _, _, rfl, rfl, ⟨by show (0 : Int) < 7; decide, by show (7 : Int) < 1073741824; decide⟩, _, _, rfl, rfl, (by show (0 : Int) < 9; decide), _, _, rfl, rfl, _, rfl, ?_⟩
        refine if2 (fun c3 => ?_) (fun c3 => ?_)
        · exact ⟨_, rfl, done o (by omega) ho⟩
        · have := mod_good z ns.length
          exact ⟨_, rfl, _, rfl, _, _, rfl, rfl, _, _, rfl, rfl, (by show (0 : Int) < (ns.length : Int) + 1; omega), _, _, rfl, rfl, done _ this.1 this.2⟩
    · rintro ys σ H'' ⟨sa, ea, ga, u, rfl⟩
      rw [lz_len] at ga
      obtain ⟨xs', rfl, g'⟩ := ga.good
      exact ⟨((s5.trans s6).trans s9).trans sa, sa _ _ e9, D2, xs', _, rfl, s5.free (s6.free (s9.free hD2)), ea, g'⟩
  refine ⟨ShI H p kd ns, ?_, fun σ8 H8 I8 => ?_⟩
  · obtain ⟨s5, e5, r, xs5, v, rfl, n5, er, g5⟩ := I7
    refine ⟨_, rfl, rfl, _, rfl, ?_⟩
    refine if2 (fun c => ?_) (fun c => ⟨s5, e5, r, xs5, v, rfl, n5, er, g5⟩)
    refine ⟨_, rfl, r, _, rfl, SqL.of er, fun D2 hD2 _ _ => ?_⟩
    refine comp_enum (K := K) (a := r) (xs := xs5.map V.int) (fun i ys σ H'' => Same H7 H'' ∧ H'' D2 = some (.lst ys) ∧ GoodPre ns.length i ys ∧ ∃ u v', σ = [u, v', some (.ref p)])
      ⟨same_new hD2 _, upd_same, GoodPre.nil _, none, none, rfl⟩ (fun i ys σ H'' _ ⟨s6, e6, _⟩ => ⟨SqL.of (s6 _ _ er), e6⟩) ?_ (fun i ys σ H'' hi ⟨_, _, g6, _⟩ => g6.size (by rw [lz_len, g5.len] at hi; omega)) ?_
    · rintro i x ys σ H'' pp hi hpp ⟨s6, e6, g6, u, v', rfl⟩
      have hil := (List.getElem?_eq_some_iff.mp hi).1
      rw [lz_len, g5.len] at hil
      obtain ⟨z, hz, rfl⟩ := lz_at hi
      have hz5 := g5.ok z (List.mem_of_getElem? hz)
      have s7 : Same H'' (upd H'' pp (.tup [.int i, .int z])) := same_new hpp _
      refine ⟨g6.size (by omega), pp, _, rfl, SqT.of upd_same, rfl, _, _, rfl, _, _, rfl, rfl, ?_⟩
      have done : ∀ y : Int, -1 ≤ y → y < ns.length → (upd H'' pp (.tup [.int i, .int z])) D2 = some (.lst ys) ∧ (Same H7 (upd (upd H'' pp (.tup [.int i, .int z])) D2 (.lst (ys ++ [.int y]))) ∧ upd (upd H'' pp (.tup [.int i, .int z])) D2 (.lst (ys ++ [.int y])) D2 = some (.lst (ys ++ [.int y])) ∧ GoodPre ns.length (i + 1) (ys ++ [.int y]) ∧ ∃ u v', [some (V.int i), some (.int z), some (.ref p)] = [u, v', some (.ref p)]) :=
        fun y y1 y2 => ⟨s7 _ _ e6, same_upd (s6.trans s7) hD2, upd_same, g6.snoc y1 y2, _, _, rfl⟩
      refine ⟨_, rfl, _, rfl, p, _, _, _, rfl, rfl, SqL.of (s7 _ _ (s6 _ _ e5)), atI_of i rfl (lz_get (List.getElem?_eq_getElem hil)), ?_⟩
      refine ⟨_, _, rfl, rfl, ⟨by show (0 : Int) < 3; decide, by show (3 : Int) < 1073741824; decide⟩, _, _, rfl, rfl, (by show (0 : Int) < 3; decide), rfl, _, rfl, ?_⟩
      refine if2 (fun c3 => ?_) (fun c3 => ?_)
      · exact ⟨_, rfl, done z hz5.1 hz5.2⟩
      · exact ⟨_, rfl, done (-1) (by omega) (by omega)⟩
    · rintro ys σ H'' ⟨s6, e6, g6, u, v', rfl⟩
      rw [lz_len, g5.len] at g6
      obtain ⟨xs', rfl, g'⟩ := g6.good
      exact ⟨s5.trans s6, s6 _ _ e5, D2, xs', v, rfl, s5.free hD2, e6, g'⟩
  obtain ⟨s5, e5, r, xs5, v, rfl, n5, er, g5⟩ := I8
  exact ⟨_, rfl, q r H8 xs5 s5 n5 er g5⟩
end
end OS

namespace OS
open PySem L2
section
variable {P : Program} {w : World} {K : PySem.W.Frag} {mg : Str → Option Value} {base : Heap}
def spDue : Sp := fun vs H Q _ => ∃ (a : Addr) (xs : List Int), vs = [.ref a] ∧ H a = some (lz xs) ∧ xs.length ≤ 63 ∧
  ∀ (r : Addr) (H' : Hp), Same H H' → H r = none → H' r = some (lz (due xs.length xs)) → Q (.ref r) H'
theorem picks_zip (P' : List Int) (t : Int) (i : Nat) {x u : V} (hx : ((tab (P'.length + 1) (pk P') ++ [0]).map V.int)[i]? = some x) (hu : ((0 :: tab (P'.length + 1) (pk P')).map V.int)[i]? = some u) :
    ∃ y z : Int, x = .int y ∧ u = .int z ∧ y + t * z = pk (t :: P') i := by
  obtain ⟨y, hy, rfl⟩ := lz_at hx
  obtain ⟨z, hz, rfl⟩ := lz_at hu
  refine ⟨y, z, rfl, rfl, ?_⟩
  have hi : i < P'.length + 2 := by
    have := (List.getElem?_eq_some_iff.mp hy).1
    simp [tab_length] at this; omega
  have := picks_at P' t i hi
  rw [hy, hz] at this
  exact this
theorem ok_law_counts {f : Addr} {fd : FuncData} (T : Nm mg) (F : Fun K "_law_counts" "_law_counts" s__law_counts f fd) : FnOk P w K mg base CX0 1 f fd ["_law_shuns_here"] spDue := by
  refine F.ok sc__law_counts (fun vs H Q E h => ?_) (fun cdv A outer s H vs Q E hr h => ?_)
  · obtain ⟨a, xs, rfl, _⟩ := h
    rfl
  obtain ⟨a, xs, rfl, ha, hl, q⟩ := h
  have hu0 := hr.units0
  refine ⟨_, (pss_of (l := [_, _, _, _, _, _, _, _]) rfl (pss_cons (ps_asg (pe_tup (pa_cons (pe_callB call_len_seq rfl T.n_len b_len (pa_cons (pv 0) pa_nil)) (pa_cons (pe_lst (pa_cons pe_int pa_nil)) pa_nil))) (pg_tup rfl (pgs_cons (pg_name (i := 1) sc__law_counts.nd rfl (Or.inr rfl)) (pgs_cons (pg_name (i := 2) sc__law_counts.nd rfl (Or.inr rfl)) pgs_nil))))
      (pss_cons (ps_for PassesOwn.never rfl (pi_range1 rfl T.n_range (pa_cons (pv 1) pa_nil)) (pg_name (i := 3) sc__law_counts.nd rfl (Or.inl rfl)) (pss_cons (ps_set (i := 4) sc__law_counts.nd rfl (Or.inr rfl) (pe_bm PySem.F.plainAttrs_list PySem.F.slot_list_count PySem.F.type_list_count mt_count (pv 0) (pa_cons (pv 3) pa_nil)))
      (pss_one (ps_set (i := 2) sc__law_counts.nd rfl (Or.inr rfl) (pe_comp rfl sc__law_counts_0 (pi_zip rfl T.n_zip (pa_cons (pe_op op_cat (pv 2) (pe_lst (pa_cons pe_int pa_nil))) (pa_cons (pe_op op_cat (pe_lst (pa_cons pe_int pa_nil)) (pv 2)) pa_nil))) (fun _ _ _ => (pg_tup rfl (pgs_cons (pg_name (i := 0) sc__law_counts_0.nd rfl (Or.inl rfl)) (pgs_cons (pg_name (i := 1) sc__law_counts_0.nd rfl (Or.inl rfl)) pgs_nil)))) (fun _ _ _ => pif_nil) (fun _ _ _ => (pe_op op_add (pv 0) (pe_op op_mul (pv 2) (pv 1)))))))))
      (pss_cons (ps_set (i := 5) sc__law_counts.nd rfl (Or.inr rfl) (pe_lst (pa_cons pe_int pa_nil)))
      (pss_cons (ps_for PassesOwn.never rfl (pi_range1 rfl T.n_range (pa_cons (pv 1) pa_nil)) (pg_name (i := 6) sc__law_counts.nd rfl (Or.inl rfl)) (pss_one (ps_expr (pe_bm PySem.F.plainAttrs_list PySem.F.slot_list_append PySem.F.type_list_append mt_append (pv 5) (pa_cons (pe_op op_mul (pe_ix ix_list (pv 5) (pe_un un_neg pe_int) (fun _ _ => rfl)) (pe_op op_add (pv 6) pe_int)) pa_nil)))))
      (pss_cons (ps_comp rfl sc__law_counts_1 (pi_range1 rfl T.n_range (pa_cons (pe_op op_add (pv 1) pe_int) pa_nil)) (fun _ _ _ => (pg_name (i := 0) sc__law_counts_1.nd rfl (Or.inl rfl))) (fun _ _ _ => pif_nil) (fun _ _ _ => (pe_op op_mul (pe_ix ix_list (pv 2) (pv 0) (fun _ _ => rfl)) (pe_ix ix_list (pv 1) (pe_op op_sub (pv 3) (pv 0)) (fun _ _ => rfl)))) sc__law_counts.nd rfl rfl rfl (i := 7))
      (pss_cons (ps_set (i := 8) sc__law_counts.nd rfl (Or.inl rfl) (pe_lst pa_nil))
      (pss_cons (ps_while PassesOwn.never (pt_cmpR (op_neL hu0) (pv 7) (pe_lst pa_nil) (nomark _)) (pss_cons (ps_par rfl sc__law_counts.nd (i := 9) (j := 10) rfl rfl (by decide) rfl rfl (pa_cons (pe_lst pa_nil) (pa_cons pe_int pa_nil)) rfl)
      (pss_cons (ps_for PassesOwn.never rfl (pi_list (pe_rev (pv 7) (pe_un un_neg pe_int))) (pg_name (i := 11) sc__law_counts.nd rfl (Or.inl rfl)) (pss_cons (ps_set (i := 10) sc__law_counts.nd rfl (Or.inl rfl) (pe_op op_sub (pv 11) (pv 10)))
      (pss_one (ps_expr (pe_bm PySem.F.plainAttrs_list PySem.F.slot_list_append PySem.F.type_list_append mt_append (pv 9) (pa_cons (pv 10) pa_nil))))))
      (pss_cons (ps_expr (pe_bm PySem.F.plainAttrs_list PySem.F.slot_list_append PySem.F.type_list_append mt_append (pv 8) (pa_cons (pe_bm0 PySem.F.plainAttrs_list PySem.F.slot_list_pop PySem.F.type_list_pop mt_pop (pv 9)) pa_nil)))
      (pss_one (ps_set (i := 7) sc__law_counts.nd rfl (Or.inl rfl) (pe_rev (pv 9) (pe_un un_neg pe_int))))))))
      (pss_one (ps_ret (pv 8))))))))))), ?_⟩
  refine ⟨_, rfl, a, _, rfl, .inl (SqL.of ha), (by show 1 ≤ sizeLine; decide), fun p hp => ?_⟩
  rw [lz_len]
  refine ⟨(by show 2 ≤ sizeLine; decide), fun tp htp => ?_⟩
  refine ⟨tp, _, rfl, SqT.of upd_same, rfl, _, _, rfl, _, _, rfl, rfl, ?_⟩
  have s1 : Same H (upd (upd H p (.lst [.int 1])) tp (.tup [.int (xs.length : Int), .ref p])) := (same_new hp _).trans (same_new htp _)
  have e1 : (upd (upd H p (.lst [.int 1])) tp (.tup [.int (xs.length : Int), .ref p])) p = some (lz [1]) := same_new htp _ _ _ upd_same
  generalize (upd (upd H p (.lst [.int 1])) tp (.tup [.int (xs.length : Int), .ref p])) = H1 at s1 e1 ⊢
  refine ⟨_, rfl, _, rfl, by omega, by omega, ?_⟩
  refine for_range (lo := 0) (n := ((xs.length : Int)).toNat) (fun i σ H' => Same H H' ∧ ∃ (r : Addr) (u v : Option V), H r = none ∧ H' r = some (lz (tab (i + 1) (pk (cs i xs).reverse))) ∧ σ = [some (.ref a), some (.int (xs.length : Int)), some (.ref r), u, v, none, none, none, none, none, none, none])
    ⟨s1, p, none, none, hp, e1, rfl⟩ ?_ ?_
  · rintro i σ H' hi ⟨s2, r, u, v, hr0, er, rfl⟩
    have hi' : i < xs.length := by omega
    refine ⟨_, rfl, .inl ⟨rfl, _, SqL.of (s2 _ _ ha)⟩, _, rfl, a, xs, _, rfl, rfl, SqL.of (s2 _ _ ha), ?_⟩
    rw [Int.zero_add]
    have hcs : (cs i xs).reverse.length = i := by rw [List.length_reverse, cs_length]
    have hcsu := cs_succ i xs
    generalize hP : (cs i xs).reverse = P' at *
    generalize hm : (xs.count (i : Int) : Nat) = mny at *
    have hmny : mny ≤ 63 := by rw [← hm]; exact Nat.le_trans List.count_le_length hl
    subst hcs
    refine ⟨_, rfl, (by show 1 ≤ sizeLine; decide), fun q1 hq1 => ?_⟩
    have t1 : Same H' (upd H' q1 (.lst [.int 0])) := same_new hq1 _
    refine ⟨r, q1, _, _, rfl, rfl, t1 _ _ er, upd_same, ?_, fun p1 hp1 => ?_⟩
    · rw [lz_len, tab_length]; exact small (by simp; omega)
    refine ⟨(by show 1 ≤ sizeLine; decide), fun q2 hq2 => ?_⟩
    rw [show (tab (P'.length + 1) (pk P')).map V.int ++ [V.int 0] = (tab (P'.length + 1) (pk P') ++ [0]).map V.int from lz_snoc _ _] at *
    have t2 : Same H' (upd (upd (upd H' q1 (.lst [.int 0])) p1 (lz (tab (P'.length + 1) (pk P') ++ [0]))) q2 (.lst [.int 0])) := t1.trans ((same_new hp1 _).trans (same_new hq2 _))
    have ep1 : (upd (upd (upd H' q1 (.lst [.int 0])) p1 (lz (tab (P'.length + 1) (pk P') ++ [0]))) q2 (.lst [.int 0])) p1 = some (lz (tab (P'.length + 1) (pk P') ++ [0])) := same_new hq2 _ _ _ upd_same
    have eq2 : (upd (upd (upd H' q1 (.lst [.int 0])) p1 (lz (tab (P'.length + 1) (pk P') ++ [0]))) q2 (.lst [.int 0])) q2 = some (.lst [.int 0]) := upd_same
    generalize (upd (upd (upd H' q1 (.lst [.int 0])) p1 (lz (tab (P'.length + 1) (pk P') ++ [0]))) q2 (.lst [.int 0])) = H2 at t2 ep1 eq2 ⊢
    refine ⟨_, rfl, q2, r, _, _, rfl, rfl, eq2, t2 _ _ er, ?_, fun p2 hp2 => ?_⟩
    · rw [lz_len, tab_length]; exact small (by simp; omega)
    rw [show ([V.int 0] ++ (tab (P'.length + 1) (pk P')).map V.int : List V) = (0 :: tab (P'.length + 1) (pk P')).map V.int from rfl]
    have t3 : Same H2 (upd H2 p2 (lz (0 :: tab (P'.length + 1) (pk P')))) := same_new hp2 _
    have ep2 : (upd H2 p2 (lz (0 :: tab (P'.length + 1) (pk P')))) p2 = some (lz (0 :: tab (P'.length + 1) (pk P'))) := upd_same
    refine ⟨p1, p2, _, _, rfl, SqL.of (t3 _ _ ep1), SqL.of ep2, fun D hD _ _ => ?_⟩
    generalize (upd H2 p2 (lz (0 :: tab (P'.length + 1) (pk P')))) = H3 at t3 ep2 hD ⊢
    have l1 : ((tab (P'.length + 1) (pk P') ++ [0]).map V.int).length = P'.length + 2 := by rw [lz_len]; simp [tab_length]
    have l2 : ((0 :: tab (P'.length + 1) (pk P')).map V.int).length = P'.length + 2 := by rw [lz_len]; simp [tab_length]
    refine comp_zip (K := K) (a := p1) (b := p2) (xs := (tab (P'.length + 1) (pk P') ++ [0]).map V.int) (ws := (0 :: tab (P'.length + 1) (pk P')).map V.int)
      (fun i ys σ H'' => Same H3 H'' ∧ H'' D = some (.lst ys) ∧ ys = (tab i (pk ((mny : Int) :: P'))).map V.int ∧ ∃ u v, σ = [u, v, some (.int (mny : Int))])
      ⟨same_new hD _, upd_same, rfl, none, none, rfl⟩ (fun i ys σ H'' _ ⟨s4, e4, _⟩ => ⟨SqL.of (s4 _ _ (t3 _ _ ep1)), SqL.of (s4 _ _ ep2), e4⟩) ?_ (fun i ys σ H'' hi ⟨_, _, ey, _⟩ => ?_) ?_
    · rintro i x y ys σ H'' pp hx hy hpp ⟨s4, e4, rfl, u', v', rfl⟩
      have hil : i < P'.length + 2 := by
        have := (List.getElem?_eq_some_iff.mp hx).1
        rwa [l1] at this
      obtain ⟨y1, z1, rfl, rfl, hyz⟩ := picks_zip P' (mny : Int) i hx hy
      have s5 : Same H'' (upd H'' pp (.tup [.int y1, .int z1])) := same_new hpp _
      refine ⟨small1000 (by rw [lz_len, tab_length]; omega), pp, _, rfl, SqT.of upd_same, rfl, _, _, rfl, _, _, rfl, rfl, ?_⟩
      refine ⟨_, rfl, _, rfl, _, rfl, _, _, rfl, rfl, .inl ⟨by omega, by omega⟩, _, _, rfl, rfl, s5 _ _ e4, ?_⟩
      refine ⟨same_upd (s4.trans s5) hD, upd_same, ?_, _, _, rfl⟩
      rw [tab_succ i, ← lz_snoc, ← hyz]
    · subst ey
      rw [l1, l2] at hi
      rw [lz_len, tab_length]
      exact small1000 (by omega)
    · rintro ys σ H'' ⟨s4, e4, rfl, u', v', rfl⟩
      rw [l1, l2, Nat.min_self] at e4
      refine ⟨s2.trans (t2.trans (t3.trans s4)), D, _, _, s2.free (t2.free (t3.free hD)), ?_, rfl⟩
      rw [e4, hcsu]
  rintro σ H' ⟨s2, r, u, v, hr0, er, rfl⟩
  rw [show ((xs.length : Int)).toNat = xs.length by omega] at er
  refine ⟨(by show 1 ≤ sizeLine; decide), fun o ho => ?_⟩
  refine ⟨_, rfl, _, rfl, by omega, by omega, ?_⟩
  have ho0 : H o = none := s2.free ho
  refine for_range (lo := 0) (n := ((xs.length : Int)).toNat) (fun i σ H2 => Same H' H2 ∧ H2 o = some (lz (tab (i + 1) fact)) ∧ ∃ v', σ = [some (.ref a), some (.int (xs.length : Int)), some (.ref r), u, v, some (.ref o), v', none, none, none, none, none])
    ⟨same_new ho _, upd_same, none, rfl⟩ ?_ ?_
  · rintro i σ H2 hi ⟨s3, e3, v', rfl⟩
    refine ⟨_, rfl, .inl ⟨rfl, _, SqL.of e3⟩, _, rfl, _, rfl, o, _, _, _, rfl, rfl, SqL.of e3, atI_neg1 (tab_last i fact), _, rfl, _, _, rfl, rfl, _, _, rfl, rfl, .inr ⟨by omega, by omega⟩, o, _, _, rfl, rfl, e3, ?_, ?_⟩
    · rw [lz_len, tab_length]
      exact small1000 (by omega)
    · refine ⟨same_upd s3 ho, ?_, _, rfl⟩
      rw [upd_same, lz_snoc, tab_succ (i + 1)]
      congr 5
      show fact i * ((0 : Int) + (i : Int) + 1) = fact (i + 1)
      rw [fact, Int.mul_comm, Int.zero_add]
  rintro σ H2 ⟨s3, e3, v', rfl⟩
  rw [show ((xs.length : Int)).toNat = xs.length by omega] at e3
  refine ⟨_, rfl, _, _, rfl, rfl, _, rfl, by omega, by omega, fun D hD _ _ => ?_⟩
  have er2 := s3 _ _ er
  have hnn : ∀ t ∈ (cs xs.length xs).reverse, 0 ≤ t := fun t ht => cs_nonneg _ _ t (List.mem_reverse.mp ht)
  have hsum : (cs xs.length xs).reverse.sum ≤ 63 := by
    rw [List.sum_reverse]
    have := cs_sum_le xs.length xs
    omega
  refine comp_range (lo := 0) (n := ((xs.length : Int) + 1).toNat) (fun i ys σ H'' => Same H2 H'' ∧ H'' D = some (.lst ys) ∧ ys = (tab i (fun k => pk (cs xs.length xs).reverse k * fact (xs.length - k))).map V.int ∧ ∃ u, σ = [u, some (.ref o), some (.ref r), some (.int (xs.length : Int))])
    ⟨same_new hD _, upd_same, rfl, none, rfl⟩ (fun i ys σ H'' _ ⟨_, e4, _⟩ => e4) ?_ ?_
  · rintro i ys σ H'' hi ⟨s4, e4, rfl, u', rfl⟩
    have hi' : i < xs.length + 1 := by omega
    refine ⟨small1000 (by rw [lz_len, tab_length]; omega), ?_⟩
    refine ⟨_, rfl, _, rfl, r, _, _, _, rfl, rfl, SqL.of (s4 _ _ er2), atI_of i (by omega) (lz_get (tab_get _ _ _ hi')), _, rfl, _, rfl, _, rfl, _, _, rfl, rfl, o, _, _, _, rfl, rfl, SqL.of (s4 _ _ e3), atI_of (xs.length - i) (by omega) (lz_get (tab_get _ _ _ (by omega))), _, _, rfl, rfl, .inl (pk_small hnn hsum i), e4, ?_⟩
    refine ⟨same_upd s4 hD, upd_same, ?_, _, rfl⟩
    rw [lz_snoc, tab_succ i]
  rintro ys σ H3 ⟨s4, e4, rfl, u', rfl⟩
  rw [show ((xs.length : Int) + 1).toNat = xs.length + 1 by omega] at e4
  have hD0 : H D = none := s2.free (s3.free hD)
  refine ⟨Nat.zero_le _, fun fo hfo => ?_⟩
  have hfo0 : H fo = none := s2.free (s3.free (s4.free hfo))
  have s5 : Same H (upd H3 fo (.lst [])) := (s2.trans (s3.trans s4)).trans (same_new hfo _)
  have e5 : (upd H3 fo (.lst [])) D = some (lz (tab (xs.length + 1) (fun k => pk (cs xs.length xs).reverse k * fact (xs.length - k)))) := same_new hfo _ _ _ e4
  have e6 : (upd H3 fo (.lst [])) fo = some (lz []) := upd_same
  have nDf : D ≠ fo := ne_of_none e4 hfo
  generalize (upd H3 fo (.lst [])) = H4 at s5 e5 e6 ⊢
  generalize hc : (fun k => pk (cs xs.length xs).reverse k * fact (xs.length - k)) = c at *
  generalize hM : xs.length + 1 = M at *
  refine ⟨fun m σ H' => ∃ d, d ≤ M ∧ m = M - d ∧ Same H H' ∧ ∃ (l : Addr) (x1 x2 x3 : Option V), H l = none ∧ l ≠ fo ∧ H' l = some (lz (tab (M - d) (left M c d))) ∧ H' fo = some (lz (tab d (hit M c))) ∧ σ = [some (.ref a), some (.int (xs.length : Int)), some (.ref r), u, v, some (.ref o), v', some (.ref l), some (.ref fo), x1, x2, x3],
    ⟨M, 0, Nat.zero_le _, rfl, s5, D, none, none, none, hD0, nDf, e5, e6, rfl⟩, ?_⟩
  rintro m σ H' ⟨d, hd, rfl, t1, l, x1, x2, x3, hl0, nlf, el, ef, rfl⟩
  refine ⟨_, rfl, Nat.zero_le _, fun em hem => ?_⟩
  have t2 : Same H' (upd H' em (.lst [])) := same_new hem _
  refine ⟨l, em, _, [], rfl, rfl, SqL.of (t2 _ _ el), SqL.of upd_same, _, rfl, ?_⟩
  have el2 := t2 _ _ el
  have ef2 := t2 _ _ ef
  have t12 := t1.trans t2
  generalize (upd H' em (.lst [])) = H5 at t2 el2 ef2 t12 ⊢
  by_cases hdM : d = M
  · subst hdM
    refine ifNN (by rw [Nat.sub_self]; rfl) ?_
    refine ⟨_, rfl, q fo H5 t12 hfo0 ?_⟩
    have et : tab (xs.length + 1) (hit (xs.length + 1) c) = due xs.length xs := tab_congr fun j _ => by
      rw [← hc]
      exact law_counts_eq xs.length xs j
    rw [ef2, ← hM, et]
  have hdl : d < M := by omega
  refine ifNY (fun z => ?_) ?_
  · have := congrArg List.length z
    rw [tab_length] at this
    simp at this; omega
  refine ⟨fun σ' H'' => ∃ d', d' = d + 1 ∧ Same H H'' ∧ ∃ (l : Addr) (x1 x2 x3 : Option V), H l = none ∧ l ≠ fo ∧ H'' l = some (lz (tab (M - d') (left M c d'))) ∧ H'' fo = some (lz (tab d' (hit M c))) ∧ σ' = [some (.ref a), some (.int (xs.length : Int)), some (.ref r), u, v, some (.ref o), v', some (.ref l), some (.ref fo), x1, x2, x3],
    fun σ' H'' ⟨d', hd', y1, y2⟩ => ⟨M - d', by omega, d', by omega, rfl, y1, y2⟩, ?_⟩
  refine ⟨Nat.zero_le _, fun re hre => ?_⟩
  refine ⟨_, _, rfl, ?_⟩
  have hre0 : H re = none := t12.free hre
  have nrl : re ≠ l := (ne_of_none el2 hre).symm
  have nrf : re ≠ fo := (ne_of_none ef2 hre).symm
  have t3 : Same H5 (upd H5 re (.lst [])) := same_new hre _
  have el3 := t3 _ _ el2
  have ef3 := t3 _ _ ef2
  have ere : (upd H5 re (.lst [])) re = some (lz []) := upd_same
  generalize (upd H5 re (.lst [])) = H6 at t3 el3 ef3 ere ⊢
  refine ⟨_, rfl, _, rfl, l, _, rfl, rfl, SqL.of el3, fun lr hlr => ?_⟩
  have t4 : Same H6 (upd H6 lr (lz (tab (M - d) (fun i => left M c d (M - d - 1 - i))))) := same_new hlr _
  have elr : (upd H6 lr (lz (tab (M - d) (fun i => left M c d (M - d - 1 - i))))) lr = some (lz (tab (M - d) (fun i => left M c d (M - d - 1 - i)))) := upd_same
  rw [← List.map_reverse, tab_reverse]
  have el4 := t4 _ _ el3
  have ef4 := t4 _ _ ef3
  have ere4 := t4 _ _ ere
  have nlr : lr ≠ re := (ne_of_none ere hlr).symm
  generalize (upd H6 lr (lz (tab (M - d) (fun i => left M c d (M - d - 1 - i))))) = H7 at t4 elr el4 ef4 ere4 ⊢
  refine ⟨lr, rfl, ⟨_, SqL.of elr⟩, ?_⟩
  have b7 : ∀ b o, H b = some o → H7 b = some o := fun b o e => t4 _ _ (t3 _ _ (t12 _ _ e))
  refine for_list (K := K) (a := lr) (xs := (tab (M - d) (fun i => left M c d (M - d - 1 - i))).map V.int) (fun j σ H8 => (∀ b o, b ≠ re → H7 b = some o → H8 b = some o) ∧ H8 re = some (lz (tab j (fun i => bs (M - d) (left M c d) (M - d - 1 - i)))) ∧ ∃ x3, σ = [some (.ref a), some (.int (xs.length : Int)), some (.ref r), u, v, some (.ref o), v', some (.ref l), some (.ref fo), some (.ref re), some (.int (bs (M - d) (left M c d) (M - d - j))), x3])
    ⟨fun _ _ _ e => e, ere4, x3, by rw [Nat.sub_zero, bs_out _ _ _ (Nat.le_refl _)]; rfl⟩ (fun j σ H8 _ ⟨kp, _⟩ => SqL.of (kp _ _ nlr elr)) ?_ ?_
  · rintro j y σ H8 hj ⟨kp, ej, x3', rfl⟩
    obtain ⟨z, hz, rfl⟩ := lz_at hj
    have hjl : j < M - d := by
      have := (List.getElem?_eq_some_iff.mp hz).1
      rwa [tab_length] at this
    rw [tab_get _ _ _ hjl] at hz
    have hz' := Option.some.inj hz
    subst hz'
    have hb := bs_step (M - d) (left M c d) (M - d - 1 - j) (by omega)
    rw [show M - d - 1 - j + 1 = M - d - j by omega] at hb
    refine ⟨_, rfl, _, rfl, _, _, rfl, rfl, ?_⟩
    refine ⟨_, rfl, .inl ⟨rfl, _, SqL.of ej⟩, _, rfl, re, _, _, rfl, rfl, ej, ?_, ?_⟩
    · rw [lz_len, tab_length]
      exact small1000 (by omega)
    · refine ⟨fun b o hb e => by rw [upd_ne hb]; exact kp b o hb e, ?_, some (.int (left M c d (M - d - 1 - j))), ?_⟩
      · rw [upd_same, lz_snoc, tab_succ j, hb]
      · rw [show M - d - (j + 1) = M - d - 1 - j by omega, hb]
        rfl
  rintro σ H8 ⟨kp, ej, x3', rfl⟩
  rw [lz_len, tab_length] at ej
  obtain ⟨Md, hMd⟩ : ∃ Md, M - d = Md + 1 := ⟨M - d - 1, by omega⟩
  have hd1 : M - (d + 1) = Md := by omega
  have hpop := tab_last Md (fun i => bs (M - d) (left M c d) (M - d - 1 - i))
  rw [hMd] at ej hpop
  have ef8 := kp _ _ nrf.symm ef4
  refine ⟨_, rfl, .inl ⟨rfl, _, SqL.of ef8⟩, ?_⟩
  refine ⟨_, rfl, .inl ⟨rfl, _, SqL.of ej⟩, re, _, .int (bs (Md + 1) (left M c d) (Md + 1 - 1 - Md)), rfl, rfl, ej, ?_, ?_⟩
  · rw [lz_len]
    exact lz_get hpop
  have ef9 : (upd H8 re (.lst ((tab (Md + 1) (fun i => bs (M - d) (left M c d) (M - d - 1 - i))).map V.int).dropLast)) fo = some (lz (tab d (hit M c))) := by rw [upd_ne nrf.symm]; exact ef8
  have hdl2 : ((tab (Md + 1) (fun i => bs (Md + 1) (left M c d) (Md + 1 - 1 - i))).map V.int).dropLast = (tab Md (fun i => bs (Md + 1) (left M c d) (Md + 1 - 1 - i))).map V.int := by
    rw [← List.map_dropLast, tab_dropLast]
  rw [hMd] at ef9 ⊢
  rw [hdl2] at ef9 ⊢
  have ere9 : (upd H8 re (lz (tab Md (fun i => bs (Md + 1) (left M c d) (Md + 1 - 1 - i))))) re = some (lz (tab Md (fun i => bs (Md + 1) (left M c d) (Md + 1 - 1 - i)))) := upd_same
  have b9 : ∀ b o, b ≠ re → H7 b = some o → (upd H8 re (lz (tab Md (fun i => bs (Md + 1) (left M c d) (Md + 1 - 1 - i))))) b = some o := fun b o hb e => by rw [upd_ne hb]; exact kp b o hb e
  generalize (upd H8 re (lz (tab Md (fun i => bs (Md + 1) (left M c d) (Md + 1 - 1 - i))))) = H9 at ef9 ere9 b9 ⊢
  refine ⟨fo, _, _, rfl, rfl, ef9, ?_, ?_⟩
  · rw [lz_len, tab_length]
    exact small1000 (by omega)
  rw [lz_snoc]
  have ere10 : (upd H9 fo (lz (tab d (hit M c) ++ [bs (Md + 1) (left M c d) (Md + 1 - 1 - Md)]))) re = some (lz (tab Md (fun i => bs (Md + 1) (left M c d) (Md + 1 - 1 - i)))) := by rw [upd_ne nrf]; exact ere9
  have ef10 : (upd H9 fo (lz (tab d (hit M c) ++ [bs (Md + 1) (left M c d) (Md + 1 - 1 - Md)]))) fo = some (lz (tab (d + 1) (hit M c))) := by
    rw [upd_same, tab_succ d]
    congr 5
    rw [show Md + 1 - 1 - Md = 0 by omega, ← left_head M c d hdl, hMd]
  have b10 : Same H (upd H9 fo (lz (tab d (hit M c) ++ [bs (Md + 1) (left M c d) (Md + 1 - 1 - Md)]))) := fun b o e => by
    rw [upd_ne (ne_of_none e hfo0)]
    exact b9 b o (ne_of_none e hre0) (b7 b o e)
  generalize (upd H9 fo (lz (tab d (hit M c) ++ [bs (Md + 1) (left M c d) (Md + 1 - 1 - Md)]))) = H10 at ere10 ef10 b10 ⊢
  refine ⟨_, rfl, _, rfl, re, _, rfl, rfl, SqL.of ere10, fun l' hl' => ?_⟩
  refine ⟨d + 1, rfl, b10.trans (same_new hl' _), l', _, _, _, b10.free hl', (ne_of_none ef10 hl').symm, ?_, same_new hl' _ _ _ ef10, rfl⟩
  rw [upd_same, ← List.map_reverse, tab_reverse, hd1]
  congr 3
  refine tab_congr fun j hj => ?_
  show bs (Md + 1) (left M c d) (Md + 1 - 1 - (Md - 1 - j)) = left M c (d + 1) j
  simp only [left]
  rw [hMd, show Md + 1 - 1 - (Md - 1 - j) = j + 1 by omega]
def spLOff : Sp := fun vs H Q _ => ∃ (b a : Addr) (xs ss : List Int), vs = [.ref b, .ref a] ∧ H b = some (lz xs) ∧ H a = some (lz ss) ∧ xs.length ≤ 63 ∧ ss.length ≤ 64 ∧ ∀ H', Same H H' → Q (.bl (offB xs ss)) H'
theorem noHit_any (ss xs : List Int) : (!((ss.zip xs).map (fun p => decide (p.1 = p.2))).any id) = noHit ss xs := by
  unfold noHit
  rw [Bool.eq_iff_iff, Bool.not_eq_true', ← Bool.not_eq_true, List.any_eq_true, List.all_eq_true]
  simp
  exact ⟨fun h a b hm e => h a (e ▸ hm), fun h x hm => h x x hm rfl⟩
theorem ok_law_off {f f1 : Addr} {fd fd1 : FuncData} (T : Nm mg) (F : Fun K "_law_off" "_law_off" s__law_off f fd)
    (x__law_whole : Fx K mg "_law_whole" ["_law_number"] s__law_whole f1 fd1) : FnOk P w K mg base CX0 2 f fd ["_law_shuns_here", "_law_found"] spLOff := by
  have G__law_whole : FnOk P w K mg base CX0 1 f1 fd1 ["_law_number"] spIsW := ok_law_whole T x__law_whole.F
  refine F.ok sc__law_off (fun vs H Q E h => ?_) (fun cdv A outer s H vs Q E hr h => ?_)
  · obtain ⟨b, a, xs, ss, rfl, _⟩ := h
    rfl
  obtain ⟨b, a, xs, ss, rfl, hb, ha, hl, hsl, q⟩ := h
  have hu0 := hr.units0
  refine ⟨_, (pss_of (l := [_, _, _]) rfl (pss_cons (ps_if (PW.pt (pw_or (pt_not (pt_val (pe_callB call_isT rfl T.n_isinstance b_isinstance (pa_cons (pv 1) (pa_cons (pe_bltn (v := V.ty "list") rfl T.n_list b_list rfl) pa_nil))))) (pw_or1 (pt_not (pt_val (pe_callB (call_allB rfl) rfl T.n_all b_all (pa_cons (pe_comp rfl sc__law_off_0 (pi_list (pv 1)) (fun _ _ _ => (pg_name (i := 0) sc__law_off_0.nd rfl (Or.inl rfl))) (fun _ _ _ => pif_nil) (fun _ _ _ => (pe_call G__law_whole hr rfl x__law_whole.m x__law_whole.F.kp x__law_whole.b .nil pass0 (pa_cons (pv 0) pa_nil)))) pa_nil))))))) (pss_one (ps_ret pe_bl)) pss_nil)
      (pss_cons (ps_if (pt_cmpR (op_neL hu0) (pe_callB call_sortedW rfl T.n_sorted b_sorted (pa_cons (pv 1) pa_nil)) (pe_callTy (call_list_rng rfl) rfl T.n_list b_list (pa_cons (pe_callTy call_rng1 rfl T.n_range PyProof.Rows.boot_range (pa_cons (pe_callB call_len_seq rfl T.n_len b_len (pa_cons (pv 0) pa_nil)) pa_nil)) pa_nil)) (nomark _)) (pss_one (ps_ret pe_bl)) pss_nil)
      (pss_one (ps_ret (pe_not (pe_callB (call_anyB rfl) rfl T.n_any b_any (pa_cons (pe_comp rfl sc__law_off_1 (pi_zip rfl T.n_zip (pa_cons (pv 1) (pa_cons (pv 0) pa_nil))) (fun _ _ _ => (pg_tup rfl (pgs_cons (pg_name (i := 0) sc__law_off_1.nd rfl (Or.inl rfl)) (pgs_cons (pg_name (i := 1) sc__law_off_1.nd rfl (Or.inl rfl)) pgs_nil)))) (fun _ _ _ => pif_nil) (fun _ _ _ => (pe_cmpR op_eq (pv 0) (pv 1) (nomark _)))) pa_nil)))))))), ?_⟩
  refine ⟨_, rfl, _, _, _, _, rfl, .lst ha, kit_same _ _, true, rfl, iteF ?_⟩
  refine ⟨_, rfl, a, rfl, ⟨_, SqL.of ha⟩, fun D hD _ _ => ?_⟩
  refine comp_list (K := K) (a := a) (xs := ss.map V.int) (fun i ys σ H' => Same H H' ∧ H' D = some (.lst ys) ∧ ys = (List.replicate i true).map V.bl ∧ ∃ u, σ = [u])
    ⟨same_new hD _, upd_same, rfl, none, rfl⟩ (fun i ys σ H' _ ⟨s6, e6, _⟩ => ⟨SqL.of (s6 _ _ ha), e6⟩) ?_ ?_
  · rintro j x ys σ H' hj ⟨s6, e6, rfl, u, rfl⟩
    have hjl := (List.getElem?_eq_some_iff.mp hj).1
    rw [lz_len] at hjl
    obtain ⟨z, hz, rfl⟩ := lz_at hj
    refine ⟨small1000 (by simp; omega), ?_⟩
    exact ⟨_, rfl, z, rfl, e6, same_upd s6 hD, upd_same, rep_true _ _ rfl, _, rfl⟩
  rintro ys σ H1 ⟨s1, e6, rfl, u, rfl⟩
  refine ⟨D, _, rfl, SqL.of e6, ?_⟩
  rw [bools_all]
  refine ⟨true, rfl, iteF ?_⟩
  have ha1 := s1 _ _ ha
  have hb1 := s1 _ _ hb
  refine ⟨_, rfl, a, ss, rfl, SqL.of ha1, hsl, fun so ns hso hlen hps => ?_⟩
  have s2 : Same H1 (upd H1 so (lz ns)) := same_new hso _
  have e2 : (upd H1 so (lz ns)) so = some (lz ns) := upd_same
  generalize (upd H1 so (lz ns)) = H2 at s2 e2 ⊢
  refine ⟨_, rfl, b, _, rfl, .inl (SqL.of (s2 _ _ hb1)), ?_⟩
  refine ⟨_, rfl, fun r0 hr0 => ⟨r0, (xs.map V.int).length, rfl, upd_same, by rw [lz_len]; omega, fun l hl0 => ?_⟩⟩
  rw [lz_len] at hl0 ⊢
  rw [rng_lz]
  obtain ⟨s3, nl⟩ := lr_facts (lz (rngI xs.length)) hr0 hl0
  have el : (upd (upd H2 r0 (.rng 0 (xs.length : Int))) l (lz (rngI xs.length))) l = some (lz (rngI xs.length)) := upd_same
  generalize (upd (upd H2 r0 (.rng 0 (xs.length : Int))) l (lz (rngI xs.length))) = H3 at s3 el ⊢
  refine ⟨so, l, _, _, rfl, rfl, SqL.of (s3 _ _ e2), SqL.of el, _, rfl, ?_⟩
  have s4 : Same H H3 := s1.trans (s2.trans s3)
  by_cases hs : Seat xs.length ss
  rotate_left
  · refine ifNY (fun z => hs ?_) ?_
    · by_cases h64 : ss.length < 64
      · exact (sorted_seat (hps h64).1 (hps h64).2).mp z
      · have := congrArg List.length z
        rw [rngI_length] at this
        omega
    have := q _ s4
    unfold offB at this
    rwa [decide_eq_false hs] at this
  have h64 : ss.length < 64 := by have := hs.len; omega
  refine ifNN ((sorted_seat (hps h64).1 (hps h64).2).mpr hs) ?_
  have ha3 := s4 _ _ ha
  have hb3 := s4 _ _ hb
  have hsl' := hs.len
  refine ⟨_, rfl, _, rfl, a, b, _, _, rfl, SqL.of ha3, SqL.of hb3, fun D2 hD2 _ _ => ?_⟩
  refine comp_zip (K := K) (a := a) (b := b) (xs := ss.map V.int) (ws := xs.map V.int)
    (fun j ys σ H' => Same H3 H' ∧ H' D2 = some (.lst ys) ∧ ys = (((ss.zip xs).take j).map (fun p => decide (p.1 = p.2))).map V.bl ∧ ∃ u v, σ = [u, v])
    ⟨same_new hD2 _, upd_same, rfl, none, none, rfl⟩ (fun j ys σ H' _ ⟨t4, e4, _⟩ => ⟨SqL.of (t4 _ _ ha3), SqL.of (t4 _ _ hb3), e4⟩) ?_ (fun j ys σ H' hj ⟨_, _, hy, _⟩ => ?_) ?_
  · rintro j y1 z1 ys σ H4 pp hy hz hpp ⟨t4, e4, rfl, u4, v4, rfl⟩
    obtain ⟨y, hy', rfl⟩ := lz_at hy
    obtain ⟨z, hz', rfl⟩ := lz_at hz
    have hjl := (List.getElem?_eq_some_iff.mp hy').1
    have t5 : Same H4 (upd H4 pp (.tup [.int y, .int z])) := same_new hpp _
    refine ⟨small1000 (by simp; omega), pp, _, rfl, SqT.of upd_same, rfl, _, _, rfl, _, _, rfl, rfl, ?_⟩
    refine ⟨_, rfl, _, rfl, rfl, t5 _ _ e4, same_upd (t4.trans t5) hD2, upd_same, ?_, _, _, rfl⟩
    rw [zip_at hy' hz', List.map_append, List.map_append]
    congr 3
    by_cases e : y = z
    · subst e; simp
    · have : ¬ V.int y = V.int z := vi_ne e
      simp [e]
  · subst hy
    rw [lz_len, lz_len] at hj
    exact small1000 (by simp; omega)
  rintro ys σ H4 ⟨t4, e4, rfl, u4, v4, rfl⟩
  rw [lz_len, lz_len, hsl', Nat.min_self, List.take_of_length_le (by rw [List.length_zip]; omega)] at e4
  refine ⟨D2, _, rfl, SqL.of e4, _, rfl, ?_⟩
  rw [noHit_any]
  have := q _ (s4.trans t4)
  unfold offB at this
  rwa [decide_eq_true hs, Bool.true_and] at this
end
end OS

namespace OS
open PySem L2
section
variable {P : Program} {w : World} {K : PySem.W.Frag} {mg : Str → Option Value} {base : Heap}
inductive Other (H : Hp) : V → Prop where
  | non : Other H .non
  | int (i : Int) : Other H (.int i)
  | bl (b : Bool) : Other H (.bl b)
  | str (x : Str) : Other H (.str x)
  | tup {a : Addr} {xs : List V} (e : H a = some (.tup xs)) : Other H (.ref a)
  | dct {a : Addr} {kvs : List (Key × V)} (e : H a = some (.dK kvs)) : Other H (.ref a)
def Thing (H : Hp) (v : V) : Prop := Other H v ∨ ∃ a xs, v = .ref a ∧ H a = some (.lst xs)
theorem Other.same {H H' : Hp} {v : V} (h : Other H v) (s : Same H H') : Other H' v := by
  cases h with
  | non => exact .non
  | int i => exact .int i
  | bl b => exact .bl b
  | str x => exact .str x
  | tup e => exact .tup (s _ _ e)
  | dct e => exact .dct (s _ _ e)
theorem Thing.same {H H' : Hp} {v : V} (h : Thing H v) (s : Same H H') : Thing H' v := by
  rcases h with h | ⟨a, xs, e, h⟩
  · exact .inl (h.same s)
  · exact .inr ⟨a, xs, e, s _ _ h⟩
def wholeV : V → Bool
  | .int _ => true
  | _ => false
def goodV (n : Nat) : V → Bool
  | .int i => decide (-1 ≤ i) && decide (i < n)
  | _ => false
theorem kit_n (K : PySem.W.Frag) : PySem.W.kitOne K (.type "NoneType") (.type "int") = some false ∧ PySem.W.kitOne K (.type "NoneType") (.type "list") = some false := ⟨by first | rfl | decide +kernel, by first | rfl | decide +kernel⟩
theorem kit_s (K : PySem.W.Frag) : PySem.W.kitOne K (.type "str") (.type "int") = some false ∧ PySem.W.kitOne K (.type "str") (.type "list") = some false := ⟨by first | rfl | decide +kernel, by first | rfl | decide +kernel⟩
theorem kit_t (K : PySem.W.Frag) : PySem.W.kitOne K (.type "tuple") (.type "int") = some false ∧ PySem.W.kitOne K (.type "tuple") (.type "list") = some false := ⟨by first | rfl | decide +kernel, by first | rfl | decide +kernel⟩
theorem kit_d (K : PySem.W.Frag) : PySem.W.kitOne K (.type "dict") (.type "int") = some false ∧ PySem.W.kitOne K (.type "dict") (.type "list") = some false := ⟨by first | rfl | decide +kernel, by first | rfl | decide +kernel⟩
theorem kit_l (K : PySem.W.Frag) : PySem.W.kitOne K (.type "list") (.type "int") = some false := by first | rfl | decide +kernel
theorem kit_i (K : PySem.W.Frag) : PySem.W.kitOne K (.type "int") (.type "list") = some false := by first | rfl | decide +kernel
theorem kit_b (K : PySem.W.Frag) : PySem.W.kitOne K (.type "bool") (.type "list") = some false := by first | rfl | decide +kernel
theorem Other.noList {H : Hp} {v : V} (h : Other H v) (K : PySem.W.Frag) : ∃ t, TyOf K H v t ∧ PySem.W.kitOne K t (.type "list") = some false := by
  cases h with
  | non => exact ⟨_, .non, (kit_n K).2⟩
  | int i => exact ⟨_, .int i, kit_i K⟩
  | bl b => exact ⟨_, .bl b, kit_b K⟩
  | str x => exact ⟨_, .str x, (kit_s K).2⟩
  | tup e => exact ⟨_, .tup e, (kit_t K).2⟩
  | dct e => exact ⟨_, .dK e, (kit_d K).2⟩
theorem Thing.whole {H : Hp} {v : V} (h : Thing H v) (K : PySem.W.Frag) : (∃ i, v = .int i) ∨ (∃ b, v = .bl b) ∨ wholeV v = false ∧ ∃ t, TyOf K H v t ∧ PySem.W.kitOne K t (.type "int") = some false := by
  rcases h with h | ⟨a, xs, rfl, e⟩
  · cases h with
    | non => exact .inr (.inr ⟨rfl, _, .non, (kit_n K).1⟩)
    | int i => exact .inl ⟨i, rfl⟩
    | bl b => exact .inr (.inl ⟨b, rfl⟩)
    | str x => exact .inr (.inr ⟨rfl, _, .str x, (kit_s K).1⟩)
    | tup e => exact .inr (.inr ⟨rfl, _, .tup e, (kit_t K).1⟩)
    | dct e => exact .inr (.inr ⟨rfl, _, .dK e, (kit_d K).1⟩)
  · exact .inr (.inr ⟨rfl, _, .lst e, kit_l K⟩)
def spIsWV : Sp := fun vs H Q _ => ∃ v, vs = [v] ∧ Thing H v ∧ Q (.bl (wholeV v)) H
theorem ok_is_whole_V {f : Addr} {fd : FuncData} (T : Nm mg) (F : Fun K "is_whole_number" "is_whole_number" s_is_whole_number f fd) : FnOk P w K mg base CX0 1 f fd ["value"] spIsWV := by
  refine F.ok sc_is_whole_number (fun vs H Q E h => ?_) (fun cdv A outer s H vs Q E hr h => ?_)
  · obtain ⟨v, rfl, _⟩ := h
    rfl
  obtain ⟨v, rfl, ht, q⟩ := h
  refine ⟨_, (pss_of (l := [_]) rfl (pss_one (ps_ret (pe_and (pe_callB call_isT rfl T.n_isinstance b_isinstance (pa_cons (pv 0) (pa_cons (pe_bltn (v := V.ty "int") rfl T.n_int b_int rfl) pa_nil))) (pe_one (pe_not (pe_callB call_isT rfl T.n_isinstance b_isinstance (pa_cons (pv 0) (pa_cons (pe_bltn (v := V.ty "bool") rfl T.n_bool b_bool rfl) pa_nil))))))))), ?_⟩
  rcases ht.whole K with ⟨i, rfl⟩ | ⟨b, rfl⟩ | ⟨hw, t, ty, kt⟩
  · refine ⟨_, rfl, _, _, _, _, rfl, .int i, kit_same _ _, true, rfl, iteT ?_⟩
    exact ⟨_, rfl, _, _, _, _, rfl, .int i, kit_int_bool _, false, rfl, q⟩
  · refine ⟨_, rfl, _, _, _, _, rfl, .bl b, kit_bool_int _, true, rfl, iteT ?_⟩
    exact ⟨_, rfl, _, _, _, _, rfl, .bl b, kit_same _ _, true, rfl, q⟩
  · refine ⟨_, rfl, _, _, _, _, rfl, ty, kt, false, rfl, iteF ?_⟩
    rw [hw] at q
    exact q
theorem ok_law_whole_V {f : Addr} {fd : FuncData} (T : Nm mg) (F : Fun K "_law_whole" "_law_whole" s__law_whole f fd) : FnOk P w K mg base CX0 1 f fd ["_law_number"] spIsWV := by
  refine F.ok sc__law_whole (fun vs H Q E h => ?_) (fun cdv A outer s H vs Q E hr h => ?_)
  · obtain ⟨v, rfl, _⟩ := h
    rfl
  obtain ⟨v, rfl, ht, q⟩ := h
  refine ⟨_, (pss_of (l := [_]) rfl (pss_one (ps_ret (pe_and (pe_callB call_isT rfl T.n_isinstance b_isinstance (pa_cons (pv 0) (pa_cons (pe_bltn (v := V.ty "int") rfl T.n_int b_int rfl) pa_nil))) (pe_one (pe_not (pe_callB call_isT rfl T.n_isinstance b_isinstance (pa_cons (pv 0) (pa_cons (pe_bltn (v := V.ty "bool") rfl T.n_bool b_bool rfl) pa_nil))))))))), ?_⟩
  rcases ht.whole K with ⟨i, rfl⟩ | ⟨b, rfl⟩ | ⟨hw, t, ty, kt⟩
  · refine ⟨_, rfl, _, _, _, _, rfl, .int i, kit_same _ _, true, rfl, iteT ?_⟩
    exact ⟨_, rfl, _, _, _, _, rfl, .int i, kit_int_bool _, false, rfl, q⟩
  · refine ⟨_, rfl, _, _, _, _, rfl, .bl b, kit_bool_int _, true, rfl, iteT ?_⟩
    exact ⟨_, rfl, _, _, _, _, rfl, .bl b, kit_same _ _, true, rfl, q⟩
  · refine ⟨_, rfl, _, _, _, _, rfl, ty, kt, false, rfl, iteF ?_⟩
    rw [hw] at q
    exact q
def NotShuns (H : Hp) (v : V) : Prop := Other H v ∨ ∃ a xs, v = .ref a ∧ H a = some (.lst xs) ∧ xs.length ≤ 100 ∧ (∀ x ∈ xs, Thing H x) ∧ ∃ x ∈ xs, goodV xs.length x = false
theorem NotShuns.same {H H' : Hp} {v : V} (h : NotShuns H v) (s : Same H H') : NotShuns H' v := by
  rcases h with h | ⟨a, xs, e, h, l, t, z⟩
  · exact .inl (h.same s)
  · exact .inr ⟨a, xs, e, s _ _ h, l, fun x hx => (t x hx).same s, z⟩
theorem map_next {α : Type} (g : α → Bool) {xs : List α} {j : Nat} {x : α} {b : Bool} (hj : xs[j]? = some x) (hb : b = g x) : ((xs.take j).map g).map V.bl ++ [V.bl b] = ((xs.take (j + 1)).map g).map V.bl := by
  rw [List.take_add_one, hj, hb]; simp
def spAreBad : Sp := fun vs H Q _ => ∃ v, vs = [v] ∧ NotShuns H v ∧ ∀ H', Same H H' → Q (.bl false) H'
theorem ok_are_bad {f g : Addr} {fd gd : FuncData} (T : Nm mg) (F : Fun K "are_shuns" "are_shuns" s_are_shuns f fd)
    (x_is_whole_number : Fx K mg "is_whole_number" ["value"] s_is_whole_number g gd) : FnOk P w K mg base CX0 2 f fd ["value"] spAreBad := by
  have G_is_whole_number : FnOk P w K mg base CX0 1 g gd ["value"] spIsWV := ok_is_whole_V T x_is_whole_number.F
  refine F.ok sc_are_shuns (fun vs H Q E h => ?_) (fun cdv A outer s H vs Q E hr h => ?_)
  · obtain ⟨v, rfl, _⟩ := h
    rfl
  obtain ⟨v, rfl, hn, q⟩ := h
  refine ⟨_, (pss_of (l := [_, _]) rfl (pss_cons (ps_if (pt_not (pt_val (pe_callB call_isT rfl T.n_isinstance b_isinstance (pa_cons (pv 0) (pa_cons (pe_bltn (v := V.ty "list") rfl T.n_list b_list rfl) pa_nil))))) (pss_one (ps_ret pe_bl)) pss_nil)
      (pss_one (ps_ret (pe_callB (call_allB rfl) rfl T.n_all b_all (pa_cons (pe_comp rfl sc_are_shuns_0 (pi_list (pv 0)) (fun _ _ _ => (pg_name (i := 0) sc_are_shuns_0.nd rfl (Or.inl rfl))) (fun _ _ _ => pif_nil) (fun _ _ _ => (pe_and (pe_call G_is_whole_number hr rfl x_is_whole_number.m x_is_whole_number.F.kp x_is_whole_number.b .nil pass0 (pa_cons (pv 0) pa_nil)) (pe_and (pe_cmpR op_ge (pv 0) (pe_un un_neg pe_int) (nomark _)) (pe_one (pe_cmpR op_lt (pv 0) (pe_callB call_len_seq rfl T.n_len b_len (pa_cons (pv 1) pa_nil)) (nomark _))))))) pa_nil)))))), ?_⟩
  rcases hn with ho | ⟨a, xs, rfl, ha, hl, ht, x0, hx0, hg0⟩
  · obtain ⟨t, ty, kt⟩ := ho.noList K
    refine ⟨_, rfl, _, _, _, _, rfl, ty, kt, false, rfl, iteT ?_⟩
    exact q _ (Same.refl _)
  refine ⟨_, rfl, _, _, _, _, rfl, .lst ha, kit_same _ _, true, rfl, iteF ?_⟩
  refine ⟨_, rfl, a, rfl, ⟨_, SqL.of ha⟩, fun D hD _ _ => ?_⟩
  refine comp_list (K := K) (a := a) (xs := xs) (fun i ys σ H' => Same H H' ∧ H' D = some (.lst ys) ∧ ys = ((xs.take i).map (goodV xs.length)).map V.bl ∧ ∃ u, σ = [u, some (.ref a)])
    ⟨same_new hD _, upd_same, rfl, none, rfl⟩ (fun i ys σ H' _ ⟨s6, e6, _⟩ => ⟨SqL.of (s6 _ _ ha), e6⟩) ?_ ?_
  · rintro j x ys σ H' hj ⟨s6, e6, rfl, u, rfl⟩
    have hjl := (List.getElem?_eq_some_iff.mp hj).1
    have hx := (ht x (List.mem_of_getElem? hj)).same s6
    refine ⟨small1000 (by simp; omega), ?_⟩
    refine ⟨_, rfl, x, rfl, hx, wholeV x, rfl, ?_⟩
    by_cases hw : ∃ z, x = .int z
    · obtain ⟨z, rfl⟩ := hw
      refine iteT ?_
      refine ⟨_, rfl, _, rfl, _, _, rfl, rfl, _, rfl, if2 (fun c => ?_) (fun c => ?_)⟩
      · refine ⟨_, rfl, _, rfl, a, _, rfl, .inl (SqL.of (s6 _ _ ha)), _, _, rfl, rfl, ?_⟩
        refine ⟨e6, same_upd s6 hD, upd_same, map_next _ hj ?_, _, rfl⟩
        show _ = (decide (-1 ≤ z) && decide (z < (xs.length : Int)))
        rw [decide_eq_true c, Bool.true_and]
      · refine ⟨e6, same_upd s6 hD, upd_same, map_next _ hj ?_, _, rfl⟩
        show _ = (decide (-1 ≤ z) && decide (z < (xs.length : Int)))
        rw [decide_eq_false c, Bool.false_and]
    · have h1 : wholeV x = false := by
        cases x with
        | int z => exact absurd ⟨z, rfl⟩ hw
        | _ => rfl
      have h2 : goodV xs.length x = false := by
        cases x with
        | int z => exact absurd ⟨z, rfl⟩ hw
        | _ => rfl
      rw [h1]
      refine iteF ?_
      exact ⟨e6, same_upd s6 hD, upd_same, map_next _ hj h2.symm, _, rfl⟩
  rintro ys σ H' ⟨s6, e6, rfl, u, rfl⟩
  rw [List.take_length] at e6
  refine ⟨D, _, rfl, SqL.of e6, ?_⟩
  have e : (xs.map (goodV xs.length)).all id = false := by
    rw [List.all_eq_false]
    exact ⟨false, List.mem_map.mpr ⟨x0, hx0, hg0⟩, by decide⟩
  rw [e]
  exact q _ s6
def NoInts (H : Hp) (v : V) : Prop := Other H v ∨ ∃ a xs, v = .ref a ∧ H a = some (.lst xs) ∧ (∀ x ∈ xs, Thing H x) ∧ ∃ x ∈ xs, wholeV x = false
def spIsSeatBad : Sp := fun vs H Q _ => ∃ (v : V) (n : Nat), vs = [v, .int (n : Int)] ∧ NoInts H v ∧ n ≤ 100 ∧ ∀ H', Same H H' → Q (.bl false) H'
theorem ok_is_seating_bad {f g : Addr} {fd gd : FuncData} (T : Nm mg) (F : Fun K "is_seating" "is_seating" s_is_seating f fd)
    (x_is_whole_number : Fx K mg "is_whole_number" ["value"] s_is_whole_number g gd) : FnOk P w K mg base CX0 2 f fd ["value", "guests"] spIsSeatBad := by
  have G_is_whole_number : FnOk P w K mg base CX0 1 g gd ["value"] spIsWV := ok_is_whole_V T x_is_whole_number.F
  refine F.ok sc_is_seating (fun vs H Q E h => ?_) (fun cdv A outer s H vs Q E hr h => ?_)
  · obtain ⟨v, n, rfl, _⟩ := h
    rfl
  obtain ⟨v, n, rfl, hv, hn, q⟩ := h
  refine ⟨_, (pss_of (l := [_, _, _, _]) rfl (pss_cons (ps_if (PW.pt (pw_or (pt_not (pt_val (pe_callB call_isT rfl T.n_isinstance b_isinstance (pa_cons (pv 0) (pa_cons (pe_bltn (v := V.ty "list") rfl T.n_list b_list rfl) pa_nil))))) (pw_or1 (pt_cmpR op_ne (pe_callB call_len_seq rfl T.n_len b_len (pa_cons (pv 0) pa_nil)) (pv 1) (nomark _))))) (pss_one (ps_ret pe_bl)) pss_nil)
      (pss_cons (ps_set (i := 2) sc_is_seating.nd rfl (Or.inl rfl) (pe_op op_rep (pe_lst (pa_cons pe_bl pa_nil)) (pv 1)))
      (pss_cons (ps_for PassesOwn.never rfl (pi_list (pv 0)) (pg_name (i := 3) sc_is_seating.nd rfl (Or.inl rfl)) (pss_cons (ps_if (PW.pt (pw_or (pt_not (pt_val (pe_call G_is_whole_number hr rfl x_is_whole_number.m x_is_whole_number.F.kp x_is_whole_number.b .nil pass0 (pa_cons (pv 3) pa_nil)))) (pw_or (pt_cmpR op_lt (pv 3) pe_int (nomark _)) (pw_or (pt_cmpR op_ge (pv 3) (pv 1) (nomark _)) (pw_or1 (pt_val (pe_ix ix_list (pv 2) (pv 3) (fun _ _ => rfl)))))))) (pss_one (ps_ret pe_bl)) pss_nil)
      (pss_one (ps_asg pe_bl (pg_sub (pv 2) (pv 3) set_list)))))
      (pss_one (ps_ret pe_bl)))))), ?_⟩
  rcases hv with ho | ⟨a, xs, rfl, ha, ht, x0, hx0, hw0⟩
  · obtain ⟨t, ty, kt⟩ := ho.noList K
    refine ⟨_, rfl, _, _, _, _, rfl, ty, kt, false, rfl, iteT ?_⟩
    exact q _ (Same.refl _)
  refine ⟨_, rfl, _, _, _, _, rfl, .lst ha, kit_same _ _, true, rfl, iteF ?_⟩
  refine ⟨_, rfl, a, _, rfl, .inl (SqL.of ha), _, rfl, rfl, _, rfl, ?_⟩
  by_cases hl : xs.length = n
  rotate_left
  · refine ifNY (fun z => hl (by have := V.int.inj z; omega)) ?_
    exact q _ (Same.refl _)
  refine ifNN (by rw [hl]) ?_
  refine ⟨(by show 1 ≤ sizeLine; decide), fun p1 hp1 => ?_⟩
  have s1 : Same H (upd H p1 (.lst [.bl false])) := same_new hp1 _
  refine ⟨_, rfl, p1, _, _, rfl, rfl, upd_same, by omega, by omega, small (by simp; omega), fun tk htk => ?_⟩
  have e0 : (List.replicate ((n : Int)).toNat [V.bl false]).flatten = (List.replicate n false).map V.bl := by
    rw [rep_flat, List.map_replicate, show ((n : Int)).toNat = n by omega]
  rw [e0]
  have hk0 : H tk = none := s1.free htk
  have s2 : Same H (upd (upd H p1 (.lst [.bl false])) tk (.lst ((List.replicate n false).map V.bl))) := s1.trans (same_new htk _)
  have e2 : (upd (upd H p1 (.lst [.bl false])) tk (.lst ((List.replicate n false).map V.bl))) tk = some (.lst ((List.replicate n false).map V.bl)) := upd_same
  generalize (upd (upd H p1 (.lst [.bl false])) tk (.lst ((List.replicate n false).map V.bl))) = H2 at s2 e2 ⊢
  refine ⟨_, rfl, a, rfl, ⟨_, SqL.of (s2 _ _ ha)⟩, for_list (K := K) (a := a) (xs := xs) (fun i σ H' => Same H H' ∧ (∃ bs : List Bool, bs.length = n ∧ H' tk = some (.lst (bs.map V.bl))) ∧ (∀ x ∈ xs.take i, wholeV x = true) ∧ ∃ v, σ = [some (.ref a), some (.int (n : Int)), some (.ref tk), v])
    ⟨s2, ⟨_, by simp, e2⟩, by simp, none, rfl⟩ (fun i σ H' _ ⟨e, _⟩ => SqL.of (e _ _ ha)) ?_ ?_⟩
  · rintro i y σ H' hi ⟨s3, ⟨bs, hbl, e3⟩, hw3, v, rfl⟩
    have hy := (ht y (List.mem_of_getElem? hi)).same s3
    refine ⟨_, rfl, y, rfl, hy, wholeV y, rfl, ?_⟩
    by_cases hw : ∃ z, y = .int z
    rotate_left
    · have h1 : wholeV y = false := by
        cases y with
        | int z => exact absurd ⟨z, rfl⟩ hw
        | _ => rfl
      rw [h1]
      exact iteT (q _ s3)
    obtain ⟨z, rfl⟩ := hw
    refine iteF ?_
    refine ⟨_, rfl, _, _, rfl, rfl, _, rfl, ?_⟩
    refine if2 (fun c => iteT (q _ s3)) (fun c => ?_)
    refine ⟨_, rfl, _, rfl, _, _, rfl, rfl, _, rfl, ?_⟩
    refine if2 (fun c2 => iteT (q _ s3)) (fun c2 => ?_)
    have hzn : z.toNat < bs.length := by omega
    have hat : (bs.map V.bl)[z.toNat]? = some (V.bl bs[z.toNat]) := by
      rw [List.getElem?_map, List.getElem?_eq_getElem hzn]; rfl
    refine ⟨_, rfl, _, rfl, tk, _, _, _, rfl, rfl, SqL.of e3, atI_of z.toNat (by omega) hat, _, rfl, ?_⟩
    cases bs[z.toNat] with
    | true => exact iteT (q _ s3)
    | false =>
      refine iteF ?_
      refine ⟨_, rfl, _, rfl, tk, _, _, z.toNat, rfl, rfl, e3, ixN_of z.toNat (by omega) (by rw [List.length_map]; omega), ?_⟩
      refine ⟨same_upd s3 hk0, ⟨bs.set z.toNat true, by simp [hbl], by rw [upd_same, List.map_set]⟩, fun x hx => ?_, _, rfl⟩
      rw [List.take_add_one, hi, List.mem_append] at hx
      rcases hx with hx | hx
      · exact hw3 x hx
      · have : x = .int z := by simpa using hx
        rw [this]; rfl
  · rintro σ H' ⟨s3, _, hw3, v, rfl⟩
    rw [List.take_length] at hw3
    have := hw3 x0 hx0
    rw [hw0] at this
    cases this
def NotOff (H : Hp) (xs : List Int) (v : V) : Prop := NoInts H v ∨ ∃ a ss, v = .ref a ∧ H a = some (lz ss) ∧ offB xs ss = false
theorem NoInts.same {H H' : Hp} {v : V} (h : NoInts H v) (s : Same H H') : NoInts H' v := by
  rcases h with h | ⟨a, xs, e, h, t, z⟩
  · exact .inl (h.same s)
  · exact .inr ⟨a, xs, e, s _ _ h, fun x hx => (t x hx).same s, z⟩
theorem NotOff.same {H H' : Hp} {xs : List Int} {v : V} (h : NotOff H xs v) (s : Same H H') : NotOff H' xs v := by
  rcases h with h | ⟨a, ss, e, h, z⟩
  · exact .inl (h.same s)
  · exact .inr ⟨a, ss, e, s _ _ h, z⟩
def spIsOffBad : Sp := fun vs H Q _ => ∃ (v : V) (b : Addr) (xs : List Int), vs = [v, .ref b] ∧ H b = some (lz xs) ∧ xs.length ≤ 100 ∧ NoInts H v ∧ ∀ H', Same H H' → Q (.bl false) H'
theorem ok_is_off_bad {f g g2 : Addr} {fd gd gd2 : FuncData} (T : Nm mg) (F : Fun K "is_seating_off" "is_seating_off" s_is_seating_off f fd)
    (x_is_seating : Fx K mg "is_seating" ["value", "guests"] s_is_seating g2 gd2) (x_is_whole_number : Fx K mg "is_whole_number" ["value"] s_is_whole_number g gd) : FnOk P w K mg base CX0 3 f fd ["value", "shuns"] spIsOffBad := by
  have G_is_seating : FnOk P w K mg base CX0 2 g2 gd2 ["value", "guests"] spIsSeatBad := ok_is_seating_bad T x_is_seating.F x_is_whole_number
  refine F.ok sc_is_seating_off (fun vs H Q E h => ?_) (fun cdv A outer s H vs Q E hr h => ?_)
  · obtain ⟨v, b, xs, rfl, _⟩ := h
    rfl
  obtain ⟨v, b, xs, rfl, hb, hl, hn, q⟩ := h
  refine ⟨_, (pss_of (l := [_, _]) rfl (pss_cons (ps_if (pt_not (pt_val (pe_call G_is_seating hr rfl x_is_seating.m x_is_seating.F.kp x_is_seating.b .nil pass0 (pa_cons (pv 0) (pa_cons (pe_callB call_len_seq rfl T.n_len b_len (pa_cons (pv 1) pa_nil)) pa_nil))))) (pss_one (ps_ret pe_bl)) pss_nil)
      (pss_one (ps_ret (pe_callB (call_allB rfl) rfl T.n_all b_all (pa_cons (pe_comp rfl sc_is_seating_off_0 (pi_zip rfl T.n_zip (pa_cons (pv 0) (pa_cons (pv 1) pa_nil))) (fun _ _ _ => (pg_tup rfl (pgs_cons (pg_name (i := 0) sc_is_seating_off_0.nd rfl (Or.inl rfl)) (pgs_cons (pg_name (i := 1) sc_is_seating_off_0.nd rfl (Or.inl rfl)) pgs_nil)))) (fun _ _ _ => pif_nil) (fun _ _ _ => (pe_cmpR op_ne (pv 0) (pv 1) (nomark _)))) pa_nil)))))), ?_⟩
  refine ⟨_, rfl, _, rfl, b, _, rfl, .inl (SqL.of hb), v, xs.length, by rw [lz_len]; rfl, hn, by omega, fun H1 s1 => ?_⟩
  exact ⟨false, rfl, iteT (q _ s1)⟩
end
end OS

namespace OS
open PySem L2
structure Xc (K : PySem.W.Frag) (mg : Str → Option Value) (x : Str) (C S : Addr) : Prop where
  m : mg x = some (.ref C)
  q : PySem.W.excIn K C [.type "ValueError", .type "Exception", .type "BaseException", .type "object"] "ValueError.__new__" = true
  e : L2X.Ex K C
  sub : PySem.W.mroIn K C (.ref S) = some true
section
variable {P : Program} {w : World} {K : PySem.W.Frag} {mg : Str → Option Value} {base : Heap}
def spRefE (C : Addr) : Sp := fun vs H _ E => ∃ v, vs = [v] ∧ NotShuns H v ∧ ∀ H', Same H H' → E (.ref C) none H'
def spRefE2 (C : Addr) : Sp := fun vs H _ E => ∃ v u, vs = [v, u] ∧ NotShuns H v ∧ ∀ H', Same H H' → E (.ref C) none H'
theorem ok_refuse_E {f g g2 C S : Addr} {fd gd gd2 : FuncData} (T : Nm mg) (F : Fun K "refuse_bad_shuns" "refuse_bad_shuns" s_refuse_bad_shuns f fd) (x_BadShuns : Xc K mg "BadShuns" C S)
    (x_are_shuns : Fx K mg "are_shuns" ["value"] s_are_shuns g2 gd2) (x_is_whole_number : Fx K mg "is_whole_number" ["value"] s_is_whole_number g gd) : FnOk P w K mg base (CXe P w) 3 f fd ["shuns"] (spRefE C) := by
  have G_are_shuns : FnOk P w K mg base CX0 2 g2 gd2 ["value"] spAreBad := ok_are_bad T x_are_shuns.F x_is_whole_number
  refine F.okE sc_refuse_bad_shuns (fun vs H Q E h => ?_) (fun cdv A outer s H vs Q E hr h => ?_)
  · obtain ⟨v, rfl, _⟩ := h
    rfl
  obtain ⟨v, rfl, hn, q⟩ := h
  refine ⟨_, (pss_of (l := [_]) rfl (pss_one (ps_if (pt_not (pt_val (pe_call G_are_shuns hr rfl x_are_shuns.m x_are_shuns.F.kp x_are_shuns.b .nil pass0 (pa_cons (pv 0) pa_nil)))) (pss_one (ps_raise rfl x_BadShuns.m x_BadShuns.q (pa_cons pe_str pa_nil))) pss_nil))), ?_⟩
  refine ⟨_, rfl, v, rfl, hn, fun H1 s1 => ⟨false, rfl, iteT ?_⟩⟩
  exact ⟨by decide, q _ s1⟩
section
variable {C S f1 : Addr} {fd1 : FuncData} (x_refuse_bad_shuns : Fx K mg "refuse_bad_shuns" ["shuns"] s_refuse_bad_shuns f1 fd1) (G : FnOk P w K mg base (CXe P w) 3 f1 fd1 ["shuns"] (spRefE C))
include x_refuse_bad_shuns G
theorem ok_counts_E {f : Addr} {fd : FuncData} (F : Fun K "counts" "counts" s_counts f fd) : FnOk P w K mg base (CXe P w) 4 f fd ["shuns"] (spRefE C) := by
  refine F.okE sc_counts (fun vs H Q E h => ?_) (fun cdv A outer s H vs Q E hr h => ?_)
  · obtain ⟨v, rfl, _⟩ := h
    rfl
  obtain ⟨v, rfl, hn, q⟩ := h
  refine ⟨_, (pss_of (l := [_, _, _]) rfl (pss_cons (ps_expr (pe_call G hr rfl x_refuse_bad_shuns.m x_refuse_bad_shuns.F.kp x_refuse_bad_shuns.b .nil passE (pa_cons (pv 0) pa_nil))) pss_never)), ?_⟩
  exact ⟨_, rfl, v, rfl, hn, q⟩
theorem ok_seated_E {f : Addr} {fd : FuncData} (F : Fun K "seated" "seated" s_seated f fd) : FnOk P w K mg base (CXe P w) 4 f fd ["shuns"] (spRefE C) := by
  refine F.okE sc_seated (fun vs H Q E h => ?_) (fun cdv A outer s H vs Q E hr h => ?_)
  · obtain ⟨v, rfl, _⟩ := h
    rfl
  obtain ⟨v, rfl, hn, q⟩ := h
  refine ⟨_, (pss_of (l := [_, _, _, _, _, _]) rfl (pss_cons (ps_expr (pe_call G hr rfl x_refuse_bad_shuns.m x_refuse_bad_shuns.F.kp x_refuse_bad_shuns.b .nil passE (pa_cons (pv 0) pa_nil))) pss_never)), ?_⟩
  exact ⟨_, rfl, v, rfl, hn, q⟩
theorem ok_seating_of_E {f : Addr} {fd : FuncData} (F : Fun K "seating_of" "seating_of" s_seating_of f fd) : FnOk P w K mg base (CXe P w) 4 f fd ["shuns", "number"] (spRefE2 C) := by
  refine F.okE sc_seating_of (fun vs H Q E h => ?_) (fun cdv A outer s H vs Q E hr h => ?_)
  · obtain ⟨v, u, rfl, _⟩ := h
    rfl
  obtain ⟨v, u, rfl, hn, q⟩ := h
  refine ⟨_, (pss_of (l := [_, _, _, _, _, _, _]) rfl (pss_cons (ps_expr (pe_call G hr rfl x_refuse_bad_shuns.m x_refuse_bad_shuns.F.kp x_refuse_bad_shuns.b .nil passE (pa_cons (pv 0) pa_nil))) pss_never)), ?_⟩
  exact ⟨_, rfl, v, rfl, hn, q⟩
theorem ok_number_of_E {f : Addr} {fd : FuncData} (F : Fun K "number_of" "number_of" s_number_of f fd) : FnOk P w K mg base (CXe P w) 4 f fd ["shuns", "seating"] (spRefE2 C) := by
  refine F.okE sc_number_of (fun vs H Q E h => ?_) (fun cdv A outer s H vs Q E hr h => ?_)
  · obtain ⟨v, u, rfl, _⟩ := h
    rfl
  obtain ⟨v, u, rfl, hn, q⟩ := h
  refine ⟨_, (pss_of (l := [_, _, _, _, _, _]) rfl (pss_cons (ps_expr (pe_call G hr rfl x_refuse_bad_shuns.m x_refuse_bad_shuns.F.kp x_refuse_bad_shuns.b .nil passE (pa_cons (pv 0) pa_nil))) pss_never)), ?_⟩
  exact ⟨_, rfl, v, rfl, hn, q⟩
end
def spDoor (C : Addr) : Sp := fun vs H _ E => ∃ (d : Int) (v : V), vs = [.int d, v] ∧ 0 ≤ d ∧ d < 4 ∧ NotShuns H v ∧ ∀ H', Same H H' → E (.ref C) none H'
theorem ok_with_shuns {f C f1 f2 f3 f4 : Addr} {fd fd1 fd2 fd3 fd4 : FuncData} (T : Nm mg) (F : Fun K "_law_with_shuns" "_law_with_shuns" s__law_with_shuns f fd)
    (x_counts : Fx K mg "counts" ["shuns"] s_counts f1 fd1) (G_counts : FnOk P w K mg base (CXe P w) 4 f1 fd1 ["shuns"] (spRefE C))
    (x_seated : Fx K mg "seated" ["shuns"] s_seated f2 fd2) (G_seated : FnOk P w K mg base (CXe P w) 4 f2 fd2 ["shuns"] (spRefE C))
    (x_seating_of : Fx K mg "seating_of" ["shuns", "number"] s_seating_of f3 fd3) (G_seating_of : FnOk P w K mg base (CXe P w) 4 f3 fd3 ["shuns", "number"] (spRefE2 C))
    (x_number_of : Fx K mg "number_of" ["shuns", "seating"] s_number_of f4 fd4) (G_number_of : FnOk P w K mg base (CXe P w) 4 f4 fd4 ["shuns", "seating"] (spRefE2 C)) :
    FnOk P w K mg base (CXe P w) 5 f fd ["_law_door", "_law_shuns_here"] (spDoor C) := by
  refine F.okE sc__law_with_shuns (fun vs H Q E h => ?_) (fun cdv A outer s H vs Q E hr h => ?_)
  · obtain ⟨d, v, rfl, _⟩ := h
    rfl
  obtain ⟨d, v, rfl, h0, h4, hn, q⟩ := h
  refine ⟨_, (pss_of (l := [_, _]) rfl (pss_cons (ps_if (pt_cmpR op_lt (pv 0) pe_int (nomark _)) (pss_one (ps_ret (pe_ifExp (pt_cmpR op_eq (pv 0) pe_int (nomark _)) (pe_call G_counts hr rfl x_counts.m x_counts.F.kp x_counts.b .nil passE (pa_cons (pv 1) pa_nil)) (pe_call G_seated hr rfl x_seated.m x_seated.F.kp x_seated.b .nil passE (pa_cons (pv 1) pa_nil))))) pss_nil)
      (pss_one (ps_ret (pe_ifExp (pt_cmpR op_eq (pv 0) pe_int (nomark _)) (pe_call G_seating_of hr rfl x_seating_of.m x_seating_of.F.kp x_seating_of.b .nil passE (pa_cons (pv 1) (pa_cons (pe_un un_neg pe_int) pa_nil))) (pe_call G_number_of hr rfl x_number_of.m x_number_of.F.kp x_number_of.b .nil passE (pa_cons (pv 1) (pa_cons pe_non pa_nil)))))))), ?_⟩
  refine ⟨_, rfl, _, _, rfl, rfl, _, rfl, if2 (fun c => ?_) (fun c => ?_)⟩
  · refine ⟨_, rfl, rfl, _, rfl, if2 (fun c1 => ?_) (fun c1 => ?_)⟩
    · exact ⟨_, rfl, v, rfl, hn, q⟩
    · exact ⟨_, rfl, v, rfl, hn, q⟩
  · refine ⟨_, rfl, rfl, _, rfl, if2 (fun c1 => ?_) (fun c1 => ?_)⟩
    · exact ⟨_, rfl, _, rfl, v, _, rfl, hn, q⟩
    · exact ⟨_, rfl, v, _, rfl, hn, q⟩
def BadNum (H : Hp) (xs : List Int) (v : V) : Prop := Thing H v ∧ ∀ i, v = .int i → i < 0 ∨ cnt (rngI xs.length) xs ≤ i
def spNumE (C : Addr) : Sp := fun vs H _ E => ∃ (a : Addr) (xs : List Int) (v : V), vs = [.ref a, v] ∧ H a = some (lz xs) ∧ xs.length ≤ 63 ∧ (∀ x ∈ xs, -1 ≤ x ∧ x < xs.length) ∧ BadNum H xs v ∧ ∀ H', Same H H' → E (.ref C) none H'
theorem ok_seating_of_N {f C CN S f1 f2 f3 f4 f5 f6 f7 : Addr} {fd fd1 fd2 fd3 fd4 fd5 fd6 fd7 : FuncData} (T : Nm mg) (F : Fun K "seating_of" "seating_of" s_seating_of f fd) (x_BadNumber : Xc K mg "BadNumber" CN S) (B : TF P w K mg base C f1 f2 f3 f4 f5 f6 f7 fd1 fd2 fd3 fd4 fd5 fd6 fd7) :
    FnOk P w K mg base (CXe P w) 5 f fd ["shuns", "number"] (spNumE CN) := by
  obtain ⟨x_Table, X, x_refuse_bad_shuns, G_refuse_bad_shuns, x_is_whole_number, _, x_count_off, G_count_off, x_Table___init__, G_Table___init__, _, _, _, _, _, _⟩ := B
  have G_is_whole_number : FnOk P w K mg base CX0 4 _ _ ["value"] spIsWV := (ok_is_whole_V T x_is_whole_number.F).mono (by decide)
  refine F.okE sc_seating_of (fun vs H Q E h => ?_) (fun cdv A outer s H vs Q E hr h => ?_)
  · obtain ⟨a, xs, v, rfl, _⟩ := h
    rfl
  obtain ⟨a, xs, v, rfl, ha, hl, hv, ⟨ht, hbad⟩, q⟩ := h
  have hu := hu_of hr
  refine ⟨_, (pss_of (l := [_, _, _, _, _, _, _]) rfl (pss_cons (ps_expr (pe_call G_refuse_bad_shuns hr rfl x_refuse_bad_shuns.m x_refuse_bad_shuns.F.kp x_refuse_bad_shuns.b .nil pass0 (pa_cons (pv 0) pa_nil)))
      (pss_cons (ps_set (i := 2) sc_seating_of.nd rfl (Or.inl rfl) (pe_make ⟨x_Table.mks, x_Table___init__.me.at_, x_Table___init__.me.fn, x_Table.kc⟩ G_Table___init__ hr rfl x_Table.m x_Table___init__.b .nil pass0 (pa_cons (pv 0) pa_nil)))
      (pss_cons (ps_if (PW.pt (pw_or (pt_not (pt_val (pe_call G_is_whole_number hr rfl x_is_whole_number.m x_is_whole_number.F.kp x_is_whole_number.b .nil pass0 (pa_cons (pv 1) pa_nil)))) (pw_or (pt_cmpR op_lt (pv 1) pe_int (nomark _)) (pw_or1 (pt_cmpR op_ge (pv 1) (pe_call G_count_off hr rfl x_count_off.m x_count_off.F.kp x_count_off.b .nil pass0 (pa_cons (pe_fld (pv 2) rfl) pa_nil)) (nomark _))))))
        (pss_one (ps_raise rfl x_BadNumber.m x_BadNumber.q (pa_cons pe_str pa_nil))) pss_nil) pss_never)))), ?_⟩
  refine ⟨_, rfl, a, xs, rfl, ha, by omega, hv, fun H1 s1 => ?_⟩
  refine ⟨_, rfl, fun p dx np ndx nex => ?_⟩
  have s2 : Same H1 (upd (upd H1 dx (.own p)) p (.ins C dx [])) := fun b o e => by
    rw [upd_ne (ne_of_none e np), upd_ne (ne_of_none e ndx)]
    exact e
  refine ⟨p, dx, a, xs, rfl, upd_same, s2 _ _ (s1 _ _ ha), hl, hv, fun d r1 H2 nd nr1 kp2 O => ⟨rfl, ?_⟩⟩
  have s3 : Same H H2 := fun b o e => kp2 b o (ne_of_none (s1 _ _ e) np) (s2 _ _ (s1 _ _ e))
  clear kp2 s2 s1 np ndx nd nex
  refine ⟨_, rfl, v, rfl, ht.same s3, wholeV v, rfl, ?_⟩
  by_cases hw : ∃ z, v = .int z
  rotate_left
  · have h1 : wholeV v = false := by
      cases v with
      | int z => exact absurd ⟨z, rfl⟩ hw
      | _ => rfl
    rw [h1]
    refine iteT ?_
    exact iteT ⟨by decide, q _ s3⟩
  obtain ⟨k, rfl⟩ := hw
  refine iteF ?_
  refine ⟨_, rfl, _, _, rfl, rfl, _, rfl, if2 (fun c => ?_) (fun c => ?_)⟩
  · exact iteT ⟨by decide, q _ s3⟩
  have hk := (hbad k rfl).resolve_left c
  obtain ⟨⟨dx1, eo⟩, er, ed⟩ := id O
  have er' : H2 r1 = some (lz (tab (((rngI xs.length).map (fun s => ((xs.count s : Nat) : Int))).length + 1) (pk ((rngI xs.length).map (fun s => ((xs.count s : Nat) : Int)))))) := by
    rw [er, List.length_map]
  refine ⟨_, rfl, _, rfl, p, C, dx1, _, _, rfl, eo, X.cl, X.nW, tfl_w _ _, r1, _, rfl, er', by rw [List.length_map, rngI_length]; omega, fun H3 s4 => ?_⟩
  refine ⟨_, _, rfl, rfl, _, rfl, ifY ?_ ?_⟩
  · rw [List.length_map]
    exact hk
  · exact ⟨by decide, q _ (s3.trans s4)⟩
def spOffE (C : Addr) : Sp := fun vs H _ E => ∃ (a : Addr) (xs : List Int) (v : V), vs = [.ref a, v] ∧ H a = some (lz xs) ∧ xs.length ≤ 63 ∧ (∀ x ∈ xs, -1 ≤ x ∧ x < xs.length) ∧ NotOff H xs v ∧ ∀ H', Same H H' → E (.ref C) none H'
theorem ok_number_of_S {f CS S f1 f2 : Addr} {fd fd1 fd2 : FuncData} (T : Nm mg) (F : Fun K "number_of" "number_of" s_number_of f fd) (x_BadSeating : Xc K mg "BadSeating" CS S)
    (x_refuse_bad_shuns : Fx K mg "refuse_bad_shuns" ["shuns"] s_refuse_bad_shuns f1 fd1) (G_refuse_bad_shuns : FnOk P w K mg base CX0 4 f1 fd1 ["shuns"] spRefuse)
    (x_is_seating_off : Fx K mg "is_seating_off" ["value", "shuns"] s_is_seating_off f2 fd2) (G1 : FnOk P w K mg base CX0 4 f2 fd2 ["value", "shuns"] spIsOff) (G2 : FnOk P w K mg base CX0 4 f2 fd2 ["value", "shuns"] spIsOffBad) :
    FnOk P w K mg base (CXe P w) 5 f fd ["shuns", "seating"] (spOffE CS) := by
  refine F.okE sc_number_of (fun vs H Q E h => ?_) (fun cdv A outer s H vs Q E hr h => ?_)
  · obtain ⟨a, xs, v, rfl, _⟩ := h
    rfl
  obtain ⟨a, xs, v, rfl, ha, hl, hv, hn, q⟩ := h
  rcases hn with hn | ⟨b, ss, rfl, hb, ho⟩
  · refine ⟨_, (pss_of (l := [_, _, _, _, _, _]) rfl (pss_cons (ps_expr (pe_call G_refuse_bad_shuns hr rfl x_refuse_bad_shuns.m x_refuse_bad_shuns.F.kp x_refuse_bad_shuns.b .nil pass0 (pa_cons (pv 0) pa_nil)))
      (pss_cons (ps_if (pt_not (pt_val (pe_call G2 hr rfl x_is_seating_off.m x_is_seating_off.F.kp x_is_seating_off.b .nil pass0 (pa_cons (pv 1) (pa_cons (pv 0) pa_nil))))) (pss_one (ps_raise rfl x_BadSeating.m x_BadSeating.q (pa_cons pe_str pa_nil))) pss_nil) pss_never))), ?_⟩
    refine ⟨_, rfl, a, xs, rfl, ha, by omega, hv, fun H1 s1 => ?_⟩
    refine ⟨_, rfl, _, rfl, v, a, xs, rfl, s1 _ _ ha, by omega, hn.same s1, fun H2 s2 => ⟨false, rfl, iteT ?_⟩⟩
    exact ⟨by decide, q _ (s1.trans s2)⟩
  · refine ⟨_, (pss_of (l := [_, _, _, _, _, _]) rfl (pss_cons (ps_expr (pe_call G_refuse_bad_shuns hr rfl x_refuse_bad_shuns.m x_refuse_bad_shuns.F.kp x_refuse_bad_shuns.b .nil pass0 (pa_cons (pv 0) pa_nil)))
      (pss_cons (ps_if (pt_not (pt_val (pe_call G1 hr rfl x_is_seating_off.m x_is_seating_off.F.kp x_is_seating_off.b .nil pass0 (pa_cons (pv 1) (pa_cons (pv 0) pa_nil))))) (pss_one (ps_raise rfl x_BadSeating.m x_BadSeating.q (pa_cons pe_str pa_nil))) pss_nil) pss_never))), ?_⟩
    refine ⟨_, rfl, a, xs, rfl, ha, by omega, hv, fun H1 s1 => ?_⟩
    refine ⟨_, rfl, _, rfl, b, a, ss, xs, rfl, s1 _ _ hb, s1 _ _ ha, by omega, fun H2 s2 => ⟨_, rfl, ?_⟩⟩
    rw [ho]
    exact iteT ⟨by decide, q _ (s1.trans s2)⟩
end
end OS

namespace OS
open PySem L2
theorem b_ValueError : bootBuiltins "ValueError" = some (.type "ValueError") := by decide +kernel
theorem b_tuple : bootBuiltins "tuple" = some (.type "tuple") := by decide +kernel
structure Errs (K : PySem.W.Frag) (mg : Str → Option Value) (C0 C1 C2 S : Addr) : Prop where
  b0 : Xc K mg "BadShuns" C0 S
  b1 : Xc K mg "BadNumber" C1 S
  b2 : Xc K mg "BadSeating" C2 S
  s : mg "SeatError" = some (.ref S)
  eS : L2X.Ex K S
  nV : mg "ValueError" = none
  k00 : PySem.W.kitOne K (.ref C0) (.ref C0) = some true
  k01 : PySem.W.kitOne K (.ref C0) (.ref C1) = some false
  k02 : PySem.W.kitOne K (.ref C0) (.ref C2) = some false
  k10 : PySem.W.kitOne K (.ref C1) (.ref C0) = some false
  k11 : PySem.W.kitOne K (.ref C1) (.ref C1) = some true
  k12 : PySem.W.kitOne K (.ref C1) (.ref C2) = some false
  k20 : PySem.W.kitOne K (.ref C2) (.ref C0) = some false
  k21 : PySem.W.kitOne K (.ref C2) (.ref C1) = some false
  k22 : PySem.W.kitOne K (.ref C2) (.ref C2) = some true
  v0 : PySem.W.kitOne K (.ref C0) (.type "ValueError") = some true
  v1 : PySem.W.kitOne K (.ref C1) (.type "ValueError") = some true
  v2 : PySem.W.kitOne K (.ref C2) (.type "ValueError") = some true
def dueL (i : Nat) : List Bool := [decide (i = 0), decide (i = 1), decide (i = 2), true]
structure IsE (K : PySem.W.Frag) (C0 C1 C2 S : Addr) (i : Nat) (C : Addr) : Prop where
  e : L2X.Ex K C
  sub : PySem.W.mroIn K C (.ref S) = some true
  k0 : PySem.W.kitOne K (.ref C) (.ref C0) = some (decide (i = 0))
  k1 : PySem.W.kitOne K (.ref C) (.ref C1) = some (decide (i = 1))
  k2 : PySem.W.kitOne K (.ref C) (.ref C2) = some (decide (i = 2))
  v : PySem.W.kitOne K (.ref C) (.type "ValueError") = some true
section
variable {P : Program} {w : World} {K : PySem.W.Frag} {mg : Str → Option Value} {base : Heap} {C0 C1 C2 S : Addr}
theorem Errs.i0 (x : Errs K mg C0 C1 C2 S) : IsE K C0 C1 C2 S 0 C0 := ⟨x.b0.e, x.b0.sub, x.k00, x.k01, x.k02, x.v0⟩
theorem Errs.i1 (x : Errs K mg C0 C1 C2 S) : IsE K C0 C1 C2 S 1 C1 := ⟨x.b1.e, x.b1.sub, x.k10, x.k11, x.k12, x.v1⟩
theorem Errs.i2 (x : Errs K mg C0 C1 C2 S) : IsE K C0 C1 C2 S 2 C2 := ⟨x.b2.e, x.b2.sub, x.k20, x.k21, x.k22, x.v2⟩
def spKinds (K : PySem.W.Frag) (C0 C1 C2 S : Addr) : Sp := fun vs H Q _ => ∃ (a : Addr) (i : Nat) (C : Addr), vs = [.ref a] ∧ IsE K C0 C1 C2 S i C ∧ H a = some (xo a C) ∧ ∀ r H', Same H H' → H r = none → H' r = some (.lst ((dueL i).map V.bl)) → Q (.ref r) H'
theorem ok_law_kinds {f : Addr} {fd : FuncData} (T : Nm mg) (B : Errs K mg C0 C1 C2 S) (F : Fun K "_law_kinds" "_law_kinds" s__law_kinds f fd) : FnH P w K mg base 5 f fd ["_law_error"] (spKinds K C0 C1 C2 S) := by
  have x_BadShuns := B.b0
  have x_BadNumber := B.b1
  have x_BadSeating := B.b2
  have n_ValueError := B.nV
  refine F.okH (k := 4) sc__law_kinds (fun vs H Q E h => ?_) (fun cdv A outer s H vs Q E hr h => ?_)
  · obtain ⟨a, i, C, rfl, _⟩ := h
    rfl
  obtain ⟨a, i, C, rfl, hi, ha, q⟩ := h
  refine ⟨_, (pss_of (l := [_, _]) rfl (pss_cons (ps_set (i := 1) sc__law_kinds.nd rfl (Or.inl rfl) (pe_lst (pa_cons (pe_callB call_isX rfl T.n_isinstance b_isinstance (pa_cons (pv 0) (pa_cons (pe_glob (v := V.ref _) rfl x_BadShuns.m rfl) pa_nil))) (pa_cons (pe_callB call_isX rfl T.n_isinstance b_isinstance (pa_cons (pv 0) (pa_cons (pe_glob (v := V.ref _) rfl x_BadNumber.m rfl) pa_nil))) (pa_cons (pe_callB call_isX rfl T.n_isinstance b_isinstance (pa_cons (pv 0) (pa_cons (pe_glob (v := V.ref _) rfl x_BadSeating.m rfl) pa_nil))) pa_nil)))))
      (pss_one (ps_ret (pe_op op_cat (pv 1) (pe_lst (pa_cons (pe_callB call_isXT rfl T.n_isinstance b_isinstance (pa_cons (pv 0) (pa_cons (pe_bltn (v := V.ty "ValueError") rfl n_ValueError b_ValueError rfl) pa_nil))) pa_nil))))))), ?_⟩
  refine ⟨_, rfl, a, C, _, _, ⟨rfl, hi.k0⟩, ha, hi.e, ?_⟩
  refine ⟨_, rfl, a, C, _, _, ⟨rfl, hi.k1⟩, ha, hi.e, ?_⟩
  refine ⟨_, rfl, a, C, _, _, ⟨rfl, hi.k2⟩, ha, hi.e, (by show 3 ≤ sizeLine; decide), fun p hp => ?_⟩
  have s1 : Same H (upd H p (.lst [.bl (decide (i = 0)), .bl (decide (i = 1)), .bl (decide (i = 2))])) := same_new hp _
  have e1 : (upd H p (.lst [.bl (decide (i = 0)), .bl (decide (i = 1)), .bl (decide (i = 2))])) p = some (.lst [.bl (decide (i = 0)), .bl (decide (i = 1)), .bl (decide (i = 2))]) := upd_same
  replace ha := s1 _ _ ha
  generalize (upd H p (.lst [.bl (decide (i = 0)), .bl (decide (i = 1)), .bl (decide (i = 2))])) = H1 at s1 e1 ha ⊢
  refine ⟨_, rfl, _, rfl, a, C, "ValueError", true, ⟨rfl, hi.v⟩, ha, hi.e, (by show 1 ≤ sizeLine; decide), fun p2 hp2 => ?_⟩
  have s2 : Same H1 (upd H1 p2 (.lst [.bl true])) := same_new hp2 _
  refine ⟨p, p2, _, _, rfl, rfl, s2 _ _ e1, upd_same, small (by simp), fun r hr' => ?_⟩
  exact q r _ ((s1.trans s2).trans (same_new hr' _)) (s1.free (s2.free hr')) upd_same
def spTold (P : Program) (w : World) (K : PySem.W.Frag) (mg : Str → Option Value) (base : Heap) (C0 C1 C2 S : Addr) : Sp := fun vs H Q _ => ∃ (f : Addr) (fd : FuncData) (ps : List Str) (sp : Sp) (x y : V) (i : Nat) (C : Addr), vs = [.ref f, x, y] ∧
  PySem.W.keepIn K (.ref f) = true ∧ Binds K fd ps [] ∧ FnOk P w K mg base (CXe P w) 5 f fd ps sp ∧ IsE K C0 C1 C2 S i C ∧ (∀ E : XK, (∀ H', Same H H' → E (.ref C) none H') → sp [x, y] H (fun _ _ => False) E) ∧
  ∀ r H', Same H H' → H r = none → H' r = some (.lst ((dueL i).map V.bl)) → Q (.ref r) H'
theorem ok_law_told {f g : Addr} {fd gd : FuncData} (T : Nm mg) (B : Errs K mg C0 C1 C2 S) (F : Fun K "_law_told" "_law_told" s__law_told f fd) (x__law_kinds : Fx K mg "_law_kinds" ["_law_error"] s__law_kinds g gd) :
    FnOk P w K mg base CX0 6 f fd ["_law_ask", "_law_one", "_law_other"] (spTold P w K mg base C0 C1 C2 S) := by
  have x_SeatError : Gm mg "SeatError" S := ⟨B.s⟩
  have e_SeatError := B.eS
  have G__law_kinds : FnH P w K mg base 5 g gd ["_law_error"] (spKinds K C0 C1 C2 S) := ok_law_kinds T B x__law_kinds.F
  refine F.ok sc__law_told (fun vs H Q E h => ?_) (fun cdv A outer s H vs Q E hr h => ?_)
  · obtain ⟨f', fd', ps, sp, x, y, i, C, rfl, _⟩ := h
    rfl
  obtain ⟨f', fd', ps, sp, x, y, i, C, rfl, kf, bf, Fo, hi, hsp, q⟩ := h
  refine ⟨_, (pss_of (l := [_, _]) rfl (pss_cons (ps_try rfl rfl rfl hr sc__law_told.nd (i := 3) rfl rfl (j := 0) rfl (Or.inl rfl) rfl x_SeatError.m e_SeatError (fun _ => (pa_cons (pv 1) (pa_cons (pv 2) pa_nil))) (fun _ => (pss_one (ps_ret (pe_callH G__law_kinds (hr.h _) rfl x__law_kinds.m x__law_kinds.F.kp x__law_kinds.b (pa_cons (pv 3) pa_nil))))))
      (pss_one (ps_ret (pe_lst pa_nil))))), ?_⟩
  refine ⟨f', fd', ps, sp, rfl, kf, bf, Fo, ?_⟩
  refine ⟨_, rfl, _, rfl, hsp _ fun H2 s2 => ⟨C, rfl, hi.sub, fun a na => ?_⟩⟩
  refine ⟨_, rfl, a, i, C, rfl, hi, upd_same, fun r H' s3 nr er => ?_⟩
  have s4 : Same H2 (upd H2 a (xo a C)) := same_new na _
  exact q r H' ((s2.trans s4).trans s3) (s2.free (s4.free nr)) er
end
end OS

namespace OS
open PySem L2
theorem FnOk.or {P : Program} {w : World} {K : PySem.W.Frag} {mg : Str → Option Value} {base : Heap} {CX : CXT} {k : Nat} {f : Addr} {fd : FuncData} {ps : List Str} {sp sp' : Sp} (F : FnOk P w K mg base CX k f fd ps sp) (F' : FnOk P w K mg base CX k f fd ps sp') :
    FnOk P w K mg base CX k f fd ps (fun vs H Q E => sp vs H Q E ∨ sp' vs H Q E) :=
  ⟨fun vs H Q E q => q.elim (F.len vs H Q E) (F'.len vs H Q E), fun A outer s H args us vs Q E hr he hb hv hs => hs.elim (F.run A outer s H args us vs Q E hr he hb hv) (F'.run A outer s H args us vs Q E hr he hb hv)⟩
def Flat : V → Bool
  | .non => true
  | .bl _ => true
  | .int _ => true
  | .str _ => true
  | _ => false
theorem flat_other {H : Hp} {y : V} (h : Flat y = true) : Other H y := by
  cases y with
  | non => exact .non
  | bl b => exact .bl b
  | int i => exact .int i
  | str x => exact .str x
  | _ => cases h
theorem flat_ints : ∀ (ys : List V), (∀ y ∈ ys, Flat y = true) → (∃ ss : List Int, ys = ss.map V.int) ∨ ∃ y ∈ ys, wholeV y = false
  | [], _ => .inl ⟨[], rfl⟩
  | y :: ys, h => by
    rcases flat_ints ys fun z hz => h z (List.mem_cons_of_mem _ hz) with ⟨ss, e⟩ | ⟨z, hz, hw⟩
    · cases y with
      | int i => exact .inl ⟨i :: ss, by rw [e]; rfl⟩
      | _ => exact .inr ⟨_, List.mem_cons_self, rfl⟩
    · exact .inr ⟨z, List.mem_cons_of_mem _ hz, hw⟩
def FlatL (ys : List V) : Prop := ∀ y ∈ ys, Flat y = true
theorem flatI (ss : List Int) : FlatL (ss.map V.int) := fun y hy => by
  obtain ⟨z, _, rfl⟩ := List.mem_map.mp hy
  rfl
theorem FlatL.app {xs ys : List V} (h : FlatL xs) (g : FlatL ys) : FlatL (xs ++ ys) := fun y hy => (List.mem_append.mp hy).elim (h y) (g y)
theorem FlatL.drop {xs : List V} (h : FlatL xs) (k : Nat) : FlatL (xs.drop k) := fun y hy => h y (List.mem_of_mem_drop hy)
theorem FlatL.take {xs : List V} (h : FlatL xs) (k : Nat) : FlatL (xs.take k) := fun y hy => h y (List.mem_of_mem_take hy)
theorem flat1 {y : V} (h : Flat y = true) : FlatL [y] := fun z hz => by rw [List.mem_singleton.mp hz]; exact h
theorem flatR {y : V} (h : Flat y = true) (k : Nat) : FlatL (List.replicate k y) := fun z hz => by rw [List.eq_of_mem_replicate hz]; exact h
def Fl (H : Hp) (p : Addr) : Prop := ∃ ys, H p = some (.lst ys) ∧ ys.length ≤ 64 ∧ FlatL ys
theorem Fl.same {H H' : Hp} {p : Addr} (h : Fl H p) (s : Same H H') : Fl H' p := let ⟨ys, e, z⟩ := h; ⟨ys, s _ _ e, z⟩
def Wr (H : Hp) (v : V) : Prop := Other H v ∨ ∃ p, v = .ref p ∧ Fl H p
theorem Wr.but {H H' : Hp} {X : Addr} {v : V} (h : Wr H v) (k : ∀ b o, b ≠ X → H b = some o → H' b = some o) (nv : v ≠ .ref X) : Wr H' v := by
  rcases h with h | ⟨p, e, ys, h, z⟩
  · refine .inl ?_
    cases h with
    | non => exact .non
    | bl b => exact .bl b
    | int i => exact .int i
    | str x => exact .str x
    | @tup a xs e => exact .tup (k _ _ (fun z => nv (by rw [z])) e)
    | @dct a xs e => exact .dct (k _ _ (fun z => nv (by rw [z])) e)
  · exact .inr ⟨p, e, ys, k _ _ (fun q => nv (by rw [e, q])) h, z⟩
theorem Wr.same {H H' : Hp} {v : V} (h : Wr H v) (s : Same H H') : Wr H' v := by
  rcases h with h | ⟨p, e, z⟩
  · exact .inl (h.same s)
  · exact .inr ⟨p, e, z.same s⟩
theorem Wr.ne {H : Hp} {v : V} {X : Addr} (h : Wr H v) (n : H X = none) : v ≠ .ref X := by
  rintro rfl
  rcases h with h | ⟨p, e, ys, h, _⟩
  · cases h with
    | tup e => rw [n] at e; cases e
    | dct e => rw [n] at e; cases e
  · cases e; rw [n] at h; cases h
theorem Wr.fl {H : Hp} {p : Addr} (h : Fl H p) : Wr H (.ref p) := .inr ⟨p, rfl, h⟩
structure WL (H : Hp) (W : Addr) (ws : List V) (k : Nat) : Prop where
  e : H W = some (.lst ws)
  l : ws.length ≤ k
  w : ∀ v ∈ ws, Wr H v ∧ v ≠ .ref W
theorem WL.same {H H' : Hp} {W : Addr} {ws : List V} {k : Nat} (h : WL H W ws k) (s : Same H H') : WL H' W ws k := ⟨s _ _ h.e, h.l, fun v hv => ⟨(h.w v hv).1.same s, (h.w v hv).2⟩⟩
theorem WL.cat {H : Hp} {W r : Addr} {ws ns : List V} {k j : Nat} (h : WL H W ws k) (hn : ∀ v ∈ ns, Wr H v) (hl : ns.length ≤ j) (hr : H r = none) : WL (upd H r (.lst (ws ++ ns))) r (ws ++ ns) (k + j) := by
  refine ⟨upd_same, by rw [List.length_append]; have := h.l; omega, fun v hv => ?_⟩
  have : Wr H v := (List.mem_append.mp hv).elim (fun z => (h.w v z).1) (hn v)
  exact ⟨this.same (same_new hr _), this.ne hr⟩
theorem WL.app {H : Hp} {W : Addr} {ws : List V} {k : Nat} {v : V} (h : WL H W ws k) (hv : Wr H v) (nv : v ≠ .ref W) : WL (upd H W (.lst (ws ++ [v]))) W (ws ++ [v]) (k + 1) := by
  refine ⟨upd_same, by rw [List.length_append]; have := h.l; simp; omega, fun u hu => ?_⟩
  rcases List.mem_append.mp hu with z | z
  · exact ⟨(h.w u z).1.but (fun b o n e => by rw [upd_ne n]; exact e) (h.w u z).2, (h.w u z).2⟩
  · rw [List.mem_singleton.mp z]
    exact ⟨hv.but (fun b o n e => by rw [upd_ne n]; exact e) nv, nv⟩
theorem WL.poke {H : Hp} {W L : Addr} {ws ys : List V} {k : Nat} (h : WL H W (ws ++ [.ref L]) k) (hne : ∀ v ∈ ws, v ≠ .ref L) (nL : V.ref L ≠ .ref W) (hl : ys.length ≤ 64) (hf : FlatL ys) : WL (upd H L (.lst ys)) W (ws ++ [.ref L]) k := by
  refine ⟨by rw [upd_ne (fun z => nL (by rw [z]))]; exact h.e, h.l, fun v hv => ?_⟩
  rcases List.mem_append.mp hv with z | z
  · exact ⟨(h.w v hv).1.but (fun b o n e => by rw [upd_ne n]; exact e) (hne v z), (h.w v hv).2⟩
  · rw [List.mem_singleton.mp z]
    exact ⟨.fl ⟨ys, upd_same, hl, hf⟩, nL⟩
theorem atI_last {α : Type} (ws : List α) (v : α) : atI (ws ++ [v]) (-1) = some v := by
  unfold atI ixN
  rw [if_neg (by decide), if_pos (by simp; omega)]
  show (ws ++ [v])[((-1 : Int) + ((ws ++ [v]).length : Int)).toNat]? = _
  rw [show ((-1 : Int) + ((ws ++ [v]).length : Int)).toNat = ws.length by simp; omega]
  simp
theorem filter_len {n : Nat} {z : Int} (h0 : 0 ≤ z) (h1 : z < n) : ((rngI n).filter (fun s => decide (s ≠ z))).length + 1 = n := by
  have hm : z ∈ rngI n := (rngI_mem n z).mpr ⟨h0, h1⟩
  have e : (rngI n).filter (fun s => decide (s ≠ z)) = (rngI n).erase z := by
    rw [(rngI_nodup n).erase_eq_filter]
    congr 1
    funext s
    by_cases q : s = z <;> simp [q]
  have hp := List.length_pos_of_mem hm
  rw [e, List.length_erase_of_mem hm, rngI_length] at *
  omega
section
variable {P : Program} {w : World} {K : PySem.W.Frag} {mg : Str → Option Value} {base : Heap} {C0 C1 C2 S : Addr}
def spLOffBad : Sp := fun vs H Q _ => ∃ (b a : Addr) (ys : List V), vs = [.ref b, .ref a] ∧ H a = some (.lst ys) ∧ ys.length ≤ 100 ∧ FlatL ys ∧ (∃ y ∈ ys, wholeV y = false) ∧ ∀ H', Same H H' → Q (.bl false) H'
theorem ok_law_off_bad {f f1 : Addr} {fd fd1 : FuncData} (T : Nm mg) (F : Fun K "_law_off" "_law_off" s__law_off f fd)
    (x__law_whole : Fx K mg "_law_whole" ["_law_number"] s__law_whole f1 fd1) : FnOk P w K mg base CX0 2 f fd ["_law_shuns_here", "_law_found"] spLOffBad := by
  have G__law_whole : FnOk P w K mg base CX0 1 f1 fd1 ["_law_number"] spIsWV := ok_law_whole_V T x__law_whole.F
  refine F.ok sc__law_off (fun vs H Q E h => ?_) (fun cdv A outer s H vs Q E hr h => ?_)
  · obtain ⟨b, a, ys, rfl, _⟩ := h
    rfl
  obtain ⟨b, a, xs, rfl, ha, hl, hf, ⟨y0, hy0, hw0⟩, q⟩ := h
  have hu0 := hr.units0
  refine ⟨_, (pss_of (l := [_, _, _]) rfl (pss_cons (ps_if (PW.pt (pw_or (pt_not (pt_val (pe_callB call_isT rfl T.n_isinstance b_isinstance (pa_cons (pv 1) (pa_cons (pe_bltn (v := V.ty "list") rfl T.n_list b_list rfl) pa_nil))))) (pw_or1 (pt_not (pt_val (pe_callB (call_allB rfl) rfl T.n_all b_all (pa_cons (pe_comp rfl sc__law_off_0 (pi_list (pv 1)) (fun _ _ _ => (pg_name (i := 0) sc__law_off_0.nd rfl (Or.inl rfl))) (fun _ _ _ => pif_nil) (fun _ _ _ => (pe_call G__law_whole hr rfl x__law_whole.m x__law_whole.F.kp x__law_whole.b .nil pass0 (pa_cons (pv 0) pa_nil)))) pa_nil))))))) (pss_one (ps_ret pe_bl)) pss_nil)
      (pss_cons (ps_if (pt_cmpR (op_neL hu0) (pe_callB call_sortedW rfl T.n_sorted b_sorted (pa_cons (pv 1) pa_nil)) (pe_callTy (call_list_rng rfl) rfl T.n_list b_list (pa_cons (pe_callTy call_rng1 rfl T.n_range PyProof.Rows.boot_range (pa_cons (pe_callB call_len_seq rfl T.n_len b_len (pa_cons (pv 0) pa_nil)) pa_nil)) pa_nil)) (nomark _)) (pss_one (ps_ret pe_bl)) pss_nil)
      (pss_one (ps_ret (pe_not (pe_callB (call_anyB rfl) rfl T.n_any b_any (pa_cons (pe_comp rfl sc__law_off_1 (pi_zip rfl T.n_zip (pa_cons (pv 1) (pa_cons (pv 0) pa_nil))) (fun _ _ _ => (pg_tup rfl (pgs_cons (pg_name (i := 0) sc__law_off_1.nd rfl (Or.inl rfl)) (pgs_cons (pg_name (i := 1) sc__law_off_1.nd rfl (Or.inl rfl)) pgs_nil)))) (fun _ _ _ => pif_nil) (fun _ _ _ => (pe_cmpR op_eq (pv 0) (pv 1) (nomark _)))) pa_nil)))))))), ?_⟩
  refine ⟨_, rfl, _, _, _, _, rfl, .lst ha, kit_same _ _, true, rfl, iteF ?_⟩
  refine ⟨_, rfl, a, rfl, ⟨_, SqL.of ha⟩, fun D hD _ _ => ?_⟩
  refine comp_list (K := K) (a := a) (xs := xs) (fun i ys σ H' => Same H H' ∧ H' D = some (.lst ys) ∧ ys = ((xs.take i).map wholeV).map V.bl ∧ ∃ u, σ = [u])
    ⟨same_new hD _, upd_same, rfl, none, rfl⟩ (fun i ys σ H' _ ⟨s6, e6, _⟩ => ⟨SqL.of (s6 _ _ ha), e6⟩) ?_ ?_
  · rintro j x ys σ H' hj ⟨s6, e6, rfl, u, rfl⟩
    have hjl := (List.getElem?_eq_some_iff.mp hj).1
    refine ⟨small1000 (by simp; omega), ?_⟩
    exact ⟨_, rfl, x, rfl, .inl (flat_other (hf x (List.mem_of_getElem? hj))), e6, same_upd s6 hD, upd_same, map_next _ hj rfl, _, rfl⟩
  rintro ys σ H1 ⟨s1, e6, rfl, u, rfl⟩
  rw [List.take_length] at e6
  refine ⟨D, _, rfl, SqL.of e6, ?_⟩
  have e : (xs.map wholeV).all id = false := by
    rw [List.all_eq_false]
    exact ⟨false, List.mem_map.mpr ⟨y0, hy0, hw0⟩, by decide⟩
  rw [e]
  exact ⟨false, rfl, iteT (q _ s1)⟩
def spRight : Sp := fun vs H Q _ => ∃ (b du : Addr) (xs : List Int) (far : Int), vs = [.ref b, .ref du, .int far] ∧ H b = some (lz xs) ∧ xs.length ≤ 63 ∧ (∀ x ∈ xs, -1 ≤ x ∧ x < xs.length) ∧ H du = some (.lst ((dueL 2).map V.bl)) ∧ ∀ H', Same H H' → Q (.bl true) H'
theorem ok_seatings_right {f f1 f2 f3 : Addr} {fd fd1 fd2 fd3 : FuncData} (T : Nm mg) (B : Errs K mg C0 C1 C2 S) (n_tuple : mg "tuple" = none) (F : Fun K "_law_seatings_right" "_law_seatings_right" s__law_seatings_right f fd)
    (x__law_off : Fx K mg "_law_off" ["_law_shuns_here", "_law_found"] s__law_off f1 fd1) (G__law_off : FnOk P w K mg base CX0 6 f1 fd1 ["_law_shuns_here", "_law_found"] (fun vs H Q E => spLOff vs H Q E ∨ spLOffBad vs H Q E))
    (x__law_told : Fx K mg "_law_told" ["_law_ask", "_law_one", "_law_other"] s__law_told f2 fd2) (G__law_told : FnOk P w K mg base CX0 6 f2 fd2 ["_law_ask", "_law_one", "_law_other"] (spTold P w K mg base C0 C1 C2 S))
    (x_number_of : Fx K mg "number_of" ["shuns", "seating"] s_number_of f3 fd3) (G_number_of : FnOk P w K mg base (CXe P w) 5 f3 fd3 ["shuns", "seating"] (spOffE C2)) :
    FnOk P w K mg base CX0 7 f fd ["_law_shuns_here", "_law_due", "_law_far_here"] spRight := by
  refine F.ok sc__law_seatings_right (fun vs H Q E h => ?_) (fun cdv A outer s H vs Q E hr h => ?_)
  · obtain ⟨b, du, xs, far, rfl, _⟩ := h
    rfl
  obtain ⟨b, du, xs, far, rfl, hb, hl, hv, hdu, q⟩ := h
  have hu0 := hr.units0
  refine ⟨_, (pss_of (l := [_, _, _, _, _, _, _, _, _]) rfl (pss_cons (ps_set (i := 3) sc__law_seatings_right.nd rfl (Or.inl rfl) (pe_callB call_len_seq rfl T.n_len b_len (pa_cons (pv 0) pa_nil)))
      (pss_cons (ps_set (i := 4) sc__law_seatings_right.nd rfl (Or.inl rfl) (pe_callTy (call_list_rng rfl) rfl T.n_list b_list (pa_cons (pe_callTy call_rng1 rfl T.n_range PyProof.Rows.boot_range (pa_cons (pv 3) pa_nil)) pa_nil)))
      (pss_cons (ps_set (i := 5) sc__law_seatings_right.nd rfl (Or.inl rfl) (pe_lst (pa_cons pe_non (pa_cons (pe_callTy call_tuple_of rfl n_tuple b_tuple (pa_cons (pv 4) pa_nil)) (pa_cons pe_str (pa_cons pe_dnewK (pa_cons pe_int (pa_cons (pe_op op_cat (pv 4) (pe_lst (pa_cons (pv 3) pa_nil))) (pa_cons (pe_op op_cat (pv 4) (pe_lst (pa_cons pe_int pa_nil))) (pa_cons (pe_op op_rep (pe_lst (pa_cons pe_non pa_nil)) (pe_op op_add (pv 3) pe_int)) pa_nil))) se_const)) se_const)) se_const)))
      (pss_cons (ps_expr (pe_bm PySem.F.plainAttrs_list PySem.F.slot_list_append PySem.F.type_list_append mt_append (pv 5) (pa_cons (pe_op op_rep (pe_lst (pa_cons (pe_op op_add (pv 3) (pv 2)) pa_nil)) (pe_op op_add (pv 3) pe_int)) pa_nil)))
      (pss_cut (ps_if (pt_cmpR op_gt (pv 3) pe_int (nomark _)) (pss_cons (ps_set (i := 5) sc__law_seatings_right.nd rfl (Or.inl rfl) (pe_op op_cat (pv 5) (pe_lst (pa_cons (pe_slice sl_list (pv 4) (po_some pe_int) po_none) (pa_cons (pe_slice sl_list (pv 4) po_none (po_some (pe_un un_neg pe_int))) (pa_cons (pe_op op_cat (pe_lst (pa_cons (pe_un un_neg pe_int) pa_nil)) (pe_slice sl_list (pv 4) (po_some pe_int) po_none)) (pa_cons (pe_op op_cat (pe_slice sl_list (pv 4) po_none (po_some (pe_un un_neg pe_int))) (pe_lst (pa_cons (pv 3) pa_nil))) (pa_cons (pe_op op_cat (pe_slice sl_list (pv 4) po_none (po_some (pe_un un_neg pe_int))) (pe_lst (pa_cons pe_str pa_nil))) (pa_cons (pv 0) pa_nil)))))))))
      (pss_one (ps_set (i := 5) sc__law_seatings_right.nd rfl (Or.inl rfl) (pe_op op_cat (pv 5) (pe_lst (pa_cons (pe_op op_cat (pe_lst (pa_cons pe_bl pa_nil)) (pe_slice sl_list (pv 4) (po_some pe_int) po_none)) (pa_cons (pe_op op_cat (pe_slice sl_list (pv 4) po_none (po_some (pe_un un_neg pe_int))) (pe_lst (pa_cons pe_non pa_nil))) pa_nil))))))) pss_nil)
      (pss_cut (ps_if (pt_cmpR op_gt (pv 3) pe_int (nomark _)) (pss_one (ps_set (i := 5) sc__law_seatings_right.nd rfl (Or.inl rfl) (pe_op op_cat (pv 5) (pe_lst (pa_cons (pe_op op_cat (pe_lst (pa_cons (pe_ix ix_list (pv 4) pe_int (fun _ _ => rfl)) pa_nil)) (pe_slice sl_list (pv 4) (po_some pe_int) po_none)) (pa_cons (pe_op op_cat (pe_slice sl_list (pv 4) po_none (po_some (pe_un un_neg pe_int))) (pe_slice sl_list (pv 4) po_none (po_some pe_int))) pa_nil)))))) pss_nil)
      (pss_cons (ps_for PassesOwn.never rfl (pi_up rfl T.n_range (pa_cons pe_int (pa_cons (pv 3) (pa_cons (pe_op op_add pe_int (pe_op op_fdiv (pv 3) pe_int)) pa_nil)))) (pg_name (i := 6) sc__law_seatings_right.nd rfl (Or.inr rfl)) (pss_one (ps_if (pt_cmpR op_ge (pe_ix ix_list (pv 0) (pv 6) (fun _ _ => rfl)) pe_int (nomark _)) (pss_cons (ps_expr (pe_bm PySem.F.plainAttrs_list PySem.F.slot_list_append PySem.F.type_list_append mt_append (pv 5) (pa_cons (pe_op op_cat (pe_lst (pa_cons (pe_ix ix_list (pv 0) (pv 6) (fun _ _ => rfl)) pa_nil)) (pe_comp rfl sc__law_seatings_right_0 (pi_list (pv 4)) (fun _ _ _ => (pg_name (i := 0) sc__law_seatings_right_0.nd rfl (Or.inl rfl))) (fun _ _ _ => pif_one (pt_cmpR op_ne (pv 0) (pe_ix ix_list (pv 2) (pv 1) (fun _ _ => rfl)) (nomark _))) (fun _ _ _ => (pv 0)))) pa_nil)))
      (pss_one (ps_asg (pe_tup (pa_cons (pe_ix ix_list (pe_ix ix_list (pv 5) (pe_un un_neg pe_int) (fun _ _ => rfl)) (pv 6) (fun _ _ => rfl)) (pa_cons (pe_ix ix_list (pe_ix ix_list (pv 5) (pe_un un_neg pe_int) (fun _ _ => rfl)) pe_int (fun _ _ => rfl)) pa_nil))) (pg_tup rfl (pgs_cons (pg_sub (pe_ix ix_list (pv 5) (pe_un un_neg pe_int) (fun _ _ => rfl)) pe_int set_list) (pgs_cons (pg_sub (pe_ix ix_list (pv 5) (pe_un un_neg pe_int) (fun _ _ => rfl)) (pv 6) set_list) pgs_nil)))))) pss_nil)))
      (pss_cons (ps_comp rfl sc__law_seatings_right_1 (pi_list (pv 5)) (fun _ _ _ => (pg_name (i := 0) sc__law_seatings_right_1.nd rfl (Or.inl rfl))) (fun _ _ _ => pif_one (PW.pt (pw_or (pt_not (pt_val (pe_callB call_isT rfl T.n_isinstance b_isinstance (pa_cons (pv 0) (pa_cons (pe_bltn (v := V.ty "list") rfl T.n_list b_list rfl) pa_nil))))) (pw_or1 (pt_not (pt_val (pe_call G__law_off hr rfl x__law_off.m x__law_off.F.kp x__law_off.b .nil pass0 (pa_cons (pv 1) (pa_cons (pv 0) pa_nil))))))))) (fun _ _ _ => (pv 0)) sc__law_seatings_right.nd rfl rfl rfl (i := 5))
      (pss_one (ps_ret (pe_callB (call_allB rfl) rfl T.n_all b_all (pa_cons (pe_comp rfl sc__law_seatings_right_2 (pi_list (pv 5)) (fun _ _ _ => (pg_name (i := 0) sc__law_seatings_right_2.nd rfl (Or.inl rfl))) (fun _ _ _ => pif_nil) (fun _ _ _ => (pe_cmpR (op_eqB hu0) (pe_call G__law_told hr rfl x__law_told.m x__law_told.F.kp x__law_told.b .nil pass0 (pa_cons (pe_glob (v := V.ref _) rfl x_number_of.m rfl) (pa_cons (pv 2) (pa_cons (pv 0) pa_nil)))) (pv 1) (nomark _)))) pa_nil))))))))))))), ?_⟩
  refine ⟨_, rfl, b, _, rfl, .inl (SqL.of hb), ?_⟩
  rw [lz_len]
  refine ⟨_, rfl, _, rfl, fun r0 hr0 => ⟨r0, xs.length, rfl, upd_same, by omega, fun o ho0 => ?_⟩⟩
  rw [rng_lz]
  obtain ⟨sH, no⟩ := lr_facts (lz (rngI xs.length)) hr0 ho0
  have eo : (upd (upd H r0 (.rng 0 (xs.length : Int))) o (lz (rngI xs.length))) o = some (lz (rngI xs.length)) := upd_same
  generalize (upd (upd H r0 (.rng 0 (xs.length : Int))) o (lz (rngI xs.length))) = G0 at sH eo ⊢
  clear hr0 ho0
  have hrl : ((rngI xs.length).map V.int).length = xs.length := by rw [lz_len, rngI_length]
  have cut1 : cutV ((rngI xs.length).map V.int) (some 1) none = (((rngI xs.length).map V.int).drop 1) := by rw [show (1 : Int) = ((1 : Nat) : Int) from rfl, cut_from]
  have cut2 : cutV ((rngI xs.length).map V.int) none (some 1) = ((rngI xs.length).map V.int).take 1 := by rw [show (1 : Int) = ((1 : Nat) : Int) from rfl, cut_to]
  refine ⟨_, rfl, o, _, rfl, .inl ⟨SqL.of eo, fun t1 ht1 => ?_⟩⟩
  have st0 : Same G0 (upd G0 t1 (.tup ((rngI xs.length).map V.int))) := same_new ht1 _
  have wt1 : Other (upd G0 t1 (.tup ((rngI xs.length).map V.int))) (.ref t1) := .tup upd_same
  replace sH := sH.trans st0
  replace eo := st0 _ _ eo
  generalize (upd G0 t1 (.tup ((rngI xs.length).map V.int))) = G1 at sH eo wt1 ⊢
  clear st0 ht1
  intro d1 hd1
  have st1 : Same G1 (upd G1 d1 (.dK [])) := same_new hd1 _
  have wd1 : Other (upd G1 d1 (.dK [])) (.ref d1) := .dct upd_same
  replace sH := sH.trans st1
  replace eo := st1 _ _ eo
  replace wt1 := wt1.same st1
  generalize (upd G1 d1 (.dK [])) = G2 at sH eo wt1 wd1 ⊢
  clear st1 hd1
  refine ⟨_, rfl, _, rfl, (by show 1 ≤ sizeLine; decide), fun p1 hp1 => ?_⟩
  have st2 : Same G2 (upd G2 p1 (.lst [.int (xs.length : Int)])) := same_new hp1 _
  have ep1 : (upd G2 p1 (.lst [.int (xs.length : Int)])) p1 = some (.lst [.int (xs.length : Int)]) := upd_same
  replace sH := sH.trans st2
  replace eo := st2 _ _ eo
  replace wt1 := wt1.same st2
  replace wd1 := wd1.same st2
  generalize (upd G2 p1 (.lst [.int (xs.length : Int)])) = G3 at sH eo wt1 wd1 ep1 ⊢
  clear st2 hp1
  refine ⟨o, p1, _, _, rfl, rfl, eo, ep1, small (by simp only [List.length_take, List.length_drop, hrl, List.length_cons, List.length_nil]; omega), fun p2 hp2 => ?_⟩
  have st3 : Same G3 (upd G3 p2 (.lst (((rngI xs.length).map V.int) ++ [.int (xs.length : Int)]))) := same_new hp2 _
  have wp2 : Fl (upd G3 p2 (.lst (((rngI xs.length).map V.int) ++ [.int (xs.length : Int)]))) p2 := ⟨_, upd_same, by rw [List.length_append]; simp only [List.length_take, List.length_drop, hrl, List.length_cons, List.length_nil]; omega, (flatI _).app (flat1 rfl)⟩
  replace sH := sH.trans st3
  replace eo := st3 _ _ eo
  replace wt1 := wt1.same st3
  replace wd1 := wd1.same st3
  replace ep1 := st3 _ _ ep1
  generalize (upd G3 p2 (.lst (((rngI xs.length).map V.int) ++ [.int (xs.length : Int)]))) = G4 at sH eo wt1 wd1 ep1 wp2 ⊢
  clear st3 hp2
  clear ep1
  refine ⟨_, rfl, (by show 1 ≤ sizeLine; decide), fun p3 hp3 => ?_⟩
  have st4 : Same G4 (upd G4 p3 (.lst [.int 0])) := same_new hp3 _
  have ep3 : (upd G4 p3 (.lst [.int 0])) p3 = some (.lst [.int 0]) := upd_same
  replace sH := sH.trans st4
  replace eo := st4 _ _ eo
  replace wt1 := wt1.same st4
  replace wd1 := wd1.same st4
  replace wp2 := wp2.same st4
  generalize (upd G4 p3 (.lst [.int 0])) = G5 at sH eo wt1 wd1 wp2 ep3 ⊢
  clear st4 hp3
  refine ⟨o, p3, _, _, rfl, rfl, eo, ep3, small (by simp only [List.length_take, List.length_drop, hrl, List.length_cons, List.length_nil]; omega), fun p4 hp4 => ?_⟩
  have st5 : Same G5 (upd G5 p4 (.lst (((rngI xs.length).map V.int) ++ [.int 0]))) := same_new hp4 _
  have wp4 : Fl (upd G5 p4 (.lst (((rngI xs.length).map V.int) ++ [.int 0]))) p4 := ⟨_, upd_same, by rw [List.length_append]; simp only [List.length_take, List.length_drop, hrl, List.length_cons, List.length_nil]; omega, (flatI _).app (flat1 rfl)⟩
  replace sH := sH.trans st5
  replace eo := st5 _ _ eo
  replace wt1 := wt1.same st5
  replace wd1 := wd1.same st5
  replace wp2 := wp2.same st5
  replace ep3 := st5 _ _ ep3
  generalize (upd G5 p4 (.lst (((rngI xs.length).map V.int) ++ [.int 0]))) = G6 at sH eo wt1 wd1 wp2 ep3 wp4 ⊢
  clear st5 hp4
  clear ep3
  refine ⟨(by show 1 ≤ sizeLine; decide), fun p5 hp5 => ?_⟩
  have st6 : Same G6 (upd G6 p5 (.lst [.non])) := same_new hp5 _
  have ep5 : (upd G6 p5 (.lst [.non])) p5 = some (.lst [.non]) := upd_same
  replace sH := sH.trans st6
  replace eo := st6 _ _ eo
  replace wt1 := wt1.same st6
  replace wd1 := wd1.same st6
  replace wp2 := wp2.same st6
  replace wp4 := wp4.same st6
  generalize (upd G6 p5 (.lst [.non])) = G7 at sH eo wt1 wd1 wp2 wp4 ep5 ⊢
  clear st6 hp5
  refine ⟨_, rfl, _, _, rfl, rfl, p5, _, _, rfl, rfl, ep5, by omega, by omega, small (by simp; omega), fun p6 hp6 => ?_⟩
  have r6 : (List.replicate ((xs.length : Int) + 1).toNat [V.non]).flatten = List.replicate (xs.length + 1) V.non := by rw [rep_flat]; congr 1
  rw [r6]
  have st7 : Same G7 (upd G7 p6 (.lst (List.replicate (xs.length + 1) V.non))) := same_new hp6 _
  have wp6 : Fl (upd G7 p6 (.lst (List.replicate (xs.length + 1) V.non))) p6 := ⟨_, upd_same, by rw [List.length_replicate]; omega, flatR rfl _⟩
  replace sH := sH.trans st7
  replace eo := st7 _ _ eo
  replace wt1 := wt1.same st7
  replace wd1 := wd1.same st7
  replace wp2 := wp2.same st7
  replace wp4 := wp4.same st7
  replace ep5 := st7 _ _ ep5
  generalize (upd G7 p6 (.lst (List.replicate (xs.length + 1) V.non))) = G8 at sH eo wt1 wd1 wp2 wp4 ep5 wp6 ⊢
  clear st7 hp6
  clear ep5
  refine ⟨(by show 8 ≤ sizeLine; decide), fun W0 hW0 => ?_⟩
  have all_W0 : ∀ v ∈ ([.non, .ref t1, .str "0", .ref d1, .int 0, .ref p2, .ref p4, .ref p6] : List V), Wr G8 v := by
    intro v hv
    simp only [List.mem_cons, List.not_mem_nil, or_false] at hv
    rcases hv with rfl | rfl | rfl | rfl | rfl | rfl | rfl | rfl
    · exact .inl .non
    · exact .inl wt1
    · exact .inl (.str _)
    · exact .inl wd1
    · exact .inl (.int _)
    · exact .fl wp2
    · exact .fl wp4
    · exact .fl wp6
  have nW0 : H W0 = none := sH.free hW0
  have noW : o ≠ W0 := ne_of_none eo hW0
  clear wt1 wd1 wp2 wp4 wp6
  have st8 : Same G8 (upd G8 W0 (.lst [.non, .ref t1, .str "0", .ref d1, .int 0, .ref p2, .ref p4, .ref p6])) := same_new hW0 _
  have wl : WL (upd G8 W0 (.lst [.non, .ref t1, .str "0", .ref d1, .int 0, .ref p2, .ref p4, .ref p6])) W0 [.non, .ref t1, .str "0", .ref d1, .int 0, .ref p2, .ref p4, .ref p6] 8 := ⟨upd_same, by simp, fun v hv => ⟨(all_W0 v hv).same (same_new hW0 _), (all_W0 v hv).ne hW0⟩⟩
  replace sH := sH.trans st8
  replace eo := st8 _ _ eo
  generalize (upd G8 W0 (.lst [.non, .ref t1, .str "0", .ref d1, .int 0, .ref p2, .ref p4, .ref p6])) = G9 at sH eo wl ⊢
  clear st8 hW0
  clear all_W0
  generalize ([.non, .ref t1, .str "0", .ref d1, .int 0, .ref p2, .ref p4, .ref p6] : List V) = ws0 at wl
  refine ⟨_, rfl, .inl ⟨rfl, _, SqL.of wl.e⟩, _, rfl, _, rfl, _, _, rfl, rfl, (by show 1 ≤ sizeLine; decide), fun p7 hp7 => ?_⟩
  have st9 : Same G9 (upd G9 p7 (.lst [.int ((xs.length : Int) + far)])) := same_new hp7 _
  have ep7 : (upd G9 p7 (.lst [.int ((xs.length : Int) + far)])) p7 = some (.lst [.int ((xs.length : Int) + far)]) := upd_same
  replace sH := sH.trans st9
  replace eo := st9 _ _ eo
  replace wl := wl.same st9
  generalize (upd G9 p7 (.lst [.int ((xs.length : Int) + far)])) = G10 at sH eo ep7 wl ⊢
  clear st9 hp7
  refine ⟨_, rfl, _, _, rfl, rfl, p7, _, _, rfl, rfl, ep7, by omega, by omega, small (by simp; omega), fun p8 hp8 => ?_⟩
  have r8 : (List.replicate ((xs.length : Int) + 1).toNat [V.int ((xs.length : Int) + far)]).flatten = List.replicate (xs.length + 1) (V.int ((xs.length : Int) + far)) := by rw [rep_flat]; congr 1
  rw [r8]
  have n8 : V.ref p8 ≠ .ref W0 := fun z => by cases z; rw [wl.e] at hp8; cases hp8
  have st10 : Same G10 (upd G10 p8 (.lst (List.replicate (xs.length + 1) (V.int ((xs.length : Int) + far))))) := same_new hp8 _
  have wp8 : Fl (upd G10 p8 (.lst (List.replicate (xs.length + 1) (V.int ((xs.length : Int) + far))))) p8 := ⟨_, upd_same, by rw [List.length_replicate]; omega, flatR rfl _⟩
  replace sH := sH.trans st10
  replace eo := st10 _ _ eo
  replace ep7 := st10 _ _ ep7
  replace wl := wl.same st10
  generalize (upd G10 p8 (.lst (List.replicate (xs.length + 1) (V.int ((xs.length : Int) + far))))) = G11 at sH eo ep7 wp8 wl ⊢
  clear st10 hp8
  clear ep7
  refine ⟨W0, _, _, rfl, rfl, wl.e, small1000 (by have := wl.l; omega), ?_⟩
  replace wl := wl.app (Wr.fl wp8) n8
  replace eo : (upd G11 W0 (.lst (ws0 ++ [.ref p8]))) o = some (lz (rngI xs.length)) := by rw [upd_ne noW]; exact eo
  replace sH : Same H (upd G11 W0 (.lst (ws0 ++ [.ref p8]))) := same_upd sH nW0
  generalize (upd G11 W0 (.lst (ws0 ++ [.ref p8]))) = G12 at sH eo wl ⊢
  clear wp8 n8
  generalize ws0 ++ [V.ref p8] = ws1 at wl
  refine ⟨fun σ H' => Same H H' ∧ H' o = some (lz (rngI xs.length)) ∧ ∃ (Wd : Addr) (ws : List V), H Wd = none ∧ o ≠ Wd ∧ WL H' Wd ws 17 ∧ σ = [some (.ref b), some (.ref du), some (.int far), some (.int (xs.length : Int)), some (.ref o), some (.ref Wd), none], ?_, ?_⟩
  · refine ⟨_, rfl, _, _, rfl, rfl, _, rfl, if2 (fun c0 => ?_) (fun c0 => ?_)⟩
    rotate_left
    · exact ⟨sH, eo, W0, ws1, nW0, noW, ⟨wl.e, Nat.le_trans wl.l (by decide), wl.w⟩, rfl⟩
    refine ⟨_, rfl, _, rfl, _, rfl, o, _, rfl, SqL.of eo, fun a1 ha1 => ?_⟩
    rw [cut1]
    have st12 : Same G12 (upd G12 a1 (.lst (((rngI xs.length).map V.int).drop 1))) := same_new ha1 _
    have wa1 : Fl (upd G12 a1 (.lst (((rngI xs.length).map V.int).drop 1))) a1 := ⟨_, upd_same, by rw [List.length_drop, hrl]; omega, (flatI _).drop 1⟩
    replace sH := sH.trans st12
    replace eo := st12 _ _ eo
    replace wl := wl.same st12
    generalize (upd G12 a1 (.lst (((rngI xs.length).map V.int).drop 1))) = G13 at sH eo wa1 wl ⊢
    clear st12 ha1
    refine ⟨_, rfl, _, rfl, _, rfl, o, _, rfl, SqL.of eo, fun a2 ha2 => ?_⟩
    rw [cut_last]
    have st13 : Same G13 (upd G13 a2 (.lst (((rngI xs.length).map V.int).take (((rngI xs.length).map V.int).length - 1)))) := same_new ha2 _
    have wa2 : Fl (upd G13 a2 (.lst (((rngI xs.length).map V.int).take (((rngI xs.length).map V.int).length - 1)))) a2 := ⟨_, upd_same, by rw [List.length_take, hrl]; omega, (flatI _).take _⟩
    replace sH := sH.trans st13
    replace eo := st13 _ _ eo
    replace wa1 := wa1.same st13
    replace wl := wl.same st13
    generalize (upd G13 a2 (.lst (((rngI xs.length).map V.int).take (((rngI xs.length).map V.int).length - 1)))) = G14 at sH eo wa1 wa2 wl ⊢
    clear st13 ha2
    refine ⟨_, rfl, (by show 1 ≤ sizeLine; decide), fun a3 ha3 => ?_⟩
    have st14 : Same G14 (upd G14 a3 (.lst [.int (-1)])) := same_new ha3 _
    have ea3 : (upd G14 a3 (.lst [.int (-1)])) a3 = some (.lst [.int (-1)]) := upd_same
    replace sH := sH.trans st14
    replace eo := st14 _ _ eo
    replace wa1 := wa1.same st14
    replace wa2 := wa2.same st14
    replace wl := wl.same st14
    generalize (upd G14 a3 (.lst [.int (-1)])) = G15 at sH eo wa1 wa2 ea3 wl ⊢
    clear st14 ha3
    refine ⟨_, rfl, _, rfl, o, _, rfl, SqL.of eo, fun a4 ha4 => ?_⟩
    rw [cut1]
    have st15 : Same G15 (upd G15 a4 (.lst (((rngI xs.length).map V.int).drop 1))) := same_new ha4 _
    have ea4 : (upd G15 a4 (.lst (((rngI xs.length).map V.int).drop 1))) a4 = some (.lst (((rngI xs.length).map V.int).drop 1)) := upd_same
    replace sH := sH.trans st15
    replace eo := st15 _ _ eo
    replace wa1 := wa1.same st15
    replace wa2 := wa2.same st15
    replace ea3 := st15 _ _ ea3
    replace wl := wl.same st15
    generalize (upd G15 a4 (.lst (((rngI xs.length).map V.int).drop 1))) = G16 at sH eo wa1 wa2 ea3 ea4 wl ⊢
    clear st15 ha4
    refine ⟨a3, a4, _, _, rfl, rfl, ea3, ea4, small (by simp only [List.length_take, List.length_drop, hrl, List.length_cons, List.length_nil]; omega), fun a5 ha5 => ?_⟩
    have st16 : Same G16 (upd G16 a5 (.lst ([.int (-1)] ++ (((rngI xs.length).map V.int).drop 1)))) := same_new ha5 _
    have wa5 : Fl (upd G16 a5 (.lst ([.int (-1)] ++ (((rngI xs.length).map V.int).drop 1)))) a5 := ⟨_, upd_same, by rw [List.length_append]; simp only [List.length_take, List.length_drop, hrl, List.length_cons, List.length_nil]; omega, (flat1 rfl).app ((flatI _).drop 1)⟩
    replace sH := sH.trans st16
    replace eo := st16 _ _ eo
    replace wa1 := wa1.same st16
    replace wa2 := wa2.same st16
    replace ea3 := st16 _ _ ea3
    replace ea4 := st16 _ _ ea4
    replace wl := wl.same st16
    generalize (upd G16 a5 (.lst ([.int (-1)] ++ (((rngI xs.length).map V.int).drop 1)))) = G17 at sH eo wa1 wa2 ea3 ea4 wa5 wl ⊢
    clear st16 ha5
    clear ea3
    clear ea4
    refine ⟨_, rfl, _, rfl, _, rfl, o, _, rfl, SqL.of eo, fun a6 ha6 => ?_⟩
    rw [cut_last]
    have st17 : Same G17 (upd G17 a6 (.lst (((rngI xs.length).map V.int).take (((rngI xs.length).map V.int).length - 1)))) := same_new ha6 _
    have ea6 : (upd G17 a6 (.lst (((rngI xs.length).map V.int).take (((rngI xs.length).map V.int).length - 1)))) a6 = some (.lst (((rngI xs.length).map V.int).take (((rngI xs.length).map V.int).length - 1))) := upd_same
    replace sH := sH.trans st17
    replace eo := st17 _ _ eo
    replace wa1 := wa1.same st17
    replace wa2 := wa2.same st17
    replace wa5 := wa5.same st17
    replace wl := wl.same st17
    generalize (upd G17 a6 (.lst (((rngI xs.length).map V.int).take (((rngI xs.length).map V.int).length - 1)))) = G18 at sH eo wa1 wa2 wa5 ea6 wl ⊢
    clear st17 ha6
    refine ⟨_, rfl, (by show 1 ≤ sizeLine; decide), fun a7 ha7 => ?_⟩
    have st18 : Same G18 (upd G18 a7 (.lst [.int (xs.length : Int)])) := same_new ha7 _
    have ea7 : (upd G18 a7 (.lst [.int (xs.length : Int)])) a7 = some (.lst [.int (xs.length : Int)]) := upd_same
    replace sH := sH.trans st18
    replace eo := st18 _ _ eo
    replace wa1 := wa1.same st18
    replace wa2 := wa2.same st18
    replace wa5 := wa5.same st18
    replace ea6 := st18 _ _ ea6
    replace wl := wl.same st18
    generalize (upd G18 a7 (.lst [.int (xs.length : Int)])) = G19 at sH eo wa1 wa2 wa5 ea6 ea7 wl ⊢
    clear st18 ha7
    refine ⟨a6, a7, _, _, rfl, rfl, ea6, ea7, small (by simp only [List.length_take, List.length_drop, hrl, List.length_cons, List.length_nil]; omega), fun a8 ha8 => ?_⟩
    have st19 : Same G19 (upd G19 a8 (.lst ((((rngI xs.length).map V.int).take (((rngI xs.length).map V.int).length - 1)) ++ [.int (xs.length : Int)]))) := same_new ha8 _
    have wa8 : Fl (upd G19 a8 (.lst ((((rngI xs.length).map V.int).take (((rngI xs.length).map V.int).length - 1)) ++ [.int (xs.length : Int)]))) a8 := ⟨_, upd_same, by rw [List.length_append]; simp only [List.length_take, List.length_drop, hrl, List.length_cons, List.length_nil]; omega, ((flatI _).take _).app (flat1 rfl)⟩
    replace sH := sH.trans st19
    replace eo := st19 _ _ eo
    replace wa1 := wa1.same st19
    replace wa2 := wa2.same st19
    replace wa5 := wa5.same st19
    replace ea6 := st19 _ _ ea6
    replace ea7 := st19 _ _ ea7
    replace wl := wl.same st19
    generalize (upd G19 a8 (.lst ((((rngI xs.length).map V.int).take (((rngI xs.length).map V.int).length - 1)) ++ [.int (xs.length : Int)]))) = G20 at sH eo wa1 wa2 wa5 ea6 ea7 wa8 wl ⊢
    clear st19 ha8
    clear ea6
    clear ea7
    refine ⟨_, rfl, _, rfl, _, rfl, o, _, rfl, SqL.of eo, fun a9 ha9 => ?_⟩
    rw [cut_last]
    have st20 : Same G20 (upd G20 a9 (.lst (((rngI xs.length).map V.int).take (((rngI xs.length).map V.int).length - 1)))) := same_new ha9 _
    have ea9 : (upd G20 a9 (.lst (((rngI xs.length).map V.int).take (((rngI xs.length).map V.int).length - 1)))) a9 = some (.lst (((rngI xs.length).map V.int).take (((rngI xs.length).map V.int).length - 1))) := upd_same
    replace sH := sH.trans st20
    replace eo := st20 _ _ eo
    replace wa1 := wa1.same st20
    replace wa2 := wa2.same st20
    replace wa5 := wa5.same st20
    replace wa8 := wa8.same st20
    replace wl := wl.same st20
    generalize (upd G20 a9 (.lst (((rngI xs.length).map V.int).take (((rngI xs.length).map V.int).length - 1)))) = G21 at sH eo wa1 wa2 wa5 wa8 ea9 wl ⊢
    clear st20 ha9
    refine ⟨(by show 1 ≤ sizeLine; decide), fun a10 ha10 => ?_⟩
    have st21 : Same G21 (upd G21 a10 (.lst [.str "0"])) := same_new ha10 _
    have ea10 : (upd G21 a10 (.lst [.str "0"])) a10 = some (.lst [.str "0"]) := upd_same
    replace sH := sH.trans st21
    replace eo := st21 _ _ eo
    replace wa1 := wa1.same st21
    replace wa2 := wa2.same st21
    replace wa5 := wa5.same st21
    replace wa8 := wa8.same st21
    replace ea9 := st21 _ _ ea9
    replace wl := wl.same st21
    generalize (upd G21 a10 (.lst [.str "0"])) = G22 at sH eo wa1 wa2 wa5 wa8 ea9 ea10 wl ⊢
    clear st21 ha10
    refine ⟨a9, a10, _, _, rfl, rfl, ea9, ea10, small (by simp only [List.length_take, List.length_drop, hrl, List.length_cons, List.length_nil]; omega), fun a11 ha11 => ?_⟩
    have st22 : Same G22 (upd G22 a11 (.lst ((((rngI xs.length).map V.int).take (((rngI xs.length).map V.int).length - 1)) ++ [.str "0"]))) := same_new ha11 _
    have wa11 : Fl (upd G22 a11 (.lst ((((rngI xs.length).map V.int).take (((rngI xs.length).map V.int).length - 1)) ++ [.str "0"]))) a11 := ⟨_, upd_same, by rw [List.length_append]; simp only [List.length_take, List.length_drop, hrl, List.length_cons, List.length_nil]; omega, ((flatI _).take _).app (flat1 rfl)⟩
    replace sH := sH.trans st22
    replace eo := st22 _ _ eo
    replace wa1 := wa1.same st22
    replace wa2 := wa2.same st22
    replace wa5 := wa5.same st22
    replace wa8 := wa8.same st22
    replace ea9 := st22 _ _ ea9
    replace ea10 := st22 _ _ ea10
    replace wl := wl.same st22
    generalize (upd G22 a11 (.lst ((((rngI xs.length).map V.int).take (((rngI xs.length).map V.int).length - 1)) ++ [.str "0"]))) = G23 at sH eo wa1 wa2 wa5 wa8 ea9 ea10 wa11 wl ⊢
    clear st22 ha11
    clear ea9
    clear ea10
    have wb : Fl G23 b := ⟨_, sH _ _ hb, by rw [lz_len]; omega, flatI _⟩
    refine ⟨_, rfl, (by show 6 ≤ sizeLine; decide), fun q1 hq1 => ?_⟩
    have all_q1 : ∀ v ∈ ([.ref a1, .ref a2, .ref a5, .ref a8, .ref a11, .ref b] : List V), Wr G23 v := by
      intro v hv
      simp only [List.mem_cons, List.not_mem_nil, or_false] at hv
      rcases hv with rfl | rfl | rfl | rfl | rfl | rfl
      · exact .fl wa1
      · exact .fl wa2
      · exact .fl wa5
      · exact .fl wa8
      · exact .fl wa11
      · exact .fl wb
    have sq_q1 : Same G23 (upd G23 q1 (.lst [.ref a1, .ref a2, .ref a5, .ref a8, .ref a11, .ref b])) := same_new hq1 _
    replace all_q1 : ∀ v ∈ ([.ref a1, .ref a2, .ref a5, .ref a8, .ref a11, .ref b] : List V), Wr (upd G23 q1 (.lst [.ref a1, .ref a2, .ref a5, .ref a8, .ref a11, .ref b])) v := fun v hv => (all_q1 v hv).same sq_q1
    clear wa1 wa2 wa5 wa8 wa11 wb
    have eq1 : (upd G23 q1 (.lst [.ref a1, .ref a2, .ref a5, .ref a8, .ref a11, .ref b])) q1 = some (.lst [.ref a1, .ref a2, .ref a5, .ref a8, .ref a11, .ref b]) := upd_same
    replace sH := sH.trans sq_q1
    replace eo := sq_q1 _ _ eo
    replace wl := wl.same sq_q1
    generalize (upd G23 q1 (.lst [.ref a1, .ref a2, .ref a5, .ref a8, .ref a11, .ref b])) = G24 at sH eo wl eq1 all_q1 ⊢
    clear sq_q1 hq1
    refine ⟨W0, q1, _, _, rfl, rfl, wl.e, eq1, small (by have := wl.l; simp; omega), fun W1 hW1 => ?_⟩
    have nW1 : H W1 = none := sH.free hW1
    have noW1 : o ≠ W1 := ne_of_none eo hW1
    replace wl := wl.cat (j := 6) all_q1 (by simp) hW1
    have sw_W1 : Same G24 (upd G24 W1 (.lst (ws1 ++ [.ref a1, .ref a2, .ref a5, .ref a8, .ref a11, .ref b]))) := same_new hW1 _
    replace sH := sH.trans sw_W1
    replace eo := sw_W1 _ _ eo
    generalize (upd G24 W1 (.lst (ws1 ++ [.ref a1, .ref a2, .ref a5, .ref a8, .ref a11, .ref b]))) = G25 at sH eo wl ⊢
    clear sw_W1 hW1 eq1 all_q1
    generalize ws1 ++ ([.ref a1, .ref a2, .ref a5, .ref a8, .ref a11, .ref b] : List V) = ws2 at wl
    refine ⟨_, rfl, (by show 1 ≤ sizeLine; decide), fun b1 hb1 => ?_⟩
    have st25 : Same G25 (upd G25 b1 (.lst [.bl false])) := same_new hb1 _
    have eb1 : (upd G25 b1 (.lst [.bl false])) b1 = some (.lst [.bl false]) := upd_same
    replace sH := sH.trans st25
    replace eo := st25 _ _ eo
    replace wl := wl.same st25
    generalize (upd G25 b1 (.lst [.bl false])) = G26 at sH eo eb1 wl ⊢
    clear st25 hb1
    refine ⟨_, rfl, _, rfl, o, _, rfl, SqL.of eo, fun b2 hb2 => ?_⟩
    rw [cut1]
    have st26 : Same G26 (upd G26 b2 (.lst (((rngI xs.length).map V.int).drop 1))) := same_new hb2 _
    have eb2 : (upd G26 b2 (.lst (((rngI xs.length).map V.int).drop 1))) b2 = some (.lst (((rngI xs.length).map V.int).drop 1)) := upd_same
    replace sH := sH.trans st26
    replace eo := st26 _ _ eo
    replace eb1 := st26 _ _ eb1
    replace wl := wl.same st26
    generalize (upd G26 b2 (.lst (((rngI xs.length).map V.int).drop 1))) = G27 at sH eo eb1 eb2 wl ⊢
    clear st26 hb2
    refine ⟨b1, b2, _, _, rfl, rfl, eb1, eb2, small (by simp only [List.length_take, List.length_drop, hrl, List.length_cons, List.length_nil]; omega), fun b3 hb3 => ?_⟩
    have st27 : Same G27 (upd G27 b3 (.lst ([.bl false] ++ (((rngI xs.length).map V.int).drop 1)))) := same_new hb3 _
    have wb3 : Fl (upd G27 b3 (.lst ([.bl false] ++ (((rngI xs.length).map V.int).drop 1)))) b3 := ⟨_, upd_same, by rw [List.length_append]; simp only [List.length_take, List.length_drop, hrl, List.length_cons, List.length_nil]; omega, (flat1 rfl).app ((flatI _).drop 1)⟩
    replace sH := sH.trans st27
    replace eo := st27 _ _ eo
    replace eb1 := st27 _ _ eb1
    replace eb2 := st27 _ _ eb2
    replace wl := wl.same st27
    generalize (upd G27 b3 (.lst ([.bl false] ++ (((rngI xs.length).map V.int).drop 1)))) = G28 at sH eo eb1 eb2 wb3 wl ⊢
    clear st27 hb3
    clear eb1
    clear eb2
    refine ⟨_, rfl, _, rfl, _, rfl, o, _, rfl, SqL.of eo, fun b4 hb4 => ?_⟩
    rw [cut_last]
    have st28 : Same G28 (upd G28 b4 (.lst (((rngI xs.length).map V.int).take (((rngI xs.length).map V.int).length - 1)))) := same_new hb4 _
    have eb4 : (upd G28 b4 (.lst (((rngI xs.length).map V.int).take (((rngI xs.length).map V.int).length - 1)))) b4 = some (.lst (((rngI xs.length).map V.int).take (((rngI xs.length).map V.int).length - 1))) := upd_same
    replace sH := sH.trans st28
    replace eo := st28 _ _ eo
    replace wb3 := wb3.same st28
    replace wl := wl.same st28
    generalize (upd G28 b4 (.lst (((rngI xs.length).map V.int).take (((rngI xs.length).map V.int).length - 1)))) = G29 at sH eo wb3 eb4 wl ⊢
    clear st28 hb4
    refine ⟨(by show 1 ≤ sizeLine; decide), fun b5 hb5 => ?_⟩
    have st29 : Same G29 (upd G29 b5 (.lst [.non])) := same_new hb5 _
    have eb5 : (upd G29 b5 (.lst [.non])) b5 = some (.lst [.non]) := upd_same
    replace sH := sH.trans st29
    replace eo := st29 _ _ eo
    replace wb3 := wb3.same st29
    replace eb4 := st29 _ _ eb4
    replace wl := wl.same st29
    generalize (upd G29 b5 (.lst [.non])) = G30 at sH eo wb3 eb4 eb5 wl ⊢
    clear st29 hb5
    refine ⟨b4, b5, _, _, rfl, rfl, eb4, eb5, small (by simp only [List.length_take, List.length_drop, hrl, List.length_cons, List.length_nil]; omega), fun b6 hb6 => ?_⟩
    have st30 : Same G30 (upd G30 b6 (.lst ((((rngI xs.length).map V.int).take (((rngI xs.length).map V.int).length - 1)) ++ [.non]))) := same_new hb6 _
    have wb6 : Fl (upd G30 b6 (.lst ((((rngI xs.length).map V.int).take (((rngI xs.length).map V.int).length - 1)) ++ [.non]))) b6 := ⟨_, upd_same, by rw [List.length_append]; simp only [List.length_take, List.length_drop, hrl, List.length_cons, List.length_nil]; omega, ((flatI _).take _).app (flat1 rfl)⟩
    replace sH := sH.trans st30
    replace eo := st30 _ _ eo
    replace wb3 := wb3.same st30
    replace eb4 := st30 _ _ eb4
    replace eb5 := st30 _ _ eb5
    replace wl := wl.same st30
    generalize (upd G30 b6 (.lst ((((rngI xs.length).map V.int).take (((rngI xs.length).map V.int).length - 1)) ++ [.non]))) = G31 at sH eo wb3 eb4 eb5 wb6 wl ⊢
    clear st30 hb6
    clear eb4
    clear eb5
    refine ⟨(by show 2 ≤ sizeLine; decide), fun q2 hq2 => ?_⟩
    have all_q2 : ∀ v ∈ ([.ref b3, .ref b6] : List V), Wr G31 v := by
      intro v hv
      simp only [List.mem_cons, List.not_mem_nil, or_false] at hv
      rcases hv with rfl | rfl
      · exact .fl wb3
      · exact .fl wb6
    have sq_q2 : Same G31 (upd G31 q2 (.lst [.ref b3, .ref b6])) := same_new hq2 _
    replace all_q2 : ∀ v ∈ ([.ref b3, .ref b6] : List V), Wr (upd G31 q2 (.lst [.ref b3, .ref b6])) v := fun v hv => (all_q2 v hv).same sq_q2
    clear wb3 wb6
    have eq2 : (upd G31 q2 (.lst [.ref b3, .ref b6])) q2 = some (.lst [.ref b3, .ref b6]) := upd_same
    replace sH := sH.trans sq_q2
    replace eo := sq_q2 _ _ eo
    replace wl := wl.same sq_q2
    generalize (upd G31 q2 (.lst [.ref b3, .ref b6])) = G32 at sH eo wl eq2 all_q2 ⊢
    clear sq_q2 hq2
    refine ⟨W1, q2, _, _, rfl, rfl, wl.e, eq2, small (by have := wl.l; simp; omega), fun W2 hW2 => ?_⟩
    have nW2 : H W2 = none := sH.free hW2
    have noW2 : o ≠ W2 := ne_of_none eo hW2
    replace wl := wl.cat (j := 2) all_q2 (by simp) hW2
    have sw_W2 : Same G32 (upd G32 W2 (.lst (ws2 ++ [.ref b3, .ref b6]))) := same_new hW2 _
    replace sH := sH.trans sw_W2
    replace eo := sw_W2 _ _ eo
    generalize (upd G32 W2 (.lst (ws2 ++ [.ref b3, .ref b6]))) = G33 at sH eo wl ⊢
    clear sw_W2 hW2 eq2 all_q2
    generalize ws2 ++ ([.ref b3, .ref b6] : List V) = ws3 at wl
    exact ⟨sH, eo, W2, ws3, nW2, noW2, wl, rfl⟩
  clear wl sH eo nW0 noW
  rintro σ G1 ⟨sH, eo, Wd, ws, nWd, noWd, wl, rfl⟩
  refine ⟨fun σ H' => Same H H' ∧ H' o = some (lz (rngI xs.length)) ∧ ∃ (Wd : Addr) (ws : List V), H Wd = none ∧ o ≠ Wd ∧ WL H' Wd ws 19 ∧ σ = [some (.ref b), some (.ref du), some (.int far), some (.int (xs.length : Int)), some (.ref o), some (.ref Wd), none], ?_, ?_⟩
  · refine ⟨_, rfl, _, _, rfl, rfl, _, rfl, if2 (fun c0 => ?_) (fun c0 => ?_)⟩
    rotate_left
    · exact ⟨sH, eo, Wd, ws, nWd, noWd, ⟨wl.e, Nat.le_trans wl.l (by decide), wl.w⟩, rfl⟩
    have g1 : (rngI xs.length)[1]? = some ((1 : Nat) : Int) := tab_get _ _ _ (by omega)
    refine ⟨_, rfl, _, rfl, o, _, _, _, rfl, rfl, SqL.of eo, atI_of 1 rfl (lz_get g1), (by show 1 ≤ sizeLine; decide), fun a1 ha1 => ?_⟩
    have st1 : Same G1 (upd G1 a1 (.lst [.int ((1 : Nat) : Int)])) := same_new ha1 _
    have ea1 : (upd G1 a1 (.lst [.int ((1 : Nat) : Int)])) a1 = some (.lst [.int ((1 : Nat) : Int)]) := upd_same
    replace sH := sH.trans st1
    replace eo := st1 _ _ eo
    replace wl := wl.same st1
    generalize (upd G1 a1 (.lst [.int ((1 : Nat) : Int)])) = G2 at sH eo ea1 wl ⊢
    clear st1 ha1
    refine ⟨_, rfl, _, rfl, o, _, rfl, SqL.of eo, fun a2 ha2 => ?_⟩
    rw [cut1]
    have st2 : Same G2 (upd G2 a2 (.lst (((rngI xs.length).map V.int).drop 1))) := same_new ha2 _
    have ea2 : (upd G2 a2 (.lst (((rngI xs.length).map V.int).drop 1))) a2 = some (.lst (((rngI xs.length).map V.int).drop 1)) := upd_same
    replace sH := sH.trans st2
    replace eo := st2 _ _ eo
    replace ea1 := st2 _ _ ea1
    replace wl := wl.same st2
    generalize (upd G2 a2 (.lst (((rngI xs.length).map V.int).drop 1))) = G3 at sH eo ea1 ea2 wl ⊢
    clear st2 ha2
    refine ⟨a1, a2, _, _, rfl, rfl, ea1, ea2, small (by simp only [List.length_take, List.length_drop, hrl, List.length_cons, List.length_nil]; omega), fun a3 ha3 => ?_⟩
    have st3 : Same G3 (upd G3 a3 (.lst ([.int ((1 : Nat) : Int)] ++ (((rngI xs.length).map V.int).drop 1)))) := same_new ha3 _
    have wa3 : Fl (upd G3 a3 (.lst ([.int ((1 : Nat) : Int)] ++ (((rngI xs.length).map V.int).drop 1)))) a3 := ⟨_, upd_same, by rw [List.length_append]; simp only [List.length_take, List.length_drop, hrl, List.length_cons, List.length_nil]; omega, (flat1 rfl).app ((flatI _).drop 1)⟩
    replace sH := sH.trans st3
    replace eo := st3 _ _ eo
    replace ea1 := st3 _ _ ea1
    replace ea2 := st3 _ _ ea2
    replace wl := wl.same st3
    generalize (upd G3 a3 (.lst ([.int ((1 : Nat) : Int)] ++ (((rngI xs.length).map V.int).drop 1)))) = G4 at sH eo ea1 ea2 wa3 wl ⊢
    clear st3 ha3
    clear ea1
    clear ea2
    refine ⟨_, rfl, _, rfl, _, rfl, o, _, rfl, SqL.of eo, fun a4 ha4 => ?_⟩
    rw [cut_last]
    have st4 : Same G4 (upd G4 a4 (.lst (((rngI xs.length).map V.int).take (((rngI xs.length).map V.int).length - 1)))) := same_new ha4 _
    have ea4 : (upd G4 a4 (.lst (((rngI xs.length).map V.int).take (((rngI xs.length).map V.int).length - 1)))) a4 = some (.lst (((rngI xs.length).map V.int).take (((rngI xs.length).map V.int).length - 1))) := upd_same
    replace sH := sH.trans st4
    replace eo := st4 _ _ eo
    replace wa3 := wa3.same st4
    replace wl := wl.same st4
    generalize (upd G4 a4 (.lst (((rngI xs.length).map V.int).take (((rngI xs.length).map V.int).length - 1)))) = G5 at sH eo wa3 ea4 wl ⊢
    clear st4 ha4
    refine ⟨_, rfl, _, rfl, o, _, rfl, SqL.of eo, fun a5 ha5 => ?_⟩
    rw [cut2]
    have st5 : Same G5 (upd G5 a5 (.lst (((rngI xs.length).map V.int).take 1))) := same_new ha5 _
    have ea5 : (upd G5 a5 (.lst (((rngI xs.length).map V.int).take 1))) a5 = some (.lst (((rngI xs.length).map V.int).take 1)) := upd_same
    replace sH := sH.trans st5
    replace eo := st5 _ _ eo
    replace wa3 := wa3.same st5
    replace ea4 := st5 _ _ ea4
    replace wl := wl.same st5
    generalize (upd G5 a5 (.lst (((rngI xs.length).map V.int).take 1))) = G6 at sH eo wa3 ea4 ea5 wl ⊢
    clear st5 ha5
    refine ⟨a4, a5, _, _, rfl, rfl, ea4, ea5, small (by simp only [List.length_take, List.length_drop, hrl, List.length_cons, List.length_nil]; omega), fun a6 ha6 => ?_⟩
    have st6 : Same G6 (upd G6 a6 (.lst ((((rngI xs.length).map V.int).take (((rngI xs.length).map V.int).length - 1)) ++ (((rngI xs.length).map V.int).take 1)))) := same_new ha6 _
    have wa6 : Fl (upd G6 a6 (.lst ((((rngI xs.length).map V.int).take (((rngI xs.length).map V.int).length - 1)) ++ (((rngI xs.length).map V.int).take 1)))) a6 := ⟨_, upd_same, by rw [List.length_append]; simp only [List.length_take, List.length_drop, hrl, List.length_cons, List.length_nil]; omega, ((flatI _).take _).app ((flatI _).take 1)⟩
    replace sH := sH.trans st6
    replace eo := st6 _ _ eo
    replace wa3 := wa3.same st6
    replace ea4 := st6 _ _ ea4
    replace ea5 := st6 _ _ ea5
    replace wl := wl.same st6
    generalize (upd G6 a6 (.lst ((((rngI xs.length).map V.int).take (((rngI xs.length).map V.int).length - 1)) ++ (((rngI xs.length).map V.int).take 1)))) = G7 at sH eo wa3 ea4 ea5 wa6 wl ⊢
    clear st6 ha6
    clear ea4
    clear ea5
    refine ⟨(by show 2 ≤ sizeLine; decide), fun q1 hq1 => ?_⟩
    have all_q1 : ∀ v ∈ ([.ref a3, .ref a6] : List V), Wr G7 v := by
      intro v hv
      simp only [List.mem_cons, List.not_mem_nil, or_false] at hv
      rcases hv with rfl | rfl
      · exact .fl wa3
      · exact .fl wa6
    have sq_q1 : Same G7 (upd G7 q1 (.lst [.ref a3, .ref a6])) := same_new hq1 _
    replace all_q1 : ∀ v ∈ ([.ref a3, .ref a6] : List V), Wr (upd G7 q1 (.lst [.ref a3, .ref a6])) v := fun v hv => (all_q1 v hv).same sq_q1
    clear wa3 wa6
    have eq1 : (upd G7 q1 (.lst [.ref a3, .ref a6])) q1 = some (.lst [.ref a3, .ref a6]) := upd_same
    replace sH := sH.trans sq_q1
    replace eo := sq_q1 _ _ eo
    replace wl := wl.same sq_q1
    generalize (upd G7 q1 (.lst [.ref a3, .ref a6])) = G8 at sH eo wl eq1 all_q1 ⊢
    clear sq_q1 hq1
    refine ⟨Wd, q1, _, _, rfl, rfl, wl.e, eq1, small (by have := wl.l; simp; omega), fun W1 hW1 => ?_⟩
    have nW1 : H W1 = none := sH.free hW1
    have noW1 : o ≠ W1 := ne_of_none eo hW1
    replace wl := wl.cat (j := 2) all_q1 (by simp) hW1
    have sw_W1 : Same G8 (upd G8 W1 (.lst (ws ++ [.ref a3, .ref a6]))) := same_new hW1 _
    replace sH := sH.trans sw_W1
    replace eo := sw_W1 _ _ eo
    generalize (upd G8 W1 (.lst (ws ++ [.ref a3, .ref a6]))) = G9 at sH eo wl ⊢
    clear sw_W1 hW1 eq1 all_q1
    generalize ws ++ ([.ref a3, .ref a6] : List V) = ws2 at wl
    exact ⟨sH, eo, W1, ws2, nW1, noW1, wl, rfl⟩
  clear wl sH eo nWd noWd
  rintro σ G1 ⟨sH, eo, Wd, ws, nWd, noWd, wl, rfl⟩
  refine ⟨_, rfl, _, rfl, _, _, rfl, rfl, ⟨by decide, by decide⟩, _, _, rfl, rfl, _, _, rfl, ⟨by omega, by omega, by omega, by omega⟩, ?_⟩
  refine for_up (lo := 0) (st := 1 + (xs.length : Int) / 6) (n := (if 0 < (xs.length : Int) then ((xs.length : Int) - 1) / (1 + (xs.length : Int) / 6) + 1 else 0).toNat)
    (fun i σ H' => Same H H' ∧ H' o = some (lz (rngI xs.length)) ∧ ∃ (Wd : Addr) (ws : List V), H Wd = none ∧ o ≠ Wd ∧ WL H' Wd ws (19 + i) ∧ ∃ v6, σ = [some (.ref b), some (.ref du), some (.int far), some (.int (xs.length : Int)), some (.ref o), some (.ref Wd), v6])
    ⟨sH, eo, Wd, ws, nWd, noWd, wl, none, rfl⟩ ?_ ?_
  · clear wl sH eo nWd noWd
    rintro i σ G1 hk ⟨sH, eo, Wd, ws, nWd, noWd, wl, v6, rfl⟩
    have hst : (0 : Int) < 1 + (xs.length : Int) / 6 := by omega
    have hlt := up_lt hst hk
    have hi0 : (i : Int) * 1 ≤ i * (1 + (xs.length : Int) / 6) := Int.mul_le_mul_of_nonneg_left (by omega) (by omega)
    generalize hg : (0 : Int) + (i : Int) * (1 + (xs.length : Int) / 6) = g
    have g0 : 0 ≤ g := by omega
    have g1 : g < xs.length := by omega
    have i63 : i < 63 := by omega
    clear hlt hi0 hst hg hk
    obtain ⟨z, hz⟩ : ∃ z, xs[g.toNat]? = some z := ⟨_, List.getElem?_eq_getElem (by omega)⟩
    refine ⟨_, rfl, _, rfl, b, _, _, _, rfl, rfl, SqL.of (sH _ _ hb), atI_of g.toNat (by omega) (lz_get hz), _, _, rfl, rfl, _, rfl, if2 (fun c0 => ?_) (fun c0 => ?_)⟩
    rotate_left
    · exact ⟨sH, eo, Wd, ws, nWd, noWd, ⟨wl.e, by have := wl.l; omega, wl.w⟩, _, rfl⟩
    have hzb := hv z (List.mem_of_getElem? hz)
    refine ⟨_, rfl, .inl ⟨rfl, _, SqL.of wl.e⟩, _, rfl, _, rfl, b, _, _, _, rfl, rfl, SqL.of (sH _ _ hb), atI_of g.toNat (by omega) (lz_get hz), (by show 1 ≤ sizeLine; decide), fun m1 hm1 => ?_⟩
    have st1 : Same G1 (upd G1 m1 (.lst [.int z])) := same_new hm1 _
    have em1 : (upd G1 m1 (.lst [.int z])) m1 = some (.lst [.int z]) := upd_same
    replace sH := sH.trans st1
    replace eo := st1 _ _ eo
    replace wl := wl.same st1
    generalize (upd G1 m1 (.lst [.int z])) = G2 at sH eo em1 wl ⊢
    clear st1 hm1
    refine ⟨_, rfl, o, rfl, ⟨_, SqL.of eo⟩, fun D hD _ _ => ?_⟩
    refine comp_list (K := K) (a := o) (xs := ((rngI xs.length).map V.int)) (fun i ys σ H' => Same G2 H' ∧ H' D = some (.lst ys) ∧ ys = (((rngI xs.length).take i).filter (fun s => decide (s ≠ z))).map V.int ∧ ∃ u, σ = [u, some (.int g), some (.ref b)])
      ⟨same_new hD _, upd_same, rfl, none, rfl⟩ (fun i ys σ H' _ ⟨s6, e6, _⟩ => ⟨SqL.of (s6 _ _ eo), e6⟩) ?_ ?_
    · rintro j x ys σ H' hj ⟨s6, e6, rfl, u, rfl⟩
      obtain ⟨y, hy, rfl⟩ := lz_at hj
      have hjl := (List.getElem?_eq_some_iff.mp hy).1
      rw [rngI_length] at hjl
      have hfl := List.length_filter_le (fun s => decide (s ≠ z)) ((rngI xs.length).take j)
      rw [List.length_take] at hfl
      refine ⟨small1000 (by rw [lz_len]; omega), ?_⟩
      refine ⟨_, rfl, _, rfl, _, rfl, b, _, _, _, rfl, rfl, SqL.of (s6 _ _ (sH _ _ hb)), atI_of g.toNat (by omega) (lz_get hz), rfl, _, rfl, ?_⟩
      have htk : (rngI xs.length).take (j + 1) = (rngI xs.length).take j ++ [y] := by rw [List.take_add_one, hy]; rfl
      by_cases hyz : y = z
      · refine ifNN (by rw [hyz]) ?_
        refine ⟨s6, e6, ?_, _, rfl⟩
        rw [htk, List.filter_append, hyz]; simp
      · refine ifNY (vi_ne hyz) ?_
        refine ⟨_, rfl, e6, same_upd s6 hD, upd_same, ?_, _, rfl⟩
        rw [htk, List.filter_append, List.map_append]; simp [hyz]
    rintro ys σ G3 ⟨s6, e6, rfl, u, rfl⟩
    rw [hrl, List.take_of_length_le (by rw [rngI_length]; omega)] at e6
    have hfz : ((rngI xs.length).filter (fun s => decide (s ≠ z))).length + 1 = xs.length := filter_len (by omega) (by omega)
    generalize (rngI xs.length).filter (fun s => decide (s ≠ z)) = ss at e6 hfz
    replace sH := sH.trans s6
    replace eo := s6 _ _ eo
    replace wl := wl.same s6
    replace em1 := s6 _ _ em1
    clear s6 hD
    refine ⟨m1, D, _, _, rfl, rfl, em1, e6, small (by rw [lz_len]; simp; omega), fun L hL => ?_⟩
    have e7 : [V.int z] ++ ss.map V.int = (z :: ss).map V.int := rfl
    rw [e7]
    have st3 : Same G3 (upd G3 L (lz (z :: ss))) := same_new hL _
    have eL : (upd G3 L (lz (z :: ss))) L = some (lz (z :: ss)) := upd_same
    have nL : H L = none := sH.free hL
    have noL : o ≠ L := ne_of_none eo hL
    have nWL : Wd ≠ L := ne_of_none wl.e hL
    have nws : ∀ v ∈ ws, v ≠ .ref L := fun v hv => (wl.w v hv).1.ne hL
    replace sH := sH.trans st3
    replace eo := st3 _ _ eo
    replace wl := wl.same st3
    generalize (upd G3 L (lz (z :: ss))) = G4 at sH eo wl eL ⊢
    clear st3 hL em1 e6
    refine ⟨Wd, _, _, rfl, rfl, wl.e, small1000 (by have := wl.l; omega), ?_⟩
    have hLl : (z :: ss).length = xs.length := hfz
    have nLW : V.ref L ≠ .ref Wd := fun q => nWL (by cases q; rfl)
    replace wl := wl.app (Wr.fl ⟨_, eL, by rw [lz_len]; omega, flatI _⟩) nLW
    replace eL : (upd G4 Wd (.lst (ws ++ [.ref L]))) L = some (lz (z :: ss)) := by rw [upd_ne (Ne.symm nWL)]; exact eL
    replace eo : (upd G4 Wd (.lst (ws ++ [.ref L]))) o = some (lz (rngI xs.length)) := by rw [upd_ne noWd]; exact eo
    replace sH : Same H (upd G4 Wd (.lst (ws ++ [.ref L]))) := same_upd sH nWd
    generalize (upd G4 Wd (.lst (ws ++ [.ref L]))) = G5 at sH eo wl eL ⊢
    generalize hzs : z :: ss = zs at eL hLl
    clear hfz hzs
    obtain ⟨va, hva⟩ : ∃ v, zs[g.toNat]? = some v := ⟨_, List.getElem?_eq_getElem (by omega)⟩
    obtain ⟨vo, hvo⟩ : ∃ v, zs[0]? = some v := ⟨_, List.getElem?_eq_getElem (by omega)⟩
    refine ⟨_, rfl, _, rfl, Wd, _, _, _, rfl, rfl, SqL.of wl.e, atI_last _ _, _, rfl, L, _, _, _, rfl, rfl, SqL.of eL, atI_of g.toNat (by omega) (lz_get hva), ?_⟩
    refine ⟨_, rfl, _, rfl, Wd, _, _, _, rfl, rfl, SqL.of wl.e, atI_last _ _, L, _, _, _, rfl, rfl, SqL.of eL, atI_of 0 rfl (lz_get hvo), (by show 2 ≤ sizeLine; decide), fun t2 ht2 => ?_⟩
    have st5 : Same G5 (upd G5 t2 (.tup [.int va, .int vo])) := same_new ht2 _
    have et2 : (upd G5 t2 (.tup [.int va, .int vo])) t2 = some (.tup [.int va, .int vo]) := upd_same
    replace sH := sH.trans st5
    replace eo := st5 _ _ eo
    replace wl := wl.same st5
    replace eL := st5 _ _ eL
    generalize (upd G5 t2 (.tup [.int va, .int vo])) = G6 at sH eo wl eL et2 ⊢
    clear st5 ht2
    refine ⟨t2, _, rfl, SqT.of et2, rfl, _, _, rfl, _, rfl, _, rfl, Wd, _, _, _, rfl, rfl, SqL.of wl.e, atI_last _ _, L, _, _, 0, rfl, rfl, eL, ixN_of 0 rfl (by rw [lz_len]; omega), ?_⟩
    have wl7 := wl.poke (ys := (zs.map V.int).set 0 (.int va)) nws nLW (by rw [List.length_set, lz_len]; omega) (by rw [lz_set]; exact flatI _)
    rw [lz_set] at wl7 ⊢
    refine ⟨_, _, rfl, _, rfl, _, rfl, Wd, _, _, _, rfl, rfl, SqL.of wl7.e, atI_last _ _, _, rfl, L, _, _, g.toNat, rfl, rfl, upd_same, ixN_of g.toNat (by omega) (by rw [lz_len, List.length_set]; omega), rfl, ?_⟩
    have wl8 := wl7.poke (ys := ((zs.set 0 va).map V.int).set g.toNat (.int vo)) nws nLW (by rw [List.length_set, lz_len, List.length_set]; omega) (by rw [lz_set]; exact flatI _)
    refine ⟨same_upd (same_upd sH nL) nL, by rw [upd_ne noL, upd_ne noL]; exact eo, Wd, _, nWd, noWd, wl8, _, rfl⟩
  clear wl sH eo nWd noWd
  rintro σ G1 ⟨sH, eo, Wd, ws, nWd, noWd, wl, v6, rfl⟩
  have hwl : ws.length ≤ 100 := by
    have := wl.l
    have hq : (if 0 < (xs.length : Int) then ((xs.length : Int) - 1) / (1 + (xs.length : Int) / 6) + 1 else 0).toNat ≤ 64 := by
      split
      · have : ((xs.length : Int) - 1) / (1 + (xs.length : Int) / 6) ≤ (xs.length : Int) - 1 := Int.ediv_le_self _ (by omega)
        omega
      · decide
    omega
  refine ⟨_, rfl, Wd, rfl, ⟨_, SqL.of wl.e⟩, fun D hD _ _ => ?_⟩
  refine comp_list (K := K) (a := Wd) (xs := ws) (fun i ys σ H' => Same G1 H' ∧ H' D = some (.lst ys) ∧ ys.length ≤ i ∧ (∀ v ∈ ys, NotOff G1 xs v) ∧ ∃ u, σ = [u, some (.ref b)])
    ⟨same_new hD _, upd_same, Nat.le_refl _, by simp, none, rfl⟩ (fun i ys σ H' _ ⟨s6, e6, _⟩ => ⟨SqL.of (s6 _ _ wl.e), e6⟩) ?_ ?_
  · rintro j x ys σ H' hj ⟨s6, e6, hyl, hyn, u, rfl⟩
    have hjl := (List.getElem?_eq_some_iff.mp hj).1
    have hx := (wl.w x (List.mem_of_getElem? hj)).1
    refine ⟨small1000 (by omega), ?_⟩
    have add : NotOff G1 xs x → ∀ v ∈ ys ++ [x], NotOff G1 xs v := fun hn v hv => (List.mem_append.mp hv).elim (hyn v) fun q => by rw [List.mem_singleton.mp q]; exact hn
    rcases hx with ho | ⟨p, rfl, zs, ep, hzl, hzf⟩
    · obtain ⟨t, ty, kt⟩ := (ho.same s6).noList K
      refine ⟨_, rfl, _, _, _, _, rfl, ty, kt, false, rfl, iteT (iteT ?_)⟩
      exact ⟨_, rfl, e6, same_upd s6 hD, upd_same, by simp; omega, add (.inl (.inl ho)), _, rfl⟩
    refine ⟨_, rfl, _, _, _, _, rfl, .lst (s6 _ _ ep), kit_same _ _, true, rfl, iteF ?_⟩
    refine ⟨_, rfl, _, rfl, ?_⟩
    rcases flat_ints zs hzf with ⟨ss, rfl⟩ | ⟨y0, hy0, hw0⟩
    · refine .inl ⟨b, p, xs, ss, rfl, s6 _ _ (sH _ _ hb), s6 _ _ ep, hl, by rw [lz_len] at hzl; exact hzl, fun H2 s2 => ⟨_, rfl, ?_⟩⟩
      cases hof : offB xs ss with
      | true => exact iteF ⟨s6.trans s2, s2 _ _ e6, by omega, hyn, _, rfl⟩
      | false => exact iteT ⟨_, rfl, s2 _ _ e6, same_upd (s6.trans s2) hD, upd_same, by simp; omega, add (.inr ⟨p, ss, rfl, ep, hof⟩), _, rfl⟩
    · refine .inr ⟨b, p, zs, rfl, s6 _ _ ep, by omega, hzf, ⟨y0, hy0, hw0⟩, fun H2 s2 => ⟨false, rfl, iteT ?_⟩⟩
      exact ⟨_, rfl, s2 _ _ e6, same_upd (s6.trans s2) hD, upd_same, by simp; omega, add (.inl (.inr ⟨p, zs, rfl, ep, fun y hy => .inl (flat_other (hzf y hy)), y0, hy0, hw0⟩)), _, rfl⟩
  rintro ws2 σ G2 ⟨s6, e6, hyl, hyn, u, rfl⟩
  replace sH := sH.trans s6
  replace hyn : ∀ v ∈ ws2, NotOff G2 xs v := fun v hv => (hyn v hv).same s6
  clear s6 wl eo hD
  refine ⟨_, rfl, D, rfl, ⟨_, SqL.of e6⟩, fun D2 hD2 _ _ => ?_⟩
  refine comp_list (K := K) (a := D) (xs := ws2) (fun i ys σ H' => Same G2 H' ∧ H' D2 = some (.lst ys) ∧ ys = (List.replicate i true).map V.bl ∧ ∃ u, σ = [u, some (.ref du), some (.ref b)])
    ⟨same_new hD2 _, upd_same, rfl, none, rfl⟩ (fun i ys σ H' _ ⟨s7, e7, _⟩ => ⟨SqL.of (s7 _ _ e6), e7⟩) ?_ ?_
  · rintro j x ys σ H' hj ⟨s7, e7, rfl, u, rfl⟩
    have hjl := (List.getElem?_eq_some_iff.mp hj).1
    refine ⟨small1000 (by simp; omega), ?_⟩
    refine ⟨_, rfl, _, rfl, f3, fd3, _, _, .ref b, x, 2, C2, rfl, x_number_of.F.kp, x_number_of.b, G_number_of, B.i2, fun E hE => ⟨b, xs, x, rfl, s7 _ _ (sH _ _ hb), hl, hv, (hyn x (List.mem_of_getElem? hj)).same s7, hE⟩, fun r H2 s8 nr er => ?_⟩
    refine ⟨_, rfl, r, du, dueL 2, rfl, rfl, SqL.of er, SqL.of (s8 _ _ (s7 _ _ (sH _ _ hdu))), ?_⟩
    exact ⟨s8 _ _ e7, same_upd (s7.trans s8) hD2, upd_same, rep_true _ _ rfl, _, rfl⟩
  rintro ys σ G3 ⟨s7, e7, rfl, u, rfl⟩
  refine ⟨D2, _, rfl, SqL.of e7, ?_⟩
  rw [bools_all]
  exact q _ (sH.trans s7)
end
end OS

namespace OS
open PySem L2
def Bd (H : Hp) (B : Addr) (v : V) : Prop := ∃ G : Hp, NotShuns G v ∧ G B = none ∧ Same G H
theorem Bd.same {H H' : Hp} {B : Addr} {v : V} (h : Bd H B v) (s : Same H H') : Bd H' B v := let ⟨G, n, b, t⟩ := h; ⟨G, n, b, t.trans s⟩
theorem Bd.put {H : Hp} {B : Addr} {v : V} {o : HO} (h : Bd H B v) : Bd (upd H B o) B v := let ⟨G, n, b, t⟩ := h; ⟨G, n, b, same_upd t b⟩
theorem Bd.no {H : Hp} {B : Addr} {v : V} (h : Bd H B v) : NotShuns H v := let ⟨_, n, _, t⟩ := h; n.same t
theorem Bd.of {H : Hp} {B : Addr} {v : V} {o : HO} (h : NotShuns H v) (hB : H B = none) : Bd (upd H B o) B v := ⟨H, h, hB, same_new hB _⟩
theorem notS {H : Hp} {p : Addr} {ys : List V} {y : V} (e : H p = some (.lst ys)) (hl : ys.length ≤ 100) (hf : FlatL ys) (hy : y ∈ ys) (g : goodV ys.length y = false) : NotShuns H (.ref p) :=
  .inr ⟨p, ys, rfl, e, hl, fun x hx => .inl (flat_other (hf x hx)), y, hy, g⟩
theorem Bd.flat {H : Hp} {B p : Addr} {ys : List V} {y : V} (e : H p = some (.lst ys)) (hp : p ≠ B) (hl : ys.length ≤ 100) (hf : FlatL ys) (hy : y ∈ ys) (g : goodV ys.length y = false) : Bd H B (.ref p) := by
  refine ⟨fun b => if b = p then some (.lst ys) else none, notS (by simp) hl hf hy g, by simp [Ne.symm hp], fun b o q => ?_⟩
  by_cases z : b = p
  · subst z
    simp at q
    rw [e, q]
  · simp [z] at q
structure BL (H : Hp) (B : Addr) (bs : List V) (k : Nat) : Prop where
  e : H B = some (.lst bs)
  l : bs.length ≤ k
  w : ∀ v ∈ bs, Bd H B v
theorem BL.same {H H' : Hp} {B : Addr} {bs : List V} {k : Nat} (h : BL H B bs k) (s : Same H H') : BL H' B bs k := ⟨s _ _ h.e, h.l, fun v hv => (h.w v hv).same s⟩
theorem BL.app {H : Hp} {B : Addr} {bs : List V} {k : Nat} {v : V} (h : BL H B bs k) (hv : Bd H B v) : BL (upd H B (.lst (bs ++ [v]))) B (bs ++ [v]) (k + 1) := by
  refine ⟨upd_same, by rw [List.length_append]; have := h.l; simp; omega, fun u hu => ?_⟩
  rcases List.mem_append.mp hu with z | z
  · exact (h.w u z).put
  · rw [List.mem_singleton.mp z]
    exact hv.put
def Kp (H : Hp) (vs : List V) : Prop := ∀ v ∈ vs, NotShuns H v
theorem Kp.nil (H : Hp) : Kp H [] := fun v hv => by cases hv
theorem Kp.same {H H' : Hp} {vs : List V} (h : Kp H vs) (s : Same H H') : Kp H' vs := fun v hv => (h v hv).same s
theorem Kp.put {H : Hp} {vs : List V} {v : V} (h : Kp H vs) (n : NotShuns H v) : Kp H (v :: vs) := fun u hu => (List.mem_cons.mp hu).elim (fun e => e ▸ n) (h u)
theorem flat2 {x : V} {xs : List V} (h : Flat x = true) (g : FlatL xs) : FlatL (x :: xs) := fun y hy => (List.mem_cons.mp hy).elim (fun e => e ▸ h) (g y)
theorem bad_lo {n : Nat} {i : Int} (h : i < -1) : goodV n (.int i) = false := by
  show (decide (-1 ≤ i) && _) = false
  rw [decide_eq_false (by omega), Bool.false_and]
theorem bad_hi {n : Nat} {i : Int} (h : (n : Int) ≤ i) : goodV n (.int i) = false := by
  show (_ && decide (i < (n : Int))) = false
  rw [decide_eq_false (show ¬ i < (n : Int) by omega), Bool.and_false]
theorem se_tup {xs : List Expr} {k} {pos : Pos} {es : List Expr} {env : Env} : starEach (.Tuple xs k pos :: es) env = (false, eval (.Tuple xs k pos) env) :: starEach es env := rfl
theorem sw_lst {xs : List Expr} {pos : Pos} {tg : Option Expr} {l : Nat} {env : Env} : swapsWith (.List xs pos) tg l env = pure false := rfl
theorem se_lst {xs : List Expr} {pos : Pos} {es : List Expr} {env : Env} : starEach (.List xs pos :: es) env = (false, eval (.List xs pos) env) :: starEach es env := rfl
theorem se_dct {xs ys} {pos : Pos} {es : List Expr} {env : Env} : starEach (.Dict xs ys pos :: es) env = (false, eval (.Dict xs ys pos) env) :: starEach es env := rfl
theorem se_un {o} {x : Expr} {pos : Pos} {es : List Expr} {env : Env} : starEach (.UnaryOp o x pos :: es) env = (false, eval (.UnaryOp o x pos) env) :: starEach es env := rfl
theorem se_bin {o} {x y : Expr} {pos : Pos} {es : List Expr} {env : Env} : starEach (.BinOp x o y pos :: es) env = (false, eval (.BinOp x o y pos) env) :: starEach es env := rfl
theorem se_nam {x : Str} {pos : Pos} {es : List Expr} {env : Env} : starEach (.Name x pos :: es) env = (false, eval (.Name x pos) env) :: starEach es env := rfl
structure PSx (X : Cx) (st : Stmt) (t : TS) : Prop where
  h : PS X st t
structure PSsx (X : Cx) (st : List Stmt) (t : TS) : Prop where
  h : PSs X st t
theorem psx_one {X : Cx} {st : Stmt} {t : TS} (h : PSx X st t) : PSsx X [st] t := ⟨pss_one h.h⟩
theorem psx_cons {X : Cx} {st : Stmt} {rest : List Stmt} {t u : TS} (h1 : PSx X st t) (h2 : PSsx X rest u) : PSsx X (st :: rest) (tSeq t u) := ⟨pss_cons h1.h h2.h⟩
theorem psx_ok {X : Cx} {b l : List Stmt} {t : TS} {D : Ends} {σ : St} {H : Hp} (e : b = l) (h : PSsx X l t) (r : t D σ H) : ∃ t, PSs X b t ∧ t D σ H := ⟨t, pss_of e h.h, r⟩
def stL (i : Nat) : Stmt := (defBody s_law).getD i (.Pass ⟨0, 0, 0, 0⟩)
theorem body_law : defBody s_law = [stL 0, stL 1, stL 2, stL 3, stL 4, stL 5, stL 6, stL 7, stL 8, stL 9, stL 10, stL 11, stL 12] := rfl
abbrev cxL (P : Program) (w : World) (K : PySem.W.Frag) (mg : Str → Option Value) (base : Heap) (f : Addr) (cdv : Value) (A : Around) (outer : List Env) (s : Shared) (H0 : Hp) (E : XK) : Cx :=
  (cxOf CX0 P w K mg base ["_law_script", "_law_far_here", "_law_due", "_law_k", "_law_shuns_here", "_law_kept", "_law_size", "_law_bad", "_law_at", "_law_door", "_law_whole_here", "_law_number"] "law" (defScope s_law) f cdv A outer s H0 E).nox
section
variable {P : Program} {w : World} {K : PySem.W.Frag} {mg : Str → Option Value} {base : Heap} {C0 C1 C2 S f : Addr} {cdv : Value} {A : Around} {outer : List Env} {s : Shared} {H0 : Hp} {E : XK}
theorem law_0 {f1 : Addr} {fd1 : FuncData} (hr : Room 7 (A.deeper (PyProof.Rows.envOfC "law" (defScope s_law) s.heap.objs.size f cdv))) (x__law_cell_at : Fx K mg "_law_cell_at" ["_law_script", "_law_k"] s__law_cell_at f1 fd1) (G__law_cell_at : FnOk P w K mg base CX0 7 f1 fd1 ["_law_script", "_law_k"] (spCell K)) :
    ∃ t, PSx (cxL P w K mg base f cdv A outer s H0 E) (stL 0) t ∧ ∀ (D : Ends) (H : Hp) (a : Addr) (ns : List Int), SqL K H a (ns.map V.int) → (∀ far : Int, 0 ≤ far → D.nx [some (.ref a), some (.int far), none, none, none, none, none, none, none, none, none, none] H) → t D [some (.ref a), none, none, none, none, none, none, none, none, none, none, none] H := by
  refine ⟨_, ⟨(ps_set (i := 1) sc_law.nd rfl (Or.inl rfl) (pe_op op_mod (pe_call G__law_cell_at hr rfl x__law_cell_at.m x__law_cell_at.F.kp x__law_cell_at.b .nil pass0 (pa_cons (pv 0) (pa_cons pe_int pa_nil))) (pe_op op_pow pe_int pe_int)))⟩, fun D H a ns hS q => ?_⟩
  refine ⟨_, rfl, a, ns, 0, rfl, hS, fun v => ?_⟩
  refine ⟨_, _, rfl, rfl, ⟨by decide, by decide, by decide⟩, ?_⟩
  refine ⟨_, _, rfl, rfl, (show (0 : Int) < 10 ^ Int.toNat 6 by decide +kernel), ?_⟩
  exact q _ (Int.emod_nonneg _ (by decide +kernel))
theorem law_1 : ∃ t, PSx (cxL P w K mg base f cdv A outer s H0 E) (stL 1) t ∧ ∀ (D : Ends) (H : Hp) (a : Addr) (far : Int), (∀ du, H du = none → D.nx [some (.ref a), some (.int far), some (.ref du), none, none, none, none, none, none, none, none, none] (upd H du (.lst []))) → t D [some (.ref a), some (.int far), none, none, none, none, none, none, none, none, none, none] H := by
  refine ⟨_, ⟨(ps_set (i := 2) sc_law.nd rfl (Or.inr rfl) (pe_lst pa_nil))⟩, fun D H a far q => ?_⟩
  exact ⟨Nat.zero_le _, fun du hdu => q du hdu⟩
structure Due (H : Hp) (du : Addr) (ds : List Addr) (k : Nat) : Prop where
  l : ds.length = k
  e : H du = some (.lst (ds.map V.ref))
  w : ∀ (i : Nat) (d : Addr), ds[i]? = some d → d ≠ du ∧ H d = some (.lst ((dueL i).map V.bl))
theorem Due.same {H H' : Hp} {du : Addr} {ds : List Addr} {k : Nat} (h : Due H du ds k) (s : Same H H') : Due H' du ds k := ⟨h.l, s _ _ h.e, fun i d hd => ⟨(h.w i d hd).1, s _ _ (h.w i d hd).2⟩⟩
theorem Due.but {H H' : Hp} {du : Addr} {ds : List Addr} {k : Nat} (h : Due H du ds k) (s : Same H H') : Due H' du ds k := h.same s
theorem dec_eq (k c : Nat) : decide (V.int (0 + (k : Int)) = V.int (c : Int)) = decide (k = c) := by
  by_cases e : k = c
  · subst e
    rw [decide_eq_true rfl, decide_eq_true (by rw [Int.zero_add])]
  · have : ¬ V.int (0 + (k : Int)) = V.int (c : Int) := fun z => e (by have := V.int.inj z; omega)
    rw [decide_eq_false this, decide_eq_false e]
theorem law_2 (T : Nm mg) : ∃ t, PSx (cxL P w K mg base f cdv A outer s H0 E) (stL 2) t ∧ ∀ (D : Ends) (H H1 : Hp) (a du : Addr) (far : Int), Same H H1 → H du = none → H1 du = some (.lst []) →
      (∀ (k : Option V) (ds : List Addr) (H' : Hp), Same H H' → Due H' du ds 3 → D.nx [some (.ref a), some (.int far), some (.ref du), k, none, none, none, none, none, none, none, none] H') → t D [some (.ref a), some (.int far), some (.ref du), none, none, none, none, none, none, none, none, none] H1 := by
  refine ⟨_, ⟨(ps_for PassesOwn.never rfl (pi_range1 rfl T.n_range (pa_cons pe_int pa_nil)) (pg_name (i := 3) sc_law.nd rfl (Or.inl rfl)) (pss_one (ps_expr (pe_bm PySem.F.plainAttrs_list PySem.F.slot_list_append PySem.F.type_list_append mt_append (pv 2) (pa_cons (pe_lst (pa_cons (pe_cmpR op_eq (pv 3) pe_int (nomark _)) (pa_cons (pe_cmpR op_eq (pv 3) pe_int (nomark _)) (pa_cons (pe_cmpR op_eq (pv 3) pe_int (nomark _)) (pa_cons pe_bl pa_nil))))) pa_nil)))))⟩, fun D H H1 a du far s1 hdu e1 q => ?_⟩
  refine ⟨_, rfl, by decide, by decide, for_range (lo := 0) (n := 3) (fun i σ H' => Same H H' ∧ (∃ ds, Due H' du ds i) ∧ ∃ k, σ = [some (.ref a), some (.int far), some (.ref du), k, none, none, none, none, none, none, none, none])
    ⟨s1, ⟨[], rfl, e1, fun i d hd => by simp at hd⟩, none, rfl⟩ ?_ ?_⟩
  · rintro i σ G hi ⟨sG, ⟨ds, hd⟩, k, rfl⟩
    refine ⟨_, rfl, .inl ⟨rfl, _, SqL.of hd.e⟩, ?_⟩
    refine ⟨_, rfl, rfl, _, rfl, rfl, _, rfl, rfl, (by show 4 ≤ sizeLine; decide), fun d nd => ?_⟩
    rw [show decide (V.int (0 + (i : Int)) = V.int 0) = decide (i = 0) from dec_eq i 0, show decide (V.int (0 + (i : Int)) = V.int 1) = decide (i = 1) from dec_eq i 1, show decide (V.int (0 + (i : Int)) = V.int 2) = decide (i = 2) from dec_eq i 2]
    rw [show [V.bl (decide (i = 0)), V.bl (decide (i = 1)), V.bl (decide (i = 2)), V.bl true] = (dueL i).map V.bl from rfl]
    have s2 : Same G (upd G d (.lst ((dueL i).map V.bl))) := same_new nd _
    have ed : (upd G d (.lst ((dueL i).map V.bl))) d = some (.lst ((dueL i).map V.bl)) := upd_same
    have ndu : d ≠ du := (ne_of_none hd.e nd).symm
    replace hd := hd.same s2
    replace sG := sG.trans s2
    generalize (upd G d (.lst ((dueL i).map V.bl))) = G2 at hd sG ed ⊢
    refine ⟨du, _, _, rfl, rfl, hd.e, small1000 (by rw [List.length_map, hd.l]; omega), ?_⟩
    refine ⟨same_upd sG hdu, ⟨ds ++ [d], by rw [List.length_append, hd.l]; rfl, by rw [upd_same, List.map_append]; rfl, fun j e he => ?_⟩, _, rfl⟩
    by_cases hj : j < ds.length
    · rw [List.getElem?_append_left hj] at he
      have := hd.w j e he
      exact ⟨this.1, by rw [upd_ne this.1]; exact this.2⟩
    · have hj2 : j < (ds ++ [d]).length := (List.getElem?_eq_some_iff.mp he).1
      rw [List.length_append] at hj2
      have hji : j = ds.length := by simp at hj2; omega
      subst hji
      rw [List.getElem?_concat_length] at he
      cases he
      rw [hd.l]
      exact ⟨ndu, by rw [upd_ne ndu]; exact ed⟩
  · rintro σ G ⟨sG, ⟨ds, hd⟩, k, rfl⟩
    exact q _ _ _ sG hd
theorem law_3 {f1 : Addr} {fd1 : FuncData} (hr : Room 7 (A.deeper (PyProof.Rows.envOfC "law" (defScope s_law) s.heap.objs.size f cdv))) (x__law_shuns : Fx K mg "_law_shuns" ["_law_script"] s__law_shuns f1 fd1) (G__law_shuns : FnOk P w K mg base CX0 7 f1 fd1 ["_law_script"] (spShuns K)) :
    ∃ t, PSx (cxL P w K mg base f cdv A outer s H0 E) (stL 3) t ∧ ∀ (D : Ends) (H : Hp) (a du : Addr) (far : Int) (k : Option V) (ns : List Int), SqL K H a (ns.map V.int) → ns.length ≤ 63 →
      (∀ (r : Addr) (H' : Hp) (xs : List Int), Same H H' → H r = none → H' r = some (lz xs) → Good ns.length xs → D.nx [some (.ref a), some (.int far), some (.ref du), k, some (.ref r), none, none, none, none, none, none, none] H') → t D [some (.ref a), some (.int far), some (.ref du), k, none, none, none, none, none, none, none, none] H := by
  refine ⟨_, ⟨(ps_set (i := 4) sc_law.nd rfl (Or.inl rfl) (pe_call G__law_shuns hr rfl x__law_shuns.m x__law_shuns.F.kp x__law_shuns.b .nil pass0 (pa_cons (pv 0) pa_nil)))⟩, fun D H a du far k ns hS hl q => ?_⟩
  exact ⟨_, rfl, a, ns, rfl, hS, hl, fun r H1 xs s1 n1 e1 g => q r H1 xs s1 n1 e1 g⟩
theorem law_4 (T : Nm mg) : ∃ t, PSx (cxL P w K mg base f cdv A outer s H0 E) (stL 4) t ∧ ∀ (D : Ends) (H : Hp) (a du r : Addr) (far : Int) (k : Option V) (xs : List Int), H r = some (lz xs) →
      (∀ kp, H kp = none → D.nx [some (.ref a), some (.int far), some (.ref du), k, some (.ref r), some (.ref kp), some (.int (xs.length : Int)), none, none, none, none, none] (upd H kp (lz xs))) → t D [some (.ref a), some (.int far), some (.ref du), k, some (.ref r), none, none, none, none, none, none, none] H := by
  refine ⟨_, ⟨(ps_par rfl sc_law.nd (i := 5) (j := 6) rfl rfl (by decide) rfl rfl (pa_cons (pe_callTy call_list_of rfl T.n_list b_list (pa_cons (pv 4) pa_nil)) (pa_cons (pe_callB call_len_seq rfl T.n_len b_len (pa_cons (pv 4) pa_nil)) pa_nil)) rfl)⟩, fun D H a du r far k xs er q => ?_⟩
  refine ⟨_, rfl, r, _, rfl, .inl (SqL.of er), fun kp hkp => ?_⟩
  refine ⟨_, rfl, r, _, rfl, .inl (SqL.of (same_new hkp _ _ _ er)), ?_⟩
  refine ⟨_, _, rfl, ?_⟩
  rw [lz_len]
  exact q kp hkp
def t_bad : TA := (tCons (tC .non) (tCons (tTup tNil) (tCons (tTup (tCons (tC (.int 0)) tNil)) (tCons (tC (.str "0")) (tCons tDNewK (tCons (tC (.int 0)) (tCons (tLst (tCons (tC .non) tNil)) (tCons (tLst (tCons (tC (.str "0")) tNil)) (tCons (tLst (tCons (tC (.bl true)) tNil)) (tCons (tLst (tCons (tC (.int 1)) tNil)) (tCons (tLst (tCons (tUn (rU fun i => .int (-i)) (tC (.int 2))) tNil)) (tCons (tLst (tCons (tOp (rI0 fun i j => .int (i - j)) (tUn (rU fun i => .int (-i)) (tC (.int 2))) (tVar 1)) tNil)) (tCons (tLst (tCons (tOp (rI0 fun i j => .int (i + j)) (tC (.int 1)) (tVar 1)) tNil)) (tCons (tLst (tCons (tLst (tCons (tC (.int 0)) tNil)) tNil)) (tCons (tLst (tCons (tC (.int 0)) (tCons (tC (.int 2)) tNil))) tNil)))))))))))))))
theorem law_5 : ∃ t, PSx (cxL P w K mg base f cdv A outer s H0 E) (stL 5) t ∧ ∀ (D : Ends) (H : Hp) (a du r kp : Addr) (far : Int) (k n : Option V), 0 ≤ far →
      (∀ (B : Addr) (bs : List V) (H' : Hp), Same H H' → H B = none → BL H' B bs 15 → D.nx [some (.ref a), some (.int far), some (.ref du), k, some (.ref r), some (.ref kp), n, some (.ref B), none, none, none, none] H') → t D [some (.ref a), some (.int far), some (.ref du), k, some (.ref r), some (.ref kp), n, none, none, none, none, none] H := by
  refine ⟨tAsg (tLst t_bad) (gName 7), ⟨?p⟩, ?r⟩
  case p =>
    refine ps_set (X := (cxL P w K mg base f cdv A outer s H0 E)) (i := 7) (x := "_law_bad") ?h1 ?h2 ?h3 ?h4 ?h5 ?h6
    · exact sc_law.nd
    · exact rfl
    · exact Or.inl rfl
    · refine pe_lst ?_
      unfold t_bad
      refine pa_cons ?a0 ?b0 ?c0
      (case a0 => exact pe_non)
      (case c0 => exact se_const)
      refine pa_cons ?a1 ?b1 ?c1
      (case a1 => exact (pe_tup pa_nil))
      (case c1 => exact se_tup)
      refine pa_cons ?a2 ?b2 ?c2
      (case a2 => exact (pe_tup (pa_cons pe_int pa_nil)))
      (case c2 => exact se_tup)
      refine pa_cons ?a3 ?b3 ?c3
      (case a3 => exact pe_str)
      (case c3 => exact se_const)
      refine pa_cons ?a4 ?b4 ?c4
      (case a4 => exact pe_dnewK)
      (case c4 => exact se_dct)
      refine pa_cons ?a5 ?b5 ?c5
      (case a5 => exact pe_int)
      (case c5 => exact se_const)
      refine pa_cons ?a6 ?b6 ?c6
      (case a6 => exact (pe_lst (pa_cons pe_non pa_nil)))
      (case c6 => exact se_lst)
      refine pa_cons ?a7 ?b7 ?c7
      (case a7 => exact (pe_lst (pa_cons pe_str pa_nil)))
      (case c7 => exact se_lst)
      refine pa_cons ?a8 ?b8 ?c8
      (case a8 => exact (pe_lst (pa_cons pe_bl pa_nil)))
      (case c8 => exact se_lst)
      refine pa_cons ?a9 ?b9 ?c9
      (case a9 => exact (pe_lst (pa_cons pe_int pa_nil)))
      (case c9 => exact se_lst)
      refine pa_cons ?a10 ?b10 ?c10
      (case a10 => exact (pe_lst (pa_cons (pe_un un_neg pe_int) pa_nil)))
      (case c10 => exact se_lst)
      refine pa_cons ?a11 ?b11 ?c11
      (case a11 => exact (pe_lst (pa_cons (pe_op op_sub (pe_un un_neg pe_int) (pv 1)) pa_nil)))
      (case c11 => exact se_lst)
      refine pa_cons ?a12 ?b12 ?c12
      (case a12 => exact (pe_lst (pa_cons (pe_op op_add pe_int (pv 1)) pa_nil)))
      (case c12 => exact se_lst)
      refine pa_cons ?a13 ?b13 ?c13
      (case a13 => exact (pe_lst (pa_cons (pe_lst (pa_cons pe_int pa_nil)) pa_nil)))
      (case c13 => exact se_lst)
      refine pa_cons ?a14 ?b14 ?c14
      (case a14 => exact (pe_lst (pa_cons pe_int (pa_cons pe_int pa_nil))))
      (case c14 => exact se_lst)
      exact pa_nil
    · exact sw_lst
    · exact .inl rfl
  intro D H a du r kp far k n hf q
  have sH : Same H H := Same.refl _
  have ka : Kp H [.non] := (Kp.nil _).put (.inl .non)
  refine ⟨Nat.zero_le _, fun t0 ht0 => ?_⟩
  have st_ : Same H (upd H t0 (.tup [])) := same_new ht0 _
  replace sH := sH.trans st_
  replace ka := (ka.same st_).put (v := .ref t0) (.inl (.tup upd_same))
  clear st_
  generalize (upd H t0 (.tup [])) = G1 at sH ka ⊢
  clear ht0
  refine ⟨(by show 1 ≤ sizeLine; decide), fun t1 ht1 => ?_⟩
  have st_ : Same G1 (upd G1 t1 (.tup [.int 0])) := same_new ht1 _
  replace sH := sH.trans st_
  replace ka := (ka.same st_).put (v := .ref t1) (.inl (.tup upd_same))
  clear st_
  generalize (upd G1 t1 (.tup [.int 0])) = G2 at sH ka ⊢
  clear ht1
  replace ka := ka.put (v := .str "0") (.inl (.str _))
  intro d0 hd0
  have st_ : Same G2 (upd G2 d0 (.dK [])) := same_new hd0 _
  replace sH := sH.trans st_
  replace ka := (ka.same st_).put (v := .ref d0) (.inl (.dct upd_same))
  clear st_
  generalize (upd G2 d0 (.dK [])) = G3 at sH ka ⊢
  clear hd0
  replace ka := ka.put (v := .int 0) (.inl (.int _))
  refine ⟨(by show 1 ≤ sizeLine; decide), fun p0 hp0 => ?_⟩
  have st_ : Same G3 (upd G3 p0 (.lst [.non])) := same_new hp0 _
  replace sH := sH.trans st_
  replace ka := (ka.same st_).put (v := .ref p0) (notS upd_same (by show 1 ≤ 100; decide) (flat1 rfl) (List.mem_singleton.mpr rfl) (rfl))
  clear st_
  generalize (upd G3 p0 (.lst [.non])) = G4 at sH ka ⊢
  clear hp0
  refine ⟨(by show 1 ≤ sizeLine; decide), fun p1 hp1 => ?_⟩
  have st_ : Same G4 (upd G4 p1 (.lst [.str "0"])) := same_new hp1 _
  replace sH := sH.trans st_
  replace ka := (ka.same st_).put (v := .ref p1) (notS upd_same (by show 1 ≤ 100; decide) (flat1 rfl) (List.mem_singleton.mpr rfl) (rfl))
  clear st_
  generalize (upd G4 p1 (.lst [.str "0"])) = G5 at sH ka ⊢
  clear hp1
  refine ⟨(by show 1 ≤ sizeLine; decide), fun p2 hp2 => ?_⟩
  have st_ : Same G5 (upd G5 p2 (.lst [.bl true])) := same_new hp2 _
  replace sH := sH.trans st_
  replace ka := (ka.same st_).put (v := .ref p2) (notS upd_same (by show 1 ≤ 100; decide) (flat1 rfl) (List.mem_singleton.mpr rfl) (rfl))
  clear st_
  generalize (upd G5 p2 (.lst [.bl true])) = G6 at sH ka ⊢
  clear hp2
  refine ⟨(by show 1 ≤ sizeLine; decide), fun p3 hp3 => ?_⟩
  have st_ : Same G6 (upd G6 p3 (.lst [.int 1])) := same_new hp3 _
  replace sH := sH.trans st_
  replace ka := (ka.same st_).put (v := .ref p3) (notS upd_same (by show 1 ≤ 100; decide) (flat1 rfl) (List.mem_singleton.mpr rfl) (by decide))
  clear st_
  generalize (upd G6 p3 (.lst [.int 1])) = G7 at sH ka ⊢
  clear hp3
  refine ⟨_, rfl, (by show 1 ≤ sizeLine; decide), fun p4 hp4 => ?_⟩
  have st_ : Same G7 (upd G7 p4 (.lst [.int (-2)])) := same_new hp4 _
  replace sH := sH.trans st_
  replace ka := (ka.same st_).put (v := .ref p4) (notS upd_same (by show 1 ≤ 100; decide) (flat1 rfl) (List.mem_singleton.mpr rfl) (by decide))
  clear st_
  generalize (upd G7 p4 (.lst [.int (-2)])) = G8 at sH ka ⊢
  clear hp4
  refine ⟨_, rfl, _, rfl, _, _, rfl, rfl, (by show 1 ≤ sizeLine; decide), fun p5 hp5 => ?_⟩
  have st_ : Same G8 (upd G8 p5 (.lst [.int (-2 - far)])) := same_new hp5 _
  replace sH := sH.trans st_
  replace ka := (ka.same st_).put (v := .ref p5) (notS upd_same (by show 1 ≤ 100; decide) (flat1 rfl) (List.mem_singleton.mpr rfl) (bad_lo (by omega)))
  clear st_
  generalize (upd G8 p5 (.lst [.int (-2 - far)])) = G9 at sH ka ⊢
  clear hp5
  refine ⟨_, rfl, _, _, rfl, rfl, (by show 1 ≤ sizeLine; decide), fun p6 hp6 => ?_⟩
  have st_ : Same G9 (upd G9 p6 (.lst [.int (1 + far)])) := same_new hp6 _
  replace sH := sH.trans st_
  replace ka := (ka.same st_).put (v := .ref p6) (notS upd_same (by show 1 ≤ 100; decide) (flat1 rfl) (List.mem_singleton.mpr rfl) (bad_hi (by show (1 : Int) ≤ _; omega)))
  clear st_
  generalize (upd G9 p6 (.lst [.int (1 + far)])) = G10 at sH ka ⊢
  clear hp6
  refine ⟨(by show 1 ≤ sizeLine; decide), fun q0 hq0 => ?_⟩
  have st_ : Same G10 (upd G10 q0 (.lst [.int 0])) := same_new hq0 _
  replace sH := sH.trans st_
  replace ka := ka.same st_
  have eq0 : (upd G10 q0 (.lst [.int 0])) q0 = some (.lst [.int 0]) := upd_same
  clear st_
  generalize (upd G10 q0 (.lst [.int 0])) = G11 at sH ka eq0 ⊢
  clear hq0
  refine ⟨(by show 1 ≤ sizeLine; decide), fun p7 hp7 => ?_⟩
  have eq7 : (upd G11 p7 (.lst [.ref q0])) q0 = some (.lst [.int 0]) := same_new hp7 _ _ _ eq0
  have st_ : Same G11 (upd G11 p7 (.lst [.ref q0])) := same_new hp7 _
  replace sH := sH.trans st_
  replace ka := (ka.same st_).put (v := .ref p7) (.inr ⟨p7, [.ref q0], rfl, upd_same, (by show 1 ≤ 100; decide), fun x hx => by rw [List.mem_singleton.mp hx]; exact .inr ⟨q0, _, rfl, eq7⟩, .ref q0, List.mem_singleton.mpr rfl, rfl⟩)
  clear st_
  generalize (upd G11 p7 (.lst [.ref q0])) = G12 at sH ka ⊢
  clear hp7
  refine ⟨(by show 2 ≤ sizeLine; decide), fun p8 hp8 => ?_⟩
  have st_ : Same G12 (upd G12 p8 (.lst [.int 0, .int 2])) := same_new hp8 _
  replace sH := sH.trans st_
  replace ka := (ka.same st_).put (v := .ref p8) (notS upd_same (by decide) (flat2 rfl (flat1 rfl)) (List.mem_cons_of_mem _ (List.mem_singleton.mpr rfl)) (by decide))
  clear st_
  generalize (upd G12 p8 (.lst [.int 0, .int 2])) = G13 at sH ka ⊢
  clear hp8
  refine ⟨(by show 15 ≤ sizeLine; decide), fun B hB => ?_⟩
  refine q B _ _ (sH.trans (same_new hB _)) (sH.free hB) ⟨upd_same, Nat.le_refl 15, fun v hv => Bd.of (ka v ?_) hB⟩
  exact List.mem_reverse.mp hv
theorem law_6 : ∃ t, PSx (cxL P w K mg base f cdv A outer s H0 E) (stL 6) t ∧ ∀ (D : Ends) (H H1 : Hp) (a du r kp B : Addr) (far : Int) (k n : Option V) (bs : List V), Same H H1 → H B = none → BL H1 B bs 15 →
      (∀ (bs : List V) (H' : Hp), Same H H' → BL H' B bs 16 → D.nx [some (.ref a), some (.int far), some (.ref du), k, some (.ref r), some (.ref kp), n, some (.ref B), none, none, none, none] H') → t D [some (.ref a), some (.int far), some (.ref du), k, some (.ref r), some (.ref kp), n, some (.ref B), none, none, none, none] H1 := by
  refine ⟨_, ⟨(ps_expr (pe_bm PySem.F.plainAttrs_list PySem.F.slot_list_append PySem.F.type_list_append mt_append (pv 7) (pa_cons (pe_lst (pa_cons pe_int (pa_cons pe_int (pa_cons pe_int pa_nil)))) pa_nil)))⟩, fun D H H1 a du r kp B far k n bs s1 hB b q => ?_⟩
  refine ⟨_, rfl, .inl ⟨rfl, _, SqL.of b.e⟩, (by show 3 ≤ sizeLine; decide), fun p hp => ?_⟩
  have s2 : Same H1 (upd H1 p (.lst [.int 0, .int 1, .int 3])) := same_new hp _
  have e2 : (upd H1 p (.lst [.int 0, .int 1, .int 3])) p = some (.lst [.int 0, .int 1, .int 3]) := upd_same
  have np : p ≠ B := (ne_of_none b.e hp).symm
  replace b := b.same s2
  replace s1 := s1.trans s2
  generalize (upd H1 p (.lst [.int 0, .int 1, .int 3])) = G at b s1 e2 ⊢
  refine ⟨B, _, _, rfl, rfl, b.e, small1000 (by have := b.l; omega), ?_⟩
  exact q _ _ (same_upd s1 hB) (b.app (.flat e2 np (by decide) (flat2 rfl (flat2 rfl (flat1 rfl))) (List.mem_cons_of_mem _ (List.mem_cons_of_mem _ (List.mem_singleton.mpr rfl))) (by decide)))
end
end OS

namespace OS
open PySem L2
section
variable {P : Program} {w : World} {K : PySem.W.Frag} {mg : Str → Option Value} {base : Heap} {C0 C1 C2 S f : Addr} {cdv : Value} {A : Around} {outer : List Env} {s : Shared} {H0 : Hp} {E : XK}
theorem take_drop_len {xs : List Int} {m : Nat} {y : V} (h : m < xs.length) : ((xs.take m).map V.int ++ [y] ++ (xs.drop (m + 1)).map V.int).length = xs.length := by
  simp only [List.length_append, List.length_map, List.length_take, List.length_drop, List.length_cons, List.length_nil]
  omega
theorem seven (n far : Int) (j : Nat) (hj : j < 7) (hn : 0 ≤ n) (hf : 0 ≤ far) : ∃ y : V, ([V.non, V.str "1", V.bl true, V.int n, V.int (-2), V.int (n + far), V.int (-2 - far)] : List V)[j]? = some y ∧ Flat y = true ∧ ∀ m : Nat, (m : Int) = n → goodV m y = false := by
  have h : j = 0 ∨ j = 1 ∨ j = 2 ∨ j = 3 ∨ j = 4 ∨ j = 5 ∨ j = 6 := by omega
  rcases h with h | h | h | h | h | h | h <;> subst h
  · exact ⟨_, rfl, rfl, fun m _ => rfl⟩
  · exact ⟨_, rfl, rfl, fun m _ => rfl⟩
  · exact ⟨_, rfl, rfl, fun m _ => rfl⟩
  · exact ⟨_, rfl, rfl, fun m e => bad_hi (by omega)⟩
  · exact ⟨_, rfl, rfl, fun m e => bad_lo (by omega)⟩
  · exact ⟨_, rfl, rfl, fun m e => bad_hi (by omega)⟩
  · exact ⟨_, rfl, rfl, fun m e => bad_lo (by omega)⟩
theorem law_7 (T : Nm mg) : ∃ t, PSx (cxL P w K mg base f cdv A outer s H0 E) (stL 7) t ∧ ∀ (D : Ends) (H H1 : Hp) (a du r kp B : Addr) (far : Int) (k : Option V) (xs : List Int) (bs : List V), Same H H1 → H B = none → H r = some (lz xs) → xs.length ≤ 63 → 0 ≤ far → BL H1 B bs 16 →
      (∀ (v8 : Option V) (bs : List V) (H' : Hp), Same H H' → BL H' B bs 100 → D.nx [some (.ref a), some (.int far), some (.ref du), k, some (.ref r), some (.ref kp), some (.int (xs.length : Int)), some (.ref B), v8, none, none, none] H') → t D [some (.ref a), some (.int far), some (.ref du), k, some (.ref r), some (.ref kp), some (.int (xs.length : Int)), some (.ref B), none, none, none, none] H1 := by
  refine ⟨_, ⟨(ps_for PassesOwn.never rfl (pi_up rfl T.n_range (pa_cons pe_int (pa_cons (pv 6) (pa_cons (pe_op op_add pe_int (pe_op op_fdiv (pv 6) pe_int)) pa_nil)))) (pg_name (i := 8) sc_law.nd rfl (Or.inl rfl)) (pss_one (ps_expr (pe_bm PySem.F.plainAttrs_list PySem.F.slot_list_append PySem.F.type_list_append mt_append (pv 7) (pa_cons (pe_op op_cat (pe_op op_cat (pe_slice sl_list (pv 4) po_none (po_some (pv 8))) (pe_lst (pa_cons (pe_ix ix_tup (pe_tup (pa_cons pe_non (pa_cons pe_str (pa_cons pe_bl (pa_cons (pv 6) (pa_cons (pe_un un_neg pe_int) (pa_cons (pe_op op_add (pv 6) (pv 1)) (pa_cons (pe_op op_sub (pe_un un_neg pe_int) (pv 1)) pa_nil se_bin) se_bin) se_un) se_nam) se_const) se_const) se_const)) (pe_op op_mod (pv 8) pe_int) (fun _ _ => rfl)) pa_nil))) (pe_slice sl_list (pv 4) (po_some (pe_op op_add (pv 8) pe_int)) po_none)) pa_nil)))))⟩, fun D H H1 a du r kp B far k xs bs s1 hB er hl hf b q => ?_⟩
  refine ⟨_, rfl, _, rfl, _, _, rfl, rfl, ⟨by decide, by decide⟩, _, _, rfl, rfl, _, _, rfl, ⟨by omega, by omega, by omega, by omega⟩, ?_⟩
  refine for_up (lo := 0) (st := 1 + (xs.length : Int) / 6) (n := (if 0 < (xs.length : Int) then ((xs.length : Int) - 1) / (1 + (xs.length : Int) / 6) + 1 else 0).toNat)
    (fun i σ H' => Same H H' ∧ (∃ bs, BL H' B bs (16 + i)) ∧ ∃ v8, σ = [some (.ref a), some (.int far), some (.ref du), k, some (.ref r), some (.ref kp), some (.int (xs.length : Int)), some (.ref B), v8, none, none, none])
    ⟨s1, ⟨bs, b⟩, none, rfl⟩ ?_ ?_
  · clear b s1
    rintro i σ G hk ⟨sH, ⟨bs, b⟩, v8, rfl⟩
    have hst : (0 : Int) < 1 + (xs.length : Int) / 6 := by omega
    have hlt := up_lt hst hk
    have hi0 : (i : Int) * 1 ≤ i * (1 + (xs.length : Int) / 6) := Int.mul_le_mul_of_nonneg_left (by omega) (by omega)
    obtain ⟨m, hm⟩ : ∃ m : Nat, (0 : Int) + (i : Int) * (1 + (xs.length : Int) / 6) = (m : Int) := ⟨((0 : Int) + (i : Int) * (1 + (xs.length : Int) / 6)).toNat, by omega⟩
    rw [hm]
    have ml : m < xs.length := by omega
    have i63 : i < 63 := by omega
    clear hlt hi0 hst hm hk
    have c1 : cutV (xs.map V.int) none (some (m : Int)) = (xs.take m).map V.int := by rw [cut_to, List.map_take]
    have c2 : cutV (xs.map V.int) (some ((m : Int) + 1)) none = (xs.drop (m + 1)).map V.int := by rw [show (m : Int) + 1 = ((m + 1 : Nat) : Int) by omega, cut_from, List.map_drop]
    refine ⟨_, rfl, .inl ⟨rfl, _, SqL.of b.e⟩, _, rfl, _, rfl, _, rfl, r, _, rfl, SqL.of (sH _ _ er), fun p1 hp1 => ?_⟩
    rw [c1]
    have st1 : Same G (upd G p1 (lz (xs.take m))) := same_new hp1 _
    have e1 : (upd G p1 (lz (xs.take m))) p1 = some (lz (xs.take m)) := upd_same
    replace sH := sH.trans st1
    replace b := b.same st1
    generalize (upd G p1 (lz (xs.take m))) = G1 at sH b e1 ⊢
    clear st1 hp1 G
    refine ⟨_, rfl, _, rfl, _, rfl, _, rfl, _, _, rfl, rfl, _, rfl, _, rfl, _, _, rfl, rfl, (by show 7 ≤ sizeLine; decide), fun tp htp => ?_⟩
    have st2 : Same G1 (upd G1 tp (.tup [.non, .str "1", .bl true, .int (xs.length : Int), .int (-2), .int ((xs.length : Int) + far), .int (-2 - far)])) := same_new htp _
    have et : (upd G1 tp (.tup [.non, .str "1", .bl true, .int (xs.length : Int), .int (-2), .int ((xs.length : Int) + far), .int (-2 - far)])) tp = some (.tup [.non, .str "1", .bl true, .int (xs.length : Int), .int (-2), .int ((xs.length : Int) + far), .int (-2 - far)]) := upd_same
    replace sH := sH.trans st2
    replace b := b.same st2
    replace e1 := st2 _ _ e1
    generalize (upd G1 tp (.tup [.non, .str "1", .bl true, .int (xs.length : Int), .int (-2), .int ((xs.length : Int) + far), .int (-2 - far)])) = G2 at sH b e1 et ⊢
    clear st2 htp G1
    obtain ⟨y, hy, hyf, hyg⟩ := seven (xs.length : Int) far (m % 7) (Nat.mod_lt _ (by decide)) (by omega) hf
    refine ⟨_, rfl, _, _, rfl, rfl, (show (0 : Int) < 7 by decide), tp, _, _, _, rfl, rfl, SqT.of et, atI_of (m % 7) (by omega) hy, (by show 1 ≤ sizeLine; decide), fun p2 hp2 => ?_⟩
    have st3 : Same G2 (upd G2 p2 (.lst [y])) := same_new hp2 _
    have e2 : (upd G2 p2 (.lst [y])) p2 = some (.lst [y]) := upd_same
    replace sH := sH.trans st3
    replace b := b.same st3
    replace e1 := st3 _ _ e1
    generalize (upd G2 p2 (.lst [y])) = G3 at sH b e1 e2 ⊢
    clear st3 hp2 et G2
    refine ⟨p1, p2, _, _, rfl, rfl, e1, e2, small (by simp only [List.length_map, List.length_take, List.length_cons, List.length_nil]; omega), fun p3 hp3 => ?_⟩
    have st4 : Same G3 (upd G3 p3 (.lst ((xs.take m).map V.int ++ [y]))) := same_new hp3 _
    have e3 : (upd G3 p3 (.lst ((xs.take m).map V.int ++ [y]))) p3 = some (.lst ((xs.take m).map V.int ++ [y])) := upd_same
    replace sH := sH.trans st4
    replace b := b.same st4
    generalize (upd G3 p3 (.lst ((xs.take m).map V.int ++ [y]))) = G4 at sH b e3 ⊢
    clear st4 hp3 e1 e2 G3
    refine ⟨_, rfl, _, rfl, _, _, rfl, rfl, _, rfl, r, _, rfl, SqL.of (sH _ _ er), fun p4 hp4 => ?_⟩
    rw [c2]
    have st5 : Same G4 (upd G4 p4 (lz (xs.drop (m + 1)))) := same_new hp4 _
    have e4 : (upd G4 p4 (lz (xs.drop (m + 1)))) p4 = some (lz (xs.drop (m + 1))) := upd_same
    replace sH := sH.trans st5
    replace b := b.same st5
    replace e3 := st5 _ _ e3
    generalize (upd G4 p4 (lz (xs.drop (m + 1)))) = G5 at sH b e3 e4 ⊢
    clear st5 hp4 G4
    have hlen := take_drop_len (y := y) ml
    refine ⟨p3, p4, _, _, rfl, rfl, e3, e4, small (by simp only [List.length_append, List.length_map, List.length_take, List.length_drop, List.length_cons, List.length_nil]; omega), fun p5 hp5 => ?_⟩
    have np : p5 ≠ B := (ne_of_none b.e hp5).symm
    have hfl : FlatL ((xs.take m).map V.int ++ [y] ++ (xs.drop (m + 1)).map V.int) := ((flatI _).app (flat1 hyf)).app (flatI _)
    have hmem : y ∈ ((xs.take m).map V.int ++ [y] ++ (xs.drop (m + 1)).map V.int) := List.mem_append_left _ (List.mem_append_right _ (List.mem_singleton.mpr rfl))
    generalize (xs.take m).map V.int ++ [y] ++ (xs.drop (m + 1)).map V.int = ys at hlen hfl hmem ⊢
    have st6 : Same G5 (upd G5 p5 (.lst ys)) := same_new hp5 _
    have e5 : (upd G5 p5 (.lst ys)) p5 = some (.lst ys) := upd_same
    replace sH := sH.trans st6
    replace b := b.same st6
    generalize (upd G5 p5 (.lst ys)) = G6 at sH b e5 ⊢
    refine ⟨B, _, _, rfl, rfl, b.e, small1000 (by have := b.l; omega), ?_⟩
    exact ⟨same_upd sH hB, ⟨_, b.app (.flat e5 np (by omega) hfl hmem (by rw [hlen]; exact hyg _ rfl))⟩, _, rfl⟩
  · clear b s1
    rintro σ G ⟨sH, ⟨bs, b⟩, v8, rfl⟩
    have hq : (if 0 < (xs.length : Int) then ((xs.length : Int) - 1) / (1 + (xs.length : Int) / 6) + 1 else 0).toNat ≤ 64 := by
      split
      · have : ((xs.length : Int) - 1) / (1 + (xs.length : Int) / 6) ≤ (xs.length : Int) - 1 := Int.ediv_le_self _ (by omega)
        omega
      · decide
    exact q _ _ _ sH ⟨b.e, by have := b.l; omega, b.w⟩
theorem law_8 {f2 f3 : Addr} {fd2 fd3 : FuncData} (T : Nm mg) (X : Errs K mg C0 C1 C2 S) (hr : Room 7 (A.deeper (PyProof.Rows.envOfC "law" (defScope s_law) s.heap.objs.size f cdv)))
    (x__law_told : Fx K mg "_law_told" ["_law_ask", "_law_one", "_law_other"] s__law_told f2 fd2) (G__law_told : FnOk P w K mg base CX0 7 f2 fd2 ["_law_ask", "_law_one", "_law_other"] (spTold P w K mg base C0 C1 C2 S))
    (x__law_with_shuns : Fx K mg "_law_with_shuns" ["_law_door", "_law_shuns_here"] s__law_with_shuns f3 fd3) (G__law_with_shuns : FnOk P w K mg base (CXe P w) 5 f3 fd3 ["_law_door", "_law_shuns_here"] (spDoor C0)) :
    ∃ t, PSx (cxL P w K mg base f cdv A outer s H0 E) (stL 8) t ∧ ∀ (D : Ends) (H : Hp) (a du r kp B : Addr) (far : Int) (k v8 : Option V) (xs : List Int) (bs : List V) (ds : List Addr), Due H du ds 3 → BL H B bs 100 →
      (∀ (v9 : Option V) (H' : Hp), Same H H' → D.nx [some (.ref a), some (.int far), some (.ref du), k, some (.ref r), some (.ref kp), some (.int (xs.length : Int)), some (.ref B), v8, v9, none, none] H') → t D [some (.ref a), some (.int far), some (.ref du), k, some (.ref r), some (.ref kp), some (.int (xs.length : Int)), some (.ref B), v8, none, none, none] H := by
  have hu0 := hr.units0
  refine ⟨_, ⟨(ps_for PassesOwn.never rfl (pi_range1 rfl T.n_range (pa_cons pe_int pa_nil)) (pg_name (i := 9) sc_law.nd rfl (Or.inr rfl)) (pss_one (ps_if (pt_not (pt_val (pe_callB (call_allB rfl) rfl T.n_all b_all (pa_cons (pe_comp rfl sc_law_0 (pi_list (pv 7)) (fun _ _ _ => (pg_name (i := 0) sc_law_0.nd rfl (Or.inl rfl))) (fun _ _ _ => pif_nil) (fun _ _ _ => (pe_cmpR (op_eqB hu0) (pe_call G__law_told hr rfl x__law_told.m x__law_told.F.kp x__law_told.b .nil pass0 (pa_cons (pe_glob (v := V.ref _) rfl x__law_with_shuns.m rfl) (pa_cons (pv 1) (pa_cons (pv 0) pa_nil)))) (pe_ix ix_list (pv 2) pe_int (fun _ _ => rfl)) (nomark _)))) pa_nil)))) (pss_one (ps_ret pe_bl)) pss_nil)))⟩, fun D H a du r kp B far k v8 xs bs ds d b q => ?_⟩
  obtain ⟨d0, hd0⟩ : ∃ z, ds[0]? = some z := ⟨_, List.getElem?_eq_getElem (by rw [d.l]; decide)⟩
  have hat : (ds.map V.ref)[0]? = some (.ref d0) := by rw [List.getElem?_map, hd0]; rfl
  refine ⟨_, rfl, by decide, by decide, for_range (lo := 0) (n := 4) (fun i σ H' => Same H H' ∧ ∃ v9, σ = [some (.ref a), some (.int far), some (.ref du), k, some (.ref r), some (.ref kp), some (.int (xs.length : Int)), some (.ref B), v8, v9, none, none]) ⟨Same.refl _, none, rfl⟩ ?_ ?_⟩
  · rintro i σ G hi ⟨sG, v9, rfl⟩
    replace b := b.same sG
    replace d := d.same sG
    refine ⟨_, rfl, B, rfl, ⟨_, SqL.of b.e⟩, fun L hL _ _ => ?_⟩
    refine comp_list (K := K) (a := B) (xs := bs) (fun j ys σ H' => Same G H' ∧ H' L = some (.lst ys) ∧ ys = (List.replicate j true).map V.bl ∧ ∃ u, σ = [u, some (.int (0 + (i : Int))), some (.ref du)])
      ⟨same_new hL _, upd_same, rfl, none, rfl⟩ (fun j ys σ H' _ ⟨s6, e6, _⟩ => ⟨SqL.of (s6 _ _ b.e), e6⟩) ?_ ?_
    · rintro j x ys σ G1 hj ⟨s6, e6, rfl, u, rfl⟩
      have hjl := (List.getElem?_eq_some_iff.mp hj).1
      have hbl := b.l
      refine ⟨small1000 (by simp; omega), ?_⟩
      refine ⟨_, rfl, _, rfl, f3, fd3, _, _, .int (0 + (i : Int)), x, 0, C0, rfl, x__law_with_shuns.F.kp, x__law_with_shuns.b, G__law_with_shuns, X.i0, fun E hE => ⟨_, x, rfl, by omega, by omega, (b.w x (List.mem_of_getElem? hj)).no.same s6, hE⟩, fun t G2 s8 nt et => ?_⟩
      replace d := d.same (s6.trans s8)
      refine ⟨_, rfl, du, _, _, _, rfl, rfl, SqL.of d.e, atI_of 0 rfl hat, ?_⟩
      refine ⟨t, d0, dueL 0, rfl, rfl, SqL.of et, SqL.of (d.w 0 d0 hd0).2, ?_⟩
      exact ⟨s8 _ _ e6, same_upd (s6.trans s8) hL, upd_same, rep_true _ _ rfl, _, rfl⟩
    rintro ys σ G1 ⟨s6, e6, rfl, u, rfl⟩
    refine ⟨L, _, rfl, SqL.of e6, ?_⟩
    rw [bools_all]
    exact ⟨true, rfl, iteF ⟨sG.trans s6, _, rfl⟩⟩
  · rintro σ G ⟨sG, v9, rfl⟩
    exact q _ _ sG
end
end OS

namespace OS
open PySem L2
theorem due0 (ys : List Int) : (due ys.length ys)[0]? = some (h ys.length (cs ys.length ys) 0) := tab_get _ _ _ (Nat.succ_pos _)
theorem cnt_due (xs : List Int) : cnt (rngI xs.length) xs = h xs.length (cs xs.length xs) 0 := by
  unfold cnt D
  rw [rngI_length, cs_map]
theorem due_012 : due 3 [0, 1, 2] = [2, 3, 0, 1] := by decide +kernel
theorem cnt_10 : cnt (rngI 2) [1, -1] = 1 := by decide +kernel
theorem num_10 : Num (rngI 2) [1, -1] [0, 1] 0 := by
  obtain ⟨k, hk⟩ := Num.ex [1, -1] [0, 1] (rngI 2) (rngI_nodup _) (by decide +kernel) rfl (by decide +kernel)
  obtain ⟨_, _, _, h0, h1⟩ := hk.fact (rngI_nodup _)
  rw [cnt_10] at h1
  have : k = 0 := by omega
  subst this
  exact hk
def Nn (H : Hp) (xs : List Int) (vs : List V) : Prop := ∀ v ∈ vs, BadNum H xs v
theorem Nn.same {H H' : Hp} {xs : List Int} {vs : List V} (h : Nn H xs vs) (s : Same H H') : Nn H' xs vs := fun v hv => ⟨(h v hv).1.same s, (h v hv).2⟩
def spLaw (K : PySem.W.Frag) : Sp := fun vs H Q _ => ∃ (a : Addr) (ns : List Int), vs = [.ref a] ∧ SqL K H a (ns.map V.int) ∧ ns.length ≤ 63 ∧ ∀ H', Q (.bl true) H'
section
variable {P : Program} {w : World} {K : PySem.W.Frag} {mg : Str → Option Value} {base : Heap} {C0 C1 C2 S f : Addr} {cdv : Value} {A : Around} {outer : List Env} {s : Shared} {H0 : Hp} {E : XK}
theorem law_9 {f2 : Addr} {fd2 : FuncData} (hr : Room 7 (A.deeper (PyProof.Rows.envOfC "law" (defScope s_law) s.heap.objs.size f cdv))) (x__law_counts : Fx K mg "_law_counts" ["_law_shuns_here"] s__law_counts f2 fd2) (G__law_counts : FnOk P w K mg base CX0 7 f2 fd2 ["_law_shuns_here"] spDue) :
    ∃ t, PSx (cxL P w K mg base f cdv A outer s H0 E) (stL 9) t ∧ ∀ (D : Ends) (H : Hp) (v0 v3 v6 v7 v8 v9 : Option V) (du r kp : Addr) (far : Int) (xs : List Int), H r = some (lz xs) → xs.length ≤ 63 →
      (∀ (H' : Hp), Same H H' → D.nx [v0, some (.int far), some (.ref du), v3, some (.ref r), some (.ref kp), v6, v7, v8, v9, some (.int (cnt (rngI xs.length) xs)), none] H') → t D [v0, some (.int far), some (.ref du), v3, some (.ref r), some (.ref kp), v6, v7, v8, v9, none, none] H := by
  refine ⟨_, ⟨(ps_set (i := 10) sc_law.nd rfl (Or.inl rfl) (pe_ix ix_list (pe_call G__law_counts hr rfl x__law_counts.m x__law_counts.F.kp x__law_counts.b .nil pass0 (pa_cons (pv 4) pa_nil)) pe_int (fun _ _ => rfl)))⟩, fun D H v0 v3 v6 v7 v8 v9 du r kp far xs er hl q => ?_⟩
  refine ⟨_, rfl, r, xs, rfl, er, hl, fun c H2 s2 n2 e2 => ?_⟩
  refine ⟨c, _, _, _, rfl, rfl, SqL.of e2, atI_of 0 rfl (lz_get (due0 xs)), ?_⟩
  rw [← cnt_due]
  exact q _ s2
theorem law_10 {f2 f3 : Addr} {fd2 fd3 : FuncData} (T : Nm mg) (X : Errs K mg C0 C1 C2 S) (hr : Room 7 (A.deeper (PyProof.Rows.envOfC "law" (defScope s_law) s.heap.objs.size f cdv)))
    (x__law_told : Fx K mg "_law_told" ["_law_ask", "_law_one", "_law_other"] s__law_told f2 fd2) (G__law_told : FnOk P w K mg base CX0 7 f2 fd2 ["_law_ask", "_law_one", "_law_other"] (spTold P w K mg base C0 C1 C2 S))
    (x_seating_of : Fx K mg "seating_of" ["shuns", "number"] s_seating_of f3 fd3) (G_seating_of : FnOk P w K mg base (CXe P w) 5 f3 fd3 ["shuns", "number"] (spNumE C1)) :
    ∃ t, PSx (cxL P w K mg base f cdv A outer s H0 E) (stL 10) t ∧ ∀ (D : Ends) (H : Hp) (v0 v3 v6 v7 v8 v9 : Option V) (du r kp : Addr) (far : Int) (xs : List Int) (ds : List Addr), H r = some (lz xs) → xs.length ≤ 63 → (∀ x ∈ xs, -1 ≤ x ∧ x < xs.length) → 0 ≤ far → Due H du ds 3 →
      (∀ (v11 : Option V) (H' : Hp), Same H H' → D.nx [v0, some (.int far), some (.ref du), v3, some (.ref r), some (.ref kp), v6, v7, v8, v9, some (.int (cnt (rngI xs.length) xs)), v11] H') → t D [v0, some (.int far), some (.ref du), v3, some (.ref r), some (.ref kp), v6, v7, v8, v9, some (.int (cnt (rngI xs.length) xs)), none] H := by
  have hu0 := hr.units0
  refine ⟨_, ⟨(ps_for PassesOwn.never rfl (pi_tup (pe_tup (pa_cons pe_non (pa_cons pe_str (pa_cons pe_bl (pa_cons (pe_lst (pa_cons pe_int pa_nil)) (pa_cons (pe_un un_neg pe_int) (pa_cons (pe_op op_sub (pe_un un_neg pe_int) (pv 1)) (pa_cons (pv 10) (pa_cons (pe_op op_add (pv 10) (pv 1)) (pa_cons (pe_tup (pa_cons pe_int pa_nil)) pa_nil se_tup) se_bin) se_nam) se_bin) se_un) se_lst) se_const) se_const) se_const))) (pg_name (i := 11) sc_law.nd rfl (Or.inl rfl)) (pss_one (ps_if (pt_cmpR (op_neB hu0) (pe_call G__law_told hr rfl x__law_told.m x__law_told.F.kp x__law_told.b .nil pass0 (pa_cons (pe_glob (v := V.ref _) rfl x_seating_of.m rfl) (pa_cons (pv 4) (pa_cons (pv 11) pa_nil)))) (pe_ix ix_list (pv 2) pe_int (fun _ _ => rfl)) (nomark _)) (pss_one (ps_ret pe_bl)) pss_nil)))⟩, fun D H v0 v3 v6 v7 v8 v9 du r kp far xs ds er hl hv hf d q => ?_⟩
  have hc : 0 ≤ cnt (rngI xs.length) xs := by
    rw [cnt_due]
    exact due_nonneg xs.length xs rfl _ (List.mem_of_getElem? (due0 xs))
  generalize hW : cnt (rngI xs.length) xs = W at hc q ⊢
  obtain ⟨d1, hd1⟩ : ∃ z, ds[1]? = some z := ⟨_, List.getElem?_eq_getElem (by rw [d.l]; decide)⟩
  have hat : (ds.map V.ref)[1]? = some (.ref d1) := by rw [List.getElem?_map, hd1]; rfl
  have sH : Same H H := Same.refl _
  refine ⟨(by show 1 ≤ sizeLine; decide), fun p hp => ?_⟩
  replace sH := sH.trans (same_new hp (.lst [.int 0]))
  have ep : (upd H p (.lst [.int 0])) p = some (.lst [.int 0]) := upd_same
  generalize (upd H p (.lst [.int 0])) = G1 at sH ep ⊢
  refine ⟨_, rfl, _, rfl, _, rfl, _, _, rfl, rfl, _, rfl, _, rfl, _, rfl, _, _, rfl, rfl, (by show 1 ≤ sizeLine; decide), fun tu htu => ?_⟩
  have st2 : Same G1 (upd G1 tu (.tup [.int 0])) := same_new htu _
  replace sH := sH.trans st2
  replace ep := st2 _ _ ep
  have eu : (upd G1 tu (.tup [.int 0])) tu = some (.tup [.int 0]) := upd_same
  generalize (upd G1 tu (.tup [.int 0])) = G2 at sH ep eu ⊢
  have nn : Nn G2 xs [.non, .str "0", .bl true, .ref p, .int (-1), .int (-1 - far), .int W, .int (W + far), .ref tu] := by
    intro v hv
    simp only [List.mem_cons, List.not_mem_nil, or_false] at hv
    rcases hv with rfl | rfl | rfl | rfl | rfl | rfl | rfl | rfl | rfl
    · exact ⟨.inl .non, fun i z => by cases z⟩
    · exact ⟨.inl (.str _), fun i z => by cases z⟩
    · exact ⟨.inl (.bl _), fun i z => by cases z⟩
    · exact ⟨.inr ⟨p, _, rfl, ep⟩, fun i z => by cases z⟩
    · exact ⟨.inl (.int _), fun i z => by cases z; exact .inl (by omega)⟩
    · exact ⟨.inl (.int _), fun i z => by cases z; exact .inl (by omega)⟩
    · exact ⟨.inl (.int _), fun i z => by cases z; exact .inr (by omega)⟩
    · exact ⟨.inl (.int _), fun i z => by cases z; exact .inr (by omega)⟩
    · exact ⟨.inl (.tup eu), fun i z => by cases z⟩
  refine ⟨(by show 9 ≤ sizeLine; decide), fun tp htp => ?_⟩
  have st3 : Same G2 (upd G2 tp (.tup [.non, .str "0", .bl true, .ref p, .int (-1), .int (-1 - far), .int W, .int (W + far), .ref tu])) := same_new htp _
  have et : (upd G2 tp (.tup [.non, .str "0", .bl true, .ref p, .int (-1), .int (-1 - far), .int W, .int (W + far), .ref tu])) tp = some (.tup [.non, .str "0", .bl true, .ref p, .int (-1), .int (-1 - far), .int W, .int (W + far), .ref tu]) := upd_same
  replace sH := sH.trans st3
  replace nn := nn.same st3
  generalize (upd G2 tp (.tup [.non, .str "0", .bl true, .ref p, .int (-1), .int (-1 - far), .int W, .int (W + far), .ref tu])) = G3 at sH nn et ⊢
  generalize ([.non, .str "0", .bl true, .ref p, .int (-1), .int (-1 - far), .int W, .int (W + far), .ref tu] : List V) = vs at nn et
  clear ep eu st2 st3 hp htu htp G1 G2
  refine ⟨tp, rfl, ⟨_, SqT.of et⟩, for_tup (K := K) (a := tp) (xs := vs) (fun i σ H' => Same G3 H' ∧ ∃ v11, σ = [v0, some (.int far), some (.ref du), v3, some (.ref r), some (.ref kp), v6, v7, v8, v9, some (.int W), v11]) ⟨Same.refl _, none, rfl⟩ (fun i σ H' _ ⟨s, _⟩ => SqT.of (s _ _ et)) ?_ ?_⟩
  · rintro i y σ G hi ⟨sG, v11, rfl⟩
    have hy := nn y (List.mem_of_getElem? hi)
    replace sH := sH.trans sG
    replace d := d.same sH
    refine ⟨_, rfl, _, rfl, f3, fd3, _, _, .ref r, y, 1, C1, rfl, x_seating_of.F.kp, x_seating_of.b, G_seating_of, X.i1, fun E hE => ⟨r, xs, y, rfl, sH _ _ er, hl, hv, ⟨hy.1.same sG, hy.2⟩, hE⟩, fun t G5 s8 nt et => ?_⟩
    replace d := d.same s8
    refine ⟨_, rfl, du, _, _, _, rfl, rfl, SqL.of d.e, atI_of 1 rfl hat, ?_⟩
    refine ⟨t, d1, dueL 1, rfl, rfl, SqL.of et, SqL.of (d.w 1 d1 hd1).2, false, rfl, iteF ?_⟩
    exact ⟨sG.trans s8, _, rfl⟩
  · rintro σ G ⟨sG, v11, rfl⟩
    exact q _ _ (sH.trans sG)
theorem law_11 {f2 : Addr} {fd2 : FuncData} (hr : Room 7 (A.deeper (PyProof.Rows.envOfC "law" (defScope s_law) s.heap.objs.size f cdv))) (x__law_seatings_right : Fx K mg "_law_seatings_right" ["_law_shuns_here", "_law_due", "_law_far_here"] s__law_seatings_right f2 fd2) (G__law_seatings_right : FnOk P w K mg base CX0 7 f2 fd2 ["_law_shuns_here", "_law_due", "_law_far_here"] spRight) :
    ∃ t, PSx (cxL P w K mg base f cdv A outer s H0 E) (stL 11) t ∧ ∀ (D : Ends) (H : Hp) (v0 v3 v6 v7 v8 v9 v10 v11 : Option V) (du r kp : Addr) (far : Int) (xs : List Int) (ds : List Addr), H r = some (lz xs) → xs.length ≤ 63 → (∀ x ∈ xs, -1 ≤ x ∧ x < xs.length) → Due H du ds 3 →
      (∀ (H' : Hp), Same H H' → D.nx [v0, some (.int far), some (.ref du), v3, some (.ref r), some (.ref kp), v6, v7, v8, v9, v10, v11] H') → t D [v0, some (.int far), some (.ref du), v3, some (.ref r), some (.ref kp), v6, v7, v8, v9, v10, v11] H := by
  refine ⟨_, ⟨(ps_if (pt_not (pt_val (pe_call G__law_seatings_right hr rfl x__law_seatings_right.m x__law_seatings_right.F.kp x__law_seatings_right.b .nil pass0 (pa_cons (pv 4) (pa_cons (pe_ix ix_list (pv 2) pe_int (fun _ _ => rfl)) (pa_cons (pv 1) pa_nil)))))) (pss_one (ps_ret pe_bl)) pss_nil)⟩, fun D H v0 v3 v6 v7 v8 v9 v10 v11 du r kp far xs ds er hl hv d q => ?_⟩
  obtain ⟨d2, hd2⟩ : ∃ z, ds[2]? = some z := ⟨_, List.getElem?_eq_getElem (by rw [d.l]; decide)⟩
  have hat : (ds.map V.ref)[2]? = some (.ref d2) := by rw [List.getElem?_map, hd2]; rfl
  refine ⟨_, rfl, _, rfl, du, _, _, _, rfl, rfl, SqL.of d.e, atI_of 2 rfl hat, _, rfl, ?_⟩
  exact ⟨r, d2, xs, far, rfl, er, hl, hv, (d.w 2 d2 hd2).2, fun H2 s2 => ⟨true, rfl, iteF (q _ s2)⟩⟩
theorem law_12 {f2 f3 : Addr} {fd2 fd3 : FuncData} (hr : Room 7 (A.deeper (PyProof.Rows.envOfC "law" (defScope s_law) s.heap.objs.size f cdv))) (x_counts : Fx K mg "counts" ["shuns"] s_counts f2 fd2) (G_counts : FnOk P w K mg base CX0 7 f2 fd2 ["shuns"] spCounts)
    (x_seating_of : Fx K mg "seating_of" ["shuns", "number"] s_seating_of f3 fd3) (G_seating_of : FnOk P w K mg base CX0 7 f3 fd3 ["shuns", "number"] spSeatOf) :
    ∃ t, PSx (cxL P w K mg base f cdv A outer s H0 E) (stL 12) t ∧ ∀ (D : Ends) (H : Hp) (v0 v3 v6 v7 v8 v9 v10 v11 : Option V) (du r kp : Addr) (far : Int) (xs : List Int), H r = some (lz xs) → H kp = some (lz xs) →
      (∀ (H' : Hp), D.rt (.bl true) H') → t D [v0, some (.int far), some (.ref du), v3, some (.ref r), some (.ref kp), v6, v7, v8, v9, v10, v11] H := by
  have hu0 := hr.units0
  refine ⟨_, ⟨(ps_ret (pe_and (pe_cmpR (op_eqL hu0) (pv 4) (pv 5) (nomark _)) (pe_and (pe_cmpR (op_eqL hu0) (pe_call G_counts hr rfl x_counts.m x_counts.F.kp x_counts.b .nil pass0 (pa_cons (pe_lst (pa_cons pe_int (pa_cons pe_int (pa_cons pe_int pa_nil)))) pa_nil)) (pe_lst (pa_cons pe_int (pa_cons pe_int (pa_cons pe_int (pa_cons pe_int pa_nil))))) (nomark _)) (pe_one (pe_cmpR (op_eqL hu0) (pe_call G_seating_of hr rfl x_seating_of.m x_seating_of.F.kp x_seating_of.b .nil pass0 (pa_cons (pe_lst (pa_cons pe_int (pa_cons (pe_un un_neg pe_int) pa_nil))) (pa_cons pe_int pa_nil))) (pe_lst (pa_cons pe_int (pa_cons pe_int pa_nil))) (nomark _))))))⟩, fun D H v0 v3 v6 v7 v8 v9 v10 v11 du r kp far xs er ek q => ?_⟩
  refine ⟨_, rfl, _, rfl, r, kp, xs, xs, rfl, rfl, SqL.of er, SqL.of ek, true, by rw [decide_eq_true rfl], iteT ?_⟩
  refine ⟨(by show 3 ≤ sizeLine; decide), fun q1 hq1 => ?_⟩
  refine ⟨q1, [0, 1, 2], rfl, upd_same, by decide, by decide, fun c G1 s1 n1 e1 => ?_⟩
  refine ⟨(by show 4 ≤ sizeLine; decide), fun q2 hq2 => ?_⟩
  refine ⟨c, q2, due 3 [0, 1, 2], [2, 3, 0, 1], rfl, rfl, SqL.of (same_new hq2 _ _ _ e1), SqL.of upd_same, true, by rw [due_012]; rfl, iteT ?_⟩
  refine ⟨_, rfl, (by show 2 ≤ sizeLine; decide), fun q3 hq3 => ?_⟩
  refine ⟨q3, [1, -1], 0, rfl, upd_same, by decide, by decide, by decide, (by show (0 : Int) < cnt (rngI 2) [1, -1]; rw [cnt_10]; decide), fun t ss G2 s2 n2 e2 hN => ?_⟩
  have hss : [0, 1] = ss := num_10.seat (rngI_nodup _) hN
  subst hss
  refine ⟨(by show 2 ≤ sizeLine; decide), fun q4 hq4 => ?_⟩
  exact ⟨t, q4, [0, 1], [0, 1], rfl, rfl, SqL.of (same_new hq4 _ _ _ e2), SqL.of upd_same, q _⟩
end
theorem ok_law {P : Program} {w : World} {K : PySem.W.Frag} {mg : Str → Option Value} {base : Heap} {C0 C1 C2 S : Addr} {f f1 f2 f3 f4 f5 f6 f7 f8 : Addr} {fd fd1 fd2 fd3 fd4 fd5 fd6 fd7 fd8 : FuncData} (T : Nm mg) (B : Errs K mg C0 C1 C2 S) (F : Fun K "law" "law" s_law f fd)
    (x__law_cell_at : Fx K mg "_law_cell_at" ["_law_script", "_law_k"] s__law_cell_at f1 fd1) (G__law_cell_at : FnOk P w K mg base CX0 7 f1 fd1 ["_law_script", "_law_k"] (spCell K))
    (x__law_shuns : Fx K mg "_law_shuns" ["_law_script"] s__law_shuns f2 fd2) (G__law_shuns : FnOk P w K mg base CX0 7 f2 fd2 ["_law_script"] (spShuns K))
    (x__law_told : Fx K mg "_law_told" ["_law_ask", "_law_one", "_law_other"] s__law_told f3 fd3) (G__law_told : FnOk P w K mg base CX0 7 f3 fd3 ["_law_ask", "_law_one", "_law_other"] (spTold P w K mg base C0 C1 C2 S))
    (x__law_with_shuns : Fx K mg "_law_with_shuns" ["_law_door", "_law_shuns_here"] s__law_with_shuns f4 fd4) (G__law_with_shuns : FnOk P w K mg base (CXe P w) 5 f4 fd4 ["_law_door", "_law_shuns_here"] (spDoor C0))
    (x__law_counts : Fx K mg "_law_counts" ["_law_shuns_here"] s__law_counts f5 fd5) (G__law_counts : FnOk P w K mg base CX0 7 f5 fd5 ["_law_shuns_here"] spDue)
    (x_seating_of : Fx K mg "seating_of" ["shuns", "number"] s_seating_of f6 fd6) (G_seating_of_N : FnOk P w K mg base (CXe P w) 5 f6 fd6 ["shuns", "number"] (spNumE C1)) (G_seating_of : FnOk P w K mg base CX0 7 f6 fd6 ["shuns", "number"] spSeatOf)
    (x__law_seatings_right : Fx K mg "_law_seatings_right" ["_law_shuns_here", "_law_due", "_law_far_here"] s__law_seatings_right f7 fd7) (G__law_seatings_right : FnOk P w K mg base CX0 7 f7 fd7 ["_law_shuns_here", "_law_due", "_law_far_here"] spRight)
    (x_counts : Fx K mg "counts" ["shuns"] s_counts f8 fd8) (G_counts : FnOk P w K mg base CX0 7 f8 fd8 ["shuns"] spCounts) :
    FnOk P w K mg base CX0 8 f fd ["_law_script"] (spLaw K) := by
  refine F.ok sc_law (fun vs H Q E h => ?_) (fun cdv A outer s H vs Q E hr h => ?_)
  · obtain ⟨a, ns, rfl, _⟩ := h
    rfl
  obtain ⟨a, ns, rfl, hS, hl, q⟩ := h
  obtain ⟨t0, h0, r0⟩ := law_0 (P := P) (w := w) (base := base) (outer := outer) (H0 := H) (E := E) hr x__law_cell_at G__law_cell_at
  obtain ⟨t1, h1, r1⟩ := law_1 (P := P) (w := w) (K := K) (mg := mg) (base := base) (f := f) (cdv := cdv) (A := A) (outer := outer) (s := s) (H0 := H) (E := E)
  obtain ⟨t2, h2, r2⟩ := law_2 (P := P) (w := w) (K := K) (base := base) (f := f) (cdv := cdv) (A := A) (outer := outer) (s := s) (H0 := H) (E := E) T
  obtain ⟨t3, h3, r3⟩ := law_3 (outer := outer) (H0 := H) (E := E) hr x__law_shuns G__law_shuns
  obtain ⟨t4, h4, r4⟩ := law_4 (P := P) (w := w) (K := K) (base := base) (f := f) (cdv := cdv) (A := A) (outer := outer) (s := s) (H0 := H) (E := E) T
  obtain ⟨t5, h5, r5⟩ := law_5 (P := P) (w := w) (K := K) (mg := mg) (base := base) (f := f) (cdv := cdv) (A := A) (outer := outer) (s := s) (H0 := H) (E := E)
  obtain ⟨t6, h6, r6⟩ := law_6 (P := P) (w := w) (K := K) (mg := mg) (base := base) (f := f) (cdv := cdv) (A := A) (outer := outer) (s := s) (H0 := H) (E := E)
  obtain ⟨t7, h7, r7⟩ := law_7 (P := P) (w := w) (K := K) (base := base) (f := f) (cdv := cdv) (A := A) (outer := outer) (s := s) (H0 := H) (E := E) T
  obtain ⟨t8, h8, r8⟩ := law_8 (outer := outer) (H0 := H) (E := E) T B hr x__law_told G__law_told x__law_with_shuns G__law_with_shuns
  obtain ⟨t9, h9, r9⟩ := law_9 (outer := outer) (H0 := H) (E := E) hr x__law_counts G__law_counts
  obtain ⟨t10, h10, r10⟩ := law_10 (outer := outer) (H0 := H) (E := E) T B hr x__law_told G__law_told x_seating_of G_seating_of_N
  obtain ⟨t11, h11, r11⟩ := law_11 (outer := outer) (H0 := H) (E := E) hr x__law_seatings_right G__law_seatings_right
  obtain ⟨t12, h12, r12⟩ := law_12 (outer := outer) (H0 := H) (E := E) hr x_counts G_counts x_seating_of G_seating_of
  have g12 := psx_one h12
  have g11 := psx_cons h11 g12
  have g10 := psx_cons h10 g11
  have g9 := psx_cons h9 g10
  have g8 := psx_cons h8 g9
  have g7 := psx_cons h7 g8
  have g6 := psx_cons h6 g7
  have g5 := psx_cons h5 g6
  have g4 := psx_cons h4 g5
  have g3 := psx_cons h3 g4
  have g2 := psx_cons h2 g3
  have g1 := psx_cons h1 g2
  have g0 := psx_cons h0 g1
  refine psx_ok body_law g0 ?_
  clear g0 g1 g2 g3 g4 g5 g6 g7 g8 g9 g10 g11 g12
  refine r0 _ _ a ns hS fun far hf => ?_
  refine r1 _ _ a far fun du ndu => ?_
  refine r2 _ H _ a du far (same_new ndu _) ndu upd_same fun k ds G2 s2 d => ?_
  refine r3 _ _ a du far k ns (s2.seq hS) hl fun r G3 xs s3 n3 e3 g => ?_
  obtain ⟨gl, gok⟩ := g
  rw [← gl] at hl gok
  replace d := d.same s3
  refine r4 _ _ a du r far k xs e3 fun kp nkp => ?_
  have s4 : Same G3 (upd G3 kp (lz xs)) := same_new nkp _
  have ek : (upd G3 kp (lz xs)) kp = some (lz xs) := upd_same
  replace d := d.same s4
  replace e3 := s4 _ _ e3
  generalize (upd G3 kp (lz xs)) = G4 at d e3 ek ⊢
  refine r5 _ _ a du r kp far k _ hf fun Bd bs G5 s5 nB b => ?_
  refine r6 _ G4 _ a du r kp Bd far k _ bs s5 nB b fun bs2 G6 s6 b2 => ?_
  refine r7 _ G4 _ a du r kp Bd far k xs bs2 s6 nB e3 hl hf b2 fun v8 bs3 G7 s7 b3 => ?_
  replace d := d.same s7
  replace e3 := s7 _ _ e3
  replace ek := s7 _ _ ek
  refine r8 _ _ a du r kp Bd far k v8 xs bs3 ds d b3 fun v9 G8 s8 => ?_
  replace d := d.same s8
  replace e3 := s8 _ _ e3
  replace ek := s8 _ _ ek
  refine r9 _ _ _ _ _ _ _ _ du r kp far xs e3 hl fun G9 s9 => ?_
  replace d := d.same s9
  replace e3 := s9 _ _ e3
  replace ek := s9 _ _ ek
  refine r10 _ _ _ _ _ _ _ _ du r kp far xs ds e3 hl gok hf d fun v11 G10 s10 => ?_
  replace d := d.same s10
  replace e3 := s10 _ _ e3
  replace ek := s10 _ _ ek
  refine r11 _ _ _ _ _ _ _ _ _ _ du r kp far xs ds e3 hl gok d fun G11 s11 => ?_
  exact r12 _ _ _ _ _ _ _ _ _ _ du r kp far xs (s11 _ _ e3) (s11 _ _ ek) q
end OS

namespace OS
open PySem PySem.Spec PyProof.Rows L2
theorem kit_ref (K : PySem.W.Frag) (C : Addr) : PySem.W.kitOne K (.ref C) (.ref C) = some true := by
  unfold PySem.W.kitOne
  rw [if_pos (beq_self_eq_true _)]
theorem kit_ve {K : PySem.W.Frag} {C : Addr} (h : PySem.W.subIn K (.ref C) (.type "ValueError") = some true) : PySem.W.kitOne K (.ref C) (.type "ValueError") = some true := by
  unfold PySem.W.kitOne
  rw [if_neg (by simp)]
  show (if PySem.W.kitMeta "ValueError" = true then PySem.W.subIn K (.ref C) (.type "ValueError") else none) = some true
  rw [if_pos (by decide +kernel)]
  exact h
theorem all_mk {l : PySem.W.OpenLaw} {w : World} {K : PySem.W.Frag} {h : Heap} {mg : Str → Option Value} {fa f1 f2 f3 f4 f5 f6 f7 f8 f9 f10 f11 f12 f13 f14 f15 f16 f17 f18 f19 f20 f21 f22 f23 f24 f25 f26 f27 f28 f29 f30 f31 f32 CTable CSeatError CBadShuns CBadNumber CBadSeating : Addr} (X : K.In h) (G : h.Ns mainGlobals mg) (hfa : mg "law" = some (.ref fa))
    {od1 an1 od2 an2 od3 an3 od4 an4 od5 an5 od6 an6 od7 an7 od8 an8 od9 an9 od10 an10 od11 an11 od12 an12 od13 an13 od14 an14 od15 an15 od16 an16 od17 an17 od18 an18 od19 an19 od20 an20 od21 an21 od22 an22 od23 an23 od24 an24 od25 an25 od26 an26 od27 an27 od28 an28 od29 an29 od30 an30 od31 an31 od32 an32 : Option Addr} {sl1 sl2 sl3 sl4 sl5 sl6 sl7 sl8 sl9 sl10 sl11 sl12 sl13 sl14 sl15 sl16 sl17 sl18 sl19 sl20 sl21 sl22 sl23 sl24 sl25 sl26 sl27 sl28 sl29 sl30 sl31 sl32 : Array (Option Value)} {oc1 kV1 dc1 pm1 cd1 ct1 oc2 kV2 dc2 pm2 cd2 ct2 oc3 kV3 dc3 pm3 cd3 ct3 oc4 kV4 dc4 pm4 cd4 ct4 oc5 kV5 dc5 pm5 cd5 ct5 oc6 kV6 dc6 pm6 cd6 ct6 oc7 kV7 dc7 pm7 cd7 ct7 oc8 kV8 dc8 pm8 cd8 ct8 oc9 kV9 dc9 pm9 cd9 ct9 oc10 kV10 dc10 pm10 cd10 ct10 oc11 kV11 dc11 pm11 cd11 ct11 oc12 kV12 dc12 pm12 cd12 ct12 oc13 kV13 dc13 pm13 cd13 ct13 oc14 kV14 dc14 pm14 cd14 ct14 oc15 kV15 dc15 pm15 cd15 ct15 oc16 kV16 dc16 pm16 cd16 ct16 oc17 kV17 dc17 pm17 cd17 ct17 oc18 kV18 dc18 pm18 cd18 ct18 oc19 kV19 dc19 pm19 cd19 ct19 oc20 kV20 dc20 pm20 cd20 ct20 oc21 kV21 dc21 pm21 cd21 ct21 oc22 kV22 dc22 pm22 cd22 ct22 oc23 kV23 dc23 pm23 cd23 ct23 oc24 kV24 dc24 pm24 cd24 ct24 oc25 kV25 dc25 pm25 cd25 ct25 oc26 kV26 dc26 pm26 cd26 ct26 oc27 kV27 dc27 pm27 cd27 ct27 oc28 kV28 dc28 pm28 cd28 ct28 oc29 kV29 dc29 pm29 cd29 ct29 oc30 kV30 dc30 pm30 cd30 ct30 oc31 kV31 dc31 pm31 cd31 ct31 oc32 kV32 dc32 pm32 cd32 ct32 : Value}
    (a_Table : PySem.W.nsIn K mainGlobals "Table" = some (some (.ref CTable)))
    (a_SeatError : PySem.W.nsIn K mainGlobals "SeatError" = some (some (.ref CSeatError)))
    (a_BadShuns : PySem.W.nsIn K mainGlobals "BadShuns" = some (some (.ref CBadShuns)))
    (a_BadNumber : PySem.W.nsIn K mainGlobals "BadNumber" = some (some (.ref CBadNumber)))
    (a_BadSeating : PySem.W.nsIn K mainGlobals "BadSeating" = some (some (.ref CBadSeating)))
    (a1 : PySem.W.nsIn K mainGlobals "is_whole_number" = some (some (.ref f1)))
    (l1 : K.lookup f1 = some ⟨oc1, od1, .func (PySem.W.fnOf "is_whole_number" "is_whole_number" (defArgs s_is_whole_number) (defBody s_is_whole_number) (defScope s_is_whole_number) .none kV1 dc1 pm1 an1 cd1 ct1), sl1⟩)
    (c1 : PySem.W.codeIn K cd1 "is_whole_number" = true)
    (k1 : PySem.W.keepIn K (.ref f1) = true)
    (a2 : PySem.W.nsIn K mainGlobals "are_shuns" = some (some (.ref f2)))
    (l2 : K.lookup f2 = some ⟨oc2, od2, .func (PySem.W.fnOf "are_shuns" "are_shuns" (defArgs s_are_shuns) (defBody s_are_shuns) (defScope s_are_shuns) .none kV2 dc2 pm2 an2 cd2 ct2), sl2⟩)
    (c2 : PySem.W.codeIn K cd2 "are_shuns" = true)
    (k2 : PySem.W.keepIn K (.ref f2) = true)
    (a3 : PySem.W.nsIn K mainGlobals "refuse_bad_shuns" = some (some (.ref f3)))
    (l3 : K.lookup f3 = some ⟨oc3, od3, .func (PySem.W.fnOf "refuse_bad_shuns" "refuse_bad_shuns" (defArgs s_refuse_bad_shuns) (defBody s_refuse_bad_shuns) (defScope s_refuse_bad_shuns) .none kV3 dc3 pm3 an3 cd3 ct3), sl3⟩)
    (c3 : PySem.W.codeIn K cd3 "refuse_bad_shuns" = true)
    (k3 : PySem.W.keepIn K (.ref f3) = true)
    (a4 : PySem.W.nsIn K mainGlobals "is_seating" = some (some (.ref f4)))
    (l4 : K.lookup f4 = some ⟨oc4, od4, .func (PySem.W.fnOf "is_seating" "is_seating" (defArgs s_is_seating) (defBody s_is_seating) (defScope s_is_seating) .none kV4 dc4 pm4 an4 cd4 ct4), sl4⟩)
    (c4 : PySem.W.codeIn K cd4 "is_seating" = true)
    (k4 : PySem.W.keepIn K (.ref f4) = true)
    (a5 : PySem.W.nsIn K mainGlobals "is_seating_off" = some (some (.ref f5)))
    (l5 : K.lookup f5 = some ⟨oc5, od5, .func (PySem.W.fnOf "is_seating_off" "is_seating_off" (defArgs s_is_seating_off) (defBody s_is_seating_off) (defScope s_is_seating_off) .none kV5 dc5 pm5 an5 cd5 ct5), sl5⟩)
    (c5 : PySem.W.codeIn K cd5 "is_seating_off" = true)
    (k5 : PySem.W.keepIn K (.ref f5) = true)
    (a6 : PySem.W.nsIn K mainGlobals "counts" = some (some (.ref f6)))
    (l6 : K.lookup f6 = some ⟨oc6, od6, .func (PySem.W.fnOf "counts" "counts" (defArgs s_counts) (defBody s_counts) (defScope s_counts) .none kV6 dc6 pm6 an6 cd6 ct6), sl6⟩)
    (c6 : PySem.W.codeIn K cd6 "counts" = true)
    (k6 : PySem.W.keepIn K (.ref f6) = true)
    (a7 : PySem.W.nsIn K mainGlobals "shunner_tallies" = some (some (.ref f7)))
    (l7 : K.lookup f7 = some ⟨oc7, od7, .func (PySem.W.fnOf "shunner_tallies" "shunner_tallies" (defArgs s_shunner_tallies) (defBody s_shunner_tallies) (defScope s_shunner_tallies) .none kV7 dc7 pm7 an7 cd7 ct7), sl7⟩)
    (c7 : PySem.W.codeIn K cd7 "shunner_tallies" = true)
    (k7 : PySem.W.keepIn K (.ref f7) = true)
    (a8 : PySem.W.nsIn K mainGlobals "ways_to_choose" = some (some (.ref f8)))
    (l8 : K.lookup f8 = some ⟨oc8, od8, .func (PySem.W.fnOf "ways_to_choose" "ways_to_choose" (defArgs s_ways_to_choose) (defBody s_ways_to_choose) (defScope s_ways_to_choose) .none kV8 dc8 pm8 an8 cd8 ct8), sl8⟩)
    (c8 : PySem.W.codeIn K cd8 "ways_to_choose" = true)
    (k8 : PySem.W.keepIn K (.ref f8) = true)
    (a9 : PySem.W.nsIn K mainGlobals "ways_with_seat" = some (some (.ref f9)))
    (l9 : K.lookup f9 = some ⟨oc9, od9, .func (PySem.W.fnOf "ways_with_seat" "ways_with_seat" (defArgs s_ways_with_seat) (defBody s_ways_with_seat) (defScope s_ways_with_seat) .none kV9 dc9 pm9 an9 cd9 ct9), sl9⟩)
    (c9 : PySem.W.codeIn K cd9 "ways_with_seat" = true)
    (k9 : PySem.W.keepIn K (.ref f9) = true)
    (a10 : PySem.W.nsIn K mainGlobals "ways_without_seat" = some (some (.ref f10)))
    (l10 : K.lookup f10 = some ⟨oc10, od10, .func (PySem.W.fnOf "ways_without_seat" "ways_without_seat" (defArgs s_ways_without_seat) (defBody s_ways_without_seat) (defScope s_ways_without_seat) .none kV10 dc10 pm10 an10 cd10 ct10), sl10⟩)
    (c10 : PySem.W.codeIn K cd10 "ways_without_seat" = true)
    (k10 : PySem.W.keepIn K (.ref f10) = true)
    (a11 : PySem.W.nsIn K mainGlobals "factorials" = some (some (.ref f11)))
    (l11 : K.lookup f11 = some ⟨oc11, od11, .func (PySem.W.fnOf "factorials" "factorials" (defArgs s_factorials) (defBody s_factorials) (defScope s_factorials) .none kV11 dc11 pm11 an11 cd11 ct11), sl11⟩)
    (c11 : PySem.W.codeIn K cd11 "factorials" = true)
    (k11 : PySem.W.keepIn K (.ref f11) = true)
    (a12 : PySem.W.nsIn K mainGlobals "chosen_counts" = some (some (.ref f12)))
    (l12 : K.lookup f12 = some ⟨oc12, od12, .func (PySem.W.fnOf "chosen_counts" "chosen_counts" (defArgs s_chosen_counts) (defBody s_chosen_counts) (defScope s_chosen_counts) .none kV12 dc12 pm12 an12 cd12 ct12), sl12⟩)
    (c12 : PySem.W.codeIn K cd12 "chosen_counts" = true)
    (k12 : PySem.W.keepIn K (.ref f12) = true)
    (a13 : PySem.W.nsIn K mainGlobals "exact_counts" = some (some (.ref f13)))
    (l13 : K.lookup f13 = some ⟨oc13, od13, .func (PySem.W.fnOf "exact_counts" "exact_counts" (defArgs s_exact_counts) (defBody s_exact_counts) (defScope s_exact_counts) .none kV13 dc13 pm13 an13 cd13 ct13), sl13⟩)
    (c13 : PySem.W.codeIn K cd13 "exact_counts" = true)
    (k13 : PySem.W.keepIn K (.ref f13) = true)
    (a14 : PySem.W.nsIn K mainGlobals "count_off" = some (some (.ref f14)))
    (l14 : K.lookup f14 = some ⟨oc14, od14, .func (PySem.W.fnOf "count_off" "count_off" (defArgs s_count_off) (defBody s_count_off) (defScope s_count_off) .none kV14 dc14 pm14 an14 cd14 ct14), sl14⟩)
    (c14 : PySem.W.codeIn K cd14 "count_off" = true)
    (k14 : PySem.W.keepIn K (.ref f14) = true)
    (a15 : PySem.W.findIn K (.ref CTable) "__init__" = some (some (.ref f15)))
    (i15 : PySem.W.isFn K (.ref f15) = true)
    (l15 : K.lookup f15 = some ⟨oc15, od15, .func (PySem.W.fnOf "__init__" "Table.__init__" (defArgs s_Table___init__) (defBody s_Table___init__) (defScope s_Table___init__) .none kV15 dc15 pm15 an15 cd15 ct15), sl15⟩)
    (c15 : PySem.W.codeIn K cd15 "Table.__init__" = true)
    (k15 : PySem.W.keepIn K (.ref f15) = true)
    (a16 : PySem.W.findIn K (.ref CTable) "call_guest" = some (some (.ref f16)))
    (i16 : PySem.W.isFn K (.ref f16) = true)
    (l16 : K.lookup f16 = some ⟨oc16, od16, .func (PySem.W.fnOf "call_guest" "Table.call_guest" (defArgs s_Table_call_guest) (defBody s_Table_call_guest) (defScope s_Table_call_guest) .none kV16 dc16 pm16 an16 cd16 ct16), sl16⟩)
    (c16 : PySem.W.codeIn K cd16 "Table.call_guest" = true)
    (k16 : PySem.W.keepIn K (.ref f16) = true)
    (a17 : PySem.W.findIn K (.ref CTable) "first_numbers" = some (some (.ref f17)))
    (i17 : PySem.W.isFn K (.ref f17) = true)
    (l17 : K.lookup f17 = some ⟨oc17, od17, .func (PySem.W.fnOf "first_numbers" "Table.first_numbers" (defArgs s_Table_first_numbers) (defBody s_Table_first_numbers) (defScope s_Table_first_numbers) .none kV17 dc17 pm17 an17 cd17 ct17), sl17⟩)
    (c17 : PySem.W.codeIn K cd17 "Table.first_numbers" = true)
    (k17 : PySem.W.keepIn K (.ref f17) = true)
    (a18 : PySem.W.findIn K (.ref CTable) "fill" = some (some (.ref f18)))
    (i18 : PySem.W.isFn K (.ref f18) = true)
    (l18 : K.lookup f18 = some ⟨oc18, od18, .func (PySem.W.fnOf "fill" "Table.fill" (defArgs s_Table_fill) (defBody s_Table_fill) (defScope s_Table_fill) .none kV18 dc18 pm18 an18 cd18 ct18), sl18⟩)
    (c18 : PySem.W.codeIn K cd18 "Table.fill" = true)
    (k18 : PySem.W.keepIn K (.ref f18) = true)
    (a19 : PySem.W.nsIn K mainGlobals "seating_of" = some (some (.ref f19)))
    (l19 : K.lookup f19 = some ⟨oc19, od19, .func (PySem.W.fnOf "seating_of" "seating_of" (defArgs s_seating_of) (defBody s_seating_of) (defScope s_seating_of) .none kV19 dc19 pm19 an19 cd19 ct19), sl19⟩)
    (c19 : PySem.W.codeIn K cd19 "seating_of" = true)
    (k19 : PySem.W.keepIn K (.ref f19) = true)
    (a20 : PySem.W.nsIn K mainGlobals "number_of" = some (some (.ref f20)))
    (l20 : K.lookup f20 = some ⟨oc20, od20, .func (PySem.W.fnOf "number_of" "number_of" (defArgs s_number_of) (defBody s_number_of) (defScope s_number_of) .none kV20 dc20 pm20 an20 cd20 ct20), sl20⟩)
    (c20 : PySem.W.codeIn K cd20 "number_of" = true)
    (k20 : PySem.W.keepIn K (.ref f20) = true)
    (a21 : PySem.W.nsIn K mainGlobals "seated" = some (some (.ref f21)))
    (l21 : K.lookup f21 = some ⟨oc21, od21, .func (PySem.W.fnOf "seated" "seated" (defArgs s_seated) (defBody s_seated) (defScope s_seated) .none kV21 dc21 pm21 an21 cd21 ct21), sl21⟩)
    (c21 : PySem.W.codeIn K cd21 "seated" = true)
    (k21 : PySem.W.keepIn K (.ref f21) = true)
    (a22 : PySem.W.nsIn K mainGlobals "_law_cell_at" = some (some (.ref f22)))
    (l22 : K.lookup f22 = some ⟨oc22, od22, .func (PySem.W.fnOf "_law_cell_at" "_law_cell_at" (defArgs s__law_cell_at) (defBody s__law_cell_at) (defScope s__law_cell_at) .none kV22 dc22 pm22 an22 cd22 ct22), sl22⟩)
    (c22 : PySem.W.codeIn K cd22 "_law_cell_at" = true)
    (k22 : PySem.W.keepIn K (.ref f22) = true)
    (a23 : PySem.W.nsIn K mainGlobals "_law_draw" = some (some (.ref f23)))
    (l23 : K.lookup f23 = some ⟨oc23, od23, .func (PySem.W.fnOf "_law_draw" "_law_draw" (defArgs s__law_draw) (defBody s__law_draw) (defScope s__law_draw) .none kV23 dc23 pm23 an23 cd23 ct23), sl23⟩)
    (c23 : PySem.W.codeIn K cd23 "_law_draw" = true)
    (k23 : PySem.W.keepIn K (.ref f23) = true)
    (a24 : PySem.W.nsIn K mainGlobals "_law_shuns" = some (some (.ref f24)))
    (l24 : K.lookup f24 = some ⟨oc24, od24, .func (PySem.W.fnOf "_law_shuns" "_law_shuns" (defArgs s__law_shuns) (defBody s__law_shuns) (defScope s__law_shuns) .none kV24 dc24 pm24 an24 cd24 ct24), sl24⟩)
    (c24 : PySem.W.codeIn K cd24 "_law_shuns" = true)
    (k24 : PySem.W.keepIn K (.ref f24) = true)
    (a25 : PySem.W.nsIn K mainGlobals "_law_counts" = some (some (.ref f25)))
    (l25 : K.lookup f25 = some ⟨oc25, od25, .func (PySem.W.fnOf "_law_counts" "_law_counts" (defArgs s__law_counts) (defBody s__law_counts) (defScope s__law_counts) .none kV25 dc25 pm25 an25 cd25 ct25), sl25⟩)
    (c25 : PySem.W.codeIn K cd25 "_law_counts" = true)
    (k25 : PySem.W.keepIn K (.ref f25) = true)
    (a26 : PySem.W.nsIn K mainGlobals "_law_off" = some (some (.ref f26)))
    (l26 : K.lookup f26 = some ⟨oc26, od26, .func (PySem.W.fnOf "_law_off" "_law_off" (defArgs s__law_off) (defBody s__law_off) (defScope s__law_off) .none kV26 dc26 pm26 an26 cd26 ct26), sl26⟩)
    (c26 : PySem.W.codeIn K cd26 "_law_off" = true)
    (k26 : PySem.W.keepIn K (.ref f26) = true)
    (a27 : PySem.W.nsIn K mainGlobals "_law_whole" = some (some (.ref f27)))
    (l27 : K.lookup f27 = some ⟨oc27, od27, .func (PySem.W.fnOf "_law_whole" "_law_whole" (defArgs s__law_whole) (defBody s__law_whole) (defScope s__law_whole) .none kV27 dc27 pm27 an27 cd27 ct27), sl27⟩)
    (c27 : PySem.W.codeIn K cd27 "_law_whole" = true)
    (k27 : PySem.W.keepIn K (.ref f27) = true)
    (a28 : PySem.W.nsIn K mainGlobals "_law_kinds" = some (some (.ref f28)))
    (l28 : K.lookup f28 = some ⟨oc28, od28, .func (PySem.W.fnOf "_law_kinds" "_law_kinds" (defArgs s__law_kinds) (defBody s__law_kinds) (defScope s__law_kinds) .none kV28 dc28 pm28 an28 cd28 ct28), sl28⟩)
    (c28 : PySem.W.codeIn K cd28 "_law_kinds" = true)
    (k28 : PySem.W.keepIn K (.ref f28) = true)
    (a29 : PySem.W.nsIn K mainGlobals "_law_with_shuns" = some (some (.ref f29)))
    (l29 : K.lookup f29 = some ⟨oc29, od29, .func (PySem.W.fnOf "_law_with_shuns" "_law_with_shuns" (defArgs s__law_with_shuns) (defBody s__law_with_shuns) (defScope s__law_with_shuns) .none kV29 dc29 pm29 an29 cd29 ct29), sl29⟩)
    (c29 : PySem.W.codeIn K cd29 "_law_with_shuns" = true)
    (k29 : PySem.W.keepIn K (.ref f29) = true)
    (a30 : PySem.W.nsIn K mainGlobals "_law_told" = some (some (.ref f30)))
    (l30 : K.lookup f30 = some ⟨oc30, od30, .func (PySem.W.fnOf "_law_told" "_law_told" (defArgs s__law_told) (defBody s__law_told) (defScope s__law_told) .none kV30 dc30 pm30 an30 cd30 ct30), sl30⟩)
    (c30 : PySem.W.codeIn K cd30 "_law_told" = true)
    (k30 : PySem.W.keepIn K (.ref f30) = true)
    (a31 : PySem.W.nsIn K mainGlobals "_law_seatings_right" = some (some (.ref f31)))
    (l31 : K.lookup f31 = some ⟨oc31, od31, .func (PySem.W.fnOf "_law_seatings_right" "_law_seatings_right" (defArgs s__law_seatings_right) (defBody s__law_seatings_right) (defScope s__law_seatings_right) .none kV31 dc31 pm31 an31 cd31 ct31), sl31⟩)
    (c31 : PySem.W.codeIn K cd31 "_law_seatings_right" = true)
    (k31 : PySem.W.keepIn K (.ref f31) = true)
    (a32 : PySem.W.nsIn K mainGlobals "law" = some (some (.ref f32)))
    (l32 : K.lookup f32 = some ⟨oc32, od32, .func (PySem.W.fnOf "law" "law" (defArgs s_law) (defBody s_law) (defScope s_law) .none kV32 dc32 pm32 an32 cd32 ct32), sl32⟩)
    (c32 : PySem.W.codeIn K cd32 "law" = true)
    (k32 : PySem.W.keepIn K (.ref f32) = true)
    (pg_Table : PySem.W.plainGet K CTable Str.empty = true)
    (hd_Table : PySem.W.hasDictIn K CTable = true)
    (po_Table : PySem.W.plainOver K CTable = true)
    (sa_Table : PySem.W.findIn K (.ref CTable) "__setattr__" = some (some (.builtin "object.__setattr__")))
    (ha_Table : PySem.W.findIn K (.ref CTable) "__class__" = some (some (.builtin "object.__class__")))
    (hm_Table : PySem.W.mroIn K CTable (.type "object") = some true)
    (mk_Table : PySem.W.makesIn K CTable = true)
    (kc_Table : PySem.W.keepIn K (.ref CTable) = true)
    (ga_SeatError : PySem.W.findIn K (.ref CSeatError) "__getattribute__" = some (some (.builtin "BaseException.__getattribute__")))
    (gk_SeatError : PySem.W.findIn K (.ref CSeatError) "__getattr__" = some none)
    (cl_SeatError : PySem.W.findIn K (.ref CSeatError) "__class__" = some (some (.builtin "object.__class__")))
    (mO_SeatError : PySem.W.mroIn K CSeatError (.type "object") = some true)
    (mB_SeatError : PySem.W.mroIn K CSeatError (.type "BaseException") = some true)
    (tx_SeatError : PySem.W.typeIn K (.ref CSeatError) = some (.type "type"))
    (ga_BadShuns : PySem.W.findIn K (.ref CBadShuns) "__getattribute__" = some (some (.builtin "BaseException.__getattribute__")))
    (gk_BadShuns : PySem.W.findIn K (.ref CBadShuns) "__getattr__" = some none)
    (cl_BadShuns : PySem.W.findIn K (.ref CBadShuns) "__class__" = some (some (.builtin "object.__class__")))
    (mO_BadShuns : PySem.W.mroIn K CBadShuns (.type "object") = some true)
    (mB_BadShuns : PySem.W.mroIn K CBadShuns (.type "BaseException") = some true)
    (tx_BadShuns : PySem.W.typeIn K (.ref CBadShuns) = some (.type "type"))
    (qx_BadShuns : PySem.W.excIn K CBadShuns [.type "ValueError", .type "Exception", .type "BaseException", .type "object"] "ValueError.__new__" = true)
    (su_BadShuns : PySem.W.mroIn K CBadShuns (.ref CSeatError) = some true)
    (sv_BadShuns : PySem.W.subIn K (.ref CBadShuns) (.type "ValueError") = some true)
    (ga_BadNumber : PySem.W.findIn K (.ref CBadNumber) "__getattribute__" = some (some (.builtin "BaseException.__getattribute__")))
    (gk_BadNumber : PySem.W.findIn K (.ref CBadNumber) "__getattr__" = some none)
    (cl_BadNumber : PySem.W.findIn K (.ref CBadNumber) "__class__" = some (some (.builtin "object.__class__")))
    (mO_BadNumber : PySem.W.mroIn K CBadNumber (.type "object") = some true)
    (mB_BadNumber : PySem.W.mroIn K CBadNumber (.type "BaseException") = some true)
    (tx_BadNumber : PySem.W.typeIn K (.ref CBadNumber) = some (.type "type"))
    (qx_BadNumber : PySem.W.excIn K CBadNumber [.type "ValueError", .type "Exception", .type "BaseException", .type "object"] "ValueError.__new__" = true)
    (su_BadNumber : PySem.W.mroIn K CBadNumber (.ref CSeatError) = some true)
    (sv_BadNumber : PySem.W.subIn K (.ref CBadNumber) (.type "ValueError") = some true)
    (ga_BadSeating : PySem.W.findIn K (.ref CBadSeating) "__getattribute__" = some (some (.builtin "BaseException.__getattribute__")))
    (gk_BadSeating : PySem.W.findIn K (.ref CBadSeating) "__getattr__" = some none)
    (cl_BadSeating : PySem.W.findIn K (.ref CBadSeating) "__class__" = some (some (.builtin "object.__class__")))
    (mO_BadSeating : PySem.W.mroIn K CBadSeating (.type "object") = some true)
    (mB_BadSeating : PySem.W.mroIn K CBadSeating (.type "BaseException") = some true)
    (tx_BadSeating : PySem.W.typeIn K (.ref CBadSeating) = some (.type "type"))
    (qx_BadSeating : PySem.W.excIn K CBadSeating [.type "ValueError", .type "Exception", .type "BaseException", .type "object"] "ValueError.__new__" = true)
    (su_BadSeating : PySem.W.mroIn K CBadSeating (.ref CSeatError) = some true)
    (sv_BadSeating : PySem.W.subIn K (.ref CBadSeating) (.type "ValueError") = some true)
    (sx_BadShuns_BadNumber : PySem.W.subIn K (.ref CBadShuns) (.ref CBadNumber) = some false)
    (ne_BadShuns_BadNumber : CBadShuns ≠ CBadNumber)
    (sx_BadShuns_BadSeating : PySem.W.subIn K (.ref CBadShuns) (.ref CBadSeating) = some false)
    (ne_BadShuns_BadSeating : CBadShuns ≠ CBadSeating)
    (sx_BadNumber_BadShuns : PySem.W.subIn K (.ref CBadNumber) (.ref CBadShuns) = some false)
    (ne_BadNumber_BadShuns : CBadNumber ≠ CBadShuns)
    (sx_BadNumber_BadSeating : PySem.W.subIn K (.ref CBadNumber) (.ref CBadSeating) = some false)
    (ne_BadNumber_BadSeating : CBadNumber ≠ CBadSeating)
    (sx_BadSeating_BadShuns : PySem.W.subIn K (.ref CBadSeating) (.ref CBadShuns) = some false)
    (ne_BadSeating_BadShuns : CBadSeating ≠ CBadShuns)
    (sx_BadSeating_BadNumber : PySem.W.subIn K (.ref CBadSeating) (.ref CBadNumber) = some false)
    (ne_BadSeating_BadNumber : CBadSeating ≠ CBadNumber)
    (zx_tuple : PySem.W.nsIn K mainGlobals "tuple" = some none)
    (zx_ValueError : PySem.W.nsIn K mainGlobals "ValueError" = some none)
    (hn : PySem.W.specialIn K (.builtin "object.__class__") "__get__" = some (some (.builtin "getset_descriptor.__get__")))
    (htk : PySem.W.takesIn K (.builtin "object.__class__") = some true)
    (n_Table_tallies : PySem.W.findIn K (.ref CTable) "tallies" = some none)
    (n_Table_ways : PySem.W.findIn K (.ref CTable) "ways" = some none)
    (z0 : PySem.W.nsIn K mainGlobals "len" = some none)
    (z1 : PySem.W.nsIn K mainGlobals "isinstance" = some none)
    (z2 : PySem.W.nsIn K mainGlobals "sum" = some none)
    (z3 : PySem.W.nsIn K mainGlobals "min" = some none)
    (z4 : PySem.W.nsIn K mainGlobals "max" = some none)
    (z5 : PySem.W.nsIn K mainGlobals "all" = some none)
    (z6 : PySem.W.nsIn K mainGlobals "any" = some none)
    (z7 : PySem.W.nsIn K mainGlobals "sorted" = some none)
    (z8 : PySem.W.nsIn K mainGlobals "int" = some none)
    (z9 : PySem.W.nsIn K mainGlobals "bool" = some none)
    (z10 : PySem.W.nsIn K mainGlobals "list" = some none)
    (z11 : PySem.W.nsIn K mainGlobals "range" = some none)
    (z12 : PySem.W.nsIn K mainGlobals "enumerate" = some none)
    (z13 : PySem.W.nsIn K mainGlobals "zip" = some none)
    : ∃ fd : FuncData, (∀ (s : Shared) (v : Value), BindsTo s fd ⟨[v], []⟩ [("_law_script", v)]) ∧ ∀ base : Heap, K.In base → base.Ns mainGlobals mg → FnOk l.prog w K mg base CX0 8 fa fd ["_law_script"] (spLaw K) := by
  have T : Nm mg := ⟨PySem.W.mg_none_of X G z0, PySem.W.mg_none_of X G z1, PySem.W.mg_none_of X G z2, PySem.W.mg_none_of X G z3, PySem.W.mg_none_of X G z4, PySem.W.mg_none_of X G z5, PySem.W.mg_none_of X G z6, PySem.W.mg_none_of X G z7, PySem.W.mg_none_of X G z8, PySem.W.mg_none_of X G z9, PySem.W.mg_none_of X G z10, PySem.W.mg_none_of X G z11, PySem.W.mg_none_of X G z12, PySem.W.mg_none_of X G z13⟩
  have x_Table : Cs K mg "Table" CTable := ⟨PySem.W.mg_of X G a_Table, ⟨pg_Table, hd_Table, po_Table, sa_Table⟩, ha_Table, hn, htk, hm_Table, mk_Table, kc_Table⟩
  have e_SeatError : L2X.Ex K CSeatError := ⟨ga_SeatError, gk_SeatError, cl_SeatError, hn, htk, mO_SeatError, mB_SeatError, tx_SeatError⟩
  have e_BadShuns : L2X.Ex K CBadShuns := ⟨ga_BadShuns, gk_BadShuns, cl_BadShuns, hn, htk, mO_BadShuns, mB_BadShuns, tx_BadShuns⟩
  have x_BadShuns : Xc K mg "BadShuns" CBadShuns CSeatError := ⟨PySem.W.mg_of X G a_BadShuns, qx_BadShuns, e_BadShuns, su_BadShuns⟩
  have e_BadNumber : L2X.Ex K CBadNumber := ⟨ga_BadNumber, gk_BadNumber, cl_BadNumber, hn, htk, mO_BadNumber, mB_BadNumber, tx_BadNumber⟩
  have x_BadNumber : Xc K mg "BadNumber" CBadNumber CSeatError := ⟨PySem.W.mg_of X G a_BadNumber, qx_BadNumber, e_BadNumber, su_BadNumber⟩
  have e_BadSeating : L2X.Ex K CBadSeating := ⟨ga_BadSeating, gk_BadSeating, cl_BadSeating, hn, htk, mO_BadSeating, mB_BadSeating, tx_BadSeating⟩
  have x_BadSeating : Xc K mg "BadSeating" CBadSeating CSeatError := ⟨PySem.W.mg_of X G a_BadSeating, qx_BadSeating, e_BadSeating, su_BadSeating⟩
  have n_tuple := PySem.W.mg_none_of X G zx_tuple
  have n_ValueError := PySem.W.mg_none_of X G zx_ValueError
  have ER : Errs K mg CBadShuns CBadNumber CBadSeating CSeatError := ⟨x_BadShuns, x_BadNumber, x_BadSeating, PySem.W.mg_of X G a_SeatError, e_SeatError, n_ValueError, kit_ref _ _, kit_of tx_BadNumber mO_BadNumber sx_BadShuns_BadNumber (.inl ne_BadShuns_BadNumber), kit_of tx_BadSeating mO_BadSeating sx_BadShuns_BadSeating (.inl ne_BadShuns_BadSeating), kit_of tx_BadShuns mO_BadShuns sx_BadNumber_BadShuns (.inl ne_BadNumber_BadShuns), kit_ref _ _, kit_of tx_BadSeating mO_BadSeating sx_BadNumber_BadSeating (.inl ne_BadNumber_BadSeating), kit_of tx_BadShuns mO_BadShuns sx_BadSeating_BadShuns (.inl ne_BadSeating_BadShuns), kit_of tx_BadNumber mO_BadNumber sx_BadSeating_BadNumber (.inl ne_BadSeating_BadNumber), kit_ref _ _, kit_ve sv_BadShuns, kit_ve sv_BadNumber, kit_ve sv_BadSeating⟩
  have F1 := fun_mk (x := "is_whole_number") (qual := "is_whole_number") (st := s_is_whole_number) l1 c1 k1
  have x_is_whole_number : Fx K mg "is_whole_number" ["value"] s_is_whole_number f1 _ := ⟨F1, PySem.W.mg_of X G a1, F1.binds (ps := ["value"]) fun _ _ _ _ _ _ us hl => match us, hl with | [_], _ => rfl⟩
  have F2 := fun_mk (x := "are_shuns") (qual := "are_shuns") (st := s_are_shuns) l2 c2 k2
  have x_are_shuns : Fx K mg "are_shuns" ["value"] s_are_shuns f2 _ := ⟨F2, PySem.W.mg_of X G a2, F2.binds (ps := ["value"]) fun _ _ _ _ _ _ us hl => match us, hl with | [_], _ => rfl⟩
  have F3 := fun_mk (x := "refuse_bad_shuns") (qual := "refuse_bad_shuns") (st := s_refuse_bad_shuns) l3 c3 k3
  have x_refuse_bad_shuns : Fx K mg "refuse_bad_shuns" ["shuns"] s_refuse_bad_shuns f3 _ := ⟨F3, PySem.W.mg_of X G a3, F3.binds (ps := ["shuns"]) fun _ _ _ _ _ _ us hl => match us, hl with | [_], _ => rfl⟩
  have F4 := fun_mk (x := "is_seating") (qual := "is_seating") (st := s_is_seating) l4 c4 k4
  have x_is_seating : Fx K mg "is_seating" ["value", "guests"] s_is_seating f4 _ := ⟨F4, PySem.W.mg_of X G a4, F4.binds (ps := ["value", "guests"]) fun _ _ _ _ _ _ us hl => match us, hl with | [_, _], _ => rfl⟩
  have F5 := fun_mk (x := "is_seating_off") (qual := "is_seating_off") (st := s_is_seating_off) l5 c5 k5
  have x_is_seating_off : Fx K mg "is_seating_off" ["value", "shuns"] s_is_seating_off f5 _ := ⟨F5, PySem.W.mg_of X G a5, F5.binds (ps := ["value", "shuns"]) fun _ _ _ _ _ _ us hl => match us, hl with | [_, _], _ => rfl⟩
  have F6 := fun_mk (x := "counts") (qual := "counts") (st := s_counts) l6 c6 k6
  have x_counts : Fx K mg "counts" ["shuns"] s_counts f6 _ := ⟨F6, PySem.W.mg_of X G a6, F6.binds (ps := ["shuns"]) fun _ _ _ _ _ _ us hl => match us, hl with | [_], _ => rfl⟩
  have F7 := fun_mk (x := "shunner_tallies") (qual := "shunner_tallies") (st := s_shunner_tallies) l7 c7 k7
  have x_shunner_tallies : Fx K mg "shunner_tallies" ["shuns"] s_shunner_tallies f7 _ := ⟨F7, PySem.W.mg_of X G a7, F7.binds (ps := ["shuns"]) fun _ _ _ _ _ _ us hl => match us, hl with | [_], _ => rfl⟩
  have F8 := fun_mk (x := "ways_to_choose") (qual := "ways_to_choose") (st := s_ways_to_choose) l8 c8 k8
  have x_ways_to_choose : Fx K mg "ways_to_choose" ["tallies"] s_ways_to_choose f8 _ := ⟨F8, PySem.W.mg_of X G a8, F8.binds (ps := ["tallies"]) fun _ _ _ _ _ _ us hl => match us, hl with | [_], _ => rfl⟩
  have F9 := fun_mk (x := "ways_with_seat") (qual := "ways_with_seat") (st := s_ways_with_seat) l9 c9 k9
  have x_ways_with_seat : Fx K mg "ways_with_seat" ["ways", "tally"] s_ways_with_seat f9 _ := ⟨F9, PySem.W.mg_of X G a9, F9.binds (ps := ["ways", "tally"]) fun _ _ _ _ _ _ us hl => match us, hl with | [_, _], _ => rfl⟩
  have F10 := fun_mk (x := "ways_without_seat") (qual := "ways_without_seat") (st := s_ways_without_seat) l10 c10 k10
  have x_ways_without_seat : Fx K mg "ways_without_seat" ["ways", "tally"] s_ways_without_seat f10 _ := ⟨F10, PySem.W.mg_of X G a10, F10.binds (ps := ["ways", "tally"]) fun _ _ _ _ _ _ us hl => match us, hl with | [_, _], _ => rfl⟩
  have F11 := fun_mk (x := "factorials") (qual := "factorials") (st := s_factorials) l11 c11 k11
  have x_factorials : Fx K mg "factorials" ["top"] s_factorials f11 _ := ⟨F11, PySem.W.mg_of X G a11, F11.binds (ps := ["top"]) fun _ _ _ _ _ _ us hl => match us, hl with | [_], _ => rfl⟩
  have F12 := fun_mk (x := "chosen_counts") (qual := "chosen_counts") (st := s_chosen_counts) l12 c12 k12
  have x_chosen_counts : Fx K mg "chosen_counts" ["shuns"] s_chosen_counts f12 _ := ⟨F12, PySem.W.mg_of X G a12, F12.binds (ps := ["shuns"]) fun _ _ _ _ _ _ us hl => match us, hl with | [_], _ => rfl⟩
  have F13 := fun_mk (x := "exact_counts") (qual := "exact_counts") (st := s_exact_counts) l13 c13 k13
  have x_exact_counts : Fx K mg "exact_counts" ["chosen"] s_exact_counts f13 _ := ⟨F13, PySem.W.mg_of X G a13, F13.binds (ps := ["chosen"]) fun _ _ _ _ _ _ us hl => match us, hl with | [_], _ => rfl⟩
  have F14 := fun_mk (x := "count_off") (qual := "count_off") (st := s_count_off) l14 c14 k14
  have x_count_off : Fx K mg "count_off" ["ways"] s_count_off f14 _ := ⟨F14, PySem.W.mg_of X G a14, F14.binds (ps := ["ways"]) fun _ _ _ _ _ _ us hl => match us, hl with | [_], _ => rfl⟩
  have F15 := fun_mk (x := "__init__") (qual := "Table.__init__") (st := s_Table___init__) l15 c15 k15
  have x_Table___init__ : Mx K CTable "__init__" "Table.__init__" ["self", "shuns"] s_Table___init__ f15 _ := ⟨F15, F15.binds (ps := ["self", "shuns"]) fun _ _ _ _ _ _ us hl => match us, hl with | [_, _], _ => rfl, ⟨a15, i15, k15⟩⟩
  have F16 := fun_mk (x := "call_guest") (qual := "Table.call_guest") (st := s_Table_call_guest) l16 c16 k16
  have x_Table_call_guest : Mx K CTable "call_guest" "Table.call_guest" ["self", "shun"] s_Table_call_guest f16 _ := ⟨F16, F16.binds (ps := ["self", "shun"]) fun _ _ _ _ _ _ us hl => match us, hl with | [_, _], _ => rfl, ⟨a16, i16, k16⟩⟩
  have F17 := fun_mk (x := "first_numbers") (qual := "Table.first_numbers") (st := s_Table_first_numbers) l17 c17 k17
  have x_Table_first_numbers : Mx K CTable "first_numbers" "Table.first_numbers" ["self", "shun"] s_Table_first_numbers f17 _ := ⟨F17, F17.binds (ps := ["self", "shun"]) fun _ _ _ _ _ _ us hl => match us, hl with | [_, _], _ => rfl, ⟨a17, i17, k17⟩⟩
  have F18 := fun_mk (x := "fill") (qual := "Table.fill") (st := s_Table_fill) l18 c18 k18
  have x_Table_fill : Mx K CTable "fill" "Table.fill" ["self", "seat"] s_Table_fill f18 _ := ⟨F18, F18.binds (ps := ["self", "seat"]) fun _ _ _ _ _ _ us hl => match us, hl with | [_, _], _ => rfl, ⟨a18, i18, k18⟩⟩
  have F19 := fun_mk (x := "seating_of") (qual := "seating_of") (st := s_seating_of) l19 c19 k19
  have x_seating_of : Fx K mg "seating_of" ["shuns", "number"] s_seating_of f19 _ := ⟨F19, PySem.W.mg_of X G a19, F19.binds (ps := ["shuns", "number"]) fun _ _ _ _ _ _ us hl => match us, hl with | [_, _], _ => rfl⟩
  have F20 := fun_mk (x := "number_of") (qual := "number_of") (st := s_number_of) l20 c20 k20
  have x_number_of : Fx K mg "number_of" ["shuns", "seating"] s_number_of f20 _ := ⟨F20, PySem.W.mg_of X G a20, F20.binds (ps := ["shuns", "seating"]) fun _ _ _ _ _ _ us hl => match us, hl with | [_, _], _ => rfl⟩
  have F21 := fun_mk (x := "seated") (qual := "seated") (st := s_seated) l21 c21 k21
  have x_seated : Fx K mg "seated" ["shuns"] s_seated f21 _ := ⟨F21, PySem.W.mg_of X G a21, F21.binds (ps := ["shuns"]) fun _ _ _ _ _ _ us hl => match us, hl with | [_], _ => rfl⟩
  have F22 := fun_mk (x := "_law_cell_at") (qual := "_law_cell_at") (st := s__law_cell_at) l22 c22 k22
  have x__law_cell_at : Fx K mg "_law_cell_at" ["_law_script", "_law_k"] s__law_cell_at f22 _ := ⟨F22, PySem.W.mg_of X G a22, F22.binds (ps := ["_law_script", "_law_k"]) fun _ _ _ _ _ _ us hl => match us, hl with | [_, _], _ => rfl⟩
  have F23 := fun_mk (x := "_law_draw") (qual := "_law_draw") (st := s__law_draw) l23 c23 k23
  have x__law_draw : Fx K mg "_law_draw" ["_law_cell", "_law_k", "_law_many"] s__law_draw f23 _ := ⟨F23, PySem.W.mg_of X G a23, F23.binds (ps := ["_law_cell", "_law_k", "_law_many"]) fun _ _ _ _ _ _ us hl => match us, hl with | [_, _, _], _ => rfl⟩
  have F24 := fun_mk (x := "_law_shuns") (qual := "_law_shuns") (st := s__law_shuns) l24 c24 k24
  have x__law_shuns : Fx K mg "_law_shuns" ["_law_script"] s__law_shuns f24 _ := ⟨F24, PySem.W.mg_of X G a24, F24.binds (ps := ["_law_script"]) fun _ _ _ _ _ _ us hl => match us, hl with | [_], _ => rfl⟩
  have F25 := fun_mk (x := "_law_counts") (qual := "_law_counts") (st := s__law_counts) l25 c25 k25
  have x__law_counts : Fx K mg "_law_counts" ["_law_shuns_here"] s__law_counts f25 _ := ⟨F25, PySem.W.mg_of X G a25, F25.binds (ps := ["_law_shuns_here"]) fun _ _ _ _ _ _ us hl => match us, hl with | [_], _ => rfl⟩
  have F26 := fun_mk (x := "_law_off") (qual := "_law_off") (st := s__law_off) l26 c26 k26
  have x__law_off : Fx K mg "_law_off" ["_law_shuns_here", "_law_found"] s__law_off f26 _ := ⟨F26, PySem.W.mg_of X G a26, F26.binds (ps := ["_law_shuns_here", "_law_found"]) fun _ _ _ _ _ _ us hl => match us, hl with | [_, _], _ => rfl⟩
  have F27 := fun_mk (x := "_law_whole") (qual := "_law_whole") (st := s__law_whole) l27 c27 k27
  have x__law_whole : Fx K mg "_law_whole" ["_law_number"] s__law_whole f27 _ := ⟨F27, PySem.W.mg_of X G a27, F27.binds (ps := ["_law_number"]) fun _ _ _ _ _ _ us hl => match us, hl with | [_], _ => rfl⟩
  have F28 := fun_mk (x := "_law_kinds") (qual := "_law_kinds") (st := s__law_kinds) l28 c28 k28
  have x__law_kinds : Fx K mg "_law_kinds" ["_law_error"] s__law_kinds f28 _ := ⟨F28, PySem.W.mg_of X G a28, F28.binds (ps := ["_law_error"]) fun _ _ _ _ _ _ us hl => match us, hl with | [_], _ => rfl⟩
  have F29 := fun_mk (x := "_law_with_shuns") (qual := "_law_with_shuns") (st := s__law_with_shuns) l29 c29 k29
  have x__law_with_shuns : Fx K mg "_law_with_shuns" ["_law_door", "_law_shuns_here"] s__law_with_shuns f29 _ := ⟨F29, PySem.W.mg_of X G a29, F29.binds (ps := ["_law_door", "_law_shuns_here"]) fun _ _ _ _ _ _ us hl => match us, hl with | [_, _], _ => rfl⟩
  have F30 := fun_mk (x := "_law_told") (qual := "_law_told") (st := s__law_told) l30 c30 k30
  have x__law_told : Fx K mg "_law_told" ["_law_ask", "_law_one", "_law_other"] s__law_told f30 _ := ⟨F30, PySem.W.mg_of X G a30, F30.binds (ps := ["_law_ask", "_law_one", "_law_other"]) fun _ _ _ _ _ _ us hl => match us, hl with | [_, _, _], _ => rfl⟩
  have F31 := fun_mk (x := "_law_seatings_right") (qual := "_law_seatings_right") (st := s__law_seatings_right) l31 c31 k31
  have x__law_seatings_right : Fx K mg "_law_seatings_right" ["_law_shuns_here", "_law_due", "_law_far_here"] s__law_seatings_right f31 _ := ⟨F31, PySem.W.mg_of X G a31, F31.binds (ps := ["_law_shuns_here", "_law_due", "_law_far_here"]) fun _ _ _ _ _ _ us hl => match us, hl with | [_, _, _], _ => rfl⟩
  have F32 := fun_mk (x := "law") (qual := "law") (st := s_law) l32 c32 k32
  have e := hfa.symm.trans (PySem.W.mg_of X G a32)
  cases e
  have F_law := F32
  refine ⟨PySem.W.fnOf "law" "law" (defArgs s_law) (defBody s_law) (defScope s_law) .none kV32 dc32 pm32 an32 cd32 ct32, fun s v => .of_eq rfl, fun base _ _ => ?_⟩
  have X : TX K CTable := ⟨x_Table.cl, n_Table_tallies, n_Table_ways⟩
  have R0 : FnOk l.prog w K mg base CX0 4 _ _ ["shuns"] spRefuse := (ok_refuse_bad_shuns T x_refuse_bad_shuns.F x_are_shuns x_is_whole_number).mono (by decide)
  have B : TF l.prog w K mg base CTable _ _ _ _ _ _ _ _ _ _ _ _ _ _ := ⟨x_Table, X, x_refuse_bad_shuns, R0,
    x_is_whole_number, (ok_is_whole_number T x_is_whole_number.F).mono (by decide), x_count_off, (ok_count_off T x_count_off.F).mono (by decide),
    x_Table___init__, ok_Table_init T x_Table___init__.F X x_shunner_tallies x_ways_to_choose x_ways_with_seat,
    x_Table_call_guest, (ok_Table_call_guest T x_Table_call_guest.F X x_ways_with_seat x_ways_without_seat).mono (by decide),
    x_Table_first_numbers, (ok_Table_first_numbers T x_Table_first_numbers.F X x_count_off x_ways_without_seat).mono (by decide),
    x_Table_fill, (ok_Table_fill T x_Table_fill.F X x_ways_without_seat).mono (by decide)⟩
  have R : FnOk l.prog w K mg base (CXe l.prog w) 3 _ _ ["shuns"] (spRefE CBadShuns) := ok_refuse_E T x_refuse_bad_shuns.F x_BadShuns x_are_shuns x_is_whole_number
  have D := ok_with_shuns T x__law_with_shuns.F x_counts (ok_counts_E x_refuse_bad_shuns R x_counts.F) x_seated (ok_seated_E x_refuse_bad_shuns R x_seated.F)
    x_seating_of (ok_seating_of_E x_refuse_bad_shuns R x_seating_of.F) x_number_of (ok_number_of_E x_refuse_bad_shuns R x_number_of.F)
  have NE := ok_seating_of_N T x_seating_of.F x_BadNumber B
  have SE := ok_number_of_S T x_number_of.F x_BadSeating x_refuse_bad_shuns R0 x_is_seating_off ((ok_is_seating_off T x_is_seating_off.F x_is_seating x_is_whole_number).mono (by decide)) ((ok_is_off_bad T x_is_seating_off.F x_is_seating x_is_whole_number).mono (by decide))
  have TL : FnOk l.prog w K mg base CX0 6 _ _ ["_law_ask", "_law_one", "_law_other"] (spTold l.prog w K mg base CBadShuns CBadNumber CBadSeating CSeatError) := ok_law_told T ER x__law_told.F x__law_kinds
  have O : FnOk l.prog w K mg base CX0 6 _ _ ["_law_shuns_here", "_law_found"] (fun vs H Q E => spLOff vs H Q E ∨ spLOffBad vs H Q E) :=
    FnOk.or ((ok_law_off T x__law_off.F x__law_whole).mono (by decide)) ((ok_law_off_bad T x__law_off.F x__law_whole).mono (by decide))
  have SR := ok_seatings_right T ER n_tuple x__law_seatings_right.F x__law_off O x__law_told TL x_number_of SE
  exact ok_law T ER F_law x__law_cell_at ((ok_law_cell_at T x__law_cell_at.F).mono (by decide)) x__law_shuns ((ok_law_shuns T x__law_shuns.F x__law_draw x__law_cell_at).mono (by decide))
    x__law_told (TL.mono (by decide)) x__law_with_shuns D x__law_counts ((ok_law_counts T x__law_counts.F).mono (by decide)) x_seating_of NE ((ok_seating_of T x_seating_of.F B).mono (by decide))
    x__law_seatings_right SR x_counts ((ok_counts T x_counts.F x_shunner_tallies x_ways_to_choose x_factorials x_chosen_counts x_exact_counts x_refuse_bad_shuns x_is_whole_number x_are_shuns x_ways_with_seat).mono (by decide))
theorem walk {l : PySem.W.OpenLaw} {q : Program} {loose : List Str} {XP : (Str → Option Value) → Heap → Prop} {YP : World → Heap → Prop} {d : DefRec} {K : Params → PySem.W.Frag} (hn : l.most = some 63) (hdf : d.params.defaults = [])
    (hY : ∀ (w : World) (h : Heap), YP w h → (K w.params).In h)
    (F : ∀ (w : World) (mg : Str → Option Value) (fa : Addr) (h : Heap), (K w.params).In h → h.Ns mainGlobals mg → mg d.name = some (.ref fa) →
      ∃ fd : FuncData, (∀ (s : Shared) (u : Value), BindsTo s fd ⟨[u], []⟩ [("_law_script", u)]) ∧ ∀ base : Heap, (K w.params).In base → base.Ns mainGlobals mg → FnOk l.prog w (K w.params) mg base CX0 8 fa fd ["_law_script"] (spLaw (K w.params))) :
    PySem.W.WalkO q loose XP YP l.row.toRowW d [] (fun f vs => PySem.call f vs) :=
  L2.walk_of (n := 63) (k := 8) (x := "_law_script") (CX := fun _ => CX0) (sp := fun w => spLaw (K w.params)) hn (by decide) hdf ⟨rfl, by decide, by decide⟩ hY F (fun _ _ a ns hl _ hS => ⟨a, ns, rfl, hS, hl, fun _ => rfl⟩) fun _ _ _ _ _ z => z
end OS
open PySem PySem.W PyProof.Rows
set_option maxRecDepth 100000 in
set_option maxHeartbeats 0 in
theorem PySem.Challenge.cw_offseat_k05_refused_holds : PySem.Challenge.rw_offseat_k05_refused.Holds := by
  w_on; o_law; k_head; (case hw => w_witness2)
  k_fill
  refine OS.walk (l := PySem.Challenge.rw_offseat_k05_refused) rfl rfl (fun w h Y => PySem.W.kIn_of Y) ?F
  case F =>
    intro w mg fa h KX G hmg
    refine' OS.all_mk KX G hmg ?a_Table ?a_SeatError ?a_BadShuns ?a_BadNumber ?a_BadSeating ?a1 ?l1 ?c1 ?k1 ?a2 ?l2 ?c2 ?k2 ?a3 ?l3 ?c3 ?k3 ?a4 ?l4 ?c4 ?k4 ?a5 ?l5 ?c5 ?k5 ?a6 ?l6 ?c6 ?k6 ?a7 ?l7 ?c7 ?k7 ?a8 ?l8 ?c8 ?k8 ?a9 ?l9 ?c9 ?k9 ?a10 ?l10 ?c10 ?k10 ?a11 ?l11 ?c11 ?k11 ?a12 ?l12 ?c12 ?k12 ?a13 ?l13 ?c13 ?k13 ?a14 ?l14 ?c14 ?k14 ?a15 ?i15 ?l15 ?c15 ?k15 ?a16 ?i16 ?l16 ?c16 ?k16 ?a17 ?i17 ?l17 ?c17 ?k17 ?a18 ?i18 ?l18 ?c18 ?k18 ?a19 ?l19 ?c19 ?k19 ?a20 ?l20 ?c20 ?k20 ?a21 ?l21 ?c21 ?k21 ?a22 ?l22 ?c22 ?k22 ?a23 ?l23 ?c23 ?k23 ?a24 ?l24 ?c24 ?k24 ?a25 ?l25 ?c25 ?k25 ?a26 ?l26 ?c26 ?k26 ?a27 ?l27 ?c27 ?k27 ?a28 ?l28 ?c28 ?k28 ?a29 ?l29 ?c29 ?k29 ?a30 ?l30 ?c30 ?k30 ?a31 ?l31 ?c31 ?k31 ?a32 ?l32 ?c32 ?k32 ?pg_Table ?hd_Table ?po_Table ?sa_Table ?ha_Table ?hm_Table ?mk_Table ?kc_Table ?ga_SeatError ?gk_SeatError ?cl_SeatError ?mO_SeatError ?mB_SeatError ?tx_SeatError ?ga_BadShuns ?gk_BadShuns ?cl_BadShuns ?mO_BadShuns ?mB_BadShuns ?tx_BadShuns ?qx_BadShuns ?su_BadShuns ?sv_BadShuns ?ga_BadNumber ?gk_BadNumber ?cl_BadNumber ?mO_BadNumber ?mB_BadNumber ?tx_BadNumber ?qx_BadNumber ?su_BadNumber ?sv_BadNumber ?ga_BadSeating ?gk_BadSeating ?cl_BadSeating ?mO_BadSeating ?mB_BadSeating ?tx_BadSeating ?qx_BadSeating ?su_BadSeating ?sv_BadSeating ?sx_BadShuns_BadNumber ?ne_BadShuns_BadNumber ?sx_BadShuns_BadSeating ?ne_BadShuns_BadSeating ?sx_BadNumber_BadShuns ?ne_BadNumber_BadShuns ?sx_BadNumber_BadSeating ?ne_BadNumber_BadSeating ?sx_BadSeating_BadShuns ?ne_BadSeating_BadShuns ?sx_BadSeating_BadNumber ?ne_BadSeating_BadNumber ?zx_tuple ?zx_ValueError ?hn ?htk ?n_Table_tallies ?n_Table_ways ?z0 ?z1 ?z2 ?z3 ?z4 ?z5 ?z6 ?z7 ?z8 ?z9 ?z10 ?z11 ?z12 ?z13
    (case a_Table => k_is)
    (case a_SeatError => k_is)
    (case a_BadShuns => k_is)
    (case a_BadNumber => k_is)
    (case a_BadSeating => k_is)
    (case a1 => k_is)
    (case l1 => k_is)
    (case c1 => k_is)
    (case k1 => k_is)
    (case a2 => k_is)
    (case l2 => k_is)
    (case c2 => k_is)
    (case k2 => k_is)
    (case a3 => k_is)
    (case l3 => k_is)
    (case c3 => k_is)
    (case k3 => k_is)
    (case a4 => k_is)
    (case l4 => k_is)
    (case c4 => k_is)
    (case k4 => k_is)
    (case a5 => k_is)
    (case l5 => k_is)
    (case c5 => k_is)
    (case k5 => k_is)
    (case a6 => k_is)
    (case l6 => k_is)
    (case c6 => k_is)
    (case k6 => k_is)
    (case a7 => k_is)
    (case l7 => k_is)
    (case c7 => k_is)
    (case k7 => k_is)
    (case a8 => k_is)
    (case l8 => k_is)
    (case c8 => k_is)
    (case k8 => k_is)
    (case a9 => k_is)
    (case l9 => k_is)
    (case c9 => k_is)
    (case k9 => k_is)
    (case a10 => k_is)
    (case l10 => k_is)
    (case c10 => k_is)
    (case k10 => k_is)
    (case a11 => k_is)
    (case l11 => k_is)
    (case c11 => k_is)
    (case k11 => k_is)
    (case a12 => k_is)
    (case l12 => k_is)
    (case c12 => k_is)
    (case k12 => k_is)
    (case a13 => k_is)
    (case l13 => k_is)
    (case c13 => k_is)
    (case k13 => k_is)
    (case a14 => k_is)
    (case l14 => k_is)
    (case c14 => k_is)
    (case k14 => k_is)
    (case a15 => k_is)
    (case i15 => k_is)
    (case l15 => k_is)
    (case c15 => k_is)
    (case k15 => k_is)
    (case a16 => k_is)
    (case i16 => k_is)
    (case l16 => k_is)
    (case c16 => k_is)
    (case k16 => k_is)
    (case a17 => k_is)
    (case i17 => k_is)
    (case l17 => k_is)
    (case c17 => k_is)
    (case k17 => k_is)
    (case a18 => k_is)
    (case i18 => k_is)
    (case l18 => k_is)
    (case c18 => k_is)
    (case k18 => k_is)
    (case a19 => k_is)
    (case l19 => k_is)
    (case c19 => k_is)
    (case k19 => k_is)
    (case a20 => k_is)
    (case l20 => k_is)
    (case c20 => k_is)
    (case k20 => k_is)
    (case a21 => k_is)
    (case l21 => k_is)
    (case c21 => k_is)
    (case k21 => k_is)
    (case a22 => k_is)
    (case l22 => k_is)
    (case c22 => k_is)
    (case k22 => k_is)
    (case a23 => k_is)
    (case l23 => k_is)
    (case c23 => k_is)
    (case k23 => k_is)
    (case a24 => k_is)
    (case l24 => k_is)
    (case c24 => k_is)
    (case k24 => k_is)
    (case a25 => k_is)
    (case l25 => k_is)
    (case c25 => k_is)
    (case k25 => k_is)
    (case a26 => k_is)
    (case l26 => k_is)
    (case c26 => k_is)
    (case k26 => k_is)
    (case a27 => k_is)
    (case l27 => k_is)
    (case c27 => k_is)
    (case k27 => k_is)
    (case a28 => k_is)
    (case l28 => k_is)
    (case c28 => k_is)
    (case k28 => k_is)
    (case a29 => k_is)
    (case l29 => k_is)
    (case c29 => k_is)
    (case k29 => k_is)
    (case a30 => k_is)
    (case l30 => k_is)
    (case c30 => k_is)
    (case k30 => k_is)
    (case a31 => k_is)
    (case l31 => k_is)
    (case c31 => k_is)
    (case k31 => k_is)
    (case a32 => k_is)
    (case l32 => k_is)
    (case c32 => k_is)
    (case k32 => k_is)
    (case pg_Table => k_is)
    (case hd_Table => k_is)
    (case po_Table => k_is)
    (case sa_Table => k_is)
    (case ha_Table => k_is)
    (case hm_Table => k_is)
    (case mk_Table => k_is)
    (case kc_Table => k_is)
    (case ga_SeatError => k_is)
    (case gk_SeatError => k_is)
    (case cl_SeatError => k_is)
    (case mO_SeatError => k_is)
    (case mB_SeatError => k_is)
    (case tx_SeatError => k_is)
    (case ga_BadShuns => k_is)
    (case gk_BadShuns => k_is)
    (case cl_BadShuns => k_is)
    (case mO_BadShuns => k_is)
    (case mB_BadShuns => k_is)
    (case tx_BadShuns => k_is)
    (case qx_BadShuns => k_exc)
    (case su_BadShuns => k_is)
    (case sv_BadShuns => k_is)
    (case ga_BadNumber => k_is)
    (case gk_BadNumber => k_is)
    (case cl_BadNumber => k_is)
    (case mO_BadNumber => k_is)
    (case mB_BadNumber => k_is)
    (case tx_BadNumber => k_is)
    (case qx_BadNumber => k_exc)
    (case su_BadNumber => k_is)
    (case sv_BadNumber => k_is)
    (case ga_BadSeating => k_is)
    (case gk_BadSeating => k_is)
    (case cl_BadSeating => k_is)
    (case mO_BadSeating => k_is)
    (case mB_BadSeating => k_is)
    (case tx_BadSeating => k_is)
    (case qx_BadSeating => k_exc)
    (case su_BadSeating => k_is)
    (case sv_BadSeating => k_is)
    (case sx_BadShuns_BadNumber => k_is)
    (case ne_BadShuns_BadNumber => decide)
    (case sx_BadShuns_BadSeating => k_is)
    (case ne_BadShuns_BadSeating => decide)
    (case sx_BadNumber_BadShuns => k_is)
    (case ne_BadNumber_BadShuns => decide)
    (case sx_BadNumber_BadSeating => k_is)
    (case ne_BadNumber_BadSeating => decide)
    (case sx_BadSeating_BadShuns => k_is)
    (case ne_BadSeating_BadShuns => decide)
    (case sx_BadSeating_BadNumber => k_is)
    (case ne_BadSeating_BadNumber => decide)
    (case zx_tuple => k_is)
    (case zx_ValueError => k_is)
    (case hn => k_is)
    (case htk => k_is)
    (case n_Table_tallies => k_is)
    (case n_Table_ways => k_is)
    (case z0 => k_is)
    (case z1 => k_is)
    (case z2 => k_is)
    (case z3 => k_is)
    (case z4 => k_is)
    (case z5 => k_is)
    (case z6 => k_is)
    (case z7 => k_is)
    (case z8 => k_is)
    (case z9 => k_is)
    (case z10 => k_is)
    (case z11 => k_is)
    (case z12 => k_is)
    (case z13 => k_is)
