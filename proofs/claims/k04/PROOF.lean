import PyProof.Rows.All
import Wide.All
import OpenK.AllK
import Wide.FinOn
import Lean
import PyProof.EqAt
import PyProof.EqKinds
import PyProof.TupleCall
import PySem.Challenge.RW_offseat_k04_answers_by_hand
set_option Elab.async false
set_option linter.all false
set_option maxRecDepth 100000
/-! THE HAND LAYER, for ints, bools, texts, own classes, LISTS and tuples (index, slices, in, append, pop ..), calls, loops. Paste it whole ahead of your own text; what your proof does not reach may be deleted. -/
namespace L2
open PySem PySem.Spec PyProof.Rows

/-- a key: an int or a str -/
abbrev Key := Sum Int Str
def keyIs : Key → Value → Bool
  | .inl k, v => Value.isInt k v
  | .inr x, v => Value.isStrOf x v
def keyH (w : World) : Key → Int
  | .inl k => hashInt k
  | .inr x => hashStr w x
theorem keyIs_shape : ∀ {k : Key} {v : Value}, keyIs k v = true → (∃ i t, k = Sum.inl i ∧ v = Value.int i t) ∨ (∃ x t, k = Sum.inr x ∧ v = Value.str x t)
  | .inl i, v, h => by
    obtain ⟨t, e⟩ := Value.isInt_shape (k := i) (v := v) h
    exact .inl ⟨i, t, rfl, e⟩
  | .inr x, v, h => by
    obtain ⟨t, e⟩ := Value.isStrOf_shape (x := x) (v := v) h
    exact .inr ⟨x, t, rfl, e⟩
theorem keyIs_int (i : Int) (t : Tok) : keyIs (.inl i) (.int i t) = true := by simp [keyIs, Value.isInt]
theorem keyIs_str (x : Str) (t : Tok) : keyIs (.inr x) (.str x t) = true := by simp [keyIs, Value.isStrOf]
theorem key_ll (a b : Int) : decide ((Sum.inl a : Key) = Sum.inl b) = (a == b) := by
  by_cases e : a = b
  · subst e; simp
  · have h : ¬ (Sum.inl a : Key) = Sum.inl b := fun q => e (Sum.inl.inj q)
    rw [decide_eq_false h]
    exact (beq_eq_false_iff_ne.mpr e).symm
theorem key_rr (a b : Str) : decide ((Sum.inr a : Key) = Sum.inr b) = decide (a = b) := by
  by_cases e : a = b
  · subst e; simp
  · have h : ¬ (Sum.inr a : Key) = Sum.inr b := fun q => e (Sum.inr.inj q)
    rw [decide_eq_false h, decide_eq_false e]
theorem key_lr (a : Int) (b : Str) : decide ((Sum.inl a : Key) = Sum.inr b) = false := decide_eq_false (fun q => nomatch q)
theorem key_rl (a : Str) (b : Int) : decide ((Sum.inr a : Key) = Sum.inl b) = false := decide_eq_false (fun q => nomatch q)

def mixKind (prog : Program) (w : World) : PySem.KeyKind prog w Key where
  is := keyIs
  hash := keyH w
  inj := fun v a b ha hb => by
    rcases keyIs_shape ha with ⟨i, t, rfl, rfl⟩ | ⟨x, t, rfl, rfl⟩
    · rcases keyIs_shape hb with ⟨j, u, rfl, e⟩ | ⟨y, u, rfl, e⟩
      · injection e with e1 _; rw [e1]
      · exact nomatch e
    · rcases keyIs_shape hb with ⟨j, u, rfl, e⟩ | ⟨y, u, rfl, e⟩
      · exact nomatch e
      · injection e with e1 _; rw [e1]
  byValue := fun k v h => by
    rcases keyIs_shape h with ⟨i, t, rfl, rfl⟩ | ⟨x, t, rfl, rfl⟩ <;> rfl
  pyHash := fun hv h => by
    rcases keyIs_shape hv with ⟨i, t, rfl, rfl⟩ | ⟨x, t, rfl, rfl⟩
    · exact wpAny_pyHash_int h
    · exact wpAny_pyHash_str h
  eqBool := fun hu hv h => by
    rcases keyIs_shape hu with ⟨i, t, rfl, rfl⟩ | ⟨x, t, rfl, rfl⟩
    · rcases keyIs_shape hv with ⟨j, u, rfl, rfl⟩ | ⟨y, u, rfl, rfl⟩
      · rw [key_ll] at h; exact wpAny_eqBool_int h
      · rw [key_lr] at h; exact SeqAt.EqAt.int_str i t y u _ _ _ _ h
    · rcases keyIs_shape hv with ⟨j, u, rfl, rfl⟩ | ⟨y, u, rfl, rfl⟩
      · rw [key_rl] at h; exact SeqAt.EqAt.str_int x t j u _ _ _ _ h
      · rw [key_rr] at h; exact wpAny_eqBool_str h
  «strs» := fun k x t v h => by
    rcases keyIs_shape h with ⟨i, u, rfl, e⟩ | ⟨y, u, rfl, e⟩
    · exact nomatch e
    · injection e with e1 _
      subst e1
      cases v <;> rfl

theorem mixKind_is (prog : Program) (w : World) (k : Key) (v : Value) : (mixKind prog w).is k v = keyIs k v := rfl
theorem mixKind_int (prog : Program) (w : World) (i : Int) (t : Tok) : (mixKind prog w).is (.inl i) (.int i t) = true := keyIs_int i t
theorem mixKind_str (prog : Program) (w : World) (x : Str) (t : Tok) : (mixKind prog w).is (.inr x) (.str x t) = true := keyIs_str x t
end L2

namespace L2
open PySem PySem.Spec PyProof.Rows

/-- a value, without the heap -/
inductive V where
  | non | bl (b : Bool) | int (i : Int) | str (x : Str) | byt (b : Array UInt8) | flt (b : UInt64) | ref (a : Addr) | ty (n : String)
  deriving DecidableEq

def RelV : V → Value → Prop
  | .non, u => u = Value.none
  | .bl b, u => u = Value.bool b
  | .int i, u => ∃ t, u = Value.int i t
  | .str x, u => ∃ t, u = Value.str x t
  | .byt b, u => ∃ t, u = Value.bytes b t
  | .flt b, u => ∃ t, u = Value.float b t
  | .ref a, u => u = Value.ref a
  | .ty n, u => u = Value.type n

abbrev Vals : List V → List Value → Prop := Paired RelV
theorem Vals.length {xs : List V} {us : List Value} (r : Vals xs us) : xs.length = us.length := Paired.length r
theorem Vals.get : ∀ {xs : List V} {us : List Value} {i : Nat} {x : V}, Vals xs us → xs[i]? = some x → ∃ u, us[i]? = some u ∧ RelV x u
  | _, _, _, _, .nil, e => by simp at e
  | _, _, 0, _, .cons r _, e => by simp at e; subst e; exact ⟨_, rfl, r⟩
  | _, _, i + 1, x, .cons _ t, e => by
    obtain ⟨u, h1, h2⟩ := Vals.get (i := i) (x := x) t (by simpa using e)
    exact ⟨u, by simpa using h1, h2⟩
theorem Vals.set {x : V} {u : Value} (r : RelV x u) : ∀ {xs : List V} {us : List Value} (i : Nat), Vals xs us → Vals (xs.set i x) (us.set i u)
  | _, _, _, .nil => .nil
  | _, _, 0, .cons _ t => .cons r t
  | _, _, i + 1, .cons q t => .cons q (Vals.set r i t)
theorem Vals.append : ∀ {xs ys : List V} {us ws : List Value}, Vals xs us → Vals ys ws → Vals (xs ++ ys) (us ++ ws)
  | _, _, _, _, .nil, s => s
  | _, _, _, _, .cons r t, s => .cons r (Vals.append t s)
theorem Vals.take : ∀ {xs : List V} {us : List Value} (n : Nat), Vals xs us → Vals (xs.take n) (us.take n)
  | _, _, 0, _ => .nil
  | _, _, _ + 1, .nil => .nil
  | _, _, n + 1, .cons r t => .cons r (Vals.take n t)
theorem Vals.drop : ∀ {xs : List V} {us : List Value} (n : Nat), Vals xs us → Vals (xs.drop n) (us.drop n)
  | _, _, 0, r => r
  | _, _, _ + 1, .nil => .nil
  | _, _, n + 1, .cons _ t => Vals.drop n t
theorem Vals.none_of : ∀ {xs : List V} {us : List Value} {i : Nat}, Vals xs us → xs[i]? = none → us[i]? = none := fun {xs us i} r e => by
  have h1 := r.length
  have h2 : xs.length ≤ i := List.getElem?_eq_none_iff.mp e
  exact List.getElem?_eq_none_iff.mpr (by omega)

def RelO : Option V → Option Value → Prop
  | some v, some u => RelV v u
  | none, none => True
  | _, _ => False
def KV {κ : Type} : List (κ × V) → List (κ × Value) → Prop := Paired fun (p : κ × V) (q : κ × Value) => p.1 = q.1 ∧ RelV p.2 q.2

/-- a key of a dict (00_mix): an int or a text -/
def kV : Key → V
  | .inl i => .int i
  | .inr x => .str x

/-- what stands at a tracked address -/
inductive HO where
  /-- a list -/
  | lst (xs : List V)
  /-- a tuple (never changes) -/
  | tup (xs : List V)
  /-- a dict whose keys are ints and texts; one whose keys are tuples of ints and texts (the empty one is both) -/
  | dK (kvs : List (Key × V)) | dT (kvs : List (List Key × V))
  /-- a set of ints: its members, its size -/
  | set (S : Int → Bool) (n : Nat)
  /-- an instance of the class at C, its dict at dx, its attributes -/
  | ins (C dx : Addr) (fs : List (Str × V))
  /-- the dict of the instance at x -/
  | own (x : Addr)
  /-- the dict of an exception -/
  | xd (fs : List (Str × V))
  /-- a bound method, f of x -/
  | met (f x : Addr)
  /-- a range object lo, lo + 1, .. below hi -/
  | rng (lo hi : Int)
  /-- a thing that is known to the object (the script; a dict while a loop walks it): read, never written while it is so -/
  | frz (o : Obj) (u : HO)
  /-- a code object's table -/
  | tbl (ps : Array Value)
  /-- any other thing, by what is true of its one object (a def of one's own: SetO a S n := HO.ext fun h => ..) -/
  | ext (φ : Heap → Prop)

abbrev Hp := Addr → Option HO
def upd (H : Hp) (a : Addr) (o : HO) : Hp := fun b => if b = a then some o else H b
theorem upd_same {H : Hp} {a : Addr} {o : HO} : upd H a o a = some o := by unfold upd; rw [if_pos rfl]
theorem upd_ne {H : Hp} {a b : Addr} {o : HO} (h : b ≠ a) : upd H a o b = H b := by unfold upd; rw [if_neg h]
theorem upd_upd {H : Hp} {a : Addr} {o u : HO} : upd (upd H a o) a u = upd H a u := by
  funext b; unfold upd; split <;> rfl
/-- two objects of different content stand apart -/
theorem ne_of {H : Hp} {a b : Addr} {o u : HO} (h : H a = some o) (h' : H b = some u) (d : o ≠ u) : a ≠ b := by
  intro e; subst e; rw [h] at h'; exact d (Option.some.inj h')
theorem ne_of_none {H : Hp} {a b : Addr} {o : HO} (h : H a = some o) (h' : H b = none) : a ≠ b := by
  intro e; subst e; rw [h] at h'; cases h'

section
variable (P : Program) (w : World)
def ObjOk (H : Hp) (h : Heap) (a : Addr) : HO → Prop
  | .lst xs => xs.length ≤ sizeLine ∧ ∃ (its : List Value) (n : Nat), Vals xs its ∧ h.get? a = some { cls := .type "list", data := .seq its.toArray n }
  | .tup xs => xs.length ≤ sizeLine ∧ ∃ its : List Value, Vals xs its ∧ IsTup h a its.toArray
  | .dK kvs => kvs.length ≤ sizeLine ∧ (a == sysModules) = false ∧ ∃ vs, KV kvs vs ∧ h.DictOf (mixKind P w) a vs
  | .dT kvs => kvs.length ≤ sizeLine ∧ (a == sysModules) = false ∧ ∃ xs : List (List Key × Addr × Value),
      Paired (fun (p : List Key × V) (q : List Key × Addr × Value) => p.1 = q.1 ∧ H q.2.1 = some (.tup (p.1.map kV)) ∧ RelV p.2 q.2.2) kvs xs ∧
      ∃ o es ep, h.get? a = some o ∧ o.ExactDict ∧ o.data = .dict es ep ∧ es.toList = xs.map (entryOfKey (tupleKind (mixKind P w))) ∧ (xs.map (·.1)).Nodup
  | .set S n => h.SetOf (intKind P w) a S n
  | .ins C dx fs => H dx = some (.own a) ∧ fs.length ≤ 1000 ∧ dx ≠ a ∧ h.get? a = some (PySem.W.instObj C dx) ∧
      ∃ mA, h.Ns1 dx mA ∧ (∀ f, RelO (fs.lookup f) (mA f)) ∧ PySem.Within mA (fs.map (·.1))
  | .own _ => ∃ o, h.get? a = some o
  | .xd fs => ∃ mA, h.Ns1 a mA ∧ ∀ f, RelO (fs.lookup f) (mA f)
  | .rng lo hi => ∃ t u v, h.get? a = some { cls := .type "range", data := .fields #[.int lo t, .int hi u, .int 1 v] }
  | .frz o u => h.get? a = some o ∧ ObjOk H h a u
  | .tbl ps => h.get? a = some { cls := .none, data := .fields ps }
  | .met f x => h.get? a = some (PySem.W.methodObj (.ref f) (.ref x))
  | .ext φ => φ h ∧ (∃ o, h.get? a = some o) ∧ ∀ h1 h2 : Heap, φ h1 → (∀ o, h1.get? a = some o → h2.get? a = some o) → φ h2
/-- the abstract heap is held -/
def HOk (H : Hp) (h : Heap) : Prop := ∀ a o, H a = some o → ObjOk P w H h a o
end

section
variable {P : Program} {w : World} {H H' : Hp} {h h' : Heap} {a : Addr} {o : HO}
theorem ObjOk.lt (x : ObjOk P w H h a o) : a < h.objs.size := by
  cases o with
  | lst xs => obtain ⟨_, _, _, _, e⟩ := x; exact Heap.lt_size e
  | tup xs => obtain ⟨_, _, _, p⟩ := x; exact p.lt
  | dK kvs => obtain ⟨_, _, _, _, o, _, _, e, _⟩ := x; exact Heap.lt_size e
  | dT kvs => obtain ⟨_, _, _, _, o, _, _, e, _⟩ := x; exact Heap.lt_size e
  | set S n => obtain ⟨o, _, _, _, e, _⟩ := x; exact Heap.lt_size e
  | ins C dx fs => obtain ⟨_, _, _, e, _⟩ := x; exact Heap.lt_size e
  | own y => obtain ⟨_, e⟩ := x; exact Heap.lt_size e
  | xd fs => obtain ⟨_, ⟨_, _, _, e, _⟩, _⟩ := x; exact Heap.lt_size e
  | rng lo hi => obtain ⟨_, _, _, e⟩ := x; exact Heap.lt_size e
  | frz ob u => obtain ⟨e, _⟩ := x; exact Heap.lt_size e
  | tbl ps => exact Heap.lt_size (show h.get? a = some _ from x)
  | met f y => exact Heap.lt_size (show h.get? a = some _ from x)
  | ext φ => obtain ⟨_, ⟨_, e⟩, _⟩ := x; exact Heap.lt_size e
theorem Paired.mapP {α β : Type} {F G : α → β → Prop} : ∀ {l₁ : List α} {l₂ : List β}, Paired F l₁ l₂ → (∀ a b, F a b → G a b) → Paired G l₁ l₂
  | _, _, .nil, _ => .nil
  | _, _, .cons r t, f => .cons (f _ _ r) (Paired.mapP t f)
theorem Paired.imp' {α β : Type} {F G : α → β → Prop} (f : ∀ a b, F a b → G a b) {l₁ : List α} {l₂ : List β} (r : Paired F l₁ l₂) : Paired G l₁ l₂ := Paired.mapP r f
/-- what an object's description leans on: its own object, its own dict, the tuples -/
theorem ObjOk.stay (x : ObjOk P w H h a o) (k : ∀ b u, (b = a ∨ H b = some (.own a)) → h.get? b = some u → h'.get? b = some u)
    (ho : ∀ b, H b = some (.own a) → H' b = some (.own a)) (ht : ∀ b xs, H b = some (.tup xs) → H' b = some (.tup xs)) : ObjOk P w H' h' a o := by
  induction o with
  | lst xs => obtain ⟨z, its, n, r, e⟩ := x; exact ⟨z, its, n, r, k _ _ (.inl rfl) e⟩
  | tup xs => obtain ⟨z, its, r, ob, e, c⟩ := x; exact ⟨z, its, r, ob, k _ _ (.inl rfl) e, c⟩
  | dK kvs => obtain ⟨z, y, vs, r, ob, es, ep, e, c⟩ := x; exact ⟨z, y, vs, r, ob, es, ep, k _ _ (.inl rfl) e, c⟩
  | dT kvs =>
    obtain ⟨z, y, xs, r, ob, es, ep, e, c⟩ := x
    exact ⟨z, y, xs, Paired.mapP r fun p q z => ⟨z.1, ht _ _ z.2.1, z.2.2⟩, ob, es, ep, k _ _ (.inl rfl) e, c⟩
  | set S n => obtain ⟨ob, es, ep, t, e, c⟩ := x; exact ⟨ob, es, ep, t, k _ _ (.inl rfl) e, c⟩
  | ins C dx fs =>
    obtain ⟨d, z, ne, e, mA, ⟨od, es, ep, e2, c⟩, r⟩ := x
    exact ⟨ho _ d, z, ne, k _ _ (.inl rfl) e, mA, ⟨od, es, ep, k _ _ (.inr d) e2, c⟩, r⟩
  | own y => obtain ⟨ob, e⟩ := x; exact ⟨ob, k _ _ (.inl rfl) e⟩
  | xd fs => obtain ⟨mA, ⟨od, es, ep, e, c⟩, r⟩ := x; exact ⟨mA, ⟨od, es, ep, k _ _ (.inl rfl) e, c⟩, r⟩
  | rng lo hi => obtain ⟨t, u, v, e⟩ := x; exact ⟨t, u, v, k _ _ (.inl rfl) e⟩
  | frz ob u ih => obtain ⟨e, q⟩ := x; exact ⟨k _ _ (.inl rfl) e, ih q⟩
  | tbl ps =>
    have e : h.get? a = some { cls := .none, data := .fields ps } := x
    show h'.get? a = some { cls := .none, data := .fields ps }
    exact k a _ (.inl rfl) e
  | met f y =>
    have e : h.get? a = some (PySem.W.methodObj (.ref f) (.ref y)) := x
    show h'.get? a = some (PySem.W.methodObj (.ref f) (.ref y))
    exact k a _ (.inl rfl) e
  | ext φ => obtain ⟨p, ⟨o, e⟩, st⟩ := x; exact ⟨st _ _ p fun o q => k _ _ (.inl rfl) q, ⟨o, k _ _ (.inl rfl) e⟩, st⟩
theorem HOk.lt (x : HOk P w H h) (e : H a = some o) : a < h.objs.size := (x a o e).lt
theorem HOk.fresh (x : HOk P w H h) (e : h.objs.size ≤ a) : H a = none := by
  cases q : H a with
  | none => rfl
  | some u => exact absurd (Nat.lt_of_lt_of_le (x.lt q) e) (Nat.lt_irrefl _)
/-- every object of the heap is kept -/
theorem HOk.kept (x : HOk P w H h) (k : ∀ b u, h.get? b = some u → h'.get? b = some u) : HOk P w H h' := fun a o e =>
  (x a o e).stay (fun b u _ q => k b u q) (fun _ q => q) fun _ _ q => q
/-- a new object is laid and tracked -/
theorem HOk.laid (x : HOk P w H h) (k : ∀ b u, h.get? b = some u → h'.get? b = some u) (hp : h.objs.size ≤ a) (new : ObjOk P w (upd H a o) h' a o) : HOk P w (upd H a o) h' := fun b u e => by
  have hn := x.fresh hp
  by_cases hb : b = a
  · subst hb; rw [upd_same] at e; cases e; exact new
  · rw [upd_ne hb] at e
    exact (x b u e).stay (fun c v _ q => k c v q) (fun c q => by rw [upd_ne (ne_of_none q hn)]; exact q) fun c xs q => by rw [upd_ne (ne_of_none q hn)]; exact q
end

/-- what may be read as u: it is u, or a known u -/
def Rd (H : Hp) (a : Addr) (u : HO) : Prop := H a = some u ∨ ∃ o, H a = some (.frz o u)
theorem Rd.of {H : Hp} {a : Addr} {u : HO} (h : H a = some u) : Rd H a u := .inl h
theorem Rd.ok {P : Program} {w : World} {H : Hp} {h : Heap} {a : Addr} {u : HO} (r : Rd H a u) (x : HOk P w H h) : ObjOk P w H h a u := by
  rcases r with r | ⟨o, r⟩
  · exact x a u r
  · obtain ⟨_, q⟩ := x a _ r
    exact q
/-- what may be written -/
def Mut : Option HO → Prop
  | some (.lst _) => True
  | some (.dK _) => True
  | some (.dT _) => True
  | some (.set _ _) => True
  | some (.ins _ _ _) => True
  | some (.ext _) => True
  | _ => False
section
variable {P : Program} {w : World} {H : Hp} {h h' : Heap} {x e : Addr} {o' : HO}
/-- the object at e is changed: x itself, or the dict of the instance x -/
theorem HOk.write (ok : HOk P w H h) (mu : Mut (H x)) (he : e = x ∨ H e = some (.own x)) (k : ∀ b u, b ≠ e → h.get? b = some u → h'.get? b = some u) (heo : ∃ u, h'.get? e = some u)
    (new : ObjOk P w (upd H x o') h' x o') : HOk P w (upd H x o') h' := fun b u q => by
  have nown : ∀ c y, H c = some (.own y) → c ≠ x := fun c y r z => by subst z; rw [r] at mu; exact mu
  have ntup : ∀ c xs, H c = some (.tup xs) → c ≠ x := fun c xs r z => by subst z; rw [r] at mu; exact mu
  by_cases hb : b = x
  · subst hb; rw [upd_same] at q; cases q; exact new
  · rw [upd_ne hb] at q
    by_cases hbe : b = e
    · have q' : H b = some (.own x) := by
        rcases he with z | z
        · exact absurd (hbe.trans z) hb
        · rw [hbe]; exact z
      rw [q] at q'; cases q'
      obtain ⟨v, hv⟩ := heo
      exact ⟨v, by rw [hbe]; exact hv⟩
    · refine (ok b u q).stay (fun c v hc r => k c v ?_ r) (fun c r => by rw [upd_ne (nown c b r)]; exact r) fun c xs r => by rw [upd_ne (ntup c xs r)]; exact r
      rcases hc with rfl | hc
      · exact hbe
      · rintro rfl
        rcases he with z | z
        · exact nown c b hc z
        · rw [hc] at z; cases z; exact hb rfl
end

/-! ### kept unless tracked; of the frames at fs (the callers') the slots may change (an exception that passes writes there); of the records at ex (iterators) nothing is said -/
structure Un (fs ex : List Addr) (H H' : Hp) (h h' : Heap) : Prop where
  keep : ∀ b o, h.get? b = some o → H b = none → b ∉ fs → b ∉ ex → h'.get? b = some o
  slot : ∀ b o, h.get? b = some o → H b = none → b ∈ fs → b ∉ ex → ∃ sl, h'.get? b = some { o with slots := sl }
  free : ∀ b o, h.get? b = some o → H b = none → b ∉ ex → H' b = none
  there : ∀ b o, h.get? b = some o → b ∉ ex → ∃ o', h'.get? b = some o'
  tups : ∀ b xs, H b = some (.tup xs) → H' b = some (.tup xs)
  frzs : ∀ b o u, H b = some (.frz o u) → H' b = some (.frz o u)
  tbls : ∀ b ps, H b = some (.tbl ps) → ∃ more, H' b = some (.tbl (ps ++ more))
section
variable {fs fs' ex ex' : List Addr} {H H1 H2 : Hp} {h h1 h2 h' : Heap} {a x e : Addr} {o : HO}
theorem Un.any (u : Un fs ex H H1 h h1) {b : Addr} {ob : Obj} (q : h.get? b = some ob) (n : H b = none) (hx : b ∉ ex) : ∃ sl, h1.get? b = some { ob with slots := sl } := by
  by_cases hb : b ∈ fs
  · exact u.slot b ob q n hb hx
  · exact ⟨ob.slots, u.keep b ob q n hb hx⟩
theorem Un.trans (a : Un fs ex H H1 h h1) (b : Un fs ex H1 H2 h1 h2) : Un fs ex H H2 h h2 where
  keep := fun c ob q n hc hx => b.keep c ob (a.keep c ob q n hc hx) (a.free c ob q n hx) hc hx
  slot := fun c ob q n hc hx => by
    obtain ⟨sl, e1⟩ := a.slot c ob q n hc hx
    obtain ⟨sl', e2⟩ := b.slot c _ e1 (a.free c ob q n hx) hc hx
    exact ⟨sl', e2⟩
  free := fun c ob q n hx => by
    obtain ⟨o', e1⟩ := a.there c ob q hx
    exact b.free c o' e1 (a.free c ob q n hx) hx
  there := fun c ob q hx => by
    obtain ⟨o', e1⟩ := a.there c ob q hx
    exact b.there c o' e1 hx
  tups := fun c xs q => b.tups c xs (a.tups c xs q)
  frzs := fun c ob xs q => b.frzs c ob xs (a.frzs c ob xs q)
  tbls := fun c ps q => by
    obtain ⟨m1, e1⟩ := a.tbls c ps q
    obtain ⟨m2, e2⟩ := b.tbls c _ e1
    exact ⟨m1 ++ m2, by rw [e2, Array.append_assoc]⟩
theorem Un.kept (k : ∀ b u, h.get? b = some u → h'.get? b = some u) : Un fs ex H H h h' :=
  ⟨fun b ob q _ _ _ => k b ob q, fun b ob q _ _ _ => ⟨ob.slots, k b ob q⟩, fun _ _ _ n _ => n, fun b ob q _ => ⟨ob, k b ob q⟩, fun _ _ q => q, fun _ _ _ q => q, fun _ ps q => ⟨#[], by rw [q]; simp⟩⟩
theorem Un.refl : Un fs ex H H h h := Un.kept fun _ _ q => q
theorem Un.laid (k : ∀ b u, h.get? b = some u → h'.get? b = some u) (hp : h.objs.size ≤ a) (hn : H a = none) : Un fs ex H (upd H a o) h h' where
  keep := fun b u q _ _ _ => k b u q
  slot := fun b u q _ _ _ => ⟨u.slots, k b u q⟩
  free := fun b u q n _ => by rw [upd_ne (Nat.ne_of_lt (Nat.lt_of_lt_of_le (Heap.lt_size q) hp))]; exact n
  there := fun b u q _ => ⟨u, k b u q⟩
  tups := fun b xs q => by rw [upd_ne (ne_of_none q hn)]; exact q
  frzs := fun b u xs q => by rw [upd_ne (ne_of_none q hn)]; exact q
  tbls := fun b ps q => ⟨#[], by rw [upd_ne (ne_of_none q hn), q]; simp⟩
theorem Un.write (mu : Mut (H x)) (he : e = x ∨ H e = some (.own x)) (k : ∀ b u, b ≠ e → h.get? b = some u → h'.get? b = some u) (heo : ∃ u, h'.get? e = some u) : Un fs ex H (upd H x o) h h' := by
  have hx : ∀ b, H b = none → b ≠ x := fun b n z => by subst z; rw [n] at mu; exact mu
  have hb : ∀ b, H b = none → b ≠ e := fun b n z => by
    subst z
    rcases he with r | r
    · exact hx b n r
    · rw [n] at r; cases r
  have hm : ∀ b u, H b = some u → ¬ Mut (some u) → b ≠ x := fun b u q nm z => by subst z; rw [q] at mu; exact nm mu
  refine ⟨fun b u q n _ _ => k b u (hb b n) q, fun b u q n _ _ => ⟨u.slots, k b u (hb b n) q⟩, fun b u q n _ => by rw [upd_ne (hx b n)]; exact n, fun b u q _ => ?_,
    fun b xs q => by rw [upd_ne (hm b _ q fun z => z)]; exact q, fun b u xs q => by rw [upd_ne (hm b _ q fun z => z)]; exact q, fun b ps q => ⟨#[], by rw [upd_ne (hm b _ q fun z => z), q]; simp⟩⟩
  by_cases hbe : b = e
  · subst hbe; exact heo
  · exact ⟨u, k b u hbe q⟩
theorem Un.mono (u : Un fs ex H H1 h h1) (hs : ∀ b ∈ fs, b ∈ fs') (hx : ∀ b ∈ ex, b ∈ ex') : Un fs' ex' H H1 h h1 :=
  ⟨fun b ob q n hb he => u.keep b ob q n (fun z => hb (hs b z)) fun z => he (hx b z), fun _ _ q n _ he => u.any q n fun z => he (hx _ z), fun b ob q n he => u.free b ob q n fun z => he (hx b z), fun b ob q he => u.there b ob q fun z => he (hx b z), u.tups, u.frzs, u.tbls⟩
end

/-! ### the heap without what is tracked -/
def trk (h : Heap) (H : Hp) : List Addr := (List.range h.objs.size).filter fun a => (H a).isSome
def hidT (h : Heap) (H : Hp) : Heap := PySem.W.hideAll h (trk h H)
theorem hidT_size (h : Heap) (H : Hp) : (hidT h H).objs.size = h.objs.size := PySem.W.hideAll_size _ _
theorem hidT_get {h : Heap} {H : Hp} {b : Addr} {o : Obj} (e : h.get? b = some o) (n : H b = none) : (hidT h H).get? b = some o :=
  PySem.W.hideAll_get _ e fun hm => by
    have q : (H b).isSome = true := (List.mem_filter.mp hm).2
    rw [n] at q; simp at q
theorem of_hidT {h : Heap} {H : Hp} {b : Addr} {o : Obj} (e : (hidT h H).get? b = some o) : h.get? b = some o ∧ H b = none := by
  have e' : h.get? b = some o := PySem.W.of_hideAll (trk h H) e
  refine ⟨e', ?_⟩
  cases q : H b with
  | none => rfl
  | some x =>
    have hm : b ∈ trk h H := List.mem_filter.mpr ⟨List.mem_range.mpr (Heap.lt_size e'), by simp [q]⟩
    have z : (hidT h H).get? b = none := PySem.W.hideAll_none (trk h H) hm
    rw [z] at e; cases e

/-! ### OpenK's ledger, filled with every new object but one -/
def allNews (g h : Heap) (L : Addr) : List (Addr × Obj) := (List.range h.objs.size).filterMap fun a => if a = L ∨ (g.get? a).isSome = true then none else (h.get? a).map fun o => (a, o)
theorem mem_allNews {g h : Heap} {L a : Addr} {o : Obj} (h1 : a ≠ L) (h2 : g.get? a = none) (h3 : h.get? a = some o) : (a, o) ∈ allNews g h L :=
  List.mem_filterMap.mpr ⟨a, List.mem_range.mpr (Heap.lt_size h3), by simp [h1, h2, h3]⟩
theorem of_mem_allNews {g h : Heap} {L : Addr} {p : Addr × Obj} (hp : p ∈ allNews g h L) : p.1 ≠ L ∧ g.get? p.1 = none ∧ h.get? p.1 = some p.2 := by
  obtain ⟨b, _, e⟩ := List.mem_filterMap.mp hp
  split at e
  · cases e
  · rename_i hn
    cases q : h.get? b with
    | none => rw [q] at e; simp at e
    | some u =>
      rw [q] at e
      simp only [Option.map_some, Option.some.injEq] at e
      subst e
      refine ⟨fun z => hn (.inl z), ?_, q⟩
      show g.get? b = none
      cases r : g.get? b with
      | none => rfl
      | some v => exact (hn (.inr (by simp [r]))).elim
def rest (g h : Heap) (L d : Addr) : List (Addr × Obj) := (allNews g h L).filter fun p => decide (p.1 ≠ d)
theorem rest_ne {g h : Heap} {L d : Addr} : ∀ p ∈ rest g h L d, p.1 ≠ d := fun p hp => of_decide_eq_true (List.mem_filter.mp hp).2
theorem mem_rest {g h : Heap} {L d a : Addr} {o : Obj} (h1 : a ≠ L) (h2 : g.get? a = none) (h3 : h.get? a = some o) (h4 : a ≠ d) : (a, o) ∈ rest g h L d :=
  List.mem_filter.mpr ⟨mem_allNews h1 h2 h3, decide_eq_true h4⟩
theorem news_all {g h : Heap} {L : Addr} : News g L h (allNews g h L) := fun p hp => let ⟨a, b, c⟩ := of_mem_allNews hp; ⟨c, a, b⟩
theorem news_at {g h : Heap} {L d : Addr} {o : Obj} (h1 : d ≠ L) (h2 : g.get? d = none) (h3 : h.get? d = some o) : News g L h ((d, o) :: rest g h L d) := fun p hp => by
  rcases List.mem_cons.mp hp with rfl | hp
  · exact ⟨h3, h1, h2⟩
  · exact news_all p (List.mem_filter.mp hp).1
/-- behind a rule that changed d alone: all else but the frame is kept -/
theorem kept_of_news {g h h' : Heap} {L d : Addr} {m : Str → Option Value} (k : ∀ b o, g.get? b = some o → h.get? b = some o) (F : Fr g L h' m) (N : News g L h' (rest g h L d)) :
    ∀ b o, b ≠ L → b ≠ d → h.get? b = some o → h'.get? b = some o := fun b o h1 h2 e => by
  cases q : g.get? b with
  | some u =>
    have := k b u q
    rw [e] at this; cases this
    exact F.keep b _ q
  | none => exact (N (b, o) (mem_rest h1 q e h2)).1
end L2

namespace L2
open PySem PySem.Spec PyProof.Rows

/-- the module's facts, over the base: the heap at the law's entry without what is tracked there -/
structure Mod (K : PySem.W.Frag) (mg : Str → Option Value) (base : Heap) : Prop where
  kin : K.In base
  glob : base.Ns mainGlobals mg
  blt : ∃ mb, base.Ns builtinsNs mb ∧ ∀ x : Str, x ≠ "__name__" → mb x = bootBuiltins x
  nolimit : base.NoLimit

/-- the context: a def's body (or a comprehension's block) running. base: fixed through the whole law; s₀, H₀: the entry; outer: the frames whose slots others may change (a def's callers); stack: all frames that run;
   ex: iterators that were made ahead of the entry and are walked here (a comprehension's); fn: the names whose cells were made at the entry (a def: all; a comprehension's block: its own); calm: not within an except suite; pn: pins that every state bears; xe: what is wanted of an exception that leaves the code -/
structure Cx where
  prog : Program
  w : World
  K : PySem.W.Frag
  mg : Str → Option Value
  base : Heap
  A : Around
  N : List Str
  s₀ : Shared
  H₀ : Hp
  env : Env
  outer : List Env
  stack : List Env
  ex : List Addr
  fn : Str → Bool
  calm : Bool
  pn : List (Addr × Obj)
  xe : Value → Shared → Prop
/-- the callers' frames -/
def frs (l : List Env) : List Addr := l.filterMap (·.frame)
abbrev Cx.fs (X : Cx) : List Addr := frs X.outer

def Vis (sc : Scope) (x : Str) : Prop := sc.names.lookup x = some .local ∨ sc.names.lookup x = some .cell ∨ sc.names.lookup x = some .free
def Loc (sc : Scope) (x : Str) : Prop := sc.names.lookup x = some .local ∨ sc.names.lookup x = some .cell
def Look (env : Env) (h : Heap) (m : Str → Option Value) (x : Str) (u : Value) : Prop :=
  (env.kindOf x = some .local ∧ m x = some u) ∨ ((env.kindOf x = some .cell ∨ env.kindOf x = some .free) ∧ ∃ c, env.cells.lookup x = some c ∧ h.IsCell c (some u))

structure Cx.Ok (X : Cx) : Prop where
  mod : Mod X.K X.mg X.base
  kind : X.env.scope.kind = .function
  glob : X.env.globals = mainGlobals
  blt : X.env.builtins = builtinsNs
  above : X.s₀.heap.objs.size ≤ X.env.locals
  inj : ∀ x y c, X.env.cells.lookup x = some c → X.env.cells.lookup y = some c → x = y
  has : ∀ x, (X.env.kindOf x = some .cell ∨ X.env.kindOf x = some .free) → ∃ c, X.env.cells.lookup x = some c
  cab : ∀ x c, X.fn x = true → X.env.cells.lookup x = some c → X.s₀.heap.objs.size ≤ c
  hd : X.calm = true → X.A.handled = none
  frames : X.A.frames = some X.stack
  stk : X.stack = X.outer ∨ (X.stack = X.env :: X.outer ∧ X.env.frame = some X.env.locals)
  exf : ∀ b ∈ X.ex, b ≠ X.env.locals ∧ ∀ x c, X.env.cells.lookup x = some c → c ≠ b
  bs : ∀ b o, X.base.get? b = some o → X.s₀.heap.get? b = some o ∧ X.H₀ b = none
  bsz : X.base.objs.size ≤ X.s₀.heap.objs.size
  noex : ∀ b o, X.base.get? b = some o → b ∉ X.ex
  exfs : ∀ b ∈ X.ex, b ∉ X.fs
  funs : X.s₀.heap.FunFrames X.base X.outer
  frf : ∀ b ∈ X.fs, X.H₀ b = none

structure Inv (X : Cx) (pins : List (Addr × Obj)) (σ : List (Option V)) (H : Hp) (s : Shared) : Prop where
  ok : X.Ok
  os : s.os = X.s₀.os
  bare : AllBare s.gens
  base : Un X.fs X.ex X.H₀ H X.s₀.heap s.heap
  loc : ∃ m, s.heap.Ns X.env.locals m ∧ ∀ (i : Nat) (x : Str) (v : V), X.N[i]? = some x → σ[i]? = some (some v) → Vis X.env.scope x → ∃ u, RelV v u ∧ Look X.env s.heap m x u
  cell : ∀ x c, X.env.cells.lookup x = some c → ∃ v, s.heap.IsCell c v
  free : H X.env.locals = none
  freeC : ∀ x c, X.env.cells.lookup x = some c → H c = none
  pin : ∀ p ∈ X.pn ++ pins, s.heap.get? p.1 = some p.2 ∧ H p.1 = none ∧ p.1 ≠ X.env.locals ∧ p.1 ∉ X.fs ∧ ∀ v, p.2.data ≠ .cell v
  hok : HOk X.prog X.w H s.heap
  len : σ.length = X.N.length

section
variable {X : Cx} {pins : List (Addr × Obj)} {σ : List (Option V)} {H H' : Hp} {s : Shared} {h' : Heap}

theorem Cx.Ok.nofr (ok : X.Ok) {b : Addr} {o : Obj} (e : X.base.get? b = some o) : b ∉ X.fs := fun hb => by
  have := (ok.funs.mem hb).1
  rw [e] at this; cases this
theorem Inv.bs (I : Inv X pins σ H s) : ∀ b o, X.base.get? b = some o → s.heap.get? b = some o ∧ H b = none := fun b o e =>
  ⟨I.base.keep b o (I.ok.bs b o e).1 (I.ok.bs b o e).2 (I.ok.nofr e) (I.ok.noex b o e), I.base.free b o (I.ok.bs b o e).1 (I.ok.bs b o e).2 (I.ok.noex b o e)⟩
theorem Inv.bk (I : Inv X pins σ H s) : ∀ b o, X.base.get? b = some o → s.heap.get? b = some o := fun b o e => (I.bs b o e).1
theorem Inv.mod (I : Inv X pins σ H s) : Mod X.K X.mg X.base := I.ok.mod
theorem Inv.kIn (I : Inv X pins σ H s) : X.K.In s.heap := I.ok.mod.kin.keeps I.bk
theorem Inv.nolimit (I : Inv X pins σ H s) : s.heap.NoLimit := I.ok.mod.nolimit.keeps I.bk
/-- the frame over the base: for OpenK's rules (K.In X.base is I.mod.kin) -/
theorem Inv.fr (I : Inv X pins σ H s) : ∃ m, Fr X.base X.env.locals s.heap m :=
  let ⟨m, hn, _⟩ := I.loc
  ⟨m, hn, I.bk, Nat.le_trans I.ok.bsz I.ok.above⟩
theorem Inv.lt (I : Inv X pins σ H s) : X.env.locals < s.heap.objs.size := let ⟨_, hn, _⟩ := I.loc; hn.lt
theorem Inv.sz (I : Inv X pins σ H s) : X.s₀.heap.objs.size ≤ s.heap.objs.size := Nat.le_trans I.ok.above (Nat.le_of_lt I.lt)
theorem Inv.nofs (I : Inv X pins σ H s) {a : Addr} (h : s.heap.objs.size ≤ a) : a ∉ X.fs := fun hb => by
  obtain ⟨_, o, ho, _⟩ := I.ok.funs.mem hb
  exact absurd (Nat.lt_of_lt_of_le (Heap.lt_size ho) (Nat.le_trans I.sz h)) (Nat.lt_irrefl _)
theorem Inv.cne (I : Inv X pins σ H s) : ∀ x c, X.env.cells.lookup x = some c → c ≠ X.env.locals := fun x c e z => by
  obtain ⟨v, o, ho, hd⟩ := I.cell x c e
  obtain ⟨m, ⟨o', es, ep, ho', hd', _⟩, _⟩ := I.loc
  rw [z, ho'] at ho; cases ho; rw [hd'] at hd; cases hd
theorem Inv.funs (I : Inv X pins σ H s) : s.heap.FunFrames X.base X.outer := by
  have all : ∀ (l : List Env), (∀ b ∈ frs l, b ∈ X.fs) → X.s₀.heap.FunFrames X.base l → s.heap.FunFrames X.base l := by
    intro l
    induction l with
    | nil => intro _ _; trivial
    | cons env r ih =>
      intro hs hl
      obtain ⟨hk, ⟨L, o, hf, hn, ho, hd⟩, hr⟩ := hl
      have hL : L ∈ X.fs := hs L (by unfold frs; rw [List.filterMap_cons, hf]; exact List.mem_cons_self)
      obtain ⟨sl, e⟩ := I.base.slot L o ho (I.ok.frf L hL) hL fun z => I.ok.exfs L z hL
      exact ⟨hk, ⟨L, _, hf, hn, e, hd⟩, ih (fun b hb => hs b (by unfold frs; rw [List.filterMap_cons, hf]; exact List.mem_cons_of_mem _ hb)) hr⟩
  exact all X.outer (fun _ hb => hb) I.ok.funs

/-- the frames that run, for a call -/
theorem Inv.stack (I : Inv X pins σ H s) : s.heap.FunFrames X.base X.stack := by
  rcases I.ok.stk with e | ⟨e, hf⟩
  · rw [e]; exact I.funs
  · rw [e]
    obtain ⟨m, hn, _⟩ := I.loc
    refine .cons (by rw [I.ok.kind]; decide) hf hn ?_ I.funs
    exact Heap.get?_none_of_le (Nat.le_trans I.ok.bsz I.ok.above)
theorem Inv.stkSub (I : Inv X pins σ H s) : ∀ b ∈ frs X.stack, b ∈ X.env.locals :: X.fs := fun b hb => by
  rcases I.ok.stk with e | ⟨e, hf⟩
  · rw [e] at hb; exact List.mem_cons_of_mem _ hb
  · rw [e] at hb
    unfold frs at hb
    rw [List.filterMap_cons, hf] at hb
    exact hb
theorem Inv.stkFree (I : Inv X pins σ H s) : ∀ b ∈ frs X.stack, H b = none := fun b hb => by
  rcases List.mem_cons.mp (I.stkSub b hb) with e | hb
  · rw [e]; exact I.free
  · obtain ⟨_, o, ho, _⟩ := I.ok.funs.mem hb
    exact I.base.free b o ho (I.ok.frf b hb) fun z => I.ok.exfs b z hb

/-- THE STEP: the untracked objects but the frame and the records at ch are kept (the callers' frames up to slots), the frame's map is kept, the new abstract heap is held -/
theorem Inv.step {g' : Array GenState} {t' : Nat} {d' : Drawn} {ch : List Addr} (I : Inv X pins σ H s)
    (hch : ∀ b ∈ ch, (b ∈ X.ex ∨ X.s₀.heap.objs.size ≤ b) ∧ b ≠ X.env.locals ∧ (∀ x c, X.env.cells.lookup x = some c → c ≠ b) ∧ ∀ p ∈ X.pn ++ pins, p.1 ≠ b)
    (keep : ∀ b o, b ≠ X.env.locals → b ∉ X.fs → b ∉ ch → s.heap.get? b = some o → H b = none → h'.get? b = some o)
    (slot : ∀ b o, b ≠ X.env.locals → b ∈ X.fs → b ∉ ch → s.heap.get? b = some o → H b = none → ∃ sl, h'.get? b = some { o with slots := sl }) (free : ∀ b o, b ∉ ch → s.heap.get? b = some o → H b = none → H' b = none)
    (there : ∀ b o, b ∉ ch → s.heap.get? b = some o → ∃ o', h'.get? b = some o')
    (tups : ∀ b xs, H b = some (.tup xs) → H' b = some (.tup xs)) (frzs : ∀ b o u, H b = some (.frz o u) → H' b = some (.frz o u)) (tbls : ∀ b ps, H b = some (.tbl ps) → ∃ more, H' b = some (.tbl (ps ++ more)))
    (ns : ∀ m, s.heap.Ns X.env.locals m → h'.Ns X.env.locals m) (hok : HOk X.prog X.w H' h') (hg : AllBare g') :
    Inv X pins σ H' { s with heap := h', gens := g', drawn := d', toks := t' } := by
  have neL : ∀ b o, X.s₀.heap.get? b = some o → b ≠ X.env.locals := fun b o e => Nat.ne_of_lt (Nat.lt_of_lt_of_le (Heap.lt_size e) I.ok.above)
  have neC : ∀ b o, X.s₀.heap.get? b = some o → b ∉ X.ex → b ∉ ch := fun b o e hx hb => by
    rcases (hch b hb).1 with z | z
    · exact hx z
    · exact absurd (Nat.lt_of_lt_of_le (Heap.lt_size e) z) (Nat.lt_irrefl _)
  have cellK : ∀ x c, X.env.cells.lookup x = some c → ∀ v, s.heap.IsCell c v → h'.IsCell c v := fun x c e v ⟨o, ho, hd⟩ => by
    have nch : c ∉ ch := fun z => (hch c z).2.2.1 x c e rfl
    by_cases hc : c ∈ X.fs
    · obtain ⟨sl, q⟩ := slot c o (I.cne x c e) hc nch ho (I.freeC x c e)
      exact ⟨_, q, hd⟩
    · exact ⟨o, keep c o (I.cne x c e) hc nch ho (I.freeC x c e), hd⟩
  refine ⟨I.ok, I.os, hg, ⟨fun b o e n hb hx => ?_, fun b o e n hb hx => ?_, fun b o e n hx => ?_, fun b o e hx => ?_, fun b xs e => tups b xs (I.base.tups b xs e), fun b o xs e => frzs b o xs (I.base.frzs b o xs e), fun b ps e => ?_⟩, ?_, fun x c e => ?_, ?_, fun x c e => ?_, fun p hp => ?_, hok, I.len⟩
  · exact keep b o (neL b o e) hb (neC b o e hx) (I.base.keep b o e n hb hx) (I.base.free b o e n hx)
  · obtain ⟨sl, e1⟩ := I.base.slot b o e n hb hx
    obtain ⟨sl', e2⟩ := slot b _ (neL b o e) hb (neC b o e hx) e1 (I.base.free b o e n hx)
    exact ⟨sl', e2⟩
  · obtain ⟨o', e1⟩ := I.base.there b o e hx
    exact free b o' (neC b o e hx) e1 (I.base.free b o e n hx)
  · obtain ⟨o', e1⟩ := I.base.there b o e hx
    exact there b o' (neC b o e hx) e1
  · obtain ⟨m1, e1⟩ := I.base.tbls b ps e
    obtain ⟨m2, e2⟩ := tbls b _ e1
    exact ⟨m1 ++ m2, by rw [e2, Array.append_assoc]⟩
  · obtain ⟨m, hn, hl⟩ := I.loc
    refine ⟨m, ns m hn, fun i x v e1 e2 e3 => ?_⟩
    obtain ⟨u, r, l⟩ := hl i x v e1 e2 e3
    refine ⟨u, r, ?_⟩
    rcases l with l | ⟨k, c, e, z⟩
    · exact .inl l
    · exact .inr ⟨k, c, e, cellK x c e _ z⟩
  · obtain ⟨v, z⟩ := I.cell x c e
    exact ⟨v, cellK x c e v z⟩
  · obtain ⟨m, ⟨o, _, _, ho, _⟩, _⟩ := I.loc
    exact free _ o (fun z => (hch _ z).2.1 rfl) ho I.free
  · obtain ⟨v, o, ho, hd⟩ := I.cell x c e
    exact free c o (fun z => (hch c z).2.2.1 x c e rfl) ho (I.freeC x c e)
  · obtain ⟨e, n, ne, nf, d⟩ := I.pin p hp
    have nch : p.1 ∉ ch := fun z => (hch p.1 z).2.2.2 p hp rfl
    exact ⟨keep p.1 p.2 ne nf nch e n, free p.1 p.2 nch e n, ne, nf, d⟩
/-- .. where the frame's own object is kept too -/
theorem Inv.un {t' : Nat} (I : Inv X pins σ H s) (u : Un X.fs [] H H' s.heap h') (hok : HOk X.prog X.w H' h') : Inv X pins σ H' { s with heap := h', toks := t' } := by
  obtain ⟨m, ⟨o, es, ep, ho, r⟩, _⟩ := id I.loc
  obtain ⟨sl, hL⟩ := u.any ho I.free (by simp)
  exact I.step (g' := s.gens) (d' := s.drawn) (ch := []) (fun _ z => nomatch z) (fun b o _ hb _ e n => u.keep b o e n hb (by simp)) (fun b o _ hb _ e n => u.slot b o e n hb (by simp)) (fun b o _ e n => u.free b o e n (by simp)) (fun b o _ e => u.there b o e (by simp)) u.tups u.frzs u.tbls (fun m' hm => by
    obtain ⟨o', es', ep', ho', r'⟩ := hm
    rw [ho] at ho'; cases ho'
    exact ⟨_, es', ep', hL, r'⟩) hok I.bare
/-- behind a call (or a comprehension's block): the slots of this frame may have changed too, the records at ch may have turned -/
theorem Inv.call {g' : Array GenState} {t' : Nat} {d' : Drawn} {ch : List Addr} (I : Inv X pins σ H s) (u : Un (frs X.stack) ch H H' s.heap h') (hok : HOk X.prog X.w H' h') (hg : AllBare g')
    (hch : ∀ b ∈ ch, (b ∈ X.ex ∨ X.s₀.heap.objs.size ≤ b) ∧ b ≠ X.env.locals ∧ (∀ x c, X.env.cells.lookup x = some c → c ≠ b) ∧ ∀ p ∈ X.pn ++ pins, p.1 ≠ b) :
    Inv X pins σ H' { s with heap := h', gens := g', drawn := d', toks := t' } := by
  obtain ⟨m, ⟨o, es, ep, ho, r⟩, _⟩ := id I.loc
  obtain ⟨sl, hL⟩ := u.any ho I.free fun z => (hch _ z).2.1 rfl
  exact I.step (ch := ch) hch (fun b o hL hb hc e n => u.keep b o e n (fun z => (List.mem_cons.mp (I.stkSub b z)).elim hL hb) hc) (fun b o _ _ hc e n => u.any e n hc) (fun b o hc e n => u.free b o e n hc) (fun b o hc e => u.there b o e hc) u.tups u.frzs u.tbls (fun m' hm => by
    obtain ⟨o', es', ep', ho', r'⟩ := hm
    rw [ho] at ho'; cases ho'
    exact ⟨_, es', ep', hL, r'⟩) hok hg
/-- an untracked record of ours (an iterator) has turned -/
theorem Inv.turned {t' : Nat} {it : Addr} (I : Inv X pins σ H s) (k : ∀ b o, b ≠ it → s.heap.get? b = some o → h'.get? b = some o) (hn : H it = none) (hL : it ≠ X.env.locals)
    (h1 : it ∈ X.ex ∨ X.s₀.heap.objs.size ≤ it) (h2 : ∀ x c, X.env.cells.lookup x = some c → c ≠ it) (h3 : ∀ p ∈ X.pn ++ pins, p.1 ≠ it) : Inv X pins σ H { s with heap := h', toks := t' } := by
  have nit : ∀ b u, H b = some u → b ≠ it := fun b u e z => by rw [z, hn] at e; cases e
  refine I.step (g' := s.gens) (d' := s.drawn) (ch := [it]) (fun b hb => ?_) (fun b o _ _ hc e _ => k b o (fun z => hc (by simp [z])) e) (fun b o _ _ hc e _ => ⟨o.slots, k b o (fun z => hc (by simp [z])) e⟩) (fun _ _ _ _ n => n)
    (fun b o hc e => ⟨o, k b o (fun z => hc (by simp [z])) e⟩) (fun _ _ e => e) (fun _ _ _ e => e) (fun b ps e => ⟨#[], by rw [e]; simp⟩) (fun m hm => ?_) (fun b u e => ?_) I.bare
  · have e : b = it := by simpa using hb
    subst e
    exact ⟨h1, hL, h2, h3⟩
  · obtain ⟨o, es, ep, ho, r⟩ := hm
    exact ⟨o, es, ep, k _ o (Ne.symm hL) ho, r⟩
  · refine (I.hok b u e).stay (fun c v hc q => k c v ?_ q) (fun _ q => q) fun _ _ q => q
    rcases hc with z | z
    · rw [z]; exact nit b u e
    · exact nit c _ z
theorem Inv.tok (I : Inv X pins σ H s) (t : Nat) : Inv X pins σ H { s with toks := t } := I.un (h' := s.heap) (t' := t) Un.refl I.hok
/-- all objects kept -/
theorem Inv.kept {t' : Nat} (I : Inv X pins σ H s) (k : ∀ b u, s.heap.get? b = some u → h'.get? b = some u) : Inv X pins σ H { s with heap := h', toks := t' } := I.un (Un.kept k) (I.hok.kept k)
/-- a new object laid and tracked -/
theorem Inv.laid {a : Addr} {o : HO} {t' : Nat} (I : Inv X pins σ H s) (k : ∀ b u, s.heap.get? b = some u → h'.get? b = some u) (hp : s.heap.objs.size ≤ a) (new : ObjOk X.prog X.w (upd H a o) h' a o) :
    Inv X pins σ (upd H a o) { s with heap := h', toks := t' } := I.un (Un.laid k hp (I.hok.fresh hp)) (I.hok.laid k hp new)
/-- an object written -/
theorem Inv.write {x e : Addr} {o : HO} {t' : Nat} (I : Inv X pins σ H s) (mu : Mut (H x)) (he : e = x ∨ H e = some (.own x)) (k : ∀ b u, b ≠ e → s.heap.get? b = some u → h'.get? b = some u) (heo : ∃ u, h'.get? e = some u)
    (new : ObjOk X.prog X.w (upd H x o) h' x o) : Inv X pins σ (upd H x o) { s with heap := h', toks := t' } := I.un (Un.write mu he k heo) (I.hok.write mu he k heo new)
/-- forgetting slots, pins -/
theorem Inv.weak {σ' : List (Option V)} (I : Inv X pins σ H s) (hl : σ'.length = σ.length) (w : ∀ (i : Nat) v, σ'[i]? = some (some v) → σ[i]? = some (some v)) : Inv X pins σ' H s :=
  ⟨I.ok, I.os, I.bare, I.base, let ⟨m, hn, hl'⟩ := I.loc; ⟨m, hn, fun i x v e1 e2 e3 => hl' i x v e1 (w i v e2) e3⟩, I.cell, I.free, I.freeC, I.pin, I.hok, hl.trans I.len⟩
theorem Inv.pins_of {pins' : List (Addr × Obj)} (I : Inv X pins σ H s) (h : ∀ p ∈ pins', s.heap.get? p.1 = some p.2 ∧ H p.1 = none ∧ p.1 ≠ X.env.locals ∧ p.1 ∉ X.fs ∧ ∀ v, p.2.data ≠ .cell v) : Inv X pins' σ H s :=
  ⟨I.ok, I.os, I.bare, I.base, I.loc, I.cell, I.free, I.freeC, fun p hp => (List.mem_append.mp hp).elim (fun z => I.pin p (List.mem_append_left _ z)) (h p), I.hok, I.len⟩

theorem nodup_ix {N : List Str} (hN : N.Nodup) {i j : Nat} {x : Str} (a : N[i]? = some x) (b : N[j]? = some x) : i = j := by
  obtain ⟨h1, e1⟩ := List.getElem?_eq_some_iff.mp a
  obtain ⟨h2, e2⟩ := List.getElem?_eq_some_iff.mp b
  exact (List.getElem_inj hN).mp (e1.trans e2.symm)

/-- a name is stored; what changed -/
theorem store_ok2 {M : Model} {A : Around} {E : Value → Shared → Prop} {i : Nat} {x : Str} {v : V} {u : Value} {Q : Unit → Shared → Prop} (I : Inv X pins σ H s) (hN : X.N.Nodup) (hi : X.N[i]? = some x) (hx : Loc X.env.scope x) (r : RelV v u)
    (h : ∀ s', Inv X pins (σ.set i (some v)) H s' → (∃ a, Heap.SameBut a s.heap s'.heap ∧ (a = X.env.locals ∨ X.env.cells.lookup x = some a)) → Q () s') (hf : X.fn x = true ∨ X.env.scope.names.lookup x = some .local := by first | exact .inl rfl | exact .inr rfl | assumption) : wpAny M A (storeName X.env x u) Q E s := by
  obtain ⟨m, hn, hl⟩ := id I.loc
  have hcls : (X.env.scope.kind == .class || (X.env.scope.kind == .module && X.env.locals != X.env.globals)) = false := by rw [I.ok.kind]; rfl
  have hiσ : i < σ.length := by rw [I.len]; exact (List.getElem?_eq_some_iff.mp hi).1
  have cne := I.cne
  have tracked : ∀ {a : Addr} {h' : Heap}, (∃ o, s.heap.get? a = some o ∧ H a = none) → Heap.SameBut a s.heap h' → HOk X.prog X.w H h' := fun {a h'} ha hs b ob e => by
    obtain ⟨_, _, hfree⟩ := ha
    refine (I.hok b ob e).stay (fun c w' hc q => (hs.2 c ?_).trans q) (fun _ q => q) fun _ _ q => q
    rintro rfl
    rcases hc with rfl | hc
    · rw [hfree] at e; cases e
    · rw [hfree] at hc; cases hc
  rcases hx with hk | hk
  · refine wpAny_storeName_local hk hn (fun h' hn' hs => ?_) hcls
    obtain ⟨oL, _, _, hoL, _⟩ := id hn
    refine h _ ⟨I.ok, I.os, I.bare, ⟨fun b o e n hb hx => ?_, fun b o e n hb hx => ?_, I.base.free, fun b o e hx => ?_, I.base.tups, I.base.frzs, I.base.tbls⟩, ⟨_, hn', fun j y v' e1 e2 e3 => ?_⟩, fun y c e => ?_, I.free, I.freeC, fun p hp => ?_, tracked ⟨oL, hoL, I.free⟩ hs, by simpa using I.len⟩ ⟨_, hs, .inl rfl⟩
    · exact (hs.2 b (Nat.ne_of_lt (Nat.lt_of_lt_of_le (Heap.lt_size e) I.ok.above))).trans (I.base.keep b o e n hb hx)
    · obtain ⟨sl, e1⟩ := I.base.slot b o e n hb hx
      exact ⟨sl, (hs.2 b (Nat.ne_of_lt (Nat.lt_of_lt_of_le (Heap.lt_size e) I.ok.above))).trans e1⟩
    · obtain ⟨o', e1⟩ := I.base.there b o e hx
      exact ⟨o', (hs.2 b (Nat.ne_of_lt (Nat.lt_of_lt_of_le (Heap.lt_size e) I.ok.above))).trans e1⟩
    · by_cases hj : j = i
      · subst hj
        rw [hi] at e1; cases e1
        rw [List.getElem?_set_self hiσ] at e2
        cases e2
        exact ⟨u, r, .inl ⟨hk, by simp⟩⟩
      · rw [List.getElem?_set_ne (Ne.symm hj)] at e2
        obtain ⟨u', r', q⟩ := hl j y v' e1 e2 e3
        refine ⟨u', r', ?_⟩
        rcases q with ⟨k, e⟩ | ⟨k, c, e, z⟩
        · refine .inl ⟨k, ?_⟩
          have : y ≠ x := fun e => hj (nodup_ix hN e1 (e ▸ hi))
          simp [this, e]
        · exact .inr ⟨k, c, e, z.sameBut hs (cne y c e)⟩
    · obtain ⟨w', z⟩ := I.cell y c e
      exact ⟨w', z.sameBut hs (cne y c e)⟩
    · obtain ⟨e, n, ne, nf, d⟩ := I.pin p hp
      exact ⟨(hs.2 p.1 ne).trans e, n, ne, nf, d⟩
  · have hfn : X.fn x = true := by
      rcases hf with z | z
      · exact z
      · rw [z] at hk; cases hk
    obtain ⟨c, hc⟩ := I.ok.has x (.inl hk)
    obtain ⟨w', z⟩ := I.cell x c hc
    refine wpAny_storeName_cell I.ok.kind hk hc z (fun h' hc' hs => ?_)
    obtain ⟨oc, hoc, hocd⟩ := id z
    refine h { s with heap := h' } ⟨I.ok, I.os, I.bare, ⟨fun b o e n hb hx => ?_, fun b o e n hb hx => ?_, I.base.free, fun b o e hx => ?_, I.base.tups, I.base.frzs, I.base.tbls⟩, ⟨m, hn.sameBut hs (Ne.symm (cne x c hc)), fun j y v' e1 e2 e3 => ?_⟩, fun y c' e => ?_, I.free, I.freeC, fun p hp => ?_, tracked ⟨oc, hoc, I.freeC x c hc⟩ hs, by simpa using I.len⟩ ⟨c, hs, .inr hc⟩
    · exact (hs.2 b (Nat.ne_of_lt (Nat.lt_of_lt_of_le (Heap.lt_size e) (I.ok.cab x c hfn hc)))).trans (I.base.keep b o e n hb hx)
    · obtain ⟨sl, e1⟩ := I.base.slot b o e n hb hx
      exact ⟨sl, (hs.2 b (Nat.ne_of_lt (Nat.lt_of_lt_of_le (Heap.lt_size e) (I.ok.cab x c hfn hc)))).trans e1⟩
    · obtain ⟨o', e1⟩ := I.base.there b o e hx
      exact ⟨o', (hs.2 b (Nat.ne_of_lt (Nat.lt_of_lt_of_le (Heap.lt_size e) (I.ok.cab x c hfn hc)))).trans e1⟩
    · by_cases hj : j = i
      · subst hj
        rw [hi] at e1; cases e1
        rw [List.getElem?_set_self hiσ] at e2
        cases e2
        exact ⟨u, r, .inr ⟨.inl hk, c, hc, hc'⟩⟩
      · rw [List.getElem?_set_ne (Ne.symm hj)] at e2
        obtain ⟨u', r', q⟩ := hl j y v' e1 e2 e3
        refine ⟨u', r', ?_⟩
        rcases q with q | ⟨k, c', e, z'⟩
        · exact .inl q
        · refine .inr ⟨k, c', e, z'.sameBut hs ?_⟩
          rintro rfl
          exact hj (nodup_ix hN e1 (I.ok.inj _ _ _ e hc ▸ hi))
    · by_cases hcc : c' = c
      · subst hcc; exact ⟨_, hc'⟩
      · obtain ⟨w2, z2⟩ := I.cell y c' e
        exact ⟨w2, z2.sameBut hs hcc⟩
    · obtain ⟨e, n, ne, nf, d⟩ := I.pin p hp
      refine ⟨(hs.2 p.1 ?_).trans e, n, ne, nf, d⟩
      intro q
      rw [q, hoc] at e
      have q' : oc = p.2 := Option.some.inj e
      exact d w' (by rw [← q']; exact hocd)
theorem store_ok {M : Model} {A : Around} {E : Value → Shared → Prop} {i : Nat} {x : Str} {v : V} {u : Value} {Q : Unit → Shared → Prop} (I : Inv X pins σ H s) (hN : X.N.Nodup) (hi : X.N[i]? = some x) (hx : Loc X.env.scope x) (r : RelV v u)
    (h : ∀ s', Inv X pins (σ.set i (some v)) H s' → Q () s') (hf : X.fn x = true ∨ X.env.scope.names.lookup x = some .local := by first | exact .inl rfl | exact .inr rfl | assumption) : wpAny M A (storeName X.env x u) Q E s :=
  store_ok2 I hN hi hx r (fun s' I' _ => h s' I') hf
/-- behind a call or a block, the state as it is -/
theorem Inv.call' {s' : Shared} {ch : List Addr} (I : Inv X pins σ H s) (ho : s'.os = s.os) (u : Un (frs X.stack) ch H H' s.heap s'.heap) (hok : HOk X.prog X.w H' s'.heap) (hg : AllBare s'.gens)
    (hch : ∀ b ∈ ch, (b ∈ X.ex ∨ X.s₀.heap.objs.size ≤ b) ∧ b ≠ X.env.locals ∧ (∀ x c, X.env.cells.lookup x = some c → c ≠ b) ∧ ∀ p ∈ X.pn ++ pins, p.1 ≠ b) : Inv X pins σ H' s' := by
  obtain ⟨h', g', d', t', o'⟩ := s'
  have e : o' = s.os := ho
  subst e
  exact I.call (g' := g') (t' := t') (d' := d') u hok hg hch
end

/-! ### the judgements -/
/-- an exception: its class, its own dict's address (where it has one), the abstract heap behind it -/
abbrev XK := Value → Option Addr → Hp → Prop
abbrev St := List (Option V)
abbrev VK := V → Hp → Prop
/-- an expression's reading; a test's; an argument list's -/
abbrev TE := St → Hp → VK → Prop
abbrev TT := St → Hp → (Bool → Hp → Prop) → Prop
abbrev TA := St → Hp → (List V → Hp → Prop) → Prop
/-- what is wanted behind a statement -/
structure Ends where
  nx : St → Hp → Prop
  rt : VK
  bk : St → Hp → Prop := fun _ _ => False
  ct : St → Hp → Prop := fun _ _ => False
abbrev TS := Ends → St → Hp → Prop

def EP (X : Cx) (pins : List (Addr × Obj)) (σ : St) (Q : VK) (u : Value) (s' : Shared) : Prop := ∃ v H', Inv X pins σ H' s' ∧ RelV v u ∧ Q v H'
def TP (X : Cx) (pins : List (Addr × Obj)) (σ : St) (Q : Bool → Hp → Prop) (b : Bool) (s' : Shared) : Prop := ∃ H', Inv X pins σ H' s' ∧ Q b H'
def AP (X : Cx) (pins : List (Addr × Obj)) (σ : St) (Q : List V → Hp → Prop) (us : List Value) (s' : Shared) : Prop := ∃ vs H', Inv X pins σ H' s' ∧ Vals vs us ∧ Q vs H'
def SP (X : Cx) (pins : List (Addr × Obj)) (D : Ends) (f : Flow) (s' : Shared) : Prop :=
  match f with
  | .next => ∃ σ' H', Inv X pins σ' H' s' ∧ D.nx σ' H'
  | .brk => ∃ σ' H', Inv X pins σ' H' s' ∧ D.bk σ' H'
  | .cont => ∃ σ' H', Inv X pins σ' H' s' ∧ D.ct σ' H'
  | .ret u => ∃ v σ' H', Inv X pins σ' H' s' ∧ RelV v u ∧ D.rt v H'

def PE (X : Cx) (e : Expr) (t : TE) : Prop :=
  ∀ (pins : List (Addr × Obj)) (s : Shared) (σ : St) (H : Hp) (Q : VK), Inv X pins σ H s → t σ H Q → wpAny (model X.prog X.w) X.A (eval e X.env) (EP X pins σ Q) X.xe s
def PT (X : Cx) (e : Expr) (t : TT) : Prop :=
  ∀ (pins : List (Addr × Obj)) (s : Shared) (σ : St) (H : Hp) (Q : Bool → Hp → Prop), Inv X pins σ H s → t σ H Q → wpAny (model X.prog X.w) X.A (isTrue e X.env (eval e X.env)) (TP X pins σ Q) X.xe s
/-- a test whatever its 'whole' is (and, or) -/
def PW (X : Cx) (e : Expr) (t : TT) : Prop :=
  ∀ (whole : Sem Value) (pins : List (Addr × Obj)) (s : Shared) (σ : St) (H : Hp) (Q : Bool → Hp → Prop), Inv X pins σ H s → t σ H Q → wpAny (model X.prog X.w) X.A (isTrue e X.env whole) (TP X pins σ Q) X.xe s
theorem PW.pt {X : Cx} {e : Expr} {t : TT} (h : PW X e t) : PT X e t := h _
/-- an argument list (no star), from the left -/
def PA (X : Cx) (es : List Expr) (t : TA) : Prop :=
  ∀ (pos : Pos) (pins : List (Addr × Obj)) (s : Shared) (σ : St) (H : Hp) (Q : List V → Hp → Prop), Inv X pins σ H s → t σ H Q → wpAny (model X.prog X.w) X.A (spliced (backTo pos (starEach es X.env))) (AP X pins σ Q) X.xe s
def PS (X : Cx) (st : Stmt) (t : TS) : Prop :=
  ∀ (pins : List (Addr × Obj)) (s : Shared) (σ : St) (H : Hp) (D : Ends), Inv X pins σ H s → t D σ H → wpAny (model X.prog X.w) X.A (exec st X.env) (SP X pins D) X.xe s
def PSs (X : Cx) (st : List Stmt) (t : TS) : Prop :=
  ∀ (pins : List (Addr × Obj)) (s : Shared) (σ : St) (H : Hp) (D : Ends), Inv X pins σ H s → t D σ H → wpAny (model X.prog X.w) X.A (execs st X.env) (SP X pins D) X.xe s
/-- weaken the end -/
theorem thn {α : Type} {t : Sem α} {Q Q' : α → Shared → Prop} {M : Model} {A : Around} {E : Value → Shared → Prop} {s : Shared} (h : wpAny M A t Q E s) (hQ : ∀ a s, Q a s → Q' a s) : wpAny M A t Q' E s := wpAny_mono h hQ fun _ _ x => x
end L2

namespace L2
open PySem PySem.Spec PyProof.Rows
section
variable {X : Cx}

/-- two expressions in a row -/
theorem bin {a b : Expr} {ta tb : TE} (ha : PE X a ta) (hb : PE X b tb) {pins : List (Addr × Obj)} {s : Shared} {σ : St} {H : Hp} {R : V → V → Hp → Prop} (I : Inv X pins σ H s) (h : ta σ H fun x H1 => tb σ H1 fun y H2 => R x y H2)
    {α : Type} {Q : α → Shared → Prop} {f : Value → Value → Sem α}
    (hf : ∀ v u s2 x y H2, Inv X pins σ H2 s2 → RelV x v → RelV y u → R x y H2 → wpAny (model X.prog X.w) X.A (f v u) Q X.xe s2) :
    wpAny (model X.prog X.w) X.A (eval a X.env) (fun v s₁ => wpAny (model X.prog X.w) X.A (eval b X.env) (fun u s₂ => wpAny (model X.prog X.w) X.A (f v u) Q X.xe s₂) X.xe s₁) X.xe s := by
  refine thn (ha pins s σ H _ I h) fun v s1 ⟨x, H1, I1, r1, q1⟩ => ?_
  refine thn (hb pins s1 σ H1 _ I1 q1) fun u s2 ⟨y, H2, I2, r2, q2⟩ => ?_
  exact hf v u s2 x y H2 I2 r1 r2 q2

/-! ### names and constants -/
def tVar (i : Nat) : TE := fun σ H Q => ∃ v, σ[i]? = some (some v) ∧ Q v H
def tC (v : V) : TE := fun _ H Q => Q v H
theorem pe_var {i : Nat} {x : Str} {pos : Pos} (hN : X.N[i]? = some x) (hv : Vis X.env.scope x) (hd : (x == ("__debug__" : Str)) = false := by decide) (hcd : (x == ("__classdict__" : Str)) = false := by decide) : PE X (.Name x pos) (tVar i) := by
  intro pins s σ H Q I h
  obtain ⟨v, e, h⟩ := h
  obtain ⟨m, hn, hl⟩ := I.loc
  obtain ⟨u, r, l⟩ := hl i x v hN e hv
  have fin : EP X pins σ Q u s := ⟨v, H, I, r, h⟩
  rcases l with ⟨hk, hm⟩ | ⟨hk, c, hc, hcell⟩
  · exact wpAny_Name (wpAny_loadName_local I.ok.kind hk hn hm fin) hd
  · rcases hk with hk | hk
    · exact wpAny_Name (wpAny_loadName_cell I.ok.kind hk hc hcell fin) hd
    · exact wpAny_Name (wpAny_loadName_free I.ok.kind hk hc hcell fin hcd) hd
theorem pe_int {i j pos} : PE X (.Constant (.int i) j pos) (tC (.int i)) := fun _ _ _ H _ I h => wpAny_Constant_int ⟨.int i, H, I.tok _, ⟨_, rfl⟩, h⟩
theorem pe_bl {b j pos} : PE X (.Constant (.bool b) j pos) (tC (.bl b)) := fun _ _ _ H _ I h => Constant_bool ⟨.bl b, H, I, rfl, h⟩
theorem pe_non {j pos} : PE X (.Constant .none j pos) (tC .non) := fun _ _ _ H _ I h => Constant_none ⟨.non, H, I, rfl, h⟩
theorem pe_str {x j pos} : PE X (.Constant (.str x) j pos) (tC (.str x)) := fun _ _ _ H _ I h => Calls.Constant_str ⟨.str x, H, I.tok _, ⟨_, rfl⟩, h⟩

/-- a global name of the def -/
def Gl (X : Cx) (x : Str) : Prop := X.env.kindOf x = some .globalImplicit
theorem ld_glob {E : Value → Shared → Prop} {pins : List (Addr × Obj)} {s : Shared} {σ : St} {H : Hp} {x : Str} {u : Value} {pos : Pos} {Q : Value → Shared → Prop} (I : Inv X pins σ H s) (hg : Gl X x) (hm : X.mg x = some u) (h : Q u s)
    (hd : (x == ("__debug__" : Str)) = false := by decide) : wpAny (model X.prog X.w) X.A (eval (.Name x pos) X.env) Q E s :=
  Calls.Name_function_global I.ok.kind hg (Calls.loadGlobal_global (by rw [I.ok.glob]; exact I.mod.glob.keeps I.bk) hm h) hd
theorem ld_blt {E : Value → Shared → Prop} {pins : List (Addr × Obj)} {s : Shared} {σ : St} {H : Hp} {x : Str} {u : Value} {pos : Pos} {Q : Value → Shared → Prop} (I : Inv X pins σ H s) (hg : Gl X x) (hm : X.mg x = none) (hv : bootBuiltins x = some u) (h : Q u s)
    (hn : x ≠ "__name__" := by decide) (hd : (x == ("__debug__" : Str)) = false := by decide) : wpAny (model X.prog X.w) X.A (eval (.Name x pos) X.env) Q E s := by
  obtain ⟨mb, h1, h2⟩ := I.mod.blt
  exact Calls.Name_function_global I.ok.kind hg (Calls.loadGlobal_builtin (by rw [I.ok.glob]; exact I.mod.glob.keeps I.bk) hm (by rw [I.ok.blt]; exact h1.keeps I.bk) ((h2 x hn).trans hv) h) hd
/-- a module's constant, a class, a function, as a value -/
theorem pe_glob {x : Str} {v : V} {u : Value} {pos : Pos} (hg : Gl X x) (hm : X.mg x = some u) (r : RelV v u) (hd : (x == ("__debug__" : Str)) = false := by decide) : PE X (.Name x pos) (tC v) :=
  fun _ _ _ H _ I h => ld_glob I hg hm ⟨v, H, I, r, h⟩ hd
theorem pe_bltn {x : Str} {v : V} {u : Value} {pos : Pos} (hg : Gl X x) (hm : X.mg x = none) (hv : bootBuiltins x = some u) (r : RelV v u) (hn : x ≠ "__name__" := by decide) (hd : (x == ("__debug__" : Str)) = false := by decide) : PE X (.Name x pos) (tC v) :=
  fun _ _ _ H _ I h => ld_blt I hg hm hv ⟨v, H, I, r, h⟩ hn hd

/-! ### arithmetic -/
/-- two ints -/
def t2I (ta tb : TE) (k : Int → Int → Hp → Prop) : St → Hp → Prop := fun σ H => ta σ H fun x H1 => tb σ H1 fun y H2 => ∃ i j, x = .int i ∧ y = .int j ∧ k i j H2
def tAdd (ta tb : TE) : TE := fun σ H Q => t2I ta tb (fun i j H2 => Q (.int (i + j)) H2) σ H
def tSub (ta tb : TE) : TE := fun σ H Q => t2I ta tb (fun i j H2 => Q (.int (i - j)) H2) σ H
/-- the left factor below 2^64 -/
def tMul (ta tb : TE) : TE := fun σ H Q => t2I ta tb (fun i j H2 => (-(2 ^ 64) < i ∧ i < 2 ^ 64) ∧ Q (.int (i * j)) H2) σ H
variable {a b : Expr} {ta tb : TE} {pos : Pos}
theorem pe_add (ha : PE X a ta) (hb : PE X b tb) : PE X (.BinOp a .Add b pos) (tAdd ta tb) := by
  intro pins s σ H Q I h
  refine wpAny_BinOp (bin ha hb I h fun v u s2 x y H2 I2 rx ry q => ?_)
  obtain ⟨i, j, rfl, rfl, q⟩ := q
  obtain ⟨t, rfl⟩ := rx
  obtain ⟨t', rfl⟩ := ry
  exact add_int ⟨.int _, H2, I2.tok _, ⟨_, rfl⟩, q⟩
theorem pe_sub (ha : PE X a ta) (hb : PE X b tb) : PE X (.BinOp a .Sub b pos) (tSub ta tb) := by
  intro pins s σ H Q I h
  refine wpAny_BinOp (bin ha hb I h fun v u s2 x y H2 I2 rx ry q => ?_)
  obtain ⟨i, j, rfl, rfl, q⟩ := q
  obtain ⟨t, rfl⟩ := rx
  obtain ⟨t', rfl⟩ := ry
  exact sub_int ⟨.int _, H2, I2.tok _, ⟨_, rfl⟩, q⟩
theorem pe_mul (ha : PE X a ta) (hb : PE X b tb) : PE X (.BinOp a .Mult b pos) (tMul ta tb) := by
  intro pins s σ H Q I h
  refine wpAny_BinOp (bin ha hb I h fun v u s2 x y H2 I2 rx ry q => ?_)
  obtain ⟨i, j, rfl, rfl, ⟨q1, q2⟩, q⟩ := q
  obtain ⟨t, rfl⟩ := rx
  obtain ⟨t', rfl⟩ := ry
  exact mul_int ⟨.int _, H2, I2.tok _, ⟨_, rfl⟩, q⟩ (.of_left (intBits_le_64 q1 q2))

/-! ### comparisons -/
def PC (X : Cx) (op : CmpOp) (a b : Expr) (t : TE) : Prop :=
  ∀ (pins : List (Addr × Obj)) (s : Shared) (σ : St) (H : Hp) (Q : VK), Inv X pins σ H s → t σ H Q →
    wpAny (model X.prog X.w) X.A (eval a X.env) (fun v s₁ => wpAny (model X.prog X.w) X.A (eval b X.env) (fun u s₂ => wpAny (model X.prog X.w) X.A (compareOp op v u) (EP X pins σ Q) X.xe s₂) X.xe s₁) X.xe s
theorem nobehind (b : Expr) {op : CmpOp} (h : op ≠ .In) (h2 : op ≠ .NotIn) : behindInMarks op b = false := by
  have e1 : (op == CmpOp.In) = false := by cases op <;> first | rfl | exact absurd rfl h
  have e2 : (op == CmpOp.NotIn) = false := by cases op <;> first | rfl | exact absurd rfl h2
  cases b <;> simp [behindInMarks, e1, e2]
def tCmp (p : Int → Int → Bool) (ta tb : TE) : TE := fun σ H Q => t2I ta tb (fun i j H2 => Q (.bl (p i j)) H2) σ H
abbrev tLt : TE → TE → TE := tCmp fun i j => decide (i < j)
abbrev tLe : TE → TE → TE := tCmp fun i j => decide (i ≤ j)
abbrev tGt : TE → TE → TE := tCmp fun i j => decide (j < i)
abbrev tGe : TE → TE → TE := tCmp fun i j => decide (j ≤ i)
abbrev tEqI : TE → TE → TE := tCmp fun i j => decide (i = j)
abbrev tNeI : TE → TE → TE := tCmp fun i j => !decide (i = j)
/-- a comparison of two ints, by its rule -/
theorem pc_int {op : CmpOp} {p : Int → Int → Bool} (ha : PE X a ta) (hb : PE X b tb)
    (rule : ∀ (i j : Int) (t u : Tok) (Q : Value → Shared → Prop) (s : Shared), Q (.bool (p i j)) s → wpAny (model X.prog X.w) X.A (compareOp op (.int i t) (.int j u)) Q X.xe s) : PC X op a b (tCmp p ta tb) := by
  intro pins s σ H Q I h
  refine bin ha hb I h fun v u s2 x y H2 I2 rx ry q => ?_
  obtain ⟨i, j, rfl, rfl, q⟩ := q
  obtain ⟨t, rfl⟩ := rx
  obtain ⟨t', rfl⟩ := ry
  exact rule i j t t' _ s2 ⟨.bl _, H2, I2, rfl, q⟩
theorem pc_lt (ha : PE X a ta) (hb : PE X b tb) : PC X .Lt a b (tLt ta tb) := pc_int ha hb fun _ _ _ _ _ _ h => lt_int h
theorem pc_le (ha : PE X a ta) (hb : PE X b tb) : PC X .LtE a b (tLe ta tb) := pc_int ha hb fun _ _ _ _ _ _ h => le_int h
theorem pc_gt (ha : PE X a ta) (hb : PE X b tb) : PC X .Gt a b (tGt ta tb) := pc_int ha hb fun _ _ _ _ _ _ h => gt_int h
theorem pc_ge (ha : PE X a ta) (hb : PE X b tb) : PC X .GtE a b (tGe ta tb) := pc_int ha hb fun _ _ _ _ _ _ h => ge_int h
theorem pc_eqI (ha : PE X a ta) (hb : PE X b tb) : PC X .Eq a b (tEqI ta tb) := pc_int ha hb fun _ _ _ _ _ _ h => eq_int (by rw [Bool.beq_eq_decide_eq]; exact h)
theorem pc_neI (ha : PE X a ta) (hb : PE X b tb) : PC X .NotEq a b (tNeI ta tb) := pc_int ha hb fun _ _ _ _ _ _ h => ne_int (by rw [bne, Bool.beq_eq_decide_eq]; exact h)
/-- is None -/
def tIsN (ta : TE) : TE := fun σ H Q => ta σ H fun x H1 => Q (.bl (decide (x = .non))) H1
def tNotN (ta : TE) : TE := fun σ H Q => ta σ H fun x H1 => Q (.bl (!decide (x = .non))) H1
theorem RelV.none_iff {x : V} {v : Value} (r : RelV x v) : (v == Value.none) = decide (x = .non) := by
  cases x with
  | non => cases r; rfl
  | bl _ => cases r; rfl
  | int _ => obtain ⟨t, rfl⟩ := r; rfl
  | str _ => obtain ⟨t, rfl⟩ := r; rfl
  | byt _ => obtain ⟨t, rfl⟩ := r; rfl
  | flt _ => obtain ⟨t, rfl⟩ := r; rfl
  | ref _ => cases r; rfl
  | ty _ => cases r; rfl
theorem pc_isN {j pos'} (ha : PE X a ta) : PC X .Is a (.Constant .none j pos') (tIsN ta) := by
  intro pins s σ H Q I h
  refine thn (ha pins s σ H _ I h) fun v s1 ⟨x, H1, I1, r1, q1⟩ => ?_
  exact Constant_none (is_none_gen ⟨.bl _, H1, I1, by rw [r1.none_iff]; rfl, q1⟩)
theorem pc_notN {j pos'} (ha : PE X a ta) : PC X .IsNot a (.Constant .none j pos') (tNotN ta) := by
  intro pins s σ H Q I h
  refine thn (ha pins s σ H _ I h) fun v s1 ⟨x, H1, I1, r1, q1⟩ => ?_
  exact Constant_none (isnot_none_gen ⟨.bl _, H1, I1, by rw [r1.none_iff]; rfl, q1⟩)
/-- a comparison as a value, as a test -/
def tB (t : TE) : TT := fun σ H Q => t σ H fun x H1 => ∃ c, x = .bl c ∧ Q c H1
theorem pe_cmp {op : CmpOp} {t : TE} (h : PC X op a b t) (h1 : behindInMarks op b = false := by first | exact nobehind _ (by decide) (by decide) | rfl) : PE X (.Compare a [op] [b] pos) t := fun pins s σ H Q I hw => wpAny_Compare1 (h pins s σ H Q I hw) h1
theorem pt_cmp {op : CmpOp} {t : TE} (h : PC X op a b t) (h1 : behindInMarks op b = false := by first | exact nobehind _ (by decide) (by decide) | rfl) : PT X (.Compare a [op] [b] pos) (tB t) := by
  intro pins s σ H Q I hw
  refine wpAny_isTrue_Compare1 (thn (h pins s σ H _ I hw) fun v s1 h1 => thn h1 fun u s2 h2 => thn h2 fun c s3 ⟨x, H1, I1, r1, q1⟩ => ?_) h1
  obtain ⟨d, rfl, q⟩ := q1
  cases r1
  exact wpAny_truthy_bool ⟨H1, I1, q⟩
/-- an expression whose value is a bool, as a test -/
theorem pt_val {e : Expr} {t : TE} (h : PE X e t) (he : ∀ whole, isTrue e X.env whole = (do let v ← whole; standAt e.pos; holding [v] (truthy v)) := by intro _; rfl) : PT X e (tB t) := by
  intro pins s σ H Q I hw
  refine isTrue_plain (thn (h pins s σ H _ I hw) fun v s1 ⟨x, H1, I1, r1, q1⟩ => ?_) (he _)
  obtain ⟨d, rfl, q⟩ := q1
  cases r1
  exact wpAny_truthy_bool ⟨H1, I1, q⟩

/-! ### and, or, not -/
variable {tA tB' : TT} {rest : List Expr}
def tAnd (t u : TT) : TT := fun σ H Q => t σ H fun c H1 => if c = true then u σ H1 Q else Q false H1
def tOr (t u : TT) : TT := fun σ H Q => t σ H fun c H1 => if c = true then Q true H1 else u σ H1 Q
def tNot (t : TT) : TT := fun σ H Q => t σ H fun c H1 => Q (!c) H1
theorem pw_and1 (ha : PT X a tA) : PW X (.BoolOp .And [a] pos) tA := by
  intro wh pins s σ H Q I h
  refine isTrue_and (thn (ha pins s σ H Q I h) fun c s1 e => ?_)
  cases c with
  | true => exact isTrue_and_nil e
  | false => exact e
theorem pw_or1 (ha : PT X a tA) : PW X (.BoolOp .Or [a] pos) tA := by
  intro wh pins s σ H Q I h
  refine isTrue_or (thn (ha pins s σ H Q I h) fun c s1 e => ?_)
  cases c with
  | false => exact isTrue_or_nil e
  | true => exact e
theorem pw_and (ha : PT X a tA) (hb : PW X (.BoolOp .And (b :: rest) pos) tB') : PW X (.BoolOp .And (a :: b :: rest) pos) (tAnd tA tB') := by
  intro wh pins s σ H Q I h
  refine isTrue_and (thn (ha pins s σ H _ I h) fun c s1 ⟨H1, I1, q1⟩ => ?_)
  cases c with
  | true => exact hb wh pins s1 σ H1 Q I1 q1
  | false => exact ⟨H1, I1, q1⟩
theorem pw_or (ha : PT X a tA) (hb : PW X (.BoolOp .Or (b :: rest) pos) tB') : PW X (.BoolOp .Or (a :: b :: rest) pos) (tOr tA tB') := by
  intro wh pins s σ H Q I h
  refine isTrue_or (thn (ha pins s σ H _ I h) fun c s1 ⟨H1, I1, q1⟩ => ?_)
  cases c with
  | true => exact ⟨H1, I1, q1⟩
  | false => exact hb wh pins s1 σ H1 Q I1 q1
theorem pt_not (ha : PT X a tA) : PT X (.UnaryOp .Not a pos) (tNot tA) := by
  intro pins s σ H Q I h
  exact isTrue_not (ha pins s σ H (fun c H1 => Q (!c) H1) I h)
/-- .. as values (bools) -/
def tAndV (ta tb : TE) : TE := fun σ H Q => ta σ H fun x H1 => ∃ c, x = .bl c ∧ if c = true then tb σ H1 Q else Q (.bl false) H1
def tOrV (ta tb : TE) : TE := fun σ H Q => ta σ H fun x H1 => ∃ c, x = .bl c ∧ if c = true then Q (.bl true) H1 else tb σ H1 Q
def tNotV (ta : TE) : TE := fun σ H Q => ta σ H fun x H1 => ∃ c, x = .bl c ∧ Q (.bl (!c)) H1
theorem pe_one {op} {t : TE} (h : PE X a t) : PE X (.BoolOp op [a] pos) t := fun pins s σ H Q I hw => BoolOp_one (h pins s σ H Q I hw)
theorem pe_and (ha : PE X a ta) (hb : PE X (.BoolOp .And (b :: rest) pos) tb) : PE X (.BoolOp .And (a :: b :: rest) pos) (tAndV ta tb) := by
  intro pins s σ H Q I h
  refine BoolOp_and (thn (ha pins s σ H _ I h) fun v s1 ⟨x, H1, I1, r1, q1⟩ => ?_)
  obtain ⟨c, rfl, q1⟩ := q1
  cases r1
  refine wpAny_truthy_bool ?_
  cases c with
  | true => exact hb pins s1 σ H1 Q I1 q1
  | false => exact ⟨.bl false, H1, I1, rfl, q1⟩
theorem pe_or (ha : PE X a ta) (hb : PE X (.BoolOp .Or (b :: rest) pos) tb) : PE X (.BoolOp .Or (a :: b :: rest) pos) (tOrV ta tb) := by
  intro pins s σ H Q I h
  refine BoolOp_or (thn (ha pins s σ H _ I h) fun v s1 ⟨x, H1, I1, r1, q1⟩ => ?_)
  obtain ⟨c, rfl, q1⟩ := q1
  cases r1
  refine wpAny_truthy_bool ?_
  cases c with
  | false => exact hb pins s1 σ H1 Q I1 q1
  | true => exact ⟨.bl true, H1, I1, rfl, q1⟩
theorem pe_not (ha : PE X a ta) : PE X (.UnaryOp .Not a pos) (tNotV ta) := by
  intro pins s σ H Q I h
  refine UnaryOp_ (thn (ha pins s σ H _ I h) fun v s1 ⟨x, H1, I1, r1, q1⟩ => ?_)
  obtain ⟨c, rfl, q1⟩ := q1
  cases r1
  exact not_of (wpAny_truthy_bool ⟨.bl (!c), H1, I1, rfl, q1⟩)
/-- a if t else b -/
def tIf (t : TT) (ta tb : TE) : TE := fun σ H Q => t σ H fun c H1 => if c = true then ta σ H1 Q else tb σ H1 Q
theorem pe_ifExp {c : Expr} (hc : PT X c tA) (ha : PE X a ta) (hb : PE X b tb) : PE X (.IfExp c a b pos) (tIf tA ta tb) := by
  intro pins s σ H Q I h
  refine wpAny_IfExp (thn (hc pins s σ H _ I h) fun d s1 ⟨H1, I1, q1⟩ => ?_)
  cases d with
  | true => exact ha pins s1 σ H1 Q I1 q1
  | false => exact hb pins s1 σ H1 Q I1 q1
end
end L2

namespace L2
open PySem PySem.Spec PyProof.Rows

/-! ### a list, a tuple that is read: tracked, frozen, or an object of the module -/
def SqL (K : PySem.W.Frag) (H : Hp) (a : Addr) (xs : List V) : Prop :=
  Rd H a (.lst xs) ∨
    ∃ (o : Obj) (its : Array Value) (n : Nat), K.lookup a = some o ∧ o.cls = .type "list" ∧ o.dict = none ∧ o.data = .seq its n ∧ its.size ≤ sizeLine ∧ Vals xs its.toList
def SqT (K : PySem.W.Frag) (H : Hp) (a : Addr) (xs : List V) : Prop :=
  Rd H a (.tup xs) ∨
    ∃ (o : Obj) (its : Array Value) (n : Nat), K.lookup a = some o ∧ o.cls = .type "tuple" ∧ o.data = .seq its n ∧ its.size ≤ sizeLine ∧ Vals xs its.toList
def absV : Value → Option V
  | .none => some .non
  | .bool b => some (.bl b)
  | .int i _ => some (.int i)
  | .str x _ => some (.str x)
  | .bytes b _ => some (.byt b)
  | .float b _ => some (.flt b)
  | .ref a => some (.ref a)
  | .type n => some (.ty n)
  | _ => none
theorem RelV.abs {x : V} {u : Value} (r : RelV x u) : absV u = some x := by
  cases x with
  | non => cases r; rfl
  | bl _ => cases r; rfl
  | int _ => obtain ⟨t, rfl⟩ := r; rfl
  | str _ => obtain ⟨t, rfl⟩ := r; rfl
  | byt _ => obtain ⟨t, rfl⟩ := r; rfl
  | flt _ => obtain ⟨t, rfl⟩ := r; rfl
  | ref _ => cases r; rfl
  | ty _ => cases r; rfl
theorem RelV.inj {x y : V} {u : Value} (r : RelV x u) (q : RelV y u) : x = y := Option.some.inj (r.abs.symm.trans q.abs)
theorem Vals.inj : ∀ {xs ys : List V} {us : List Value}, Vals xs us → Vals ys us → xs = ys
  | _, _, _, .nil, .nil => rfl
  | _, _, _, .cons r t, .cons r' t' => by rw [r.inj r', Vals.inj t t']
section
variable {X : Cx} {pins : List (Addr × Obj)} {σ : St} {H : Hp} {s : Shared} {a : Addr} {xs ys : List V}
theorem SqL.of {K : PySem.W.Frag} (h : H a = some (.lst xs)) : SqL K H a xs := .inl (.inl h)
theorem SqT.of {K : PySem.W.Frag} (h : H a = some (.tup xs)) : SqT K H a xs := .inl (.inl h)
theorem Inv.list (I : Inv X pins σ H s) (h : SqL X.K H a xs) : ∃ its : List Value, Vals xs its ∧ PlainL s.heap a its.toArray ∧ xs.length ≤ sizeLine := by
  rcases h with h | ⟨o, its, n, hk, hc, hd, hs, hz, r⟩
  · obtain ⟨z, its, n, r, e⟩ := h.ok I.hok
    exact ⟨its, r, ⟨_, n, e, rfl, rfl, rfl⟩, z⟩
  · refine ⟨its.toList, r, ⟨o, n, I.kIn a o hk, hc, hd, by simpa using hs⟩, ?_⟩
    have e := r.length
    simp only [Array.length_toList] at e
    omega
theorem Inv.tuple (I : Inv X pins σ H s) (h : SqT X.K H a xs) : ∃ its : List Value, Vals xs its ∧ IsTup s.heap a its.toArray ∧ xs.length ≤ sizeLine := by
  rcases h with h | ⟨o, its, n, hk, hc, hs, hz, r⟩
  · obtain ⟨z, its, r, p⟩ := h.ok I.hok
    exact ⟨its, r, p, z⟩
  · refine ⟨its.toList, r, ⟨o, I.kIn a o hk, hc, n, by simpa using hs⟩, ?_⟩
    have e := r.length
    simp only [Array.length_toList] at e
    omega
theorem Inv.list_inj (I : Inv X pins σ H s) (h : SqL X.K H a xs) (h' : SqL X.K H a ys) : xs = ys := by
  obtain ⟨its, r, ⟨o, n, e, _, _, d⟩, _⟩ := I.list h
  obtain ⟨its', r', ⟨o', n', e', _, _, d'⟩, _⟩ := I.list h'
  rw [e] at e'; cases e'
  rw [d] at d'
  injection d' with d1 _
  have : its = its' := by simpa using congrArg Array.toList d1
  subst this
  exact r.inj r'
theorem Inv.tuple_inj (I : Inv X pins σ H s) (h : SqT X.K H a xs) (h' : SqT X.K H a ys) : xs = ys := by
  obtain ⟨its, r, ⟨o, e, _, n, d⟩, _⟩ := I.tuple h
  obtain ⟨its', r', ⟨o', e', _, n', d'⟩, _⟩ := I.tuple h'
  rw [e] at e'; cases e'
  rw [d] at d'
  injection d' with d1 _
  have : its = its' := by simpa using congrArg Array.toList d1
  subst this
  exact r.inj r'
end

/-! ### another wish about exceptions -/
abbrev Cx.wish (X : Cx) (E : Value → Shared → Prop) : Cx := { X with xe := E }
/-- no exception leaves -/
abbrev Cx.nox (X : Cx) : Cx := X.wish fun _ _ => False
theorem Cx.Ok.wish {X : Cx} (ok : X.Ok) (E : Value → Shared → Prop) : (X.wish E).Ok :=
  ⟨ok.mod, ok.kind, ok.glob, ok.blt, ok.above, ok.inj, ok.has, ok.cab, ok.hd, ok.frames, ok.stk, ok.exf, ok.bs, ok.bsz, ok.noex, ok.exfs, ok.funs, ok.frf⟩
theorem Cx.Ok.unwish {X : Cx} {E : Value → Shared → Prop} (ok : (X.wish E).Ok) : X.Ok :=
  ⟨ok.mod, ok.kind, ok.glob, ok.blt, ok.above, ok.inj, ok.has, ok.cab, ok.hd, ok.frames, ok.stk, ok.exf, ok.bs, ok.bsz, ok.noex, ok.exfs, ok.funs, ok.frf⟩
section
variable {X : Cx} {pins : List (Addr × Obj)} {σ : St} {H : Hp} {s : Shared} {E : Value → Shared → Prop}
theorem Inv.wish (I : Inv X pins σ H s) (E : Value → Shared → Prop) : Inv (X.wish E) pins σ H s := ⟨I.ok.wish E, I.os, I.bare, I.base, I.loc, I.cell, I.free, I.freeC, I.pin, I.hok, I.len⟩
theorem Inv.unwish (I : Inv (X.wish E) pins σ H s) : Inv X pins σ H s := ⟨I.ok.unwish, I.os, I.bare, I.base, I.loc, I.cell, I.free, I.freeC, I.pin, I.hok, I.len⟩
theorem SP.unwish {D : Ends} {f : Flow} {s' : Shared} (h : SP (X.wish E) pins D f s') : SP X pins D f s' := by
  cases f with
  | next => obtain ⟨σ', H', I, q⟩ := h; exact ⟨σ', H', I.unwish, q⟩
  | brk => obtain ⟨σ', H', I, q⟩ := h; exact ⟨σ', H', I.unwish, q⟩
  | cont => obtain ⟨σ', H', I, q⟩ := h; exact ⟨σ', H', I.unwish, q⟩
  | ret u => obtain ⟨v, σ', H', I, r, q⟩ := h; exact ⟨v, σ', H', I.unwish, r, q⟩
theorem PE.nox {e : Expr} {t : TE} (h : PE X.nox e t) : PE X e t := fun pins s σ H Q I hw =>
  wpAny_mono (h pins s σ H Q (I.wish _) hw) (fun _ _ ⟨v, H', I', r, q⟩ => ⟨v, H', I'.unwish, r, q⟩) fun _ _ z => False.elim z
theorem PT.nox {e : Expr} {t : TT} (h : PT X.nox e t) : PT X e t := fun pins s σ H Q I hw =>
  wpAny_mono (h pins s σ H Q (I.wish _) hw) (fun _ _ ⟨H', I', q⟩ => ⟨H', I'.unwish, q⟩) fun _ _ z => False.elim z
theorem PSs.nox {st : List Stmt} {t : TS} (h : PSs X.nox st t) : PSs X st t := fun pins s σ H D I hw =>
  wpAny_mono (h pins s σ H D (I.wish _) hw) (fun _ _ q => q.unwish) fun _ _ z => False.elim z
end

/-! ### blocks and small statements -/
section
variable {X : Cx} {st : Stmt} {rest : List Stmt} {t u : TS} {e : Expr} {te : TE} {pos : Pos}
def tNext : TS := fun D σ H => D.nx σ H
def tSeq (t u : TS) : TS := fun D σ H => t { D with nx := u D } σ H
theorem pss_nil : PSs X [] tNext := fun _ _ σ H _ I h => wpAny_execs_nil ⟨σ, H, I, h⟩
theorem pss_cons (h1 : PS X st t) (h2 : PSs X rest u) : PSs X (st :: rest) (tSeq t u) := by
  intro pins s σ H D I h
  refine wpAny_execs_cons (thn (h1 pins s σ H { D with nx := u D } I h) fun f s1 q => ?_)
  cases f with
  | next =>
    obtain ⟨σ', H', I', q⟩ := q
    exact h2 pins s1 σ' H' D I' q
  | ret v => exact q
  | brk => exact q
  | cont => exact q
theorem pss_one (h1 : PS X st t) : PSs X [st] t := by
  intro pins s σ H D I h
  refine wpAny_execs_cons (thn (h1 pins s σ H D I h) fun f s1 q => ?_)
  cases f with
  | next => exact wpAny_execs_nil q
  | ret v => exact q
  | brk => exact q
  | cont => exact q
def tBreak : TS := fun D σ H => D.bk σ H
def tCont : TS := fun D σ H => D.ct σ H
theorem ps_pass : PS X (.Pass pos) tNext := fun _ _ σ H _ I h => wpAny_Pass ⟨σ, H, I, h⟩
theorem ps_break : PS X (.Break pos) tBreak := fun _ _ σ H _ I h => wpAny_Break ⟨σ, H, I, h⟩
theorem ps_continue : PS X (.Continue pos) tCont := fun _ _ σ H _ I h => wpAny_Continue ⟨σ, H, I, h⟩
/-- in a def's body nothing is shown -/
theorem Inv.quiet {pins : List (Addr × Obj)} {σ : St} {H : Hp} {s : Shared} (I : Inv X pins σ H s) : interactive X.env = false := by simp [interactive, I.ok.kind]
/-- a docstring -/
theorem ps_doc {x j pos pos'} : PS X (.Expr (.Constant (.str x) j pos) pos') tNext := fun _ s σ H _ I h => wpAny_Expr (Calls.Constant_str (show SP X _ _ .next { s with toks := s.toks + 1 } from ⟨σ, H, I.tok _, h⟩)) I.quiet
/-- an expression whose value is dropped -/
def tDrop (te : TE) : TS := fun D σ H => te σ H fun _ H1 => D.nx σ H1
theorem ps_expr (he : PE X e te) (hs : swapsWith e none pos.line X.env = pure false := by rfl) : PS X (.Expr e pos) (tDrop te) := by
  intro pins s σ H D I h
  exact wpAny_Expr_any (thn (he pins s σ H _ I h) fun v s1 ⟨x, H1, I1, r1, q1⟩ => ⟨σ, H1, I1, q1⟩) I.quiet hs
def tRet (te : TE) : TS := fun D σ H => te σ H D.rt
theorem ps_ret (he : PE X e te) : PS X (.Return (some e) pos) (tRet te) := by
  intro pins s σ H D I h
  exact wpAny_Return_some (thn (he pins s σ H _ I h) fun v s1 ⟨x, H1, I1, r1, q1⟩ => ⟨x, σ, H1, I1, r1, q1⟩)
def tRetN : TS := fun D _ H => D.rt .non H
theorem ps_retN : PS X (.Return none pos) tRetN := fun _ _ σ H _ I h => wpAny_Return_none ⟨.non, σ, H, I, rfl, h⟩
def tIfS (c : TT) (t u : TS) : TS := fun D σ H => c σ H fun b H1 => if b = true then t D σ H1 else u D σ H1
theorem ps_if {c : Expr} {a b : List Stmt} {tc : TT} (hc : PT X c tc) (ha : PSs X a t) (hb : PSs X b u) : PS X (.If c a b pos) (tIfS tc t u) := by
  intro pins s σ H D I h
  refine wpAny_If (thn (hc pins s σ H _ I h) fun d s1 ⟨H1, I1, q1⟩ => ?_)
  cases d with
  | true => exact ha pins s1 σ H1 D I1 q1
  | false => exact hb pins s1 σ H1 D I1 q1
/-- code that the proof never comes to -/
def tNever : TS := fun _ _ _ => False
theorem ps_never : PS X st tNever := fun _ _ _ _ _ _ h => h.elim
theorem pss_never {sts : List Stmt} : PSs X sts tNever := fun _ _ _ _ _ _ h => h.elim
end

/-! ### targets -/
abbrev TG := V → St → Hp → (St → Hp → Prop) → Prop
abbrev TGs := List V → St → Hp → (St → Hp → Prop) → Prop
def PG (X : Cx) (target : Expr) (t : TG) : Prop :=
  ∀ (pins : List (Addr × Obj)) (s : Shared) (σ : St) (H : Hp) (v : V) (u : Value) (Q : St → Hp → Prop), Inv X pins σ H s → RelV v u → t v σ H Q →
    wpAny (model X.prog X.w) X.A (assign target X.env u) (fun _ s' => ∃ σ' H', Inv X pins σ' H' s' ∧ Q σ' H') X.xe s
/-- several targets, one after another -/
def PGs (X : Cx) (ts : List Expr) (t : TGs) : Prop :=
  ∀ (pins : List (Addr × Obj)) (s : Shared) (σ : St) (H : Hp) (vs : List V) (us : List Value) (Q : St → Hp → Prop), Inv X pins σ H s → Vals vs us → t vs σ H Q →
    wpAny (model X.prog X.w) X.A (assignInOrder ((assignEach ts X.env).map (·.2)) us) (fun _ s' => ∃ σ' H', Inv X pins σ' H' s' ∧ Q σ' H') X.xe s
/-- o[i] = v, by values -/
abbrev TSet := V → V → V → Hp → (Hp → Prop) → Prop
def PSet (X : Cx) (t : TSet) : Prop :=
  ∀ (pins : List (Addr × Obj)) (s : Shared) (σ : St) (H : Hp) (o i v : V) (ov iv u : Value) (Q : Hp → Prop), Inv X pins σ H s → RelV o ov → RelV i iv → RelV v u → t o i v H Q →
    wpAny (model X.prog X.w) X.A (setItem ov iv u) (fun _ s' => ∃ H', Inv X pins σ H' s' ∧ Q H') X.xe s
/-- a op= b, by values -/
abbrev TIp := V → V → Hp → VK → Prop
def PIp (X : Cx) (op : Operator) (t : TIp) : Prop :=
  ∀ (pins : List (Addr × Obj)) (s : Shared) (σ : St) (H : Hp) (x y : V) (v u : Value) (Q : VK), Inv X pins σ H s → RelV x v → RelV y u → t x y H Q →
    wpAny (model X.prog X.w) X.A (inplaceOp op v u) (EP X pins σ Q) X.xe s
section
variable {X : Cx} {pos : Pos}
def gName (i : Nat) : TG := fun v σ H Q => Q (σ.set i (some v)) H
theorem pg_name {i : Nat} {x : Str} (hN : X.N.Nodup) (hi : X.N[i]? = some x) (hx : Loc X.env.scope x) (hf : X.fn x = true ∨ X.env.scope.names.lookup x = some .local := by first | exact .inl rfl | exact .inr rfl | assumption) : PG X (.Name x pos) (gName i) := by
  intro pins s σ H v u Q I r h
  exact wpAny_assign_Name (store_ok I hN hi hx r (fun s' I' => ⟨_, H, I', h⟩) hf)
def gNil : TGs := fun vs σ H Q => vs = [] ∧ Q σ H
def gCons (t : TG) (u : TGs) : TGs := fun vs σ H Q => ∃ v r, vs = v :: r ∧ t v σ H fun σ' H' => u r σ' H' Q
theorem pgs_nil : PGs X [] gNil := by
  intro pins s σ H vs us Q I r h
  obtain ⟨e, h⟩ := h
  subst e
  cases r
  exact assignInOrder_nil ⟨σ, H, I, h⟩
theorem pgs_cons {e : Expr} {es : List Expr} {t : TG} {u : TGs} (h1 : PG X e t) (h2 : PGs X es u)
    (hs : (assignEach (e :: es) X.env).map (·.2) = assign e X.env :: (assignEach es X.env).map (·.2) := by rfl) : PGs X (e :: es) (gCons t u) := by
  intro pins s σ H vs us Q I r h
  obtain ⟨v, vr, e1, h⟩ := h
  subst e1
  cases r with
  | cons r rr =>
    rw [hs]
    refine assignInOrder_cons (thn (h1 pins s σ H _ _ _ I r h) fun _ s1 ⟨σ1, H1, I1, q1⟩ => ?_)
    exact h2 pins s1 σ1 H1 _ _ Q I1 rr q1
/-- (a, b, ..) = a tuple of that length -/
def gTup (K : PySem.W.Frag) (n : Nat) (t : TGs) : TG := fun v σ H Q => ∃ a xs, v = .ref a ∧ SqT K H a xs ∧ xs.length = n ∧ t xs σ H Q
theorem pg_tup {es : List Expr} {k : Nat} {t : TGs} {n : Nat} (hc : X.calm = true) (h : PGs X es t)
    (hn : (assignEach es X.env).length = n := by rfl) (hst : (assignEach es X.env).findIdx? (·.1) = none := by rfl) : PG X (.Tuple es k pos) (gTup X.K n t) := by
  intro pins s σ H v u Q I r hw
  obtain ⟨a, xs, e1, hq, hl, hw⟩ := hw
  subst e1
  cases r
  obtain ⟨its, rv, ht, hz⟩ := I.tuple hq
  refine assign_Tuple_tuple (I.ok.hd hc) ht (by simp [hn, ← hl, rv.length]) hst fun h' hx => ?_
  have I1 : Inv X pins σ H { s with heap := h' } := I.kept (t' := s.toks) fun b o e => hx b o (Nat.ne_of_lt (Heap.lt_size e)) e
  exact h pins _ σ H xs _ Q I1 (by simpa using rv) hw
/-- o[i] = .. -/
def gSub (to ti : TE) (t : TSet) : TG := fun v σ H Q => to σ H fun o H1 => ti σ H1 fun i H2 => t o i v H2 fun H3 => Q σ H3
theorem pg_sub {o i : Expr} {to ti : TE} {t : TSet} (ho : PE X o to) (hi : PE X i ti) (hs : PSet X t)
    (ha : ∀ v, assign (.Subscript o i pos) X.env v = (do
      let ov ← holding [v] (eval o X.env)
      let iv ← holding [v, ov] (eval i X.env)
      standAt pos
      holding [v, ov, iv] (setItem ov iv v)
      release [v, ov, iv] []) := by intro _; rfl) : PG X (.Subscript o i pos) (gSub to ti t) := by
  intro pins s σ H v u Q I r h
  rw [ha]
  refine wpAny_bind (wpAny_holding (thn (ho pins s σ H _ I h) fun ov s1 ⟨x, H1, I1, r1, q1⟩ => ?_))
  refine wpAny_bind (wpAny_holding (thn (hi pins s1 σ H1 _ I1 q1) fun iv s2 ⟨y, H2, I2, r2, q2⟩ => ?_))
  refine wpAny_bind (wpAny_standAt (wpAny_bind (wpAny_holding (thn (hs pins s2 σ H2 x y v ov iv u _ I2 r1 r2 r q2) fun _ s3 ⟨H3, I3, q3⟩ => ?_))))
  exact wpAny_release ⟨σ, H3, I3, q3⟩
/-- target = value -/
def tAsg (te : TE) (g : TG) : TS := fun D σ H => te σ H fun x H1 => g x σ H1 D.nx
theorem ps_asg {tg e : Expr} {te : TE} {g : TG} (he : PE X e te) (hg : PG X tg g) (hs : swapsWithSole [tg] e pos.line X.env = pure false := by rfl) (hw : swappedStores [tg] e X.env = pure none := by rfl)
    (h1 : (assignEach [tg] X.env).map (·.2) = [assign tg X.env] := by rfl) : PS X (.Assign [tg] e pos) (tAsg te g) := by
  intro pins s σ H D I h
  refine wpAny_Assign_stores (thn (he pins s σ H _ I h) fun v s1 ⟨x, H1, I1, r1, q1⟩ => ?_) hs hw
  rw [h1]
  exact thn (hg pins s1 σ H1 x v _ I1 r1 q1) fun _ s2 q => q
/-- name = value -/
theorem ps_set {i : Nat} {x : Str} {e : Expr} {te : TE} {pos' : Pos} (hN : X.N.Nodup) (hi : X.N[i]? = some x) (hx : Loc X.env.scope x) (he : PE X e te) (hs : swapsWith e (some (.Name x pos')) pos.line X.env = pure false := by rfl) (hf : X.fn x = true ∨ X.env.scope.names.lookup x = some .local := by first | exact .inl rfl | exact .inr rfl | assumption) :
    PS X (.Assign [.Name x pos'] e pos) (tAsg te (gName i)) := by
  intro pins s σ H D I h
  refine wpAny_Assign_Name (thn (he pins s σ H _ I h) fun v s1 ⟨y, H1, I1, r1, q1⟩ => ?_) hs
  exact store_ok I1 hN hi hx r1 (fun s2 I2 => ⟨_, H1, I2, q1⟩) hf
/-- a, b = x, y with plain local names: stored from the right; the pair itself is not tracked (the opening rows as in PyProof/Rows/TupAssign.lean:23) -/
def tPar (i j : Nat) (ta : TA) : TS := fun D σ H => ta σ H fun vs H1 => ∃ v w, vs = [v, w] ∧ D.nx ((σ.set i (some v)).set j (some w)) H1
theorem ps_par {i j : Nat} {x y : Str} {a b : Expr} {ta : TA} {px py pt : Pos} {kt k2 pt2} (hc : X.calm = true) (hN : X.N.Nodup) (hi : X.N[i]? = some x) (hj : X.N[j]? = some y) (hij : i ≠ j)
    (hx : X.env.scope.names.lookup x = some .local) (hy : X.env.scope.names.lookup y = some .local) (ha : PA X [a, b] ta)
    (hw : swappedStores [.Tuple [.Name x px, .Name y py] kt pt] (.Tuple [a, b] k2 pt2) X.env = pure (some [x, y]))
    (hs : swapsWithSole [.Tuple [.Name x px, .Name y py] kt pt] (.Tuple [a, b] k2 pt2) pos.line X.env = pure false := by rfl) :
    PS X (.Assign [.Tuple [.Name x px, .Name y py] kt pt] (.Tuple [a, b] k2 pt2) pos) (tPar i j ta) := by
  intro pins s σ H D I h
  rw [exec_Assign_arm]
  refine wpAny_bind (wpAny_standAt ?_)
  rw [hs]
  refine wpAny_bind (wpAny_pure ?_)
  rw [if_neg (by decide)]
  refine wpAny_bind (Tuple_ (thn (ha _ pins s σ H _ I h) fun us s1 ⟨vs, H1, I1, r1, q1⟩ => ?_))
  obtain ⟨v, w, e1, q1⟩ := q1
  subst e1
  obtain ⟨u1, u2, rfl, rv, rw'⟩ : ∃ u1 u2, us = [u1, u2] ∧ RelV v u1 ∧ RelV w u2 := by
    cases r1 with
    | cons p q =>
      cases q with
      | cons p' q' =>
        cases q'
        exact ⟨_, _, rfl, p, p'⟩
  refine wpAny_newObj_type ?_ (by show 2 ≤ sizeLine; decide)
  have I2 : Inv X pins σ H1 { s1 with heap := s1.heap.push { cls := .type "tuple", data := .seq [u1, u2].toArray } } := I1.kept (t' := s1.toks) fun b o e => Heap.get?_push_of_some _ e
  rw [hw]
  refine wpAny_bind (wpAny_pure ?_)
  show wpAny (model X.prog X.w) X.A (do rule "assign.swapped-stores"; let items ← unpackItems (.ref s1.heap.objs.size) 2 none; assignInOrder [fun v => bindName X.env y v, fun v => bindName X.env x v] items.reverse; pure Flow.next) _ _ _
  refine wpAny_bind (wpAny_rule (wpAny_bind (unpackItems_tuple (items := #[u1, u2]) (I.ok.hd hc) (IsTup.new s1.heap _) fun h' hx' => ?_)))
  have I3 := I2.kept (h' := h') (t' := s1.toks) fun b o e => hx' b o (Nat.ne_of_lt (Heap.lt_size e)) e
  show wpAny _ _ (assignInOrder [fun v => bindName X.env y v, fun v => bindName X.env x v] [u2, u1] >>= fun _ => pure Flow.next) _ _ _
  refine wpAny_bind (assignInOrder_cons (wpAny_bindName (store_ok I3 hN hj (.inl hy) rw' (fun s2 I4 => ?_) (.inr hy))))
  refine assignInOrder_cons (wpAny_bindName (store_ok I4 hN hi (.inl hx) rv (fun s3 I5 => assignInOrder_nil (wpAny_pure ?_)) (.inr hx)))
  rw [List.set_comm _ _ (Ne.symm hij)] at I5
  exact ⟨_, H1, I5, q1⟩
/-- name op= e -/
def tAug (i : Nat) (te : TE) (ti : TIp) : TS := fun D σ H => ∃ x, σ[i]? = some (some x) ∧ te σ H fun y H1 => ti x y H1 fun z H2 => D.nx (σ.set i (some z)) H2
theorem ps_aug {i : Nat} {x : Str} {e : Expr} {te : TE} {op : Operator} {ti : TIp} {pos' : Pos} (hN : X.N.Nodup) (hi : X.N[i]? = some x) (hx : Loc X.env.scope x) (he : PE X e te) (ho : PIp X op ti) (hf : X.fn x = true ∨ X.env.scope.names.lookup x = some .local := by first | exact .inl rfl | exact .inr rfl | assumption) :
    PS X (.AugAssign (.Name x pos') op e pos) (tAug i te ti) := by
  intro pins s σ H D I h
  obtain ⟨v, e1, h⟩ := h
  obtain ⟨m, hn, hl⟩ := I.loc
  have vis : Vis X.env.scope x := by rcases hx with k | k; exact .inl k; exact .inr (.inl k)
  obtain ⟨u, r, l⟩ := hl i x v hi e1 vis
  refine wpAny_AugAssign_Name ?_
  have go : wpAny (model X.prog X.w) X.A (eval e X.env) (fun w s₂ => wpAny (model X.prog X.w) X.A (inplaceOp op u w) (fun r s₃ => wpAny (model X.prog X.w) X.A (storeName X.env x r) (fun _ => SP X pins D .next) X.xe s₃) X.xe s₂) X.xe s := by
    refine thn (he pins s σ H _ I h) fun w s1 ⟨y, H1, I1, r1, q1⟩ => ?_
    refine thn (ho pins s1 σ H1 v y u w _ I1 r r1 q1) fun z s2 ⟨zv, H2, I2, r2, q2⟩ => ?_
    exact store_ok I2 hN hi hx r2 (fun s3 I3 => ⟨_, H2, I3, q2⟩) hf
  rcases l with ⟨hk, hm⟩ | ⟨hk, c, hc, hcell⟩
  · exact wpAny_loadName_local I.ok.kind hk hn hm go
  · rcases hk with hk | hk
    · exact wpAny_loadName_cell I.ok.kind hk hc hcell go
    · rcases hx with k | k
      · have : X.env.scope.names.lookup x = some .free := hk
        rw [k] at this; cases this
      · have : X.env.scope.names.lookup x = some .free := hk
        rw [k] at this; cases this
/-- o[i] op= e -/
def tAugS (to ti te : TE) (tget : V → V → Hp → VK → Prop) (tip : TIp) (tset : TSet) : TS := fun D σ H => to σ H fun o H1 => ti σ H1 fun i H2 => tget o i H2 fun x H3 => te σ H3 fun y H4 => tip x y H4 fun z H5 => tset o i z H5 fun H6 => D.nx σ H6
/-- o[i], by values -/
def PGet (X : Cx) (t : V → V → Hp → VK → Prop) : Prop :=
  ∀ (pins : List (Addr × Obj)) (s : Shared) (σ : St) (H : Hp) (o i : V) (ov iv : Value) (Q : VK), Inv X pins σ H s → RelV o ov → RelV i iv → t o i H Q →
    wpAny (model X.prog X.w) X.A (getItem ov iv) (EP X pins σ Q) X.xe s
theorem ps_augS {o i e : Expr} {to ti te : TE} {tget : V → V → Hp → VK → Prop} {tip : TIp} {tset : TSet} {op : Operator} {tpos : Pos} (ho : PE X o to) (hi : PE X i ti) (hg : PGet X tget) (he : PE X e te) (hp : PIp X op tip) (hs : PSet X tset)
    (ha : ∀ ov iv new, augStore i ov iv new = (do holding [new, ov, iv] (setItem ov iv new); release [new, ov, iv] []; pure .next) := by intros; rfl) : PS X (.AugAssign (.Subscript o i tpos) op e pos) (tAugS to ti te tget tip tset) := by
  intro pins s σ H D I h
  refine wpAny_AugAssign_SubscriptAny (thn (ho pins s σ H _ I h) fun ov s1 ⟨x1, H1, I1, r1, q1⟩ => ?_) ha
  refine thn (hi pins s1 σ H1 _ I1 q1) fun iv s2 ⟨x2, H2, I2, r2, q2⟩ => ?_
  refine thn (hg pins s2 σ H2 x1 x2 ov iv _ I2 r1 r2 q2) fun old s3 ⟨x3, H3, I3, r3, q3⟩ => ?_
  refine thn (he pins s3 σ H3 _ I3 q3) fun v s4 ⟨x4, H4, I4, r4, q4⟩ => ?_
  refine thn (hp pins s4 σ H4 x3 x4 old v _ I4 r3 r4 q4) fun new s5 ⟨x5, H5, I5, r5, q5⟩ => ?_
  exact thn (hs pins s5 σ H5 x1 x2 x5 ov iv new _ I5 r1 r2 r5 q5) fun _ s6 ⟨H6, I6, q6⟩ => ⟨σ, H6, I6, q6⟩
/-- ints -/
def ipI (f : Int → Int → Int) : TIp := fun x y H Q => ∃ i j, x = .int i ∧ y = .int j ∧ Q (.int (f i j)) H
theorem ip_add : PIp X .Add (ipI fun i j => i + j) := by
  intro pins s σ H x y v u Q I r1 r2 h
  obtain ⟨i, j, e1, e2, q⟩ := h
  subst e1; subst e2
  obtain ⟨t, rfl⟩ := r1
  obtain ⟨t', rfl⟩ := r2
  exact iadd_int ⟨.int _, H, I.tok _, ⟨_, rfl⟩, q⟩
theorem ip_sub : PIp X .Sub (ipI fun i j => i - j) := by
  intro pins s σ H x y v u Q I r1 r2 h
  obtain ⟨i, j, e1, e2, q⟩ := h
  subst e1; subst e2
  obtain ⟨t, rfl⟩ := r1
  obtain ⟨t', rfl⟩ := r2
  exact isub_int ⟨.int _, H, I.tok _, ⟨_, rfl⟩, q⟩
end

/-! ### while -/
section
variable {X : Cx} {pos : Pos}
/-- the invariant W with its measure -/
def tWhile (c : TT) (tb : TS) : TS := fun D σ H => ∃ W : Nat → St → Hp → Prop, (∃ m, W m σ H) ∧ ∀ m σ H, W m σ H →
  c σ H fun b H1 => if b = true then ∃ N : St → Hp → Prop, (∀ σ' H', N σ' H' → ∃ m', m' < m ∧ W m' σ' H') ∧ tb { D with nx := N, ct := N, bk := D.nx } σ H1 else D.nx σ H1
theorem ps_while {c : Expr} {body : List Stmt} {tc : TT} {tb : TS} (hp : PassesOwn (model X.prog X.w) X.A X.env X.xe) (hc : PT X c tc) (hb : PSs X body tb) : PS X (.While c body [] pos) (tWhile tc tb) := by
  intro pins s σ H D I h
  obtain ⟨W, ⟨m0, w0⟩, turn⟩ := h
  refine wpAny_While (codeAny_whileLoop (fun n s' => ∃ σ' H', Inv X pins σ' H' s' ∧ W n σ' H') ?_ m0 ⟨σ, H, I, w0⟩)
  rintro n s1 ⟨σ1, H1, I1, w1⟩
  refine wpAny_passesOwn hp (thn (hc pins s1 σ1 H1 _ I1 (turn n σ1 H1 w1)) fun b s2 ⟨H2, I2, q2⟩ => ?_)
  cases b with
  | true =>
    obtain ⟨N, hN, q2⟩ := q2
    rw [if_pos rfl]
    refine wpAny_passesOwn hp (thn (hb pins s2 σ1 H2 _ I2 q2) fun f s3 q3 => ?_)
    cases f with
    | next =>
      obtain ⟨σ3, H3, I3, n3⟩ := q3
      obtain ⟨m', hm, w3⟩ := hN σ3 H3 n3
      exact ⟨m', hm, σ3, H3, I3, w3⟩
    | cont =>
      obtain ⟨σ3, H3, I3, n3⟩ := q3
      obtain ⟨m', hm, w3⟩ := hN σ3 H3 n3
      exact ⟨m', hm, σ3, H3, I3, w3⟩
    | brk => exact q3
    | ret v => exact q3
  | false =>
    rw [if_neg Bool.false_ne_true]
    exact wpAny_execs_nil ⟨σ1, H2, I2, q2⟩
end

/-! ### what a loop or a comprehension walks -/
/-- at turn i: it yields x (the heap may grow), or it stops -/
structure It where
  go : Nat → Hp → Prop
  yld : Nat → Hp → V → Hp → Prop
  stop : Nat → Hp → Prop
/-- the iterator's own objects may turn: they are not the frame's, not pinned, younger than the entry (or a comprehension's own) -/
def FpOk (X : Cx) (pins : List (Addr × Obj)) (H : Hp) (b : Addr) : Prop :=
  H b = none ∧ b ≠ X.env.locals ∧ b ∉ X.fs ∧ (b ∈ X.ex ∨ X.s₀.heap.objs.size ≤ b) ∧ (∀ x c, X.env.cells.lookup x = some c → c ≠ b) ∧ ∀ p ∈ X.pn ++ pins, p.1 ≠ b
theorem Inv.fpOk {X : Cx} {pins : List (Addr × Obj)} {σ : St} {H H' : Hp} {s : Shared} {b : Addr} (I : Inv X pins σ H s) (hb : s.heap.objs.size ≤ b) (hn : H' b = none) : FpOk X pins H' b := by
  refine ⟨hn, Nat.ne_of_gt (Nat.lt_of_lt_of_le I.lt hb), I.nofs hb, .inr (Nat.le_trans I.sz hb), fun x c e z => ?_, fun p hp z => ?_⟩
  · obtain ⟨v, q⟩ := I.cell x c e
    exact absurd (Nat.lt_of_lt_of_le q.lt (by rw [z]; exact hb)) (Nat.lt_irrefl _)
  · exact absurd (Nat.lt_of_lt_of_le (Heap.lt_size (I.pin p hp).1) (by rw [z]; exact hb)) (Nat.lt_irrefl _)
structure Turn (P : Program) (w : World) (K : PySem.W.Frag) (tg : Expr) (J : It) (fp : List Addr) (it : Addr) (tn : Nat → Heap → Prop) : Prop where
  mem : it ∈ fp
  obj : ∀ i h, tn i h → ∀ b ∈ fp, ∃ o, h.get? b = some o ∧ ∀ v, o.data ≠ .cell v
  keep : ∀ i h h', tn i h → (∀ b ∈ fp, ∀ o, h.get? b = some o → h'.get? b = some o) → tn i h'
  item : ∀ (X : Cx), X.prog = P → X.w = w → X.K = K → X.calm = true → ∀ (i : Nat) (pins : List (Addr × Obj)) (s : Shared) (σ : St) (H : Hp) (E : Value → Shared → Prop), Inv X pins σ H s → (∀ b ∈ fp, FpOk X pins H b) → tn i s.heap → J.go i H →
    wpAny (model P w) X.A (pyNext (.ref it)) (fun r s1 => ∃ u, r = some u ∧
      wpAny (model P w) X.A (letOwnedTupleGo tg (.ref it) u) (fun _ s2 => ∃ x H', Inv X pins σ H' s2 ∧ RelV x u ∧ J.yld i H x H' ∧ tn (i + 1) s2.heap ∧ ∀ b ∈ fp, H' b = none) E s1) E s
  done : ∀ (X : Cx), X.prog = P → X.w = w → X.K = K → X.calm = true → ∀ (i : Nat) (pins : List (Addr × Obj)) (s : Shared) (σ : St) (H : Hp) (E : Value → Shared → Prop), Inv X pins σ H s → (∀ b ∈ fp, FpOk X pins H b) → tn i s.heap → J.stop i H →
    wpAny (model P w) X.A (pyNext (.ref it)) (fun r s1 => r = none ∧ Inv X pins σ H s1) E s
  self : ∀ (A : Around) (i : Nat) (s : Shared) (Q : Value → Shared → Prop) (E : Value → Shared → Prop), tn i s.heap → Q (.ref it) s → wpAny (model P w) A (pyIter (.ref it)) Q E s
abbrev TI := St → Hp → (It → Hp → Prop) → Prop
/-- an iterator has come -/
def PIE (X : Cx) (pins : List (Addr × Obj)) (σ : St) (tg : Expr) (R : It → Hp → Prop) (itv : Value) (s2 : Shared) : Prop :=
  ∃ (it : Addr) (fp : List Addr) (tn : Nat → Heap → Prop) (J : It) (H' : Hp), itv = .ref it ∧ Inv X pins σ H' s2 ∧ Turn X.prog X.w X.K tg J fp it tn ∧ tn 0 s2.heap ∧ (∀ b ∈ fp, FpOk X pins H' b) ∧ R J H'
def PI (X : Cx) (tg iter : Expr) (wi : TI) : Prop :=
  ∀ (pins : List (Addr × Obj)) (s : Shared) (σ : St) (H : Hp) (R : It → Hp → Prop), Inv X pins σ H s → wi σ H R →
    wpAny (model X.prog X.w) X.A (eval iter X.env) (fun v s1 => wpAny (model X.prog X.w) X.A (pyIter v) (PIE X pins σ tg R) X.xe s1) X.xe s

/-- the step ahead of the store is nothing for an iterator that keeps no tuple -/
theorem go_of {M : Model} {A : Around} {E : Value → Shared → Prop} {s : Shared} {tg : Expr} {it : Addr} {u : Value} {o : Obj} {n : String} {vs : Array Value} {Q : Unit → Shared → Prop} (ho : s.heap.get? it = some o) (hc : o.cls = .type n) (hd : o.data = .fields vs)
    (hn : ["enumerate", "zip", "dict_itemiterator", "dict_reverseitemiterator", "odict_iterator", "itertools.zip_longest", "itertools.pairwise"].contains n = false) (hQ : Q () s) : wpAny M A (letOwnedTupleGo tg (.ref it) u) Q E s := by
  unfold letOwnedTupleGo
  cases tg <;> first
    | exact wpAny_pure hQ
    | (cases u <;> first
        | exact wpAny_pure hQ
        | (refine wpAny_bind (wpAny_load ho ?_)
           rw [hc, hd]
           show wpAny M A (if (["enumerate", "zip", "dict_itemiterator", "dict_reverseitemiterator", "odict_iterator", "itertools.zip_longest", "itertools.pairwise"].contains n && vs[0]? == some (rawInt _)) = true then _ else _) Q E s
           rw [if_neg (by intro h; rw [hn, Bool.false_and] at h; cases h)]
           exact wpAny_pure hQ))

/-- the list at a, as it stands at each turn (a loop may append to it) -/
def Itl (K : PySem.W.Frag) (a : Addr) : It :=
  ⟨fun i H => ∃ xs x, SqL K H a xs ∧ xs[i]? = some x, fun i H x H' => H' = H ∧ ∀ xs, SqL K H a xs → xs[i]? = some x, fun i H => ∃ xs, SqL K H a xs ∧ xs.length ≤ i⟩
def Itt (K : PySem.W.Frag) (a : Addr) : It :=
  ⟨fun i H => ∃ xs x, SqT K H a xs ∧ xs[i]? = some x, fun i H x H' => H' = H ∧ ∀ xs, SqT K H a xs → xs[i]? = some x, fun i H => ∃ xs, SqT K H a xs ∧ xs.length ≤ i⟩
/-- lo, lo + 1, .. (n of them) -/
def Itr (lo : Int) (n : Nat) : It := ⟨fun i _ => i < n, fun i H x H' => H' = H ∧ x = .int (lo + i), fun i _ => n ≤ i⟩
theorem turn_list {P : Program} {w : World} {K : PySem.W.Frag} {tg : Expr} (a it : Addr) : Turn P w K tg (Itl K a) [it] it (fun i h => h.IsListIter it a i) where
  mem := by simp
  obj := fun i h st b hb => by
    have e : b = it := by simpa using hb
    subst e
    obtain ⟨o, e, c, d⟩ := st
    exact ⟨o, e, fun v z => by rw [d] at z; cases z⟩
  keep := fun i h h' st k => st.at fun o e => k it (by simp) o e
  item := by
    intro X hP hw hK hc i pins s σ H E I hf st hg
    subst hP hw hK
    obtain ⟨xs, x, hq, hx⟩ := hg
    obtain ⟨its, rv, p, hz⟩ := I.list hq
    obtain ⟨u, hu, ru⟩ := rv.get hx
    obtain ⟨f0, f1, f2, f3, f4, f5⟩ := hf it (by simp)
    refine wpAny_pyNext_list_item st p.isList (x := u) (by simpa using hu) fun h' st' sb => ?_
    have I1 : Inv X pins σ H { s with heap := h' } := I.turned (t' := s.toks) (fun b o hb e => (sb.2 b hb).trans e) f0 f1 f3 f4 f5
    obtain ⟨o, e, c, d⟩ := id st'
    exact ⟨u, rfl, go_of (s := { s with heap := h' }) e c d (by decide) ⟨x, H, I1, ru, ⟨rfl, fun ys hy => by rw [I.list_inj hy hq]; exact hx⟩, st', fun b hb => (hf b hb).1⟩⟩
  done := by
    intro X hP hw hK hc i pins s σ H E I hf st hg
    subst hP hw hK
    obtain ⟨xs, hq, hx⟩ := hg
    obtain ⟨its, rv, p, hz⟩ := I.list hq
    obtain ⟨f0, f1, f2, f3, f4, f5⟩ := hf it (by simp)
    have hl := rv.length
    exact wpAny_pyNext_list_end (I.ok.hd hc) st p.isList (by simp; omega) fun h' eb => ⟨rfl, I.turned (t' := s.toks) (fun b o hb e => eb b o hb e) f0 f1 f3 f4 f5⟩
  self := fun _ _ _ _ _ st h => wpAny_pyIter_listiter st h
theorem turn_tuple {P : Program} {w : World} {K : PySem.W.Frag} {tg : Expr} (a it : Addr) : Turn P w K tg (Itt K a) [it] it (fun i h => h.IsTupleIter it a i) where
  mem := by simp
  obj := fun i h st b hb => by
    have e : b = it := by simpa using hb
    subst e
    obtain ⟨o, e, c, d⟩ := st
    exact ⟨o, e, fun v z => by rw [d] at z; cases z⟩
  keep := fun i h h' st k => st.at fun o e => k it (by simp) o e
  item := by
    intro X hP hw hK hc i pins s σ H E I hf st hg
    subst hP hw hK
    obtain ⟨xs, x, hq, hx⟩ := hg
    obtain ⟨its, rv, p, hz⟩ := I.tuple hq
    obtain ⟨u, hu, ru⟩ := rv.get hx
    obtain ⟨f0, f1, f2, f3, f4, f5⟩ := hf it (by simp)
    refine wpAny_pyNext_tuple_item st (show s.heap.IsTuple a its.toArray from p) (x := u) (by simpa using hu) fun h' st' sb => ?_
    have I1 : Inv X pins σ H { s with heap := h' } := I.turned (t' := s.toks) (fun b o hb e => (sb.2 b hb).trans e) f0 f1 f3 f4 f5
    obtain ⟨o, e, c, d⟩ := id st'
    exact ⟨u, rfl, go_of (s := { s with heap := h' }) e c d (by decide) ⟨x, H, I1, ru, ⟨rfl, fun ys hy => by rw [I.tuple_inj hy hq]; exact hx⟩, st', fun b hb => (hf b hb).1⟩⟩
  done := by
    intro X hP hw hK hc i pins s σ H E I hf st hg
    subst hP hw hK
    obtain ⟨xs, hq, hx⟩ := hg
    obtain ⟨its, rv, p, hz⟩ := I.tuple hq
    obtain ⟨f0, f1, f2, f3, f4, f5⟩ := hf it (by simp)
    have hl := rv.length
    exact wpAny_pyNext_tuple_end (I.ok.hd hc) st (show s.heap.IsTuple a its.toArray from p) (by simp; omega) fun h' eb => ⟨rfl, I.turned (t' := s.toks) (fun b o hb e => eb b o hb e) f0 f1 f3 f4 f5⟩
  self := fun _ _ _ _ _ st h => wpAny_pyIter_tupleiter st h
theorem turn_range {P : Program} {w : World} {K : PySem.W.Frag} {tg : Expr} (it : Addr) (lo : Int) (n : Nat) : Turn P w K tg (Itr lo n) [it] it (fun i h => IsRangeIter h it (lo + (i : Nat) * 1) ((n : Int) - (i : Nat)) 1) where
  mem := by simp
  obj := fun i h st b hb => by
    have e : b = it := by simpa using hb
    subst e
    exact ⟨_, st, fun v z => by
      have z' : Data.fields _ = Data.cell v := z
      cases z'⟩
  keep := fun i h h' st k => k it (by simp) _ st
  item := by
    intro X hP hw hK hc i pins s σ H E I hf st hg
    subst hP hw hK
    obtain ⟨f0, f1, f2, f3, f4, f5⟩ := hf it (by simp)
    have W := Walks.range (prog := X.prog) (w := X.w) (I.ok.hd hc) it lo 1 n
    refine W.item i s _ _ hg st fun v h' tk hv st' kk => ?_
    obtain ⟨t, rfl⟩ := hv
    have I1 : Inv X pins σ H { s with heap := h', toks := tk } := I.turned (fun b o hb e => kk b o (by simpa using hb) e) f0 f1 f3 f4 f5
    refine ⟨_, rfl, go_of (s := { s with heap := h', toks := tk }) (n := "range_iterator") st' rfl rfl (by decide) ⟨.int (lo + i), H, I1, ⟨t, ?_⟩, ⟨rfl, rfl⟩, st', fun b hb => (hf b hb).1⟩⟩
    rw [Int.mul_one]
  done := by
    intro X hP hw hK hc i pins s σ H E I hf st hg
    subst hP hw hK
    obtain ⟨f0, f1, f2, f3, f4, f5⟩ := hf it (by simp)
    exact wpAny_pyNext_range_end (I.ok.hd hc) st (by have : n ≤ i := hg; omega) fun h' eb => ⟨rfl, I.turned (t' := s.toks) (fun b o hb e => eb b o hb e) f0 f1 f3 f4 f5⟩
  self := fun _ _ _ _ _ st h => wpAny_pyIter_rangeiter st h
end L2

namespace L2
open PySem PySem.Spec PyProof.Rows
section
variable {X : Cx} {tg : Expr}
def iList (K : PySem.W.Frag) (tl : TE) : TI := fun σ H R => tl σ H fun x H1 => ∃ a, x = .ref a ∧ (∃ xs, SqL K H1 a xs) ∧ R (Itl K a) H1
def iTup (K : PySem.W.Frag) (tl : TE) : TI := fun σ H R => tl σ H fun x H1 => ∃ a, x = .ref a ∧ (∃ xs, SqT K H1 a xs) ∧ R (Itt K a) H1
theorem pi_list {l : Expr} {tl : TE} (hl : PE X l tl) : PI X tg l (iList X.K tl) := by
  intro pins s σ H R I h
  refine thn (hl pins s σ H _ I h) fun v s1 ⟨x, H1, I1, r1, q1⟩ => ?_
  obtain ⟨a, e, ⟨xs, hq⟩, q⟩ := q1
  subst e
  cases r1
  obtain ⟨its, rv, p, hz⟩ := I1.list hq
  refine wpAny_pyIter_list p.isList ?_
  refine ⟨s1.heap.objs.size, [s1.heap.objs.size], _, _, H1, rfl, I1.kept (t' := s1.toks) fun b o e => Heap.get?_push_of_some _ e, turn_list a _, ⟨_, Heap.get?_push_size _ rfl, rfl, rfl⟩, fun b hb => ?_, q⟩
  have e : b = s1.heap.objs.size := by simpa using hb
  subst e
  exact I1.fpOk (Nat.le_refl _) (I1.hok.fresh (Nat.le_refl _))
theorem pi_tup {l : Expr} {tl : TE} (hl : PE X l tl) : PI X tg l (iTup X.K tl) := by
  intro pins s σ H R I h
  refine thn (hl pins s σ H _ I h) fun v s1 ⟨x, H1, I1, r1, q1⟩ => ?_
  obtain ⟨a, e, ⟨xs, hq⟩, q⟩ := q1
  subst e
  cases r1
  obtain ⟨its, rv, p, hz⟩ := I1.tuple hq
  refine wpAny_pyIter_tuple (show s1.heap.IsTuple a its.toArray from p) ?_
  refine ⟨s1.heap.objs.size, [s1.heap.objs.size], _, _, H1, rfl, I1.kept (t' := s1.toks) fun b o e => Heap.get?_push_of_some _ e, turn_tuple a _, ⟨_, Heap.get?_push_size _ rfl, rfl, rfl⟩, fun b hb => ?_, q⟩
  have e : b = s1.heap.objs.size := by simpa using hb
  subst e
  exact I1.fpOk (Nat.le_refl _) (I1.hok.fresh (Nat.le_refl _))
/-- a range object just made, walked -/
theorem range_it {pins : List (Addr × Obj)} {σ : St} {H : Hp} {s : Shared} {R : It → Hp → Prop} {E : Value → Shared → Prop} {lo hi : Int} {t u v : Tok} {tk : Nat} (I : Inv X pins σ H s) (h1 : -(2 ^ 62) ≤ lo) (h2 : lo < 2 ^ 62) (h3 : -(2 ^ 62) ≤ hi) (h4 : hi < 2 ^ 62)
    (q : R (Itr lo (hi - lo).toNat) H) : wpAny (model X.prog X.w) X.A (pyIter (.ref s.heap.objs.size)) (PIE X pins σ tg R) E { s with heap := s.heap.push { cls := .type "range", data := .fields #[.int lo t, .int hi u, .int 1 v] }, toks := tk } := by
  refine wpAny_pyIter_range (IsRange.new ..) (small_one h1 h2 h3 h4) ?_
  have I1 : Inv X pins σ H { s with heap := s.heap.push { cls := .type "range", data := .fields #[.int lo t, .int hi u, .int 1 v] }, toks := tk } := I.kept fun b o e => Heap.get?_push_of_some _ e
  refine ⟨(s.heap.push { cls := .type "range", data := .fields #[.int lo t, .int hi u, .int 1 v] }).objs.size, [(s.heap.push { cls := .type "range", data := .fields #[.int lo t, .int hi u, .int 1 v] }).objs.size], _, _, H, rfl,
    I1.kept (t' := tk) fun b o e => Heap.get?_push_of_some _ e, turn_range _ lo (hi - lo).toNat, ?_, fun b hb => ?_, q⟩
  · have e1 : lo + ((0 : Nat) : Int) * 1 = lo := by simp
    have e2 : (((hi - lo).toNat : Nat) : Int) - ((0 : Nat) : Int) = Builtin.Range.rangeSize lo hi 1 := by rw [rangeSize_one]; split <;> omega
    show IsRangeIter _ _ (lo + ((0 : Nat) : Int) * 1) ((((hi - lo).toNat : Nat) : Int) - ((0 : Nat) : Int)) 1
    rw [e1, e2]
    exact Heap.get?_push_size _ rfl
  · have e : b = (s.heap.push { cls := .type "range", data := .fields #[.int lo t, .int hi u, .int 1 v] }).objs.size := by simpa using hb
    subst e
    exact I1.fpOk (Nat.le_refl _) (I1.hok.fresh (Nat.le_refl _))
def iRng1 (ta : TA) : TI := fun σ H R => ta σ H fun vs H1 => ∃ j : Int, vs = [.int j] ∧ -(2 ^ 62) ≤ j ∧ j < 2 ^ 62 ∧ R (Itr 0 j.toNat) H1
def iRng2 (ta : TA) : TI := fun σ H R => ta σ H fun vs H1 => ∃ i j : Int, vs = [.int i, .int j] ∧ (-(2 ^ 62) ≤ i ∧ i < 2 ^ 62 ∧ -(2 ^ 62) ≤ j ∧ j < 2 ^ 62) ∧ R (Itr i (j - i).toNat) H1
theorem pi_range1 {a : Expr} {ta : TA} {p pos : Pos} (hg : Gl X "range") (hm : X.mg "range" = none) (ha : PA X [a] ta) (hs : starEach [a] X.env = [(false, eval a X.env)] := by rfl) : PI X tg (.Call (.Name "range" p) [a] [] pos) (iRng1 ta) := by
  intro pins s σ H R I h
  refine Call_ (ld_blt I hg hm boot_range (PyProof.Rows.callWith_type1 (thn (ha pos pins s σ H _ I h) fun us s1 ⟨vs, H1, I1, r1, q1⟩ => ?_) hs rfl))
  obtain ⟨j, e, q1, q2, q⟩ := q1
  subst e
  cases r1 with
  | cons r rr =>
    cases rr
    obtain ⟨t, rfl⟩ := r
    exact call_range_1 (range_it I1 (by omega) (by omega) q1 q2 (by simpa using q))
theorem pi_range2 {a b : Expr} {ta : TA} {p pos : Pos} (hg : Gl X "range") (hm : X.mg "range" = none) (ha : PA X [a, b] ta) (hs : starEach [a, b] X.env = [(false, eval a X.env), (false, eval b X.env)] := by rfl) (hs2 : starEach [b] X.env = [(false, eval b X.env)] := by rfl) :
    PI X tg (.Call (.Name "range" p) [a, b] [] pos) (iRng2 ta) := by
  intro pins s σ H R I h
  refine Call_ (ld_blt I hg hm boot_range (PyProof.Rows.callWith_type1 (thn (ha pos pins s σ H _ I h) fun us s1 ⟨vs, H1, I1, r1, q1⟩ => ?_) (by rw [hs, hs2]) (by rw [hs2]; rfl)))
  obtain ⟨i, j, e, ⟨q1, q2, q3, q4⟩, q⟩ := q1
  subst e
  cases r1 with
  | cons r rr =>
    cases rr with
    | cons r' rr =>
      cases rr
      obtain ⟨t, rfl⟩ := r
      obtain ⟨t', rfl⟩ := r'
      exact call_range_2 (range_it I1 q1 q2 q3 q4 q)

/-! ### for -/
/-- W: the invariant by the turn and a measure; N: what the body is to reach -/
def tFor (wi : TI) (g : TG) (tb : TS) : TS := fun D σ H => wi σ H fun J H1 => ∃ W : Nat → Nat → St → Hp → Prop, (∃ m, W 0 m σ H1) ∧ ∀ i m σ H, W i m σ H →
  (J.stop i H ∧ D.nx σ H) ∨ (J.go i H ∧ ∃ N : St → Hp → Prop, (∀ σ' H', N σ' H' → ∃ m', m' < m ∧ W (i + 1) m' σ' H') ∧ ∀ x H', J.yld i H x H' → g x σ H' fun σ2 H2 => tb { D with nx := N, ct := N, bk := D.nx } σ2 H2)
/-- the records at fp as they stand -/
def pinsAt (fp : List Addr) (h : Heap) : List (Addr × Obj) := fp.filterMap fun b => (h.get? b).map fun o => (b, o)
theorem mem_pinsAt {fp : List Addr} {h : Heap} {b : Addr} {o : Obj} (hb : b ∈ fp) (e : h.get? b = some o) : (b, o) ∈ pinsAt fp h := List.mem_filterMap.mpr ⟨b, hb, by rw [e]; rfl⟩
theorem of_pinsAt {fp : List Addr} {h : Heap} {p : Addr × Obj} (hp : p ∈ pinsAt fp h) : p.1 ∈ fp ∧ h.get? p.1 = some p.2 := by
  obtain ⟨b, hb, e⟩ := List.mem_filterMap.mp hp
  cases q : h.get? b with
  | none => rw [q] at e; cases e
  | some o =>
    rw [q] at e
    have e' : (b, o) = p := Option.some.inj e
    subst e'
    exact ⟨hb, q⟩
theorem Inv.pinned {pins : List (Addr × Obj)} {σ : St} {H : Hp} {s : Shared} {fp : List Addr} (I : Inv X pins σ H s) (hf : ∀ b ∈ fp, FpOk X pins H b) (ho : ∀ b ∈ fp, ∃ o, s.heap.get? b = some o ∧ ∀ v, o.data ≠ .cell v) : Inv X (pins ++ pinsAt fp s.heap) σ H s :=
  I.pins_of fun p hp => (List.mem_append.mp hp).elim (fun z => I.pin p (List.mem_append_right _ z)) fun z => by
    obtain ⟨hb, e⟩ := of_pinsAt z
    obtain ⟨f0, f1, f2, _⟩ := hf p.1 hb
    obtain ⟨o, e', d⟩ := ho p.1 hb
    rw [e] at e'; cases e'
    exact ⟨e, f0, f1, f2, d⟩
theorem Inv.unpinned {pins pl : List (Addr × Obj)} {σ : St} {H : Hp} {s : Shared} (I : Inv X (pins ++ pl) σ H s) : Inv X pins σ H s := I.pins_of fun p hp => I.pin p (List.mem_append_right _ (List.mem_append_left _ hp))
theorem ps_for {iter : Expr} {body : List Stmt} {wi : TI} {g : TG} {tb : TS} {pos : Pos} (hp : PassesOwn (model X.prog X.w) X.A X.env X.xe) (hc : X.calm = true) (hi : PI X tg iter wi) (hg : PG X tg g) (hb : PSs X body tb)
    (hs : ∀ x, foldedSetIterable iter X.env x = pure x := by intro _; rfl) : PS X (.For tg iter body [] pos) (tFor wi g tb) := by
  intro pins s σ H D I h
  refine wpAny_For (thn (hi pins s σ H _ I h) fun v s1 h1 => thn h1 fun itv s2 h2 => ?_) hs
  obtain ⟨it, fp, tn, J, H2, e, I2, T, st2, f2, W, ⟨m0, w0⟩, turn⟩ := h2
  subst e
  -- what stays true of the iterator's objects through the loop
  have stat : ∀ {H' : Hp}, (∀ b ∈ fp, H' b = none) → ∀ b ∈ fp, FpOk X pins H' b := fun hn b hb => ⟨hn b hb, (f2 b hb).2⟩
  refine codeAny_forLoop_any (fun n s' => ∃ i σ' H', Inv X pins σ' H' s' ∧ tn i s'.heap ∧ (∀ b ∈ fp, H' b = none) ∧ W i n σ' H') ?_ m0 ⟨0, σ, H2, I2, st2, fun b hb => (f2 b hb).1, w0⟩
  rintro n s3 ⟨i, σ3, H3, I3, st3, fr3, w3⟩
  rcases turn i n σ3 H3 w3 with ⟨stop, qn⟩ | ⟨go, N, hN, step⟩
  · refine wpAny_passesOwn hp (thn (T.done X rfl rfl rfl hc i pins s3 σ3 H3 X.xe I3 (stat fr3) st3 stop) fun r s4 ⟨hr, I4⟩ => ?_)
    subst hr
    exact wpAny_execs_nil ⟨σ3, H3, I4, qn⟩
  · refine wpAny_passesOwn hp (thn (T.item X rfl rfl rfl hc i pins s3 σ3 H3 X.xe I3 (stat fr3) st3 go) fun r s4 ⟨u, hr, h4⟩ => ?_)
    subst hr
    refine wpAny_passesOwn hp (thn h4 fun _ s5 ⟨x, H5, I5, r5, y5, st5, fr5⟩ => ?_)
    have I5' := I5.pinned (stat fr5) (T.obj _ _ st5)
    refine wpAny_passesOwn hp (thn (hg _ s5 σ3 H5 x u _ I5' r5 (step x H5 y5)) fun _ s6 ⟨σ6, H6, I6, q6⟩ => ?_)
    refine wpAny_passesOwn hp (thn (hb _ s6 σ6 H6 _ I6 q6) fun f s7 q7 => ?_)
    have again : ∀ {σ7 : St} {H7 : Hp}, Inv X (pins ++ pinsAt fp s5.heap) σ7 H7 s7 → N σ7 H7 → ∃ m, m < n ∧ ∃ i σ' H', Inv X pins σ' H' s7 ∧ tn i s7.heap ∧ (∀ b ∈ fp, H' b = none) ∧ W i m σ' H' := fun {σ7 H7} I7 n7 => by
      obtain ⟨m', hm, w7⟩ := hN σ7 H7 n7
      refine ⟨m', hm, i + 1, σ7, H7, I7.unpinned, T.keep _ _ _ st5 fun b hb o e => (I7.pin (b, o) (List.mem_append_right _ (List.mem_append_right _ (mem_pinsAt hb e)))).1, fun b hb => ?_, w7⟩
      obtain ⟨o, e, d⟩ := T.obj _ _ st5 b hb
      exact (I7.pin (b, o) (List.mem_append_right _ (List.mem_append_right _ (mem_pinsAt hb e)))).2.1
    cases f with
    | next => obtain ⟨σ7, H7, I7, n7⟩ := q7; exact again I7 n7
    | cont => obtain ⟨σ7, H7, I7, n7⟩ := q7; exact again I7 n7
    | brk => obtain ⟨σ7, H7, I7, q7⟩ := q7; exact ⟨σ7, H7, I7.unpinned, q7⟩
    | ret v => obtain ⟨x7, σ7, H7, I7, r7, q7⟩ := q7; exact ⟨x7, σ7, H7, I7.unpinned, r7, q7⟩
end

/-! ### the forms one uses -/
/-- over a list that the body leaves as it is -/
theorem for_list {K : PySem.W.Frag} {a : Addr} {xs : List V} {g : TG} {tb : TS} {D : Ends} {σ : St} {H : Hp} (Pv : Nat → St → Hp → Prop) (h0 : Pv 0 σ H) (hl : ∀ i σ H, i ≤ xs.length → Pv i σ H → SqL K H a xs)
    (hs : ∀ i x σ H, xs[i]? = some x → Pv i σ H → g x σ H fun σ2 H2 => tb { D with nx := Pv (i + 1), ct := Pv (i + 1), bk := D.nx } σ2 H2) (hd : ∀ σ H, Pv xs.length σ H → D.nx σ H) :
    ∃ W : Nat → Nat → St → Hp → Prop, (∃ m, W 0 m σ H) ∧ ∀ i m σ H, W i m σ H →
      ((Itl K a).stop i H ∧ D.nx σ H) ∨ ((Itl K a).go i H ∧ ∃ N : St → Hp → Prop, (∀ σ' H', N σ' H' → ∃ m', m' < m ∧ W (i + 1) m' σ' H') ∧ ∀ x H', (Itl K a).yld i H x H' → g x σ H' fun σ2 H2 => tb { D with nx := N, ct := N, bk := D.nx } σ2 H2) := by
  refine ⟨fun i m σ H => m = xs.length - i ∧ i ≤ xs.length ∧ Pv i σ H, ⟨xs.length, by simp, Nat.zero_le _, h0⟩, ?_⟩
  rintro i m σ H ⟨rfl, hi, p⟩
  have q := hl i σ H hi p
  by_cases hlt : i < xs.length
  · refine .inr ⟨⟨xs, xs[i], q, by simp [hlt]⟩, Pv (i + 1), fun σ' H' p' => ⟨xs.length - (i + 1), by omega, rfl, hlt, p'⟩, fun x H' y => ?_⟩
    obtain ⟨e, y⟩ := y
    subst e
    exact hs i x σ _ (y xs q) p
  · have e : i = xs.length := by omega
    subst e
    exact .inl ⟨⟨xs, q, Nat.le_refl _⟩, hd σ H p⟩
theorem for_tup {K : PySem.W.Frag} {a : Addr} {xs : List V} {g : TG} {tb : TS} {D : Ends} {σ : St} {H : Hp} (Pv : Nat → St → Hp → Prop) (h0 : Pv 0 σ H) (hl : ∀ i σ H, i ≤ xs.length → Pv i σ H → SqT K H a xs)
    (hs : ∀ i x σ H, xs[i]? = some x → Pv i σ H → g x σ H fun σ2 H2 => tb { D with nx := Pv (i + 1), ct := Pv (i + 1), bk := D.nx } σ2 H2) (hd : ∀ σ H, Pv xs.length σ H → D.nx σ H) :
    ∃ W : Nat → Nat → St → Hp → Prop, (∃ m, W 0 m σ H) ∧ ∀ i m σ H, W i m σ H →
      ((Itt K a).stop i H ∧ D.nx σ H) ∨ ((Itt K a).go i H ∧ ∃ N : St → Hp → Prop, (∀ σ' H', N σ' H' → ∃ m', m' < m ∧ W (i + 1) m' σ' H') ∧ ∀ x H', (Itt K a).yld i H x H' → g x σ H' fun σ2 H2 => tb { D with nx := N, ct := N, bk := D.nx } σ2 H2) := by
  refine ⟨fun i m σ H => m = xs.length - i ∧ i ≤ xs.length ∧ Pv i σ H, ⟨xs.length, by simp, Nat.zero_le _, h0⟩, ?_⟩
  rintro i m σ H ⟨rfl, hi, p⟩
  have q := hl i σ H hi p
  by_cases hlt : i < xs.length
  · refine .inr ⟨⟨xs, xs[i], q, by simp [hlt]⟩, Pv (i + 1), fun σ' H' p' => ⟨xs.length - (i + 1), by omega, rfl, hlt, p'⟩, fun x H' y => ?_⟩
    obtain ⟨e, y⟩ := y
    subst e
    exact hs i x σ _ (y xs q) p
  · have e : i = xs.length := by omega
    subst e
    exact .inl ⟨⟨xs, q, Nat.le_refl _⟩, hd σ H p⟩
theorem for_range {lo : Int} {n : Nat} {g : TG} {tb : TS} {D : Ends} {σ : St} {H : Hp} (Pv : Nat → St → Hp → Prop) (h0 : Pv 0 σ H)
    (hs : ∀ i σ H, i < n → Pv i σ H → g (.int (lo + i)) σ H fun σ2 H2 => tb { D with nx := Pv (i + 1), ct := Pv (i + 1), bk := D.nx } σ2 H2) (hd : ∀ σ H, Pv n σ H → D.nx σ H) :
    ∃ W : Nat → Nat → St → Hp → Prop, (∃ m, W 0 m σ H) ∧ ∀ i m σ H, W i m σ H →
      ((Itr lo n).stop i H ∧ D.nx σ H) ∨ ((Itr lo n).go i H ∧ ∃ N : St → Hp → Prop, (∀ σ' H', N σ' H' → ∃ m', m' < m ∧ W (i + 1) m' σ' H') ∧ ∀ x H', (Itr lo n).yld i H x H' → g x σ H' fun σ2 H2 => tb { D with nx := N, ct := N, bk := D.nx } σ2 H2) := by
  refine ⟨fun i m σ H => m = n - i ∧ i ≤ n ∧ Pv i σ H, ⟨n, by simp, Nat.zero_le _, h0⟩, ?_⟩
  rintro i m σ H ⟨rfl, hi, p⟩
  by_cases hlt : i < n
  · refine .inr ⟨hlt, Pv (i + 1), fun σ' H' p' => ⟨n - (i + 1), by omega, rfl, hlt, p'⟩, fun x H' y => ?_⟩
    obtain ⟨e, y⟩ := y
    subst e y
    exact hs i σ _ hlt p
  · have e : i = n := by omega
    subst e
    exact .inl ⟨Nat.le_refl _, hd σ H p⟩
/-- while, by a word and a measure of the state -/
theorem while_by {c : TT} {tb : TS} {D : Ends} {σ : St} {H : Hp} (Pv : St → Hp → Prop) (μ : St → Hp → Nat) (h0 : Pv σ H)
    (hs : ∀ σ H, Pv σ H → c σ H fun b H1 => if b = true then tb { D with nx := fun σ' H' => Pv σ' H' ∧ μ σ' H' < μ σ H, ct := fun σ' H' => Pv σ' H' ∧ μ σ' H' < μ σ H, bk := D.nx } σ H1 else D.nx σ H1)
    (mono : ∀ σ H Q Q', (∀ b H1, Q b H1 → Q' b H1) → c σ H Q → c σ H Q') : tWhile c tb D σ H := by
  refine ⟨fun m σ H => m = μ σ H ∧ Pv σ H, ⟨_, rfl, h0⟩, ?_⟩
  rintro m σ H ⟨rfl, p⟩
  refine mono σ H _ _ (fun b H1 q => ?_) (hs σ H p)
  cases b with
  | true => exact ⟨_, fun σ' H' ⟨p', l⟩ => ⟨_, l, rfl, p'⟩, q⟩
  | false => exact q
end L2

namespace L2
open PySem PySem.Spec PyProof.Rows

abbrev R2 := V → V → Hp → VK → Prop
/-- a two-place operation on values: f is binaryOp op, inplaceOp op or compareOp op -/
def OpR (X : Cx) (f : Value → Value → Sem Value) (r : R2) : Prop :=
  ∀ (pins : List (Addr × Obj)) (s : Shared) (σ : St) (H : Hp) (x y : V) (v u : Value) (Q : VK), Inv X pins σ H s → RelV x v → RelV y u → r x y H Q →
    wpAny (model X.prog X.w) X.A (f v u) (EP X pins σ Q) X.xe s
/-- a one-place operation -/
def UnR (X : Cx) (f : Value → Sem Value) (r : V → Hp → VK → Prop) : Prop :=
  ∀ (pins : List (Addr × Obj)) (s : Shared) (σ : St) (H : Hp) (x : V) (v : Value) (Q : VK), Inv X pins σ H s → RelV x v → r x H Q →
    wpAny (model X.prog X.w) X.A (f v) (EP X pins σ Q) X.xe s
/-- a call of a value that is known (a builtin, a type) with values -/
def CallR (X : Cx) (f : Value) (r : List V → Hp → VK → Prop) : Prop :=
  ∀ (pins : List (Addr × Obj)) (s : Shared) (σ : St) (H : Hp) (xs : List V) (us : List Value) (Q : VK), Inv X pins σ H s → Vals xs us → r xs H Q →
    wpAny (model X.prog X.w) X.A (call f us) (EP X pins σ Q) X.xe s
/-- a value's truth -/
def TruR (X : Cx) (r : V → Hp → (Bool → Hp → Prop) → Prop) : Prop :=
  ∀ (pins : List (Addr × Obj)) (s : Shared) (σ : St) (H : Hp) (x : V) (v : Value) (Q : Bool → Hp → Prop), Inv X pins σ H s → RelV x v → r x H Q →
    wpAny (model X.prog X.w) X.A (truthy v) (TP X pins σ Q) X.xe s

def tOp (r : R2) (ta tb : TE) : TE := fun σ H Q => ta σ H fun x H1 => tb σ H1 fun y H2 => r x y H2 Q
def tUn (r : V → Hp → VK → Prop) (ta : TE) : TE := fun σ H Q => ta σ H fun x H1 => r x H1 Q
/-- ints in, under C, and a value out -/
def rI (C : Int → Int → Prop) (g : Int → Int → V) : R2 := fun x y H Q => ∃ i j, x = .int i ∧ y = .int j ∧ C i j ∧ Q (g i j) H
def rI0 (g : Int → Int → V) : R2 := fun x y H Q => ∃ i j, x = .int i ∧ y = .int j ∧ Q (g i j) H
def rU (g : Int → V) : V → Hp → VK → Prop := fun x H Q => ∃ i, x = .int i ∧ Q (g i) H

section
variable {X : Cx} {a b c : Expr} {ta tb tc : TE} {pos : Pos}

theorem binT (ha : PE X a ta) (hb : PE X b tb) {pins : List (Addr × Obj)} {s : Shared} {σ : St} {H : Hp} {R : V → V → Hp → Prop} (I : Inv X pins σ H s)
    (h : ta σ H fun x H1 => tb σ H1 fun y H2 => R x y H2) {Q : Value → Shared → Prop} {f : Value → Value → Sem Value}
    (hf : ∀ v u s2 x y H2, Inv X pins σ H2 s2 → RelV x v → RelV y u → R x y H2 → wpAny (model X.prog X.w) X.A (f v u) Q X.xe s2) :
    wpAny (model X.prog X.w) X.A (eval a X.env) (fun v s₁ => wpAny (model X.prog X.w) X.A (eval b X.env) (fun u s₂ => wpAny (model X.prog X.w) X.A (f v u) Q X.xe s₂) X.xe s₁) X.xe s := by
  refine thn (ha pins s σ H _ I h) fun v s1 ⟨x, H1, I1, r1, q1⟩ => ?_
  refine thn (hb pins s1 σ H1 _ I1 q1) fun u s2 ⟨y, H2, I2, r2, q2⟩ => ?_
  exact hf v u s2 x y H2 I2 r1 r2 q2

theorem pe_op {op : Operator} {r : R2} (ho : OpR X (binaryOp op) r) (ha : PE X a ta) (hb : PE X b tb) : PE X (.BinOp a op b pos) (tOp r ta tb) := by
  intro pins s σ H Q I h
  exact wpAny_BinOp (binT ha hb I h fun v u s2 x y H2 I2 rx ry q => ho pins s2 σ H2 x y v u Q I2 rx ry q)
theorem pe_un {op : UnaryOp} {r : V → Hp → VK → Prop} (ho : UnR X (unaryOp op) r) (ha : PE X a ta) : PE X (.UnaryOp op a pos) (tUn r ta) := by
  intro pins s σ H Q I h
  exact UnaryOp_ (thn (ha pins s σ H _ I h) fun v s1 ⟨x, H1, I1, r1, q1⟩ => ho pins s1 σ H1 x v Q I1 r1 q1)
/-- a op= e at a name: the name's slot i -/
theorem augR {op : Operator} {r : R2} (ho : OpR X (inplaceOp op) r) {pins : List (Addr × Obj)} {s : Shared} {σ : St} {H : Hp} {x y : V} {v u : Value} {Q : VK} (I : Inv X pins σ H s)
    (rx : RelV x v) (ry : RelV y u) (q : r x y H Q) : wpAny (model X.prog X.w) X.A (inplaceOp op v u) (EP X pins σ Q) X.xe s := ho pins s σ H x y v u Q I rx ry q

/-! ### ints -/
theorem opI {f : Value → Value → Sem Value} {C : Int → Int → Prop} {g : Int → Int → Int}
    (rule : ∀ (i j : Int) (t u : Tok) (s : Shared) (Q : Value → Shared → Prop) (E : Value → Shared → Prop), C i j → Q (.int (g i j) s.toks) { s with toks := s.toks + 1 } → wpAny (model X.prog X.w) X.A (f (.int i t) (.int j u)) Q E s) :
    OpR X f (rI C fun i j => .int (g i j)) := by
  intro pins s σ H x y v u Q I rx ry h
  obtain ⟨i, j, rfl, rfl, hc, q⟩ := h
  obtain ⟨t, rfl⟩ := rx
  obtain ⟨t', rfl⟩ := ry
  exact rule i j t t' s _ _ hc ⟨.int (g i j), H, I.tok _, ⟨_, rfl⟩, q⟩
theorem opI0 {f : Value → Value → Sem Value} {g : Int → Int → Int}
    (rule : ∀ (i j : Int) (t u : Tok) (s : Shared) (Q : Value → Shared → Prop) (E : Value → Shared → Prop), Q (.int (g i j) s.toks) { s with toks := s.toks + 1 } → wpAny (model X.prog X.w) X.A (f (.int i t) (.int j u)) Q E s) :
    OpR X f (rI0 fun i j => .int (g i j)) := by
  intro pins s σ H x y v u Q I rx ry h
  obtain ⟨i, j, rfl, rfl, q⟩ := h
  obtain ⟨t, rfl⟩ := rx
  obtain ⟨t', rfl⟩ := ry
  exact rule i j t t' s _ _ ⟨.int (g i j), H, I.tok _, ⟨_, rfl⟩, q⟩
theorem opB0 {f : Value → Value → Sem Value} {g : Int → Int → Bool}
    (rule : ∀ (i j : Int) (t u : Tok) (s : Shared) (Q : Value → Shared → Prop) (E : Value → Shared → Prop), Q (.bool (g i j)) s → wpAny (model X.prog X.w) X.A (f (.int i t) (.int j u)) Q E s) :
    OpR X f (rI0 fun i j => .bl (g i j)) := by
  intro pins s σ H x y v u Q I rx ry h
  obtain ⟨i, j, rfl, rfl, q⟩ := h
  obtain ⟨t, rfl⟩ := rx
  obtain ⟨t', rfl⟩ := ry
  exact rule i j t t' s _ _ ⟨.bl (g i j), H, I, rfl, q⟩

def CDiv (i j : Int) : Prop := 0 < j ∧ j < 1073741824
def CDivN (i j : Int) : Prop := j ≠ 0 ∧ j.natAbs < 1073741824
def CPow (i j : Int) : Prop := 0 ≤ j ∧ j ≤ 1000000 ∧ i.natAbs < 2 ^ 64
def CMul (i j : Int) : Prop := (-(2 ^ 64) < i ∧ i < 2 ^ 64) ∨ (-(2 ^ 64) < j ∧ j < 2 ^ 64)
theorem CMul.ok {i j : Int} (h : CMul i j) : IntMulOk i j := by
  rcases h with ⟨h1, h2⟩ | ⟨h1, h2⟩
  · exact .of_left (intBits_le_64 h1 h2)
  · exact .of_right (intBits_le_64 h1 h2)
theorem two_pow_nn (k : Nat) : (0 : Int) ≤ 2 ^ k := by
  rw [two_pow_cast]
  exact Int.natCast_nonneg _

theorem op_add : OpR X (binaryOp .Add) (rI0 fun i j => .int (i + j)) := opI0 fun _ _ _ _ _ _ _ q => add_int q
theorem op_sub : OpR X (binaryOp .Sub) (rI0 fun i j => .int (i - j)) := opI0 fun _ _ _ _ _ _ _ q => sub_int q
theorem op_mul : OpR X (binaryOp .Mult) (rI CMul fun i j => .int (i * j)) := opI fun _ _ _ _ _ _ _ hc q => mul_int q hc.ok
/-- // by a positive divisor -/
theorem op_fdiv : OpR X (binaryOp .FloorDiv) (rI CDiv fun i j => .int (i / j)) := opI fun i j _ _ _ _ _ hc q => by
  have h1 : (0 : Int) < j := hc.1
  have h2 : j < 1073741824 := hc.2
  exact floordiv_int (by omega) (by rw [Int.fdiv_eq_ediv_of_nonneg i (by omega)]; exact q) (.inl (PyProof.noPylong_small (by omega)))
theorem op_fdivN : OpR X (binaryOp .FloorDiv) (rI CDivN fun i j => .int (i.fdiv j)) := opI fun _ _ _ _ _ _ _ hc q => floordiv_int hc.1 q (.inl (PyProof.noPylong_small hc.2))
/-- % by a positive divisor of any size -/
theorem op_mod : OpR X (binaryOp .Mod) (rI (fun _ j => 0 < j) fun i j => .int (i % j)) := opI fun i j _ _ _ _ _ hc q => by
  have h1 : (0 : Int) < j := hc
  exact mod_int' (by omega) (by rw [Int.fmod_eq_emod_of_nonneg i (by omega)]; exact q)
theorem op_modN : OpR X (binaryOp .Mod) (rI (fun _ j => j ≠ 0) fun i j => .int (i.fmod j)) := opI fun _ _ _ _ _ _ _ hc q => mod_int' hc q
theorem op_pow : OpR X (binaryOp .Pow) (rI CPow fun i j => .int (i ^ j.toNat)) := opI fun _ _ _ _ _ _ _ hc q => pow_int_small hc.1 hc.2.1 hc.2.2 q
theorem op_shl : OpR X (binaryOp .LShift) (rI CPow fun i j => .int (i * 2 ^ j.toNat)) := opI fun _ _ _ _ _ _ _ hc q => lshift_int_small hc.1 hc.2.1 hc.2.2 q
theorem op_shr : OpR X (binaryOp .RShift) (rI (fun _ j => 0 ≤ j) fun i j => .int (i / 2 ^ j.toNat)) := opI fun i j _ _ _ _ _ hc q =>
  rshift_int hc (by rw [Int.fdiv_eq_ediv_of_nonneg i (two_pow_nn _)]; exact q)
theorem op_and : OpR X (binaryOp .BitAnd) (rI0 fun i j => .int (Builtin.bitAnd i j)) := opI0 fun _ _ _ _ _ _ _ q => and_int q
theorem op_or : OpR X (binaryOp .BitOr) (rI0 fun i j => .int (Builtin.bitOr i j)) := opI0 fun _ _ _ _ _ _ _ q => or_int q
theorem op_xor : OpR X (binaryOp .BitXor) (rI0 fun i j => .int (Builtin.bitXor i j)) := opI0 fun _ _ _ _ _ _ _ q => xor_int q

theorem iop_add : OpR X (inplaceOp .Add) (rI0 fun i j => .int (i + j)) := opI0 fun _ _ _ _ _ _ _ q => iadd_int q
theorem iop_sub : OpR X (inplaceOp .Sub) (rI0 fun i j => .int (i - j)) := opI0 fun _ _ _ _ _ _ _ q => isub_int q
theorem iop_mul : OpR X (inplaceOp .Mult) (rI CMul fun i j => .int (i * j)) := opI fun _ _ _ _ _ _ _ hc q => imul_int q hc.ok
theorem iop_fdiv : OpR X (inplaceOp .FloorDiv) (rI CDiv fun i j => .int (i / j)) := opI fun i j _ _ _ _ _ hc q => by
  have h1 : (0 : Int) < j := hc.1
  have h2 : j < 1073741824 := hc.2
  exact ifloordiv_int (by omega) (by rw [Int.fdiv_eq_ediv_of_nonneg i (by omega)]; exact q) (.inl (PyProof.noPylong_small (by omega)))
theorem iop_mod : OpR X (inplaceOp .Mod) (rI (fun _ j => 0 < j) fun i j => .int (i % j)) := opI fun i j _ _ _ _ _ hc q => by
  have h1 : (0 : Int) < j := hc
  exact imod_int (by omega) (by rw [Int.fmod_eq_emod_of_nonneg i (by omega)]; exact q)
theorem iop_shl : OpR X (inplaceOp .LShift) (rI CPow fun i j => .int (i * 2 ^ j.toNat)) := opI fun _ _ _ _ _ _ _ hc q => ilshift_int_small hc.1 hc.2.1 hc.2.2 q
theorem iop_shr : OpR X (inplaceOp .RShift) (rI (fun _ j => 0 ≤ j) fun i j => .int (i / 2 ^ j.toNat)) := opI fun i j _ _ _ _ _ hc q =>
  irshift_int hc (by rw [Int.fdiv_eq_ediv_of_nonneg i (two_pow_nn _)]; exact q)
theorem iop_and : OpR X (inplaceOp .BitAnd) (rI0 fun i j => .int (Builtin.bitAnd i j)) := opI0 fun _ _ _ _ _ _ _ q => iand_int q
theorem iop_or : OpR X (inplaceOp .BitOr) (rI0 fun i j => .int (Builtin.bitOr i j)) := opI0 fun _ _ _ _ _ _ _ q => ior_int q
theorem iop_xor : OpR X (inplaceOp .BitXor) (rI0 fun i j => .int (Builtin.bitXor i j)) := opI0 fun _ _ _ _ _ _ _ q => ixor_int q

theorem unI {f : Value → Sem Value} {g : Int → Int}
    (rule : ∀ (i : Int) (t : Tok) (s : Shared) (Q : Value → Shared → Prop) (E : Value → Shared → Prop), Q (.int (g i) s.toks) { s with toks := s.toks + 1 } → wpAny (model X.prog X.w) X.A (f (.int i t)) Q E s) :
    UnR X f (rU fun i => .int (g i)) := by
  intro pins s σ H x v Q I rx h
  obtain ⟨i, rfl, q⟩ := h
  obtain ⟨t, rfl⟩ := rx
  exact rule i t s _ _ ⟨.int (g i), H, I.tok _, ⟨_, rfl⟩, q⟩
theorem un_neg : UnR X (unaryOp .USub) (rU fun i => .int (-i)) := unI fun _ _ _ _ _ q => neg_int q
theorem un_inv : UnR X (unaryOp .Invert) (rU fun i => .int (Builtin.bitNot i)) := unI fun _ _ _ _ _ q => invert_int q

/-! ### bools among ints: n += (a < b) -/
theorem op_add_ib : OpR X (binaryOp .Add) (fun x y H Q => ∃ i k, x = .int i ∧ y = .bl k ∧ Q (.int (i + b2i k)) H) := by
  intro pins s σ H x y v u Q I rx ry h
  obtain ⟨i, k, rfl, rfl, q⟩ := h
  obtain ⟨t, rfl⟩ := rx
  cases ry
  exact add_int_bool ⟨.int (i + b2i k), H, I.tok _, ⟨_, rfl⟩, q⟩
end

/-! ### comparisons -/
/-- the scalars that == tells apart as data does -/
def scal : V → V → Bool
  | .non, .non => true | .non, .int _ => true | .int _, .non => true | .non, .bl _ => true | .bl _, .non => true | .non, .str _ => true | .str _, .non => true
  | .int _, .int _ => true | .bl _, .bl _ => true | .str _, .str _ => true | .byt _, .byt _ => true
  | .int _, .str _ => true | .str _, .int _ => true | .bl _, .str _ => true | .str _, .bl _ => true
  | _, _ => false
def rEq : R2 := fun x y H Q => scal x y = true ∧ Q (.bl (decide (x = y))) H
def rNe : R2 := fun x y H Q => scal x y = true ∧ Q (.bl (!decide (x = y))) H

theorem dec_int {i j : Int} : decide (V.int i = V.int j) = (i == j) := by
  rw [Bool.eq_iff_iff]
  simp
theorem dec_bl {i j : Bool} : decide (V.bl i = V.bl j) = (i == j) := by
  rw [Bool.eq_iff_iff]
  simp
theorem dec_str {i j : Str} : decide (V.str i = V.str j) = (i == j) := by
  rw [Bool.eq_iff_iff]
  simp
theorem dec_byt {i j : Array UInt8} : decide (V.byt i = V.byt j) = (i.toList == j.toList) := by
  rw [Bool.eq_iff_iff]
  cases i
  cases j
  simp

section
variable {X : Cx} {a b c : Expr} {ta tb tc : TE} {pos : Pos}
theorem fin_bl {pins : List (Addr × Obj)} {σ : St} {H : Hp} {s : Shared} {Q : VK} {k k' : Bool} (I : Inv X pins σ H s) (q : Q (.bl k) H) (e : k = k') : EP X pins σ Q (.bool k') s := by
  subst e
  exact ⟨.bl k, H, I, rfl, q⟩
theorem op_eq : OpR X (compareOp .Eq) rEq := by
  intro pins s σ H x y v u Q I rx ry h
  obtain ⟨hs, q⟩ := h
  cases x with
  | non =>
    cases rx
    cases y with
    | non => cases ry; exact PySem.EqNone.eq_none_none (fin_bl I q (by simp))
    | bl j => cases ry; exact PySem.EqNone.eq_none_bool (fin_bl I q (by simp))
    | int j => obtain ⟨t', rfl⟩ := ry; exact PySem.EqNone.eq_none_int (fin_bl I q (by simp))
    | str j => obtain ⟨t', rfl⟩ := ry; exact PySem.EqNone.eq_none_str (fin_bl I q (by simp))
    | _ => exact absurd (show false = true from hs) Bool.false_ne_true
  | bl i =>
    cases rx
    cases y with
    | non => cases ry; exact PySem.EqNone.eq_bool_none (fin_bl I q (by simp))
    | bl j => cases ry; exact eq_bool (fin_bl I q dec_bl)
    | str j => obtain ⟨t', rfl⟩ := ry; exact PySem.EqMixed.eq_bool_str (fin_bl I q (by simp))
    | _ => exact absurd (show false = true from hs) Bool.false_ne_true
  | int i =>
    obtain ⟨t, rfl⟩ := rx
    cases y with
    | non => cases ry; exact PySem.EqNone.eq_int_none (fin_bl I q (by simp))
    | int j => obtain ⟨t', rfl⟩ := ry; exact eq_int (fin_bl I q dec_int)
    | str j => obtain ⟨t', rfl⟩ := ry; exact PySem.EqMixed.eq_int_str (fin_bl I q (by simp))
    | _ => exact absurd (show false = true from hs) Bool.false_ne_true
  | str i =>
    obtain ⟨t, rfl⟩ := rx
    cases y with
    | non => cases ry; exact PySem.EqNone.eq_str_none (fin_bl I q (by simp))
    | bl j => cases ry; exact PySem.EqMixed.eq_str_bool (fin_bl I q (by simp))
    | int j => obtain ⟨t', rfl⟩ := ry; exact PySem.EqMixed.eq_str_int (fin_bl I q (by simp))
    | str j => obtain ⟨t', rfl⟩ := ry; exact eq_str (fin_bl I q dec_str)
    | _ => exact absurd (show false = true from hs) Bool.false_ne_true
  | byt i =>
    obtain ⟨t, rfl⟩ := rx
    cases y with
    | byt j => obtain ⟨t', rfl⟩ := ry; exact PySem.W.eq_bytes (fin_bl I q dec_byt)
    | _ => exact absurd (show false = true from hs) Bool.false_ne_true
  | _ => cases y <;> exact absurd (show false = true from hs) Bool.false_ne_true
theorem op_ne : OpR X (compareOp .NotEq) rNe := by
  intro pins s σ H x y v u Q I rx ry h
  obtain ⟨hs, q⟩ := h
  cases x with
  | non =>
    cases rx
    cases y with
    | non => cases ry; exact PySem.EqNone.ne_none_none (fin_bl I q (by simp))
    | bl j => cases ry; exact PySem.EqNone.ne_none_bool (fin_bl I q (by simp))
    | int j => obtain ⟨t', rfl⟩ := ry; exact PySem.EqNone.ne_none_int (fin_bl I q (by simp))
    | str j => obtain ⟨t', rfl⟩ := ry; exact PySem.EqNone.ne_none_str (fin_bl I q (by simp))
    | _ => exact absurd (show false = true from hs) Bool.false_ne_true
  | bl i =>
    cases rx
    cases y with
    | non => cases ry; exact PySem.EqNone.ne_bool_none (fin_bl I q (by simp))
    | bl j => cases ry; exact ne_bool (fin_bl I q (congrArg not dec_bl))
    | str j => obtain ⟨t', rfl⟩ := ry; exact PySem.EqMixed.ne_bool_str (fin_bl I q (by simp))
    | _ => exact absurd (show false = true from hs) Bool.false_ne_true
  | int i =>
    obtain ⟨t, rfl⟩ := rx
    cases y with
    | non => cases ry; exact PySem.EqNone.ne_int_none (fin_bl I q (by simp))
    | int j => obtain ⟨t', rfl⟩ := ry; exact ne_int (fin_bl I q (congrArg not dec_int))
    | str j => obtain ⟨t', rfl⟩ := ry; exact PySem.EqMixed.ne_int_str (fin_bl I q (by simp))
    | _ => exact absurd (show false = true from hs) Bool.false_ne_true
  | str i =>
    obtain ⟨t, rfl⟩ := rx
    cases y with
    | non => cases ry; exact PySem.EqNone.ne_str_none (fin_bl I q (by simp))
    | bl j => cases ry; exact PySem.EqMixed.ne_str_bool (fin_bl I q (by simp))
    | int j => obtain ⟨t', rfl⟩ := ry; exact PySem.EqMixed.ne_str_int (fin_bl I q (by simp))
    | str j => obtain ⟨t', rfl⟩ := ry; exact ne_str (fin_bl I q (congrArg not dec_str))
    | _ => exact absurd (show false = true from hs) Bool.false_ne_true
  | byt i =>
    obtain ⟨t, rfl⟩ := rx
    cases y with
    | byt j => obtain ⟨t', rfl⟩ := ry; exact PySem.W.ne_bytes (fin_bl I q (congrArg not dec_byt))
    | _ => exact absurd (show false = true from hs) Bool.false_ne_true
  | _ => cases y <;> exact absurd (show false = true from hs) Bool.false_ne_true

theorem op_lt : OpR X (compareOp .Lt) (rI0 fun i j => .bl (decide (i < j))) := opB0 fun _ _ _ _ _ _ _ q => lt_int q
theorem op_le : OpR X (compareOp .LtE) (rI0 fun i j => .bl (decide (i ≤ j))) := opB0 fun _ _ _ _ _ _ _ q => le_int q
theorem op_gt : OpR X (compareOp .Gt) (rI0 fun i j => .bl (decide (j < i))) := opB0 fun _ _ _ _ _ _ _ q => gt_int q
theorem op_ge : OpR X (compareOp .GtE) (rI0 fun i j => .bl (decide (j ≤ i))) := opB0 fun _ _ _ _ _ _ _ q => ge_int q
theorem op_lt_str : OpR X (compareOp .Lt) (fun x y H Q => ∃ i j, x = .str i ∧ y = .str j ∧ Q (.bl (decide (i.cps.toList < j.cps.toList))) H) := by
  intro pins s σ H x y v u Q I rx ry h
  obtain ⟨i, j, rfl, rfl, q⟩ := h
  obtain ⟨t, rfl⟩ := rx
  obtain ⟨t', rfl⟩ := ry
  exact lt_str (fin_bl I q rfl)
/-- the one string within the other -/
theorem op_in_str : OpR X (compareOp .In) (fun x y H Q => ∃ i j, x = .str i ∧ y = .str j ∧ Q (.bl (!(Builtin.Str.occurrences j i 0 j.length 1).isEmpty)) H) := by
  intro pins s σ H x y v u Q I rx ry h
  obtain ⟨i, j, rfl, rfl, q⟩ := h
  obtain ⟨t, rfl⟩ := rx
  obtain ⟨t', rfl⟩ := ry
  exact in_str (fin_bl I q rfl)

/-- is None, is not None: the right side a value none -/
theorem op_isN : OpR X (compareOp .Is) (fun x y H Q => y = .non ∧ Q (.bl (decide (x = .non))) H) := by
  intro pins s σ H x y v u Q I rx ry h
  obtain ⟨rfl, q⟩ := h
  cases ry
  refine is_none_gen (fin_bl I q ?_)
  cases x <;> first
    | (cases rx; rfl)
    | (obtain ⟨t, rfl⟩ := rx; rfl)
theorem op_notN : OpR X (compareOp .IsNot) (fun x y H Q => y = .non ∧ Q (.bl (!decide (x = .non))) H) := by
  intro pins s σ H x y v u Q I rx ry h
  obtain ⟨rfl, q⟩ := h
  cases ry
  refine isnot_none_gen (fin_bl I q ?_)
  cases x <;> first
    | (cases rx; rfl)
    | (obtain ⟨t, rfl⟩ := rx; rfl)

theorem op_notin_str : OpR X (compareOp .NotIn) (fun x y H Q => ∃ i j, x = .str i ∧ y = .str j ∧ Q (.bl (!(!(Builtin.Str.occurrences j i 0 j.length 1).isEmpty))) H) := by
  intro pins s σ H x y v u Q I rx ry h
  obtain ⟨i, j, rfl, rfl, q⟩ := h
  obtain ⟨t, rfl⟩ := rx
  obtain ⟨t', rfl⟩ := ry
  exact notIn_str (fin_bl I q rfl)
/-- is, is not of two objects that are tracked lists or instances -/
def isObj : HO → Bool
  | .lst _ => true
  | .ins _ _ _ => true
  | _ => false
theorem obj_there {pins : List (Addr × Obj)} {s : Shared} {σ : St} {H : Hp} {a : Addr} {o : HO} (I : Inv X pins σ H s) (h : H a = some o) (p : isObj o = true) : ∃ ob, s.heap.get? a = some ob ∧ ob.cls ≠ .type "tuple" := by
  cases o with
  | lst xs =>
    obtain ⟨_, its, n, _, e⟩ : xs.length ≤ sizeLine ∧ ∃ (its : List Value) (n : Nat), Vals xs its ∧ s.heap.get? a = some { cls := .type "list", data := .seq its.toArray n } := I.hok a _ h
    exact ⟨_, e, (by show Value.type "list" ≠ .type "tuple"; decide +kernel)⟩
  | ins C dx fs =>
    have x := I.hok a _ h
    obtain ⟨_, _, _, e, _⟩ := x
    exact ⟨_, e, (by show Value.ref C ≠ .type "tuple"; exact fun z => by cases z)⟩
  | _ => exact absurd (show false = true from p) Bool.false_ne_true
theorem op_is_ref : OpR X (compareOp .Is) (fun x y H Q => ∃ a b oa ob, x = .ref a ∧ y = .ref b ∧ H a = some oa ∧ isObj oa = true ∧ H b = some ob ∧ isObj ob = true ∧ Q (.bl (decide (a = b))) H) := by
  intro pins s σ H x y v u Q I rx ry h
  obtain ⟨a, b, oa, ob, rfl, rfl, ha, pa, hb, pb, q⟩ := h
  cases rx
  cases ry
  obtain ⟨o1, e1, n1⟩ := obj_there I ha pa
  obtain ⟨o2, e2, _⟩ := obj_there I hb pb
  by_cases z : a = b
  · subst z
    exact wpAny_is_ref_self (fin_bl I q (by simp))
  · exact wpAny_is_ref_other z e1 e2 n1 (fin_bl I q (by simp [z]))
theorem op_isnot_ref : OpR X (compareOp .IsNot) (fun x y H Q => ∃ a b oa ob, x = .ref a ∧ y = .ref b ∧ H a = some oa ∧ isObj oa = true ∧ H b = some ob ∧ isObj ob = true ∧ Q (.bl (!decide (a = b))) H) := by
  intro pins s σ H x y v u Q I rx ry h
  obtain ⟨a, b, oa, ob, rfl, rfl, ha, pa, hb, pb, q⟩ := h
  cases rx
  cases ry
  obtain ⟨o1, e1, n1⟩ := obj_there I ha pa
  obtain ⟨o2, e2, _⟩ := obj_there I hb pb
  by_cases z : a = b
  · subst z
    exact wpAny_isNot_ref_self (fin_bl I q (by simp))
  · exact wpAny_isNot_ref_other z e1 e2 n1 (fin_bl I q (by simp [z]))

/-- two rules for one operation: by cases -/
theorem OpR.or {f : Value → Value → Sem Value} {r r' : R2} (h : OpR X f r) (h' : OpR X f r') : OpR X f (fun x y H Q => r x y H Q ∨ r' x y H Q) := by
  intro pins s σ H x y v u Q I rx ry q
  rcases q with q | q
  · exact h pins s σ H x y v u Q I rx ry q
  · exact h' pins s σ H x y v u Q I rx ry q

theorem nomark (b : Expr) {op : CmpOp} (h : op ≠ .In := by decide) (h2 : op ≠ .NotIn := by decide) : behindInMarks op b = false := by
  have e1 : (op == CmpOp.In) = false := by cases op <;> first | rfl | exact absurd rfl h
  have e2 : (op == CmpOp.NotIn) = false := by cases op <;> first | rfl | exact absurd rfl h2
  cases b <;> simp [behindInMarks, e1, e2]
/-- a comparison as a value; hm: nomark b, or (for in, not in) by with_unfolding_all rfl -/
theorem pe_cmpR {op : CmpOp} {r : R2} (ho : OpR X (compareOp op) r) (ha : PE X a ta) (hb : PE X b tb) (hm : behindInMarks op b = false) : PE X (.Compare a [op] [b] pos) (tOp r ta tb) := by
  intro pins s σ H Q I h
  exact wpAny_Compare1 (binT ha hb I h fun v u s2 x y H2 I2 rx ry q => ho pins s2 σ H2 x y v u Q I2 rx ry q) hm
/-- a reading of a value as a test -/
def tTest (t : TE) : TT := fun σ H Q => t σ H fun x H' => ∃ k, x = .bl k ∧ Q k H'
theorem pt_cmpR {op : CmpOp} {r : R2} (ho : OpR X (compareOp op) r) (ha : PE X a ta) (hb : PE X b tb) (hm : behindInMarks op b = false) : PT X (.Compare a [op] [b] pos) (tTest (tOp r ta tb)) := by
  intro pins s σ H Q I h
  refine wpAny_isTrue_Compare1 (thn (ha pins s σ H _ I h) fun v s1 ⟨x, H1, I1, r1, q1⟩ => thn (hb pins s1 σ H1 _ I1 q1) fun u s2 ⟨y, H2, I2, r2, q2⟩ =>
    thn (ho pins s2 σ H2 x y v u _ I2 r1 r2 q2) fun c s3 ⟨z, H3, I3, r3, k, e, q3⟩ => ?_) hm
  subst e
  cases r3
  exact wpAny_truthy_bool ⟨H3, I3, q3⟩
/-- a op1 b op2 c -/
def tChain (r r' : R2) (ta tb tc : TE) : TE := fun σ H Q => ta σ H fun x H1 => tb σ H1 fun y H2 => r x y H2 fun z H3 => ∃ k, z = .bl k ∧
  (if k = true then tc σ H3 fun w' H4 => r' y w' H4 Q else Q (.bl false) H3)
theorem pe_chain {op op' : CmpOp} {r r' : R2} (ho : OpR X (compareOp op) r) (ho' : OpR X (compareOp op') r') (ha : PE X a ta) (hb : PE X b tb) (hc : PE X c tc)
    (hm : lastMarks [op, op'] [b, c] = false := by with_unfolding_all rfl) : PE X (.Compare a [op, op'] [b, c] pos) (tChain r r' ta tb tc) := by
  intro pins s σ H Q I h
  refine Compare_chain (thn (ha pins s σ H _ I h) fun v s1 ⟨x, H1, I1, r1, q1⟩ => chain_link (thn (hb pins s1 σ H1 _ I1 q1) fun u s2 ⟨y, H2, I2, r2, q2⟩ =>
    thn (ho pins s2 σ H2 x y v u _ I2 r1 r2 q2) fun d s3 ⟨z, H3, I3, r3, k, e, q3⟩ => ?_)) hm
  subst e
  cases r3
  refine wpAny_truthy_bool ?_
  cases k with
  | false => exact ite_ff ⟨.bl false, H3, I3, rfl, q3⟩
  | true => exact ite_tt (chain_last (thn (hc pins s3 σ H3 _ I3 q3) fun w' s4 ⟨z', H4, I4, r4, q4⟩ => ho' pins s4 σ H4 y z' u w' Q I4 r2 r4 q4))
theorem pt_chain {op op' : CmpOp} {r r' : R2} (ho : OpR X (compareOp op) r) (ho' : OpR X (compareOp op') r') (ha : PE X a ta) (hb : PE X b tb) (hc : PE X c tc)
    (hm : lastMarks [op, op'] [b, c] = false := by with_unfolding_all rfl) : PT X (.Compare a [op, op'] [b, c] pos) (tTest (tChain r r' ta tb tc)) := by
  intro pins s σ H Q I h
  refine isTrue_chain (thn (ha pins s σ H _ I h) fun v s1 ⟨x, H1, I1, r1, q1⟩ => test_link (thn (hb pins s1 σ H1 _ I1 q1) fun u s2 ⟨y, H2, I2, r2, q2⟩ =>
    thn (ho pins s2 σ H2 x y v u _ I2 r1 r2 q2) fun d s3 ⟨z, H3, I3, r3, k, e, q3⟩ => ?_)) hm
  subst e
  cases r3
  refine wpAny_truthy_bool ?_
  cases k with
  | false =>
    obtain ⟨k', e', q'⟩ := q3
    cases e'
    exact ite_ff ⟨H3, I3, q'⟩
  | true =>
    refine ite_tt (test_last (thn (hc pins s3 σ H3 _ I3 q3) fun w' s4 ⟨z', H4, I4, r4, q4⟩ => thn (ho' pins s4 σ H4 y z' u w' _ I4 r2 r4 q4) fun d' s5 ⟨z2, H5, I5, r5, k2, e2, q5⟩ => ?_))
    subst e2
    cases r5
    exact wpAny_truthy_bool ⟨H5, I5, q5⟩

/-! ### truth -/
/-- a value's truth by the abstract heap -/
def TruV (K : PySem.W.Frag) (x : V) (H : Hp) (k : Bool) : Prop :=
  match x with
  | .non => k = false
  | .bl b => k = b
  | .int i => k = (i != 0)
  | .str y => y.length ≤ sizeLine ∧ k = ((y.length : Int) != 0)
  | .byt y => y.size ≤ sizeLine ∧ k = ((y.size : Int) != 0)
  | .ref p => (∃ xs, SqL K H p xs ∧ k = !xs.isEmpty) ∨ (∃ xs, SqT K H p xs ∧ k = !xs.isEmpty) ∨ ∃ kvs, H p = some (.dK kvs) ∧ k = !kvs.isEmpty
  | _ => False
theorem isEmpty_kv {κ : Type} {kvs : List (κ × V)} {vs : List (κ × Value)} (r : KV kvs vs) : (!vs.isEmpty) = !kvs.isEmpty := by
  cases r <;> rfl
theorem isEmpty_of {xs : List V} {its : List Value} (r : Vals xs its) : (!its.toArray.isEmpty) = !xs.isEmpty := by
  cases r <;> simp
theorem line63 : (sizeLine : Nat) < 2 ^ 63 := by rw [sizeLine_eq]; decide
theorem tru_ok : TruR X (fun x H Q => ∃ k, TruV X.K x H k ∧ Q k H) := by
  intro pins s σ H x v Q I rx h
  obtain ⟨k, e, q⟩ := h
  have hl := line63
  have hs : sizeLine = 16777216 := sizeLine_eq
  cases x with
  | non =>
    cases rx
    have e' : k = false := e
    subst e'
    exact truthy_none ⟨H, I, q⟩
  | bl b =>
    cases rx
    have e' : k = b := e
    subst e'
    exact wpAny_truthy_bool ⟨H, I, q⟩
  | int i =>
    obtain ⟨t, rfl⟩ := rx
    have e' : k = (i != 0) := e
    subst e'
    exact PySem.P.truthy_int ⟨H, I, q⟩
  | str y =>
    obtain ⟨t, rfl⟩ := rx
    obtain ⟨hy, e'⟩ : y.length ≤ sizeLine ∧ k = ((y.length : Int) != 0) := e
    subst e'
    exact PySem.P.truthy_str (by omega) ⟨H, I.tok _, q⟩
  | byt y =>
    obtain ⟨t, rfl⟩ := rx
    obtain ⟨hy, e'⟩ : y.size ≤ sizeLine ∧ k = ((y.size : Int) != 0) := e
    subst e'
    exact PySem.W.truthy_bytes (by omega) ⟨H, I.tok _, q⟩
  | ref p =>
    cases rx
    have e' : (∃ xs, SqL X.K H p xs ∧ k = !xs.isEmpty) ∨ (∃ xs, SqT X.K H p xs ∧ k = !xs.isEmpty) ∨ ∃ kvs, H p = some (.dK kvs) ∧ k = !kvs.isEmpty := e
    rcases e' with ⟨xs, hx, e'⟩ | ⟨xs, hx, e'⟩ | ⟨kvs, hx, e'⟩
    · subst e'
      obtain ⟨its, r, pl, hz⟩ := I.list hx
      have hlen := r.length
      exact wpAny_truthy_list pl.isList (by simp only [List.size_toArray]; omega) ⟨H, I.tok _, by rw [isEmpty_of r]; exact q⟩
    · subst e'
      obtain ⟨its, r, pl, hz⟩ := I.tuple hx
      have hlen := r.length
      exact truthy_tuple pl (by simp only [List.size_toArray]; omega) ⟨H, I.tok _, by rw [isEmpty_of r]; exact q⟩
    · subst e'
      obtain ⟨hz, hS, vs, r, m⟩ : kvs.length ≤ sizeLine ∧ (p == sysModules) = false ∧ ∃ vs, KV kvs vs ∧ s.heap.DictOf (mixKind X.prog X.w) p vs := I.hok p _ hx
      have hlen : kvs.length = vs.length := Paired.length r
      exact wpAny_truthy_dict hS m (by omega) ⟨H, I.tok _, by rw [isEmpty_kv r]; exact q⟩
  | _ => exact (show False from e).elim
/-- any expression whose test is its value's truth (a name, a call, a subscript, a field ..: he by fun _ => rfl) -/
theorem pt_truth (ha : PE X a ta) (he : ∀ whole, isTrue a X.env whole = (do let v ← whole; standAt a.pos; holding [v] (truthy v))) :
    PT X a (fun σ H Q => ta σ H fun x H' => ∃ k, TruV X.K x H' k ∧ Q k H') := by
  intro pins s σ H Q I h
  exact isTrue_plain (thn (ha pins s σ H _ I h) fun v s1 ⟨x, H1, I1, r1, q1⟩ => tru_ok pins s1 σ H1 x v Q I1 r1 q1) (he _)

/-! ### strs and bytes -/
theorem pe_byt {x : List UInt8} {k : Nat} : PE X (.Constant (.bytes x) k pos) (fun _ H Q => Q (.byt x.toArray) H) := fun _ _ _ H _ I h => PySem.W.Constant_bytes ⟨.byt x.toArray, H, I.tok _, ⟨_, rfl⟩, h⟩
theorem op_add_str : OpR X (binaryOp .Add) (fun x y H Q => ∃ i j, x = .str i ∧ y = .str j ∧ i.length + j.length ≤ sizeLine ∧ Q (.str (i ++ j)) H) := by
  intro pins s σ H x y v u Q I rx ry h
  obtain ⟨i, j, rfl, rfl, hz, q⟩ := h
  obtain ⟨t, rfl⟩ := rx
  obtain ⟨t', rfl⟩ := ry
  exact add_str (fun t' tk => ⟨.str (i ++ j), H, I.tok _, ⟨_, rfl⟩, q⟩) hz
theorem iop_add_str : OpR X (inplaceOp .Add) (fun x y H Q => ∃ i j, x = .str i ∧ y = .str j ∧ i.length + j.length ≤ sizeLine ∧ Q (.str (i ++ j)) H) := by
  intro pins s σ H x y v u Q I rx ry h
  obtain ⟨i, j, rfl, rfl, hz, q⟩ := h
  obtain ⟨t, rfl⟩ := rx
  obtain ⟨t', rfl⟩ := ry
  exact iadd_str (fun t' tk => ⟨.str (i ++ j), H, I.tok _, ⟨_, rfl⟩, q⟩) hz
theorem op_add_byt : OpR X (binaryOp .Add) (fun x y H Q => ∃ i j, x = .byt i ∧ y = .byt j ∧ i.size + j.size ≤ 16777216 ∧ Q (.byt (i ++ j)) H) := by
  intro pins s σ H x y v u Q I rx ry h
  obtain ⟨i, j, rfl, rfl, hz, q⟩ := h
  obtain ⟨t, rfl⟩ := rx
  obtain ⟨t', rfl⟩ := ry
  exact PySem.W.KBy.add_bytes hz (fun t' tk => ⟨.byt (i ++ j), H, I.tok _, ⟨_, rfl⟩, q⟩)

def PlainIxT (b : Expr) : Prop := ∀ o i, subscripted b false o i = operate [o, i] (getItem o i)
/-- s[i], 0 ≤ i < len -/
theorem pe_item_str (ha : PE X a ta) (hb : PE X b tb) (hs : PlainIxT b) :
    PE X (.Subscript a b pos) (tOp (fun x y H Q => ∃ z i c, x = .str z ∧ y = .int i ∧ 0 ≤ i ∧ i < 2 ^ 63 ∧ i < z.length ∧ z.cps[i.toNat]? = some c ∧ Q (.str ⟨#[c]⟩) H) ta tb) := by
  intro pins s σ H Q I h
  refine Subscript_ (binT ha hb I h fun v u s2 x y H2 I2 rx ry q => ?_)
  obtain ⟨z, i, c, rfl, rfl, h0, h63, h1, hc, q⟩ := q
  obtain ⟨t, rfl⟩ := rx
  obtain ⟨t', rfl⟩ := ry
  have e : seqIndex? i z.length = some i.toNat := PySem.StrLaws.seqIndex_nonneg h0 h1
  exact tail_any (typeIs_str s2 z t) slot_str_getitem.lookup (getItem_str (c := c) (by
    have e1 : decide (i < -(2 ^ 63 : Int)) = false := decide_eq_false (by omega)
    have e2 : decide (i ≥ 2 ^ 63) = false := decide_eq_false (by omega)
    rw [e1, e2] <;> rfl) (by rw [e]; exact hc) ⟨.str ⟨#[c]⟩, H2, I2.tok _, ⟨_, rfl⟩, q⟩) (hs _ _)
/-- b[i], 0 ≤ i < len -/
theorem pe_item_byt (ha : PE X a ta) (hb : PE X b tb) (hs : PlainIxT b) :
    PE X (.Subscript a b pos) (tOp (fun x y H Q => ∃ (z : List UInt8) (i : Int), x = .byt z.toArray ∧ y = .int i ∧ z.length ≤ sizeLine ∧ 0 ≤ i ∧ i < z.length ∧ Q (.int ((z.getD i.toNat 0).toNat : Nat)) H) ta tb) := by
  intro pins s σ H Q I h
  refine Subscript_ (binT ha hb I h fun v u s2 x y H2 I2 rx ry q => ?_)
  obtain ⟨z, i, rfl, rfl, hz, h0, h1, q⟩ := q
  obtain ⟨t, rfl⟩ := rx
  obtain ⟨t', rfl⟩ := ry
  have hl : sizeLine = 16777216 := sizeLine_eq
  exact tail_any (PySem.W.typeIs_bytes s2 z.toArray t) PySem.W.FB.slot_bytes_getitem.lookup (PySem.W.getItem_bytes (by omega) h0 h1 ⟨.int ((z.getD i.toNat 0).toNat : Nat), H2, I2.tok _, ⟨_, rfl⟩, q⟩) (hs _ _)

/-! ### scalar builtins, by CallR -/
theorem vals1 {x : V} {us : List Value} (r : Vals [x] us) : ∃ u, us = [u] ∧ RelV x u := by
  cases r with
  | cons r1 r2 => cases r2; exact ⟨_, rfl, r1⟩
theorem vals2 {x y : V} {us : List Value} (r : Vals [x, y] us) : ∃ u w', us = [u, w'] ∧ RelV x u ∧ RelV y w' := by
  cases r with
  | cons r1 r2 =>
    cases r2 with
    | cons r3 r4 => cases r4; exact ⟨_, _, rfl, r1, r3⟩
theorem call_abs : CallR X (.builtin "abs") (fun xs H Q => ∃ i, xs = [.int i] ∧ Q (.int (if i < 0 then -i else i)) H) := by
  intro pins s σ H xs us Q I r h
  obtain ⟨i, rfl, q⟩ := h
  obtain ⟨u, rfl, t, rfl⟩ := vals1 r
  exact call_abs_int fun u tk => ⟨.int (if i < 0 then -i else i), H, I.tok _, ⟨_, rfl⟩, q⟩
theorem call_max2 (hc : X.calm = true) : CallR X (.builtin "max") (fun xs H Q => ∃ i j, xs = [.int i, .int j] ∧ Q (.int (if j > i then j else i)) H) := by
  intro pins s σ H xs us Q I r h
  obtain ⟨i, j, rfl, q⟩ := h
  obtain ⟨u, w', rfl, ⟨t, rfl⟩, ⟨t', rfl⟩⟩ := vals2 r
  refine max_two_ints (I.ok.hd hc) fun h' tk k => ⟨_, H, I.kept k, ?_, q⟩
  by_cases hj : j > i
  · rw [if_pos hj, if_pos hj]; exact ⟨_, rfl⟩
  · rw [if_neg hj, if_neg hj]; exact ⟨_, rfl⟩
theorem call_min2 (hc : X.calm = true) : CallR X (.builtin "min") (fun xs H Q => ∃ i j, xs = [.int i, .int j] ∧ Q (.int (if j < i then j else i)) H) := by
  intro pins s σ H xs us Q I r h
  obtain ⟨i, j, rfl, q⟩ := h
  obtain ⟨u, w', rfl, ⟨t, rfl⟩, ⟨t', rfl⟩⟩ := vals2 r
  refine min_two_ints (I.ok.hd hc) fun h' tk k => ⟨_, H, I.kept k, ?_, q⟩
  by_cases hj : j < i
  · rw [if_pos hj, if_pos hj]; exact ⟨_, rfl⟩
  · rw [if_neg hj, if_neg hj]; exact ⟨_, rfl⟩
theorem call_int1 : CallR X (.type "int") (fun xs H Q => (∃ i, xs = [.int i] ∧ Q (.int i) H) ∨ ∃ k, xs = [.bl k] ∧ Q (.int (if k then 1 else 0)) H) := by
  intro pins s σ H xs us Q I r h
  rcases h with ⟨i, rfl, q⟩ | ⟨k, rfl, q⟩
  · obtain ⟨u, rfl, t, rfl⟩ := vals1 r
    exact call_int_int ⟨.int i, H, I, ⟨_, rfl⟩, q⟩
  · obtain ⟨u, rfl, r1⟩ := vals1 r
    cases r1
    exact call_int_bool ⟨.int (if k then 1 else 0), H, I.tok _, ⟨_, rfl⟩, q⟩
theorem call_bool1 : CallR X (.type "bool") (fun xs H Q => (∃ i, xs = [.int i] ∧ Q (.bl (i != 0)) H) ∨ ∃ k, xs = [.bl k] ∧ Q (.bl k) H) := by
  intro pins s σ H xs us Q I r h
  rcases h with ⟨i, rfl, q⟩ | ⟨k, rfl, q⟩
  · obtain ⟨u, rfl, t, rfl⟩ := vals1 r
    exact call_bool_int ⟨.bl (i != 0), H, I, rfl, q⟩
  · obtain ⟨u, rfl, r1⟩ := vals1 r
    cases r1
    exact call_bool_bool ⟨.bl k, H, I, rfl, q⟩
theorem call_str_int : CallR X (.type "str") (fun xs H Q => ∃ i, xs = [.int i] ∧ i.natAbs.log2 < 1920 ∧ Q (.str (toString i)) H) := by
  intro pins s σ H xs us Q I r h
  obtain ⟨i, rfl, hz, q⟩ := h
  obtain ⟨u, rfl, t, rfl⟩ := vals1 r
  exact PySem.P.str_of_int hz ⟨.str _, H, I.tok _, ⟨_, rfl⟩, q⟩
theorem call_ord : CallR X (.builtin "ord") (fun xs H Q => ∃ x, xs = [.str x] ∧ x.length = 1 ∧ Q (.int (x.cps.getD 0 0 : Nat)) H) := by
  intro pins s σ H xs us Q I r h
  obtain ⟨x, rfl, hz, q⟩ := h
  obtain ⟨u, rfl, t, rfl⟩ := vals1 r
  exact ord_of_one hz ⟨.int _, H, I.tok _, ⟨_, rfl⟩, q⟩
theorem call_chr : CallR X (.builtin "chr") (fun xs H Q => ∃ i, xs = [.int i] ∧ 0 ≤ i ∧ i ≤ 1114111 ∧ Q (.str ⟨#[i.toNat]⟩) H) := by
  intro pins s σ H xs us Q I r h
  obtain ⟨i, rfl, h0, h1, q⟩ := h
  obtain ⟨u, rfl, t, rfl⟩ := vals1 r
  exact chr_of_range h0 h1 ⟨.str _, H, I.tok _, ⟨_, rfl⟩, q⟩
/-- len of a str, a bytes, a list, a tuple -/
def LenV (K : PySem.W.Frag) (x : V) (H : Hp) (n : Nat) : Prop :=
  match x with
  | .str y => y.length ≤ sizeLine ∧ n = y.length
  | .byt y => y.size ≤ sizeLine ∧ n = y.size
  | .ref p => (∃ xs, SqL K H p xs ∧ n = xs.length) ∨ ∃ xs, SqT K H p xs ∧ n = xs.length
  | _ => False
theorem call_len : CallR X (.builtin "len") (fun xs H Q => ∃ x n, xs = [x] ∧ LenV X.K x H n ∧ Q (.int n) H) := by
  intro pins s σ H xs us Q I r h
  obtain ⟨x, n, rfl, e, q⟩ := h
  obtain ⟨u, rfl, rx⟩ := vals1 r
  have hl := line63
  have hs : sizeLine = 16777216 := sizeLine_eq
  cases x with
  | str y =>
    obtain ⟨t, rfl⟩ := rx
    obtain ⟨hy, e'⟩ : y.length ≤ sizeLine ∧ n = y.length := e
    subst e'
    exact len_str (by omega) ⟨.int _, H, I.tok _, ⟨_, rfl⟩, q⟩
  | byt y =>
    obtain ⟨t, rfl⟩ := rx
    obtain ⟨hy, e'⟩ : y.size ≤ sizeLine ∧ n = y.size := e
    subst e'
    exact PySem.W.len_bytes (by omega) ⟨.int _, H, I.tok _, ⟨_, rfl⟩, q⟩
  | ref p =>
    cases rx
    have e' : (∃ xs, SqL X.K H p xs ∧ n = xs.length) ∨ ∃ xs, SqT X.K H p xs ∧ n = xs.length := e
    rcases e' with ⟨xs, hx, e'⟩ | ⟨xs, hx, e'⟩
    · subst e'
      obtain ⟨its, r', pl, hz⟩ := I.list hx
      have hlen := r'.length
      exact Calls.call_len_list pl.isList (by simp only [List.size_toArray]; omega) ⟨.int xs.length, H, I.tok _, ⟨_, by simp only [List.size_toArray]; rw [hlen]⟩, q⟩
    · subst e'
      obtain ⟨its, r', pl, hz⟩ := I.tuple hx
      have hlen := r'.length
      exact len_tuple pl (by simp only [List.size_toArray]; omega) ⟨.int xs.length, H, I.tok _, ⟨_, by simp only [List.size_toArray]; rw [hlen]⟩, q⟩
  | _ => exact (show False from e).elim
/-- divmod: a new tuple -/
theorem call_divmod : CallR X (.builtin "divmod") (fun xs H Q => ∃ i j, xs = [.int i, .int j] ∧ CDiv i j ∧ ∀ p, H p = none → Q (.ref p) (upd H p (.tup [.int (i / j), .int (i % j)]))) := by
  intro pins s σ H xs us Q I r h
  obtain ⟨i, j, rfl, ⟨h1, h2⟩, q⟩ := h
  obtain ⟨u, w', rfl, ⟨t, rfl⟩, ⟨t', rfl⟩⟩ := vals2 r
  refine divmod_int (by omega) ?_ (.inl (PyProof.noPylong_small (by omega)))
  rw [Int.fdiv_eq_ediv_of_nonneg i (by omega), Int.fmod_eq_emod_of_nonneg i (by omega)]
  have hn : H s.heap.objs.size = none := I.hok.fresh (Nat.le_refl _)
  refine ⟨.ref s.heap.objs.size, _, ?_, rfl, q _ hn⟩
  refine I.laid (fun b o e => Heap.get?_push_of_some _ e) (Nat.le_refl _) ⟨by simp only [List.length_cons, List.length_nil]; rw [sizeLine_eq]; decide, [.int (i / j) s.toks, .int (i % j) (s.toks + 1)], .cons ⟨_, rfl⟩ (.cons ⟨_, rfl⟩ .nil), ?_⟩
  exact ⟨_, Heap.get?_push_size s.heap rfl, rfl, 0, rfl⟩
end
end L2

namespace L2
open PySem PySem.Spec PyProof.Rows

/-! ### an instance, its attributes a map -/
structure ObjM (h : Heap) (x dx C : Addr) (mA : Str → Option Value) : Prop where
  obj : h.get? x = some (PySem.W.instObj C dx)
  ns : h.Ns1 dx mA
  ne : dx ≠ x

theorem lookIn_ns {h : Heap} {dx : Addr} {mA : Str → Option Value} (n : h.Ns1 dx mA) : ∃ od, h.get? dx = some od ∧ ∀ name, PySem.W.lookIn name od = some (mA name) := by
  obtain ⟨o, es, ep, ho, hd, hk, _, hm⟩ := n
  refine ⟨o, ho, fun name => ?_⟩
  have e := hm name
  unfold nsFind findBy at e
  rw [← Array.find?_toList] at e
  unfold PySem.W.lookIn
  rw [hd]
  dsimp only
  split
  · rename_i y q
    rw [q] at e
    exact congrArg some e
  · rename_i q
    rw [q] at e
    have a : es.toList.any (·.refKey) = false := by
      rw [List.any_eq_false]
      intro y hy
      obtain ⟨z, t, hkey⟩ := hk y (Array.mem_toList_iff.mp hy)
      simp [DictEntry.refKey, hkey]
    have a' : ¬ es.toList.any (·.refKey) = true := by rw [a]; exact Bool.false_ne_true
    rw [if_neg a']
    exact congrArg some e

theorem ObjM.look {h : Heap} {x dx C : Addr} {mA : Str → Option Value} (I : ObjM h x dx C mA) : ∃ od, PySem.W.InstAt h x (PySem.W.instObj C dx) C (some od) ∧ ∀ name, PySem.W.lookIn name od = some (mA name) :=
  let ⟨od, ho, hl⟩ := lookIn_ns I.ns
  ⟨od, ⟨I.obj, rfl, rfl, ho⟩, hl⟩

section
variable {prog : Program} {w : World} {A : Around} {E : Value → Shared → Prop} {s : Shared} {K : PySem.W.Frag} {x dx C f : Addr} {mA : Str → Option Value} {name : Str} {v : Value}

theorem get_map {expr : Bool} {Q : Value → Shared → Prop} (X : K.In s.heap) (I : ObjM s.heap x dx C mA) (hg : PySem.W.plainGet K C name = true) (hh : PySem.W.hasDictIn K C = true)
    (ha : PySem.W.findIn K (.ref C) name = some none) (hv : mA name = some v) (hv' : PySem.W.handedIn v = true) (h : Q v { s with toks := s.toks + 1 }) :
    wpAny (model prog w) A (getAttr (.ref x) name expr) Q E s := by
  obtain ⟨od, J, hl⟩ := I.look
  exact PySem.W.get_value X J (PySem.W.plainGet_of hg).1 (PySem.W.findObj_own hh ha rfl (by rw [hl, hv])) hv' h

theorem get_const {expr : Bool} {a : Value} {Q : Value → Shared → Prop} (X : K.In s.heap) (I : ObjM s.heap x dx C mA) (hg : PySem.W.plainGet K C name = true) (hh : PySem.W.hasDictIn K C = true)
    (ha : PySem.W.findIn K (.ref C) name = some (some a)) (hn : PySem.W.specialIn K a "__get__" = some none) (hc : PySem.W.copiedNames.contains name = false) (hv : mA name = none) (hv' : PySem.W.handedIn a = true)
    (h : Q a { s with toks := s.toks + 1 }) : wpAny (model prog w) A (getAttr (.ref x) name expr) Q E s := by
  obtain ⟨od, J, hl⟩ := I.look
  exact PySem.W.get_value X J (PySem.W.plainGet_of hg).1 (PySem.W.findObj_cls hh ha hn hv' hc (by rw [hl, hv])) hv' h

theorem get_meth {pl : Sem Bool} {Q : Value × List Value → Shared → Prop} (X : K.In s.heap) (I : ObjM s.heap x dx C mA) (hg : PySem.W.plainGet K C name = true)
    (hf : PySem.W.findIn K (.ref C) name = some (some (.ref f))) (ht : PySem.W.isFn K (.ref f) = true) (hv : mA name = none) (h : Q (.ref f, [.ref x]) s) :
    wpAny (model prog w) A (getMethod (.ref x) name pl) Q E s := by
  obtain ⟨od, J, hl⟩ := I.look
  exact PySem.W.method_fn X J (PySem.W.plainGet_of hg).1 (PySem.W.plainGet_of hg).2 hf (beq_iff_eq.mp ht) (by show (PySem.W.lookIn name od).map (·.isSome) = some false; rw [hl, hv]; rfl) h

theorem set_map {ns : List Str} {Q : Unit → Shared → Prop} (X : K.In s.heap) (I : ObjM s.heap x dx C mA)
    (hs : PySem.W.findIn K (.ref C) "__setattr__" = some (some (.builtin "object.__setattr__"))) (hp : PySem.W.plainOver K C = true) (ht : PySem.W.takerIn K C name = some none) (hh : PySem.W.hasDictIn K C = true)
    (hw : PySem.Within mA ns) (hsz : ns.length ≤ sizeLine)
    (h : ∀ h', ObjM h' x dx C (fun y => if y = name then some v else mA y) → Heap.SameBut dx s.heap h' → Q () { s with heap := h', toks := s.toks + 2 }) :
    wpAny (model prog w) A (setAttr (.ref x) name v) Q E s := by
  obtain ⟨od, J, hl⟩ := I.look
  refine PySem.W.set_plain X J hs (PySem.W.osa_open (s := { s with toks := s.toks + 1 }) (r := none) X J hp ht fun b => ?_)
  obtain ⟨cd, hc, hd'⟩ := PySem.W.any_some hh
  have hx : s.heap.get? x = some ⟨.ref C, some dx, .plain, #[]⟩ := I.obj
  refine wpAny_bind (wpAny_pure (wpAny_bind (wpAny_bind (wpAny_loadPart hx (wpAny_bind (PySem.W.Looks.here (s := { s with toks := s.toks + 1 }) (PySem.W.looks_clsIn X hc) ?_))))))
  rw [hd']
  refine wpAny_pure (a := some dx) (wpAny_bind (wpAny_pure (wpAny_bind ?_)))
  refine wpAny_nsSet1 (s := { s with toks := s.toks + 1 }) I.ns fun h' hn2 hs2 => ?_
  obtain ⟨oD, esD, epD, hoD, hdD, hcD⟩ := hn2.count (PySem.Within.cons name v hw)
  refine wpAny_bind (wpAny_lookBehind hoD (by rw [hdD]; exact pastItsLine_dict (Nat.le_trans hcD (by rw [List.length_cons]; omega))) ?_)
  exact wpAny_pure (h _ ⟨(hs2.2 _ (Ne.symm I.ne)).trans I.obj, hn2, I.ne⟩ hs2)

/-- C(..): the dict at the heap's end, the instance behind it; then its __init__ -/
theorem make_map {R : Result → Shared → Prop} {vs : List Value} {kw : List (Str × Value)} (X : K.In s.heap) (hm : PySem.W.makesIn K C = true)
    (hi : PySem.W.findIn K (.ref C) "__init__" = some (some (.ref f))) (hf : PySem.W.typeIn K (.ref f) = some (.type "function"))
    (h : codeAny (model prog w) (A.under (.builtin "type.__call__" ⟨.ref C :: vs, kw⟩)) (.call (.ref f) ⟨.ref (s.heap.objs.size + 1) :: vs, kw⟩) (PySem.W.InitBack (s.heap.objs.size + 1) R)
      { s with heap := (s.heap.push PySem.W.emptyDict).push (PySem.W.instObj C s.heap.objs.size) }) :
    codeAny (model prog w) A (.call (.ref C) ⟨vs, kw⟩) R s := by
  obtain ⟨hh, g, d, t, os⟩ := s
  exact PySem.W.make_core (PySem.W.makes_of X hm) (PySem.W.looks_findIn X hi) (fun self => PySem.W.bind_fn X self hf) (.inl rfl) h
/-- C() where there is no __init__ but object's -/
theorem make_map0 {R : Result → Shared → Prop} (X : K.In s.heap) (hm : PySem.W.makesIn K C = true)
    (hi : PySem.W.findIn K (.ref C) "__init__" = some (some (.builtin "object.__init__")))
    (hb : ∀ self, PySem.W.Looks (model prog w) s.heap (bindSpecial (.builtin "object.__init__") self) (.builtin "object.__init__", [self]))
    (h : codeAny (model prog w) (A.under (.builtin "type.__call__" ⟨[.ref C], []⟩)) (.call (.builtin "object.__init__") ⟨[.ref (s.heap.objs.size + 1)], []⟩) (PySem.W.InitBack (s.heap.objs.size + 1) R)
      { s with heap := (s.heap.push PySem.W.emptyDict).push (PySem.W.instObj C s.heap.objs.size) }) :
    codeAny (model prog w) A (.call (.ref C) ⟨[], []⟩) R s := by
  obtain ⟨hh, g, d, t, os⟩ := s
  exact PySem.W.make_core (PySem.W.makes_of X hm) (PySem.W.looks_findIn X hi) hb (.inr ⟨rfl, rfl⟩) h
end

/-! ### the attributes as a list of pairs -/
def putF (f : Str) (v : V) : List (Str × V) → List (Str × V)
  | [] => [(f, v)]
  | (g, x) :: r => if g = f then (g, v) :: r else (g, x) :: putF f v r
theorem lookup_putF (f g : Str) (v : V) : ∀ fs : List (Str × V), (putF f v fs).lookup g = if g = f then some v else fs.lookup g
  | [] => by
    show List.lookup g [(f, v)] = _
    by_cases h : g = f
    · have hb : (g == f) = true := beq_iff_eq.mpr h
      simp only [List.lookup, hb, if_pos h]
    · have hb : (g == f) = false := beq_eq_false_iff_ne.mpr h
      simp only [List.lookup, hb, if_neg h]
  | (k, x) :: r => by
    have ih := lookup_putF f g v r
    rw [show putF f v ((k, x) :: r) = (if k = f then (k, v) :: r else (k, x) :: putF f v r) from rfl]
    by_cases hk : k = f
    · rw [if_pos hk]
      by_cases h : g = k
      · have hb : (g == k) = true := beq_iff_eq.mpr h
        simp only [List.lookup, hb, if_pos (h.trans hk)]
      · have hb : (g == k) = false := beq_eq_false_iff_ne.mpr h
        simp only [List.lookup, hb, if_neg (fun e : g = f => h (e.trans hk.symm))]
    · rw [if_neg hk]
      by_cases h : g = k
      · have hb : (g == k) = true := beq_iff_eq.mpr h
        simp only [List.lookup, hb, if_neg (fun e : g = f => hk (h.symm.trans e))]
      · have hb : (g == k) = false := beq_eq_false_iff_ne.mpr h
        simp only [List.lookup, hb]
        exact ih
theorem keys_putF (f : Str) (v : V) : ∀ fs : List (Str × V), f ∈ (putF f v fs).map (·.1) ∧ ∀ g, g ∈ fs.map (·.1) → g ∈ (putF f v fs).map (·.1)
  | [] => ⟨by simp [putF], fun g h => by simp at h⟩
  | (k, x) :: r => by
    obtain ⟨i1, i2⟩ := keys_putF f v r
    rw [show putF f v ((k, x) :: r) = (if k = f then (k, v) :: r else (k, x) :: putF f v r) from rfl]
    by_cases hk : k = f
    · rw [if_pos hk]
      subst hk
      exact ⟨by simp, fun g h => by simpa using h⟩
    · rw [if_neg hk]
      refine ⟨?_, fun g h => ?_⟩
      · rw [List.map_cons]
        exact List.mem_cons_of_mem _ i1
      · rw [List.map_cons] at h ⊢
        rcases List.mem_cons.mp h with e | e
        · exact List.mem_cons.mpr (.inl e)
        · exact List.mem_cons_of_mem _ (i2 g e)
theorem length_putF (f : Str) (v : V) : ∀ fs : List (Str × V), (putF f v fs).length ≤ fs.length + 1
  | [] => by simp [putF]
  | (k, x) :: r => by
    have ih := length_putF f v r
    rw [show putF f v ((k, x) :: r) = (if k = f then (k, v) :: r else (k, x) :: putF f v r) from rfl]
    by_cases hk : k = f
    · rw [if_pos hk, List.length_cons, List.length_cons]; omega
    · rw [if_neg hk, List.length_cons, List.length_cons]; omega

theorem RelO.some_of {v : V} {o : Option Value} (r : RelO (some v) o) : ∃ u, o = some u ∧ RelV v u := by
  cases o with
  | none => exact (show False from r).elim
  | some u => exact ⟨u, rfl, r⟩
theorem RelO.none_of {o : Option Value} (r : RelO none o) : o = none := by
  cases o with
  | none => rfl
  | some u => exact (show False from r).elim
theorem handed_of {v : V} {u : Value} (r : RelV v u) : PySem.W.handedIn u = true := by
  cases v with
  | non => cases (show u = Value.none from r); rfl
  | bl b => cases (show u = Value.bool b from r); rfl
  | int i => obtain ⟨t, e⟩ := (show ∃ t, u = Value.int i t from r); cases e; rfl
  | str x => obtain ⟨t, e⟩ := (show ∃ t, u = Value.str x t from r); cases e; rfl
  | byt b => obtain ⟨t, e⟩ := (show ∃ t, u = Value.bytes b t from r); cases e; rfl
  | flt b => obtain ⟨t, e⟩ := (show ∃ t, u = Value.float b t from r); cases e; rfl
  | ref a => cases (show u = Value.ref a from r); rfl
  | ty n => cases (show u = Value.type n from r); rfl

section
variable {P : Program} {w : World} {H H' : Hp} {h h' : Heap} {a C dx : Addr} {fs fs' : List (Str × V)}
theorem ins_get (hok : HOk P w H h) (e : H a = some (.ins C dx fs)) : ∃ mA, ObjM h a dx C mA ∧ (∀ f, RelO (fs.lookup f) (mA f)) ∧ PySem.Within mA (fs.map (·.1)) ∧ fs.length ≤ 1000 ∧ H dx = some (.own a) := by
  obtain ⟨d, z, ne, ob, mA, n, r, q⟩ := (show ObjOk P w H h a (.ins C dx fs) from hok a _ e)
  exact ⟨mA, ⟨ob, n, ne⟩, r, q, z, d⟩
end

/-! ### what of the text a class must have -/
structure Cls (K : PySem.W.Frag) (C : Addr) : Prop where
  pg : PySem.W.plainGet K C Str.empty = true
  hd : PySem.W.hasDictIn K C = true
  po : PySem.W.plainOver K C = true
  sa : PySem.W.findIn K (.ref C) "__setattr__" = some (some (.builtin "object.__setattr__"))
theorem Cls.get {K : PySem.W.Frag} {C : Addr} (c : Cls K C) (f : Str) : PySem.W.plainGet K C f = true := c.pg
/-- no class of it has the name -/
def NoAttr (K : PySem.W.Frag) (C : Addr) (f : Str) : Prop := PySem.W.findIn K (.ref C) f = some none
theorem NoAttr.taker {K : PySem.W.Frag} {C : Addr} {f : Str} (n : NoAttr K C f) : PySem.W.takerIn K C f = some none := by
  unfold PySem.W.takerIn
  rw [show PySem.W.findIn K (.ref C) f = some none from n]
  rfl
/-- a constant of the class -/
structure Con (K : PySem.W.Frag) (C : Addr) (f : Str) (v : V) (u : Value) : Prop where
  at_ : PySem.W.findIn K (.ref C) f = some (some u)
  rel : RelV v u
  get : PySem.W.specialIn K u "__get__" = some none
  cp : PySem.W.copiedNames.contains f = false
/-- a method: a plain def of the class or of one above it -/
structure Meth (K : PySem.W.Frag) (C : Addr) (m : Str) (f : Addr) : Prop where
  at_ : PySem.W.findIn K (.ref C) m = some (some (.ref f))
  fn : PySem.W.isFn K (.ref f) = true
  kp : PySem.W.keepIn K (.ref f) = true

section
variable {X : Cx} {pins : List (Addr × Obj)} {σ : St} {H : Hp} {s : Shared} {a C dx : Addr} {fs : List (Str × V)} {f : Str} {v : V} {A : Around} {E : Value → Shared → Prop}

theorem getattr_ok {b : Bool} {Q : Value → Shared → Prop} (I : Inv X pins σ H s) (e : H a = some (.ins C dx fs)) (c : Cls X.K C) (n : NoAttr X.K C f) (l : fs.lookup f = some v)
    (h : ∀ u s', Inv X pins σ H s' → RelV v u → Q u s') : wpAny (model X.prog X.w) A (getAttr (.ref a) f b) Q E s := by
  obtain ⟨mA, O, r, _, _, _⟩ := ins_get I.hok e
  obtain ⟨u, hu, ru⟩ := RelO.some_of (v := v) (o := mA f) (by rw [← l]; exact r f)
  exact get_map I.kIn O (c.get f) c.hd n hu (handed_of ru) (h u _ (I.tok _) ru)

theorem getcon_ok {b : Bool} {u : Value} {Q : Value → Shared → Prop} (I : Inv X pins σ H s) (e : H a = some (.ins C dx fs)) (c : Cls X.K C) (k : Con X.K C f v u) (l : fs.lookup f = none)
    (h : ∀ s', Inv X pins σ H s' → Q u s') : wpAny (model X.prog X.w) A (getAttr (.ref a) f b) Q E s := by
  obtain ⟨mA, O, r, _, _, _⟩ := ins_get I.hok e
  have hn : mA f = none := RelO.none_of (by rw [← l]; exact r f)
  exact get_const I.kIn O (c.get f) c.hd k.at_ k.get k.cp hn (handed_of k.rel) (h _ (I.tok _))

theorem getmeth_ok {m : Str} {g : Addr} {pl : Sem Bool} {Q : Value × List Value → Shared → Prop} (I : Inv X pins σ H s) (e : H a = some (.ins C dx fs)) (c : Cls X.K C) (k : Meth X.K C m g) (l : fs.lookup m = none)
    (h : Q (.ref g, [.ref a]) s) : wpAny (model X.prog X.w) A (getMethod (.ref a) m pl) Q E s := by
  obtain ⟨mA, O, r, _, _, _⟩ := ins_get I.hok e
  have hn : mA m = none := RelO.none_of (by rw [← l]; exact r m)
  exact get_meth I.kIn O (c.get m) k.at_ k.fn hn h

theorem setattr_ok {y : V} {u : Value} {Q : Unit → Shared → Prop} (I : Inv X pins σ H s) (e : H a = some (.ins C dx fs)) (c : Cls X.K C) (n : NoAttr X.K C f) (hl : fs.length < 1000) (ry : RelV y u)
    (h : ∀ s', Inv X pins σ (upd H a (.ins C dx (putF f y fs))) s' → Q () s') : wpAny (model X.prog X.w) A (setAttr (.ref a) f u) Q E s := by
  obtain ⟨mA, O, r, wi, _, ho⟩ := ins_get I.hok e
  have hz : (fs.map (·.1)).length ≤ sizeLine := by rw [List.length_map, sizeLine_eq]; omega
  refine set_map I.kIn O c.sa c.po n.taker c.hd wi hz fun h' O' sb => h _ ?_
  have hd : ∃ o, h'.get? dx = some o := let ⟨o, _, _, e', _⟩ := O'.ns; ⟨o, e'⟩
  refine I.write (x := a) (e := dx) (by rw [e]; exact True.intro) (.inr ho) (fun b q hb z => (sb.2 b hb).trans z) hd ?_
  refine ⟨by rw [upd_ne O.ne]; exact ho, ?_, O.ne, O'.obj, _, O'.ns, fun g => ?_, fun g hg => ?_⟩
  · have := length_putF f y fs; omega
  · show RelO ((putF f y fs).lookup g) (if g = f then some u else mA g)
    rw [lookup_putF]
    by_cases q : g = f
    · rw [if_pos q, if_pos q]; exact ry
    · rw [if_neg q, if_neg q]; exact r g
  · by_cases q : g = f
    · rw [q]; exact (keys_putF f y fs).1
    · refine (keys_putF f y fs).2 g (wi g fun z => hg ?_)
      show (if g = f then some u else mA g) = none
      rw [if_neg q]; exact z

/-- a new instance, tracked, without attributes -/
theorem Inv.made (I : Inv X pins σ H s) : Inv X pins σ (upd (upd H s.heap.objs.size (.own (s.heap.objs.size + 1))) (s.heap.objs.size + 1) (.ins C s.heap.objs.size []))
    { s with heap := (s.heap.push PySem.W.emptyDict).push (PySem.W.instObj C s.heap.objs.size) } := by
  have e1 : (s.heap.push PySem.W.emptyDict).get? s.heap.objs.size = some PySem.W.emptyDict := Heap.get?_push_size s.heap rfl
  have e2 : ((s.heap.push PySem.W.emptyDict).push (PySem.W.instObj C s.heap.objs.size)).get? (s.heap.objs.size + 1) = some (PySem.W.instObj C s.heap.objs.size) := by
    have := Heap.get?_push_size (s.heap.push PySem.W.emptyDict) (o := PySem.W.instObj C s.heap.objs.size) rfl
    rwa [Heap.size_push] at this
  have e3 : (s.heap.push PySem.W.emptyDict).Ns s.heap.objs.size (fun _ => none) := ⟨PySem.W.emptyDict, #[], _, e1, rfl, (fun e he => absurd he (by simp)), fun _ => rfl⟩
  have I1 := I.laid (a := s.heap.objs.size) (o := .own (s.heap.objs.size + 1)) (h' := s.heap.push PySem.W.emptyDict) (t' := s.toks) (fun b u q => Heap.get?_push_of_some _ q) (Nat.le_refl _) ⟨_, e1⟩
  refine I1.laid (a := s.heap.objs.size + 1) (o := .ins C s.heap.objs.size []) (t' := s.toks) (fun b u q => Heap.get?_push_of_some _ q) (Nat.le_of_eq (Heap.size_push _ _)) ?_
  have ne : s.heap.objs.size ≠ s.heap.objs.size + 1 := Nat.ne_of_lt (Nat.lt_succ_self _)
  refine ⟨by rw [upd_ne ne, upd_same], Nat.zero_le _, ne, e2, fun _ => none, (Heap.Ns1.of_empty e3).at fun o q => Heap.get?_push_of_some _ q, fun _ => True.intro, fun y hy => absurd rfl hy⟩

/-- e.f where nothing but the object is asked: through attributeBase (super) and the last hold -/
theorem attr_of {prog : Program} {w : World} {env : Env} {e : Expr} {f : Str} {pos : Pos} {s : Shared} {Q : Value → Shared → Prop} (hb : attributeBase e f env (eval e env) = eval e env)
    (h : wpAny (model prog w) A (eval e env) (fun o s₁ => wpAny (model prog w) A (getAttr o f true) Q E s₁) E s) : wpAny (model prog w) A (eval (.Attribute e f pos) env) Q E s :=
  Attribute_any_ h (by rw [arm_eval_Attribute, hb])
end

/-! ### readings and rules -/
/-- e.f, an attribute of the instance -/
def tFld (K : PySem.W.Frag) (ta : TE) (f : Str) : TE := fun σ H Q => ta σ H fun x H1 => ∃ a C dx fs v, x = .ref a ∧ H1 a = some (.ins C dx fs) ∧ Cls K C ∧ NoAttr K C f ∧ fs.lookup f = some v ∧ Q v H1
/-- e.f, a constant of the class -/
def tCon (K : PySem.W.Frag) (ta : TE) (f : Str) : TE := fun σ H Q => ta σ H fun x H1 => ∃ a C dx fs v u, x = .ref a ∧ H1 a = some (.ins C dx fs) ∧ Cls K C ∧ Con K C f v u ∧ fs.lookup f = none ∧ Q v H1
/-- e.f = value -/
def sFld (K : PySem.W.Frag) (ta tv : TE) (f : Str) : TS := fun D σ H => tv σ H fun y H1 => ta σ H1 fun x H2 => ∃ a C dx fs, x = .ref a ∧ H2 a = some (.ins C dx fs) ∧ Cls K C ∧ NoAttr K C f ∧ fs.length < 1000 ∧
  D.nx σ (upd H2 a (.ins C dx (putF f y fs)))
/-- an augmented operator on two values -/
def InOp (X : Cx) (op : Operator) (rd : V → V → Hp → VK → Prop) : Prop :=
  ∀ (pins : List (Addr × Obj)) (s : Shared) (σ : St) (H : Hp) (x y : V) (u v : Value) (Q : VK), Inv X pins σ H s → RelV x u → RelV y v → rd x y H Q → wpAny (model X.prog X.w) X.A (inplaceOp op u v) (EP X pins σ Q) X.xe s
/-- e.f op= value -/
def sFldAug (K : PySem.W.Frag) (ta tv : TE) (rd : V → V → Hp → VK → Prop) (f : Str) : TS := fun D σ H => ta σ H fun x H1 => ∃ a C dx fs v, x = .ref a ∧ H1 a = some (.ins C dx fs) ∧ Cls K C ∧ NoAttr K C f ∧ fs.lookup f = some v ∧
  tv σ H1 fun y H2 => rd v y H2 fun z H3 => ∃ dx' fs', H3 a = some (.ins C dx' fs') ∧ fs'.length < 1000 ∧ D.nx σ (upd H3 a (.ins C dx' (putF f z fs')))

section
variable {X : Cx} {o e value : Expr} {f : Str} {pos pos' tpos : Pos} {ta tv : TE}
theorem pe_fld (he : PE X e ta) (hb : attributeBase e f X.env (eval e X.env) = eval e X.env) : PE X (.Attribute e f pos) (tFld X.K ta f) := by
  intro pins s σ H Q I h
  refine attr_of hb (thn (he pins s σ H _ I h) fun u s1 ⟨x, H1, I1, rx, a, C, dx, fs, v, ex, ea, c, n, l, q⟩ => ?_)
  subst ex
  obtain rfl : u = Value.ref a := rx
  exact getattr_ok I1 ea c n l fun u' s2 I2 ru => ⟨v, H1, I2, ru, q⟩
theorem pe_con (he : PE X e ta) (hb : attributeBase e f X.env (eval e X.env) = eval e X.env) : PE X (.Attribute e f pos) (tCon X.K ta f) := by
  intro pins s σ H Q I h
  refine attr_of hb (thn (he pins s σ H _ I h) fun u s1 ⟨x, H1, I1, rx, a, C, dx, fs, v, u0, ex, ea, c, k, l, q⟩ => ?_)
  subst ex
  obtain rfl : u = Value.ref a := rx
  exact getcon_ok I1 ea c k l fun s2 I2 => ⟨v, H1, I2, k.rel, q⟩
theorem ps_fld (ha : PE X o ta) (hv : PE X value tv) (hs : swapsWith value (some (.Attribute o f pos')) pos.line X.env = pure false) : PS X (.Assign [.Attribute o f pos'] value pos) (sFld X.K ta tv f) := by
  intro pins s σ H D I h
  refine plainObj_wpAny_Assign_Attribute (thn (hv pins s σ H _ I h) fun u s1 ⟨y, H1, I1, ry, q⟩ => thn (ha pins s1 σ H1 _ I1 q) fun ov s2 ⟨x, H2, I2, rx, a, C, dx, fs, ex, ea, c, n, l, q2⟩ => ?_) hs
  subst ex
  obtain rfl : ov = Value.ref a := rx
  exact setattr_ok I2 ea c n l ry fun s3 I3 => ⟨σ, _, I3, q2⟩
theorem ps_fldaug {op : Operator} {rd : V → V → Hp → VK → Prop} (ha : PE X o ta) (hv : PE X value tv) (hop : InOp X op rd) : PS X (.AugAssign (.Attribute o f tpos) op value pos) (sFldAug X.K ta tv rd f) := by
  intro pins s σ H D I h
  refine wpAny_AugAssign_AttributeAny (thn (ha pins s σ H _ I h) fun ov s1 ⟨x, H1, I1, rx, a, C, dx, fs, v, ex, ea, c, n, l, q⟩ => ?_)
  subst ex
  obtain rfl : ov = Value.ref a := rx
  refine getattr_ok I1 ea c n l fun u s2 I2 ru => thn (hv pins s2 σ H1 _ I2 q) fun w3 s3 ⟨y, H2, I3, ry, q3⟩ => thn (hop pins s3 σ H2 v y u w3 _ I3 ru ry q3) fun w4 s4 ⟨z, H3, I4, rz, dx', fs', ea', l', q4⟩ => ?_
  exact setattr_ok I4 ea' c n l' rz fun s5 I5 => ⟨σ, _, I5, q4⟩
def rAdd : V → V → Hp → VK → Prop := fun x y H Q => ∃ i j, x = .int i ∧ y = .int j ∧ Q (.int (i + j)) H
def rSub : V → V → Hp → VK → Prop := fun x y H Q => ∃ i j, x = .int i ∧ y = .int j ∧ Q (.int (i - j)) H
theorem in_add : InOp X .Add rAdd := by
  rintro pins s σ H x y u v Q I rx ry ⟨i, j, rfl, rfl, q⟩
  obtain ⟨t, rfl⟩ := (show ∃ t, u = Value.int i t from rx)
  obtain ⟨t', rfl⟩ := (show ∃ t', v = Value.int j t' from ry)
  exact PyProof.Rows.iadd_int ⟨.int (i + j), H, I.tok _, ⟨_, rfl⟩, q⟩
theorem in_sub : InOp X .Sub rSub := by
  rintro pins s σ H x y u v Q I rx ry ⟨i, j, rfl, rfl, q⟩
  obtain ⟨t, rfl⟩ := (show ∃ t, u = Value.int i t from rx)
  obtain ⟨t', rfl⟩ := (show ∃ t', v = Value.int j t' from ry)
  exact PyProof.Rows.isub_int ⟨.int (i - j), H, I.tok _, ⟨_, rfl⟩, q⟩

/-- what is between an instance and its method: the tree of a method call -/
theorem methcall_of {pl : Sem Bool} {m : Str} {apos : Pos} {args : List Expr} {pins : List (Addr × Obj)} {s : Shared} {σ : St} {H : Hp} {Q : Value → Shared → Prop} {te : TE} (he : PE X e te) (I : Inv X pins σ H s)
    (h : te σ H fun x H1 => ∃ a C dx fs g, x = .ref a ∧ H1 a = some (.ins C dx fs) ∧ Cls X.K C ∧ Meth X.K C m g ∧ fs.lookup m = none ∧
      ∀ s1, Inv X pins σ H1 s1 → wpAny (model X.prog X.w) X.A (callWith pos (.ref g) [.ref a] (backTo pos (starEach args X.env)) (backToKw pos (keywordEach [] X.env))) Q X.xe s1)
    (ht : eval (.Call (.Attribute e m apos) args [] pos) X.env = (do
      let ov ← eval e X.env
      standAt apos.atName
      let (f, first) ← holding [ov] (getMethod ov m pl)
      callWith pos f first (backTo pos (starEach args X.env)) (backToKw pos (keywordEach [] X.env)))) :
    wpAny (model X.prog X.w) X.A (eval (.Call (.Attribute e m apos) args [] pos) X.env) Q X.xe s := by
  refine PySem.W.methodCall_KW (pl := pl) (thn (he pins s σ H _ I h) fun u s1 ⟨x, H1, I1, rx, a, C, dx, fs, g, ex, ea, c, k, l, q⟩ => ?_) ht
  subst ex
  obtain rfl : u = Value.ref a := rx
  exact getmeth_ok I1 ea c k l (q s1 I1)
end

/-! ### isinstance -/
section
variable {X : Cx} {pins : List (Addr × Obj)} {σ : St} {H : Hp} {s : Shared} {A : Around} {E : Value → Shared → Prop} {Q : Value → Shared → Prop} {c : Value} {b : Bool}
/-- the type of a value, as the fragment's deciders take it; for an instance its class -/
inductive TyOf (K : PySem.W.Frag) (H : Hp) : V → Value → Prop where
  | non : TyOf K H .non (.type "NoneType")
  | bl (x : Bool) : TyOf K H (.bl x) (.type "bool")
  | int (i : Int) : TyOf K H (.int i) (.type "int")
  | str (x : Str) : TyOf K H (.str x) (.type "str")
  | flt (x : UInt64) : TyOf K H (.flt x) (.type "float")
  | lst {a : Addr} {xs : List V} (e : H a = some (.lst xs)) : TyOf K H (.ref a) (.type "list")
  | frz {a : Addr} {o : Obj} {xs : List V} (e : H a = some (.frz o (.lst xs))) : TyOf K H (.ref a) (.type "list")
  | tup {a : Addr} {xs : List V} (e : H a = some (.tup xs)) : TyOf K H (.ref a) (.type "tuple")
  | dK {a : Addr} {kvs : List (Key × V)} (e : H a = some (.dK kvs)) : TyOf K H (.ref a) (.type "dict")
  | dT {a : Addr} {kvs : List (List Key × V)} (e : H a = some (.dT kvs)) : TyOf K H (.ref a) (.type "dict")
  | ins {a C dx : Addr} {fs : List (Str × V)} (e : H a = some (.ins C dx fs)) (cl : Cls K C) (ha : PySem.W.findIn K (.ref C) "__class__" = some (some (.builtin "object.__class__")))
      (hn : PySem.W.specialIn K (.builtin "object.__class__") "__get__" = some (some (.builtin "getset_descriptor.__get__"))) (htk : PySem.W.takesIn K (.builtin "object.__class__") = some true)
      (hm : PySem.W.mroIn K C (.type "object") = some true) : TyOf K H (.ref a) (.ref C)
/-- isinstance(x, c) for one class c, a built-in or an own one: kitOne's answer -/
theorem isinst_ok {x : V} {u t : Value} (I : Inv X pins σ H s) (rx : RelV x u) (ty : TyOf X.K H x t) (e : PySem.W.kitOne X.K t c = some b) (h : ∀ tk, Q (.bool b) { s with toks := tk }) :
    wpAny (model X.prog X.w) A (call (.builtin "isinstance") [u, c]) Q E s := by
  cases ty with
  | non => cases (show u = Value.none from rx); exact PySem.W.kia_one PySem.W.kitx_none I.kIn True.intro e (fun z => nomatch z) h
  | bl y => cases (show u = Value.bool y from rx); exact PySem.W.kia_one PySem.W.kitx_bool I.kIn True.intro e (fun z => nomatch z) h
  | int i => obtain ⟨t, q⟩ := (show ∃ t, u = Value.int i t from rx); cases q; exact PySem.W.kia_one PySem.W.kitx_int I.kIn True.intro e (fun z => nomatch z) h
  | str y => obtain ⟨t, q⟩ := (show ∃ t, u = Value.str y t from rx); cases q; exact PySem.W.kia_one PySem.W.kitx_str I.kIn True.intro e (fun z => nomatch z) h
  | flt y => obtain ⟨t, q⟩ := (show ∃ t, u = Value.float y t from rx); cases q; exact PySem.W.kia_one PySem.W.kitx_float I.kIn True.intro e (fun z => nomatch z) h
  | @lst a xs ea =>
    cases (show u = Value.ref a from rx)
    obtain ⟨_, _, n, _, h1⟩ := (show ObjOk X.prog X.w H s.heap a (.lst xs) from I.hok a _ ea)
    exact PySem.W.kia_one PySem.W.kitx_list I.kIn ⟨_, h1, rfl⟩ e (fun z => nomatch z) h
  | @frz a ob xs ea =>
    cases (show u = Value.ref a from rx)
    obtain ⟨_, _, _, n, _, h1⟩ := (show ObjOk X.prog X.w H s.heap a (.frz ob (.lst xs)) from I.hok a _ ea)
    exact PySem.W.kia_one PySem.W.kitx_list I.kIn ⟨_, h1, rfl⟩ e (fun z => nomatch z) h
  | @tup a xs ea =>
    cases (show u = Value.ref a from rx)
    obtain ⟨_, _, _, p⟩ := (show ObjOk X.prog X.w H s.heap a (.tup xs) from I.hok a _ ea)
    obtain ⟨o, h1, h2, _⟩ := p
    exact PySem.W.kia_one PySem.W.kitx_tuple I.kIn ⟨o, h1, h2⟩ e (fun z => nomatch z) h
  | @dK a kvs ea =>
    cases (show u = Value.ref a from rx)
    obtain ⟨_, _, vs, _, p⟩ := (show ObjOk X.prog X.w H s.heap a (.dK kvs) from I.hok a _ ea)
    obtain ⟨o, es, ep, h1, h2, _⟩ := p
    exact PySem.W.kia_one PySem.W.kitx_dict I.kIn ⟨o, h1, h2.1⟩ e (fun z => nomatch z) h
  | @dT a kvs ea =>
    cases (show u = Value.ref a from rx)
    obtain ⟨_, _, xs, _, o, es, ep, h1, h2, _⟩ := (show ObjOk X.prog X.w H s.heap a (.dT kvs) from I.hok a _ ea)
    exact PySem.W.kia_one PySem.W.kitx_dict I.kIn ⟨o, h1, h2.1⟩ e (fun z => nomatch z) h
  | @ins a C dx fs ea cl ha hn htk hm =>
    cases (show u = Value.ref a from rx)
    obtain ⟨mA, O, _⟩ := ins_get I.hok ea
    obtain ⟨od, J, _⟩ := O.look
    exact PySem.W.kia_one (PySem.W.kitx_own (cl.get _) cl.hd ha hn htk hm) I.kIn J e (fun z => nomatch z) h
end
end L2

namespace L2
open PySem PySem.Spec PyProof.Rows

/-! ### room -/
structure Room (k : Nat) (A : Around) : Prop where
  hd : A.handled = none
  dp : A.depth + 3 * k + 5 < recursionLimit
  un : A.units + 16 * k + 200 < cLine
theorem Room.mono {j k : Nat} {A : Around} (r : Room k A) (h : j ≤ k) : Room j A := ⟨r.hd, by have := r.dp; omega, by have := r.un; omega⟩
theorem Room.deeper {k : Nat} {A : Around} (r : Room (k + 1) A) (env : Env) : Room k (A.deeper env) :=
  ⟨r.hd, by have := r.dp; show A.depth + 1 + 3 * k + 5 < _; omega, by have := r.un; show A.units + 3 + 16 * k + 200 < _; omega⟩
theorem Room.in1 {k : Nat} {A : Around} (r : Room (k + 1) A) : Room k A.in1 :=
  ⟨r.hd, by have := r.dp; show A.depth + 3 * k + 5 < _; omega, by have := r.un; show A.units + 1 + 16 * k + 200 < _; omega⟩
theorem make_depth {A : Around} {C : Addr} {us : List Value} {kw : List (Str × Value)} : (A.under (.builtin "type.__call__" ⟨.ref C :: us, kw⟩)).depth = A.depth + 1 := by
  first | rfl | simp [Around.under, Code.weight, Code.isCreation, Code.isGuard, Code.isCaller, Code.frames, Code.isFrame, guardIds]
theorem make_units {A : Around} {C : Addr} {us : List Value} {kw : List (Str × Value)} : (A.under (.builtin "type.__call__" ⟨.ref C :: us, kw⟩)).units = A.units + 1 := by
  first | rfl | simp [Around.under, Code.cUnits, Code.frames, Code.isFrame]
theorem Room.make {k : Nat} {A : Around} (r : Room (k + 1) A) (C : Addr) (us : List Value) (kw : List (Str × Value)) : Room k (A.under (.builtin "type.__call__" ⟨.ref C :: us, kw⟩)) :=
  ⟨r.hd, by have := r.dp; rw [make_depth]; omega, by have := r.un; rw [make_units]; omega⟩
theorem Room.depth {k : Nat} {A : Around} (r : Room k A) : A.depth < recursionLimit := by have := r.dp; omega
theorem Room.units {k : Nat} {A : Around} (r : Room k A) : A.units + 64 < cLine := by have := r.un; omega
theorem Room.units0 {k : Nat} {A : Around} (r : Room k A) : A.units < cLine := by have := r.un; omega

/-! ### argument lists and displays -/
def tNil : TA := fun _ H Q => Q [] H
def tCons (ta : TE) (tr : TA) : TA := fun σ H Q => ta σ H fun x H1 => tr σ H1 fun xs H2 => Q (x :: xs) H2
section
variable {X : Cx} {e : Expr} {es : List Expr} {te : TE} {t : TA} {pos : Pos}
theorem pa_nil : PA X [] tNil := fun _ _ _ _ H Q I h => Calls.spliced_nil ⟨[], H, I, .nil, h⟩
theorem pa_cons (ha : PE X e te) (hr : PA X es t) (hs : starEach (e :: es) X.env = (false, eval e X.env) :: starEach es X.env := by rfl) : PA X (e :: es) (tCons te t) := by
  intro pos pins s σ H Q I h
  rw [hs]
  show wpAny _ _ (spliced ((false, eval e X.env) :: backTo pos (starEach es X.env))) _ _ s
  refine Calls.spliced_cons (thn (ha pins s σ H _ I h) fun u s1 ⟨x, H1, I1, r1, q1⟩ => ?_)
  exact thn (hr pos pins s1 σ H1 _ I1 q1) fun us s2 ⟨xs, H2, I2, r2, q2⟩ => ⟨x :: xs, H2, I2, .cons r1 r2, q2⟩

/-- a tuple, a list of written items -/
def tTup (t : TA) : TE := fun σ H Q => t σ H fun xs H1 => xs.length ≤ sizeLine ∧ ∀ p, H1 p = none → Q (.ref p) (upd H1 p (.tup xs))
def tLst (t : TA) : TE := fun σ H Q => t σ H fun xs H1 => xs.length ≤ sizeLine ∧ ∀ p, H1 p = none → Q (.ref p) (upd H1 p (.lst xs))
theorem pe_tup {x1} (h : PA X es t) : PE X (.Tuple es x1 pos) (tTup t) := by
  intro pins s σ H Q I hq
  refine wpAny_Tuple_spliced (thn (h pos pins s σ H _ I hq) fun us s1 ⟨xs, H1, I1, r, z, q⟩ => ⟨by rw [← r.length]; exact z, ?_⟩)
  have hf : H1 s1.heap.objs.size = none := I1.hok.fresh (Nat.le_refl _)
  refine ⟨.ref s1.heap.objs.size, upd H1 s1.heap.objs.size (.tup xs), I1.laid (t' := s1.toks) (fun b u e => Heap.get?_push_of_some _ e) (Nat.le_refl _) ?_, rfl, q _ hf⟩
  exact ⟨z, us, r, ⟨_, Heap.get?_push_size _ rfl, rfl, _, rfl⟩⟩
theorem pe_lst (h : PA X es t) : PE X (.List es pos) (tLst t) := by
  intro pins s σ H Q I hq
  refine wpAny_List_spliced (thn (h pos pins s σ H _ I hq) fun us s1 ⟨xs, H1, I1, r, z, q⟩ => ⟨by rw [← r.length]; exact z, ?_⟩)
  have hf : H1 s1.heap.objs.size = none := I1.hok.fresh (Nat.le_refl _)
  refine ⟨.ref s1.heap.objs.size, upd H1 s1.heap.objs.size (.lst xs), I1.laid (t' := s1.toks) (fun b u e => Heap.get?_push_of_some _ e) (Nat.le_refl _) ?_, rfl, q _ hf⟩
  exact ⟨z, us, 0, r, Heap.get?_push_size _ rfl⟩
end

/-! ### what a def promises -/
/-- a def's promise: the bound arguments in the parameters' order, the heap, the wanted end, the wanted exception -/
abbrev Sp := List V → Hp → VK → XK → Prop
/-- how an exception lies behind a call (file 08 gives it): the callers' frames, abstract heap and state ahead of the call, the wish, the exception, the state -/
abbrev CXT := List Env → Hp → Shared → XK → Value → Shared → Prop

/-- the state at a call -/
structure Env0 (P : Program) (w : World) (K : PySem.W.Frag) (mg : Str → Option Value) (base : Heap) (A : Around) (outer : List Env) (s : Shared) (H : Hp) : Prop where
  frames : A.frames = some outer
  mod : Mod K mg base
  bs : ∀ b o, base.get? b = some o → s.heap.get? b = some o ∧ H b = none
  bsz : base.objs.size ≤ s.heap.objs.size
  funs : s.heap.FunFrames base outer
  frf : ∀ b ∈ frs outer, H b = none
  hok : HOk P w H s.heap
  bare : AllBare s.gens
/-- a call's end -/
def CE (outer : List Env) (P : Program) (w : World) (H : Hp) (s : Shared) (Q : VK) (u : Value) (s' : Shared) : Prop :=
  ∃ v H', s'.os = s.os ∧ AllBare s'.gens ∧ Un (frs outer) [] H H' s.heap s'.heap ∧ HOk P w H' s'.heap ∧ RelV v u ∧ Q v H'
def CR (CX : CXT) (outer : List Env) (P : Program) (w : World) (H : Hp) (s : Shared) (Q : VK) (E : XK) (r : Result) (s' : Shared) : Prop :=
  match r with
  | .ok (.ret u) => CE outer P w H s Q u s'
  | .ok _ => False
  | .error e => CX outer H s E e s'
structure FnOk (P : Program) (w : World) (K : PySem.W.Frag) (mg : Str → Option Value) (base : Heap) (CX : CXT) (k : Nat) (f : Addr) (fd : FuncData) (ps : List Str) (sp : Sp) : Prop where
  len : ∀ vs H Q E, sp vs H Q E → vs.length = ps.length
  run : ∀ (A : Around) (outer : List Env) (s : Shared) (H : Hp) (args : Args) (us : List Value) (vs : List V) (Q : VK) (E : XK), Room k A → Env0 P w K mg base A outer s H → BindsTo s fd args (ps.zip us) → Vals vs us → sp vs H Q E →
    codeAny (model P w) A (.call (.ref f) args) (CR CX outer P w H s Q E) s
theorem FnOk.mono {P : Program} {w : World} {K : PySem.W.Frag} {mg : Str → Option Value} {base : Heap} {CX : CXT} {j k : Nat} {f : Addr} {fd : FuncData} {ps : List Str} {sp : Sp} (F : FnOk P w K mg base CX j f fd ps sp) (h : j ≤ k) :
    FnOk P w K mg base CX k f fd ps sp := ⟨F.len, fun A outer s H args us vs Q E hr => F.run A outer s H args us vs Q E (hr.mono h)⟩
/-- a weaker promise -/
theorem FnOk.imp {P : Program} {w : World} {K : PySem.W.Frag} {mg : Str → Option Value} {base : Heap} {CX : CXT} {k : Nat} {f : Addr} {fd : FuncData} {ps : List Str} {sp sp' : Sp} (F : FnOk P w K mg base CX k f fd ps sp)
    (h : ∀ vs H Q E, sp' vs H Q E → sp vs H Q E) : FnOk P w K mg base CX k f fd ps sp' :=
  ⟨fun vs H Q E q => F.len vs H Q E (h _ _ _ _ q), fun A outer s H args us vs Q E hr he hb hv hs => F.run A outer s H args us vs Q E hr he hb hv (h _ _ _ _ hs)⟩

theorem Env0.make {P : Program} {w : World} {K : PySem.W.Frag} {mg : Str → Option Value} {base : Heap} {A : Around} {outer : List Env} {s : Shared} {H : Hp} (e : Env0 P w K mg base A outer s H) (C : Addr) (us : List Value) (kw : List (Str × Value)) :
    Env0 P w K mg base (A.under (.builtin "type.__call__" ⟨.ref C :: us, kw⟩)) outer s H := ⟨by first | exact e.frames | (simpa [Around.under, Code.envs, Code.isFrame, pushEnvs] using e.frames), e.mod, e.bs, e.bsz, e.funs, e.frf, e.hok, e.bare⟩
theorem Env0.in1 {P : Program} {w : World} {K : PySem.W.Frag} {mg : Str → Option Value} {base : Heap} {A : Around} {outer : List Env} {s : Shared} {H : Hp} (e : Env0 P w K mg base A outer s H) :
    Env0 P w K mg base A.in1 outer s H := ⟨e.frames, e.mod, e.bs, e.bsz, e.funs, e.frf, e.hok, e.bare⟩

section
variable {X : Cx} {pins : List (Addr × Obj)} {σ : St} {H : Hp} {s s' : Shared}
/-- from a body: what a callee wants -/
theorem Inv.env0 (I : Inv X pins σ H s) : Env0 X.prog X.w X.K X.mg X.base X.A X.stack s H :=
  ⟨I.ok.frames, I.ok.mod, I.bs, Nat.le_trans I.ok.bsz I.sz, I.stack, I.stkFree, I.hok, I.bare⟩
/-- behind a call -/
theorem Inv.after {Q : VK} {u : Value} (I : Inv X pins σ H s) (h : CE X.stack X.prog X.w H s Q u s') : EP X pins σ Q u s' := by
  obtain ⟨v, H', os, bare, un, hok, r, q⟩ := h
  obtain ⟨hh, g, d, t, os'⟩ := s'
  obtain rfl : os' = s.os := os
  exact ⟨v, H', I.call (h' := hh) (g' := g) (d' := d) (t' := t) (ch := []) un hok bare (fun b z => absurd z (by simp)), r, q⟩
end

/-! ### calls -/
/-- f(..): the written arguments, then the defaults dvs; E: what is wanted of an exception -/
def tCall (sp : Sp) (dvs : List V) (E : XK) (t : TA) : TE := fun σ H Q => t σ H fun vs H1 => sp (vs ++ dvs) H1 Q E
/-- o.m(..) of an instance of the class at C -/
def tMeth (C : Addr) (m : Str) (sp : Sp) (dvs : List V) (E : XK) (ta : TE) (t : TA) : TE := fun σ H Q => ta σ H fun x H1 => ∃ a dx fs, x = .ref a ∧ H1 a = some (.ins C dx fs) ∧ fs.lookup m = none ∧
  t σ H1 fun vs H2 => sp (x :: (vs ++ dvs)) H2 Q E
/-- C(..): a new instance and its dict, then __init__ -/
def tMake (C : Addr) (sp : Sp) (dvs : List V) (E : XK) (t : TA) : TE := fun σ H Q => t σ H fun vs H1 => ∀ x dx, H1 x = none → H1 dx = none → dx ≠ x →
  sp (.ref x :: (vs ++ dvs)) (upd (upd H1 dx (.own x)) x (.ins C dx [])) (fun v H2 => v = .non ∧ Q (.ref x) H2) E

/-- how the parameters are bound: us the positional arguments, kw the keywords' values by name, ds the defaults that fill up -/
def Binds (K : PySem.W.Frag) (fd : FuncData) (ps : List Str) (ds : List Value) : Prop :=
  ∀ (s : Shared) (us : List Value), K.In s.heap → (us ++ ds).length = ps.length → BindsTo s fd ⟨us, []⟩ (ps.zip (us ++ ds))
/-- every parameter is given -/
theorem Binds.all {K : PySem.W.Frag} {fd : FuncData} {ps : List Str} (h : ∀ us : List Value, us.length = ps.length → bindArgs fd ⟨us, []⟩ = pure (ps.zip us)) : Binds K fd ps [] := fun s us _ hl => by
  rw [List.append_nil] at hl ⊢
  exact .of_eq (h us hl)

/-- an exception of a callee reaches what this body wants of exceptions -/
def Passes (CX : CXT) (X : Cx) (E : XK) : Prop := ∀ (pins : List (Addr × Obj)) (σ : St) (H : Hp) (s : Shared) (e : Value) (s' : Shared), Inv X pins σ H s → CX X.stack H s E e s' → X.xe e s'

section
variable {X : Cx} {CX : CXT} {k : Nat} {f C : Addr} {fd : FuncData} {ps : List Str} {sp : Sp} {dvs : List V} {ds : List Value} {E : XK} {x m : Str} {p pos apos : Pos} {e o : Expr} {es : List Expr} {ta : TE} {t : TA}

/-- the callee runs -/
theorem run_fn {pins : List (Addr × Obj)} {σ : St} {H : Hp} {s : Shared} {Q : VK} {us : List Value} {vs : List V} (F : FnOk X.prog X.w X.K X.mg X.base CX k f fd ps sp) (hr : Room k X.A) (hb : Binds X.K fd ps ds) (hd : Vals dvs ds) (hx : Passes CX X E)
    (I : Inv X pins σ H s) (r : Vals vs us) (h : sp (vs ++ dvs) H Q E) : wpAny (model X.prog X.w) X.A (call (.ref f) us) (EP X pins σ Q) X.xe s := by
  have r2 : Vals (vs ++ dvs) (us ++ ds) := r.append hd
  have hl : (us ++ ds).length = ps.length := by rw [← r2.length]; exact F.len _ _ _ _ h
  refine wpAny_call (codeAny_mono (F.run X.A X.stack s H ⟨us, []⟩ (us ++ ds) (vs ++ dvs) Q E hr I.env0 (hb s us I.kIn hl) r2 h) fun r s' hq => ?_)
  cases r with
  | error e => exact hx pins σ H s e s' I hq
  | ok fl =>
    cases fl with
    | ret u => exact I.after hq
    | next => exact False.elim hq
    | brk => exact False.elim hq
    | cont => exact False.elim hq

theorem pe_call (F : FnOk X.prog X.w X.K X.mg X.base CX k f fd ps sp) (hr : Room k X.A) (hg : Gl X x) (hm : X.mg x = some (.ref f)) (hk : PySem.W.keepIn X.K (.ref f) = true) (hb : Binds X.K fd ps ds) (hd : Vals dvs ds) (hx : Passes CX X E)
    (ha : PA X (e :: es) t) (hdb : (x == ("__debug__" : Str)) = false := by decide) (he : starEach (e :: es) X.env = (false, eval e X.env) :: starEach es X.env := by rfl) (hpl : (backTo pos (starEach es X.env)).any (·.1) = false := by rfl) :
    PE X (.Call (.Name x p) (e :: es) [] pos) (tCall sp dvs E t) := by
  intro pins s σ H Q I h
  refine wpAny_Call_Name_kw (ld_glob I hg hm ?_ hdb)
  refine PySem.W.callWith_K (h₀ := X.base) I.ok.mod.kin hk (thn (ha pos pins s σ H _ I h) fun us s1 ⟨vs, H1, I1, r, q⟩ => ⟨I1.kIn, ?_⟩) he hpl
  exact run_fn F hr hb hd hx I1 r q
theorem pe_call0 (F : FnOk X.prog X.w X.K X.mg X.base CX k f fd ps sp) (hr : Room k X.A) (hg : Gl X x) (hm : X.mg x = some (.ref f)) (hk : PySem.W.keepIn X.K (.ref f) = true) (hb : Binds X.K fd ps ds) (hd : Vals dvs ds) (hx : Passes CX X E)
    (hdb : (x == ("__debug__" : Str)) = false := by decide) : PE X (.Call (.Name x p) [] [] pos) (tCall sp dvs E tNil) := by
  intro pins s σ H Q I h
  refine wpAny_Call_Name_kw (ld_glob I hg hm ?_ hdb)
  exact PySem.W.callWith_K0 I.kIn hk (run_fn (us := []) F hr hb hd hx I .nil h)

/-- o.m(e, ..) -/
theorem pe_meth {pl : Sem Bool} (he : PE X o ta) (c : Cls X.K C) (hm : Meth X.K C m f) (F : FnOk X.prog X.w X.K X.mg X.base CX k f fd ps sp) (hr : Room k X.A) (hb : Binds X.K fd ps ds) (hd : Vals dvs ds) (hx : Passes CX X E) (ha : PA X (e :: es) t)
    (hst : starEach (e :: es) X.env = (false, eval e X.env) :: starEach es X.env := by rfl) (hpl : (backTo pos (starEach es X.env)).any (·.1) = false := by rfl)
    (ht : eval (.Call (.Attribute o m apos) (e :: es) [] pos) X.env = (do
      let ov ← eval o X.env
      standAt apos.atName
      let (f, first) ← holding [ov] (getMethod ov m pl)
      callWith pos f first (backTo pos (starEach (e :: es) X.env)) (backToKw pos (keywordEach [] X.env))) := by rfl) :
    PE X (.Call (.Attribute o m apos) (e :: es) [] pos) (tMeth C m sp dvs E ta t) := by
  intro pins s σ H Q I h
  refine PySem.W.methodCall_KW (pl := pl) (thn (he pins s σ H _ I h) fun u s1 ⟨x, H1, I1, rx, a, dx, fs, ex, ea, l, q⟩ => ?_) ht
  subst ex
  obtain rfl : u = Value.ref a := rx
  refine getmeth_ok I1 ea c hm l ?_
  refine PySem.W.callWith_K (first := [.ref a]) (h₀ := X.base) I.ok.mod.kin hm.kp (thn (ha pos pins s1 σ H1 _ I1 q) fun us s2 ⟨vs, H2, I2, r, q2⟩ => ⟨I2.kIn, ?_⟩) hst hpl
  exact run_fn (us := .ref a :: us) (vs := .ref a :: vs) F hr hb hd hx I2 (.cons rfl r) q2
/-- o.m() -/
theorem pe_meth0 {pl : Sem Bool} (he : PE X o ta) (c : Cls X.K C) (hm : Meth X.K C m f) (F : FnOk X.prog X.w X.K X.mg X.base CX k f fd ps sp) (hr : Room k X.A) (hb : Binds X.K fd ps ds) (hd : Vals dvs ds) (hx : Passes CX X E)
    (ht : eval (.Call (.Attribute o m apos) [] [] pos) X.env = (do
      let ov ← eval o X.env
      standAt apos.atName
      let (f, first) ← holding [ov] (getMethod ov m pl)
      callWith pos f first (backTo pos (starEach [] X.env)) (backToKw pos (keywordEach [] X.env))) := by rfl) :
    PE X (.Call (.Attribute o m apos) [] [] pos) (tMeth C m sp dvs E ta tNil) := by
  intro pins s σ H Q I h
  refine PySem.W.methodCall_KW (pl := pl) (thn (he pins s σ H _ I h) fun u s1 ⟨x, H1, I1, rx, a, dx, fs, ex, ea, l, q⟩ => ?_) ht
  subst ex
  obtain rfl : u = Value.ref a := rx
  refine getmeth_ok I1 ea c hm l ?_
  exact PySem.W.callWith_K0 (first := [.ref a]) I1.kIn hm.kp (run_fn (us := [.ref a]) (vs := [.ref a]) F hr hb hd hx I1 (.cons rfl .nil) q)

/-- what a class must have to be made -/
structure Mk (K : PySem.W.Frag) (C f : Addr) : Prop where
  makes : PySem.W.makesIn K C = true
  init : PySem.W.findIn K (.ref C) "__init__" = some (some (.ref f))
  fn : PySem.W.isFn K (.ref f) = true
  kp : PySem.W.keepIn K (.ref C) = true

theorem run_make {pins : List (Addr × Obj)} {σ : St} {H : Hp} {s : Shared} {Q : VK} {us : List Value} {vs : List V} (M : Mk X.K C f) (F : FnOk X.prog X.w X.K X.mg X.base CX k f fd ps sp) (hr : Room (k + 1) X.A) (hb : Binds X.K fd ps ds) (hd : Vals dvs ds)
    (hx : Passes CX X E) (I : Inv X pins σ H s) (r : Vals vs us)
    (h : ∀ x dx, H x = none → H dx = none → dx ≠ x → sp (.ref x :: (vs ++ dvs)) (upd (upd H dx (.own x)) x (.ins C dx [])) (fun v H2 => v = .non ∧ Q (.ref x) H2) E) :
    wpAny (model X.prog X.w) X.A (call (.ref C) us) (EP X pins σ Q) X.xe s := by
  have hq := h (s.heap.objs.size + 1) s.heap.objs.size (I.hok.fresh (Nat.le_succ _)) (I.hok.fresh (Nat.le_refl _)) (Nat.ne_of_lt (Nat.lt_succ_self _))
  have I2 := Inv.made (C := C) I
  have r2 : Vals (V.ref (s.heap.objs.size + 1) :: (vs ++ dvs)) (Value.ref (s.heap.objs.size + 1) :: (us ++ ds)) := .cons rfl (r.append hd)
  have hl : (Value.ref (s.heap.objs.size + 1) :: us ++ ds).length = ps.length := by
    have e := r2.length
    rw [F.len _ _ _ _ hq] at e
    exact e.symm
  refine wpAny_call (make_map (f := f) I.kIn M.makes M.init (beq_iff_eq.mp M.fn) (codeAny_mono (F.run _ X.stack _ _ ⟨Value.ref (s.heap.objs.size + 1) :: us, []⟩ (Value.ref (s.heap.objs.size + 1) :: (us ++ ds)) _ _ E (hr.make C us [])
    (I2.env0.make C us []) (hb _ (Value.ref (s.heap.objs.size + 1) :: us) I2.kIn hl) r2 hq) fun r s' hq' => ?_))
  cases r with
  | error e => exact hx pins σ _ _ e s' I2 hq'
  | ok fl =>
    cases fl with
    | ret u =>
      obtain ⟨v, H', I3, rv, ev, q3⟩ := I2.after hq'
      subst ev
      exact ⟨rv, ⟨V.ref (s.heap.objs.size + 1), H', I3, rfl, q3⟩⟩
    | next => exact False.elim hq'
    | brk => exact False.elim hq'
    | cont => exact False.elim hq'
theorem pe_make (M : Mk X.K C f) (F : FnOk X.prog X.w X.K X.mg X.base CX k f fd ps sp) (hr : Room (k + 1) X.A) (hg : Gl X x) (hm : X.mg x = some (.ref C)) (hb : Binds X.K fd ps ds) (hd : Vals dvs ds) (hx : Passes CX X E)
    (ha : PA X (e :: es) t) (hdb : (x == ("__debug__" : Str)) = false := by decide) (he : starEach (e :: es) X.env = (false, eval e X.env) :: starEach es X.env := by rfl) (hpl : (backTo pos (starEach es X.env)).any (·.1) = false := by rfl) :
    PE X (.Call (.Name x p) (e :: es) [] pos) (tMake C sp dvs E t) := by
  intro pins s σ H Q I h
  refine wpAny_Call_Name_kw (ld_glob I hg hm ?_ hdb)
  refine PySem.W.callWith_K (h₀ := X.base) I.ok.mod.kin M.kp (thn (ha pos pins s σ H _ I h) fun us s1 ⟨vs, H1, I1, r, q⟩ => ⟨I1.kIn, ?_⟩) he hpl
  exact run_make M F hr hb hd hx I1 r q
theorem pe_make0 (M : Mk X.K C f) (F : FnOk X.prog X.w X.K X.mg X.base CX k f fd ps sp) (hr : Room (k + 1) X.A) (hg : Gl X x) (hm : X.mg x = some (.ref C)) (hb : Binds X.K fd ps ds) (hd : Vals dvs ds) (hx : Passes CX X E)
    (hdb : (x == ("__debug__" : Str)) = false := by decide) : PE X (.Call (.Name x p) [] [] pos) (tMake C sp dvs E tNil) := by
  intro pins s σ H Q I h
  refine wpAny_Call_Name_kw (ld_glob I hg hm ?_ hdb)
  exact PySem.W.callWith_K0 I.kIn M.kp (run_make (us := []) M F hr hb hd hx I .nil h)
end

/-! ### keywords -/
/-- the values of the keywords, from the left -/
def PK (X : Cx) (kws : List Keyword) (t : TA) : Prop :=
  ∀ (pos : Pos) (pins : List (Addr × Obj)) (s : Shared) (σ : St) (H : Hp) (Q : List V → Hp → Prop), Inv X pins σ H s → t σ H Q → wpAny (model X.prog X.w) X.A (evalAll ((backToKw pos (keywordEach kws X.env)).map (·.2))) (AP X pins σ Q) X.xe s
section
variable {X : Cx} {CX : CXT} {k : Nat} {f C : Addr} {fd : FuncData} {ps ks : List Str} {sp : Sp} {E : XK} {x m : Str} {p pos apos kpos : Pos} {e o : Expr} {es : List Expr} {kws : List Keyword} {te ta : TE} {t tk : TA} {nm : Option Str}
theorem pk_nil : PK X [] tNil := fun _ _ _ _ H Q I h => wpAny_evalAll_nil ⟨[], H, I, .nil, h⟩
theorem pk_cons (ha : PE X e te) (hr : PK X kws t) : PK X (⟨nm, e, kpos⟩ :: kws) (tCons te t) := by
  intro pos pins s σ H Q I h
  show wpAny _ _ (evalAll ((do let v ← eval e X.env; standAt pos; pure v) :: (backToKw pos (keywordEach kws X.env)).map (·.2))) _ _ s
  refine wpAny_evalAll_cons (wpAny_bind (thn (ha pins s σ H _ I h) fun u s1 ⟨x, H1, I1, r1, q1⟩ => wpAny_bind (wpAny_standAt (wpAny_pure ?_))))
  exact thn (hr pos pins s1 σ H1 _ I1 q1) fun us s2 ⟨xs, H2, I2, r2, q2⟩ => ⟨x :: xs, H2, I2, .cons r1 r2, q2⟩

/-- how a call with keywords binds: g puts the positional values us and the keywords' values ws (names ks) in the parameters' order, defaults among them -/
structure KBinds (K : PySem.W.Frag) (fd : FuncData) (ps ks : List Str) (g : List Value → List Value → List Value) (gV : List V → List V → List V) : Prop where
  to : ∀ (s : Shared) (us ws : List Value), K.In s.heap → (g us ws).length = ps.length → BindsTo s fd ⟨us, ks.zip ws⟩ (ps.zip (g us ws))
  rel : ∀ {vs : List V} {us : List Value} {zs : List V} {ws : List Value}, Vals vs us → Vals zs ws → Vals (gV vs zs) (g us ws)
def tCallK (sp : Sp) (gV : List V → List V → List V) (E : XK) (t tk : TA) : TE := fun σ H Q => t σ H fun vs H1 => tk σ H1 fun zs H2 => sp (gV vs zs) H2 Q E
variable {g : List Value → List Value → List Value} {gV : List V → List V → List V}
theorem run_fnk {pins : List (Addr × Obj)} {σ : St} {H : Hp} {s : Shared} {Q : VK} {us ws : List Value} {vs zs : List V} (F : FnOk X.prog X.w X.K X.mg X.base CX k f fd ps sp) (hr : Room k X.A) (hb : KBinds X.K fd ps ks g gV) (hx : Passes CX X E)
    (I : Inv X pins σ H s) (r : Vals vs us) (rz : Vals zs ws) (h : sp (gV vs zs) H Q E) : wpAny (model X.prog X.w) X.A (call (.ref f) us (ks.zip ws)) (EP X pins σ Q) X.xe s := by
  have r2 := hb.rel r rz
  have hl : (g us ws).length = ps.length := by rw [← r2.length]; exact F.len _ _ _ _ h
  refine wpAny_call (codeAny_mono (F.run X.A X.stack s H ⟨us, ks.zip ws⟩ (g us ws) (gV vs zs) Q E hr I.env0 (hb.to s us ws I.kIn hl) r2 h) fun r s' hq => ?_)
  cases r with
  | error e => exact hx pins σ H s e s' I hq
  | ok fl =>
    cases fl with
    | ret u => exact I.after hq
    | next => exact False.elim hq
    | brk => exact False.elim hq
    | cont => exact False.elim hq
/-- f(e, .., k = v, ..) -/
theorem pe_callK (F : FnOk X.prog X.w X.K X.mg X.base CX k f fd ps sp) (hr : Room k X.A) (hg : Gl X x) (hm : X.mg x = some (.ref f)) (hk : PySem.W.keepIn X.K (.ref f) = true) (hb : KBinds X.K fd ps ks g gV) (hx : Passes CX X E)
    (ha : PA X (e :: es) t) (hkw : PK X kws tk) (hall : (backToKw pos (keywordEach kws X.env)).all (·.1.isSome) = true := by rfl) (hks : (backToKw pos (keywordEach kws X.env)).filterMap (·.1) = ks := by rfl)
    (hdb : (x == ("__debug__" : Str)) = false := by decide) (he : starEach (e :: es) X.env = (false, eval e X.env) :: starEach es X.env := by rfl)
    (hpl : ((backTo pos (starEach (e :: es) X.env)).any (·.1) || (backToKw pos (keywordEach kws X.env)).any (·.1.isNone)) = false := by rfl) :
    PE X (.Call (.Name x p) (e :: es) kws pos) (tCallK sp gV E t tk) := by
  intro pins s σ H Q I h
  refine wpAny_Call_Name_kw (ld_glob I hg hm ?_ hdb)
  refine PySem.W.callWith_KW (h₀ := X.base) I.ok.mod.kin hk hall (thn (ha pos pins s σ H _ I h) fun us s1 ⟨vs, H1, I1, r, q⟩ => ?_) hpl he
  refine thn (hkw pos pins s1 σ H1 _ I1 q) fun ws s2 ⟨zs, H2, I2, rz, q2⟩ => ⟨I2.kIn, ?_⟩
  rw [hks]
  exact run_fnk F hr hb hx I2 r rz q2
end

/-! ### a def's body keeps its promise -/
/-- names: the parameters first -/
structure FnScope (N P : List Str) (sc : Scope) : Prop where
  kind : sc.kind = .function
  co : sc.isCoroutine = false
  gen : sc.isGenerator = false
  nd : N.Nodup
  pre : N.take P.length = P
  par : ∀ x ∈ P, sc.names.lookup x = some .local ∨ sc.names.lookup x = some .cell
  nofree : ∀ y ∈ sc.names, y.2 ≠ .free

theorem bindL_out {kindOf : Str → Option NameKind} {x : Str} : ∀ {binds : List (Str × Value)} {m : Str → Option Value}, (∀ v, (x, v) ∉ binds) → bindL kindOf binds m x = m x
  | [], _, _ => rfl
  | (n, v) :: r, m, h => by
    unfold bindL
    rw [bindL_out fun w hw => h w (List.mem_cons_of_mem _ hw)]
    split
    · have : x ≠ n := by rintro rfl; exact h v List.mem_cons_self
      simp [this]
    · rfl
theorem bindC_out {kindOf : Str → Option NameKind} {x : Str} : ∀ {binds : List (Str × Value)} {m : Str → Option Value}, (∀ v, (x, v) ∉ binds) → bindC kindOf binds m x = m x
  | [], _, _ => rfl
  | (n, v) :: r, m, h => by
    unfold bindC
    rw [bindC_out fun w hw => h w (List.mem_cons_of_mem _ hw)]
    split
    · rfl
    · have : x ≠ n := by rintro rfl; exact h v List.mem_cons_self
      simp [this]
theorem bindL_get {kindOf : Str → Option NameKind} {x : Str} {v : Value} : ∀ {P : List Str} {vs : List Value} {i : Nat} {m : Str → Option Value}, P.Nodup → P[i]? = some x → vs[i]? = some v → kindOf x = some .local →
    bindL kindOf (P.zip vs) m x = some v
  | [], _, _, _, _, h, _, _ => by simp at h
  | _ :: _, [], _, _, _, _, h, _ => by simp at h
  | p :: P, w :: vs, 0, m, nd, h1, h2, hk => by
    simp at h1 h2; subst h1; subst h2
    show bindL kindOf ((p, w) :: P.zip vs) m p = _
    unfold bindL
    rw [bindL_out fun v hv => (List.nodup_cons.mp nd).1 (List.of_mem_zip hv).1, if_pos hk]
    simp
  | p :: P, w :: vs, i + 1, m, nd, h1, h2, hk => by
    show bindL kindOf ((p, w) :: P.zip vs) m x = _
    unfold bindL
    exact bindL_get (i := i) (List.nodup_cons.mp nd).2 (by simpa using h1) (by simpa using h2) hk
theorem bindC_get {kindOf : Str → Option NameKind} {x : Str} {v : Value} : ∀ {P : List Str} {vs : List Value} {i : Nat} {m : Str → Option Value}, P.Nodup → P[i]? = some x → vs[i]? = some v → kindOf x ≠ some .local →
    bindC kindOf (P.zip vs) m x = some v
  | [], _, _, _, _, h, _, _ => by simp at h
  | _ :: _, [], _, _, _, _, h, _ => by simp at h
  | p :: P, w :: vs, 0, m, nd, h1, h2, hk => by
    simp at h1 h2; subst h1; subst h2
    show bindC kindOf ((p, w) :: P.zip vs) m p = _
    unfold bindC
    rw [bindC_out fun v hv => (List.nodup_cons.mp nd).1 (List.of_mem_zip hv).1, if_neg hk]
    simp
  | p :: P, w :: vs, i + 1, m, nd, h1, h2, hk => by
    show bindC kindOf ((p, w) :: P.zip vs) m x = _
    unfold bindC
    exact bindC_get (i := i) (List.nodup_cons.mp nd).2 (by simpa using h1) (by simpa using h2) hk

/-- the names' values at the entry -/
def start (N : List Str) (vs : List V) : St := vs.map some ++ List.replicate (N.length - vs.length) none

/-- the context of a def's body, at its entry; an exception leaves the frame, then lies as CX says -/
def cxOf (CX : CXT) (P : Program) (w : World) (K : PySem.W.Frag) (mg : Str → Option Value) (base : Heap) (N : List Str) (qual : Str) (scope : Scope) (f : Addr) (cd : Value) (A : Around) (outer : List Env) (s : Shared) (H : Hp) (E : XK) : Cx where
  prog := P
  w := w
  K := K
  mg := mg
  base := base
  A := A.deeper (envOfC qual scope s.heap.objs.size f cd)
  N := N
  s₀ := s
  H₀ := H
  env := envOfC qual scope s.heap.objs.size f cd
  outer := outer
  stack := envOfC qual scope s.heap.objs.size f cd :: outer
  ex := []
  calm := true
  fn := fun _ => true
  pn := []
  xe := fun e s' => wpAny (model P w) (A.deeper (envOfC qual scope s.heap.objs.size f cd)) (leaving (envOfC qual scope s.heap.objs.size f cd) e) (fun _ s'' => CX outer H s E e s'') (fun e' s'' => CX outer H s E e' s'') s'

theorem cell_has {sc : Scope} {n : Nat} {x : Str} (h : sc.names.lookup x = some .cell) : ∃ c, (cellsFrom n sc.names []).lookup x = some c := by
  have q := PySem.W.cellsFrom_some sc.names n [] (.inl h)
  exact Option.isSome_iff_exists.mp q

theorem inv_start {CX : CXT} {P : Program} {w : World} {K : PySem.W.Frag} {mg : Str → Option Value} {base : Heap} {N ps : List Str} {qual : Str} {scope : Scope} {f : Addr} {cd : Value} {A : Around} {outer : List Env} {s s1 : Shared} {H : Hp} {E : XK} {us : List Value} {vs : List V}
    (S : FnScope N ps scope) (hd : A.handled = none) (e0 : Env0 P w K mg base A outer s H) (hl : vs.length = ps.length) (r : Vals vs us)
    (x : InCallC s s.heap.objs.size (bindL (envOfC qual scope s.heap.objs.size f cd).kindOf (ps.zip us) fun _ => none) (cellsFrom (s.heap.objs.size + 1) scope.names []) (bindC (envOfC qual scope s.heap.objs.size f cd).kindOf (ps.zip us) fun _ => none) s1) :
    Inv (cxOf CX P w K mg base N qual scope f cd A outer s H E) [] (start N vs) H s1 := by
  have hpl : ps.length ≤ N.length := by have := congrArg List.length S.pre; rw [List.length_take] at this; omega
  obtain ⟨h1, tk, rfl, hk⟩ := x.done
  have noA : ∀ b : Addr, b ∉ (cxOf CX P w K mg base N qual scope f cd A outer s H E).ex := fun b z => absurd (show b ∈ ([] : List Addr) from z) (by simp)
  refine ⟨⟨e0.mod, S.kind, rfl, rfl, Nat.le_refl _, fun y z c h1 h2 => ?_, fun y hy => ?_, fun y c _ h => ?_, fun _ => hd, Around.frames_deeper e0.frames, .inr ⟨rfl, rfl⟩, fun b z => absurd z (noA b), e0.bs, e0.bsz, fun b _ _ => noA b, fun b z => absurd z (noA b), e0.funs, e0.frf⟩,
    rfl, e0.bare, Un.kept hk, ⟨_, x.toInCall.ns, fun i y v h1 h2 h3 => ?_⟩, fun y c h => ⟨_, x.cell y c h⟩, e0.hok.fresh (Nat.le_refl _), fun y c h => ?_, fun p hp => absurd (show p ∈ ([] : List (Addr × Obj)) from hp) (by simp), e0.hok.kept hk, ?_⟩
  · exact name_of_addr x.apart (PySem.mem_of_lookup h1) (PySem.mem_of_lookup h2)
  · have hy : scope.names.lookup y = some .cell ∨ scope.names.lookup y = some .free := hy
    rcases hy with hy | hy
    · exact cell_has hy
    · exact absurd rfl (S.nofree _ (PySem.mem_of_lookup hy))
  · exact Nat.le_of_lt (x.above y c (PySem.mem_of_lookup h))
  · have hi : i < vs.length := by
      unfold start at h2
      by_cases hi : i < vs.length
      · exact hi
      · rw [List.getElem?_append_right (by simpa using hi)] at h2
        rw [List.getElem?_replicate] at h2
        split at h2 <;> cases h2
    have ha : vs[i]? = some v := by
      unfold start at h2
      rw [List.getElem?_append_left (by simpa using hi), List.getElem?_map] at h2
      cases e : vs[i]? with
      | none => rw [e] at h2; cases h2
      | some a => rw [e] at h2; cases h2; rfl
    obtain ⟨u, hu, rv⟩ := r.get ha
    have hp : ps[i]? = some y := by
      rw [← S.pre, List.getElem?_take_of_lt (by omega)]; exact h1
    have ndP : ps.Nodup := by rw [← S.pre]; exact S.nd.sublist (List.take_sublist _ _)
    refine ⟨u, rv, ?_⟩
    rcases S.par y (List.mem_of_getElem? hp) with k | k
    · exact .inl ⟨k, bindL_get ndP hp hu k⟩
    · obtain ⟨c, e⟩ := cell_has (n := s.heap.objs.size + 1) k
      refine .inr ⟨.inl k, c, e, ?_⟩
      have q := x.cell y c e
      rw [bindC_get ndP hp hu (by show scope.names.lookup y ≠ _; rw [k]; decide)] at q
      exact q
  · exact e0.hok.fresh (Nat.le_of_lt (x.above y c (PySem.mem_of_lookup h)))
  · unfold start
    show _ = N.length
    rw [List.length_append, List.length_map, List.length_replicate]
    omega

/-- THE RULE: a def (or a method) of the text, by its body. The body's reading t is chosen for each entry; it is run at the parameters' values -/
theorem fn_of {CX : CXT} {P : Program} {w : World} {K : PySem.W.Frag} {mg : Str → Option Value} {base : Heap} {k : Nat} {f : Addr} {name qual : Str} {params : Arguments} {body : List Stmt} {scope : Scope} {dV kV doc pm cdv ct oc : Value} {an od : Option Addr}
    {osl : Array (Option Value)} {N ps : List Str} {sp : Sp} (lk : K.lookup f = some ⟨oc, od, .func (PySem.W.fnOf name qual params body scope dV kV doc pm an cdv ct), osl⟩) (hcd : PySem.W.codeIn K cdv qual = true) (S : FnScope N ps scope)
    (len : ∀ vs H Q E, sp vs H Q E → vs.length = ps.length)
    (hbody : ∀ (A : Around) (outer : List Env) (s : Shared) (H : Hp) (vs : List V) (Q : VK) (E : XK), Room k (A.deeper (envOfC qual scope s.heap.objs.size f cdv)) → sp vs H Q E →
      ∃ t, PSs (cxOf CX P w K mg base N qual scope f cdv A outer s H E) body t ∧ t { nx := fun _ H' => Q .non H', rt := Q } (start N vs) H) :
    FnOk P w K mg base CX (k + 1) f (PySem.W.fnOf name qual params body scope dV kV doc pm an cdv ct) ps sp := by
  refine ⟨len, fun A outer s H args us vs Q E hr e0 hb r hsp => ?_⟩
  have hl := len _ _ _ _ hsp
  have KX : K.In s.heap := e0.mod.kin.keeps fun b o e => (e0.bs b o e).1
  have lim : s.heap.NoLimit := e0.mod.nolimit.keeps fun b o e => (e0.bs b o e).1
  have hkind : ∀ y ∈ ps.zip us, scope.names.lookup y.1 = some .local ∨ (scope.names.lookup y.1 = some .cell ∧ ((cellsFrom (s.heap.objs.size + 1) scope.names []).lookup y.1).isSome = true) := fun ⟨n, v⟩ hy => by
    rcases S.par n (List.of_mem_zip hy).1 with q | q
    · exact .inl q
    · exact .inr ⟨q, PySem.W.cellsFrom_some _ _ _ (.inl q)⟩
  refine codeAny_call_function hr.depth (KX _ _ lk) rfl S.co S.gen rfl (PySem.W.codeRec_of KX hcd) (hb _ _ _ _ ?_)
  refine wpAny_newFunctionEnv_cells S.kind hkind fun env he s1 x => ?_
  subst he
  refine ⟨lim.keeps x.toInCall.keep, codeAny_func ?_⟩
  obtain ⟨t, ht, hq⟩ := hbody A outer s H vs Q E (hr.deeper _) hsp
  have I : Inv (cxOf CX P w K mg base N qual scope f cdv A outer s H E) [] (start N vs) H s1 := inv_start S hr.hd e0 hl r x
  refine wpAny_mono (ht [] s1 (start N vs) H _ I hq) (fun fl s' hs => ?_) fun e s' hs => hs
  have fin : ∀ {σ' : St} {H' : Hp} {v : V} {u : Value}, Inv (cxOf CX P w K mg base N qual scope f cdv A outer s H E) [] σ' H' s' → RelV v u → Q v H' → CE outer P w H s Q u s' :=
    fun {σ' H' v u} J rv q => ⟨v, H', J.os, J.bare, J.base, J.hok, rv, q⟩
  cases fl with
  | ret u =>
    obtain ⟨v, σ', H', J, rv, q⟩ := hs
    exact fin J rv q
  | next =>
    obtain ⟨σ', H', J, q⟩ := hs
    exact fin (v := V.non) (u := Value.none) J rfl q
  | brk =>
    obtain ⟨_, _, _, q⟩ := hs
    exact False.elim q
  | cont =>
    obtain ⟨_, _, _, q⟩ := hs
    exact False.elim q
end L2

namespace L2
open PySem PySem.Spec PyProof.Rows
section
variable {X : Cx} {x : Str} {p pos : Pos} {e : Expr} {es : List Expr} {t : TA} {id T : String} {r : List V → Hp → VK → Prop}

def tCB (r : List V → Hp → VK → Prop) (t : TA) : TE := fun σ H Q => t σ H fun vs H1 => r vs H1 Q
/-- f(e, ..), f a built-in function -/
theorem pe_callB (hc : CallR X (.builtin id) r) (hg : Gl X x) (hm : X.mg x = none) (hv : bootBuiltins x = some (.builtin id)) (ha : PA X (e :: es) t) (hn : x ≠ "__name__" := by decide) (hdb : (x == ("__debug__" : Str)) = false := by decide)
    (he : starEach (e :: es) X.env = (false, eval e X.env) :: starEach es X.env := by rfl) (hpl : (backTo pos (starEach es X.env)).any (·.1) = false := by rfl) : PE X (.Call (.Name x p) (e :: es) [] pos) (tCB r t) := by
  intro pins s σ H Q I h
  refine wpAny_Call_Name_kw (ld_blt I hg hm hv ?_ hn hdb)
  exact PyProof.Rows.callWith_builtin1 (thn (ha pos pins s σ H _ I h) fun us s1 ⟨vs, H1, I1, r1, q1⟩ => hc pins s1 σ H1 vs us Q I1 r1 q1) he hpl
/-- T(e, ..), T a built-in type -/
theorem pe_callTy (hc : CallR X (.type T) r) (hg : Gl X x) (hm : X.mg x = none) (hv : bootBuiltins x = some (.type T)) (ha : PA X (e :: es) t) (hn : x ≠ "__name__" := by decide) (hdb : (x == ("__debug__" : Str)) = false := by decide)
    (he : starEach (e :: es) X.env = (false, eval e X.env) :: starEach es X.env := by rfl) (hpl : (backTo pos (starEach es X.env)).any (·.1) = false := by rfl) : PE X (.Call (.Name x p) (e :: es) [] pos) (tCB r t) := by
  intro pins s σ H Q I h
  refine wpAny_Call_Name_kw (ld_blt I hg hm hv ?_ hn hdb)
  exact PyProof.Rows.callWith_type1 (thn (ha pos pins s σ H _ I h) fun us s1 ⟨vs, H1, I1, r1, q1⟩ => hc pins s1 σ H1 vs us Q I1 r1 q1) he hpl
/-- T() -/
theorem pe_callTy0 (hc : CallR X (.type T) r) (hg : Gl X x) (hm : X.mg x = none) (hv : bootBuiltins x = some (.type T)) (hn : x ≠ "__name__" := by decide) (hdb : (x == ("__debug__" : Str)) = false := by decide) :
    PE X (.Call (.Name x p) [] [] pos) (tCB r tNil) := by
  intro pins s σ H Q I h
  refine wpAny_Call_Name_kw (ld_blt I hg hm hv ?_ hn hdb)
  exact PyProof.Rows.callWith_type0 (hc pins s σ H [] [] Q I .nil h)
end
end L2

namespace HT
open PySem PyProof.Rows

/-- t < u of tuples of ints -/
def lexLt : List Int → List Int → Bool
  | [], [] => false
  | [], _ :: _ => true
  | _ :: _, [] => false
  | x :: xs, y :: ys => if x = y then lexLt xs ys else decide (x < y)
theorem lexLt_cons (x y : Int) (xs ys : List Int) : lexLt (x :: xs) (y :: ys) = if x = y then lexLt xs ys else decide (x < y) := rfl
theorem lexLt_nil_nil : lexLt [] [] = false := rfl
theorem lexLt_nil_cons (y : Int) (ys : List Int) : lexLt [] (y :: ys) = true := rfl
theorem lexLt_cons_nil (x : Int) (xs : List Int) : lexLt (x :: xs) [] = false := rfl

theorem eqAt_int (A : Around) (s : Shared) (a : Int) (t : Tok) (c : Int) (u : Tok) : ∃ e, SeqAt.EqAt A s (.int a t) (.int c u) e ∧ (e = true ↔ a = c) :=
  ⟨(a == c), SeqAt.EqAt.int_int a t c u, by simp⟩
theorem rcLt_int (A : Around) (s : Shared) (a : Int) (t : Tok) (c : Int) (u : Tok) (prog : Program) (w : World) (E : Value → Shared → Prop) (Q : Value → Shared → Prop) (h : Q (.bool (decide (a < c))) s) :
    wpAny (model prog w) A (richCompare .Lt (.int a t) (.int c u)) Q E s :=
  (PyProof.Rows.lt_int h : wpAny (model prog w) A (compareOp .Lt (.int a t) (.int c u)) Q E s)

section
open PySem.SeqAt
open PySem.AutoSeq1 (wpAny_loadPart')
open PySem.MeetsSeq PySem.MeetsSeq2 PySem.MeetsSeq3

theorem tuple_lt_ints (l b : Addr) (items items2 : Array Value) (n n2 : Nat) (dd dd2 : Option Addr) (sl sl2 : Array (Option Value)) (ns ms : List Int) (hi : IntsAre items.toList ns) (hj : IntsAre items2.toList ms) :
    Meets (Builtin.«tuple.__lt__» ⟨[.ref l, .ref b], []⟩)
      (fun _ R s => s.heap.get? l = some { cls := .type "tuple", dict := dd, data := .seq items n, slots := sl } ∧ s.heap.get? b = some { cls := .type "tuple", dict := dd2, data := .seq items2 n2, slots := sl2 } ∧
        R (.ok (.ret (.bool (lexLt ns ms)))) s) :=
  .of_wp fun prog w A R s h => by
    obtain ⟨hp, g, d, tk, os⟩ := s; obtain ⟨hl, hb, h⟩ := h
    have f2 := AutoSeq1.sub_tuple_tuple
    have z1 : items.size = ns.length := by rw [← hi.length]; simp
    have z2 : items2.size = ms.length := by rw [← hj.length]; simp
    wp_walk using wpAny_loadPart' hl, wpAny_loadPart' hb, wpAny_forIn_list _ (fun rest b s' => b.1 = none ∧ s' = ⟨hp, g, d, tk, os⟩ ∧ ∃ (vs ws : List Value) (ns' ms' : List Int), rest = vs.zip ws ∧
      IntsAre vs ns' ∧ IntsAre ws ms' ∧ ns'.length + items2.size = ms'.length + items.size ∧ R (.ok (.ret (.bool (lexLt ns' ms')))) ⟨hp, g, d, tk, os⟩) _
    case turn =>
      rintro ⟨y, x⟩ rest b s' ⟨hb', rfl, vs, ws, ns', ms', hz, hvi, hwi, hlen, hR⟩
      cases hvi with
      | nil => rw [List.zip_nil_left] at hz; cases hz
      | cons a t hvi' =>
        cases hwi with
        | nil => rw [List.zip_nil_right] at hz; cases hz
        | cons c u hwi' =>
          rw [List.zip_cons_cons] at hz
          injection hz with hyx hrest
          injection hyx with hy hx
          subst hy hx
          rw [lexLt_cons] at hR
          simp only [List.length_cons] at hlen
          obtain ⟨e, he, hiff⟩ := eqAt_int A.in1 ⟨hp, g, d, tk, os⟩ a t c u
          refine wpAny_bind (he prog w _ _ ?_)
          cases e with
          | true =>
            rw [if_pos (hiff.mp rfl)] at hR
            wp_walk
            exact ⟨rfl, rfl, _, _, _, _, hrest, hvi', hwi', by omega, hR⟩
          | false =>
            rw [if_neg (fun q => absurd (hiff.mpr q) Bool.false_ne_true)] at hR
            have hri := rcLt_int A.in1 ⟨hp, g, d, tk, os⟩ a t c u prog w
            wp_walk using hri
            exact ⟨_, rfl, by simpa using hR⟩
    case fin =>
      rintro ⟨b1, b2⟩ s' ⟨hb', rfl, vs, ws, ns', ms', hz, hvi, hwi, hlen, hR⟩
      simp only at hb'
      subst hb'
      have hv : lexLt ns' ms' = decide (items.size < items2.size) := by
        cases hvi with
        | nil =>
          cases hwi with
          | nil =>
            simp only [List.length_nil] at hlen
            rw [lexLt_nil_nil]
            exact (decide_eq_false (by omega)).symm
          | cons c u hw =>
            simp only [List.length_nil, List.length_cons] at hlen
            rw [lexLt_nil_cons]
            exact (decide_eq_true (by omega)).symm
        | cons a t hv =>
          cases hwi with
          | nil =>
            simp only [List.length_nil, List.length_cons] at hlen
            rw [lexLt_cons_nil]
            exact (decide_eq_false (by omega)).symm
          | cons c u hw =>
            rw [List.zip_cons_cons] at hz
            cases hz
      rw [hv] at hR
      wp_walk
      exact ⟨_, rfl, by simpa [Builtin.Tuple.tupleCompareSizes] using hR⟩
    case h =>
      exact ⟨rfl, rfl, items.toList, items2.toList, ns, ms, rfl, hi, hj, by omega, h⟩
end

section
variable {prog : Program} {w : World} {A : Around} {E : Value → Shared → Prop} {s : Shared}

theorem lt_tupInts {l b : Addr} {items items2 : Array Value} {ns ms : List Int} {Q : Value → Shared → Prop} (hl : IsTup s.heap l items) (hb : IsTup s.heap b items2) (hi : IntsAre items.toList ns) (hj : IntsAre items2.toList ms)
    (hu : A.units < cLine) (h : Q (.bool (lexLt ns ms)) s) : wpAny (model prog w) A (compareOp .Lt (.ref l) (.ref b)) Q E s := by
  obtain ⟨⟨cls, dd, data, sl⟩, ho, hc, n, hd⟩ := id hl
  obtain ⟨⟨cls2, dd2, data2, sl2⟩, ho2, hc2, n2, hd2⟩ := id hb
  simp only at hc hd hc2 hd2
  subst hc hd hc2 hd2
  exact richCompare_meets_room (op := .Lt) ⟨_, ho, rfl⟩ ⟨_, ho2, rfl⟩ PySem.F.slot_tuple_lt PySem.F.entry_tuple_lt (PySem.F.args_tuple_lt_2 _ _) (tuple_lt_ints l b items items2 n n2 dd dd2 sl sl2 ns ms hi hj)
    ⟨ho, ho2, show Value.bool (lexLt ns ms) ≠ Value.notImplemented ∧ Q (.bool (lexLt ns ms)) s from ⟨(fun x => nomatch x), h⟩⟩ hu

/-- t + u, t not empty -/
theorem cat_tup {t b : Addr} {vs ws : List Value} {Q : Value → Shared → Prop} (ht : IsTup s.heap t vs.toArray) (hb : IsTup s.heap b ws.toArray) (hv : vs ≠ [])
    (h1 : ws = [] → Q (.ref t) s) (h2 : ws ≠ [] → Q (.ref s.heap.objs.size) { s with heap := s.heap.push { cls := .type "tuple", data := .seq (vs ++ ws).toArray } })
    (hsz : vs.length + ws.length ≤ sizeLine) : wpAny (model prog w) A (binaryOp .Add (.ref t) (.ref b)) Q E s := by
  obtain ⟨⟨cls, dd, data, sl⟩, ho, hc, n, hd⟩ := id ht
  obtain ⟨⟨cls2, dd2, data2, sl2⟩, ho2, hc2, n2, hd2⟩ := id hb
  simp only at hc hd hc2 hd2
  subst hc hd hc2 hd2
  have e : vs.toArray ++ ws.toArray = (vs ++ ws).toArray := by simp
  by_cases hw : ws = []
  · exact concat_meets ⟨_, ho, rfl⟩ ⟨_, ho2, rfl⟩ noFill_tuple_add seq_tuple_add PySem.F.slot_tuple_add PySem.F.entry_tuple_add (PySem.F.args_tuple_add_2 _ _)
      (tuple_addW1 t b vs.toArray ws.toArray n n2 dd dd2 sl sl2 (by simpa using hv) (by simp [hw])) ⟨ho, ho2, h1 hw⟩
  · refine concat_meets ⟨_, ho, rfl⟩ ⟨_, ho2, rfl⟩ noFill_tuple_add seq_tuple_add PySem.F.slot_tuple_add PySem.F.entry_tuple_add (PySem.F.args_tuple_add_2 _ _)
      (tuple_addW2 t b vs.toArray ws.toArray n n2 dd dd2 sl sl2 (by simpa using hv) (by simpa using hw) (by rw [List.size_toArray, List.size_toArray]; exact hsz)) ⟨ho, ho2, ?_⟩
    rw [e]
    exact h2 hw

/-! ### t[a:b], not the whole -/
/-- a slice's bound as a place among n (d where it is left out) -/
def sIx (n d : Nat) : Option Int → Nat
  | none => d
  | some v => if v < 0 then (v + (n : Int)).toNat else min v.toNat n
theorem sIx_none (n d : Nat) : sIx n d none = d := rfl
theorem sIx_nat (n d k : Nat) : sIx n d (some (k : Int)) = min k n := by
  show (if (k : Int) < 0 then ((k : Int) + (n : Int)).toNat else min (k : Int).toNat n) = min k n
  rw [if_neg (by omega), Int.toNat_natCast]
theorem sIx_le (n d : Nat) (hd : d ≤ n) (o : Option Int) : sIx n d o ≤ n := by
  cases o with
  | none => exact hd
  | some v =>
    show (if v < 0 then (v + (n : Int)).toNat else min v.toNat n) ≤ n
    by_cases hv : v < 0
    · rw [if_pos hv]; omega
    · rw [if_neg hv]; exact Nat.min_le_right _ _
theorem clip_eq (v : Int) (n d : Nat) : (if v < 0 then max (v + (n : Int)) 0 else min v (n : Int)) = ((sIx n d (some v) : Nat) : Int) := by
  show (if v < 0 then max (v + (n : Int)) 0 else min v (n : Int)) = (((if v < 0 then (v + (n : Int)).toNat else min v.toNat n) : Nat) : Int)
  by_cases hv : v < 0
  · simp only [if_pos hv]; omega
  · simp only [if_neg hv]; omega
theorem adjust_gen (lo hi : Option Int) (n : Nat) : Builtin.Slice.sliceAdjust lo hi 1 (n : Int) = (((sIx n 0 lo : Nat) : Int), ((sIx n n hi : Nat) : Int)) := by
  have h1 : ¬ ((1 : Int) < 0) := by omega
  unfold Builtin.Slice.sliceAdjust
  simp only [h1, if_false]
  refine Prod.ext ?_ ?_
  · cases lo with
    | none => rfl
    | some v => exact clip_eq v n 0
  · cases hi with
    | none => rfl
    | some v => exact clip_eq v n n
theorem places_gen (i j : Nat) : Builtin.Slice.slicePlaces (i : Int) (j : Int) 1 = j - i := by
  unfold Builtin.Slice.slicePlaces
  have h1 : (1 : Int) > 0 := by omega
  simp only [h1, if_true, Int.ediv_one]
  split <;> omega
theorem slicePart_ {v : Value} {o : Option Int} {Q : Option Int → Shared → Prop} (p : IsPart v o) (h : Q o s) : wpAny (model prog w) A (Builtin.Slice.slicePartIndex v) Q E s := by
  cases p with
  | none => exact slicePart_none h
  | int i t => exact slicePart_int h
theorem sliceApplied_gen {sl : Addr} {vl vu : Value} {lo hi : Option Int} {n : Nat} {Q : Int × Int × Nat → Shared → Prop} (hs : s.heap.IsSliceOf sl vl vu .none) (pl : IsPart vl lo) (pu : IsPart vu hi)
    (h : Q (((sIx n 0 lo : Nat) : Int), 1, sIx n n hi - sIx n 0 lo) s) : wpAny (model prog w) A (Builtin.Slice.sliceApplied (.ref sl) (pure (n : Int))) Q E s := by
  obtain ⟨os, hos, hcs, hds⟩ := id hs
  unfold Builtin.Slice.sliceApplied Builtin.Slice.sliceFields
  refine wpAny_bind (wpAny_bind (wpAny_field hos hds (x := vl) rfl (wpAny_bind (wpAny_field hos hds (x := vu) rfl (wpAny_bind (wpAny_field hos hds (x := .none) rfl (wpAny_pure ?_)))))))
  refine wpAny_bind (slicePart_none ?_)
  show wpAny _ _ (if ((1 : Int) == 0) = true then _ else _) _ _ s
  rw [if_neg (by decide)]
  refine wpAny_bind (slicePart_ pl (wpAny_bind (slicePart_ pu (wpAny_bind (wpAny_pure ?_)))))
  show wpAny _ _ (match Builtin.Slice.sliceAdjust lo hi 1 (n : Int) with | (lo, hi) => pure (lo, (1 : Int), Builtin.Slice.slicePlaces lo hi 1)) _ _ s
  rw [adjust_gen lo hi n]
  show wpAny _ _ (pure (((sIx n 0 lo : Nat) : Int), (1 : Int), Builtin.Slice.slicePlaces ((sIx n 0 lo : Nat) : Int) ((sIx n n hi : Nat) : Int) 1)) _ _ s
  rw [places_gen]
  exact wpAny_pure h
theorem pick_gen (xs : Array Value) (i k : Nat) : ((List.range k).filterMap fun (m : Nat) => xs[((i : Int) + (m : Int) * 1).toNat]?).toArray = ((xs.toList.drop i).take k).toArray := by
  have e : (fun (m : Nat) => xs[((i : Int) + (m : Int) * 1).toNat]?) = fun m => xs[i + m]? := by
    funext m
    have : ((i : Int) + (m : Int) * 1).toNat = i + m := by omega
    rw [this]
  rw [e]
  have := pick_run xs i k
  rw [List.filterMap_map] at this
  have e2 : ((fun x => xs[x]?) ∘ fun x => i + x) = fun m => xs[i + m]? := rfl
  rw [e2] at this
  rw [this]

theorem getItem_tuple_cut {t sl : Addr} {items : Array Value} {vl vu : Value} {lo hi : Option Int} {Q : Value → Shared → Prop} (ht : IsTup s.heap t items) (hs : s.heap.IsSliceOf sl vl vu .none) (pl : IsPart vl lo) (pu : IsPart vu hi)
    (hw : ¬ (sIx items.size 0 lo = 0 ∧ sIx items.size items.size hi = items.size))
    (h : Q (.ref s.heap.objs.size) { s with heap := s.heap.push { cls := .type "tuple", data := .seq ((items.toList.drop (sIx items.size 0 lo)).take (sIx items.size items.size hi - sIx items.size 0 lo)).toArray } })
    (hsz : items.size ≤ sizeLine) : wpAny (model prog w) A (getItem (.ref t) (.ref sl)) Q E s := by
  have htake : sizeOk (.seq ((items.toList.drop (sIx items.size 0 lo)).take (sIx items.size items.size hi - sIx items.size 0 lo)).toArray) := by
    show ((items.toList.drop (sIx items.size 0 lo)).take (sIx items.size items.size hi - sIx items.size 0 lo)).toArray.size ≤ sizeLine
    rw [List.size_toArray, List.length_take, List.length_drop, Array.length_toList]
    omega
  have hj : sIx items.size items.size hi ≤ items.size := sIx_le _ _ (Nat.le_refl _) hi
  obtain ⟨os, hos, hcs, hds⟩ := id hs
  have hTs : s.TypeIs (.ref sl) "slice" := ⟨os, hos, hcs⟩
  unfold getItem
  try with_reducible refine wpAny_holding ?_
  first | refine wpAny_bind (wpAny_pure ?_) | skip
  refine wpAny_bind (wpAny_sequenceKey ht.typeIs (by decide) ?_)
  refine wpAny_bind (wpAny_callSpecial?_slot (name := Str.ofString "__getitem__") ht.typeIs PyProof.Rows.slot_tuple_getitem
    (wpAny_call_entry PyProof.Rows.slot_tuple_getitem ht.typeIs entry_tuple_getitem ?_ (args_tuple_getitem _ _)))
  show wpAny _ _ (Builtin.Tuple.tupleItemsOf (.ref t) >>= _) _ _ s
  refine wpAny_bind (tupleItemsOf_ ht ?_)
  refine wpAny_bind (wpAny_typeOf hTs ?_)
  rw [if_pos (by decide)]
  refine wpAny_bind (sliceApplied_gen hs pl pu ?_)
  have hno : ¬ ((((sIx items.size 0 lo : Nat) : Int) == 0 && (1 : Int) == 1 && (sIx items.size items.size hi - sIx items.size 0 lo) == items.size) = true) := by
    intro q
    rw [Bool.and_eq_true, Bool.and_eq_true] at q
    have q1 : ((sIx items.size 0 lo : Nat) : Int) = 0 := eq_of_beq q.1.1
    have q2 : sIx items.size items.size hi - sIx items.size 0 lo = items.size := eq_of_beq q.2
    exact hw ⟨by omega, by omega⟩
  show wpAny _ _ (if (((sIx items.size 0 lo : Nat) : Int) == 0 && (1 : Int) == 1 && (sIx items.size items.size hi - sIx items.size 0 lo) == items.size) = true then _ else _) _ _ s
  rw [if_neg hno, pick_gen]
  first
    | exact wpAny_bind (m := Builtin.Tuple.tupleExact _) (wpAny_newObj_type (wpAny_pure ⟨_, rfl, wpAny_pure h⟩) htake)
    | exact wpAny_bind (m := Builtin.Tuple.tupleExact _) (wpAny_newObj_type (wpAny_bind (wpAny_pure (wpAny_pure ⟨_, rfl, wpAny_pure h⟩))) htake)
    | exact wpAny_bind (wpAny_bind (m := Builtin.Tuple.tupleExact _) (wpAny_newObj_type (wpAny_pure (wpAny_pure ⟨_, rfl, wpAny_pure h⟩)) htake))
    | exact wpAny_bind (wpAny_bind (m := Builtin.Tuple.tupleExact _) (wpAny_newObj_type (wpAny_pure ⟨_, rfl, wpAny_pure h⟩) htake))
end
end HT

namespace L2
open PySem PySem.Spec PyProof.Rows

/-! ### the parts of a slice -/
abbrev TO := St → Hp → (Option Int → Hp → Prop) → Prop
/-- a slice's part (left out, or an int) -/
def PO (X : Cx) (e : Option Expr) (t : TO) : Prop :=
  ∀ (pins : List (Addr × Obj)) (s : Shared) (σ : St) (H : Hp) (Q : Option Int → Hp → Prop), Inv X pins σ H s → t σ H Q →
    wpAny (model X.prog X.w) X.A (evalPart e X.env) (fun u s' => ∃ o H', Inv X pins σ H' s' ∧ IsPart u o ∧ Q o H') X.xe s
def tNoPart : TO := fun _ H Q => Q none H
def tPart (t : TE) : TO := fun σ H Q => t σ H fun x H1 => ∃ i, x = .int i ∧ Q (some i) H1

theorem intsAre_of {ns : List Int} : ∀ {us : List Value}, Vals (ns.map V.int) us → IntsAre us ns := by
  induction ns with
  | nil => intro us r; rw [List.map_nil] at r; cases r; exact .nil
  | cons n ns ih =>
    intro us r
    rw [List.map_cons] at r
    cases r with
    | cons r1 r2 =>
      obtain ⟨t, e⟩ := r1
      subst e
      exact .cons n t (ih r2)

section
variable {X : Cx} {e : Expr} {te : TE} {lo hi : Option Expr} {tl th : TO} {pos p2 : Pos}

theorem po_none : PO X none tNoPart := by
  intro pins s σ H Q I h
  rw [evalPart_none]
  exact wpAny_pure ⟨none, H, I, .none, h⟩
theorem po_some (h : PE X e te) : PO X (some e) (tPart te) := by
  intro pins s σ H Q I hw
  rw [evalPart_some]
  refine thn (h pins s σ H _ I hw) fun u s1 ⟨x, H1, I1, r1, q1⟩ => ?_
  obtain ⟨i, rfl, q⟩ := q1
  obtain ⟨t, rfl⟩ := r1
  exact ⟨some i, H1, I1, .int i t, q⟩

/-- what a slice of a value is, by values: the slice object stands at sl -/
def SlR (X : Cx) (r : V → Option Int → Option Int → Hp → VK → Prop) : Prop :=
  ∀ (pins : List (Addr × Obj)) (s : Shared) (σ : St) (H : Hp) (x : V) (v vl vu : Value) (lo hi : Option Int) (sl : Addr) (Q : VK), Inv X pins σ H s → RelV x v → s.heap.IsSliceOf sl vl vu .none → IsPart vl lo → IsPart vu hi → r x lo hi H Q →
    ∃ T id, typeLookup (.type T) "__getitem__" = pure (some (.builtin id)) ∧ s.TypeIs v T ∧ wpAny (model X.prog X.w) X.A (getItem v (.ref sl)) (EP X pins σ Q) X.xe s
theorem SlR.or {r r' : V → Option Int → Option Int → Hp → VK → Prop} (h : SlR X r) (h' : SlR X r') : SlR X (fun x lo hi H Q => r x lo hi H Q ∨ r' x lo hi H Q) := by
  intro pins s σ H x v vl vu lo hi sl Q I rx hs pl pu q
  rcases q with q | q
  · exact h pins s σ H x v vl vu lo hi sl Q I rx hs pl pu q
  · exact h' pins s σ H x v vl vu lo hi sl Q I rx hs pl pu q
def tSl (r : V → Option Int → Option Int → Hp → VK → Prop) (te : TE) (tl th : TO) : TE := fun σ H Q => te σ H fun x H1 => tl σ H1 fun l H2 => th σ H2 fun u H3 => r x l u H3 Q
/-- a[lo:hi], any a -/
theorem pe_slice {r : V → Option Int → Option Int → Hp → VK → Prop} (hr : SlR X r) (he : PE X e te) (hl : PO X lo tl) (hu : PO X hi th) : PE X (.Subscript e (.Slice lo hi none p2) pos) (tSl r te tl th) := by
  intro pins s σ H Q I h
  refine Subscript_ (thn (he pins s σ H _ I h) fun v s1 ⟨x, H1, I1, r1, q1⟩ => ?_)
  refine wpAny_Slice (thn (hl pins s1 σ H1 _ I1 q1) fun vl s2 ⟨l, H2, I2, pl, q2⟩ => thn (hu pins s2 σ H2 _ I2 q2) fun vu s3 ⟨u, H3, I3, pu, q3⟩ => ?_)
  rw [evalPart_none]
  refine wpAny_pure ?_
  have I4 : Inv X pins σ H3 { s3 with heap := s3.heap.push { cls := .type "slice", data := .fields #[vl, vu, .none] } } := I3.kept (t' := s3.toks) fun b ob q => Heap.get?_push_of_some _ q
  obtain ⟨T, id, hT, ht, hg⟩ := hr pins { s3 with heap := s3.heap.push { cls := .type "slice", data := .fields #[vl, vu, .none] } } σ H3 x v vl vu l u s3.heap.objs.size Q I4 r1 (Heap.IsSliceOf.new ..) pl pu q3
  show wpAny (model X.prog X.w) X.A (subscriptTail e (.Slice lo hi none p2) v (.ref s3.heap.objs.size)) (EP X pins σ Q) X.xe { s3 with heap := s3.heap.push { cls := .type "slice", data := .fields #[vl, vu, .none] } }
  exact tail_any (ops := [.ref s3.heap.objs.size, v]) ht hT hg (by with_unfolding_all rfl)

/-- the items of xs[lo:hi] -/
def cutV (xs : List V) (lo hi : Option Int) : List V := (xs.drop (HT.sIx xs.length 0 lo)).take (HT.sIx xs.length xs.length hi - HT.sIx xs.length 0 lo)
theorem cutV_length (xs : List V) (lo hi : Option Int) : (cutV xs lo hi).length ≤ xs.length := by
  unfold cutV
  rw [List.length_take, List.length_drop]
  omega
/-- t[lo:hi], not the whole of it (the whole would be t itself) -/
def rSlT (K : PySem.W.Frag) : V → Option Int → Option Int → Hp → VK → Prop := fun x lo hi H Q => ∃ a xs, x = .ref a ∧ SqT K H a xs ∧
  ¬ (HT.sIx xs.length 0 lo = 0 ∧ HT.sIx xs.length xs.length hi = xs.length) ∧ ∀ p, H p = none → Q (.ref p) (upd H p (.tup (cutV xs lo hi)))
theorem sl_tup : SlR X (rSlT X.K) := by
  intro pins s σ H x v vl vu lo hi sl Q I rx hs pl pu h
  obtain ⟨a, xs, rfl, hx, hw, q⟩ := h
  cases rx
  obtain ⟨its, r, ht, hz⟩ := I.tuple hx
  have hlen : its.toArray.size = xs.length := by rw [List.size_toArray]; exact r.length.symm
  refine ⟨"tuple", _, PyProof.Rows.slot_tuple_getitem.lookup, ht.typeIs, ?_⟩
  refine HT.getItem_tuple_cut ht hs pl pu (by rw [hlen]; exact hw) ?_ (by rw [hlen]; exact hz)
  rw [hlen]
  refine ⟨.ref s.heap.objs.size, _, I.laid (t' := s.toks) (o := .tup (cutV xs lo hi)) (fun b ob q => Heap.get?_push_of_some _ q) (Nat.le_refl _) ?_, rfl, q _ (I.hok.fresh (Nat.le_refl _))⟩
  exact ⟨Nat.le_trans (cutV_length xs lo hi) hz, _, (r.drop (HT.sIx xs.length 0 lo)).take (HT.sIx xs.length xs.length hi - HT.sIx xs.length 0 lo), IsTup.new _ _⟩

/-! ### t < u, t + u -/
def rLtT (K : PySem.W.Frag) : R2 := fun x y H Q => ∃ a b ns ms, x = .ref a ∧ y = .ref b ∧ SqT K H a (ns.map V.int) ∧ SqT K H b (ms.map V.int) ∧ Q (.bl (HT.lexLt ns ms)) H
theorem op_ltT (hu : X.A.units < cLine) : OpR X (compareOp .Lt) (rLtT X.K) := by
  intro pins s σ H x y v u Q I rx ry h
  obtain ⟨a, b, ns, ms, rfl, rfl, ha, hb, q⟩ := h
  cases rx
  cases ry
  obtain ⟨its, r1, p1, _⟩ := I.tuple ha
  obtain ⟨its2, r2, p2, _⟩ := I.tuple hb
  have i1 : IntsAre its.toArray.toList ns := intsAre_of r1
  have i2 : IntsAre its2.toArray.toList ms := intsAre_of r2
  exact HT.lt_tupInts p1 p2 i1 i2 hu ⟨.bl (HT.lexLt ns ms), H, I, rfl, q⟩
/-- t + u, t not empty: u empty gives t itself -/
def rCatT (K : PySem.W.Frag) : R2 := fun x y H Q => ∃ a b xs ys, x = .ref a ∧ y = .ref b ∧ SqT K H a xs ∧ SqT K H b ys ∧ xs ≠ [] ∧ xs.length + ys.length ≤ sizeLine ∧
  (ys = [] → Q (.ref a) H) ∧ (ys ≠ [] → ∀ p, H p = none → Q (.ref p) (upd H p (.tup (xs ++ ys))))
theorem Vals.nil_iff {xs : List V} {us : List Value} (r : Vals xs us) : us = [] ↔ xs = [] := by
  cases r with
  | nil => simp
  | cons _ _ => simp
theorem op_catT : OpR X (binaryOp .Add) (rCatT X.K) := by
  intro pins s σ H x y v u Q I rx ry h
  obtain ⟨a, b, xs, ys, rfl, rfl, ha, hb, hx, hz, q1, q2⟩ := h
  cases rx
  cases ry
  obtain ⟨its, r1, p1, _⟩ := I.tuple ha
  obtain ⟨its2, r2, p2, _⟩ := I.tuple hb
  refine HT.cat_tup p1 p2 (fun z => hx (r1.nil_iff.mp z)) (fun z => ⟨.ref a, H, I, rfl, q1 (r2.nil_iff.mp z)⟩) (fun z => ?_) (by rw [← r1.length, ← r2.length]; exact hz)
  refine ⟨.ref s.heap.objs.size, _, I.laid (t' := s.toks) (o := .tup (xs ++ ys)) (fun b ob q => Heap.get?_push_of_some _ q) (Nat.le_refl _) ?_, rfl, q2 (fun w => z (r2.nil_iff.mpr w)) _ (I.hok.fresh (Nat.le_refl _))⟩
  exact ⟨by rw [List.length_append]; exact hz, _, r1.append r2, IsTup.new _ _⟩
/-- tuple(t) -/
theorem call_tupleT : CallR X (.type "tuple") (fun xs H Q => ∃ a ys, xs = [.ref a] ∧ SqT X.K H a ys ∧ Q (.ref a) H) := by
  intro pins s σ H xs us Q I r h
  obtain ⟨a, ys, rfl, ha, q⟩ := h
  obtain ⟨u, rfl, ru⟩ := vals1 r
  cases ru
  obtain ⟨its, _, p1, _⟩ := I.tuple ha
  exact call_tuple_same (items := its.toArray) p1 ⟨.ref a, H, I, rfl, q⟩
end
end L2

namespace L2
open PySem PySem.Spec PyProof.Rows

/-! ### places -/
/-- the place that an index of any sign means -/
def ixN (n : Nat) (i : Int) : Option Nat := if 0 ≤ i then (if i < n then some i.toNat else none) else if -(n : Int) ≤ i then some (i + n).toNat else none
def atI {α : Type} (xs : List α) (i : Int) : Option α := (ixN xs.length i).bind fun j => xs[j]?
theorem ixN_seq {n : Nat} {i : Int} {j : Nat} (h : ixN n i = some j) : seqIndex? i n = some j ∧ j < n ∧ -(n : Int) ≤ i ∧ i < n := by
  unfold ixN at h
  by_cases h0 : 0 ≤ i
  · rw [if_pos h0] at h
    by_cases h1 : i < n
    · rw [if_pos h1] at h
      have e : i.toNat = j := Option.some.inj h
      exact ⟨by rw [seqIndex_of h0 h1, e], by omega, by omega, h1⟩
    · rw [if_neg h1] at h; cases h
  · rw [if_neg h0] at h
    by_cases h1 : -(n : Int) ≤ i
    · rw [if_pos h1] at h
      have e : (i + n).toNat = j := Option.some.inj h
      exact ⟨by rw [seqIndex_neg (by omega) h1, e], by omega, h1, by omega⟩
    · rw [if_neg h1] at h; cases h
theorem atI_get {α : Type} {xs : List α} {i : Int} {v : α} (h : atI xs i = some v) : ∃ j, seqIndex? i xs.length = some j ∧ xs[j]? = some v ∧ j < xs.length ∧ -(xs.length : Int) ≤ i ∧ i < xs.length := by
  unfold atI at h
  cases e : ixN xs.length i with
  | none => rw [e] at h; cases h
  | some j =>
    rw [e] at h
    obtain ⟨h1, h2, h3, h4⟩ := ixN_seq e
    exact ⟨j, h1, h, h2, h3, h4⟩
theorem atI_nat {α : Type} {xs : List α} {j : Nat} {v : α} (h : xs[j]? = some v) : atI xs (j : Int) = some v := by
  have hj : j < xs.length := (List.getElem?_eq_some_iff.mp h).1
  have e : ixN xs.length (j : Int) = some j := by
    unfold ixN
    rw [if_pos (by omega), if_pos (by omega)]; simp
  unfold atI; rw [e]; exact h
theorem atI_last {α : Type} (xs : List α) (v : α) : atI (xs ++ [v]) (-1) = some v := by
  have hl : (xs ++ [v]).length = xs.length + 1 := by simp
  have e : ixN (xs ++ [v]).length (-1) = some xs.length := by
    unfold ixN
    rw [hl, if_neg (by decide), if_pos (by omega)]
    congr 1
    omega
  unfold atI
  rw [e]
  show (xs ++ [v])[xs.length]? = some v
  simp

/-! ### what may be subscripted -/
/-- what stands as an index of a plain subscript -/
def PlainIx (b : Expr) : Prop := ∀ o i, subscripted b false o i = operate [o, i] (getItem o i)
/-- a subscript by values -/
def IxR (X : Cx) (r : R2) : Prop :=
  ∀ (value slice : Expr) (pins : List (Addr × Obj)) (s : Shared) (σ : St) (H : Hp) (x y : V) (v u : Value) (Q : VK), Inv X pins σ H s → RelV x v → RelV y u → r x y H Q →
    subscripted slice false v u = operate [v, u] (getItem v u) → wpAny (model X.prog X.w) X.A (subscriptTail value slice v u) (EP X pins σ Q) X.xe s
/-- a call of a builtin's method by values: the receiver, the arguments -/
def MtR (X : Cx) (id : String) (r : V → List V → Hp → VK → Prop) : Prop :=
  ∀ (pins : List (Addr × Obj)) (s : Shared) (σ : St) (H : Hp) (x : V) (xs : List V) (v : Value) (us : List Value) (Q : VK), Inv X pins σ H s → RelV x v → Vals xs us → r x xs H Q →
    wpAny (model X.prog X.w) X.A (call (.builtin id) (v :: us)) (EP X pins σ Q) X.xe s
section
variable {X : Cx} {a b : Expr} {ta tb : TE} {pos : Pos}
theorem IxR.or {r r' : R2} (h : IxR X r) (h' : IxR X r') : IxR X (fun x y H Q => r x y H Q ∨ r' x y H Q) := by
  intro value slice pins s σ H x y v u Q I rx ry q hs
  rcases q with q | q
  · exact h value slice pins s σ H x y v u Q I rx ry q hs
  · exact h' value slice pins s σ H x y v u Q I rx ry q hs
theorem MtR.or {id : String} {r r' : V → List V → Hp → VK → Prop} (h : MtR X id r) (h' : MtR X id r') : MtR X id (fun x xs H Q => r x xs H Q ∨ r' x xs H Q) := by
  intro pins s σ H x xs v us Q I rx rs q
  rcases q with q | q
  · exact h pins s σ H x xs v us Q I rx rs q
  · exact h' pins s σ H x xs v us Q I rx rs q
/-- a[b] -/
theorem pe_ix {r : R2} (hr : IxR X r) (ha : PE X a ta) (hb : PE X b tb) (hs : PlainIx b) : PE X (.Subscript a b pos) (tOp r ta tb) := by
  intro pins s σ H Q I h
  exact Subscript_ (binT ha hb I h fun v u s2 x y H2 I2 rx ry q => hr a b pins s2 σ H2 x y v u Q I2 rx ry q (hs _ _))

def rIxL (K : PySem.W.Frag) : R2 := fun x y H Q => ∃ p xs i v, x = .ref p ∧ y = .int i ∧ SqL K H p xs ∧ atI xs i = some v ∧ Q v H
def rIxT (K : PySem.W.Frag) : R2 := fun x y H Q => ∃ p xs i v, x = .ref p ∧ y = .int i ∧ SqT K H p xs ∧ atI xs i = some v ∧ Q v H
def rIxS : R2 := fun x y H Q => ∃ z i c, x = .str z ∧ y = .int i ∧ z.length ≤ sizeLine ∧ atI z.cps.toList i = some c ∧ Q (.str ⟨#[c]⟩) H
theorem ix_list : IxR X (rIxL X.K) := by
  intro value slice pins s σ H x y v u Q I rx ry h hs
  obtain ⟨p, xs, i, z, rfl, rfl, hq, he, q⟩ := h
  cases rx
  obtain ⟨t, rfl⟩ := ry
  obtain ⟨its, r, pl, hz⟩ := I.list hq
  obtain ⟨j, h1, h2, h3, h4, h5⟩ := atI_get he
  obtain ⟨w, ew, rw'⟩ := r.get h2
  have hl := r.length
  have hn := line63
  have fin : EP X pins σ Q w s := ⟨z, H, I, rw', q⟩
  by_cases h0 : 0 ≤ i
  · have hj : i.toNat = j := by
      rw [seqIndex_of h0 h5] at h1
      exact Option.some.inj h1
    exact item_listR pl.isList h0 (by omega) (by rw [hj]; simpa using ew) fin hs
  · have hj : (i + (its.toArray.size : Int)).toNat = j := by
      rw [seqIndex_neg (by omega) h4] at h1
      rw [List.size_toArray, ← hl]
      exact Option.some.inj h1
    exact subscriptTail_builtinR (x := w) pl.isList.typeIs slot_list_getitem.lookup
      (wpAny_getItem_list_neg (Q := fun r s' => r = w ∧ EP X pins σ Q r s') pl.isList (by omega) (by rw [List.size_toArray] <;> omega) (by omega) (by rw [hj]; simpa using ew) ⟨rfl, fin⟩) hs
theorem ix_tup : IxR X (rIxT X.K) := by
  intro value slice pins s σ H x y v u Q I rx ry h hs
  obtain ⟨p, xs, i, z, rfl, rfl, hq, he, q⟩ := h
  cases rx
  obtain ⟨t, rfl⟩ := ry
  obtain ⟨its, r, pl, hz⟩ := I.tuple hq
  obtain ⟨j, h1, h2, h3, h4, h5⟩ := atI_get he
  obtain ⟨w, ew, rw'⟩ := r.get h2
  have hl := r.length
  have hn := line63
  have fin : EP X pins σ Q w s := ⟨z, H, I, rw', q⟩
  exact subscriptTail_builtinR (x := w) pl.typeIs slot_tuple_getitem.lookup
    (getItem_tuple (j := j) (Q := fun r s' => r = w ∧ EP X pins σ Q r s') pl (by omega) (by omega) (by rw [List.size_toArray, ← hl]; exact h1) (by simpa using ew) ⟨rfl, fin⟩) hs
theorem ix_str : IxR X rIxS := by
  intro value slice pins s σ H x y v u Q I rx ry h hs
  obtain ⟨z, i, c, rfl, rfl, hz, he, q⟩ := h
  obtain ⟨t, rfl⟩ := rx
  obtain ⟨t', rfl⟩ := ry
  obtain ⟨j, h1, h2, h3, h4, h5⟩ := atI_get he
  have hl : z.cps.toList.length = z.length := by simp [Str.length]
  rw [hl] at h1 h4 h5
  have hn := line63
  exact tail_any (typeIs_str s z t) slot_str_getitem.lookup (getItem_str (c := c) (by
    have e1 : decide (i < -(2 ^ 63 : Int)) = false := decide_eq_false (by omega)
    have e2 : decide (i ≥ 2 ^ 63) = false := decide_eq_false (by omega)
    rw [e1, e2, Bool.or_false]) (by rw [h1]; simpa using h2) ⟨.str ⟨#[c]⟩, H, I.tok _, ⟨_, rfl⟩, q⟩) hs
/-- list, tuple or str -/
def rIx (K : PySem.W.Frag) : R2 := fun x y H Q => rIxL K x y H Q ∨ rIxT K x y H Q ∨ rIxS x y H Q
theorem ix_seq : IxR X (rIx X.K) := ix_list.or (ix_tup.or ix_str)

/-! ### xs[i] = v, any sign -/
/-- the list's object behind a store -/
theorem mapSeq_set (its : List Value) (n j : Nat) (u : Value) : Obj.mapSeq (·.setIfInBounds j u) { cls := .type "list", data := .seq its.toArray n } = { cls := .type "list", data := .seq (its.set j u).toArray n } := by
  simp [Obj.mapSeq]
theorem Inv.lst {pins : List (Addr × Obj)} {σ : St} {H : Hp} {s : Shared} {p : Addr} {xs : List V} (I : Inv X pins σ H s) (h : H p = some (.lst xs)) :
    ∃ (its : List Value) (n : Nat), Vals xs its ∧ s.heap.get? p = some { cls := .type "list", data := .seq its.toArray n } ∧ xs.length ≤ sizeLine := by
  obtain ⟨z, its, n, r, e⟩ := I.hok p _ h
  exact ⟨its, n, r, e, z⟩
/-- the list at p is written by an update of its object -/
theorem Inv.lstUpd {pins : List (Addr × Obj)} {σ : St} {H : Hp} {s : Shared} {p : Addr} {xs ys : List V} {its its' : List Value} {n n' : Nat} {f : Obj → Obj} (I : Inv X pins σ H s) (h : H p = some (.lst xs))
    (ho : s.heap.get? p = some { cls := .type "list", data := .seq its.toArray n }) (hf : f { cls := .type "list", data := .seq its.toArray n } = { cls := .type "list", data := .seq its'.toArray n' }) (r : Vals ys its') (hz : ys.length ≤ sizeLine) (t : Nat) :
    Inv X pins σ (upd H p (.lst ys)) { s with heap := s.heap.update p f, toks := t } := by
  have e : (s.heap.update p f).get? p = some { cls := .type "list", data := .seq its'.toArray n' } := by
    rw [Heap.get?_update_self f ho (by rw [hf] <;> rfl), hf]
  refine I.write (x := p) (e := p) (by rw [h]; trivial) (.inl rfl) (fun b u hb q => (Heap.get?_update_other _ _ (Ne.symm hb)).trans q) ⟨_, e⟩ ?_
  exact ⟨hz, its', n', r, e⟩
def rSetL : V → V → V → Hp → (Hp → Prop) → Prop := fun o i v H Q => ∃ p xs k j, o = .ref p ∧ i = .int k ∧ H p = some (.lst xs) ∧ ixN xs.length k = some j ∧ Q (upd H p (.lst (xs.set j v)))
theorem set_list : PSet X rSetL := by
  intro pins s σ H o i v ov iv u Q I ro ri rv h
  obtain ⟨p, xs, k, j, rfl, rfl, hp, hj, q⟩ := h
  cases ro
  obtain ⟨t, rfl⟩ := ri
  obtain ⟨its, n, r, ho, hz⟩ := I.lst hp
  obtain ⟨h1, h2, h3, h4⟩ := ixN_seq hj
  have hl := r.length
  have hn := line63
  have I' : Inv X pins σ (upd H p (.lst (xs.set j v))) { s with heap := s.heap.update p (Obj.mapSeq (·.setIfInBounds j u)) } :=
    I.lstUpd hp ho (mapSeq_set its n j u) (r.set rv j) (by rw [List.length_set]; exact hz) s.toks
  by_cases h0 : 0 ≤ k
  · have hk : k.toNat = j := by
      rw [seqIndex_of h0 h4] at h1
      exact Option.some.inj h1
    exact PySem.W.ki_setAt ho h0 (by omega) (by rw [List.size_toArray, ← hl]; exact h4) (by rw [hk]; exact ⟨_, I', q⟩)
  · have hk : (k + (its.toArray.size : Int)).toNat = j := by
      rw [seqIndex_neg (by omega) h3] at h1
      rw [List.size_toArray, ← hl]
      exact Option.some.inj h1
    exact PySem.W.ki_setBack ho (by omega) (by rw [List.size_toArray, ← hl]; exact h3) (by omega) (by rw [hk]; exact ⟨_, I', q⟩)

/-! ### slices -/
theorem slice_bounds (lo hi : Option Int) (n : Nat) : (sliceBounds lo hi none n).1 = ((HT.sIx n 0 lo : Nat) : Int) ∧ (sliceBounds lo hi none n).2.1 = ((HT.sIx n n hi : Nat) : Int) ∧ (sliceBounds lo hi none n).2.2 = 1 := by
  refine ⟨?_, ?_, rfl⟩
  · cases lo with
    | none => simp [sliceBounds, HT.sIx]
    | some i =>
      simp only [sliceBounds, HT.sIx, Option.getD_none, show (1 : Int) > 0 by decide, if_true]
      by_cases h : i < 0
      · simp only [h, if_true] <;> omega
      · simp only [h, if_false] <;> omega
  · cases hi with
    | none => simp [sliceBounds, HT.sIx]
    | some i =>
      simp only [sliceBounds, HT.sIx, Option.getD_none, show (1 : Int) > 0 by decide, if_true]
      by_cases h : i < 0
      · simp only [h, if_true] <;> omega
      · simp only [h, if_false] <;> omega
theorem slicePick_cut (its : List Value) (lo hi : Option Int) : slicePick its.toArray lo hi none = ((its.drop (HT.sIx its.length 0 lo)).take (HT.sIx its.length its.length hi - HT.sIx its.length 0 lo)).toArray := by
  obtain ⟨h1, h2, h3⟩ := slice_bounds lo hi its.toArray.size
  unfold slicePick
  rw [h1, h2, h3]
  simp only [sliceRange_one, pick_run, List.size_toArray] <;> rfl
/-- xs[lo:hi] of a list: a new list -/
def rSlL (K : PySem.W.Frag) : V → Option Int → Option Int → Hp → VK → Prop := fun x lo hi H Q => ∃ a xs, x = .ref a ∧ SqL K H a xs ∧ ∀ p, H p = none → Q (.ref p) (upd H p (.lst (cutV xs lo hi)))
theorem sl_list : SlR X (rSlL X.K) := by
  intro pins s σ H x v vl vu lo hi sl Q I rx hs pl pu h
  obtain ⟨a, xs, rfl, hx, q⟩ := h
  cases rx
  obtain ⟨its, r, ht, hz⟩ := I.list hx
  have hlen := r.length
  refine ⟨"list", _, slot_list_getitem.lookup, ht.isList.typeIs, ?_⟩
  refine wpAny_getItem_list_slice ht.isList hs pl pu .none (by simp) ?_ (by rw [List.size_toArray] <;> omega)
  rw [slicePick_cut, ← hlen]
  refine ⟨.ref s.heap.objs.size, _, I.laid (t' := s.toks) (o := .lst (cutV xs lo hi)) (fun b ob q => Heap.get?_push_of_some _ q) (Nat.le_refl _) ?_, rfl, q _ (I.hok.fresh (Nat.le_refl _))⟩
  exact ⟨Nat.le_trans (cutV_length xs lo hi) hz, _, 0, (r.drop (HT.sIx xs.length 0 lo)).take (HT.sIx xs.length xs.length hi - HT.sIx xs.length 0 lo), Heap.get?_push_size _ rfl⟩

/-! ### in, not in: flat items -/
def flatV : V → Bool
  | .non => true
  | .bl _ => true
  | .int _ => true
  | .str _ => true
  | _ => false
/-- == of flat values -/
def eqV : V → V → Bool
  | .non, .non => true
  | .bl a, .bl b => a == b
  | .bl a, .int b => (if a then 1 else 0) == b
  | .int a, .bl b => a == (if b then 1 else 0)
  | .int a, .int b => a == b
  | .str a, .str b => a == b
  | _, _ => false
theorem eqAt_V {A : Around} {s : Shared} {y x : V} {u v : Value} (ry : RelV y u) (rx : RelV x v) (fy : flatV y = true) (fx : flatV x = true) : SeqAt.EqAt A s u v (eqV y x) := by
  cases y with
  | non =>
    cases ry
    cases x with
    | non => cases rx; exact SeqAt.EqAt.same _
    | bl b => cases rx; exact SeqAt.EqAt.none_bool b
    | int b => obtain ⟨t, rfl⟩ := rx; exact SeqAt.EqAt.none_int b t
    | str b => obtain ⟨t, rfl⟩ := rx; exact SeqAt.EqAt.none_str b t
    | _ => exact absurd (show false = true from fx) Bool.false_ne_true
  | bl a =>
    cases ry
    cases x with
    | non => cases rx; exact SeqAt.EqAt.bool_none a
    | bl b => cases rx; exact SeqAt.EqAt.bool_bool a b
    | int b => obtain ⟨t, rfl⟩ := rx; exact SeqAt.EqAt.bool_int a b t
    | str b => obtain ⟨t, rfl⟩ := rx; exact SeqAt.EqAt.bool_str a b t
    | _ => exact absurd (show false = true from fx) Bool.false_ne_true
  | int a =>
    obtain ⟨t', rfl⟩ := ry
    cases x with
    | non => cases rx; exact SeqAt.EqAt.int_none a t'
    | bl b => cases rx; exact SeqAt.EqAt.int_bool a t' b
    | int b => obtain ⟨t, rfl⟩ := rx; exact SeqAt.EqAt.int_int a t' b t
    | str b => obtain ⟨t, rfl⟩ := rx; exact SeqAt.EqAt.int_str a t' b t
    | _ => exact absurd (show false = true from fx) Bool.false_ne_true
  | str a =>
    obtain ⟨t', rfl⟩ := ry
    cases x with
    | non => cases rx; exact SeqAt.EqAt.str_none a t'
    | bl b => cases rx; exact SeqAt.EqAt.str_bool a t' b
    | int b => obtain ⟨t, rfl⟩ := rx; exact SeqAt.EqAt.str_int a t' b t
    | str b => obtain ⟨t, rfl⟩ := rx; exact SeqAt.EqAt.str_str a t' b t
    | _ => exact absurd (show false = true from fx) Bool.false_ne_true
  | _ => exact absurd (show false = true from fy) Bool.false_ne_true
/-- the items' answers, read off the values (a value's own answer does not lean on its token) -/
def eqU (x : V) (u : Value) : Bool := match u with
  | .none => eqV .non x
  | .bool b => eqV (.bl b) x
  | .int i _ => eqV (.int i) x
  | .str z _ => eqV (.str z) x
  | _ => false
theorem eqU_of {x y : V} {u : Value} (r : RelV y u) (f : flatV y = true) : eqU x u = eqV y x := by
  cases y with
  | non => cases r; rfl
  | bl b => cases r; rfl
  | int i => obtain ⟨t, rfl⟩ := r; rfl
  | str z => obtain ⟨t, rfl⟩ := r; rfl
  | _ => exact absurd (show false = true from f) Bool.false_ne_true
theorem any_eqU {x : V} : ∀ {xs : List V} {us : List Value}, Vals xs us → xs.all flatV = true → us.any (eqU x) = xs.any fun y => eqV y x
  | _, _, .nil, _ => rfl
  | y :: xs, u :: us, .cons r t, f => by
    rw [List.all_cons, Bool.and_eq_true] at f
    rw [List.any_cons, List.any_cons, eqU_of r f.1, any_eqU t f.2]
theorem mem_eqAt {A : Around} {s : Shared} {x : V} {v : Value} (rx : RelV x v) (fx : flatV x = true) : ∀ {xs : List V} {us : List Value}, Vals xs us → xs.all flatV = true → ∀ u ∈ us, SeqAt.EqAt A s u v (eqU x u)
  | _, _, .nil, _ => fun u hu => by cases hu
  | y :: xs, u :: us, .cons r t, f => fun u' hu => by
    rw [List.all_cons, Bool.and_eq_true] at f
    rcases List.mem_cons.mp hu with rfl | hu
    · rw [eqU_of r f.1]; exact eqAt_V r rx f.1 fx
    · exact mem_eqAt rx fx t f.2 u' hu
def inV (x : V) (xs : List V) : Bool := xs.any fun y => eqV y x
/-- x in a list or tuple of flat items -/
def rIn (K : PySem.W.Frag) (neg : Bool) : R2 := fun x y H Q => ∃ p xs, y = .ref p ∧ (SqL K H p xs ∨ SqT K H p xs) ∧ flatV x = true ∧ xs.all flatV = true ∧ Q (.bl (if neg then !inV x xs else inV x xs)) H
theorem op_in_seq : OpR X (compareOp .In) (rIn X.K false) := by
  intro pins s σ H x y v u Q I rx ry h
  obtain ⟨p, xs, rfl, hq, fx, fs, q⟩ := h
  cases ry
  rcases hq with hq | hq
  · obtain ⟨its, r, pl, hz⟩ := I.list hq
    refine SeqAt.in_listAt (eqU x) pl.isList (fun w hw => mem_eqAt rx fx r fs w (by simpa using hw)) ⟨.bl _, H, I, rfl, ?_⟩
    rw [show its.toArray.any (eqU x) = its.any (eqU x) by simp, any_eqU r fs]
    exact q
  · obtain ⟨its, r, pl, hz⟩ := I.tuple hq
    refine SeqAt.in_tupleAt (eqU x) pl (fun w hw => mem_eqAt rx fx r fs w (by simpa using hw)) ⟨.bl _, H, I, rfl, ?_⟩
    rw [show its.toArray.any (eqU x) = its.any (eqU x) by simp, any_eqU r fs]
    exact q
theorem op_notIn_seq : OpR X (compareOp .NotIn) (rIn X.K true) := by
  intro pins s σ H x y v u Q I rx ry h
  obtain ⟨p, xs, rfl, hq, fx, fs, q⟩ := h
  cases ry
  rcases hq with hq | hq
  · obtain ⟨its, r, pl, hz⟩ := I.list hq
    refine SeqAt.notIn_listAt (eqU x) pl.isList (fun w hw => mem_eqAt rx fx r fs w (by simpa using hw)) ⟨.bl _, H, I, rfl, ?_⟩
    rw [show its.toArray.any (eqU x) = its.any (eqU x) by simp, any_eqU r fs]
    exact q
  · obtain ⟨its, r, pl, hz⟩ := I.tuple hq
    refine SeqAt.notIn_tupleAt (eqU x) pl (fun w hw => mem_eqAt rx fx r fs w (by simpa using hw)) ⟨.bl _, H, I, rfl, ?_⟩
    rw [show its.toArray.any (eqU x) = its.any (eqU x) by simp, any_eqU r fs]
    exact q
theorem op_notIn_str : OpR X (compareOp .NotIn) (fun x y H Q => ∃ i j, x = .str i ∧ y = .str j ∧ Q (.bl (!(!(Builtin.Str.occurrences j i 0 j.length 1).isEmpty))) H) := by
  intro pins s σ H x y v u Q I rx ry h
  obtain ⟨i, j, rfl, rfl, q⟩ := h
  obtain ⟨t, rfl⟩ := rx
  obtain ⟨t', rfl⟩ := ry
  exact notIn_str ⟨.bl _, H, I, rfl, q⟩

/-! ### len, list(x), tuple(x) of any list or tuple that is read -/
theorem call_len_seq : CallR X (.builtin "len") (fun xs H Q => ∃ p ys, xs = [.ref p] ∧ (SqL X.K H p ys ∨ SqT X.K H p ys) ∧ Q (.int ys.length) H) := by
  intro pins s σ H xs us Q I r h
  obtain ⟨p, ys, rfl, hq, q⟩ := h
  obtain ⟨u, rfl, rx⟩ := vals1 r
  cases rx
  have hn := line63
  rcases hq with hq | hq
  · obtain ⟨its, r', pl, hz⟩ := I.list hq
    have hlen := r'.length
    exact Calls.call_len_list pl.isList (by simp only [List.size_toArray] <;> omega) ⟨.int ys.length, H, I.tok _, ⟨s.toks + 1, by rw [List.size_toArray, hlen]⟩, q⟩
  · obtain ⟨its, r', pl, hz⟩ := I.tuple hq
    have hlen := r'.length
    exact len_tuple pl (by simp only [List.size_toArray] <;> omega) ⟨.int ys.length, H, I.tok _, ⟨s.toks + 1, by rw [List.size_toArray, hlen]⟩, q⟩
theorem call_len_str : CallR X (.builtin "len") (fun xs H Q => ∃ z, xs = [.str z] ∧ z.length ≤ sizeLine ∧ Q (.int z.length) H) := by
  intro pins s σ H xs us Q I r h
  obtain ⟨z, rfl, hz, q⟩ := h
  obtain ⟨u, rfl, t, rfl⟩ := vals1 r
  have hn := line63
  exact len_str (by omega) ⟨.int z.length, H, I.tok _, ⟨_, rfl⟩, q⟩
theorem CallR.or {f : Value} {r r' : List V → Hp → VK → Prop} (h : CallR X f r) (h' : CallR X f r') : CallR X f (fun xs H Q => r xs H Q ∨ r' xs H Q) := by
  intro pins s σ H xs us Q I rs q
  rcases q with q | q
  · exact h pins s σ H xs us Q I rs q
  · exact h' pins s σ H xs us Q I rs q
theorem call_list_of : CallR X (.type "list") (fun xs H Q => ∃ p ys, xs = [.ref p] ∧ (SqL X.K H p ys ∨ SqT X.K H p ys) ∧ ∀ l, H l = none → Q (.ref l) (upd H l (.lst ys))) := by
  intro pins s σ H xs us Q I r h
  obtain ⟨p, ys, rfl, hq, q⟩ := h
  obtain ⟨u, rfl, rx⟩ := vals1 r
  cases rx
  have fin : ∀ (its : List Value), Vals ys its → ys.length ≤ sizeLine → ∀ (h' : Heap) (c' : Nat), (∀ b o', s.heap.get? b = some o' → h'.get? b = some o') →
      h'.get? s.heap.objs.size = some { cls := .type "list", dict := none, data := .seq its.toArray c', slots := #[] } → EP X pins σ Q (.ref s.heap.objs.size) { s with heap := h' } := fun its r' hz h' c' kp e =>
    ⟨.ref s.heap.objs.size, _, I.laid (t' := s.toks) kp (Nat.le_refl _) (show ObjOk X.prog X.w _ h' _ (.lst ys) from ⟨hz, its, c', r', e⟩), rfl, q _ (I.hok.fresh (Nat.le_refl _))⟩
  rcases hq with hq | hq
  · obtain ⟨its, r', pl, hz⟩ := I.list hq
    have hlen := r'.length
    obtain ⟨o, ho, hc, n, hd⟩ := pl.isList
    exact call_list_seq p (.inl rfl) ho hc hd (fun h' c' kp e => fin its r' hz h' c' kp e) (by simp only [List.size_toArray] <;> omega)
  · obtain ⟨its, r', pl, hz⟩ := I.tuple hq
    have hlen := r'.length
    obtain ⟨o, ho, hc, n, hd⟩ := pl
    exact call_list_seq p (.inr rfl) ho hc hd (fun h' c' kp e => fin its r' hz h' c' kp e) (by simp only [List.size_toArray] <;> omega)
theorem call_tuple_of : CallR X (.type "tuple") (fun xs H Q => ∃ p ys, xs = [.ref p] ∧ ((SqL X.K H p ys ∧ ∀ l, H l = none → Q (.ref l) (upd H l (.tup ys))) ∨ (SqT X.K H p ys ∧ Q (.ref p) H))) := by
  intro pins s σ H xs us Q I r h
  obtain ⟨p, ys, rfl, h⟩ := h
  obtain ⟨u, rfl, rx⟩ := vals1 r
  cases rx
  rcases h with ⟨hq, q⟩ | ⟨hq, q⟩
  · obtain ⟨its, r', pl, hz⟩ := I.list hq
    have hlen := r'.length
    refine call_tuple_list pl.isList (fun h' kp => ?_) (by simp only [List.size_toArray] <;> omega)
    have I1 : Inv X pins σ H { s with heap := h' } := I.kept (t' := s.toks) kp
    have I2 : Inv X pins σ (upd H h'.objs.size (.tup ys)) { s with heap := h'.push { cls := .type "tuple", data := .seq its.toArray } } :=
      I1.laid (t' := s.toks) (fun b o e => Heap.get?_push_of_some _ e) (Nat.le_refl _) (show ObjOk X.prog X.w _ _ _ (.tup ys) from ⟨hz, its, r', IsTup.new _ _⟩)
    exact ⟨.ref h'.objs.size, _, I2, rfl, q _ (I1.hok.fresh (Nat.le_refl _))⟩
  · obtain ⟨its, r', pl, hz⟩ := I.tuple hq
    exact call_tuple_same pl ⟨.ref p, H, I, rfl, q⟩

/-! ### the call of a builtin's method: o.m(..) -/
/-- the value is of that builtin type -/
def tyV (K : PySem.W.Frag) (T : String) (x : V) (H : Hp) : Prop := match x with
  | .str _ => T = "str"
  | .int _ => T = "int"
  | .ref p => (T = "list" ∧ ∃ xs, SqL K H p xs) ∨ (T = "tuple" ∧ ∃ o, K.lookup p = some o ∧ o.cls = .type "tuple" ∧ o.dict = none) ∨
      (T = "dict" ∧ ((∃ kvs, H p = some (.dK kvs)) ∨ ∃ kvs, H p = some (.dT kvs))) ∨ (T = "set" ∧ ∃ S n, H p = some (.set S n))
  | _ => False
theorem tyV_is {pins : List (Addr × Obj)} {σ : St} {H : Hp} {s : Shared} {T : String} {x : V} {v : Value} (I : Inv X pins σ H s) (r : RelV x v) (ty : tyV X.K T x H) :
    s.TypeIs v T ∧ ∀ a, v = .ref a → ∃ ob, s.heap.get? a = some ob ∧ ob.dict = none := by
  cases x with
  | str z =>
    obtain ⟨t, rfl⟩ := r
    cases (show T = "str" from ty)
    exact ⟨typeIs_str s z t, fun _ e => nomatch e⟩
  | int i =>
    obtain ⟨t, rfl⟩ := r
    cases (show T = "int" from ty)
    exact ⟨typeIs_int s i t, fun _ e => nomatch e⟩
  | ref p =>
    cases r
    rcases ty with ⟨rfl, xs, hq⟩ | ⟨rfl, o, hk, hc, hd⟩ | ⟨rfl, hk⟩ | ⟨rfl, S, n, hk⟩
    · obtain ⟨its, _, pl, _⟩ := I.list hq
      refine ⟨pl.isList.typeIs, fun a e => ?_⟩
      cases e
      obtain ⟨o, n, e, c, hd, _⟩ := pl
      exact ⟨o, e, hd⟩
    · refine ⟨⟨o, I.kIn p o hk, hc⟩, fun a e => ?_⟩
      cases e
      exact ⟨o, I.kIn _ o hk, hd⟩
    · have z : ∃ o, s.heap.get? p = some o ∧ o.ExactDict := by
        rcases hk with ⟨kvs, hk⟩ | ⟨kvs, hk⟩
        · obtain ⟨_, _, _, _, o, _, _, e, ex, _⟩ := I.hok p _ hk
          exact ⟨o, e, ex⟩
        · obtain ⟨_, _, _, _, o, _, _, e, ex, _⟩ := I.hok p _ hk
          exact ⟨o, e, ex⟩
      obtain ⟨o, e, ex⟩ := z
      refine ⟨⟨o, e, ex.1⟩, fun a e2 => ?_⟩
      cases e2
      exact ⟨o, e, ex.2.1⟩
    · obtain ⟨o, _, _, _, e, ex, _⟩ := I.hok p _ hk
      refine ⟨⟨o, e, ex.1⟩, fun a e2 => ?_⟩
      cases e2
      exact ⟨o, e, ex.2.1⟩
  | _ => exact False.elim ty
def tBM0 (K : PySem.W.Frag) (T : String) (r : V → List V → Hp → VK → Prop) (to : TE) : TE := fun σ H Q => to σ H fun x H1 => tyV K T x H1 ∧ r x [] H1 Q
def tBM (K : PySem.W.Frag) (T : String) (r : V → List V → Hp → VK → Prop) (to : TE) (t : TA) : TE := fun σ H Q => to σ H fun x H1 => tyV K T x H1 ∧ t σ H1 fun xs H2 => r x xs H2 Q
variable {o e : Expr} {es : List Expr} {to : TE} {t : TA} {name : Str} {apos cpos : Pos} {T id : String} {r : V → List V → Hp → VK → Prop}
theorem pe_bm0 (pa : PlainAttrs T) (slot : Slot T name id) (hty : typeOf (.builtin id) = pure (.type "method_descriptor")) (hm : MtR X id r) (ho : PE X o to)
    (hbase : attributeBase o name X.env (eval o X.env) = eval o X.env := by rfl) (hline : (apos.endLine == cpos.line) = true := by rfl) : PE X (.Call (.Attribute o name apos) [] [] cpos) (tBM0 X.K T r to) := by
  intro pins s σ H Q I h
  refine wpAny_Call_method0_late hbase hline (thn (ho pins s σ H _ I h) fun v s1 ⟨x, H1, I1, r1, ty, q1⟩ => ?_)
  obtain ⟨h1, h2⟩ := tyV_is I1 r1 ty
  exact ⟨T, id, pa, slot, hty, h1, h2, Calls.callWith_builtin rfl (PySem.evalArgs_none (hm pins s1 σ H1 x [] v [] Q I1 r1 .nil q1))⟩
theorem pe_bm (pa : PlainAttrs T) (slot : Slot T name id) (hty : typeOf (.builtin id) = pure (.type "method_descriptor")) (hm : MtR X id r) (ho : PE X o to) (ha : PA X (e :: es) t)
    (hbase : attributeBase o name X.env (eval o X.env) = eval o X.env := by rfl)
    (hfew : ((backTo cpos (starEach (e :: es) X.env)).all (fun x => !x.1) && (backToKw cpos (keywordEach [] X.env)).all (fun x => x.1.isSome)
      && decide ((e :: es).length + ([] : List Keyword).length + (if ([] : List Keyword).isEmpty then 0 else 1) < 30)) = true := by rfl)
    (hline : (apos.endLine == cpos.line) = true := by rfl) (hs : starEach (e :: es) X.env = (false, eval e X.env) :: starEach es X.env := by rfl) (hplain : (backTo cpos (starEach es X.env)).any (·.1) = false := by rfl) :
    PE X (.Call (.Attribute o name apos) (e :: es) [] cpos) (tBM X.K T r to t) := by
  intro pins s σ H Q I h
  refine wpAny_Call_method_late hbase hfew hline rfl (thn (ho pins s σ H _ I h) fun v s1 ⟨x, H1, I1, r1, ty, q1⟩ => ?_)
  obtain ⟨h1, h2⟩ := tyV_is I1 r1 ty
  refine ⟨T, id, pa, slot, hty, h1, h2, ?_⟩
  have hA := ha cpos pins s1 σ H1 _ I1 q1
  rw [hs] at hA ⊢
  refine Calls.callWith_builtin (by show (false || (backTo cpos (starEach es X.env)).any (·.1)) = false; rw [hplain] <;> rfl) (Calls.evalArgs_plain ?_)
  exact thn hA fun us s2 ⟨vs, H2, I2, r2, q2⟩ => hm pins s2 σ H2 x vs v us Q I2 r1 r2 q2
/- xs.append(e), list.index on a module's tuple .. are MtR facts of 06m -/
end
end L2

namespace L2
open PySem PySem.Spec PyProof.Rows

def MtM (X : Cx) (id : String) (r : V → List V → Hp → VK → Prop) : Prop :=
  ∀ (pins : List (Addr × Obj)) (s : Shared) (σ : St) (H : Hp) (x : V) (xs : List V) (v : Value) (us : List Value) (Q : VK), Inv X pins σ H s → RelV x v → Vals xs us → r x xs H Q →
    wpAny (model X.prog X.w) X.A (call (.builtin id) (v :: us)) (EP X pins σ Q) X.xe s

/-! ### lists of values -/
theorem Vals.one : ∀ {x : V} {us : List Value}, Vals [x] us → ∃ u, us = [u] ∧ RelV x u
  | _, _, .cons r .nil => ⟨_, rfl, r⟩
theorem Vals.two : ∀ {x y : V} {us : List Value}, Vals [x, y] us → ∃ u v, us = [u, v] ∧ RelV x u ∧ RelV y v
  | _, _, _, .cons r (.cons q .nil) => ⟨_, _, rfl, r, q⟩
theorem Vals.zero : ∀ {us : List Value}, Vals [] us → us = []
  | _, .nil => rfl
theorem Vals.dropLast {xs : List V} {us : List Value} (h : Vals xs us) : Vals xs.dropLast us.dropLast := by
  induction h with
  | nil => exact .nil
  | cons r t ih =>
    cases t with
    | nil => exact .nil
    | cons q t' => exact .cons r ih
theorem Vals.eraseIdx : ∀ {xs : List V} {us : List Value} (i : Nat), Vals xs us → Vals (xs.eraseIdx i) (us.eraseIdx i)
  | _, _, _, .nil => .nil
  | _, _, 0, .cons _ t => t
  | _, _, i + 1, .cons r t => .cons r (Vals.eraseIdx i t)
theorem Vals.reverse {xs : List V} {us : List Value} (h : Vals xs us) : Vals xs.reverse us.reverse := by
  induction h with
  | nil => exact .nil
  | cons r t ih => rw [List.reverse_cons, List.reverse_cons]; exact Vals.append ih (.cons r .nil)
theorem Vals.rep {xs : List V} {us : List Value} (h : Vals xs us) : ∀ k : Nat, Vals (List.replicate k xs).flatten (List.replicate k us).flatten
  | 0 => .nil
  | k + 1 => by
    rw [List.replicate_succ, List.replicate_succ, List.flatten_cons, List.flatten_cons]
    exact Vals.append h (Vals.rep h k)
theorem erase_last {α : Type} (l : List α) : l.eraseIdx (l.length - 1) = l.dropLast := by
  induction l with
  | nil => rfl
  | cons a r ih =>
    cases r with
    | nil => rfl
    | cons b r =>
      have e : (a :: b :: r).length - 1 = ((b :: r).length - 1) + 1 := by
        have h1 : (a :: b :: r).length = r.length + 2 := rfl
        have h2 : (b :: r).length = r.length + 1 := rfl
        omega
      rw [e, List.eraseIdx_cons_succ, ih]
      all_goals rfl
theorem len_erase {α : Type} : ∀ (l : List α) (i : Nat), (l.eraseIdx i).length ≤ l.length
  | [], _ => Nat.le_refl _
  | _ :: _, 0 => Nat.le_succ _
  | _ :: r, i + 1 => Nat.succ_le_succ (len_erase r i)
theorem foldl_rep (its : List Value) : ∀ (k : Nat) (acc : List Value),
    List.foldl (fun x1 x2 => x1 ++ x2) acc.toArray (List.replicate k its.toArray) = (acc ++ (List.replicate k its).flatten).toArray
  | 0, acc => by simp
  | k + 1, acc => by
    have e : acc.toArray ++ its.toArray = (acc ++ its).toArray := by simp
    have e2 : (acc ++ its) ++ (List.replicate k its).flatten = acc ++ (List.replicate (k + 1) its).flatten := by
      rw [List.replicate_succ, List.flatten_cons, List.append_assoc]
    rw [← e2, ← foldl_rep its k (acc ++ its), ← e, List.replicate_succ, List.foldl_cons]

section
variable {X : Cx} {pins : List (Addr × Obj)} {σ : St} {H : Hp} {s : Shared} {l b : Addr} {xs ys zs : List V}

/-! ### the two steps: a tracked list is rewritten, a new list is laid -/
theorem Inv.lset {its its' : List Value} {n : Nat} {f : Array Value → Array Value} {t' : Nat} (I : Inv X pins σ H s) (hH : H l = some (.lst xs))
    (e : s.heap.get? l = some { cls := .type "list", data := .seq its.toArray n }) (hf : f its.toArray = its'.toArray) (hv : Vals ys its') (hz : ys.length ≤ sizeLine) :
    Inv X pins σ (upd H l (.lst ys)) { s with heap := s.heap.update l (Obj.mapSeq f), toks := t' } := by
  have q := PySem.IsL.update e f
  rw [hf] at q
  refine I.write (x := l) (e := l) (by rw [hH]; exact trivial) (.inl rfl) (fun b' u hb hu => (Heap.get?_update_other s.heap (Obj.mapSeq f) (Ne.symm hb)).trans hu) ⟨_, q⟩ ?_
  exact ⟨hz, its', _, hv, q⟩
theorem Inv.lnew {its : List Value} {t' : Nat} (I : Inv X pins σ H s) (hv : Vals ys its) (hz : ys.length ≤ sizeLine) :
    Inv X pins σ (upd H s.heap.objs.size (.lst ys)) { s with heap := s.heap.push { cls := .type "list", data := .seq its.toArray }, toks := t' } :=
  I.laid (fun _ _ q => Heap.get?_push_of_some _ q) (Nat.le_refl _) ⟨hz, its, 0, hv, Heap.get?_push_size _ rfl⟩
theorem Inv.fresh (I : Inv X pins σ H s) : H s.heap.objs.size = none := I.hok.fresh (Nat.le_refl _)
theorem Inv.lstM (I : Inv X pins σ H s) (hH : H l = some (.lst xs)) : xs.length ≤ sizeLine ∧ ∃ (its : List Value) (n : Nat), Vals xs its ∧ xs.length = its.length ∧ s.heap.get? l = some { cls := .type "list", data := .seq its.toArray n } := by
  obtain ⟨z, its, n, r, e⟩ := I.hok l _ hH
  exact ⟨z, its, n, r, r.length, e⟩

theorem notLongL {n : Nat} (h : n ≤ sizeLine) : Builtin.List.listTooLong n = false := by
  unfold Builtin.List.listTooLong
  exact decide_eq_false (by omega)
end

section
variable {X : Cx}

/-! ### methods -/
def rAppend : V → List V → Hp → VK → Prop := fun x vs H Q => ∃ l xs y, x = .ref l ∧ vs = [y] ∧ H l = some (.lst xs) ∧ xs.length < sizeLine ∧ Q .non (upd H l (.lst (xs ++ [y])))
theorem mt_append : MtM X "list.append" rAppend := by
  intro pins s σ H x vs v us Q I rx rv h
  obtain ⟨l, xs, y, rfl, rfl, hH, hz, q⟩ := h
  cases rx
  obtain ⟨u, rfl, ru⟩ := rv.one
  obtain ⟨z, its, n, r, hl, e⟩ := I.lstM hH
  refine call_meets F.slot_list_append ⟨_, e, rfl⟩ F.entry_list_append (F.args_list_append_2 _ _) (PySem.list_append l its.toArray n u (by rw [List.size_toArray]; omega)) ⟨e, ?_⟩
  refine ⟨.non, _, I.lset (its' := its ++ [u]) hH e (by simp) (r.append (.cons ru .nil)) ?_, rfl, q⟩
  rw [List.length_append, List.length_singleton]
  omega

def rExtend : V → List V → Hp → VK → Prop := fun x vs H Q => ∃ l b xs zs, x = .ref l ∧ vs = [.ref b] ∧ H l = some (.lst xs) ∧ H b = some (.lst zs) ∧ xs.length + zs.length ≤ sizeLine ∧ Q .non (upd H l (.lst (xs ++ zs)))
theorem mt_extend : MtM X "list.extend" rExtend := by
  intro pins s σ H x vs v us Q I rx rv h
  obtain ⟨l, b, xs, zs, rfl, rfl, hH, hB, hz, q⟩ := h
  cases rx
  obtain ⟨u, rfl, ru⟩ := rv.one
  cases ru
  obtain ⟨z, its, n, r, hl, e⟩ := I.lstM hH
  obtain ⟨z2, its2, n2, r2, hl2, e2⟩ := I.lstM hB
  have hsz : its.toArray.size + its2.toArray.size ≤ sizeLine := by rw [List.size_toArray, List.size_toArray]; omega
  have hlong : ¬ (!its.toArray.isEmpty && Builtin.List.listTooLong (its.toArray.size + its2.toArray.size)) = true := by
    rw [notLongL hsz, Bool.and_false]
    exact Bool.false_ne_true
  refine call_meets F.slot_list_extend ⟨_, e, rfl⟩ F.entry_list_extend (F.args_list_extend_2 _ _)
    (AutoSeq1.list_extend_list_list_0 l its.toArray n b its2.toArray n2 hlong (by rw [List.size_toArray]; omega) (by omega)) ⟨e, e2, ?_⟩
  refine ⟨.non, _, I.lset (its' := its ++ its2) hH e (by simp) (r.append r2) ?_, rfl, q⟩
  rw [List.length_append]
  omega

def rPop : V → List V → Hp → VK → Prop := fun x vs H Q => ∃ l xs y, x = .ref l ∧ vs = [] ∧ H l = some (.lst xs) ∧ xs[xs.length - 1]? = some y ∧ Q y (upd H l (.lst xs.dropLast))
theorem mt_pop : MtM X "list.pop" rPop := by
  intro pins s σ H x vs v us Q I rx rv h
  obtain ⟨l, xs, y, rfl, rfl, hH, hy, q⟩ := h
  cases rx
  have hus := rv.zero
  subst hus
  obtain ⟨z, its, n, r, hl, e⟩ := I.lstM hH
  obtain ⟨u, hu, ru⟩ := r.get hy
  have hy' : its.toArray[its.toArray.size - 1]? = some u := by
    show its.toArray[its.length - 1]? = some u
    rw [← Array.getElem?_toList, ← hl]
    exact hu
  refine call_meets F.slot_list_pop ⟨_, e, rfl⟩ F.entry_list_pop (F.args_list_pop_1 _) (MeetsSeq.list_pop_last l its.toArray n u hy' (by rw [List.size_toArray]; omega)) ⟨e, ?_⟩
  refine ⟨y, _, I.lset (its' := its.dropLast) hH e ?_ r.dropLast ?_, ru, q⟩
  · show its.toArray.eraseIdxIfInBounds (its.toArray.size - 1) = its.dropLast.toArray
    rw [List.size_toArray, List.eraseIdxIfInBounds_toArray, erase_last]
  · rw [List.length_dropLast]
    omega

def rPopAt : V → List V → Hp → VK → Prop := fun x vs H Q => ∃ l xs i k y, x = .ref l ∧ vs = [.int i] ∧ H l = some (.lst xs) ∧ -(2 ^ 63) ≤ i ∧ i < 2 ^ 63 ∧ seqIndex? i xs.length = some k ∧ xs[k]? = some y ∧ Q y (upd H l (.lst (xs.eraseIdx k)))
theorem mt_popAt : MtM X "list.pop" rPopAt := by
  intro pins s σ H x vs v us Q I rx rv h
  obtain ⟨l, xs, i, k, y, rfl, rfl, hH, h1, h2, hk, hy, q⟩ := h
  cases rx
  obtain ⟨u, rfl, ru⟩ := rv.one
  obtain ⟨t, rfl⟩ := ru
  obtain ⟨z, its, n, r, hl, e⟩ := I.lstM hH
  obtain ⟨w, hw, rw'⟩ := r.get hy
  refine call_meets F.slot_list_pop ⟨_, e, rfl⟩ F.entry_list_pop (F.args_list_pop_2 _ _)
    (MeetsSeq.list_pop_at l its.toArray n i t k w (fitsIndex_both h1 h2) (by rw [List.size_toArray, ← hl]; exact hk) (by rw [← Array.getElem?_toList]; exact hw) (by rw [List.size_toArray]; omega)) ⟨e, ?_⟩
  refine ⟨y, _, I.lset (its' := its.eraseIdx k) hH e ?_ (r.eraseIdx k) ?_, rw', q⟩
  · show its.toArray.eraseIdxIfInBounds k = (its.eraseIdx k).toArray
    rw [List.eraseIdxIfInBounds_toArray]
  · have := len_erase xs k
    omega

def rReverse : V → List V → Hp → VK → Prop := fun x vs H Q => ∃ l xs, x = .ref l ∧ vs = [] ∧ H l = some (.lst xs) ∧ Q .non (upd H l (.lst xs.reverse))
theorem mt_reverse : MtM X "list.reverse" rReverse := by
  intro pins s σ H x vs v us Q I rx rv h
  obtain ⟨l, xs, rfl, rfl, hH, q⟩ := h
  cases rx
  have hus := rv.zero
  subst hus
  obtain ⟨z, its, n, r, hl, e⟩ := I.lstM hH
  refine call_meets F.slot_list_reverse ⟨_, e, rfl⟩ F.entry_list_reverse (F.args_list_reverse_1 _) (AutoSeq1.list_reverse_list_0 l its.toArray n (by rw [List.size_toArray]; omega)) ⟨e, ?_⟩
  refine ⟨.non, _, I.lset (its' := its.reverse) hH e (by simp) r.reverse ?_, rfl, q⟩
  rw [List.length_reverse]
  omega

def rClear : V → List V → Hp → VK → Prop := fun x vs H Q => ∃ l xs, x = .ref l ∧ vs = [] ∧ H l = some (.lst xs) ∧ Q .non (upd H l (.lst []))
theorem mt_clear : MtM X "list.clear" rClear := by
  intro pins s σ H x vs v us Q I rx rv h
  obtain ⟨l, xs, rfl, rfl, hH, q⟩ := h
  cases rx
  have hus := rv.zero
  subst hus
  obtain ⟨z, its, n, r, hl, e⟩ := I.lstM hH
  refine call_meets F.slot_list_clear ⟨_, e, rfl⟩ F.entry_list_clear (F.args_list_clear_1 _) (AutoSeq1.list_clear_list_0 l its.toArray n (by rw [List.size_toArray]; omega)) ⟨e, ?_⟩
  exact ⟨.non, _, I.lset (its' := []) (ys := []) hH e rfl .nil (Nat.zero_le _), rfl, q⟩

/-! ### list + list, list += list, list * int -/
def rCat : R2 := fun x y H Q => ∃ l b xs zs, x = .ref l ∧ y = .ref b ∧ H l = some (.lst xs) ∧ H b = some (.lst zs) ∧ xs.length + zs.length ≤ sizeLine ∧ ∀ p, H p = none → Q (.ref p) (upd H p (.lst (xs ++ zs)))
theorem op_cat : OpR X (binaryOp .Add) rCat := by
  intro pins s σ H x y v u Q I rx ry h
  obtain ⟨l, b, xs, zs, rfl, rfl, hH, hB, hz, q⟩ := h
  cases rx
  cases ry
  obtain ⟨z, its, n, r, hl, e⟩ := I.lstM hH
  obtain ⟨z2, its2, n2, r2, hl2, e2⟩ := I.lstM hB
  refine PySem.P.add_list e e2 ?_ (by rw [List.size_toArray, List.size_toArray]; omega)
  have ea : its.toArray ++ its2.toArray = (its ++ its2).toArray := by simp
  rw [ea]
  exact ⟨.ref _, _, I.lnew (t' := s.toks) (r.append r2) (by rw [List.length_append]; omega), rfl, q _ I.fresh⟩
/-- a list times an int (a negative one is nothing) -/
def rRep : R2 := fun x y H Q => ∃ l k xs, x = .ref l ∧ y = .int k ∧ H l = some (.lst xs) ∧ -(2 ^ 63) ≤ k ∧ k < 2 ^ 63 ∧ xs.length * k.toNat ≤ sizeLine ∧
  ∀ p, H p = none → Q (.ref p) (upd H p (.lst (List.replicate k.toNat xs).flatten))
theorem len_rep {α : Type} (xs : List α) (k : Nat) : (List.replicate k xs).flatten.length = k * xs.length := by
  induction k with
  | zero => simp
  | succ k ih => rw [List.replicate_succ, List.flatten_cons, List.length_append, ih, Nat.succ_mul, Nat.add_comm]
theorem op_rep : OpR X (binaryOp .Mult) rRep := by
  intro pins s σ H x y v u Q I rx ry h
  obtain ⟨l, k, xs, rfl, rfl, hH, h1, h2, hz, q⟩ := h
  cases rx
  obtain ⟨t, rfl⟩ := ry
  obtain ⟨z, its, n, r, hl, e⟩ := I.lstM hH
  have hlen : its.toArray.size * k.toNat ≤ sizeLine := by rw [List.size_toArray, ← hl]; exact hz
  have hcap : ¬ its.toArray.size * k.toNat > (2 ^ 63 - 1) / 8 := by
    have : (sizeLine : Nat) ≤ (2 ^ 63 - 1) / 8 := by decide
    omega
  have hfit : ¬ (!Builtin.List.listFitsIndex k) = true := by
    rw [fitsIndex_both h1 h2]
    exact Bool.false_ne_true
  have hlong : ¬ Builtin.List.listTooLong (its.toArray.size * k.toNat) = true := by
    rw [notLongL hlen]
    exact Bool.false_ne_true
  have hnew : List.foldl (fun x1 x2 => x1 ++ x2) #[] (List.replicate (if its.toArray.isEmpty = true then 0 else k.toNat) its.toArray) = (List.replicate k.toNat its).flatten.toArray := by
    have f0 : ∀ m : Nat, List.foldl (fun x1 x2 => x1 ++ x2) #[] (List.replicate m its.toArray) = (List.replicate m its).flatten.toArray := fun m => by
      have := foldl_rep its m []
      rw [List.nil_append] at this
      exact this
    rw [f0]
    cases its with
    | nil => simp
    | cons a r' => rw [if_neg (by simp)]
  refine wpAny_binaryOp_repeat_ref (T := "list") (U := "int") (by decide) ⟨_, e, rfl⟩ (fun s' => typeIs_int s' k t) noFill_list_mul F.fills_int_mul F.slot_int_rmul repeat_list F.slot_int_index.lookup
    (call_meets F.slot_int_rmul (typeIs_int s k t) F.entry_int_rmul (F.args_int_rmul_2 _ _) (int___rmul___int_list k t l its.toArray n)
      ⟨e, rfl, ⟨_, e, rfl⟩, call_meets F.slot_list_mul ⟨_, e, rfl⟩ F.entry_list_mul (F.args_list_mul_2 _ _) (AutoListH.list___mul___list_int_3 l its.toArray n k t hfit hcap hlong) ⟨e, ?_⟩⟩)
  rw [hnew]
  exact ⟨.ref _, _, I.lnew (t' := s.toks) (r.rep k.toNat) (by rw [len_rep, Nat.mul_comm]; exact hz), rfl, q _ I.fresh⟩

/-! ### del xs[i] -/
theorem del_list {pins : List (Addr × Obj)} {s : Shared} {σ : St} {H : Hp} {l : Addr} {xs : List V} {i : Int} {t : Tok} {k : Nat} {Q : Unit → Shared → Prop} (I : Inv X pins σ H s) (hH : H l = some (.lst xs))
    (h1 : -(2 ^ 63) ≤ i) (h2 : i < 2 ^ 63) (hk : seqIndex? i xs.length = some k) (h : ∀ s', Inv X pins σ (upd H l (.lst (xs.eraseIdx k))) s' → Q () s') :
    wpAny (model X.prog X.w) X.A (delItem (.ref l) (.int i t)) Q X.xe s := by
  obtain ⟨z, its, n, r, hl, e⟩ := I.lstM hH
  refine PySem.P.delItem_list (k := k) e (fitsIndex_both h1 h2) (by rw [List.size_toArray, ← hl]; exact hk) (h _ ?_) (by rw [List.size_toArray]; omega)
  refine I.lset (its' := its.eraseIdx k) (t' := s.toks) hH e ?_ (r.eraseIdx k) ?_
  · show its.toArray.eraseIdxIfInBounds k = (its.eraseIdx k).toArray
    rw [List.eraseIdxIfInBounds_toArray]
  · have := len_erase xs k
    omega
end

/-! ### xs[a:b] = ys -/
section
variable {prog : Program} {w : World} {A : Around} {E : Value → Shared → Prop} {s : Shared}
theorem splice_eq (its its2 : List Value) (a c : Nat) : its.toArray.extract 0 a ++ its2.toArray ++ its.toArray.extract c its.toArray.size = (its.take a ++ its2 ++ its.drop c).toArray := by
  apply Array.toList_inj.mp
  first
    | (simp
       exact List.take_of_length_le (by simp))
    | simp [List.take_of_length_le]
    | simp
theorem bounds_run {a c n : Nat} (hac : a ≤ c) (hc : c ≤ n) : sliceBounds (some (a : Int)) (some (c : Int)) none n = ((a : Int), (c : Int), 1) := by
  simp only [sliceBounds, Option.getD_none]
  have h1 : ¬ ((a : Int) < 0) := by omega
  have h2 : ¬ ((c : Int) < 0) := by omega
  simp only [h1, h2, if_false, show (1 : Int) > 0 by decide, if_true]
  congr 1
  · omega
  · congr 1; omega
set_option maxRecDepth 100000 in
/-- list.__setitem__ with a slice of step one and another list -/
theorem setItem_slice {l b sl : Addr} {items new : Array Value} {n n2 : Nat} {vl vu : Value} {a c : Nat} {Q : Unit → Shared → Prop}
    (e : s.heap.get? l = some { cls := .type "list", data := .seq items n }) (e2 : s.heap.get? b = some { cls := .type "list", data := .seq new n2 }) (hne : l ≠ b)
    (hs : s.heap.IsSliceOf sl vl vu .none) (pl : IsPart vl (some (a : Int))) (pu : IsPart vu (some (c : Int))) (hac : a ≤ c) (hc : c ≤ items.size)
    (hsz : items.size + new.size ≤ sizeLine) (h : Q () { s with heap := s.heap.update l (Obj.mapSeq fun xs => xs.extract 0 a ++ new ++ xs.extract c xs.size) }) :
    wpAny (model prog w) A (setItem (.ref l) (.ref sl) (.ref b)) Q E s := by
  have hl : s.heap.IsList l items := PySem.IsL.isList e
  have hb : s.heap.IsList b new := PySem.IsL.isList e2
  obtain ⟨os, hos, hcs, hds⟩ := id hs
  have hTs : s.TypeIs (.ref sl) "slice" := ⟨os, hos, hcs⟩
  have hstep : ¬ ((rawPart none == rawInt 0) = true) := Bool.false_ne_true
  have hsame : Builtin.List.listSameRef (.ref l) (.ref b) = false := by
    unfold Builtin.List.listSameRef
    exact beq_eq_false_iff_ne.mpr hne
  have hmax : (max (a : Int) (c : Int)).toNat = c := by omega
  have hz' : ((fun xs : Array Value => xs.extract 0 a ++ new ++ xs.extract c xs.size) items).size ≤ sizeLine + 1 := by
    simp only [Array.size_append, Array.size_extract]
    omega
  unfold setItem
  try with_reducible refine wpAny_holding ?_
  first | refine wpAny_bind (wpAny_pure ?_) | skip
  refine wpAny_bind (wpAny_sequenceKey hl.typeIs (by decide) ?_)
  refine wpAny_bind (wpAny_callSpecial?_slot (name := Str.ofString "__setitem__") hl.typeIs slot_list_setitem
    (wpAny_call_entry slot_list_setitem hl.typeIs entry_list_setitem ?_ (args_list_setitem _ _ _)))
  show wpAny _ _ (Builtin.List.listSubscript? (.ref sl) >>= _) _ _ s
  refine wpAny_bind ?_
  unfold Builtin.List.listSubscript?
  refine wpAny_bind (wpAny_specialOf hTs slice_no_index ?_)
  simp only [Option.isNone_none, if_true]
  refine wpAny_pure ?_
  show wpAny _ _ (typeOf (.ref sl) >>= _) _ _ s
  refine wpAny_bind (wpAny_typeOf hTs ?_)
  first
    | rw [if_neg (by decide)]
    | refine PySem.W.KFB.if_not (by decide) ?_
  rw [listSliceParts_eq]
  refine wpAny_bind (wpAny_bind (wpAny_field hos hds (x := .none) rfl (wpAny_bind (wpAny_listPart .none ?_))))
  rw [if_neg hstep]
  refine wpAny_bind (wpAny_field hos hds (x := vl) rfl (wpAny_bind (wpAny_listPart pl ?_)))
  refine wpAny_bind (wpAny_field hos hds (x := vu) rfl (wpAny_bind (wpAny_listPart pu (wpAny_pure ?_))))
  first
    | simp only [hsame, Bool.false_eq_true, if_false]
    | refine PySem.W.KFB.if_not hsame ?_
    | (dsimp only
       rw [if_neg (by rw [hsame]; exact Bool.false_ne_true)])
  refine wpAny_bind (m := Builtin.List.listAllItems (.ref b) "must assign iterable to extended slice") ?_
  unfold Builtin.List.listAllItems
  refine wpAny_bind (wpAny_typeOf hb.typeIs ?_)
  first
    | refine PySem.W.KFB.if_so (by decide) ?_
    | rw [if_pos (by decide)]
    | simp only [beq_self_eq_true, Bool.true_or, if_true]
  unfold Builtin.List.listItems
  refine wpAny_bind (wpAny_seqItems e2 rfl (wpAny_pure ?_))
  refine wpAny_bind (wpAny_bind (wpAny_seqItems e rfl (wpAny_pure ?_)))
  refine wpAny_bind (wpAny_of_eq ((sliceIndices_raw (some (a : Int)) (some (c : Int)) none items.size (by simp)).trans (congrArg (pure : Int × Int × Int → Sem (Int × Int × Int)) (bounds_run hac hc))) ?_)
  show wpAny _ _ (if ((1 : Int) == 1) = true then _ else _) _ _ s
  rw [if_pos (by decide)]
  refine wpAny_bind (wpAny_rule ?_)
  first
    | simp only [notLongL hsz, Bool.false_eq_true, if_false]
    | refine PySem.W.KFB.if_not (notLongL hsz) ?_
  first | refine wpAny_bind (wpAny_pure ?_) | skip
  show wpAny _ _ (updateSeq l (fun xs => xs.extract 0 ((a : Int)).toNat ++ new ++ xs.extract (max (a : Int) (c : Int)).toNat xs.size) >>= _) _ _ s
  rw [hmax, Int.toNat_natCast]
  refine wpAny_bind (wpAny_updateSeq (hz := Nat.le_trans (Nat.le_add_right _ _) hsz) (_hz' := hz') e rfl ?_)
  refine wpAny_bind (wpAny_letGo ?_)
  first
    | exact wpAny_bind (wpAny_pure (wpAny_pure ⟨.none, rfl, wpAny_pure h⟩))
    | exact wpAny_pure ⟨.none, rfl, wpAny_pure h⟩
end

section
variable {X : Cx}
/-- xs[a:c] = ys of another list, at the value level: sl is the slice object that was just made -/
theorem set_slice {pins : List (Addr × Obj)} {s : Shared} {σ : St} {H : Hp} {l b sl : Addr} {xs ys : List V} {a c : Int} {vl vu : Value} {Q : Unit → Shared → Prop} (I : Inv X pins σ H s)
    (hH : H l = some (.lst xs)) (hB : H b = some (.lst ys)) (hne : l ≠ b) (hs : s.heap.IsSliceOf sl vl vu .none) (ra : RelV (.int a) vl) (rc : RelV (.int c) vu) (h0 : 0 ≤ a) (hac : a ≤ c) (hc : c ≤ xs.length)
    (hz : xs.length + ys.length ≤ sizeLine) (h : ∀ s', Inv X pins σ (upd H l (.lst (xs.take a.toNat ++ ys ++ xs.drop c.toNat))) s' → Q () s') :
    wpAny (model X.prog X.w) X.A (setItem (.ref l) (.ref sl) (.ref b)) Q X.xe s := by
  obtain ⟨ta, rfl⟩ := ra
  obtain ⟨tc, rfl⟩ := rc
  obtain ⟨z, its, n, r, hl, e⟩ := I.lstM hH
  obtain ⟨z2, its2, n2, r2, hl2, e2⟩ := I.lstM hB
  obtain ⟨a', rfl⟩ := Int.eq_ofNat_of_zero_le h0
  obtain ⟨c', rfl⟩ := Int.eq_ofNat_of_zero_le (Int.le_trans h0 hac)
  simp only [Int.toNat_natCast] at h
  refine setItem_slice (a := a') (c := c') e e2 hne hs (.int _ _) (.int _ _) (by omega) (by rw [List.size_toArray]; omega) (by rw [List.size_toArray, List.size_toArray]; omega) (h _ ?_)
  refine I.lset (its' := its.take a' ++ its2 ++ its.drop c') (t' := s.toks) hH e ?_ (Vals.append (Vals.append (r.take _) r2) (r.drop _)) ?_
  · exact splice_eq its its2 a' c'
  · rw [List.length_append, List.length_append, List.length_take, List.length_drop]
    omega
end
end L2

namespace L2
open PySem PySem.Spec PyProof.Rows

/-! ### lists of pairs as tables -/
section
variable {κ : Type} [DecidableEq κ]
def valV (kvs : List (κ × V)) (k : κ) : Option V := (kvs.find? fun kv => decide (kv.1 = k)).map (·.2)
/-- in its place, or at the end -/
def putK (kvs : List (κ × V)) (k : κ) (v : V) : List (κ × V) :=
  if (kvs.any fun kv => decide (kv.1 = k)) = true then kvs.map (fun kv => if kv.1 = k then (kv.1, v) else kv) else kvs ++ [(k, v)]
def dropK (kvs : List (κ × V)) (k : κ) : List (κ × V) := kvs.filter fun kv => decide (kv.1 ≠ k)

theorem valV_nil {k : κ} : valV ([] : List (κ × V)) k = none := rfl
theorem valV_pos {p : κ × V} {r : List (κ × V)} {k : κ} (e : p.1 = k) : valV (p :: r) k = some p.2 := by simp [valV, List.find?_cons, e]
theorem valV_neg {p : κ × V} {r : List (κ × V)} {k : κ} (e : ¬ p.1 = k) : valV (p :: r) k = valV r k := by simp [valV, List.find?_cons, e]
theorem valV_any (k : κ) : ∀ kvs : List (κ × V), (kvs.any fun kv => decide (kv.1 = k)) = (valV kvs k).isSome
  | [] => rfl
  | p :: r => by
    rw [List.any_cons]
    by_cases e : p.1 = k
    · simp only [valV_pos e, decide_eq_true e, Bool.true_or, Option.isSome_some]
    · rw [valV_neg e, decide_eq_false e, Bool.false_or]; exact valV_any k r
theorem valV_map (k j : κ) (y : V) : ∀ kvs : List (κ × V), valV (kvs.map fun kv => if kv.1 = k then (kv.1, y) else kv) j = (valV kvs j).map fun x => if j = k then y else x
  | [] => rfl
  | p :: r => by
    have ih := valV_map k j y r
    rw [List.map_cons]
    by_cases h : p.1 = k
    · rw [if_pos h]
      by_cases e : p.1 = j
      · rw [valV_pos (p := (p.1, y)) e, valV_pos e, Option.map_some, if_pos (e.symm.trans h)]
      · rw [valV_neg (p := (p.1, y)) e, valV_neg e, ih]
    · rw [if_neg h]
      by_cases e : p.1 = j
      · rw [valV_pos (p := p) e, valV_pos e, Option.map_some, if_neg (fun z => h (e.trans z))]
      · rw [valV_neg (p := p) e, valV_neg e, ih]
theorem valV_snoc (k j : κ) (y : V) : ∀ kvs : List (κ × V), valV kvs k = none → valV (kvs ++ [(k, y)]) j = if j = k then some y else valV kvs j
  | [], _ => by
    by_cases e : k = j
    · rw [if_pos e.symm]; exact valV_pos (p := (k, y)) e
    · rw [if_neg (fun z => e z.symm)]; exact valV_neg (p := (k, y)) e
  | p :: r, hn => by
    rw [List.cons_append]
    have hk : ¬ p.1 = k := fun z => by rw [valV_pos z] at hn; cases hn
    rw [valV_neg hk] at hn
    have ih := valV_snoc k j y r hn
    by_cases e : p.1 = j
    · rw [valV_pos e, valV_pos e, if_neg (fun z => hk (e.trans z))]
    · rw [valV_neg e, valV_neg e, ih]
theorem valV_put (kvs : List (κ × V)) (k j : κ) (y : V) : valV (putK kvs k y) j = if j = k then some y else valV kvs j := by
  unfold putK
  by_cases a : (kvs.any fun kv => decide (kv.1 = k)) = true
  · rw [if_pos a, valV_map]
    rw [valV_any] at a
    by_cases e : j = k
    · obtain ⟨x, hx⟩ := Option.isSome_iff_exists.mp a
      rw [if_pos e, e, hx, Option.map_some, if_pos rfl]
    · rw [if_neg e]
      cases valV kvs j with
      | none => rfl
      | some x => rw [Option.map_some, if_neg e]
  · rw [if_neg a]
    refine valV_snoc k j y kvs ?_
    rw [valV_any] at a
    cases q : valV kvs k with
    | none => rfl
    | some x => rw [q] at a; exact (a rfl).elim
theorem length_putK (kvs : List (κ × V)) (k : κ) (v : V) : (putK kvs k v).length ≤ kvs.length + 1 := by
  unfold putK
  split
  · rw [List.length_map]; omega
  · rw [List.length_append, List.length_cons, List.length_nil]; omega
theorem putK_new {kvs : List (κ × V)} {k : κ} (v : V) (h : valV kvs k = none) : putK kvs k v = kvs ++ [(k, v)] := by
  unfold putK
  rw [valV_any, h]
  exact if_neg (by decide)

theorem RelO.isSome_eq {o : Option V} {u : Option Value} (r : RelO o u) : o.isSome = u.isSome := by
  cases o with
  | none => cases u with
    | none => rfl
    | some _ => exact (show False from r).elim
  | some _ => cases u with
    | none => exact (show False from r).elim
    | some _ => rfl
theorem RelO.getD {o : Option V} {u : Option Value} {d : V} {d' : Value} (r : RelO o u) (rd : RelV d d') : RelV (o.getD d) (u.getD d') := by
  cases o with
  | none => cases u with
    | none => exact rd
    | some _ => exact (show False from r).elim
  | some _ => cases u with
    | none => exact (show False from r).elim
    | some _ => exact r

/-- raw tables of the same keys -/
theorem KV.val {kvs : List (κ × V)} {vs : List (κ × Value)} (r : KV kvs vs) (k : κ) : RelO (valV kvs k) (valueAt vs k) := by
  unfold KV at r
  induction r with
  | nil => exact True.intro
  | @cons p q ps qs h t ih =>
    obtain ⟨h1, h2⟩ := h
    by_cases e : p.1 = k
    · have e' : q.1 = k := h1.symm.trans e
      have b : valueAt (q :: qs) k = some q.2 := by simp [valueAt, List.find?_cons, e']
      rw [valV_pos e, b]; exact h2
    · have e' : ¬ q.1 = k := fun z => e (h1.trans z)
      have b : valueAt (q :: qs) k = valueAt qs k := by simp [valueAt, List.find?_cons, e']
      rw [valV_neg e, b]; exact ih
theorem KV.any {kvs : List (κ × V)} {vs : List (κ × Value)} (r : KV kvs vs) (k : κ) : (kvs.any fun kv => decide (kv.1 = k)) = vs.any fun kv => decide (kv.1 = k) := by
  unfold KV at r
  induction r with
  | nil => rfl
  | cons h t ih => rw [List.any_cons, List.any_cons, ih, h.1]
theorem KV.repl {kvs : List (κ × V)} {vs : List (κ × Value)} (r : KV kvs vs) (k : κ) {y : V} {u : Value} (ry : RelV y u) :
    KV (kvs.map fun kv => if kv.1 = k then (kv.1, y) else kv) (vs.map fun kv => if kv.1 = k then (kv.1, u) else kv) := by
  unfold KV at r ⊢
  induction r with
  | nil => exact .nil
  | @cons p q ps qs h t ih =>
    rw [List.map_cons, List.map_cons]
    refine .cons ?_ ih
    obtain ⟨h1, h2⟩ := h
    by_cases e : p.1 = k
    · rw [if_pos e, if_pos (h1.symm.trans e)]; exact ⟨h1, ry⟩
    · rw [if_neg e, if_neg (fun z => e (h1.trans z))]; exact ⟨h1, h2⟩
theorem KV.put {kvs : List (κ × V)} {vs : List (κ × Value)} (r : KV kvs vs) (k : κ) {y : V} {u : Value} (ry : RelV y u) : KV (putK kvs k y) (stored vs k u) := by
  unfold putK stored
  rw [r.any k]
  by_cases e : (vs.any fun kv => decide (kv.1 = k)) = true
  · rw [if_pos e, if_pos e]; exact r.repl k ry
  · rw [if_neg e, if_neg e]; exact Paired.snoc r ⟨rfl, ry⟩
theorem KV.drop {kvs : List (κ × V)} {vs : List (κ × Value)} (r : KV kvs vs) (k : κ) : KV (dropK kvs k) (without vs k) := by
  unfold KV at r ⊢
  unfold dropK without
  induction r with
  | nil => exact .nil
  | @cons p q ps qs h t ih =>
    obtain ⟨h1, h2⟩ := h
    rw [List.filter_cons, List.filter_cons]
    by_cases e : p.1 = k
    · have a : ¬ decide (p.1 ≠ k) = true := by simp [e]
      have b : ¬ decide (q.1 ≠ k) = true := by simp [h1.symm.trans e]
      rw [if_neg a, if_neg b]; exact ih
    · have e' : ¬ q.1 = k := fun z => e (h1.trans z)
      have a : decide (p.1 ≠ k) = true := by simp [e]
      have b : decide (q.1 ≠ k) = true := by simp [e']
      rw [if_pos a, if_pos b]; exact .cons ⟨h1, h2⟩ ih
theorem KV.keys {kvs : List (κ × V)} {vs : List (κ × Value)} (r : KV kvs vs) : kvs.map (·.1) = vs.map (·.1) := by
  unfold KV at r
  induction r with
  | nil => rfl
  | cons h t ih => rw [List.map_cons, List.map_cons, ih, h.1]
theorem KV.length {kvs : List (κ × V)} {vs : List (κ × Value)} (r : KV kvs vs) : kvs.length = vs.length := Paired.length r
theorem dropK_le (kvs : List (κ × V)) (k : κ) : (dropK kvs k).length ≤ kvs.length := List.length_filter_le _ _
end


/-! ### a tracked dict, its keys ints and texts or tuples of these -/
theorem kV_is {P : Program} {w : World} {k : Key} {u : Value} (r : RelV (kV k) u) : (mixKind P w).is k u = true := by
  cases k with
  | inl i => obtain ⟨t, e⟩ := (show ∃ t, u = Value.int i t from r); subst e; exact mixKind_int P w i t
  | inr x => obtain ⟨t, e⟩ := (show ∃ t, u = Value.str x t from r); subst e; exact mixKind_str P w x t
theorem kV_inj {a b : Key} (e : kV a = kV b) : a = b := by
  cases a with
  | inl i => cases b with
    | inl j => have e' : V.int i = V.int j := e; injection e' with e'; rw [e']
    | inr y => exact nomatch (show V.int i = V.str y from e)
  | inr x => cases b with
    | inl j => exact nomatch (show V.str x = V.int j from e)
    | inr y => have e' : V.str x = V.str y := e; injection e' with e'; rw [e']
theorem kVs_inj : ∀ {a b : List Key}, a.map kV = b.map kV → a = b
  | [], [], _ => rfl
  | [], _ :: _, e => by simp at e
  | _ :: _, [], e => by simp at e
  | x :: xs, y :: ys, e => by
    rw [List.map_cons, List.map_cons] at e
    injection e with e1 e2
    rw [kV_inj e1, kVs_inj e2]
theorem items_are {P : Program} {w : World} : ∀ {ks : List Key} {us : List Value}, Vals (ks.map kV) us → ItemsAre (mixKind P w) ks us
  | [], _, r => by rw [List.map_nil] at r; cases r; exact .nil
  | k :: ks, _, r => by
    rw [List.map_cons] at r
    cases r with
    | cons h t => exact .cons (kV_is h) (items_are t)

/-- raw entries of a dict with tuple keys -/
abbrev KT (H : Hp) : List (List Key × V) → List (List Key × Addr × Value) → Prop := Paired fun p q => p.1 = q.1 ∧ H q.2.1 = some (.tup (p.1.map kV)) ∧ RelV p.2 q.2.2
theorem KT.val {H : Hp} {kvs : List (List Key × V)} {xs : List (List Key × Addr × Value)} (r : KT H kvs xs) (k : List Key) : RelO (valV kvs k) ((atKey xs k).map (·.2)) := by
  induction r with
  | nil => exact True.intro
  | @cons p q ps qs h t ih =>
    obtain ⟨h1, _, h2⟩ := h
    by_cases e : p.1 = k
    · have e' : q.1 = k := h1.symm.trans e
      have b : atKey (q :: qs) k = some q.2 := by simp [atKey, List.find?_cons, e']
      rw [valV_pos e, b]; exact h2
    · have e' : ¬ q.1 = k := fun z => e (h1.trans z)
      have b : atKey (q :: qs) k = atKey qs k := by simp [atKey, List.find?_cons, e']
      rw [valV_neg e, b]; exact ih
theorem KT.repl {H : Hp} {kvs : List (List Key × V)} {xs : List (List Key × Addr × Value)} (r : KT H kvs xs) (k : List Key) {y : V} {u : Value} (ry : RelV y u) :
    KT H (kvs.map fun kv => if kv.1 = k then (kv.1, y) else kv) (xs.map (putAt k u)) := by
  induction r with
  | nil => exact .nil
  | @cons p q ps qs h t ih =>
    rw [List.map_cons, List.map_cons]
    refine .cons ?_ ih
    obtain ⟨h1, h2, h3⟩ := h
    unfold putAt
    by_cases e : p.1 = k
    · rw [if_pos e, if_pos (h1.symm.trans e)]; exact ⟨h1, h2, ry⟩
    · rw [if_neg e, if_neg (fun z => e (h1.trans z))]; exact ⟨h1, h2, h3⟩
theorem KT.put {H : Hp} {kvs : List (List Key × V)} {xs : List (List Key × Addr × Value)} (r : KT H kvs xs) (k : List Key) {b : Addr} {y : V} {u : Value} (hb : H b = some (.tup (k.map kV))) (ry : RelV y u) :
    KT H (putK kvs k y) (storedH xs k b u) := by
  have e : (kvs.any fun kv => decide (kv.1 = k)) = (atKey xs k).isSome := by
    rw [valV_any, (r.val k).isSome_eq, Option.isSome_map]
  unfold putK storedH
  rw [e]
  by_cases q : (atKey xs k).isSome = true
  · rw [if_pos q, if_pos q]; exact r.repl k ry
  · rw [if_neg q, if_neg q]; exact Paired.snoc r ⟨rfl, hb, ry⟩
theorem KT.keeps {H H' : Hp} {kvs : List (List Key × V)} {xs : List (List Key × Addr × Value)} (r : KT H kvs xs) (ht : ∀ b ys, H b = some (.tup ys) → H' b = some (.tup ys)) : KT H' kvs xs :=
  Paired.mapP r fun _ _ z => ⟨z.1, ht _ _ z.2.1, z.2.2⟩

section
variable {P : Program} {w : World} {H : Hp} {h : Heap} {a : Addr}
theorem rd_of {u : HO} (ok : HOk P w H h) (e : Rd H a u) : ObjOk P w H h a u := e.ok ok
theorem dk_rd {kvs : List (Key × V)} (ok : HOk P w H h) (e : Rd H a (.dK kvs)) : kvs.length ≤ sizeLine ∧ (a == sysModules) = false ∧ ∃ vs, KV kvs vs ∧ h.DictOf (mixKind P w) a vs :=
  show ObjOk P w H h a (.dK kvs) from rd_of ok e
theorem dk_of {kvs : List (Key × V)} (ok : HOk P w H h) (e : H a = some (.dK kvs)) : kvs.length ≤ sizeLine ∧ (a == sysModules) = false ∧ ∃ vs, KV kvs vs ∧ h.DictOf (mixKind P w) a vs := dk_rd ok (.inl e)
/-- a tracked tuple of ints and texts is a key -/
theorem key_of {ks : List Key} (ok : HOk P w H h) (e : H a = some (.tup (ks.map kV))) : (tupleKind (mixKind P w)).is h ks a := by
  obtain ⟨_, its, r, o, h1, h2, n, h3⟩ := (show ObjOk P w H h a (.tup (ks.map kV)) from ok a _ e)
  exact ⟨o, its.toArray, n, h1, h2, h3, by simpa using items_are r⟩
theorem dt_rd {kvs : List (List Key × V)} (ok : HOk P w H h) (e : Rd H a (.dT kvs)) : kvs.length ≤ sizeLine ∧ (a == sysModules) = false ∧
    ∃ xs, KT H kvs xs ∧ h.DictOfH (tupleKind (mixKind P w)) a xs := by
  obtain ⟨z, y, xs, r, o, es, ep, h1, h2, h3, h4, h5⟩ := (show ObjOk P w H h a (.dT kvs) from rd_of ok e)
  refine ⟨z, y, xs, r, o, es, ep, h1, h2, h3, h4, fun x hx => ?_, h5⟩
  have all : ∀ {l : List (List Key × V)} {m : List (List Key × Addr × Value)}, KT H l m → ∀ x ∈ m, (tupleKind (mixKind P w)).is h x.1 x.2.1 := by
    intro l m q
    induction q with
    | nil => intro x hx; exact nomatch hx
    | @cons p q ps qs hq t ih =>
      intro x hx
      rcases List.mem_cons.mp hx with e | hx
      · subst e
        exact key_of ok (by rw [← hq.1]; exact hq.2.1)
      · exact ih x hx
  exact all r x hx
theorem dt_of {kvs : List (List Key × V)} (ok : HOk P w H h) (e : H a = some (.dT kvs)) : kvs.length ≤ sizeLine ∧ (a == sysModules) = false ∧
    ∃ xs, KT H kvs xs ∧ h.DictOfH (tupleKind (mixKind P w)) a xs := dt_rd ok (.inl e)
end

/-- what the dict at a holds at the key y -/
def DGet (H : Hp) (a : Addr) (y : V) (r : Option V) : Prop :=
  (∃ kvs k, Rd H a (.dK kvs) ∧ y = kV k ∧ r = valV kvs k) ∨ ∃ kvs k b, Rd H a (.dT kvs) ∧ y = .ref b ∧ H b = some (.tup (k.map kV)) ∧ r = valV kvs k
/-- the heap behind a[y] = v -/
def DPut (H : Hp) (a : Addr) (y v : V) (H' : Hp) : Prop :=
  (∃ kvs k, H a = some (.dK kvs) ∧ y = kV k ∧ kvs.length < sizeLine ∧ H' = upd H a (.dK (putK kvs k v))) ∨
  ∃ kvs k b, H a = some (.dT kvs) ∧ y = .ref b ∧ H b = some (.tup (k.map kV)) ∧ kvs.length < sizeLine ∧ H' = upd H a (.dT (putK kvs k v))
theorem DGet.k {H : Hp} {a : Addr} {kvs : List (Key × V)} {k : Key} (e : H a = some (.dK kvs)) : DGet H a (kV k) (valV kvs k) := .inl ⟨kvs, k, .inl e, rfl, rfl⟩
theorem DGet.t {H : Hp} {a b : Addr} {kvs : List (List Key × V)} {k : List Key} (e : H a = some (.dT kvs)) (eb : H b = some (.tup (k.map kV))) : DGet H a (.ref b) (valV kvs k) := .inr ⟨kvs, k, b, .inl e, rfl, eb, rfl⟩
theorem DPut.k {H : Hp} {a : Addr} {kvs : List (Key × V)} {k : Key} {v : V} (e : H a = some (.dK kvs)) (hl : kvs.length < sizeLine) : DPut H a (kV k) v (upd H a (.dK (putK kvs k v))) := .inl ⟨kvs, k, e, rfl, hl, rfl⟩
theorem DPut.t {H : Hp} {a b : Addr} {kvs : List (List Key × V)} {k : List Key} {v : V} (e : H a = some (.dT kvs)) (eb : H b = some (.tup (k.map kV))) (hl : kvs.length < sizeLine) :
    DPut H a (.ref b) v (upd H a (.dT (putK kvs k v))) := .inr ⟨kvs, k, b, e, rfl, eb, hl, rfl⟩


section
variable {X : Cx} {pins : List (Addr × Obj)} {σ : St} {H : Hp} {s : Shared} {a : Addr} {y v : V} {u r : Value} {o : Option V} {A : Around} {E : Value → Shared → Prop}

theorem Inv.big (I : Inv X pins σ H s) : sysModules < s.heap.objs.size := by
  have h : mainGlobals < s.heap.objs.size := (I.mod.glob.keeps I.bk).lt
  exact Nat.lt_trans (by decide) h

/-- d[y], there -/
theorem d_getItem {Q : Value → Shared → Prop} (hu : A.units + 1 < cLine) (I : Inv X pins σ H s) (g : DGet H a y (some v)) (ry : RelV y u) (h : ∀ w' s', Inv X pins σ H s' → RelV v w' → Q w' s') :
    wpAny (model X.prog X.w) A (getItem (.ref a) u) Q E s := by
  rcases g with ⟨kvs, k, e, ey, l⟩ | ⟨kvs, k, b, e, ey, eb, l⟩
  · subst ey
    obtain ⟨z, hd, vs, rel, dd⟩ := dk_rd I.hok e
    obtain ⟨w', hw, rw'⟩ := RelO.some_of (v := v) (o := valueAt vs k) (by rw [l]; exact rel.val k)
    exact wpAny_getItem_of (kV_is ry) dd.mapOf hw (h w' _ (I.tok _) rw')
  · subst ey
    cases (show u = Value.ref b from ry)
    obtain ⟨z, hd, xs, rel, dd⟩ := dt_rd I.hok e
    obtain ⟨w', hw, rw'⟩ := RelO.some_of (v := v) (o := (atKey xs k).map (·.2)) (by rw [l]; exact rel.val k)
    obtain ⟨p, hp, hp2⟩ := Option.map_eq_some_iff.mp hw
    refine wpAny_getItem_heap (tupleKind_room_in1 hu) (key_of I.hok eb) dd hp ?_
    rw [hp2]
    exact h w' _ (I.tok _) rw'
/-- y in d -/
theorem d_in {Q : Value → Shared → Prop} (hu : A.units + 1 < cLine) (I : Inv X pins σ H s) (g : DGet H a y o) (ry : RelV y u) (h : ∀ s', Inv X pins σ H s' → Q (.bool o.isSome) s') :
    wpAny (model X.prog X.w) A (compareOp .In u (.ref a)) Q E s := by
  rcases g with ⟨kvs, k, e, ey, l⟩ | ⟨kvs, k, b, e, ey, eb, l⟩
  · subst ey
    obtain ⟨z, hd, vs, rel, dd⟩ := dk_rd I.hok e
    refine wpAny_in_of (kV_is ry) hd dd.mapOf ?_
    rw [← (rel.val k).isSome_eq, ← l]
    exact h _ (I.tok _)
  · subst ey
    cases (show u = Value.ref b from ry)
    obtain ⟨z, hd, xs, rel, dd⟩ := dt_rd I.hok e
    refine wpAny_in_heap (tupleKind_room_in1 hu) (key_of I.hok eb) hd dd ?_
    have q := (rel.val k).isSome_eq
    rw [Option.isSome_map] at q
    rw [← q, ← l]
    exact h _ (I.tok _)
theorem d_notIn {Q : Value → Shared → Prop} (hu : A.units + 1 < cLine) (I : Inv X pins σ H s) (g : DGet H a y o) (ry : RelV y u) (h : ∀ s', Inv X pins σ H s' → Q (.bool (!o.isSome)) s') :
    wpAny (model X.prog X.w) A (compareOp .NotIn u (.ref a)) Q E s := by
  rcases g with ⟨kvs, k, e, ey, l⟩ | ⟨kvs, k, b, e, ey, eb, l⟩
  · subst ey
    obtain ⟨z, hd, vs, rel, dd⟩ := dk_rd I.hok e
    refine wpAny_notIn_of (kV_is ry) hd dd.mapOf ?_
    rw [← (rel.val k).isSome_eq, ← l]
    exact h _ (I.tok _)
  · subst ey
    cases (show u = Value.ref b from ry)
    obtain ⟨z, hd, xs, rel, dd⟩ := dt_rd I.hok e
    refine wpAny_notIn_heap (tupleKind_room_in1 hu) (key_of I.hok eb) hd dd ?_
    have q := (rel.val k).isSome_eq
    rw [Option.isSome_map] at q
    rw [← q, ← l]
    exact h _ (I.tok _)
/-- a dict's object is replaced -/
theorem d_write {h' : Heap} {t' : Nat} {ob : HO} (I : Inv X pins σ H s) (mu : Mut (H a)) (hs : Heap.SameBut a s.heap h') (he : ∃ q, h'.get? a = some q) (new : ObjOk X.prog X.w (upd H a ob) h' a ob) :
    Inv X pins σ (upd H a ob) { s with heap := h', toks := t' } :=
  I.write (x := a) (e := a) mu (.inl rfl) (fun b q hb z => (hs.2 b hb).trans z) he new
theorem dk_new {P : Program} {w : World} {H' : Hp} {h' : Heap} {kvs : List (Key × V)} {vs : List (Key × Value)} (z : kvs.length ≤ sizeLine) (hd : (a == sysModules) = false) (rel : KV kvs vs) (dd : h'.DictOf (mixKind P w) a vs) :
    ObjOk P w H' h' a (.dK kvs) := ⟨z, hd, vs, rel, dd⟩
/-- d[y] = v -/
theorem d_setItem {H' : Hp} {Q : Unit → Shared → Prop} (hu : A.units + 1 < cLine) (I : Inv X pins σ H s) (g : DPut H a y v H') (ry : RelV y u) (rv : RelV v r) (h : ∀ s', Inv X pins σ H' s' → Q () s') :
    wpAny (model X.prog X.w) A (setItem (.ref a) u r) Q E s := by
  rcases g with ⟨kvs, k, e, ey, l, eH⟩ | ⟨kvs, k, b, e, ey, eb, l, eH⟩
  · subst ey eH
    obtain ⟨z, hd, vs, rel, dd⟩ := dk_of I.hok e
    have hz : vs.length ≤ sizeLine := by rw [← rel.length]; exact z
    have hl : (putK kvs k v).length ≤ sizeLine := by have := length_putK kvs k v; omega
    refine wpAny_setItem_pairs (hsz := hz) (kV_is ry) dd fun h' dd' hs => h _ ?_
    have he : ∃ q, h'.get? a = some q := let ⟨q, _, _, hq, _⟩ := dd'; ⟨q, hq⟩
    exact d_write I (by rw [e]; exact True.intro) hs he (dk_new hl hd (rel.put k rv) dd')
  · subst ey eH
    cases (show u = Value.ref b from ry)
    obtain ⟨z, hd, xs, rel, dd⟩ := dt_of I.hok e
    have hz : xs.length ≤ sizeLine := by rw [← Paired.length rel]; exact z
    have hl : (putK kvs k v).length ≤ sizeLine := by have := length_putK kvs k v; omega
    refine wpAny_setItem_heap (hsz := hz) (tupleKind_room_in1 hu) (key_of I.hok eb) dd fun h' dd' hs => h _ ?_
    obtain ⟨q, es, ep, hq, h2, h3, h4, _, h5⟩ := dd'
    refine d_write I (by rw [e]; exact True.intro) hs ⟨q, hq⟩ ⟨hl, hd, _, (rel.put k eb rv).keeps fun c ys ec => ?_, q, es, ep, hq, h2, h3, h4, h5⟩
    rw [upd_ne (ne_of ec e (fun z => nomatch z))]
    exact ec
end

section
variable {X : Cx} {pins : List (Addr × Obj)} {σ : St} {H : Hp} {s : Shared} {a : Addr} {kvs : List (Key × V)} {k : Key} {u : Value} {A : Around} {E : Value → Shared → Prop}
/-- del d[k] -/
theorem d_delItem {Q : Unit → Shared → Prop} (I : Inv X pins σ H s) (e : H a = some (.dK kvs)) (ry : RelV (kV k) u) (l : (valV kvs k).isSome = true) (h : ∀ s', Inv X pins σ (upd H a (.dK (dropK kvs k))) s' → Q () s') :
    wpAny (model X.prog X.w) A (delItem (.ref a) u) Q E s := by
  obtain ⟨z, hd, vs, rel, dd⟩ := dk_of I.hok e
  refine wpAny_delItem_slot dd.typeIs (by decide) PySem.F.slot_dict_delitem
    (call_meetsIn PySem.F.slot_dict_delitem dd.typeIs PySem.F.entry_dict_delitem (PySem.F.args_dict_delitem_2 _ _) (meets_dict_delitem_pairs (mixKind X.prog X.w) a (kV_is ry)) ⟨vs, dd, by rw [← rel.length]; exact z, by rw [← (rel.val k).isSome_eq]; exact l, fun h' dd' hs => h _ ?_⟩)
  have he : ∃ q, h'.get? a = some q := let ⟨q, _, _, hq, _⟩ := dd'; ⟨q, hq⟩
  exact d_write I (by rw [e]; exact True.intro) hs he (dk_new (Nat.le_trans (dropK_le kvs k) z) hd (rel.drop k) dd')
/-- d.pop(k[, x]), there -/
theorem d_pop {v : V} {more : List Value} {Q : Value → Shared → Prop} (I : Inv X pins σ H s) (e : H a = some (.dK kvs)) (ry : RelV (kV k) u) (l : valV kvs k = some v) (hm : more = [] ∨ ∃ x, more = [x])
    (h : ∀ w' s', Inv X pins σ (upd H a (.dK (dropK kvs k))) s' → RelV v w' → Q w' s') : wpAny (model X.prog X.w) A (call (.builtin "dict.pop") (.ref a :: u :: more)) Q E s := by
  obtain ⟨z, hd, vs, rel, dd⟩ := dk_of I.hok e
  obtain ⟨w', hw, rw'⟩ := RelO.some_of (v := v) (o := valueAt vs k) (by rw [← l]; exact rel.val k)
  have hp : (keyPart u).isSome = true := by
    cases k with
    | inl i => obtain ⟨t, q⟩ := (show ∃ t, u = Value.int i t from ry); subst q; rfl
    | inr x => obtain ⟨t, q⟩ := (show ∃ t, u = Value.str x t from ry); subst q; rfl
  have ha : argsOk "dict.pop" ⟨.ref a :: u :: more, []⟩ := by
    rcases hm with q | ⟨x, q⟩
    · subst q; exact PySem.F.args_dict_pop_2 _ _
    · subst q; exact PySem.F.args_dict_pop_3 _ _ _
  refine call_meetsIn PySem.F.slot_dict_pop dd.typeIs PySem.F.entry_dict_pop ha (meets_dict_pop_there (mixKind X.prog X.w) a (kV_is ry) more hm hp)
    ⟨vs, w', dd, by rw [← rel.length]; exact z, hw, fun h' dd' hs => h w' _ ?_ rw'⟩
  have he : ∃ q, h'.get? a = some q := let ⟨q, _, _, hq, _⟩ := dd'; ⟨q, hq⟩
  exact d_write I (by rw [e]; exact True.intro) hs he (dk_new (Nat.le_trans (dropK_le kvs k) z) hd (rel.drop k) dd')
/-- d.pop(k, x), not there -/
theorem d_popD {r : Value} {Q : Value → Shared → Prop} (I : Inv X pins σ H s) (e : H a = some (.dK kvs)) (ry : RelV (kV k) u) (l : valV kvs k = none) (h : ∀ s', Inv X pins σ H s' → Q r s') :
    wpAny (model X.prog X.w) A (call (.builtin "dict.pop") [.ref a, u, r]) Q E s := by
  obtain ⟨z, hd, vs, rel, dd⟩ := dk_of I.hok e
  have hn : valueAt vs k = none := RelO.none_of (by rw [← l]; exact rel.val k)
  have hp : (keyPart u).isSome = true := by
    cases k with
    | inl i => obtain ⟨t, q⟩ := (show ∃ t, u = Value.int i t from ry); subst q; rfl
    | inr x => obtain ⟨t, q⟩ := (show ∃ t, u = Value.str x t from ry); subst q; rfl
  exact call_meetsIn PySem.F.slot_dict_pop dd.typeIs PySem.F.entry_dict_pop (PySem.F.args_dict_pop_3 _ _ _) (meets_dict_pop_default (mixKind X.prog X.w) a (kV_is ry) hd hp r) ⟨vs, dd, hn, h _ (I.tok _)⟩
/-- d.clear() -/
theorem d_clear {Q : Value → Shared → Prop} (I : Inv X pins σ H s) (e : H a = some (.dK kvs)) (h : ∀ s', Inv X pins σ (upd H a (.dK [])) s' → Q .none s') : wpAny (model X.prog X.w) A (call (.builtin "dict.clear") [.ref a]) Q E s := by
  obtain ⟨z, hd, vs, rel, dd⟩ := dk_of I.hok e
  refine call_meetsIn PySem.F.slot_dict_clear dd.typeIs PySem.F.entry_dict_clear (PySem.F.args_dict_clear_1 _) (meets_dict_clear (mixKind X.prog X.w) a) ⟨vs, dd, by rw [← rel.length]; exact z, fun h' dd' hs => h _ ?_⟩
  have he : ∃ q, h'.get? a = some q := let ⟨q, _, _, hq, _⟩ := dd'; ⟨q, hq⟩
  exact d_write (t' := s.toks) I (by rw [e]; exact True.intro) hs he (dk_new (Nat.zero_le _) hd .nil dd')
/-- len(d) -/
theorem d_len {Q : Value → Shared → Prop} (I : Inv X pins σ H s) (e : Rd H a (.dK kvs)) (h : ∀ t s', Inv X pins σ H s' → Q (.int kvs.length t) s') : wpAny (model X.prog X.w) A (call (.builtin "len") [.ref a]) Q E s := by
  obtain ⟨z, hd, vs, rel, dd⟩ := dk_rd I.hok e
  refine call_len_dict hd dd (by rw [← rel.length]; rw [sizeLine_eq] at z; omega) ?_
  rw [← rel.length]
  exact h _ _ (I.tok _)
/-- if d -/
theorem d_truth {Q : Bool → Shared → Prop} (I : Inv X pins σ H s) (e : Rd H a (.dK kvs)) (h : ∀ s', Inv X pins σ H s' → Q (!kvs.isEmpty) s') : wpAny (model X.prog X.w) A (truthy (.ref a)) Q E s := by
  obtain ⟨z, hd, vs, rel, dd⟩ := dk_rd I.hok e
  refine wpAny_truthy_dict hd dd (by rw [← rel.length]; rw [sizeLine_eq] at z; omega) ?_
  have q : kvs.isEmpty = vs.isEmpty := by cases rel <;> rfl
  rw [← q]
  exact h _ (I.tok _)
end


/-! ### readings and rules -/
/-- the element of a subscription, not a slice -/
def NoSl (i : Expr) : Prop := ∀ ov iv, subscripted i false ov iv = operate [ov, iv] (getItem ov iv)
theorem subD_of {prog : Program} {w : World} {A : Around} {E : Value → Shared → Prop} {s : Shared} {env : Env} {value slice : Expr} {pos : Pos} {T id : String} {Q : Value → Shared → Prop}
    (hl : typeLookup (.type T) "__getitem__" = pure (some (.builtin id))) (hs : NoSl slice)
    (h : wpAny (model prog w) A (eval value env) (fun o s₁ => wpAny (model prog w) A (eval slice env) (fun i s₂ => s₂.TypeIs o T ∧ wpAny (model prog w) A (getItem o i) Q E s₂) E s₁) E s) :
    wpAny (model prog w) A (eval (.Subscript value slice pos) env) Q E s := by
  refine Subscript_ (wpAny_mono h (fun o s₁ h₁ => wpAny_mono h₁ (fun i s₂ h₂ => ?_) fun _ _ x => x) fun _ _ x => x)
  obtain ⟨hT, h₂⟩ := h₂
  unfold subscriptTail
  refine wpAny_bind ?_
  rw [getitemInPython_of_ne hT.not_modules]
  refine wpAny_bind (wpAny_specialOf hT hl ?_)
  have fin : wpAny (model prog w) A (subscripted slice false o i) (fun r s₃ => wpAny (model prog w) A (letTemporaryGo value o r >>= fun _ => pure r) Q E s₃) E s₂ := by
    rw [hs o i]
    exact wpAny_operating (wpAny_mono h₂ (fun r s₃ h₃ => wpAny_bind (wpAny_letTemporaryGo (wpAny_pure h₃))) fun _ _ x => x)
  first
    | exact wpAny_pure (wpAny_bind fin)
    | exact wpAny_bind (wpAny_pure (wpAny_bind fin))
    | exact wpAny_bind fin

theorem dict_typeIs {X : Cx} {pins : List (Addr × Obj)} {σ : St} {H : Hp} {s : Shared} {a : Addr} {y : V} {o : Option V} (I : Inv X pins σ H s) (g : DGet H a y o) : s.TypeIs (.ref a) "dict" := by
  rcases g with ⟨kvs, k, e, _, _⟩ | ⟨kvs, k, b, e, _, _, _⟩
  · obtain ⟨_, _, vs, _, dd⟩ := dk_rd I.hok e
    exact dd.typeIs
  · obtain ⟨_, _, xs, _, dd⟩ := dt_rd I.hok e
    exact dd.typeIs
theorem dict_noDict {X : Cx} {pins : List (Addr × Obj)} {σ : St} {H : Hp} {s : Shared} {a : Addr} {y : V} {o : Option V} (I : Inv X pins σ H s) (g : DGet H a y o) :
    ∀ b, Value.ref a = .ref b → ∃ ob, s.heap.get? b = some ob ∧ ob.dict = none := fun b q => by
  cases q
  rcases g with ⟨kvs, k, e, _, _⟩ | ⟨kvs, k, b, e, _, _, _⟩
  · obtain ⟨_, _, vs, _, ob, _, _, h1, h2, _⟩ := dk_rd I.hok e
    exact ⟨ob, h1, h2.2.1⟩
  · obtain ⟨_, _, xs, _, ob, _, _, h1, h2, _⟩ := dt_rd I.hok e
    exact ⟨ob, h1, h2.2.1⟩

/-- d[y] -/
def tDGet (td ty : TE) : TE := fun σ H Q => td σ H fun x H1 => ty σ H1 fun y H2 => ∃ a v, x = .ref a ∧ DGet H2 a y (some v) ∧ Q v H2
/-- y in d, y not in d -/
def tDIn (ty td : TE) : TE := fun σ H Q => ty σ H fun y H1 => td σ H1 fun x H2 => ∃ a o, x = .ref a ∧ DGet H2 a y o ∧ Q (.bl o.isSome) H2
def tDNotIn (ty td : TE) : TE := fun σ H Q => ty σ H fun y H1 => td σ H1 fun x H2 => ∃ a o, x = .ref a ∧ DGet H2 a y o ∧ Q (.bl (!o.isSome)) H2
/-- d[y] = v -/
def sDPut (td ty tv : TE) : TS := fun D σ H => tv σ H fun v H1 => td σ H1 fun x H2 => ty σ H2 fun y H3 => ∃ a H4, x = .ref a ∧ DPut H3 a y v H4 ∧ D.nx σ H4
/-- d[y] op= v -/
def sDAug (td ty tv : TE) (rd : V → V → Hp → VK → Prop) : TS := fun D σ H => td σ H fun x H1 => ty σ H1 fun y H2 => ∃ a v, x = .ref a ∧ DGet H2 a y (some v) ∧
  tv σ H2 fun y2 H3 => rd v y2 H3 fun z H4 => ∃ H5, DPut H4 a y z H5 ∧ D.nx σ H5
/-- del d[y] -/
def sDDel (td ty : TE) : TS := fun D σ H => td σ H fun x H1 => ty σ H1 fun y H2 => ∃ a kvs k, x = .ref a ∧ H2 a = some (.dK kvs) ∧ y = kV k ∧ (valV kvs k).isSome = true ∧ D.nx σ (upd H2 a (.dK (dropK kvs k)))

section
variable {X : Cx} {o i e value : Expr} {pos pos' tpos : Pos} {td ty tv : TE}
theorem pe_dget (hu : X.A.units + 1 < cLine) (ho : PE X o td) (hi : PE X i ty) (hs : NoSl i) : PE X (.Subscript o i pos) (tDGet td ty) := by
  intro pins s σ H Q I h
  refine subD_of PySem.F.slot_dict_getitem.lookup hs (thn (ho pins s σ H _ I h) fun u s1 ⟨x, H1, I1, rx, q1⟩ => thn (hi pins s1 σ H1 _ I1 q1) fun iv s2 ⟨y, H2, I2, ry, a, v, ex, g, q2⟩ => ?_)
  subst ex
  obtain rfl : u = Value.ref a := rx
  exact ⟨dict_typeIs I2 g, d_getItem hu I2 g ry fun w' s3 I3 rw' => ⟨v, H2, I3, rw', q2⟩⟩
theorem pc_din (hu : X.A.units + 1 < cLine) (hi : PE X i ty) (ho : PE X o td) : PC X .In i o (tDIn ty td) := by
  intro pins s σ H Q I h
  refine thn (hi pins s σ H _ I h) fun iv s1 ⟨y, H1, I1, ry, q1⟩ => thn (ho pins s1 σ H1 _ I1 q1) fun u s2 ⟨x, H2, I2, rx, a, ov, ex, g, q2⟩ => ?_
  subst ex
  obtain rfl : u = Value.ref a := rx
  exact d_in hu I2 g ry fun s3 I3 => ⟨.bl ov.isSome, H2, I3, rfl, q2⟩
theorem pc_dnotin (hu : X.A.units + 1 < cLine) (hi : PE X i ty) (ho : PE X o td) : PC X .NotIn i o (tDNotIn ty td) := by
  intro pins s σ H Q I h
  refine thn (hi pins s σ H _ I h) fun iv s1 ⟨y, H1, I1, ry, q1⟩ => thn (ho pins s1 σ H1 _ I1 q1) fun u s2 ⟨x, H2, I2, rx, a, ov, ex, g, q2⟩ => ?_
  subst ex
  obtain rfl : u = Value.ref a := rx
  exact d_notIn hu I2 g ry fun s3 I3 => ⟨.bl (!ov.isSome), H2, I3, rfl, q2⟩
theorem ps_dput (hu : X.A.units + 1 < cLine) (ho : PE X o td) (hi : PE X i ty) (hv : PE X value tv) (hs : swapsWith value (some (.Subscript o i pos')) pos.line X.env = pure false) :
    PS X (.Assign [.Subscript o i pos'] value pos) (sDPut td ty tv) := by
  intro pins s σ H D I h
  refine wpAny_Assign_Subscript (thn (hv pins s σ H _ I h) fun r s1 ⟨v, H1, I1, rv, q1⟩ => thn (ho pins s1 σ H1 _ I1 q1) fun u s2 ⟨x, H2, I2, rx, q2⟩ => thn (hi pins s2 σ H2 _ I2 q2) fun iv s3 ⟨y, H3, I3, ry, a, H4, ex, g, q3⟩ => ?_) hs
  subst ex
  obtain rfl : u = Value.ref a := rx
  exact d_setItem hu I3 g ry rv fun s4 I4 => ⟨σ, H4, I4, q3⟩
theorem ps_daug {op : Operator} {rd : V → V → Hp → VK → Prop} (hu : X.A.units + 1 < cLine) (ho : PE X o td) (hi : PE X i ty) (hv : PE X value tv) (hop : InOp X op rd)
    (ha : ∀ ov iv new, augStore i ov iv new = (do holding [new, ov, iv] (setItem ov iv new); release [new, ov, iv] []; pure .next)) : PS X (.AugAssign (.Subscript o i tpos) op value pos) (sDAug td ty tv rd) := by
  intro pins s σ H D I h
  refine wpAny_AugAssign_SubscriptAny (thn (ho pins s σ H _ I h) fun u s1 ⟨x, H1, I1, rx, q1⟩ => thn (hi pins s1 σ H1 _ I1 q1) fun iv s2 ⟨y, H2, I2, ry, a, v, ex, g, q2⟩ => ?_) ha
  subst ex
  obtain rfl : u = Value.ref a := rx
  refine d_getItem hu I2 g ry fun w' s3 I3 rw' => thn (hv pins s3 σ H2 _ I3 q2) fun w2 s4 ⟨y2, H3, I4, ry2, q3⟩ => thn (hop pins s4 σ H3 v y2 w' w2 _ I4 rw' ry2 q3) fun w3 s5 ⟨z, H4, I5, rz, H5, g5, q4⟩ => ?_
  exact d_setItem hu I5 g5 ry rz fun s6 I6 => ⟨σ, H5, I6, q4⟩
theorem ps_ddel (ho : PE X o td) (hi : PE X i ty) : PS X (.Delete [.Subscript o i tpos] pos) (sDDel td ty) := by
  intro pins s σ H D I h
  refine wpAny_Delete (wpAny_deleteEach_cons (wpAny_delete_Subscript (thn (ho pins s σ H _ I h) fun u s1 ⟨x, H1, I1, rx, q1⟩ => thn (hi pins s1 σ H1 _ I1 q1) fun iv s2 ⟨y, H2, I2, ry, a, kvs, k, ex, e, ey, l, q2⟩ => ?_)))
  subst ex ey
  obtain rfl : u = Value.ref a := rx
  exact d_delItem I2 e ry l fun s3 I3 => wpAny_deleteEach_nil ⟨σ, _, I3, q2⟩
end


/-! ### displays -/
theorem dk_empty {P : Program} {w : World} {H : Hp} (h : Heap) (hb : sysModules < h.objs.size) : ObjOk P w H (h.push { cls := .type "dict", data := .dict #[] }) h.objs.size (.dK []) :=
  ⟨Nat.zero_le _, beq_eq_false_iff_ne.mpr (Ne.symm (Nat.ne_of_lt hb)), [], .nil, Heap.DictOf.new h⟩
theorem dt_empty {P : Program} {w : World} {H : Hp} (h : Heap) (hb : sysModules < h.objs.size) : ObjOk P w H (h.push { cls := .type "dict", data := .dict #[] }) h.objs.size (.dT []) :=
  ⟨Nat.zero_le _, beq_eq_false_iff_ne.mpr (Ne.symm (Nat.ne_of_lt hb)), [], .nil, _, #[], 0, Heap.get?_push_size _ rfl, ⟨rfl, rfl, rfl⟩, rfl, rfl, List.nodup_nil⟩
/-- {}, to be a dict of the kind that is wanted -/
def tDNewK : TE := fun _ H Q => ∀ p, H p = none → Q (.ref p) (upd H p (.dK []))
def tDNewT : TE := fun _ H Q => ∀ p, H p = none → Q (.ref p) (upd H p (.dT []))
section
variable {X : Cx} {pos : Pos}
theorem pe_dnewK : PE X (.Dict [] [] pos) tDNewK := fun pins s σ H Q I h =>
  wpAny_Dict_empty ⟨.ref s.heap.objs.size, _, I.laid (a := s.heap.objs.size) (o := .dK []) (t' := s.toks) (fun _ _ q => Heap.get?_push_of_some _ q) (Nat.le_refl _) (dk_empty s.heap I.big), rfl, h _ (I.hok.fresh (Nat.le_refl _))⟩
theorem pe_dnewT : PE X (.Dict [] [] pos) tDNewT := fun pins s σ H Q I h =>
  wpAny_Dict_empty ⟨.ref s.heap.objs.size, _, I.laid (a := s.heap.objs.size) (o := .dT []) (t' := s.toks) (fun _ _ q => Heap.get?_push_of_some _ q) (Nat.le_refl _) (dt_empty s.heap I.big), rfl, h _ (I.hok.fresh (Nat.le_refl _))⟩
end

/-- the pairs of a display, from the left -/
def tPairs : List (TE × TE) → St → Hp → (List (V × V) → Hp → Prop) → Prop
  | [], _, H, Q => Q [] H
  | (tk, tv) :: r, σ, H, Q => tk σ H fun x H1 => tv σ H1 fun y H2 => tPairs r σ H2 fun ps H3 => Q ((x, y) :: ps) H3
abbrev VV : List (V × V) → List (Value × Value) → Prop := Paired fun p q => RelV p.1 q.1 ∧ RelV p.2 q.2
def PPs (X : Cx) (pos : Pos) (keys : List (Option Expr)) (values : List Expr) (trs : List (TE × TE)) : Prop :=
  ∀ (pins : List (Addr × Obj)) (s : Shared) (σ : St) (H : Hp) (Q : List (V × V) → Hp → Prop), Inv X pins σ H s → tPairs trs σ H Q →
    wpAny (model X.prog X.w) X.A (evalPairs (pairTrees keys values X.env pos)) (fun vs s' => ∃ ps H', Inv X pins σ H' s' ∧ VV ps vs ∧ Q ps H') X.xe s
theorem pps_nil {X : Cx} {pos : Pos} : PPs X pos [] [] [] := fun pins s σ H Q I h => pairTrees_nil_walk ⟨[], H, I, .nil, h⟩
theorem pps_cons {X : Cx} {pos : Pos} {k v : Expr} {ks : List (Option Expr)} {vs : List Expr} {tk tv : TE} {trs : List (TE × TE)} (hk : PE X k tk) (hv : PE X v tv) (hr : PPs X pos ks vs trs) :
    PPs X pos (some k :: ks) (v :: vs) ((tk, tv) :: trs) := fun pins s σ H Q I h =>
  pairTrees_cons_walk (thn (hk pins s σ H _ I h) fun u s1 ⟨x, H1, I1, rx, q1⟩ => thn (hv pins s1 σ H1 _ I1 q1) fun w2 s2 ⟨y, H2, I2, ry, q2⟩ =>
    thn (hr pins s2 σ H2 _ I2 q2) fun ws s3 ⟨ps, H3, I3, rel, q3⟩ => ⟨(x, y) :: ps, H3, I3, .cons ⟨rx, ry⟩ rel, q3⟩)

def mergeK (kvs more : List (Key × V)) : List (Key × V) := more.foldl (fun acc kv => putK acc kv.1 kv.2) kvs
theorem KV.merge : ∀ {more : List (Key × V)} {rs : List (Key × Value)} {kvs : List (Key × V)} {vs : List (Key × Value)}, KV more rs → KV kvs vs → KV (mergeK kvs more) (merged vs rs) := by
  intro more rs kvs vs r
  unfold KV at r
  induction r generalizing kvs vs with
  | nil => intro q; exact q
  | @cons p q ps qs h t ih =>
    intro r0
    have e : KV (putK kvs p.1 p.2) (stored vs q.1 q.2) := by
      have := r0.put p.1 h.2
      rw [← h.1]; exact this
    exact ih e
theorem length_mergeK : ∀ (more kvs : List (Key × V)), (mergeK kvs more).length ≤ kvs.length + more.length
  | [], kvs => by show kvs.length ≤ kvs.length + 0; omega
  | p :: r, kvs => by
    have h1 := length_mergeK r (putK kvs p.1 p.2)
    have h2 := length_putK kvs p.1 p.2
    show (mergeK (putK kvs p.1 p.2) r).length ≤ _
    rw [List.length_cons]; omega
theorem carries_of {P : Program} {w : World} : ∀ {kvs : List (Key × V)} {ws : List (Value × Value)}, VV (kvs.map fun kv => (kV kv.1, kv.2)) ws → ∃ rs, Carries (mixKind P w) ws rs ∧ KV kvs rs
  | [], _, r => by rw [List.map_nil] at r; cases r; exact ⟨[], True.intro, .nil⟩
  | p :: kvs, _, r => by
    rw [List.map_cons] at r
    cases r with
    | @cons a b as bs h t =>
      obtain ⟨rs, c, q⟩ := carries_of (P := P) (w := w) t
      obtain ⟨b1, b2⟩ := b
      exact ⟨(p.1, b2) :: rs, ⟨kV_is h.1, rfl, c⟩, .cons ⟨rfl, h.2⟩ q⟩
/-- {k: v, ..} with keys ints and texts; the new dict stands empty while the pairs are made -/
def tDisp (trs : List (TE × TE)) : TE := fun σ H Q => ∀ p, H p = none → tPairs trs σ (upd H p (.dK [])) fun ps H2 => H2 p = some (.dK []) ∧ ∃ kvs : List (Key × V), ps = kvs.map (fun kv => (kV kv.1, kv.2)) ∧ kvs.length ≤ 15 ∧ Q (.ref p) (upd H2 p (.dK (mergeK [] kvs)))
theorem pe_disp {X : Cx} {pos : Pos} {keys : List (Option Expr)} {values : List Expr} {trs : List (TE × TE)} (h : PPs X pos keys values trs) (hall : keys.all (·.isSome) = true) (hl : keys.length = values.length) (h0 : keys ≠ [])
    (h15 : keys.length ≤ 15) : PE X (.Dict keys values pos) (tDisp trs) := by
  intro pins s σ H Q I q
  have hn := I.hok.fresh (Nat.le_refl s.heap.objs.size)
  have I1 := I.laid (a := s.heap.objs.size) (o := .dK []) (h' := s.heap.push { cls := .type "dict", data := .dict #[] }) (t' := s.toks) (fun _ _ q => Heap.get?_push_of_some _ q) (Nat.le_refl _) (dk_empty s.heap I.big)
  refine wpAny_Dict_walk (knd := mixKind X.prog X.w) hall hl h0 h15 (thn (h pins _ σ _ _ I1 (q _ hn)) fun ws s2 ⟨ps, H2, I2, rel, e, kvs, ep, lk, q2⟩ => ?_)
  subst ep
  obtain ⟨rs, c, rk⟩ := carries_of (P := X.prog) (w := X.w) rel
  obtain ⟨z, hd, vs0, r0, dd⟩ := dk_of I2.hok e
  cases r0
  refine ⟨rs, c, dd, fun h' dd' hs => ⟨.ref s.heap.objs.size, _, ?_, rfl, q2⟩⟩
  have hz : (mergeK [] kvs).length ≤ sizeLine := by
    have h1 := length_mergeK kvs []
    rw [List.length_nil] at h1
    rw [sizeLine_eq]; omega
  have he : ∃ q, h'.get? s.heap.objs.size = some q := let ⟨q, _, _, hq, _⟩ := dd'; ⟨q, hq⟩
  exact d_write I2 (by rw [e]; exact True.intro) hs he (dk_new hz hd (rk.merge .nil) dd')


/-! ### methods -/
/-- a method call o.m(e) of a built-in, with one argument: what must be seen of the text -/
structure M1 (X : Cx) (o : Expr) (m : Str) (apos : Pos) (e : Expr) (cpos : Pos) : Prop where
  base : attributeBase o m X.env (eval o X.env) = eval o X.env
  few : ((backTo cpos (starEach [e] X.env)).all (fun x => !x.1) && (backToKw cpos (keywordEach [] X.env)).all (fun x => x.1.isSome)
    && decide (([e] : List Expr).length + ([] : List Keyword).length + (if ([] : List Keyword).isEmpty then 0 else 1) < 30)) = true
  line : (apos.endLine == cpos.line) = true
  trees : backTo cpos (starEach [e] X.env) = [(false, eval e X.env)]
structure M2 (X : Cx) (o : Expr) (m : Str) (apos : Pos) (e f : Expr) (cpos : Pos) : Prop where
  base : attributeBase o m X.env (eval o X.env) = eval o X.env
  few : ((backTo cpos (starEach [e, f] X.env)).all (fun x => !x.1) && (backToKw cpos (keywordEach [] X.env)).all (fun x => x.1.isSome)
    && decide (([e, f] : List Expr).length + ([] : List Keyword).length + (if ([] : List Keyword).isEmpty then 0 else 1) < 30)) = true
  line : (apos.endLine == cpos.line) = true
  trees : backTo cpos (starEach [e, f] X.env) = [(false, eval e X.env), (false, eval f X.env)]

/-- a is a dict, whatever its keys -/
def IsD (H : Hp) (a : Addr) : Prop := (∃ kvs, Rd H a (.dK kvs)) ∨ ∃ kvs, Rd H a (.dT kvs)
theorem isD_at {X : Cx} {pins : List (Addr × Obj)} {σ : St} {H : Hp} {s : Shared} {a : Addr} (I : Inv X pins σ H s) (d : IsD H a) :
    s.TypeIs (.ref a) "dict" ∧ (∀ b, Value.ref a = .ref b → ∃ ob, s.heap.get? b = some ob ∧ ob.dict = none) ∧ (a == sysModules) = false := by
  rcases d with ⟨kvs, e⟩ | ⟨kvs, e⟩
  · obtain ⟨_, hd, vs, _, dd⟩ := dk_rd I.hok e
    refine ⟨dd.typeIs, fun b q => ?_, hd⟩
    cases q
    obtain ⟨ob, _, _, h1, h2, _⟩ := dd
    exact ⟨ob, h1, h2.2.1⟩
  · obtain ⟨_, hd, xs, _, dd⟩ := dt_rd I.hok e
    refine ⟨dd.typeIs, fun b q => ?_, hd⟩
    cases q
    obtain ⟨ob, _, _, h1, h2, _⟩ := dd
    exact ⟨ob, h1, h2.2.1⟩

section
variable {X : Cx} {pins : List (Addr × Obj)} {σ : St} {H : Hp} {s : Shared} {a : Addr} {y d : V} {u r : Value} {o : Option V} {A : Around} {E : Value → Shared → Prop}
/-- d.get(y) -/
theorem d_get1 {Q : Value → Shared → Prop} (hu : A.units + 1 < cLine) (I : Inv X pins σ H s) (g : DGet H a y o) (ry : RelV y u) (h : ∀ w' s', Inv X pins σ H s' → RelV (o.getD .non) w' → Q w' s') :
    wpAny (model X.prog X.w) A (call (.builtin "dict.get") [.ref a, u]) Q E s := by
  rcases g with ⟨kvs, k, e, ey, l⟩ | ⟨kvs, k, b, e, ey, eb, l⟩
  · subst ey
    obtain ⟨z, hd, vs, rel, dd⟩ := dk_rd I.hok e
    refine call_meetsIn PySem.F.slot_dict_get dd.typeIs PySem.F.entry_dict_get (PySem.F.args_dict_get_2 _ _) (meets_dict_get (mixKind X.prog X.w) a (kV_is ry) hd) ⟨_, dd.mapOf, h _ _ (I.tok _) ?_⟩
    rw [l]
    exact (rel.val k).getD rfl
  · subst ey
    cases (show u = Value.ref b from ry)
    obtain ⟨z, hd, xs, rel, dd⟩ := dt_rd I.hok e
    refine call_meetsIn PySem.F.slot_dict_get dd.typeIs PySem.F.entry_dict_get (PySem.F.args_dict_get_2 _ _) (meetsH_dict_get (tupleKind (mixKind X.prog X.w)) a b hd) ⟨tupleKind_room_in1 hu, k, xs, key_of I.hok eb, dd, h _ _ (I.tok _) ?_⟩
    rw [l]
    exact (rel.val k).getD rfl
/-- d.get(y, x) -/
theorem d_get2 {Q : Value → Shared → Prop} (hu : A.units + 1 < cLine) (I : Inv X pins σ H s) (g : DGet H a y o) (ry : RelV y u) (rd : RelV d r) (h : ∀ w' s', Inv X pins σ H s' → RelV (o.getD d) w' → Q w' s') :
    wpAny (model X.prog X.w) A (call (.builtin "dict.get") [.ref a, u, r]) Q E s := by
  rcases g with ⟨kvs, k, e, ey, l⟩ | ⟨kvs, k, b, e, ey, eb, l⟩
  · subst ey
    obtain ⟨z, hd, vs, rel, dd⟩ := dk_rd I.hok e
    refine call_meetsIn PySem.F.slot_dict_get dd.typeIs PySem.F.entry_dict_get (PySem.F.args_dict_get_3 _ _ _) (meets_dict_get_default (mixKind X.prog X.w) a (kV_is ry) hd r) ⟨_, dd.mapOf, h _ _ (I.tok _) ?_⟩
    rw [l]
    exact (rel.val k).getD rd
  · subst ey
    cases (show u = Value.ref b from ry)
    obtain ⟨z, hd, xs, rel, dd⟩ := dt_rd I.hok e
    refine call_meetsIn PySem.F.slot_dict_get dd.typeIs PySem.F.entry_dict_get (PySem.F.args_dict_get_3 _ _ _) (meetsH_dict_get_default (tupleKind (mixKind X.prog X.w)) a b hd r) ⟨tupleKind_room_in1 hu, k, xs, key_of I.hok eb, dd, h _ _ (I.tok _) ?_⟩
    rw [l]
    exact (rel.val k).getD rd
end

def tDGet1 (td ty : TE) : TE := fun σ H Q => td σ H fun x H1 => ∃ a, x = .ref a ∧ IsD H1 a ∧ ty σ H1 fun y H2 => ∃ o, DGet H2 a y o ∧ Q (o.getD .non) H2
def tDGet2 (td ty tx : TE) : TE := fun σ H Q => td σ H fun x H1 => ∃ a, x = .ref a ∧ IsD H1 a ∧ ty σ H1 fun y H2 => tx σ H2 fun z H3 => ∃ o, DGet H3 a y o ∧ Q (o.getD z) H3
/-- d.pop(k): there; d.pop(k, x): there or not -/
def tDPop1 (td ty : TE) : TE := fun σ H Q => td σ H fun x H1 => ∃ a, x = .ref a ∧ IsD H1 a ∧ ty σ H1 fun y H2 => ∃ kvs k v, H2 a = some (.dK kvs) ∧ y = kV k ∧ valV kvs k = some v ∧ Q v (upd H2 a (.dK (dropK kvs k)))
def tDPop2 (td ty tx : TE) : TE := fun σ H Q => td σ H fun x H1 => ∃ a, x = .ref a ∧ IsD H1 a ∧ ty σ H1 fun y H2 => tx σ H2 fun z H3 => ∃ kvs k, H3 a = some (.dK kvs) ∧ y = kV k ∧
  (∀ v, valV kvs k = some v → Q v (upd H3 a (.dK (dropK kvs k)))) ∧ (valV kvs k = none → Q z H3)
section
variable {X : Cx} {o e f : Expr} {apos cpos : Pos} {td ty tx : TE}
theorem pe_dget1 (hu : X.A.units + 1 < cLine) (ho : PE X o td) (he : PE X e ty) (m : M1 X o "get" apos e cpos) : PE X (.Call (.Attribute o "get" apos) [e] [] cpos) (tDGet1 td ty) := by
  intro pins s σ H Q I h
  refine wpAny_Call_method m.base m.few m.line PySem.F.plainAttrs_dict PySem.F.slot_dict_get PySem.F.type_dict_get (thn (ho pins s σ H _ I h) fun u s1 ⟨x, H1, I1, rx, a, ex, d, q1⟩ => ?_)
  subst ex
  obtain rfl : u = Value.ref a := rx
  obtain ⟨t1, t2, _⟩ := isD_at I1 d
  refine ⟨t1, t2, ?_⟩
  rw [m.trees]
  refine Calls.callWith_builtin rfl (Calls.evalArgs_plain (Calls.spliced_cons (thn (he pins s1 σ H1 _ I1 q1) fun iv s2 ⟨y, H2, I2, ry, ov, g, q2⟩ => Calls.spliced_nil ?_)))
  exact d_get1 hu I2 g ry fun w' s3 I3 rw' => ⟨_, H2, I3, rw', q2⟩
theorem pe_dget2 (hu : X.A.units + 1 < cLine) (ho : PE X o td) (he : PE X e ty) (hf : PE X f tx) (m : M2 X o "get" apos e f cpos) : PE X (.Call (.Attribute o "get" apos) [e, f] [] cpos) (tDGet2 td ty tx) := by
  intro pins s σ H Q I h
  refine wpAny_Call_method m.base m.few m.line PySem.F.plainAttrs_dict PySem.F.slot_dict_get PySem.F.type_dict_get (thn (ho pins s σ H _ I h) fun u s1 ⟨x, H1, I1, rx, a, ex, d, q1⟩ => ?_)
  subst ex
  obtain rfl : u = Value.ref a := rx
  obtain ⟨t1, t2, _⟩ := isD_at I1 d
  refine ⟨t1, t2, ?_⟩
  rw [m.trees]
  refine Calls.callWith_builtin rfl (Calls.evalArgs_plain (Calls.spliced_cons (thn (he pins s1 σ H1 _ I1 q1) fun iv s2 ⟨y, H2, I2, ry, q2⟩ =>
    Calls.spliced_cons (thn (hf pins s2 σ H2 _ I2 q2) fun fv s3 ⟨z, H3, I3, rz, ov, g, q3⟩ => Calls.spliced_nil ?_))))
  exact d_get2 hu I3 g ry rz fun w' s4 I4 rw' => ⟨_, H3, I4, rw', q3⟩
theorem pe_dpop1 (ho : PE X o td) (he : PE X e ty) (m : M1 X o "pop" apos e cpos) : PE X (.Call (.Attribute o "pop" apos) [e] [] cpos) (tDPop1 td ty) := by
  intro pins s σ H Q I h
  refine wpAny_Call_method m.base m.few m.line PySem.F.plainAttrs_dict PySem.F.slot_dict_pop PySem.F.type_dict_pop (thn (ho pins s σ H _ I h) fun u s1 ⟨x, H1, I1, rx, a, ex, d, q1⟩ => ?_)
  subst ex
  obtain rfl : u = Value.ref a := rx
  obtain ⟨t1, t2, _⟩ := isD_at I1 d
  refine ⟨t1, t2, ?_⟩
  rw [m.trees]
  refine Calls.callWith_builtin rfl (Calls.evalArgs_plain (Calls.spliced_cons (thn (he pins s1 σ H1 _ I1 q1) fun iv s2 ⟨y, H2, I2, ry, kvs, k, v, ea, ey, l, q2⟩ => Calls.spliced_nil ?_)))
  subst ey
  exact d_pop I2 ea ry l (.inl rfl) fun w' s3 I3 rw' => ⟨v, _, I3, rw', q2⟩
theorem pe_dpop2 (ho : PE X o td) (he : PE X e ty) (hf : PE X f tx) (m : M2 X o "pop" apos e f cpos) : PE X (.Call (.Attribute o "pop" apos) [e, f] [] cpos) (tDPop2 td ty tx) := by
  intro pins s σ H Q I h
  refine wpAny_Call_method m.base m.few m.line PySem.F.plainAttrs_dict PySem.F.slot_dict_pop PySem.F.type_dict_pop (thn (ho pins s σ H _ I h) fun u s1 ⟨x, H1, I1, rx, a, ex, d, q1⟩ => ?_)
  subst ex
  obtain rfl : u = Value.ref a := rx
  obtain ⟨t1, t2, _⟩ := isD_at I1 d
  refine ⟨t1, t2, ?_⟩
  rw [m.trees]
  refine Calls.callWith_builtin rfl (Calls.evalArgs_plain (Calls.spliced_cons (thn (he pins s1 σ H1 _ I1 q1) fun iv s2 ⟨y, H2, I2, ry, q2⟩ =>
    Calls.spliced_cons (thn (hf pins s2 σ H2 _ I2 q2) fun fv s3 ⟨z, H3, I3, rz, kvs, k, ea, ey, q3, q4⟩ => Calls.spliced_nil ?_))))
  subst ey
  cases l : valV kvs k with
  | some v => exact d_pop I3 ea ry l (.inr ⟨fv, rfl⟩) fun w' s4 I4 rw' => ⟨v, _, I4, rw', q3 v l⟩
  | none => exact d_popD I3 ea ry l fun s4 I4 => ⟨z, H3, I4, rz, q4 l⟩
end

/-! ### dict(d): a copy -/
section
variable {X : Cx} {pins : List (Addr × Obj)} {σ : St} {H : Hp} {s : Shared} {a : Addr} {kvs : List (Key × V)} {A : Around} {E : Value → Shared → Prop}
theorem d_copyOf {Q : Value → Shared → Prop} (I : Inv X pins σ H s) (e : Rd H a (.dK kvs)) (h : ∀ p s', H p = none → Inv X pins σ (upd H p (.dK kvs)) s' → Q (.ref p) s') : wpAny (model X.prog X.w) A (call (.type "dict") [.ref a]) Q E s := by
  obtain ⟨z, hd, vs, rel, dd⟩ := dk_rd I.hok e
  refine kt_call_dict hd dd (by rw [← rel.length]; exact z) fun h' dd' hs => ?_
  refine h _ _ (I.hok.fresh (Nat.le_refl _)) (I.laid (a := s.heap.objs.size) (o := .dK kvs) (t' := s.toks) (fun b q hq => ?_) (Nat.le_refl _) (dk_new z (beq_eq_false_iff_ne.mpr (Ne.symm (Nat.ne_of_lt I.big))) rel dd'))
  exact (hs.2 b (Nat.ne_of_lt (Heap.lt_size hq))).trans (Heap.get?_push_of_some _ hq)
end


section
variable {X : Cx} {pins : List (Addr × Obj)} {σ : St} {H : Hp} {s : Shared} {a : Addr} {y : V} {u : Value} {A : Around} {E : Value → Shared → Prop}
/-- d[y], not there: a KeyError -/
theorem d_missing {Q : Value → Shared → Prop} (hu : A.units + 1 < cLine) (hh : A.handled = none) (I : Inv X pins σ H s) (g : DGet H a y none) (ry : RelV y u)
    (h : ∀ h' e t', Heap.NewExc s.heap h' e "KeyError" → E (.ref e) { s with heap := h', toks := t' }) : wpAny (model X.prog X.w) A (getItem (.ref a) u) Q E s := by
  rcases g with ⟨kvs, k, e, ey, l⟩ | ⟨kvs, k, b, e, ey, eb, l⟩
  · subst ey
    obtain ⟨z, hd, vs, rel, dd⟩ := dk_rd I.hok e
    have hn : valueAt vs k = none := RelO.none_of (by rw [l]; exact rel.val k)
    exact wpAny_getItem_missing_of (kV_is ry) hd hh dd.mapOf hn fun h' ex ne => h h' ex _ ne
  · subst ey
    cases (show u = Value.ref b from ry)
    obtain ⟨z, hd, xs, rel, dd⟩ := dt_rd I.hok e
    have hn : (atKey xs k).map (·.2) = none := RelO.none_of (by rw [l]; exact rel.val k)
    exact wpAny_getItem_missing_heap (tupleKind_room_in1 hu) (key_of I.hok eb) hd hh dd (Option.map_eq_none_iff.mp hn) fun h' ex ne => h h' ex _ ne
end
end L2

namespace Att
open PySem PySem.W PySem.Calls PyProof.Rows

/-! ### the script -/
theorem ints_of_wellAll {P : Params} {h : Heap} : ∀ (ns : List Int) (vs : List Value), WellAll P h vs (ns.map WData.int) → IntsAre vs ns := by
  intro ns
  induction ns with
  | nil =>
    intro vs w
    rw [List.map_nil] at w
    cases w
    exact .nil
  | cons n ns ih =>
    intro vs w
    rw [List.map_cons] at w
    cases w with
    | cons a b =>
      cases a
      exact .cons _ _ (ih _ b)

theorem script_of {l : OpenLaw} {n : Nat} (hn : l.most = some n) {P : Params} {h : Heap} {args : List WData} {vals : List Value}
    (hpre : l.row.toRowW.claim.pre args = true) (hwl : WellAll P h vals args) :
    ∃ a vs ns, vals = [Value.ref a] ∧ args = [WData.list (ns.map WData.int)] ∧ h.get? a = some { cls := .type "list", data := .seq vs.toArray } ∧ IntsAre vs ns ∧ ns.length ≤ n := by
  have hsh : WShape.hasAll [] args [.list .int] = true := (pre_splitW hpre).1
  have hc : l.pre.holds [] { args := args } = true := (pre_splitW hpre).2
  obtain ⟨d, r, rfl, h1, h2⟩ := hasAllW_cons hsh
  obtain rfl := hasAllW_nil h2
  obtain ⟨xs, rfl, h3⟩ := hasW_list h1
  obtain ⟨ns, rfl⟩ := items_int h3
  have hlen : ns.length ≤ n := by
    unfold OpenLaw.pre at hc
    have h4 : (WTm.not (.lt (.lit (.int (n : Int))) (.len (.arg 0)))).holds [] { args := [.list (ns.map .int)] } = true := by
      have h4 := (holds_andW hc).1
      rw [hn] at h4
      exact h4
    have h5 := condW_of h4 (w_not (w_lt w_lit (w_len_list (w_arg rfl))))
    rw [List.length_map] at h5
    refine Nat.le_of_not_lt fun q => ?_
    have q' : (n : Int) < ((ns.length : Nat) : Int) := by omega
    first
      | (rw [decide_eq_true q'] at h5; exact absurd h5 (by decide))
      | (simp at h5; omega)
  cases hwl with
  | cons w1 w2 =>
    cases w2
    cases w1 with
    | list ho hall => exact ⟨_, _, ns, rfl, rfl, ho, ints_of_wellAll ns _ hall, hlen⟩

theorem post_true (l : OpenLaw) (args : List WData) : l.row.toRowW.claim.post args (.bool true) args = true :=
  postW_of (r := l.row.toRowW) (X := (true == true))
    (show WShape.has [] (.bool true) .bool = true by first | rfl | decide | simp [WShape.has, WShape.arms, WShape.armsAll])
    (show (WTm.eq .res (.lit (.bool true))).value [] { args := args, res := some (.bool true), after := args } = some (.bool (true == true)) from w_eq_bool (w_res rfl) w_lit) rfl

/-! ### the attachment: holds_open's last premise (the goal 'hc' behind k_head) from a wpAny of the law's body -/
theorem attach {l : OpenLaw} {n : Nat} {q : Program} {loose : List Str} {XP : (Str → Option Value) → Heap → Prop} {YP : World → Heap → Prop} {d : DefRec} {x : Str}
    (hn : l.most = some n) (hdf : d.params.defaults = [])
    (hbind : ∀ pm cd doc v : Value, bindArgs (docDef d.name d.params d.body d.scope pm cd doc) ⟨[v], []⟩ = pure [(x, v)])
    (hx : d.scope.names.lookup x = some .local ∨ d.scope.names.lookup x = some .cell)
    (hk : d.scope.kind = .function) (hco : d.scope.isCoroutine = false) (hgen : d.scope.isGenerator = false)
    (body : ∀ (w : World) (s₀ s₁ s : Shared) (mg mb : Str → Option Value) (fa : Addr) (o : Obj) (pm cd doc : Value) (a : Addr) (vs : List Value) (ns : List Int),
      Ground q loose [] XP w s₀ mg mb s₁.heap → YP w s₁.heap →
      s₁.heap.get? fa = some o → o.data = .func (docDef d.name d.params d.body d.scope pm cd doc) → s₁.heap.CodeRec cd d.name → mg d.name = some (.ref fa) →
      s₁.heap.get? a = some { cls := .type "list", data := .seq vs.toArray } → IntsAre vs ns → ns.length ≤ n →
      s.gens = #[] → s.os = s₁.os →
      Fr s₁.heap s₁.heap.objs.size s.heap (bindL (envOfC d.name d.scope s₁.heap.objs.size fa cd).kindOf [(x, .ref a)] fun _ => none) →
      Cl s₁.heap.objs.size (cellsFrom (s₁.heap.objs.size + 1) d.scope.names []) s.heap (bindC (envOfC d.name d.scope s₁.heap.objs.size fa cd).kindOf [(x, .ref a)] fun _ => none) →
      wpAny (model l.prog w) (callerA.deeper (envOfC d.name d.scope s₁.heap.objs.size fa cd)) (execs d.body (envOfC d.name d.scope s₁.heap.objs.size fa cd))
        (fun f s' => f = .ret (.bool true) ∧ OldK s₁.heap s'.heap ∧ s'.os = s₁.os ∧ AllBare s'.gens) (fun _ _ => False) s) :
    WalkO q loose XP YP l.row.toRowW d [] (fun f vs => PySem.call f vs) := by
  intro w s₀ s₁ mg mb G Y fa o pm cd doc dV kV ho hd hcd hD hmg hg args vals as hpre hlay hrd hwl hlo
  obtain rfl : dV = .none := Dflts.none hD hdf
  obtain rfl : kV = .none := Dflts.noKw hD
  obtain ⟨a, vs, ns, rfl, rfl, hobj, hints, hlen⟩ := script_of hn hpre hwl
  refine enter_call ?_
  refine call_cells_ret (o := o) (by rw [depth_caller]; decide) ho (fd_plain hd) G.T.nolimit hcd (hbind pm cd doc (.ref a)) (fun y hy => ?_) (fun h₁ tk F X => ?_) hco hgen hk
  · obtain rfl : y = (x, Value.ref a) := List.mem_singleton.mp hy
    rcases hx with e | e
    · exact .inl e
    · exact .inr ⟨e, cellsFrom_some _ _ _ (.inl e)⟩
  · refine wpAny_mono (body w s₀ s₁ { s₁ with heap := h₁, toks := tk } mg mb fa o pm cd doc a vs ns G Y ho (fd_plain hd) hcd hmg hobj hints hlen hg rfl F X) (fun f s' hq => ?_) (fun _ _ hq => hq)
    obtain ⟨rfl, h2, h3, h4⟩ := hq
    exact ⟨.inl ⟨.bool true, .bool true, [], rfl, fun _ => rfl, .bool true, post_true l _, fun _ => ⟨List.Pairwise.nil, fun _ hm => (nomatch hm)⟩⟩, h2, h3, h4⟩

/-- the same from a codeAny of the CALL (for a layer whose function contracts speak of calls) -/
theorem attach_call {l : OpenLaw} {n : Nat} {q : Program} {loose : List Str} {XP : (Str → Option Value) → Heap → Prop} {YP : World → Heap → Prop} {d : DefRec}
    (hn : l.most = some n) (hdf : d.params.defaults = [])
    (call : ∀ (w : World) (s₀ s₁ : Shared) (mg mb : Str → Option Value) (fa : Addr) (o : Obj) (pm cd doc : Value) (a : Addr) (vs : List Value) (ns : List Int),
      Ground q loose [] XP w s₀ mg mb s₁.heap → YP w s₁.heap →
      s₁.heap.get? fa = some o → o.data = .func (docDef d.name d.params d.body d.scope pm cd doc) → s₁.heap.CodeRec cd d.name → mg d.name = some (.ref fa) →
      s₁.heap.get? a = some { cls := .type "list", data := .seq vs.toArray } → IntsAre vs ns → ns.length ≤ n → s₁.gens = #[] →
      codeAny (model l.prog w) callerA (.call (.ref fa) ⟨[.ref a], []⟩) (fun r s' => r = .ok (.ret (.bool true)) ∧ OldK s₁.heap s'.heap ∧ s'.os = s₁.os ∧ AllBare s'.gens) s₁) :
    WalkO q loose XP YP l.row.toRowW d [] (fun f vs => PySem.call f vs) := by
  intro w s₀ s₁ mg mb G Y fa o pm cd doc dV kV ho hd hcd hD hmg hg args vals as hpre hlay hrd hwl hlo
  obtain rfl : dV = .none := Dflts.none hD hdf
  obtain rfl : kV = .none := Dflts.noKw hD
  obtain ⟨a, vs, ns, rfl, rfl, hobj, hints, hlen⟩ := script_of hn hpre hwl
  refine enter_call (codeAny_mono (call w s₀ s₁ mg mb fa o pm cd doc a vs ns G Y ho (fd_plain hd) hcd hmg hobj hints hlen hg) fun r s' hq => ?_)
  obtain ⟨rfl, h2, h3, h4⟩ := hq
  exact ⟨.inl ⟨.bool true, .bool true, [], rfl, fun _ => rfl, .bool true, post_true l _, fun _ => ⟨List.Pairwise.nil, fun _ hm => (nomatch hm)⟩⟩, h2, h3, h4⟩

/-- the same where the top left finished generators (o_head chose holds_openN): nothing may have changed at all and no generator may be left -/
theorem attachN {l : OpenLaw} {n : Nat} {q : Program} {loose : List Str} {XP : (Str → Option Value) → Heap → Prop} {YP : World → Heap → Prop} {d : DefRec} {x : Str}
    (hn : l.most = some n) (hdf : d.params.defaults = [])
    (hbind : ∀ pm cd doc v : Value, bindArgs (docDef d.name d.params d.body d.scope pm cd doc) ⟨[v], []⟩ = pure [(x, v)])
    (hx : d.scope.names.lookup x = some .local ∨ d.scope.names.lookup x = some .cell)
    (hk : d.scope.kind = .function) (hco : d.scope.isCoroutine = false) (hgen : d.scope.isGenerator = false)
    (body : ∀ (w : World) (s₀ s₁ s : Shared) (mg mb : Str → Option Value) (fa : Addr) (o : Obj) (pm cd doc : Value) (a : Addr) (vs : List Value) (ns : List Int),
      Ground q loose [] XP w s₀ mg mb s₁.heap → YP w s₁.heap →
      s₁.heap.get? fa = some o → o.data = .func (docDef d.name d.params d.body d.scope pm cd doc) → s₁.heap.CodeRec cd d.name → mg d.name = some (.ref fa) →
      s₁.heap.get? a = some { cls := .type "list", data := .seq vs.toArray } → IntsAre vs ns → ns.length ≤ n →
      s.gens = #[] → s.os = s₁.os →
      Fr s₁.heap s₁.heap.objs.size s.heap (bindL (envOfC d.name d.scope s₁.heap.objs.size fa cd).kindOf [(x, .ref a)] fun _ => none) →
      Cl s₁.heap.objs.size (cellsFrom (s₁.heap.objs.size + 1) d.scope.names []) s.heap (bindC (envOfC d.name d.scope s₁.heap.objs.size fa cd).kindOf [(x, .ref a)] fun _ => none) →
      wpAny (model l.prog w) (callerA.deeper (envOfC d.name d.scope s₁.heap.objs.size fa cd)) (execs d.body (envOfC d.name d.scope s₁.heap.objs.size fa cd))
        (fun f s' => f = .ret (.bool true) ∧ (∀ b o, s₁.heap.get? b = some o → s'.heap.get? b = some o) ∧ s'.os = s₁.os ∧ s'.gens = #[]) (fun _ _ => False) s) :
    WalkN q loose XP YP l.row.toRowW d [] (fun f vs => PySem.call f vs) := by
  intro w s₀ s₁ mg mb G Y fa o pm cd doc dV kV ho hd hcd hD hmg hg args vals as hpre hlay hrd hwl hlo
  obtain rfl : dV = .none := Dflts.none hD hdf
  obtain rfl : kV = .none := Dflts.noKw hD
  obtain ⟨a, vs, ns, rfl, rfl, hobj, hints, hlen⟩ := script_of hn hpre hwl
  refine enter_callW ?_
  refine call_cells_ret (o := o) (by rw [depth_caller]; decide) ho (fd_plain hd) G.T.nolimit hcd (hbind pm cd doc (.ref a)) (fun y hy => ?_) (fun h₁ tk F X => ?_) hco hgen hk
  · obtain rfl : y = (x, Value.ref a) := List.mem_singleton.mp hy
    rcases hx with e | e
    · exact .inl e
    · exact .inr ⟨e, cellsFrom_some _ _ _ (.inl e)⟩
  · refine wpAny_mono (body w s₀ s₁ { s₁ with heap := h₁, toks := tk } mg mb fa o pm cd doc a vs ns G Y ho (fd_plain hd) hcd hmg hobj hints hlen hg rfl F X) (fun f s' hq => ?_) (fun _ _ hq => hq)
    obtain ⟨rfl, h2, h3, h4⟩ := hq
    exact ⟨.inl ⟨.bool true, .bool true, [], rfl, fun _ => rfl, .bool true, post_true l _, fun _ => ⟨List.Pairwise.nil, fun _ hm => (nomatch hm)⟩⟩, h2, h3, h4⟩

/-! ### rules over ANY heap (no ledger) from facts about the written part K: the library's own take a ledger (News) for what they write -/
section
variable {prog : Program} {w : World} {A : Around} {E : Value → Shared → Prop} {s : Shared} {K : Frag}

/-- a def of the module, or a method (qual 'C.m'), entered: the frame is the next address; cells behind it -/
theorem call_fn {R : Result → Shared → Prop} {name qual : Str} {params : Arguments} {body : List Stmt} {scope : Scope} {dV kV doc pm cdv ct oc : Value} {an od : Option Addr} {osl : Array (Option Value)} {f : Addr} {args : Args} {binds : List (Str × Value)}
    (X : K.In s.heap) (hlim : s.heap.NoLimit) (ho : K.lookup f = some ⟨oc, od, .func (fnOf name qual params body scope dV kV doc pm an cdv ct), osl⟩) (hcd : codeIn K cdv qual = true) (hroom : A.depth < recursionLimit)
    (hbind : BindsTo s (fnOf name qual params body scope dV kV doc pm an cdv ct) args binds)
    (hkind : (binds.all fun y => scope.names.lookup y.1 == some .local || scope.names.lookup y.1 == some .cell) = true)
    (h : ∀ s₁, InCallC s s.heap.objs.size (bindL (envOfC qual scope s.heap.objs.size f cdv).kindOf binds fun _ => none) (cellsFrom (s.heap.objs.size + 1) scope.names [])
        (bindC (envOfC qual scope s.heap.objs.size f cdv).kindOf binds fun _ => none) s₁ →
      wpAny (model prog w) (A.deeper (envOfC qual scope s.heap.objs.size f cdv)) (execs body (envOfC qual scope s.heap.objs.size f cdv))
        (fun fl s' => R (.ok (.ret (match fl with | .ret v => v | _ => .none))) s')
        (fun e s' => wpAny (model prog w) (A.deeper (envOfC qual scope s.heap.objs.size f cdv)) (leaving (envOfC qual scope s.heap.objs.size f cdv) e) (fun _ s'' => R (.error e) s'') (fun e' s'' => R (.error e') s'') s') s₁)
    (hco : scope.isCoroutine = false) (hgen : scope.isGenerator = false) (hk : scope.kind = .function) : codeAny (model prog w) A (.call (.ref f) args) R s := by
  refine codeAny_call_function hroom (X _ _ ho) rfl hco hgen rfl (codeRec_of X hcd) (hbind _ _ _ _ ?_)
  refine wpAny_newFunctionEnv_cells hk (kindsX hkind _) fun env he s₁ x => ?_
  subst he
  exact ⟨hlim.keeps x.toInCall.keep, codeAny_func (h s₁ x)⟩

/-- C(..): dict at size, instance at size + 1, then __init__ -/
theorem make_obj {R : Result → Shared → Prop} {C fI : Addr} {rest : List Value} {kw : List (Str × Value)}
    (X : K.In s.heap) (hm : makesIn K C = true) (hi : findIn K (.ref C) "__init__" = some (some (.ref fI))) (hf : isFn K (.ref fI) = true)
    (h : codeAny (model prog w) (A.under (.builtin "type.__call__" ⟨.ref C :: rest, kw⟩)) (.call (.ref fI) ⟨.ref (s.heap.objs.size + 1) :: rest, kw⟩) (InitBack (s.heap.objs.size + 1) R)
      { s with heap := (s.heap.push emptyDict).push (instObj C s.heap.objs.size) }) : codeAny (model prog w) A (.call (.ref C) ⟨rest, kw⟩) R s := by
  obtain ⟨hh, g, d, t, os⟩ := s
  exact make_core (makes_of X hm) (looks_findIn X hi) (fun self => bind_fn X self (beq_iff_eq.mp hf)) (.inl rfl) h

/-- x.name where the instance's dict holds the name and the class does not -/
theorem get_field {x C : Addr} {ox : Obj} {es : List DictEntry} {n : Nat} {name : Str} {expr : Bool} {v : Value} {Q : Value → Shared → Prop}
    (X : K.In s.heap) (I : PySem.W.InstAt s.heap x ox C (some (dictOf es n))) (hg : plainGet K C name = true) (hh : hasDictIn K C = true) (ha : findIn K (.ref C) name = some none)
    (hl : getL name es = some (some v)) (hv : handedIn v = true) (h : Q v { s with toks := s.toks + 1 }) : wpAny (model prog w) A (getAttr (.ref x) name expr) Q E s :=
  get_value X I (plainGet_of hg).1 (findObj_own hh ha rfl hl) hv h

/-- x.m(..): the method found in the class -/
theorem get_method {x C f : Addr} {ox : Obj} {es : List DictEntry} {n : Nat} {name : Str} {pl : Sem Bool} {Q : Value × List Value → Shared → Prop}
    (X : K.In s.heap) (I : PySem.W.InstAt s.heap x ox C (some (dictOf es n))) (hg : plainGet K C name = true) (hf : findIn K (.ref C) name = some (some (.ref f))) (ht : isFn K (.ref f) = true)
    (hl : getL name es = some none) (h : Q (.ref f, [.ref x]) s) : wpAny (model prog w) A (getMethod (.ref x) name pl) Q E s :=
  method_fn X I (plainGet_of hg).1 (plainGet_of hg).2 hf (beq_iff_eq.mp ht) (by show (lookIn name (dictOf es n)).map _ = _; rw [lookIn_dict, hl]; rfl) h

/-! the whole heap as the ledger: makes every rule that writes through a ledger a rule over any heap -/
def noObjs (h : Heap) : Heap := { h with objs := #[] }
theorem noObjs_get (h : Heap) (b : Addr) : (noObjs h).get? b = none := by
  cases e : (noObjs h).get? b with
  | none => rfl
  | some o => exact absurd (Heap.lt_size e) (Nat.not_lt_zero _)
def ledger (h : Heap) (L d : Addr) : List (Addr × Obj) := (List.range h.objs.size).filterMap fun a => if a = L ∨ a = d then none else (h.get? a).map fun o => (a, o)
theorem mem_ledger {h : Heap} {L d a : Addr} {o : Obj} : (a, o) ∈ ledger h L d ↔ a ≠ L ∧ a ≠ d ∧ h.get? a = some o := by
  unfold ledger
  rw [List.mem_filterMap]
  constructor
  · rintro ⟨b, _, e⟩
    split at e
    · cases e
    · rename_i hb
      obtain ⟨o', ho, e'⟩ := Option.map_eq_some_iff.mp e
      cases e'
      exact ⟨fun q => hb (.inl q), fun q => hb (.inr q), ho⟩
  · rintro ⟨n1, n2, ho⟩
    refine ⟨a, List.mem_range.mpr (Heap.lt_size ho), ?_⟩
    rw [if_neg (show ¬ (a = L ∨ a = d) from fun q => q.elim n1 n2), ho] <;> rfl
theorem news_ledger {h : Heap} {L d : Addr} {od : Obj} (hne : d ≠ L) (ho : h.get? d = some od) : News (noObjs h) L h ([] ++ (d, od) :: ledger h L d) := by
  rintro ⟨a, o⟩ hp
  rcases List.mem_cons.mp hp with e | hp
  · cases e
    exact ⟨ho, hne, noObjs_get _ _⟩
  · obtain ⟨n1, n2, e⟩ := mem_ledger.mp hp
    exact ⟨e, n1, noObjs_get _ _⟩
theorem fr_all {h : Heap} {L : Addr} {m : Str → Option Value} (n : h.Ns L m) : Fr (noObjs h) L h m :=
  ⟨n, fun b o e => (by rw [noObjs_get] at e; cases e), Nat.zero_le _⟩
/-- Upd of the head entry (for append_K, setItem_K ..) -/
theorem upd_ledger {h : Heap} {L d : Addr} {o o' : Obj} : Upd d o o' ((d, o) :: ledger h L d) ((d, o') :: ledger h L d) :=
  .head fun ⟨_, _⟩ hp => (mem_ledger.mp hp).2.1

/-- x.name = v over any heap: L is any namespace of the heap (the frame's, say): its map stays, its object is not told; all else but the dict stays -/
theorem set_field {x C dx L : Addr} {ox : Obj} {m : Str → Option Value} {es es' : List DictEntry} {n n' : Nat} {name : Str} {v : Value} {Q : Unit → Shared → Prop}
    (X : K.In s.heap) (I : PySem.W.InstAt s.heap x ox C (some (dictOf es n))) (hd : ox.dict = some dx) (hL : s.heap.Ns L m) (hne : dx ≠ L)
    (hs : findIn K (.ref C) "__setattr__" = some (some (.builtin "object.__setattr__"))) (hp : plainOver K C = true) (ht : takerIn K C name = some none) (hh : hasDictIn K C = true) (hl : (getL name es).isSome = true)
    (e : (putL name (PyData.keyHash w.params name) (.str name (s.toks + 1)) v es, putN name es n) = (es', n')) (hz : es'.length ≤ 1000)
    (h : ∀ h' : Heap, h'.Ns L m → h'.get? dx = some (dictOf es' n') → (∀ b o, b ≠ dx → b ≠ L → s.heap.get? b = some o → h'.get? b = some o) → Q () { s with heap := h', toks := s.toks + 2 }) :
    wpAny (model prog w) A (setAttr (.ref x) name v) Q E s := by
  obtain ⟨e1, e2⟩ := Prod.mk.inj e
  have hdx : s.heap.get? dx = some (dictOf es n) := by
    have := I.dict
    rw [hd] at this
    exact this
  refine set_plain X I hs (osa_dict (s := { s with toks := s.toks + 1 }) (h₀ := noObjs s.heap) (L := L) (m := m) (od := dictOf es n) (od' := dictOf es' n') (es := es') (n := n') (pre := []) (post := ledger s.heap L dx)
    (fr_all hL) (news_ledger hne hdx) X I hd hp ht hh hl (fun _ q => nomatch q) (fun ⟨_, _⟩ q => (mem_ledger.mp q).2.1) (by rw [putName_dict, e1, e2]) rfl hz fun h' F' N' => ?_)
  exact h h' F'.ns (N'.get (List.Mem.head _)) fun b o n1 n2 ho => N'.get (List.Mem.tail _ (mem_ledger.mpr ⟨n2, n1, ho⟩))
end
end Att

namespace L2
open PySem PySem.Spec PyProof.Rows

theorem vals_ints : ∀ {vs : List Value} {ns : List Int}, IntsAre vs ns → Vals (ns.map V.int) vs
  | _, _, .nil => .nil
  | _, _, .cons n t h => .cons ⟨t, rfl⟩ (vals_ints h)

/-- nothing is tracked but the script, known to the object (or it is an object of the module) -/
def Only (H : Hp) : Prop := ∀ b, H b = none ∨ ∃ o xs, H b = some (.frz o (.lst xs))

/-- THE HEAD: the law's promise, at the heap behind the top. F, the promise of the law's def, may use that base is part of the heap (so K.In base, base.Ns mainGlobals mg stand in Mod) -/
theorem law_call {P : Program} {w : World} {K : PySem.W.Frag} {mg mb : Str → Option Value} {CX : CXT} {k : Nat} {fa a : Addr} {fd : FuncData} {x : Str} {sp : Sp} {s₁ : Shared} {vs : List Value} {ns : List Int}
    (KX : K.In s₁.heap) (hns : s₁.heap.Ns mainGlobals mg) (hb : s₁.heap.Ns builtinsNs mb) (hbb : ∀ x : Str, x ≠ "__name__" → mb x = bootBuiltins x) (hlim : s₁.heap.NoLimit) (hg : s₁.gens = #[])
    (ha : s₁.heap.get? a = some { cls := .type "list", data := .seq vs.toArray }) (hi : IntsAre vs ns) (hl : ns.length ≤ sizeLine) (hr : Room k callerA)
    (F : ∀ base : Heap, K.In base → base.Ns mainGlobals mg → FnOk P w K mg base CX k fa fd [x] sp) (hbind : ∀ (s : Shared) (u : Value), BindsTo s fd ⟨[u], []⟩ [(x, u)])
    (hsp : ∀ H : Hp, Only H → SqL K H a (ns.map V.int) → sp [.ref a] H (fun v _ => v = .bl true) fun _ _ _ => False)
    (hCX : ∀ H e s', CX [] H s₁ (fun _ _ _ => False) e s' → False) :
    codeAny (model P w) callerA (.call (.ref fa) ⟨[.ref a], []⟩) (fun r s' => r = .ok (.ret (.bool true)) ∧ OldK s₁.heap s'.heap ∧ s'.os = s₁.os ∧ AllBare s'.gens) s₁ := by
  have rv := vals_ints hi
  have lenV := hi.length
  -- from an abstract heap in which nothing but the script may be tracked
  have core : ∀ H : Hp, Only H → SqL K H a (ns.map V.int) → HOk P w H s₁.heap → (∀ b, H b ≠ none → b = a) → (H a ≠ none → K.lookup a = none) →
      codeAny (model P w) callerA (.call (.ref fa) ⟨[.ref a], []⟩) (fun r s' => r = .ok (.ret (.bool true)) ∧ OldK s₁.heap s'.heap ∧ s'.os = s₁.os ∧ AllBare s'.gens) s₁ := by
    intro H hO hS hok hA hK
    have base_of : ∀ {b : Addr} {o : Obj}, s₁.heap.get? b = some o → H b = none → (hidT s₁.heap H).get? b = some o := fun e n => hidT_get e n
    have noA : ∀ {b : Addr} {o : Obj} {es : Array DictEntry} {ep : Nat}, s₁.heap.get? b = some o → o.data = .dict es ep → H b = none := fun {b o es ep} e d => by
      cases q : H b with
      | none => rfl
      | some u =>
        have e' : b = a := hA b (by rw [q]; simp)
        subst e'
        rw [ha] at e; cases e
        have d' : Data.seq vs.toArray _ = Data.dict es ep := d
        cases d'
    have nsK : ∀ {b : Addr} {m : Str → Option Value}, s₁.heap.Ns b m → (hidT s₁.heap H).Ns b m := fun {b m} ⟨o, es, ep, e, d, r⟩ => ⟨o, es, ep, base_of e (noA e d), d, r⟩
    have hKb : K.In (hidT s₁.heap H) := fun b o e => base_of (KX b o e) (by
      cases q : H b with
      | none => rfl
      | some u =>
        have e' : b = a := hA b (by rw [q]; simp)
        subst e'
        rw [hK (by rw [q]; simp)] at e; cases e)
    have hM : Mod K mg (hidT s₁.heap H) := ⟨hKb, nsK hns, ⟨mb, nsK hb, hbb⟩, let ⟨mc, h1, h2⟩ := hlim; ⟨mc, nsK h1, h2⟩⟩
    have e0 : Env0 P w K mg (hidT s₁.heap H) callerA [] s₁ H := ⟨rfl, hM, fun b o e => of_hidT e, Nat.le_of_eq (hidT_size _ _), trivial, fun b hb => absurd (show b ∈ ([] : List Addr) from hb) (by simp), hok, .of_eq hg⟩
    refine codeAny_mono ((F _ hKb (nsK hns)).run callerA [] s₁ H ⟨[.ref a], []⟩ [.ref a] [.ref a] _ _ hr e0 (hbind s₁ (.ref a)) (.cons rfl .nil) (hsp H hO hS)) fun r s' h => ?_
    cases r with
    | error e => exact (hCX H e s' h).elim
    | ok fl =>
      cases fl with
      | next => exact False.elim h
      | brk => exact False.elim h
      | cont => exact False.elim h
      | ret u =>
        obtain ⟨v, H', os, bare, un, hok', r', q⟩ := h
        have q' : v = .bl true := q
        subst q'
        obtain rfl : u = Value.bool true := r'
        refine ⟨rfl, OldK.of_keep fun b o e => ?_, os, bare⟩
        cases q : H b with
        | none => exact un.keep b o e q (by intro z; exact absurd (show b ∈ ([] : List Addr) from z) (by simp)) (by simp)
        | some u =>
          rcases hO b with z | ⟨ob, xs, z⟩
          · rw [q] at z; cases z
          · have z2 := un.frzs b ob _ z
            obtain ⟨e1, _⟩ := hok b _ z
            obtain ⟨e2, _⟩ := hok' b _ z2
            rw [e] at e1; cases e1
            exact e2
  cases hk : K.lookup a with
  | some o =>
    -- the script is one of the module's own objects
    have e := KX a o hk
    rw [ha] at e
    cases e
    refine core (fun _ => none) (fun _ => .inl rfl) (.inr ⟨_, vs.toArray, _, hk, rfl, rfl, rfl, by rw [List.size_toArray, lenV]; exact hl, by simpa using rv⟩) (fun b u z => by have z' : (none : Option HO) = some u := z; cases z') (fun b z => absurd rfl z) fun z => absurd rfl z
  | none =>
    refine core (fun b => if b = a then some (.frz { cls := .type "list", data := .seq vs.toArray } (.lst (ns.map V.int))) else none) (fun b => ?_) (.inl (.inr ⟨{ cls := .type "list", data := .seq vs.toArray }, if_pos rfl⟩)) (fun b u z => ?_) (fun b z => ?_) fun _ => hk
    · by_cases hb : b = a
      · exact .inr ⟨_, _, if_pos hb⟩
      · exact .inl (if_neg hb)
    · by_cases hb : b = a
      · have z' := (if_pos hb).symm.trans z
        cases z'
        subst hb
        exact ⟨ha, by rw [List.length_map]; exact hl, vs, _, rv, ha⟩
      · have z' := (if_neg hb).symm.trans z
        cases z'
    · by_cases hb : b = a
      · exact hb
      · exact absurd (if_neg hb) z
end L2

namespace L2
open PySem PySem.Spec PyProof.Rows

abbrev KOf {K : PySem.W.Frag} {h : Heap} (_ : K.In h) : PySem.W.Frag := K

/-- the goal that k_head leaves (case hc), from the law's promise. F gives the function object fd (K's own) once, then the promise over every base -/
theorem walk_of {l : PySem.W.OpenLaw} {n k : Nat} {q : Program} {loose : List Str} {XP : (Str → Option Value) → Heap → Prop} {YP : World → Heap → Prop} {d : DefRec} {K : Params → PySem.W.Frag} {CX : World → CXT} {sp : World → Sp} {x : Str}
    (hn : l.most = some n) (hn2 : n ≤ sizeLine) (hdf : d.params.defaults = []) (hr : Room k callerA)
    (hY : ∀ (w : World) (h : Heap), YP w h → (K w.params).In h)
    (F : ∀ (w : World) (mg : Str → Option Value) (fa : Addr) (h : Heap), (K w.params).In h → h.Ns mainGlobals mg → mg d.name = some (.ref fa) →
      ∃ fd : FuncData, (∀ (s : Shared) (u : Value), BindsTo s fd ⟨[u], []⟩ [(x, u)]) ∧
        ∀ base : Heap, (K w.params).In base → base.Ns mainGlobals mg → FnOk l.prog w (K w.params) mg base (CX w) k fa fd [x] (sp w))
    (hsp : ∀ (w : World) (H : Hp) (a : Addr) (ns : List Int), ns.length ≤ n → Only H → SqL (K w.params) H a (ns.map V.int) → sp w [.ref a] H (fun v _ => v = .bl true) fun _ _ _ => False)
    (hCX : ∀ (w : World) (H : Hp) (s : Shared) (e : Value) (s' : Shared), CX w [] H s (fun _ _ _ => False) e s' → False) :
    PySem.W.WalkO q loose XP YP l.row.toRowW d [] (fun f vs => PySem.call f vs) := by
  refine Att.attach_call hn hdf fun w s₀ s₁ mg mb fa o pm cd doc a vs ns G Y ho hd hcd hmg hobj hints hlen hg => ?_
  have KX := hY w _ Y
  obtain ⟨fd, hb, hF⟩ := F w mg fa _ KX G.T.g hmg
  exact law_call KX G.T.g G.T.b G.T.builtins G.T.nolimit hg hobj hints (Nat.le_trans hlen hn2) hr hF hb (fun H hO hS => hsp w H a ns hlen hO hS) fun H e s' => hCX w H s₁ e s'
/-- the same where the promise hangs on the written part alone: (sp := My.sp_law), no hole under a binder -/
theorem walk_ofK {l : PySem.W.OpenLaw} {n k : Nat} {q : Program} {loose : List Str} {XP : (Str → Option Value) → Heap → Prop} {YP : World → Heap → Prop} {d : DefRec} {K : Params → PySem.W.Frag} {CX : CXT} {sp : PySem.W.Frag → Sp} {x : Str}
    (hn : l.most = some n) (hn2 : n ≤ sizeLine) (hdf : d.params.defaults = []) (hr : Room k callerA)
    (hY : ∀ (w : World) (h : Heap), YP w h → (K w.params).In h)
    (F : ∀ (w : World) (mg : Str → Option Value) (fa : Addr) (h : Heap), (K w.params).In h → h.Ns mainGlobals mg → mg d.name = some (.ref fa) →
      ∃ fd : FuncData, (∀ (s : Shared) (u : Value), BindsTo s fd ⟨[u], []⟩ [(x, u)]) ∧
        ∀ base : Heap, (K w.params).In base → base.Ns mainGlobals mg → FnOk l.prog w (K w.params) mg base CX k fa fd [x] (sp (K w.params)))
    (hsp : ∀ (K : PySem.W.Frag) (H : Hp) (a : Addr) (ns : List Int), ns.length ≤ n → Only H → SqL K H a (ns.map V.int) → sp K [.ref a] H (fun v _ => v = .bl true) fun _ _ _ => False)
    (hCX : ∀ (H : Hp) (s : Shared) (e : Value) (s' : Shared), CX [] H s (fun _ _ _ => False) e s' → False) :
    PySem.W.WalkO q loose XP YP l.row.toRowW d [] (fun f vs => PySem.call f vs) :=
  walk_of (K := K) (CX := fun _ => CX) (sp := fun w => sp (K w.params)) hn hn2 hdf hr hY F (fun w H a ns h1 h2 h3 => hsp (K w.params) H a ns h1 h2 h3) fun _ H s e s' => hCX H s e s'
end L2

/- THE LAST THEOREM (shape; LID, My.* are yours):
   My.Adr: a structure of the addresses that your layer names (classes, functions); My.Txt K t: a structure (Prop) of the equations over K;
   My.txt_mk : {K} {implicit addresses ..} (e1 : nsIn K mainGlobals "law" = some (some (.ref f))) (e2 : K.lookup f = some ⟨oc, od, .func (fnOf "law" "law" params body scope dV kV doc pm an cdv ct), sl⟩) (e3 : codeIn K cdv "law" = true) .. : ∃ t, My.Txt K t

set_option maxRecDepth 100000 in
set_option maxHeartbeats 0 in
theorem PySem.Challenge.cw_LID_holds : PySem.Challenge.rw_LID.Holds := by
  w_on; o_law; k_head; (case hw => w_witness2)
  k_fill
  refine L2.walk_of (l := PySem.Challenge.rw_LID) (n := 63) (k := 40) (x := "script") (CX := fun w => ..) (sp := fun _ => My.sp_law) rfl (by decide) rfl ⟨rfl, by decide, by decide⟩ (fun w h Y => PySem.W.kIn_of Y) ?F ?S ?C
  case F =>
    intro w mg fa h KX G hmg
    have T : ∃ t, My.Txt (L2.KOf KX) t := by
      dsimp only [L2.KOf]                          -- K must stand as «<heap const> w.params» for k_is
      refine' My.txt_mk ?e1 ?e2 ?e3 ..
      (case e1 => PySem.W.k_is)                    -- in the order: a name -> its address -> its object -> its parts
      (case e2 => PySem.W.k_is)
      ..
    obtain ⟨t, T⟩ := T
    have e0 := hmg.symm.trans (PySem.W.mg_of KX G T.law)
    cases e0                                       -- fa is the law's own address
    exact ⟨_, fun s u => .of_eq rfl, fun base kb nb => My.law_fn T kb nb⟩     -- if «.of_eq rfl» comes too early: refine' ⟨_, ?b, fun base kb nb => My.law_fn T kb nb⟩; exact fun s u => .of_eq rfl
  case S => exact fun w H a ns hl hO hS => ..
  case C => exact ..
(the tactic k_is has no namespace: write k_is) -/

/-! SHORT WORDS over the layer: a def of the text, its body, what a loop and a test want. -/
namespace L2
open PySem PySem.Spec PyProof.Rows

/-! ### the text by places -/
/-- the j-th statement of a class's body -/
def inClass (s : Stmt) (j : Nat) : Stmt := match s with
  | .ClassDef _ _ _ body _ _ _ _ _ _ _ => body.getD j (.Pass ⟨0, 0, 0, 0⟩)
  | _ => .Pass ⟨0, 0, 0, 0⟩
def defArgs (s : Stmt) : Arguments := match s with
  | .FunctionDef _ a _ _ _ _ _ _ _ _ => a
  | _ => { posonlyargs := [], args := [], vararg := none, kwonlyargs := [], kw_defaults := [], kwarg := none, defaults := [] }
def defBody (s : Stmt) : List Stmt := match s with
  | .FunctionDef _ _ b _ _ _ _ _ _ _ => b
  | _ => []
def defScope (s : Stmt) : Scope := match s with
  | .FunctionDef _ _ _ _ _ _ sc _ _ _ => sc
  | _ => { kind := .function, names := [], isGenerator := false, isCoroutine := false }

/-! ### no exception leaves a def -/
abbrev CX0 : CXT := fun _ _ _ _ _ _ => False
abbrev E0 : XK := fun _ _ _ => False
theorem pass0 {X : Cx} : Passes CX0 X E0 := fun _ _ _ _ _ _ _ h => h.elim

/-! ### a def (or method) of the text as it stands behind the top -/
structure Fun (K : PySem.W.Frag) (x qual : Str) (st : Stmt) (f : Addr) (fd : FuncData) : Prop where
  ex : ∃ (oc : Value) (od : Option Addr) (kV doc pm : Value) (an : Option Addr) (cdv ct : Value) (osl : Array (Option Value)),
    fd = PySem.W.fnOf x qual (defArgs st) (defBody st) (defScope st) .none kV doc pm an cdv ct ∧ K.lookup f = some ⟨oc, od, .func fd, osl⟩ ∧ PySem.W.codeIn K cdv qual = true
  kp : PySem.W.keepIn K (.ref f) = true
section
variable {P : Program} {w : World} {K : PySem.W.Frag} {mg : Str → Option Value} {base : Heap}
/-- THE RULE for a def: its body as a term of rules, and the reading of that term -/
theorem Fun.ok {x qual : Str} {st : Stmt} {f : Addr} {fd : FuncData} {N ps : List Str} {k : Nat} {sp : Sp} (F : Fun K x qual st f fd) (S : FnScope N ps (defScope st)) (len : ∀ vs H Q E, sp vs H Q E → vs.length = ps.length)
    (hbody : ∀ (cdv : Value) (A : Around) (outer : List Env) (s : Shared) (H : Hp) (vs : List V) (Q : VK) (E : XK), Room k (A.deeper (envOfC qual (defScope st) s.heap.objs.size f cdv)) → sp vs H Q E →
      ∃ t, PSs (cxOf CX0 P w K mg base N qual (defScope st) f cdv A outer s H E).nox (defBody st) t ∧ t { nx := fun _ H' => Q .non H', rt := Q } (start N vs) H) : FnOk P w K mg base CX0 (k + 1) f fd ps sp := by
  obtain ⟨oc, od, kV, doc, pm, an, cdv, ct, osl, rfl, lk, hcd⟩ := F.ex
  refine fn_of lk hcd S len fun A outer s H vs Q E hr hsp => ?_
  obtain ⟨t, h, q⟩ := hbody cdv A outer s H vs Q E hr hsp
  exact ⟨t, h.nox, q⟩
/-- how its arguments bind (no defaults): h is «fun _ _ _ _ _ _ us hl => match us, hl with | [_, _], _ => rfl», one _ a parameter -/
theorem Fun.binds {x qual : Str} {st : Stmt} {f : Addr} {fd : FuncData} {ps : List Str} (F : Fun K x qual st f fd)
    (h : ∀ (kV doc pm : Value) (an : Option Addr) (cdv ct : Value) (us : List Value), us.length = ps.length → bindArgs (PySem.W.fnOf x qual (defArgs st) (defBody st) (defScope st) .none kV doc pm an cdv ct) ⟨us, []⟩ = pure (ps.zip us)) : Binds K fd ps [] := by
  obtain ⟨oc, od, kV, doc, pm, an, cdv, ct, osl, rfl, lk, hcd⟩ := F.ex
  exact .all (h kV doc pm an cdv ct)
theorem fun_mk {x qual : Str} {st : Stmt} {f : Addr} {oc : Value} {od an : Option Addr} {osl : Array (Option Value)} {kV doc pm cdv ct : Value} (l : K.lookup f = some ⟨oc, od, .func (PySem.W.fnOf x qual (defArgs st) (defBody st) (defScope st) .none kV doc pm an cdv ct), osl⟩)
    (c : PySem.W.codeIn K cdv qual = true) (k : PySem.W.keepIn K (.ref f) = true) : Fun K x qual st f (PySem.W.fnOf x qual (defArgs st) (defBody st) (defScope st) .none kV doc pm an cdv ct) := ⟨⟨oc, od, kV, doc, pm, an, cdv, ct, osl, rfl, l, c⟩, k⟩
end
theorem hu_of {A : Around} {k : Nat} (hr : Room k A) : A.units + 1 < cLine := Nat.lt_of_le_of_lt (Nat.add_le_add_left (by decide : 1 ≤ 64) _) hr.units
theorem small1000 {n : Nat} (h : n ≤ 1000) : n < sizeLine := Nat.lt_of_le_of_lt h (by decide)

/-! ### expressions in short: the name that stands in the i-th slot -/
section
variable {X : Cx}
theorem pv (i : Nat) {x : Str} {pos : Pos} (hN : X.N[i]? = some x := by rfl) (hv : Vis X.env.scope x := by first | exact Or.inl rfl | exact Or.inr (Or.inl rfl) | exact Or.inr (Or.inr rfl)) (hd : (x == ("__debug__" : Str)) = false := by decide)
    (hcd : (x == ("__classdict__" : Str)) = false := by decide) : PE X (.Name x pos) (tVar i) := pe_var hN hv hd hcd
end

/-! ### tests -/
theorem iteF {A B : Prop} (h : B) : if false = true then A else B := by
  rw [if_neg Bool.false_ne_true]
  exact h
theorem iteT {A B : Prop} (h : A) : if true = true then A else B := by
  rw [if_pos rfl]
  exact h
theorem ite2 {c A B : Prop} [Decidable c] (h1 : c → A) (h2 : ¬ c → B) : if c then A else B := by
  by_cases h : c
  · rw [if_pos h]
    exact h1 h
  · rw [if_neg h]
    exact h2 h
theorem iteNS {c A B : Prop} [Decidable c] (hc : c) (h : B) : if (!decide c) = true then A else B := by
  rw [decide_eq_true hc]
  exact iteF h

/-! ### heaps -/
/-- all that was tracked is as it was -/
def Same (H H' : Hp) : Prop := ∀ b o, H b = some o → H' b = some o
theorem Same.refl (H : Hp) : Same H H := fun _ _ h => h
theorem Same.trans {H H1 H2 : Hp} (a : Same H H1) (b : Same H1 H2) : Same H H2 := fun c o h => b c o (a c o h)
theorem Same.free {H H' : Hp} (e : Same H H') {l : Addr} (h : H' l = Option.none) : H l = Option.none := by
  cases q : H l with
  | none => rfl
  | some o =>
    rw [e l o q] at h
    cases h
theorem Same.seq {K : PySem.W.Frag} {H H' : Hp} {a : Addr} {xs : List V} (e : Same H H') (h : SqL K H a xs) : SqL K H' a xs := by
  rcases h with (h | ⟨o, h⟩) | h
  · exact .inl (.inl (e _ _ h))
  · exact .inl (.inr ⟨o, e _ _ h⟩)
  · exact .inr h

section
variable {X : Cx}
/-- len of a dict -/
theorem call_lenD : CallR X (.builtin "len") (fun xs H Q => ∃ a kvs, xs = [V.ref a] ∧ H a = some (.dK kvs) ∧ Q (.int kvs.length) H) := by
  intro pins s σ H xs us Q I r h
  obtain ⟨a, kvs, rfl, ha, q⟩ := h
  obtain ⟨u, rfl, ru⟩ := vals1 r
  cases ru
  exact d_len I (.inl ha) fun t s' I' => ⟨.int kvs.length, H, I', ⟨t, rfl⟩, q⟩
end
/-! ### a dict's pairs: keys that differ -/
section
variable {κ : Type} [DecidableEq κ]
theorem valV_not {kvs : List (κ × V)} {k : κ} (h : valV kvs k = none) : ¬ k ∈ kvs.map (·.1) := by
  intro m
  obtain ⟨p, hp, e⟩ := List.mem_map.mp m
  have q : (kvs.any fun kv => decide (kv.1 = k)) = true := List.any_eq_true.mpr ⟨p, hp, decide_eq_true e⟩
  rw [valV_any, h] at q
  exact absurd q (by simp)
theorem valV_in {kvs : List (κ × V)} {k : κ} {v : V} (h : valV kvs k = some v) : k ∈ kvs.map (·.1) := by
  have q : (kvs.any fun kv => decide (kv.1 = k)) = true := by
    rw [valV_any, h]
    all_goals rfl
  obtain ⟨p, hp, e⟩ := List.any_eq_true.mp q
  exact List.mem_map.mpr ⟨p, hp, of_decide_eq_true e⟩
theorem nd_snoc : ∀ {l : List κ} {k : κ}, l.Nodup → ¬ k ∈ l → (l ++ [k]).Nodup
  | [], k, _, _ => by simp
  | a :: r, k, h, hk => by
    obtain ⟨h1, h2⟩ := List.nodup_cons.mp h
    show (a :: (r ++ [k])).Nodup
    refine List.nodup_cons.mpr ⟨fun m => ?_, nd_snoc h2 fun m => hk (List.mem_cons.mpr (Or.inr m))⟩
    rcases List.mem_append.mp m with q | q
    · exact h1 q
    · exact hk (List.mem_cons.mpr (Or.inl (List.mem_singleton.mp q).symm))
theorem nd_putK {kvs : List (κ × V)} {k : κ} (v : V) (hn : (kvs.map (·.1)).Nodup) (h : valV kvs k = none) : ((putK kvs k v).map (·.1)).Nodup := by
  rw [putK_new v h, List.map_append]
  exact nd_snoc hn (valV_not h)
theorem dropK_pos {p : κ × V} {r : List (κ × V)} {k : κ} (e : p.1 = k) : dropK (p :: r) k = dropK r k := by
  unfold dropK
  rw [List.filter_cons, if_neg (by simp [e])]
theorem dropK_neg {p : κ × V} {r : List (κ × V)} {k : κ} (e : ¬ p.1 = k) : dropK (p :: r) k = p :: dropK r k := by
  unfold dropK
  rw [List.filter_cons, if_pos (by simp [e])]
theorem dropK_no : ∀ {kvs : List (κ × V)} {k : κ}, ¬ k ∈ kvs.map (·.1) → dropK kvs k = kvs
  | [], _, _ => rfl
  | p :: r, k, h => by
    have h' : ¬ k ∈ r.map (·.1) := fun m => by
      obtain ⟨q, hq, e⟩ := List.mem_map.mp m
      exact h (List.mem_map.mpr ⟨q, List.mem_cons.mpr (Or.inr hq), e⟩)
    rw [dropK_neg fun e => h (List.mem_map.mpr ⟨p, List.mem_cons.mpr (Or.inl rfl), e⟩), dropK_no h']
theorem dropK_mem {kvs : List (κ × V)} {k : κ} {p : κ × V} (h : p ∈ dropK kvs k) : p ∈ kvs := (List.mem_filter.mp h).1
theorem nd_dropK : ∀ {kvs : List (κ × V)} {k : κ}, (kvs.map (·.1)).Nodup → ((dropK kvs k).map (·.1)).Nodup
  | [], _, _ => List.nodup_nil
  | p :: r, k, h => by
    have h : (p.1 :: r.map (·.1)).Nodup := h
    obtain ⟨h1, h2⟩ := List.nodup_cons.mp h
    by_cases e : p.1 = k
    · rw [dropK_pos e]
      exact nd_dropK h2
    · rw [dropK_neg e]
      show (p.1 :: (dropK r k).map (·.1)).Nodup
      refine List.nodup_cons.mpr ⟨fun m => h1 ?_, nd_dropK h2⟩
      obtain ⟨q, hq, eq⟩ := List.mem_map.mp m
      exact List.mem_map.mpr ⟨q, dropK_mem hq, eq⟩
theorem dropK_len : ∀ {kvs : List (κ × V)} {k : κ}, (kvs.map (·.1)).Nodup → k ∈ kvs.map (·.1) → (dropK kvs k).length + 1 = kvs.length
  | [], _, _, m => by simp at m
  | p :: r, k, h, m => by
    have h : (p.1 :: r.map (·.1)).Nodup := h
    have m : k = p.1 ∨ k ∈ r.map (·.1) := List.mem_cons.mp m
    obtain ⟨h1, h2⟩ := List.nodup_cons.mp h
    by_cases e : p.1 = k
    · subst e
      rw [dropK_pos rfl, dropK_no h1]
      all_goals rfl
    · have m' : k ∈ r.map (·.1) := m.resolve_left fun z => e z.symm
      have q := dropK_len h2 m'
      rw [dropK_neg e, List.length_cons, List.length_cons]
      omega
end
end L2

namespace OS
/-- x * f, of a polynomial by its coefficients -/
def sh (f : Nat → Int) : Nat → Int
  | 0 => 0
  | j + 1 => f j
def fact : Nat → Int
  | 0 => 1
  | n + 1 => ((n : Int) + 1) * fact n
/-- the hit polynomial of n guests, of whom t shun a seat, for each t of a list -/
def h : Nat → List Int → Nat → Int
  | n, [], j => if j = 0 then fact n else 0
  | n, t :: ts, j => h n ts j + t * (sh (h (n - 1) ts) j - h (n - 1) ts j)

theorem sh_add (f g : Nat → Int) (j : Nat) : sh (fun i => f i + g i) j = sh f j + sh g j := by
  cases j <;> simp [sh]
theorem sh_sub (f g : Nat → Int) (j : Nat) : sh (fun i => f i - g i) j = sh f j - sh g j := by
  cases j <;> simp [sh]
theorem sh_mul (c : Int) (f : Nat → Int) (j : Nat) : sh (fun i => c * f i) j = c * sh f j := by
  cases j <;> simp [sh]
theorem h_cons (n : Nat) (t : Int) (ts : List Int) (j : Nat) : h n (t :: ts) j = h n ts j + t * (sh (h (n - 1) ts) j - h (n - 1) ts j) := rfl
theorem h_cons_f (n : Nat) (t : Int) (ts : List Int) : h n (t :: ts) = fun j => h n ts j + t * (sh (h (n - 1) ts) j - h (n - 1) ts j) := rfl
theorem sh_h_cons (n : Nat) (t : Int) (ts : List Int) (j : Nat) : sh (h n (t :: ts)) j = sh (h n ts) j + t * (sh (sh (h (n - 1) ts)) j - sh (h (n - 1) ts) j) := by
  rw [h_cons_f, sh_add, sh_mul, sh_sub]
theorem h_mid (t : Int) (bs : List Int) : ∀ (as : List Int) (n : Nat) (j : Nat), h n (as ++ t :: bs) j = h n (as ++ bs) j + t * (sh (h (n - 1) (as ++ bs)) j - h (n - 1) (as ++ bs) j)
  | [], n, j => rfl
  | a :: as, n, j => by
    have ih := h_mid t bs as
    have e : ∀ n, sh (h n (as ++ t :: bs)) j = sh (h n (as ++ bs)) j + t * (sh (sh (h (n - 1) (as ++ bs))) j - sh (h (n - 1) (as ++ bs)) j) := by
      intro n
      have : h n (as ++ t :: bs) = fun j => h n (as ++ bs) j + t * (sh (h (n - 1) (as ++ bs)) j - h (n - 1) (as ++ bs) j) := funext (ih n)
      rw [this, sh_add, sh_mul, sh_sub]
    simp only [List.cons_append, h_cons, sh_h_cons, ih, e]
    grind
theorem h_zero (n : Nat) (ts : List Int) (j : Nat) : h n (0 :: ts) j = h n ts j := by
  simp [h_cons]
theorem h_perm {as bs : List Int} (p : as.Perm bs) : ∀ (n j : Nat), h n as j = h n bs j := by
  induction p with
  | nil => intro n j; rfl
  | cons x _ ih =>
    intro n j
    have e : h (n - 1) _ = h (n - 1) _ := funext (ih (n - 1))
    rw [h_cons, h_cons, ih, e]
  | swap x y l =>
    intro n j
    simp only [h_cons, sh_h_cons]
    grind
  | trans _ _ i1 i2 => intro n j; rw [i1, i2]
theorem h_filter (ts : List Int) : ∀ (n j : Nat), h n (ts.filter (fun t => t != 0)) j = h n ts j := by
  induction ts with
  | nil => intro n j; rfl
  | cons t ts ih =>
    intro n j
    by_cases e : t = 0
    · subst e
      rw [h_zero, ← ih]; simp
    · have e2 : (t != 0) = true := by simpa using e
      have e3 : h (n - 1) (ts.filter (fun t => t != 0)) = h (n - 1) ts := funext (ih (n - 1))
      rw [List.filter_cons_of_pos (by simpa using e2), h_cons, h_cons, ih, e3]

/-- each place with its number, and the list with that one less by one -/
def decs : List Int → List (Int × List Int)
  | [] => []
  | t :: ts => (t, (t - 1) :: ts) :: (decs ts).map (fun p => (p.1, t :: p.2))
def S (n : Nat) (ps : List (Int × List Int)) (j : Nat) : Int := (ps.map (fun p => p.1 * h n p.2 j)).sum
theorem S_map (n : Nat) (t : Int) (ps : List (Int × List Int)) (j : Nat) :
    S n (ps.map (fun p => (p.1, t :: p.2))) j = S n ps j + t * (sh (S (n - 1) ps) j - S (n - 1) ps j) := by
  induction ps with
  | nil => cases j <;> simp [S, sh]
  | cons p ps ih =>
    have e : S (n - 1) (p :: ps) = fun j => p.1 * h (n - 1) p.2 j + S (n - 1) ps j := by
      funext i; simp [S]
    rw [e, sh_add, sh_mul]
    have e1 : S n ((p :: ps).map (fun p => (p.1, t :: p.2))) j = p.1 * h n (t :: p.2) j + S n (ps.map (fun p => (p.1, t :: p.2))) j := by simp [S]
    have e2 : S n (p :: ps) j = p.1 * h n p.2 j + S n ps j := by simp [S]
    rw [e1, e2, ih, h_cons]
    grind
/-- one more seat, which nobody shuns: who sits there -/
theorem row : ∀ (ts : List Int) (n : Nat), ts.length ≤ n → ∀ j, h (n + 1) ts j = S n (decs ts) j + ((n : Int) + 1 - ts.sum) * h n ts j
  | [], n, _, j => by
    simp only [decs, S, h, List.map_nil, List.sum_nil]
    by_cases e : j = 0 <;> simp [e, fact]
  | t :: ts, n, hn, j => by
    obtain ⟨m, rfl⟩ : ∃ m, n = m + 1 := ⟨n - 1, by simp at hn; omega⟩
    have hm : ts.length ≤ m := by simpa using hn
    have i1 := row ts (m + 1) (by omega)
    have i0 := row ts m hm
    have i0f : h (m + 1) ts = fun j => S m (decs ts) j + ((m : Int) + 1 - ts.sum) * h m ts j := funext i0
    have i0s : ∀ j, sh (h (m + 1) ts) j = sh (S m (decs ts)) j + ((m : Int) + 1 - ts.sum) * sh (h m ts) j := by
      intro j; rw [i0f, sh_add, sh_mul]
    have e1 : S (m + 1) (decs (t :: ts)) j = t * h (m + 1) ((t - 1) :: ts) j + S (m + 1) ((decs ts).map (fun p => (p.1, t :: p.2))) j := by simp [S, decs]
    rw [e1, S_map]
    simp only [h_cons, Nat.add_sub_cancel, List.sum_cons]
    have a := i1 j
    have b := i0 j
    have c := i0s j
    push_cast at *
    grind
theorem row_with (t : Int) (ts : List Int) (n : Nat) (hn : ts.length ≤ n) (j : Nat) :
    h (n + 1) (t :: ts) j = t * sh (h n ts) j + S n (decs ts) j + ((n : Int) + 1 - t - ts.sum) * h n ts j := by
  rw [h_cons, row ts n hn, Nat.add_sub_cancel]
  grind
theorem decs_mem : ∀ (ts : List Int), (∀ t ∈ ts, 0 ≤ t) → ∀ p ∈ decs ts, 0 ≤ p.1 ∧ p.2.length = ts.length ∧ p.2.sum = ts.sum - 1 ∧ (0 < p.1 → ∀ t ∈ p.2, 0 ≤ t)
  | [], _, p, hp => by simp [decs] at hp
  | t :: ts, hh, p, hp => by
    simp only [decs, List.mem_cons, List.mem_map] at hp
    have ht : 0 ≤ t := hh t (by simp)
    have hts : ∀ t ∈ ts, 0 ≤ t := fun u hu => hh u (by simp [hu])
    rcases hp with rfl | ⟨q, hq, rfl⟩
    · refine ⟨ht, by simp, by simp; omega, fun h1 u hu => ?_⟩
      simp only [List.mem_cons] at hu
      rcases hu with rfl | hu
      · simp only at h1; omega
      · exact hts u hu
    · obtain ⟨a, b, c, d⟩ := decs_mem ts hts q hq
      refine ⟨a, by simp [b], by simp [c]; omega, fun h1 u hu => ?_⟩
      simp only [List.mem_cons] at hu
      rcases hu with rfl | hu
      · exact ht
      · exact d h1 u hu
theorem sum_nonneg : ∀ (ts : List Int), (∀ t ∈ ts, 0 ≤ t) → 0 ≤ ts.sum
  | [], _ => by simp
  | t :: ts, hh => by
    have a := hh t (by simp)
    have b := sum_nonneg ts (fun u hu => hh u (by simp [hu]))
    simp only [List.sum_cons]; omega
theorem fact_pos : ∀ n, 0 < fact n
  | 0 => by decide
  | n + 1 => by
    have := fact_pos n
    simp only [fact]
    exact Int.mul_pos (by omega) this
theorem h_nonneg : ∀ (m : Nat) (ts : List Int) (n : Nat), ts.length = m → ts.length ≤ n → (∀ t ∈ ts, 0 ≤ t) → ts.sum ≤ n → ∀ j, 0 ≤ h n ts j
  | 0, ts, n, hm, _, _, _, j => by
    have : ts = [] := List.length_eq_zero_iff.mp hm
    subst this
    simp only [h]
    split
    · exact Int.le_of_lt (fact_pos n)
    · exact Int.le_refl _
  | m + 1, ts, n, hm, hn, hp, hs, j => by
    match ts, hm with
    | t :: ts, hm =>
      obtain ⟨k, rfl⟩ : ∃ k, n = k + 1 := ⟨n - 1, by simp at hn; omega⟩
      have hk : ts.length ≤ k := by simpa using hn
      have hm' : ts.length = m := by simpa using hm
      have ht : 0 ≤ t := hp t (by simp)
      have hts : ∀ t ∈ ts, 0 ≤ t := fun u hu => hp u (by simp [hu])
      simp only [List.sum_cons] at hs
      have hsn := sum_nonneg ts hts
      rw [row_with t ts k hk]
      have e2 : 0 ≤ S k (decs ts) j := by
        refine sum_nonneg _ fun u hu => ?_
        simp only [List.mem_map] at hu
        obtain ⟨p, hpm, rfl⟩ := hu
        obtain ⟨a, b, c, d⟩ := decs_mem ts hts p hpm
        by_cases z : p.1 = 0
        · rw [z]; simp
        · have zz : 0 < p.1 := by omega
          refine Int.mul_nonneg a (h_nonneg m p.2 k (by omega) (by omega) (d zz) (by omega) j)
      by_cases z : ts.sum ≤ k
      · have ih := h_nonneg m ts k hm' hk hts z
        have e1 : 0 ≤ t * sh (h k ts) j := Int.mul_nonneg ht (by cases j with | zero => exact Int.le_refl _ | succ j => exact ih j)
        have e3 : 0 ≤ ((k : Int) + 1 - t - ts.sum) * h k ts j := Int.mul_nonneg (by omega) (ih j)
        omega
      · have ez : t = 0 := by omega
        have es : (k : Int) + 1 - t - ts.sum = 0 := by omega
        rw [es, ez]; simp; exact e2

def tab {α : Type} (m : Nat) (f : Nat → α) : List α := (List.range m).map f
theorem tab_length {α : Type} (m : Nat) (f : Nat → α) : (tab m f).length = m := by simp [tab]
theorem tab_get {α : Type} (m : Nat) (f : Nat → α) (i : Nat) (hi : i < m) : (tab m f)[i]? = some (f i) := by simp [tab, hi]
theorem tab_congr {α : Type} {m : Nat} {f g : Nat → α} (e : ∀ i, i < m → f i = g i) : tab m f = tab m g := by
  unfold tab
  exact List.map_congr_left fun i hi => e i (by simpa using hi)
theorem tab_succ {α : Type} (m : Nat) (f : Nat → α) : tab (m + 1) f = tab m f ++ [f m] := by
  simp [tab, List.range_succ]
theorem tab_cons {α : Type} (m : Nat) (f : Nat → α) : tab (m + 1) f = f 0 :: tab m (fun i => f (i + 1)) := by
  simp only [tab, List.range_succ_eq_map, List.map_cons, List.map_map]; rfl
theorem tab_append {α : Type} (m k : Nat) (f : Nat → α) : tab (m + k) f = tab m f ++ tab k (fun i => f (m + i)) := by
  induction k with
  | zero => simp [tab]
  | succ k ih => rw [← Nat.add_assoc, tab_succ, ih, tab_succ, List.append_assoc]
theorem tab_set {α : Type} (m : Nat) (f : Nat → α) (k : Nat) (v : α) : (tab m f).set k v = tab m (fun i => if i = k then v else f i) := by
  apply List.ext_getElem?
  intro i
  rw [List.getElem?_set]
  by_cases hi : i < m
  · have e0 := tab_get m (fun i => if i = k then v else f i) i hi
    rw [e0]
    by_cases e : k = i
    · subst e; simp [tab_length, hi]
    · have : ¬ i = k := fun z => e z.symm
      rw [if_neg e, tab_get m f i hi, if_neg this]
  · have e1 : ∀ (f : Nat → α), (tab m f)[i]? = none := fun f => by simp [tab]; omega
    rw [e1, e1]
    by_cases e : k = i
    · subst e; simp [tab_length, hi]
    · simp [e]
theorem tab_self {α : Type} [Inhabited α] (xs : List α) : xs = tab xs.length (fun i => xs[i]?.getD default) := by
  apply List.ext_getElem?
  intro i
  by_cases hi : i < xs.length
  · rw [tab_get _ _ i hi]; simp [hi]
  · have : (tab xs.length (fun i => xs[i]?.getD default))[i]? = none := by simp [tab]; omega
    rw [this]; simp; omega
theorem tab_const (m : Nat) (f : Nat → Int) (e : ∀ i, i < m → f i = 0) : tab m f = List.replicate m 0 := by
  apply List.ext_getElem?
  intro i
  by_cases hi : i < m
  · rw [tab_get _ _ i hi, e i hi]; simp [hi]
  · have : (tab m f)[i]? = none := by simp [tab]; omega
    rw [this]; simp; omega
/-- the ways to choose k guests on seats of their own -/
def pk : List Int → Nat → Int
  | [], k => if k = 0 then 1 else 0
  | t :: ts, k => pk ts k + t * sh (pk ts) k
theorem pk_zero_of : ∀ (ts : List Int) (k : Nat), ts.length < k → pk ts k = 0
  | [], k, hk => by simp [pk]; simp at hk; omega
  | t :: ts, k, hk => by
    obtain ⟨m, rfl⟩ : ∃ m, k = m + 1 := ⟨k - 1, by simp at hk; omega⟩
    simp only [List.length_cons] at hk
    rw [pk, pk_zero_of ts _ (by omega)]
    simp only [sh]
    rw [pk_zero_of ts _ (by omega)]; simp
/-- the polynomial of m coefficients at x - 1 in place of x -/
def hit : Nat → (Nat → Int) → Nat → Int
  | 0, _, _ => 0
  | m + 1, c, j => (if j = 0 then c 0 else 0) + sh (hit m (fun k => c (k + 1))) j - hit m (fun k => c (k + 1)) j
theorem hit_congr : ∀ (m : Nat) (c d : Nat → Int), (∀ k, k < m → c k = d k) → ∀ j, hit m c j = hit m d j
  | 0, c, d, _, j => rfl
  | m + 1, c, d, e, j => by
    have i := hit_congr m (fun k => c (k + 1)) (fun k => d (k + 1)) (fun k hk => e (k + 1) (by omega))
    have f : hit m (fun k => c (k + 1)) = hit m (fun k => d (k + 1)) := funext i
    simp only [hit, f, e 0 (by omega)]
theorem hit_zero : ∀ (m : Nat) (j : Nat), hit m (fun _ => 0) j = 0
  | 0, j => rfl
  | m + 1, j => by
    have f : hit m (fun _ => 0) = fun _ => 0 := funext (hit_zero m)
    simp only [hit, f]
    cases j <;> simp [sh]
theorem hit_add : ∀ (m : Nat) (c d : Nat → Int) (j : Nat), hit m (fun k => c k + d k) j = hit m c j + hit m d j
  | 0, c, d, j => by simp [hit]
  | m + 1, c, d, j => by
    have i := hit_add m (fun k => c (k + 1)) (fun k => d (k + 1))
    have f : hit m (fun k => c (k + 1) + d (k + 1)) = fun j => hit m (fun k => c (k + 1)) j + hit m (fun k => d (k + 1)) j := funext i
    simp only [hit, f, sh_add]
    split <;> omega
theorem hit_mul : ∀ (m : Nat) (a : Int) (c : Nat → Int) (j : Nat), hit m (fun k => a * c k) j = a * hit m c j
  | 0, a, c, j => by simp [hit]
  | m + 1, a, c, j => by
    have i := hit_mul m a (fun k => c (k + 1))
    have f : hit m (fun k => a * c (k + 1)) = fun j => a * hit m (fun k => c (k + 1)) j := funext i
    simp only [hit, f, sh_mul]
    split <;> grind
/-- the chosen counts' polynomial is the hit polynomial -/
theorem hit_pk : ∀ (ts : List Int) (m n : Nat), ts.length ≤ m → m ≤ n → ∀ j, hit (m + 1) (fun k => pk ts k * fact (n - k)) j = h n ts j
  | [], m, n, _, _, j => by
    have e : ∀ j, hit m (fun k => pk [] (k + 1) * fact (n - (k + 1))) j = 0 := by
      intro j
      rw [hit_congr m _ (fun _ => 0) (fun k _ => by simp [pk]), hit_zero]
    have f : hit m (fun k => pk [] (k + 1) * fact (n - (k + 1))) = fun _ => 0 := funext e
    simp only [hit, f, h]
    cases j <;> simp [sh, pk]
  | t :: ts, m, n, hm, hn, j => by
    obtain ⟨m, rfl⟩ : ∃ k, m = k + 1 := ⟨m - 1, by simp at hm; omega⟩
    have hm' : ts.length ≤ m := by simpa using hm
    have i1 := hit_pk ts (m + 1) n (by omega) hn j
    have i0 := hit_pk ts m (n - 1) hm' (by omega)
    have e : (fun k => pk (t :: ts) k * fact (n - k)) = fun k => pk ts k * fact (n - k) + t * (sh (pk ts) k * fact (n - k)) := by
      funext k; simp only [pk]; grind
    have g : ∀ j, hit (m + 1) (fun k => sh (pk ts) (k + 1) * fact (n - (k + 1))) j = h (n - 1) ts j := by
      intro j
      rw [← i0 j]
      refine hit_congr _ _ _ (fun k hk => ?_) j
      show pk ts k * fact (n - (k + 1)) = pk ts k * fact (n - 1 - k)
      rw [show n - (k + 1) = n - 1 - k by omega]
    have gf : hit (m + 1) (fun k => sh (pk ts) (k + 1) * fact (n - (k + 1))) = h (n - 1) ts := funext g
    rw [e, hit_add, i1, hit_mul, h_cons]
    congr 2
    rw [hit, gf]
    simp [sh]
theorem h_zero_of : ∀ (ts : List Int) (n j : Nat), ts.length < j → h n ts j = 0
  | [], n, j, hj => by simp [h]; simp at hj; omega
  | t :: ts, n, j, hj => by
    obtain ⟨m, rfl⟩ : ∃ m, j = m + 1 := ⟨j - 1, by simp at hj; omega⟩
    simp only [List.length_cons] at hj
    rw [h_cons, h_zero_of ts _ _ (by omega), h_zero_of ts _ (m + 1) (by omega)]
    simp only [sh]
    rw [h_zero_of ts _ m (by omega)]; simp
/-- one division by x + 1: what is left of it -/
def bs : Nat → (Nat → Int) → Nat → Int
  | 0, _, _ => 0
  | m + 1, c, 0 => c 0 - bs m (fun k => c (k + 1)) 0
  | m + 1, c, k + 1 => bs m (fun k => c (k + 1)) k
theorem bs_out : ∀ (m : Nat) (c : Nat → Int) (k : Nat), m ≤ k → bs m c k = 0
  | 0, c, k, _ => by cases k <;> rfl
  | m + 1, c, k, hk => by
    obtain ⟨k, rfl⟩ : ∃ i, k = i + 1 := ⟨k - 1, by omega⟩
    rw [bs, bs_out m _ k (by omega)]
theorem bs_step : ∀ (m : Nat) (c : Nat → Int) (k : Nat), k < m → bs m c k = c k - bs m c (k + 1)
  | 0, c, k, hk => by omega
  | m + 1, c, 0, hk => by simp only [bs]
  | m + 1, c, k + 1, hk => by
    rw [bs, bs_step m _ k (by omega)]
    simp only [bs]
theorem hit_bs : ∀ (m : Nat) (c : Nat → Int) (j : Nat), hit (m + 1) c j = (if j = 0 then bs (m + 1) c 0 else 0) + sh (hit m (fun k => bs (m + 1) c (k + 1))) j
  | 0, c, j => by
    cases j <;> simp [hit, bs, sh]
  | m + 1, c, j => by
    have ih := hit_bs m (fun k => c (k + 1))
    have ihf := funext ih
    have e2 : ∀ j, hit (m + 1) (fun k => bs (m + 1 + 1) c (k + 1)) j = (if j = 0 then bs (m + 1) (fun k => c (k + 1)) 0 else 0) + sh (hit m (fun k => bs (m + 1) (fun k => c (k + 1)) (k + 1))) j - hit m (fun k => bs (m + 1) (fun k => c (k + 1)) (k + 1)) j := by
      intro j
      simp only [hit, bs]
    have e2f := funext e2
    rw [hit, e2f, ihf]
    cases j with
    | zero => simp [sh, bs]
    | succ j =>
      cases j with
      | zero => simp [sh, bs]
      | succ j => simp [sh]
theorem hit_bs0 (m : Nat) (c : Nat → Int) : hit (m + 1) c 0 = bs (m + 1) c 0 := by
  rw [hit_bs]; simp [sh]
theorem hit_bsS (m : Nat) (c : Nat → Int) (j : Nat) : hit (m + 1) c (j + 1) = hit m (fun k => bs (m + 1) c (k + 1)) j := by
  rw [hit_bs]; simp [sh]
/-- all together -/
theorem sum_tab_sh : ∀ (m : Nat) (f : Nat → Int), (tab (m + 1) (sh f)).sum = (tab m f).sum
  | m, f => by rw [tab_cons]; simp [sh]
theorem sum_tab_add (m : Nat) (f g : Nat → Int) : (tab m (fun i => f i + g i)).sum = (tab m f).sum + (tab m g).sum := by
  induction m with
  | zero => simp [tab]
  | succ m ih => rw [tab_succ, tab_succ, tab_succ]; simp [ih]; omega
theorem sum_tab_sub (m : Nat) (f g : Nat → Int) : (tab m (fun i => f i - g i)).sum = (tab m f).sum - (tab m g).sum := by
  induction m with
  | zero => simp [tab]
  | succ m ih => rw [tab_succ, tab_succ, tab_succ]; simp [ih]; omega
theorem sum_tab_mul (m : Nat) (a : Int) (f : Nat → Int) : (tab m (fun i => a * f i)).sum = a * (tab m f).sum := by
  induction m with
  | zero => simp [tab]
  | succ m ih => rw [tab_succ, tab_succ]; simp [ih]; grind
theorem sum_h : ∀ (ts : List Int) (m n : Nat), ts.length ≤ m → (tab (m + 1) (h n ts)).sum = fact n
  | [], m, n, _ => by
    rw [tab_cons, tab_const m _ (fun i _ => by simp [h])]; simp [h]
  | t :: ts, m, n, hm => by
    obtain ⟨m, rfl⟩ : ∃ k, m = k + 1 := ⟨m - 1, by simp at hm; omega⟩
    have hm' : ts.length ≤ m := by simpa using hm
    rw [h_cons_f, sum_tab_add, sum_h ts _ n (by omega), sum_tab_mul, sum_tab_sub, sum_tab_sh, sum_h ts (m + 1) (n - 1) (by omega), sum_h ts m (n - 1) hm']
    simp
/-- how many shun each seat -/
def cs (n : Nat) (xs : List Int) : List Int := tab n (fun s => (xs.count (s : Int) : Int))
theorem cs_length (n : Nat) (xs : List Int) : (cs n xs).length = n := tab_length _ _
theorem cs_nonneg (n : Nat) (xs : List Int) : ∀ t ∈ cs n xs, 0 ≤ t := by
  intro t ht
  simp only [cs, tab, List.mem_map] at ht
  obtain ⟨a, _, rfl⟩ := ht
  omega
theorem sum_tab_one (n : Nat) (x : Int) : (tab n (fun s => if x = (s : Int) then (1 : Int) else 0)).sum = if 0 ≤ x ∧ x < n then 1 else 0 := by
  induction n with
  | zero =>
    rw [if_neg (by omega)]; simp [tab]
  | succ n ih =>
    rw [tab_succ, List.sum_append, ih]
    simp only [List.sum_cons, List.sum_nil]
    by_cases e : x = (n : Int)
    · subst e; simp; omega
    · have : (0 ≤ x ∧ x < ((n + 1 : Nat) : Int)) ↔ (0 ≤ x ∧ x < (n : Int)) := by omega
      rw [if_neg e]
      by_cases c : 0 ≤ x ∧ x < (n : Int)
      · rw [if_pos c, if_pos (this.mpr c)]; rfl
      · rw [if_neg c, if_neg (fun z => c (this.mp z))]; rfl
theorem cs_cons (x : Int) (xs : List Int) (s : Nat) : ((x :: xs).count (s : Int) : Int) = (xs.count (s : Int) : Int) + if x = (s : Int) then 1 else 0 := by
  rw [List.count_cons]
  by_cases e : x = (s : Int) <;> simp [e]
theorem cs_sum_le (n : Nat) : ∀ (xs : List Int), (cs n xs).sum ≤ xs.length
  | [] => by
    rw [cs, tab_const _ _ (fun i _ => by simp)]; simp
  | x :: xs => by
    have e : cs n (x :: xs) = tab n (fun s => (xs.count (s : Int) : Int) + if x = (s : Int) then 1 else 0) := by
      unfold cs
      exact tab_congr fun i _ => cs_cons x xs i
    have i := cs_sum_le n xs
    rw [e, sum_tab_add, sum_tab_one]
    unfold cs at i
    simp only [List.length_cons]
    split <;> omega
/-- the counts of shuns -/
def due (n : Nat) (xs : List Int) : List Int := tab (n + 1) (h n (cs n xs))
theorem due_length (n : Nat) (xs : List Int) : (due n xs).length = n + 1 := tab_length _ _
theorem due_sum (n : Nat) (xs : List Int) : (due n xs).sum = fact n := sum_h _ _ _ (by rw [cs_length]; exact Nat.le_refl _)
theorem due_nonneg (n : Nat) (xs : List Int) (hx : xs.length = n) : ∀ t ∈ due n xs, 0 ≤ t := by
  intro t ht
  simp only [due, tab, List.mem_map] at ht
  obtain ⟨a, _, rfl⟩ := ht
  refine h_nonneg n _ n (cs_length _ _) (by rw [cs_length]; exact Nat.le_refl _) (cs_nonneg _ _) ?_ a
  have := cs_sum_le n xs
  omega
/-! the dict of tallies -/
def keysOf (xs : List Int) : List Int := xs.foldl (fun ks s => if s = -1 ∨ s ∈ ks then ks else ks ++ [s]) []
theorem keysOf_snoc (xs : List Int) (x : Int) : keysOf (xs ++ [x]) = if x = -1 ∨ x ∈ keysOf xs then keysOf xs else keysOf xs ++ [x] := by
  rw [keysOf, List.foldl_append]; rfl
theorem rev_ind {α : Type} {p : List α → Prop} (h0 : p []) (h1 : ∀ xs x, p xs → p (xs ++ [x])) : ∀ xs, p xs := by
  intro xs
  have : ∀ ys : List α, p ys.reverse := by
    intro ys
    induction ys with
    | nil => exact h0
    | cons y ys ih => rw [List.reverse_cons]; exact h1 _ _ ih
  have := this xs.reverse
  rwa [List.reverse_reverse] at this
theorem keysOf_mem (xs : List Int) : ∀ k, k ∈ keysOf xs ↔ k ∈ xs ∧ k ≠ -1 := by
  induction xs using rev_ind with
  | h0 => simp [keysOf]
  | h1 xs x ih =>
    intro k
    rw [keysOf_snoc]
    split
    · rename_i c
      rw [ih k]
      rcases c with rfl | c
      · simp only [List.mem_append, List.mem_singleton]; constructor
        · rintro ⟨a, b⟩; exact ⟨.inl a, b⟩
        · rintro ⟨a | a, b⟩
          · exact ⟨a, b⟩
          · exact absurd a b
      · have c2 := (ih x).mp c
        simp only [List.mem_append, List.mem_singleton]; constructor
        · rintro ⟨a, b⟩; exact ⟨.inl a, b⟩
        · rintro ⟨a | a, b⟩
          · exact ⟨a, b⟩
          · subst a; exact c2
    · rename_i c
      have c1 : x ≠ -1 := fun z => c (.inl z)
      simp only [List.mem_append, List.mem_singleton, ih k]
      constructor
      · rintro (⟨a, b⟩ | rfl)
        · exact ⟨.inl a, b⟩
        · exact ⟨.inr rfl, c1⟩
      · rintro ⟨a | a, b⟩
        · exact .inl ⟨a, b⟩
        · exact .inr a
theorem keysOf_nodup (xs : List Int) : (keysOf xs).Nodup := by
  induction xs using rev_ind with
  | h0 => simp [keysOf]
  | h1 xs x ih =>
    rw [keysOf_snoc]
    split
    · exact ih
    · rename_i c
      rw [List.nodup_append]
      refine ⟨ih, by simp, fun a ha b hb => ?_⟩
      simp only [List.mem_singleton] at hb
      subst hb
      intro z; subst z; exact c (.inr ha)
/-- the dict behind a list of shuns, its pairs -/
def tally (xs : List Int) : List (Int × Int) := (keysOf xs).map (fun k => (k, (xs.count k : Int)))
def tallies (xs : List Int) : List Int := (keysOf xs).map (fun k => (xs.count k : Int))
theorem nodup_map_inj {α β : Type} {f : α → β} (hf : ∀ a b, f a = f b → a = b) : ∀ {l : List α}, l.Nodup → (l.map f).Nodup
  | [], _ => by simp
  | x :: l, hl => by
    rw [List.nodup_cons] at hl
    rw [List.map_cons, List.nodup_cons]
    refine ⟨fun hm => ?_, nodup_map_inj hf hl.2⟩
    obtain ⟨a, ha, e⟩ := List.mem_map.mp hm
    exact hl.1 (hf _ _ e ▸ ha)
theorem tallies_perm (n : Nat) (xs : List Int) (hx : ∀ x ∈ xs, -1 ≤ x ∧ x < n) : (tallies xs).Perm ((cs n xs).filter (fun t => t != 0)) := by
  have e : (cs n xs).filter (fun t => t != 0) = (((List.range n).filter (fun (s : Nat) => ((xs.count (s : Int) : Int)) != 0)).map (fun (s : Nat) => (s : Int))).map (fun k => (xs.count k : Int)) := by
    rw [cs, tab, List.filter_map, List.map_map]; rfl
  rw [e, tallies]
  refine List.Perm.map _ ?_
  have hn : (((List.range n).filter (fun (s : Nat) => ((xs.count (s : Int) : Int)) != 0)).map (fun (s : Nat) => (s : Int))).Nodup :=
    nodup_map_inj (fun a b z => by omega) (List.Pairwise.filter _ List.nodup_range)
  rw [List.perm_ext_iff_of_nodup (keysOf_nodup xs) hn]
  intro a
  rw [keysOf_mem]
  simp only [List.mem_map, List.mem_filter, List.mem_range]
  constructor
  · rintro ⟨ha, hb⟩
    have := hx a ha
    refine ⟨a.toNat, ⟨by omega, ?_⟩, by omega⟩
    have e2 : ((a.toNat : Nat) : Int) = a := by omega
    rw [e2]
    have := List.count_pos_iff.mpr ha
    simp only [bne_iff_ne]
    omega
  · rintro ⟨s, ⟨hs, hc⟩, rfl⟩
    simp only [bne_iff_ne] at hc
    refine ⟨List.count_pos_iff.mp (by omega), by omega⟩
theorem h_tallies (n : Nat) (xs : List Int) (hx : ∀ x ∈ xs, -1 ≤ x ∧ x < n) (m j : Nat) : h m (tallies xs) j = h m (cs n xs) j := by
  rw [h_perm (tallies_perm n xs hx), h_filter]
theorem tallies_length (n : Nat) (xs : List Int) (hx : ∀ x ∈ xs, -1 ≤ x ∧ x < n) : (tallies xs).length ≤ n := by
  have := (tallies_perm n xs hx).length_eq
  rw [this]
  refine Nat.le_trans (List.length_filter_le _ _) ?_
  rw [cs_length]; exact Nat.le_refl _
/-! a guest freed -/
def freed (xs : List Int) (g : Nat) : List Int := xs.take g ++ [-1] ++ xs.drop (g + 1)
def alone (xs : List Int) (g : Nat) (s : Int) : List Int := (xs.take g ++ xs.drop (g + 1)).map (fun o => if o = s then -1 else if o > s then o - 1 else o)
theorem split_at (xs : List Int) (g : Nat) (s : Int) (hg : xs[g]? = some s) : xs = xs.take g ++ s :: xs.drop (g + 1) := by
  have hl : g < xs.length := (List.getElem?_eq_some_iff.mp hg).1
  have e : xs.drop g = s :: xs.drop (g + 1) := by
    rw [List.drop_eq_getElem_cons hl]
    rw [List.getElem?_eq_getElem hl] at hg
    rw [Option.some.inj hg]
  calc xs = xs.take g ++ xs.drop g := (List.take_append_drop g xs).symm
    _ = _ := by rw [e]
theorem count_freed (xs : List Int) (g : Nat) (s : Nat) (hg : xs[g]? = some (s : Int)) (v : Nat) :
    (xs.count (v : Int) : Int) = ((freed xs g).count (v : Int) : Int) + if v = s then 1 else 0 := by
  conv => lhs; rw [split_at xs g s hg]
  simp only [freed, List.count_append, List.count_cons, List.count_nil]
  have e1 : ((-1 : Int) == (v : Int)) = false := by rw [beq_eq_false_iff_ne]; omega
  by_cases e : v = s
  · subst e; simp [e1]; omega
  · have e2 : ((s : Int) == (v : Int)) = false := by rw [beq_eq_false_iff_ne]; omega
    simp [e1, e2, e]
theorem count_alone_aux (s : Nat) (v : Nat) : ∀ (ys : List Int), (∀ y ∈ ys, -1 ≤ y) →
    (ys.map (fun o => if o = (s : Int) then -1 else if o > (s : Int) then o - 1 else o)).count (v : Int) = ys.count ((if v < s then v else v + 1 : Nat) : Int)
  | [], _ => by simp
  | y :: ys, hy => by
    have i := count_alone_aux s v ys (fun u hu => hy u (by simp [hu]))
    have y1 := hy y (by simp)
    rw [List.map_cons, List.count_cons, List.count_cons, i]
    congr 1
    have : ((if y = (s : Int) then -1 else if y > (s : Int) then y - 1 else y) == (v : Int)) = (y == ((if v < s then v else v + 1 : Nat) : Int)) := by
      rw [Bool.eq_iff_iff]
      simp only [beq_iff_eq]
      split <;> split <;> (try split) <;> omega
    rw [this]
theorem count_alone (xs : List Int) (g : Nat) (s : Nat) (hg : xs[g]? = some (s : Int)) (hx : ∀ x ∈ xs, -1 ≤ x) (v : Nat) :
    (alone xs g s).count (v : Int) = xs.count ((if v < s then v else v + 1 : Nat) : Int) := by
  unfold alone
  rw [count_alone_aux s v _ (fun y hy => hx y (by
    rw [split_at xs g s hg]
    simp only [List.mem_append, List.mem_cons] at hy ⊢
    rcases hy with a | a
    · exact .inl a
    · exact .inr (.inr a)))]
  conv => rhs; rw [split_at xs g s hg]
  simp only [List.count_append, List.count_cons]
  have e2 : ((s : Int) == ((if v < s then v else v + 1 : Nat) : Int)) = false := by
    simp only [beq_eq_false_iff_ne]; split <;> omega
  simp [e2]
/-- promise 3, of the spec -/
theorem due_freed (n : Nat) (xs : List Int) (g s : Nat) (hg : xs[g]? = some (s : Int)) (hs : s ≤ n) (hx : ∀ x ∈ xs, -1 ≤ x) (j : Nat) :
    h (n + 1) (cs (n + 1) xs) j = h (n + 1) (cs (n + 1) (freed xs g)) j - h n (cs n (alone xs g s)) j + sh (h n (cs n (alone xs g s))) j := by
  obtain ⟨r, hr⟩ : ∃ r, n = s + r := ⟨n - s, by omega⟩
  have a1 : cs (n + 1) xs = tab s (fun v => (xs.count (v : Int) : Int)) ++ (xs.count (s : Int) : Int) :: tab r (fun v => (xs.count ((s + 1 + v : Nat) : Int) : Int)) := by
    rw [cs, show n + 1 = (s + 1) + r by omega, tab_append, tab_succ]; simp
  have a2 : cs (n + 1) (freed xs g) = tab s (fun v => (xs.count (v : Int) : Int)) ++ ((xs.count (s : Int) : Int) - 1) :: tab r (fun v => (xs.count ((s + 1 + v : Nat) : Int) : Int)) := by
    rw [cs, show n + 1 = (s + 1) + r by omega, tab_append, tab_succ]
    rw [List.append_assoc]
    congr 1
    · refine tab_congr fun i hi => ?_
      have := count_freed xs g s hg i
      rw [if_neg (by omega)] at this
      omega
    · have := count_freed xs g s hg s
      rw [if_pos rfl] at this
      show _ :: _ = _
      rw [show ((freed xs g).count (s : Int) : Int) = (xs.count (s : Int) : Int) - 1 by omega]
      congr 1
      refine tab_congr fun i hi => ?_
      have := count_freed xs g s hg (s + 1 + i)
      rw [if_neg (by omega)] at this
      omega
  have a3 : cs n (alone xs g s) = tab s (fun v => (xs.count (v : Int) : Int)) ++ tab r (fun v => (xs.count ((s + 1 + v : Nat) : Int) : Int)) := by
    rw [cs, hr, tab_append]
    congr 1
    · refine tab_congr fun i hi => ?_
      rw [count_alone xs g s hg hx, if_pos hi]
    · refine tab_congr fun i hi => ?_
      rw [count_alone xs g s hg hx, if_neg (by omega)]
      rw [show s + i + 1 = s + 1 + i by omega]
  rw [a1, a2, a3, h_mid, h_mid]
  simp only [Nat.add_sub_cancel]
  grind
/-! by trying: every order there is -/
def ins (o : List Int) (m k : Nat) : List Int := o.take k ++ [(m : Int)] ++ o.drop k
def ords : Nat → List (List Int)
  | 0 => [[]]
  | m + 1 => (ords m).flatMap (fun o => tab (m + 1) (fun k => ins o m k))
def hitsOf (o xs : List Int) : Nat := ((o.zip xs).filter (fun p => p.1 == p.2)).length
theorem ords_mem : ∀ (m : Nat) (o : List Int), o ∈ ords m → o.length = m
  | 0, o, ho => by simp [ords] at ho; simp [ho]
  | m + 1, o, ho => by
    simp only [ords, List.mem_flatMap, tab, List.mem_map, List.mem_range] at ho
    obtain ⟨p, hp, k, hk, rfl⟩ := ho
    have := ords_mem m p hp
    simp [ins]; omega
def del (xs : List Int) (k : Nat) : List Int := xs.take k ++ xs.drop (k + 1)
theorem hits_ins (o xs : List Int) (m k : Nat) (ho : o.length = m) (hk : k ≤ m) (v : Int) (hv : xs[k]? = some v) :
    hitsOf (ins o m k) xs = hitsOf o (del xs k) + if v = (m : Int) then 1 else 0 := by
  have hl : k < xs.length := (List.getElem?_eq_some_iff.mp hv).1
  unfold hitsOf ins del
  conv => lhs; rw [split_at xs k v hv]
  rw [List.append_assoc, List.zip_append (by simp; omega)]
  have e : o.zip (xs.take k ++ xs.drop (k + 1)) = (o.take k).zip (xs.take k) ++ (o.drop k).zip (xs.drop (k + 1)) := by
    conv => lhs; rw [← List.take_append_drop k o]
    rw [List.zip_append (by simp; omega)]
  rw [e]
  simp only [List.singleton_append, List.zip_cons_cons, List.filter_append, List.length_append, List.filter_cons]
  by_cases c : v = (m : Int)
  · subst c; simp; omega
  · have : ((m : Int) == v) = false := by rw [beq_eq_false_iff_ne]; exact fun z => c z.symm
    simp [this, c]
def T (m : Nat) (xs : List Int) (j : Nat) : Int := ((ords m).countP (fun o => hitsOf o xs == j) : Int)
theorem sum_tab_comm (m : Nat) (as : List (List Int)) (f : List Int → Nat → Int) : (as.map (fun a => (tab m (f a)).sum)).sum = (tab m (fun k => (as.map (fun a => f a k)).sum)).sum := by
  induction as with
  | nil => simp; rw [tab_const m _ (fun _ _ => rfl)]; simp
  | cons a as ih =>
    rw [List.map_cons, List.sum_cons, ih, ← sum_tab_add]
    simp
theorem countP_sum {α : Type} (p : α → Bool) : ∀ (l : List α), (l.countP p : Int) = (l.map (fun a => if p a then (1 : Int) else 0)).sum
  | [] => by simp
  | a :: l => by
    rw [List.countP_cons, List.map_cons, List.sum_cons, ← countP_sum p l]
    split <;> simp <;> omega
theorem countP_flatMap_sum {α β : Type} (p : β → Bool) (f : α → List β) : ∀ (l : List α), ((l.flatMap f).countP p : Int) = (l.map (fun a => ((f a).countP p : Int))).sum
  | [] => by simp
  | a :: l => by
    rw [List.flatMap_cons, List.countP_append, List.map_cons, List.sum_cons, ← countP_flatMap_sum p f l]
    omega
theorem T_succ (m : Nat) (xs : List Int) (hx : xs.length = m + 1) (j : Nat) :
    T (m + 1) xs j = (tab (m + 1) (fun k => if xs[k]?.getD 0 = (m : Int) then sh (T m (del xs k)) j else T m (del xs k) j)).sum := by
  unfold T
  rw [ords, countP_flatMap_sum]
  have e1 : ∀ o ∈ ords m, (((tab (m + 1) (fun k => ins o m k)).countP (fun o => hitsOf o xs == j) : Nat) : Int) = (tab (m + 1) (fun k => if hitsOf o (del xs k) + (if xs[k]?.getD 0 = (m : Int) then 1 else 0) = j then (1 : Int) else 0)).sum := by
    intro o ho
    have hl := ords_mem m o ho
    rw [countP_sum]
    unfold tab
    rw [List.map_map]
    congr 1
    refine List.map_congr_left fun k hk => ?_
    have hk : k < m + 1 := by simpa using hk
    have hv : xs[k]? = some (xs[k]?.getD 0) := by
      rw [List.getElem?_eq_getElem (by omega)]; rfl
    show (if (hitsOf (ins o m k) xs == j) = true then (1 : Int) else 0) = _
    rw [hits_ins o xs m k hl (by omega) _ hv]
    simp only [beq_iff_eq]
  rw [List.map_congr_left e1, sum_tab_comm]
  congr 1
  refine tab_congr fun k hk => ?_
  by_cases c : xs[k]?.getD 0 = (m : Int)
  · simp only [if_pos c]
    cases j with
    | zero =>
      simp only [sh]
      rw [List.map_congr_left (g := fun _ => (0 : Int)) (fun o _ => by rw [if_neg (by omega)])]
      induction ords m with
      | nil => rfl
      | cons a l ih => simp [ih]
    | succ j =>
      simp only [sh]
      rw [countP_sum]
      congr 1
      refine List.map_congr_left fun o _ => ?_
      simp only [Nat.add_right_cancel_iff, beq_iff_eq]
  · simp only [if_neg c, Nat.add_zero]
    rw [countP_sum]
    congr 1
    refine List.map_congr_left fun o _ => ?_
    simp only [beq_iff_eq]
theorem count_del (xs : List Int) (k : Nat) (v : Int) (hv : xs[k]? = some v) (s : Nat) : ((del xs k).count (s : Int) : Int) = (xs.count (s : Int) : Int) - if v = (s : Int) then 1 else 0 := by
  conv => rhs; rw [split_at xs k v hv]
  simp only [del, List.count_append, List.count_cons]
  by_cases c : v = (s : Int)
  · subst c; simp; omega
  · have : (v == (s : Int)) = false := by rw [beq_eq_false_iff_ne]; exact c
    simp [this, c]
/-- a seat's number less by one -/
def dec1 (ts : List Int) (s : Nat) : List Int := ts.set s (ts[s]?.getD 0 - 1)
theorem cs_del (m : Nat) (xs : List Int) (k : Nat) (v : Int) (hv : xs[k]? = some v) : cs m (del xs k) = if 0 ≤ v ∧ v < m then dec1 (cs m xs) v.toNat else cs m xs := by
  split
  · rename_i c
    unfold dec1
    conv => rhs; rw [cs]
    rw [tab_set]
    unfold cs
    refine tab_congr fun i hi => ?_
    rw [count_del xs k v hv]
    by_cases e : i = v.toNat
    · subst e
      rw [if_pos (by omega), if_pos rfl, tab_get _ _ _ hi]; rfl
    · rw [if_neg (by omega), if_neg e]; omega
  · rename_i c
    unfold cs
    refine tab_congr fun i hi => ?_
    rw [count_del xs k v hv, if_neg (by omega)]; omega
theorem decs_eq : ∀ (ts : List Int), decs ts = tab ts.length (fun s => (ts[s]?.getD 0, dec1 ts s))
  | [] => rfl
  | t :: ts => by
    rw [List.length_cons, tab_cons, decs, decs_eq ts]
    congr 1
    unfold tab
    rw [List.map_map]
    rfl
theorem group (m : Nat) (F : Nat → Int) (A : Int) : ∀ (xs : List Int), (xs.map (fun v => if 0 ≤ v ∧ v < (m : Int) then F v.toNat else A)).sum = (tab m (fun s => (xs.count (s : Int) : Int) * F s)).sum + ((xs.length : Int) - (cs m xs).sum) * A
  | [] => by
    rw [cs, tab_const _ _ (fun i _ => by simp), tab_const _ _ (fun i _ => by simp)]; simp
  | x :: xs => by
    have i := group m F A xs
    rw [List.map_cons, List.sum_cons, i]
    have e : (tab m (fun s => ((x :: xs).count (s : Int) : Int) * F s)).sum = (tab m (fun s => (xs.count (s : Int) : Int) * F s)).sum + if 0 ≤ x ∧ x < (m : Int) then F x.toNat else 0 := by
      rw [tab_congr (g := fun s => (xs.count (s : Int) : Int) * F s + F x.toNat * (if x = (s : Int) then (1 : Int) else 0)) (fun s _ => by
        rw [cs_cons]
        by_cases c : x = (s : Int)
        · subst c; simp; grind
        · simp [c])]
      rw [sum_tab_add, sum_tab_mul, sum_tab_one]
      split <;> simp
    have e2 : (cs m (x :: xs)).sum = (cs m xs).sum + if 0 ≤ x ∧ x < (m : Int) then 1 else 0 := by
      unfold cs
      rw [tab_congr (fun s _ => cs_cons x xs s), sum_tab_add, sum_tab_one]
    rw [e, e2, List.length_cons]
    push_cast
    by_cases c : 0 ≤ x ∧ x < (m : Int)
    · simp only [if_pos c]; grind
    · simp only [if_neg c]; grind
def gF (m : Nat) (xs : List Int) (j s : Nat) : Int := if s = m then sh (h m (cs m xs)) j else h m (dec1 (cs m xs) s) j
def gG (m : Nat) (xs : List Int) (j : Nat) (v : Int) : Int := if 0 ≤ v ∧ v < ((m + 1 : Nat) : Int) then gF m xs j v.toNat else h m (cs m xs) j
theorem map_self {β : Type} (n : Nat) (xs : List Int) (hx : xs.length = n) (G : Int → β) : tab n (fun k => G (xs[k]?.getD 0)) = xs.map G := by
  have : xs = tab n (fun k => xs[k]?.getD 0) := by
    have := tab_self xs; rw [hx] at this; exact this
  have e : (tab n (fun k => xs[k]?.getD 0)).map G = tab n (fun k => G (xs[k]?.getD 0)) := by
    unfold tab; rw [List.map_map]; rfl
  rw [← e, ← this]
theorem tried : ∀ (m : Nat) (xs : List Int), xs.length = m → ∀ j, T m xs j = h m (cs m xs) j
  | 0, xs, hx, j => by
    have : xs = [] := List.length_eq_zero_iff.mp hx
    subst this
    simp only [T, ords, cs, tab, List.range_zero, List.map_nil, h, hitsOf]
    by_cases e : j = 0
    · subst e; rfl
    · have : (0 == j) = false := by rw [beq_eq_false_iff_ne]; exact fun z => e z.symm
      simp [e, this]
  | m + 1, xs, hx, j => by
    have hdel : ∀ k, k < m + 1 → (del xs k).length = m := by
      intro k hk; simp [del]; omega
    have e1 : ∀ k, k < m + 1 → (if xs[k]?.getD 0 = (m : Int) then sh (T m (del xs k)) j else T m (del xs k) j) = gG m xs j (xs[k]?.getD 0) := by
      intro k hk
      have ih := funext (tried m (del xs k) (hdel k hk))
      have hv : xs[k]? = some (xs[k]?.getD 0) := by
        rw [List.getElem?_eq_getElem (by omega)]; rfl
      rw [ih, cs_del m xs k _ hv]
      generalize xs[k]?.getD 0 = v
      unfold gG gF
      by_cases c : v = (m : Int)
      · subst c
        rw [if_pos rfl, if_neg (by omega), if_pos (by omega), if_pos (by omega)]
      · rw [if_neg c]
        by_cases d : 0 ≤ v ∧ v < (m : Int)
        · rw [if_pos d, if_pos (by omega), if_neg (by omega)]
        · rw [if_neg d, if_neg (by omega)]
    have e5 : (xs.map (gG m xs j)).sum = (tab (m + 1) (fun s => (xs.count (s : Int) : Int) * gF m xs j s)).sum + ((xs.length : Int) - (cs (m + 1) xs).sum) * h m (cs m xs) j := group (m + 1) (gF m xs j) _ xs
    rw [T_succ m xs hx j, tab_congr e1, map_self (m + 1) xs hx (gG m xs j), e5, tab_succ, List.sum_append]
    have e3 : tab m (fun s => (xs.count (s : Int) : Int) * gF m xs j s) = (decs (cs m xs)).map (fun p => p.1 * h m p.2 j) := by
      rw [decs_eq, cs_length]
      unfold tab
      rw [List.map_map]
      refine List.map_congr_left fun s hs => ?_
      have hs : s < m := by simpa using hs
      show (xs.count (s : Int) : Int) * (if s = m then sh (h m (cs m xs)) j else h m (dec1 (cs m xs) s) j) = ((cs m xs)[s]?.getD 0) * h m (dec1 (cs m xs) s) j
      rw [if_neg (by omega)]
      rw [show (cs m xs)[s]? = some (xs.count (s : Int) : Int) from tab_get _ _ _ hs]; rfl
    rw [e3]
    have e4 : cs (m + 1) xs = cs m xs ++ [(xs.count (m : Int) : Int)] := tab_succ _ _
    have p : (cs m xs ++ [(xs.count (m : Int) : Int)]).Perm ((xs.count (m : Int) : Int) :: cs m xs) := List.perm_append_comm
    rw [e4, h_perm p, row_with _ _ m (by rw [cs_length]; exact Nat.le_refl _)]
    have e6 : gF m xs j m = sh (h m (cs m xs)) j := if_pos rfl
    simp only [S, List.sum_append, List.sum_cons, List.sum_nil, hx, e6]
    push_cast
    grind
/-! bounds -/
theorem pow2_mono {a b : Nat} (h : a ≤ b) : (2 : Int) ^ a ≤ 2 ^ b := by
  have : (2 : Nat) ^ a ≤ 2 ^ b := Nat.pow_le_pow_right (by decide) h
  exact_mod_cast this
theorem one_add_le_pow (t : Nat) : (t : Int) + 1 ≤ 2 ^ t := by
  have : t + 1 ≤ 2 ^ t := Nat.lt_two_pow_self
  exact_mod_cast this
theorem pk_bound : ∀ (ts : List Int), (∀ t ∈ ts, 0 ≤ t) → ∀ k, 0 ≤ pk ts k ∧ pk ts k ≤ 2 ^ ts.sum.toNat
  | [], _, k => by
    simp only [pk, List.sum_nil]
    split <;> decide
  | t :: ts, h, k => by
    have ht : 0 ≤ t := h t (by simp)
    have hts : ∀ t ∈ ts, 0 ≤ t := fun u hu => h u (by simp [hu])
    have hs := sum_nonneg ts hts
    have ih := pk_bound ts hts
    obtain ⟨a1, a2⟩ := ih k
    have b : 0 ≤ sh (pk ts) k ∧ sh (pk ts) k ≤ 2 ^ ts.sum.toNat := by
      cases k with
      | zero =>
        refine ⟨Int.le_refl _, ?_⟩
        have := pow2_mono (Nat.zero_le ts.sum.toNat)
        show (0 : Int) ≤ _
        omega
      | succ k => exact ih k
    have e : (t :: ts).sum.toNat = t.toNat + ts.sum.toNat := by rw [List.sum_cons]; omega
    rw [pk, e, Int.pow_add]
    have q := one_add_le_pow t.toNat
    have p0 : (0 : Int) ≤ 2 ^ ts.sum.toNat := Int.le_trans a1 a2
    have m1 : t * sh (pk ts) k ≤ t * 2 ^ ts.sum.toNat := Int.mul_le_mul_of_nonneg_left b.2 ht
    have m2 : ((t.toNat : Int) + 1) * 2 ^ ts.sum.toNat ≤ 2 ^ t.toNat * 2 ^ ts.sum.toNat := Int.mul_le_mul_of_nonneg_right q p0
    have m0 : 0 ≤ t * sh (pk ts) k := Int.mul_nonneg ht b.1
    have et : ((t.toNat : Int) + 1) * 2 ^ ts.sum.toNat = t * 2 ^ ts.sum.toNat + 2 ^ ts.sum.toNat := by
      rw [show ((t.toNat : Nat) : Int) = t by omega, Int.add_mul, Int.one_mul]
    omega
theorem sum_perm {as bs : List Int} (p : as.Perm bs) : as.sum = bs.sum := by
  induction p with
  | nil => rfl
  | cons x _ ih => simp [ih]
  | swap x y l => simp; omega
  | trans _ _ a b => rw [a, b]
theorem sum_filter_ne (ts : List Int) : (ts.filter (fun t => t != 0)).sum = ts.sum := by
  induction ts with
  | nil => rfl
  | cons t ts ih =>
    by_cases e : t = 0
    · subst e; simp [ih]
    · rw [List.filter_cons_of_pos (by simpa using e)]; simp [ih]
theorem tallies_sum (n : Nat) (xs : List Int) (hx : ∀ x ∈ xs, -1 ≤ x ∧ x < n) : (tallies xs).sum ≤ xs.length := by
  rw [sum_perm (tallies_perm n xs hx), sum_filter_ne]
  exact cs_sum_le n xs
theorem tallies_nonneg (xs : List Int) : ∀ t ∈ tallies xs, 0 ≤ t := by
  intro t ht
  simp only [tallies, List.mem_map] at ht
  obtain ⟨k, _, rfl⟩ := ht
  omega
theorem pk_small {ts : List Int} (h : ∀ t ∈ ts, 0 ≤ t) (hs : ts.sum ≤ 63) (k : Nat) : -(2 ^ 64) < pk ts k ∧ pk ts k < 2 ^ 64 := by
  obtain ⟨a, b⟩ := pk_bound ts h k
  have := pow2_mono (a := ts.sum.toNat) (b := 63) (by omega)
  have e : (2 : Int) ^ 63 = 9223372036854775808 := by decide
  have e' : (2 : Int) ^ 64 = 18446744073709551616 := by decide
  omega
theorem le_sum {ts : List Int} (h : ∀ t ∈ ts, 0 ≤ t) {t : Int} (ht : t ∈ ts) : t ≤ ts.sum := by
  induction ts with
  | nil => simp at ht
  | cons u us ih =>
    have hu := h u (by simp)
    have hus : ∀ t ∈ us, 0 ≤ t := fun v hv => h v (by simp [hv])
    have := sum_nonneg us hus
    simp only [List.sum_cons]
    rcases List.mem_cons.mp ht with rfl | ht
    · omega
    · have := ih hus ht; omega
/-! the ways to choose, by turns -/
theorem ways_start (P : List Int) : tab (P.length + 1) (pk P) ++ [0] = tab (P.length + 2) (pk P) := by
  rw [tab_succ (P.length + 1), pk_zero_of P _ (Nat.lt_succ_self _)]
/-- the list after j of the inner turns -/
def wayF (P : List Int) (t : Int) (j i : Nat) : Int := if P.length + 1 < i + j then pk (t :: P) i else pk P i
theorem wayF_zero (P : List Int) (t : Int) : tab (P.length + 2) (wayF P t 0) = tab (P.length + 2) (pk P) :=
  tab_congr fun i hi => if_neg (by omega)
theorem wayF_end (P : List Int) (t : Int) : tab (P.length + 2) (wayF P t (P.length + 1)) = tab ((t :: P).length + 1) (pk (t :: P)) := by
  refine tab_congr fun i hi => ?_
  unfold wayF
  split
  · rfl
  · have : i = 0 := by omega
    subst this
    simp [pk, sh]
theorem wayF_step (P : List Int) (t : Int) (j : Nat) (hj : j < P.length + 1) :
    (tab (P.length + 2) (wayF P t j)).set (P.length + 1 - j) (wayF P t j (P.length + 1 - j) + wayF P t j (P.length - j) * t) = tab (P.length + 2) (wayF P t (j + 1)) := by
  rw [tab_set]
  refine tab_congr fun i hi => ?_
  by_cases e : i = P.length + 1 - j
  · subst e
    rw [if_pos rfl]
    unfold wayF
    rw [if_neg (by omega), if_neg (by omega), if_pos (by omega), pk]
    obtain ⟨m, hm⟩ : ∃ m, P.length + 1 - j = m + 1 := ⟨P.length - j, by omega⟩
    rw [hm, show P.length - j = m by omega]
    simp only [sh]
    rw [Int.mul_comm]
  · rw [if_neg e]
    unfold wayF
    by_cases c : P.length + 1 < i + j
    · rw [if_pos c, if_pos (by omega)]
    · rw [if_neg c, if_neg (by omega)]
/-! the exact counts, by turns -/
def ex (m : Nat) (c : Nat → Int) : Nat → Nat → Int
  | 0 => c
  | d + 1 => fun i => if i < d then ex m c d i else bs (m - d) (fun k => ex m c d (k + d)) (i - d)
theorem ex_step (m : Nat) (c : Nat → Int) (d i : Nat) (h1 : d ≤ i) (h2 : i + 1 < m) : ex m c (d + 1) i = ex m c d i - ex m c (d + 1) (i + 1) := by
  simp only [ex]
  rw [if_neg (by omega), if_neg (by omega), bs_step _ _ _ (by omega)]
  rw [show i - d + d = i by omega, show i + 1 - d = i - d + 1 by omega]
theorem ex_last (m : Nat) (c : Nat → Int) (d : Nat) (h : d < m) : ex m c (d + 1) (m - 1) = ex m c d (m - 1) := by
  simp only [ex]
  rw [if_neg (by omega), bs_step _ _ _ (by omega), bs_out _ _ _ (by omega)]
  rw [show m - 1 - d + d = m - 1 by omega]; omega
theorem ex_low (m : Nat) (c : Nat → Int) (d i : Nat) (h : i < d) : ex m c (d + 1) i = ex m c d i := by
  simp only [ex]
  rw [if_pos h]
theorem ex_inv (m : Nat) (c : Nat → Int) : ∀ d, d < m → (∀ j, j < d → ex m c d j = hit m c j) ∧ ∀ j, hit m c (d + j) = hit (m - d) (fun k => ex m c d (k + d)) j
  | 0, _ => ⟨fun j hj => by omega, fun j => by rw [Nat.zero_add]; rfl⟩
  | d + 1, hd => by
    obtain ⟨a, b⟩ := ex_inv m c d (by omega)
    obtain ⟨r, hr⟩ : ∃ r, m - d = r + 1 := ⟨m - d - 1, by omega⟩
    have hr2 : m - (d + 1) = r := by omega
    constructor
    · intro j hj
      by_cases e : j < d
      · rw [ex_low m c d j e, a j e]
      · have : j = d := by omega
        subst this
        have := b 0
        rw [Nat.add_zero] at this
        rw [this, hr, hit_bs0]
        simp only [ex]
        rw [if_neg (by omega), hr, Nat.sub_self]
    · intro j
      have := b (j + 1)
      rw [show d + 1 + j = d + (j + 1) by omega, this, hr, hit_bsS, hr2]
      refine hit_congr _ _ _ (fun k hk => ?_) j
      simp only [ex]
      rw [if_neg (by omega), hr, show k + (d + 1) - d = k + 1 by omega]
theorem ex_done (m : Nat) (c : Nat → Int) (hm : 0 < m) : tab m (ex m c (m - 1)) = tab m (hit m c) := by
  obtain ⟨a, b⟩ := ex_inv m c (m - 1) (by omega)
  refine tab_congr fun i hi => ?_
  by_cases e : i < m - 1
  · exact a i e
  · have : i = m - 1 := by omega
    subst this
    have := b 0
    rw [Nat.add_zero, show m - (m - 1) = 0 + 1 by omega] at this
    rw [this]
    simp [hit, sh]
/-- the list after j of the inner turns of turn d -/
def exF (m : Nat) (c : Nat → Int) (d j i : Nat) : Int := if m ≤ i + j + 1 then ex m c (d + 1) i else ex m c d i
theorem exF_zero (m : Nat) (c : Nat → Int) (d : Nat) (hd : d < m) : tab m (exF m c d 0) = tab m (ex m c d) := by
  refine tab_congr fun i hi => ?_
  unfold exF
  split
  · have : i = m - 1 := by omega
    subst this
    exact ex_last m c d hd
  · rfl
theorem exF_end (m : Nat) (c : Nat → Int) (d : Nat) (hd : d < m) : tab m (exF m c d (m - 1 - d)) = tab m (ex m c (d + 1)) := by
  refine tab_congr fun i hi => ?_
  unfold exF
  split
  · rfl
  · exact (ex_low m c d i (by omega)).symm
theorem exF_step (m : Nat) (c : Nat → Int) (d j : Nat) (hj : j < m - 1 - d) :
    (tab m (exF m c d j)).set (m - 2 - j) (exF m c d j (m - 2 - j) - exF m c d j (m - 1 - j)) = tab m (exF m c d (j + 1)) := by
  rw [tab_set]
  refine tab_congr fun i hi => ?_
  by_cases e : i = m - 2 - j
  · subst e
    rw [if_pos rfl]
    unfold exF
    have q := ex_step m c d (m - 2 - j) (by omega) (by omega)
    rw [show m - 2 - j + 1 = m - 1 - j by omega] at q
    rw [if_neg (by omega), if_pos (by omega), if_pos (by omega), q]
  · rw [if_neg e]
    unfold exF
    by_cases cc : m ≤ i + j + 1
    · rw [if_pos cc, if_pos (by omega)]
    · rw [if_neg cc, if_neg (by omega)]
/-! the program's counts -/
theorem told_due (n : Nat) (xs : List Int) (hx : ∀ x ∈ xs, -1 ≤ x ∧ x < n) :
    tab ((tallies xs).length + 1) (hit ((tallies xs).length + 1) (fun k => pk (tallies xs).reverse k * fact (n - k))) ++ List.replicate (n - (tallies xs).length) 0 = due n xs := by
  have hl := tallies_length n xs hx
  have e : ∀ j, hit ((tallies xs).length + 1) (fun k => pk (tallies xs).reverse k * fact (n - k)) j = h n (cs n xs) j := by
    intro j
    have := hit_pk (tallies xs).reverse (tallies xs).length n (by simp) hl j
    rw [this, h_perm (List.reverse_perm _), h_tallies n xs hx]
  have ed : due n xs = tab ((tallies xs).length + 1) (h n (cs n xs)) ++ tab (n - (tallies xs).length) (fun i => h n (cs n xs) ((tallies xs).length + 1 + i)) := by
    unfold due
    rw [← tab_append, show (tallies xs).length + 1 + (n - (tallies xs).length) = n + 1 by omega]
  rw [ed]
  congr 1
  · exact tab_congr fun i _ => e i
  · refine (tab_const _ _ fun i _ => ?_).symm
    rw [← h_tallies n xs hx]
    exact h_zero_of _ _ _ (by omega)
/-! the law's own counts -/
theorem law_counts_eq (n : Nat) (xs : List Int) : ∀ j, hit (n + 1) (fun k => pk (cs n xs).reverse k * fact (n - k)) j = h n (cs n xs) j := by
  intro j
  rw [hit_pk (cs n xs).reverse n n (by simp [cs_length]) (Nat.le_refl _) j, h_perm (List.reverse_perm _)]
theorem cs_succ (m : Nat) (xs : List Int) : (cs (m + 1) xs).reverse = (xs.count (m : Int) : Int) :: (cs m xs).reverse := by
  unfold cs
  rw [tab_succ, List.reverse_append]; rfl
theorem picks_at (P : List Int) (t : Int) (i : Nat) (hi : i < P.length + 2) :
    (tab (P.length + 1) (pk P) ++ [0])[i]?.getD 0 + t * (0 :: tab (P.length + 1) (pk P))[i]?.getD 0 = pk (t :: P) i := by
  rw [ways_start, tab_get _ _ _ hi, Option.getD_some, pk]
  congr 2
  cases i with
  | zero => rfl
  | succ i => rw [List.getElem?_cons_succ, tab_get _ _ _ (by omega)]; rfl
/-- one turn of the while: what is left -/
def left (m : Nat) (c : Nat → Int) : Nat → Nat → Int
  | 0 => c
  | d + 1 => fun i => bs (m - d) (left m c d) (i + 1)
theorem left_inv (m : Nat) (c : Nat → Int) : ∀ d, d ≤ m → ∀ j, hit m c (d + j) = hit (m - d) (left m c d) j
  | 0, _, j => by rw [Nat.zero_add]; rfl
  | d + 1, hd, j => by
    have b := left_inv m c d (by omega) (j + 1)
    obtain ⟨r, hr⟩ : ∃ r, m - d = r + 1 := ⟨m - d - 1, by omega⟩
    rw [show d + 1 + j = d + (j + 1) by omega, b, hr, hit_bsS, show m - (d + 1) = r by omega]
    simp only [left, hr]
theorem left_head (m : Nat) (c : Nat → Int) (d : Nat) (hd : d < m) : bs (m - d) (left m c d) 0 = hit m c d := by
  have b := left_inv m c d (by omega) 0
  obtain ⟨r, hr⟩ : ∃ r, m - d = r + 1 := ⟨m - d - 1, by omega⟩
  rw [Nat.add_zero] at b
  rw [b, hr, hit_bs0]
theorem tab_reverse {α : Type} (m : Nat) (f : Nat → α) : (tab m f).reverse = tab m (fun i => f (m - 1 - i)) := by
  apply List.ext_getElem?
  intro i
  by_cases hi : i < m
  · rw [tab_get _ _ _ hi, List.getElem?_reverse (by simpa [tab_length] using hi), tab_length, tab_get _ _ _ (by omega)]
  · rw [List.getElem?_eq_none (by simp [tab_length]; omega), List.getElem?_eq_none (by simp [tab_length]; omega)]
theorem tab_dropLast {α : Type} (m : Nat) (f : Nat → α) : (tab (m + 1) f).dropLast = tab m f := by
  rw [tab_succ, List.dropLast_concat]
end OS

set_option linter.all false
namespace OS
/-! seatings as permutations -/
def rngI (n : Nat) : List Int := tab n (fun i => (i : Int))
def Seat (n : Nat) (ss : List Int) : Prop := ss.Perm (rngI n)
theorem rngI_mem (n : Nat) (s : Int) : s ∈ rngI n ↔ 0 ≤ s ∧ s < n := by
  unfold rngI tab
  rw [List.mem_map]
  constructor
  · rintro ⟨a, ha, rfl⟩
    rw [List.mem_range] at ha
    omega
  · rintro ⟨h1, h2⟩
    exact ⟨s.toNat, by rw [List.mem_range]; omega, by omega⟩
theorem rngI_nodup (n : Nat) : (rngI n).Nodup := nodup_map_inj (fun a b h => by omega) List.nodup_range
theorem rngI_length (n : Nat) : (rngI n).length = n := tab_length _ _
theorem rngI_succ (n : Nat) : rngI (n + 1) = rngI n ++ [(n : Int)] := tab_succ _ _
theorem perm_of_sub {α : Type} : ∀ (l m : List α), l.Nodup → (∀ x ∈ l, x ∈ m) → m.length ≤ l.length → l.Perm m
  | [], m, _, _, hl => by
    have : m = [] := List.length_eq_zero_iff.mp (by simpa using hl)
    subst this; exact .nil
  | a :: l, m, hn, hs, hl => by
    obtain ⟨A, B, rfl⟩ := List.append_of_mem (hs a (List.mem_cons_self))
    rw [List.nodup_cons] at hn
    have ih := perm_of_sub l (A ++ B) hn.2 (fun x hx => by
      have := hs x (List.mem_cons_of_mem _ hx)
      rw [List.mem_append, List.mem_cons] at this
      rw [List.mem_append]
      rcases this with h | h | h
      · exact .inl h
      · subst h; exact absurd hx hn.1
      · exact .inr h) (by
      simp only [List.length_append, List.length_cons] at hl ⊢
      omega)
    exact (ih.cons a).trans List.perm_middle.symm
theorem seat_of {n : Nat} {ss : List Int} (hl : ss.length = n) (hr : ∀ s ∈ ss, 0 ≤ s ∧ s < n) (hn : ss.Nodup) : Seat n ss :=
  perm_of_sub _ _ hn (fun s hs => (rngI_mem n s).mpr (hr s hs)) (by rw [rngI_length, hl]; exact Nat.le_refl _)
theorem Seat.len {n : Nat} {ss : List Int} (h : Seat n ss) : ss.length = n := by rw [List.Perm.length_eq h, rngI_length]
theorem Seat.mem {n : Nat} {ss : List Int} (h : Seat n ss) (s : Int) : s ∈ ss ↔ 0 ≤ s ∧ s < n := by rw [List.Perm.mem_iff h, rngI_mem]
theorem Seat.nodup {n : Nat} {ss : List Int} (h : Seat n ss) : ss.Nodup := (List.Perm.nodup_iff h).mpr (rngI_nodup n)
theorem seat_iff {n : Nat} {ss : List Int} : Seat n ss ↔ ss.length = n ∧ (∀ s ∈ ss, 0 ≤ s ∧ s < n) ∧ ss.Nodup :=
  ⟨fun h => ⟨h.len, fun s hs => (h.mem s).mp hs, h.nodup⟩, fun ⟨a, b, c⟩ => seat_of a b c⟩
instance (n : Nat) (ss : List Int) : Decidable (Seat n ss) := decidable_of_iff _ (seat_iff).symm
theorem sorted_unique : ∀ {as bs : List Int}, as.Perm bs → as.Pairwise (· ≤ ·) → bs.Pairwise (· ≤ ·) → as = bs
  | [], bs, p, _, _ => (List.nil_perm.mp p).symm
  | a :: as, [], p, _, _ => by have := p.length_eq; simp at this
  | a :: as, b :: bs, p, ha, hb => by
    rw [List.pairwise_cons] at ha hb
    have e : a = b := by
      have h1 : a ∈ b :: bs := p.mem_iff.mp List.mem_cons_self
      have h2 : b ∈ a :: as := p.mem_iff.mpr List.mem_cons_self
      rw [List.mem_cons] at h1 h2
      rcases h1 with h1 | h1
      · exact h1
      · rcases h2 with h2 | h2
        · exact h2.symm
        · have := ha.1 b h2; have := hb.1 a h1; omega
    subst e
    rw [sorted_unique (p.cons_inv) ha.2 hb.2]
theorem rngI_sorted (n : Nat) : (rngI n).Pairwise (· ≤ ·) := by
  unfold rngI tab
  rw [List.pairwise_map]
  exact List.pairwise_lt_range.imp (fun h => by omega)
theorem sorted_seat {n : Nat} {ss ns : List Int} (p : ns.Perm ss) (hs : ns.Pairwise (· ≤ ·)) : ns = rngI n ↔ Seat n ss :=
  ⟨fun e => by subst e; exact p.symm, fun h => sorted_unique (p.trans h) hs (rngI_sorted n)⟩
/-! a seating in which all sit off -/
def noHit (ss xs : List Int) : Bool := (ss.zip xs).all (fun p => decide (p.1 ≠ p.2))
def offB (xs ss : List Int) : Bool := decide (Seat xs.length ss) && noHit ss xs
def barB (xs : List Int) (s : Int) : Bool := decide (0 ≤ s ∧ xs ≠ [] ∧ ∀ x ∈ xs, x = s)
theorem noHit_iff (ss xs : List Int) : noHit ss xs = true ↔ ∀ (i : Nat) (a b : Int), ss[i]? = some a → xs[i]? = some b → a ≠ b := by
  unfold noHit
  rw [List.all_eq_true]
  constructor
  · intro h i a b ha hb
    have := h (a, b) (List.mem_iff_getElem?.mpr ⟨i, by rw [List.getElem?_zip_eq_some]; exact ⟨ha, hb⟩⟩)
    simpa using this
  · rintro h ⟨a, b⟩ hp
    obtain ⟨i, hi⟩ := List.mem_iff_getElem?.mp hp
    rw [List.getElem?_zip_eq_some] at hi
    simpa using h i a b hi.1 hi.2
/-! all orders -/
theorem ords_seat : ∀ (m : Nat) (o : List Int), o ∈ ords m ↔ Seat m o
  | 0, o => by
    show o ∈ [[]] ↔ o.Perm []
    rw [List.mem_singleton, List.perm_nil]
  | m + 1, o => by
    show o ∈ (ords m).flatMap _ ↔ _
    rw [List.mem_flatMap]
    constructor
    · rintro ⟨p, hp, ho⟩
      have hs := (ords_seat m p).mp hp
      unfold tab at ho
      rw [List.mem_map] at ho
      obtain ⟨k, _, rfl⟩ := ho
      unfold ins Seat
      rw [rngI_succ]
      have e : (List.take k p ++ [(m : Int)] ++ List.drop k p).Perm ((m : Int) :: p) := by
        have z := List.perm_middle (a := (m : Int)) (l₁ := p.take k) (l₂ := p.drop k)
        rw [List.take_append_drop] at z
        rwa [List.append_assoc, List.singleton_append]
      refine e.trans ?_
      exact (List.Perm.cons _ hs).trans (List.perm_append_singleton _ _).symm
    · intro h
      obtain ⟨A, B, rfl⟩ := List.append_of_mem ((h.mem m).mpr ⟨by omega, by omega⟩)
      have h2 : Seat m (A ++ B) := by
        unfold Seat at h ⊢
        rw [rngI_succ] at h
        exact ((List.perm_middle.symm.trans h).trans (List.perm_append_singleton _ _)).cons_inv
      refine ⟨A ++ B, (ords_seat m _).mpr h2, ?_⟩
      unfold tab
      rw [List.mem_map]
      refine ⟨A.length, ?_, ?_⟩
      · rw [List.mem_range]
        have := h2.len
        rw [List.length_append] at this
        omega
      · unfold ins; simp
theorem hits_zero (ss xs : List Int) : (hitsOf ss xs == 0) = noHit ss xs := by
  unfold hitsOf noHit
  rw [Bool.eq_iff_iff, beq_iff_eq, List.length_eq_zero_iff, List.filter_eq_nil_iff, List.all_eq_true]
  simp
theorem count_off {xs : List Int} (n : Nat) (hn : xs.length = n) : h n (cs n xs) 0 = ((ords n).countP (fun o => noHit o xs) : Int) := by
  rw [← tried n xs hn 0]
  unfold T
  congr 2
  funext o
  exact hits_zero o xs
theorem some_off {xs ss : List Int} (h1 : offB xs ss = true) : h xs.length (cs xs.length xs) 0 ≠ 0 := by
  unfold offB at h1
  rw [Bool.and_eq_true, decide_eq_true_iff] at h1
  rw [count_off _ rfl]
  have : 0 < (ords xs.length).countP (fun o => noHit o xs) := List.countP_pos_iff.mpr ⟨ss, (ords_seat _ _).mpr h1.1, h1.2⟩
  omega
theorem none_off {xs : List Int} {s : Int} (hx : ∀ x ∈ xs, -1 ≤ x ∧ x < xs.length) (h1 : barB xs s = true) : h xs.length (cs xs.length xs) 0 = 0 := by
  unfold barB at h1
  rw [decide_eq_true_iff] at h1
  obtain ⟨h0, hne, ha⟩ := h1
  rw [count_off _ rfl]
  have : (ords xs.length).countP (fun o => noHit o xs) = 0 := by
    rw [List.countP_eq_zero]
    intro o ho
    have hs := (ords_seat _ _).mp ho
    rw [noHit_iff]
    intro hno
    obtain ⟨x, hxm⟩ := List.exists_mem_of_ne_nil xs hne
    have hlt : s < xs.length := by rw [← ha x hxm]; exact (hx x hxm).2
    obtain ⟨i, hi⟩ := List.mem_iff_getElem?.mp ((hs.mem s).mpr ⟨h0, hlt⟩)
    have hil : i < o.length := (List.getElem?_eq_some_iff.mp hi).1
    rw [hs.len] at hil
    have hb : xs[i]? = some xs[i] := List.getElem?_eq_getElem hil
    exact hno i s xs[i] hi hb (ha _ (List.getElem_mem hil)).symm
  omega
/-! the seating that the program tells: those who shun the seat of their own number pass theirs round -/
def cyc (M : List Int) (a : Int) : Int := if a ∈ M then M.getD ((M.idxOf a + (M.length - 1)) % M.length) 0 else a
def cycN (M : List Int) (n i : Nat) : List Int := tab n (fun g => if (g : Int) ∈ M.take i then cyc M g else (g : Int))
theorem idx_get {M : List Int} (hn : M.Nodup) {i : Nat} {a : Int} (h : M[i]? = some a) : M.idxOf a = i := by
  obtain ⟨hi, e⟩ := List.getElem?_eq_some_iff.mp h
  subst e
  exact hn.idxOf_getElem i hi
theorem cyc_at {M : List Int} (hn : M.Nodup) {i : Nat} {a b : Int} (h : M[i]? = some a) (hb : M[(i + (M.length - 1)) % M.length]? = some b) : cyc M a = b := by
  unfold cyc
  rw [if_pos (List.mem_of_getElem? h), idx_get hn h, List.getD_eq_getElem?_getD, hb]; rfl
theorem cyc_mem {M : List Int} (a : Int) : cyc M a ∈ M ↔ a ∈ M := by
  unfold cyc
  split
  · rename_i hm
    refine ⟨fun _ => hm, fun _ => ?_⟩
    have hp : 0 < M.length := List.length_pos_of_mem hm
    have hlt := Nat.mod_lt (M.idxOf a + (M.length - 1)) hp
    rw [List.getD_eq_getElem?_getD, List.getElem?_eq_getElem hlt]
    exact List.getElem_mem _
  · exact Iff.rfl
theorem cyc_inj {M : List Int} (hn : M.Nodup) (a b : Int) (e : cyc M a = cyc M b) : a = b := by
  by_cases ha : a ∈ M
  · have hb : b ∈ M := (cyc_mem b).mp (e ▸ (cyc_mem a).mpr ha)
    obtain ⟨i, hi⟩ := List.mem_iff_getElem?.mp ha
    obtain ⟨j, hj⟩ := List.mem_iff_getElem?.mp hb
    have hil := (List.getElem?_eq_some_iff.mp hi).1
    have hjl := (List.getElem?_eq_some_iff.mp hj).1
    have hp : 0 < M.length := by omega
    have h1 := Nat.mod_lt (i + (M.length - 1)) hp
    have h2 := Nat.mod_lt (j + (M.length - 1)) hp
    rw [cyc_at hn hi (List.getElem?_eq_getElem h1), cyc_at hn hj (List.getElem?_eq_getElem h2)] at e
    have e2 : (i + (M.length - 1)) % M.length = (j + (M.length - 1)) % M.length := by
      rw [← idx_get hn (List.getElem?_eq_getElem h1), e, idx_get hn (List.getElem?_eq_getElem h2)]
    have : i = j := by
      have e3 : (i + (M.length - 1)) % M.length = if i = 0 then M.length - 1 else i - 1 := by
        split
        · subst_vars; rw [Nat.zero_add]; exact Nat.mod_eq_of_lt (by omega)
        · rw [show i + (M.length - 1) = (i - 1) + M.length by omega, Nat.add_mod_right]; exact Nat.mod_eq_of_lt (by omega)
      have e4 : (j + (M.length - 1)) % M.length = if j = 0 then M.length - 1 else j - 1 := by
        split
        · subst_vars; rw [Nat.zero_add]; exact Nat.mod_eq_of_lt (by omega)
        · rw [show j + (M.length - 1) = (j - 1) + M.length by omega, Nat.add_mod_right]; exact Nat.mod_eq_of_lt (by omega)
      rw [e3, e4] at e2
      split at e2 <;> split at e2 <;> omega
    subst this
    rw [hi] at hj
    exact Option.some.inj hj
  · have hb : b ∉ M := fun hb => ha ((cyc_mem a).mp (e ▸ (cyc_mem b).mpr hb))
    unfold cyc at e
    rwa [if_neg ha, if_neg hb] at e
theorem cycN_full (M : List Int) (n : Nat) : cycN M n M.length = tab n (fun g => cyc M (g : Int)) := by
  unfold cycN
  refine tab_congr fun i _ => ?_
  rw [List.take_length]
  split
  · rfl
  · rename_i h; unfold cyc; rw [if_neg h]
theorem cycN_zero (M : List Int) (n : Nat) : cycN M n 0 = rngI n := by
  unfold cycN rngI; simp
theorem cycN_step {M : List Int} (n : Nat) (hn : M.Nodup) {i : Nat} {a : Nat} (h : M[i]? = some (a : Int)) : (cycN M n i).set a (cyc M a) = cycN M n (i + 1) := by
  unfold cycN
  rw [tab_set]
  refine tab_congr fun g _ => ?_
  rw [List.take_add_one, h]
  by_cases e : g = a
  · subst e; simp
  · rw [if_neg e]
    have : ((g : Int) ∈ M.take i ++ (some (a : Int)).toList) ↔ (g : Int) ∈ M.take i := by
      rw [List.mem_append]; simp; omega
    by_cases c : (g : Int) ∈ M.take i
    · rw [if_pos c, if_pos (this.mpr c)]
    · rw [if_neg c, if_neg (fun z => c (this.mp z))]
theorem cyc_seat {M : List Int} {n : Nat} (hn : M.Nodup) (hr : ∀ a ∈ M, 0 ≤ a ∧ a < n) : Seat n (tab n (fun g => cyc M (g : Int))) := by
  refine seat_of (tab_length _ _) ?_ ?_
  · intro s hs
    unfold tab at hs
    rw [List.mem_map] at hs
    obtain ⟨g, hg, rfl⟩ := hs
    rw [List.mem_range] at hg
    by_cases c : (g : Int) ∈ M
    · exact hr _ ((cyc_mem _).mpr c)
    · unfold cyc; rw [if_neg c]; omega
  · refine nodup_map_inj (fun a b e => ?_) List.nodup_range
    have := cyc_inj hn _ _ e
    omega
theorem cyc_ne {M : List Int} (hn : M.Nodup) (h2 : 2 ≤ M.length) {a : Int} (ha : a ∈ M) : cyc M a ≠ a := by
  obtain ⟨i, hi⟩ := List.mem_iff_getElem?.mp ha
  have hil := (List.getElem?_eq_some_iff.mp hi).1
  have h1 := Nat.mod_lt (i + (M.length - 1)) (show 0 < M.length by omega)
  intro e
  rw [cyc_at hn hi (List.getElem?_eq_getElem h1)] at e
  have e' := idx_get hn ((List.getElem?_eq_getElem h1).trans (congrArg some e))
  rw [idx_get hn hi] at e'
  have e3 : (i + (M.length - 1)) % M.length = if i = 0 then M.length - 1 else i - 1 := by
    split
    · subst_vars; rw [Nat.zero_add]; exact Nat.mod_eq_of_lt (by omega)
    · rw [show i + (M.length - 1) = (i - 1) + M.length by omega, Nat.add_mod_right]; exact Nat.mod_eq_of_lt (by omega)
  rw [e3] at e'
  split at e' <;> omega
/-! the guests that pass a test, of the first i -/
def gsel (p : Nat → Bool) (i : Nat) : List Int := ((List.range i).filter p).map (fun (g : Nat) => (g : Int))
theorem gsel_zero (p : Nat → Bool) : gsel p 0 = [] := rfl
theorem gsel_yes {p : Nat → Bool} {i : Nat} (h : p i = true) : gsel p (i + 1) = gsel p i ++ [(i : Int)] := by
  unfold gsel
  rw [List.range_succ, List.filter_append]; simp [h]
theorem gsel_no {p : Nat → Bool} {i : Nat} (h : p i = false) : gsel p (i + 1) = gsel p i := by
  unfold gsel
  rw [List.range_succ, List.filter_append]; simp [h]
theorem gsel_mem {p : Nat → Bool} {n : Nat} {a : Int} : a ∈ gsel p n ↔ ∃ g : Nat, g < n ∧ p g = true ∧ a = (g : Int) := by
  unfold gsel
  rw [List.mem_map]
  constructor
  · rintro ⟨g, hg, rfl⟩
    rw [List.mem_filter, List.mem_range] at hg
    exact ⟨g, hg.1, hg.2, rfl⟩
  · rintro ⟨g, h1, h2, rfl⟩
    exact ⟨g, by rw [List.mem_filter, List.mem_range]; exact ⟨h1, h2⟩, rfl⟩
theorem gsel_nodup (p : Nat → Bool) (n : Nat) : (gsel p n).Nodup := nodup_map_inj (fun a b h => by omega) (List.Pairwise.filter _ List.nodup_range)
theorem gsel_len (p : Nat → Bool) (n : Nat) : (gsel p n).length ≤ n := by
  unfold gsel
  rw [List.length_map]
  have := List.length_filter_le p (List.range n)
  rwa [List.length_range] at this
def own (xs : List Int) (g : Nat) : Bool := decide (xs.getD g 0 = (g : Int))
def other (xs : List Int) (l : Int) (g : Nat) : Bool := decide (xs.getD g 0 ≠ l)
theorem getD_of {xs : List Int} {i : Nat} {b : Int} (h : xs[i]? = some b) : xs.getD i 0 = b := by rw [List.getD_eq_getElem?_getD, h]; rfl
theorem off_of {xs M : List Int} (hn : M.Nodup) (hr : ∀ a ∈ M, 0 ≤ a ∧ a < xs.length) (h : ∀ (g : Nat), g < xs.length → cyc M g ≠ xs.getD g 0) : offB xs (tab xs.length (fun g => cyc M (g : Int))) = true := by
  unfold offB
  rw [Bool.and_eq_true, decide_eq_true_iff]
  refine ⟨cyc_seat hn hr, ?_⟩
  rw [noHit_iff]
  intro i a b ha hb
  have hi : i < xs.length := (List.getElem?_eq_some_iff.mp hb).1
  rw [tab_get _ _ _ hi] at ha
  cases ha
  have := h i hi
  rwa [getD_of hb] at this
theorem seat_many {xs : List Int} (h1 : (gsel (own xs) xs.length).length ≠ 1) : offB xs (tab xs.length (fun g => cyc (gsel (own xs) xs.length) (g : Int))) = true := by
  refine off_of (gsel_nodup _ _) (fun a ha => ?_) (fun g hg => ?_)
  · obtain ⟨g, hg, _, rfl⟩ := gsel_mem.mp ha
    omega
  · by_cases c : (g : Int) ∈ gsel (own xs) xs.length
    · obtain ⟨g', _, h3, e⟩ := gsel_mem.mp c
      have : g' = g := by omega
      subst this
      unfold own at h3
      rw [decide_eq_true_iff] at h3
      rw [h3]
      refine cyc_ne (gsel_nodup _ _) ?_ c
      have := List.length_pos_of_mem c
      omega
    · unfold cyc
      rw [if_neg c]
      intro e
      exact c (gsel_mem.mpr ⟨g, hg, by unfold own; rw [decide_eq_true_iff]; exact e.symm, rfl⟩)
theorem lone_own {xs : List Int} {l : Int} (h1 : gsel (own xs) xs.length = [l]) : ∃ g : Nat, l = (g : Int) ∧ g < xs.length ∧ xs.getD g 0 = l := by
  have : l ∈ gsel (own xs) xs.length := by rw [h1]; exact List.mem_cons_self
  obtain ⟨g, hg, h3, rfl⟩ := gsel_mem.mp this
  unfold own at h3
  rw [decide_eq_true_iff] at h3
  exact ⟨g, rfl, hg, h3⟩
theorem seat_bar {xs : List Int} {l : Int} (h1 : gsel (own xs) xs.length = [l]) (h2 : gsel (other xs l) xs.length = []) : barB xs l = true := by
  obtain ⟨g, rfl, hg, _⟩ := lone_own h1
  unfold barB
  rw [decide_eq_true_iff]
  refine ⟨by omega, fun e => by subst e; simp at hg, fun x hx => ?_⟩
  obtain ⟨i, hi⟩ := List.mem_iff_getElem?.mp hx
  by_cases c : x = (g : Int)
  · exact c
  · have : (i : Int) ∈ gsel (other xs g) xs.length := gsel_mem.mpr ⟨i, (List.getElem?_eq_some_iff.mp hi).1, by unfold other; rw [decide_eq_true_iff, getD_of hi]; exact c, rfl⟩
    rw [h2] at this
    cases this
theorem two_fact {xs : List Int} {l q : Int} (h1 : gsel (own xs) xs.length = [l]) (hq : q ∈ gsel (other xs l) xs.length) : [l, q].Nodup ∧ ∀ a ∈ [l, q], 0 ≤ a ∧ a < xs.length := by
  obtain ⟨g, rfl, hg, e⟩ := lone_own h1
  obtain ⟨k, hk, h3, rfl⟩ := gsel_mem.mp hq
  unfold other at h3
  rw [decide_eq_true_iff] at h3
  have hne : g ≠ k := fun z => by subst z; exact h3 e
  refine ⟨by simp; omega, fun a ha => ?_⟩
  simp at ha
  rcases ha with rfl | rfl <;> omega
theorem seat_two {xs : List Int} {l q : Int} (h1 : gsel (own xs) xs.length = [l]) (hq : q ∈ gsel (other xs l) xs.length) : offB xs (tab xs.length (fun g => cyc [l, q] (g : Int))) = true := by
  obtain ⟨hn, hr⟩ := two_fact h1 hq
  refine off_of hn hr (fun g hg => ?_)
  obtain ⟨k, hk, h3, rfl⟩ := gsel_mem.mp hq
  unfold other at h3
  rw [decide_eq_true_iff] at h3
  by_cases c : (g : Int) ∈ [l, (k : Int)]
  · rw [List.mem_cons, List.mem_singleton] at c
    rcases c with c | c
    · rw [show (xs.getD g 0) = (g : Int) by
        obtain ⟨g', rfl, _, e⟩ := lone_own h1
        have : g = g' := by omega
        subst this; exact e]
      exact cyc_ne hn (by simp) (by rw [c]; exact List.mem_cons_self)
    · have : g = k := by omega
      subst this
      rw [cyc_at (M := [l, (g : Int)]) hn (i := 1) (b := l) rfl (by show [l, (g : Int)][2 % 2]? = _; rfl)]
      exact fun z => h3 z.symm
  · unfold cyc
    rw [if_neg c]
    intro e
    have : (g : Int) ∈ gsel (own xs) xs.length := gsel_mem.mpr ⟨g, hg, by unfold own; rw [decide_eq_true_iff]; exact e.symm, rfl⟩
    rw [h1, List.mem_singleton] at this
    exact c (by rw [this]; exact List.mem_cons_self)
/-! as the law asks, and as the program does -/
theorem replicate_eq {xs : List Int} {s : Int} : xs = List.replicate xs.length s ↔ ∀ x ∈ xs, x = s := by
  rw [List.eq_replicate_iff]; simp
end OS

set_option linter.all false
namespace OS
/-! the counts, from any tallies of the same polynomial -/
theorem told_due2 (n : Nat) (xs ts : List Int) (hl : ts.length ≤ n) (e0 : ∀ j, h n ts j = h n (cs n xs) j) :
    tab (ts.length + 1) (hit (ts.length + 1) (fun k => pk ts.reverse k * fact (n - k))) ++ List.replicate (n - ts.length) 0 = due n xs := by
  have e : ∀ j, hit (ts.length + 1) (fun k => pk ts.reverse k * fact (n - k)) j = h n (cs n xs) j := by
    intro j
    have := hit_pk ts.reverse ts.length n (by simp) hl j
    rw [this, h_perm (List.reverse_perm _), e0]
  have ed : due n xs = tab (ts.length + 1) (h n (cs n xs)) ++ tab (n - ts.length) (fun i => h n (cs n xs) (ts.length + 1 + i)) := by
    unfold due
    rw [← tab_append, show ts.length + 1 + (n - ts.length) = n + 1 by omega]
  rw [ed]
  congr 1
  · exact tab_congr fun i _ => e i
  · refine (tab_const _ _ fun i _ => ?_).symm
    rw [← e0]
    exact h_zero_of _ _ _ (by omega)
def posT (ts : List Int) : List Int := ts.filter (fun t => decide (0 < t))
theorem posT_eq {ts : List Int} (hn : ∀ t ∈ ts, 0 ≤ t) : posT ts = ts.filter (fun t => t != 0) := by
  unfold posT
  refine List.filter_congr fun t ht => ?_
  have := hn t ht
  rw [Bool.eq_iff_iff, decide_eq_true_iff, bne_iff_ne]
  omega
theorem h_pos (n : Nat) (xs : List Int) (m j : Nat) : h m (posT (cs n xs)) j = h m (cs n xs) j := by
  rw [posT_eq (cs_nonneg n xs), h_filter]
theorem posT_length (ts : List Int) : (posT ts).length ≤ ts.length := List.length_filter_le _ _
theorem posT_sum {ts : List Int} (hn : ∀ t ∈ ts, 0 ≤ t) : (posT ts).sum = ts.sum := by
  rw [posT_eq hn, sum_filter_ne]
/-! more and fewer seats -/
theorem pk_perm {as bs : List Int} (p : as.Perm bs) : ∀ k, pk as k = pk bs k := by
  induction p with
  | nil => intro k; rfl
  | cons x _ ih =>
    intro k
    show pk _ k + x * sh (pk _) k = pk _ k + x * sh (pk _) k
    rw [ih k]
    congr 2
    cases k with
    | zero => rfl
    | succ k => exact ih k
  | swap x y l =>
    intro k
    show (pk l k + x * sh (pk l) k) + y * sh (pk (x :: l)) k = (pk l k + y * sh (pk l) k) + x * sh (pk (y :: l)) k
    cases k with
    | zero => simp [sh]
    | succ k =>
      show (pk l (k + 1) + x * pk l k) + y * (pk l k + x * sh (pk l) k) = (pk l (k + 1) + y * pk l k) + x * (pk l k + y * sh (pk l) k)
      grind
  | trans _ _ i1 i2 => intro k; rw [i1, i2]
def withF (P : List Int) (t : Int) (j i : Nat) : Int := if i ≤ j then pk (t :: P) i else pk P i
theorem withF_zero (P : List Int) (t : Int) : tab (P.length + 2) (withF P t 0) = tab (P.length + 2) (pk P) := by
  refine tab_congr fun i _ => ?_
  unfold withF
  split
  · have : i = 0 := by omega
    subst this
    simp [pk, sh]
  · rfl
theorem withF_end (P : List Int) (t : Int) : tab (P.length + 2) (withF P t (P.length + 1)) = tab (P.length + 2) (pk (t :: P)) :=
  tab_congr fun i hi => if_pos (by omega)
theorem withF_step (P : List Int) (t : Int) (j : Nat) (hj : j < P.length + 1) :
    (tab (P.length + 2) (withF P t j)).set (j + 1) (withF P t j (j + 1) + pk P j * t) = tab (P.length + 2) (withF P t (j + 1)) := by
  rw [tab_set]
  refine tab_congr fun i hi => ?_
  by_cases e : i = j + 1
  · subst e
    rw [if_pos rfl]
    unfold withF
    rw [if_neg (by omega), if_pos (Nat.le_refl _)]
    show _ = pk P (j + 1) + t * pk P j
    rw [Int.mul_comm]
  · rw [if_neg e]
    unfold withF
    by_cases c : i ≤ j
    · rw [if_pos c, if_pos (by omega)]
    · rw [if_neg c, if_neg (by omega)]
theorem without_step (P : List Int) (t : Int) (j : Nat) : pk (t :: P) j - sh (pk P) j * t = pk P j := by
  show (pk P j + t * sh (pk P) j) - sh (pk P) j * t = pk P j
  rw [Int.mul_comm]; omega
/-! none on a shunned seat: by turns -/
def ho (m : Nat) (w : Nat → Int) : Nat → Int
  | 0 => 0
  | k + 1 => ho m w k * ((m : Int) + 1 - k) + (-1) ^ k * w k
def alt (c : Nat → Int) : Nat → Int
  | 0 => 0
  | k + 1 => alt c k + (-1) ^ k * c k
theorem ho_alt (m : Nat) (w : Nat → Int) : ∀ k, k ≤ m + 1 → ho m w k * fact (m + 1 - k) = alt (fun k => w k * fact (m - k)) k
  | 0, _ => by simp [ho, alt]
  | k + 1, hk => by
    have ih := ho_alt m w k (by omega)
    have e : fact (m + 1 - k) = ((m : Int) + 1 - k) * fact (m - k) := by
      rw [show m + 1 - k = (m - k) + 1 by omega]
      show (((m - k : Nat) : Int) + 1) * fact (m - k) = _
      congr 1; omega
    rw [e] at ih
    show (ho m w k * ((m : Int) + 1 - k) + (-1) ^ k * w k) * fact (m + 1 - (k + 1)) = alt _ k + (-1) ^ k * (w k * fact (m - k))
    rw [show m + 1 - (k + 1) = m - k by omega, ← ih]
    grind
theorem alt_shift (c : Nat → Int) : ∀ k, alt c (k + 1) = c 0 - alt (fun i => c (i + 1)) k
  | 0 => by simp [alt]
  | k + 1 => by
    have ih := alt_shift c k
    show alt c (k + 1) + (-1) ^ (k + 1) * c (k + 1) = c 0 - (alt (fun i => c (i + 1)) k + (-1) ^ k * c (k + 1))
    rw [ih]
    have : (-1 : Int) ^ (k + 1) = - (-1) ^ k := by rw [Int.pow_succ]; omega
    rw [this]
    grind
theorem hit_alt : ∀ (m : Nat) (c : Nat → Int), hit m c 0 = alt c m
  | 0, c => rfl
  | m + 1, c => by
    rw [alt_shift, ← hit_alt m]
    simp [hit, sh]
    try omega
theorem ho_h (ts : List Int) (m : Nat) (hl : ts.length ≤ m) : ho m (pk ts) (m + 1) = h m ts 0 := by
  have e := ho_alt m (pk ts) (m + 1) (Nat.le_refl _)
  rw [Nat.sub_self, ← hit_alt, hit_pk ts m m hl (Nat.le_refl _)] at e
  simpa [fact] using e
/-! the seatings by their numbers -/
def D (n : Nat) (ts : List Int) : Int := h n ts 0
theorem D_cons (n : Nat) (t : Int) (ts : List Int) : D n (t :: ts) = D n ts - t * D (n - 1) ts := by
  unfold D
  rw [h_cons]
  show h n ts 0 + t * (0 - h (n - 1) ts 0) = _
  grind
theorem D_perm {as bs : List Int} (p : as.Perm bs) (n : Nat) : D n as = D n bs := h_perm p n 0
theorem D_nil (n : Nat) : D n [] = fact n := by
  unfold D h
  simp
/-- each seat in turn taken -/
theorem rowS (c : Int → Int) : ∀ (fs : List Int) (m : Nat), fs.Nodup → fs.length ≤ m → D (m + 1) (fs.map c) = (fs.map (fun s => D m ((fs.erase s).map c))).sum + ((m : Int) + 1 - fs.length) * D m (fs.map c)
  | [], m, _, _ => by
    show D (m + 1) [] = 0 + _ * D m []
    rw [D_nil, D_nil]
    show ((m : Int) + 1) * fact m = _
    simp
  | f :: fs, m, hn, hl => by
    rw [List.nodup_cons] at hn
    simp only [List.length_cons] at hl
    obtain ⟨k, rfl⟩ : ∃ k, m = k + 1 := ⟨m - 1, by omega⟩
    have ih := rowS c fs (k + 1) hn.2 (by omega)
    have ih1 := rowS c fs k hn.2 (by omega)
    have e1 : (fs.map (fun s => D (k + 1) (((f :: fs).erase s).map c))).sum = (fs.map (fun s => D (k + 1) ((fs.erase s).map c))).sum - c f * (fs.map (fun s => D k ((fs.erase s).map c))).sum := by
      have : ∀ gs : List Int, (∀ g ∈ gs, g ≠ f) → (gs.map (fun s => D (k + 1) (((f :: fs).erase s).map c))).sum = (gs.map (fun s => D (k + 1) ((fs.erase s).map c))).sum - c f * (gs.map (fun s => D k ((fs.erase s).map c))).sum := by
        intro gs
        induction gs with
        | nil => intro _; simp
        | cons g gs ih2 =>
          intro hg
          have hne : ¬ (f == g) = true := by rw [beq_iff_eq]; exact fun e => hg g (by simp) e.symm
          simp only [List.map_cons, List.sum_cons, ih2 (fun u hu => hg u (by simp [hu]))]
          rw [List.erase_cons_tail hne, List.map_cons, D_cons]
          simp only [Nat.add_sub_cancel]
          grind
      exact this fs fun g hg e => hn.1 (e ▸ hg)
    rw [List.map_cons, List.map_cons, List.sum_cons, List.erase_cons_head, e1, D_cons, D_cons]
    simp only [Nat.add_sub_cancel, List.length_cons]
    rw [ih, ih1]
    push_cast
    grind
theorem sum_perm_erase (c : Int → Int) (m : Nat) {fs gs : List Int} (p : fs.Perm gs) : (fs.map (fun s => D m ((fs.erase s).map c))).sum = (gs.map (fun s => D m ((gs.erase s).map c))).sum := by
  rw [sum_perm (p.map _)]
  congr 1
  refine List.map_congr_left fun s _ => ?_
  exact D_perm ((p.erase s).map c) m
theorem row1 (c : Int → Int) (fs : List Int) (m : Nat) (hn : fs.Nodup) (hl : fs.length = m + 1) (z : Int) (hz : z ∈ fs) (h0 : c z = 0) : D (m + 1) (fs.map c) = (fs.map (fun s => D m ((fs.erase s).map c))).sum := by
  have p : fs.Perm (z :: fs.erase z) := List.perm_cons_erase hz
  rw [D_perm (p.map c), sum_perm_erase c m p]
  have hn2 := p.nodup_iff.mp hn
  have hl2 : (fs.erase z).length = m := by have := p.length_eq; simp at this; omega
  generalize fs.erase z = gs at hn2 hl2
  rw [List.nodup_cons] at hn2
  have r := rowS c gs m hn2.2 (by omega)
  rw [List.map_cons, D_cons, h0, r, List.map_cons, List.sum_cons, List.erase_cons_head, hl2]
  have e1 : (gs.map (fun s => D m (((z :: gs).erase s).map c))).sum = (gs.map (fun s => D m ((gs.erase s).map c))).sum := by
    congr 1
    refine List.map_congr_left fun s hs => ?_
    have hne : ¬ (z == s) = true := by rw [beq_iff_eq]; exact fun e => hn2.1 (e ▸ hs)
    rw [List.erase_cons_tail hne, List.map_cons, D_cons, h0]
    omega
  rw [e1]
  grind
theorem count_sum_le : ∀ (xs fs : List Int), fs.Nodup → (fs.map (fun s => (xs.count s : Int))).sum ≤ xs.length
  | [], fs, _ => by
    have : fs.map (fun s => (([] : List Int).count s : Int)) = fs.map (fun _ => 0) := List.map_congr_left fun s _ => by simp
    rw [this]
    have : ∀ gs : List Int, (gs.map (fun _ => (0 : Int))).sum = 0 := fun gs => by induction gs with
      | nil => rfl
      | cons g gs ih => simpa using ih
    rw [this]; simp
  | x :: xs, fs, hn => by
    have ih := count_sum_le xs fs hn
    have e : ∀ gs : List Int, gs.Nodup → (gs.map (fun s => ((x :: xs).count s : Int))).sum ≤ (gs.map (fun s => (xs.count s : Int))).sum + (if x ∈ gs then 1 else 0) := by
      intro gs
      induction gs with
      | nil => intro _; simp
      | cons g gs ih2 =>
        intro hg
        rw [List.nodup_cons] at hg
        have := ih2 hg.2
        simp only [List.map_cons, List.sum_cons, List.count_cons, List.mem_cons]
        by_cases c : x = g
        · subst c
          rw [if_neg hg.1] at this
          simp at this ⊢
          have e2 : ((gs.map (fun s => ((xs.count s + if x = s then 1 else 0 : Nat) : Int))).sum) = ((gs.map (fun s => ((x :: xs).count s : Int))).sum) := by
            congr 1
            refine List.map_congr_left fun s _ => ?_
            rw [List.count_cons]; simp
          simp only [List.count_cons, beq_iff_eq] at this
          push_cast at this ⊢
          omega
        · have hb : (x == g) = false := by rw [beq_eq_false_iff_ne]; exact c
          simp only [hb, c, false_or]
          simp only [List.count_cons, beq_iff_eq] at this
          simp only [beq_iff_eq]
          push_cast at this ⊢
          simp at this ⊢
          omega
    have := e fs hn
    simp only [List.length_cons]
    push_cast
    split at this <;> omega
/-- how many ways there are to seat guests of the shuns xs on the free seats fs, all off -/
def cnt (fs xs : List Int) : Int := D fs.length (fs.map (fun s => (xs.count s : Int)))
theorem cnt_nonneg {fs xs : List Int} (hn : fs.Nodup) (hl : fs.length = xs.length) : 0 ≤ cnt fs xs := by
  unfold cnt D
  refine h_nonneg fs.length _ _ (by simp) (by simp) ?_ ?_ 0
  · intro t ht
    rw [List.mem_map] at ht
    obtain ⟨s, _, rfl⟩ := ht
    omega
  · have := count_sum_le xs fs hn
    omega
def opts (fs : List Int) (x : Int) : List Int := fs.filter (fun s => decide (s ≠ x))
theorem free_zero {fs xs : List Int} (hn : fs.Nodup) (hl : fs.length = xs.length + 1) : ∃ z ∈ fs, (xs.count z : Int) = 0 := by
  apply Classical.byContradiction
  intro hno
  have h1 : ∀ gs : List Int, (∀ g ∈ gs, (xs.count g : Int) ≠ 0) → (gs.length : Int) ≤ (gs.map (fun s => (xs.count s : Int))).sum := by
    intro gs
    induction gs with
    | nil => intro _; simp
    | cons g gs ih =>
      intro hg
      have := ih fun u hu => hg u (by simp [hu])
      have := hg g (by simp)
      simp only [List.length_cons, List.map_cons, List.sum_cons]
      push_cast
      omega
  have := h1 fs fun g hg e => hno ⟨g, hg, e⟩
  have := count_sum_le xs fs hn
  omega
theorem cnt_step {fs xs : List Int} (x : Int) (hn : fs.Nodup) (hl : fs.length = xs.length + 1) : cnt fs (x :: xs) = ((opts fs x).map (fun s => cnt (fs.erase s) xs)).sum := by
  obtain ⟨z, hz, h0⟩ := free_zero hn hl
  have r := row1 (fun s => (xs.count s : Int)) fs xs.length hn hl z hz h0
  have el : ∀ s ∈ fs, cnt (fs.erase s) xs = D xs.length ((fs.erase s).map (fun s => (xs.count s : Int))) := by
    intro s hs
    unfold cnt
    rw [List.length_erase_of_mem hs, hl, Nat.add_sub_cancel]
  by_cases hx : x ∈ fs
  · have p : fs.Perm (x :: fs.erase x) := List.perm_cons_erase hx
    have e1 : opts fs x = fs.erase x := by
      unfold opts
      rw [hn.erase_eq_filter]
      refine List.filter_congr fun s _ => ?_
      rw [Bool.eq_iff_iff]; simp
    have e2 : cnt fs (x :: xs) = D (xs.length + 1) (fs.map (fun s => (xs.count s : Int))) - D xs.length ((fs.erase x).map (fun s => (xs.count s : Int))) := by
      unfold cnt
      rw [hl, D_perm (p.map _), D_perm (p.map (fun s => (xs.count s : Int))), List.map_cons, List.map_cons, D_cons, D_cons]
      have : (fs.erase x).map (fun s => ((x :: xs).count s : Int)) = (fs.erase x).map (fun s => (xs.count s : Int)) := by
        refine List.map_congr_left fun s hs => ?_
        have hne : s ≠ x := fun e => by
          subst e
          exact (List.Nodup.not_mem_erase hn) hs
        have hb : (x == s) = false := by rw [beq_eq_false_iff_ne]; exact fun e => hne e.symm
        rw [List.count_cons, hb]; simp
      rw [this, List.count_cons_self]
      simp only [Nat.add_sub_cancel]
      push_cast
      grind
    rw [e2, r, e1, sum_perm (p.map _), List.map_cons, List.sum_cons]
    have e3 : (fs.erase x).map (fun s => cnt (fs.erase s) xs) = (fs.erase x).map (fun s => D xs.length ((fs.erase s).map (fun s => (xs.count s : Int)))) :=
      List.map_congr_left fun s hs => el s (List.mem_of_mem_erase hs)
    rw [e3]
    omega
  · have e1 : opts fs x = fs := by
      unfold opts
      rw [List.filter_eq_self]
      intro s hs
      rw [decide_eq_true_iff]
      exact fun e => hx (e ▸ hs)
    have e2 : cnt fs (x :: xs) = D (xs.length + 1) (fs.map (fun s => (xs.count s : Int))) := by
      unfold cnt
      rw [hl]
      congr 1
      refine List.map_congr_left fun s hs => ?_
      have hb : (x == s) = false := by rw [beq_eq_false_iff_ne]; exact fun e => hx (e ▸ hs)
      rw [List.count_cons, hb]; simp
    rw [e2, r, e1]
    congr 1
    exact List.map_congr_left fun s hs => (el s hs).symm
/-! what begins where -/
def pre (Ns : List Int) (i : Nat) : Int := (Ns.take i).sum
theorem pre_succ {Ns : List Int} {i : Nat} {a : Int} (h : Ns[i]? = some a) : pre Ns (i + 1) = pre Ns i + a := by
  unfold pre
  rw [List.take_add_one, h, List.sum_append]; simp
theorem pre_mono {Ns : List Int} (hn : ∀ a ∈ Ns, 0 ≤ a) {i : Nat} : ∀ d, pre Ns i ≤ pre Ns (i + d)
  | 0 => Int.le_refl _
  | d + 1 => by
    have ih := pre_mono hn (i := i) d
    cases e : Ns[i + d]? with
    | none =>
      have hl : Ns.length ≤ i + d := List.getElem?_eq_none_iff.mp e
      have : pre Ns (i + (d + 1)) = pre Ns (i + d) := by
        unfold pre
        rw [List.take_of_length_le (by omega), List.take_of_length_le hl]
      omega
    | some a =>
      have := pre_succ e
      have := hn a (List.mem_of_getElem? e)
      rw [show i + (d + 1) = i + d + 1 by omega]
      omega
/-- the ways behind each seat that the guest of shun x may take -/
def beh (fs : List Int) (x : Int) (xs : List Int) : List Int := (opts fs x).map (fun s => cnt (fs.erase s) xs)
/-- ss is the seating of number k -/
inductive Num : List Int → List Int → List Int → Int → Prop
  | nil : Num [] [] [] 0
  | cons {fs xs ss : List Int} {x s k : Int} {i : Nat} (hi : (opts fs x)[i]? = some s) (hr : Num (fs.erase s) xs ss k) : Num fs (x :: xs) (s :: ss) (pre (beh fs x xs) i + k)
theorem opts_mem {fs : List Int} {x s : Int} : s ∈ opts fs x ↔ s ∈ fs ∧ s ≠ x := by
  unfold opts
  rw [List.mem_filter]; simp
theorem beh_nonneg {fs xs : List Int} (x : Int) (hn : fs.Nodup) (hl : fs.length = xs.length + 1) : ∀ a ∈ beh fs x xs, 0 ≤ a := by
  intro a ha
  unfold beh at ha
  rw [List.mem_map] at ha
  obtain ⟨s, hs, rfl⟩ := ha
  have hs := (opts_mem.mp hs).1
  exact cnt_nonneg (hn.erase _) (by rw [List.length_erase_of_mem hs]; omega)
theorem beh_sum {fs xs : List Int} (x : Int) (hn : fs.Nodup) (hl : fs.length = xs.length + 1) : pre (beh fs x xs) (opts fs x).length = cnt fs (x :: xs) := by
  rw [cnt_step x hn hl]
  unfold pre beh
  rw [List.take_of_length_le (by simp)]
theorem Num.fact {fs xs ss : List Int} {k : Int} (h : Num fs xs ss k) : fs.Nodup → ss.Perm fs ∧ noHit ss xs = true ∧ ss.length = xs.length ∧ 0 ≤ k ∧ k < cnt fs xs := by
  induction h with
  | nil => intro _; exact ⟨.nil, rfl, rfl, Int.le_refl _, by decide⟩
  | @cons fs xs ss x s k i hi hr ih =>
    intro hn
    have hs := opts_mem.mp (List.mem_of_getElem? hi)
    obtain ⟨p, nh, hl, h0, h1⟩ := ih (hn.erase _)
    have hlf : fs.length = xs.length + 1 := by
      have := p.length_eq
      rw [List.length_erase_of_mem hs.1] at this
      have := List.length_pos_of_mem hs.1
      omega
    have hb : (beh fs x xs)[i]? = some (cnt (fs.erase s) xs) := by unfold beh; rw [List.getElem?_map, hi]; rfl
    have hnn := beh_nonneg x hn hlf
    have m0 := pre_mono hnn (i := 0) i
    have ms := pre_succ hb
    have hil : i < (opts fs x).length := (List.getElem?_eq_some_iff.mp hi).1
    have m1 := pre_mono hnn (i := i + 1) ((opts fs x).length - (i + 1))
    rw [show i + 1 + ((opts fs x).length - (i + 1)) = (opts fs x).length by omega, beh_sum x hn hlf] at m1
    have z0 : pre (beh fs x xs) 0 = 0 := rfl
    rw [Nat.zero_add] at m0
    refine ⟨(p.cons s).trans (List.perm_cons_erase hs.1).symm, ?_, by simp [hl], by omega, by omega⟩
    unfold noHit at nh ⊢
    rw [List.zip_cons_cons, List.all_cons, nh]
    simp [hs.2]
theorem Num.len {fs xs ss : List Int} {k : Int} (h : Num fs xs ss k) : fs.length = xs.length := by
  induction h with
  | nil => rfl
  | @cons fs xs ss x s k i hi hr ih =>
    have hs := opts_mem.mp (List.mem_of_getElem? hi)
    rw [List.length_erase_of_mem hs.1] at ih
    have := List.length_pos_of_mem hs.1
    simp only [List.length_cons]; omega
/-- which seat the number falls to -/
theorem falls {fs xs : List Int} {x k : Int} {i j : Nat} (hn : fs.Nodup) (hl : fs.length = xs.length + 1) {a : Int} (hi : (beh fs x xs)[i]? = some a) (h0 : pre (beh fs x xs) i ≤ k) (h1 : k < pre (beh fs x xs) i + a)
    (hj : pre (beh fs x xs) j ≤ k) : j ≤ i := by
  apply Classical.byContradiction
  intro hlt
  have := pre_mono (beh_nonneg x hn hl) (i := i + 1) (j - (i + 1))
  rw [show i + 1 + (j - (i + 1)) = j by omega] at this
  have := pre_succ hi
  omega
theorem Num.seat {fs xs ss : List Int} {k : Int} (h : Num fs xs ss k) : fs.Nodup → ∀ {ss'}, Num fs xs ss' k → ss = ss' := by
  induction h with
  | nil => intro _ ss' h'; cases h'; rfl
  | @cons fs xs ss x s k i hi hr ih =>
    intro hn ss' h'
    have hs := opts_mem.mp (List.mem_of_getElem? hi)
    have f1 := hr.fact (hn.erase _)
    have hl0 := hr.len
    have hlf : fs.length = xs.length + 1 := by
      rw [List.length_erase_of_mem hs.1] at hl0
      have := List.length_pos_of_mem hs.1
      omega
    generalize hk : pre (beh fs x xs) i + k = K at h'
    cases h' with
    | @cons _ _ ss2 _ s2 k2 j hj hr2 =>
      have f2 := hr2.fact (hn.erase _)
      have hbi : (beh fs x xs)[i]? = some (cnt (fs.erase s) xs) := by unfold beh; rw [List.getElem?_map, hi]; rfl
      have hbj : (beh fs x xs)[j]? = some (cnt (fs.erase s2) xs) := by unfold beh; rw [List.getElem?_map, hj]; rfl
      have a1 := falls hn hlf hbi (k := pre (beh fs x xs) i + k) (j := j) (by omega) (by omega) (by omega)
      have a2 := falls hn hlf hbj (k := pre (beh fs x xs) i + k) (j := i) (by omega) (by omega) (by omega)
      have : i = j := by omega
      subst this
      rw [hi] at hj
      cases hj
      have : k = k2 := by omega
      subst this
      rw [ih (hn.erase _) hr2]
theorem opts_nodup {fs : List Int} (hn : fs.Nodup) (x : Int) : (opts fs x).Nodup := List.Pairwise.filter _ hn
theorem Num.num {fs xs ss : List Int} {k : Int} (h : Num fs xs ss k) : fs.Nodup → ∀ {k'}, Num fs xs ss k' → k = k' := by
  induction h with
  | nil => intro _ k' h'; cases h'; rfl
  | @cons fs xs ss x s k i hi hr ih =>
    intro hn k' h'
    cases h' with
    | @cons _ _ _ _ _ k2 j hj hr2 =>
      have e1 := idx_get (opts_nodup hn x) hi
      have e2 := idx_get (opts_nodup hn x) hj
      have : i = j := by omega
      subst this
      rw [ih (hn.erase _) hr2]
theorem Num.ex : ∀ (xs ss fs : List Int), fs.Nodup → ss.Perm fs → ss.length = xs.length → noHit ss xs = true → ∃ k, Num fs xs ss k
  | [], [], fs, _, p, _, _ => by
    have : fs = [] := List.nil_perm.mp p
    subst this
    exact ⟨0, .nil⟩
  | [], s :: ss, _, _, _, hl, _ => by simp at hl
  | x :: xs, [], _, _, _, hl, _ => by simp at hl
  | x :: xs, s :: ss, fs, hn, p, hl, nh => by
    have hs : s ∈ fs := p.mem_iff.mp List.mem_cons_self
    have p2 : ss.Perm (fs.erase s) := by
      have := p.trans (List.perm_cons_erase hs)
      exact this.cons_inv
    unfold noHit at nh
    rw [List.zip_cons_cons, List.all_cons, Bool.and_eq_true] at nh
    obtain ⟨k, hk⟩ := Num.ex xs ss (fs.erase s) (hn.erase _) p2 (by simpa using hl) nh.2
    have hne : s ≠ x := by simpa using nh.1
    obtain ⟨i, hi⟩ := List.mem_iff_getElem?.mp (opts_mem.mpr ⟨hs, hne⟩)
    exact ⟨_, .cons hi hk⟩
end OS

set_option Elab.async false
set_option linter.all false
set_option maxRecDepth 100000
/-! EXTENSIONS of the hand layer: comprehensions, enumerate, zip, ranges with a step .. -/
namespace L2
open PySem PySem.Spec PyProof.Rows

theorem same_new {H : Hp} {p : Addr} (h : H p = none) (o : HO) : Same H (upd H p o) := fun b u q => by rw [upd_ne (ne_of_none q h)]; exact q

/-! ### a comprehension's loop -/
section
variable {prog : Program} {w : World} {A : Around} {R : Result → Shared → Prop} {s : Shared}
theorem compLoop_go {elt target iter : Expr} {ifs : List Expr} {scope : Scope} {pos : Pos} {it acc : Value} {env : Env} (I : Nat → Shared → Prop)
    (turn : ∀ n s, I n s → wpAny (model prog w) A (pyNext it) (fun r s₁ => match r with
      | none => R (.ok .next) s₁
      | some v => wpAny (model prog w) A (letOwnedTupleGo target it v) (fun _ s₀ => wpAny (model prog w) A (assign target env v) (fun _ s₂ =>
          wpAny (model prog w) A (forIn ifs true fun c r => if r = true then do let ok ← isTrue c env (eval c env); pure (ForInStep.yield ok) else pure (ForInStep.yield r)) (fun ok s₃ =>
            if ok = true then wpAny (model prog w) A (eval elt env) (fun x s₄ =>
              wpAny (model prog w) A (call (.builtin "list.append") [acc, x]) (fun _ s₅ => ∃ m, m < n ∧ I m s₅) (fun _ _ => False) s₄) (fun _ _ => False) s₃
            else ∃ m, m < n ∧ I m s₃) (fun _ _ => False) s₂) (fun _ _ => False) s₀) (fun _ _ => False) s₁) (fun _ _ => False) s)
    (n : Nat) (h : I n s) :
    codeAny (model prog w) A (.compLoop (.ListComp elt [⟨target, iter, ifs, 0⟩] scope pos) 0 it acc env) R s := by
  refine codeAny_loop rfl I (fun n s hI => ?_) n h
  show wpAny _ A ((compTurn (.ListComp elt [⟨target, iter, ifs, 0⟩] scope pos) 0 it acc env).onRaise (fun x => do noteFrame x env; theTreesLotGoes x)) _ _ s
  refine wpAny_noted ?_
  rw [compTurn_list]
  refine wpAny_bind (wpAny_standAt (wpAny_bind (wpAny_mono (turn n s hI) (fun r s₁ h₁ => ?_) fun _ _ h' => h'.elim)))
  cases r with
  | none => exact wpAny_pure h₁
  | some v =>
    refine wpAny_bind (wpAny_mono h₁ (fun _ s₀ h₀ => ?_) fun _ _ h' => h'.elim)
    refine wpAny_bind (wpAny_mono h₀ (fun _ s₂ h₂ => wpAny_bind (wpAny_mono h₂ (fun ok s₃ h₃ => ?_) fun _ _ h' => h'.elim)) fun _ _ h' => h'.elim)
    cases ok with
    | false => exact wpAny_pure ⟨rfl, h₃⟩
    | true =>
      exact wpAny_bind (wpAny_bind (wpAny_mono h₃ (fun x s₄ h₄ => wpAny_bind (wpAny_mono h₄ (fun _ s₅ h₅ => wpAny_pure (wpAny_pure ⟨rfl, h₅⟩)) fun _ _ h' => h'.elim)) fun _ _ h' => h'.elim))
end

/-! ### the cells that a comprehension's block sees -/
def clAdd (env : Env) (y : Str × NameKind) (cl : List (Str × Addr)) : List (Str × Addr) := if (y.2 == NameKind.free) = true then (y.1, (env.cells.lookup y.1).getD 0) :: cl else cl
theorem forIn_yield_fold {α β : Type} {f : α → β → Sem (ForInStep β)} {g : α → β → β} : ∀ {l : List α} (c : β), (∀ x ∈ l, ∀ c, f x c = pure (.yield (g x c))) → forIn l c f = pure (l.foldl (fun c x => g x c) c)
  | [], c, _ => rfl
  | x :: l, c, h => by
    rw [List.forIn_cons, h x List.mem_cons_self, pure_bind]
    exact forIn_yield_fold (g x c) fun y hy => h y (List.mem_cons_of_mem _ hy)
def clOf (scope : Scope) (env : Env) : List (Str × Addr) := scope.names.foldl (fun c y => clAdd env y c) []
theorem closure_ok {scope : Scope} {env : Env} (h : ∀ y ∈ scope.names, y.2 = .free → ∃ c, env.cells.lookup y.1 = some c) : closureFor scope env = pure (clOf scope env) := by
  simp only [closureFor]
  rw [forIn_yield_fold (g := clAdd env) [] (fun x hx c => by
    obtain ⟨n, kind⟩ := x
    by_cases hk : kind = .free
    · subst hk
      obtain ⟨a, ha⟩ := h _ hx rfl
      have ha' : env.cells.lookup n = some a := ha
      simp only [clAdd, cellOf, ha', beq_self_eq_true, if_true, Option.getD_some, pure_bind]
    · have e : (kind == NameKind.free) = false := by simpa using hk
      simp only [clAdd, e, Bool.false_eq_true, if_false])]
  rfl
theorem cl_sub {env : Env} : ∀ (ns : List (Str × NameKind)) (acc : List (Str × Addr)), (∀ y ∈ ns, y.2 = .free → ∃ c, env.cells.lookup y.1 = some c) → (∀ x c, acc.lookup x = some c → env.cells.lookup x = some c) →
    ∀ x c, (ns.foldl (fun c y => clAdd env y c) acc).lookup x = some c → env.cells.lookup x = some c
  | [], acc, _, ha, x, c, e => ha x c e
  | y :: r, acc, h, ha, x, c, e => by
    rw [List.foldl_cons] at e
    refine cl_sub r (clAdd env y acc) (fun z hz => h z (List.mem_cons_of_mem _ hz)) (fun x' c' e' => ?_) x c e
    unfold clAdd at e'
    by_cases hk : (y.2 == NameKind.free) = true
    · rw [if_pos hk, List.lookup_cons] at e'
      obtain ⟨a, ha2⟩ := h y List.mem_cons_self (beq_iff_eq.mp hk)
      cases hx : x' == y.1 with
      | true =>
        rw [hx] at e'
        have e'' : (env.cells.lookup y.1).getD 0 = c' := Option.some.inj e'
        rw [ha2] at e''
        rw [beq_iff_eq.mp hx, ha2]
        exact congrArg some e''
      | false =>
        rw [hx] at e'
        exact ha x' c' e'
    · rw [if_neg hk] at e'
      exact ha x' c' e'
theorem cl_more {env : Env} : ∀ (ns : List (Str × NameKind)) (acc : List (Str × Addr)) (x : Str), (∃ c, acc.lookup x = some c) → ∃ c, (ns.foldl (fun c y => clAdd env y c) acc).lookup x = some c
  | [], _, _, h => h
  | y :: r, acc, x, ⟨c, e⟩ => by
    rw [List.foldl_cons]
    refine cl_more r _ x ?_
    unfold clAdd
    split
    · rw [List.lookup_cons]
      cases hx : x == y.1 with
      | true => exact ⟨_, rfl⟩
      | false => exact ⟨c, e⟩
    · exact ⟨c, e⟩
theorem cl_has {env : Env} : ∀ (ns : List (Str × NameKind)) (acc : List (Str × Addr)) (y : Str × NameKind), y ∈ ns → y.2 = .free → ∃ c, (ns.foldl (fun c y => clAdd env y c) acc).lookup y.1 = some c
  | [], _, _, h, _ => nomatch h
  | z :: r, acc, y, h, hf => by
    rw [List.foldl_cons]
    rcases List.mem_cons.mp h with rfl | h
    · refine cl_more r _ _ ?_
      unfold clAdd
      rw [if_pos (by rw [hf]; rfl), List.lookup_cons]
      simp
    · exact cl_has r _ y h hf
theorem relabel_free {env : Env} : ∀ {names : List (Str × NameKind)} {x : Str}, names.lookup x = some .free →
    (names.map fun (n, k) => if (k == NameKind.free && env.scope.kind == .function && env.kindOf n == some .cell) then (n, NameKind.cell) else (n, k)).lookup x = some .cell ∨
    (names.map fun (n, k) => if (k == NameKind.free && env.scope.kind == .function && env.kindOf n == some .cell) then (n, NameKind.cell) else (n, k)).lookup x = some .free
  | [], _, h => by simp at h
  | (n, k) :: r, x, h => by
    have ih := @relabel_free env r x
    rw [List.map_cons]
    show List.lookup x ((if (k == NameKind.free && env.scope.kind == .function && env.kindOf n == some .cell) = true then (n, NameKind.cell) else (n, k)) :: _) = _ ∨ List.lookup x ((if (k == NameKind.free && env.scope.kind == .function && env.kindOf n == some .cell) = true then (n, NameKind.cell) else (n, k)) :: _) = _
    cases hx : x == n with
    | true =>
      simp only [List.lookup_cons, hx] at h
      cases h
      by_cases hc : (NameKind.free == NameKind.free && env.scope.kind == .function && env.kindOf n == some .cell) = true
      · rw [if_pos hc]; left; simp only [List.lookup_cons, hx]
      · rw [if_neg hc]; right; simp only [List.lookup_cons, hx]
    | false =>
      simp only [List.lookup_cons, hx] at h
      by_cases hc : (k == NameKind.free && env.scope.kind == .function && env.kindOf n == some .cell) = true
      · rw [if_pos hc]; simp only [List.lookup_cons, hx]; exact ih h
      · rw [if_neg hc]; simp only [List.lookup_cons, hx]; exact ih h
/-- what the relabelled scope calls a cell or free was free ahead -/
theorem of_relabel {env : Env} : ∀ {names : List (Str × NameKind)} {x : Str}, (∀ y ∈ names, y.2 ≠ .cell) →
    ((names.map fun (n, k) => if (k == NameKind.free && env.scope.kind == .function && env.kindOf n == some .cell) then (n, NameKind.cell) else (n, k)).lookup x = some .cell ∨
    (names.map fun (n, k) => if (k == NameKind.free && env.scope.kind == .function && env.kindOf n == some .cell) then (n, NameKind.cell) else (n, k)).lookup x = some .free) → (x, NameKind.free) ∈ names
  | [], _, _, h => by simp at h
  | (n, k) :: r, x, hn, h => by
    have ih := @of_relabel env r x (fun y hy => hn y (List.mem_cons_of_mem _ hy))
    have hk := hn (n, k) List.mem_cons_self
    rw [List.map_cons] at h
    change List.lookup x ((if (k == NameKind.free && env.scope.kind == .function && env.kindOf n == some .cell) = true then (n, NameKind.cell) else (n, k)) :: _) = _ ∨ List.lookup x ((if (k == NameKind.free && env.scope.kind == .function && env.kindOf n == some .cell) = true then (n, NameKind.cell) else (n, k)) :: _) = _ at h
    cases hx : x == n with
    | true =>
      have ex : x = n := beq_iff_eq.mp hx
      subst ex
      by_cases hc : (k == NameKind.free && env.scope.kind == .function && env.kindOf x == some .cell) = true
      · have : k = .free := by
          rw [Bool.and_eq_true, Bool.and_eq_true] at hc
          exact beq_iff_eq.mp hc.1.1
        subst this
        exact List.mem_cons_self
      · rw [if_neg hc] at h
        simp only [List.lookup_cons, hx] at h
        rcases h with h | h
        · exact absurd (Option.some.inj h) hk
        · rw [Option.some.inj h]; exact List.mem_cons_self
    | false =>
      refine List.mem_cons_of_mem _ (ih ?_)
      by_cases hc : (k == NameKind.free && env.scope.kind == .function && env.kindOf n == some .cell) = true
      · rw [if_pos hc] at h; simp only [List.lookup_cons, hx] at h; exact h
      · rw [if_neg hc] at h; simp only [List.lookup_cons, hx] at h; exact h

/-! ### a comprehension's block as a context -/
/-- names: the block's own first, then what it reads of the def's; fr: their places among the def's names -/
structure CompSc (N : List Str) (sc scope : Scope) (N' : List Str) (own : Nat) (fr : List Nat) : Prop where
  kind : scope.kind = .function
  nocell : ∀ y ∈ scope.names, y.2 ≠ .cell
  loc : ∀ y ∈ scope.names, y.2 = .local → scope.names.lookup y.1 = some .local
  free : ∀ y ∈ scope.names, y.2 = .free → sc.names.lookup y.1 = some .cell ∨ sc.names.lookup y.1 = some .free
  nd : N'.Nodup
  len : N'.length = own + fr.length
  names : N'.drop own = fr.map (fun i => N.getD i "")
  ins : ∀ i ∈ fr, i < N.length
  frees : ∀ x ∈ N'.drop own, scope.names.lookup x = some .free
def startC (own : Nat) (fr : List Nat) (σ : St) : St := List.replicate own none ++ fr.map (fun i => (σ[i]?).getD none)
def cxComp (X : Cx) (scope : Scope) (N' : List Str) (s2 : Shared) (H2 : Hp) (fp : List Addr) : Cx :=
  { X with N := N', s₀ := s2, H₀ := H2, env := compEnvC scope (clOf scope X.env) (s2.heap.objs.size + 1) X.env, outer := X.stack, stack := X.stack, ex := fp, fn := fun _ => false, pn := [], xe := fun _ _ => False }
section
variable {X : Cx} {pins : List (Addr × Obj)} {σ : St} {H : Hp} {s : Shared} {scope : Scope} {N' : List Str} {own : Nat} {fr : List Nat} {fp : List Addr}
theorem comp_cells (I : Inv X pins σ H s) (S : CompSc X.N X.env.scope scope N' own fr) : ∀ y ∈ scope.names, y.2 = .free → ∃ c, X.env.cells.lookup y.1 = some c :=
  fun y hy hf => I.ok.has y.1 (S.free y hy hf)
theorem comp_cl (I : Inv X pins σ H s) (S : CompSc X.N X.env.scope scope N' own fr) {x : Str} {c : Addr} (h : (clOf scope X.env).lookup x = some c) : X.env.cells.lookup x = some c :=
  cl_sub scope.names [] (comp_cells I S) (fun _ _ e => by simp at e) x c h
theorem ok_comp (I : Inv X pins σ H s) (S : CompSc X.N X.env.scope scope N' own fr) (hf : ∀ b ∈ fp, FpOk X pins H b) (ho : ∀ b ∈ fp, ∃ o, s.heap.get? b = some o) : (cxComp X scope N' s H fp).Ok where
  mod := I.ok.mod
  kind := S.kind
  glob := I.ok.glob
  blt := I.ok.blt
  above := Nat.le_succ _
  inj := fun x y c h1 h2 => I.ok.inj x y c (comp_cl I S h1) (comp_cl I S h2)
  has := fun x hx => by
    have hm := of_relabel (env := X.env) S.nocell hx
    exact cl_has scope.names [] (x, .free) hm rfl
  cab := fun x c h => by cases h
  hd := I.ok.hd
  frames := I.ok.frames
  stk := .inl rfl
  exf := fun b hb => by
    obtain ⟨o, e⟩ := ho b hb
    obtain ⟨_, _, _, _, f4, _⟩ := hf b hb
    exact ⟨Nat.ne_of_lt (Nat.lt_succ_of_lt (Heap.lt_size e)), fun x c h => f4 x c (comp_cl I S h)⟩
  bs := I.bs
  bsz := Nat.le_trans I.ok.bsz I.sz
  noex := fun b o e hb => by
    obtain ⟨_, _, _, f3, _, _⟩ := hf b hb
    rcases f3 with z | z
    · exact I.ok.noex b o e z
    · exact absurd (Nat.lt_of_lt_of_le (Heap.lt_size e) (Nat.le_trans I.ok.bsz z)) (Nat.lt_irrefl _)
  exfs := fun b hb hz => by
    obtain ⟨_, f1, f2, _⟩ := hf b hb
    rcases List.mem_cons.mp (I.stkSub b hz) with e | e
    · exact f1 e
    · exact f2 e
  funs := I.stack
  frf := I.stkFree
theorem inv_comp {h1 : Heap} {tk : Nat} (I : Inv X pins σ H s) (S : CompSc X.N X.env.scope scope N' own fr) (hf : ∀ b ∈ fp, FpOk X pins H b) (ho : ∀ b ∈ fp, ∃ o, s.heap.get? b = some o)
    (hk : ∀ b o, s.heap.get? b = some o → h1.get? b = some o) (hD : h1.get? s.heap.objs.size = some { cls := .type "list", data := .seq ([] : List Value).toArray }) (hC : h1.Ns (s.heap.objs.size + 1) fun _ => none) :
    Inv (cxComp X scope N' s H fp) [] (startC own fr σ) (upd H s.heap.objs.size (.lst [])) { s with heap := h1, toks := tk } := by
  have hDn : H s.heap.objs.size = none := I.fresh
  have hCn : H (s.heap.objs.size + 1) = none := I.hok.fresh (Nat.le_succ _)
  refine ⟨ok_comp I S hf ho, rfl, I.bare, Un.laid hk (Nat.le_refl _) hDn, ⟨_, hC, fun i x v e1 e2 e3 => ?_⟩, fun x c e => ?_, ?_, fun x c e => ?_, fun p hp => absurd (show p ∈ ([] : List (Addr × Obj)) from hp) (by simp), I.hok.laid hk (Nat.le_refl _) ⟨Nat.zero_le _, [], 0, .nil, hD⟩, ?_⟩
  · change N'[i]? = some x at e1
    have hi : own ≤ i := by
      rcases Nat.lt_or_ge i own with h | h
      · exfalso
        unfold startC at e2
        rw [List.getElem?_append_left (by simpa using h), List.getElem?_replicate, if_pos h] at e2
        cases e2
      · exact h
    obtain ⟨j, rfl⟩ : ∃ j, i = own + j := ⟨i - own, by omega⟩
    unfold startC at e2
    rw [List.getElem?_append_right (by simp)] at e2
    simp only [List.length_replicate, Nat.add_sub_cancel_left, List.getElem?_map] at e2
    have e1' : (N'.drop own)[j]? = some x := by rw [List.getElem?_drop]; exact e1
    have hfr := S.frees x (List.mem_of_getElem? e1')
    rw [S.names, List.getElem?_map] at e1'
    cases hj : fr[j]? with
    | none => rw [hj] at e2; cases e2
    | some k =>
      rw [hj] at e1' e2
      have e1'' : X.N.getD k "" = x := Option.some.inj e1'
      have hkl : k < X.N.length := S.ins k (List.mem_of_getElem? hj)
      have hN : X.N[k]? = some x := by
        rw [List.getElem?_eq_getElem hkl]
        rw [List.getD_eq_getElem?_getD, List.getElem?_eq_getElem hkl] at e1''
        exact congrArg some e1''
      have hσ : σ[k]? = some (some v) := by
        have z : (σ[k]?).getD none = some v := Option.some.inj e2
        cases hs : σ[k]? with
        | none => rw [hs] at z; cases z
        | some o => rw [hs] at z; exact congrArg some z
      have kd := S.free (x, .free) (PySem.mem_of_lookup hfr) rfl
      obtain ⟨m, _, hl⟩ := I.loc
      obtain ⟨u, r, l⟩ := hl k x v hN hσ (by rcases kd with z | z; exact .inr (.inl z); exact .inr (.inr z))
      refine ⟨u, r, .inr ⟨relabel_free hfr, ?_⟩⟩
      rcases l with ⟨z, _⟩ | ⟨_, c, hc, cell⟩
      · exfalso
        have z' : X.env.scope.names.lookup x = some .local := z
        rcases kd with q | q <;> (rw [z'] at q; cases q)
      · obtain ⟨c', hc'⟩ := cl_has (env := X.env) scope.names [] (x, .free) (PySem.mem_of_lookup hfr) rfl
        have : X.env.cells.lookup x = some c' := comp_cl I S hc'
        rw [hc] at this; cases this
        refine ⟨c, hc', ?_⟩
        obtain ⟨o, ho', hd⟩ := cell
        exact ⟨o, hk _ _ ho', hd⟩
  · obtain ⟨v, o, ho', hd⟩ := I.cell x c (comp_cl I S e)
    exact ⟨v, o, hk _ _ ho', hd⟩
  · show upd H s.heap.objs.size (.lst []) (s.heap.objs.size + 1) = none
    rw [upd_ne (Nat.succ_ne_self _)]; exact hCn
  · have z := I.freeC x c (comp_cl I S e)
    obtain ⟨v, q⟩ := I.cell x c (comp_cl I S e)
    rw [upd_ne (Nat.ne_of_lt q.lt)]; exact z
  · unfold startC
    show _ = N'.length
    rw [List.length_append, List.length_replicate, List.length_map, S.len]
end

/-! ### the tests of a comprehension -/
def PIf (X : Cx) (ifs : List Expr) (t : TT) : Prop :=
  ∀ (pins : List (Addr × Obj)) (s : Shared) (σ : St) (H : Hp) (Q : Bool → Hp → Prop), Inv X pins σ H s → t σ H Q →
    wpAny (model X.prog X.w) X.A (forIn ifs true fun c r => if r = true then do let ok ← isTrue c X.env (eval c X.env); pure (ForInStep.yield ok) else pure (ForInStep.yield r)) (TP X pins σ Q) X.xe s
def tAll : TT := fun _ H Q => Q true H
theorem pif_nil {X : Cx} : PIf X [] tAll := fun _ _ _ H _ I h => wpAny_tests_nil ⟨H, I, h⟩
theorem pif_one {X : Cx} {c : Expr} {t : TT} (h : PT X c t) : PIf X [c] t := fun pins s σ H Q I hw => wpAny_tests_one (h pins s σ H Q I hw)

/-- a comprehension: W i m ys σ H: ahead of turn i, ys made so far -/
def WComp (J : It) (g : TG) (tc : TT) (te : TE) (D : Addr) (Q : Hp → Prop) (σ0 : St) (H0 : Hp) : Prop :=
  ∃ W : Nat → Nat → List V → St → Hp → Prop, (∃ m, W 0 m [] σ0 H0) ∧ ∀ i m ys σ H, W i m ys σ H → H D = some (.lst ys) ∧
    ((J.stop i H ∧ Q H) ∨ (J.go i H ∧ ys.length < sizeLine ∧ ∃ N : List V → St → Hp → Prop, (∀ ys' σ' H', N ys' σ' H' → ∃ m', m' < m ∧ W (i + 1) m' ys' σ' H') ∧ ∀ x H2, J.yld i H x H2 → g x σ H2 fun σ2 H3 => tc σ2 H3 fun b H4 =>
      if b = true then te σ2 H4 fun y H5 => H5 D = some (.lst ys) ∧ N (ys ++ [y]) σ2 (upd H5 D (.lst (ys ++ [y]))) else N ys σ2 H4))
def tComp (wi : TI) (g : Shared → Hp → List Addr → TG) (tc : Shared → Hp → List Addr → TT) (te : Shared → Hp → List Addr → TE) (own : Nat) (fr : List Nat) : TE := fun σ H Q => wi σ H fun J H1 => ∀ D, H1 D = none → ∀ s fp, WComp J (g s H1 fp) (tc s H1 fp) (te s H1 fp) D (fun H2 => Q (.ref D) H2) (startC own fr σ) (upd H1 D (.lst []))

section
variable {X : Cx} {tg elt iter : Expr} {ifs : List Expr} {scope : Scope} {pos : Pos} {N' : List Str} {own : Nat} {fr : List Nat} {wi : TI}
/-- the block runs -/
theorem comp_run {g : TG} {tc : TT} {te : TE} {pins : List (Addr × Obj)} {σ : St} {H : Hp} {s : Shared} {J : It} {fp : List Addr} {it : Addr} {tn : Nat → Heap → Prop} {E : Value → Shared → Prop} {RR : Value → Addr → Result → Shared → Prop} {Q : Addr → Hp → Prop}
    (hc : X.calm = true) (S : CompSc X.N X.env.scope scope N' own fr) (I : Inv X pins σ H s) (T : Turn X.prog X.w X.K tg J fp it tn) (st : tn 0 s.heap) (hf : ∀ b ∈ fp, FpOk X pins H b)
    (hg : PG (cxComp X scope N' s H fp) tg g) (hi : PIf (cxComp X scope N' s H fp) ifs tc) (he : PE (cxComp X scope N' s H fp) elt te)
    (hW : WComp J g tc te s.heap.objs.size (Q s.heap.objs.size) (startC own fr σ) (upd H s.heap.objs.size (.lst [])))
    (hR : ∀ σ' H' s', Inv (cxComp X scope N' s H fp) [] σ' H' s' → Q s.heap.objs.size H' → RR (.ref s.heap.objs.size) (s.heap.objs.size + 1) (.ok .next) s') :
    wpAny (model X.prog X.w) X.A (newList []) (fun acc s₃ => wpAny (model X.prog X.w) X.A (newFunctionEnv scope X.env.globals (clOf scope X.env) [] X.env.qual none .none (some X.env)) (fun cenv s₄ =>
      codeAny (model X.prog X.w) X.A (.compStart (.ListComp elt [⟨tg, iter, ifs, 0⟩] scope pos) 0 (.ref it) acc { cenv with scope := relabel scope X.env }) (RR acc cenv.locals) s₄) E s₃) E s := by
  have hobj := T.obj 0 _ st
  have ho : ∀ b ∈ fp, ∃ o, s.heap.get? b = some o := fun b hb => let ⟨o, e, _⟩ := hobj b hb; ⟨o, e⟩
  refine wpAny_newObj_type (wpAny_newFunctionEnv S.nocell (by intro y hy; simp at hy) (fun h₁ hns₁ hsb₁ => ?_) S.kind)
  dsimp only at hns₁ hsb₁ ⊢
  generalize hH2 : s.heap.push { cls := .type "list", dict := none, data := .seq ([] : List Value).toArray } = H2 at hns₁ hsb₁ ⊢
  have hC : H2.objs.size = s.heap.objs.size + 1 := by rw [← hH2, Heap.size_push]
  rw [hC] at hns₁ hsb₁ ⊢
  have old : ∀ b o, s.heap.get? b = some o → h₁.get? b = some o := fun b o e => hsb₁.extBut b o (Nat.ne_of_lt (Nat.lt_succ_of_lt (Heap.lt_size e))) (Heap.get?_push_of_some _ (hH2 ▸ Heap.get?_push_of_some _ e))
  have hacc : h₁.get? s.heap.objs.size = some { cls := .type "list", data := .seq ([] : List Value).toArray } := hsb₁.extBut _ _ (Nat.ne_of_lt (Nat.lt_succ_self _)) (Heap.get?_push_of_some _ (hH2 ▸ Heap.get?_push_size _ rfl))
  have hst₁ : tn 0 h₁ := T.keep _ _ _ st fun b _ o e => old b o e
  have I1 := inv_comp (tk := s.toks + ([] : List (Str × Value)).length) I S hf ho old hacc hns₁
  have stat : ∀ {H' : Hp}, (∀ b ∈ fp, H' b = none) → ∀ b ∈ fp, FpOk (cxComp X scope N' s H fp) [] H' b := fun hn b hb => by
    obtain ⟨_, f1, f2, f3, f4, f5⟩ := hf b hb
    obtain ⟨o, e⟩ := ho b hb
    refine ⟨hn b hb, Nat.ne_of_lt (Nat.lt_succ_of_lt (Heap.lt_size e)), fun hz => ?_, .inl hb, fun x c h => f4 x c (comp_cl I S h), fun p hp => absurd (show p ∈ ([] : List (Addr × Obj)) from hp) (by simp)⟩
    rcases List.mem_cons.mp (I.stkSub b hz) with e | e
    · exact f1 e
    · exact f2 e
  obtain ⟨W, ⟨m0, w0⟩, turn⟩ := hW
  have hfr0 : ∀ b ∈ fp, (upd H s.heap.objs.size (.lst [])) b = none := fun b hb => by
    obtain ⟨o, e⟩ := ho b hb
    rw [upd_ne (Nat.ne_of_lt (Heap.lt_size e))]; exact (hf b hb).1
  have loop : ∀ s₃ : Shared, s₃ = { s with heap := h₁, toks := s.toks + ([] : List (Str × Value)).length } →
      codeAny (model X.prog X.w) X.A (.compLoop (.ListComp elt [⟨tg, iter, ifs, 0⟩] scope pos) 0 (.ref it) (.ref s.heap.objs.size) (compEnvC scope (clOf scope X.env) (s.heap.objs.size + 1) X.env))
        (RR (.ref s.heap.objs.size) (s.heap.objs.size + 1)) s₃ := by
    rintro s₃ rfl
    refine compLoop_go (fun n s' => ∃ i ys σ' H', Inv (cxComp X scope N' s H fp) [] σ' H' s' ∧ tn i s'.heap ∧ (∀ b ∈ fp, H' b = none) ∧ W i n ys σ' H') ?_ m0 ⟨0, [], _, _, I1, hst₁, hfr0, w0⟩
    rintro n s3 ⟨i, ys, σ3, H3, I3, st3, fr3, w3⟩
    obtain ⟨hD3, turn3⟩ := turn i n ys σ3 H3 w3
    rcases turn3 with ⟨stop, qn⟩ | ⟨go, hys, N, hN, step⟩
    · refine wpAny_mono (T.done (cxComp X scope N' s H fp) rfl rfl rfl hc i [] s3 σ3 H3 _ I3 (stat fr3) st3 stop) (fun r s4 ⟨hr, I4⟩ => ?_) fun _ _ z => z
      subst hr
      exact hR σ3 H3 s4 I4 qn
    · refine wpAny_mono (T.item (cxComp X scope N' s H fp) rfl rfl rfl hc i [] s3 σ3 H3 _ I3 (stat fr3) st3 go) (fun r s4 ⟨u, hr, h4⟩ => ?_) fun _ _ z => z
      subst hr
      refine wpAny_mono h4 (fun _ s5 ⟨x, H5, I5, r5, y5, st5, fr5⟩ => ?_) fun _ _ z => z
      have I5' := I5.pinned (stat fr5) (T.obj _ _ st5)
      refine wpAny_mono (hg _ s5 σ3 H5 x u _ I5' r5 (step x H5 y5)) (fun _ s6 ⟨σ6, H6, I6, q6⟩ => ?_) fun _ _ z => z
      refine wpAny_mono (hi _ s6 σ6 H6 _ I6 q6) (fun ok s7 ⟨H7, I7, q7⟩ => ?_) fun _ _ z => z
      have again : ∀ {ys' : List V} {σ8 : St} {H8 : Hp} {s8 : Shared}, Inv (cxComp X scope N' s H fp) ([] ++ pinsAt fp s5.heap) σ8 H8 s8 → N ys' σ8 H8 →
          ∃ m, m < n ∧ ∃ i ys σ' H', Inv (cxComp X scope N' s H fp) [] σ' H' s8 ∧ tn i s8.heap ∧ (∀ b ∈ fp, H' b = none) ∧ W i m ys σ' H' := fun {ys' σ8 H8 s8} I8 n8 => by
        obtain ⟨m', hm, w8⟩ := hN ys' σ8 H8 n8
        refine ⟨m', hm, i + 1, ys', σ8, H8, I8.unpinned, T.keep _ _ _ st5 fun b hb o e => (I8.pin (b, o) (List.mem_append_right _ (List.mem_append_right _ (mem_pinsAt hb e)))).1, fun b hb => ?_, w8⟩
        obtain ⟨o, e, d⟩ := T.obj _ _ st5 b hb
        exact (I8.pin (b, o) (List.mem_append_right _ (List.mem_append_right _ (mem_pinsAt hb e)))).2.1
      cases ok with
      | false =>
        rw [if_neg Bool.false_ne_true] at q7 ⊢
        exact again I7 q7
      | true =>
        rw [if_pos rfl] at q7 ⊢
        refine wpAny_mono (he _ s7 σ6 H7 _ I7 q7) (fun v s8 ⟨y, H8, I8, r8, hD8, q8⟩ => ?_) fun _ _ z => z
        refine wpAny_mono (mt_append (X := cxComp X scope N' s H fp) _ s8 σ6 H8 (.ref s.heap.objs.size) [y] (.ref s.heap.objs.size) [v] (fun _ H9 => H9 = upd H8 s.heap.objs.size (.lst (ys ++ [y]))) I8 rfl (.cons r8 .nil) ⟨_, ys, y, rfl, rfl, hD8, hys, rfl⟩) (fun _ s9 ⟨_, H9, I9, _, e9⟩ => ?_) fun _ _ z => z
        subst e9
        exact again I9 q8
  exact codeAny_compStart_list (loop _ rfl) (T.self _ 0 _ _ _ hst₁ (loop _ rfl))

/-- behind the block: the def's own invariant again -/
theorem comp_after {pins : List (Addr × Obj)} {σ σ' : St} {H H' : Hp} {s s' : Shared} {fp : List Addr} (I : Inv X pins σ H s) (hf : ∀ b ∈ fp, FpOk X pins H b) (I' : Inv (cxComp X scope N' s H fp) [] σ' H' s') : Inv X pins σ H' s' :=
  I.call' I'.os I'.base I'.hok I'.bare fun b hb => let ⟨_, f1, _, f3, f4, f5⟩ := hf b hb; ⟨f3, f1, f4, f5⟩
theorem comp_gone {pins : List (Addr × Obj)} {σ σ1 : St} {H H' : Hp} {s s' : Shared} {h' : Heap} (I : Inv X pins σ H s) (J : Inv X pins σ1 H' s') (hn : H' (s.heap.objs.size + 1) = none) (hs : Heap.SameBut (s.heap.objs.size + 1) s'.heap h') : Inv X pins σ1 H' { s' with heap := h' } := by
  obtain ⟨f0, f1, f2, f3, f4, f5⟩ := I.fpOk (H' := H') (Nat.le_succ _) hn
  exact J.turned (t' := s'.toks) (fun b o hb e => (hs.2 b hb).trans e) f0 f1 f3 f4 f5

/-- [elt for tg in iter if ..] -/
theorem pe_comp {g : Shared → Hp → List Addr → TG} {tc : Shared → Hp → List Addr → TT} {te : Shared → Hp → List Addr → TE} (hc : X.calm = true) (S : CompSc X.N X.env.scope scope N' own fr) (hi : PI X tg iter wi) (hg : ∀ s H fp, PG (cxComp X scope N' s H fp) tg (g s H fp)) (hif : ∀ s H fp, PIf (cxComp X scope N' s H fp) ifs (tc s H fp)) (he : ∀ s H fp, PE (cxComp X scope N' s H fp) elt (te s H fp))
    (hs : ∀ x, foldedSetIterable iter X.env x = pure x := by intro _; rfl) : PE X (.ListComp elt [⟨tg, iter, ifs, 0⟩] scope pos) (tComp wi g tc te own fr) := by
  intro pins s σ H Q I h
  rw [eval_ListComp]
  refine wpAny_comprehension_free (use := none) rfl hs (closure_ok (comp_cells I S)) S.kind S.loc (thn (hi pins s σ H _ I h) fun xv s1 h1 => thn h1 fun itv s2 h2 => ?_)
  obtain ⟨it, fp, tn, J, H2, rfl, I2, T, st2, f2, hW⟩ := h2
  refine comp_run (Q := fun D' H3 => Q (.ref D') H3) hc S I2 T st2 f2 (hg _ _ _) (hif _ _ _) (he _ _ _) (hW _ I2.fresh _ _) fun σ' H' s' I' q => ?_
  obtain ⟨m, hn, _⟩ := I'.loc
  refine ⟨m, hn, fun h' hs' => ?_⟩
  exact ⟨.ref s2.heap.objs.size, H', comp_gone I2 (comp_after I2 f2 I') I'.free hs', rfl, q⟩
/-- x = [elt for tg in iter if ..], x a plain local: stored ahead of the variables' letting go -/
theorem ps_comp {i : Nat} {x : Str} {px spos : Pos} {g : Shared → Hp → List Addr → TG} {tc : Shared → Hp → List Addr → TT} {te : Shared → Hp → List Addr → TE} (hc : X.calm = true) (S : CompSc X.N X.env.scope scope N' own fr) (hi : PI X tg iter wi) (hg : ∀ s H fp, PG (cxComp X scope N' s H fp) tg (g s H fp)) (hif : ∀ s H fp, PIf (cxComp X scope N' s H fp) ifs (tc s H fp)) (he : ∀ s H fp, PE (cxComp X scope N' s H fp) elt (te s H fp))
    (hN : X.N.Nodup) (hx : X.N[i]? = some x) (hl : X.env.scope.names.lookup x = some .local)
    (hsw : swapsWith (.ListComp elt [⟨tg, iter, ifs, 0⟩] scope pos) (some (.Name x px)) spos.line X.env = pure true)
    (hs : ∀ x, foldedSetIterable iter X.env x = pure x := by intro _; rfl) : PS X (.Assign [.Name x px] (.ListComp elt [⟨tg, iter, ifs, 0⟩] scope pos) spos) (tAsg (tComp wi g tc te own fr) (gName i)) := by
  intro pins s σ H D I h
  rw [exec_Assign_Name_used _ _ _ _ hsw]
  refine wpAny_bind (wpAny_standAt (wpAny_bind ?_))
  show wpAny _ X.A (do let _ ← comprehension (.ListComp elt [⟨tg, iter, ifs, 0⟩] scope pos) scope X.env _ (newList []) false (eval iter X.env) (some (assign (.Name x px) X.env))) _ _ s
  refine wpAny_bind (wpAny_mono (wpAny_comprehension_free (use := some (assign (.Name x px) X.env)) (Q := fun _ s' => SP X pins D .next s') rfl hs (closure_ok (comp_cells I S)) S.kind S.loc
    (thn (hi pins s σ H _ I h) fun xv s1 h1 => thn h1 fun itv s2 h2 => ?_)) (fun _ s' hq => wpAny_pure (wpAny_pure hq)) fun _ _ e => e)
  obtain ⟨it, fp, tn, J, H2, rfl, I2, T, st2, f2, hW⟩ := h2
  refine comp_run (Q := fun D' H3 => D.nx (σ.set i (some (.ref D'))) H3) hc S I2 T st2 f2 (hg _ _ _) (hif _ _ _) (he _ _ _) (hW _ I2.fresh _ _) fun σ' H' s' I' q => ?_
  obtain ⟨m, hn, _⟩ := I'.loc
  have J' := comp_after I2 f2 I'
  refine wpAny_assign_Name (store_ok2 J' hN hx (.inl hl) (v := .ref s2.heap.objs.size) rfl (fun s3 I3 hsame => ?_) (.inr hl))
  obtain ⟨a, hsb, ha⟩ := hsame
  have hne : s2.heap.objs.size + 1 ≠ a := by
    rcases ha with e | e
    · rw [e]; exact Nat.ne_of_gt (Nat.lt_succ_of_lt I2.lt)
    · obtain ⟨v, z⟩ := I2.cell _ _ e
      exact Nat.ne_of_gt (Nat.lt_succ_of_lt z.lt)
  refine ⟨m, hn.sameBut hsb hne, fun h' hs' => ?_⟩
  exact ⟨_, H', comp_gone I2 I3 I'.free hs', q⟩
end
/-! ### a block cut behind a statement: what holds there is said -/
def tCut (t u : TS) : TS := fun D σ H => ∃ I : St → Hp → Prop, t { D with nx := I } σ H ∧ ∀ σ' H', I σ' H' → u D σ' H'
theorem pss_cut {X : Cx} {st : Stmt} {rest : List Stmt} {t u : TS} (h1 : PS X st t) (h2 : PSs X rest u) : PSs X (st :: rest) (tCut t u) := by
  intro pins s σ H D I h
  obtain ⟨J, h, k⟩ := h
  refine wpAny_execs_cons (thn (h1 pins s σ H { D with nx := J } I h) fun f s1 q => ?_)
  cases f with
  | next =>
    obtain ⟨σ', H', I', q⟩ := q
    exact h2 pins s1 σ' H' D I' (k σ' H' q)
  | ret v => exact q
  | brk => exact q
  | cont => exact q
end L2

set_option Elab.async false
set_option linter.all false
set_option maxRecDepth 100000
namespace L2
open PySem PySem.Spec PyProof.Rows

/-! ### records of an iterator that turn, a new object tracked beside -/
section
variable {X : Cx} {pins : List (Addr × Obj)} {σ : St} {H : Hp} {s : Shared} {h' : Heap} {ch : List Addr}
theorem Inv.turnedAll {t' : Nat} (I : Inv X pins σ H s) (k : ∀ b o, b ∉ ch → s.heap.get? b = some o → h'.get? b = some o) (hch : ∀ b ∈ ch, FpOk X pins H b) : Inv X pins σ H { s with heap := h', toks := t' } := by
  have nch : ∀ b u, H b = some u → b ∉ ch := fun b u e z => by rw [(hch b z).1] at e; cases e
  refine I.step (g' := s.gens) (d' := s.drawn) (ch := ch) (fun b hb => let ⟨_, f1, _, f3, f4, f5⟩ := hch b hb; ⟨f3, f1, f4, f5⟩) (fun b o _ _ hc e _ => k b o hc e) (fun b o _ _ hc e _ => ⟨o.slots, k b o hc e⟩) (fun _ _ _ _ n => n)
    (fun b o hc e => ⟨o, k b o hc e⟩) (fun _ _ e => e) (fun _ _ _ e => e) (fun b ps e => ⟨#[], by rw [e]; simp⟩) (fun m hm => ?_) (fun b u e => ?_) I.bare
  · obtain ⟨o, es, ep, ho, r⟩ := hm
    exact ⟨o, es, ep, k _ o (fun z => (hch _ z).2.1 rfl) ho, r⟩
  · refine (I.hok b u e).stay (fun c v hc q => k c v ?_ q) (fun _ q => q) fun _ _ q => q
    rcases hc with z | z
    · rw [z]; exact nch b u e
    · exact nch c _ z
theorem Inv.turnedNew {t' : Nat} {a : Addr} {o : HO} (I : Inv X pins σ H s) (k : ∀ b o, b ∉ ch → s.heap.get? b = some o → h'.get? b = some o) (hch : ∀ b ∈ ch, FpOk X pins H b) (hp : s.heap.objs.size ≤ a)
    (new : ObjOk X.prog X.w (upd H a o) h' a o) : Inv X pins σ (upd H a o) { s with heap := h', toks := t' } := by
  have nch : ∀ b u, H b = some u → b ∉ ch := fun b u e z => by rw [(hch b z).1] at e; cases e
  have ha : H a = none := I.hok.fresh hp
  have na : ∀ b u, s.heap.get? b = some u → b ≠ a := fun b u e => Nat.ne_of_lt (Nat.lt_of_lt_of_le (Heap.lt_size e) hp)
  refine I.step (g' := s.gens) (d' := s.drawn) (ch := ch) (fun b hb => let ⟨_, f1, _, f3, f4, f5⟩ := hch b hb; ⟨f3, f1, f4, f5⟩) (fun b o _ _ hc e _ => k b o hc e) (fun b o _ _ hc e _ => ⟨o.slots, k b o hc e⟩) (fun b u _ e n => by rw [upd_ne (na b u e)]; exact n)
    (fun b o hc e => ⟨o, k b o hc e⟩) (fun b xs e => by rw [upd_ne (ne_of_none e ha)]; exact e) (fun b u xs e => by rw [upd_ne (ne_of_none e ha)]; exact e) (fun b ps e => ⟨#[], by rw [upd_ne (ne_of_none e ha), e]; simp⟩) (fun m hm => ?_) (fun b u e => ?_) I.bare
  · obtain ⟨o, es, ep, ho, r⟩ := hm
    exact ⟨o, es, ep, k _ o (fun z => (hch _ z).2.1 rfl) ho, r⟩
  · by_cases hb : b = a
    · subst hb; rw [upd_same] at e; cases e; exact new
    · rw [upd_ne hb] at e
      refine (I.hok b u e).stay (fun c v hc q => k c v ?_ q) (fun c q => by rw [upd_ne (ne_of_none q ha)]; exact q) fun c xs q => by rw [upd_ne (ne_of_none q ha)]; exact q
      rcases hc with z | z
      · rw [z]; exact nch b u e
      · exact nch c _ z
end

/-! ### enumerate(xs), with two targets -/
/-- pairs (place, item) of the list at a -/
def Ite (K : PySem.W.Frag) (a : Addr) : It :=
  ⟨fun i H => ∃ xs x, SqL K H a xs ∧ xs[i]? = some x, fun i H x H' => ∃ p y, H p = none ∧ x = .ref p ∧ H' = upd H p (.tup [.int i, y]) ∧ ∀ xs, SqL K H a xs → xs[i]? = some y, fun i H => ∃ xs, SqL K H a xs ∧ xs.length ≤ i⟩
theorem turn_enum {P : Program} {w : World} {K : PySem.W.Frag} {es : List Expr} {k : Nat} {tp : Pos} (a e it : Addr) (hei : e ≠ it) :
    Turn P w K (.Tuple es k tp) (Ite K a) [e, it] e (fun i h => (∃ old, IsEnum h e it i old) ∧ h.IsListIter it a i) where
  mem := by simp
  obj := fun i h st b hb => by
    obtain ⟨⟨old, he⟩, o, e1, c, d⟩ := st
    rcases List.mem_cons.mp hb with z | hb
    · subst z
      exact ⟨_, he, fun v z => by
        have z' : Data.fields _ = Data.cell v := z
        cases z'⟩
    · have z : b = it := by simpa using hb
      subst z
      exact ⟨o, e1, fun v z => by rw [d] at z; cases z⟩
  keep := fun i h h' st k => by
    obtain ⟨⟨old, he⟩, hi⟩ := st
    exact ⟨⟨old, k e (by simp) _ he⟩, hi.at fun o q => k it (by simp) o q⟩
  item := by
    intro X hP hw hK hc i pins s σ H E I hf st hg
    subst hP hw hK
    obtain ⟨xs, x, hq, hx⟩ := hg
    obtain ⟨⟨old, he⟩, hi⟩ := st
    obtain ⟨its, rv, p, hz⟩ := I.list hq
    obtain ⟨u, hu, ru⟩ := rv.get hx
    have hT : H s.heap.objs.size = none := I.fresh
    refine wpAny_pyNext_enum_item he hi p.isList (x := u) (by simpa using hu) hei fun h1 ho1 hi1 hp1 hs1 hk1 => ?_
    refine ⟨_, rfl, wpAny_letOwnedTupleGo_enum (s := { s with heap := h1, toks := s.toks + 1 }) ho1 fun h2 he2 hsb2 => ?_⟩
    replace hsb2 : Heap.SameBut e h1 h2 := hsb2
    have he_lt : e < s.heap.objs.size := Heap.lt_size he
    have kk : ∀ b o, b ∉ [e, it] → s.heap.get? b = some o → h2.get? b = some o := fun b o hb q => by
      have b1 : b ≠ e := fun z => hb (by simp [z])
      have b2 : b ≠ it := fun z => hb (by simp [z])
      exact hsb2.extBut b o b1 (hk1 b o b1 b2 q)
    have tup2 : h2.get? s.heap.objs.size = some { cls := .type "tuple", data := .seq #[.int i s.toks, u] } := hsb2.extBut _ _ (Nat.ne_of_gt he_lt) hp1
    have I2 : Inv X pins σ (upd H s.heap.objs.size (.tup [.int i, x])) { s with heap := h2, toks := s.toks + 1 } := I.turnedNew kk hf (Nat.le_refl _) ⟨by show 2 ≤ sizeLine; decide, [.int i s.toks, u], .cons ⟨_, rfl⟩ (.cons ru .nil), _, tup2, rfl, _, rfl⟩
    have ez : ((i + 1 : Nat) : Int) = (i : Int) + 1 := by push_cast; rfl
    have he3 : IsEnum h2 e it ((i + 1 : Nat) : Int) u := by rw [ez]; exact he2
    refine ⟨.ref s.heap.objs.size, _, I2, rfl, ⟨_, x, hT, rfl, rfl, fun ys hy => by rw [I.list_inj hy hq]; exact hx⟩, ⟨⟨u, he3⟩, hi1.extBut hsb2.extBut hei.symm⟩, fun b hb => ?_⟩
    have hb1 := (hf b hb).1
    have : b ≠ s.heap.objs.size := by
      rcases List.mem_cons.mp hb with z | hb
      · rw [z]; exact Nat.ne_of_lt he_lt
      · have z : b = it := by simpa using hb
        obtain ⟨o, e1, _⟩ := hi
        rw [z]; exact Nat.ne_of_lt (Heap.lt_size e1)
    rw [upd_ne this]; exact hb1
  done := by
    intro X hP hw hK hc i pins s σ H E I hf st hg
    subst hP hw hK
    obtain ⟨xs, hq, hx⟩ := hg
    obtain ⟨⟨old, he⟩, hi⟩ := st
    obtain ⟨its, rv, p, hz⟩ := I.list hq
    have hl := rv.length
    refine wpAny_pyNext_enum_end (I.ok.hd hc) he hi p.isList (by simp; omega) fun h1 hk1 => ⟨rfl, ?_⟩
    exact I.turnedAll (t' := s.toks) (ch := [e, it]) (fun b o hb q => hk1 b o (fun z => hb (by simp [z])) q) hf
  self := fun _ _ _ _ _ st h => let ⟨⟨_, he⟩, _⟩ := st; wpAny_pyIter_enum he h

/-! ### zip(xs, ys), with two targets -/
def Itz (K : PySem.W.Frag) (a b : Addr) : It :=
  ⟨fun i H => ∃ xs ys x y, SqL K H a xs ∧ SqL K H b ys ∧ xs[i]? = some x ∧ ys[i]? = some y,
   fun i H x H' => ∃ p u v, H p = none ∧ x = .ref p ∧ H' = upd H p (.tup [u, v]) ∧ (∀ xs, SqL K H a xs → xs[i]? = some u) ∧ ∀ ys, SqL K H b ys → ys[i]? = some v,
   fun i H => ∃ xs ys, SqL K H a xs ∧ SqL K H b ys ∧ (xs.length ≤ i ∨ ys.length ≤ i)⟩
structure Apart5 (z TI TO i1 i2 : Addr) : Prop where
  TIz : TI ≠ z
  TOz : TO ≠ z
  i1z : i1 ≠ z
  i2z : i2 ≠ z
  TITO : TI ≠ TO
  TIi1 : TI ≠ i1
  TIi2 : TI ≠ i2
  TOi1 : TO ≠ i1
  TOi2 : TO ≠ i2
  i12 : i1 ≠ i2
theorem plus_ne (n i j : Nat) (h : i ≠ j) : @Ne Addr (n + i : Nat) (n + j : Nat) := fun e => by
  have e' : n + i = n + j := e
  omega
theorem apart_mk (n : Nat) : Apart5 (n + 4 : Nat) (n + 2 : Nat) (n + 3 : Nat) (n + 0 : Nat) (n + 1 : Nat) :=
  ⟨plus_ne n _ _ (by decide), plus_ne n _ _ (by decide), plus_ne n _ _ (by decide), plus_ne n _ _ (by decide), plus_ne n _ _ (by decide), plus_ne n _ _ (by decide), plus_ne n _ _ (by decide), plus_ne n _ _ (by decide), plus_ne n _ _ (by decide), plus_ne n _ _ (by decide)⟩
theorem cls_ne {h : Heap} {a b : Addr} {o u : Obj} (e1 : h.get? a = some o) (e2 : h.get? b = some u) (hc : o.cls ≠ u.cls) : a ≠ b := by
  rintro rfl
  rw [e1] at e2; cases e2; exact hc rfl
theorem Apart5.all {h : Heap} {z TI TO i1 i2 l1 l2 : Addr} {xs ys : Array Value} {f0 a b : Value} {k1 k2 : Nat} {m1 m2 : Addr} (D : Apart5 z TI TO i1 i2) (hz : IsZip h z TI TO f0) (hTO : IsPair h TO a b) (h1 : h.IsListIter i1 m1 k1) (h2 : h.IsListIter i2 m2 k2)
    (hl1 : h.IsList l1 xs) (hl2 : h.IsList l2 ys) : ZipApart z TI TO i1 i2 l1 l2 := by
  obtain ⟨o1, e1, c1, _⟩ := hl1
  obtain ⟨o2, e2, c2, _⟩ := hl2
  obtain ⟨p1, f1, d1, _⟩ := h1
  obtain ⟨p2, f2, d2, _⟩ := h2
  refine ⟨D.TIz, D.TOz, D.i1z, D.i2z, D.TITO, D.TIi1, D.TIi2, D.TOi1, D.TOi2, D.i12, cls_ne e1 hz ?_, cls_ne e1 hTO ?_, cls_ne e1 f1 ?_, cls_ne e1 f2 ?_, cls_ne e2 hz ?_, cls_ne e2 hTO ?_, cls_ne e2 f1 ?_, cls_ne e2 f2 ?_⟩
  all_goals (first | rw [c1] | rw [c2]); (try first | rw [d1] | rw [d2]); intro q; (injection q with q); revert q; decide
theorem turn_zip {P : Program} {w : World} {K : PySem.W.Frag} {es : List Expr} {k : Nat} {tp : Pos} (l1 l2 z TI TO i1 i2 : Addr) (D : Apart5 z TI TO i1 i2) :
    Turn P w K (.Tuple es k tp) (Itz K l1 l2) [z, TI, TO, i1, i2] z
      (fun i h => IsZip h z TI TO .none ∧ IsPair h TI (.ref i1) (.ref i2) ∧ (∃ a b, IsPair h TO a b) ∧ h.IsListIter i1 l1 i ∧ h.IsListIter i2 l2 i) where
  mem := by simp
  obj := fun i h st b hb => by
    obtain ⟨hz, hTI, ⟨a, b', hTO⟩, ⟨o1, e1, c1, d1⟩, ⟨o2, e2, c2, d2⟩⟩ := st
    simp only [List.mem_cons, List.not_mem_nil, or_false] at hb
    rcases hb with q | q | q | q | q <;> subst q
    · exact ⟨_, hz, fun v z => by have z' : Data.fields _ = Data.cell v := z; cases z'⟩
    · exact ⟨_, hTI, fun v z => by have z' : Data.seq _ _ = Data.cell v := z; cases z'⟩
    · exact ⟨_, hTO, fun v z => by have z' : Data.seq _ _ = Data.cell v := z; cases z'⟩
    · exact ⟨o1, e1, fun v z => by rw [d1] at z; cases z⟩
    · exact ⟨o2, e2, fun v z => by rw [d2] at z; cases z⟩
  keep := fun i h h' st k => by
    obtain ⟨hz, hTI, ⟨a, b, hTO⟩, h1, h2⟩ := st
    exact ⟨k z (by simp) _ hz, k TI (by simp) _ hTI, ⟨a, b, k TO (by simp) _ hTO⟩, h1.at fun o q => k i1 (by simp) o q, h2.at fun o q => k i2 (by simp) o q⟩
  item := by
    intro X hP hw hK hc i pins s σ H E I hf st hg
    subst hP hw hK
    obtain ⟨xs, ys, x, y, hq1, hq2, hx, hy⟩ := hg
    obtain ⟨hz, hTI, ⟨a, b, hTO⟩, h1, h2⟩ := st
    obtain ⟨its1, rv1, p1, hz1⟩ := I.list hq1
    obtain ⟨its2, rv2, p2, hz2⟩ := I.list hq2
    obtain ⟨u1, hu1, ru1⟩ := rv1.get hx
    obtain ⟨u2, hu2, ru2⟩ := rv2.get hy
    have D' := D.all hz hTO h1 h2 p1.isList p2.isList
    have hT : H s.heap.objs.size = none := I.fresh
    have lt : ∀ {c : Addr} {o : Obj}, s.heap.get? c = some o → s.heap.objs.size ≠ c := fun e => Nat.ne_of_gt (Heap.lt_size e)
    obtain ⟨oi1, ei1, _⟩ := id h1
    obtain ⟨oi2, ei2, _⟩ := id h2
    refine wpAny_pyNext_zip_item D' hz hTI hTO h1 h2 p1.isList p2.isList (x := u1) (y := u2) (by simpa using hu1) (by simpa using hu2) fun h3 a1 a2 a3 a4 a5 a6 hk => ?_
    refine ⟨_, rfl, wpAny_letOwnedTupleGo_zip (s := { s with heap := h3 }) a1 fun h4 hz4 hs4 => ?_⟩
    replace hs4 : Heap.SameBut z h3 h4 := hs4
    have kk : ∀ c o, c ∉ [z, TI, TO, i1, i2] → s.heap.get? c = some o → h4.get? c = some o := fun c o hb q => by
      simp only [List.mem_cons, List.not_mem_nil, or_false, not_or] at hb
      exact hs4.extBut c o hb.1 (hk c o hb.1 hb.2.2.1 hb.2.2.2.1 hb.2.2.2.2 q)
    have tup4 : h4.get? s.heap.objs.size = some { cls := .type "tuple", data := .seq #[u1, u2] } := hs4.extBut _ _ (lt hz) a5
    have I2 : Inv X pins σ (upd H s.heap.objs.size (.tup [x, y])) { s with heap := h4, toks := s.toks } := I.turnedNew kk hf (Nat.le_refl _) ⟨by show 2 ≤ sizeLine; decide, [u1, u2], .cons ru1 (.cons ru2 .nil), _, tup4, rfl, _, rfl⟩
    refine ⟨.ref s.heap.objs.size, _, I2, rfl, ⟨_, x, y, hT, rfl, rfl, fun ws hy => by rw [I.list_inj hy hq1]; exact hx, fun ws hy' => by rw [I.list_inj hy' hq2]; exact hy⟩,
      ⟨hz4, hs4.extBut _ _ D.TIz (hk _ _ D.TIz D.TITO D.TIi1 D.TIi2 hTI), ⟨_, _, hs4.extBut _ _ D.TOz a2⟩, a3.extBut hs4.extBut D.i1z, a4.extBut hs4.extBut D.i2z⟩, fun b hb => ?_⟩
    have hb1 := (hf b hb).1
    have hne : b ≠ s.heap.objs.size := by
      simp only [List.mem_cons, List.not_mem_nil, or_false] at hb
      rcases hb with q | q | q | q | q <;> subst q
      · exact (lt hz).symm
      · exact (lt hTI).symm
      · exact (lt hTO).symm
      · exact (lt ei1).symm
      · exact (lt ei2).symm
    rw [upd_ne hne]; exact hb1
  done := by
    intro X hP hw hK hc i pins s σ H E I hf st hg
    subst hP hw hK
    obtain ⟨xs, ys, hq1, hq2, hx⟩ := hg
    obtain ⟨hz, hTI, ⟨a, b, hTO⟩, h1, h2⟩ := st
    obtain ⟨its1, rv1, p1, hz1⟩ := I.list hq1
    obtain ⟨its2, rv2, p2, hz2⟩ := I.list hq2
    have hl1 := rv1.length
    have hl2 := rv2.length
    have D' := D.all hz hTO h1 h2 p1.isList p2.isList
    refine wpAny_pyNext_zip_end (I.ok.hd hc) D' hz hTI hTO h1 h2 p1.isList p2.isList (by
      rcases hx with q | q
      · left; simp; omega
      · right; simp; omega) fun h3 hk => ⟨rfl, ?_⟩
    refine I.turnedAll (t' := s.toks) (ch := [z, TI, TO, i1, i2]) (fun c o hb q => ?_) hf
    simp only [List.mem_cons, List.not_mem_nil, or_false, not_or] at hb
    exact hk c o hb.1 hb.2.2.1 hb.2.2.2.1 hb.2.2.2.2 q
  self := fun _ _ _ _ _ st h => wpAny_pyIter_zip st.1 h

/-! ### lo, lo - 1, .. (n of them) -/
def Itd (lo : Int) (n : Nat) : It := ⟨fun i _ => i < n, fun i H x H' => H' = H ∧ x = .int (lo - i), fun i _ => n ≤ i⟩
theorem turn_down {P : Program} {w : World} {K : PySem.W.Frag} {tg : Expr} (it : Addr) (lo : Int) (n : Nat) : Turn P w K tg (Itd lo n) [it] it (fun i h => IsRangeIter h it (lo + (i : Nat) * (-1)) ((n : Int) - (i : Nat)) (-1)) where
  mem := by simp
  obj := fun i h st b hb => by
    have e : b = it := by simpa using hb
    subst e
    exact ⟨_, st, fun v z => by
      have z' : Data.fields _ = Data.cell v := z
      cases z'⟩
  keep := fun i h h' st k => k it (by simp) _ st
  item := by
    intro X hP hw hK hc i pins s σ H E I hf st hg
    subst hP hw hK
    obtain ⟨f0, f1, f2, f3, f4, f5⟩ := hf it (by simp)
    have W := Walks.range (prog := X.prog) (w := X.w) (I.ok.hd hc) it lo (-1) n
    refine W.item i s _ _ hg st fun v h' tk hv st' kk => ?_
    obtain ⟨t, rfl⟩ := hv
    have I1 : Inv X pins σ H { s with heap := h', toks := tk } := I.turned (fun b o hb e => kk b o (by simpa using hb) e) f0 f1 f3 f4 f5
    refine ⟨_, rfl, go_of (s := { s with heap := h', toks := tk }) (n := "range_iterator") st' rfl rfl (by decide) ⟨.int (lo - i), H, I1, ⟨t, ?_⟩, ⟨rfl, rfl⟩, st', fun b hb => (hf b hb).1⟩⟩
    congr 1; omega
  done := by
    intro X hP hw hK hc i pins s σ H E I hf st hg
    subst hP hw hK
    obtain ⟨f0, f1, f2, f3, f4, f5⟩ := hf it (by simp)
    exact wpAny_pyNext_range_end (I.ok.hd hc) st (by have : n ≤ i := hg; omega) fun h' eb => ⟨rfl, I.turned (t' := s.toks) (fun b o hb e => eb b o hb e) f0 f1 f3 f4 f5⟩
  self := fun _ _ _ _ _ st h => wpAny_pyIter_rangeiter st h
theorem rangeSize_down (a b : Int) : Builtin.Range.rangeSize a b (-1) = ((a - b).toNat : Int) := by
  unfold Builtin.Range.rangeSize
  rw [if_neg (by decide)]
  split
  · rename_i h
    have e : ∀ x : Int, x / (- -1) = x := fun x => by simp
    first | (simp; omega) | omega
  · omega
theorem small_down {a b : Int} (ha : -(2 ^ 62) ≤ a) (ha' : a < 2 ^ 62) (hb : -(2 ^ 62) ≤ b) (hb' : b < 2 ^ 62) : Builtin.Range.small a b (-1) = true := by
  unfold Builtin.Range.small
  rw [rangeSize_down]
  unfold Builtin.Range.rangeFitsLong
  simp
  omega

section
variable {X : Cx}
def iEnum (K : PySem.W.Frag) (ta : TA) : TI := fun σ H R => ta σ H fun vs H1 => ∃ a xs, vs = [.ref a] ∧ SqL K H1 a xs ∧ R (Ite K a) H1
theorem pi_enum {a : Expr} {ta : TA} {p pos : Pos} {es : List Expr} {k : Nat} {tp : Pos} (hg : Gl X "enumerate") (hm : X.mg "enumerate" = none) (ha : PA X [a] ta) (hs : starEach [a] X.env = [(false, eval a X.env)] := by rfl) :
    PI X (.Tuple es k tp) (.Call (.Name "enumerate" p) [a] [] pos) (iEnum X.K ta) := by
  intro pins s σ H R I h
  refine Call_ (ld_blt I hg hm boot_enumerate (PyProof.Rows.callWith_type1 (thn (ha pos pins s σ H _ I h) fun us s1 ⟨vs, H1, I1, r1, q1⟩ => ?_) hs rfl))
  obtain ⟨l, xs, e, hq, q⟩ := q1
  subst e
  obtain ⟨u, rfl, ru⟩ := Vals.one r1
  cases ru
  obtain ⟨its, rv, pl, hz⟩ := I1.list hq
  refine call_enumerate_list pl.isList fun h2 he hi hsz hk => ?_
  have I2 : Inv X pins σ H1 { s1 with heap := h2 } := I1.kept (t' := s1.toks) hk
  refine wpAny_pyIter_enum (s := { s1 with heap := h2 }) he ?_
  refine ⟨s1.heap.objs.size + 1, [s1.heap.objs.size + 1, s1.heap.objs.size], _, _, H1, rfl, I2, turn_enum l _ _ (Nat.succ_ne_self _), ⟨⟨.none, he⟩, hi⟩, fun b hb => ?_, q⟩
  rcases List.mem_cons.mp hb with z | hb
  · rw [z]; exact I1.fpOk (Nat.le_succ _) (I1.hok.fresh (Nat.le_succ _))
  · have z : b = s1.heap.objs.size := by simpa using hb
    rw [z]; exact I1.fpOk (Nat.le_refl _) (I1.hok.fresh (Nat.le_refl _))
def iZip (K : PySem.W.Frag) (ta : TA) : TI := fun σ H R => ta σ H fun vs H1 => ∃ a b xs ys, vs = [.ref a, .ref b] ∧ SqL K H1 a xs ∧ SqL K H1 b ys ∧ R (Itz K a b) H1
theorem pi_zip {a b : Expr} {ta : TA} {p pos : Pos} {es : List Expr} {k : Nat} {tp : Pos} (hg : Gl X "zip") (hm : X.mg "zip" = none) (ha : PA X [a, b] ta) (hs : starEach [a, b] X.env = [(false, eval a X.env), (false, eval b X.env)] := by rfl) (hs2 : starEach [b] X.env = [(false, eval b X.env)] := by rfl) :
    PI X (.Tuple es k tp) (.Call (.Name "zip" p) [a, b] [] pos) (iZip X.K ta) := by
  intro pins s σ H R I h
  refine Call_ (ld_blt I hg hm boot_zip (PyProof.Rows.callWith_type1 (thn (ha pos pins s σ H _ I h) fun us s1 ⟨vs, H1, I1, r1, q1⟩ => ?_) (by rw [hs, hs2]) (by rw [hs2]; rfl)))
  obtain ⟨l1, l2, xs, ys, e, hq1, hq2, q⟩ := q1
  subst e
  obtain ⟨u1, u2, rfl, ru1, ru2⟩ := Vals.two r1
  cases ru1
  cases ru2
  obtain ⟨its1, rv1, p1, hz1⟩ := I1.list hq1
  obtain ⟨its2, rv2, p2, hz2⟩ := I1.list hq2
  refine call_zip_2 p1.isList p2.isList fun h2 hz hTI hTO hi1 hi2 hsz hk => ?_
  have I2 : Inv X pins σ H1 { s1 with heap := h2 } := I1.kept (t' := s1.toks) hk
  refine wpAny_pyIter_zip (s := { s1 with heap := h2 }) hz ?_
  refine ⟨s1.heap.objs.size + 4, [s1.heap.objs.size + 4, s1.heap.objs.size + 2, s1.heap.objs.size + 3, s1.heap.objs.size, s1.heap.objs.size + 1], _, _, H1, rfl, I2,
    turn_zip l1 l2 _ _ _ _ _ (apart_mk _), ⟨hz, hTI, ⟨_, _, hTO⟩, hi1, hi2⟩, fun b hb => ?_, q⟩
  have hb' : s1.heap.objs.size ≤ b := by
    simp only [List.mem_cons, List.not_mem_nil, or_false] at hb
    rcases hb with z | z | z | z | z <;> rw [z] <;> omega
  exact I1.fpOk hb' (I1.hok.fresh hb')
/-- range(a, b, -1) -/
def iRngD (ta : TA) : TI := fun σ H R => ta σ H fun vs H1 => ∃ i j : Int, vs = [.int i, .int j, .int (-1)] ∧ (-(2 ^ 28) ≤ i ∧ i < 2 ^ 28 ∧ -(2 ^ 28) ≤ j ∧ j < 2 ^ 28) ∧ R (Itd i (i - j).toNat) H1
theorem Vals.three : ∀ {x y z : V} {us : List Value}, Vals [x, y, z] us → ∃ u v w', us = [u, v, w'] ∧ RelV x u ∧ RelV y v ∧ RelV z w'
  | _, _, _, _, .cons r (.cons q (.cons t .nil)) => ⟨_, _, _, rfl, r, q, t⟩
theorem pi_down {a b c : Expr} {ta : TA} {p pos : Pos} {tg : Expr} (hg : Gl X "range") (hm : X.mg "range" = none) (ha : PA X [a, b, c] ta)
    (hs : starEach [a, b, c] X.env = (false, eval a X.env) :: starEach [b, c] X.env := by rfl) (hs2 : (backTo pos (starEach [b, c] X.env)).any (·.1) = false := by rfl) :
    PI X tg (.Call (.Name "range" p) [a, b, c] [] pos) (iRngD ta) := by
  intro pins s σ H R I h
  refine Call_ (ld_blt I hg hm boot_range (PyProof.Rows.callWith_type1 (thn (ha pos pins s σ H _ I h) fun us s1 ⟨vs, H1, I1, r1, q1⟩ => ?_) hs hs2))
  obtain ⟨i, j, e, ⟨q1, q2, q3, q4⟩, q⟩ := q1
  subst e
  obtain ⟨u1, u2, u3, rfl, ⟨t1, rfl⟩, ⟨t2, rfl⟩, ⟨t3, rfl⟩⟩ := Vals.three r1
  refine call_range_3 (by decide) ?_ (Or.inl (PyProof.noPylong_small (by decide)))
  refine wpAny_pyIter_range (IsRange.new ..) (small_down (by omega) (by omega) (by omega) (by omega)) ?_
  generalize hO : s1.heap.push { cls := .type "range", data := .fields #[.int i t1, .int j t2, .int (-1) t3] } = h2
  have k2 : ∀ b o, s1.heap.get? b = some o → h2.get? b = some o := fun b o e => hO ▸ Heap.get?_push_of_some _ e
  have I2 : Inv X pins σ H1 { s1 with heap := h2 } := I1.kept (t' := s1.toks) k2
  refine ⟨h2.objs.size, [h2.objs.size], _, _, H1, rfl, I2.kept (t' := s1.toks) fun b o e => Heap.get?_push_of_some _ e, turn_down _ i (i - j).toNat, ?_, fun b hb => ?_, q⟩
  · have e1 : i + ((0 : Nat) : Int) * (-1) = i := by simp
    have e2 : (((i - j).toNat : Nat) : Int) - ((0 : Nat) : Int) = Builtin.Range.rangeSize i j (-1) := by rw [rangeSize_down]; simp
    show IsRangeIter _ _ (i + ((0 : Nat) : Int) * (-1)) ((((i - j).toNat : Nat) : Int) - ((0 : Nat) : Int)) (-1)
    rw [e1, e2]
    exact Heap.get?_push_size _ rfl
  · have e : b = h2.objs.size := by simpa using hb
    subst e
    exact I2.fpOk (Nat.le_refl _) (I2.hok.fresh (Nat.le_refl _))
end
theorem for_down {lo : Int} {n : Nat} {g : TG} {tb : TS} {D : Ends} {σ : St} {H : Hp} (Pv : Nat → St → Hp → Prop) (h0 : Pv 0 σ H)
    (hs : ∀ i σ H, i < n → Pv i σ H → g (.int (lo - i)) σ H fun σ2 H2 => tb { D with nx := Pv (i + 1), ct := Pv (i + 1), bk := D.nx } σ2 H2) (hd : ∀ σ H, Pv n σ H → D.nx σ H) :
    ∃ W : Nat → Nat → St → Hp → Prop, (∃ m, W 0 m σ H) ∧ ∀ i m σ H, W i m σ H →
      ((Itd lo n).stop i H ∧ D.nx σ H) ∨ ((Itd lo n).go i H ∧ ∃ N : St → Hp → Prop, (∀ σ' H', N σ' H' → ∃ m', m' < m ∧ W (i + 1) m' σ' H') ∧ ∀ x H', (Itd lo n).yld i H x H' → g x σ H' fun σ2 H2 => tb { D with nx := N, ct := N, bk := D.nx } σ2 H2) := by
  refine ⟨fun i m σ H => m = n - i ∧ i ≤ n ∧ Pv i σ H, ⟨n, by simp, Nat.zero_le _, h0⟩, ?_⟩
  rintro i m σ H ⟨rfl, hi, p⟩
  by_cases hlt : i < n
  · refine .inr ⟨hlt, Pv (i + 1), fun σ' H' p' => ⟨n - (i + 1), by omega, rfl, hlt, p'⟩, fun x H' y => ?_⟩
    obtain ⟨e, y⟩ := y
    subst e y
    exact hs i σ _ hlt p
  · have e : i = n := by omega
    subst e
    exact .inl ⟨Nat.le_refl _, hd σ H p⟩
/-! ### comprehensions, the forms one uses: Pv i ys σ H ahead of turn i, ys made so far -/
theorem comp_list {K : PySem.W.Frag} {a D : Addr} {xs : List V} {g : TG} {tc : TT} {te : TE} {Q : Hp → Prop} {σ0 : St} {H0 : Hp} (Pv : Nat → List V → St → Hp → Prop) (h0 : Pv 0 [] σ0 H0)
    (hl : ∀ i ys σ H, i ≤ xs.length → Pv i ys σ H → SqL K H a xs ∧ H D = some (.lst ys))
    (hs : ∀ i x ys σ H, xs[i]? = some x → Pv i ys σ H → ys.length < sizeLine ∧ g x σ H fun σ2 H3 => tc σ2 H3 fun b H4 => if b = true then te σ2 H4 fun y H5 => H5 D = some (.lst ys) ∧ Pv (i + 1) (ys ++ [y]) σ2 (upd H5 D (.lst (ys ++ [y]))) else Pv (i + 1) ys σ2 H4)
    (hd : ∀ ys σ H, Pv xs.length ys σ H → Q H) : WComp (Itl K a) g tc te D Q σ0 H0 := by
  refine ⟨fun i m ys σ H => m = xs.length - i ∧ i ≤ xs.length ∧ Pv i ys σ H, ⟨xs.length, by simp, Nat.zero_le _, h0⟩, ?_⟩
  rintro i m ys σ H ⟨rfl, hi, p⟩
  obtain ⟨q, hD⟩ := hl i ys σ H hi p
  refine ⟨hD, ?_⟩
  by_cases hlt : i < xs.length
  · have hx : xs[i]? = some xs[i] := by simp [hlt]
    refine .inr ⟨⟨xs, xs[i], q, hx⟩, (hs i _ ys σ H hx p).1, Pv (i + 1), fun ys' σ' H' p' => ⟨xs.length - (i + 1), by omega, rfl, hlt, p'⟩, fun x H2 y => ?_⟩
    obtain ⟨e, y⟩ := y
    subst e
    exact (hs i x ys σ _ (y xs q) p).2
  · have e : i = xs.length := by omega
    subst e
    exact .inl ⟨⟨xs, q, Nat.le_refl _⟩, hd ys σ H p⟩
theorem comp_range {lo : Int} {n : Nat} {D : Addr} {g : TG} {tc : TT} {te : TE} {Q : Hp → Prop} {σ0 : St} {H0 : Hp} (Pv : Nat → List V → St → Hp → Prop) (h0 : Pv 0 [] σ0 H0)
    (hl : ∀ i ys σ H, i ≤ n → Pv i ys σ H → H D = some (.lst ys))
    (hs : ∀ i ys σ H, i < n → Pv i ys σ H → ys.length < sizeLine ∧ g (.int (lo + i)) σ H fun σ2 H3 => tc σ2 H3 fun b H4 => if b = true then te σ2 H4 fun y H5 => H5 D = some (.lst ys) ∧ Pv (i + 1) (ys ++ [y]) σ2 (upd H5 D (.lst (ys ++ [y]))) else Pv (i + 1) ys σ2 H4)
    (hd : ∀ ys σ H, Pv n ys σ H → Q H) : WComp (Itr lo n) g tc te D Q σ0 H0 := by
  refine ⟨fun i m ys σ H => m = n - i ∧ i ≤ n ∧ Pv i ys σ H, ⟨n, by simp, Nat.zero_le _, h0⟩, ?_⟩
  rintro i m ys σ H ⟨rfl, hi, p⟩
  refine ⟨hl i ys σ H hi p, ?_⟩
  by_cases hlt : i < n
  · refine .inr ⟨hlt, (hs i ys σ H hlt p).1, Pv (i + 1), fun ys' σ' H' p' => ⟨n - (i + 1), by omega, rfl, hlt, p'⟩, fun x H2 y => ?_⟩
    obtain ⟨e, y⟩ := y
    subst e y
    exact (hs i ys σ _ hlt p).2
  · have e : i = n := by omega
    subst e
    exact .inl ⟨Nat.le_refl _, hd ys σ H p⟩
theorem comp_enum {K : PySem.W.Frag} {a D : Addr} {xs : List V} {g : TG} {tc : TT} {te : TE} {Q : Hp → Prop} {σ0 : St} {H0 : Hp} (Pv : Nat → List V → St → Hp → Prop) (h0 : Pv 0 [] σ0 H0)
    (hl : ∀ i ys σ H, i ≤ xs.length → Pv i ys σ H → SqL K H a xs ∧ H D = some (.lst ys))
    (hs : ∀ i x ys σ H p, xs[i]? = some x → H p = none → Pv i ys σ H → ys.length < sizeLine ∧ g (.ref p) σ (upd H p (.tup [.int i, x])) fun σ2 H3 => tc σ2 H3 fun b H4 => if b = true then te σ2 H4 fun y H5 => H5 D = some (.lst ys) ∧ Pv (i + 1) (ys ++ [y]) σ2 (upd H5 D (.lst (ys ++ [y]))) else Pv (i + 1) ys σ2 H4)
    (hz : ∀ i ys σ H, i < xs.length → Pv i ys σ H → ys.length < sizeLine)
    (hd : ∀ ys σ H, Pv xs.length ys σ H → Q H) : WComp (Ite K a) g tc te D Q σ0 H0 := by
  refine ⟨fun i m ys σ H => m = xs.length - i ∧ i ≤ xs.length ∧ Pv i ys σ H, ⟨xs.length, by simp, Nat.zero_le _, h0⟩, ?_⟩
  rintro i m ys σ H ⟨rfl, hi, p⟩
  obtain ⟨q, hD⟩ := hl i ys σ H hi p
  refine ⟨hD, ?_⟩
  by_cases hlt : i < xs.length
  · have hx : xs[i]? = some xs[i] := by simp [hlt]
    refine .inr ⟨⟨xs, xs[i], q, hx⟩, hz i ys σ H hlt p, Pv (i + 1), fun ys' σ' H' p' => ⟨xs.length - (i + 1), by omega, rfl, hlt, p'⟩, fun x H2 y => ?_⟩
    obtain ⟨t, u, ht, e, e2, y⟩ := y
    subst e e2
    exact (hs i u ys σ _ t (y xs q) ht p).2
  · have e : i = xs.length := by omega
    subst e
    exact .inl ⟨⟨xs, q, Nat.le_refl _⟩, hd ys σ H p⟩
theorem comp_zip {K : PySem.W.Frag} {a b D : Addr} {xs ws : List V} {g : TG} {tc : TT} {te : TE} {Q : Hp → Prop} {σ0 : St} {H0 : Hp} (Pv : Nat → List V → St → Hp → Prop) (h0 : Pv 0 [] σ0 H0)
    (hl : ∀ i ys σ H, i ≤ min xs.length ws.length → Pv i ys σ H → SqL K H a xs ∧ SqL K H b ws ∧ H D = some (.lst ys))
    (hs : ∀ i x u ys σ H p, xs[i]? = some x → ws[i]? = some u → H p = none → Pv i ys σ H → ys.length < sizeLine ∧ g (.ref p) σ (upd H p (.tup [x, u])) fun σ2 H3 => tc σ2 H3 fun b H4 => if b = true then te σ2 H4 fun y H5 => H5 D = some (.lst ys) ∧ Pv (i + 1) (ys ++ [y]) σ2 (upd H5 D (.lst (ys ++ [y]))) else Pv (i + 1) ys σ2 H4)
    (hz : ∀ i ys σ H, i < min xs.length ws.length → Pv i ys σ H → ys.length < sizeLine)
    (hd : ∀ ys σ H, Pv (min xs.length ws.length) ys σ H → Q H) : WComp (Itz K a b) g tc te D Q σ0 H0 := by
  refine ⟨fun i m ys σ H => m = min xs.length ws.length - i ∧ i ≤ min xs.length ws.length ∧ Pv i ys σ H, ⟨min xs.length ws.length, by simp, Nat.zero_le _, h0⟩, ?_⟩
  rintro i m ys σ H ⟨rfl, hi, p⟩
  obtain ⟨q, q2, hD⟩ := hl i ys σ H hi p
  refine ⟨hD, ?_⟩
  by_cases hlt : i < min xs.length ws.length
  · have h1 : i < xs.length := by omega
    have h2 : i < ws.length := by omega
    have hx : xs[i]? = some xs[i] := by simp [h1]
    have hw : ws[i]? = some ws[i] := by simp [h2]
    refine .inr ⟨⟨xs, ws, xs[i], ws[i], q, q2, hx, hw⟩, hz i ys σ H hlt p, Pv (i + 1), fun ys' σ' H' p' => ⟨min xs.length ws.length - (i + 1), by omega, rfl, by omega, p'⟩, fun x H2 y => ?_⟩
    obtain ⟨t, u, v, ht, e, e2, y1, y2⟩ := y
    subst e e2
    exact (hs i u v ys σ _ t (y1 xs q) (y2 ws q2) ht p).2
  · have e : i = min xs.length ws.length := by omega
    subst e
    refine .inl ⟨⟨xs, ws, q, q2, by omega⟩, hd ys σ H p⟩
end L2

set_option Elab.async false
set_option linter.all false
set_option maxRecDepth 100000
namespace L2
open PySem PySem.Spec PyProof.Rows
section
variable {X : Cx} {a b c e : Expr} {ta tb tc te : TE} {pos p2 : Pos}

/-! ### isinstance(x, T), T a built-in type -/
def rIsT (K : PySem.W.Frag) : List V → Hp → VK → Prop := fun xs H Q => ∃ x T t b, xs = [x, .ty T] ∧ TyOf K H x t ∧ PySem.W.kitOne K t (.type T) = some b ∧ Q (.bl b) H
theorem call_isT : CallR X (.builtin "isinstance") (rIsT X.K) := by
  intro pins s σ H xs us Q I r h
  obtain ⟨x, T, t, b, rfl, ty, e, q⟩ := h
  obtain ⟨u, v, rfl, ru, rv⟩ := vals2 r
  cases rv
  exact isinst_ok I ru ty e fun tk => ⟨.bl b, H, I.tok tk, rfl, q⟩
theorem kit_same (K : PySem.W.Frag) (T : String) : PySem.W.kitOne K (.type T) (.type T) = some true := by
  unfold PySem.W.kitOne
  rw [if_pos (beq_self_eq_true _)]
theorem kit_int_bool (K : PySem.W.Frag) : PySem.W.kitOne K (.type "int") (.type "bool") = some false := by first | rfl | decide +kernel
theorem kit_bool_int (K : PySem.W.Frag) : PySem.W.kitOne K (.type "bool") (.type "int") = some true := by first | rfl | decide +kernel

/-! ### sum, min, all, any, sorted of a list -/
def rSum (K : PySem.W.Frag) : List V → Hp → VK → Prop := fun xs H Q => ∃ (p : Addr) (ns : List Int), xs = [.ref p] ∧ SqL K H p (ns.map V.int) ∧ Q (.int ns.sum) H
theorem call_sumL (hc : X.calm = true) : CallR X (.builtin "sum") (rSum X.K) := by
  intro pins s σ H xs us Q I r h
  obtain ⟨p, ns, rfl, hq, q⟩ := h
  obtain ⟨u, rfl, ru⟩ := vals1 r
  cases ru
  obtain ⟨its, rv, pl, hz⟩ := I.list hq
  have hi := intsAre_of rv
  obtain ⟨zs, hx⟩ := hi.allInts.items
  have hl' : s.heap.IsList p (intItems zs) := hx ▸ pl.isList
  refine sum_intListG (I.ok.hd hc) hl' fun h' tk t' hk => ?_
  have e1 : ns = zs.toList.map (·.1) := by
    rw [← nums_intItems, ← hx]
    exact (show numsOf its.toArray.toList = ns from hi.numsOf).symm
  have e2 : preSum (numAt zs) zs.size = ns.sum := by
    rw [preSum_eq, List.take_of_length_le (by simp), e1]
  rw [e2]
  exact ⟨.int ns.sum, H, I.kept hk, ⟨t', rfl⟩, q⟩
def rMin (K : PySem.W.Frag) : List V → Hp → VK → Prop := fun xs H Q => ∃ (p : Addr) (ns : List Int), xs = [.ref p] ∧ SqL K H p (ns.map V.int) ∧ ns ≠ [] ∧ ∀ M, M ∈ ns → (∀ y ∈ ns, M ≤ y) → Q (.int M) H
theorem call_minL (hc : X.calm = true) : CallR X (.builtin "min") (rMin X.K) := by
  intro pins s σ H xs us Q I r h
  obtain ⟨p, ns, rfl, hq, hne, q⟩ := h
  obtain ⟨u, rfl, ru⟩ := vals1 r
  cases ru
  obtain ⟨its, rv, pl, hz⟩ := I.list hq
  have hi := intsAre_of rv
  obtain ⟨zs, hx⟩ := hi.allInts.items
  have hns : ns = zs.toList.map (·.1) := by
    rw [← hi.numsOf, ← nums_intItems, ← hx]
  have hl' : s.heap.IsList p (intItems zs) := hx ▸ pl.isList
  have hsz : 0 < zs.size := by
    have h3 : 0 < ns.length := List.length_pos_iff.mpr hne
    rw [hns, List.length_map, Array.length_toList] at h3; exact h3
  refine min_intList (I.ok.hd hc) hl' hsz fun v h' tk hv hk => ?_
  obtain ⟨t, rfl⟩ := intItems_at hv
  obtain ⟨h1, h2⟩ := argBest_lt (numAt zs) (zs.size - 1)
  refine ⟨.int _, H, I.kept hk, ⟨t, rfl⟩, q _ ?_ fun y hy => ?_⟩
  · rw [hns, numAt_eq]; exact getD_mem (by rw [List.length_map, Array.length_toList]; omega)
  · rw [hns] at hy
    obtain ⟨j, hj, rfl⟩ := mem_getD hy
    rw [List.length_map, Array.length_toList] at hj
    rw [← numAt_eq]; exact h2 j (by omega)
theorem bools_of {bs : List Bool} : ∀ {us : List Value}, Vals (bs.map V.bl) us → LSm.BoolsAre us bs := by
  induction bs with
  | nil => intro us r; rw [List.map_nil] at r; cases r; exact .nil
  | cons n ns ih =>
    intro us r
    rw [List.map_cons] at r
    cases r with
    | cons r1 r2 =>
      cases r1
      exact .cons n (ih r2)
def rAllB (K : PySem.W.Frag) : List V → Hp → VK → Prop := fun xs H Q => ∃ (p : Addr) (bs : List Bool), xs = [.ref p] ∧ SqL K H p (bs.map V.bl) ∧ Q (.bl (bs.all id)) H
def rAnyB (K : PySem.W.Frag) : List V → Hp → VK → Prop := fun xs H Q => ∃ (p : Addr) (bs : List Bool), xs = [.ref p] ∧ SqL K H p (bs.map V.bl) ∧ Q (.bl (bs.any id)) H
theorem call_allB (hc : X.calm = true) : CallR X (.builtin "all") (rAllB X.K) := by
  intro pins s σ H xs us Q I r h
  obtain ⟨p, bs, rfl, hq, q⟩ := h
  obtain ⟨u, rfl, ru⟩ := vals1 r
  cases ru
  obtain ⟨vs, rv, pl, hz⟩ := I.list hq
  have hb := bools_of rv
  have hl := pl.isList
  have hlt : p < s.heap.objs.size := by obtain ⟨_, e, _⟩ := hl; exact Heap.lt_size e
  refine call_all_walk (wpAny_pyIter_list hl ?_)
  refine ⟨s.heap.objs.size, [s.heap.objs.size, p], [s.heap.objs.size], vs.toArray.size, _, _, fun i => (bs[i]?).getD true, rfl, Walks.list (A := X.A.in1) (I.ok.hd hc) _ p (Nat.ne_of_lt hlt) vs.toArray,
    ⟨⟨_, Heap.get?_push_size _ rfl, rfl, rfl⟩, hl.push _⟩, fun i v s' Q' E' hP hQ => ?_, fun h' tk hk => ?_⟩
  · obtain ⟨b, e, rfl⟩ := hb.get i v (by simpa using hP)
    simp only [e, Option.getD_some] at hQ
    exact wpAny_truthy_bool hQ
  · have e : ((List.range vs.toArray.size).all fun i => (bs[i]?).getD true) = bs.all id := by
      rw [List.size_toArray, hb.length]; exact LSm.range_all bs
    rw [e]
    exact ⟨.bl _, H, I.kept (LSm.kept_iter hk), rfl, q⟩
theorem call_anyB (hc : X.calm = true) : CallR X (.builtin "any") (rAnyB X.K) := by
  intro pins s σ H xs us Q I r h
  obtain ⟨p, bs, rfl, hq, q⟩ := h
  obtain ⟨u, rfl, ru⟩ := vals1 r
  cases ru
  obtain ⟨vs, rv, pl, hz⟩ := I.list hq
  have hb := bools_of rv
  have hl := pl.isList
  have hlt : p < s.heap.objs.size := by obtain ⟨_, e, _⟩ := hl; exact Heap.lt_size e
  refine call_any_walk (wpAny_pyIter_list hl ?_)
  refine ⟨s.heap.objs.size, [s.heap.objs.size, p], [s.heap.objs.size], vs.toArray.size, _, _, fun i => (bs[i]?).getD false, rfl, Walks.list (A := X.A.in1) (I.ok.hd hc) _ p (Nat.ne_of_lt hlt) vs.toArray,
    ⟨⟨_, Heap.get?_push_size _ rfl, rfl, rfl⟩, hl.push _⟩, fun i v s' Q' E' hP hQ => ?_, fun h' tk hk => ?_⟩
  · obtain ⟨b, e, rfl⟩ := hb.get i v (by simpa using hP)
    simp only [e, Option.getD_some] at hQ
    exact wpAny_truthy_bool hQ
  · have e : ((List.range vs.toArray.size).any fun i => (bs[i]?).getD false) = bs.any id := by
      rw [List.size_toArray, hb.length]; exact LSm.range_any bs
    rw [e]
    exact ⟨.bl _, H, I.kept (LSm.kept_iter hk), rfl, q⟩
theorem vals_of_ints {ns : List Int} {us : List Value} (h : IntsAre us ns) : Vals (ns.map V.int) us := by
  induction h with
  | nil => exact .nil
  | cons n t _ ih => exact .cons ⟨t, rfl⟩ ih
def rSorted (K : PySem.W.Frag) : List V → Hp → VK → Prop := fun xs H Q => ∃ (p : Addr) (ns : List Int), xs = [.ref p] ∧ SqL K H p (ns.map V.int) ∧ ns.length < 64 ∧ ∀ (l : Addr) (ns' : List Int), H l = none → ns'.Perm ns → ns'.Pairwise (· ≤ ·) → Q (.ref l) (upd H l (.lst (ns'.map V.int)))
theorem call_sortedL : CallR X (.builtin "sorted") (rSorted X.K) := by
  intro pins s σ H xs us Q I r h
  obtain ⟨p, ns, rfl, hq, h64, q⟩ := h
  obtain ⟨u, rfl, ru⟩ := vals1 r
  cases ru
  obtain ⟨vs, rv, pl, hz⟩ := I.list hq
  have hi := intsAre_of rv
  have hl1 : vs.length = ns.length := by rw [hi.length]
  refine sorted_ints pl.isList hi (by omega) fun out ns' a1 a2 a3 => ?_
  obtain ⟨e, he⟩ := sortedAll_at s.heap vs out
  have hn : H (s.heap.objs.size + 1) = none := I.hok.fresh (Nat.le_succ _)
  refine ⟨.ref (s.heap.objs.size + 1), _, I.laid (t' := s.toks) (o := .lst (ns'.map V.int)) (fun b o q => sortedAll_old q) (Nat.le_succ _) ?_, rfl, q _ ns' hn a2 a3⟩
  refine ⟨?_, out.toList, e, vals_of_ints a1, by simpa using he⟩
  have z := a2.length_eq
  rw [List.length_map] at hz ⊢
  omega

/-! ### xs[i] by values; == of bools kept apart -/
theorem get_list : PGet X (rIxL X.K) := by
  intro pins s σ H x y v u Q I rx ry h
  obtain ⟨p, xs, i, z, rfl, rfl, hq, he, q⟩ := h
  cases rx
  obtain ⟨t, rfl⟩ := ry
  obtain ⟨its, r, pl, hz⟩ := I.list hq
  obtain ⟨j, h1, h2, h3, h4, h5⟩ := atI_get he
  obtain ⟨w, ew, rw'⟩ := r.get h2
  have hl := r.length
  have hn := line63
  have fin : EP X pins σ Q w s := ⟨z, H, I, rw', q⟩
  by_cases h0 : 0 ≤ i
  · have hj : i.toNat = j := by
      rw [seqIndex_of h0 h5] at h1
      exact Option.some.inj h1
    exact wpAny_getItem_list pl.isList h0 (by omega) (by rw [hj]; simpa using ew) fin
  · have hj : (i + (its.toArray.size : Int)).toNat = j := by
      rw [seqIndex_neg (by omega) h4] at h1
      rw [List.size_toArray, ← hl]
      exact Option.some.inj h1
    exact wpAny_getItem_list_neg pl.isList (by omega) (by rw [List.size_toArray] <;> omega) (by omega) (by rw [hj]; simpa using ew) fin

/-! ### xs.count(k) -/
def rCount (K : PySem.W.Frag) : V → List V → Hp → VK → Prop := fun x vs H Q => ∃ (p : Addr) (ns : List Int) (k : Int), x = .ref p ∧ vs = [.int k] ∧ SqL K H p (ns.map V.int) ∧ Q (.int (ns.count k : Nat)) H
theorem mt_count : MtM X "list.count" (rCount X.K) := by
  intro pins s σ H x vs v us Q I rx rv h
  obtain ⟨p, ns, k, rfl, rfl, hq, q⟩ := h
  cases rx
  obtain ⟨u, rfl, t, rfl⟩ := rv.one
  obtain ⟨its, r, pl, hz⟩ := I.list hq
  exact count_list_ints pl.isList (intsAre_of r) ⟨.int _, H, I.tok _, ⟨_, rfl⟩, q⟩

/-! ### xs[::-1] -/
def tRev (K : PySem.W.Frag) (te tc : TE) : TE := fun σ H Q => te σ H fun x H1 => tc σ H1 fun y H2 => ∃ (p : Addr) (xs : List V), x = .ref p ∧ y = .int (-1) ∧ SqL K H2 p xs ∧ ∀ l, H2 l = none → Q (.ref l) (upd H2 l (.lst xs.reverse))
theorem pe_rev (he : PE X e te) (hk : PE X c tc) : PE X (.Subscript e (.Slice none none (some c) p2) pos) (tRev X.K te tc) := by
  intro pins s σ H Q I h
  refine Subscript_ (thn (he pins s σ H _ I h) fun v s1 ⟨x, H1, I1, r1, q1⟩ => ?_)
  refine wpAny_Slice ?_
  rw [evalPart_none]
  refine wpAny_pure ?_
  refine wpAny_pure ?_
  rw [evalPart_some]
  refine thn (hk pins s1 σ H1 _ I1 q1) fun vk s3 ⟨y, H3, I3, rk, q3⟩ => ?_
  obtain ⟨p, xs, rfl, rfl, hq, q⟩ := q3
  cases r1
  obtain ⟨t, rfl⟩ := rk
  have I4 : Inv X pins σ H3 { s3 with heap := s3.heap.push { cls := .type "slice", data := .fields #[.none, .none, .int (-1) t] } } := I3.kept (t' := s3.toks) fun b ob q => Heap.get?_push_of_some _ q
  obtain ⟨its, r, ht, hz⟩ := I4.list hq
  have hlen := r.length
  have hg : wpAny (model X.prog X.w) X.A (getItem (.ref p) (.ref s3.heap.objs.size)) (EP X pins σ Q) X.xe { s3 with heap := s3.heap.push { cls := .type "slice", data := .fields #[.none, .none, .int (-1) t] } } := by
    refine wpAny_getItem_list_slice ht.isList (Heap.IsSliceOf.new ..) .none .none (IsPart.int _ _) (by decide) ?_ (by rw [List.size_toArray] <;> omega)
    rw [PySem.W.krv_pick]
    refine ⟨.ref _, _, I4.laid (t' := s3.toks) (o := .lst xs.reverse) (fun b ob q => Heap.get?_push_of_some _ q) (Nat.le_refl _) ?_, rfl, q _ (I4.hok.fresh (Nat.le_refl _))⟩
    exact ⟨by rw [List.length_reverse]; exact hz, _, 0, r.reverse, Heap.get?_push_size _ rfl⟩
  exact tail_any (ops := [.ref p, .ref s3.heap.objs.size]) ht.isList.typeIs slot_list_getitem.lookup hg (by with_unfolding_all rfl)

/-! ### == and != of lists of ints -/
theorem all_range_eq {ns ms : List Int} (hl : ns.length = ms.length) : ((List.range ns.length).all fun j => decide (ns.getD j 0 = ms.getD j 0)) = decide (ns = ms) := by
  rw [Bool.eq_iff_iff, List.all_eq_true, decide_eq_true_eq]
  constructor
  · intro h
    apply List.ext_getElem hl
    intro i h1 h2
    have := of_decide_eq_true (h i (List.mem_range.mpr h1))
    simpa [List.getD_eq_getElem?_getD, List.getElem?_eq_getElem h1, List.getElem?_eq_getElem h2] using this
  · rintro rfl i _
    simp
theorem ints_at {vs : List Value} {ns : List Int} (h : IntsAre vs ns) : ∀ (j : Nat) (hj : j < vs.length), ∃ t, vs[j] = .int (ns.getD j 0) t := by
  induction h with
  | nil => intro j hj; exact absurd hj (by simp)
  | cons n t _ ih =>
    intro j hj
    cases j with
    | zero => exact ⟨t, rfl⟩
    | succ j =>
      obtain ⟨t', e⟩ := ih j (by simpa using hj)
      exact ⟨t', by simpa using e⟩
theorem eqAt_ints {A : Around} {s : Shared} {vs ws : List Value} {ns ms : List Int} (hv : IntsAre vs ns) (hw : IntsAre ws ms) :
    ∀ j (h1 : j < vs.toArray.size) (h2 : j < ws.toArray.size), SeqAt.EqAt A s vs.toArray[j] ws.toArray[j] (decide (ns.getD j 0 = ms.getD j 0)) := by
  intro j h1 h2
  obtain ⟨t, e1⟩ := ints_at hv j (by simpa using h1)
  obtain ⟨u, e2⟩ := ints_at hw j (by simpa using h2)
  have e1' : vs.toArray[j] = .int (ns.getD j 0) t := by simpa using e1
  have e2' : ws.toArray[j] = .int (ms.getD j 0) u := by simpa using e2
  rw [e1', e2']
  intro prog w E Q hq
  refine wpAny_eqBool_int ?_
  rw [Bool.beq_eq_decide_eq] 
  exact hq
def rEqL (K : PySem.W.Frag) : R2 := fun x y H Q => ∃ (p q : Addr) (ns ms : List Int), x = .ref p ∧ y = .ref q ∧ SqL K H p (ns.map V.int) ∧ SqL K H q (ms.map V.int) ∧ Q (.bl (decide (ns = ms))) H
def rNeL (K : PySem.W.Frag) : R2 := fun x y H Q => ∃ (p q : Addr) (ns ms : List Int), x = .ref p ∧ y = .ref q ∧ SqL K H p (ns.map V.int) ∧ SqL K H q (ms.map V.int) ∧ Q (.bl (!decide (ns = ms))) H
theorem op_eqL (hu : X.A.units < cLine) : OpR X (compareOp .Eq) (rEqL X.K) := by
  intro pins s σ H x y v u Q I rx ry h
  obtain ⟨p, q', ns, ms, rfl, rfl, h1, h2, q⟩ := h
  cases rx; cases ry
  obtain ⟨vs, rv, pl, hz⟩ := I.list h1
  obtain ⟨ws, rw', pl', hz'⟩ := I.list h2
  have i1 := intsAre_of rv
  have i2 := intsAre_of rw'
  have l1 := i1.length
  have l2 := i2.length
  by_cases hl : ns.length = ms.length
  · refine SeqAt.eq_listAt pl.isList pl'.isList (by simp; omega) hu (eqAt_ints i1 i2) ?_
    rw [List.size_toArray, l1, all_range_eq hl]
    exact ⟨.bl _, H, I, rfl, q⟩
  · refine SeqAt.eq_list_lengthsAt pl.isList pl'.isList (by simp; omega) hu ?_
    have e : decide (ns = ms) = false := decide_eq_false fun z => hl (by rw [z])
    rw [e] at q
    exact ⟨.bl _, H, I, rfl, q⟩
theorem op_neL (hu : X.A.units < cLine) : OpR X (compareOp .NotEq) (rNeL X.K) := by
  intro pins s σ H x y v u Q I rx ry h
  obtain ⟨p, q', ns, ms, rfl, rfl, h1, h2, q⟩ := h
  cases rx; cases ry
  obtain ⟨vs, rv, pl, hz⟩ := I.list h1
  obtain ⟨ws, rw', pl', hz'⟩ := I.list h2
  have i1 := intsAre_of rv
  have i2 := intsAre_of rw'
  have l1 := i1.length
  have l2 := i2.length
  by_cases hl : ns.length = ms.length
  · refine SeqAt.RcNeAt.lists pl.isList pl'.isList (by simp; omega) hu (eqAt_ints i1 i2) _ _ _ _ ?_
    rw [List.size_toArray, l1, all_range_eq hl]
    exact ⟨.bl _, H, I, rfl, q⟩
  · refine SeqAt.RcNeAt.lists_lengths pl.isList pl'.isList (by simp; omega) hu _ _ _ _ ?_
    have e : decide (ns = ms) = false := decide_eq_false fun z => hl (by rw [z])
    rw [e] at q
    exact ⟨.bl _, H, I, rfl, q⟩

/-! ### list(d.values()) -/
/-- d.values(): a view of the dict at d -/
def rValues : V → List V → Hp → VK → Prop := fun x vs H Q => ∃ (d : Addr) (kvs : List (Key × V)), x = .ref d ∧ vs = [] ∧ H d = some (.dK kvs) ∧ ∀ v, H v = none → Q (.ref v) (upd H v (.ext fun h => h.IsValuesView v d))
theorem mt_values : MtM X "dict.values" rValues := by
  intro pins s σ H x vs v us Q I rx rv h
  obtain ⟨d, kvs, rfl, rfl, hd, q⟩ := h
  cases rx
  have hus := rv.zero
  subst hus
  obtain ⟨z, hne, ws, rel, dd⟩ := I.hok d _ hd
  refine call_meetsIn PySem.F.slot_dict_values dd.typeIs PySem.F.entry_dict_values (PySem.F.args_dict_values_1 _) (meets_dict_values (mixKind X.prog X.w) d hne) ⟨⟨_, dd⟩, ?_⟩
  have hv : (s.heap.push { cls := .type "dict_values", data := .fields #[.ref d] }).IsValuesView s.heap.objs.size d := ⟨_, Heap.get?_push_size _ rfl, rfl, rfl⟩
  refine ⟨.ref s.heap.objs.size, _, I.laid (t' := s.toks) (o := .ext fun h => h.IsValuesView s.heap.objs.size d) (fun b ob q => Heap.get?_push_of_some _ q) (Nat.le_refl _) ⟨hv, ⟨_, Heap.get?_push_size _ rfl⟩, fun h1 h2 p k => ?_⟩, rfl, q _ I.fresh⟩
  obtain ⟨o, e, c⟩ := p
  exact ⟨o, k o e, c⟩
theorem kv_vals {κ : Type} : ∀ {kvs : List (κ × V)} {vs : List (κ × Value)}, KV kvs vs → Vals (kvs.map (·.2)) (vs.map (·.2))
  | _, _, .nil => .nil
  | _, _, .cons r t => .cons r.2 (kv_vals t)
def rListVals : List V → Hp → VK → Prop := fun xs H Q => ∃ (v d : Addr) (kvs : List (Key × V)), xs = [.ref v] ∧ H v = some (.ext fun h => h.IsValuesView v d) ∧ H d = some (.dK kvs) ∧ ∀ l, H l = none → Q (.ref l) (upd H l (.lst (kvs.map (·.2))))
theorem call_list_vals (hc : X.calm = true) : CallR X (.type "list") rListVals := by
  intro pins s σ H xs us Q I r h
  obtain ⟨v, d, kvs, rfl, hv, hd, q⟩ := h
  obtain ⟨u, rfl, ru⟩ := vals1 r
  cases ru
  obtain ⟨z, hne, ws, rel, dd⟩ := I.hok d _ hd
  obtain ⟨view, _, _⟩ := I.hok v _ hv
  obtain ⟨ep, hat⟩ := dd.dictAt
  have hl := rel.length
  refine PySem.W.kdl_call (PySem.W.kdl_values (knd := mixKind X.prog X.w) (kvs := ws) (ep := ep)) (I.ok.hd hc) ⟨view, hat⟩ (by rw [← hl]; exact z) fun h' tk acc' c' hk hS hacc => ?_
  have e := PySem.W.kdl_vals_eq (kvs := ws) acc'.toList (by rw [Array.length_toList]; exact hacc.1) fun j u hu => hacc.2 j u (by rw [← Array.getElem?_toList]; exact hu)
  refine ⟨.ref s.heap.objs.size, _, I.laid (o := .lst (kvs.map (·.2))) hk (Nat.le_refl _) ⟨by rw [List.length_map]; exact z, acc'.toList, c', by rw [e]; exact kv_vals rel, by simpa using hS⟩, rfl, q _ I.fresh⟩
end
end L2

set_option Elab.async false
set_option linter.all false
set_option maxRecDepth 100000
namespace L2
open PySem PySem.Spec PyProof.Rows
section
variable {X : Cx} {a b c e o : Expr} {ta tb tc te : TE} {pos p2 apos p : Pos}
theorem PE.imp {t t' : TE} (h : PE X e t) (i : ∀ σ H Q, t' σ H Q → t σ H Q) : PE X e t' := fun pins s σ H Q I q => h pins s σ H Q I (i σ H Q q)
/-! ### isinstance(x, C), C a class of the text -/
def rIsO (K : PySem.W.Frag) : List V → Hp → VK → Prop := fun xs H Q => ∃ x C t b, xs = [x, .ref C] ∧ TyOf K H x t ∧ PySem.W.kitOne K t (.ref C) = some b ∧ Q (.bl b) H
theorem call_isO : CallR X (.builtin "isinstance") (rIsO X.K) := by
  intro pins s σ H xs us Q I r h
  obtain ⟨x, C, t, b, rfl, ty, e, q⟩ := h
  obtain ⟨u, v, rfl, ru, rv⟩ := vals2 r
  cases rv
  exact isinst_ok I ru ty e fun tk => ⟨.bl b, H, I.tok tk, rfl, q⟩
/-! ### is, is not of truths -/
theorem op_isB : OpR X (compareOp .Is) (fun x y H Q => ∃ i j, x = .bl i ∧ y = .bl j ∧ Q (.bl (i == j)) H) := by
  intro pins s σ H x y v u Q I rx ry h
  obtain ⟨i, j, rfl, rfl, q⟩ := h
  cases rx
  cases ry
  exact is_bool (fin_bl I q rfl)
theorem op_isnotB : OpR X (compareOp .IsNot) (fun x y H Q => ∃ i j, x = .bl i ∧ y = .bl j ∧ Q (.bl (i != j)) H) := by
  intro pins s σ H x y v u Q I rx ry h
  obtain ⟨i, j, rfl, rfl, q⟩ := h
  cases rx
  cases ry
  exact isnot_bool (fin_bl I q rfl)
/-! ### list(range(n)) -/
def rRng1 : List V → Hp → VK → Prop := fun xs H Q => ∃ j : Int, xs = [.int j] ∧ ∀ r, H r = none → Q (.ref r) (upd H r (.rng 0 j))
theorem call_rng1 : CallR X (.type "range") rRng1 := by
  intro pins s σ H xs us Q I r h
  obtain ⟨j, rfl, q⟩ := h
  obtain ⟨u, rfl, ru⟩ := vals1 r
  obtain ⟨t, rfl⟩ := (show ∃ t, u = Value.int j t from ru)
  refine call_range_1 ?_
  exact ⟨.ref s.heap.objs.size, _, I.laid (o := .rng 0 j) (fun b ob q => Heap.get?_push_of_some _ q) (Nat.le_refl _) ⟨_, _, _, Heap.get?_push_size _ rfl⟩, rfl, q _ I.fresh⟩
theorem vals_pt (f : Nat → Int) : ∀ (vs : List Value) (k : Nat), (∀ j v, vs[j]? = some v → ∃ t, v = Value.int (f (k + j)) t) → Vals ((List.range' k vs.length).map (fun i => V.int (f i))) vs
  | [], _, _ => .nil
  | v :: vs, k, h => by
    obtain ⟨t, e⟩ := h 0 v rfl
    refine .cons (show RelV (.int (f k)) v from ⟨t, e⟩) (vals_pt f vs (k + 1) fun j u hu => ?_)
    obtain ⟨t', e'⟩ := h (j + 1) u (by simpa using hu)
    exact ⟨t', by rw [e']; congr 2; omega⟩
def rListRng : List V → Hp → VK → Prop := fun xs H Q => ∃ (r : Addr) (n : Nat), xs = [.ref r] ∧ H r = some (.rng 0 (n : Int)) ∧ n ≤ 1000 ∧ ∀ l, H l = none → Q (.ref l) (upd H l (.lst ((List.range n).map fun (i : Nat) => V.int (i : Int))))
theorem call_list_rng (hc : X.calm = true) : CallR X (.type "list") rListRng := by
  intro pins s σ H xs us Q I r h
  obtain ⟨p, n, rfl, hv, hn, q⟩ := h
  obtain ⟨u, rfl, ru⟩ := vals1 r
  cases ru
  obtain ⟨t, u', v', hr⟩ := (show ∃ t u v, s.heap.get? p = some { cls := .type "range", data := .fields #[.int 0 t, .int (n : Int) u, .int 1 v] } from I.hok p _ hv)
  refine call_list_range (n := n) (I.ok.hd hc) (show IsRange s.heap p 0 n 1 t u' v' from hr) (small_one (by omega) (by omega) (by omega) (by omega)) (by rw [rangeSize_one]; split <;> omega) (by omega) fun h' tk acc' c' hk hS hacc => ?_
  have el : acc'.toList.length = n := by rw [Array.length_toList]; exact hacc.1
  have ev : Vals ((List.range n).map fun (i : Nat) => V.int (i : Int)) acc'.toList := by
    have := vals_pt (fun i => (i : Int)) acc'.toList 0 fun j v hv => by
      obtain ⟨t, e⟩ := hacc.2 j v (by rw [← Array.getElem?_toList]; exact hv)
      exact ⟨t, by rw [e]; congr 1; simp⟩
    rw [el] at this
    rwa [List.range_eq_range']
  refine ⟨.ref s.heap.objs.size, _, I.laid (o := .lst ((List.range n).map fun (i : Nat) => V.int (i : Int))) hk (Nat.le_refl _) ⟨by rw [List.length_map, List.length_range, sizeLine_eq]; omega, acc'.toList, c', ev, by simpa using hS⟩, rfl, q _ I.fresh⟩
theorem lr_facts {H1 : Hp} {n : Int} {r l : Addr} (o : HO) (hr : H1 r = none) (hl : (upd H1 r (.rng 0 n)) l = none) : Same H1 (upd (upd H1 r (.rng 0 n)) l o) ∧ H1 l = none := by
  refine ⟨fun b u hb => ?_, ?_⟩
  · rw [upd_ne (ne_of_none (show (upd H1 r (.rng 0 n)) b = some u by rw [upd_ne (ne_of_none hb hr)]; exact hb) hl), upd_ne (ne_of_none hb hr)]
    exact hb
  · by_cases z : l = r
    · subst z; exact hr
    · rwa [upd_ne z] at hl
/-! ### o.m(..) of an instance of one of two classes -/
def tMeth2 (C1 C2 : Addr) (m : Str) (sp1 sp2 : Sp) (E : XK) (ta : TE) (t : TA) : TE := fun σ H Q => ta σ H fun x H1 => ∃ a C dx fs, x = .ref a ∧ H1 a = some (.ins C dx fs) ∧ fs.lookup m = none ∧
  ((C = C1 ∧ t σ H1 fun vs H2 => sp1 (x :: (vs ++ [])) H2 Q E) ∨ (C = C2 ∧ t σ H1 fun vs H2 => sp2 (x :: (vs ++ [])) H2 Q E))
theorem pe_meth2 {pl : Sem Bool} {CX : CXT} {k1 k2 : Nat} {f1 f2 C1 C2 : Addr} {fd1 fd2 : FuncData} {ps1 ps2 : List Str} {sp1 sp2 : Sp} {E : XK} {m : Str} {es : List Expr} {t : TA} (he : PE X o ta)
    (c1 : Cls X.K C1) (hm1 : Meth X.K C1 m f1) (F1 : FnOk X.prog X.w X.K X.mg X.base CX k1 f1 fd1 ps1 sp1) (hr1 : Room k1 X.A) (hb1 : Binds X.K fd1 ps1 [])
    (c2 : Cls X.K C2) (hm2 : Meth X.K C2 m f2) (F2 : FnOk X.prog X.w X.K X.mg X.base CX k2 f2 fd2 ps2 sp2) (hr2 : Room k2 X.A) (hb2 : Binds X.K fd2 ps2 []) (hx : Passes CX X E) (ha : PA X (e :: es) t)
    (hst : starEach (e :: es) X.env = (false, eval e X.env) :: starEach es X.env := by rfl) (hpl : (backTo pos (starEach es X.env)).any (·.1) = false := by rfl)
    (ht : eval (.Call (.Attribute o m apos) (e :: es) [] pos) X.env = (do
      let ov ← eval o X.env
      standAt apos.atName
      let (f, first) ← holding [ov] (getMethod ov m pl)
      callWith pos f first (backTo pos (starEach (e :: es) X.env)) (backToKw pos (keywordEach [] X.env))) := by rfl) :
    PE X (.Call (.Attribute o m apos) (e :: es) [] pos) (tMeth2 C1 C2 m sp1 sp2 E ta t) := by
  intro pins s σ H Q I h
  refine PySem.W.methodCall_KW (pl := pl) (thn (he pins s σ H _ I h) fun u s1 ⟨x, H1, I1, rx, a, C, dx, fs, ex, ea, l, q⟩ => ?_) ht
  subst ex
  obtain rfl : u = Value.ref a := rx
  rcases q with ⟨rfl, q⟩ | ⟨rfl, q⟩
  · refine getmeth_ok I1 ea c1 hm1 l ?_
    refine PySem.W.callWith_K (first := [.ref a]) (h₀ := X.base) I.ok.mod.kin hm1.kp (thn (ha pos pins s1 σ H1 _ I1 q) fun us s2 ⟨vs, H2, I2, r, q2⟩ => ⟨I2.kIn, ?_⟩) hst hpl
    exact run_fn (us := .ref a :: us) (vs := .ref a :: vs) F1 hr1 hb1 .nil hx I2 (.cons rfl r) q2
  · refine getmeth_ok I1 ea c2 hm2 l ?_
    refine PySem.W.callWith_K (first := [.ref a]) (h₀ := X.base) I.ok.mod.kin hm2.kp (thn (ha pos pins s1 σ H1 _ I1 q) fun us s2 ⟨vs, H2, I2, r, q2⟩ => ⟨I2.kIn, ?_⟩) hst hpl
    exact run_fn (us := .ref a :: us) (vs := .ref a :: vs) F2 hr2 hb2 .nil hx I2 (.cons rfl r) q2
end
/-! ### for over enumerate, over zip -/
theorem for_enum {K : PySem.W.Frag} {a : Addr} {xs : List V} {g : TG} {tb : TS} {D : Ends} {σ : St} {H : Hp} (Pv : Nat → St → Hp → Prop) (h0 : Pv 0 σ H) (hl : ∀ i σ H, i ≤ xs.length → Pv i σ H → SqL K H a xs)
    (hs : ∀ i x σ H p, xs[i]? = some x → H p = none → Pv i σ H → g (.ref p) σ (upd H p (.tup [.int i, x])) fun σ2 H2 => tb { D with nx := Pv (i + 1), ct := Pv (i + 1), bk := D.nx } σ2 H2) (hd : ∀ σ H, Pv xs.length σ H → D.nx σ H) :
    ∃ W : Nat → Nat → St → Hp → Prop, (∃ m, W 0 m σ H) ∧ ∀ i m σ H, W i m σ H →
      ((Ite K a).stop i H ∧ D.nx σ H) ∨ ((Ite K a).go i H ∧ ∃ N : St → Hp → Prop, (∀ σ' H', N σ' H' → ∃ m', m' < m ∧ W (i + 1) m' σ' H') ∧ ∀ x H', (Ite K a).yld i H x H' → g x σ H' fun σ2 H2 => tb { D with nx := N, ct := N, bk := D.nx } σ2 H2) := by
  refine ⟨fun i m σ H => m = xs.length - i ∧ i ≤ xs.length ∧ Pv i σ H, ⟨xs.length, by simp, Nat.zero_le _, h0⟩, ?_⟩
  rintro i m σ H ⟨rfl, hi, p⟩
  have q := hl i σ H hi p
  by_cases hlt : i < xs.length
  · have hx : xs[i]? = some xs[i] := by simp [hlt]
    refine .inr ⟨⟨xs, xs[i], q, hx⟩, Pv (i + 1), fun σ' H' p' => ⟨xs.length - (i + 1), by omega, rfl, hlt, p'⟩, fun x H2 y => ?_⟩
    obtain ⟨t, u, ht, e, e2, y⟩ := y
    subst e e2
    exact hs i u σ _ t (y xs q) ht p
  · have e : i = xs.length := by omega
    subst e
    exact .inl ⟨⟨xs, q, Nat.le_refl _⟩, hd σ H p⟩
theorem for_zip {K : PySem.W.Frag} {a b : Addr} {xs ws : List V} {g : TG} {tb : TS} {D : Ends} {σ : St} {H : Hp} (Pv : Nat → St → Hp → Prop) (h0 : Pv 0 σ H) (hl : ∀ i σ H, i ≤ min xs.length ws.length → Pv i σ H → SqL K H a xs ∧ SqL K H b ws)
    (hs : ∀ i x u σ H p, xs[i]? = some x → ws[i]? = some u → H p = none → Pv i σ H → g (.ref p) σ (upd H p (.tup [x, u])) fun σ2 H2 => tb { D with nx := Pv (i + 1), ct := Pv (i + 1), bk := D.nx } σ2 H2) (hd : ∀ σ H, Pv (min xs.length ws.length) σ H → D.nx σ H) :
    ∃ W : Nat → Nat → St → Hp → Prop, (∃ m, W 0 m σ H) ∧ ∀ i m σ H, W i m σ H →
      ((Itz K a b).stop i H ∧ D.nx σ H) ∨ ((Itz K a b).go i H ∧ ∃ N : St → Hp → Prop, (∀ σ' H', N σ' H' → ∃ m', m' < m ∧ W (i + 1) m' σ' H') ∧ ∀ x H', (Itz K a b).yld i H x H' → g x σ H' fun σ2 H2 => tb { D with nx := N, ct := N, bk := D.nx } σ2 H2) := by
  refine ⟨fun i m σ H => m = min xs.length ws.length - i ∧ i ≤ min xs.length ws.length ∧ Pv i σ H, ⟨min xs.length ws.length, by simp, Nat.zero_le _, h0⟩, ?_⟩
  rintro i m σ H ⟨rfl, hi, p⟩
  obtain ⟨q, q2⟩ := hl i σ H hi p
  by_cases hlt : i < min xs.length ws.length
  · have h1 : i < xs.length := by omega
    have h2 : i < ws.length := by omega
    have hx : xs[i]? = some xs[i] := by simp [h1]
    have hw : ws[i]? = some ws[i] := by simp [h2]
    refine .inr ⟨⟨xs, ws, xs[i], ws[i], q, q2, hx, hw⟩, Pv (i + 1), fun σ' H' p' => ⟨min xs.length ws.length - (i + 1), by omega, rfl, by omega, p'⟩, fun x H2 y => ?_⟩
    obtain ⟨t, u, v, ht, e, e2, y1, y2⟩ := y
    subst e e2
    exact hs i u v σ _ t (y1 xs q) (y2 ws q2) ht p
  · have e : i = min xs.length ws.length := by omega
    subst e
    exact .inl ⟨⟨xs, ws, q, q2, by omega⟩, hd σ H p⟩
end L2

set_option Elab.async false
set_option linter.all false
set_option maxRecDepth 100000
namespace L2
open PySem PySem.Spec PyProof.Rows
/-! ### a dict that stays as it is while it is walked -/
def Fz (P : Program) (w : World) (d : Addr) (kvs : List (Key × V)) (o : Obj) (ep : Nat) : Prop :=
  kvs.length ≤ sizeLine ∧ (d == sysModules) = false ∧ ∃ vs es, KV kvs vs ∧ o.ExactDict ∧ o.data = .dict es ep ∧ KeysOf (mixKind P w) es ∧ Pairs (mixKind P w) es.toList vs ∧ (vs.map (·.1)).Nodup
def fzO (d : Addr) (o : Obj) : HO := .ext fun h => h.get? d = some o
section
variable {X : Cx} {pins : List (Addr × Obj)} {σ : St} {H : Hp} {s : Shared} {d : Addr} {kvs : List (Key × V)} {o : Obj} {ep : Nat}
theorem freeze (I : Inv X pins σ H s) (hd : H d = some (.dK kvs)) : ∃ o ep, Fz X.prog X.w d kvs o ep ∧ Inv X pins σ (upd H d (fzO d o)) s := by
  obtain ⟨hz, hne, vs, kv, o, es, ep, ho, r⟩ := I.hok d _ hd
  refine ⟨o, ep, ⟨hz, hne, vs, es, kv, r⟩, ?_⟩
  exact I.write (t' := s.toks) (x := d) (e := d) (by rw [hd]; exact True.intro) (.inl rfl) (fun b u _ e => e) ⟨o, ho⟩ ⟨ho, ⟨o, ho⟩, fun h1 h2 p k => k o p⟩
theorem thaw (I : Inv X pins σ H s) (hd : H d = some (fzO d o)) (hf : Fz X.prog X.w d kvs o ep) : Inv X pins σ (upd H d (.dK kvs)) s := by
  obtain ⟨hz, hne, vs, es, kv, r⟩ := hf
  obtain ⟨ho, _⟩ := I.hok d _ hd
  exact I.write (t' := s.toks) (x := d) (e := d) (by rw [hd]; exact True.intro) (.inl rfl) (fun b u _ e => e) ⟨o, ho⟩ ⟨hz, hne, vs, kv, o, es, ep, ho, r⟩
end
theorem kv_get {κ : Type} {kvs : List (κ × V)} {vs : List (κ × Value)} (r : KV kvs vs) : ∀ {i : Nat} {k : κ} {v : V}, kvs[i]? = some (k, v) → ∃ u, vs[i]? = some (k, u) ∧ RelV v u := by
  induction r with
  | nil => intro i k v h; simp at h
  | @cons p q ps qs h t ih =>
    intro i k v e
    cases i with
    | zero =>
      simp at e
      subst e
      obtain ⟨h1, h2⟩ := h
      obtain ⟨q1, q2⟩ := q
      simp only at h1 h2
      subst h1
      exact ⟨q2, rfl, h2⟩
    | succ i =>
      simp at e
      obtain ⟨u, e1, e2⟩ := ih e
      exact ⟨u, by simpa using e1, e2⟩
theorem is_kV {P : Program} {w : World} {k : Key} {u : Value} (h : (mixKind P w).is k u = true) : RelV (kV k) u := by
  rcases keyIs_shape (k := k) (v := u) h with ⟨i, t, rfl, rfl⟩ | ⟨x, t, rfl, rfl⟩
  · exact ⟨t, rfl⟩
  · exact ⟨t, rfl⟩
/-! ### d.items(), with two targets -/
def Iti (d : Addr) (kvs : List (Key × V)) (o : Obj) : It :=
  ⟨fun i H => H d = some (fzO d o) ∧ i < kvs.length, fun i H x H' => ∃ p k v, H p = none ∧ x = .ref p ∧ H' = upd H p (.tup [kV k, v]) ∧ kvs[i]? = some (k, v), fun i H => H d = some (fzO d o) ∧ kvs.length ≤ i⟩
theorem turn_items {P : Program} {w : World} {K : PySem.W.Frag} {es : List Expr} {k : Nat} {tp : Pos} (d it : Addr) (kvs : List (Key × V)) (o : Obj) (ep : Nat) (hF : Fz P w d kvs o ep) (hne : d ≠ it) :
    Turn P w K (.Tuple es k tp) (Iti d kvs o) [it] it (fun i h => ∃ ok ov, IsItemIter h it d i kvs.length ep ok ov) where
  mem := by simp
  obj := fun i h st b hb => by
    obtain ⟨ok, ov, e⟩ := st
    have z : b = it := by simpa using hb
    subst z
    exact ⟨_, e, fun v z => by
      have z' : Data.fields _ = Data.cell v := z
      cases z'⟩
  keep := fun i h h' st k => by
    obtain ⟨ok, ov, e⟩ := st
    exact ⟨ok, ov, k it (by simp) _ e⟩
  item := by
    intro X hP hw hK hc i pins s σ H E I hf st hg
    subst hP hw hK
    obtain ⟨hd, hi⟩ := hg
    obtain ⟨ok, ov, he⟩ := st
    obtain ⟨hz, hs, vs, es', kv, r⟩ := hF
    obtain ⟨ho, _⟩ := I.hok d _ hd
    have hm : s.heap.DictAt (mixKind X.prog X.w) d vs ep := ⟨o, es', ho, r⟩
    have hl := kv.length
    have hx : kvs[i]? = some kvs[i] := List.getElem?_eq_getElem hi
    generalize kvs[i] = kx at hx
    obtain ⟨kk, vv⟩ := kx
    obtain ⟨u, hu, ru⟩ := kv_get kv hx
    have hT : H s.heap.objs.size = none := I.fresh
    have he' : IsItemIter s.heap it d i vs.length ep ok ov := by rw [← hl]; exact he
    refine wpAny_pyNext_items_item he' hm hu fun key h1 hkey hout htup hsz hk1 => ?_
    refine ⟨_, rfl, wpAny_letOwnedTupleGo_items (s := { s with heap := h1 }) hout fun h2 he2 hsb2 => ?_⟩
    replace hsb2 : Heap.SameBut it h1 h2 := hsb2
    have he_lt : it < s.heap.objs.size := Heap.lt_size he
    have kk2 : ∀ b ob, b ∉ [it] → s.heap.get? b = some ob → h2.get? b = some ob := fun b ob hb q => by
      have b1 : b ≠ it := fun z => hb (by simp [z])
      exact hsb2.extBut b ob b1 (hk1 b ob b1 q)
    have tup2 : h2.get? s.heap.objs.size = some { cls := .type "tuple", data := .seq #[key, u] } := hsb2.extBut _ _ (Nat.ne_of_gt he_lt) htup
    have I2 : Inv X pins σ (upd H s.heap.objs.size (.tup [kV kk, vv])) { s with heap := h2 } := I.turnedNew (t' := s.toks) kk2 hf (Nat.le_refl _) ⟨by show 2 ≤ sizeLine; decide, [key, u], .cons (is_kV hkey) (.cons ru .nil), _, tup2, rfl, _, rfl⟩
    refine ⟨.ref s.heap.objs.size, _, I2, rfl, ⟨_, kk, vv, hT, rfl, rfl, hx⟩, ⟨key, u, by rw [hl]; exact he2⟩, fun b hb => ?_⟩
    have hb1 := (hf b hb).1
    have : b ≠ s.heap.objs.size := by
      have z : b = it := by simpa using hb
      rw [z]; exact Nat.ne_of_lt he_lt
    rw [upd_ne this]; exact hb1
  done := by
    intro X hP hw hK hc i pins s σ H E I hf st hg
    subst hP hw hK
    obtain ⟨hd, hi⟩ := hg
    obtain ⟨ok, ov, he⟩ := st
    obtain ⟨hz, hs, vs, es', kv, r⟩ := hF
    obtain ⟨ho, _⟩ := I.hok d _ hd
    have hm : s.heap.DictAt (mixKind X.prog X.w) d vs ep := ⟨o, es', ho, r⟩
    have hl := kv.length
    have he' : IsItemIter s.heap it d i vs.length ep ok ov := by rw [← hl]; exact he
    refine wpAny_pyNext_items_end (I.ok.hd hc) he' hm (by rw [List.getElem?_eq_none_iff]; omega) fun h1 hk1 => ⟨rfl, ?_⟩
    exact I.turnedAll (t' := s.toks) (ch := [it]) (fun b ob hb q => hk1 b ob (fun z => hb (by simp [z])) q) hf
  self := fun _ _ _ _ _ st h => let ⟨_, _, he⟩ := st; PySem.W.kcp_self he h
def rItems : V → List V → Hp → VK → Prop := fun x vs H Q => ∃ (d : Addr) (kvs : List (Key × V)), x = .ref d ∧ vs = [] ∧ H d = some (.dK kvs) ∧ ∀ v, H v = none → Q (.ref v) (upd H v (.ext fun h => h.IsItemsView v d))
section
variable {X : Cx} {e : Expr} {te : TE}
theorem mt_items : MtM X "dict.items" rItems := by
  intro pins s σ H x vs v us Q I rx rv h
  obtain ⟨d, kvs, rfl, rfl, hd, q⟩ := h
  cases rx
  have hus := rv.zero
  subst hus
  obtain ⟨z, hne, ws, rel, dd⟩ := I.hok d _ hd
  refine call_meetsIn PySem.F.slot_dict_items dd.typeIs PySem.F.entry_dict_items (PySem.F.args_dict_items_1 _) (meets_dict_items (mixKind X.prog X.w) d hne) ⟨⟨_, dd⟩, ?_⟩
  have hv : (s.heap.push { cls := .type "dict_items", data := .fields #[.ref d] }).IsItemsView s.heap.objs.size d := ⟨_, Heap.get?_push_size _ rfl, rfl, rfl⟩
  refine ⟨.ref s.heap.objs.size, _, I.laid (t' := s.toks) (o := .ext fun h => h.IsItemsView s.heap.objs.size d) (fun b ob q => Heap.get?_push_of_some _ q) (Nat.le_refl _) ⟨hv, ⟨_, Heap.get?_push_size _ rfl⟩, fun h1 h2 p k => ?_⟩, rfl, q _ I.fresh⟩
  obtain ⟨o, e, c⟩ := p
  exact ⟨o, k o e, c⟩
def iItems (P : Program) (w : World) (te : TE) : TI := fun σ H R => te σ H fun x H1 => ∃ v d kvs, x = .ref v ∧ H1 v = some (.ext fun h => h.IsItemsView v d) ∧ H1 d = some (.dK kvs) ∧ ∀ o ep, Fz P w d kvs o ep → R (Iti d kvs o) (upd H1 d (fzO d o))
theorem pi_items {es : List Expr} {k : Nat} {tp : Pos} (he : PE X e te) : PI X (.Tuple es k tp) e (iItems X.prog X.w te) := by
  intro pins s σ H R I h
  refine thn (he pins s σ H _ I h) fun u s1 ⟨x, H1, I1, r1, v, d, kvs, ex, hv, hd, q⟩ => ?_
  subst ex
  cases r1
  obtain ⟨view, _, _⟩ := I1.hok v _ hv
  obtain ⟨o, ep, hF, I2⟩ := freeze I1 hd
  obtain ⟨hz, hs, vs, es', kv, r⟩ := id hF
  obtain ⟨ho, _⟩ := I2.hok d (fzO d o) upd_same
  have hm : s1.heap.DictAt (mixKind X.prog X.w) d vs ep := ⟨o, es', ho, r⟩
  refine wpAny_pyIter_items view hm ?_
  have hfr : (upd H1 d (fzO d o)) s1.heap.objs.size = none := I2.fresh
  have hdl : d ≠ s1.heap.objs.size := Nat.ne_of_lt (Heap.lt_size ho)
  refine ⟨s1.heap.objs.size, [s1.heap.objs.size], _, _, _, rfl, I2.kept (t' := s1.toks) fun b ob e => Heap.get?_push_of_some _ e, turn_items d _ kvs o ep hF hdl, ⟨.none, .none, ?_⟩, fun b hb => ?_, q o ep hF⟩
  · rw [kv.length]; exact Heap.get?_push_size _ rfl
  · have e : b = s1.heap.objs.size := by simpa using hb
    subst e
    exact I2.fpOk (Nat.le_refl _) hfr
/-! ### d.values() -/
def Itv (d : Addr) (kvs : List (Key × V)) (o : Obj) : It :=
  ⟨fun i H => H d = some (fzO d o) ∧ i < kvs.length, fun i H x H' => H' = H ∧ ∃ k, kvs[i]? = some (k, x), fun i H => H d = some (fzO d o) ∧ kvs.length ≤ i⟩
theorem turn_vals {P : Program} {w : World} {K : PySem.W.Frag} {tg : Expr} (d it : Addr) (kvs : List (Key × V)) (o : Obj) (ep : Nat) (hF : Fz P w d kvs o ep) (hne : d ≠ it) :
    Turn P w K tg (Itv d kvs o) [it] it (fun i h => h.IsValIter it d i kvs.length ep) where
  mem := by simp
  obj := fun i h st b hb => by
    obtain ⟨ob, e, c, dd⟩ := st
    have z : b = it := by simpa using hb
    subst z
    exact ⟨ob, e, fun v z => by rw [dd] at z; cases z⟩
  keep := fun i h h' st k => st.at fun ob e => k it (by simp) ob e
  item := by
    intro X hP hw hK hc i pins s σ H E I hf st hg
    subst hP hw hK
    obtain ⟨hd, hi⟩ := hg
    obtain ⟨hz, hs, vs, es', kv, r⟩ := hF
    obtain ⟨ho, _⟩ := I.hok d _ hd
    have hm : s.heap.DictAt (mixKind X.prog X.w) d vs ep := ⟨o, es', ho, r⟩
    have hl := kv.length
    have hx : kvs[i]? = some kvs[i] := List.getElem?_eq_getElem hi
    generalize kvs[i] = kx at hx
    obtain ⟨kk, vv⟩ := kx
    obtain ⟨u, hu, ru⟩ := kv_get kv hx
    obtain ⟨f0, f1, f2, f3, f4, f5⟩ := hf it (by simp)
    have he' : s.heap.IsValIter it d i vs.length ep := by rw [← hl]; exact st
    refine wpAny_pyNext_values_item he' hm hu fun h' st' sb => ?_
    have I1 : Inv X pins σ H { s with heap := h' } := I.turned (t' := s.toks) (fun b ob hb e => (sb.2 b hb).trans e) f0 f1 f3 f4 f5
    obtain ⟨ob, e, c, dd⟩ := id st'
    exact ⟨u, rfl, go_of (s := { s with heap := h' }) e c dd (by decide) ⟨vv, H, I1, ru, ⟨rfl, kk, hx⟩, by rw [hl]; exact st', fun b hb => (hf b hb).1⟩⟩
  done := by
    intro X hP hw hK hc i pins s σ H E I hf st hg
    subst hP hw hK
    obtain ⟨hd, hi⟩ := hg
    obtain ⟨hz, hs, vs, es', kv, r⟩ := hF
    obtain ⟨ho, _⟩ := I.hok d _ hd
    have hm : s.heap.DictAt (mixKind X.prog X.w) d vs ep := ⟨o, es', ho, r⟩
    have hl := kv.length
    obtain ⟨f0, f1, f2, f3, f4, f5⟩ := hf it (by simp)
    have he' : s.heap.IsValIter it d i vs.length ep := by rw [← hl]; exact st
    exact wpAny_pyNext_values_end (I.ok.hd hc) he' hm (by rw [List.getElem?_eq_none_iff]; omega) fun h' eb => ⟨rfl, I.turned (t' := s.toks) (fun b ob hb e => eb b ob hb e) f0 f1 f3 f4 f5⟩
  self := fun _ _ _ _ _ st h => wpAny_pyIter_valiter st h
def iVals (P : Program) (w : World) (te : TE) : TI := fun σ H R => te σ H fun x H1 => ∃ v d kvs, x = .ref v ∧ H1 v = some (.ext fun h => h.IsValuesView v d) ∧ H1 d = some (.dK kvs) ∧ ∀ o ep, Fz P w d kvs o ep → R (Itv d kvs o) (upd H1 d (fzO d o))
theorem pi_vals {tg : Expr} (he : PE X e te) : PI X tg e (iVals X.prog X.w te) := by
  intro pins s σ H R I h
  refine thn (he pins s σ H _ I h) fun u s1 ⟨x, H1, I1, r1, v, d, kvs, ex, hv, hd, q⟩ => ?_
  subst ex
  cases r1
  obtain ⟨view, _, _⟩ := I1.hok v _ hv
  obtain ⟨o, ep, hF, I2⟩ := freeze I1 hd
  obtain ⟨hz, hs, vs, es', kv, r⟩ := id hF
  obtain ⟨ho, _⟩ := I2.hok d (fzO d o) upd_same
  have hm : s1.heap.DictAt (mixKind X.prog X.w) d vs ep := ⟨o, es', ho, r⟩
  refine wpAny_pyIter_values view hm ?_
  have hfr : (upd H1 d (fzO d o)) s1.heap.objs.size = none := I2.fresh
  have hdl : d ≠ s1.heap.objs.size := Nat.ne_of_lt (Heap.lt_size ho)
  refine ⟨s1.heap.objs.size, [s1.heap.objs.size], _, _, _, rfl, I2.kept (t' := s1.toks) fun b ob e => Heap.get?_push_of_some _ e, turn_vals d _ kvs o ep hF hdl, ⟨_, Heap.get?_push_size _ rfl, rfl, by rw [kv.length]; rfl⟩, fun b hb => ?_, q o ep hF⟩
  have e : b = s1.heap.objs.size := by simpa using hb
  subst e
  exact I2.fpOk (Nat.le_refl _) hfr
/-! ### behind the walk the dict is a dict again -/
/-- the address of the dict that was walked is said behind -/
def Thw (P : Program) (w : World) (R : Hp → Prop) : Hp → Prop := fun H => ∃ d kvs o ep, H d = some (fzO d o) ∧ Fz P w d kvs o ep ∧ R (upd H d (.dK kvs))
def sThaw (P : Program) (w : World) (t : TS) : TS := fun D σ H => t { D with nx := fun σ' H' => Thw P w (D.nx σ') H' } σ H
theorem ps_thaw {st : Stmt} {t : TS} (h : PS X st t) : PS X st (sThaw X.prog X.w t) := by
  intro pins s σ H D I q
  refine thn (h pins s σ H _ I q) fun f s1 r => ?_
  cases f with
  | next =>
    obtain ⟨σ', H', I', d, kvs, o, ep, hd, hF, q'⟩ := r
    exact ⟨σ', _, thaw I' hd hF, q'⟩
  | ret v => exact r
  | brk => exact r
  | cont => exact r
def tThaw (P : Program) (w : World) (t : TE) : TE := fun σ H Q => t σ H fun x H' => Thw P w (Q x) H'
theorem pe_thaw {t : TE} (h : PE X e t) : PE X e (tThaw X.prog X.w t) := by
  intro pins s σ H Q I q
  refine thn (h pins s σ H _ I q) fun u s1 r => ?_
  obtain ⟨x, H', I', rx, d, kvs, o, ep, hd, hF, q'⟩ := r
  exact ⟨x, _, thaw I' hd hF, rx, q'⟩
end
/-! ### the forms one uses -/
theorem for_items {d : Addr} {kvs : List (Key × V)} {o : Obj} {g : TG} {tb : TS} {D : Ends} {σ : St} {H : Hp} (Pv : Nat → St → Hp → Prop) (h0 : Pv 0 σ H) (hl : ∀ i σ H, i ≤ kvs.length → Pv i σ H → H d = some (fzO d o))
    (hs : ∀ i k v σ H p, kvs[i]? = some (k, v) → H p = none → Pv i σ H → g (.ref p) σ (upd H p (.tup [kV k, v])) fun σ2 H2 => tb { D with nx := Pv (i + 1), ct := Pv (i + 1), bk := D.nx } σ2 H2) (hd : ∀ σ H, Pv kvs.length σ H → D.nx σ H) :
    ∃ W : Nat → Nat → St → Hp → Prop, (∃ m, W 0 m σ H) ∧ ∀ i m σ H, W i m σ H →
      ((Iti d kvs o).stop i H ∧ D.nx σ H) ∨ ((Iti d kvs o).go i H ∧ ∃ N : St → Hp → Prop, (∀ σ' H', N σ' H' → ∃ m', m' < m ∧ W (i + 1) m' σ' H') ∧ ∀ x H', (Iti d kvs o).yld i H x H' → g x σ H' fun σ2 H2 => tb { D with nx := N, ct := N, bk := D.nx } σ2 H2) := by
  refine ⟨fun i m σ H => m = kvs.length - i ∧ i ≤ kvs.length ∧ Pv i σ H, ⟨kvs.length, by simp, Nat.zero_le _, h0⟩, ?_⟩
  rintro i m σ H ⟨rfl, hi, p⟩
  have q := hl i σ H hi p
  by_cases hlt : i < kvs.length
  · refine .inr ⟨⟨q, hlt⟩, Pv (i + 1), fun σ' H' p' => ⟨kvs.length - (i + 1), by omega, rfl, hlt, p'⟩, fun x H2 y => ?_⟩
    obtain ⟨t, k, v, ht, e, e2, y⟩ := y
    subst e e2
    exact hs i k v σ _ t y ht p
  · have e : i = kvs.length := by omega
    subst e
    exact .inl ⟨⟨q, Nat.le_refl _⟩, hd σ H p⟩
theorem comp_items {d D : Addr} {kvs : List (Key × V)} {o : Obj} {g : TG} {tc : TT} {te : TE} {Q : Hp → Prop} {σ0 : St} {H0 : Hp} (Pv : Nat → List V → St → Hp → Prop) (h0 : Pv 0 [] σ0 H0)
    (hl : ∀ i ys σ H, i ≤ kvs.length → Pv i ys σ H → H d = some (fzO d o) ∧ H D = some (.lst ys))
    (hs : ∀ i k v ys σ H p, kvs[i]? = some (k, v) → H p = none → Pv i ys σ H → g (.ref p) σ (upd H p (.tup [kV k, v])) fun σ2 H3 => tc σ2 H3 fun b H4 => if b = true then te σ2 H4 fun y H5 => H5 D = some (.lst ys) ∧ Pv (i + 1) (ys ++ [y]) σ2 (upd H5 D (.lst (ys ++ [y]))) else Pv (i + 1) ys σ2 H4)
    (hz : ∀ i ys σ H, i < kvs.length → Pv i ys σ H → ys.length < sizeLine)
    (hd : ∀ ys σ H, Pv kvs.length ys σ H → Q H) : WComp (Iti d kvs o) g tc te D Q σ0 H0 := by
  refine ⟨fun i m ys σ H => m = kvs.length - i ∧ i ≤ kvs.length ∧ Pv i ys σ H, ⟨kvs.length, by simp, Nat.zero_le _, h0⟩, ?_⟩
  rintro i m ys σ H ⟨rfl, hi, p⟩
  obtain ⟨q, hD⟩ := hl i ys σ H hi p
  refine ⟨hD, ?_⟩
  by_cases hlt : i < kvs.length
  · refine .inr ⟨⟨q, hlt⟩, hz i ys σ H hlt p, Pv (i + 1), fun ys' σ' H' p' => ⟨kvs.length - (i + 1), by omega, rfl, hlt, p'⟩, fun x H2 y => ?_⟩
    obtain ⟨t, k, v, ht, e, e2, y⟩ := y
    subst e e2
    exact hs i k v ys σ _ t y ht p
  · have e : i = kvs.length := by omega
    subst e
    exact .inl ⟨⟨q, Nat.le_refl _⟩, hd ys σ H p⟩
theorem comp_vals {d D : Addr} {kvs : List (Key × V)} {o : Obj} {g : TG} {tc : TT} {te : TE} {Q : Hp → Prop} {σ0 : St} {H0 : Hp} (Pv : Nat → List V → St → Hp → Prop) (h0 : Pv 0 [] σ0 H0)
    (hl : ∀ i ys σ H, i ≤ kvs.length → Pv i ys σ H → H d = some (fzO d o) ∧ H D = some (.lst ys))
    (hs : ∀ i k v ys σ H, kvs[i]? = some (k, v) → Pv i ys σ H → ys.length < sizeLine ∧ g v σ H fun σ2 H3 => tc σ2 H3 fun b H4 => if b = true then te σ2 H4 fun y H5 => H5 D = some (.lst ys) ∧ Pv (i + 1) (ys ++ [y]) σ2 (upd H5 D (.lst (ys ++ [y]))) else Pv (i + 1) ys σ2 H4)
    (hd : ∀ ys σ H, Pv kvs.length ys σ H → Q H) : WComp (Itv d kvs o) g tc te D Q σ0 H0 := by
  refine ⟨fun i m ys σ H => m = kvs.length - i ∧ i ≤ kvs.length ∧ Pv i ys σ H, ⟨kvs.length, by simp, Nat.zero_le _, h0⟩, ?_⟩
  rintro i m ys σ H ⟨rfl, hi, p⟩
  obtain ⟨q, hD⟩ := hl i ys σ H hi p
  refine ⟨hD, ?_⟩
  by_cases hlt : i < kvs.length
  · have hx : kvs[i]? = some kvs[i] := List.getElem?_eq_getElem hlt
    refine .inr ⟨⟨q, hlt⟩, (hs i _ _ ys σ H hx p).1, Pv (i + 1), fun ys' σ' H' p' => ⟨kvs.length - (i + 1), by omega, rfl, hlt, p'⟩, fun x H2 y => ?_⟩
    obtain ⟨e, k, y⟩ := y
    subst e
    exact (hs i k x ys σ _ y p).2
  · have e : i = kvs.length := by omega
    subst e
    exact .inl ⟨⟨q, Nat.le_refl _⟩, hd ys σ H p⟩
end L2

set_option Elab.async false
set_option linter.all false
set_option maxRecDepth 100000
set_option maxHeartbeats 0
namespace S64
open PySem PyProof.Rows
def IK (a : Array Keyed) : Prop := ∀ (i : Nat) (p : Keyed), a[i]? = some p → ∃ k t, p = (Value.int k t, Value.int k t)
/-- the state keeps its kind, its size, and holds ints -/
structure AI (N : Nat) (st : SortSt) : Prop where
  kind : kindOf st = oneType'
  size : (arrOf st).size = N
  ik : IK (arrOf st)
  ok : failedOf st = none
section
variable {prog : Program} {w : World} {A : Around} {E : Value → Shared → Prop} {s : Shared}
theorem wpS_lt {st : SortSt} {x y : Keyed} {Q : Option Bool → SortSt → Prop} (hk : kindOf st = oneType') (hx : ∃ k t, x = (Value.int k t, Value.int k t)) (hy : ∃ k t, y = (Value.int k t, Value.int k t)) (h : ∀ b, Q (some b) st) : wpS (model prog w) A E s (lt' x y) Q st := by
  obtain ⟨k, t, rfl⟩ := hx
  obtain ⟨k', t', rfl⟩ := hy
  rw [lt'_eq]
  refine wpS_bind (wpS_get ?_)
  rw [hk, keyLt'_oneType]
  refine wpS_bind (wpS_lift (wpAny_attempt (oneLt_int ⟨rfl, ?_⟩)))
  exact wpS_pure (h _)
theorem wpS_elem {st : SortSt} {a : Array Keyed} {i : Nat} {Q : Keyed → SortSt → Prop} (hi : i < a.size) (hik : IK a) (h : ∀ p, a[i]? = some p → (∃ k t, p = (Value.int k t, Value.int k t)) → Q p st) : wpS (model prog w) A E s (elem' a i) Q st := by
  rw [elem'_eq, getElem?_pos a i hi]
  exact wpS_pure (h _ (getElem?_pos a i hi) (hik i _ (getElem?_pos a i hi)))
theorem wpS_ltA {N : Nat} {st : SortSt} {i j : Nat} {Q : Option Bool → SortSt → Prop} (hA : AI N st) (hi : i < N) (hj : j < N) (h : ∀ b, Q (some b) st) : wpS (model prog w) A E s (ltAt' i j) Q st := by
  rw [ltAt'_eq]
  refine wpS_bind (wpS_get ?_)
  refine wpS_bind (wpS_elem (by rw [hA.size]; exact hi) hA.ik fun p _ hp => ?_)
  refine wpS_bind (wpS_elem (by rw [hA.size]; exact hj) hA.ik fun q _ hq => ?_)
  exact wpS_lt hA.kind hp hq h
theorem IK.perm {a b : Array Keyed} (p : a.Perm b) (h : IK b) : IK a := fun i x e => by
  have hm : x ∈ a.toList := Array.mem_toList_iff.mpr (Array.mem_of_getElem? e)
  have hm2 := (Array.perm_iff_toList_perm.mp p).mem_iff.mp hm
  obtain ⟨j, hj⟩ := List.mem_iff_getElem?.mp hm2
  exact h j x (by rw [← Array.getElem?_toList]; exact hj)
theorem AI.set {N : Nat} {st : SortSt} {xs : Array Keyed} (hA : AI N st) (p : xs.Perm (arrOf st)) : AI N (setArr st xs) := ⟨hA.kind, by show xs.size = N; rw [p.size_eq]; exact hA.size, IK.perm p hA.ik, hA.ok⟩
theorem wpS_rev {N : Nat} {st : SortSt} {i j : Nat} {Q : Unit → SortSt → Prop} (hA : AI N st) (hp : pendingOf st = pendingOf st) (h : ∀ st', AI N st' → pendingOf st' = pendingOf st → Q () st') : wpS (model prog w) A E s (reverseSlice' i j) Q st := by
  rw [reverseSlice'_eq]
  exact wpS_modify (h _ (hA.set (mirror_perm _ _ _ _)) rfl)
/-! a run is counted -/
theorem wpS_asc {N : Nat} {st : SortSt} {lo n0 nrem : Nat} {β : Type} (hA : AI N st) (hN : lo + nrem ≤ N) (h1 : 1 ≤ n0) {Q : Option (Option Nat) × Nat → SortSt → Prop} (h : ∀ n, n0 ≤ n → n ≤ max n0 nrem → Q (none, n) st) :
    wpS (model prog w) A E s (forIn [n0:nrem] ((none, n0) : Option (Option Nat) × Nat) fun _ r => do
      let x ← ltAt' (lo + r.2) (lo + r.2 - 1)
      match x with
      | some b => if b = true then pure (ForInStep.done (none, r.2)) else pure (ForInStep.yield (none, r.2 + 1))
      | _ => pure (ForInStep.done (some none, r.2))) Q st := by
  refine wpS_forRange (I := fun x c st' => st' = st ∧ c = (none, x) ∧ n0 ≤ x) ?_ ?_ ⟨rfl, rfl, Nat.le_refl _⟩
  · rintro x c st' hax hxn ⟨rfl, rfl, hx⟩
    refine wpS_bind (wpS_ltA hA (by dsimp only; omega) (by dsimp only; omega) fun b => ?_)
    cases b
    · exact wpS_pure ⟨rfl, rfl, by omega⟩
    · exact wpS_pure (h x hx (by omega))
  · rintro c st' ⟨rfl, rfl, hx⟩
    exact h _ hx (Nat.le_refl _)
theorem wpS_count {N : Nat} {st : SortSt} {lo nrem : Nat} {Q : Option Nat → SortSt → Prop} (hA : AI N st) (hN : lo + nrem ≤ N) (h1 : 1 ≤ nrem) (h : ∀ m st', AI N st' → pendingOf st' = pendingOf st → 1 ≤ m → m ≤ nrem → Q (some m) st') :
    wpS (model prog w) A E s (countRun' lo nrem) Q st := by
  rw [countRun'_eq]
  refine wpS_bind (wpS_asc (β := Nat) hA hN (Nat.le_refl _) fun n hn1 hn2 => ?_)
  dsimp only
  by_cases e : n = nrem
  · rw [if_pos (by simpa using e)]
    exact wpS_pure (h n st hA rfl hn1 (by omega))
  rw [if_neg (by simpa using e)]
  have hlt : n < nrem := by omega

  split
  · refine wpS_bind (wpS_ltA hA (by omega) (by omega) fun b => ?_)
    cases b
    · refine wpS_bind (wpS_rev hA rfl fun st1 hA1 hp1 => ?_)
      refine wpS_bind (wpS_lift (wpAny_rule ⟨rfl, ?_⟩))
      refine wpS_bind (wpS_mono (wpS_forRange (I := fun x c st' => (∃ q, c = (none, x, q)) ∧ AI N st' ∧ pendingOf st' = pendingOf st ∧ n + 1 ≤ x) (Q := fun c st' => (∃ m q, c = (none, m, q) ∧ n + 1 ≤ m ∧ m ≤ nrem) ∧ AI N st' ∧ pendingOf st' = pendingOf st) ?_ ?_ ⟨⟨0, rfl⟩, hA1, hp1, Nat.le_refl _⟩) ?_)
      · rintro x c st' hax hxn ⟨⟨q, rfl⟩, hA2, hp2, hx⟩
        refine wpS_bind (wpS_ltA (i := lo + x) (j := lo + x - 1) hA2 (by omega) (by omega) fun b => ?_)
        cases b
        · refine wpS_bind (wpS_ltA (i := lo + x - 1) (j := lo + x) hA2 (by omega) (by omega) fun b => ?_)
          cases b
          · exact wpS_pure ⟨⟨_, rfl⟩, hA2, hp2, by omega⟩
          · exact wpS_pure ⟨⟨x, _, rfl, hx, by omega⟩, hA2, hp2⟩
        · dsimp only
          rw [if_pos rfl]
          split
          · exact wpS_bind (wpS_rev hA2 rfl fun st3 hA3 hp3 => wpS_pure ⟨⟨_, rfl⟩, hA3, hp3.trans hp2, by omega⟩)
          · exact wpS_pure ⟨⟨_, rfl⟩, hA2, hp2, by omega⟩
      · rintro c st' ⟨⟨q, rfl⟩, hA2, hp2, hx⟩
        exact ⟨⟨_, _, rfl, hx, by omega⟩, hA2, hp2⟩
      · rintro c st' ⟨⟨m, q, rfl, hm1, hm2⟩, hA2, hp2⟩
        dsimp only
        split
        · refine wpS_bind (wpS_rev hA2 rfl fun st3 hA3 hp3 => ?_)
          refine wpS_bind (wpS_rev hA3 rfl fun st4 hA4 hp4 => ?_)
          refine wpS_bind (wpS_asc (β := Nat) hA4 hN (by omega) fun k hk1 hk2 => ?_)
          exact wpS_pure (h k _ hA4 (hp4.trans (hp3.trans hp2)) (by omega) (by omega))
        · refine wpS_bind (wpS_rev hA2 rfl fun st4 hA4 hp4 => ?_)
          refine wpS_bind (wpS_asc (β := Nat) hA4 hN (by omega) fun k hk1 hk2 => ?_)
          exact wpS_pure (h k _ hA4 (hp4.trans hp2) (by omega) (by omega))
    · exact wpS_pure (h n st hA rfl hn1 (by omega))
  · have hA1 := hA
    have hp1 : pendingOf st = pendingOf st := rfl
    refine wpS_bind (wpS_lift (wpAny_rule ⟨rfl, ?_⟩))
    refine wpS_bind (wpS_mono (wpS_forRange (I := fun x c st' => (∃ q, c = (none, x, q)) ∧ AI N st' ∧ pendingOf st' = pendingOf st ∧ n + 1 ≤ x) (Q := fun c st' => (∃ m q, c = (none, m, q) ∧ n + 1 ≤ m ∧ m ≤ nrem) ∧ AI N st' ∧ pendingOf st' = pendingOf st) ?_ ?_ ⟨⟨0, rfl⟩, hA1, hp1, Nat.le_refl _⟩) ?_)
    · rintro x c st' hax hxn ⟨⟨q, rfl⟩, hA2, hp2, hx⟩
      refine wpS_bind (wpS_ltA (i := lo + x) (j := lo + x - 1) hA2 (by omega) (by omega) fun b => ?_)
      cases b
      · refine wpS_bind (wpS_ltA (i := lo + x - 1) (j := lo + x) hA2 (by omega) (by omega) fun b => ?_)
        cases b
        · exact wpS_pure ⟨⟨_, rfl⟩, hA2, hp2, by omega⟩
        · exact wpS_pure ⟨⟨x, _, rfl, hx, by omega⟩, hA2, hp2⟩
      · dsimp only
        rw [if_pos rfl]
        split
        · exact wpS_bind (wpS_rev hA2 rfl fun st3 hA3 hp3 => wpS_pure ⟨⟨_, rfl⟩, hA3, hp3.trans hp2, by omega⟩)
        · exact wpS_pure ⟨⟨_, rfl⟩, hA2, hp2, by omega⟩
    · rintro c st' ⟨⟨q, rfl⟩, hA2, hp2, hx⟩
      exact ⟨⟨_, _, rfl, hx, by omega⟩, hA2, hp2⟩
    · rintro c st' ⟨⟨m, q, rfl, hm1, hm2⟩, hA2, hp2⟩
      dsimp only
      split
      · refine wpS_bind (wpS_rev hA2 rfl fun st3 hA3 hp3 => ?_)
        refine wpS_bind (wpS_rev hA3 rfl fun st4 hA4 hp4 => ?_)
        refine wpS_bind (wpS_asc (β := Nat) hA4 hN (by omega) fun k hk1 hk2 => ?_)
        exact wpS_pure (h k _ hA4 (hp4.trans (hp3.trans hp2)) (by omega) (by omega))
      · refine wpS_bind (wpS_rev hA2 rfl fun st4 hA4 hp4 => ?_)
        refine wpS_bind (wpS_asc (β := Nat) hA4 hN (by omega) fun k hk1 hk2 => ?_)
        exact wpS_pure (h k _ hA4 (hp4.trans hp2) (by omega) (by omega))
/-! binary insertion -/
theorem wpS_bins {N : Nat} {st : SortSt} {lo n ok : Nat} {Q : Bool → SortSt → Prop} (hA : AI N st) (hN : lo + n ≤ N) (h : ∀ st', AI N st' → pendingOf st' = pendingOf st → Q true st') :
    wpS (model prog w) A E s (binarySort' lo n ok) Q st := by
  rw [binarySort'_eq]
  refine wpS_bind (wpS_mono (wpS_forRange (I := fun k c st' => c = (none, ()) ∧ AI N st' ∧ pendingOf st' = pendingOf st)
    (Q := fun c st' => c = (none, ()) ∧ AI N st' ∧ pendingOf st' = pendingOf st) ?_ (fun c st' h => h) ⟨rfl, hA, rfl⟩) ?_)
  · rintro k c st' hak hkn ⟨rfl, hA', hp'⟩
    refine wpS_bind (wpS_mono (wpS_forRange (I := fun x c st'' => st'' = st' ∧ ∃ l r, c = (none, l, r) ∧ r ≤ k)
      (Q := fun c st'' => st'' = st' ∧ ∃ l r, c = (none, l, r)) ?_ ?_ ⟨rfl, 0, k, rfl, Nat.le_refl _⟩) ?_)
    · rintro x c st'' _ hxk ⟨rfl, l, r, rfl, hrk⟩
      dsimp only
      split
      · exact wpS_pure ⟨rfl, _, _, rfl⟩
      · refine wpS_bind (wpS_ltA hA' (by omega) (by omega) fun b => ?_)
        cases b
        · exact wpS_pure ⟨rfl, _, _, rfl, hrk⟩
        · exact wpS_pure ⟨rfl, _, _, rfl, by omega⟩
    · rintro c st'' ⟨rfl, l, r, rfl, hrk⟩
      exact ⟨rfl, _, _, rfl⟩
    · rintro c st'' ⟨rfl, l, r, rfl⟩
      dsimp only
      rw [moveDown'_eq]
      exact wpS_bind (wpS_modify (wpS_pure ⟨rfl, hA'.set (bubble_perm _ _ _), hp'⟩))
  · rintro c st' ⟨rfl, hA', hp'⟩
    exact wpS_pure (h st' hA' hp')
/-! the gallop -/
def gallop' : Bool → Keyed → Array Keyed → Nat → Nat → Nat → StateT SortSt Sem (Option Nat) := sortPriv% PySem.Builtin.gallop
theorem wpS_gallop {st : SortSt} {left : Bool} {key : Keyed} {a : Array Keyed} {base n hint : Nat} {Q : Option Nat → SortSt → Prop} (hk : kindOf st = oneType') (hkey : ∃ k t, key = (Value.int k t, Value.int k t)) (hik : IK a)
    (hb : base + n ≤ a.size) (hh : hint < n) (h : ∀ k, k ≤ n → Q (some k) st) : wpS (model prog w) A E s (gallop' left key a base n hint) Q st := by
  have bey : ∀ (i : Nat) (R : Option Bool → SortSt → Prop), i < n → (∀ b, R (some b) st) → wpS (model prog w) A E s (do
      let x ← elem' a (base + i)
      if left = true then lt' x key else do
        let r ← lt' key x
        pure (Option.map (fun b => !b) r)) R st := by
    intro i R hi hR
    refine wpS_bind (wpS_elem (by omega) hik fun p _ hp => ?_)
    split
    · exact wpS_lt hk hp hkey hR
    · exact wpS_bind (wpS_lt hk hkey hp fun b => wpS_pure (hR _))
  unfold gallop'
  refine wpS_bind (bey hint _ hh fun b => ?_)
  cases b
  · dsimp only
    rw [if_neg Bool.false_ne_true]
    refine wpS_bind (wpS_mono (wpS_forRange (I := fun x c st' => st = st' ∧ ∃ l o, c = (none, l, o)) (Q := fun c st' => st = st' ∧ ∃ l o, c = (none, l, o)) ?_ (fun _ _ h => h) ⟨rfl, _, _, rfl⟩) ?_)
    · rintro x c st' _ hx ⟨rfl, l, o, rfl⟩
      dsimp only
      split
      · exact wpS_pure ⟨rfl, _, _, rfl⟩
      · refine wpS_bind (bey _ _ (by omega) fun b => ?_)
        cases b
        · exact wpS_pure ⟨rfl, _, _, rfl⟩
        · exact wpS_pure ⟨rfl, _, _, rfl⟩
    · rintro c st' ⟨rfl, l, o, rfl⟩
      dsimp only
      refine wpS_bind (wpS_mono (wpS_forRange (I := fun x c st' => st = st' ∧ ∃ l o, c = (none, l, o) ∧ o ≤ n) (Q := fun c st' => st = st' ∧ ∃ l o, c = (none, l, o) ∧ o ≤ n) ?_ (fun _ _ h => h) ⟨rfl, _, _, rfl, by omega⟩) ?_)
      · rintro x c st' _ hx ⟨rfl, l, o, rfl, ho⟩
        dsimp only
        split
        · exact wpS_pure ⟨rfl, _, _, rfl, ho⟩
        · refine wpS_bind (bey _ _ (by omega) fun b => ?_)
          cases b
          · exact wpS_pure ⟨rfl, _, _, rfl, by omega⟩
          · exact wpS_pure ⟨rfl, _, _, rfl, ho⟩
      · rintro c st' ⟨rfl, l, o, rfl, ho⟩
        exact wpS_pure (h o ho)
  · dsimp only
    rw [if_pos rfl]
    refine wpS_bind (wpS_mono (wpS_forRange (I := fun x c st' => st = st' ∧ ∃ l o, c = (none, l, o)) (Q := fun c st' => st = st' ∧ ∃ l o, c = (none, l, o)) ?_ (fun _ _ h => h) ⟨rfl, _, _, rfl⟩) ?_)
    · rintro x c st' _ hx ⟨rfl, l, o, rfl⟩
      dsimp only
      split
      · exact wpS_pure ⟨rfl, _, _, rfl⟩
      · refine wpS_bind (bey _ _ (by omega) fun b => ?_)
        cases b
        · exact wpS_pure ⟨rfl, _, _, rfl⟩
        · exact wpS_pure ⟨rfl, _, _, rfl⟩
    · rintro c st' ⟨rfl, l, o, rfl⟩
      dsimp only
      refine wpS_bind (wpS_mono (wpS_forRange (I := fun x c st' => st = st' ∧ ∃ l o, c = (none, l, o) ∧ o ≤ n) (Q := fun c st' => st = st' ∧ ∃ l o, c = (none, l, o) ∧ o ≤ n) ?_ (fun _ _ h => h) ⟨rfl, _, _, rfl, by omega⟩) ?_)
      · rintro x c st' _ hx ⟨rfl, l, o, rfl, ho⟩
        dsimp only
        split
        · exact wpS_pure ⟨rfl, _, _, rfl, ho⟩
        · refine wpS_bind (bey _ _ (by omega) fun b => ?_)
          cases b
          · exact wpS_pure ⟨rfl, _, _, rfl, by omega⟩
          · exact wpS_pure ⟨rfl, _, _, rfl, ho⟩
      · rintro c st' ⟨rfl, l, o, rfl, ho⟩
        exact wpS_pure (h o ho)
/-! merges -/
def mergeLo' : Array Keyed → Array Keyed → StateT SortSt Sem (Array Keyed) := sortPriv% PySem.Builtin.mergeLo
def mergeHi' : Array Keyed → Array Keyed → StateT SortSt Sem (Array Keyed) := sortPriv% PySem.Builtin.mergeHi
theorem IK.push {a : Array Keyed} {p : Keyed} (h : IK a) (hp : ∃ k t, p = (Value.int k t, Value.int k t)) : IK (a.push p) := fun i q e => by
  rw [Array.getElem?_push] at e
  split at e
  · cases e; exact hp
  · exact h i q e
theorem IK.app {a b : Array Keyed} (ha : IK a) (hb : IK b) : IK (a ++ b) := fun i q e => by
  rw [Array.getElem?_append] at e
  split at e
  · exact ha i q e
  · exact hb _ q e
theorem IK.ext {a : Array Keyed} (ha : IK a) (x y : Nat) : IK (a.extract x y) := fun i q e => by
  rw [Array.getElem?_extract] at e
  split at e
  · exact ha _ q e
  · cases e
theorem IK.rev {a : Array Keyed} (ha : IK a) : IK a.reverse := IK.perm (Array.perm_iff_toList_perm.mpr (by rw [Array.toList_reverse]; exact List.reverse_perm _)) ha
structure Good (st : SortSt) (st' : SortSt) : Prop where
  kind : kindOf st' = kindOf st
  arr : arrOf st' = arrOf st
  pend : pendingOf st' = pendingOf st
  fail : failedOf st' = failedOf st
theorem Good.refl (st : SortSt) : Good st st := ⟨rfl, rfl, rfl, rfl⟩
theorem Good.trans {a b c : SortSt} (h : Good a b) (g : Good b c) : Good a c := ⟨g.kind.trans h.kind, g.arr.trans h.arr, g.pend.trans h.pend, g.fail.trans h.fail⟩
theorem wpS_ite {c : Prop} [Decidable c] {α : Type} {m n : StateT SortSt Sem α} {Q : α → SortSt → Prop} {st : SortSt} (h1 : c → wpS (model prog w) A E s m Q st) (h2 : ¬ c → wpS (model prog w) A E s n Q st) : wpS (model prog w) A E s (if c then m else n) Q st := by
  by_cases h : c
  · rw [if_pos h]; exact h1 h
  · rw [if_neg h]; exact h2 h
def setMin' : Nat → StateT SortSt Sem Unit := sortPriv% PySem.Builtin.setMinGallop
theorem wpS_setMin {st st0 : SortSt} {g : Nat} {Q : Unit → SortSt → Prop} (h0 : Good st0 st) (h : ∀ st', Good st0 st' → Q () st') : wpS (model prog w) A E s (setMin' g) Q st := by
  unfold setMin'
  exact wpS_modify (h _ (h0.trans ⟨rfl, rfl, rfl, rfl⟩))
def Out (a b r : Array Keyed) : Prop := IK r ∧ r.size = a.size + b.size
structure ML (a b out : Array Keyed) (ia ib : Nat) : Prop where
  ik : IK out
  sz : out.size = ia + ib
  la : ia + 1 < a.size
  lb : ib < b.size
theorem wpS_mergeLo {st : SortSt} {a b : Array Keyed} {Q : Array Keyed → SortSt → Prop} (hk : kindOf st = oneType') (ha : IK a) (hb : IK b) (ha0 : 0 < a.size) (hb0 : 0 < b.size)
    (h : ∀ (r : Array Keyed) st', Good st st' → Out a b r → Q r st') : wpS (model prog w) A E s (mergeLo' a b) Q st := by
  unfold mergeLo'
  refine wpS_bind (wpS_lift (wpAny_rule ⟨rfl, ?_⟩))
  refine wpS_bind (wpS_elem hb0 hb fun p0 _ hp0 => ?_)
  dsimp only
  have ik0 : IK #[p0] := fun i q e => by
    cases i with
    | zero => simp at e; subst e; exact hp0
    | succ i => simp at e
  refine wpS_ite (fun hQ => ?_) (fun hQ => ?_)
  · have hc := hQ
    simp only [beq_iff_eq] at hc
    exact wpS_pure (h _ _ (Good.refl _) ⟨(by repeat (first | assumption | apply IK.push | apply IK.app | apply IK.ext | apply IK.rev)), (by (try simp only [Array.size_append, Array.size_push, Array.size_extract, Array.size_reverse, List.size_toArray, List.length_cons, List.length_nil]); omega)⟩)
  have hc := hQ
  simp only [beq_iff_eq] at hc
  refine wpS_ite (fun hQ => ?_) (fun hQ => ?_)
  · have hc2 := hQ
    simp only [beq_iff_eq] at hc2
    exact wpS_pure (h _ _ (Good.refl _) ⟨(by repeat (first | assumption | apply IK.push | apply IK.app | apply IK.ext | apply IK.rev)), (by (try simp only [Array.size_append, Array.size_push, Array.size_extract, Array.size_reverse, List.size_toArray, List.length_cons, List.length_nil]); omega)⟩)
  have hc2 := hQ
  simp only [beq_iff_eq] at hc2
  refine wpS_bind (wpS_get ?_)
  refine wpS_bind (wpS_mono (wpS_forRange (I := fun x c st' => Good st st' ∧ ∃ out ia ib mg, c = (none, out, ia, ib, mg) ∧ ML a b out ia ib ∧ x < out.size)
    (Q := fun c st' => Good st st' ∧ ∃ r out ia ib mg, c = (some r, out, ia, ib, mg) ∧ Out a b r) ?_ ?_ ⟨Good.refl _, _, _, _, _, rfl, ⟨ik0, rfl, by omega, by omega⟩, by show 0 < 1; decide⟩) ?_)
  · rintro x c st1 _ hx ⟨g1, out, ia, ib, mg, rfl, M, hxo⟩
    obtain ⟨ik1, sz1, la1, lb1⟩ := M
    refine wpS_bind (wpS_mono (wpS_forRange (I := fun y c st' => Good st st' ∧ ∃ o ja jb p q, c = (none, o, ja, jb, p, q) ∧ ML a b o ja jb ∧ o.size = out.size + y)
      (Q := fun c st' => Good st st' ∧ ((∃ r o ja jb p q, c = (some r, o, ja, jb, p, q) ∧ Out a b r) ∨ (∃ o ja jb p q, c = (none, o, ja, jb, p, q) ∧ ML a b o ja jb ∧ out.size < o.size))) ?_ ?_ ⟨g1, _, _, _, _, _, rfl, ⟨ik1, sz1, la1, lb1⟩, rfl⟩) ?_)
    · rintro y c st2 _ hy ⟨g2, o, ja, jb, p, q, rfl, ⟨ik2, sz2, la2, lb2⟩, ho⟩
      refine wpS_bind (wpS_elem lb2 hb fun pb _ hpb => ?_)
      refine wpS_bind (wpS_elem (i := ja) (by omega) ha fun pa _ hpa => ?_)
      refine wpS_bind (wpS_lt (g2.kind.trans hk) hpb hpa fun bw => ?_)
      dsimp only
      cases bw
      · rw [if_neg Bool.false_ne_true]
        refine wpS_bind (wpS_elem (by omega) ha fun pa2 _ hpa2 => ?_)
        refine wpS_ite (fun hQ => ?_) (fun hQ => ?_)
        · have h1 := hQ
          simp only [beq_iff_eq] at h1
          exact wpS_pure ⟨g2, .inl ⟨_, _, _, _, _, _, rfl, (by repeat (first | assumption | apply IK.push | apply IK.app | apply IK.ext | apply IK.rev)), (by (try simp only [Array.size_append, Array.size_push, Array.size_extract, Array.size_reverse, List.size_toArray, List.length_cons, List.length_nil]); omega)⟩⟩
        have h1 := hQ
        simp only [beq_iff_eq] at h1
        refine wpS_ite (fun hQ => ?_) (fun hQ => ?_)
        · exact wpS_pure ⟨g2, .inr ⟨_, _, _, _, _, rfl, ⟨(by repeat (first | assumption | apply IK.push | apply IK.app | apply IK.ext | apply IK.rev)), (by (try simp only [Array.size_append, Array.size_push, Array.size_extract, Array.size_reverse, List.size_toArray, List.length_cons, List.length_nil]); omega), by omega, by omega⟩, (by (try simp only [Array.size_append, Array.size_push, Array.size_extract, Array.size_reverse, List.size_toArray, List.length_cons, List.length_nil]); omega)⟩⟩
        · exact wpS_pure ⟨g2, _, _, _, _, _, rfl, ⟨(by repeat (first | assumption | apply IK.push | apply IK.app | apply IK.ext | apply IK.rev)), (by (try simp only [Array.size_append, Array.size_push, Array.size_extract, Array.size_reverse, List.size_toArray, List.length_cons, List.length_nil]); omega), by omega, by omega⟩, (by (try simp only [Array.size_append, Array.size_push, Array.size_extract, Array.size_reverse, List.size_toArray, List.length_cons, List.length_nil]); omega)⟩
      · rw [if_pos rfl]
        refine wpS_bind (wpS_elem lb2 hb fun pb2 _ hpb2 => ?_)
        refine wpS_ite (fun hQ => ?_) (fun hQ => ?_)
        · have h1 := hQ
          simp only [beq_iff_eq] at h1
          exact wpS_pure ⟨g2, .inl ⟨_, _, _, _, _, _, rfl, (by repeat (first | assumption | apply IK.push | apply IK.app | apply IK.ext | apply IK.rev)), (by (try simp only [Array.size_append, Array.size_push, Array.size_extract, Array.size_reverse, List.size_toArray, List.length_cons, List.length_nil]); omega)⟩⟩
        have h1 := hQ
        simp only [beq_iff_eq] at h1
        refine wpS_ite (fun hQ => ?_) (fun hQ => ?_)
        · exact wpS_pure ⟨g2, .inr ⟨_, _, _, _, _, rfl, ⟨(by repeat (first | assumption | apply IK.push | apply IK.app | apply IK.ext | apply IK.rev)), (by (try simp only [Array.size_append, Array.size_push, Array.size_extract, Array.size_reverse, List.size_toArray, List.length_cons, List.length_nil]); omega), by omega, by omega⟩, (by (try simp only [Array.size_append, Array.size_push, Array.size_extract, Array.size_reverse, List.size_toArray, List.length_cons, List.length_nil]); omega)⟩⟩
        · exact wpS_pure ⟨g2, _, _, _, _, _, rfl, ⟨(by repeat (first | assumption | apply IK.push | apply IK.app | apply IK.ext | apply IK.rev)), (by (try simp only [Array.size_append, Array.size_push, Array.size_extract, Array.size_reverse, List.size_toArray, List.length_cons, List.length_nil]); omega), by omega, by omega⟩, (by (try simp only [Array.size_append, Array.size_push, Array.size_extract, Array.size_reverse, List.size_toArray, List.length_cons, List.length_nil]); omega)⟩
    · rintro c st2 ⟨g2, o, ja, jb, p, q, rfl, M2, ho⟩
      exact ⟨g2, .inr ⟨_, _, _, _, _, rfl, M2, by omega⟩⟩
    rintro c st2 ⟨g2, ⟨r, o, ja, jb, p, q, rfl, hr⟩ | ⟨o, ja, jb, p, q, rfl, M2, ho⟩⟩
    · exact wpS_pure ⟨g2, _, _, _, _, _, rfl, hr⟩
    dsimp only
    refine wpS_bind (wpS_lift (wpAny_rule ⟨rfl, ?_⟩))
    refine wpS_bind (wpS_mono (wpS_forRange (I := fun y c st' => Good st st' ∧ ∃ o ja jb m p q, c = (none, o, ja, jb, m, p, q) ∧ ML a b o ja jb ∧ out.size < o.size)
      (Q := fun c st' => Good st st' ∧ ((∃ r o ja jb m p q, c = (some r, o, ja, jb, m, p, q) ∧ Out a b r) ∨ (∃ o ja jb m p q, c = (none, o, ja, jb, m, p, q) ∧ ML a b o ja jb ∧ out.size < o.size))) ?_ ?_ ⟨g2, _, _, _, _, _, _, rfl, M2, ho⟩) ?_)
    · rintro y c st3 _ hy ⟨g3, o, ja, jb, m, p, q, rfl, ⟨ik2, sz2, la2, lb2⟩, ho⟩
      dsimp only
      refine wpS_ite (fun hQ => ?_) (fun hQ => ?_)
      all_goals
        refine wpS_bind (wpS_setMin g3 fun st4 g4 => ?_)
        refine wpS_bind (wpS_elem lb2 hb fun pb _ hpb => ?_)
        refine wpS_bind (wpS_gallop (g4.kind.trans hk) hpb ha (by omega) (by omega) fun k hkk => ?_)
        dsimp only
        refine wpS_ite (fun hQ => ?_) (fun hQ => ?_)
        · refine wpS_ite (fun hQ => ?_) (fun hQ => ?_)
          · have h1 := hQ
            simp only [beq_iff_eq] at h1
            exact wpS_pure ⟨g4, .inl ⟨_, _, _, _, _, _, _, rfl, (by repeat (first | assumption | apply IK.push | apply IK.app | apply IK.ext | apply IK.rev)), (by (try simp only [Array.size_append, Array.size_push, Array.size_extract, Array.size_reverse, List.size_toArray, List.length_cons, List.length_nil]); omega)⟩⟩
          have h1 := hQ
          simp only [beq_iff_eq] at h1
          refine wpS_ite (fun hQ => ?_) (fun hQ => ?_)
          · have h2 := hQ
            simp only [beq_iff_eq] at h2
            exact wpS_pure ⟨g4, .inl ⟨_, _, _, _, _, _, _, rfl, (by repeat (first | assumption | apply IK.push | apply IK.app | apply IK.ext | apply IK.rev)), (by (try simp only [Array.size_append, Array.size_push, Array.size_extract, Array.size_reverse, List.size_toArray, List.length_cons, List.length_nil]); omega)⟩⟩
          have h2 := hQ
          simp only [beq_iff_eq] at h2
          refine wpS_bind (wpS_elem lb2 hb fun pb2 _ hpb2 => ?_)
          refine wpS_ite (fun hQ => ?_) (fun hQ => ?_)
          · have h3 := hQ
            simp only [beq_iff_eq] at h3
            exact wpS_pure ⟨g4, .inl ⟨_, _, _, _, _, _, _, rfl, (by repeat (first | assumption | apply IK.push | apply IK.app | apply IK.ext | apply IK.rev)), (by (try simp only [Array.size_append, Array.size_push, Array.size_extract, Array.size_reverse, List.size_toArray, List.length_cons, List.length_nil]); omega)⟩⟩
          have h3 := hQ
          simp only [beq_iff_eq] at h3
          refine wpS_bind (wpS_elem (by omega) ha fun pa _ hpa => ?_)
          refine wpS_bind (wpS_gallop (g4.kind.trans hk) hpa hb (by omega) (by omega) fun k2 hk2 => ?_)
          dsimp only
          refine wpS_ite (fun hQ => ?_) (fun hQ => ?_)
          · refine wpS_ite (fun hQ => ?_) (fun hQ => ?_)
            · have h4 := hQ
              simp only [beq_iff_eq] at h4
              exact wpS_pure ⟨g4, .inl ⟨_, _, _, _, _, _, _, rfl, (by repeat (first | assumption | apply IK.push | apply IK.app | apply IK.ext | apply IK.rev)), (by (try simp only [Array.size_append, Array.size_push, Array.size_extract, Array.size_reverse, List.size_toArray, List.length_cons, List.length_nil]); omega)⟩⟩
            have h4 := hQ
            simp only [beq_iff_eq] at h4
            refine wpS_bind (wpS_elem (by omega) ha fun pa2 _ hpa2 => ?_)
            refine wpS_ite (fun hQ => ?_) (fun hQ => ?_)
            · have h5 := hQ
              simp only [beq_iff_eq] at h5
              exact wpS_pure ⟨g4, .inl ⟨_, _, _, _, _, _, _, rfl, (by repeat (first | assumption | apply IK.push | apply IK.app | apply IK.ext | apply IK.rev)), (by (try simp only [Array.size_append, Array.size_push, Array.size_extract, Array.size_reverse, List.size_toArray, List.length_cons, List.length_nil]); omega)⟩⟩
            have h5 := hQ
            simp only [beq_iff_eq] at h5
            refine wpS_ite (fun hQ => ?_) (fun hQ => ?_)
            · exact wpS_pure ⟨g4, .inr ⟨_, _, _, _, _, _, rfl, ⟨(by repeat (first | assumption | apply IK.push | apply IK.app | apply IK.ext | apply IK.rev)), (by (try simp only [Array.size_append, Array.size_push, Array.size_extract, Array.size_reverse, List.size_toArray, List.length_cons, List.length_nil]); omega), by omega, by omega⟩, (by (try simp only [Array.size_append, Array.size_push, Array.size_extract, Array.size_reverse, List.size_toArray, List.length_cons, List.length_nil]); omega)⟩⟩
            · exact wpS_pure ⟨g4, _, _, _, _, _, _, rfl, ⟨(by repeat (first | assumption | apply IK.push | apply IK.app | apply IK.ext | apply IK.rev)), (by (try simp only [Array.size_append, Array.size_push, Array.size_extract, Array.size_reverse, List.size_toArray, List.length_cons, List.length_nil]); omega), by omega, by omega⟩, (by (try simp only [Array.size_append, Array.size_push, Array.size_extract, Array.size_reverse, List.size_toArray, List.length_cons, List.length_nil]); omega)⟩
          · refine wpS_bind (wpS_elem (by omega) ha fun pa2 _ hpa2 => ?_)
            refine wpS_ite (fun hQ => ?_) (fun hQ => ?_)
            · have h5 := hQ
              simp only [beq_iff_eq] at h5
              exact wpS_pure ⟨g4, .inl ⟨_, _, _, _, _, _, _, rfl, (by repeat (first | assumption | apply IK.push | apply IK.app | apply IK.ext | apply IK.rev)), (by (try simp only [Array.size_append, Array.size_push, Array.size_extract, Array.size_reverse, List.size_toArray, List.length_cons, List.length_nil]); omega)⟩⟩
            have h5 := hQ
            simp only [beq_iff_eq] at h5
            refine wpS_ite (fun hQ => ?_) (fun hQ => ?_)
            · exact wpS_pure ⟨g4, .inr ⟨_, _, _, _, _, _, rfl, ⟨(by repeat (first | assumption | apply IK.push | apply IK.app | apply IK.ext | apply IK.rev)), (by (try simp only [Array.size_append, Array.size_push, Array.size_extract, Array.size_reverse, List.size_toArray, List.length_cons, List.length_nil]); omega), by omega, by omega⟩, (by (try simp only [Array.size_append, Array.size_push, Array.size_extract, Array.size_reverse, List.size_toArray, List.length_cons, List.length_nil]); omega)⟩⟩
            · exact wpS_pure ⟨g4, _, _, _, _, _, _, rfl, ⟨(by repeat (first | assumption | apply IK.push | apply IK.app | apply IK.ext | apply IK.rev)), (by (try simp only [Array.size_append, Array.size_push, Array.size_extract, Array.size_reverse, List.size_toArray, List.length_cons, List.length_nil]); omega), by omega, by omega⟩, (by (try simp only [Array.size_append, Array.size_push, Array.size_extract, Array.size_reverse, List.size_toArray, List.length_cons, List.length_nil]); omega)⟩
        · refine wpS_bind (wpS_elem lb2 hb fun pb2 _ hpb2 => ?_)
          refine wpS_ite (fun hQ => ?_) (fun hQ => ?_)
          · have h3 := hQ
            simp only [beq_iff_eq] at h3
            exact wpS_pure ⟨g4, .inl ⟨_, _, _, _, _, _, _, rfl, (by repeat (first | assumption | apply IK.push | apply IK.app | apply IK.ext | apply IK.rev)), (by (try simp only [Array.size_append, Array.size_push, Array.size_extract, Array.size_reverse, List.size_toArray, List.length_cons, List.length_nil]); omega)⟩⟩
          have h3 := hQ
          simp only [beq_iff_eq] at h3
          refine wpS_bind (wpS_elem (by omega) ha fun pa _ hpa => ?_)
          refine wpS_bind (wpS_gallop (g4.kind.trans hk) hpa hb (by omega) (by omega) fun k2 hk2 => ?_)
          dsimp only
          refine wpS_ite (fun hQ => ?_) (fun hQ => ?_)
          · refine wpS_ite (fun hQ => ?_) (fun hQ => ?_)
            · have h4 := hQ
              simp only [beq_iff_eq] at h4
              exact wpS_pure ⟨g4, .inl ⟨_, _, _, _, _, _, _, rfl, (by repeat (first | assumption | apply IK.push | apply IK.app | apply IK.ext | apply IK.rev)), (by (try simp only [Array.size_append, Array.size_push, Array.size_extract, Array.size_reverse, List.size_toArray, List.length_cons, List.length_nil]); omega)⟩⟩
            have h4 := hQ
            simp only [beq_iff_eq] at h4
            refine wpS_bind (wpS_elem (by omega) ha fun pa2 _ hpa2 => ?_)
            refine wpS_ite (fun hQ => ?_) (fun hQ => ?_)
            · have h5 := hQ
              simp only [beq_iff_eq] at h5
              exact wpS_pure ⟨g4, .inl ⟨_, _, _, _, _, _, _, rfl, (by repeat (first | assumption | apply IK.push | apply IK.app | apply IK.ext | apply IK.rev)), (by (try simp only [Array.size_append, Array.size_push, Array.size_extract, Array.size_reverse, List.size_toArray, List.length_cons, List.length_nil]); omega)⟩⟩
            have h5 := hQ
            simp only [beq_iff_eq] at h5
            refine wpS_ite (fun hQ => ?_) (fun hQ => ?_)
            · exact wpS_pure ⟨g4, .inr ⟨_, _, _, _, _, _, rfl, ⟨(by repeat (first | assumption | apply IK.push | apply IK.app | apply IK.ext | apply IK.rev)), (by (try simp only [Array.size_append, Array.size_push, Array.size_extract, Array.size_reverse, List.size_toArray, List.length_cons, List.length_nil]); omega), by omega, by omega⟩, (by (try simp only [Array.size_append, Array.size_push, Array.size_extract, Array.size_reverse, List.size_toArray, List.length_cons, List.length_nil]); omega)⟩⟩
            · exact wpS_pure ⟨g4, _, _, _, _, _, _, rfl, ⟨(by repeat (first | assumption | apply IK.push | apply IK.app | apply IK.ext | apply IK.rev)), (by (try simp only [Array.size_append, Array.size_push, Array.size_extract, Array.size_reverse, List.size_toArray, List.length_cons, List.length_nil]); omega), by omega, by omega⟩, (by (try simp only [Array.size_append, Array.size_push, Array.size_extract, Array.size_reverse, List.size_toArray, List.length_cons, List.length_nil]); omega)⟩
          · refine wpS_bind (wpS_elem (by omega) ha fun pa2 _ hpa2 => ?_)
            refine wpS_ite (fun hQ => ?_) (fun hQ => ?_)
            · have h5 := hQ
              simp only [beq_iff_eq] at h5
              exact wpS_pure ⟨g4, .inl ⟨_, _, _, _, _, _, _, rfl, (by repeat (first | assumption | apply IK.push | apply IK.app | apply IK.ext | apply IK.rev)), (by (try simp only [Array.size_append, Array.size_push, Array.size_extract, Array.size_reverse, List.size_toArray, List.length_cons, List.length_nil]); omega)⟩⟩
            have h5 := hQ
            simp only [beq_iff_eq] at h5
            refine wpS_ite (fun hQ => ?_) (fun hQ => ?_)
            · exact wpS_pure ⟨g4, .inr ⟨_, _, _, _, _, _, rfl, ⟨(by repeat (first | assumption | apply IK.push | apply IK.app | apply IK.ext | apply IK.rev)), (by (try simp only [Array.size_append, Array.size_push, Array.size_extract, Array.size_reverse, List.size_toArray, List.length_cons, List.length_nil]); omega), by omega, by omega⟩, (by (try simp only [Array.size_append, Array.size_push, Array.size_extract, Array.size_reverse, List.size_toArray, List.length_cons, List.length_nil]); omega)⟩⟩
            · exact wpS_pure ⟨g4, _, _, _, _, _, _, rfl, ⟨(by repeat (first | assumption | apply IK.push | apply IK.app | apply IK.ext | apply IK.rev)), (by (try simp only [Array.size_append, Array.size_push, Array.size_extract, Array.size_reverse, List.size_toArray, List.length_cons, List.length_nil]); omega), by omega, by omega⟩, (by (try simp only [Array.size_append, Array.size_push, Array.size_extract, Array.size_reverse, List.size_toArray, List.length_cons, List.length_nil]); omega)⟩
    · rintro c st3 ⟨g3, o, ja, jb, m, p, q, rfl, M3, ho⟩
      exact ⟨g3, .inr ⟨_, _, _, _, _, _, rfl, M3, ho⟩⟩
    rintro c st3 ⟨g3, ⟨r, o, ja, jb, m, p, q, rfl, hr⟩ | ⟨o, ja, jb, m, p, q, rfl, M3, ho⟩⟩
    · exact wpS_pure ⟨g3, _, _, _, _, _, rfl, hr⟩
    · dsimp only
      exact wpS_bind (wpS_setMin g3 fun st4 g4 => wpS_pure ⟨g4, _, _, _, _, rfl, M3, by omega⟩)
  · rintro c st1 ⟨g1, out, ia, ib, mg, rfl, M, hxo⟩
    exfalso
    have := M.sz
    have := M.la
    have := M.lb
    omega
  · rintro c st1 ⟨g1, r, out, ia, ib, mg, rfl, hr⟩
    exact wpS_pure (h r st1 g1 hr)
end
end S64

set_option Elab.async false
set_option linter.all false
set_option maxRecDepth 100000
set_option maxHeartbeats 0
namespace S64
open PySem PyProof.Rows
section
variable {prog : Program} {w : World} {A : Around} {E : Value → Shared → Prop} {s : Shared}
structure MT (a b : Array Keyed) (na nb : Nat) (out : Array Keyed) : Prop where
  ik : IK out
  sz : out.size + na + nb = a.size + b.size
  la : na ≤ a.size
  lb : nb ≤ b.size
section
variable {a b out : Array Keyed} {na nb k : Nat} {p : Keyed}
theorem MT.pushA (t : MT a b na nb out) (h : 0 < na) (hp : ∃ k t, p = (Value.int k t, Value.int k t)) : MT a b (na - 1) nb (out.push p) := by
  obtain ⟨x, y, z, u⟩ := t
  refine ⟨x.push hp, ?_, by omega, u⟩
  rw [Array.size_push]; omega
theorem MT.pushB (t : MT a b na nb out) (h : 0 < nb) (hp : ∃ k t, p = (Value.int k t, Value.int k t)) : MT a b na (nb - 1) (out.push p) := by
  obtain ⟨x, y, z, u⟩ := t
  refine ⟨x.push hp, ?_, z, by omega⟩
  rw [Array.size_push]; omega
theorem MT.appA (t : MT a b na nb out) (h : k ≤ na) (ha : IK a) : MT a b k nb (out ++ (a.extract k na).reverse) := by
  obtain ⟨x, y, z, u⟩ := t
  refine ⟨x.app (ha.ext _ _).rev, ?_, by omega, u⟩
  rw [Array.size_append, Array.size_reverse, Array.size_extract, Nat.min_eq_left z]; omega
theorem MT.appB (t : MT a b na nb out) (h : k ≤ nb) (hb : IK b) : MT a b na k (out ++ (b.extract k nb).reverse) := by
  obtain ⟨x, y, z, u⟩ := t
  refine ⟨x.app (hb.ext _ _).rev, ?_, z, by omega⟩
  rw [Array.size_append, Array.size_reverse, Array.size_extract, Nat.min_eq_left u]; omega
theorem MT.done (t : MT a b na nb out) (ha : IK a) (hb : IK b) : Out a b (a.extract 0 na ++ b.extract 0 nb ++ out.reverse) := by
  obtain ⟨x, y, z, u⟩ := t
  refine ⟨((ha.ext _ _).app (hb.ext _ _)).app x.rev, ?_⟩
  rw [Array.size_append, Array.size_append, Array.size_reverse, Array.size_extract, Array.size_extract, Nat.min_eq_left z, Nat.min_eq_left u]; omega
theorem MT.first (t : MT a b na nb out) (ha : IK a) (hb : IK b) : Out a b (b.extract 0 nb ++ a.extract 0 na ++ out.reverse) := by
  obtain ⟨x, y, z, u⟩ := t
  refine ⟨((hb.ext _ _).app (ha.ext _ _)).app x.rev, ?_⟩
  rw [Array.size_append, Array.size_append, Array.size_reverse, Array.size_extract, Array.size_extract, Nat.min_eq_left z, Nat.min_eq_left u]; omega
end
theorem nbe {x y : Nat} (h : ¬ (x == y) = true) : ¬ x = y := fun e => h (beq_iff_eq.mpr e)
theorem wpS_mergeHi {st : SortSt} {a b : Array Keyed} {Q : Array Keyed → SortSt → Prop} (hk : kindOf st = oneType') (ha : IK a) (hb : IK b) (ha0 : 0 < a.size) (hb0 : 0 < b.size)
    (h : ∀ (r : Array Keyed) st', Good st st' → Out a b r → Q r st') : wpS (model prog w) A E s (mergeHi' a b) Q st := by
  unfold mergeHi'
  refine wpS_bind (wpS_lift (wpAny_rule ⟨rfl, ?_⟩))
  refine wpS_bind (wpS_elem (i := a.size - 1) (by omega) ha fun p0 _ hp0 => ?_)
  dsimp only
  have t0 : MT a b (a.size - 1) b.size #[p0] := by
    refine ⟨fun i q e => ?_, ?_, by omega, Nat.le_refl _⟩
    · cases i with
      | zero => simp at e; subst e; exact hp0
      | succ i => simp at e
    · show 1 + (a.size - 1) + b.size = a.size + b.size
      omega
  refine wpS_ite (fun hQ => ?_) (fun hQ => ?_)
  · exact wpS_pure (h _ _ (Good.refl _) (t0.done ha hb))
  have hc := nbe hQ
  refine wpS_ite (fun hQ => ?_) (fun hQ => ?_)
  · exact wpS_pure (h _ _ (Good.refl _) (t0.first ha hb))
  have hc2 := nbe hQ
  refine wpS_bind (wpS_get ?_)
  refine wpS_bind (wpS_mono (wpS_forRange (I := fun x c st' => Good st st' ∧ ∃ na nb out mg, c = (none, na, nb, out, mg) ∧ MT a b na nb out ∧ 0 < na ∧ 1 < nb ∧ x + na + nb < a.size + b.size)
    (Q := fun c st' => Good st st' ∧ ∃ r na nb out mg, c = (some r, na, nb, out, mg) ∧ Out a b r) ?_ ?_ ⟨Good.refl _, _, _, _, _, rfl, t0, by omega, by omega, by omega⟩) ?_)
  · clear hQ hc hc2 t0
    rintro x c st1 _ hx ⟨g1, na, nb, out, mg, rfl, t1, la1, lb1, hm⟩
    refine wpS_bind (wpS_mono (wpS_forRange (I := fun y c st' => Good st st' ∧ ∃ ja jb o p q, c = (none, ja, jb, o, p, q) ∧ MT a b ja jb o ∧ 0 < ja ∧ 1 < jb ∧ y + ja + jb = na + nb)
      (Q := fun c st' => Good st st' ∧ ((∃ r ja jb o p q, c = (some r, ja, jb, o, p, q) ∧ Out a b r) ∨ (∃ ja jb o p q, c = (none, ja, jb, o, p, q) ∧ MT a b ja jb o ∧ 0 < ja ∧ 1 < jb ∧ ja + jb < na + nb))) ?_ ?_ ⟨g1, na, nb, out, _, _, rfl, t1, la1, lb1, by omega⟩) ?_)
    · rintro y c st2 _ hy ⟨g2, ja, jb, o, p, q, rfl, t2, la2, lb2, ho⟩
      refine wpS_bind (wpS_elem (i := jb - 1) (by have := t2.lb; omega) hb fun pb _ hpb => ?_)
      refine wpS_bind (wpS_elem (i := ja - 1) (by have := t2.la; omega) ha fun pa _ hpa => ?_)
      refine wpS_bind (wpS_lt (g2.kind.trans hk) hpb hpa fun bw => ?_)
      dsimp only
      cases bw
      · rw [if_neg Bool.false_ne_true]
        refine wpS_bind (wpS_elem (by have := t2.lb; omega) hb fun pa2 _ hpa2 => ?_)
        have t3 := t2.pushB (by omega) hpa2
        refine wpS_ite (fun hQ => ?_) (fun hQ => ?_)
        · exact wpS_pure ⟨g2, .inl ⟨_, _, _, _, _, _, rfl, t3.first ha hb⟩⟩
        have h1 := nbe hQ
        refine wpS_ite (fun hQ => ?_) (fun hQ => ?_)
        · exact wpS_pure ⟨g2, .inr ⟨_, _, _, _, _, rfl, t3, by omega, by omega, by omega⟩⟩
        · exact wpS_pure ⟨g2, _, _, _, _, _, rfl, t3, by omega, by omega, by omega⟩
      · rw [if_pos rfl]
        refine wpS_bind (wpS_elem (by have := t2.la; omega) ha fun pb2 _ hpb2 => ?_)
        have t3 := t2.pushA (by omega) hpb2
        refine wpS_ite (fun hQ => ?_) (fun hQ => ?_)
        · exact wpS_pure ⟨g2, .inl ⟨_, _, _, _, _, _, rfl, t3.done ha hb⟩⟩
        have h1 := nbe hQ
        refine wpS_ite (fun hQ => ?_) (fun hQ => ?_)
        · exact wpS_pure ⟨g2, .inr ⟨_, _, _, _, _, rfl, t3, by omega, by omega, by omega⟩⟩
        · exact wpS_pure ⟨g2, _, _, _, _, _, rfl, t3, by omega, by omega, by omega⟩
    · rintro c st2 ⟨g2, ja, jb, o, p, q, rfl, t2, la2, lb2, ho⟩
      exact ⟨g2, .inr ⟨_, _, _, _, _, rfl, t2, la2, lb2, by omega⟩⟩
    rintro c st2 ⟨g2, ⟨r, ja, jb, o, p, q, rfl, hr⟩ | ⟨ja, jb, o, p, q, rfl, t2, la2, lb2, ho⟩⟩
    · exact wpS_pure ⟨g2, _, _, _, _, _, rfl, hr⟩
    dsimp only
    refine wpS_bind (wpS_lift (wpAny_rule ⟨rfl, ?_⟩))
    refine wpS_bind (wpS_mono (wpS_forRange (I := fun y c st' => Good st st' ∧ ∃ ja jb o m p q, c = (none, ja, jb, o, m, p, q) ∧ MT a b ja jb o ∧ 0 < ja ∧ 1 < jb ∧ ja + jb < na + nb)
      (Q := fun c st' => Good st st' ∧ ((∃ r ja jb o m p q, c = (some r, ja, jb, o, m, p, q) ∧ Out a b r) ∨ (∃ ja jb o m p q, c = (none, ja, jb, o, m, p, q) ∧ MT a b ja jb o ∧ 0 < ja ∧ 1 < jb ∧ ja + jb < na + nb))) ?_ ?_ ⟨g2, _, _, _, _, _, _, rfl, t2, la2, lb2, ho⟩) ?_)
    · clear hx hm t1 la1 lb1 t2 la2 lb2 ho
      rintro y c st3 _ hy ⟨g3, ja, jb, o, m, p, q, rfl, t1, la1, lb1, ho⟩
      clear hy
      dsimp only
      refine wpS_ite (fun hQ => ?_) (fun hQ => ?_)
      all_goals
        clear hQ
        refine wpS_bind (wpS_setMin g3 fun st4 g4 => ?_)
        refine wpS_bind (wpS_elem (by have := t1.lb; omega) hb fun pb _ hpb => ?_)
        refine wpS_bind (wpS_gallop (g4.kind.trans hk) hpb ha (by have := t1.la; omega) (by omega) fun k hkk => ?_)
        dsimp only
        refine wpS_ite (fun hQ => ?_) (fun hQ => ?_)
        · have t5 := t1.appA hkk ha
          refine wpS_ite (fun hR => ?_) (fun hR => ?_)
          · exact wpS_pure ⟨g4, .inl ⟨_, _, _, _, _, _, _, rfl, t5.done ha hb⟩⟩
          have h1 := nbe hR
          refine wpS_bind (wpS_elem (by have := t5.lb; omega) hb fun pb2 _ hpb2 => ?_)
          have t2 := t5.pushB (by omega) hpb2
          refine wpS_ite (fun hR => ?_) (fun hR => ?_)
          · exact wpS_pure ⟨g4, .inl ⟨_, _, _, _, _, _, _, rfl, t2.first ha hb⟩⟩
          have h3 := nbe hR
          refine wpS_bind (wpS_elem (by have := t5.la; omega) ha fun pa _ hpa => ?_)
          refine wpS_bind (wpS_gallop (g4.kind.trans hk) hpa hb (by have := t5.lb; omega) (by omega) fun k2 hk2 => ?_)
          dsimp only
          refine wpS_ite (fun hR => ?_) (fun hR => ?_)
          · have t3 := t2.appB hk2 hb
            refine wpS_ite (fun hR => ?_) (fun hR => ?_)
            · exact wpS_pure ⟨g4, .inl ⟨_, _, _, _, _, _, _, rfl, t3.first ha hb⟩⟩
            have h4 := nbe hR
            refine wpS_ite (fun hR => ?_) (fun hR => ?_)
            · exact wpS_pure ⟨g4, .inl ⟨_, _, _, _, _, _, _, rfl, t3.done ha hb⟩⟩
            have h6 := nbe hR
            refine wpS_bind (wpS_elem (by have := t3.la; omega) ha fun pa2 _ hpa2 => ?_)
            have t4 := t3.pushA (by omega) hpa2
            refine wpS_ite (fun hR => ?_) (fun hR => ?_)
            · exact wpS_pure ⟨g4, .inl ⟨_, _, _, _, _, _, _, rfl, t4.done ha hb⟩⟩
            have h5 := nbe hR
            refine wpS_ite (fun hR => ?_) (fun hR => ?_)
            · exact wpS_pure ⟨g4, .inr ⟨_, _, _, _, _, _, rfl, t4, by omega, by omega, by omega⟩⟩
            · exact wpS_pure ⟨g4, _, _, _, _, _, _, rfl, t4, by omega, by omega, by omega⟩
          · refine wpS_bind (wpS_elem (by have := t2.la; omega) ha fun pa2 _ hpa2 => ?_)
            have t4 := t2.pushA (by omega) hpa2
            refine wpS_ite (fun hR => ?_) (fun hR => ?_)
            · exact wpS_pure ⟨g4, .inl ⟨_, _, _, _, _, _, _, rfl, t4.done ha hb⟩⟩
            have h5 := nbe hR
            refine wpS_ite (fun hR => ?_) (fun hR => ?_)
            · exact wpS_pure ⟨g4, .inr ⟨_, _, _, _, _, _, rfl, t4, by omega, by omega, by omega⟩⟩
            · exact wpS_pure ⟨g4, _, _, _, _, _, _, rfl, t4, by omega, by omega, by omega⟩
        · refine wpS_bind (wpS_elem (by have := t1.lb; omega) hb fun pb2 _ hpb2 => ?_)
          have t2 := t1.pushB (by omega) hpb2
          refine wpS_ite (fun hR => ?_) (fun hR => ?_)
          · exact wpS_pure ⟨g4, .inl ⟨_, _, _, _, _, _, _, rfl, t2.first ha hb⟩⟩
          have h3 := nbe hR
          refine wpS_bind (wpS_elem (by have := t1.la; omega) ha fun pa _ hpa => ?_)
          refine wpS_bind (wpS_gallop (g4.kind.trans hk) hpa hb (by have := t1.lb; omega) (by omega) fun k2 hk2 => ?_)
          dsimp only
          refine wpS_ite (fun hR => ?_) (fun hR => ?_)
          · have t3 := t2.appB hk2 hb
            refine wpS_ite (fun hR => ?_) (fun hR => ?_)
            · exact wpS_pure ⟨g4, .inl ⟨_, _, _, _, _, _, _, rfl, t3.first ha hb⟩⟩
            have h4 := nbe hR
            refine wpS_ite (fun hR => ?_) (fun hR => ?_)
            · exact wpS_pure ⟨g4, .inl ⟨_, _, _, _, _, _, _, rfl, t3.done ha hb⟩⟩
            have h6 := nbe hR
            refine wpS_bind (wpS_elem (by have := t3.la; omega) ha fun pa2 _ hpa2 => ?_)
            have t4 := t3.pushA (by omega) hpa2
            refine wpS_ite (fun hR => ?_) (fun hR => ?_)
            · exact wpS_pure ⟨g4, .inl ⟨_, _, _, _, _, _, _, rfl, t4.done ha hb⟩⟩
            have h5 := nbe hR
            refine wpS_ite (fun hR => ?_) (fun hR => ?_)
            · exact wpS_pure ⟨g4, .inr ⟨_, _, _, _, _, _, rfl, t4, by omega, by omega, by omega⟩⟩
            · exact wpS_pure ⟨g4, _, _, _, _, _, _, rfl, t4, by omega, by omega, by omega⟩
          · refine wpS_bind (wpS_elem (by have := t2.la; omega) ha fun pa2 _ hpa2 => ?_)
            have t4 := t2.pushA (by omega) hpa2
            refine wpS_ite (fun hR => ?_) (fun hR => ?_)
            · exact wpS_pure ⟨g4, .inl ⟨_, _, _, _, _, _, _, rfl, t4.done ha hb⟩⟩
            have h5 := nbe hR
            refine wpS_ite (fun hR => ?_) (fun hR => ?_)
            · exact wpS_pure ⟨g4, .inr ⟨_, _, _, _, _, _, rfl, t4, by omega, by omega, by omega⟩⟩
            · exact wpS_pure ⟨g4, _, _, _, _, _, _, rfl, t4, by omega, by omega, by omega⟩
    · rintro c st3 ⟨g3, ja, jb, o, m, p, q, rfl, M3⟩
      exact ⟨g3, .inr ⟨_, _, _, _, _, _, rfl, M3⟩⟩
    rintro c st3 ⟨g3, ⟨r, ja, jb, o, m, p, q, rfl, hr⟩ | ⟨ja, jb, o, m, p, q, rfl, t3, la3, lb3, ho3⟩⟩
    · exact wpS_pure ⟨g3, _, _, _, _, _, rfl, hr⟩
    · dsimp only
      exact wpS_bind (wpS_setMin g3 fun st4 g4 => wpS_pure ⟨g4, _, _, _, _, rfl, t3, la3, lb3, by omega⟩)
  · rintro c st1 ⟨g1, na, nb, out, mg, rfl, t1, la1, lb1, hm⟩
    exfalso
    omega
  · rintro c st1 ⟨g1, r, na, nb, out, mg, rfl, hr⟩
    exact wpS_pure (h r st1 g1 hr)
end
end S64

set_option Elab.async false
set_option linter.all false
set_option maxRecDepth 100000
set_option maxHeartbeats 0
namespace S64
open PySem PyProof.Rows
section
variable {prog : Program} {w : World} {A : Around} {E : Value → Shared → Prop} {s : Shared}
theorem wpS_set {σ : Type} {M : Model} {Q : PUnit → σ → Prop} {st st' : σ} (h : Q ⟨⟩ st') : wpS M A E s (set st' : StateT σ Sem PUnit) Q st := by
  unfold wpS; rw [StateT.run_set]; exact wpAny_pure ⟨rfl, h⟩
theorem fold_set : ∀ (l : List (Keyed × Nat)) (sa : Nat) (a : Array Keyed), IK a → (∀ p ∈ l, ∃ k t, p.1 = (Value.int k t, Value.int k t)) →
    IK (l.foldl (fun a (p : Keyed × Nat) => a.setIfInBounds (sa + p.2) p.1) a) ∧ (l.foldl (fun a (p : Keyed × Nat) => a.setIfInBounds (sa + p.2) p.1) a).size = a.size
  | [], _, a, h, _ => ⟨h, rfl⟩
  | p :: l, sa, a, h, hl => by
    have := fold_set l sa (a.setIfInBounds (sa + p.2) p.1) (fun i q e => by
      rw [Array.getElem?_setIfInBounds] at e
      split at e
      · split at e
        · cases e; exact hl p (by simp)
        · cases e
      · exact h i q e) (fun q hq => hl q (by simp [hq]))
    refine ⟨this.1, ?_⟩
    show (l.foldl _ (a.setIfInBounds (sa + p.2) p.1)).size = _
    rw [this.2, Array.size_setIfInBounds]
theorem wpS_mergeAt {N : Nat} {st : SortSt} {n1 n2 p1 p2 : Nat} {Q : Bool → SortSt → Prop} (hA : AI N st) (hp : pendingOf st = #[(0, n1, p1), (n1, n2, p2)]) (h1 : 0 < n1) (h2 : 0 < n2) (hN : n1 + n2 = N)
    (h : ∀ st', AI N st' → (pendingOf st').size ≤ 1 → Q true st') : wpS (model prog w) A E s (mergeAt' 0) Q st := by
  unfold mergeAt'
  refine wpS_bind (wpS_get ?_)
  have e0 : (pendingOf st)[0]? = some (0, n1, p1) := by rw [hp]; rfl
  have e1 : (pendingOf st)[0 + 1]? = some (n1, n2, p2) := by rw [hp]; rfl
  rw [e0, e1]
  dsimp only
  refine wpS_bind (wpS_set ?_)
  have hA1 : AI N (SortSt.mk' (kindOf st) (arrOf st) (((pendingOf st).setIfInBounds 0 (0, n1 + n2, p1)).eraseIdxIfInBounds (0 + 1)) (gallopOf st) (failedOf st)) := ⟨hA.kind, hA.size, hA.ik, hA.ok⟩
  have hP1 : (pendingOf (SortSt.mk' (kindOf st) (arrOf st) (((pendingOf st).setIfInBounds 0 (0, n1 + n2, p1)).eraseIdxIfInBounds (0 + 1)) (gallopOf st) (failedOf st))).size ≤ 1 := by
    show (((pendingOf st).setIfInBounds 0 (0, n1 + n2, p1)).eraseIdxIfInBounds (0 + 1)).size ≤ 1
    rw [hp]
    simp [Array.setIfInBounds, Array.eraseIdxIfInBounds]
  have hsz := hA.size
  refine wpS_bind (wpS_elem (a := arrOf st) (by omega) hA.ik fun pb _ hpb => ?_)
  refine wpS_bind (wpS_gallop (a := arrOf st) hA.kind hpb hA.ik (by omega) h1 fun k hk => ?_)
  dsimp only
  refine wpS_ite (fun hQ => wpS_pure (h _ hA1 hP1)) (fun hQ => ?_)
  have hk0 := hQ
  simp only [beq_iff_eq] at hk0
  refine wpS_bind (wpS_elem (a := arrOf st) (by omega) hA.ik fun pa _ hpa => ?_)
  refine wpS_bind (wpS_gallop (a := arrOf st) hA.kind hpa hA.ik (by omega) (by omega) fun k2 hk2 => ?_)
  dsimp only
  refine wpS_ite (fun hR => wpS_pure (h _ hA1 hP1)) (fun hR => ?_)
  have hk3 := hR
  simp only [beq_iff_eq] at hk3
  have fin : ∀ (r : Array Keyed) st', Good (SortSt.mk' (kindOf st) (arrOf st) (((pendingOf st).setIfInBounds 0 (0, n1 + n2, p1)).eraseIdxIfInBounds (0 + 1)) (gallopOf st) (failedOf st)) st' → IK r →
      AI N (setArr st' (r.toList.zipIdx.foldl (fun a (p : Keyed × Nat) => a.setIfInBounds (0 + k + p.2) p.1) (arrOf st'))) ∧ (pendingOf st').size ≤ 1 ∧ failedOf st' = none := by
    intro r st' g hr
    have f := fold_set r.toList.zipIdx (0 + k) (arrOf st') (by rw [g.arr]; exact hA.ik) (fun p hp' => by
      obtain ⟨i, hi⟩ := List.mem_iff_getElem?.mp hp'
      rw [List.getElem?_zipIdx] at hi
      obtain ⟨q, hq, rfl⟩ := Option.map_eq_some_iff.mp hi
      exact hr i q (by rw [← Array.getElem?_toList]; exact hq))
    refine ⟨⟨g.kind.trans hA.kind, ?_, f.1, g.fail.trans hA.ok⟩, ?_, g.fail.trans hA.ok⟩
    · show (r.toList.zipIdx.foldl _ (arrOf st')).size = N
      rw [f.2, g.arr]; exact hA.size
    · rw [g.pend]; exact hP1
  have hxs : ((arrOf st).extract (0 + k) n1).size = n1 - k := by rw [Array.size_extract]; omega
  have hys : ((arrOf st).extract n1 (n1 + k2)).size = k2 := by rw [Array.size_extract]; omega
  refine wpS_ite (fun _ => ?_) (fun _ => ?_)
  · refine wpS_bind (wpS_mergeLo (a := (arrOf st).extract (0 + k) n1) (b := (arrOf st).extract n1 (n1 + k2)) hA.kind (hA.ik.ext _ _) (hA.ik.ext _ _) (by omega) (by omega) fun r st' g hr => ?_)
    obtain ⟨f1, f2, f3⟩ := fin r st' g hr.1
    refine wpS_bind (wpS_modify (wpS_bind (wpS_get ?_)))
    have e : (failedOf st').isNone = true := by rw [f3]; rfl
    exact e ▸ wpS_pure (h _ f1 f2)
  · refine wpS_bind (wpS_mergeHi (a := (arrOf st).extract (0 + k) n1) (b := (arrOf st).extract n1 (n1 + k2)) hA.kind (hA.ik.ext _ _) (hA.ik.ext _ _) (by omega) (by omega) fun r st' g hr => ?_)
    obtain ⟨f1, f2, f3⟩ := fin r st' g hr.1
    refine wpS_bind (wpS_modify (wpS_bind (wpS_get ?_)))
    have e : (failedOf st').isNone = true := by rw [f3]; rfl
    exact e ▸ wpS_pure (h _ f1 f2)
/-! the runs of sixty-four -/
theorem wpS_runs64 {st : SortSt} {Q : Unit → SortSt → Prop} (hA : AI 64 st) (hp : pendingOf st = #[]) (h : ∀ st', AI 64 st' → Q () st') : wpS (model prog w) A E s sortRuns' Q st := by
  rw [sortRuns'_eq]
  refine wpS_bind (wpS_get ?_)
  dsimp only
  have hmr : minRun' 64 64 0 = 32 := rfl
  simp only [hA.size, hmr]
  refine wpS_bind (wpS_mono (wpS_forRange
    (I := fun x c st' => AI 64 st' ∧ ((x = 0 ∧ c = (none, 0) ∧ pendingOf st' = #[]) ∨ (x = 1 ∧ ∃ n, c = (none, n) ∧ 32 ≤ n ∧ n ≤ 64 ∧ pendingOf st' = #[(0, n, 0)]) ∨ (2 ≤ x ∧ c = (none, 64) ∧ ∃ n p, 0 < n ∧ n < 64 ∧ pendingOf st' = #[(0, n, p), (n, 64 - n, 0)])))
    (Q := fun c st' => AI 64 st' ∧ c = (none, 64) ∧ (pendingOf st' = #[(0, 64, 0)] ∨ ∃ n p, 0 < n ∧ n < 64 ∧ pendingOf st' = #[(0, n, p), (n, 64 - n, 0)])) ?_ ?_ ⟨hA, .inl ⟨rfl, rfl, hp⟩⟩) ?_)
  · rintro x c st1 _ hx ⟨hA1, ⟨rfl, rfl, hp1⟩ | ⟨rfl, n, rfl, hn1, hn2, hp1⟩ | ⟨hx2, rfl, n, p, hn1, hn2, hp1⟩⟩
    · dsimp only
      rw [if_neg (by omega)]
      refine wpS_bind (wpS_count hA1 (by omega) (by omega) fun m st2 hA2 hp2 hm1 hm2 => ?_)
      dsimp only
      have hb : ∀ st3, pendingOf st3 = pendingOf st1 → (pendingOf st3).back? = none := fun st3 e => by rw [e, hp1]; rfl
      refine wpS_ite (fun hlt => ?_) (fun hlt => ?_)
      · refine wpS_bind (wpS_lift (wpAny_rule ⟨rfl, ?_⟩))
        refine wpS_bind (wpS_bins hA2 (by omega) fun st3 hA3 hp3 => ?_)
        simp only [Bool.not_true, Bool.false_eq_true, if_false]
        refine wpS_bind (wpS_get ?_)
        rw [hb st3 (hp3.trans hp2)]
        dsimp only
        refine wpS_bind (wpS_modify (wpS_pure ⟨⟨hA3.kind, hA3.size, hA3.ik, hA3.ok⟩, .inr (.inl ⟨by first | rfl | trivial, 0 + min (64 - 0) 32, rfl, by decide, by decide, ?_⟩)⟩))
        show (pendingOf st3).push _ = _
        rw [hp3, hp2, hp1]
        rfl
      · refine wpS_bind (wpS_get ?_)
        rw [hb st2 hp2]
        dsimp only
        refine wpS_bind (wpS_modify (wpS_pure ⟨⟨hA2.kind, hA2.size, hA2.ik, hA2.ok⟩, .inr (.inl ⟨by omega, _, rfl, by omega, by omega, ?_⟩)⟩))
        show (pendingOf st2).push _ = _
        rw [hp2, hp1, Nat.zero_add]
        rfl
    · dsimp only
      refine wpS_ite (fun hge => ?_) (fun hge => ?_)
      · have : n = 64 := by omega
        subst this
        exact wpS_pure ⟨hA1, rfl, .inl hp1⟩
      refine wpS_bind (wpS_count hA1 (by omega) (by omega) fun m st2 hA2 hp2 hm1 hm2 => ?_)
      dsimp only
      refine wpS_ite (fun hlt => ?_) (fun hlt => ?_)
      · refine wpS_bind (wpS_lift (wpAny_rule ⟨rfl, ?_⟩))
        refine wpS_bind (wpS_bins hA2 (by omega) fun st3 hA3 hp3 => ?_)
        simp only [Bool.not_true, Bool.false_eq_true, if_false]
        have hp4 : pendingOf st3 = #[(0, n, 0)] := hp3.trans (hp2.trans hp1)
        refine wpS_bind (wpS_get ?_)
        have hbk : (pendingOf st3).back? = some (0, n, 0) := by rw [hp4]; rfl
        have hsz1 : ¬ (pendingOf st3).size > 1 := by rw [hp4]; exact Nat.lt_irrefl 1
        rw [hbk]
        dsimp only
        refine wpS_bind (wpS_mono (wpS_forRange (I := fun y c st' => c = (none, ()) ∧ st3 = st') (Q := fun c st' => c = (none, ()) ∧ st3 = st') ?_ (fun _ _ h => h) ⟨rfl, rfl⟩) ?_)
        · rintro y c st4 _ hy ⟨rfl, rfl⟩
          refine wpS_bind (wpS_get ?_)
          rw [if_neg hsz1]
          exact wpS_pure ⟨rfl, rfl⟩
        · rintro c st4 ⟨rfl, rfl⟩
          dsimp only
          refine wpS_bind (wpS_modify (wpS_bind (wpS_modify (wpS_pure ⟨⟨hA3.kind, hA3.size, hA3.ik, hA3.ok⟩, .inr (.inr ⟨by omega, ?_, n, power' 64 (2 * 0 + n) (2 * 0 + n + n + min (64 - n) 32) 64, by omega, by omega, ?_⟩)⟩))))
          · congr 1; omega
          · show ((pendingOf st3).modify ((pendingOf st3).size - 1) _).push _ = _
            rw [hp4]
            have e : min (64 - n) 32 = 64 - n := by omega
            rw [e]
            rfl
      · have hp4 : pendingOf st2 = #[(0, n, 0)] := hp2.trans hp1
        refine wpS_bind (wpS_get ?_)
        have hbk : (pendingOf st2).back? = some (0, n, 0) := by rw [hp4]; rfl
        have hsz1 : ¬ (pendingOf st2).size > 1 := by rw [hp4]; exact Nat.lt_irrefl 1
        rw [hbk]
        dsimp only
        refine wpS_bind (wpS_mono (wpS_forRange (I := fun y c st' => c = (none, ()) ∧ st2 = st') (Q := fun c st' => c = (none, ()) ∧ st2 = st') ?_ (fun _ _ h => h) ⟨rfl, rfl⟩) ?_)
        · rintro y c st4 _ hy ⟨rfl, rfl⟩
          refine wpS_bind (wpS_get ?_)
          rw [if_neg hsz1]
          exact wpS_pure ⟨rfl, rfl⟩
        · rintro c st4 ⟨rfl, rfl⟩
          dsimp only
          refine wpS_bind (wpS_modify (wpS_bind (wpS_modify (wpS_pure ⟨⟨hA2.kind, hA2.size, hA2.ik, hA2.ok⟩, .inr (.inr ⟨by omega, ?_, n, power' 64 (2 * 0 + n) (2 * 0 + n + n + m) 64, by omega, by omega, ?_⟩)⟩))))
          · congr 1; omega
          · show ((pendingOf st2).modify ((pendingOf st2).size - 1) _).push _ = _
            rw [hp4]
            have e : m = 64 - n := by omega
            rw [e]
            rfl
    · dsimp only
      rw [if_pos (Nat.le_refl _)]
      exact wpS_pure ⟨hA1, rfl, .inr ⟨n, p, hn1, hn2, hp1⟩⟩
  · rintro c st1 ⟨hA1, ⟨hx, _⟩ | ⟨hx, n, rfl, hn1, hn2, hp1⟩ | ⟨hx2, rfl, n, p, hn1, hn2, hp1⟩⟩
    · omega
    · omega
    · exact ⟨hA1, rfl, .inr ⟨n, p, hn1, hn2, hp1⟩⟩
  · rintro c st1 ⟨hA1, rfl, hp1⟩
    dsimp only
    refine wpS_bind (wpS_mono (wpS_forRange (I := fun y c st' => AI 64 st' ∧ c = (none, ()) ∧ ((pendingOf st').size ≤ 1 ∨ ∃ n p, 0 < n ∧ n < 64 ∧ pendingOf st' = #[(0, n, p), (n, 64 - n, 0)])) (Q := fun c st' => AI 64 st' ∧ c = (none, ())) ?_ (fun _ _ h => ⟨h.1, h.2.1⟩) ⟨hA1, rfl, ?_⟩) ?_)
    · rintro y c st2 _ hy ⟨hA2, rfl, hp2⟩
      refine wpS_bind (wpS_get ?_)
      refine wpS_ite (fun hle => wpS_pure ⟨hA2, rfl⟩) (fun hgt => ?_)
      obtain ⟨n, p, hn1, hn2, hp3⟩ := hp2.resolve_left hgt
      have e : (pendingOf st2).size - 2 = 0 := by rw [hp3]; rfl
      simp only [e, gt_iff_lt, Nat.lt_irrefl, if_false, Option.any_none, Bool.false_eq_true]
      refine wpS_bind (wpS_mergeAt hA2 hp3 hn1 (by omega) (by omega) fun st3 hA3 hp4 => ?_)
      exact wpS_pure ⟨hA3, rfl, .inl hp4⟩
    · rcases hp1 with hp1 | hp1
      · left; rw [hp1]; exact Nat.le_refl 1
      · exact .inr hp1
    · rintro c st2 ⟨hA2, rfl⟩
      exact wpS_pure (h st2 hA2)
end
end S64

set_option Elab.async false
set_option linter.all false
set_option maxRecDepth 100000
set_option maxHeartbeats 0
namespace S64
open PySem PyProof.Rows
section
variable {prog : Program} {w : World} {A : Around} {E : Value → Shared → Prop} {s : Shared}
theorem ints_out {xs : Array Keyed} (hx : IK xs) : IntsAre (xs.map (·.2)).toList ((xs.map (·.2)).toList.map numOf) := by
  refine intsAre_map _ fun v hv => ?_
  rw [Array.toList_map, List.mem_map] at hv
  obtain ⟨p, hp, rfl⟩ := hv
  obtain ⟨i, hi⟩ := List.mem_iff_getElem?.mp hp
  obtain ⟨k, t, rfl⟩ := hx i p (by rw [← Array.getElem?_toList]; exact hi)
  exact ⟨k, t, rfl⟩
theorem start64 {us : List Value} {ns : List Int} (hI : IntsAre us ns) (hl : us.length = 64) : AI 64 (SortSt.mk' oneType' (us.toArray.zip us.toArray) #[] 7 none) := by
  refine ⟨rfl, (pairsOf_size us).trans hl, fun i p e => ?_, rfl⟩
  have hm : p ∈ us.zip us := by
    rw [← pairsOf_toList]
    exact List.mem_iff_getElem?.mpr ⟨i, by rw [Array.getElem?_toList]; exact e⟩
  obtain ⟨h1, h2⟩ := mem_zip_self hm
  obtain ⟨k, t, hk⟩ := hI.all _ h2
  exact ⟨k, t, Prod.ext hk (h1.symm.trans hk)⟩
theorem sort_tree64 {d : Addr} {us : List Value} {ns : List Int} {c : Nat} {R : Fin → Shared → Prop} (hd : s.heap.get? d = some (seqObj "list" us.toArray c)) (hI : IntsAre us ns) (hl : us.length = 64)
    (k : ∀ (o : Array Value) (ms : List Int), IntsAre o.toList ms → ms.length = 64 → R (.done (.ret .none)) { s with heap := sortedHeap s.heap d us o }) : wpAny (model prog w) A (Builtin.«list.sort» ⟨[.ref d], []⟩) R E s := by
  rw [list_sort_plain]
  have hlt := Heap.lt_size hd
  refine wpAny_bind (listItems_at hd rfl (wpAny_bind (listUpdate_at hd rfl ?_)))
  obtain ⟨c1, hd1⟩ : ∃ c1, (s.heap.update d (Obj.mapSeq fun _ => #[])).get? d = some (seqObj "list" #[] c1) := ⟨_, get?_update_seq hd _⟩
  refine wpAny_bind (seqEpoch_at hd1 rfl (wpAny_bind (wpAny_newTuple (wpAny_bind (wpAny_newList (wpAny_holding ?_))))))
  have hd2 : (((s.heap.update d (Obj.mapSeq fun _ => #[])).push (seqObj "tuple" us.toArray 0)).push (seqObj "list" #[] 0)).get? d = some (seqObj "list" #[] c1) := by
    have n2 : d ≠ (s.heap.update d (Obj.mapSeq fun _ => #[])).objs.size := by rw [Heap.size_update]; exact Nat.ne_of_lt hlt
    have n1 : d ≠ ((s.heap.update d (Obj.mapSeq fun _ => #[])).push (seqObj "tuple" us.toArray 0)).objs.size := by rw [size_push', Heap.size_update]; exact Nat.ne_of_lt (Nat.lt_succ_of_lt hlt)
    rw [Heap.get?_push_ne _ _ _ n1, Heap.get?_push_ne _ _ _ n2]; exact hd1
  show wpAny (model prog w) A _ R E { s with heap := ((s.heap.update d (Obj.mapSeq fun _ => #[])).push (seqObj "tuple" us.toArray 0)).push (seqObj "list" #[] 0) }
  dsimp only
  have nz : ¬ us.toArray.size < 2 := by rw [List.size_toArray, hl]; decide
  rw [if_neg nz, if_neg nz]
  have kk : keyKind' us.toArray = pure oneType' := by
    match us, hI, hl with
    | [], _, hl => cases hl
    | [_], _, hl => cases hl
    | _ :: _ :: _, hI, _ => exact keyKind_ints hI
  rw [kk]
  refine wpAny_bind (wpAny_pure (wpAny_bind (wpAny_mono (wpS_runs64 (st := SortSt.mk' oneType' (us.toArray.zip us.toArray) #[] 7 none) (Q := fun _ st' => AI 64 st') (start64 hI hl) rfl fun st' z => z) ?_ fun _ _ e => e)))
  rintro ⟨⟨⟩, st'⟩ s' ⟨rfl, hA⟩
  dsimp only
  have hz : ((arrOf st').map (·.2)).size = 64 := by rw [Array.size_map]; exact hA.size
  refine wpAny_bind (seqEpoch_at hd2 rfl (wpAny_bind (listUpdate_at hd2 rfl ?_ (hsz2 := by rw [hz, sizeLine_eq]; decide))))
  have hf : failedOf st' = none := hA.ok
  rw [hf]
  simp only [bne_self_eq_false, Bool.false_eq_true, if_false]
  refine wpAny_pure (k _ _ (ints_out hA.ik) ?_)
  rw [List.length_map, Array.length_toList]; exact hz
theorem sorted64 {l : Addr} {us : List Value} {ns : List Int} {R : Value → Shared → Prop} (hl : s.heap.IsList l us.toArray) (hI : IntsAre us ns) (h64 : us.length = 64)
    (k : ∀ (o : Array Value) (ms : List Int), IntsAre o.toList ms → ms.length = 64 → R (.ref (s.heap.objs.size + 1)) { s with heap := sortedAll s.heap us o }) : wpAny (model prog w) A (call (.builtin "sorted") [.ref l]) R E s := by
  refine Calls.call_function_entry kind_sorted plain_sorted entry_sorted (args_sorted1 _) ?_
  unfold Builtin.«sorted»
  refine wpAny_bind (m := checkCount "sorted" 1 1 _) (wpAny_pure (wpAny_bind (collect_list hl (wpAny_bind (wpAny_newList ?_)) (by rw [h64, sizeLine_eq]; decide))))
  have z1 : ((s.heap.push (seqObj "list" #[] 0)).update s.heap.objs.size (Obj.mapSeq (· ++ us.toArray))).objs.size = s.heap.objs.size + 1 := (Heap.size_update ..).trans (size_push' ..)
  have z2 : (((s.heap.push (seqObj "list" #[] 0)).update s.heap.objs.size (Obj.mapSeq (· ++ us.toArray))).push (seqObj "list" us.toArray 0)).get? (s.heap.objs.size + 1) = some (seqObj "list" us.toArray 0) := z1 ▸ Heap.get?_push_size _ rfl
  show wpAny _ _ _ _ _ { s with heap := ((s.heap.push (seqObj "list" #[] 0)).update s.heap.objs.size (Obj.mapSeq (· ++ us.toArray))).push (seqObj "list" us.toArray 0) }
  rw [z1]
  refine wpAny_bind (wpAny_holding (wpAny_call_entry slot_list_sort ⟨_, z2, rfl⟩ entry_list_sort (sort_tree64 z2 hI h64 fun o ms a1 a2 => ⟨_, rfl, wpAny_pure ⟨_, rfl, k o ms a1 a2⟩⟩) (args_list_sort _)))
end
end S64

namespace L2
open PySem PySem.Spec PyProof.Rows
section
variable {X : Cx}
/-! ### sorted of at most sixty-four ints; of sixty-four only their count is said -/
def rSortedW (K : PySem.W.Frag) : List V → Hp → VK → Prop := fun xs H Q => ∃ (p : Addr) (ns : List Int), xs = [.ref p] ∧ SqL K H p (ns.map V.int) ∧ ns.length ≤ 64 ∧ ∀ (l : Addr) (ns' : List Int), H l = none → ns'.length = ns.length → (ns.length < 64 → ns'.Perm ns ∧ ns'.Pairwise (· ≤ ·)) → Q (.ref l) (upd H l (.lst (ns'.map V.int)))
theorem call_sortedW : CallR X (.builtin "sorted") (rSortedW X.K) := by
  intro pins s σ H xs us Q I r h
  obtain ⟨p, ns, rfl, hq, h64, q⟩ := h
  obtain ⟨u, rfl, ru⟩ := vals1 r
  cases ru
  obtain ⟨vs, rv, pl, hz⟩ := I.list hq
  have hi := intsAre_of rv
  have hl1 : vs.length = ns.length := by rw [hi.length]
  have hn : H (s.heap.objs.size + 1) = none := I.hok.fresh (Nat.le_succ _)
  have fin : ∀ (out : Array Value) (ns' : List Int), IntsAre out.toList ns' → ns'.length = ns.length → (ns.length < 64 → ns'.Perm ns ∧ ns'.Pairwise (· ≤ ·)) → EP X pins σ Q (.ref (s.heap.objs.size + 1)) { s with heap := sortedAll s.heap vs out } := by
    intro out ns' a1 a2 a3
    obtain ⟨e, he⟩ := sortedAll_at s.heap vs out
    refine ⟨.ref (s.heap.objs.size + 1), _, I.laid (t' := s.toks) (o := .lst (ns'.map V.int)) (fun b o q => sortedAll_old q) (Nat.le_succ _) ?_, rfl, q _ ns' hn a2 a3⟩
    refine ⟨?_, out.toList, e, vals_of_ints a1, by simpa using he⟩
    rw [List.length_map] at hz ⊢
    omega
  by_cases hc : ns.length < 64
  · exact sorted_ints pl.isList hi (by omega) fun out ns' a1 a2 a3 => fin out ns' a1 a2.length_eq fun _ => ⟨a2, a3⟩
  · exact S64.sorted64 pl.isList hi (by omega) fun out ns' a1 a2 => fin out ns' a1 (by omega) fun h => absurd h hc
end
end L2
namespace L2
open PySem PySem.Spec PyProof.Rows
section
variable {X : Cx}
/-! ### xs.insert(i, y), i from 0 to the length -/
def rInsert : V → List V → Hp → VK → Prop := fun x vs H Q => ∃ (l : Addr) (xs : List V) (i : Int) (k : Nat) (y : V), x = .ref l ∧ vs = [.int i, y] ∧ i = k ∧ H l = some (.lst xs) ∧ k ≤ xs.length ∧ xs.length < 1000 ∧ Q .non (upd H l (.lst (xs.take k ++ y :: xs.drop k)))
theorem ins_at (its : List Value) (u : Value) (i : Int) (k : Nat) (hi : i = k) (hk : k ≤ its.length) :
    (its.toArray.extract 0 (if i < 0 then (i + ((its.toArray.size : Nat) : Int)).toNat else min i.toNat its.toArray.size)).push u ++ its.toArray.extract (if i < 0 then (i + ((its.toArray.size : Nat) : Int)).toNat else min i.toNat its.toArray.size) = (its.take k ++ u :: its.drop k).toArray := by
  have ek : (if i < 0 then (i + ((its.toArray.size : Nat) : Int)).toNat else min i.toNat its.toArray.size) = k := by
    rw [if_neg (by omega), List.size_toArray]; omega
  rw [ek]
  exact PySem.W.kl_ins_eq its k u
theorem fits_small (i : Int) (k : Nat) (hi : i = k) (hk : k < 1000) : ¬(!Builtin.List.listFitsIndex i) = true := by
  have h1 : -(2 ^ 63) ≤ i := by omega
  have h2 : i < 2 ^ 63 := by omega
  have := fitsIndex_both h1 h2
  simpa using this
theorem mt_insert : MtM X "list.insert" rInsert := by
  intro pins s σ H x vs v us Q I rx rv h
  obtain ⟨l, xs, i, k, y, rfl, rfl, hi, hH, hk, hz, q⟩ := h
  cases rx
  obtain ⟨u1, u2, rfl, ru1, ru2⟩ := vals2 rv
  obtain ⟨t, rfl⟩ := (show ∃ t, u1 = Value.int i t from ru1)
  obtain ⟨z, its, n, r, hl, e⟩ := I.lstM hH
  have hzl : its.length < 1000 := by rw [← hl]; exact hz
  have hkl : k ≤ its.length := by rw [← hl]; exact hk
  have hs : its.toArray.size ≤ sizeLine := by rw [List.size_toArray, sizeLine_eq]; omega
  refine call_meets PySem.F.slot_list_insert ⟨_, e, rfl⟩ PySem.F.entry_list_insert (PySem.F.args_list_insert_3 _ _ _) (PySem.AutoSeq1.list_insert_list_int_val_1 l its.toArray n i t u2 (fits_small i k hi (by omega)) hs) ⟨e, ?_⟩
  refine ⟨.non, _, I.lset (its' := its.take k ++ u2 :: its.drop k) hH e (ins_at its u2 i k hi hkl) ((r.take k).append (.cons ru2 (r.drop k))) ?_, rfl, q⟩
  rw [List.length_append, List.length_cons, List.length_take, List.length_drop, sizeLine_eq]; omega
/-! ### a, b, c = x, y, z with plain local names -/
def tPar3 (i j k : Nat) (ta : TA) : TS := fun D σ H => ta σ H fun vs H1 => ∃ v w z, vs = [v, w, z] ∧ D.nx (((σ.set i (some v)).set j (some w)).set k (some z)) H1
theorem ps_par3 {pos : Pos} {i j k : Nat} {x y z : Str} {a b c : Expr} {ta : TA} {px py pz pt : Pos} {kt k2 pt2} (hc : X.calm = true) (hN : X.N.Nodup) (hi : X.N[i]? = some x) (hj : X.N[j]? = some y) (hk : X.N[k]? = some z) (hij : i ≠ j) (hik : i ≠ k) (hjk : j ≠ k)
    (hx : X.env.scope.names.lookup x = some .local) (hy : X.env.scope.names.lookup y = some .local) (hz : X.env.scope.names.lookup z = some .local) (ha : PA X [a, b, c] ta)
    (hw : swappedStores [.Tuple [.Name x px, .Name y py, .Name z pz] kt pt] (.Tuple [a, b, c] k2 pt2) X.env = pure (some [x, y, z]))
    (hs : swapsWithSole [.Tuple [.Name x px, .Name y py, .Name z pz] kt pt] (.Tuple [a, b, c] k2 pt2) pos.line X.env = pure false := by rfl) :
    PS X (.Assign [.Tuple [.Name x px, .Name y py, .Name z pz] kt pt] (.Tuple [a, b, c] k2 pt2) pos) (tPar3 i j k ta) := by
  intro pins s σ H D I h
  rw [exec_Assign_arm]
  refine wpAny_bind (wpAny_standAt ?_)
  rw [hs]
  refine wpAny_bind (wpAny_pure ?_)
  rw [if_neg (by decide)]
  refine wpAny_bind (Tuple_ (thn (ha _ pins s σ H _ I h) fun us s1 ⟨vs, H1, I1, r1, q1⟩ => ?_))
  obtain ⟨v, w, o, e1, q1⟩ := q1
  subst e1
  obtain ⟨u1, u2, u3, rfl, rv, rw', ro⟩ : ∃ u1 u2 u3, us = [u1, u2, u3] ∧ RelV v u1 ∧ RelV w u2 ∧ RelV o u3 := by
    cases r1 with
    | cons p q =>
      cases q with
      | cons p' q' =>
        cases q' with
        | cons p'' q'' =>
          cases q''
          exact ⟨_, _, _, rfl, p, p', p''⟩
  refine wpAny_newObj_type ?_ (by show 3 ≤ sizeLine; decide)
  have I2 : Inv X pins σ H1 { s1 with heap := s1.heap.push { cls := .type "tuple", data := .seq [u1, u2, u3].toArray } } := I1.kept (t' := s1.toks) fun b o e => Heap.get?_push_of_some _ e
  rw [hw]
  refine wpAny_bind (wpAny_pure ?_)
  show wpAny (model X.prog X.w) X.A (do rule "assign.swapped-stores"; let items ← unpackItems (.ref s1.heap.objs.size) 3 none; assignInOrder [fun v => bindName X.env z v, fun v => bindName X.env y v, fun v => bindName X.env x v] items.reverse; pure Flow.next) _ _ _
  refine wpAny_bind (wpAny_rule (wpAny_bind (unpackItems_tuple (items := #[u1, u2, u3]) (I.ok.hd hc) (IsTup.new s1.heap _) fun h' hx' => ?_)))
  have I3 := I2.kept (h' := h') (t' := s1.toks) fun b o e => hx' b o (Nat.ne_of_lt (Heap.lt_size e)) e
  show wpAny _ _ (assignInOrder [fun v => bindName X.env z v, fun v => bindName X.env y v, fun v => bindName X.env x v] [u3, u2, u1] >>= fun _ => pure Flow.next) _ _ _
  refine wpAny_bind (assignInOrder_cons (wpAny_bindName (store_ok I3 hN hk (.inl hz) ro (fun s2 I4 => ?_) (.inr hz))))
  refine assignInOrder_cons (wpAny_bindName (store_ok I4 hN hj (.inl hy) rw' (fun s3 I5 => ?_) (.inr hy)))
  refine assignInOrder_cons (wpAny_bindName (store_ok I5 hN hi (.inl hx) rv (fun s4 I6 => assignInOrder_nil (wpAny_pure ?_)) (.inr hx)))
  rw [List.set_comm _ _ (Ne.symm hij), List.set_comm _ _ (Ne.symm hik), List.set_comm _ _ (Ne.symm hjk)] at I6
  exact ⟨_, H1, I6, q1⟩
end
end L2

set_option Elab.async false
set_option linter.all false
set_option maxRecDepth 100000
namespace OS
open PySem PySem.Spec PyProof.Rows L2
/-! what the built-in names mean, where the text gives them no other meaning -/
theorem b_len : bootBuiltins "len" = some (.builtin "len") := by decide +kernel
theorem b_isinstance : bootBuiltins "isinstance" = some (.builtin "isinstance") := by decide +kernel
theorem b_sum : bootBuiltins "sum" = some (.builtin "sum") := by decide +kernel
theorem b_min : bootBuiltins "min" = some (.builtin "min") := by decide +kernel
theorem b_max : bootBuiltins "max" = some (.builtin "max") := by decide +kernel
theorem b_all : bootBuiltins "all" = some (.builtin "all") := by decide +kernel
theorem b_any : bootBuiltins "any" = some (.builtin "any") := by decide +kernel
theorem b_sorted : bootBuiltins "sorted" = some (.builtin "sorted") := by decide +kernel
theorem b_int : bootBuiltins "int" = some (.type "int") := by decide +kernel
theorem b_bool : bootBuiltins "bool" = some (.type "bool") := by decide +kernel
theorem b_list : bootBuiltins "list" = some (.type "list") := by decide +kernel
structure Nm (mg : Str → Option Value) : Prop where
  n_len : mg "len" = none
  n_isinstance : mg "isinstance" = none
  n_sum : mg "sum" = none
  n_min : mg "min" = none
  n_max : mg "max" = none
  n_all : mg "all" = none
  n_any : mg "any" = none
  n_sorted : mg "sorted" = none
  n_int : mg "int" = none
  n_bool : mg "bool" = none
  n_list : mg "list" = none
  n_range : mg "range" = none
  n_enumerate : mg "enumerate" = none
  n_zip : mg "zip" = none
/-- a def of the text, as a callee -/
structure Fx (K : PySem.W.Frag) (mg : Str → Option Value) (x : Str) (ps : List Str) (st : Stmt) (f : Addr) (fd : FuncData) : Prop where
  F : Fun K x x st f fd
  m : mg x = some (.ref f)
  b : Binds K fd ps []
theorem se_const {c : Const} {j : Nat} {pos : Pos} {es : List Expr} {env : Env} : starEach (.Constant c j pos :: es) env = (false, eval (.Constant c j pos) env) :: starEach es env := rfl
theorem pss_of {X : Cx} {b l : List Stmt} {t : TS} (e : b = l) (h : PSs X l t) : PSs X b t := by subst e; exact h
theorem ps_of {X : Cx} {a b : Stmt} {t : TS} (e : a = b) (h : PS X b t) : PS X a t := by subst e; exact h
/-- a list of written ints -/
inductive IsConsts : List Expr → List Int → Prop where
  | nil : IsConsts [] []
  | cons {i : Int} {j : Nat} {pos : Pos} {es : List Expr} {ns : List Int} (h : IsConsts es ns) : IsConsts (.Constant (.int i) j pos :: es) (i :: ns)
theorem pa_consts {X : Cx} {es : List Expr} {ns : List Int} (h : IsConsts es ns) : PA X es (fun _ H Q => Q (ns.map V.int) H) := by
  induction h with
  | nil => exact pa_nil
  | cons h ih =>
    intro pos pins s σ H Q I hw
    exact pa_cons pe_int ih se_const pos pins s σ H Q I hw
/-! tests -/
theorem ifY {c A B : Prop} [Decidable c] (hc : c) (h : A) : if decide c = true then A else B := by rw [decide_eq_true hc]; exact iteT h
theorem ifN {c A B : Prop} [Decidable c] (hc : ¬ c) (h : B) : if decide c = true then A else B := by rw [decide_eq_false hc]; exact iteF h
theorem ifNY {c A B : Prop} [Decidable c] (hc : ¬ c) (h : A) : if (!decide c) = true then A else B := by rw [decide_eq_false hc]; exact iteT h
theorem ifNN {c A B : Prop} [Decidable c] (hc : c) (h : B) : if (!decide c) = true then A else B := by rw [decide_eq_true hc]; exact iteF h
theorem if2 {c A B : Prop} [Decidable c] (h1 : c → A) (h2 : ¬ c → B) : if decide c = true then A else B := by
  by_cases h : c
  · exact ifY h (h1 h)
  · exact ifN h (h2 h)
theorem vi_eq {a b : Int} : (V.int a = V.int b) ↔ a = b := ⟨fun h => V.int.inj h, fun h => by rw [h]⟩
theorem vi_ne {a b : Int} (h : a ≠ b) : ¬ V.int a = V.int b := fun e => h (V.int.inj e)
/-! lists of ints -/
abbrev lz (xs : List Int) : HO := .lst (xs.map V.int)
theorem lz_get {xs : List Int} {i : Nat} {z : Int} (h : xs[i]? = some z) : (xs.map V.int)[i]? = some (V.int z) := by rw [List.getElem?_map, h]; rfl
theorem lz_at {xs : List Int} {i : Nat} {y : V} (h : (xs.map V.int)[i]? = some y) : ∃ z, xs[i]? = some z ∧ y = .int z := by
  rw [List.getElem?_map] at h
  cases e : xs[i]? with
  | none => rw [e] at h; cases h
  | some z => rw [e] at h; exact ⟨z, rfl, (Option.some.inj h).symm⟩
theorem lz_set (xs : List Int) (i : Nat) (z : Int) : (xs.map V.int).set i (.int z) = (xs.set i z).map V.int := by rw [List.map_set]
theorem lz_snoc (xs : List Int) (z : Int) : xs.map V.int ++ [V.int z] = (xs ++ [z]).map V.int := by simp
theorem lz_len (xs : List Int) : (xs.map V.int).length = xs.length := List.length_map _
theorem atI_of {α : Type} {xs : List α} {i : Int} {v : α} (j : Nat) (e : i = (j : Int)) (h : xs[j]? = some v) : atI xs i = some v := by subst e; exact atI_nat h
theorem atI_neg1 {xs : List Int} {z : Int} (h : xs[xs.length - 1]? = some z) : atI (xs.map V.int) (-1) = some (V.int z) := by
  have hl : xs ≠ [] := fun e => by subst e; simp at h
  have hp : 0 < xs.length := List.length_pos_iff.mpr hl
  unfold atI ixN
  rw [if_neg (by decide), List.length_map, if_pos (by omega)]
  show (xs.map V.int)[((-1 : Int) + (xs.length : Int)).toNat]? = _
  rw [show ((-1 : Int) + (xs.length : Int)).toNat = xs.length - 1 by omega]
  exact lz_get h
theorem ixN_of {n : Nat} {i : Int} (j : Nat) (e : i = (j : Int)) (h : j < n) : ixN n i = some j := by
  subst e
  unfold ixN
  rw [if_pos (by omega), if_pos (by omega)]; simp
theorem small {n : Nat} (h : n ≤ 1000) : n ≤ sizeLine := Nat.le_of_lt (small1000 h)
theorem tab_last (m : Nat) (f : Nat → Int) : (tab (m + 1) f)[(tab (m + 1) f).length - 1]? = some (f m) := by
  rw [tab_length, Nat.add_sub_cancel, tab_get _ _ _ (Nat.lt_succ_self m)]
theorem same_upd {H H' : Hp} {p : Addr} {o : HO} (s : Same H H') (h : H p = none) : Same H (upd H' p o) := fun b u q => by
  rw [upd_ne (ne_of_none q h)]; exact s b u q
/-! classes of the text -/
structure Gm (mg : Str → Option Value) (x : Str) (C : Addr) : Prop where
  m : mg x = some (.ref C)
structure Cs (K : PySem.W.Frag) (mg : Str → Option Value) (x : Str) (C : Addr) : Prop where
  m : mg x = some (.ref C)
  cl : Cls K C
  ha : PySem.W.findIn K (.ref C) "__class__" = some (some (.builtin "object.__class__"))
  hn : PySem.W.specialIn K (.builtin "object.__class__") "__get__" = some (some (.builtin "getset_descriptor.__get__"))
  htk : PySem.W.takesIn K (.builtin "object.__class__") = some true
  hm : PySem.W.mroIn K C (.type "object") = some true
  mks : PySem.W.makesIn K C = true
  kc : PySem.W.keepIn K (.ref C) = true
theorem Cs.ty {K : PySem.W.Frag} {mg : Str → Option Value} {x : Str} {C : Addr} (c : Cs K mg x C) {H : Hp} {a dx : Addr} {fs : List (Str × V)} (e : H a = some (.ins C dx fs)) : TyOf K H (.ref a) (.ref C) := .ins e c.cl c.ha c.hn c.htk c.hm
/-- a method -/
structure Mx (K : PySem.W.Frag) (C : Addr) (x qual : Str) (ps : List Str) (st : Stmt) (f : Addr) (fd : FuncData) : Prop where
  F : Fun K x qual st f fd
  b : Binds K fd ps []
  me : Meth K C x f
theorem lk1 (f : Str) (v : V) : (putF f v []).lookup f = some v := by rw [lookup_putF, if_pos rfl]
theorem lk0 (f g : Str) (v : V) (h : ¬ g = f) : (putF f v []).lookup g = none := by rw [lookup_putF, if_neg h]; rfl
/-! lists of truths -/
theorem bools_all (n : Nat) : ((List.replicate n true).all id) = true := by
  induction n with
  | zero => rfl
  | succ n ih => rw [List.replicate_succ, List.all_cons, ih]; rfl
theorem rep_true (i : Nat) (b : Bool) (hb : b = true) : (List.replicate i true).map V.bl ++ [V.bl b] = (List.replicate (i + 1) true).map V.bl := by
  subst hb
  rw [List.replicate_succ', List.map_append]; rfl
theorem rep_flat {α : Type} (a : α) (n : Nat) : (List.replicate n [a]).flatten = List.replicate n a := by
  induction n with
  | zero => rfl
  | succ n ih => rw [List.replicate_succ, List.flatten_cons, ih, List.replicate_succ]; rfl
theorem zip_at {a b : List Int} {j : Nat} {y z : Int} (hy : a[j]? = some y) (hz : b[j]? = some z) : (a.zip b).take (j + 1) = (a.zip b).take j ++ [(y, z)] := by
  have e : (a.zip b)[j]? = some (y, z) := List.getElem?_zip_eq_some.mpr ⟨hy, hz⟩
  rw [List.take_add_one, e]; rfl
/-! slices -/
theorem cut_to (xs : List V) (k : Nat) : cutV xs none (some (k : Int)) = xs.take k := by
  unfold cutV
  rw [HT.sIx_none, HT.sIx_nat, List.drop_zero, Nat.sub_zero]
  by_cases h : k ≤ xs.length
  · rw [Nat.min_eq_left h]
  · rw [Nat.min_eq_right (by omega), List.take_length, List.take_of_length_le (by omega)]
theorem cut_from (xs : List V) (k : Nat) : cutV xs (some (k : Int)) none = xs.drop k := by
  unfold cutV
  rw [HT.sIx_none, HT.sIx_nat]
  by_cases h : k ≤ xs.length
  · rw [Nat.min_eq_left h]; exact List.take_of_length_le (by simp)
  · rw [Nat.min_eq_right (by omega), Nat.sub_self, List.take_zero, List.drop_eq_nil_of_le (by omega)]
theorem cut_last (xs : List V) : cutV xs none (some (-1)) = xs.take (xs.length - 1) := by
  unfold cutV
  rw [HT.sIx_none, List.drop_zero, Nat.sub_zero]
  congr 1
  unfold HT.sIx
  simp
  omega
theorem rng_lz (n : Nat) : (List.range n).map (fun (i : Nat) => V.int (i : Int)) = (rngI n).map V.int := by
  unfold rngI tab; rw [List.map_map]; rfl
theorem kit_of {K : PySem.W.Frag} {C D : Addr} {b : Bool} (ty : PySem.W.typeIn K (.ref D) = some (.type "type")) (cl : PySem.W.mroIn K D (.type "object") = some true) (sb : PySem.W.subIn K (.ref C) (.ref D) = some b) (hne : C ≠ D ∨ b = true) : PySem.W.kitOne K (.ref C) (.ref D) = some b := by
  unfold PySem.W.kitOne
  by_cases e : (Value.ref C == Value.ref D) = true
  · rw [if_pos e]
    rcases hne with h | h
    · have := eq_of_beq e
      cases this
      exact absurd rfl h
    · rw [h]
  · rw [if_neg e]
    obtain ⟨cd, h1, _⟩ := Option.bind_eq_some_iff.mp cl
    show (if ((PySem.W.clsIn K D).isSome && PySem.W.typeIn K (.ref D) == some (.type "type")) = true then PySem.W.subIn K (.ref C) (.ref D) else none) = some b
    rw [h1, ty, sb, if_pos]
    simp
end OS

set_option Elab.async false
set_option linter.all false
set_option maxRecDepth 100000
set_option maxHeartbeats 1000000
namespace OS
open PySem L2
def top (i : Nat) : Stmt := PySem.Challenge.pw_offseat_k04_answers_by_hand.main.body.getD i (.Pass ⟨0, 0, 0, 0⟩)
abbrev s_is_whole_number : Stmt := top 4
theorem sc_is_whole_number : FnScope ["value"] ["value"] (defScope s_is_whole_number) := ⟨rfl, rfl, rfl, by decide +kernel, rfl, by decide +kernel, by decide +kernel⟩
abbrev s_are_shuns : Stmt := top 5
theorem sc_are_shuns : FnScope ["value"] ["value"] (defScope s_are_shuns) := ⟨rfl, rfl, rfl, by decide +kernel, rfl, by decide +kernel, by decide +kernel⟩
theorem sc_are_shuns_0 : CompSc ["value"] (defScope s_are_shuns) ({ kind := PySem.ScopeKind.function, names := [ (PySem.Str.ofString ".0", PySem.NameKind.local), (PySem.Str.ofString "seat", PySem.NameKind.local), (PySem.Str.ofString "is_whole_number", PySem.NameKind.globalImplicit), (PySem.Str.ofString "len", PySem.NameKind.globalImplicit), (PySem.Str.ofString "value", PySem.NameKind.free)], isGenerator := false, isCoroutine := false, more := [] : PySem.Scope }) ["seat", "value"] 1 [0] :=
  ⟨rfl, by decide +kernel, by decide +kernel, by decide +kernel, by decide +kernel, rfl, by decide +kernel, by decide +kernel, by decide +kernel⟩
abbrev s_refuse_bad_shuns : Stmt := top 6
theorem sc_refuse_bad_shuns : FnScope ["shuns"] ["shuns"] (defScope s_refuse_bad_shuns) := ⟨rfl, rfl, rfl, by decide +kernel, rfl, by decide +kernel, by decide +kernel⟩
abbrev s_is_seating : Stmt := top 7
theorem sc_is_seating : FnScope ["value", "guests", "taken", "seat"] ["value", "guests"] (defScope s_is_seating) := ⟨rfl, rfl, rfl, by decide +kernel, rfl, by decide +kernel, by decide +kernel⟩
abbrev s_is_seating_off : Stmt := top 8
theorem sc_is_seating_off : FnScope ["value", "shuns"] ["value", "shuns"] (defScope s_is_seating_off) := ⟨rfl, rfl, rfl, by decide +kernel, rfl, by decide +kernel, by decide +kernel⟩
theorem sc_is_seating_off_0 : CompSc ["value", "shuns"] (defScope s_is_seating_off) ({ kind := PySem.ScopeKind.function, names := [ (PySem.Str.ofString ".0", PySem.NameKind.local), (PySem.Str.ofString "seat", PySem.NameKind.local), (PySem.Str.ofString "shun", PySem.NameKind.local)], isGenerator := false, isCoroutine := false, more := [] : PySem.Scope }) ["seat", "shun"] 2 [] :=
  ⟨rfl, by decide +kernel, by decide +kernel, by decide +kernel, by decide +kernel, rfl, by decide +kernel, by decide +kernel, by decide +kernel⟩
section
variable {P : Program} {w : World} {K : PySem.W.Frag} {mg : Str → Option Value} {base : Heap}
/-! is_whole_number, of an int -/
def spIsW : Sp := fun vs H Q _ => ∃ i : Int, vs = [.int i] ∧ Q (.bl true) H
theorem ok_is_whole_number {f : Addr} {fd : FuncData} (T : Nm mg) (F : Fun K "is_whole_number" "is_whole_number" s_is_whole_number f fd) : FnOk P w K mg base CX0 1 f fd ["value"] spIsW := by
  refine F.ok sc_is_whole_number (fun vs H Q E h => ?_) (fun cdv A outer s H vs Q E hr h => ?_)
  · obtain ⟨i, rfl, _⟩ := h
    rfl
  obtain ⟨i, rfl, q⟩ := h
  refine ⟨_, (pss_of (l := [_]) rfl (pss_one (ps_ret (pe_and (pe_callB call_isT rfl T.n_isinstance b_isinstance (pa_cons (pv 0) (pa_cons (pe_bltn (v := V.ty "int") rfl T.n_int b_int rfl) pa_nil))) (pe_one (pe_not (pe_callB call_isT rfl T.n_isinstance b_isinstance (pa_cons (pv 0) (pa_cons (pe_bltn (v := V.ty "bool") rfl T.n_bool b_bool rfl) pa_nil))))))))), ?_⟩
  refine ⟨_, rfl, _, _, _, _, rfl, .int i, kit_same _ _, true, rfl, ?_⟩
  refine iteT ?_
  exact ⟨_, rfl, _, _, _, _, rfl, .int i, kit_int_bool _, false, rfl, q⟩
/-! are_shuns, of good ones -/
def spAre : Sp := fun vs H Q _ => ∃ (a : Addr) (xs : List Int), vs = [.ref a] ∧ H a = some (lz xs) ∧ xs.length ≤ 100 ∧ (∀ x ∈ xs, -1 ≤ x ∧ x < xs.length) ∧ ∀ H', Same H H' → Q (.bl true) H'
theorem ok_are_shuns {f g : Addr} {fd gd : FuncData} (T : Nm mg) (F : Fun K "are_shuns" "are_shuns" s_are_shuns f fd)
    (x_is_whole_number : Fx K mg "is_whole_number" ["value"] s_is_whole_number g gd) : FnOk P w K mg base CX0 2 f fd ["value"] spAre := by
  have G_is_whole_number : FnOk P w K mg base CX0 1 g gd ["value"] spIsW := ok_is_whole_number T x_is_whole_number.F
  refine F.ok sc_are_shuns (fun vs H Q E h => ?_) (fun cdv A outer s H vs Q E hr h => ?_)
  · obtain ⟨a, xs, rfl, _⟩ := h
    rfl
  obtain ⟨a, xs, rfl, ha, hl, hv, q⟩ := h
  refine ⟨_, (pss_of (l := [_, _]) rfl (pss_cons (ps_if (pt_not (pt_val (pe_callB call_isT rfl T.n_isinstance b_isinstance (pa_cons (pv 0) (pa_cons (pe_bltn (v := V.ty "list") rfl T.n_list b_list rfl) pa_nil))))) (pss_one (ps_ret pe_bl)) pss_nil)
      (pss_one (ps_ret (pe_callB (call_allB rfl) rfl T.n_all b_all (pa_cons (pe_comp rfl sc_are_shuns_0 (pi_list (pv 0)) (fun _ _ _ => (pg_name (i := 0) sc_are_shuns_0.nd rfl (Or.inl rfl))) (fun _ _ _ => pif_nil) (fun _ _ _ => (pe_and (pe_call G_is_whole_number hr rfl x_is_whole_number.m x_is_whole_number.F.kp x_is_whole_number.b .nil pass0 (pa_cons (pv 0) pa_nil)) (pe_and (pe_cmpR op_ge (pv 0) (pe_un un_neg pe_int) (nomark _)) (pe_one (pe_cmpR op_lt (pv 0) (pe_callB call_len_seq rfl T.n_len b_len (pa_cons (pv 1) pa_nil)) (nomark _))))))) pa_nil)))))), ?_⟩
  refine ⟨_, rfl, _, _, _, _, rfl, .lst ha, kit_same _ _, true, rfl, ?_⟩
  refine iteF ?_
  refine ⟨_, rfl, a, rfl, ⟨_, SqL.of ha⟩, fun D hD _ _ => ?_⟩
  refine comp_list (K := K) (a := a) (xs := xs.map V.int) (fun i ys σ H' => Same H H' ∧ H' D = some (.lst ys) ∧ ys = (List.replicate i true).map V.bl ∧ ∃ u, σ = [u, some (.ref a)])
    ⟨same_new hD _, upd_same, rfl, none, rfl⟩ (fun i ys σ H' _ ⟨s6, e6, _⟩ => ⟨SqL.of (s6 _ _ ha), e6⟩) ?_ ?_
  · rintro j x ys σ H' hj ⟨s6, e6, rfl, u, rfl⟩
    have hjl := (List.getElem?_eq_some_iff.mp hj).1
    rw [lz_len] at hjl
    obtain ⟨z, hz, rfl⟩ := lz_at hj
    have hb := hv z (List.mem_of_getElem? hz)
    refine ⟨small1000 (by simp; omega), ?_⟩
    refine ⟨_, rfl, z, rfl, true, rfl, iteT ?_⟩
    refine ⟨_, rfl, _, rfl, _, _, rfl, rfl, _, rfl, ifY (by omega) ?_⟩
    refine ⟨_, rfl, _, rfl, a, _, rfl, .inl (SqL.of (s6 _ _ ha)), _, _, rfl, rfl, ?_⟩
    refine ⟨e6, same_upd s6 hD, upd_same, rep_true _ _ (decide_eq_true ?_), _, rfl⟩
    rw [lz_len]; exact hb.2
  rintro ys σ H' ⟨s6, e6, rfl, u, rfl⟩
  refine ⟨D, _, rfl, SqL.of e6, ?_⟩
  rw [bools_all]
  exact q _ s6
/-! refuse_bad_shuns, of good ones -/
def spRefuse : Sp := fun vs H Q _ => ∃ (a : Addr) (xs : List Int), vs = [.ref a] ∧ H a = some (lz xs) ∧ xs.length ≤ 100 ∧ (∀ x ∈ xs, -1 ≤ x ∧ x < xs.length) ∧ ∀ H', Same H H' → Q .non H'
theorem ok_refuse_bad_shuns {f g g2 : Addr} {fd gd gd2 : FuncData} (T : Nm mg) (F : Fun K "refuse_bad_shuns" "refuse_bad_shuns" s_refuse_bad_shuns f fd)
    (x_are_shuns : Fx K mg "are_shuns" ["value"] s_are_shuns g2 gd2) (x_is_whole_number : Fx K mg "is_whole_number" ["value"] s_is_whole_number g gd) : FnOk P w K mg base CX0 3 f fd ["shuns"] spRefuse := by
  have G_are_shuns : FnOk P w K mg base CX0 2 g2 gd2 ["value"] spAre := ok_are_shuns T x_are_shuns.F x_is_whole_number
  refine F.ok sc_refuse_bad_shuns (fun vs H Q E h => ?_) (fun cdv A outer s H vs Q E hr h => ?_)
  · obtain ⟨a, xs, rfl, _⟩ := h
    rfl
  obtain ⟨a, xs, rfl, ha, hl, hv, q⟩ := h
  refine ⟨_, (pss_of (l := [_]) rfl (pss_one (ps_if (pt_not (pt_val (pe_call G_are_shuns hr rfl x_are_shuns.m x_are_shuns.F.kp x_are_shuns.b .nil pass0 (pa_cons (pv 0) pa_nil)))) (pss_one ps_never) pss_nil))), ?_⟩
  refine ⟨_, rfl, a, xs, rfl, ha, hl, hv, fun H' s1 => ?_⟩
  refine ⟨true, rfl, iteF ?_⟩
  exact q _ s1
/-! is_seating, of ints -/
def spIsSeat : Sp := fun vs H Q _ => ∃ (a : Addr) (ss : List Int) (n : Nat), vs = [.ref a, .int (n : Int)] ∧ H a = some (lz ss) ∧ n ≤ 100 ∧ ∀ H', Same H H' → Q (.bl (decide (Seat n ss))) H'
theorem ok_is_seating {f g : Addr} {fd gd : FuncData} (T : Nm mg) (F : Fun K "is_seating" "is_seating" s_is_seating f fd)
    (x_is_whole_number : Fx K mg "is_whole_number" ["value"] s_is_whole_number g gd) : FnOk P w K mg base CX0 2 f fd ["value", "guests"] spIsSeat := by
  have G_is_whole_number : FnOk P w K mg base CX0 1 g gd ["value"] spIsW := ok_is_whole_number T x_is_whole_number.F
  refine F.ok sc_is_seating (fun vs H Q E h => ?_) (fun cdv A outer s H vs Q E hr h => ?_)
  · obtain ⟨a, ss, n, rfl, _⟩ := h
    rfl
  obtain ⟨a, ss, n, rfl, ha, hn, q⟩ := h
  refine ⟨_, (pss_of (l := [_, _, _, _]) rfl (pss_cons (ps_if (PW.pt (pw_or (pt_not (pt_val (pe_callB call_isT rfl T.n_isinstance b_isinstance (pa_cons (pv 0) (pa_cons (pe_bltn (v := V.ty "list") rfl T.n_list b_list rfl) pa_nil))))) (pw_or1 (pt_cmpR op_ne (pe_callB call_len_seq rfl T.n_len b_len (pa_cons (pv 0) pa_nil)) (pv 1) (nomark _))))) (pss_one (ps_ret pe_bl)) pss_nil)
      (pss_cons (ps_set (i := 2) sc_is_seating.nd rfl (Or.inl rfl) (pe_op op_rep (pe_lst (pa_cons pe_bl pa_nil)) (pv 1)))
      (pss_cons (ps_for PassesOwn.never rfl (pi_list (pv 0)) (pg_name (i := 3) sc_is_seating.nd rfl (Or.inl rfl)) (pss_cons (ps_if (PW.pt (pw_or (pt_not (pt_val (pe_call G_is_whole_number hr rfl x_is_whole_number.m x_is_whole_number.F.kp x_is_whole_number.b .nil pass0 (pa_cons (pv 3) pa_nil)))) (pw_or (pt_cmpR op_lt (pv 3) pe_int (nomark _)) (pw_or (pt_cmpR op_ge (pv 3) (pv 1) (nomark _)) (pw_or1 (pt_val (pe_ix ix_list (pv 2) (pv 3) (fun _ _ => rfl)))))))) (pss_one (ps_ret pe_bl)) pss_nil)
      (pss_one (ps_asg pe_bl (pg_sub (pv 2) (pv 3) set_list)))))
      (pss_one (ps_ret pe_bl)))))), ?_⟩
  have no : ∀ {H' : Hp}, Same H H' → ¬ Seat n ss → Q (.bl false) H' := fun s1 hs => by
    have := q _ s1
    rwa [decide_eq_false hs] at this
  refine ⟨_, rfl, _, _, _, _, rfl, .lst ha, kit_same _ _, true, rfl, iteF ?_⟩
  refine ⟨_, rfl, a, _, rfl, .inl (SqL.of ha), _, rfl, rfl, _, rfl, ?_⟩
  rw [lz_len]
  by_cases hl : ss.length = n
  rotate_left
  · refine ifNY (fun z => hl (by have := V.int.inj z; omega)) ?_
    exact no (Same.refl _) fun z => hl z.len
  refine ifNN (by rw [hl]) ?_
  refine ⟨(by show 1 ≤ sizeLine; decide), fun p1 hp1 => ?_⟩
  have s1 : Same H (upd H p1 (.lst [.bl false])) := same_new hp1 _
  refine ⟨_, rfl, p1, _, _, rfl, rfl, upd_same, by omega, by omega, small (by simp; omega), fun tk htk => ?_⟩
  have e0 : (List.replicate ((n : Int)).toNat [V.bl false]).flatten = (tab n (fun s => decide ((s : Int) ∈ ss.take 0))).map V.bl := by
    rw [rep_flat, show ((n : Int)).toNat = n by omega]
    unfold tab
    simp only [List.take_zero, List.not_mem_nil, decide_false, List.map_map]
    rw [show (V.bl ∘ fun (s : Nat) => false) = (fun _ => V.bl false) from rfl, List.map_const', List.length_range]
  rw [e0]
  have hk0 : H tk = none := s1.free htk
  have s2 : Same H (upd (upd H p1 (.lst [.bl false])) tk (.lst ((tab n (fun s => decide ((s : Int) ∈ ss.take 0))).map V.bl))) := s1.trans (same_new htk _)
  have e2 : (upd (upd H p1 (.lst [.bl false])) tk (.lst ((tab n (fun s => decide ((s : Int) ∈ ss.take 0))).map V.bl))) tk = some (.lst ((tab n (fun s => decide ((s : Int) ∈ ss.take 0))).map V.bl)) := upd_same
  generalize (upd (upd H p1 (.lst [.bl false])) tk (.lst ((tab n (fun s => decide ((s : Int) ∈ ss.take 0))).map V.bl))) = H2 at s2 e2 ⊢
  refine ⟨_, rfl, a, rfl, ⟨_, SqL.of (s2 _ _ ha)⟩, for_list (K := K) (a := a) (xs := ss.map V.int) (fun i σ H' => Same H H' ∧ H' tk = some (.lst ((tab n (fun s => decide ((s : Int) ∈ ss.take i))).map V.bl)) ∧ (∀ s ∈ ss.take i, 0 ≤ s ∧ s < n) ∧ (ss.take i).Nodup ∧ ∃ v, σ = [some (.ref a), some (.int (n : Int)), some (.ref tk), v])
    ⟨s2, e2, by simp, by simp, none, rfl⟩ (fun i σ H' _ ⟨e, _⟩ => SqL.of (e _ _ ha)) ?_ ?_⟩
  · rintro i y σ H' hi ⟨s3, e3, hr3, hn3, v, rfl⟩
    obtain ⟨z, hz, rfl⟩ := lz_at hi
    have hm := List.mem_of_getElem? hz
    have ht : ss.take (i + 1) = ss.take i ++ [z] := by rw [List.take_add_one, hz]; rfl
    refine ⟨_, rfl, z, rfl, true, rfl, iteF ?_⟩
    refine ⟨_, rfl, _, _, rfl, rfl, _, rfl, ?_⟩
    refine if2 (fun c => iteT (no s3 fun hs => by have := (hs.mem z).mp hm; omega)) (fun c => ?_)
    refine ⟨_, rfl, _, rfl, _, _, rfl, rfl, _, rfl, ?_⟩
    refine if2 (fun c2 => iteT (no s3 fun hs => by have := (hs.mem z).mp hm; omega)) (fun c2 => ?_)
    have hzn : z.toNat < n := by omega
    have hat : ((tab n (fun s => decide ((s : Int) ∈ ss.take i))).map V.bl)[z.toNat]? = some (V.bl (decide (z ∈ ss.take i))) := by
      rw [List.getElem?_map, tab_get _ _ _ hzn, show ((z.toNat : Nat) : Int) = z by omega]; rfl
    refine ⟨_, rfl, _, rfl, tk, _, _, _, rfl, rfl, SqL.of e3, atI_of z.toNat (by omega) hat, _, rfl, ?_⟩
    refine if2 (fun c3 => no s3 fun hs => ?_) (fun c3 => ?_)
    · have hd := hs.nodup
      have : (ss.take (i + 1)).Nodup := List.Pairwise.sublist (List.take_sublist _ _) hd
      rw [ht, List.nodup_append] at this
      exact this.2.2 z c3 z (List.mem_singleton.mpr rfl) rfl
    · refine ⟨_, rfl, _, rfl, tk, _, _, z.toNat, rfl, rfl, e3, ixN_of z.toNat (by omega) (by rw [List.length_map, tab_length]; omega), ?_⟩
      refine ⟨same_upd s3 hk0, ?_, ?_, ?_, _, rfl⟩
      · rw [upd_same, ← List.map_set, tab_set]
        congr 3
        refine tab_congr fun k _ => ?_
        rw [ht]
        by_cases ek : k = z.toNat
        · rw [if_pos ek, decide_eq_true]
          rw [List.mem_append, List.mem_singleton]; right; omega
        · rw [if_neg ek]
          congr 1
          rw [List.mem_append, List.mem_singleton]
          apply propext
          constructor
          · exact .inl
          · rintro (h | h)
            · exact h
            · omega
      · intro s hs
        rw [ht, List.mem_append, List.mem_singleton] at hs
        rcases hs with hs | hs
        · exact hr3 s hs
        · subst hs; omega
      · rw [ht, List.nodup_append]
        refine ⟨hn3, by simp, fun x hx y hy e => ?_⟩
        rw [List.mem_singleton] at hy
        subst e hy
        exact c3 hx
  · rintro σ H' ⟨s3, e3, hr3, hn3, v, rfl⟩
    rw [lz_len, List.take_length] at hr3 hn3
    have := q _ s3
    rwa [decide_eq_true (seat_of hl hr3 hn3)] at this
/-! is_seating_off, of ints -/
def spIsOff : Sp := fun vs H Q _ => ∃ (a b : Addr) (ss xs : List Int), vs = [.ref a, .ref b] ∧ H a = some (lz ss) ∧ H b = some (lz xs) ∧ xs.length ≤ 100 ∧ ∀ H', Same H H' → Q (.bl (offB xs ss)) H'
theorem ok_is_seating_off {f g g2 : Addr} {fd gd gd2 : FuncData} (T : Nm mg) (F : Fun K "is_seating_off" "is_seating_off" s_is_seating_off f fd)
    (x_is_seating : Fx K mg "is_seating" ["value", "guests"] s_is_seating g2 gd2) (x_is_whole_number : Fx K mg "is_whole_number" ["value"] s_is_whole_number g gd) : FnOk P w K mg base CX0 3 f fd ["value", "shuns"] spIsOff := by
  have G_is_seating : FnOk P w K mg base CX0 2 g2 gd2 ["value", "guests"] spIsSeat := ok_is_seating T x_is_seating.F x_is_whole_number
  refine F.ok sc_is_seating_off (fun vs H Q E h => ?_) (fun cdv A outer s H vs Q E hr h => ?_)
  · obtain ⟨a, b, ss, xs, rfl, _⟩ := h
    rfl
  obtain ⟨a, b, ss, xs, rfl, ha, hb, hl, q⟩ := h
  refine ⟨_, (pss_of (l := [_, _]) rfl (pss_cons (ps_if (pt_not (pt_val (pe_call G_is_seating hr rfl x_is_seating.m x_is_seating.F.kp x_is_seating.b .nil pass0 (pa_cons (pv 0) (pa_cons (pe_callB call_len_seq rfl T.n_len b_len (pa_cons (pv 1) pa_nil)) pa_nil))))) (pss_one (ps_ret pe_bl)) pss_nil)
      (pss_one (ps_ret (pe_callB (call_allB rfl) rfl T.n_all b_all (pa_cons (pe_comp rfl sc_is_seating_off_0 (pi_zip rfl T.n_zip (pa_cons (pv 0) (pa_cons (pv 1) pa_nil))) (fun _ _ _ => (pg_tup rfl (pgs_cons (pg_name (i := 0) sc_is_seating_off_0.nd rfl (Or.inl rfl)) (pgs_cons (pg_name (i := 1) sc_is_seating_off_0.nd rfl (Or.inl rfl)) pgs_nil)))) (fun _ _ _ => pif_nil) (fun _ _ _ => (pe_cmpR op_ne (pv 0) (pv 1) (nomark _)))) pa_nil)))))), ?_⟩
  refine ⟨_, rfl, _, rfl, b, _, rfl, .inl (SqL.of hb), a, ss, xs.length, by rw [lz_len]; rfl, ha, by omega, fun H1 s1 => ?_⟩
  refine ⟨_, rfl, ?_⟩
  by_cases hs : Seat xs.length ss
  rotate_left
  · refine ifNY hs ?_
    have := q _ s1
    unfold offB at this
    rwa [decide_eq_false hs] at this
  refine ifNN hs ?_
  have ha1 := s1 _ _ ha
  have hb1 := s1 _ _ hb
  have hsl := hs.len
  refine ⟨_, rfl, _, rfl, a, b, _, _, rfl, SqL.of ha1, SqL.of hb1, fun D hD _ _ => ?_⟩
  refine comp_zip (K := K) (a := a) (b := b) (xs := ss.map V.int) (ws := xs.map V.int)
    (fun j ys σ H' => Same H1 H' ∧ H' D = some (.lst ys) ∧ ys = (((ss.zip xs).take j).map (fun p => decide (p.1 ≠ p.2))).map V.bl ∧ ∃ u v, σ = [u, v])
    ⟨same_new hD _, upd_same, rfl, none, none, rfl⟩ (fun j ys σ H' _ ⟨t4, e4, _⟩ => ⟨SqL.of (t4 _ _ ha1), SqL.of (t4 _ _ hb1), e4⟩) ?_ (fun j ys σ H' hj ⟨_, _, hy, _⟩ => ?_) ?_
  · rintro j y1 z1 ys σ H4 pp hy hz hpp ⟨t4, e4, rfl, u4, v4, rfl⟩
    obtain ⟨y, hy', rfl⟩ := lz_at hy
    obtain ⟨z, hz', rfl⟩ := lz_at hz
    have hjl := (List.getElem?_eq_some_iff.mp hy').1
    have t5 : Same H4 (upd H4 pp (.tup [.int y, .int z])) := same_new hpp _
    refine ⟨small1000 (by simp; omega), pp, _, rfl, SqT.of upd_same, rfl, _, _, rfl, _, _, rfl, rfl, ?_⟩
    refine ⟨_, rfl, _, rfl, rfl, t5 _ _ e4, same_upd (t4.trans t5) hD, upd_same, ?_, _, _, rfl⟩
    rw [zip_at hy' hz', List.map_append, List.map_append]
    congr 3
    by_cases e : y = z
    · subst e; simp
    · have : ¬ V.int y = V.int z := vi_ne e
      simp [e]
  · subst hy
    rw [lz_len, lz_len] at hj
    exact small1000 (by simp; omega)
  rintro ys σ H4 ⟨t4, e4, rfl, u4, v4, rfl⟩
  rw [lz_len, lz_len, hsl, Nat.min_self, List.take_of_length_le (by rw [List.length_zip]; omega)] at e4
  refine ⟨D, _, rfl, SqL.of e4, ?_⟩
  have := q _ (s1.trans t4)
  unfold offB at this
  rw [decide_eq_true hs, Bool.true_and] at this
  rw [List.all_map]
  exact this
end
end OS

set_option Elab.async false
set_option linter.all false
set_option maxRecDepth 100000
set_option maxHeartbeats 1000000
namespace OS
open PySem L2
abbrev s_Seated___init__ : Stmt := inClass (top 11) 0
theorem sc_Seated___init__ : FnScope ["self", "seating"] ["self", "seating"] (defScope s_Seated___init__) := ⟨rfl, rfl, rfl, by decide +kernel, rfl, by decide +kernel, by decide +kernel⟩
abbrev s_Seated_shows : Stmt := inClass (top 11) 1
theorem sc_Seated_shows : FnScope ["self", "shuns"] ["self", "shuns"] (defScope s_Seated_shows) := ⟨rfl, rfl, rfl, by decide +kernel, rfl, by decide +kernel, by decide +kernel⟩
abbrev s_Barred___init__ : Stmt := inClass (top 12) 0
theorem sc_Barred___init__ : FnScope ["self", "seat"] ["self", "seat"] (defScope s_Barred___init__) := ⟨rfl, rfl, rfl, by decide +kernel, rfl, by decide +kernel, by decide +kernel⟩
abbrev s_Barred_shows : Stmt := inClass (top 12) 1
theorem sc_Barred_shows : FnScope ["self", "shuns", "is_there"] ["self", "shuns"] (defScope s_Barred_shows) := ⟨rfl, rfl, rfl, by decide +kernel, rfl, by decide +kernel, by decide +kernel⟩
theorem sc_Barred_shows_0 : CompSc ["self", "shuns", "is_there"] (defScope s_Barred_shows) ({ kind := PySem.ScopeKind.function, names := [ (PySem.Str.ofString ".0", PySem.NameKind.local), (PySem.Str.ofString "shun", PySem.NameKind.local), (PySem.Str.ofString "self", PySem.NameKind.free)], isGenerator := false, isCoroutine := false, more := [] : PySem.Scope }) ["shun", "self"] 1 [0] :=
  ⟨rfl, by decide +kernel, by decide +kernel, by decide +kernel, by decide +kernel, rfl, by decide +kernel, by decide +kernel, by decide +kernel⟩
abbrev s_seated : Stmt := top 14
theorem sc_seated : FnScope ["shuns", "guest", "movers", "lone", "partners", "seating", "k"] ["shuns"] (defScope s_seated) := ⟨rfl, rfl, rfl, by decide +kernel, rfl, by decide +kernel, by decide +kernel⟩
theorem sc_seated_0 : CompSc ["shuns", "guest", "movers", "lone", "partners", "seating", "k"] (defScope s_seated) ({ kind := PySem.ScopeKind.function, names := [ (PySem.Str.ofString ".0", PySem.NameKind.local), (PySem.Str.ofString "guest", PySem.NameKind.local), (PySem.Str.ofString "shun", PySem.NameKind.local)], isGenerator := false, isCoroutine := false, more := [] : PySem.Scope }) ["guest", "shun"] 2 [] :=
  ⟨rfl, by decide +kernel, by decide +kernel, by decide +kernel, by decide +kernel, rfl, by decide +kernel, by decide +kernel, by decide +kernel⟩
theorem sc_seated_1 : CompSc ["shuns", "guest", "movers", "lone", "partners", "seating", "k"] (defScope s_seated) ({ kind := PySem.ScopeKind.function, names := [ (PySem.Str.ofString ".0", PySem.NameKind.local), (PySem.Str.ofString "guest", PySem.NameKind.local), (PySem.Str.ofString "shun", PySem.NameKind.local), (PySem.Str.ofString "lone", PySem.NameKind.free)], isGenerator := false, isCoroutine := false, more := [] : PySem.Scope }) ["guest", "shun", "lone"] 2 [3] :=
  ⟨rfl, by decide +kernel, by decide +kernel, by decide +kernel, by decide +kernel, rfl, by decide +kernel, by decide +kernel, by decide +kernel⟩
section
variable {P : Program} {w : World} {K : PySem.W.Frag} {mg : Str → Option Value} {base : Heap}
/-! answers on the heap -/
structure SeatedAt (C : Addr) (H : Hp) (p l : Addr) (ss : List Int) : Prop where
  ob : ∃ dx, H p = some (.ins C dx (putF "seating" (.ref l) []))
  ls : H l = some (lz ss)
structure BarredAt (C : Addr) (H : Hp) (p : Addr) (s : Int) : Prop where
  ob : ∃ dx, H p = some (.ins C dx (putF "seat" (.int s) []))
theorem SeatedAt.same {C : Addr} {H H' : Hp} {p l : Addr} {ss : List Int} (h : SeatedAt C H p l ss) (s : Same H H') : SeatedAt C H' p l ss :=
  ⟨let ⟨dx, e⟩ := h.ob; ⟨dx, s _ _ e⟩, s _ _ h.ls⟩
theorem BarredAt.same {C : Addr} {H H' : Hp} {p : Addr} {z : Int} (h : BarredAt C H p z) (s : Same H H') : BarredAt C H' p z :=
  ⟨let ⟨dx, e⟩ := h.ob; ⟨dx, s _ _ e⟩⟩
/-! Seated(seating), Barred(seat) -/
def spInitS (C : Addr) : Sp := fun vs H Q _ => ∃ (p dx a : Addr) (ss : List Int), vs = [.ref p, .ref a] ∧ H p = some (.ins C dx []) ∧ H a = some (lz ss) ∧
  ∀ (l : Addr) (H' : Hp), H l = none → (∀ b o, b ≠ p → H b = some o → H' b = some o) → SeatedAt C H' p l ss → Q .non H'
theorem ok_Seated_init {f C : Addr} {fd : FuncData} (T : Nm mg) (F : Fun K "__init__" "Seated.__init__" s_Seated___init__ f fd) (c : Cls K C) (n : NoAttr K C "seating") : FnOk P w K mg base CX0 1 f fd ["self", "seating"] (spInitS C) := by
  refine F.ok sc_Seated___init__ (fun vs H Q E h => ?_) (fun cdv A outer s H vs Q E hr h => ?_)
  · obtain ⟨p, dx, a, ss, rfl, _⟩ := h
    rfl
  obtain ⟨p, dx, a, ss, rfl, hp, ha, k⟩ := h
  refine ⟨_, (pss_of (l := [_]) rfl (pss_one (ps_fld (pv 0) (pe_callTy call_list_of rfl T.n_list b_list (pa_cons (pv 1) pa_nil)) rfl))), ?_⟩
  refine ⟨_, rfl, a, _, rfl, .inl (SqL.of ha), fun l hl => ?_⟩
  have npl : p ≠ l := ne_of_none hp hl
  refine ⟨_, rfl, p, C, dx, [], rfl, (by rw [upd_ne npl]; exact hp), c, n, (by show 0 < 1000; decide), ?_⟩
  exact k l _ hl (fun b o hb e => by rw [upd_ne hb, upd_ne (ne_of_none e hl)]; exact e) ⟨⟨dx, upd_same⟩, by rw [upd_ne npl.symm, upd_same]⟩
def spInitB (C : Addr) : Sp := fun vs H Q _ => ∃ (p dx : Addr) (z : Int), vs = [.ref p, .int z] ∧ H p = some (.ins C dx []) ∧
  ∀ (H' : Hp), (∀ b o, b ≠ p → H b = some o → H' b = some o) → BarredAt C H' p z → Q .non H'
theorem ok_Barred_init {f C : Addr} {fd : FuncData} (T : Nm mg) (F : Fun K "__init__" "Barred.__init__" s_Barred___init__ f fd) (c : Cls K C) (n : NoAttr K C "seat") : FnOk P w K mg base CX0 1 f fd ["self", "seat"] (spInitB C) := by
  refine F.ok sc_Barred___init__ (fun vs H Q E h => ?_) (fun cdv A outer s H vs Q E hr h => ?_)
  · obtain ⟨p, dx, z, rfl, _⟩ := h
    rfl
  obtain ⟨p, dx, z, rfl, hp, k⟩ := h
  refine ⟨_, (pss_of (l := [_]) rfl (pss_one (ps_fld (pv 0) (pv 1) rfl))), ?_⟩
  refine ⟨_, rfl, _, rfl, p, C, dx, [], rfl, hp, c, n, (by show 0 < 1000; decide), ?_⟩
  exact k _ (fun b o hb e => by rw [upd_ne hb]; exact e) ⟨dx, upd_same⟩
/-! shows -/
def spShowsS (C : Addr) : Sp := fun vs H Q _ => ∃ (p l b : Addr) (ss xs : List Int), vs = [.ref p, .ref b] ∧ SeatedAt C H p l ss ∧ H b = some (lz xs) ∧ xs.length ≤ 100 ∧ (∀ x ∈ xs, -1 ≤ x ∧ x < xs.length) ∧ ∀ H', Same H H' → Q (.bl (offB xs ss)) H'
theorem ok_Seated_shows {f C f1 f2 f3 f4 : Addr} {fd fd1 fd2 fd3 fd4 : FuncData} (T : Nm mg) (F : Fun K "shows" "Seated.shows" s_Seated_shows f fd) (c : Cls K C) (n : NoAttr K C "seating")
    (x_are_shuns : Fx K mg "are_shuns" ["value"] s_are_shuns f1 fd1) (x_is_whole_number : Fx K mg "is_whole_number" ["value"] s_is_whole_number f2 fd2)
    (x_is_seating : Fx K mg "is_seating" ["value", "guests"] s_is_seating f3 fd3) (x_is_seating_off : Fx K mg "is_seating_off" ["value", "shuns"] s_is_seating_off f4 fd4) : FnOk P w K mg base CX0 4 f fd ["self", "shuns"] (spShowsS C) := by
  have G_are_shuns : FnOk P w K mg base CX0 3 f1 fd1 ["value"] spAre := (ok_are_shuns T x_are_shuns.F x_is_whole_number).mono (by decide)
  have G_is_seating_off : FnOk P w K mg base CX0 3 f4 fd4 ["value", "shuns"] spIsOff := ok_is_seating_off T x_is_seating_off.F x_is_seating x_is_whole_number
  refine F.ok sc_Seated_shows (fun vs H Q E h => ?_) (fun cdv A outer s H vs Q E hr h => ?_)
  · obtain ⟨p, l, b, ss, xs, rfl, _⟩ := h
    rfl
  obtain ⟨p, l, b, ss, xs, rfl, O, hb, hl, hv, q⟩ := h
  refine ⟨_, (pss_of (l := [_]) rfl (pss_one (ps_ret (pe_and (pe_call G_are_shuns hr rfl x_are_shuns.m x_are_shuns.F.kp x_are_shuns.b .nil pass0 (pa_cons (pv 1) pa_nil)) (pe_one (pe_call G_is_seating_off hr rfl x_is_seating_off.m x_is_seating_off.F.kp x_is_seating_off.b .nil pass0 (pa_cons (pe_fld (pv 0) rfl) (pa_cons (pv 1) pa_nil)))))))), ?_⟩
  refine ⟨_, rfl, b, xs, rfl, hb, hl, hv, fun H1 s1 => ⟨true, rfl, iteT ?_⟩⟩
  obtain ⟨⟨dx, e1⟩, e2⟩ := O.same s1
  refine ⟨_, rfl, p, C, dx, _, _, rfl, e1, c, n, lk1 _ _, _, rfl, l, b, ss, xs, rfl, e2, s1 _ _ hb, hl, fun H2 s2 => ?_⟩
  exact q _ (s1.trans s2)
def spShowsB (C : Addr) : Sp := fun vs H Q _ => ∃ (p b : Addr) (z : Int) (xs : List Int), vs = [.ref p, .ref b] ∧ BarredAt C H p z ∧ H b = some (lz xs) ∧ xs.length ≤ 100 ∧ (∀ x ∈ xs, -1 ≤ x ∧ x < xs.length) ∧ ∀ H', Same H H' → Q (.bl (barB xs z)) H'
theorem ok_Barred_shows {f C f1 f2 : Addr} {fd fd1 fd2 : FuncData} (T : Nm mg) (F : Fun K "shows" "Barred.shows" s_Barred_shows f fd) (c : Cls K C) (n : NoAttr K C "seat")
    (x_are_shuns : Fx K mg "are_shuns" ["value"] s_are_shuns f1 fd1) (x_is_whole_number : Fx K mg "is_whole_number" ["value"] s_is_whole_number f2 fd2) : FnOk P w K mg base CX0 4 f fd ["self", "shuns"] (spShowsB C) := by
  have G_are_shuns : FnOk P w K mg base CX0 3 f1 fd1 ["value"] spAre := (ok_are_shuns T x_are_shuns.F x_is_whole_number).mono (by decide)
  have G_is_whole_number : FnOk P w K mg base CX0 3 f2 fd2 ["value"] spIsW := (ok_is_whole_number T x_is_whole_number.F).mono (by decide)
  refine F.ok sc_Barred_shows (fun vs H Q E h => ?_) (fun cdv A outer s H vs Q E hr h => ?_)
  · obtain ⟨p, b, z, xs, rfl, _⟩ := h
    rfl
  obtain ⟨p, b, z, xs, rfl, O, hb, hl, hv, q⟩ := h
  refine ⟨_, (pss_of (l := [_, _, _]) rfl (pss_cons (ps_if (PW.pt (pw_or (pt_not (pt_val (pe_call G_are_shuns hr rfl x_are_shuns.m x_are_shuns.F.kp x_are_shuns.b .nil pass0 (pa_cons (pv 1) pa_nil)))) (pw_or1 (pt_not (pt_val (pe_call G_is_whole_number hr rfl x_is_whole_number.m x_is_whole_number.F.kp x_is_whole_number.b .nil pass0 (pa_cons (pe_fld (pv 0) rfl) pa_nil))))))) (pss_one (ps_ret pe_bl)) pss_nil)
      (pss_cons (ps_set (i := 2) sc_Barred_shows.nd rfl (Or.inl rfl) (pe_and (pe_cmpR op_ge (pe_fld (pv 0) rfl) pe_int (nomark _)) (pe_one (pe_cmpR op_lt (pe_fld (pv 0) rfl) (pe_callB call_len_seq rfl T.n_len b_len (pa_cons (pv 1) pa_nil)) (nomark _)))))
      (pss_one (ps_ret (pe_and (pv 2) (pe_one (pe_callB (call_allB rfl) rfl T.n_all b_all (pa_cons (pe_comp rfl sc_Barred_shows_0 (pi_list (pv 1)) (fun _ _ _ => (pg_name (i := 0) sc_Barred_shows_0.nd rfl (Or.inl rfl))) (fun _ _ _ => pif_nil) (fun _ _ _ => (pe_cmpR op_eq (pv 0) (pe_fld (pv 1) rfl) (nomark _)))) pa_nil))))))))), ?_⟩
  refine ⟨_, rfl, b, xs, rfl, hb, hl, hv, fun H1 s1 => ⟨true, rfl, iteF ?_⟩⟩
  obtain ⟨dx, e1⟩ := (O.same s1).ob
  have fin : ∀ {H' : Hp} {bb : Bool}, Same H1 H' → bb = barB xs z → Q (.bl bb) H' := fun s2 e => e ▸ q _ (s1.trans s2)
  refine ⟨_, rfl, p, C, dx, _, _, rfl, e1, c, n, lk1 _ _, z, rfl, true, rfl, iteF ?_⟩
  refine ⟨_, rfl, p, C, dx, _, _, rfl, e1, c, n, lk1 _ _, _, _, rfl, rfl, _, rfl, ?_⟩
  refine if2 (fun c0 => ?_) (fun c0 => ?_)
  rotate_left
  · refine ⟨_, rfl, _, rfl, iteF ?_⟩
    refine fin (Same.refl _) ?_
    unfold barB
    rw [decide_eq_false fun h => c0 h.1]
  refine ⟨_, rfl, p, C, dx, _, _, rfl, e1, c, n, lk1 _ _, _, rfl, b, _, rfl, .inl (SqL.of (s1 _ _ hb)), _, _, rfl, rfl, ?_⟩
  refine ⟨_, rfl, _, rfl, ?_⟩
  rw [lz_len]
  refine if2 (fun c1 => ?_) (fun c1 => ?_)
  rotate_left
  · refine fin (Same.refl _) ?_
    unfold barB
    rw [decide_eq_false fun h => ?_]
    obtain ⟨_, h2, h3⟩ := h
    obtain ⟨x, hx⟩ := List.exists_mem_of_ne_nil xs h2
    have := hv x hx
    rw [h3 x hx] at this
    omega
  have hb1 := s1 _ _ hb
  refine ⟨_, rfl, b, rfl, ⟨_, SqL.of hb1⟩, fun D hD _ _ => ?_⟩
  refine comp_list (K := K) (a := b) (xs := xs.map V.int) (fun i ys σ H' => Same H1 H' ∧ H' D = some (.lst ys) ∧ ys = ((xs.take i).map (fun x => decide (x = z))).map V.bl ∧ ∃ u, σ = [u, some (.ref p)])
    ⟨same_new hD _, upd_same, rfl, none, rfl⟩ (fun i ys σ H' _ ⟨s6, e6, _⟩ => ⟨SqL.of (s6 _ _ hb1), e6⟩) ?_ ?_
  · rintro j x ys σ H' hj ⟨s6, e6, rfl, u, rfl⟩
    have hjl := (List.getElem?_eq_some_iff.mp hj).1
    rw [lz_len] at hjl
    obtain ⟨y, hy, rfl⟩ := lz_at hj
    refine ⟨small1000 (by simp; omega), ?_⟩
    refine ⟨_, rfl, _, rfl, p, C, dx, _, _, rfl, s6 _ _ e1, c, n, lk1 _ _, rfl, e6, same_upd s6 hD, upd_same, ?_, _, rfl⟩
    rw [List.take_add_one, hy]
    show _ = (((xs.take j ++ [y]).map (fun x => decide (x = z))).map V.bl)
    rw [List.map_append, List.map_append]
    congr 3
    by_cases e : y = z
    · subst e; simp
    · have : ¬ V.int y = V.int z := vi_ne e
      simp [e]
  rintro ys σ H' ⟨s6, e6, rfl, u, rfl⟩
  rw [lz_len, List.take_length] at e6
  refine ⟨D, _, rfl, SqL.of e6, ?_⟩
  refine fin s6 ?_
  rw [List.all_map]
  unfold barB
  rw [Bool.eq_iff_iff, List.all_eq_true, decide_eq_true_iff]
  constructor
  · intro h
    refine ⟨c0, fun e => by subst e; simp at c1; omega, fun x hx => by simpa using h x hx⟩
  · rintro ⟨_, _, h⟩ x hx
    simpa using h x hx
/-! seated -/
theorem at_prev {M : List Int} (hn : M.Nodup) {i : Nat} {a : Int} (h : M[i]? = some a) : atI (M.map V.int) ((i : Int) - 1) = some (V.int (cyc M a)) := by
  have hil := (List.getElem?_eq_some_iff.mp h).1
  have h1 := Nat.mod_lt (i + (M.length - 1)) (show 0 < M.length by omega)
  obtain ⟨b, hb⟩ : ∃ b, M[(i + (M.length - 1)) % M.length]? = some b := ⟨_, List.getElem?_eq_getElem h1⟩
  rw [cyc_at hn h hb]
  by_cases e : i = 0
  · subst e
    have e2 : (0 + (M.length - 1)) % M.length = M.length - 1 := by rw [Nat.zero_add]; exact Nat.mod_eq_of_lt (by omega)
    rw [e2] at hb
    exact atI_neg1 hb
  · have e2 : (i + (M.length - 1)) % M.length = i - 1 := by
      rw [show i + (M.length - 1) = (i - 1) + M.length by omega, Nat.add_mod_right]; exact Nat.mod_eq_of_lt (by omega)
    rw [e2] at hb
    exact atI_of (i - 1) (by omega) (lz_get hb)
def spSeated (CS CB : Addr) : Sp := fun vs H Q _ => ∃ (a : Addr) (xs : List Int), vs = [.ref a] ∧ H a = some (lz xs) ∧ xs.length ≤ 63 ∧ (∀ x ∈ xs, -1 ≤ x ∧ x < xs.length) ∧
  (∀ (p l : Addr) (ss : List Int) (H' : Hp), Same H H' → H p = none → H l = none → SeatedAt CS H' p l ss → offB xs ss = true → Q (.ref p) H') ∧
  (∀ (p : Addr) (z : Int) (H' : Hp), Same H H' → H p = none → BarredAt CB H' p z → barB xs z = true → Q (.ref p) H')
theorem ok_seated {f CS CB f1 f2 f3 f4 f5 : Addr} {fd fd1 fd2 fd3 fd4 fd5 : FuncData} (T : Nm mg) (F : Fun K "seated" "seated" s_seated f fd)
    (x_Seated : Cs K mg "Seated" CS) (x_Barred : Cs K mg "Barred" CB) (nS : NoAttr K CS "seating") (nB : NoAttr K CB "seat")
    (x_Seated___init__ : Mx K CS "__init__" "Seated.__init__" ["self", "seating"] s_Seated___init__ f4 fd4) (x_Barred___init__ : Mx K CB "__init__" "Barred.__init__" ["self", "seat"] s_Barred___init__ f5 fd5)
    (x_refuse_bad_shuns : Fx K mg "refuse_bad_shuns" ["shuns"] s_refuse_bad_shuns f1 fd1) (x_are_shuns : Fx K mg "are_shuns" ["value"] s_are_shuns f2 fd2) (x_is_whole_number : Fx K mg "is_whole_number" ["value"] s_is_whole_number f3 fd3) :
    FnOk P w K mg base CX0 4 f fd ["shuns"] (spSeated CS CB) := by
  have G_refuse_bad_shuns : FnOk P w K mg base CX0 3 f1 fd1 ["shuns"] spRefuse := ok_refuse_bad_shuns T x_refuse_bad_shuns.F x_are_shuns x_is_whole_number
  have G_Seated___init__ : FnOk P w K mg base CX0 2 f4 fd4 ["self", "seating"] (spInitS CS) := (ok_Seated_init T x_Seated___init__.F x_Seated.cl nS).mono (by decide)
  have G_Barred___init__ : FnOk P w K mg base CX0 2 f5 fd5 ["self", "seat"] (spInitB CB) := (ok_Barred_init T x_Barred___init__.F x_Barred.cl nB).mono (by decide)
  refine F.ok sc_seated (fun vs H Q E h => ?_) (fun cdv A outer s H vs Q E hr h => ?_)
  · obtain ⟨a, xs, rfl, _⟩ := h
    rfl
  obtain ⟨a, xs, rfl, ha, hl, hv, qS, qB⟩ := h
  refine ⟨_, (pss_of (l := [_, _, _, _, _, _]) rfl (pss_cons (ps_expr (pe_call G_refuse_bad_shuns hr rfl x_refuse_bad_shuns.m x_refuse_bad_shuns.F.kp x_refuse_bad_shuns.b .nil pass0 (pa_cons (pv 0) pa_nil)))
      (pss_cons (ps_comp rfl sc_seated_0 (pi_enum rfl T.n_enumerate (pa_cons (pv 0) pa_nil)) (fun _ _ _ => (pg_tup rfl (pgs_cons (pg_name (i := 0) sc_seated_0.nd rfl (Or.inl rfl)) (pgs_cons (pg_name (i := 1) sc_seated_0.nd rfl (Or.inl rfl)) pgs_nil)))) (fun _ _ _ => pif_one (pt_cmpR op_eq (pv 1) (pv 0) (nomark _))) (fun _ _ _ => (pv 0)) sc_seated.nd rfl rfl rfl (i := 2))
      (pss_cut (ps_if (pt_cmpR op_eq (pe_callB call_len_seq rfl T.n_len b_len (pa_cons (pv 2) pa_nil)) pe_int (nomark _)) (pss_cons (ps_set (i := 3) sc_seated.nd rfl (Or.inr rfl) (pe_ix ix_list (pv 2) pe_int (fun _ _ => rfl)))
      (pss_cons (ps_comp rfl sc_seated_1 (pi_enum rfl T.n_enumerate (pa_cons (pv 0) pa_nil)) (fun _ _ _ => (pg_tup rfl (pgs_cons (pg_name (i := 0) sc_seated_1.nd rfl (Or.inl rfl)) (pgs_cons (pg_name (i := 1) sc_seated_1.nd rfl (Or.inl rfl)) pgs_nil)))) (fun _ _ _ => pif_one (pt_cmpR op_ne (pv 1) (pv 2) (nomark _))) (fun _ _ _ => (pv 0)) sc_seated.nd rfl rfl rfl (i := 4))
      (pss_cons (ps_if (pt_not (pt_truth (pv 4) (fun _ => rfl))) (pss_one (ps_ret (pe_make ⟨x_Barred.mks, x_Barred___init__.me.at_, x_Barred___init__.me.fn, x_Barred.kc⟩ G_Barred___init__ hr rfl x_Barred.m x_Barred___init__.b .nil pass0 (pa_cons (pv 3) pa_nil)))) pss_nil)
      (pss_one (ps_expr (pe_bm PySem.F.plainAttrs_list PySem.F.slot_list_append PySem.F.type_list_append mt_append (pv 2) (pa_cons (pe_ix ix_list (pv 4) pe_int (fun _ _ => rfl)) pa_nil))))))) pss_nil)
      (pss_cons (ps_set (i := 5) sc_seated.nd rfl (Or.inl rfl) (pe_callTy (call_list_rng rfl) rfl T.n_list b_list (pa_cons (pe_callTy call_rng1 rfl T.n_range PyProof.Rows.boot_range (pa_cons (pe_callB call_len_seq rfl T.n_len b_len (pa_cons (pv 0) pa_nil)) pa_nil)) pa_nil)))
      (pss_cons (ps_for PassesOwn.never rfl (pi_enum rfl T.n_enumerate (pa_cons (pv 2) pa_nil)) (pg_tup rfl (pgs_cons (pg_name (i := 6) sc_seated.nd rfl (Or.inl rfl)) (pgs_cons (pg_name (i := 1) sc_seated.nd rfl (Or.inl rfl)) pgs_nil))) (pss_one (ps_asg (pe_ix ix_list (pv 2) (pe_op op_sub (pv 6) pe_int) (fun _ _ => rfl)) (pg_sub (pv 5) (pv 1) set_list))))
      (pss_one (ps_ret (pe_make ⟨x_Seated.mks, x_Seated___init__.me.at_, x_Seated___init__.me.fn, x_Seated.kc⟩ G_Seated___init__ hr rfl x_Seated.m x_Seated___init__.b .nil pass0 (pa_cons (pv 5) pa_nil)))))))))), ?_⟩
  refine ⟨_, rfl, a, xs, rfl, ha, by omega, hv, fun H1 s1 => ?_⟩
  have ha1 := s1 _ _ ha
  -- movers
  refine ⟨_, rfl, a, _, rfl, SqL.of ha1, fun D hD _ _ => ?_⟩
  refine comp_enum (a := a) (xs := xs.map V.int) (fun i ys σ H' => Same H1 H' ∧ H' D = some (.lst ys) ∧ ys = (gsel (own xs) i).map V.int ∧ ∃ u v, σ = [u, v])
    ⟨same_new hD _, upd_same, rfl, none, none, rfl⟩ (fun i ys σ H' _ ⟨s4, e4, _⟩ => ⟨SqL.of (s4 _ _ ha1), e4⟩) ?_ (fun i ys σ H' hi ⟨_, _, ey, _⟩ => ?_) ?_
  · rintro i x ys σ H' pp hi hpp ⟨s4, e4, rfl, u, v, rfl⟩
    obtain ⟨z, hz, rfl⟩ := lz_at hi
    have hil := (List.getElem?_eq_some_iff.mp hz).1
    have s5 : Same H' (upd H' pp (.tup [.int i, .int z])) := same_new hpp _
    have hg := gsel_len (own xs) i
    refine ⟨small1000 (by rw [lz_len]; omega), pp, _, rfl, SqT.of upd_same, rfl, _, _, rfl, _, _, rfl, rfl, ?_⟩
    refine ⟨_, rfl, _, rfl, rfl, _, rfl, ?_⟩
    refine if2 (fun c => ?_) (fun c => ?_)
    · have c' : z = (i : Int) := V.int.inj c
      refine ⟨_, rfl, s5 _ _ e4, same_upd (s4.trans s5) hD, upd_same, ?_, _, _, rfl⟩
      rw [gsel_yes (by unfold own; rw [getD_of hz, decide_eq_true c']), lz_snoc]
    · have c' : ¬ z = (i : Int) := fun e => c (by rw [e])
      refine ⟨s4.trans s5, s5 _ _ e4, ?_, _, _, rfl⟩
      rw [gsel_no (by unfold own; rw [getD_of hz, decide_eq_false c'])]
  · subst ey
    have hg := gsel_len (own xs) i
    rw [lz_len] at hi ⊢
    exact small1000 (by omega)
  rintro ys σ H2 ⟨s4, eD, rfl, u, v, rfl⟩
  rw [lz_len] at eD
  have s2 : Same H H2 := s1.trans s4
  have nD : H D = none := s1.free hD
  have hg := gsel_len (own xs) xs.length
  clear s4 hD ha1 s1
  -- one alone
  refine ⟨fun σ H' => ∃ (M : List Int), Same H H' ∧ H' D = some (lz M) ∧ M.Nodup ∧ M.length ≤ 64 ∧ (∀ x ∈ M, 0 ≤ x ∧ x < xs.length) ∧ offB xs (tab xs.length (fun g => cyc M (g : Int))) = true ∧ ∃ v3 v4, σ = [some (.ref a), none, some (.ref D), v3, v4, none, none], ?_, ?_⟩
  · refine ⟨_, rfl, D, _, rfl, .inl (SqL.of eD), rfl, _, rfl, ?_⟩
    rw [lz_len]
    by_cases h1 : (gsel (own xs) xs.length).length = 1
    rotate_left
    · refine ifN (fun z => h1 (by have := V.int.inj z; omega)) ?_
      refine ⟨_, s2, eD, gsel_nodup _ _, by omega, fun x hx => ?_, seat_many h1, _, _, rfl⟩
      obtain ⟨g, hg, _, rfl⟩ := gsel_mem.mp hx
      omega
    refine ifY (by rw [h1]; rfl) ?_
    obtain ⟨lo, hlo⟩ := List.length_eq_one_iff.mp h1
    rw [hlo] at eD
    refine ⟨_, rfl, D, _, _, _, rfl, rfl, SqL.of eD, atI_of 0 rfl (lz_get (xs := [lo]) rfl), ?_⟩
    -- partners
    have ha2 := s2 _ _ ha
    refine ⟨_, rfl, a, _, rfl, SqL.of ha2, fun D2 hD2 _ _ => ?_⟩
    refine comp_enum (a := a) (xs := xs.map V.int) (fun i ys σ H' => Same H2 H' ∧ H' D2 = some (.lst ys) ∧ ys = (gsel (other xs lo) i).map V.int ∧ ∃ u v, σ = [u, v, some (.int lo)])
      ⟨same_new hD2 _, upd_same, rfl, none, none, rfl⟩ (fun i ys σ H' _ ⟨s4, e4, _⟩ => ⟨SqL.of (s4 _ _ ha2), e4⟩) ?_ (fun i ys σ H' hi ⟨_, _, ey, _⟩ => ?_) ?_
    · rintro i x ys σ H' pp hi hpp ⟨s4, e4, rfl, u, v, rfl⟩
      obtain ⟨z, hz, rfl⟩ := lz_at hi
      have hil := (List.getElem?_eq_some_iff.mp hz).1
      have s5 : Same H' (upd H' pp (.tup [.int i, .int z])) := same_new hpp _
      have hg := gsel_len (other xs lo) i
      refine ⟨small1000 (by rw [lz_len]; omega), pp, _, rfl, SqT.of upd_same, rfl, _, _, rfl, _, _, rfl, rfl, ?_⟩
      refine ⟨_, rfl, _, rfl, rfl, _, rfl, ?_⟩
      by_cases c : z = lo
      · refine ifNN (by rw [c]) ?_
        refine ⟨s4.trans s5, s5 _ _ e4, ?_, _, _, rfl⟩
        rw [gsel_no (by unfold other; rw [getD_of hz, decide_eq_false (fun e => e c)])]
      · refine ifNY (vi_ne c) ?_
        refine ⟨_, rfl, s5 _ _ e4, same_upd (s4.trans s5) hD2, upd_same, ?_, _, _, rfl⟩
        rw [gsel_yes (by unfold other; rw [getD_of hz, decide_eq_true c]), lz_snoc]
    · subst ey
      have hg := gsel_len (other xs lo) i
      rw [lz_len] at hi ⊢
      exact small1000 (by omega)
    rintro ys σ H3 ⟨s4, eP, rfl, u, v, rfl⟩
    rw [lz_len] at eP
    have s3 : Same H H3 := s2.trans s4
    have eD3 := s4 _ _ eD
    have nPD : D2 ≠ D := (ne_of_none eD hD2).symm
    clear s4 hD2
    refine ⟨_, rfl, _, .inl ⟨_, SqL.of eP, rfl⟩, ?_⟩
    cases hP : gsel (other xs lo) xs.length with
    | nil =>
      refine iteT ?_
      refine ⟨_, rfl, fun p dx np ndx nex => ?_⟩
      have s5 : Same H3 (upd (upd H3 dx (.own p)) p (.ins CB dx [])) := fun b o e => by
        rw [upd_ne (ne_of_none e np), upd_ne (ne_of_none e ndx)]
        exact e
      refine ⟨p, dx, lo, rfl, upd_same, fun H' kp at_ => ⟨rfl, ?_⟩⟩
      exact qB p lo H' (fun b o e => kp b o (ne_of_none (s3 _ _ e) np) (s5 _ _ (s3 _ _ e))) (s3.free np) at_ (seat_bar hlo hP)
    | cons pa ps =>
      refine iteF ?_
      rw [hP] at eP
      have hq : pa ∈ gsel (other xs lo) xs.length := by rw [hP]; exact List.mem_cons_self
      refine ⟨_, rfl, .inl ⟨rfl, _, SqL.of eD3⟩, _, rfl, D2, _, _, _, rfl, rfl, SqL.of eP, atI_of 0 rfl (lz_get (xs := pa :: ps) rfl), D, _, _, rfl, rfl, eD3, small1000 (by simp), ?_⟩
      obtain ⟨t1, t2⟩ := two_fact hlo hq
      exact ⟨[lo, pa], same_upd s3 nD, upd_same, t1, by simp, t2, seat_two hlo hq, _, _, rfl⟩
  rintro σ H3 ⟨M, s3, eM, hMn, hMl, hMr, hoff, v3, v4, rfl⟩
  have ha3 := s3 _ _ ha
  clear s2 eD hg
  -- the seating
  refine ⟨_, rfl, a, _, rfl, .inl (SqL.of ha3), ?_⟩
  refine ⟨_, rfl, fun r0 hr0 => ⟨r0, (xs.map V.int).length, rfl, upd_same, by rw [lz_len]; omega, fun l hl0 => ?_⟩⟩
  rw [lz_len] at hl0 ⊢
  rw [rng_lz]
  obtain ⟨s4, nl⟩ := lr_facts (lz (rngI xs.length)) hr0 hl0
  have el : (upd (upd H3 r0 (.rng 0 (xs.length : Int))) l (lz (rngI xs.length))) l = some (lz (rngI xs.length)) := upd_same
  generalize (upd (upd H3 r0 (.rng 0 (xs.length : Int))) l (lz (rngI xs.length))) = H4 at s4 el ⊢
  have eM4 := s4 _ _ eM
  have nMl : D ≠ l := ne_of_none eM nl
  refine ⟨_, rfl, D, _, rfl, SqL.of eM4, ?_⟩
  refine for_enum (K := K) (a := D) (xs := M.map V.int) (fun i σ H' => (∀ b o, b ≠ l → H4 b = some o → H' b = some o) ∧ H' l = some (lz (cycN M xs.length i)) ∧ ∃ v1 v6, σ = [some (.ref a), v1, some (.ref D), v3, v4, some (.ref l), v6])
    ⟨fun _ _ _ e => e, by rw [cycN_zero]; exact el, none, none, rfl⟩ (fun i σ H' _ ⟨kp, _⟩ => SqL.of (kp _ _ nMl eM4)) ?_ ?_
  · rintro i x σ H' pp hi hpp ⟨kp, e5, v1, v6, rfl⟩
    obtain ⟨z, hz, rfl⟩ := lz_at hi
    have hzr := hMr z (List.mem_of_getElem? hz)
    have s5 : Same H' (upd H' pp (.tup [.int i, .int z])) := same_new hpp _
    have eM5 := s5 _ _ (kp _ _ nMl eM4)
    refine ⟨pp, _, rfl, SqT.of upd_same, rfl, _, _, rfl, _, _, rfl, rfl, ?_⟩
    refine ⟨_, rfl, _, rfl, _, _, rfl, rfl, D, _, _, _, rfl, rfl, SqL.of eM5, at_prev hMn hz, ?_⟩
    refine ⟨_, rfl, _, rfl, l, _, _, z.toNat, rfl, rfl, s5 _ _ e5, ixN_of z.toNat (by omega) (by rw [lz_len]; unfold cycN; rw [tab_length]; omega), ?_⟩
    refine ⟨fun b o hb e => by rw [upd_ne hb]; exact s5 _ _ (kp b o hb e), ?_, _, _, rfl⟩
    rw [upd_same, lz_set]
    have := cycN_step xs.length hMn (i := i) (a := z.toNat) (by rw [hz]; congr 1; omega)
    rw [show ((z.toNat : Nat) : Int) = z by omega] at this
    rw [this]
  rintro σ H5 ⟨kp, e5, v1, v6, rfl⟩
  rw [lz_len, cycN_full] at e5
  have s5 : Same H H5 := fun b o e => kp b o (ne_of_none (s3 _ _ e) nl) (s4 _ _ (s3 _ _ e))
  refine ⟨_, rfl, fun p dx np ndx nex => ?_⟩
  have s6 : Same H5 (upd (upd H5 dx (.own p)) p (.ins CS dx [])) := fun b o e => by
    rw [upd_ne (ne_of_none e np), upd_ne (ne_of_none e ndx)]
    exact e
  refine ⟨p, dx, l, _, rfl, upd_same, s6 _ _ e5, fun l2 H' nl2 kp2 at_ => ⟨rfl, ?_⟩⟩
  exact qS p l2 _ H' (fun b o e => kp2 b o (ne_of_none (s5 _ _ e) np) (s6 _ _ (s5 _ _ e))) (s5.free np) (s5.free (s6.free nl2)) at_ hoff
end
end OS

set_option Elab.async false
set_option linter.all false
set_option maxRecDepth 100000
set_option maxHeartbeats 1000000
namespace OS
open PySem L2
abbrev s__law_cell_at : Stmt := top 16
theorem sc__law_cell_at : FnScope ["_law_script", "_law_k"] ["_law_script", "_law_k"] (defScope s__law_cell_at) := ⟨rfl, rfl, rfl, by decide +kernel, rfl, by decide +kernel, by decide +kernel⟩
abbrev s__law_draw : Stmt := top 17
theorem sc__law_draw : FnScope ["_law_cell", "_law_k", "_law_many", "_law_primes"] ["_law_cell", "_law_k", "_law_many"] (defScope s__law_draw) := ⟨rfl, rfl, rfl, by decide +kernel, rfl, by decide +kernel, by decide +kernel⟩
abbrev s__law_whole : Stmt := top 22
theorem sc__law_whole : FnScope ["_law_number"] ["_law_number"] (defScope s__law_whole) := ⟨rfl, rfl, rfl, by decide +kernel, rfl, by decide +kernel, by decide +kernel⟩
abbrev s__law_shuns : Stmt := top 18
theorem sc__law_shuns : FnScope ["_law_script", "_law_kind", "_law_size", "_law_found", "_law_one"] ["_law_script"] (defScope s__law_shuns) := ⟨rfl, rfl, rfl, by decide +kernel, rfl, by decide +kernel, by decide +kernel⟩
theorem sc__law_shuns_0 : CompSc ["_law_script", "_law_kind", "_law_size", "_law_found", "_law_one"] (defScope s__law_shuns) ({ kind := PySem.ScopeKind.function, names := [ (PySem.Str.ofString ".0", PySem.NameKind.local), (PySem.Str.ofString "_law_cell", PySem.NameKind.local), (PySem.Str.ofString "_law_size", PySem.NameKind.free)], isGenerator := false, isCoroutine := false, more := [] : PySem.Scope }) ["_law_cell", "_law_size"] 1 [2] :=
  ⟨rfl, by decide +kernel, by decide +kernel, by decide +kernel, by decide +kernel, rfl, by decide +kernel, by decide +kernel, by decide +kernel⟩
theorem sc__law_shuns_1 : CompSc ["_law_script", "_law_kind", "_law_size", "_law_found", "_law_one"] (defScope s__law_shuns) ({ kind := PySem.ScopeKind.function, names := [ (PySem.Str.ofString ".0", PySem.NameKind.local), (PySem.Str.ofString "_law_k", PySem.NameKind.local), (PySem.Str.ofString "_law_draw", PySem.NameKind.globalImplicit), (PySem.Str.ofString "_law_cell_at", PySem.NameKind.globalImplicit), (PySem.Str.ofString "_law_script", PySem.NameKind.free), (PySem.Str.ofString "_law_size", PySem.NameKind.free)], isGenerator := false, isCoroutine := false, more := [] : PySem.Scope }) ["_law_k", "_law_script", "_law_size"] 1 [0, 2] :=
  ⟨rfl, by decide +kernel, by decide +kernel, by decide +kernel, by decide +kernel, rfl, by decide +kernel, by decide +kernel, by decide +kernel⟩
theorem sc__law_shuns_2 : CompSc ["_law_script", "_law_kind", "_law_size", "_law_found", "_law_one"] (defScope s__law_shuns) ({ kind := PySem.ScopeKind.function, names := [ (PySem.Str.ofString ".0", PySem.NameKind.local), (PySem.Str.ofString "_law_seat", PySem.NameKind.local), (PySem.Str.ofString "_law_size", PySem.NameKind.free)], isGenerator := false, isCoroutine := false, more := [] : PySem.Scope }) ["_law_seat", "_law_size"] 1 [2] :=
  ⟨rfl, by decide +kernel, by decide +kernel, by decide +kernel, by decide +kernel, rfl, by decide +kernel, by decide +kernel, by decide +kernel⟩
theorem sc__law_shuns_3 : CompSc ["_law_script", "_law_kind", "_law_size", "_law_found", "_law_one"] (defScope s__law_shuns) ({ kind := PySem.ScopeKind.function, names := [ (PySem.Str.ofString ".0", PySem.NameKind.local), (PySem.Str.ofString "_law_cell", PySem.NameKind.local), (PySem.Str.ofString "_law_kind", PySem.NameKind.free), (PySem.Str.ofString "_law_one", PySem.NameKind.free), (PySem.Str.ofString "_law_size", PySem.NameKind.free)], isGenerator := false, isCoroutine := false, more := [] : PySem.Scope }) ["_law_cell", "_law_kind", "_law_one", "_law_size"] 1 [1, 4, 2] :=
  ⟨rfl, by decide +kernel, by decide +kernel, by decide +kernel, by decide +kernel, rfl, by decide +kernel, by decide +kernel, by decide +kernel⟩
theorem sc__law_shuns_4 : CompSc ["_law_script", "_law_kind", "_law_size", "_law_found", "_law_one"] (defScope s__law_shuns) ({ kind := PySem.ScopeKind.function, names := [ (PySem.Str.ofString ".0", PySem.NameKind.local), (PySem.Str.ofString "_law_k", PySem.NameKind.local), (PySem.Str.ofString "_law_seat", PySem.NameKind.local), (PySem.Str.ofString "_law_script", PySem.NameKind.free)], isGenerator := false, isCoroutine := false, more := [] : PySem.Scope }) ["_law_k", "_law_seat", "_law_script"] 2 [0] :=
  ⟨rfl, by decide +kernel, by decide +kernel, by decide +kernel, by decide +kernel, rfl, by decide +kernel, by decide +kernel, by decide +kernel⟩
abbrev s__law_off : Stmt := top 20
theorem sc__law_off : FnScope ["_law_shuns_here", "_law_found"] ["_law_shuns_here", "_law_found"] (defScope s__law_off) := ⟨rfl, rfl, rfl, by decide +kernel, rfl, by decide +kernel, by decide +kernel⟩
theorem sc__law_off_0 : CompSc ["_law_shuns_here", "_law_found"] (defScope s__law_off) ({ kind := PySem.ScopeKind.function, names := [ (PySem.Str.ofString ".0", PySem.NameKind.local), (PySem.Str.ofString "_law_seat", PySem.NameKind.local), (PySem.Str.ofString "_law_whole", PySem.NameKind.globalImplicit)], isGenerator := false, isCoroutine := false, more := [] : PySem.Scope }) ["_law_seat"] 1 [] :=
  ⟨rfl, by decide +kernel, by decide +kernel, by decide +kernel, by decide +kernel, rfl, by decide +kernel, by decide +kernel, by decide +kernel⟩
theorem sc__law_off_1 : CompSc ["_law_shuns_here", "_law_found"] (defScope s__law_off) ({ kind := PySem.ScopeKind.function, names := [ (PySem.Str.ofString ".0", PySem.NameKind.local), (PySem.Str.ofString "_law_seat", PySem.NameKind.local), (PySem.Str.ofString "_law_other", PySem.NameKind.local)], isGenerator := false, isCoroutine := false, more := [] : PySem.Scope }) ["_law_seat", "_law_other"] 2 [] :=
  ⟨rfl, by decide +kernel, by decide +kernel, by decide +kernel, by decide +kernel, rfl, by decide +kernel, by decide +kernel, by decide +kernel⟩
abbrev s__law_says : Stmt := top 23
theorem sc__law_says : FnScope ["_law_said", "_law_due"] ["_law_said", "_law_due"] (defScope s__law_says) := ⟨rfl, rfl, rfl, by decide +kernel, rfl, by decide +kernel, by decide +kernel⟩
abbrev s__law_bent : Stmt := top 24
theorem sc__law_bent : FnScope ["_law_some", "_law_cell", "_law_size", "_law_kind", "_law_strange", "_law_at", "_law_other", "_law_found"] ["_law_some", "_law_cell", "_law_size"] (defScope s__law_bent) := ⟨rfl, rfl, rfl, by decide +kernel, rfl, by decide +kernel, by decide +kernel⟩
abbrev s_law : Stmt := top 25
theorem sc_law : FnScope ["_law_script", "_law_shuns_here", "_law_size", "_law_one", "_law_some", "_law_found", "_law_start", "_law_k", "_law_cell", "_law_seating", "_law_handed", "_law_answer", "_law_seat", "_law_due"] ["_law_script"] (defScope s_law) := ⟨rfl, rfl, rfl, by decide +kernel, rfl, by decide +kernel, by decide +kernel⟩
section
variable {P : Program} {w : World} {K : PySem.W.Frag} {mg : Str → Option Value} {base : Heap}
/-! a cell of the script: some int -/
def spCell (K : PySem.W.Frag) : Sp := fun vs H Q _ => ∃ (a : Addr) (ns : List Int) (k : Nat), vs = [.ref a, .int k] ∧ SqL K H a (ns.map V.int) ∧ ∀ v : Int, Q (.int v) H
theorem ok_law_cell_at {f : Addr} {fd : FuncData} (T : Nm mg) (F : Fun K "_law_cell_at" "_law_cell_at" s__law_cell_at f fd) : FnOk P w K mg base CX0 1 f fd ["_law_script", "_law_k"] (spCell K) := by
  refine F.ok sc__law_cell_at (fun vs H Q E h => ?_) (fun cdv A outer s H vs Q E hr h => ?_)
  · obtain ⟨a, ns, k, rfl, _⟩ := h
    rfl
  obtain ⟨a, ns, k, rfl, ha, q⟩ := h
  refine ⟨_, (pss_of (l := [_, _]) rfl (pss_cons (ps_if (pt_cmpR op_lt (pv 1) (pe_callB call_len_seq rfl T.n_len b_len (pa_cons (pv 0) pa_nil)) (nomark _)) (pss_one (ps_ret (pe_ix ix_list (pv 0) (pv 1) (fun _ _ => rfl)))) pss_nil)
      (pss_one (ps_ret pe_int)))), ?_⟩
  refine ⟨_, rfl, _, rfl, a, _, rfl, .inl ha, _, _, rfl, rfl, _, rfl, ?_⟩
  refine if2 (fun c => ?_) (fun c => ?_)
  · rw [lz_len] at c
    have hk : k < ns.length := by omega
    exact ⟨_, rfl, _, rfl, a, _, _, _, rfl, rfl, ha, atI_of k rfl (lz_get (List.getElem?_eq_getElem hk)), q _⟩
  · exact q 0
/-! a draw: some int below the third -/
theorem primes_at (j : Nat) (hj : j < 16) : ∃ z : Int, ([V.int 1000003, V.int 1000033, V.int 1000037, V.int 1000039, V.int 1000081, V.int 1000099, V.int 1000117, V.int 1000121, V.int 1000133, V.int 1000151, V.int 1000159, V.int 1000171, V.int 1000183, V.int 1000187, V.int 1000193, V.int 1000199] : List V)[j]? = some (V.int z) ∧ 0 < z := by
  have h : j = 0 ∨ j = 1 ∨ j = 2 ∨ j = 3 ∨ j = 4 ∨ j = 5 ∨ j = 6 ∨ j = 7 ∨ j = 8 ∨ j = 9 ∨ j = 10 ∨ j = 11 ∨ j = 12 ∨ j = 13 ∨ j = 14 ∨ j = 15 := by omega
  rcases h with h | h | h | h | h | h | h | h | h | h | h | h | h | h | h | h <;> subst h <;> exact ⟨_, rfl, by decide⟩
def spDraw : Sp := fun vs H Q _ => ∃ (c k m : Int), vs = [.int c, .int k, .int m] ∧ 0 ≤ k ∧ 0 < m ∧ ∀ (r : Int) (H' : Hp), 0 ≤ r → r < m → Same H H' → Q (.int r) H'
theorem ok_law_draw {f : Addr} {fd : FuncData} (F : Fun K "_law_draw" "_law_draw" s__law_draw f fd) : FnOk P w K mg base CX0 1 f fd ["_law_cell", "_law_k", "_law_many"] spDraw := by
  refine F.ok sc__law_draw (fun vs H Q E h => ?_) (fun cdv A outer s H vs Q E hr h => ?_)
  · obtain ⟨c, k, m, rfl, _⟩ := h
    rfl
  obtain ⟨c, k, m, rfl, hk, hm, q⟩ := h
  obtain ⟨es, p1, p2, p3, st2, hb, hc, h2⟩ : ∃ es p1 p2 p3 st2, defBody s__law_draw = [.Assign [.Name "_law_primes" p1] (.Tuple es 0 p2) p3, st2] ∧
      IsConsts es [1000003, 1000033, 1000037, 1000039, 1000081, 1000099, 1000117, 1000121, 1000133, 1000151, 1000159, 1000171, 1000183, 1000187, 1000193, 1000199] ∧ st2 = (defBody s__law_draw).getD 1 (.Pass ⟨0, 0, 0, 0⟩) :=
    ⟨_, _, _, _, _, rfl, (.cons (.cons (.cons (.cons (.cons (.cons (.cons (.cons (.cons (.cons (.cons (.cons (.cons (.cons (.cons (.cons .nil)))))))))))))))), rfl⟩
  rw [hb]
  refine ⟨_, pss_cons (ps_set (i := 3) sc__law_draw.nd rfl (Or.inl rfl) (pe_tup (pa_consts hc)))
    (pss_one (ps_of h2 (ps_ret (pe_op op_mod (pe_op op_mod (pe_op op_add (pe_op op_mul (pv 0) pe_int) (pe_op op_mul (pv 1) pe_int)) (pe_ix ix_tup (pv 3) (pe_op op_mod (pv 1) pe_int) (fun _ _ => rfl))) (pv 2))))), ?_⟩
  refine ⟨(by rw [List.length_map]; show 16 ≤ sizeLine; decide), fun p hp => ?_⟩
  have h16 : (k % 16).toNat < 16 := by omega
  obtain ⟨z, hz, hz0⟩ := primes_at (k % 16).toNat h16
  refine ⟨_, rfl, _, _, rfl, rfl, .inr ⟨by omega, by omega⟩, ?_⟩
  refine ⟨_, rfl, _, _, rfl, rfl, .inr ⟨by omega, by omega⟩, _, _, rfl, rfl, ?_⟩
  refine ⟨_, rfl, _, rfl, _, _, rfl, rfl, (by show (0 : Int) < 16; decide), ?_⟩
  refine ⟨p, _, _, _, rfl, rfl, SqT.of upd_same, atI_of (k % 16).toNat (by omega) hz, _, _, rfl, rfl, hz0, _, rfl, _, _, rfl, rfl, hm, ?_⟩
  exact q _ _ (Int.emod_nonneg _ (by omega)) (Int.emod_lt_of_pos _ hm) (same_new hp _)
/-! _law_whole -/
theorem ok_law_whole {f : Addr} {fd : FuncData} (T : Nm mg) (F : Fun K "_law_whole" "_law_whole" s__law_whole f fd) : FnOk P w K mg base CX0 1 f fd ["_law_number"] spIsW := by
  refine F.ok sc__law_whole (fun vs H Q E h => ?_) (fun cdv A outer s H vs Q E hr h => ?_)
  · obtain ⟨i, rfl, _⟩ := h
    rfl
  obtain ⟨i, rfl, q⟩ := h
  refine ⟨_, (pss_of (l := [_]) rfl (pss_one (ps_ret (pe_and (pe_callB call_isT rfl T.n_isinstance b_isinstance (pa_cons (pv 0) (pa_cons (pe_bltn (v := V.ty "int") rfl T.n_int b_int rfl) pa_nil))) (pe_one (pe_not (pe_callB call_isT rfl T.n_isinstance b_isinstance (pa_cons (pv 0) (pa_cons (pe_bltn (v := V.ty "bool") rfl T.n_bool b_bool rfl) pa_nil))))))))), ?_⟩
  refine ⟨_, rfl, _, _, _, _, rfl, .int i, kit_same _ _, true, rfl, ?_⟩
  refine iteT ?_
  exact ⟨_, rfl, _, _, _, _, rfl, .int i, kit_int_bool _, false, rfl, q⟩
end
end OS

set_option Elab.async false
set_option linter.all false
set_option maxRecDepth 100000
set_option maxHeartbeats 1000000
namespace OS
open PySem L2
section
variable {P : Program} {w : World} {K : PySem.W.Frag} {mg : Str → Option Value} {base : Heap}
/-! _law_shuns: shuns that are good, of as many guests as the script has numbers -/
structure Good (n : Nat) (xs : List Int) : Prop where
  len : xs.length = n
  ok : ∀ x ∈ xs, -1 ≤ x ∧ x < n
def GoodPre (n i : Nat) (ys : List V) : Prop := ∃ zs : List Int, ys = zs.map V.int ∧ zs.length = i ∧ ∀ z ∈ zs, -1 ≤ z ∧ z < n
theorem GoodPre.nil (n : Nat) : GoodPre n 0 [] := ⟨[], rfl, rfl, by simp⟩
theorem GoodPre.snoc {n i : Nat} {ys : List V} {z : Int} (h : GoodPre n i ys) (h1 : -1 ≤ z) (h2 : z < n) : GoodPre n (i + 1) (ys ++ [.int z]) := by
  obtain ⟨zs, rfl, rfl, h⟩ := h
  refine ⟨zs ++ [z], by simp, by simp, fun u hu => ?_⟩
  rcases List.mem_append.mp hu with hu | hu
  · exact h u hu
  · rw [List.mem_singleton.mp hu]; exact ⟨h1, h2⟩
theorem GoodPre.size {n i : Nat} {ys : List V} (h : GoodPre n i ys) (hi : i ≤ 100) : ys.length < sizeLine := by
  obtain ⟨zs, rfl, rfl, _⟩ := h
  rw [List.length_map]
  exact small1000 (by omega)
theorem GoodPre.good {n : Nat} {ys : List V} (h : GoodPre n n ys) : ∃ zs : List Int, ys = zs.map V.int ∧ Good n zs := by
  obtain ⟨zs, rfl, hl, hv⟩ := h
  exact ⟨zs, rfl, hl, hv⟩
theorem cut63 {xs : List V} (h : xs.length ≤ 63) : cutV xs none (some 63) = xs := by
  unfold cutV
  rw [HT.sIx_none, show HT.sIx xs.length xs.length (some 63) = min 63 xs.length from HT.sIx_nat _ _ 63, List.drop_zero, Nat.sub_zero]
  exact List.take_of_length_le (by omega)
def spShuns (K : PySem.W.Frag) : Sp := fun vs H Q _ => ∃ (a : Addr) (ns : List Int), vs = [.ref a] ∧ SqL K H a (ns.map V.int) ∧ ns.length ≤ 63 ∧
  ∀ (r : Addr) (H' : Hp) (xs : List Int), Same H H' → H r = none → H' r = some (lz xs) → Good ns.length xs → Q (.ref r) H'
/-- between two statements -/
def ShI (H0 : Hp) (p : Addr) (kd : Int) (ns : List Int) (σ : St) (H : Hp) : Prop :=
  Same H0 H ∧ H p = some (lz ns) ∧ ∃ (r : Addr) (xs : List Int) (v : Option V), σ = [some (.ref p), some (.int kd), some (.int (ns.length : Int)), some (.ref r), v] ∧ H0 r = none ∧ H r = some (lz xs) ∧ Good ns.length xs
theorem mod_good (c : Int) (n : Nat) : -1 ≤ c % ((n : Int) + 1) - 1 ∧ c % ((n : Int) + 1) - 1 < n := by
  have h1 := Int.emod_nonneg c (show (n : Int) + 1 ≠ 0 by omega)
  have h2 := Int.emod_lt_of_pos c (show (0 : Int) < (n : Int) + 1 by omega)
  omega
theorem ok_law_shuns {f f1 f2 : Addr} {fd fd1 fd2 : FuncData} (T : Nm mg) (F : Fun K "_law_shuns" "_law_shuns" s__law_shuns f fd)
    (x__law_draw : Fx K mg "_law_draw" ["_law_cell", "_law_k", "_law_many"] s__law_draw f1 fd1) (x__law_cell_at : Fx K mg "_law_cell_at" ["_law_script", "_law_k"] s__law_cell_at f2 fd2) :
    FnOk P w K mg base CX0 2 f fd ["_law_script"] (spShuns K) := by
  have G__law_draw : FnOk P w K mg base CX0 1 f1 fd1 ["_law_cell", "_law_k", "_law_many"] spDraw := ok_law_draw x__law_draw.F
  have G__law_cell_at : FnOk P w K mg base CX0 1 f2 fd2 ["_law_script", "_law_k"] (spCell K) := ok_law_cell_at T x__law_cell_at.F
  refine F.ok sc__law_shuns (fun vs H Q E h => ?_) (fun cdv A outer s H vs Q E hr h => ?_)
  · obtain ⟨a, ns, rfl, _⟩ := h
    rfl
  obtain ⟨a, ns, rfl, ha, hl, q⟩ := h
  refine ⟨_, (pss_of (l := [_, _, _, _, _, _, _, _]) rfl (pss_cons (ps_set (i := 0) sc__law_shuns.nd rfl (Or.inr rfl) (pe_slice sl_list (pv 0) po_none (po_some pe_int)))
      (pss_cons (ps_asg (pe_tup (pa_cons (pe_call G__law_draw hr rfl x__law_draw.m x__law_draw.F.kp x__law_draw.b .nil pass0 (pa_cons (pe_call G__law_cell_at hr rfl x__law_cell_at.m x__law_cell_at.F.kp x__law_cell_at.b .nil pass0 (pa_cons (pv 0) (pa_cons pe_int pa_nil))) (pa_cons pe_int (pa_cons pe_int pa_nil)))) (pa_cons (pe_callB call_len_seq rfl T.n_len b_len (pa_cons (pv 0) pa_nil)) pa_nil))) (pg_tup rfl (pgs_cons (pg_name (i := 1) sc__law_shuns.nd rfl (Or.inr rfl)) (pgs_cons (pg_name (i := 2) sc__law_shuns.nd rfl (Or.inr rfl)) pgs_nil))))
      (pss_cons (ps_comp rfl sc__law_shuns_0 (pi_list (pv 0)) (fun _ _ _ => (pg_name (i := 0) sc__law_shuns_0.nd rfl (Or.inl rfl))) (fun _ _ _ => pif_nil) (fun _ _ _ => (pe_op op_sub (pe_op op_mod (pv 0) (pe_op op_add (pv 1) pe_int)) pe_int)) sc__law_shuns.nd rfl rfl rfl (i := 3))
      (pss_cut (ps_if (pt_cmpR op_eq (pv 1) pe_int (nomark _)) (pss_one (ps_comp rfl sc__law_shuns_1 (pi_range1 rfl T.n_range (pa_cons (pv 2) pa_nil)) (fun _ _ _ => (pg_name (i := 0) sc__law_shuns_1.nd rfl (Or.inl rfl))) (fun _ _ _ => pif_nil) (fun _ _ _ => (pe_op op_mod (pe_op op_add (pv 0) (pe_call G__law_draw hr rfl x__law_draw.m x__law_draw.F.kp x__law_draw.b .nil pass0 (pa_cons (pe_call G__law_cell_at hr rfl x__law_cell_at.m x__law_cell_at.F.kp x__law_cell_at.b .nil pass0 (pa_cons (pv 1) (pa_cons pe_int pa_nil))) (pa_cons pe_int (pa_cons (pv 2) pa_nil))))) (pv 2))) sc__law_shuns.nd rfl rfl rfl (i := 3))) pss_nil)
      (pss_cut (ps_if (pt_cmpR op_eq (pv 1) pe_int (nomark _)) (pss_one (ps_comp rfl sc__law_shuns_2 (pi_list (pv 3)) (fun _ _ _ => (pg_name (i := 0) sc__law_shuns_2.nd rfl (Or.inl rfl))) (fun _ _ _ => pif_nil) (fun _ _ _ => (pe_ifExp (pt_cmpR op_gt (pv 1) pe_int (nomark _)) (pe_op op_mod (pv 0) pe_int) (pv 0))) sc__law_shuns.nd rfl rfl rfl (i := 3))) pss_nil)
      (pss_cut (ps_if (pt_cmpR op_in_seq (pv 1) (pe_tup (pa_cons pe_int (pa_cons pe_int pa_nil))) (by with_unfolding_all rfl)) (pss_cons (ps_set (i := 4) sc__law_shuns.nd rfl (Or.inr rfl) (pe_call G__law_draw hr rfl x__law_draw.m x__law_draw.F.kp x__law_draw.b .nil pass0 (pa_cons (pe_call G__law_cell_at hr rfl x__law_cell_at.m x__law_cell_at.F.kp x__law_cell_at.b .nil pass0 (pa_cons (pv 0) (pa_cons pe_int pa_nil))) (pa_cons pe_int (pa_cons (pe_callB (call_max2 rfl) rfl T.n_max b_max (pa_cons pe_int (pa_cons (pv 2) pa_nil))) pa_nil)))))
      (pss_one (ps_comp rfl sc__law_shuns_3 (pi_list (pv 0)) (fun _ _ _ => (pg_name (i := 0) sc__law_shuns_3.nd rfl (Or.inl rfl))) (fun _ _ _ => pif_nil) (fun _ _ _ => (pe_ifExp (PW.pt (pw_or (pt_cmpR op_eq (pv 1) pe_int (nomark _)) (pw_or1 (pt_cmpR op_gt (pe_op op_mod (pe_op op_fdiv (pv 0) pe_int) pe_int) pe_int (nomark _))))) (pv 2) (pe_op op_sub (pe_op op_mod (pv 0) (pe_op op_add (pv 3) pe_int)) pe_int))) sc__law_shuns.nd rfl rfl rfl (i := 3)))) pss_nil)
      (pss_cut (ps_if (pt_cmpR op_eq (pv 1) pe_int (nomark _)) (pss_one (ps_comp rfl sc__law_shuns_4 (pi_enum rfl T.n_enumerate (pa_cons (pv 3) pa_nil)) (fun _ _ _ => (pg_tup rfl (pgs_cons (pg_name (i := 0) sc__law_shuns_4.nd rfl (Or.inl rfl)) (pgs_cons (pg_name (i := 1) sc__law_shuns_4.nd rfl (Or.inl rfl)) pgs_nil)))) (fun _ _ _ => pif_nil) (fun _ _ _ => (pe_ifExp (pt_cmpR op_eq (pe_op op_mod (pe_op op_fdiv (pe_ix ix_list (pv 2) (pv 0) (fun _ _ => rfl)) pe_int) pe_int) pe_int (nomark _)) (pv 1) (pe_un un_neg pe_int))) sc__law_shuns.nd rfl rfl rfl (i := 3))) pss_nil)
      (pss_one (ps_ret (pv 3))))))))))), ?_⟩
  -- _law_script = _law_script[:63]
  refine ⟨_, rfl, _, rfl, a, _, rfl, ha, fun p hp => ?_⟩
  rw [cut63 (by rw [lz_len]; exact hl)]
  have s0 : Same H (upd H p (lz ns)) := same_new hp _
  have e0 : (upd H p (lz ns)) p = some (lz ns) := upd_same
  generalize (upd H p (lz ns)) = H1 at s0 e0 ⊢
  -- the kind, the size
  refine ⟨_, rfl, p, ns, 0, rfl, SqL.of e0, fun c0 => ?_⟩
  refine ⟨c0, 6, 7, rfl, by decide, by decide, fun kd H2 k0 k7 s2 => ?_⟩
  have e2 := s2 _ _ e0
  refine ⟨_, rfl, p, _, rfl, .inl (SqL.of e2), (by show 2 ≤ sizeLine; decide), fun tp htp => ?_⟩
  refine ⟨tp, _, rfl, SqT.of upd_same, rfl, _, _, rfl, _, _, rfl, rfl, ?_⟩
  rw [lz_len]
  have s3 : Same H (upd H2 tp (.tup [.int kd, .int (ns.length : Int)])) := s0.trans (s2.trans (same_new htp _))
  have e3 : (upd H2 tp (.tup [.int kd, .int (ns.length : Int)])) p = some (lz ns) := same_new htp _ _ _ e2
  generalize (upd H2 tp (.tup [.int kd, .int (ns.length : Int)])) = H3 at s3 e3 ⊢
  -- the first list
  refine ⟨_, rfl, p, rfl, ⟨_, SqL.of e3⟩, fun D hD _ _ => ?_⟩
  refine comp_list (K := K) (a := p) (xs := ns.map V.int) (fun i ys σ H' => Same H3 H' ∧ H' D = some (.lst ys) ∧ GoodPre ns.length i ys ∧ ∃ u, σ = [u, some (.int (ns.length : Int))])
    ⟨same_new hD _, upd_same, GoodPre.nil _, none, rfl⟩ (fun i ys σ H' _ ⟨s4, e4, _⟩ => ⟨SqL.of (s4 _ _ e3), e4⟩) ?_ ?_
  · rintro i x ys σ H' hi ⟨s4, e4, g4, u, rfl⟩
    have hil := (List.getElem?_eq_some_iff.mp hi).1
    rw [lz_len] at hil
    obtain ⟨z, hz, rfl⟩ := lz_at hi
    refine ⟨g4.size (by omega), ?_⟩
    refine ⟨_, rfl, _, rfl, _, _, rfl, rfl, _, _, rfl, rfl, (by show (0 : Int) < (ns.length : Int) + 1; omega), _, _, rfl, rfl, e4, ?_⟩
    have := mod_good z ns.length
    exact ⟨same_upd s4 hD, upd_same, g4.snoc this.1 this.2, _, rfl⟩
  rintro ys σ H' ⟨s4, e4, g4, u, rfl⟩
  rw [lz_len] at g4
  obtain ⟨xs, rfl, g⟩ := g4.good
  have I4 : ShI H p kd ns [some (.ref p), some (.int kd), some (.int (ns.length : Int)), some (.ref D), none] H' :=
    ⟨s3.trans s4, s4 _ _ e3, D, xs, none, rfl, s3.free hD, e4, g⟩
  -- if _law_kind == 1
  refine ⟨ShI H p kd ns, ?_, fun σ5 H5 I5 => ?_⟩
  · refine ⟨_, rfl, rfl, _, rfl, ?_⟩
    refine if2 (fun c => ?_) (fun c => I4)
    refine ⟨_, rfl, _, rfl, by omega, by omega, fun D2 hD2 _ _ => ?_⟩
    have e5 := s4 _ _ e3
    refine comp_range (lo := 0) (n := ((ns.length : Int)).toNat) (fun i ys σ H'' => Same H' H'' ∧ H'' D2 = some (.lst ys) ∧ GoodPre ns.length i ys ∧ ∃ u, σ = [u, some (.ref p), some (.int (ns.length : Int))])
      ⟨same_new hD2 _, upd_same, GoodPre.nil _, none, rfl⟩ (fun i ys σ H'' _ ⟨_, e6, _⟩ => e6) ?_ ?_
    · rintro i ys σ H'' hi ⟨s6, e6, g6, u, rfl⟩
      have hn : 0 < (ns.length : Int) := by omega
      refine ⟨g6.size (by omega), ?_⟩
      refine ⟨_, rfl, _, rfl, p, ns, 1, rfl, SqL.of (s6 _ _ e5), fun c1 => ?_⟩
      refine ⟨_, rfl, c1, 3, _, rfl, by decide, hn, fun r H7 r0 r1 s7 => ?_⟩
      refine ⟨_, _, rfl, rfl, _, rfl, _, _, rfl, rfl, hn, s7 _ _ e6, ?_⟩
      refine ⟨same_upd (s6.trans s7) hD2, upd_same, g6.snoc ?_ ?_, _, rfl⟩
      · have := Int.emod_nonneg (0 + (i : Int) + r) (show (ns.length : Int) ≠ 0 by omega)
        show -1 ≤ (0 + (i : Int) + r) % (ns.length : Int)
        omega
      · exact Int.emod_lt_of_pos _ hn
    · rintro ys σ H'' ⟨s6, e6, g6, u, rfl⟩
      rw [show ((ns.length : Int)).toNat = ns.length by omega] at g6
      obtain ⟨xs', rfl, g'⟩ := g6.good
      exact ⟨(s3.trans s4).trans s6, s6 _ _ e5, D2, xs', none, rfl, s3.free (s4.free hD2), e6, g'⟩
  -- if _law_kind == 2
  refine ⟨ShI H p kd ns, ?_, fun σ6 H6 I6 => ?_⟩
  · obtain ⟨s5, e5, r, xs5, v, rfl, n5, er, g5⟩ := I5
    refine ⟨_, rfl, rfl, _, rfl, ?_⟩
    refine if2 (fun c => ?_) (fun c => ⟨s5, e5, r, xs5, v, rfl, n5, er, g5⟩)
    refine ⟨_, rfl, r, rfl, ⟨_, SqL.of er⟩, fun D2 hD2 _ _ => ?_⟩
    refine comp_list (K := K) (a := r) (xs := xs5.map V.int) (fun i ys σ H'' => Same H5 H'' ∧ H'' D2 = some (.lst ys) ∧ GoodPre ns.length i ys ∧ ∃ u, σ = [u, some (.int (ns.length : Int))])
      ⟨same_new hD2 _, upd_same, GoodPre.nil _, none, rfl⟩ (fun i ys σ H'' _ ⟨s6, e6, _⟩ => ⟨SqL.of (s6 _ _ er), e6⟩) ?_ ?_
    · rintro i x ys σ H'' hi ⟨s6, e6, g6, u, rfl⟩
      have hil := (List.getElem?_eq_some_iff.mp hi).1
      rw [lz_len, g5.len] at hil
      obtain ⟨z, hz, rfl⟩ := lz_at hi
      have hz5 := g5.ok z (List.mem_of_getElem? hz)
      refine ⟨g6.size (by omega), ?_⟩
      refine ⟨_, rfl, _, _, rfl, rfl, _, rfl, ?_⟩
      refine if2 (fun c2 => ?_) (fun c2 => ?_)
      · refine ⟨_, rfl, _, _, rfl, rfl, (by show (0 : Int) < 3; decide), e6, ?_⟩
        refine ⟨same_upd s6 hD2, upd_same, g6.snoc ?_ ?_, _, rfl⟩
        · show -1 ≤ z % 3
          omega
        · show z % 3 < (ns.length : Int)
          omega
      · refine ⟨_, rfl, e6, ?_⟩
        exact ⟨same_upd s6 hD2, upd_same, g6.snoc hz5.1 hz5.2, _, rfl⟩
    · rintro ys σ H'' ⟨s6, e6, g6, u, rfl⟩
      rw [lz_len, g5.len] at g6
      obtain ⟨xs', rfl, g'⟩ := g6.good
      exact ⟨s5.trans s6, s6 _ _ e5, D2, xs', v, rfl, s5.free hD2, e6, g'⟩
  -- if _law_kind in (3, 4)
  refine ⟨ShI H p kd ns, ?_, fun σ7 H7 I7 => ?_⟩
  · obtain ⟨s5, e5, r, xs5, v, rfl, n5, er, g5⟩ := I6
    refine ⟨_, rfl, (by show 2 ≤ sizeLine; decide), fun tq htq => ?_⟩
    have s6 : Same H6 (upd H6 tq (.tup [.int 3, .int 4])) := same_new htq _
    refine ⟨tq, _, rfl, .inr (SqT.of upd_same), rfl, rfl, _, rfl, ?_⟩
    generalize (upd H6 tq (.tup [.int 3, .int 4])) = H8 at s6 ⊢
    refine ite2 (fun c => ?_) (fun c => ⟨s5.trans s6, s6 _ _ e5, r, xs5, v, rfl, n5, s6 _ _ er, g5⟩)
    refine ⟨_, rfl, p, ns, 1, rfl, SqL.of (s6 _ _ e5), fun c1 => ?_⟩
    refine ⟨_, rfl, _, _, rfl, c1, 4, _, rfl, by decide, ?_, fun o H9 o0 o1 s9 => ?_⟩
    · split <;> omega
    have e9 := s9 _ _ (s6 _ _ e5)
    refine ⟨_, rfl, p, rfl, ⟨_, SqL.of e9⟩, fun D2 hD2 _ _ => ?_⟩
    refine comp_list (K := K) (a := p) (xs := ns.map V.int) (fun i ys σ H'' => Same H9 H'' ∧ H'' D2 = some (.lst ys) ∧ GoodPre ns.length i ys ∧ ∃ u, σ = [u, some (.int kd), some (.int o), some (.int (ns.length : Int))])
      ⟨same_new hD2 _, upd_same, GoodPre.nil _, none, rfl⟩ (fun i ys σ H'' _ ⟨s6, e6, _⟩ => ⟨SqL.of (s6 _ _ e9), e6⟩) ?_ ?_
    · rintro i x ys σ H'' hi ⟨sa, ea, ga, u, rfl⟩
      have hil := (List.getElem?_eq_some_iff.mp hi).1
      rw [lz_len] at hil
      obtain ⟨z, hz, rfl⟩ := lz_at hi
      have ho : o < (ns.length : Int) := by
        split at o1 <;> omega
      have done : ∀ y : Int, -1 ≤ y → y < ns.length → H'' D2 = some (.lst ys) ∧ (Same H9 (upd H'' D2 (.lst (ys ++ [.int y]))) ∧ upd H'' D2 (.lst (ys ++ [.int y])) D2 = some (.lst (ys ++ [.int y])) ∧ GoodPre ns.length (i + 1) (ys ++ [.int y]) ∧ ∃ u, [some (V.int z), some (.int kd), some (.int o), some (.int (ns.length : Int))] = [u, some (.int kd), some (.int o), some (.int (ns.length : Int))]) :=
        fun y y1 y2 => ⟨ea, same_upd sa hD2, upd_same, ga.snoc y1 y2, _, rfl⟩
      refine ⟨ga.size (by omega), ?_⟩
      refine ⟨_, rfl, rfl, _, rfl, ?_⟩
      refine if2 (fun c2 => ?_) (fun c2 => ?_)
      · refine iteT ?_
        exact ⟨_, rfl, done o (by omega) ho⟩
      · refine ⟨_, rfl, _, _, rfl, rfl, ⟨by show (0 : Int) < 7; decide, by show (7 : Int) < 1073741824; decide⟩, _, _, rfl, rfl, (by show (0 : Int) < 9; decide), _, _, rfl, rfl, _, rfl, ?_⟩
        refine if2 (fun c3 => ?_) (fun c3 => ?_)
        · exact ⟨_, rfl, done o (by omega) ho⟩
        · have := mod_good z ns.length
          exact ⟨_, rfl, _, rfl, _, _, rfl, rfl, _, _, rfl, rfl, (by show (0 : Int) < (ns.length : Int) + 1; omega), _, _, rfl, rfl, done _ this.1 this.2⟩
    · rintro ys σ H'' ⟨sa, ea, ga, u, rfl⟩
      rw [lz_len] at ga
      obtain ⟨xs', rfl, g'⟩ := ga.good
      exact ⟨((s5.trans s6).trans s9).trans sa, sa _ _ e9, D2, xs', _, rfl, s5.free (s6.free (s9.free hD2)), ea, g'⟩
  -- if _law_kind == 5
  refine ⟨ShI H p kd ns, ?_, fun σ8 H8 I8 => ?_⟩
  · obtain ⟨s5, e5, r, xs5, v, rfl, n5, er, g5⟩ := I7
    refine ⟨_, rfl, rfl, _, rfl, ?_⟩
    refine if2 (fun c => ?_) (fun c => ⟨s5, e5, r, xs5, v, rfl, n5, er, g5⟩)
    refine ⟨_, rfl, r, _, rfl, SqL.of er, fun D2 hD2 _ _ => ?_⟩
    refine comp_enum (K := K) (a := r) (xs := xs5.map V.int) (fun i ys σ H'' => Same H7 H'' ∧ H'' D2 = some (.lst ys) ∧ GoodPre ns.length i ys ∧ ∃ u v', σ = [u, v', some (.ref p)])
      ⟨same_new hD2 _, upd_same, GoodPre.nil _, none, none, rfl⟩ (fun i ys σ H'' _ ⟨s6, e6, _⟩ => ⟨SqL.of (s6 _ _ er), e6⟩) ?_ (fun i ys σ H'' hi ⟨_, _, g6, _⟩ => g6.size (by rw [lz_len, g5.len] at hi; omega)) ?_
    · rintro i x ys σ H'' pp hi hpp ⟨s6, e6, g6, u, v', rfl⟩
      have hil := (List.getElem?_eq_some_iff.mp hi).1
      rw [lz_len, g5.len] at hil
      obtain ⟨z, hz, rfl⟩ := lz_at hi
      have hz5 := g5.ok z (List.mem_of_getElem? hz)
      have s7 : Same H'' (upd H'' pp (.tup [.int i, .int z])) := same_new hpp _
      refine ⟨g6.size (by omega), pp, _, rfl, SqT.of upd_same, rfl, _, _, rfl, _, _, rfl, rfl, ?_⟩
      have done : ∀ y : Int, -1 ≤ y → y < ns.length → (upd H'' pp (.tup [.int i, .int z])) D2 = some (.lst ys) ∧ (Same H7 (upd (upd H'' pp (.tup [.int i, .int z])) D2 (.lst (ys ++ [.int y]))) ∧ upd (upd H'' pp (.tup [.int i, .int z])) D2 (.lst (ys ++ [.int y])) D2 = some (.lst (ys ++ [.int y])) ∧ GoodPre ns.length (i + 1) (ys ++ [.int y]) ∧ ∃ u v', [some (V.int i), some (.int z), some (.ref p)] = [u, v', some (.ref p)]) :=
        fun y y1 y2 => ⟨s7 _ _ e6, same_upd (s6.trans s7) hD2, upd_same, g6.snoc y1 y2, _, _, rfl⟩
      refine ⟨_, rfl, _, rfl, p, _, _, _, rfl, rfl, SqL.of (s7 _ _ (s6 _ _ e5)), atI_of i rfl (lz_get (List.getElem?_eq_getElem hil)), ?_⟩
      refine ⟨_, _, rfl, rfl, ⟨by show (0 : Int) < 3; decide, by show (3 : Int) < 1073741824; decide⟩, _, _, rfl, rfl, (by show (0 : Int) < 3; decide), rfl, _, rfl, ?_⟩
      refine if2 (fun c3 => ?_) (fun c3 => ?_)
      · exact ⟨_, rfl, done z hz5.1 hz5.2⟩
      · exact ⟨_, rfl, done (-1) (by omega) (by omega)⟩
    · rintro ys σ H'' ⟨s6, e6, g6, u, v', rfl⟩
      rw [lz_len, g5.len] at g6
      obtain ⟨xs', rfl, g'⟩ := g6.good
      exact ⟨s5.trans s6, s6 _ _ e5, D2, xs', v, rfl, s5.free hD2, e6, g'⟩
  obtain ⟨s5, e5, r, xs5, v, rfl, n5, er, g5⟩ := I8
  exact ⟨_, rfl, q r H8 xs5 s5 n5 er g5⟩
end
end OS

set_option Elab.async false
set_option linter.all false
set_option maxRecDepth 100000
set_option maxHeartbeats 1000000
namespace OS
open PySem L2
section
variable {P : Program} {w : World} {K : PySem.W.Frag} {mg : Str → Option Value} {base : Heap}
/-! _law_off -/
def spLOff : Sp := fun vs H Q _ => ∃ (b a : Addr) (xs ss : List Int), vs = [.ref b, .ref a] ∧ H b = some (lz xs) ∧ H a = some (lz ss) ∧ xs.length ≤ 63 ∧ ss.length ≤ 64 ∧ ∀ H', Same H H' → Q (.bl (offB xs ss)) H'
theorem noHit_any (ss xs : List Int) : (!((ss.zip xs).map (fun p => decide (p.1 = p.2))).any id) = noHit ss xs := by
  unfold noHit
  rw [Bool.eq_iff_iff, Bool.not_eq_true', ← Bool.not_eq_true, List.any_eq_true, List.all_eq_true]
  simp
  exact ⟨fun h a b hm e => h a (e ▸ hm), fun h x hm => h x x hm rfl⟩
theorem ok_law_off {f f1 : Addr} {fd fd1 : FuncData} (T : Nm mg) (F : Fun K "_law_off" "_law_off" s__law_off f fd)
    (x__law_whole : Fx K mg "_law_whole" ["_law_number"] s__law_whole f1 fd1) : FnOk P w K mg base CX0 2 f fd ["_law_shuns_here", "_law_found"] spLOff := by
  have G__law_whole : FnOk P w K mg base CX0 1 f1 fd1 ["_law_number"] spIsW := ok_law_whole T x__law_whole.F
  refine F.ok sc__law_off (fun vs H Q E h => ?_) (fun cdv A outer s H vs Q E hr h => ?_)
  · obtain ⟨b, a, xs, ss, rfl, _⟩ := h
    rfl
  obtain ⟨b, a, xs, ss, rfl, hb, ha, hl, hsl, q⟩ := h
  have hu0 := hr.units0
  refine ⟨_, (pss_of (l := [_, _, _]) rfl (pss_cons (ps_if (PW.pt (pw_or (pt_not (pt_val (pe_callB call_isT rfl T.n_isinstance b_isinstance (pa_cons (pv 1) (pa_cons (pe_bltn (v := V.ty "list") rfl T.n_list b_list rfl) pa_nil))))) (pw_or1 (pt_not (pt_val (pe_callB (call_allB rfl) rfl T.n_all b_all (pa_cons (pe_comp rfl sc__law_off_0 (pi_list (pv 1)) (fun _ _ _ => (pg_name (i := 0) sc__law_off_0.nd rfl (Or.inl rfl))) (fun _ _ _ => pif_nil) (fun _ _ _ => (pe_call G__law_whole hr rfl x__law_whole.m x__law_whole.F.kp x__law_whole.b .nil pass0 (pa_cons (pv 0) pa_nil)))) pa_nil))))))) (pss_one (ps_ret pe_bl)) pss_nil)
      (pss_cons (ps_if (pt_cmpR (op_neL hu0) (pe_callB call_sortedW rfl T.n_sorted b_sorted (pa_cons (pv 1) pa_nil)) (pe_callTy (call_list_rng rfl) rfl T.n_list b_list (pa_cons (pe_callTy call_rng1 rfl T.n_range PyProof.Rows.boot_range (pa_cons (pe_callB call_len_seq rfl T.n_len b_len (pa_cons (pv 0) pa_nil)) pa_nil)) pa_nil)) (nomark _)) (pss_one (ps_ret pe_bl)) pss_nil)
      (pss_one (ps_ret (pe_not (pe_callB (call_anyB rfl) rfl T.n_any b_any (pa_cons (pe_comp rfl sc__law_off_1 (pi_zip rfl T.n_zip (pa_cons (pv 1) (pa_cons (pv 0) pa_nil))) (fun _ _ _ => (pg_tup rfl (pgs_cons (pg_name (i := 0) sc__law_off_1.nd rfl (Or.inl rfl)) (pgs_cons (pg_name (i := 1) sc__law_off_1.nd rfl (Or.inl rfl)) pgs_nil)))) (fun _ _ _ => pif_nil) (fun _ _ _ => (pe_cmpR op_eq (pv 0) (pv 1) (nomark _)))) pa_nil)))))))), ?_⟩
  refine ⟨_, rfl, _, _, _, _, rfl, .lst ha, kit_same _ _, true, rfl, iteF ?_⟩
  refine ⟨_, rfl, a, rfl, ⟨_, SqL.of ha⟩, fun D hD _ _ => ?_⟩
  refine comp_list (K := K) (a := a) (xs := ss.map V.int) (fun i ys σ H' => Same H H' ∧ H' D = some (.lst ys) ∧ ys = (List.replicate i true).map V.bl ∧ ∃ u, σ = [u])
    ⟨same_new hD _, upd_same, rfl, none, rfl⟩ (fun i ys σ H' _ ⟨s6, e6, _⟩ => ⟨SqL.of (s6 _ _ ha), e6⟩) ?_ ?_
  · rintro j x ys σ H' hj ⟨s6, e6, rfl, u, rfl⟩
    have hjl := (List.getElem?_eq_some_iff.mp hj).1
    rw [lz_len] at hjl
    obtain ⟨z, hz, rfl⟩ := lz_at hj
    refine ⟨small1000 (by simp; omega), ?_⟩
    exact ⟨_, rfl, z, rfl, e6, same_upd s6 hD, upd_same, rep_true _ _ rfl, _, rfl⟩
  rintro ys σ H1 ⟨s1, e6, rfl, u, rfl⟩
  refine ⟨D, _, rfl, SqL.of e6, ?_⟩
  rw [bools_all]
  refine ⟨true, rfl, iteF ?_⟩
  have ha1 := s1 _ _ ha
  have hb1 := s1 _ _ hb
  -- sorted
  refine ⟨_, rfl, a, ss, rfl, SqL.of ha1, hsl, fun so ns hso hlen hps => ?_⟩
  have s2 : Same H1 (upd H1 so (lz ns)) := same_new hso _
  have e2 : (upd H1 so (lz ns)) so = some (lz ns) := upd_same
  generalize (upd H1 so (lz ns)) = H2 at s2 e2 ⊢
  refine ⟨_, rfl, b, _, rfl, .inl (SqL.of (s2 _ _ hb1)), ?_⟩
  refine ⟨_, rfl, fun r0 hr0 => ⟨r0, (xs.map V.int).length, rfl, upd_same, by rw [lz_len]; omega, fun l hl0 => ?_⟩⟩
  rw [lz_len] at hl0 ⊢
  rw [rng_lz]
  obtain ⟨s3, nl⟩ := lr_facts (lz (rngI xs.length)) hr0 hl0
  have el : (upd (upd H2 r0 (.rng 0 (xs.length : Int))) l (lz (rngI xs.length))) l = some (lz (rngI xs.length)) := upd_same
  generalize (upd (upd H2 r0 (.rng 0 (xs.length : Int))) l (lz (rngI xs.length))) = H3 at s3 el ⊢
  refine ⟨so, l, _, _, rfl, rfl, SqL.of (s3 _ _ e2), SqL.of el, _, rfl, ?_⟩
  have s4 : Same H H3 := s1.trans (s2.trans s3)
  by_cases hs : Seat xs.length ss
  rotate_left
  · refine ifNY (fun z => hs ?_) ?_
    · by_cases h64 : ss.length < 64
      · exact (sorted_seat (hps h64).1 (hps h64).2).mp z
      · have := congrArg List.length z
        rw [rngI_length] at this
        omega
    have := q _ s4
    unfold offB at this
    rwa [decide_eq_false hs] at this
  have h64 : ss.length < 64 := by have := hs.len; omega
  refine ifNN ((sorted_seat (hps h64).1 (hps h64).2).mpr hs) ?_
  have ha3 := s4 _ _ ha
  have hb3 := s4 _ _ hb
  have hsl' := hs.len
  refine ⟨_, rfl, _, rfl, a, b, _, _, rfl, SqL.of ha3, SqL.of hb3, fun D2 hD2 _ _ => ?_⟩
  refine comp_zip (K := K) (a := a) (b := b) (xs := ss.map V.int) (ws := xs.map V.int)
    (fun j ys σ H' => Same H3 H' ∧ H' D2 = some (.lst ys) ∧ ys = (((ss.zip xs).take j).map (fun p => decide (p.1 = p.2))).map V.bl ∧ ∃ u v, σ = [u, v])
    ⟨same_new hD2 _, upd_same, rfl, none, none, rfl⟩ (fun j ys σ H' _ ⟨t4, e4, _⟩ => ⟨SqL.of (t4 _ _ ha3), SqL.of (t4 _ _ hb3), e4⟩) ?_ (fun j ys σ H' hj ⟨_, _, hy, _⟩ => ?_) ?_
  · rintro j y1 z1 ys σ H4 pp hy hz hpp ⟨t4, e4, rfl, u4, v4, rfl⟩
    obtain ⟨y, hy', rfl⟩ := lz_at hy
    obtain ⟨z, hz', rfl⟩ := lz_at hz
    have hjl := (List.getElem?_eq_some_iff.mp hy').1
    have t5 : Same H4 (upd H4 pp (.tup [.int y, .int z])) := same_new hpp _
    refine ⟨small1000 (by simp; omega), pp, _, rfl, SqT.of upd_same, rfl, _, _, rfl, _, _, rfl, rfl, ?_⟩
    refine ⟨_, rfl, _, rfl, rfl, t5 _ _ e4, same_upd (t4.trans t5) hD2, upd_same, ?_, _, _, rfl⟩
    rw [zip_at hy' hz', List.map_append, List.map_append]
    congr 3
    by_cases e : y = z
    · subst e; simp
    · have : ¬ V.int y = V.int z := vi_ne e
      simp [e]
  · subst hy
    rw [lz_len, lz_len] at hj
    exact small1000 (by simp; omega)
  rintro ys σ H4 ⟨t4, e4, rfl, u4, v4, rfl⟩
  rw [lz_len, lz_len, hsl', Nat.min_self, List.take_of_length_le (by rw [List.length_zip]; omega)] at e4
  refine ⟨D2, _, rfl, SqL.of e4, _, rfl, ?_⟩
  rw [noHit_any]
  have := q _ (s4.trans t4)
  unfold offB at this
  rwa [decide_eq_true hs, Bool.true_and] at this
/-! _law_says -/
def spSays : Sp := fun vs H Q _ => ∃ b c : Bool, vs = [.bl b, .bl c] ∧ Q (.bl (decide (b = c))) H
theorem ok_law_says {f : Addr} {fd : FuncData} (T : Nm mg) (F : Fun K "_law_says" "_law_says" s__law_says f fd) : FnOk P w K mg base CX0 1 f fd ["_law_said", "_law_due"] spSays := by
  refine F.ok sc__law_says (fun vs H Q E h => ?_) (fun cdv A outer s H vs Q E hr h => ?_)
  · obtain ⟨b, c, rfl, _⟩ := h
    rfl
  obtain ⟨b, c, rfl, q⟩ := h
  refine ⟨_, (pss_of (l := [_]) rfl (pss_one (ps_ret (pe_and (pe_callB call_isT rfl T.n_isinstance b_isinstance (pa_cons (pv 0) (pa_cons (pe_bltn (v := V.ty "bool") rfl T.n_bool b_bool rfl) pa_nil))) (pe_one (pe_cmpR op_eq (pv 0) (pv 1) (nomark _))))))), ?_⟩
  refine ⟨_, rfl, _, _, _, _, rfl, .bl b, kit_same _ _, true, rfl, iteT ?_⟩
  refine ⟨_, rfl, _, rfl, rfl, ?_⟩
  have e : decide (V.bl b = V.bl c) = decide (b = c) := by cases b <;> cases c <;> rfl
  rw [e]
  exact q
/-! _law_bent: some list of ints, not much longer -/
theorem er_map : ∀ (l : List Int) (i : Nat), (l.map V.int).eraseIdx i = (l.eraseIdx i).map V.int
  | [], _ => rfl
  | _ :: _, 0 => rfl
  | x :: l, i + 1 => congrArg (V.int x :: ·) (er_map l i)
theorem seq_idx {i : Int} {n k : Nat} (hi : i = k) (hk : k < n) : seqIndex? i n = some k := by
  subst hi
  unfold seqIndex?
  simp only
  rw [if_neg (show ¬ (k : Int) < 0 by omega), if_pos]
  · simp
  · simp; omega
def spBent : Sp := fun vs H Q _ => ∃ (a : Addr) (ss : List Int) (c : Int) (n : Nat), vs = [.ref a, .int c, .int (n : Int)] ∧ H a = some (lz ss) ∧ ss.length ≤ 63 ∧
  ∀ (r : Addr) (ts : List Int) (H' : Hp), Same H H' → H r = none → H' r = some (lz ts) → ts.length ≤ 64 → Q (.ref r) H'
theorem ok_law_bent {f f1 : Addr} {fd fd1 : FuncData} (T : Nm mg) (F : Fun K "_law_bent" "_law_bent" s__law_bent f fd)
    (x__law_draw : Fx K mg "_law_draw" ["_law_cell", "_law_k", "_law_many"] s__law_draw f1 fd1) : FnOk P w K mg base CX0 2 f fd ["_law_some", "_law_cell", "_law_size"] spBent := by
  have G__law_draw : FnOk P w K mg base CX0 1 f1 fd1 ["_law_cell", "_law_k", "_law_many"] spDraw := ok_law_draw x__law_draw.F
  refine F.ok sc__law_bent (fun vs H Q E h => ?_) (fun cdv A outer s H vs Q E hr h => ?_)
  · obtain ⟨a, ss, c, n, rfl, _⟩ := h
    rfl
  obtain ⟨a, ss, c, n, rfl, ha, hl, q⟩ := h
  have hu0 := hr.units0
  refine ⟨_, (pss_of (l := [_, _, _, _, _, _, _, _, _]) rfl (pss_cons (ps_par rfl sc__law_bent.nd (i := 3) (j := 4) rfl rfl (by decide) rfl rfl (pa_cons (pe_call G__law_draw hr rfl x__law_draw.m x__law_draw.F.kp x__law_draw.b .nil pass0 (pa_cons (pv 1) (pa_cons pe_int (pa_cons pe_int pa_nil)))) (pa_cons (pe_op op_sub (pe_call G__law_draw hr rfl x__law_draw.m x__law_draw.F.kp x__law_draw.b .nil pass0 (pa_cons (pv 1) (pa_cons pe_int (pa_cons (pe_op op_add (pv 2) pe_int) pa_nil)))) pe_int) pa_nil)) rfl)
      (pss_cons (ps_if (pt_cmpR (op_eqL hu0) (pv 0) (pe_lst pa_nil) (nomark _)) (pss_one (ps_ret (pe_ifExp (pt_cmpR op_lt (pv 3) pe_int (nomark _)) (pe_lst (pa_cons (pv 4) pa_nil)) (pe_lst pa_nil)))) pss_nil)
      (pss_cons (ps_par3 rfl sc__law_bent.nd (i := 5) (j := 6) (k := 7) rfl rfl rfl (by decide) (by decide) (by decide) rfl rfl rfl (pa_cons (pe_call G__law_draw hr rfl x__law_draw.m x__law_draw.F.kp x__law_draw.b .nil pass0 (pa_cons (pv 1) (pa_cons pe_int (pa_cons (pe_callB call_len_seq rfl T.n_len b_len (pa_cons (pv 0) pa_nil)) pa_nil)))) (pa_cons (pe_call G__law_draw hr rfl x__law_draw.m x__law_draw.F.kp x__law_draw.b .nil pass0 (pa_cons (pv 1) (pa_cons pe_int (pa_cons (pe_callB call_len_seq rfl T.n_len b_len (pa_cons (pv 0) pa_nil)) pa_nil)))) (pa_cons (pe_callTy call_list_of rfl T.n_list b_list (pa_cons (pv 0) pa_nil)) pa_nil))) rfl)
      (pss_cut (ps_if (pt_cmpR op_lt (pv 3) pe_int (nomark _)) (pss_one (ps_asg (pe_tup (pa_cons (pe_ix ix_list (pv 7) (pv 6) (fun _ _ => rfl)) (pa_cons (pe_ix ix_list (pv 7) (pv 5) (fun _ _ => rfl)) pa_nil))) (pg_tup rfl (pgs_cons (pg_sub (pv 7) (pv 5) set_list) (pgs_cons (pg_sub (pv 7) (pv 6) set_list) pgs_nil))))) pss_nil)
      (pss_cut (ps_if (pt_cmpR op_eq (pv 3) pe_int (nomark _)) (pss_one (ps_expr (pe_bm PySem.F.plainAttrs_list PySem.F.slot_list_pop PySem.F.type_list_pop mt_popAt (pv 7) (pa_cons (pv 5) pa_nil)))) pss_nil)
      (pss_cut (ps_if (pt_cmpR op_eq (pv 3) pe_int (nomark _)) (pss_one (ps_asg (pv 4) (pg_sub (pv 7) (pv 5) set_list))) pss_nil)
      (pss_cut (ps_if (pt_cmpR op_eq (pv 3) pe_int (nomark _)) (pss_one (ps_expr (pe_bm PySem.F.plainAttrs_list PySem.F.slot_list_insert PySem.F.type_list_insert mt_insert (pv 7) (pa_cons (pv 5) (pa_cons (pe_ix ix_list (pv 7) (pv 6) (fun _ _ => rfl)) pa_nil))))) pss_nil)
      (pss_cons (ps_if (pt_cmpR op_eq (pv 3) pe_int (nomark _)) (pss_one (ps_ret (pe_rev (pv 7) (pe_un un_neg pe_int)))) pss_nil)
      (pss_one (ps_ret (pv 7)))))))))))), ?_⟩
  -- kind, strange
  refine ⟨_, rfl, _, _, _, rfl, by decide, by decide, fun kd H1 k0 k1 s1 => ?_⟩
  refine ⟨_, rfl, _, rfl, _, _, rfl, rfl, _, _, _, rfl, by decide, by omega, fun sg H2 g0 g1 s2 => ?_⟩
  refine ⟨_, _, rfl, rfl, _, _, rfl, ?_⟩
  have s3 : Same H H2 := s1.trans s2
  clear s1 s2
  -- nobody
  refine ⟨_, rfl, Nat.zero_le _, fun em hem => ?_⟩
  have s4 : Same H (upd H2 em (.lst [])) := s3.trans (same_new hem _)
  refine ⟨a, em, _, [], rfl, rfl, SqL.of (s4 _ _ ha), SqL.of upd_same, _, rfl, ?_⟩
  generalize (upd H2 em (.lst [])) = H3 at s4 ⊢
  clear s3 hem
  by_cases h0 : ss = []
  · refine ifY h0 ?_
    refine ⟨_, rfl, _, _, rfl, rfl, _, rfl, ?_⟩
    refine if2 (fun _ => ?_) (fun _ => ?_)
    · refine ⟨_, rfl, (by show 1 ≤ sizeLine; decide), fun r hr' => ?_⟩
      exact q r [sg - 1] _ (s4.trans (same_new hr' _)) (s4.free hr') upd_same (by simp)
    · refine ⟨Nat.zero_le _, fun r hr' => ?_⟩
      exact q r [] _ (s4.trans (same_new hr' _)) (s4.free hr') upd_same (by simp)
  refine ifN h0 ?_
  have hpos : 0 < ss.length := List.length_pos_iff.mpr h0
  -- at, other, found
  refine ⟨_, rfl, _, rfl, a, _, rfl, .inl (SqL.of (s4 _ _ ha)), _, _, _, rfl, by decide, by rw [lz_len]; omega, fun at_ H4 a0 a1 s5 => ?_⟩
  replace s4 := s4.trans s5
  clear s5
  refine ⟨_, rfl, _, rfl, a, _, rfl, .inl (SqL.of (s4 _ _ ha)), _, _, _, rfl, by decide, by rw [lz_len]; omega, fun ot H5 o0 o1 s5 => ?_⟩
  replace s4 := s4.trans s5
  clear s5
  rw [lz_len] at a1 o1
  refine ⟨_, rfl, a, _, rfl, .inl (SqL.of (s4 _ _ ha)), fun fo hfo => ?_⟩
  have nfo : H fo = none := s4.free hfo
  replace s4 := s4.trans (same_new hfo (lz ss))
  have ef : (upd H5 fo (lz ss)) fo = some (lz ss) := upd_same
  generalize (upd H5 fo (lz ss)) = H6 at s4 ef ⊢
  clear hfo
  refine ⟨_, _, _, rfl, ?_⟩
  have hgo : ∀ ts : List Int, ts.length = ss.length → ∃ v, ts[ot.toNat]? = some v := fun ts h => ⟨_, List.getElem?_eq_getElem (by omega)⟩
  have hga : ∀ ts : List Int, ts.length = ss.length → ∃ v, ts[at_.toNat]? = some v := fun ts h => ⟨_, List.getElem?_eq_getElem (by omega)⟩
  -- exchanged
  refine ⟨fun σ H' => Same H H' ∧ ∃ ts : List Int, H' fo = some (lz ts) ∧ ts.length = ss.length ∧ σ = [some (.ref a), some (.int c), some (.int (n : Int)), some (.int kd), some (.int (sg - 1)), some (.int at_), some (.int ot), some (.ref fo)], ?_, ?_⟩
  · refine ⟨_, rfl, _, _, rfl, rfl, _, rfl, ?_⟩
    refine if2 (fun _ => ?_) (fun _ => ?_)
    rotate_left
    · exact ⟨s4, ss, ef, rfl, rfl⟩
    obtain ⟨vo, hvo⟩ := hgo ss rfl
    obtain ⟨va, hva⟩ := hga ss rfl
    refine ⟨_, rfl, _, rfl, fo, _, _, _, rfl, rfl, SqL.of ef, atI_of ot.toNat (by omega) (lz_get hvo), _, rfl, _, rfl, fo, _, _, _, rfl, rfl, SqL.of ef, atI_of at_.toNat (by omega) (lz_get hva), (by show 2 ≤ sizeLine; decide), fun t2 ht2 => ?_⟩
    have s7 : Same H6 (upd H6 t2 (.tup [.int vo, .int va])) := same_new ht2 _
    refine ⟨t2, _, rfl, SqT.of upd_same, rfl, _, _, rfl, _, rfl, _, rfl, fo, _, _, at_.toNat, rfl, rfl, s7 _ _ ef, ixN_of at_.toNat (by omega) (by rw [lz_len]; omega), _, _, rfl, _, rfl, _, rfl, fo, _, _, ot.toNat, rfl, rfl, upd_same, ixN_of ot.toNat (by omega) (by rw [lz_set, lz_len, List.length_set]; omega), rfl, ?_⟩
    refine ⟨same_upd (same_upd (s4.trans s7) nfo) nfo, (ss.set at_.toNat vo).set ot.toNat va, by rw [upd_same, lz_set, lz_set], by simp, rfl⟩
  rintro σ H8 ⟨s8, ts, e8, hl8, rfl⟩
  clear s4 ef
  -- one left out
  refine ⟨fun σ H' => Same H H' ∧ ∃ ts : List Int, H' fo = some (lz ts) ∧ (kd ≠ 3 → ts.length = ss.length) ∧ ts.length ≤ 63 ∧ σ = [some (.ref a), some (.int c), some (.int (n : Int)), some (.int kd), some (.int (sg - 1)), some (.int at_), some (.int ot), some (.ref fo)], ?_, ?_⟩
  · refine ⟨_, rfl, rfl, _, rfl, ?_⟩
    refine if2 (fun hc => ?_) (fun hc => ?_)
    rotate_left
    · exact ⟨s8, ts, e8, fun _ => hl8, by omega, rfl⟩
    have hc3 : kd = 3 := V.int.inj hc
    obtain ⟨va, hva⟩ := hga ts hl8
    refine ⟨_, rfl, .inl ⟨rfl, _, SqL.of e8⟩, _, rfl, fo, _, at_, at_.toNat, _, rfl, rfl, e8, by omega, by omega, seq_idx (by omega) (by rw [lz_len]; omega), lz_get hva, ?_⟩
    refine ⟨same_upd s8 nfo, ts.eraseIdx at_.toNat, by rw [upd_same, er_map], fun h => absurd hc3 h, ?_, rfl⟩
    have := List.length_eraseIdx_le ts at_.toNat
    omega
  rintro σ H9 ⟨s9, ts9, e9, hl9, hm9, rfl⟩
  clear s8 e8
  -- beyond
  refine ⟨fun σ H' => Same H H' ∧ ∃ ts : List Int, H' fo = some (lz ts) ∧ (kd ≠ 3 → ts.length = ss.length) ∧ ts.length ≤ 63 ∧ σ = [some (.ref a), some (.int c), some (.int (n : Int)), some (.int kd), some (.int (sg - 1)), some (.int at_), some (.int ot), some (.ref fo)], ?_, ?_⟩
  · refine ⟨_, rfl, rfl, _, rfl, ?_⟩
    refine if2 (fun hc => ?_) (fun hc => ?_)
    rotate_left
    · exact ⟨s9, ts9, e9, hl9, hm9, rfl⟩
    have hc4 : kd = 4 := V.int.inj hc
    have hlt := hl9 (by omega)
    refine ⟨_, rfl, _, rfl, _, rfl, fo, _, _, at_.toNat, rfl, rfl, e9, ixN_of at_.toNat (by omega) (by rw [lz_len]; omega), ?_⟩
    exact ⟨same_upd s9 nfo, ts9.set at_.toNat (sg - 1), by rw [upd_same, lz_set], fun _ => by simp [hlt], by simp [hm9], rfl⟩
  rintro σ H10 ⟨s10, ts10, e10, hl10, hm10, rfl⟩
  clear s9 e9
  -- twice
  refine ⟨fun σ H' => Same H H' ∧ ∃ ts : List Int, H' fo = some (lz ts) ∧ ts.length ≤ 64 ∧ σ = [some (.ref a), some (.int c), some (.int (n : Int)), some (.int kd), some (.int (sg - 1)), some (.int at_), some (.int ot), some (.ref fo)], ?_, ?_⟩
  · refine ⟨_, rfl, rfl, _, rfl, ?_⟩
    refine if2 (fun hc => ?_) (fun hc => ?_)
    rotate_left
    · exact ⟨s10, ts10, e10, by omega, rfl⟩
    have hc5 : kd = 5 := V.int.inj hc
    have hlt := hl10 (by omega)
    obtain ⟨vo, hvo⟩ := hgo ts10 hlt
    refine ⟨_, rfl, .inl ⟨rfl, _, SqL.of e10⟩, _, rfl, _, rfl, _, rfl, fo, _, _, _, rfl, rfl, SqL.of e10, atI_of ot.toNat (by omega) (lz_get hvo), fo, _, at_, at_.toNat, _, rfl, rfl, by omega, e10, by rw [lz_len]; omega, by rw [lz_len]; omega, ?_⟩
    refine ⟨same_upd s10 nfo, ts10.take at_.toNat ++ vo :: ts10.drop at_.toNat, ?_, ?_, rfl⟩
    · rw [upd_same]
      unfold lz
      rw [List.map_append, List.map_cons, List.map_take, List.map_drop]
    · simp; omega
  rintro σ H11 ⟨s11, ts11, e11, hm11, rfl⟩
  clear s10 e10
  -- turned about
  refine ⟨_, rfl, rfl, _, rfl, ?_⟩
  refine if2 (fun hc => ?_) (fun hc => ?_)
  · refine ⟨_, rfl, _, rfl, fo, _, rfl, rfl, SqL.of e11, fun r hr' => ?_⟩
    refine q r ts11.reverse _ (s11.trans (same_new hr' _)) (s11.free hr') ?_ (by simp; omega)
    rw [upd_same, ← List.map_reverse]
  · exact ⟨_, rfl, q fo ts11 H11 s11 nfo e11 hm11⟩
end
end OS

set_option Elab.async false
set_option linter.all false
set_option maxRecDepth 100000
set_option maxHeartbeats 2000000
namespace OS
open PySem L2
section
variable {P : Program} {w : World} {K : PySem.W.Frag} {mg : Str → Option Value} {base : Heap}
/-! law -/
def spLaw (K : PySem.W.Frag) : Sp := fun vs H Q _ => ∃ (a : Addr) (ns : List Int), vs = [.ref a] ∧ SqL K H a (ns.map V.int) ∧ ns.length ≤ 63 ∧ ∀ H', Q (.bl true) H'
def SmN (n : Nat) (H : Hp) (r : Addr) : Prop := ∃ y : List Int, H r = some (lz y) ∧ y.length = n ∧ ∀ x ∈ y, -1 ≤ x ∧ x < y.length
theorem SmN.same {n : Nat} {H H' : Hp} {r : Addr} (h : SmN n H r) (s : Same H H') : SmN n H' r := let ⟨y, e, z⟩ := h; ⟨y, s _ _ e, z⟩
theorem ifB0 {A B : Prop} {b : Bool} (h : b = false) (hB : B) : if b = true then A else B := by subst h; exact iteF hB
theorem new_ins {H : Hp} {p dx C : Addr} (np : H p = none) (ndx : H dx = none) : Same H (upd (upd H dx (.own p)) p (.ins C dx [])) := fun b o e => by
  rw [upd_ne (ne_of_none e np), upd_ne (ne_of_none e ndx)]
  exact e
theorem off_len {ys ss : List Int} (h : offB ys ss = true) : ss.length = ys.length := by
  unfold offB at h
  rw [Bool.and_eq_true, decide_eq_true_iff] at h
  exact h.1.len
theorem both {A G : Prop} (m : A) (k : A → G) : G := k m
theorem rep_bar {ys : List Int} {z : Int} (h0 : 0 ≤ z) (h1 : ys ≠ []) : decide (ys = List.replicate ys.length z) = barB ys z := by
  unfold barB
  congr 1
  rw [List.eq_replicate_iff]
  simp [h0, h1]
theorem ok_law {f CS CB f1 f2 f3 f4 f5 f6 f7 f8 f9 f10 f11 : Addr} {fd fd1 fd2 fd3 fd4 fd5 fd6 fd7 fd8 fd9 fd10 fd11 : FuncData} (T : Nm mg) (F : Fun K "law" "law" s_law f fd)
    (x_Seated : Cs K mg "Seated" CS) (x_Barred : Cs K mg "Barred" CB) (nS : NoAttr K CS "seating") (nB : NoAttr K CB "seat")
    (kSS : PySem.W.kitOne K (.ref CS) (.ref CS) = some true) (kBS : PySem.W.kitOne K (.ref CB) (.ref CS) = some false)
    (x__law_shuns : Fx K mg "_law_shuns" ["_law_script"] s__law_shuns f1 fd1) (G__law_shuns : FnOk P w K mg base CX0 4 f1 fd1 ["_law_script"] (spShuns K))
    (x__law_draw : Fx K mg "_law_draw" ["_law_cell", "_law_k", "_law_many"] s__law_draw f2 fd2) (G__law_draw : FnOk P w K mg base CX0 4 f2 fd2 ["_law_cell", "_law_k", "_law_many"] spDraw)
    (x__law_cell_at : Fx K mg "_law_cell_at" ["_law_script", "_law_k"] s__law_cell_at f3 fd3) (G__law_cell_at : FnOk P w K mg base CX0 4 f3 fd3 ["_law_script", "_law_k"] (spCell K))
    (x_seated : Fx K mg "seated" ["shuns"] s_seated f4 fd4) (G_seated : FnOk P w K mg base CX0 4 f4 fd4 ["shuns"] (spSeated CS CB))
    (x__law_bent : Fx K mg "_law_bent" ["_law_some", "_law_cell", "_law_size"] s__law_bent f5 fd5) (G__law_bent : FnOk P w K mg base CX0 4 f5 fd5 ["_law_some", "_law_cell", "_law_size"] spBent)
    (x__law_says : Fx K mg "_law_says" ["_law_said", "_law_due"] s__law_says f6 fd6) (G__law_says : FnOk P w K mg base CX0 4 f6 fd6 ["_law_said", "_law_due"] spSays)
    (x__law_off : Fx K mg "_law_off" ["_law_shuns_here", "_law_found"] s__law_off f7 fd7) (G__law_off : FnOk P w K mg base CX0 4 f7 fd7 ["_law_shuns_here", "_law_found"] spLOff)
    (x_Seated_shows : Mx K CS "shows" "Seated.shows" ["self", "shuns"] s_Seated_shows f8 fd8) (G_Seated_shows : FnOk P w K mg base CX0 4 f8 fd8 ["self", "shuns"] (spShowsS CS))
    (x_Barred_shows : Mx K CB "shows" "Barred.shows" ["self", "shuns"] s_Barred_shows f9 fd9) (G_Barred_shows : FnOk P w K mg base CX0 4 f9 fd9 ["self", "shuns"] (spShowsB CB))
    (x_Seated___init__ : Mx K CS "__init__" "Seated.__init__" ["self", "seating"] s_Seated___init__ f10 fd10) (G_Seated___init__ : FnOk P w K mg base CX0 3 f10 fd10 ["self", "seating"] (spInitS CS))
    (x_Barred___init__ : Mx K CB "__init__" "Barred.__init__" ["self", "seat"] s_Barred___init__ f11 fd11) (G_Barred___init__ : FnOk P w K mg base CX0 3 f11 fd11 ["self", "seat"] (spInitB CB)) :
    FnOk P w K mg base CX0 5 f fd ["_law_script"] (spLaw K) := by
  refine F.ok sc_law (fun vs H Q E h => ?_) (fun cdv A outer s H vs Q E hr h => ?_)
  · obtain ⟨a, ns, rfl, _⟩ := h
    rfl
  obtain ⟨a, ns, rfl, hS, hl, q⟩ := h
  have hu0 := hr.units0
  have nsh1 : ¬ ("shows" : Str) = "seating" := by decide +kernel
  have nsh2 : ¬ ("shows" : Str) = "seat" := by decide +kernel
  refine ⟨_, (pss_of (l := [_, _, _, _, _, _]) rfl (pss_cons (ps_set (i := 1) sc_law.nd rfl (Or.inl rfl) (pe_call G__law_shuns hr rfl x__law_shuns.m x__law_shuns.F.kp x__law_shuns.b .nil pass0 (pa_cons (pv 0) pa_nil)))
      (pss_cons (ps_set (i := 2) sc_law.nd rfl (Or.inl rfl) (pe_callB call_len_seq rfl T.n_len b_len (pa_cons (pv 1) pa_nil)))
      (pss_cons (ps_set (i := 3) sc_law.nd rfl (Or.inl rfl) (pe_call G__law_draw hr rfl x__law_draw.m x__law_draw.F.kp x__law_draw.b .nil pass0 (pa_cons (pe_call G__law_cell_at hr rfl x__law_cell_at.m x__law_cell_at.F.kp x__law_cell_at.b .nil pass0 (pa_cons (pv 0) (pa_cons pe_int pa_nil))) (pa_cons pe_int (pa_cons (pe_callB (call_max2 rfl) rfl T.n_max b_max (pa_cons pe_int (pa_cons (pv 2) pa_nil))) pa_nil)))))
      (pss_cons (ps_for PassesOwn.never rfl (pi_tup (pe_tup (pa_cons (pv 1) (pa_cons (pe_op op_rep (pe_lst (pa_cons (pv 3) pa_nil)) (pv 2)) (pa_cons (pe_op op_cat (pe_op op_rep (pe_lst (pa_cons (pv 3) pa_nil)) (pe_op op_sub (pv 2) pe_int)) (pe_op op_rep (pe_lst (pa_cons (pe_un un_neg pe_int) pa_nil)) (pe_callB (call_min2 rfl) rfl T.n_min b_min (pa_cons pe_int (pa_cons (pv 2) pa_nil))))) pa_nil))))) (pg_name (i := 4) sc_law.nd rfl (Or.inl rfl)) (pss_cons (ps_set (i := 5) sc_law.nd rfl (Or.inl rfl) (pe_call G_seated hr rfl x_seated.m x_seated.F.kp x_seated.b .nil pass0 (pa_cons (pv 4) pa_nil)))
      (pss_cut (ps_set (i := 6) sc_law.nd rfl (Or.inl rfl) (pe_ifExp (pt_val (pe_callB call_isO rfl T.n_isinstance b_isinstance (pa_cons (pv 5) (pa_cons (pe_glob (v := V.ref _) rfl x_Seated.m rfl) pa_nil)))) (pe_fld (pv 5) rfl) (pe_callTy (call_list_rng rfl) rfl T.n_list b_list (pa_cons (pe_callTy call_rng1 rfl T.n_range PyProof.Rows.boot_range (pa_cons (pv 2) pa_nil)) pa_nil))))
      (pss_one (ps_for PassesOwn.never rfl (pi_range1 rfl T.n_range (pa_cons pe_int pa_nil)) (pg_name (i := 7) sc_law.nd rfl (Or.inl rfl)) (pss_cons (ps_set (i := 8) sc_law.nd rfl (Or.inl rfl) (pe_op op_add (pe_op op_add (pe_call G__law_cell_at hr rfl x__law_cell_at.m x__law_cell_at.F.kp x__law_cell_at.b .nil pass0 (pa_cons (pv 0) (pa_cons (pv 7) pa_nil))) (pe_op op_mul pe_int (pv 7))) (pe_op op_mul pe_int (pe_call G__law_cell_at hr rfl x__law_cell_at.m x__law_cell_at.F.kp x__law_cell_at.b .nil pass0 (pa_cons (pv 0) (pa_cons (pe_op op_add (pv 7) pe_int) pa_nil))))))
      (pss_cons (ps_for PassesOwn.never rfl (pi_tup (pe_tup (pa_cons (pe_call G__law_bent hr rfl x__law_bent.m x__law_bent.F.kp x__law_bent.b .nil pass0 (pa_cons (pv 6) (pa_cons (pv 8) (pa_cons (pv 2) pa_nil)))) (pa_cons (pe_call G__law_bent hr rfl x__law_bent.m x__law_bent.F.kp x__law_bent.b .nil pass0 (pa_cons (pe_callTy (call_list_rng rfl) rfl T.n_list b_list (pa_cons (pe_callTy call_rng1 rfl T.n_range PyProof.Rows.boot_range (pa_cons (pv 2) pa_nil)) pa_nil)) (pa_cons (pe_op op_fdiv (pv 8) pe_int) (pa_cons (pv 2) pa_nil)))) (pa_cons (pe_callTy call_list_of rfl T.n_list b_list (pa_cons (pv 4) pa_nil)) pa_nil))))) (pg_name (i := 9) sc_law.nd rfl (Or.inl rfl)) (pss_cons (ps_set (i := 10) sc_law.nd rfl (Or.inl rfl) (pe_callTy call_list_of rfl T.n_list b_list (pa_cons (pv 9) pa_nil)))
      (pss_cons (ps_set (i := 11) sc_law.nd rfl (Or.inl rfl) (pe_make ⟨x_Seated.mks, x_Seated___init__.me.at_, x_Seated___init__.me.fn, x_Seated.kc⟩ G_Seated___init__ hr rfl x_Seated.m x_Seated___init__.b .nil pass0 (pa_cons (pv 10) pa_nil)))
      (pss_cons (ps_expr (pe_bm PySem.F.plainAttrs_list PySem.F.slot_list_append PySem.F.type_list_append mt_append (pv 10) (pa_cons pe_int pa_nil)))
      (pss_one (ps_if (PW.pt (pw_or (pt_cmpR (op_neL hu0) (pe_fld (pv 11) rfl) (pv 9) (nomark _)) (pw_or1 (pt_not (pt_val (pe_call G__law_says hr rfl x__law_says.m x__law_says.F.kp x__law_says.b .nil pass0 (pa_cons (pe_meth2 (pv 11) x_Seated.cl x_Seated_shows.me G_Seated_shows hr x_Seated_shows.b x_Barred.cl x_Barred_shows.me G_Barred_shows hr x_Barred_shows.b pass0 (pa_cons (pv 4) pa_nil)) (pa_cons (pe_call G__law_off hr rfl x__law_off.m x__law_off.F.kp x__law_off.b .nil pass0 (pa_cons (pv 4) (pa_cons (pv 9) pa_nil))) pa_nil)))))))) (pss_one (ps_ret pe_bl)) pss_nil))))))
      (pss_one (ps_for PassesOwn.never rfl (pi_tup (pe_tup (pa_cons (pv 3) (pa_cons (pe_op op_sub (pe_call G__law_draw hr rfl x__law_draw.m x__law_draw.F.kp x__law_draw.b .nil pass0 (pa_cons (pv 8) (pa_cons pe_int (pa_cons (pe_op op_add (pv 2) pe_int) pa_nil)))) pe_int) (pa_cons (pe_un un_neg pe_int) (pa_cons (pv 2) pa_nil)))))) (pg_name (i := 12) sc_law.nd rfl (Or.inl rfl)) (pss_cut (ps_set (i := 13) sc_law.nd rfl (Or.inl rfl) (pe_and (pe_cmpR op_ge (pv 12) pe_int (nomark _)) (pe_and (pe_cmpR (op_neL hu0) (pv 4) (pe_lst pa_nil) (nomark _)) (pe_one (pe_cmpR (op_eqL hu0) (pv 4) (pe_op op_rep (pe_lst (pa_cons (pv 12) pa_nil)) (pv 2)) (nomark _))))))
      (pss_cons (ps_set (i := 11) sc_law.nd rfl (Or.inl rfl) (pe_make ⟨x_Barred.mks, x_Barred___init__.me.at_, x_Barred___init__.me.fn, x_Barred.kc⟩ G_Barred___init__ hr rfl x_Barred.m x_Barred___init__.b .nil pass0 (pa_cons (pv 12) pa_nil)))
      (pss_one (ps_if (PW.pt (pw_or (pt_cmpR op_ne (pe_fld (pv 11) rfl) (pv 12) (nomark _)) (pw_or1 (pt_not (pt_val (pe_call G__law_says hr rfl x__law_says.m x__law_says.F.kp x__law_says.b .nil pass0 (pa_cons (pe_meth2 (pv 11) x_Seated.cl x_Seated_shows.me G_Seated_shows hr x_Seated_shows.b x_Barred.cl x_Barred_shows.me G_Barred_shows hr x_Barred_shows.b pass0 (pa_cons (pv 4) pa_nil)) (pa_cons (pv 13) pa_nil)))))))) (pss_one (ps_ret pe_bl)) pss_nil)))))))))))))
      (pss_cons (ps_if (PW.pt (pw_or (pt_not (pt_val (pe_call G__law_says hr rfl x__law_says.m x__law_says.F.kp x__law_says.b .nil pass0 (pa_cons (pe_meth2 (pe_make ⟨x_Seated.mks, x_Seated___init__.me.at_, x_Seated___init__.me.fn, x_Seated.kc⟩ G_Seated___init__ hr rfl x_Seated.m x_Seated___init__.b .nil pass0 (pa_cons (pe_lst (pa_cons pe_int (pa_cons pe_int pa_nil))) pa_nil)) x_Seated.cl x_Seated_shows.me G_Seated_shows hr x_Seated_shows.b x_Barred.cl x_Barred_shows.me G_Barred_shows hr x_Barred_shows.b pass0 (pa_cons (pe_lst (pa_cons pe_int (pa_cons pe_int pa_nil))) pa_nil)) (pa_cons pe_bl pa_nil))))) (pw_or1 (pt_not (pt_val (pe_call G__law_says hr rfl x__law_says.m x__law_says.F.kp x__law_says.b .nil pass0 (pa_cons (pe_meth2 (pe_make ⟨x_Seated.mks, x_Seated___init__.me.at_, x_Seated___init__.me.fn, x_Seated.kc⟩ G_Seated___init__ hr rfl x_Seated.m x_Seated___init__.b .nil pass0 (pa_cons (pe_lst (pa_cons pe_int (pa_cons pe_int pa_nil))) pa_nil)) x_Seated.cl x_Seated_shows.me G_Seated_shows hr x_Seated_shows.b x_Barred.cl x_Barred_shows.me G_Barred_shows hr x_Barred_shows.b pass0 (pa_cons (pe_lst (pa_cons pe_int (pa_cons (pe_un un_neg pe_int) pa_nil))) pa_nil)) (pa_cons pe_bl pa_nil)))))))) (pss_one (ps_ret pe_bl)) pss_nil)
      (pss_one (ps_ret (pe_and (pe_call G__law_says hr rfl x__law_says.m x__law_says.F.kp x__law_says.b .nil pass0 (pa_cons (pe_meth2 (pe_make ⟨x_Barred.mks, x_Barred___init__.me.at_, x_Barred___init__.me.fn, x_Barred.kc⟩ G_Barred___init__ hr rfl x_Barred.m x_Barred___init__.b .nil pass0 (pa_cons pe_int pa_nil)) x_Seated.cl x_Seated_shows.me G_Seated_shows hr x_Seated_shows.b x_Barred.cl x_Barred_shows.me G_Barred_shows hr x_Barred_shows.b pass0 (pa_cons (pe_lst pa_nil) pa_nil)) (pa_cons pe_bl pa_nil))) (pe_one (pe_call G__law_says hr rfl x__law_says.m x__law_says.F.kp x__law_says.b .nil pass0 (pa_cons (pe_meth2 (pe_make ⟨x_Barred.mks, x_Barred___init__.me.at_, x_Barred___init__.me.fn, x_Barred.kc⟩ G_Barred___init__ hr rfl x_Barred.m x_Barred___init__.b .nil pass0 (pa_cons (pe_un un_neg pe_int) pa_nil)) x_Seated.cl x_Seated_shows.me G_Seated_shows hr x_Seated_shows.b x_Barred.cl x_Barred_shows.me G_Barred_shows hr x_Barred_shows.b pass0 (pa_cons (pe_lst (pa_cons (pe_un un_neg pe_int) (pa_cons (pe_un un_neg pe_int) pa_nil))) pa_nil)) (pa_cons pe_bl pa_nil))))))))))))), ?_⟩
  -- shuns, size
  refine ⟨_, rfl, a, ns, rfl, hS, hl, fun r H1 xs s1 n1 e1 g => ?_⟩
  obtain ⟨gl, gok⟩ := g
  rw [← gl] at hl gok
  replace hS := s1.seq hS
  clear s1 n1
  refine ⟨_, rfl, r, _, rfl, .inl (SqL.of e1), ?_⟩
  rw [lz_len]
  -- one
  refine ⟨_, rfl, a, ns, 1, rfl, hS, fun cv => ?_⟩
  refine ⟨_, rfl, 1, _, rfl, _, _, _, rfl, by decide, by split <;> omega, fun one H2 o0 o1 s2 => ?_⟩
  replace hS := s2.seq hS
  replace e1 := s2 _ _ e1
  clear s2
  have o2 : 0 < xs.length → one < xs.length := fun h => by split at o1 <;> omega
  clear o1
  -- the three
  refine ⟨_, rfl, ?_⟩
  refine ⟨_, rfl, (by show 1 ≤ sizeLine; decide), fun q1 hq1 => ?_⟩
  have s3 : Same H2 (upd H2 q1 (.lst [.int one])) := same_new hq1 _
  refine ⟨_, rfl, q1, _, _, rfl, rfl, upd_same, by omega, by omega, small (by simp; omega), fun q2 hq2 => ?_⟩
  have em : (List.replicate ((xs.length : Int)).toNat [V.int one]).flatten = (List.replicate xs.length one).map V.int := by
    rw [rep_flat, List.map_replicate]; rfl
  rw [em]
  have s4 : Same H2 (upd (upd H2 q1 (.lst [.int one])) q2 (lz (List.replicate xs.length one))) := s3.trans (same_new hq2 _)
  have e2 : (upd (upd H2 q1 (.lst [.int one])) q2 (lz (List.replicate xs.length one))) q2 = some (lz (List.replicate xs.length one)) := upd_same
  replace e1 := s4 _ _ e1
  replace hS := s4.seq hS
  generalize (upd (upd H2 q1 (.lst [.int one])) q2 (lz (List.replicate xs.length one))) = H3 at e1 e2 hS ⊢
  clear s3 s4 hq1 hq2 em
  refine ⟨_, rfl, (by show 1 ≤ sizeLine; decide), fun q3 hq3 => ?_⟩
  have s5 : Same H3 (upd H3 q3 (.lst [.int one])) := same_new hq3 _
  refine ⟨_, rfl, _, _, rfl, rfl, q3, _, _, rfl, rfl, upd_same, by omega, by omega, small (by simp; omega), fun q4 hq4 => ?_⟩
  have em : (List.replicate ((xs.length : Int) - 1).toNat [V.int one]).flatten = (List.replicate (xs.length - 1) one).map V.int := by
    rw [rep_flat, List.map_replicate]; congr 1; omega
  rw [em]
  have s6 : Same H3 (upd (upd H3 q3 (.lst [.int one])) q4 (lz (List.replicate (xs.length - 1) one))) := s5.trans (same_new hq4 _)
  have e3 : (upd (upd H3 q3 (.lst [.int one])) q4 (lz (List.replicate (xs.length - 1) one))) q4 = some (lz (List.replicate (xs.length - 1) one)) := upd_same
  replace e1 := s6 _ _ e1
  replace e2 := s6 _ _ e2
  replace hS := s6.seq hS
  generalize (upd (upd H3 q3 (.lst [.int one])) q4 (lz (List.replicate (xs.length - 1) one))) = H4 at e1 e2 e3 hS ⊢
  clear s5 s6 hq3 hq4 em
  refine ⟨_, rfl, (by show 1 ≤ sizeLine; decide), fun q5 hq5 => ?_⟩
  have s7 : Same H4 (upd H4 q5 (.lst [.int (-1)])) := same_new hq5 _
  refine ⟨_, rfl, 1, _, rfl, q5, _, _, rfl, rfl, upd_same, by split <;> omega, by split <;> omega, small (by simp; split <;> omega), fun q6 hq6 => ?_⟩
  have em : (List.replicate (if (xs.length : Int) < 1 then (xs.length : Int) else 1).toNat [V.int (-1)]).flatten = (List.replicate (min 1 xs.length) (-1)).map V.int := by
    rw [rep_flat, List.map_replicate]; congr 1; split <;> omega
  rw [em]
  have s8 : Same H4 (upd (upd H4 q5 (.lst [.int (-1)])) q6 (lz (List.replicate (min 1 xs.length) (-1)))) := s7.trans (same_new hq6 _)
  have e4 : (upd (upd H4 q5 (.lst [.int (-1)])) q6 (lz (List.replicate (min 1 xs.length) (-1)))) q6 = some (lz (List.replicate (min 1 xs.length) (-1))) := upd_same
  replace e1 := s8 _ _ e1
  replace e2 := s8 _ _ e2
  replace e3 := s8 _ _ e3
  replace hS := s8.seq hS
  generalize (upd (upd H4 q5 (.lst [.int (-1)])) q6 (lz (List.replicate (min 1 xs.length) (-1)))) = H5 at e1 e2 e3 e4 hS ⊢
  clear s7 s8 hq5 hq6 em
  refine ⟨q4, q6, _, _, rfl, rfl, e3, e4, small (by simp; omega), fun q7 hq7 => ?_⟩
  rw [← List.map_append]
  have s9 : Same H5 (upd H5 q7 (lz (List.replicate (xs.length - 1) one ++ List.replicate (min 1 xs.length) (-1)))) := same_new hq7 _
  have e5 : (upd H5 q7 (lz (List.replicate (xs.length - 1) one ++ List.replicate (min 1 xs.length) (-1)))) q7 = some (lz (List.replicate (xs.length - 1) one ++ List.replicate (min 1 xs.length) (-1))) := upd_same
  replace e1 := s9 _ _ e1
  replace e2 := s9 _ _ e2
  replace hS := s9.seq hS
  generalize (upd H5 q7 (lz (List.replicate (xs.length - 1) one ++ List.replicate (min 1 xs.length) (-1)))) = H6 at e1 e2 e5 hS ⊢
  clear s9 hq7 e3 e4
  refine ⟨(by show 3 ≤ sizeLine; decide), fun S hSn => ?_⟩
  have s10 : Same H6 (upd H6 S (.tup [.ref r, .ref q2, .ref q7])) := same_new hSn _
  have eS : (upd H6 S (.tup [.ref r, .ref q2, .ref q7])) S = some (.tup ([r, q2, q7].map V.ref)) := upd_same
  have all : ∀ t ∈ [r, q2, q7], SmN xs.length H6 t := by
    intro t ht
    simp only [List.mem_cons, List.not_mem_nil, or_false] at ht
    rcases ht with rfl | rfl | rfl
    · exact ⟨xs, e1, rfl, gok⟩
    · refine ⟨_, e2, by simp, fun x hx => ?_⟩
      rw [List.length_replicate]
      obtain ⟨h1, h2⟩ := List.mem_replicate.mp hx
      subst h2
      have := o2 (by omega)
      omega
    · have hlen : (List.replicate (xs.length - 1) one ++ List.replicate (min 1 xs.length) (-1 : Int)).length = xs.length := by simp; omega
      refine ⟨_, e5, hlen, fun x hx => ?_⟩
      rw [hlen]
      rcases List.mem_append.mp hx with hx | hx
      · obtain ⟨h1, h2⟩ := List.mem_replicate.mp hx
        subst h2
        have := o2 (by omega)
        omega
      · obtain ⟨h1, h2⟩ := List.mem_replicate.mp hx
        subst h2
        omega
  replace all : ∀ t ∈ [r, q2, q7], SmN xs.length (upd H6 S (.tup [.ref r, .ref q2, .ref q7])) t := fun t ht => (all t ht).same s10
  replace hS := s10.seq hS
  generalize (upd H6 S (.tup [.ref r, .ref q2, .ref q7])) = H7 at eS all hS ⊢
  clear s10 hSn e1 e2 e5 gok
  generalize [r, q2, q7] = rs at eS all
  -- for some
  refine ⟨S, rfl, ⟨_, SqT.of eS⟩, ?_⟩
  refine for_tup (K := K) (a := S) (xs := rs.map V.ref) (fun i σ H' => Same H7 H' ∧ ∃ v4 v5 v6 v7 v8 v9 v10 v11 v12 v13, σ = [some (.ref a), some (.ref r), some (.int (xs.length : Int)), some (.int one), v4, v5, v6, v7, v8, v9, v10, v11, v12, v13])
    ⟨Same.refl _, none, none, none, none, none, none, none, none, none, none, rfl⟩ (fun i σ H' _ ⟨s, _⟩ => SqT.of (s _ _ eS)) ?_ ?_
  · rintro i y σ H8 hi ⟨s8, v4, v5, v6, v7, v8, v9, v10, v11, v12, v13, rfl⟩
    rw [List.getElem?_map] at hi
    obtain ⟨t, ht, rfl⟩ := Option.map_eq_some_iff.mp hi
    obtain ⟨ys, et, hyl, hyg⟩ := all t (List.mem_of_getElem? ht)
    clear hi ht
    -- found, start
    refine both ?main fun main => ⟨_, rfl, t, ys, rfl, s8 _ _ et, by omega, hyg, fun p l ss H9 s9 np nl O hoff => ⟨fun σ H' => Same H7 H' ∧ ∃ (st : Addr) (ss : List Int) (v5' : Option V), H' st = some (lz ss) ∧ ss.length = xs.length ∧ σ = [some (.ref a), some (.ref r), some (.int (xs.length : Int)), some (.int one), some (.ref t), v5', some (.ref st), v7, v8, v9, v10, v11, v12, v13], ?_, main⟩, fun p z H9 s9 np O hbar => ⟨_, ?_, main⟩⟩
    rotate_left
    · obtain ⟨⟨dx, eo⟩, el⟩ := id O
      refine ⟨_, rfl, _, _, _, _, rfl, x_Seated.ty eo, kSS, true, rfl, iteT ?_⟩
      refine ⟨_, rfl, p, CS, dx, _, _, rfl, eo, x_Seated.cl, nS, lk1 _ _, ?_⟩
      exact ⟨s8.trans s9, l, ss, _, el, by rw [off_len hoff, hyl], rfl⟩
    · obtain ⟨dx, eo⟩ := O.ob
      refine ⟨_, rfl, _, _, _, _, rfl, x_Barred.ty eo, kBS, false, rfl, iteF ?_⟩
      refine ⟨_, rfl, _, rfl, fun r0 hr0 => ⟨r0, xs.length, rfl, upd_same, by omega, fun l hl0 => ?_⟩⟩
      rw [rng_lz]
      obtain ⟨s10, nl⟩ := lr_facts (lz (rngI xs.length)) hr0 hl0
      exact ⟨(s8.trans s9).trans s10, l, _, _, upd_same, rngI_length _, rfl⟩
    rintro σ H9 ⟨s9, st, ss, v5', est, hsl, rfl⟩
    clear s8
    -- for k in range(4)
    refine ⟨4, rfl, by omega, by omega, ?_⟩
    refine for_range (lo := 0) (n := ((4 : Int)).toNat) (fun i σ H' => Same H9 H' ∧ ∃ v7 v8 v9 v10 v11 v12 v13, σ = [some (.ref a), some (.ref r), some (.int (xs.length : Int)), some (.int one), some (.ref t), v5', some (.ref st), v7, v8, v9, v10, v11, v12, v13])
      ⟨Same.refl _, _, _, _, _, _, _, _, rfl⟩ ?_ ?_
    rotate_left
    · rintro σ H10 ⟨s10, w7, w8, w9, w10, w11, w12, w13, rfl⟩
      exact ⟨s9.trans s10, _, _, _, _, _, _, _, _, _, _, rfl⟩
    rintro k σ H10 hk ⟨s10, w7, w8, w9, w10, w11, w12, w13, rfl⟩
    replace et := s9 _ _ et
    replace hS := s9.seq hS
    have hS1 := s10.seq hS
    -- cell
    refine ⟨_, rfl, _, rfl, a, ns, k, by rw [Int.zero_add]; rfl, hS1, fun c1 => ?_⟩
    refine ⟨_, rfl, _, _, rfl, rfl, .inl ⟨by omega, by omega⟩, _, _, rfl, rfl, ?_⟩
    refine ⟨_, rfl, _, rfl, _, _, rfl, rfl, a, ns, k + 1, by rw [Int.zero_add]; rfl, hS1, fun c2 => ?_⟩
    refine ⟨_, _, rfl, rfl, .inl ⟨by omega, by omega⟩, _, _, rfl, rfl, ?_⟩
    have et1 := s10 _ _ et
    -- the seatings
    have est1 : H10 st = some (lz ss) := s10 _ _ est
    refine ⟨_, rfl, _, rfl, _, rfl, st, ss, _, _, rfl, est1, by omega, fun b1 ts1 H11 s11 n11 e11 hl11 => ?_⟩
    refine ⟨_, rfl, _, rfl, fun r0 hr0 => ⟨r0, xs.length, rfl, upd_same, by omega, fun l hl0 => ?_⟩⟩
    rw [rng_lz]
    obtain ⟨s12, nl⟩ := lr_facts (lz (rngI xs.length)) hr0 hl0
    have el : (upd (upd H11 r0 (.rng 0 (xs.length : Int))) l (lz (rngI xs.length))) l = some (lz (rngI xs.length)) := upd_same
    replace e11 := s12 _ _ e11
    replace s10 := s10.trans (s11.trans s12)
    generalize (upd (upd H11 r0 (.rng 0 (xs.length : Int))) l (lz (rngI xs.length))) = H12 at s10 e11 el ⊢
    clear s11 s12 n11 hr0 hl0 nl
    refine ⟨_, rfl, _, _, rfl, rfl, ⟨by decide, by decide⟩, _, rfl, l, _, _, _, rfl, el, by rw [rngI_length]; omega, fun b2 ts2 H13 s13 n13 e13 hl13 => ?_⟩
    replace e11 := s13 _ _ e11
    replace s10 := s10.trans s13
    clear s13 n13 el
    refine ⟨_, rfl, t, _, rfl, .inl (SqL.of (s10 _ _ et)), fun b3 n3 => ?_⟩
    have s14 : Same H13 (upd H13 b3 (lz ys)) := same_new n3 _
    have e14 : (upd H13 b3 (lz ys)) b3 = some (lz ys) := upd_same
    replace e11 := s14 _ _ e11
    replace e13 := s14 _ _ e13
    replace s10 := s10.trans s14
    generalize (upd H13 b3 (lz ys)) = H14 at s10 e11 e13 e14 ⊢
    clear s14 n3
    refine ⟨(by show 3 ≤ sizeLine; decide), fun B nB' => ?_⟩
    have s15 : Same H14 (upd H14 B (.tup [.ref b1, .ref b2, .ref b3])) := same_new nB' _
    have eB : (upd H14 B (.tup [.ref b1, .ref b2, .ref b3])) B = some (.tup ([b1, b2, b3].map V.ref)) := upd_same
    have allB : ∀ b ∈ [b1, b2, b3], ∃ ts : List Int, H14 b = some (lz ts) ∧ ts.length ≤ 64 := by
      intro b hb
      simp only [List.mem_cons, List.not_mem_nil, or_false] at hb
      rcases hb with rfl | rfl | rfl
      · exact ⟨_, e11, hl11⟩
      · exact ⟨_, e13, hl13⟩
      · exact ⟨_, e14, by omega⟩
    replace allB : ∀ b ∈ [b1, b2, b3], ∃ ts : List Int, (upd H14 B (.tup [.ref b1, .ref b2, .ref b3])) b = some (lz ts) ∧ ts.length ≤ 64 := fun b hb => let ⟨ts, e, z⟩ := allB b hb; ⟨ts, s15 _ _ e, z⟩
    replace s10 := s10.trans s15
    generalize (upd H14 B (.tup [.ref b1, .ref b2, .ref b3])) = H15 at s10 eB allB ⊢
    clear s15 nB' e11 e13 e14 hS1 est1
    generalize [b1, b2, b3] = bs at eB allB
    refine ⟨B, rfl, ⟨_, SqT.of eB⟩, ?_⟩
    refine for_tup (K := K) (a := B) (xs := bs.map V.ref) (fun i σ H' => Same H15 H' ∧ ∃ v9 v10 v11 v12 v13, σ = [some (.ref a), some (.ref r), some (.int (xs.length : Int)), some (.int one), some (.ref t), v5', some (.ref st), some (.int (0 + (k : Int))), some (.int (c1 + 977 * (0 + (k : Int)) + 7 * c2)), v9, v10, v11, v12, v13])
      ⟨Same.refl _, _, _, _, _, _, rfl⟩ (fun i σ H' _ ⟨s, _⟩ => SqT.of (s _ _ eB)) ?_ ?_
    · rintro j y σ H16 hj ⟨s16, u9, u10, u11, u12, u13, rfl⟩
      rw [List.getElem?_map] at hj
      obtain ⟨b, hb, rfl⟩ := Option.map_eq_some_iff.mp hj
      obtain ⟨ts, eb, hbl⟩ := allB b (List.mem_of_getElem? hb)
      clear hj hb
      replace eb := s16 _ _ eb
      have et2 := s16 _ _ (s10 _ _ et)
      -- handed
      refine ⟨_, rfl, b, _, rfl, .inl (SqL.of eb), fun hd hhd => ?_⟩
      have s17 : Same H16 (upd H16 hd (lz ts)) := same_new hhd _
      have eh : (upd H16 hd (lz ts)) hd = some (lz ts) := upd_same
      have nhd : H15 hd = none := s16.free hhd
      have nbh : b ≠ hd := ne_of_none eb hhd
      have nth : t ≠ hd := ne_of_none et2 hhd
      replace eb := s17 _ _ eb
      replace et2 := s17 _ _ et2
      replace s16 := s16.trans s17
      generalize (upd H16 hd (lz ts)) = H17 at s16 eh eb et2 ⊢
      clear s17 hhd
      -- answer
      refine ⟨_, rfl, fun p dx np ndx nex => ?_⟩
      have s18 : Same H17 (upd (upd H17 dx (.own p)) p (.ins CS dx [])) := new_ins np ndx
      refine ⟨p, dx, hd, _, rfl, upd_same, s18 _ _ eh, fun l2 H18 nl2 kp O => ⟨rfl, ?_⟩⟩
      have s19 : Same H17 H18 := fun b o e => kp b o (ne_of_none e np) (s18 _ _ e)
      have nl3 : H17 l2 = none := s18.free nl2
      have nlh : hd ≠ l2 := ne_of_none eh nl3
      have nph : hd ≠ p := ne_of_none eh np
      replace eh := s19 _ _ eh
      replace eb := s19 _ _ eb
      replace et2 := s19 _ _ et2
      replace s16 := s16.trans s19
      clear s18 s19 kp nl2 np ndx nex
      -- handed.append(0)
      refine ⟨_, rfl, .inl ⟨rfl, _, SqL.of eh⟩, hd, _, _, rfl, rfl, eh, small1000 (by rw [lz_len]; omega), ?_⟩
      rw [lz_snoc]
      have s20 : Same H15 (upd H18 hd (lz (ts ++ [0]))) := same_upd s16 nhd
      obtain ⟨⟨dx2, eo⟩, el2⟩ := O
      have O2 : SeatedAt CS (upd H18 hd (lz (ts ++ [0]))) p l2 ts := ⟨⟨dx2, by rw [upd_ne nph.symm]; exact eo⟩, by rw [upd_ne nlh.symm]; exact el2⟩
      replace eb : (upd H18 hd (lz (ts ++ [0]))) b = some (lz ts) := by rw [upd_ne nbh]; exact eb
      replace et2 : (upd H18 hd (lz (ts ++ [0]))) t = some (lz ys) := by rw [upd_ne nth]; exact et2
      generalize (upd H18 hd (lz (ts ++ [0]))) = H19 at s20 O2 eb et2 ⊢
      clear eo el2 s16 eh
      obtain ⟨⟨dx3, eo⟩, el⟩ := id O2
      refine ⟨_, rfl, p, CS, dx3, _, _, rfl, eo, x_Seated.cl, nS, lk1 _ _, _, rfl, l2, b, _, _, rfl, rfl, SqL.of el, SqL.of eb, _, rfl, ifNN rfl ?_⟩
      refine ⟨_, rfl, p, CS, dx3, _, rfl, eo, lk0 _ _ _ nsh1, .inl ⟨rfl, ?_⟩⟩
      refine ⟨_, rfl, p, l2, t, ts, ys, rfl, O2, et2, by omega, hyg, fun H20 s21 => ?_⟩
      refine ⟨_, rfl, _, rfl, t, b, ys, ts, rfl, s21 _ _ et2, s21 _ _ eb, by omega, hbl, fun H21 s22 => ?_⟩
      refine ⟨_, _, rfl, _, rfl, ?_⟩
      refine ifB0 (by simp) ?_
      exact ⟨s20.trans (s21.trans s22), _, _, _, _, _, rfl⟩
    rintro σ H16 ⟨s16, u9, u10, u11, u12, u13, rfl⟩
    replace s10 := s10.trans s16
    clear s16 eB allB
    -- the seats
    refine ⟨_, rfl, _, rfl, _, rfl, _, _, rfl, rfl, _, _, _, rfl, by decide, by omega, fun d H17 d0 d1 s17 => ?_⟩
    refine ⟨_, _, rfl, rfl, _, rfl, _, rfl, (by show 4 ≤ sizeLine; decide), fun Z nZ => ?_⟩
    have s18 : Same H17 (upd H17 Z (.tup [.int one, .int (d - 2), .int (-1), .int (xs.length : Int)])) := same_new nZ _
    have eZ : (upd H17 Z (.tup [.int one, .int (d - 2), .int (-1), .int (xs.length : Int)])) Z = some (.tup ([one, d - 2, -1, (xs.length : Int)].map V.int)) := upd_same
    replace s10 := s10.trans (s17.trans s18)
    generalize (upd H17 Z (.tup [.int one, .int (d - 2), .int (-1), .int (xs.length : Int)])) = H18 at s10 eZ ⊢
    clear s17 s18 nZ
    generalize [one, d - 2, -1, (xs.length : Int)] = zs at eZ
    refine ⟨Z, rfl, ⟨_, SqT.of eZ⟩, ?_⟩
    refine for_tup (K := K) (a := Z) (xs := zs.map V.int) (fun i σ H' => Same H18 H' ∧ ∃ v9 v10 v11 v12 v13, σ = [some (.ref a), some (.ref r), some (.int (xs.length : Int)), some (.int one), some (.ref t), v5', some (.ref st), some (.int (0 + (k : Int))), some (.int (c1 + 977 * (0 + (k : Int)) + 7 * c2)), v9, v10, v11, v12, v13])
      ⟨Same.refl _, _, _, _, _, _, rfl⟩ (fun i σ H' _ ⟨s, _⟩ => SqT.of (s _ _ eZ)) ?_ ?_
    rotate_left
    · rintro σ H19 ⟨s19, y9, y10, y11, y12, y13, rfl⟩
      exact ⟨s10.trans s19, _, _, _, _, _, _, _, rfl⟩
    rintro j y σ H19 hj ⟨s19, y9, y10, y11, y12, y13, rfl⟩
    obtain ⟨z, hz, rfl⟩ := lz_at hj
    clear hj
    have et3 := s19 _ _ (s10 _ _ et)
    -- due
    refine ⟨fun σ H' => Same H19 H' ∧ σ = [some (.ref a), some (.ref r), some (.int (xs.length : Int)), some (.int one), some (.ref t), v5', some (.ref st), some (.int (0 + (k : Int))), some (.int (c1 + 977 * (0 + (k : Int)) + 7 * c2)), y9, y10, y11, some (.int z), some (.bl (barB ys z))], ?_, ?_⟩
    · refine ⟨_, rfl, _, _, rfl, rfl, _, rfl, ?_⟩
      refine if2 (fun c0 => ?_) (fun c0 => ?_)
      rotate_left
      · have e : barB ys z = false := by
          unfold barB
          exact decide_eq_false fun h => c0 h.1
        exact ⟨Same.refl _, by rw [e]; rfl⟩
      refine ⟨_, rfl, Nat.zero_le _, fun em hem => ?_⟩
      have s20 : Same H19 (upd H19 em (.lst [])) := same_new hem _
      refine ⟨t, em, _, [], rfl, rfl, SqL.of (s20 _ _ et3), SqL.of upd_same, _, rfl, ?_⟩
      by_cases h0 : ys = []
      · refine ifNN h0 ?_
        have e : barB ys z = false := by
          unfold barB
          exact decide_eq_false fun h => h.2.1 h0
        exact ⟨s20, by rw [e]; rfl⟩
      refine ifNY h0 ?_
      refine ⟨_, rfl, _, rfl, (by show 1 ≤ sizeLine; decide), fun g1 hg1 => ?_⟩
      have s21 := s20.trans (same_new hg1 (.lst [.int z]))
      refine ⟨_, rfl, g1, _, _, rfl, rfl, upd_same, by omega, by omega, small (by simp; omega), fun g2 hg2 => ?_⟩
      have em2 : (List.replicate ((xs.length : Int)).toNat [V.int z]).flatten = (List.replicate ys.length z).map V.int := by
        rw [rep_flat, List.map_replicate, hyl]; rfl
      rw [em2]
      have s22 := s21.trans (same_new hg2 (lz (List.replicate ys.length z)))
      refine ⟨t, g2, _, _, rfl, rfl, SqL.of (s22 _ _ et3), SqL.of upd_same, ?_⟩
      exact ⟨s22, by rw [rep_bar c0 h0]; rfl⟩
    rintro σ H20 ⟨s20, rfl⟩
    replace s19 := s19.trans s20
    replace et3 := s20 _ _ et3
    clear s20
    refine ⟨_, rfl, fun p dx np ndx nex => ?_⟩
    have s21 : Same H20 (upd (upd H20 dx (.own p)) p (.ins CB dx [])) := new_ins np ndx
    refine ⟨p, dx, z, rfl, upd_same, fun H21 kp O => ⟨rfl, ?_⟩⟩
    have s22 : Same H20 H21 := fun b o e => kp b o (ne_of_none e np) (s21 _ _ e)
    replace s19 := s19.trans s22
    replace et3 := s22 _ _ et3
    clear s21 s22 kp np ndx nex
    obtain ⟨dx2, eo⟩ := O.ob
    refine ⟨_, rfl, p, CB, dx2, _, _, rfl, eo, x_Barred.cl, nB, lk1 _ _, _, rfl, rfl, _, rfl, ifNN rfl ?_⟩
    refine ⟨_, rfl, p, CB, dx2, _, rfl, eo, lk0 _ _ _ nsh2, .inr ⟨rfl, ?_⟩⟩
    refine ⟨_, rfl, p, t, z, ys, rfl, O, et3, by omega, hyg, fun H22 s23 => ?_⟩
    refine ⟨_, rfl, _, _, rfl, _, rfl, ?_⟩
    refine ifB0 (by simp) ?_
    exact ⟨s19.trans s23, _, _, _, _, _, rfl⟩
  rintro σ H8 ⟨s8, v4, v5, v6, v7, v8, v9, v10, v11, v12, v13, rfl⟩
  clear s8 all eS hS
  -- a few by hand
  refine ⟨(by show 2 ≤ sizeLine; decide), fun q1 hq1 p dx np ndx nex => ?_⟩
  refine ⟨p, dx, q1, [1, 0], rfl, upd_same, new_ins np ndx _ _ upd_same, fun l2 H9 nl2 kp O => ⟨rfl, ?_⟩⟩
  obtain ⟨dx2, eo⟩ := O.ob
  refine ⟨p, CS, dx2, _, rfl, eo, lk0 _ _ _ nsh1, .inl ⟨rfl, ?_⟩⟩
  refine ⟨(by show 2 ≤ sizeLine; decide), fun q2 hq2 => ?_⟩
  refine ⟨p, l2, q2, [1, 0], [0, 1], rfl, O.same (same_new hq2 _), upd_same, by decide, by decide, fun H10 s10 => ?_⟩
  refine ⟨_, _, rfl, _, rfl, ifB0 (by decide +kernel) ?_⟩
  clear O eo kp nl2 np ndx nex hq1 hq2 s10
  refine ⟨(by show 2 ≤ sizeLine; decide), fun q1 hq1 p dx np ndx nex => ?_⟩
  refine ⟨p, dx, q1, [0, 1], rfl, upd_same, new_ins np ndx _ _ upd_same, fun l2 H11 nl2 kp O => ⟨rfl, ?_⟩⟩
  obtain ⟨dx2, eo⟩ := O.ob
  refine ⟨p, CS, dx2, _, rfl, eo, lk0 _ _ _ nsh1, .inl ⟨rfl, ?_⟩⟩
  refine ⟨_, rfl, (by show 2 ≤ sizeLine; decide), fun q2 hq2 => ?_⟩
  refine ⟨p, l2, q2, [0, 1], [0, -1], rfl, O.same (same_new hq2 _), upd_same, by decide, by decide, fun H12 s12 => ?_⟩
  refine ⟨_, _, rfl, _, rfl, ifB0 (by decide +kernel) ?_⟩
  clear O eo kp nl2 np ndx nex hq1 hq2 s12
  refine fun p dx np ndx nex => ?_
  refine ⟨p, dx, 0, rfl, upd_same, fun H13 kp O => ⟨rfl, ?_⟩⟩
  obtain ⟨dx2, eo⟩ := O.ob
  refine ⟨p, CB, dx2, _, rfl, eo, lk0 _ _ _ nsh2, .inr ⟨rfl, ?_⟩⟩
  refine ⟨Nat.zero_le _, fun q2 hq2 => ?_⟩
  refine ⟨p, q2, 0, [], rfl, O.same (same_new hq2 _), upd_same, by decide, by decide, fun H14 s14 => ?_⟩
  refine ⟨_, _, rfl, true, rfl, iteT ?_⟩
  clear O eo kp np ndx nex hq2 s14
  refine ⟨_, rfl, fun p dx np ndx nex => ?_⟩
  refine ⟨p, dx, -1, rfl, upd_same, fun H15 kp O => ⟨rfl, ?_⟩⟩
  obtain ⟨dx2, eo⟩ := O.ob
  refine ⟨p, CB, dx2, _, rfl, eo, lk0 _ _ _ nsh2, .inr ⟨rfl, ?_⟩⟩
  refine ⟨_, rfl, _, rfl, (by show 2 ≤ sizeLine; decide), fun q2 hq2 => ?_⟩
  refine ⟨p, q2, -1, [-1, -1], rfl, O.same (same_new hq2 _), upd_same, by decide, by decide, fun H16 s16 => ?_⟩
  exact ⟨_, _, rfl, q _⟩
end
end OS

set_option Elab.async false
set_option linter.all false
set_option maxRecDepth 100000
set_option maxHeartbeats 1000000
namespace OS
open PySem PySem.Spec PyProof.Rows L2
theorem all_mk {l : PySem.W.OpenLaw} {w : World} {K : PySem.W.Frag} {h : Heap} {mg : Str → Option Value} {fa f1 f2 f3 f4 f5 f6 f7 f8 f9 f10 f11 f12 f13 f14 f15 f16 f17 f18 CSeated CBarred : Addr} (X : K.In h) (G : h.Ns mainGlobals mg) (hfa : mg "law" = some (.ref fa))
    {od1 an1 od2 an2 od3 an3 od4 an4 od5 an5 od6 an6 od7 an7 od8 an8 od9 an9 od10 an10 od11 an11 od12 an12 od13 an13 od14 an14 od15 an15 od16 an16 od17 an17 od18 an18 : Option Addr} {sl1 sl2 sl3 sl4 sl5 sl6 sl7 sl8 sl9 sl10 sl11 sl12 sl13 sl14 sl15 sl16 sl17 sl18 : Array (Option Value)} {oc1 kV1 dc1 pm1 cd1 ct1 oc2 kV2 dc2 pm2 cd2 ct2 oc3 kV3 dc3 pm3 cd3 ct3 oc4 kV4 dc4 pm4 cd4 ct4 oc5 kV5 dc5 pm5 cd5 ct5 oc6 kV6 dc6 pm6 cd6 ct6 oc7 kV7 dc7 pm7 cd7 ct7 oc8 kV8 dc8 pm8 cd8 ct8 oc9 kV9 dc9 pm9 cd9 ct9 oc10 kV10 dc10 pm10 cd10 ct10 oc11 kV11 dc11 pm11 cd11 ct11 oc12 kV12 dc12 pm12 cd12 ct12 oc13 kV13 dc13 pm13 cd13 ct13 oc14 kV14 dc14 pm14 cd14 ct14 oc15 kV15 dc15 pm15 cd15 ct15 oc16 kV16 dc16 pm16 cd16 ct16 oc17 kV17 dc17 pm17 cd17 ct17 oc18 kV18 dc18 pm18 cd18 ct18 : Value}
    (a_Seated : PySem.W.nsIn K mainGlobals "Seated" = some (some (.ref CSeated)))
    (a_Barred : PySem.W.nsIn K mainGlobals "Barred" = some (some (.ref CBarred)))
    (a1 : PySem.W.nsIn K mainGlobals "is_whole_number" = some (some (.ref f1)))
    (l1 : K.lookup f1 = some ⟨oc1, od1, .func (PySem.W.fnOf "is_whole_number" "is_whole_number" (defArgs s_is_whole_number) (defBody s_is_whole_number) (defScope s_is_whole_number) .none kV1 dc1 pm1 an1 cd1 ct1), sl1⟩)
    (c1 : PySem.W.codeIn K cd1 "is_whole_number" = true)
    (k1 : PySem.W.keepIn K (.ref f1) = true)
    (a2 : PySem.W.nsIn K mainGlobals "are_shuns" = some (some (.ref f2)))
    (l2 : K.lookup f2 = some ⟨oc2, od2, .func (PySem.W.fnOf "are_shuns" "are_shuns" (defArgs s_are_shuns) (defBody s_are_shuns) (defScope s_are_shuns) .none kV2 dc2 pm2 an2 cd2 ct2), sl2⟩)
    (c2 : PySem.W.codeIn K cd2 "are_shuns" = true)
    (k2 : PySem.W.keepIn K (.ref f2) = true)
    (a3 : PySem.W.nsIn K mainGlobals "refuse_bad_shuns" = some (some (.ref f3)))
    (l3 : K.lookup f3 = some ⟨oc3, od3, .func (PySem.W.fnOf "refuse_bad_shuns" "refuse_bad_shuns" (defArgs s_refuse_bad_shuns) (defBody s_refuse_bad_shuns) (defScope s_refuse_bad_shuns) .none kV3 dc3 pm3 an3 cd3 ct3), sl3⟩)
    (c3 : PySem.W.codeIn K cd3 "refuse_bad_shuns" = true)
    (k3 : PySem.W.keepIn K (.ref f3) = true)
    (a4 : PySem.W.nsIn K mainGlobals "is_seating" = some (some (.ref f4)))
    (l4 : K.lookup f4 = some ⟨oc4, od4, .func (PySem.W.fnOf "is_seating" "is_seating" (defArgs s_is_seating) (defBody s_is_seating) (defScope s_is_seating) .none kV4 dc4 pm4 an4 cd4 ct4), sl4⟩)
    (c4 : PySem.W.codeIn K cd4 "is_seating" = true)
    (k4 : PySem.W.keepIn K (.ref f4) = true)
    (a5 : PySem.W.nsIn K mainGlobals "is_seating_off" = some (some (.ref f5)))
    (l5 : K.lookup f5 = some ⟨oc5, od5, .func (PySem.W.fnOf "is_seating_off" "is_seating_off" (defArgs s_is_seating_off) (defBody s_is_seating_off) (defScope s_is_seating_off) .none kV5 dc5 pm5 an5 cd5 ct5), sl5⟩)
    (c5 : PySem.W.codeIn K cd5 "is_seating_off" = true)
    (k5 : PySem.W.keepIn K (.ref f5) = true)
    (a6 : PySem.W.findIn K (.ref CSeated) "__init__" = some (some (.ref f6)))
    (i6 : PySem.W.isFn K (.ref f6) = true)
    (l6 : K.lookup f6 = some ⟨oc6, od6, .func (PySem.W.fnOf "__init__" "Seated.__init__" (defArgs s_Seated___init__) (defBody s_Seated___init__) (defScope s_Seated___init__) .none kV6 dc6 pm6 an6 cd6 ct6), sl6⟩)
    (c6 : PySem.W.codeIn K cd6 "Seated.__init__" = true)
    (k6 : PySem.W.keepIn K (.ref f6) = true)
    (a7 : PySem.W.findIn K (.ref CSeated) "shows" = some (some (.ref f7)))
    (i7 : PySem.W.isFn K (.ref f7) = true)
    (l7 : K.lookup f7 = some ⟨oc7, od7, .func (PySem.W.fnOf "shows" "Seated.shows" (defArgs s_Seated_shows) (defBody s_Seated_shows) (defScope s_Seated_shows) .none kV7 dc7 pm7 an7 cd7 ct7), sl7⟩)
    (c7 : PySem.W.codeIn K cd7 "Seated.shows" = true)
    (k7 : PySem.W.keepIn K (.ref f7) = true)
    (a8 : PySem.W.findIn K (.ref CBarred) "__init__" = some (some (.ref f8)))
    (i8 : PySem.W.isFn K (.ref f8) = true)
    (l8 : K.lookup f8 = some ⟨oc8, od8, .func (PySem.W.fnOf "__init__" "Barred.__init__" (defArgs s_Barred___init__) (defBody s_Barred___init__) (defScope s_Barred___init__) .none kV8 dc8 pm8 an8 cd8 ct8), sl8⟩)
    (c8 : PySem.W.codeIn K cd8 "Barred.__init__" = true)
    (k8 : PySem.W.keepIn K (.ref f8) = true)
    (a9 : PySem.W.findIn K (.ref CBarred) "shows" = some (some (.ref f9)))
    (i9 : PySem.W.isFn K (.ref f9) = true)
    (l9 : K.lookup f9 = some ⟨oc9, od9, .func (PySem.W.fnOf "shows" "Barred.shows" (defArgs s_Barred_shows) (defBody s_Barred_shows) (defScope s_Barred_shows) .none kV9 dc9 pm9 an9 cd9 ct9), sl9⟩)
    (c9 : PySem.W.codeIn K cd9 "Barred.shows" = true)
    (k9 : PySem.W.keepIn K (.ref f9) = true)
    (a10 : PySem.W.nsIn K mainGlobals "seated" = some (some (.ref f10)))
    (l10 : K.lookup f10 = some ⟨oc10, od10, .func (PySem.W.fnOf "seated" "seated" (defArgs s_seated) (defBody s_seated) (defScope s_seated) .none kV10 dc10 pm10 an10 cd10 ct10), sl10⟩)
    (c10 : PySem.W.codeIn K cd10 "seated" = true)
    (k10 : PySem.W.keepIn K (.ref f10) = true)
    (a11 : PySem.W.nsIn K mainGlobals "_law_cell_at" = some (some (.ref f11)))
    (l11 : K.lookup f11 = some ⟨oc11, od11, .func (PySem.W.fnOf "_law_cell_at" "_law_cell_at" (defArgs s__law_cell_at) (defBody s__law_cell_at) (defScope s__law_cell_at) .none kV11 dc11 pm11 an11 cd11 ct11), sl11⟩)
    (c11 : PySem.W.codeIn K cd11 "_law_cell_at" = true)
    (k11 : PySem.W.keepIn K (.ref f11) = true)
    (a12 : PySem.W.nsIn K mainGlobals "_law_draw" = some (some (.ref f12)))
    (l12 : K.lookup f12 = some ⟨oc12, od12, .func (PySem.W.fnOf "_law_draw" "_law_draw" (defArgs s__law_draw) (defBody s__law_draw) (defScope s__law_draw) .none kV12 dc12 pm12 an12 cd12 ct12), sl12⟩)
    (c12 : PySem.W.codeIn K cd12 "_law_draw" = true)
    (k12 : PySem.W.keepIn K (.ref f12) = true)
    (a13 : PySem.W.nsIn K mainGlobals "_law_shuns" = some (some (.ref f13)))
    (l13 : K.lookup f13 = some ⟨oc13, od13, .func (PySem.W.fnOf "_law_shuns" "_law_shuns" (defArgs s__law_shuns) (defBody s__law_shuns) (defScope s__law_shuns) .none kV13 dc13 pm13 an13 cd13 ct13), sl13⟩)
    (c13 : PySem.W.codeIn K cd13 "_law_shuns" = true)
    (k13 : PySem.W.keepIn K (.ref f13) = true)
    (a14 : PySem.W.nsIn K mainGlobals "_law_off" = some (some (.ref f14)))
    (l14 : K.lookup f14 = some ⟨oc14, od14, .func (PySem.W.fnOf "_law_off" "_law_off" (defArgs s__law_off) (defBody s__law_off) (defScope s__law_off) .none kV14 dc14 pm14 an14 cd14 ct14), sl14⟩)
    (c14 : PySem.W.codeIn K cd14 "_law_off" = true)
    (k14 : PySem.W.keepIn K (.ref f14) = true)
    (a15 : PySem.W.nsIn K mainGlobals "_law_whole" = some (some (.ref f15)))
    (l15 : K.lookup f15 = some ⟨oc15, od15, .func (PySem.W.fnOf "_law_whole" "_law_whole" (defArgs s__law_whole) (defBody s__law_whole) (defScope s__law_whole) .none kV15 dc15 pm15 an15 cd15 ct15), sl15⟩)
    (c15 : PySem.W.codeIn K cd15 "_law_whole" = true)
    (k15 : PySem.W.keepIn K (.ref f15) = true)
    (a16 : PySem.W.nsIn K mainGlobals "_law_says" = some (some (.ref f16)))
    (l16 : K.lookup f16 = some ⟨oc16, od16, .func (PySem.W.fnOf "_law_says" "_law_says" (defArgs s__law_says) (defBody s__law_says) (defScope s__law_says) .none kV16 dc16 pm16 an16 cd16 ct16), sl16⟩)
    (c16 : PySem.W.codeIn K cd16 "_law_says" = true)
    (k16 : PySem.W.keepIn K (.ref f16) = true)
    (a17 : PySem.W.nsIn K mainGlobals "_law_bent" = some (some (.ref f17)))
    (l17 : K.lookup f17 = some ⟨oc17, od17, .func (PySem.W.fnOf "_law_bent" "_law_bent" (defArgs s__law_bent) (defBody s__law_bent) (defScope s__law_bent) .none kV17 dc17 pm17 an17 cd17 ct17), sl17⟩)
    (c17 : PySem.W.codeIn K cd17 "_law_bent" = true)
    (k17 : PySem.W.keepIn K (.ref f17) = true)
    (a18 : PySem.W.nsIn K mainGlobals "law" = some (some (.ref f18)))
    (l18 : K.lookup f18 = some ⟨oc18, od18, .func (PySem.W.fnOf "law" "law" (defArgs s_law) (defBody s_law) (defScope s_law) .none kV18 dc18 pm18 an18 cd18 ct18), sl18⟩)
    (c18 : PySem.W.codeIn K cd18 "law" = true)
    (k18 : PySem.W.keepIn K (.ref f18) = true)
    (pg_Seated : PySem.W.plainGet K CSeated Str.empty = true)
    (hd_Seated : PySem.W.hasDictIn K CSeated = true)
    (po_Seated : PySem.W.plainOver K CSeated = true)
    (sa_Seated : PySem.W.findIn K (.ref CSeated) "__setattr__" = some (some (.builtin "object.__setattr__")))
    (ha_Seated : PySem.W.findIn K (.ref CSeated) "__class__" = some (some (.builtin "object.__class__")))
    (hm_Seated : PySem.W.mroIn K CSeated (.type "object") = some true)
    (mk_Seated : PySem.W.makesIn K CSeated = true)
    (kc_Seated : PySem.W.keepIn K (.ref CSeated) = true)
    (pg_Barred : PySem.W.plainGet K CBarred Str.empty = true)
    (hd_Barred : PySem.W.hasDictIn K CBarred = true)
    (po_Barred : PySem.W.plainOver K CBarred = true)
    (sa_Barred : PySem.W.findIn K (.ref CBarred) "__setattr__" = some (some (.builtin "object.__setattr__")))
    (ha_Barred : PySem.W.findIn K (.ref CBarred) "__class__" = some (some (.builtin "object.__class__")))
    (hm_Barred : PySem.W.mroIn K CBarred (.type "object") = some true)
    (mk_Barred : PySem.W.makesIn K CBarred = true)
    (kc_Barred : PySem.W.keepIn K (.ref CBarred) = true)
    (hn : PySem.W.specialIn K (.builtin "object.__class__") "__get__" = some (some (.builtin "getset_descriptor.__get__")))
    (htk : PySem.W.takesIn K (.builtin "object.__class__") = some true)
    (n_Seated_seating : PySem.W.findIn K (.ref CSeated) "seating" = some none)
    (n_Barred_seat : PySem.W.findIn K (.ref CBarred) "seat" = some none)
    (ty_Seated : PySem.W.typeIn K (.ref CSeated) = some (.type "type"))
    (om_Seated : PySem.W.mroIn K CSeated (.type "object") = some true)
    (sb_Seated_Seated : PySem.W.subIn K (.ref CSeated) (.ref CSeated) = some true)
    (sb_Barred_Seated : PySem.W.subIn K (.ref CBarred) (.ref CSeated) = some false)
    (ne_Barred_Seated : CBarred ≠ CSeated)
    (z0 : PySem.W.nsIn K mainGlobals "len" = some none)
    (z1 : PySem.W.nsIn K mainGlobals "isinstance" = some none)
    (z2 : PySem.W.nsIn K mainGlobals "sum" = some none)
    (z3 : PySem.W.nsIn K mainGlobals "min" = some none)
    (z4 : PySem.W.nsIn K mainGlobals "max" = some none)
    (z5 : PySem.W.nsIn K mainGlobals "all" = some none)
    (z6 : PySem.W.nsIn K mainGlobals "any" = some none)
    (z7 : PySem.W.nsIn K mainGlobals "sorted" = some none)
    (z8 : PySem.W.nsIn K mainGlobals "int" = some none)
    (z9 : PySem.W.nsIn K mainGlobals "bool" = some none)
    (z10 : PySem.W.nsIn K mainGlobals "list" = some none)
    (z11 : PySem.W.nsIn K mainGlobals "range" = some none)
    (z12 : PySem.W.nsIn K mainGlobals "enumerate" = some none)
    (z13 : PySem.W.nsIn K mainGlobals "zip" = some none)
    : ∃ fd : FuncData, (∀ (s : Shared) (v : Value), BindsTo s fd ⟨[v], []⟩ [("_law_script", v)]) ∧ ∀ base : Heap, K.In base → base.Ns mainGlobals mg → FnOk l.prog w K mg base CX0 5 fa fd ["_law_script"] (spLaw K) := by
  have T : Nm mg := ⟨PySem.W.mg_none_of X G z0, PySem.W.mg_none_of X G z1, PySem.W.mg_none_of X G z2, PySem.W.mg_none_of X G z3, PySem.W.mg_none_of X G z4, PySem.W.mg_none_of X G z5, PySem.W.mg_none_of X G z6, PySem.W.mg_none_of X G z7, PySem.W.mg_none_of X G z8, PySem.W.mg_none_of X G z9, PySem.W.mg_none_of X G z10, PySem.W.mg_none_of X G z11, PySem.W.mg_none_of X G z12, PySem.W.mg_none_of X G z13⟩
  have x_Seated : Cs K mg "Seated" CSeated := ⟨PySem.W.mg_of X G a_Seated, ⟨pg_Seated, hd_Seated, po_Seated, sa_Seated⟩, ha_Seated, hn, htk, hm_Seated, mk_Seated, kc_Seated⟩
  have x_Barred : Cs K mg "Barred" CBarred := ⟨PySem.W.mg_of X G a_Barred, ⟨pg_Barred, hd_Barred, po_Barred, sa_Barred⟩, ha_Barred, hn, htk, hm_Barred, mk_Barred, kc_Barred⟩
  have k_Seated_Seated := kit_of ty_Seated om_Seated sb_Seated_Seated (.inr rfl)
  have k_Barred_Seated := kit_of ty_Seated om_Seated sb_Barred_Seated (.inl ne_Barred_Seated)
  have F1 := fun_mk (x := "is_whole_number") (qual := "is_whole_number") (st := s_is_whole_number) l1 c1 k1
  have x_is_whole_number : Fx K mg "is_whole_number" ["value"] s_is_whole_number f1 _ := ⟨F1, PySem.W.mg_of X G a1, F1.binds (ps := ["value"]) fun _ _ _ _ _ _ us hl => match us, hl with | [_], _ => rfl⟩
  have F2 := fun_mk (x := "are_shuns") (qual := "are_shuns") (st := s_are_shuns) l2 c2 k2
  have x_are_shuns : Fx K mg "are_shuns" ["value"] s_are_shuns f2 _ := ⟨F2, PySem.W.mg_of X G a2, F2.binds (ps := ["value"]) fun _ _ _ _ _ _ us hl => match us, hl with | [_], _ => rfl⟩
  have F3 := fun_mk (x := "refuse_bad_shuns") (qual := "refuse_bad_shuns") (st := s_refuse_bad_shuns) l3 c3 k3
  have x_refuse_bad_shuns : Fx K mg "refuse_bad_shuns" ["shuns"] s_refuse_bad_shuns f3 _ := ⟨F3, PySem.W.mg_of X G a3, F3.binds (ps := ["shuns"]) fun _ _ _ _ _ _ us hl => match us, hl with | [_], _ => rfl⟩
  have F4 := fun_mk (x := "is_seating") (qual := "is_seating") (st := s_is_seating) l4 c4 k4
  have x_is_seating : Fx K mg "is_seating" ["value", "guests"] s_is_seating f4 _ := ⟨F4, PySem.W.mg_of X G a4, F4.binds (ps := ["value", "guests"]) fun _ _ _ _ _ _ us hl => match us, hl with | [_, _], _ => rfl⟩
  have F5 := fun_mk (x := "is_seating_off") (qual := "is_seating_off") (st := s_is_seating_off) l5 c5 k5
  have x_is_seating_off : Fx K mg "is_seating_off" ["value", "shuns"] s_is_seating_off f5 _ := ⟨F5, PySem.W.mg_of X G a5, F5.binds (ps := ["value", "shuns"]) fun _ _ _ _ _ _ us hl => match us, hl with | [_, _], _ => rfl⟩
  have F6 := fun_mk (x := "__init__") (qual := "Seated.__init__") (st := s_Seated___init__) l6 c6 k6
  have x_Seated___init__ : Mx K CSeated "__init__" "Seated.__init__" ["self", "seating"] s_Seated___init__ f6 _ := ⟨F6, F6.binds (ps := ["self", "seating"]) fun _ _ _ _ _ _ us hl => match us, hl with | [_, _], _ => rfl, ⟨a6, i6, k6⟩⟩
  have F7 := fun_mk (x := "shows") (qual := "Seated.shows") (st := s_Seated_shows) l7 c7 k7
  have x_Seated_shows : Mx K CSeated "shows" "Seated.shows" ["self", "shuns"] s_Seated_shows f7 _ := ⟨F7, F7.binds (ps := ["self", "shuns"]) fun _ _ _ _ _ _ us hl => match us, hl with | [_, _], _ => rfl, ⟨a7, i7, k7⟩⟩
  have F8 := fun_mk (x := "__init__") (qual := "Barred.__init__") (st := s_Barred___init__) l8 c8 k8
  have x_Barred___init__ : Mx K CBarred "__init__" "Barred.__init__" ["self", "seat"] s_Barred___init__ f8 _ := ⟨F8, F8.binds (ps := ["self", "seat"]) fun _ _ _ _ _ _ us hl => match us, hl with | [_, _], _ => rfl, ⟨a8, i8, k8⟩⟩
  have F9 := fun_mk (x := "shows") (qual := "Barred.shows") (st := s_Barred_shows) l9 c9 k9
  have x_Barred_shows : Mx K CBarred "shows" "Barred.shows" ["self", "shuns"] s_Barred_shows f9 _ := ⟨F9, F9.binds (ps := ["self", "shuns"]) fun _ _ _ _ _ _ us hl => match us, hl with | [_, _], _ => rfl, ⟨a9, i9, k9⟩⟩
  have F10 := fun_mk (x := "seated") (qual := "seated") (st := s_seated) l10 c10 k10
  have x_seated : Fx K mg "seated" ["shuns"] s_seated f10 _ := ⟨F10, PySem.W.mg_of X G a10, F10.binds (ps := ["shuns"]) fun _ _ _ _ _ _ us hl => match us, hl with | [_], _ => rfl⟩
  have F11 := fun_mk (x := "_law_cell_at") (qual := "_law_cell_at") (st := s__law_cell_at) l11 c11 k11
  have x__law_cell_at : Fx K mg "_law_cell_at" ["_law_script", "_law_k"] s__law_cell_at f11 _ := ⟨F11, PySem.W.mg_of X G a11, F11.binds (ps := ["_law_script", "_law_k"]) fun _ _ _ _ _ _ us hl => match us, hl with | [_, _], _ => rfl⟩
  have F12 := fun_mk (x := "_law_draw") (qual := "_law_draw") (st := s__law_draw) l12 c12 k12
  have x__law_draw : Fx K mg "_law_draw" ["_law_cell", "_law_k", "_law_many"] s__law_draw f12 _ := ⟨F12, PySem.W.mg_of X G a12, F12.binds (ps := ["_law_cell", "_law_k", "_law_many"]) fun _ _ _ _ _ _ us hl => match us, hl with | [_, _, _], _ => rfl⟩
  have F13 := fun_mk (x := "_law_shuns") (qual := "_law_shuns") (st := s__law_shuns) l13 c13 k13
  have x__law_shuns : Fx K mg "_law_shuns" ["_law_script"] s__law_shuns f13 _ := ⟨F13, PySem.W.mg_of X G a13, F13.binds (ps := ["_law_script"]) fun _ _ _ _ _ _ us hl => match us, hl with | [_], _ => rfl⟩
  have F14 := fun_mk (x := "_law_off") (qual := "_law_off") (st := s__law_off) l14 c14 k14
  have x__law_off : Fx K mg "_law_off" ["_law_shuns_here", "_law_found"] s__law_off f14 _ := ⟨F14, PySem.W.mg_of X G a14, F14.binds (ps := ["_law_shuns_here", "_law_found"]) fun _ _ _ _ _ _ us hl => match us, hl with | [_, _], _ => rfl⟩
  have F15 := fun_mk (x := "_law_whole") (qual := "_law_whole") (st := s__law_whole) l15 c15 k15
  have x__law_whole : Fx K mg "_law_whole" ["_law_number"] s__law_whole f15 _ := ⟨F15, PySem.W.mg_of X G a15, F15.binds (ps := ["_law_number"]) fun _ _ _ _ _ _ us hl => match us, hl with | [_], _ => rfl⟩
  have F16 := fun_mk (x := "_law_says") (qual := "_law_says") (st := s__law_says) l16 c16 k16
  have x__law_says : Fx K mg "_law_says" ["_law_said", "_law_due"] s__law_says f16 _ := ⟨F16, PySem.W.mg_of X G a16, F16.binds (ps := ["_law_said", "_law_due"]) fun _ _ _ _ _ _ us hl => match us, hl with | [_, _], _ => rfl⟩
  have F17 := fun_mk (x := "_law_bent") (qual := "_law_bent") (st := s__law_bent) l17 c17 k17
  have x__law_bent : Fx K mg "_law_bent" ["_law_some", "_law_cell", "_law_size"] s__law_bent f17 _ := ⟨F17, PySem.W.mg_of X G a17, F17.binds (ps := ["_law_some", "_law_cell", "_law_size"]) fun _ _ _ _ _ _ us hl => match us, hl with | [_, _, _], _ => rfl⟩
  have F18 := fun_mk (x := "law") (qual := "law") (st := s_law) l18 c18 k18
  have e := hfa.symm.trans (PySem.W.mg_of X G a18)
  cases e
  have F_law := F18
  refine ⟨PySem.W.fnOf "law" "law" (defArgs s_law) (defBody s_law) (defScope s_law) .none kV18 dc18 pm18 an18 cd18 ct18, fun s v => .of_eq rfl, fun base _ _ => ?_⟩
  exact ok_law T F_law x_Seated x_Barred n_Seated_seating n_Barred_seat k_Seated_Seated k_Barred_Seated
    x__law_shuns ((ok_law_shuns T x__law_shuns.F x__law_draw x__law_cell_at).mono (by decide)) x__law_draw ((ok_law_draw x__law_draw.F).mono (by decide)) x__law_cell_at ((ok_law_cell_at T x__law_cell_at.F).mono (by decide))
    x_seated (ok_seated T x_seated.F x_Seated x_Barred n_Seated_seating n_Barred_seat x_Seated___init__ x_Barred___init__ x_refuse_bad_shuns x_are_shuns x_is_whole_number)
    x__law_bent ((ok_law_bent T x__law_bent.F x__law_draw).mono (by decide)) x__law_says ((ok_law_says T x__law_says.F).mono (by decide)) x__law_off ((ok_law_off T x__law_off.F x__law_whole).mono (by decide))
    x_Seated_shows (ok_Seated_shows T x_Seated_shows.F x_Seated.cl n_Seated_seating x_are_shuns x_is_whole_number x_is_seating x_is_seating_off)
    x_Barred_shows (ok_Barred_shows T x_Barred_shows.F x_Barred.cl n_Barred_seat x_are_shuns x_is_whole_number)
    x_Seated___init__ ((ok_Seated_init T x_Seated___init__.F x_Seated.cl n_Seated_seating).mono (by decide)) x_Barred___init__ ((ok_Barred_init T x_Barred___init__.F x_Barred.cl n_Barred_seat).mono (by decide))
theorem walk {l : PySem.W.OpenLaw} {q : Program} {loose : List Str} {XP : (Str → Option Value) → Heap → Prop} {YP : World → Heap → Prop} {d : DefRec} {K : Params → PySem.W.Frag} (hn : l.most = some 63) (hdf : d.params.defaults = [])
    (hY : ∀ (w : World) (h : Heap), YP w h → (K w.params).In h)
    (F : ∀ (w : World) (mg : Str → Option Value) (fa : Addr) (h : Heap), (K w.params).In h → h.Ns mainGlobals mg → mg d.name = some (.ref fa) →
      ∃ fd : FuncData, (∀ (s : Shared) (u : Value), BindsTo s fd ⟨[u], []⟩ [("_law_script", u)]) ∧ ∀ base : Heap, (K w.params).In base → base.Ns mainGlobals mg → FnOk l.prog w (K w.params) mg base CX0 5 fa fd ["_law_script"] (spLaw (K w.params))) :
    PySem.W.WalkO q loose XP YP l.row.toRowW d [] (fun f vs => PySem.call f vs) :=
  L2.walk_of (n := 63) (k := 5) (x := "_law_script") (CX := fun _ => CX0) (sp := fun w => spLaw (K w.params)) hn (by decide) hdf ⟨rfl, by decide, by decide⟩ hY F (fun _ _ a ns hl _ hS => ⟨a, ns, rfl, hS, hl, fun _ => rfl⟩) fun _ _ _ _ _ z => z
end OS
open PySem PySem.W PyProof.Rows
set_option maxRecDepth 100000 in
set_option maxHeartbeats 0 in
theorem PySem.Challenge.cw_offseat_k04_answers_by_hand_holds : PySem.Challenge.rw_offseat_k04_answers_by_hand.Holds := by
  w_on; o_law; k_head; (case hw => w_witness2)
  k_fill
  refine OS.walk (l := PySem.Challenge.rw_offseat_k04_answers_by_hand) rfl rfl (fun w h Y => PySem.W.kIn_of Y) ?F
  case F =>
    intro w mg fa h KX G hmg
    refine' OS.all_mk KX G hmg ?a_Seated ?a_Barred ?a1 ?l1 ?c1 ?k1 ?a2 ?l2 ?c2 ?k2 ?a3 ?l3 ?c3 ?k3 ?a4 ?l4 ?c4 ?k4 ?a5 ?l5 ?c5 ?k5 ?a6 ?i6 ?l6 ?c6 ?k6 ?a7 ?i7 ?l7 ?c7 ?k7 ?a8 ?i8 ?l8 ?c8 ?k8 ?a9 ?i9 ?l9 ?c9 ?k9 ?a10 ?l10 ?c10 ?k10 ?a11 ?l11 ?c11 ?k11 ?a12 ?l12 ?c12 ?k12 ?a13 ?l13 ?c13 ?k13 ?a14 ?l14 ?c14 ?k14 ?a15 ?l15 ?c15 ?k15 ?a16 ?l16 ?c16 ?k16 ?a17 ?l17 ?c17 ?k17 ?a18 ?l18 ?c18 ?k18 ?pg_Seated ?hd_Seated ?po_Seated ?sa_Seated ?ha_Seated ?hm_Seated ?mk_Seated ?kc_Seated ?pg_Barred ?hd_Barred ?po_Barred ?sa_Barred ?ha_Barred ?hm_Barred ?mk_Barred ?kc_Barred ?hn ?htk ?n_Seated_seating ?n_Barred_seat ?ty_Seated ?om_Seated ?sb_Seated_Seated ?sb_Barred_Seated ?ne_Barred_Seated ?z0 ?z1 ?z2 ?z3 ?z4 ?z5 ?z6 ?z7 ?z8 ?z9 ?z10 ?z11 ?z12 ?z13
    (case a_Seated => k_is)
    (case a_Barred => k_is)
    (case a1 => k_is)
    (case l1 => k_is)
    (case c1 => k_is)
    (case k1 => k_is)
    (case a2 => k_is)
    (case l2 => k_is)
    (case c2 => k_is)
    (case k2 => k_is)
    (case a3 => k_is)
    (case l3 => k_is)
    (case c3 => k_is)
    (case k3 => k_is)
    (case a4 => k_is)
    (case l4 => k_is)
    (case c4 => k_is)
    (case k4 => k_is)
    (case a5 => k_is)
    (case l5 => k_is)
    (case c5 => k_is)
    (case k5 => k_is)
    (case a6 => k_is)
    (case i6 => k_is)
    (case l6 => k_is)
    (case c6 => k_is)
    (case k6 => k_is)
    (case a7 => k_is)
    (case i7 => k_is)
    (case l7 => k_is)
    (case c7 => k_is)
    (case k7 => k_is)
    (case a8 => k_is)
    (case i8 => k_is)
    (case l8 => k_is)
    (case c8 => k_is)
    (case k8 => k_is)
    (case a9 => k_is)
    (case i9 => k_is)
    (case l9 => k_is)
    (case c9 => k_is)
    (case k9 => k_is)
    (case a10 => k_is)
    (case l10 => k_is)
    (case c10 => k_is)
    (case k10 => k_is)
    (case a11 => k_is)
    (case l11 => k_is)
    (case c11 => k_is)
    (case k11 => k_is)
    (case a12 => k_is)
    (case l12 => k_is)
    (case c12 => k_is)
    (case k12 => k_is)
    (case a13 => k_is)
    (case l13 => k_is)
    (case c13 => k_is)
    (case k13 => k_is)
    (case a14 => k_is)
    (case l14 => k_is)
    (case c14 => k_is)
    (case k14 => k_is)
    (case a15 => k_is)
    (case l15 => k_is)
    (case c15 => k_is)
    (case k15 => k_is)
    (case a16 => k_is)
    (case l16 => k_is)
    (case c16 => k_is)
    (case k16 => k_is)
    (case a17 => k_is)
    (case l17 => k_is)
    (case c17 => k_is)
    (case k17 => k_is)
    (case a18 => k_is)
    (case l18 => k_is)
    (case c18 => k_is)
    (case k18 => k_is)
    (case pg_Seated => k_is)
    (case hd_Seated => k_is)
    (case po_Seated => k_is)
    (case sa_Seated => k_is)
    (case ha_Seated => k_is)
    (case hm_Seated => k_is)
    (case mk_Seated => k_is)
    (case kc_Seated => k_is)
    (case pg_Barred => k_is)
    (case hd_Barred => k_is)
    (case po_Barred => k_is)
    (case sa_Barred => k_is)
    (case ha_Barred => k_is)
    (case hm_Barred => k_is)
    (case mk_Barred => k_is)
    (case kc_Barred => k_is)
    (case hn => k_is)
    (case htk => k_is)
    (case n_Seated_seating => k_is)
    (case n_Barred_seat => k_is)
    (case ty_Seated => k_is)
    (case om_Seated => k_is)
    (case sb_Seated_Seated => k_is)
    (case sb_Barred_Seated => k_is)
    (case ne_Barred_Seated => decide)
    (case z0 => k_is)
    (case z1 => k_is)
    (case z2 => k_is)
    (case z3 => k_is)
    (case z4 => k_is)
    (case z5 => k_is)
    (case z6 => k_is)
    (case z7 => k_is)
    (case z8 => k_is)
    (case z9 => k_is)
    (case z10 => k_is)
    (case z11 => k_is)
    (case z12 => k_is)
    (case z13 => k_is)
