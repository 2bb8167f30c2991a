import PyProof.Rows.All
import Wide.All
import OpenK.AllK
import Wide.FinOn
import Lean
import PyProof.EqAt
import PyProof.EqKinds
import PyProof.TupleCall
import PyProof.ExcArgs
import PySem.Str
import PyProof.EqLayable
import PyProof.Rows.EqDataRows
import PyProof.StrBlockI
import PySem.Challenge.RW_riverdue_k04_flows
set_option Elab.async false
set_option linter.all false
set_option maxRecDepth 100000
/-! THE HAND LAYER, for ints, bools, texts, own classes, LISTS and tuples (index, slices, in, append, pop ..), calls, loops. Paste it whole ahead of your own text; what your proof does not reach may be deleted. -/
namespace L2
open PySem PySem.Spec PyProof.Rows

/-- a key: an int or a str -/
abbrev Key := Sum Int Str
def keyIs : Key → Value → Bool
  | .inl k, v => Value.isInt k v
  | .inr x, v => Value.isStrOf x v
def keyH (w : World) : Key → Int
  | .inl k => hashInt k
  | .inr x => hashStr w x
theorem keyIs_shape : ∀ {k : Key} {v : Value}, keyIs k v = true → (∃ i t, k = Sum.inl i ∧ v = Value.int i t) ∨ (∃ x t, k = Sum.inr x ∧ v = Value.str x t)
  | .inl i, v, h => by
    obtain ⟨t, e⟩ := Value.isInt_shape (k := i) (v := v) h
    exact .inl ⟨i, t, rfl, e⟩
  | .inr x, v, h => by
    obtain ⟨t, e⟩ := Value.isStrOf_shape (x := x) (v := v) h
    exact .inr ⟨x, t, rfl, e⟩
theorem keyIs_int (i : Int) (t : Tok) : keyIs (.inl i) (.int i t) = true := by simp [keyIs, Value.isInt]
theorem keyIs_str (x : Str) (t : Tok) : keyIs (.inr x) (.str x t) = true := by simp [keyIs, Value.isStrOf]
theorem key_ll (a b : Int) : decide ((Sum.inl a : Key) = Sum.inl b) = (a == b) := by
  by_cases e : a = b
  · subst e; simp
  · have h : ¬ (Sum.inl a : Key) = Sum.inl b := fun q => e (Sum.inl.inj q)
    rw [decide_eq_false h]
    exact (beq_eq_false_iff_ne.mpr e).symm
theorem key_rr (a b : Str) : decide ((Sum.inr a : Key) = Sum.inr b) = decide (a = b) := by
  by_cases e : a = b
  · subst e; simp
  · have h : ¬ (Sum.inr a : Key) = Sum.inr b := fun q => e (Sum.inr.inj q)
    rw [decide_eq_false h, decide_eq_false e]
theorem key_lr (a : Int) (b : Str) : decide ((Sum.inl a : Key) = Sum.inr b) = false := decide_eq_false (fun q => nomatch q)
theorem key_rl (a : Str) (b : Int) : decide ((Sum.inr a : Key) = Sum.inl b) = false := decide_eq_false (fun q => nomatch q)

def mixKind (prog : Program) (w : World) : PySem.KeyKind prog w Key where
  is := keyIs
  hash := keyH w
  inj := fun v a b ha hb => by
    rcases keyIs_shape ha with ⟨i, t, rfl, rfl⟩ | ⟨x, t, rfl, rfl⟩
    · rcases keyIs_shape hb with ⟨j, u, rfl, e⟩ | ⟨y, u, rfl, e⟩
      · injection e with e1 _; rw [e1]
      · exact nomatch e
    · rcases keyIs_shape hb with ⟨j, u, rfl, e⟩ | ⟨y, u, rfl, e⟩
      · exact nomatch e
      · injection e with e1 _; rw [e1]
  byValue := fun k v h => by
    rcases keyIs_shape h with ⟨i, t, rfl, rfl⟩ | ⟨x, t, rfl, rfl⟩ <;> rfl
  pyHash := fun hv h => by
    rcases keyIs_shape hv with ⟨i, t, rfl, rfl⟩ | ⟨x, t, rfl, rfl⟩
    · exact wpAny_pyHash_int h
    · exact wpAny_pyHash_str h
  eqBool := fun hu hv h => by
    rcases keyIs_shape hu with ⟨i, t, rfl, rfl⟩ | ⟨x, t, rfl, rfl⟩
    · rcases keyIs_shape hv with ⟨j, u, rfl, rfl⟩ | ⟨y, u, rfl, rfl⟩
      · rw [key_ll] at h; exact wpAny_eqBool_int h
      · rw [key_lr] at h; exact SeqAt.EqAt.int_str i t y u _ _ _ _ h
    · rcases keyIs_shape hv with ⟨j, u, rfl, rfl⟩ | ⟨y, u, rfl, rfl⟩
      · rw [key_rl] at h; exact SeqAt.EqAt.str_int x t j u _ _ _ _ h
      · rw [key_rr] at h; exact wpAny_eqBool_str h
  «strs» := fun k x t v h => by
    rcases keyIs_shape h with ⟨i, u, rfl, e⟩ | ⟨y, u, rfl, e⟩
    · exact nomatch e
    · injection e with e1 _
      subst e1
      cases v <;> rfl

theorem mixKind_is (prog : Program) (w : World) (k : Key) (v : Value) : (mixKind prog w).is k v = keyIs k v := rfl
theorem mixKind_int (prog : Program) (w : World) (i : Int) (t : Tok) : (mixKind prog w).is (.inl i) (.int i t) = true := keyIs_int i t
theorem mixKind_str (prog : Program) (w : World) (x : Str) (t : Tok) : (mixKind prog w).is (.inr x) (.str x t) = true := keyIs_str x t
end L2

namespace L2
open PySem PySem.Spec PyProof.Rows

/-- a value, without the heap -/
inductive V where
  | non | bl (b : Bool) | int (i : Int) | str (x : Str) | byt (b : Array UInt8) | flt (b : UInt64) | ref (a : Addr) | ty (n : String)
  deriving DecidableEq

def RelV : V → Value → Prop
  | .non, u => u = Value.none
  | .bl b, u => u = Value.bool b
  | .int i, u => ∃ t, u = Value.int i t
  | .str x, u => ∃ t, u = Value.str x t
  | .byt b, u => ∃ t, u = Value.bytes b t
  | .flt b, u => ∃ t, u = Value.float b t
  | .ref a, u => u = Value.ref a
  | .ty n, u => u = Value.type n

abbrev Vals : List V → List Value → Prop := Paired RelV
theorem Vals.length {xs : List V} {us : List Value} (r : Vals xs us) : xs.length = us.length := Paired.length r
theorem Vals.get : ∀ {xs : List V} {us : List Value} {i : Nat} {x : V}, Vals xs us → xs[i]? = some x → ∃ u, us[i]? = some u ∧ RelV x u
  | _, _, _, _, .nil, e => by simp at e
  | _, _, 0, _, .cons r _, e => by simp at e; subst e; exact ⟨_, rfl, r⟩
  | _, _, i + 1, x, .cons _ t, e => by
    obtain ⟨u, h1, h2⟩ := Vals.get (i := i) (x := x) t (by simpa using e)
    exact ⟨u, by simpa using h1, h2⟩
theorem Vals.set {x : V} {u : Value} (r : RelV x u) : ∀ {xs : List V} {us : List Value} (i : Nat), Vals xs us → Vals (xs.set i x) (us.set i u)
  | _, _, _, .nil => .nil
  | _, _, 0, .cons _ t => .cons r t
  | _, _, i + 1, .cons q t => .cons q (Vals.set r i t)
theorem Vals.append : ∀ {xs ys : List V} {us ws : List Value}, Vals xs us → Vals ys ws → Vals (xs ++ ys) (us ++ ws)
  | _, _, _, _, .nil, s => s
  | _, _, _, _, .cons r t, s => .cons r (Vals.append t s)
theorem Vals.take : ∀ {xs : List V} {us : List Value} (n : Nat), Vals xs us → Vals (xs.take n) (us.take n)
  | _, _, 0, _ => .nil
  | _, _, _ + 1, .nil => .nil
  | _, _, n + 1, .cons r t => .cons r (Vals.take n t)
theorem Vals.drop : ∀ {xs : List V} {us : List Value} (n : Nat), Vals xs us → Vals (xs.drop n) (us.drop n)
  | _, _, 0, r => r
  | _, _, _ + 1, .nil => .nil
  | _, _, n + 1, .cons _ t => Vals.drop n t
theorem Vals.none_of : ∀ {xs : List V} {us : List Value} {i : Nat}, Vals xs us → xs[i]? = none → us[i]? = none := fun {xs us i} r e => by
  have h1 := r.length
  have h2 : xs.length ≤ i := List.getElem?_eq_none_iff.mp e
  exact List.getElem?_eq_none_iff.mpr (by omega)

def RelO : Option V → Option Value → Prop
  | some v, some u => RelV v u
  | none, none => True
  | _, _ => False
def KV {κ : Type} : List (κ × V) → List (κ × Value) → Prop := Paired fun (p : κ × V) (q : κ × Value) => p.1 = q.1 ∧ RelV p.2 q.2

/-- a key of a dict (00_mix): an int or a text -/
def kV : Key → V
  | .inl i => .int i
  | .inr x => .str x

/-- what stands at a tracked address -/
inductive HO where
  /-- a list -/
  | lst (xs : List V)
  /-- a tuple (never changes) -/
  | tup (xs : List V)
  /-- a dict whose keys are ints and texts; one whose keys are tuples of ints and texts (the empty one is both) -/
  | dK (kvs : List (Key × V)) | dT (kvs : List (List Key × V))
  /-- a set of ints: its members, its size -/
  | set (S : Int → Bool) (n : Nat)
  /-- an instance of the class at C, its dict at dx, its attributes -/
  | ins (C dx : Addr) (fs : List (Str × V))
  /-- the dict of the instance at x -/
  | own (x : Addr)
  /-- the dict of an exception -/
  | xd (fs : List (Str × V))
  /-- a bound method, f of x -/
  | met (f x : Addr)
  /-- a range object lo, lo + 1, .. below hi -/
  | rng (lo hi : Int)
  /-- a thing that is known to the object (the script; a dict while a loop walks it): read, never written while it is so -/
  | frz (o : Obj) (u : HO)
  /-- a code object's table -/
  | tbl (ps : Array Value)
  /-- any other thing, by what is true of its one object (a def of one's own: SetO a S n := HO.ext fun h => ..) -/
  | ext (φ : Heap → Prop)

abbrev Hp := Addr → Option HO
def upd (H : Hp) (a : Addr) (o : HO) : Hp := fun b => if b = a then some o else H b
theorem upd_same {H : Hp} {a : Addr} {o : HO} : upd H a o a = some o := by unfold upd; rw [if_pos rfl]
theorem upd_ne {H : Hp} {a b : Addr} {o : HO} (h : b ≠ a) : upd H a o b = H b := by unfold upd; rw [if_neg h]
theorem upd_upd {H : Hp} {a : Addr} {o u : HO} : upd (upd H a o) a u = upd H a u := by
  funext b; unfold upd; split <;> rfl
/-- two objects of different content stand apart -/
theorem ne_of {H : Hp} {a b : Addr} {o u : HO} (h : H a = some o) (h' : H b = some u) (d : o ≠ u) : a ≠ b := by
  intro e; subst e; rw [h] at h'; exact d (Option.some.inj h')
theorem ne_of_none {H : Hp} {a b : Addr} {o : HO} (h : H a = some o) (h' : H b = none) : a ≠ b := by
  intro e; subst e; rw [h] at h'; cases h'

section
variable (P : Program) (w : World)
def ObjOk (H : Hp) (h : Heap) (a : Addr) : HO → Prop
  | .lst xs => xs.length ≤ sizeLine ∧ ∃ (its : List Value) (n : Nat), Vals xs its ∧ h.get? a = some { cls := .type "list", data := .seq its.toArray n }
  | .tup xs => xs.length ≤ sizeLine ∧ ∃ its : List Value, Vals xs its ∧ IsTup h a its.toArray
  | .dK kvs => kvs.length ≤ sizeLine ∧ (a == sysModules) = false ∧ ∃ vs, KV kvs vs ∧ h.DictOf (mixKind P w) a vs
  | .dT kvs => kvs.length ≤ sizeLine ∧ (a == sysModules) = false ∧ ∃ xs : List (List Key × Addr × Value),
      Paired (fun (p : List Key × V) (q : List Key × Addr × Value) => p.1 = q.1 ∧ H q.2.1 = some (.tup (p.1.map kV)) ∧ RelV p.2 q.2.2) kvs xs ∧
      ∃ o es ep, h.get? a = some o ∧ o.ExactDict ∧ o.data = .dict es ep ∧ es.toList = xs.map (entryOfKey (tupleKind (mixKind P w))) ∧ (xs.map (·.1)).Nodup
  | .set S n => h.SetOf (intKind P w) a S n
  | .ins C dx fs => H dx = some (.own a) ∧ fs.length ≤ 1000 ∧ dx ≠ a ∧ h.get? a = some (PySem.W.instObj C dx) ∧
      ∃ mA, h.Ns1 dx mA ∧ (∀ f, RelO (fs.lookup f) (mA f)) ∧ PySem.Within mA (fs.map (·.1))
  | .own _ => ∃ o, h.get? a = some o
  | .xd fs => ∃ mA, h.Ns1 a mA ∧ ∀ f, RelO (fs.lookup f) (mA f)
  | .rng lo hi => ∃ t u v, h.get? a = some { cls := .type "range", data := .fields #[.int lo t, .int hi u, .int 1 v] }
  | .frz o u => h.get? a = some o ∧ ObjOk H h a u
  | .tbl ps => h.get? a = some { cls := .none, data := .fields ps }
  | .met f x => h.get? a = some (PySem.W.methodObj (.ref f) (.ref x))
  | .ext φ => φ h ∧ (∃ o, h.get? a = some o) ∧ ∀ h1 h2 : Heap, φ h1 → (∀ o, h1.get? a = some o → h2.get? a = some o) → φ h2
/-- the abstract heap is held -/
def HOk (H : Hp) (h : Heap) : Prop := ∀ a o, H a = some o → ObjOk P w H h a o
end

section
variable {P : Program} {w : World} {H H' : Hp} {h h' : Heap} {a : Addr} {o : HO}
theorem ObjOk.lt (x : ObjOk P w H h a o) : a < h.objs.size := by
  cases o with
  | lst xs => obtain ⟨_, _, _, _, e⟩ := x; exact Heap.lt_size e
  | tup xs => obtain ⟨_, _, _, p⟩ := x; exact p.lt
  | dK kvs => obtain ⟨_, _, _, _, o, _, _, e, _⟩ := x; exact Heap.lt_size e
  | dT kvs => obtain ⟨_, _, _, _, o, _, _, e, _⟩ := x; exact Heap.lt_size e
  | set S n => obtain ⟨o, _, _, _, e, _⟩ := x; exact Heap.lt_size e
  | ins C dx fs => obtain ⟨_, _, _, e, _⟩ := x; exact Heap.lt_size e
  | own y => obtain ⟨_, e⟩ := x; exact Heap.lt_size e
  | xd fs => obtain ⟨_, ⟨_, _, _, e, _⟩, _⟩ := x; exact Heap.lt_size e
  | rng lo hi => obtain ⟨_, _, _, e⟩ := x; exact Heap.lt_size e
  | frz ob u => obtain ⟨e, _⟩ := x; exact Heap.lt_size e
  | tbl ps => exact Heap.lt_size (show h.get? a = some _ from x)
  | met f y => exact Heap.lt_size (show h.get? a = some _ from x)
  | ext φ => obtain ⟨_, ⟨_, e⟩, _⟩ := x; exact Heap.lt_size e
theorem Paired.mapP {α β : Type} {F G : α → β → Prop} : ∀ {l₁ : List α} {l₂ : List β}, Paired F l₁ l₂ → (∀ a b, F a b → G a b) → Paired G l₁ l₂
  | _, _, .nil, _ => .nil
  | _, _, .cons r t, f => .cons (f _ _ r) (Paired.mapP t f)
theorem Paired.imp' {α β : Type} {F G : α → β → Prop} (f : ∀ a b, F a b → G a b) {l₁ : List α} {l₂ : List β} (r : Paired F l₁ l₂) : Paired G l₁ l₂ := Paired.mapP r f
/-- what an object's description leans on: its own object, its own dict, the tuples -/
theorem ObjOk.stay (x : ObjOk P w H h a o) (k : ∀ b u, (b = a ∨ H b = some (.own a)) → h.get? b = some u → h'.get? b = some u)
    (ho : ∀ b, H b = some (.own a) → H' b = some (.own a)) (ht : ∀ b xs, H b = some (.tup xs) → H' b = some (.tup xs)) : ObjOk P w H' h' a o := by
  induction o with
  | lst xs => obtain ⟨z, its, n, r, e⟩ := x; exact ⟨z, its, n, r, k _ _ (.inl rfl) e⟩
  | tup xs => obtain ⟨z, its, r, ob, e, c⟩ := x; exact ⟨z, its, r, ob, k _ _ (.inl rfl) e, c⟩
  | dK kvs => obtain ⟨z, y, vs, r, ob, es, ep, e, c⟩ := x; exact ⟨z, y, vs, r, ob, es, ep, k _ _ (.inl rfl) e, c⟩
  | dT kvs =>
    obtain ⟨z, y, xs, r, ob, es, ep, e, c⟩ := x
    exact ⟨z, y, xs, Paired.mapP r fun p q z => ⟨z.1, ht _ _ z.2.1, z.2.2⟩, ob, es, ep, k _ _ (.inl rfl) e, c⟩
  | set S n => obtain ⟨ob, es, ep, t, e, c⟩ := x; exact ⟨ob, es, ep, t, k _ _ (.inl rfl) e, c⟩
  | ins C dx fs =>
    obtain ⟨d, z, ne, e, mA, ⟨od, es, ep, e2, c⟩, r⟩ := x
    exact ⟨ho _ d, z, ne, k _ _ (.inl rfl) e, mA, ⟨od, es, ep, k _ _ (.inr d) e2, c⟩, r⟩
  | own y => obtain ⟨ob, e⟩ := x; exact ⟨ob, k _ _ (.inl rfl) e⟩
  | xd fs => obtain ⟨mA, ⟨od, es, ep, e, c⟩, r⟩ := x; exact ⟨mA, ⟨od, es, ep, k _ _ (.inl rfl) e, c⟩, r⟩
  | rng lo hi => obtain ⟨t, u, v, e⟩ := x; exact ⟨t, u, v, k _ _ (.inl rfl) e⟩
  | frz ob u ih => obtain ⟨e, q⟩ := x; exact ⟨k _ _ (.inl rfl) e, ih q⟩
  | tbl ps =>
    have e : h.get? a = some { cls := .none, data := .fields ps } := x
    show h'.get? a = some { cls := .none, data := .fields ps }
    exact k a _ (.inl rfl) e
  | met f y =>
    have e : h.get? a = some (PySem.W.methodObj (.ref f) (.ref y)) := x
    show h'.get? a = some (PySem.W.methodObj (.ref f) (.ref y))
    exact k a _ (.inl rfl) e
  | ext φ => obtain ⟨p, ⟨o, e⟩, st⟩ := x; exact ⟨st _ _ p fun o q => k _ _ (.inl rfl) q, ⟨o, k _ _ (.inl rfl) e⟩, st⟩
theorem HOk.lt (x : HOk P w H h) (e : H a = some o) : a < h.objs.size := (x a o e).lt
theorem HOk.fresh (x : HOk P w H h) (e : h.objs.size ≤ a) : H a = none := by
  cases q : H a with
  | none => rfl
  | some u => exact absurd (Nat.lt_of_lt_of_le (x.lt q) e) (Nat.lt_irrefl _)
/-- every object of the heap is kept -/
theorem HOk.kept (x : HOk P w H h) (k : ∀ b u, h.get? b = some u → h'.get? b = some u) : HOk P w H h' := fun a o e =>
  (x a o e).stay (fun b u _ q => k b u q) (fun _ q => q) fun _ _ q => q
/-- a new object is laid and tracked -/
theorem HOk.laid (x : HOk P w H h) (k : ∀ b u, h.get? b = some u → h'.get? b = some u) (hp : h.objs.size ≤ a) (new : ObjOk P w (upd H a o) h' a o) : HOk P w (upd H a o) h' := fun b u e => by
  have hn := x.fresh hp
  by_cases hb : b = a
  · subst hb; rw [upd_same] at e; cases e; exact new
  · rw [upd_ne hb] at e
    exact (x b u e).stay (fun c v _ q => k c v q) (fun c q => by rw [upd_ne (ne_of_none q hn)]; exact q) fun c xs q => by rw [upd_ne (ne_of_none q hn)]; exact q
end

/-- what may be read as u: it is u, or a known u -/
def Rd (H : Hp) (a : Addr) (u : HO) : Prop := H a = some u ∨ ∃ o, H a = some (.frz o u)
theorem Rd.of {H : Hp} {a : Addr} {u : HO} (h : H a = some u) : Rd H a u := .inl h
theorem Rd.ok {P : Program} {w : World} {H : Hp} {h : Heap} {a : Addr} {u : HO} (r : Rd H a u) (x : HOk P w H h) : ObjOk P w H h a u := by
  rcases r with r | ⟨o, r⟩
  · exact x a u r
  · obtain ⟨_, q⟩ := x a _ r
    exact q
/-- what may be written -/
def Mut : Option HO → Prop
  | some (.lst _) => True
  | some (.dK _) => True
  | some (.dT _) => True
  | some (.set _ _) => True
  | some (.ins _ _ _) => True
  | some (.ext _) => True
  | _ => False
section
variable {P : Program} {w : World} {H : Hp} {h h' : Heap} {x e : Addr} {o' : HO}
/-- the object at e is changed: x itself, or the dict of the instance x -/
theorem HOk.write (ok : HOk P w H h) (mu : Mut (H x)) (he : e = x ∨ H e = some (.own x)) (k : ∀ b u, b ≠ e → h.get? b = some u → h'.get? b = some u) (heo : ∃ u, h'.get? e = some u)
    (new : ObjOk P w (upd H x o') h' x o') : HOk P w (upd H x o') h' := fun b u q => by
  have nown : ∀ c y, H c = some (.own y) → c ≠ x := fun c y r z => by subst z; rw [r] at mu; exact mu
  have ntup : ∀ c xs, H c = some (.tup xs) → c ≠ x := fun c xs r z => by subst z; rw [r] at mu; exact mu
  by_cases hb : b = x
  · subst hb; rw [upd_same] at q; cases q; exact new
  · rw [upd_ne hb] at q
    by_cases hbe : b = e
    · have q' : H b = some (.own x) := by
        rcases he with z | z
        · exact absurd (hbe.trans z) hb
        · rw [hbe]; exact z
      rw [q] at q'; cases q'
      obtain ⟨v, hv⟩ := heo
      exact ⟨v, by rw [hbe]; exact hv⟩
    · refine (ok b u q).stay (fun c v hc r => k c v ?_ r) (fun c r => by rw [upd_ne (nown c b r)]; exact r) fun c xs r => by rw [upd_ne (ntup c xs r)]; exact r
      rcases hc with rfl | hc
      · exact hbe
      · rintro rfl
        rcases he with z | z
        · exact nown c b hc z
        · rw [hc] at z; cases z; exact hb rfl
end

/-! ### kept unless tracked; of the frames at fs (the callers') the slots may change (an exception that passes writes there); of the records at ex (iterators) nothing is said -/
structure Un (fs ex : List Addr) (H H' : Hp) (h h' : Heap) : Prop where
  keep : ∀ b o, h.get? b = some o → H b = none → b ∉ fs → b ∉ ex → h'.get? b = some o
  slot : ∀ b o, h.get? b = some o → H b = none → b ∈ fs → b ∉ ex → ∃ sl, h'.get? b = some { o with slots := sl }
  free : ∀ b o, h.get? b = some o → H b = none → b ∉ ex → H' b = none
  there : ∀ b o, h.get? b = some o → b ∉ ex → ∃ o', h'.get? b = some o'
  tups : ∀ b xs, H b = some (.tup xs) → H' b = some (.tup xs)
  frzs : ∀ b o u, H b = some (.frz o u) → H' b = some (.frz o u)
  tbls : ∀ b ps, H b = some (.tbl ps) → ∃ more, H' b = some (.tbl (ps ++ more))
section
variable {fs fs' ex ex' : List Addr} {H H1 H2 : Hp} {h h1 h2 h' : Heap} {a x e : Addr} {o : HO}
theorem Un.any (u : Un fs ex H H1 h h1) {b : Addr} {ob : Obj} (q : h.get? b = some ob) (n : H b = none) (hx : b ∉ ex) : ∃ sl, h1.get? b = some { ob with slots := sl } := by
  by_cases hb : b ∈ fs
  · exact u.slot b ob q n hb hx
  · exact ⟨ob.slots, u.keep b ob q n hb hx⟩
theorem Un.trans (a : Un fs ex H H1 h h1) (b : Un fs ex H1 H2 h1 h2) : Un fs ex H H2 h h2 where
  keep := fun c ob q n hc hx => b.keep c ob (a.keep c ob q n hc hx) (a.free c ob q n hx) hc hx
  slot := fun c ob q n hc hx => by
    obtain ⟨sl, e1⟩ := a.slot c ob q n hc hx
    obtain ⟨sl', e2⟩ := b.slot c _ e1 (a.free c ob q n hx) hc hx
    exact ⟨sl', e2⟩
  free := fun c ob q n hx => by
    obtain ⟨o', e1⟩ := a.there c ob q hx
    exact b.free c o' e1 (a.free c ob q n hx) hx
  there := fun c ob q hx => by
    obtain ⟨o', e1⟩ := a.there c ob q hx
    exact b.there c o' e1 hx
  tups := fun c xs q => b.tups c xs (a.tups c xs q)
  frzs := fun c ob xs q => b.frzs c ob xs (a.frzs c ob xs q)
  tbls := fun c ps q => by
    obtain ⟨m1, e1⟩ := a.tbls c ps q
    obtain ⟨m2, e2⟩ := b.tbls c _ e1
    exact ⟨m1 ++ m2, by rw [e2, Array.append_assoc]⟩
theorem Un.kept (k : ∀ b u, h.get? b = some u → h'.get? b = some u) : Un fs ex H H h h' :=
  ⟨fun b ob q _ _ _ => k b ob q, fun b ob q _ _ _ => ⟨ob.slots, k b ob q⟩, fun _ _ _ n _ => n, fun b ob q _ => ⟨ob, k b ob q⟩, fun _ _ q => q, fun _ _ _ q => q, fun _ ps q => ⟨#[], by rw [q]; simp⟩⟩
theorem Un.refl : Un fs ex H H h h := Un.kept fun _ _ q => q
theorem Un.laid (k : ∀ b u, h.get? b = some u → h'.get? b = some u) (hp : h.objs.size ≤ a) (hn : H a = none) : Un fs ex H (upd H a o) h h' where
  keep := fun b u q _ _ _ => k b u q
  slot := fun b u q _ _ _ => ⟨u.slots, k b u q⟩
  free := fun b u q n _ => by rw [upd_ne (Nat.ne_of_lt (Nat.lt_of_lt_of_le (Heap.lt_size q) hp))]; exact n
  there := fun b u q _ => ⟨u, k b u q⟩
  tups := fun b xs q => by rw [upd_ne (ne_of_none q hn)]; exact q
  frzs := fun b u xs q => by rw [upd_ne (ne_of_none q hn)]; exact q
  tbls := fun b ps q => ⟨#[], by rw [upd_ne (ne_of_none q hn), q]; simp⟩
theorem Un.write (mu : Mut (H x)) (he : e = x ∨ H e = some (.own x)) (k : ∀ b u, b ≠ e → h.get? b = some u → h'.get? b = some u) (heo : ∃ u, h'.get? e = some u) : Un fs ex H (upd H x o) h h' := by
  have hx : ∀ b, H b = none → b ≠ x := fun b n z => by subst z; rw [n] at mu; exact mu
  have hb : ∀ b, H b = none → b ≠ e := fun b n z => by
    subst z
    rcases he with r | r
    · exact hx b n r
    · rw [n] at r; cases r
  have hm : ∀ b u, H b = some u → ¬ Mut (some u) → b ≠ x := fun b u q nm z => by subst z; rw [q] at mu; exact nm mu
  refine ⟨fun b u q n _ _ => k b u (hb b n) q, fun b u q n _ _ => ⟨u.slots, k b u (hb b n) q⟩, fun b u q n _ => by rw [upd_ne (hx b n)]; exact n, fun b u q _ => ?_,
    fun b xs q => by rw [upd_ne (hm b _ q fun z => z)]; exact q, fun b u xs q => by rw [upd_ne (hm b _ q fun z => z)]; exact q, fun b ps q => ⟨#[], by rw [upd_ne (hm b _ q fun z => z), q]; simp⟩⟩
  by_cases hbe : b = e
  · subst hbe; exact heo
  · exact ⟨u, k b u hbe q⟩
theorem Un.mono (u : Un fs ex H H1 h h1) (hs : ∀ b ∈ fs, b ∈ fs') (hx : ∀ b ∈ ex, b ∈ ex') : Un fs' ex' H H1 h h1 :=
  ⟨fun b ob q n hb he => u.keep b ob q n (fun z => hb (hs b z)) fun z => he (hx b z), fun _ _ q n _ he => u.any q n fun z => he (hx _ z), fun b ob q n he => u.free b ob q n fun z => he (hx b z), fun b ob q he => u.there b ob q fun z => he (hx b z), u.tups, u.frzs, u.tbls⟩
end

/-! ### the heap without what is tracked -/
def trk (h : Heap) (H : Hp) : List Addr := (List.range h.objs.size).filter fun a => (H a).isSome
def hidT (h : Heap) (H : Hp) : Heap := PySem.W.hideAll h (trk h H)
theorem hidT_size (h : Heap) (H : Hp) : (hidT h H).objs.size = h.objs.size := PySem.W.hideAll_size _ _
theorem hidT_get {h : Heap} {H : Hp} {b : Addr} {o : Obj} (e : h.get? b = some o) (n : H b = none) : (hidT h H).get? b = some o :=
  PySem.W.hideAll_get _ e fun hm => by
    have q : (H b).isSome = true := (List.mem_filter.mp hm).2
    rw [n] at q; simp at q
theorem of_hidT {h : Heap} {H : Hp} {b : Addr} {o : Obj} (e : (hidT h H).get? b = some o) : h.get? b = some o ∧ H b = none := by
  have e' : h.get? b = some o := PySem.W.of_hideAll (trk h H) e
  refine ⟨e', ?_⟩
  cases q : H b with
  | none => rfl
  | some x =>
    have hm : b ∈ trk h H := List.mem_filter.mpr ⟨List.mem_range.mpr (Heap.lt_size e'), by simp [q]⟩
    have z : (hidT h H).get? b = none := PySem.W.hideAll_none (trk h H) hm
    rw [z] at e; cases e

/-! ### OpenK's ledger, filled with every new object but one -/
def allNews (g h : Heap) (L : Addr) : List (Addr × Obj) := (List.range h.objs.size).filterMap fun a => if a = L ∨ (g.get? a).isSome = true then none else (h.get? a).map fun o => (a, o)
theorem mem_allNews {g h : Heap} {L a : Addr} {o : Obj} (h1 : a ≠ L) (h2 : g.get? a = none) (h3 : h.get? a = some o) : (a, o) ∈ allNews g h L :=
  List.mem_filterMap.mpr ⟨a, List.mem_range.mpr (Heap.lt_size h3), by simp [h1, h2, h3]⟩
theorem of_mem_allNews {g h : Heap} {L : Addr} {p : Addr × Obj} (hp : p ∈ allNews g h L) : p.1 ≠ L ∧ g.get? p.1 = none ∧ h.get? p.1 = some p.2 := by
  obtain ⟨b, _, e⟩ := List.mem_filterMap.mp hp
  split at e
  · cases e
  · rename_i hn
    cases q : h.get? b with
    | none => rw [q] at e; simp at e
    | some u =>
      rw [q] at e
      simp only [Option.map_some, Option.some.injEq] at e
      subst e
      refine ⟨fun z => hn (.inl z), ?_, q⟩
      show g.get? b = none
      cases r : g.get? b with
      | none => rfl
      | some v => exact (hn (.inr (by simp [r]))).elim
def rest (g h : Heap) (L d : Addr) : List (Addr × Obj) := (allNews g h L).filter fun p => decide (p.1 ≠ d)
theorem rest_ne {g h : Heap} {L d : Addr} : ∀ p ∈ rest g h L d, p.1 ≠ d := fun p hp => of_decide_eq_true (List.mem_filter.mp hp).2
theorem mem_rest {g h : Heap} {L d a : Addr} {o : Obj} (h1 : a ≠ L) (h2 : g.get? a = none) (h3 : h.get? a = some o) (h4 : a ≠ d) : (a, o) ∈ rest g h L d :=
  List.mem_filter.mpr ⟨mem_allNews h1 h2 h3, decide_eq_true h4⟩
theorem news_all {g h : Heap} {L : Addr} : News g L h (allNews g h L) := fun p hp => let ⟨a, b, c⟩ := of_mem_allNews hp; ⟨c, a, b⟩
theorem news_at {g h : Heap} {L d : Addr} {o : Obj} (h1 : d ≠ L) (h2 : g.get? d = none) (h3 : h.get? d = some o) : News g L h ((d, o) :: rest g h L d) := fun p hp => by
  rcases List.mem_cons.mp hp with rfl | hp
  · exact ⟨h3, h1, h2⟩
  · exact news_all p (List.mem_filter.mp hp).1
/-- behind a rule that changed d alone: all else but the frame is kept -/
theorem kept_of_news {g h h' : Heap} {L d : Addr} {m : Str → Option Value} (k : ∀ b o, g.get? b = some o → h.get? b = some o) (F : Fr g L h' m) (N : News g L h' (rest g h L d)) :
    ∀ b o, b ≠ L → b ≠ d → h.get? b = some o → h'.get? b = some o := fun b o h1 h2 e => by
  cases q : g.get? b with
  | some u =>
    have := k b u q
    rw [e] at this; cases this
    exact F.keep b _ q
  | none => exact (N (b, o) (mem_rest h1 q e h2)).1
end L2

namespace L2
open PySem PySem.Spec PyProof.Rows

/-- the module's facts, over the base: the heap at the law's entry without what is tracked there -/
structure Mod (K : PySem.W.Frag) (mg : Str → Option Value) (base : Heap) : Prop where
  kin : K.In base
  glob : base.Ns mainGlobals mg
  blt : ∃ mb, base.Ns builtinsNs mb ∧ ∀ x : Str, x ≠ "__name__" → mb x = bootBuiltins x
  nolimit : base.NoLimit

/-- the context: a def's body (or a comprehension's block) running. base: fixed through the whole law; s₀, H₀: the entry; outer: the frames whose slots others may change (a def's callers); stack: all frames that run;
   ex: iterators that were made ahead of the entry and are walked here (a comprehension's); fn: the names whose cells were made at the entry (a def: all; a comprehension's block: its own); calm: not within an except suite; pn: pins that every state bears; xe: what is wanted of an exception that leaves the code -/
structure Cx where
  prog : Program
  w : World
  K : PySem.W.Frag
  mg : Str → Option Value
  base : Heap
  A : Around
  N : List Str
  s₀ : Shared
  H₀ : Hp
  env : Env
  outer : List Env
  stack : List Env
  ex : List Addr
  fn : Str → Bool
  calm : Bool
  pn : List (Addr × Obj)
  xe : Value → Shared → Prop
/-- the callers' frames -/
def frs (l : List Env) : List Addr := l.filterMap (·.frame)
abbrev Cx.fs (X : Cx) : List Addr := frs X.outer

def Vis (sc : Scope) (x : Str) : Prop := sc.names.lookup x = some .local ∨ sc.names.lookup x = some .cell ∨ sc.names.lookup x = some .free
def Loc (sc : Scope) (x : Str) : Prop := sc.names.lookup x = some .local ∨ sc.names.lookup x = some .cell
def Look (env : Env) (h : Heap) (m : Str → Option Value) (x : Str) (u : Value) : Prop :=
  (env.kindOf x = some .local ∧ m x = some u) ∨ ((env.kindOf x = some .cell ∨ env.kindOf x = some .free) ∧ ∃ c, env.cells.lookup x = some c ∧ h.IsCell c (some u))

structure Cx.Ok (X : Cx) : Prop where
  mod : Mod X.K X.mg X.base
  kind : X.env.scope.kind = .function
  glob : X.env.globals = mainGlobals
  blt : X.env.builtins = builtinsNs
  above : X.s₀.heap.objs.size ≤ X.env.locals
  inj : ∀ x y c, X.env.cells.lookup x = some c → X.env.cells.lookup y = some c → x = y
  has : ∀ x, (X.env.kindOf x = some .cell ∨ X.env.kindOf x = some .free) → ∃ c, X.env.cells.lookup x = some c
  cab : ∀ x c, X.fn x = true → X.env.cells.lookup x = some c → X.s₀.heap.objs.size ≤ c
  hd : X.calm = true → X.A.handled = none
  frames : X.A.frames = some X.stack
  stk : X.stack = X.outer ∨ (X.stack = X.env :: X.outer ∧ X.env.frame = some X.env.locals)
  exf : ∀ b ∈ X.ex, b ≠ X.env.locals ∧ ∀ x c, X.env.cells.lookup x = some c → c ≠ b
  bs : ∀ b o, X.base.get? b = some o → X.s₀.heap.get? b = some o ∧ X.H₀ b = none
  bsz : X.base.objs.size ≤ X.s₀.heap.objs.size
  noex : ∀ b o, X.base.get? b = some o → b ∉ X.ex
  exfs : ∀ b ∈ X.ex, b ∉ X.fs
  funs : X.s₀.heap.FunFrames X.base X.outer
  frf : ∀ b ∈ X.fs, X.H₀ b = none

structure Inv (X : Cx) (pins : List (Addr × Obj)) (σ : List (Option V)) (H : Hp) (s : Shared) : Prop where
  ok : X.Ok
  os : s.os = X.s₀.os
  bare : AllBare s.gens
  base : Un X.fs X.ex X.H₀ H X.s₀.heap s.heap
  loc : ∃ m, s.heap.Ns X.env.locals m ∧ ∀ (i : Nat) (x : Str) (v : V), X.N[i]? = some x → σ[i]? = some (some v) → Vis X.env.scope x → ∃ u, RelV v u ∧ Look X.env s.heap m x u
  cell : ∀ x c, X.env.cells.lookup x = some c → ∃ v, s.heap.IsCell c v
  free : H X.env.locals = none
  freeC : ∀ x c, X.env.cells.lookup x = some c → H c = none
  pin : ∀ p ∈ X.pn ++ pins, s.heap.get? p.1 = some p.2 ∧ H p.1 = none ∧ p.1 ≠ X.env.locals ∧ p.1 ∉ X.fs ∧ ∀ v, p.2.data ≠ .cell v
  hok : HOk X.prog X.w H s.heap
  len : σ.length = X.N.length

section
variable {X : Cx} {pins : List (Addr × Obj)} {σ : List (Option V)} {H H' : Hp} {s : Shared} {h' : Heap}

theorem Cx.Ok.nofr (ok : X.Ok) {b : Addr} {o : Obj} (e : X.base.get? b = some o) : b ∉ X.fs := fun hb => by
  have := (ok.funs.mem hb).1
  rw [e] at this; cases this
theorem Inv.bs (I : Inv X pins σ H s) : ∀ b o, X.base.get? b = some o → s.heap.get? b = some o ∧ H b = none := fun b o e =>
  ⟨I.base.keep b o (I.ok.bs b o e).1 (I.ok.bs b o e).2 (I.ok.nofr e) (I.ok.noex b o e), I.base.free b o (I.ok.bs b o e).1 (I.ok.bs b o e).2 (I.ok.noex b o e)⟩
theorem Inv.bk (I : Inv X pins σ H s) : ∀ b o, X.base.get? b = some o → s.heap.get? b = some o := fun b o e => (I.bs b o e).1
theorem Inv.mod (I : Inv X pins σ H s) : Mod X.K X.mg X.base := I.ok.mod
theorem Inv.kIn (I : Inv X pins σ H s) : X.K.In s.heap := I.ok.mod.kin.keeps I.bk
theorem Inv.nolimit (I : Inv X pins σ H s) : s.heap.NoLimit := I.ok.mod.nolimit.keeps I.bk
/-- the frame over the base: for OpenK's rules (K.In X.base is I.mod.kin) -/
theorem Inv.fr (I : Inv X pins σ H s) : ∃ m, Fr X.base X.env.locals s.heap m :=
  let ⟨m, hn, _⟩ := I.loc
  ⟨m, hn, I.bk, Nat.le_trans I.ok.bsz I.ok.above⟩
theorem Inv.lt (I : Inv X pins σ H s) : X.env.locals < s.heap.objs.size := let ⟨_, hn, _⟩ := I.loc; hn.lt
theorem Inv.sz (I : Inv X pins σ H s) : X.s₀.heap.objs.size ≤ s.heap.objs.size := Nat.le_trans I.ok.above (Nat.le_of_lt I.lt)
theorem Inv.nofs (I : Inv X pins σ H s) {a : Addr} (h : s.heap.objs.size ≤ a) : a ∉ X.fs := fun hb => by
  obtain ⟨_, o, ho, _⟩ := I.ok.funs.mem hb
  exact absurd (Nat.lt_of_lt_of_le (Heap.lt_size ho) (Nat.le_trans I.sz h)) (Nat.lt_irrefl _)
theorem Inv.cne (I : Inv X pins σ H s) : ∀ x c, X.env.cells.lookup x = some c → c ≠ X.env.locals := fun x c e z => by
  obtain ⟨v, o, ho, hd⟩ := I.cell x c e
  obtain ⟨m, ⟨o', es, ep, ho', hd', _⟩, _⟩ := I.loc
  rw [z, ho'] at ho; cases ho; rw [hd'] at hd; cases hd
theorem Inv.funs (I : Inv X pins σ H s) : s.heap.FunFrames X.base X.outer := by
  have all : ∀ (l : List Env), (∀ b ∈ frs l, b ∈ X.fs) → X.s₀.heap.FunFrames X.base l → s.heap.FunFrames X.base l := by
    intro l
    induction l with
    | nil => intro _ _; trivial
    | cons env r ih =>
      intro hs hl
      obtain ⟨hk, ⟨L, o, hf, hn, ho, hd⟩, hr⟩ := hl
      have hL : L ∈ X.fs := hs L (by unfold frs; rw [List.filterMap_cons, hf]; exact List.mem_cons_self)
      obtain ⟨sl, e⟩ := I.base.slot L o ho (I.ok.frf L hL) hL fun z => I.ok.exfs L z hL
      exact ⟨hk, ⟨L, _, hf, hn, e, hd⟩, ih (fun b hb => hs b (by unfold frs; rw [List.filterMap_cons, hf]; exact List.mem_cons_of_mem _ hb)) hr⟩
  exact all X.outer (fun _ hb => hb) I.ok.funs

/-- the frames that run, for a call -/
theorem Inv.stack (I : Inv X pins σ H s) : s.heap.FunFrames X.base X.stack := by
  rcases I.ok.stk with e | ⟨e, hf⟩
  · rw [e]; exact I.funs
  · rw [e]
    obtain ⟨m, hn, _⟩ := I.loc
    refine .cons (by rw [I.ok.kind]; decide) hf hn ?_ I.funs
    exact Heap.get?_none_of_le (Nat.le_trans I.ok.bsz I.ok.above)
theorem Inv.stkSub (I : Inv X pins σ H s) : ∀ b ∈ frs X.stack, b ∈ X.env.locals :: X.fs := fun b hb => by
  rcases I.ok.stk with e | ⟨e, hf⟩
  · rw [e] at hb; exact List.mem_cons_of_mem _ hb
  · rw [e] at hb
    unfold frs at hb
    rw [List.filterMap_cons, hf] at hb
    exact hb
theorem Inv.stkFree (I : Inv X pins σ H s) : ∀ b ∈ frs X.stack, H b = none := fun b hb => by
  rcases List.mem_cons.mp (I.stkSub b hb) with e | hb
  · rw [e]; exact I.free
  · obtain ⟨_, o, ho, _⟩ := I.ok.funs.mem hb
    exact I.base.free b o ho (I.ok.frf b hb) fun z => I.ok.exfs b z hb

/-- THE STEP: the untracked objects but the frame and the records at ch are kept (the callers' frames up to slots), the frame's map is kept, the new abstract heap is held -/
theorem Inv.step {g' : Array GenState} {t' : Nat} {d' : Drawn} {ch : List Addr} (I : Inv X pins σ H s)
    (hch : ∀ b ∈ ch, (b ∈ X.ex ∨ X.s₀.heap.objs.size ≤ b) ∧ b ≠ X.env.locals ∧ (∀ x c, X.env.cells.lookup x = some c → c ≠ b) ∧ ∀ p ∈ X.pn ++ pins, p.1 ≠ b)
    (keep : ∀ b o, b ≠ X.env.locals → b ∉ X.fs → b ∉ ch → s.heap.get? b = some o → H b = none → h'.get? b = some o)
    (slot : ∀ b o, b ≠ X.env.locals → b ∈ X.fs → b ∉ ch → s.heap.get? b = some o → H b = none → ∃ sl, h'.get? b = some { o with slots := sl }) (free : ∀ b o, b ∉ ch → s.heap.get? b = some o → H b = none → H' b = none)
    (there : ∀ b o, b ∉ ch → s.heap.get? b = some o → ∃ o', h'.get? b = some o')
    (tups : ∀ b xs, H b = some (.tup xs) → H' b = some (.tup xs)) (frzs : ∀ b o u, H b = some (.frz o u) → H' b = some (.frz o u)) (tbls : ∀ b ps, H b = some (.tbl ps) → ∃ more, H' b = some (.tbl (ps ++ more)))
    (ns : ∀ m, s.heap.Ns X.env.locals m → h'.Ns X.env.locals m) (hok : HOk X.prog X.w H' h') (hg : AllBare g') :
    Inv X pins σ H' { s with heap := h', gens := g', drawn := d', toks := t' } := by
  have neL : ∀ b o, X.s₀.heap.get? b = some o → b ≠ X.env.locals := fun b o e => Nat.ne_of_lt (Nat.lt_of_lt_of_le (Heap.lt_size e) I.ok.above)
  have neC : ∀ b o, X.s₀.heap.get? b = some o → b ∉ X.ex → b ∉ ch := fun b o e hx hb => by
    rcases (hch b hb).1 with z | z
    · exact hx z
    · exact absurd (Nat.lt_of_lt_of_le (Heap.lt_size e) z) (Nat.lt_irrefl _)
  have cellK : ∀ x c, X.env.cells.lookup x = some c → ∀ v, s.heap.IsCell c v → h'.IsCell c v := fun x c e v ⟨o, ho, hd⟩ => by
    have nch : c ∉ ch := fun z => (hch c z).2.2.1 x c e rfl
    by_cases hc : c ∈ X.fs
    · obtain ⟨sl, q⟩ := slot c o (I.cne x c e) hc nch ho (I.freeC x c e)
      exact ⟨_, q, hd⟩
    · exact ⟨o, keep c o (I.cne x c e) hc nch ho (I.freeC x c e), hd⟩
  refine ⟨I.ok, I.os, hg, ⟨fun b o e n hb hx => ?_, fun b o e n hb hx => ?_, fun b o e n hx => ?_, fun b o e hx => ?_, fun b xs e => tups b xs (I.base.tups b xs e), fun b o xs e => frzs b o xs (I.base.frzs b o xs e), fun b ps e => ?_⟩, ?_, fun x c e => ?_, ?_, fun x c e => ?_, fun p hp => ?_, hok, I.len⟩
  · exact keep b o (neL b o e) hb (neC b o e hx) (I.base.keep b o e n hb hx) (I.base.free b o e n hx)
  · obtain ⟨sl, e1⟩ := I.base.slot b o e n hb hx
    obtain ⟨sl', e2⟩ := slot b _ (neL b o e) hb (neC b o e hx) e1 (I.base.free b o e n hx)
    exact ⟨sl', e2⟩
  · obtain ⟨o', e1⟩ := I.base.there b o e hx
    exact free b o' (neC b o e hx) e1 (I.base.free b o e n hx)
  · obtain ⟨o', e1⟩ := I.base.there b o e hx
    exact there b o' (neC b o e hx) e1
  · obtain ⟨m1, e1⟩ := I.base.tbls b ps e
    obtain ⟨m2, e2⟩ := tbls b _ e1
    exact ⟨m1 ++ m2, by rw [e2, Array.append_assoc]⟩
  · obtain ⟨m, hn, hl⟩ := I.loc
    refine ⟨m, ns m hn, fun i x v e1 e2 e3 => ?_⟩
    obtain ⟨u, r, l⟩ := hl i x v e1 e2 e3
    refine ⟨u, r, ?_⟩
    rcases l with l | ⟨k, c, e, z⟩
    · exact .inl l
    · exact .inr ⟨k, c, e, cellK x c e _ z⟩
  · obtain ⟨v, z⟩ := I.cell x c e
    exact ⟨v, cellK x c e v z⟩
  · obtain ⟨m, ⟨o, _, _, ho, _⟩, _⟩ := I.loc
    exact free _ o (fun z => (hch _ z).2.1 rfl) ho I.free
  · obtain ⟨v, o, ho, hd⟩ := I.cell x c e
    exact free c o (fun z => (hch c z).2.2.1 x c e rfl) ho (I.freeC x c e)
  · obtain ⟨e, n, ne, nf, d⟩ := I.pin p hp
    have nch : p.1 ∉ ch := fun z => (hch p.1 z).2.2.2 p hp rfl
    exact ⟨keep p.1 p.2 ne nf nch e n, free p.1 p.2 nch e n, ne, nf, d⟩
/-- .. where the frame's own object is kept too -/
theorem Inv.un {t' : Nat} (I : Inv X pins σ H s) (u : Un X.fs [] H H' s.heap h') (hok : HOk X.prog X.w H' h') : Inv X pins σ H' { s with heap := h', toks := t' } := by
  obtain ⟨m, ⟨o, es, ep, ho, r⟩, _⟩ := id I.loc
  obtain ⟨sl, hL⟩ := u.any ho I.free (by simp)
  exact I.step (g' := s.gens) (d' := s.drawn) (ch := []) (fun _ z => nomatch z) (fun b o _ hb _ e n => u.keep b o e n hb (by simp)) (fun b o _ hb _ e n => u.slot b o e n hb (by simp)) (fun b o _ e n => u.free b o e n (by simp)) (fun b o _ e => u.there b o e (by simp)) u.tups u.frzs u.tbls (fun m' hm => by
    obtain ⟨o', es', ep', ho', r'⟩ := hm
    rw [ho] at ho'; cases ho'
    exact ⟨_, es', ep', hL, r'⟩) hok I.bare
/-- behind a call (or a comprehension's block): the slots of this frame may have changed too, the records at ch may have turned -/
theorem Inv.call {g' : Array GenState} {t' : Nat} {d' : Drawn} {ch : List Addr} (I : Inv X pins σ H s) (u : Un (frs X.stack) ch H H' s.heap h') (hok : HOk X.prog X.w H' h') (hg : AllBare g')
    (hch : ∀ b ∈ ch, (b ∈ X.ex ∨ X.s₀.heap.objs.size ≤ b) ∧ b ≠ X.env.locals ∧ (∀ x c, X.env.cells.lookup x = some c → c ≠ b) ∧ ∀ p ∈ X.pn ++ pins, p.1 ≠ b) :
    Inv X pins σ H' { s with heap := h', gens := g', drawn := d', toks := t' } := by
  obtain ⟨m, ⟨o, es, ep, ho, r⟩, _⟩ := id I.loc
  obtain ⟨sl, hL⟩ := u.any ho I.free fun z => (hch _ z).2.1 rfl
  exact I.step (ch := ch) hch (fun b o hL hb hc e n => u.keep b o e n (fun z => (List.mem_cons.mp (I.stkSub b z)).elim hL hb) hc) (fun b o _ _ hc e n => u.any e n hc) (fun b o hc e n => u.free b o e n hc) (fun b o hc e => u.there b o e hc) u.tups u.frzs u.tbls (fun m' hm => by
    obtain ⟨o', es', ep', ho', r'⟩ := hm
    rw [ho] at ho'; cases ho'
    exact ⟨_, es', ep', hL, r'⟩) hok hg
/-- an untracked record of ours (an iterator) has turned -/
theorem Inv.turned {t' : Nat} {it : Addr} (I : Inv X pins σ H s) (k : ∀ b o, b ≠ it → s.heap.get? b = some o → h'.get? b = some o) (hn : H it = none) (hL : it ≠ X.env.locals)
    (h1 : it ∈ X.ex ∨ X.s₀.heap.objs.size ≤ it) (h2 : ∀ x c, X.env.cells.lookup x = some c → c ≠ it) (h3 : ∀ p ∈ X.pn ++ pins, p.1 ≠ it) : Inv X pins σ H { s with heap := h', toks := t' } := by
  have nit : ∀ b u, H b = some u → b ≠ it := fun b u e z => by rw [z, hn] at e; cases e
  refine I.step (g' := s.gens) (d' := s.drawn) (ch := [it]) (fun b hb => ?_) (fun b o _ _ hc e _ => k b o (fun z => hc (by simp [z])) e) (fun b o _ _ hc e _ => ⟨o.slots, k b o (fun z => hc (by simp [z])) e⟩) (fun _ _ _ _ n => n)
    (fun b o hc e => ⟨o, k b o (fun z => hc (by simp [z])) e⟩) (fun _ _ e => e) (fun _ _ _ e => e) (fun b ps e => ⟨#[], by rw [e]; simp⟩) (fun m hm => ?_) (fun b u e => ?_) I.bare
  · have e : b = it := by simpa using hb
    subst e
    exact ⟨h1, hL, h2, h3⟩
  · obtain ⟨o, es, ep, ho, r⟩ := hm
    exact ⟨o, es, ep, k _ o (Ne.symm hL) ho, r⟩
  · refine (I.hok b u e).stay (fun c v hc q => k c v ?_ q) (fun _ q => q) fun _ _ q => q
    rcases hc with z | z
    · rw [z]; exact nit b u e
    · exact nit c _ z
theorem Inv.tok (I : Inv X pins σ H s) (t : Nat) : Inv X pins σ H { s with toks := t } := I.un (h' := s.heap) (t' := t) Un.refl I.hok
/-- all objects kept -/
theorem Inv.kept {t' : Nat} (I : Inv X pins σ H s) (k : ∀ b u, s.heap.get? b = some u → h'.get? b = some u) : Inv X pins σ H { s with heap := h', toks := t' } := I.un (Un.kept k) (I.hok.kept k)
/-- a new object laid and tracked -/
theorem Inv.laid {a : Addr} {o : HO} {t' : Nat} (I : Inv X pins σ H s) (k : ∀ b u, s.heap.get? b = some u → h'.get? b = some u) (hp : s.heap.objs.size ≤ a) (new : ObjOk X.prog X.w (upd H a o) h' a o) :
    Inv X pins σ (upd H a o) { s with heap := h', toks := t' } := I.un (Un.laid k hp (I.hok.fresh hp)) (I.hok.laid k hp new)
/-- an object written -/
theorem Inv.write {x e : Addr} {o : HO} {t' : Nat} (I : Inv X pins σ H s) (mu : Mut (H x)) (he : e = x ∨ H e = some (.own x)) (k : ∀ b u, b ≠ e → s.heap.get? b = some u → h'.get? b = some u) (heo : ∃ u, h'.get? e = some u)
    (new : ObjOk X.prog X.w (upd H x o) h' x o) : Inv X pins σ (upd H x o) { s with heap := h', toks := t' } := I.un (Un.write mu he k heo) (I.hok.write mu he k heo new)
/-- forgetting slots, pins -/
theorem Inv.weak {σ' : List (Option V)} (I : Inv X pins σ H s) (hl : σ'.length = σ.length) (w : ∀ (i : Nat) v, σ'[i]? = some (some v) → σ[i]? = some (some v)) : Inv X pins σ' H s :=
  ⟨I.ok, I.os, I.bare, I.base, let ⟨m, hn, hl'⟩ := I.loc; ⟨m, hn, fun i x v e1 e2 e3 => hl' i x v e1 (w i v e2) e3⟩, I.cell, I.free, I.freeC, I.pin, I.hok, hl.trans I.len⟩
theorem Inv.pins_of {pins' : List (Addr × Obj)} (I : Inv X pins σ H s) (h : ∀ p ∈ pins', s.heap.get? p.1 = some p.2 ∧ H p.1 = none ∧ p.1 ≠ X.env.locals ∧ p.1 ∉ X.fs ∧ ∀ v, p.2.data ≠ .cell v) : Inv X pins' σ H s :=
  ⟨I.ok, I.os, I.bare, I.base, I.loc, I.cell, I.free, I.freeC, fun p hp => (List.mem_append.mp hp).elim (fun z => I.pin p (List.mem_append_left _ z)) (h p), I.hok, I.len⟩

theorem nodup_ix {N : List Str} (hN : N.Nodup) {i j : Nat} {x : Str} (a : N[i]? = some x) (b : N[j]? = some x) : i = j := by
  obtain ⟨h1, e1⟩ := List.getElem?_eq_some_iff.mp a
  obtain ⟨h2, e2⟩ := List.getElem?_eq_some_iff.mp b
  exact (List.getElem_inj hN).mp (e1.trans e2.symm)

/-- a name is stored; what changed -/
theorem store_ok2 {M : Model} {A : Around} {E : Value → Shared → Prop} {i : Nat} {x : Str} {v : V} {u : Value} {Q : Unit → Shared → Prop} (I : Inv X pins σ H s) (hN : X.N.Nodup) (hi : X.N[i]? = some x) (hx : Loc X.env.scope x) (r : RelV v u)
    (h : ∀ s', Inv X pins (σ.set i (some v)) H s' → (∃ a, Heap.SameBut a s.heap s'.heap ∧ (a = X.env.locals ∨ X.env.cells.lookup x = some a)) → Q () s') (hf : X.fn x = true ∨ X.env.scope.names.lookup x = some .local := by first | exact .inl rfl | exact .inr rfl | assumption) : wpAny M A (storeName X.env x u) Q E s := by
  obtain ⟨m, hn, hl⟩ := id I.loc
  have hcls : (X.env.scope.kind == .class || (X.env.scope.kind == .module && X.env.locals != X.env.globals)) = false := by rw [I.ok.kind]; rfl
  have hiσ : i < σ.length := by rw [I.len]; exact (List.getElem?_eq_some_iff.mp hi).1
  have cne := I.cne
  have tracked : ∀ {a : Addr} {h' : Heap}, (∃ o, s.heap.get? a = some o ∧ H a = none) → Heap.SameBut a s.heap h' → HOk X.prog X.w H h' := fun {a h'} ha hs b ob e => by
    obtain ⟨_, _, hfree⟩ := ha
    refine (I.hok b ob e).stay (fun c w' hc q => (hs.2 c ?_).trans q) (fun _ q => q) fun _ _ q => q
    rintro rfl
    rcases hc with rfl | hc
    · rw [hfree] at e; cases e
    · rw [hfree] at hc; cases hc
  rcases hx with hk | hk
  · refine wpAny_storeName_local hk hn (fun h' hn' hs => ?_) hcls
    obtain ⟨oL, _, _, hoL, _⟩ := id hn
    refine h _ ⟨I.ok, I.os, I.bare, ⟨fun b o e n hb hx => ?_, fun b o e n hb hx => ?_, I.base.free, fun b o e hx => ?_, I.base.tups, I.base.frzs, I.base.tbls⟩, ⟨_, hn', fun j y v' e1 e2 e3 => ?_⟩, fun y c e => ?_, I.free, I.freeC, fun p hp => ?_, tracked ⟨oL, hoL, I.free⟩ hs, by simpa using I.len⟩ ⟨_, hs, .inl rfl⟩
    · exact (hs.2 b (Nat.ne_of_lt (Nat.lt_of_lt_of_le (Heap.lt_size e) I.ok.above))).trans (I.base.keep b o e n hb hx)
    · obtain ⟨sl, e1⟩ := I.base.slot b o e n hb hx
      exact ⟨sl, (hs.2 b (Nat.ne_of_lt (Nat.lt_of_lt_of_le (Heap.lt_size e) I.ok.above))).trans e1⟩
    · obtain ⟨o', e1⟩ := I.base.there b o e hx
      exact ⟨o', (hs.2 b (Nat.ne_of_lt (Nat.lt_of_lt_of_le (Heap.lt_size e) I.ok.above))).trans e1⟩
    · by_cases hj : j = i
      · subst hj
        rw [hi] at e1; cases e1
        rw [List.getElem?_set_self hiσ] at e2
        cases e2
        exact ⟨u, r, .inl ⟨hk, by simp⟩⟩
      · rw [List.getElem?_set_ne (Ne.symm hj)] at e2
        obtain ⟨u', r', q⟩ := hl j y v' e1 e2 e3
        refine ⟨u', r', ?_⟩
        rcases q with ⟨k, e⟩ | ⟨k, c, e, z⟩
        · refine .inl ⟨k, ?_⟩
          have : y ≠ x := fun e => hj (nodup_ix hN e1 (e ▸ hi))
          simp [this, e]
        · exact .inr ⟨k, c, e, z.sameBut hs (cne y c e)⟩
    · obtain ⟨w', z⟩ := I.cell y c e
      exact ⟨w', z.sameBut hs (cne y c e)⟩
    · obtain ⟨e, n, ne, nf, d⟩ := I.pin p hp
      exact ⟨(hs.2 p.1 ne).trans e, n, ne, nf, d⟩
  · have hfn : X.fn x = true := by
      rcases hf with z | z
      · exact z
      · rw [z] at hk; cases hk
    obtain ⟨c, hc⟩ := I.ok.has x (.inl hk)
    obtain ⟨w', z⟩ := I.cell x c hc
    refine wpAny_storeName_cell I.ok.kind hk hc z (fun h' hc' hs => ?_)
    obtain ⟨oc, hoc, hocd⟩ := id z
    refine h { s with heap := h' } ⟨I.ok, I.os, I.bare, ⟨fun b o e n hb hx => ?_, fun b o e n hb hx => ?_, I.base.free, fun b o e hx => ?_, I.base.tups, I.base.frzs, I.base.tbls⟩, ⟨m, hn.sameBut hs (Ne.symm (cne x c hc)), fun j y v' e1 e2 e3 => ?_⟩, fun y c' e => ?_, I.free, I.freeC, fun p hp => ?_, tracked ⟨oc, hoc, I.freeC x c hc⟩ hs, by simpa using I.len⟩ ⟨c, hs, .inr hc⟩
    · exact (hs.2 b (Nat.ne_of_lt (Nat.lt_of_lt_of_le (Heap.lt_size e) (I.ok.cab x c hfn hc)))).trans (I.base.keep b o e n hb hx)
    · obtain ⟨sl, e1⟩ := I.base.slot b o e n hb hx
      exact ⟨sl, (hs.2 b (Nat.ne_of_lt (Nat.lt_of_lt_of_le (Heap.lt_size e) (I.ok.cab x c hfn hc)))).trans e1⟩
    · obtain ⟨o', e1⟩ := I.base.there b o e hx
      exact ⟨o', (hs.2 b (Nat.ne_of_lt (Nat.lt_of_lt_of_le (Heap.lt_size e) (I.ok.cab x c hfn hc)))).trans e1⟩
    · by_cases hj : j = i
      · subst hj
        rw [hi] at e1; cases e1
        rw [List.getElem?_set_self hiσ] at e2
        cases e2
        exact ⟨u, r, .inr ⟨.inl hk, c, hc, hc'⟩⟩
      · rw [List.getElem?_set_ne (Ne.symm hj)] at e2
        obtain ⟨u', r', q⟩ := hl j y v' e1 e2 e3
        refine ⟨u', r', ?_⟩
        rcases q with q | ⟨k, c', e, z'⟩
        · exact .inl q
        · refine .inr ⟨k, c', e, z'.sameBut hs ?_⟩
          rintro rfl
          exact hj (nodup_ix hN e1 (I.ok.inj _ _ _ e hc ▸ hi))
    · by_cases hcc : c' = c
      · subst hcc; exact ⟨_, hc'⟩
      · obtain ⟨w2, z2⟩ := I.cell y c' e
        exact ⟨w2, z2.sameBut hs hcc⟩
    · obtain ⟨e, n, ne, nf, d⟩ := I.pin p hp
      refine ⟨(hs.2 p.1 ?_).trans e, n, ne, nf, d⟩
      intro q
      rw [q, hoc] at e
      have q' : oc = p.2 := Option.some.inj e
      exact d w' (by rw [← q']; exact hocd)
theorem store_ok {M : Model} {A : Around} {E : Value → Shared → Prop} {i : Nat} {x : Str} {v : V} {u : Value} {Q : Unit → Shared → Prop} (I : Inv X pins σ H s) (hN : X.N.Nodup) (hi : X.N[i]? = some x) (hx : Loc X.env.scope x) (r : RelV v u)
    (h : ∀ s', Inv X pins (σ.set i (some v)) H s' → Q () s') (hf : X.fn x = true ∨ X.env.scope.names.lookup x = some .local := by first | exact .inl rfl | exact .inr rfl | assumption) : wpAny M A (storeName X.env x u) Q E s :=
  store_ok2 I hN hi hx r (fun s' I' _ => h s' I') hf
/-- behind a call or a block, the state as it is -/
theorem Inv.call' {s' : Shared} {ch : List Addr} (I : Inv X pins σ H s) (ho : s'.os = s.os) (u : Un (frs X.stack) ch H H' s.heap s'.heap) (hok : HOk X.prog X.w H' s'.heap) (hg : AllBare s'.gens)
    (hch : ∀ b ∈ ch, (b ∈ X.ex ∨ X.s₀.heap.objs.size ≤ b) ∧ b ≠ X.env.locals ∧ (∀ x c, X.env.cells.lookup x = some c → c ≠ b) ∧ ∀ p ∈ X.pn ++ pins, p.1 ≠ b) : Inv X pins σ H' s' := by
  obtain ⟨h', g', d', t', o'⟩ := s'
  have e : o' = s.os := ho
  subst e
  exact I.call (g' := g') (t' := t') (d' := d') u hok hg hch
end

/-! ### the judgements -/
/-- an exception: its class, its own dict's address (where it has one), the abstract heap behind it -/
abbrev XK := Value → Option Addr → Hp → Prop
abbrev St := List (Option V)
abbrev VK := V → Hp → Prop
/-- an expression's reading; a test's; an argument list's -/
abbrev TE := St → Hp → VK → Prop
abbrev TT := St → Hp → (Bool → Hp → Prop) → Prop
abbrev TA := St → Hp → (List V → Hp → Prop) → Prop
/-- what is wanted behind a statement -/
structure Ends where
  nx : St → Hp → Prop
  rt : VK
  bk : St → Hp → Prop := fun _ _ => False
  ct : St → Hp → Prop := fun _ _ => False
abbrev TS := Ends → St → Hp → Prop

def EP (X : Cx) (pins : List (Addr × Obj)) (σ : St) (Q : VK) (u : Value) (s' : Shared) : Prop := ∃ v H', Inv X pins σ H' s' ∧ RelV v u ∧ Q v H'
def TP (X : Cx) (pins : List (Addr × Obj)) (σ : St) (Q : Bool → Hp → Prop) (b : Bool) (s' : Shared) : Prop := ∃ H', Inv X pins σ H' s' ∧ Q b H'
def AP (X : Cx) (pins : List (Addr × Obj)) (σ : St) (Q : List V → Hp → Prop) (us : List Value) (s' : Shared) : Prop := ∃ vs H', Inv X pins σ H' s' ∧ Vals vs us ∧ Q vs H'
def SP (X : Cx) (pins : List (Addr × Obj)) (D : Ends) (f : Flow) (s' : Shared) : Prop :=
  match f with
  | .next => ∃ σ' H', Inv X pins σ' H' s' ∧ D.nx σ' H'
  | .brk => ∃ σ' H', Inv X pins σ' H' s' ∧ D.bk σ' H'
  | .cont => ∃ σ' H', Inv X pins σ' H' s' ∧ D.ct σ' H'
  | .ret u => ∃ v σ' H', Inv X pins σ' H' s' ∧ RelV v u ∧ D.rt v H'

def PE (X : Cx) (e : Expr) (t : TE) : Prop :=
  ∀ (pins : List (Addr × Obj)) (s : Shared) (σ : St) (H : Hp) (Q : VK), Inv X pins σ H s → t σ H Q → wpAny (model X.prog X.w) X.A (eval e X.env) (EP X pins σ Q) X.xe s
def PT (X : Cx) (e : Expr) (t : TT) : Prop :=
  ∀ (pins : List (Addr × Obj)) (s : Shared) (σ : St) (H : Hp) (Q : Bool → Hp → Prop), Inv X pins σ H s → t σ H Q → wpAny (model X.prog X.w) X.A (isTrue e X.env (eval e X.env)) (TP X pins σ Q) X.xe s
/-- a test whatever its 'whole' is (and, or) -/
def PW (X : Cx) (e : Expr) (t : TT) : Prop :=
  ∀ (whole : Sem Value) (pins : List (Addr × Obj)) (s : Shared) (σ : St) (H : Hp) (Q : Bool → Hp → Prop), Inv X pins σ H s → t σ H Q → wpAny (model X.prog X.w) X.A (isTrue e X.env whole) (TP X pins σ Q) X.xe s
theorem PW.pt {X : Cx} {e : Expr} {t : TT} (h : PW X e t) : PT X e t := h _
/-- an argument list (no star), from the left -/
def PA (X : Cx) (es : List Expr) (t : TA) : Prop :=
  ∀ (pos : Pos) (pins : List (Addr × Obj)) (s : Shared) (σ : St) (H : Hp) (Q : List V → Hp → Prop), Inv X pins σ H s → t σ H Q → wpAny (model X.prog X.w) X.A (spliced (backTo pos (starEach es X.env))) (AP X pins σ Q) X.xe s
def PS (X : Cx) (st : Stmt) (t : TS) : Prop :=
  ∀ (pins : List (Addr × Obj)) (s : Shared) (σ : St) (H : Hp) (D : Ends), Inv X pins σ H s → t D σ H → wpAny (model X.prog X.w) X.A (exec st X.env) (SP X pins D) X.xe s
def PSs (X : Cx) (st : List Stmt) (t : TS) : Prop :=
  ∀ (pins : List (Addr × Obj)) (s : Shared) (σ : St) (H : Hp) (D : Ends), Inv X pins σ H s → t D σ H → wpAny (model X.prog X.w) X.A (execs st X.env) (SP X pins D) X.xe s
/-- weaken the end -/
theorem thn {α : Type} {t : Sem α} {Q Q' : α → Shared → Prop} {M : Model} {A : Around} {E : Value → Shared → Prop} {s : Shared} (h : wpAny M A t Q E s) (hQ : ∀ a s, Q a s → Q' a s) : wpAny M A t Q' E s := wpAny_mono h hQ fun _ _ x => x
end L2

namespace L2
open PySem PySem.Spec PyProof.Rows
section
variable {X : Cx}

/-- two expressions in a row -/
theorem bin {a b : Expr} {ta tb : TE} (ha : PE X a ta) (hb : PE X b tb) {pins : List (Addr × Obj)} {s : Shared} {σ : St} {H : Hp} {R : V → V → Hp → Prop} (I : Inv X pins σ H s) (h : ta σ H fun x H1 => tb σ H1 fun y H2 => R x y H2)
    {α : Type} {Q : α → Shared → Prop} {f : Value → Value → Sem α}
    (hf : ∀ v u s2 x y H2, Inv X pins σ H2 s2 → RelV x v → RelV y u → R x y H2 → wpAny (model X.prog X.w) X.A (f v u) Q X.xe s2) :
    wpAny (model X.prog X.w) X.A (eval a X.env) (fun v s₁ => wpAny (model X.prog X.w) X.A (eval b X.env) (fun u s₂ => wpAny (model X.prog X.w) X.A (f v u) Q X.xe s₂) X.xe s₁) X.xe s := by
  refine thn (ha pins s σ H _ I h) fun v s1 ⟨x, H1, I1, r1, q1⟩ => ?_
  refine thn (hb pins s1 σ H1 _ I1 q1) fun u s2 ⟨y, H2, I2, r2, q2⟩ => ?_
  exact hf v u s2 x y H2 I2 r1 r2 q2

/-! ### names and constants -/
def tVar (i : Nat) : TE := fun σ H Q => ∃ v, σ[i]? = some (some v) ∧ Q v H
def tC (v : V) : TE := fun _ H Q => Q v H
theorem pe_var {i : Nat} {x : Str} {pos : Pos} (hN : X.N[i]? = some x) (hv : Vis X.env.scope x) (hd : (x == ("__debug__" : Str)) = false := by decide) (hcd : (x == ("__classdict__" : Str)) = false := by decide) : PE X (.Name x pos) (tVar i) := by
  intro pins s σ H Q I h
  obtain ⟨v, e, h⟩ := h
  obtain ⟨m, hn, hl⟩ := I.loc
  obtain ⟨u, r, l⟩ := hl i x v hN e hv
  have fin : EP X pins σ Q u s := ⟨v, H, I, r, h⟩
  rcases l with ⟨hk, hm⟩ | ⟨hk, c, hc, hcell⟩
  · exact wpAny_Name (wpAny_loadName_local I.ok.kind hk hn hm fin) hd
  · rcases hk with hk | hk
    · exact wpAny_Name (wpAny_loadName_cell I.ok.kind hk hc hcell fin) hd
    · exact wpAny_Name (wpAny_loadName_free I.ok.kind hk hc hcell fin hcd) hd
theorem pe_int {i j pos} : PE X (.Constant (.int i) j pos) (tC (.int i)) := fun _ _ _ H _ I h => wpAny_Constant_int ⟨.int i, H, I.tok _, ⟨_, rfl⟩, h⟩
theorem pe_bl {b j pos} : PE X (.Constant (.bool b) j pos) (tC (.bl b)) := fun _ _ _ H _ I h => Constant_bool ⟨.bl b, H, I, rfl, h⟩
theorem pe_non {j pos} : PE X (.Constant .none j pos) (tC .non) := fun _ _ _ H _ I h => Constant_none ⟨.non, H, I, rfl, h⟩
theorem pe_str {x j pos} : PE X (.Constant (.str x) j pos) (tC (.str x)) := fun _ _ _ H _ I h => Calls.Constant_str ⟨.str x, H, I.tok _, ⟨_, rfl⟩, h⟩

/-- a global name of the def -/
def Gl (X : Cx) (x : Str) : Prop := X.env.kindOf x = some .globalImplicit
theorem ld_glob {E : Value → Shared → Prop} {pins : List (Addr × Obj)} {s : Shared} {σ : St} {H : Hp} {x : Str} {u : Value} {pos : Pos} {Q : Value → Shared → Prop} (I : Inv X pins σ H s) (hg : Gl X x) (hm : X.mg x = some u) (h : Q u s)
    (hd : (x == ("__debug__" : Str)) = false := by decide) : wpAny (model X.prog X.w) X.A (eval (.Name x pos) X.env) Q E s :=
  Calls.Name_function_global I.ok.kind hg (Calls.loadGlobal_global (by rw [I.ok.glob]; exact I.mod.glob.keeps I.bk) hm h) hd
theorem ld_blt {E : Value → Shared → Prop} {pins : List (Addr × Obj)} {s : Shared} {σ : St} {H : Hp} {x : Str} {u : Value} {pos : Pos} {Q : Value → Shared → Prop} (I : Inv X pins σ H s) (hg : Gl X x) (hm : X.mg x = none) (hv : bootBuiltins x = some u) (h : Q u s)
    (hn : x ≠ "__name__" := by decide) (hd : (x == ("__debug__" : Str)) = false := by decide) : wpAny (model X.prog X.w) X.A (eval (.Name x pos) X.env) Q E s := by
  obtain ⟨mb, h1, h2⟩ := I.mod.blt
  exact Calls.Name_function_global I.ok.kind hg (Calls.loadGlobal_builtin (by rw [I.ok.glob]; exact I.mod.glob.keeps I.bk) hm (by rw [I.ok.blt]; exact h1.keeps I.bk) ((h2 x hn).trans hv) h) hd
/-- a module's constant, a class, a function, as a value -/
theorem pe_glob {x : Str} {v : V} {u : Value} {pos : Pos} (hg : Gl X x) (hm : X.mg x = some u) (r : RelV v u) (hd : (x == ("__debug__" : Str)) = false := by decide) : PE X (.Name x pos) (tC v) :=
  fun _ _ _ H _ I h => ld_glob I hg hm ⟨v, H, I, r, h⟩ hd
theorem pe_bltn {x : Str} {v : V} {u : Value} {pos : Pos} (hg : Gl X x) (hm : X.mg x = none) (hv : bootBuiltins x = some u) (r : RelV v u) (hn : x ≠ "__name__" := by decide) (hd : (x == ("__debug__" : Str)) = false := by decide) : PE X (.Name x pos) (tC v) :=
  fun _ _ _ H _ I h => ld_blt I hg hm hv ⟨v, H, I, r, h⟩ hn hd

/-! ### arithmetic -/
/-- two ints -/
def t2I (ta tb : TE) (k : Int → Int → Hp → Prop) : St → Hp → Prop := fun σ H => ta σ H fun x H1 => tb σ H1 fun y H2 => ∃ i j, x = .int i ∧ y = .int j ∧ k i j H2
def tAdd (ta tb : TE) : TE := fun σ H Q => t2I ta tb (fun i j H2 => Q (.int (i + j)) H2) σ H
def tSub (ta tb : TE) : TE := fun σ H Q => t2I ta tb (fun i j H2 => Q (.int (i - j)) H2) σ H
/-- the left factor below 2^64 -/
def tMul (ta tb : TE) : TE := fun σ H Q => t2I ta tb (fun i j H2 => (-(2 ^ 64) < i ∧ i < 2 ^ 64) ∧ Q (.int (i * j)) H2) σ H
variable {a b : Expr} {ta tb : TE} {pos : Pos}
theorem pe_add (ha : PE X a ta) (hb : PE X b tb) : PE X (.BinOp a .Add b pos) (tAdd ta tb) := by
  intro pins s σ H Q I h
  refine wpAny_BinOp (bin ha hb I h fun v u s2 x y H2 I2 rx ry q => ?_)
  obtain ⟨i, j, rfl, rfl, q⟩ := q
  obtain ⟨t, rfl⟩ := rx
  obtain ⟨t', rfl⟩ := ry
  exact add_int ⟨.int _, H2, I2.tok _, ⟨_, rfl⟩, q⟩
theorem pe_sub (ha : PE X a ta) (hb : PE X b tb) : PE X (.BinOp a .Sub b pos) (tSub ta tb) := by
  intro pins s σ H Q I h
  refine wpAny_BinOp (bin ha hb I h fun v u s2 x y H2 I2 rx ry q => ?_)
  obtain ⟨i, j, rfl, rfl, q⟩ := q
  obtain ⟨t, rfl⟩ := rx
  obtain ⟨t', rfl⟩ := ry
  exact sub_int ⟨.int _, H2, I2.tok _, ⟨_, rfl⟩, q⟩
theorem pe_mul (ha : PE X a ta) (hb : PE X b tb) : PE X (.BinOp a .Mult b pos) (tMul ta tb) := by
  intro pins s σ H Q I h
  refine wpAny_BinOp (bin ha hb I h fun v u s2 x y H2 I2 rx ry q => ?_)
  obtain ⟨i, j, rfl, rfl, ⟨q1, q2⟩, q⟩ := q
  obtain ⟨t, rfl⟩ := rx
  obtain ⟨t', rfl⟩ := ry
  exact mul_int ⟨.int _, H2, I2.tok _, ⟨_, rfl⟩, q⟩ (.of_left (intBits_le_64 q1 q2))

/-! ### comparisons -/
def PC (X : Cx) (op : CmpOp) (a b : Expr) (t : TE) : Prop :=
  ∀ (pins : List (Addr × Obj)) (s : Shared) (σ : St) (H : Hp) (Q : VK), Inv X pins σ H s → t σ H Q →
    wpAny (model X.prog X.w) X.A (eval a X.env) (fun v s₁ => wpAny (model X.prog X.w) X.A (eval b X.env) (fun u s₂ => wpAny (model X.prog X.w) X.A (compareOp op v u) (EP X pins σ Q) X.xe s₂) X.xe s₁) X.xe s
theorem nobehind (b : Expr) {op : CmpOp} (h : op ≠ .In) (h2 : op ≠ .NotIn) : behindInMarks op b = false := by
  have e1 : (op == CmpOp.In) = false := by cases op <;> first | rfl | exact absurd rfl h
  have e2 : (op == CmpOp.NotIn) = false := by cases op <;> first | rfl | exact absurd rfl h2
  cases b <;> simp [behindInMarks, e1, e2]
def tCmp (p : Int → Int → Bool) (ta tb : TE) : TE := fun σ H Q => t2I ta tb (fun i j H2 => Q (.bl (p i j)) H2) σ H
abbrev tLt : TE → TE → TE := tCmp fun i j => decide (i < j)
abbrev tLe : TE → TE → TE := tCmp fun i j => decide (i ≤ j)
abbrev tGt : TE → TE → TE := tCmp fun i j => decide (j < i)
abbrev tGe : TE → TE → TE := tCmp fun i j => decide (j ≤ i)
abbrev tEqI : TE → TE → TE := tCmp fun i j => decide (i = j)
abbrev tNeI : TE → TE → TE := tCmp fun i j => !decide (i = j)
/-- a comparison of two ints, by its rule -/
theorem pc_int {op : CmpOp} {p : Int → Int → Bool} (ha : PE X a ta) (hb : PE X b tb)
    (rule : ∀ (i j : Int) (t u : Tok) (Q : Value → Shared → Prop) (s : Shared), Q (.bool (p i j)) s → wpAny (model X.prog X.w) X.A (compareOp op (.int i t) (.int j u)) Q X.xe s) : PC X op a b (tCmp p ta tb) := by
  intro pins s σ H Q I h
  refine bin ha hb I h fun v u s2 x y H2 I2 rx ry q => ?_
  obtain ⟨i, j, rfl, rfl, q⟩ := q
  obtain ⟨t, rfl⟩ := rx
  obtain ⟨t', rfl⟩ := ry
  exact rule i j t t' _ s2 ⟨.bl _, H2, I2, rfl, q⟩
theorem pc_lt (ha : PE X a ta) (hb : PE X b tb) : PC X .Lt a b (tLt ta tb) := pc_int ha hb fun _ _ _ _ _ _ h => lt_int h
theorem pc_le (ha : PE X a ta) (hb : PE X b tb) : PC X .LtE a b (tLe ta tb) := pc_int ha hb fun _ _ _ _ _ _ h => le_int h
theorem pc_gt (ha : PE X a ta) (hb : PE X b tb) : PC X .Gt a b (tGt ta tb) := pc_int ha hb fun _ _ _ _ _ _ h => gt_int h
theorem pc_ge (ha : PE X a ta) (hb : PE X b tb) : PC X .GtE a b (tGe ta tb) := pc_int ha hb fun _ _ _ _ _ _ h => ge_int h
theorem pc_eqI (ha : PE X a ta) (hb : PE X b tb) : PC X .Eq a b (tEqI ta tb) := pc_int ha hb fun _ _ _ _ _ _ h => eq_int (by rw [Bool.beq_eq_decide_eq]; exact h)
theorem pc_neI (ha : PE X a ta) (hb : PE X b tb) : PC X .NotEq a b (tNeI ta tb) := pc_int ha hb fun _ _ _ _ _ _ h => ne_int (by rw [bne, Bool.beq_eq_decide_eq]; exact h)
/-- is None -/
def tIsN (ta : TE) : TE := fun σ H Q => ta σ H fun x H1 => Q (.bl (decide (x = .non))) H1
def tNotN (ta : TE) : TE := fun σ H Q => ta σ H fun x H1 => Q (.bl (!decide (x = .non))) H1
theorem RelV.none_iff {x : V} {v : Value} (r : RelV x v) : (v == Value.none) = decide (x = .non) := by
  cases x with
  | non => cases r; rfl
  | bl _ => cases r; rfl
  | int _ => obtain ⟨t, rfl⟩ := r; rfl
  | str _ => obtain ⟨t, rfl⟩ := r; rfl
  | byt _ => obtain ⟨t, rfl⟩ := r; rfl
  | flt _ => obtain ⟨t, rfl⟩ := r; rfl
  | ref _ => cases r; rfl
  | ty _ => cases r; rfl
theorem pc_isN {j pos'} (ha : PE X a ta) : PC X .Is a (.Constant .none j pos') (tIsN ta) := by
  intro pins s σ H Q I h
  refine thn (ha pins s σ H _ I h) fun v s1 ⟨x, H1, I1, r1, q1⟩ => ?_
  exact Constant_none (is_none_gen ⟨.bl _, H1, I1, by rw [r1.none_iff]; rfl, q1⟩)
theorem pc_notN {j pos'} (ha : PE X a ta) : PC X .IsNot a (.Constant .none j pos') (tNotN ta) := by
  intro pins s σ H Q I h
  refine thn (ha pins s σ H _ I h) fun v s1 ⟨x, H1, I1, r1, q1⟩ => ?_
  exact Constant_none (isnot_none_gen ⟨.bl _, H1, I1, by rw [r1.none_iff]; rfl, q1⟩)
/-- a comparison as a value, as a test -/
def tB (t : TE) : TT := fun σ H Q => t σ H fun x H1 => ∃ c, x = .bl c ∧ Q c H1
theorem pe_cmp {op : CmpOp} {t : TE} (h : PC X op a b t) (h1 : behindInMarks op b = false := by first | exact nobehind _ (by decide) (by decide) | rfl) : PE X (.Compare a [op] [b] pos) t := fun pins s σ H Q I hw => wpAny_Compare1 (h pins s σ H Q I hw) h1
theorem pt_cmp {op : CmpOp} {t : TE} (h : PC X op a b t) (h1 : behindInMarks op b = false := by first | exact nobehind _ (by decide) (by decide) | rfl) : PT X (.Compare a [op] [b] pos) (tB t) := by
  intro pins s σ H Q I hw
  refine wpAny_isTrue_Compare1 (thn (h pins s σ H _ I hw) fun v s1 h1 => thn h1 fun u s2 h2 => thn h2 fun c s3 ⟨x, H1, I1, r1, q1⟩ => ?_) h1
  obtain ⟨d, rfl, q⟩ := q1
  cases r1
  exact wpAny_truthy_bool ⟨H1, I1, q⟩
/-- an expression whose value is a bool, as a test -/
theorem pt_val {e : Expr} {t : TE} (h : PE X e t) (he : ∀ whole, isTrue e X.env whole = (do let v ← whole; standAt e.pos; holding [v] (truthy v)) := by intro _; rfl) : PT X e (tB t) := by
  intro pins s σ H Q I hw
  refine isTrue_plain (thn (h pins s σ H _ I hw) fun v s1 ⟨x, H1, I1, r1, q1⟩ => ?_) (he _)
  obtain ⟨d, rfl, q⟩ := q1
  cases r1
  exact wpAny_truthy_bool ⟨H1, I1, q⟩

/-! ### and, or, not -/
variable {tA tB' : TT} {rest : List Expr}
def tAnd (t u : TT) : TT := fun σ H Q => t σ H fun c H1 => if c = true then u σ H1 Q else Q false H1
def tOr (t u : TT) : TT := fun σ H Q => t σ H fun c H1 => if c = true then Q true H1 else u σ H1 Q
def tNot (t : TT) : TT := fun σ H Q => t σ H fun c H1 => Q (!c) H1
theorem pw_and1 (ha : PT X a tA) : PW X (.BoolOp .And [a] pos) tA := by
  intro wh pins s σ H Q I h
  refine isTrue_and (thn (ha pins s σ H Q I h) fun c s1 e => ?_)
  cases c with
  | true => exact isTrue_and_nil e
  | false => exact e
theorem pw_or1 (ha : PT X a tA) : PW X (.BoolOp .Or [a] pos) tA := by
  intro wh pins s σ H Q I h
  refine isTrue_or (thn (ha pins s σ H Q I h) fun c s1 e => ?_)
  cases c with
  | false => exact isTrue_or_nil e
  | true => exact e
theorem pw_and (ha : PT X a tA) (hb : PW X (.BoolOp .And (b :: rest) pos) tB') : PW X (.BoolOp .And (a :: b :: rest) pos) (tAnd tA tB') := by
  intro wh pins s σ H Q I h
  refine isTrue_and (thn (ha pins s σ H _ I h) fun c s1 ⟨H1, I1, q1⟩ => ?_)
  cases c with
  | true => exact hb wh pins s1 σ H1 Q I1 q1
  | false => exact ⟨H1, I1, q1⟩
theorem pw_or (ha : PT X a tA) (hb : PW X (.BoolOp .Or (b :: rest) pos) tB') : PW X (.BoolOp .Or (a :: b :: rest) pos) (tOr tA tB') := by
  intro wh pins s σ H Q I h
  refine isTrue_or (thn (ha pins s σ H _ I h) fun c s1 ⟨H1, I1, q1⟩ => ?_)
  cases c with
  | true => exact ⟨H1, I1, q1⟩
  | false => exact hb wh pins s1 σ H1 Q I1 q1
theorem pt_not (ha : PT X a tA) : PT X (.UnaryOp .Not a pos) (tNot tA) := by
  intro pins s σ H Q I h
  exact isTrue_not (ha pins s σ H (fun c H1 => Q (!c) H1) I h)
/-- .. as values (bools) -/
def tAndV (ta tb : TE) : TE := fun σ H Q => ta σ H fun x H1 => ∃ c, x = .bl c ∧ if c = true then tb σ H1 Q else Q (.bl false) H1
def tOrV (ta tb : TE) : TE := fun σ H Q => ta σ H fun x H1 => ∃ c, x = .bl c ∧ if c = true then Q (.bl true) H1 else tb σ H1 Q
def tNotV (ta : TE) : TE := fun σ H Q => ta σ H fun x H1 => ∃ c, x = .bl c ∧ Q (.bl (!c)) H1
theorem pe_one {op} {t : TE} (h : PE X a t) : PE X (.BoolOp op [a] pos) t := fun pins s σ H Q I hw => BoolOp_one (h pins s σ H Q I hw)
theorem pe_and (ha : PE X a ta) (hb : PE X (.BoolOp .And (b :: rest) pos) tb) : PE X (.BoolOp .And (a :: b :: rest) pos) (tAndV ta tb) := by
  intro pins s σ H Q I h
  refine BoolOp_and (thn (ha pins s σ H _ I h) fun v s1 ⟨x, H1, I1, r1, q1⟩ => ?_)
  obtain ⟨c, rfl, q1⟩ := q1
  cases r1
  refine wpAny_truthy_bool ?_
  cases c with
  | true => exact hb pins s1 σ H1 Q I1 q1
  | false => exact ⟨.bl false, H1, I1, rfl, q1⟩
theorem pe_or (ha : PE X a ta) (hb : PE X (.BoolOp .Or (b :: rest) pos) tb) : PE X (.BoolOp .Or (a :: b :: rest) pos) (tOrV ta tb) := by
  intro pins s σ H Q I h
  refine BoolOp_or (thn (ha pins s σ H _ I h) fun v s1 ⟨x, H1, I1, r1, q1⟩ => ?_)
  obtain ⟨c, rfl, q1⟩ := q1
  cases r1
  refine wpAny_truthy_bool ?_
  cases c with
  | false => exact hb pins s1 σ H1 Q I1 q1
  | true => exact ⟨.bl true, H1, I1, rfl, q1⟩
theorem pe_not (ha : PE X a ta) : PE X (.UnaryOp .Not a pos) (tNotV ta) := by
  intro pins s σ H Q I h
  refine UnaryOp_ (thn (ha pins s σ H _ I h) fun v s1 ⟨x, H1, I1, r1, q1⟩ => ?_)
  obtain ⟨c, rfl, q1⟩ := q1
  cases r1
  exact not_of (wpAny_truthy_bool ⟨.bl (!c), H1, I1, rfl, q1⟩)
/-- a if t else b -/
def tIf (t : TT) (ta tb : TE) : TE := fun σ H Q => t σ H fun c H1 => if c = true then ta σ H1 Q else tb σ H1 Q
theorem pe_ifExp {c : Expr} (hc : PT X c tA) (ha : PE X a ta) (hb : PE X b tb) : PE X (.IfExp c a b pos) (tIf tA ta tb) := by
  intro pins s σ H Q I h
  refine wpAny_IfExp (thn (hc pins s σ H _ I h) fun d s1 ⟨H1, I1, q1⟩ => ?_)
  cases d with
  | true => exact ha pins s1 σ H1 Q I1 q1
  | false => exact hb pins s1 σ H1 Q I1 q1
end
end L2

namespace L2
open PySem PySem.Spec PyProof.Rows

/-! ### a list, a tuple that is read: tracked, frozen, or an object of the module -/
def SqL (K : PySem.W.Frag) (H : Hp) (a : Addr) (xs : List V) : Prop :=
  Rd H a (.lst xs) ∨
    ∃ (o : Obj) (its : Array Value) (n : Nat), K.lookup a = some o ∧ o.cls = .type "list" ∧ o.dict = none ∧ o.data = .seq its n ∧ its.size ≤ sizeLine ∧ Vals xs its.toList
def SqT (K : PySem.W.Frag) (H : Hp) (a : Addr) (xs : List V) : Prop :=
  Rd H a (.tup xs) ∨
    ∃ (o : Obj) (its : Array Value) (n : Nat), K.lookup a = some o ∧ o.cls = .type "tuple" ∧ o.data = .seq its n ∧ its.size ≤ sizeLine ∧ Vals xs its.toList
def absV : Value → Option V
  | .none => some .non
  | .bool b => some (.bl b)
  | .int i _ => some (.int i)
  | .str x _ => some (.str x)
  | .bytes b _ => some (.byt b)
  | .float b _ => some (.flt b)
  | .ref a => some (.ref a)
  | .type n => some (.ty n)
  | _ => none
theorem RelV.abs {x : V} {u : Value} (r : RelV x u) : absV u = some x := by
  cases x with
  | non => cases r; rfl
  | bl _ => cases r; rfl
  | int _ => obtain ⟨t, rfl⟩ := r; rfl
  | str _ => obtain ⟨t, rfl⟩ := r; rfl
  | byt _ => obtain ⟨t, rfl⟩ := r; rfl
  | flt _ => obtain ⟨t, rfl⟩ := r; rfl
  | ref _ => cases r; rfl
  | ty _ => cases r; rfl
theorem RelV.inj {x y : V} {u : Value} (r : RelV x u) (q : RelV y u) : x = y := Option.some.inj (r.abs.symm.trans q.abs)
theorem Vals.inj : ∀ {xs ys : List V} {us : List Value}, Vals xs us → Vals ys us → xs = ys
  | _, _, _, .nil, .nil => rfl
  | _, _, _, .cons r t, .cons r' t' => by rw [r.inj r', Vals.inj t t']
section
variable {X : Cx} {pins : List (Addr × Obj)} {σ : St} {H : Hp} {s : Shared} {a : Addr} {xs ys : List V}
theorem SqL.of {K : PySem.W.Frag} (h : H a = some (.lst xs)) : SqL K H a xs := .inl (.inl h)
theorem SqT.of {K : PySem.W.Frag} (h : H a = some (.tup xs)) : SqT K H a xs := .inl (.inl h)
theorem Inv.list (I : Inv X pins σ H s) (h : SqL X.K H a xs) : ∃ its : List Value, Vals xs its ∧ PlainL s.heap a its.toArray ∧ xs.length ≤ sizeLine := by
  rcases h with h | ⟨o, its, n, hk, hc, hd, hs, hz, r⟩
  · obtain ⟨z, its, n, r, e⟩ := h.ok I.hok
    exact ⟨its, r, ⟨_, n, e, rfl, rfl, rfl⟩, z⟩
  · refine ⟨its.toList, r, ⟨o, n, I.kIn a o hk, hc, hd, by simpa using hs⟩, ?_⟩
    have e := r.length
    simp only [Array.length_toList] at e
    omega
theorem Inv.tuple (I : Inv X pins σ H s) (h : SqT X.K H a xs) : ∃ its : List Value, Vals xs its ∧ IsTup s.heap a its.toArray ∧ xs.length ≤ sizeLine := by
  rcases h with h | ⟨o, its, n, hk, hc, hs, hz, r⟩
  · obtain ⟨z, its, r, p⟩ := h.ok I.hok
    exact ⟨its, r, p, z⟩
  · refine ⟨its.toList, r, ⟨o, I.kIn a o hk, hc, n, by simpa using hs⟩, ?_⟩
    have e := r.length
    simp only [Array.length_toList] at e
    omega
theorem Inv.list_inj (I : Inv X pins σ H s) (h : SqL X.K H a xs) (h' : SqL X.K H a ys) : xs = ys := by
  obtain ⟨its, r, ⟨o, n, e, _, _, d⟩, _⟩ := I.list h
  obtain ⟨its', r', ⟨o', n', e', _, _, d'⟩, _⟩ := I.list h'
  rw [e] at e'; cases e'
  rw [d] at d'
  injection d' with d1 _
  have : its = its' := by simpa using congrArg Array.toList d1
  subst this
  exact r.inj r'
theorem Inv.tuple_inj (I : Inv X pins σ H s) (h : SqT X.K H a xs) (h' : SqT X.K H a ys) : xs = ys := by
  obtain ⟨its, r, ⟨o, e, _, n, d⟩, _⟩ := I.tuple h
  obtain ⟨its', r', ⟨o', e', _, n', d'⟩, _⟩ := I.tuple h'
  rw [e] at e'; cases e'
  rw [d] at d'
  injection d' with d1 _
  have : its = its' := by simpa using congrArg Array.toList d1
  subst this
  exact r.inj r'
end

/-! ### another wish about exceptions -/
abbrev Cx.wish (X : Cx) (E : Value → Shared → Prop) : Cx := { X with xe := E }
/-- no exception leaves -/
abbrev Cx.nox (X : Cx) : Cx := X.wish fun _ _ => False
theorem Cx.Ok.wish {X : Cx} (ok : X.Ok) (E : Value → Shared → Prop) : (X.wish E).Ok :=
  ⟨ok.mod, ok.kind, ok.glob, ok.blt, ok.above, ok.inj, ok.has, ok.cab, ok.hd, ok.frames, ok.stk, ok.exf, ok.bs, ok.bsz, ok.noex, ok.exfs, ok.funs, ok.frf⟩
theorem Cx.Ok.unwish {X : Cx} {E : Value → Shared → Prop} (ok : (X.wish E).Ok) : X.Ok :=
  ⟨ok.mod, ok.kind, ok.glob, ok.blt, ok.above, ok.inj, ok.has, ok.cab, ok.hd, ok.frames, ok.stk, ok.exf, ok.bs, ok.bsz, ok.noex, ok.exfs, ok.funs, ok.frf⟩
section
variable {X : Cx} {pins : List (Addr × Obj)} {σ : St} {H : Hp} {s : Shared} {E : Value → Shared → Prop}
theorem Inv.wish (I : Inv X pins σ H s) (E : Value → Shared → Prop) : Inv (X.wish E) pins σ H s := ⟨I.ok.wish E, I.os, I.bare, I.base, I.loc, I.cell, I.free, I.freeC, I.pin, I.hok, I.len⟩
theorem Inv.unwish (I : Inv (X.wish E) pins σ H s) : Inv X pins σ H s := ⟨I.ok.unwish, I.os, I.bare, I.base, I.loc, I.cell, I.free, I.freeC, I.pin, I.hok, I.len⟩
theorem SP.unwish {D : Ends} {f : Flow} {s' : Shared} (h : SP (X.wish E) pins D f s') : SP X pins D f s' := by
  cases f with
  | next => obtain ⟨σ', H', I, q⟩ := h; exact ⟨σ', H', I.unwish, q⟩
  | brk => obtain ⟨σ', H', I, q⟩ := h; exact ⟨σ', H', I.unwish, q⟩
  | cont => obtain ⟨σ', H', I, q⟩ := h; exact ⟨σ', H', I.unwish, q⟩
  | ret u => obtain ⟨v, σ', H', I, r, q⟩ := h; exact ⟨v, σ', H', I.unwish, r, q⟩
theorem PE.nox {e : Expr} {t : TE} (h : PE X.nox e t) : PE X e t := fun pins s σ H Q I hw =>
  wpAny_mono (h pins s σ H Q (I.wish _) hw) (fun _ _ ⟨v, H', I', r, q⟩ => ⟨v, H', I'.unwish, r, q⟩) fun _ _ z => False.elim z
theorem PT.nox {e : Expr} {t : TT} (h : PT X.nox e t) : PT X e t := fun pins s σ H Q I hw =>
  wpAny_mono (h pins s σ H Q (I.wish _) hw) (fun _ _ ⟨H', I', q⟩ => ⟨H', I'.unwish, q⟩) fun _ _ z => False.elim z
theorem PSs.nox {st : List Stmt} {t : TS} (h : PSs X.nox st t) : PSs X st t := fun pins s σ H D I hw =>
  wpAny_mono (h pins s σ H D (I.wish _) hw) (fun _ _ q => q.unwish) fun _ _ z => False.elim z
end

/-! ### blocks and small statements -/
section
variable {X : Cx} {st : Stmt} {rest : List Stmt} {t u : TS} {e : Expr} {te : TE} {pos : Pos}
def tNext : TS := fun D σ H => D.nx σ H
def tSeq (t u : TS) : TS := fun D σ H => t { D with nx := u D } σ H
theorem pss_nil : PSs X [] tNext := fun _ _ σ H _ I h => wpAny_execs_nil ⟨σ, H, I, h⟩
theorem pss_cons (h1 : PS X st t) (h2 : PSs X rest u) : PSs X (st :: rest) (tSeq t u) := by
  intro pins s σ H D I h
  refine wpAny_execs_cons (thn (h1 pins s σ H { D with nx := u D } I h) fun f s1 q => ?_)
  cases f with
  | next =>
    obtain ⟨σ', H', I', q⟩ := q
    exact h2 pins s1 σ' H' D I' q
  | ret v => exact q
  | brk => exact q
  | cont => exact q
theorem pss_one (h1 : PS X st t) : PSs X [st] t := by
  intro pins s σ H D I h
  refine wpAny_execs_cons (thn (h1 pins s σ H D I h) fun f s1 q => ?_)
  cases f with
  | next => exact wpAny_execs_nil q
  | ret v => exact q
  | brk => exact q
  | cont => exact q
def tBreak : TS := fun D σ H => D.bk σ H
def tCont : TS := fun D σ H => D.ct σ H
theorem ps_pass : PS X (.Pass pos) tNext := fun _ _ σ H _ I h => wpAny_Pass ⟨σ, H, I, h⟩
theorem ps_break : PS X (.Break pos) tBreak := fun _ _ σ H _ I h => wpAny_Break ⟨σ, H, I, h⟩
theorem ps_continue : PS X (.Continue pos) tCont := fun _ _ σ H _ I h => wpAny_Continue ⟨σ, H, I, h⟩
/-- in a def's body nothing is shown -/
theorem Inv.quiet {pins : List (Addr × Obj)} {σ : St} {H : Hp} {s : Shared} (I : Inv X pins σ H s) : interactive X.env = false := by simp [interactive, I.ok.kind]
/-- a docstring -/
theorem ps_doc {x j pos pos'} : PS X (.Expr (.Constant (.str x) j pos) pos') tNext := fun _ s σ H _ I h => wpAny_Expr (Calls.Constant_str (show SP X _ _ .next { s with toks := s.toks + 1 } from ⟨σ, H, I.tok _, h⟩)) I.quiet
/-- an expression whose value is dropped -/
def tDrop (te : TE) : TS := fun D σ H => te σ H fun _ H1 => D.nx σ H1
theorem ps_expr (he : PE X e te) (hs : swapsWith e none pos.line X.env = pure false := by rfl) : PS X (.Expr e pos) (tDrop te) := by
  intro pins s σ H D I h
  exact wpAny_Expr_any (thn (he pins s σ H _ I h) fun v s1 ⟨x, H1, I1, r1, q1⟩ => ⟨σ, H1, I1, q1⟩) I.quiet hs
def tRet (te : TE) : TS := fun D σ H => te σ H D.rt
theorem ps_ret (he : PE X e te) : PS X (.Return (some e) pos) (tRet te) := by
  intro pins s σ H D I h
  exact wpAny_Return_some (thn (he pins s σ H _ I h) fun v s1 ⟨x, H1, I1, r1, q1⟩ => ⟨x, σ, H1, I1, r1, q1⟩)
def tRetN : TS := fun D _ H => D.rt .non H
theorem ps_retN : PS X (.Return none pos) tRetN := fun _ _ σ H _ I h => wpAny_Return_none ⟨.non, σ, H, I, rfl, h⟩
def tIfS (c : TT) (t u : TS) : TS := fun D σ H => c σ H fun b H1 => if b = true then t D σ H1 else u D σ H1
theorem ps_if {c : Expr} {a b : List Stmt} {tc : TT} (hc : PT X c tc) (ha : PSs X a t) (hb : PSs X b u) : PS X (.If c a b pos) (tIfS tc t u) := by
  intro pins s σ H D I h
  refine wpAny_If (thn (hc pins s σ H _ I h) fun d s1 ⟨H1, I1, q1⟩ => ?_)
  cases d with
  | true => exact ha pins s1 σ H1 D I1 q1
  | false => exact hb pins s1 σ H1 D I1 q1
/-- code that the proof never comes to -/
def tNever : TS := fun _ _ _ => False
theorem ps_never : PS X st tNever := fun _ _ _ _ _ _ h => h.elim
theorem pss_never {sts : List Stmt} : PSs X sts tNever := fun _ _ _ _ _ _ h => h.elim
end

/-! ### targets -/
abbrev TG := V → St → Hp → (St → Hp → Prop) → Prop
abbrev TGs := List V → St → Hp → (St → Hp → Prop) → Prop
def PG (X : Cx) (target : Expr) (t : TG) : Prop :=
  ∀ (pins : List (Addr × Obj)) (s : Shared) (σ : St) (H : Hp) (v : V) (u : Value) (Q : St → Hp → Prop), Inv X pins σ H s → RelV v u → t v σ H Q →
    wpAny (model X.prog X.w) X.A (assign target X.env u) (fun _ s' => ∃ σ' H', Inv X pins σ' H' s' ∧ Q σ' H') X.xe s
/-- several targets, one after another -/
def PGs (X : Cx) (ts : List Expr) (t : TGs) : Prop :=
  ∀ (pins : List (Addr × Obj)) (s : Shared) (σ : St) (H : Hp) (vs : List V) (us : List Value) (Q : St → Hp → Prop), Inv X pins σ H s → Vals vs us → t vs σ H Q →
    wpAny (model X.prog X.w) X.A (assignInOrder ((assignEach ts X.env).map (·.2)) us) (fun _ s' => ∃ σ' H', Inv X pins σ' H' s' ∧ Q σ' H') X.xe s
/-- o[i] = v, by values -/
abbrev TSet := V → V → V → Hp → (Hp → Prop) → Prop
def PSet (X : Cx) (t : TSet) : Prop :=
  ∀ (pins : List (Addr × Obj)) (s : Shared) (σ : St) (H : Hp) (o i v : V) (ov iv u : Value) (Q : Hp → Prop), Inv X pins σ H s → RelV o ov → RelV i iv → RelV v u → t o i v H Q →
    wpAny (model X.prog X.w) X.A (setItem ov iv u) (fun _ s' => ∃ H', Inv X pins σ H' s' ∧ Q H') X.xe s
/-- a op= b, by values -/
abbrev TIp := V → V → Hp → VK → Prop
def PIp (X : Cx) (op : Operator) (t : TIp) : Prop :=
  ∀ (pins : List (Addr × Obj)) (s : Shared) (σ : St) (H : Hp) (x y : V) (v u : Value) (Q : VK), Inv X pins σ H s → RelV x v → RelV y u → t x y H Q →
    wpAny (model X.prog X.w) X.A (inplaceOp op v u) (EP X pins σ Q) X.xe s
section
variable {X : Cx} {pos : Pos}
def gName (i : Nat) : TG := fun v σ H Q => Q (σ.set i (some v)) H
theorem pg_name {i : Nat} {x : Str} (hN : X.N.Nodup) (hi : X.N[i]? = some x) (hx : Loc X.env.scope x) (hf : X.fn x = true ∨ X.env.scope.names.lookup x = some .local := by first | exact .inl rfl | exact .inr rfl | assumption) : PG X (.Name x pos) (gName i) := by
  intro pins s σ H v u Q I r h
  exact wpAny_assign_Name (store_ok I hN hi hx r (fun s' I' => ⟨_, H, I', h⟩) hf)
def gNil : TGs := fun vs σ H Q => vs = [] ∧ Q σ H
def gCons (t : TG) (u : TGs) : TGs := fun vs σ H Q => ∃ v r, vs = v :: r ∧ t v σ H fun σ' H' => u r σ' H' Q
theorem pgs_nil : PGs X [] gNil := by
  intro pins s σ H vs us Q I r h
  obtain ⟨e, h⟩ := h
  subst e
  cases r
  exact assignInOrder_nil ⟨σ, H, I, h⟩
theorem pgs_cons {e : Expr} {es : List Expr} {t : TG} {u : TGs} (h1 : PG X e t) (h2 : PGs X es u)
    (hs : (assignEach (e :: es) X.env).map (·.2) = assign e X.env :: (assignEach es X.env).map (·.2) := by rfl) : PGs X (e :: es) (gCons t u) := by
  intro pins s σ H vs us Q I r h
  obtain ⟨v, vr, e1, h⟩ := h
  subst e1
  cases r with
  | cons r rr =>
    rw [hs]
    refine assignInOrder_cons (thn (h1 pins s σ H _ _ _ I r h) fun _ s1 ⟨σ1, H1, I1, q1⟩ => ?_)
    exact h2 pins s1 σ1 H1 _ _ Q I1 rr q1
/-- (a, b, ..) = a tuple of that length -/
def gTup (K : PySem.W.Frag) (n : Nat) (t : TGs) : TG := fun v σ H Q => ∃ a xs, v = .ref a ∧ SqT K H a xs ∧ xs.length = n ∧ t xs σ H Q
theorem pg_tup {es : List Expr} {k : Nat} {t : TGs} {n : Nat} (hc : X.calm = true) (h : PGs X es t)
    (hn : (assignEach es X.env).length = n := by rfl) (hst : (assignEach es X.env).findIdx? (·.1) = none := by rfl) : PG X (.Tuple es k pos) (gTup X.K n t) := by
  intro pins s σ H v u Q I r hw
  obtain ⟨a, xs, e1, hq, hl, hw⟩ := hw
  subst e1
  cases r
  obtain ⟨its, rv, ht, hz⟩ := I.tuple hq
  refine assign_Tuple_tuple (I.ok.hd hc) ht (by simp [hn, ← hl, rv.length]) hst fun h' hx => ?_
  have I1 : Inv X pins σ H { s with heap := h' } := I.kept (t' := s.toks) fun b o e => hx b o (Nat.ne_of_lt (Heap.lt_size e)) e
  exact h pins _ σ H xs _ Q I1 (by simpa using rv) hw
/-- o[i] = .. -/
def gSub (to ti : TE) (t : TSet) : TG := fun v σ H Q => to σ H fun o H1 => ti σ H1 fun i H2 => t o i v H2 fun H3 => Q σ H3
theorem pg_sub {o i : Expr} {to ti : TE} {t : TSet} (ho : PE X o to) (hi : PE X i ti) (hs : PSet X t)
    (ha : ∀ v, assign (.Subscript o i pos) X.env v = (do
      let ov ← holding [v] (eval o X.env)
      let iv ← holding [v, ov] (eval i X.env)
      standAt pos
      holding [v, ov, iv] (setItem ov iv v)
      release [v, ov, iv] []) := by intro _; rfl) : PG X (.Subscript o i pos) (gSub to ti t) := by
  intro pins s σ H v u Q I r h
  rw [ha]
  refine wpAny_bind (wpAny_holding (thn (ho pins s σ H _ I h) fun ov s1 ⟨x, H1, I1, r1, q1⟩ => ?_))
  refine wpAny_bind (wpAny_holding (thn (hi pins s1 σ H1 _ I1 q1) fun iv s2 ⟨y, H2, I2, r2, q2⟩ => ?_))
  refine wpAny_bind (wpAny_standAt (wpAny_bind (wpAny_holding (thn (hs pins s2 σ H2 x y v ov iv u _ I2 r1 r2 r q2) fun _ s3 ⟨H3, I3, q3⟩ => ?_))))
  exact wpAny_release ⟨σ, H3, I3, q3⟩
/-- target = value -/
def tAsg (te : TE) (g : TG) : TS := fun D σ H => te σ H fun x H1 => g x σ H1 D.nx
theorem ps_asg {tg e : Expr} {te : TE} {g : TG} (he : PE X e te) (hg : PG X tg g) (hs : swapsWithSole [tg] e pos.line X.env = pure false := by rfl) (hw : swappedStores [tg] e X.env = pure none := by rfl)
    (h1 : (assignEach [tg] X.env).map (·.2) = [assign tg X.env] := by rfl) : PS X (.Assign [tg] e pos) (tAsg te g) := by
  intro pins s σ H D I h
  refine wpAny_Assign_stores (thn (he pins s σ H _ I h) fun v s1 ⟨x, H1, I1, r1, q1⟩ => ?_) hs hw
  rw [h1]
  exact thn (hg pins s1 σ H1 x v _ I1 r1 q1) fun _ s2 q => q
/-- name = value -/
theorem ps_set {i : Nat} {x : Str} {e : Expr} {te : TE} {pos' : Pos} (hN : X.N.Nodup) (hi : X.N[i]? = some x) (hx : Loc X.env.scope x) (he : PE X e te) (hs : swapsWith e (some (.Name x pos')) pos.line X.env = pure false := by rfl) (hf : X.fn x = true ∨ X.env.scope.names.lookup x = some .local := by first | exact .inl rfl | exact .inr rfl | assumption) :
    PS X (.Assign [.Name x pos'] e pos) (tAsg te (gName i)) := by
  intro pins s σ H D I h
  refine wpAny_Assign_Name (thn (he pins s σ H _ I h) fun v s1 ⟨y, H1, I1, r1, q1⟩ => ?_) hs
  exact store_ok I1 hN hi hx r1 (fun s2 I2 => ⟨_, H1, I2, q1⟩) hf
/-- a, b = x, y with plain local names: stored from the right; the pair itself is not tracked (the opening rows as in PyProof/Rows/TupAssign.lean:23) -/
def tPar (i j : Nat) (ta : TA) : TS := fun D σ H => ta σ H fun vs H1 => ∃ v w, vs = [v, w] ∧ D.nx ((σ.set i (some v)).set j (some w)) H1
theorem ps_par {i j : Nat} {x y : Str} {a b : Expr} {ta : TA} {px py pt : Pos} {kt k2 pt2} (hc : X.calm = true) (hN : X.N.Nodup) (hi : X.N[i]? = some x) (hj : X.N[j]? = some y) (hij : i ≠ j)
    (hx : X.env.scope.names.lookup x = some .local) (hy : X.env.scope.names.lookup y = some .local) (ha : PA X [a, b] ta)
    (hw : swappedStores [.Tuple [.Name x px, .Name y py] kt pt] (.Tuple [a, b] k2 pt2) X.env = pure (some [x, y]))
    (hs : swapsWithSole [.Tuple [.Name x px, .Name y py] kt pt] (.Tuple [a, b] k2 pt2) pos.line X.env = pure false := by rfl) :
    PS X (.Assign [.Tuple [.Name x px, .Name y py] kt pt] (.Tuple [a, b] k2 pt2) pos) (tPar i j ta) := by
  intro pins s σ H D I h
  rw [exec_Assign_arm]
  refine wpAny_bind (wpAny_standAt ?_)
  rw [hs]
  refine wpAny_bind (wpAny_pure ?_)
  rw [if_neg (by decide)]
  refine wpAny_bind (Tuple_ (thn (ha _ pins s σ H _ I h) fun us s1 ⟨vs, H1, I1, r1, q1⟩ => ?_))
  obtain ⟨v, w, e1, q1⟩ := q1
  subst e1
  obtain ⟨u1, u2, rfl, rv, rw'⟩ : ∃ u1 u2, us = [u1, u2] ∧ RelV v u1 ∧ RelV w u2 := by
    cases r1 with
    | cons p q =>
      cases q with
      | cons p' q' =>
        cases q'
        exact ⟨_, _, rfl, p, p'⟩
  refine wpAny_newObj_type ?_ (by show 2 ≤ sizeLine; decide)
  have I2 : Inv X pins σ H1 { s1 with heap := s1.heap.push { cls := .type "tuple", data := .seq [u1, u2].toArray } } := I1.kept (t' := s1.toks) fun b o e => Heap.get?_push_of_some _ e
  rw [hw]
  refine wpAny_bind (wpAny_pure ?_)
  show wpAny (model X.prog X.w) X.A (do rule "assign.swapped-stores"; let items ← unpackItems (.ref s1.heap.objs.size) 2 none; assignInOrder [fun v => bindName X.env y v, fun v => bindName X.env x v] items.reverse; pure Flow.next) _ _ _
  refine wpAny_bind (wpAny_rule (wpAny_bind (unpackItems_tuple (items := #[u1, u2]) (I.ok.hd hc) (IsTup.new s1.heap _) fun h' hx' => ?_)))
  have I3 := I2.kept (h' := h') (t' := s1.toks) fun b o e => hx' b o (Nat.ne_of_lt (Heap.lt_size e)) e
  show wpAny _ _ (assignInOrder [fun v => bindName X.env y v, fun v => bindName X.env x v] [u2, u1] >>= fun _ => pure Flow.next) _ _ _
  refine wpAny_bind (assignInOrder_cons (wpAny_bindName (store_ok I3 hN hj (.inl hy) rw' (fun s2 I4 => ?_) (.inr hy))))
  refine assignInOrder_cons (wpAny_bindName (store_ok I4 hN hi (.inl hx) rv (fun s3 I5 => assignInOrder_nil (wpAny_pure ?_)) (.inr hx)))
  rw [List.set_comm _ _ (Ne.symm hij)] at I5
  exact ⟨_, H1, I5, q1⟩
/-- name op= e -/
def tAug (i : Nat) (te : TE) (ti : TIp) : TS := fun D σ H => ∃ x, σ[i]? = some (some x) ∧ te σ H fun y H1 => ti x y H1 fun z H2 => D.nx (σ.set i (some z)) H2
theorem ps_aug {i : Nat} {x : Str} {e : Expr} {te : TE} {op : Operator} {ti : TIp} {pos' : Pos} (hN : X.N.Nodup) (hi : X.N[i]? = some x) (hx : Loc X.env.scope x) (he : PE X e te) (ho : PIp X op ti) (hf : X.fn x = true ∨ X.env.scope.names.lookup x = some .local := by first | exact .inl rfl | exact .inr rfl | assumption) :
    PS X (.AugAssign (.Name x pos') op e pos) (tAug i te ti) := by
  intro pins s σ H D I h
  obtain ⟨v, e1, h⟩ := h
  obtain ⟨m, hn, hl⟩ := I.loc
  have vis : Vis X.env.scope x := by rcases hx with k | k; exact .inl k; exact .inr (.inl k)
  obtain ⟨u, r, l⟩ := hl i x v hi e1 vis
  refine wpAny_AugAssign_Name ?_
  have go : wpAny (model X.prog X.w) X.A (eval e X.env) (fun w s₂ => wpAny (model X.prog X.w) X.A (inplaceOp op u w) (fun r s₃ => wpAny (model X.prog X.w) X.A (storeName X.env x r) (fun _ => SP X pins D .next) X.xe s₃) X.xe s₂) X.xe s := by
    refine thn (he pins s σ H _ I h) fun w s1 ⟨y, H1, I1, r1, q1⟩ => ?_
    refine thn (ho pins s1 σ H1 v y u w _ I1 r r1 q1) fun z s2 ⟨zv, H2, I2, r2, q2⟩ => ?_
    exact store_ok I2 hN hi hx r2 (fun s3 I3 => ⟨_, H2, I3, q2⟩) hf
  rcases l with ⟨hk, hm⟩ | ⟨hk, c, hc, hcell⟩
  · exact wpAny_loadName_local I.ok.kind hk hn hm go
  · rcases hk with hk | hk
    · exact wpAny_loadName_cell I.ok.kind hk hc hcell go
    · rcases hx with k | k
      · have : X.env.scope.names.lookup x = some .free := hk
        rw [k] at this; cases this
      · have : X.env.scope.names.lookup x = some .free := hk
        rw [k] at this; cases this
/-- o[i] op= e -/
def tAugS (to ti te : TE) (tget : V → V → Hp → VK → Prop) (tip : TIp) (tset : TSet) : TS := fun D σ H => to σ H fun o H1 => ti σ H1 fun i H2 => tget o i H2 fun x H3 => te σ H3 fun y H4 => tip x y H4 fun z H5 => tset o i z H5 fun H6 => D.nx σ H6
/-- o[i], by values -/
def PGet (X : Cx) (t : V → V → Hp → VK → Prop) : Prop :=
  ∀ (pins : List (Addr × Obj)) (s : Shared) (σ : St) (H : Hp) (o i : V) (ov iv : Value) (Q : VK), Inv X pins σ H s → RelV o ov → RelV i iv → t o i H Q →
    wpAny (model X.prog X.w) X.A (getItem ov iv) (EP X pins σ Q) X.xe s
theorem ps_augS {o i e : Expr} {to ti te : TE} {tget : V → V → Hp → VK → Prop} {tip : TIp} {tset : TSet} {op : Operator} {tpos : Pos} (ho : PE X o to) (hi : PE X i ti) (hg : PGet X tget) (he : PE X e te) (hp : PIp X op tip) (hs : PSet X tset)
    (ha : ∀ ov iv new, augStore i ov iv new = (do holding [new, ov, iv] (setItem ov iv new); release [new, ov, iv] []; pure .next) := by intros; rfl) : PS X (.AugAssign (.Subscript o i tpos) op e pos) (tAugS to ti te tget tip tset) := by
  intro pins s σ H D I h
  refine wpAny_AugAssign_SubscriptAny (thn (ho pins s σ H _ I h) fun ov s1 ⟨x1, H1, I1, r1, q1⟩ => ?_) ha
  refine thn (hi pins s1 σ H1 _ I1 q1) fun iv s2 ⟨x2, H2, I2, r2, q2⟩ => ?_
  refine thn (hg pins s2 σ H2 x1 x2 ov iv _ I2 r1 r2 q2) fun old s3 ⟨x3, H3, I3, r3, q3⟩ => ?_
  refine thn (he pins s3 σ H3 _ I3 q3) fun v s4 ⟨x4, H4, I4, r4, q4⟩ => ?_
  refine thn (hp pins s4 σ H4 x3 x4 old v _ I4 r3 r4 q4) fun new s5 ⟨x5, H5, I5, r5, q5⟩ => ?_
  exact thn (hs pins s5 σ H5 x1 x2 x5 ov iv new _ I5 r1 r2 r5 q5) fun _ s6 ⟨H6, I6, q6⟩ => ⟨σ, H6, I6, q6⟩
/-- ints -/
def ipI (f : Int → Int → Int) : TIp := fun x y H Q => ∃ i j, x = .int i ∧ y = .int j ∧ Q (.int (f i j)) H
theorem ip_add : PIp X .Add (ipI fun i j => i + j) := by
  intro pins s σ H x y v u Q I r1 r2 h
  obtain ⟨i, j, e1, e2, q⟩ := h
  subst e1; subst e2
  obtain ⟨t, rfl⟩ := r1
  obtain ⟨t', rfl⟩ := r2
  exact iadd_int ⟨.int _, H, I.tok _, ⟨_, rfl⟩, q⟩
theorem ip_sub : PIp X .Sub (ipI fun i j => i - j) := by
  intro pins s σ H x y v u Q I r1 r2 h
  obtain ⟨i, j, e1, e2, q⟩ := h
  subst e1; subst e2
  obtain ⟨t, rfl⟩ := r1
  obtain ⟨t', rfl⟩ := r2
  exact isub_int ⟨.int _, H, I.tok _, ⟨_, rfl⟩, q⟩
end

/-! ### while -/
section
variable {X : Cx} {pos : Pos}
/-- the invariant W with its measure -/
def tWhile (c : TT) (tb : TS) : TS := fun D σ H => ∃ W : Nat → St → Hp → Prop, (∃ m, W m σ H) ∧ ∀ m σ H, W m σ H →
  c σ H fun b H1 => if b = true then ∃ N : St → Hp → Prop, (∀ σ' H', N σ' H' → ∃ m', m' < m ∧ W m' σ' H') ∧ tb { D with nx := N, ct := N, bk := D.nx } σ H1 else D.nx σ H1
theorem ps_while {c : Expr} {body : List Stmt} {tc : TT} {tb : TS} (hp : PassesOwn (model X.prog X.w) X.A X.env X.xe) (hc : PT X c tc) (hb : PSs X body tb) : PS X (.While c body [] pos) (tWhile tc tb) := by
  intro pins s σ H D I h
  obtain ⟨W, ⟨m0, w0⟩, turn⟩ := h
  refine wpAny_While (codeAny_whileLoop (fun n s' => ∃ σ' H', Inv X pins σ' H' s' ∧ W n σ' H') ?_ m0 ⟨σ, H, I, w0⟩)
  rintro n s1 ⟨σ1, H1, I1, w1⟩
  refine wpAny_passesOwn hp (thn (hc pins s1 σ1 H1 _ I1 (turn n σ1 H1 w1)) fun b s2 ⟨H2, I2, q2⟩ => ?_)
  cases b with
  | true =>
    obtain ⟨N, hN, q2⟩ := q2
    rw [if_pos rfl]
    refine wpAny_passesOwn hp (thn (hb pins s2 σ1 H2 _ I2 q2) fun f s3 q3 => ?_)
    cases f with
    | next =>
      obtain ⟨σ3, H3, I3, n3⟩ := q3
      obtain ⟨m', hm, w3⟩ := hN σ3 H3 n3
      exact ⟨m', hm, σ3, H3, I3, w3⟩
    | cont =>
      obtain ⟨σ3, H3, I3, n3⟩ := q3
      obtain ⟨m', hm, w3⟩ := hN σ3 H3 n3
      exact ⟨m', hm, σ3, H3, I3, w3⟩
    | brk => exact q3
    | ret v => exact q3
  | false =>
    rw [if_neg Bool.false_ne_true]
    exact wpAny_execs_nil ⟨σ1, H2, I2, q2⟩
end

/-! ### what a loop or a comprehension walks -/
/-- at turn i: it yields x (the heap may grow), or it stops -/
structure It where
  go : Nat → Hp → Prop
  yld : Nat → Hp → V → Hp → Prop
  stop : Nat → Hp → Prop
/-- the iterator's own objects may turn: they are not the frame's, not pinned, younger than the entry (or a comprehension's own) -/
def FpOk (X : Cx) (pins : List (Addr × Obj)) (H : Hp) (b : Addr) : Prop :=
  H b = none ∧ b ≠ X.env.locals ∧ b ∉ X.fs ∧ (b ∈ X.ex ∨ X.s₀.heap.objs.size ≤ b) ∧ (∀ x c, X.env.cells.lookup x = some c → c ≠ b) ∧ ∀ p ∈ X.pn ++ pins, p.1 ≠ b
theorem Inv.fpOk {X : Cx} {pins : List (Addr × Obj)} {σ : St} {H H' : Hp} {s : Shared} {b : Addr} (I : Inv X pins σ H s) (hb : s.heap.objs.size ≤ b) (hn : H' b = none) : FpOk X pins H' b := by
  refine ⟨hn, Nat.ne_of_gt (Nat.lt_of_lt_of_le I.lt hb), I.nofs hb, .inr (Nat.le_trans I.sz hb), fun x c e z => ?_, fun p hp z => ?_⟩
  · obtain ⟨v, q⟩ := I.cell x c e
    exact absurd (Nat.lt_of_lt_of_le q.lt (by rw [z]; exact hb)) (Nat.lt_irrefl _)
  · exact absurd (Nat.lt_of_lt_of_le (Heap.lt_size (I.pin p hp).1) (by rw [z]; exact hb)) (Nat.lt_irrefl _)
structure Turn (P : Program) (w : World) (K : PySem.W.Frag) (tg : Expr) (J : It) (fp : List Addr) (it : Addr) (tn : Nat → Heap → Prop) : Prop where
  mem : it ∈ fp
  obj : ∀ i h, tn i h → ∀ b ∈ fp, ∃ o, h.get? b = some o ∧ ∀ v, o.data ≠ .cell v
  keep : ∀ i h h', tn i h → (∀ b ∈ fp, ∀ o, h.get? b = some o → h'.get? b = some o) → tn i h'
  item : ∀ (X : Cx), X.prog = P → X.w = w → X.K = K → X.calm = true → ∀ (i : Nat) (pins : List (Addr × Obj)) (s : Shared) (σ : St) (H : Hp) (E : Value → Shared → Prop), Inv X pins σ H s → (∀ b ∈ fp, FpOk X pins H b) → tn i s.heap → J.go i H →
    wpAny (model P w) X.A (pyNext (.ref it)) (fun r s1 => ∃ u, r = some u ∧
      wpAny (model P w) X.A (letOwnedTupleGo tg (.ref it) u) (fun _ s2 => ∃ x H', Inv X pins σ H' s2 ∧ RelV x u ∧ J.yld i H x H' ∧ tn (i + 1) s2.heap ∧ ∀ b ∈ fp, H' b = none) E s1) E s
  done : ∀ (X : Cx), X.prog = P → X.w = w → X.K = K → X.calm = true → ∀ (i : Nat) (pins : List (Addr × Obj)) (s : Shared) (σ : St) (H : Hp) (E : Value → Shared → Prop), Inv X pins σ H s → (∀ b ∈ fp, FpOk X pins H b) → tn i s.heap → J.stop i H →
    wpAny (model P w) X.A (pyNext (.ref it)) (fun r s1 => r = none ∧ Inv X pins σ H s1) E s
  self : ∀ (A : Around) (i : Nat) (s : Shared) (Q : Value → Shared → Prop) (E : Value → Shared → Prop), tn i s.heap → Q (.ref it) s → wpAny (model P w) A (pyIter (.ref it)) Q E s
abbrev TI := St → Hp → (It → Hp → Prop) → Prop
/-- an iterator has come -/
def PIE (X : Cx) (pins : List (Addr × Obj)) (σ : St) (tg : Expr) (R : It → Hp → Prop) (itv : Value) (s2 : Shared) : Prop :=
  ∃ (it : Addr) (fp : List Addr) (tn : Nat → Heap → Prop) (J : It) (H' : Hp), itv = .ref it ∧ Inv X pins σ H' s2 ∧ Turn X.prog X.w X.K tg J fp it tn ∧ tn 0 s2.heap ∧ (∀ b ∈ fp, FpOk X pins H' b) ∧ R J H'
def PI (X : Cx) (tg iter : Expr) (wi : TI) : Prop :=
  ∀ (pins : List (Addr × Obj)) (s : Shared) (σ : St) (H : Hp) (R : It → Hp → Prop), Inv X pins σ H s → wi σ H R →
    wpAny (model X.prog X.w) X.A (eval iter X.env) (fun v s1 => wpAny (model X.prog X.w) X.A (pyIter v) (PIE X pins σ tg R) X.xe s1) X.xe s

/-- the step ahead of the store is nothing for an iterator that keeps no tuple -/
theorem go_of {M : Model} {A : Around} {E : Value → Shared → Prop} {s : Shared} {tg : Expr} {it : Addr} {u : Value} {o : Obj} {n : String} {vs : Array Value} {Q : Unit → Shared → Prop} (ho : s.heap.get? it = some o) (hc : o.cls = .type n) (hd : o.data = .fields vs)
    (hn : ["enumerate", "zip", "dict_itemiterator", "dict_reverseitemiterator", "odict_iterator", "itertools.zip_longest", "itertools.pairwise"].contains n = false) (hQ : Q () s) : wpAny M A (letOwnedTupleGo tg (.ref it) u) Q E s := by
  unfold letOwnedTupleGo
  cases tg <;> first
    | exact wpAny_pure hQ
    | (cases u <;> first
        | exact wpAny_pure hQ
        | (refine wpAny_bind (wpAny_load ho ?_)
           rw [hc, hd]
           show wpAny M A (if (["enumerate", "zip", "dict_itemiterator", "dict_reverseitemiterator", "odict_iterator", "itertools.zip_longest", "itertools.pairwise"].contains n && vs[0]? == some (rawInt _)) = true then _ else _) Q E s
           rw [if_neg (by intro h; rw [hn, Bool.false_and] at h; cases h)]
           exact wpAny_pure hQ))

/-- the list at a, as it stands at each turn (a loop may append to it) -/
def Itl (K : PySem.W.Frag) (a : Addr) : It :=
  ⟨fun i H => ∃ xs x, SqL K H a xs ∧ xs[i]? = some x, fun i H x H' => H' = H ∧ ∀ xs, SqL K H a xs → xs[i]? = some x, fun i H => ∃ xs, SqL K H a xs ∧ xs.length ≤ i⟩
def Itt (K : PySem.W.Frag) (a : Addr) : It :=
  ⟨fun i H => ∃ xs x, SqT K H a xs ∧ xs[i]? = some x, fun i H x H' => H' = H ∧ ∀ xs, SqT K H a xs → xs[i]? = some x, fun i H => ∃ xs, SqT K H a xs ∧ xs.length ≤ i⟩
/-- lo, lo + 1, .. (n of them) -/
def Itr (lo : Int) (n : Nat) : It := ⟨fun i _ => i < n, fun i H x H' => H' = H ∧ x = .int (lo + i), fun i _ => n ≤ i⟩
theorem turn_list {P : Program} {w : World} {K : PySem.W.Frag} {tg : Expr} (a it : Addr) : Turn P w K tg (Itl K a) [it] it (fun i h => h.IsListIter it a i) where
  mem := by simp
  obj := fun i h st b hb => by
    have e : b = it := by simpa using hb
    subst e
    obtain ⟨o, e, c, d⟩ := st
    exact ⟨o, e, fun v z => by rw [d] at z; cases z⟩
  keep := fun i h h' st k => st.at fun o e => k it (by simp) o e
  item := by
    intro X hP hw hK hc i pins s σ H E I hf st hg
    subst hP hw hK
    obtain ⟨xs, x, hq, hx⟩ := hg
    obtain ⟨its, rv, p, hz⟩ := I.list hq
    obtain ⟨u, hu, ru⟩ := rv.get hx
    obtain ⟨f0, f1, f2, f3, f4, f5⟩ := hf it (by simp)
    refine wpAny_pyNext_list_item st p.isList (x := u) (by simpa using hu) fun h' st' sb => ?_
    have I1 : Inv X pins σ H { s with heap := h' } := I.turned (t' := s.toks) (fun b o hb e => (sb.2 b hb).trans e) f0 f1 f3 f4 f5
    obtain ⟨o, e, c, d⟩ := id st'
    exact ⟨u, rfl, go_of (s := { s with heap := h' }) e c d (by decide) ⟨x, H, I1, ru, ⟨rfl, fun ys hy => by rw [I.list_inj hy hq]; exact hx⟩, st', fun b hb => (hf b hb).1⟩⟩
  done := by
    intro X hP hw hK hc i pins s σ H E I hf st hg
    subst hP hw hK
    obtain ⟨xs, hq, hx⟩ := hg
    obtain ⟨its, rv, p, hz⟩ := I.list hq
    obtain ⟨f0, f1, f2, f3, f4, f5⟩ := hf it (by simp)
    have hl := rv.length
    exact wpAny_pyNext_list_end (I.ok.hd hc) st p.isList (by simp; omega) fun h' eb => ⟨rfl, I.turned (t' := s.toks) (fun b o hb e => eb b o hb e) f0 f1 f3 f4 f5⟩
  self := fun _ _ _ _ _ st h => wpAny_pyIter_listiter st h
theorem turn_tuple {P : Program} {w : World} {K : PySem.W.Frag} {tg : Expr} (a it : Addr) : Turn P w K tg (Itt K a) [it] it (fun i h => h.IsTupleIter it a i) where
  mem := by simp
  obj := fun i h st b hb => by
    have e : b = it := by simpa using hb
    subst e
    obtain ⟨o, e, c, d⟩ := st
    exact ⟨o, e, fun v z => by rw [d] at z; cases z⟩
  keep := fun i h h' st k => st.at fun o e => k it (by simp) o e
  item := by
    intro X hP hw hK hc i pins s σ H E I hf st hg
    subst hP hw hK
    obtain ⟨xs, x, hq, hx⟩ := hg
    obtain ⟨its, rv, p, hz⟩ := I.tuple hq
    obtain ⟨u, hu, ru⟩ := rv.get hx
    obtain ⟨f0, f1, f2, f3, f4, f5⟩ := hf it (by simp)
    refine wpAny_pyNext_tuple_item st (show s.heap.IsTuple a its.toArray from p) (x := u) (by simpa using hu) fun h' st' sb => ?_
    have I1 : Inv X pins σ H { s with heap := h' } := I.turned (t' := s.toks) (fun b o hb e => (sb.2 b hb).trans e) f0 f1 f3 f4 f5
    obtain ⟨o, e, c, d⟩ := id st'
    exact ⟨u, rfl, go_of (s := { s with heap := h' }) e c d (by decide) ⟨x, H, I1, ru, ⟨rfl, fun ys hy => by rw [I.tuple_inj hy hq]; exact hx⟩, st', fun b hb => (hf b hb).1⟩⟩
  done := by
    intro X hP hw hK hc i pins s σ H E I hf st hg
    subst hP hw hK
    obtain ⟨xs, hq, hx⟩ := hg
    obtain ⟨its, rv, p, hz⟩ := I.tuple hq
    obtain ⟨f0, f1, f2, f3, f4, f5⟩ := hf it (by simp)
    have hl := rv.length
    exact wpAny_pyNext_tuple_end (I.ok.hd hc) st (show s.heap.IsTuple a its.toArray from p) (by simp; omega) fun h' eb => ⟨rfl, I.turned (t' := s.toks) (fun b o hb e => eb b o hb e) f0 f1 f3 f4 f5⟩
  self := fun _ _ _ _ _ st h => wpAny_pyIter_tupleiter st h
theorem turn_range {P : Program} {w : World} {K : PySem.W.Frag} {tg : Expr} (it : Addr) (lo : Int) (n : Nat) : Turn P w K tg (Itr lo n) [it] it (fun i h => IsRangeIter h it (lo + (i : Nat) * 1) ((n : Int) - (i : Nat)) 1) where
  mem := by simp
  obj := fun i h st b hb => by
    have e : b = it := by simpa using hb
    subst e
    exact ⟨_, st, fun v z => by
      have z' : Data.fields _ = Data.cell v := z
      cases z'⟩
  keep := fun i h h' st k => k it (by simp) _ st
  item := by
    intro X hP hw hK hc i pins s σ H E I hf st hg
    subst hP hw hK
    obtain ⟨f0, f1, f2, f3, f4, f5⟩ := hf it (by simp)
    have W := Walks.range (prog := X.prog) (w := X.w) (I.ok.hd hc) it lo 1 n
    refine W.item i s _ _ hg st fun v h' tk hv st' kk => ?_
    obtain ⟨t, rfl⟩ := hv
    have I1 : Inv X pins σ H { s with heap := h', toks := tk } := I.turned (fun b o hb e => kk b o (by simpa using hb) e) f0 f1 f3 f4 f5
    refine ⟨_, rfl, go_of (s := { s with heap := h', toks := tk }) (n := "range_iterator") st' rfl rfl (by decide) ⟨.int (lo + i), H, I1, ⟨t, ?_⟩, ⟨rfl, rfl⟩, st', fun b hb => (hf b hb).1⟩⟩
    rw [Int.mul_one]
  done := by
    intro X hP hw hK hc i pins s σ H E I hf st hg
    subst hP hw hK
    obtain ⟨f0, f1, f2, f3, f4, f5⟩ := hf it (by simp)
    exact wpAny_pyNext_range_end (I.ok.hd hc) st (by have : n ≤ i := hg; omega) fun h' eb => ⟨rfl, I.turned (t' := s.toks) (fun b o hb e => eb b o hb e) f0 f1 f3 f4 f5⟩
  self := fun _ _ _ _ _ st h => wpAny_pyIter_rangeiter st h
end L2

namespace L2
open PySem PySem.Spec PyProof.Rows
section
variable {X : Cx} {tg : Expr}
def iList (K : PySem.W.Frag) (tl : TE) : TI := fun σ H R => tl σ H fun x H1 => ∃ a, x = .ref a ∧ (∃ xs, SqL K H1 a xs) ∧ R (Itl K a) H1
def iTup (K : PySem.W.Frag) (tl : TE) : TI := fun σ H R => tl σ H fun x H1 => ∃ a, x = .ref a ∧ (∃ xs, SqT K H1 a xs) ∧ R (Itt K a) H1
theorem pi_list {l : Expr} {tl : TE} (hl : PE X l tl) : PI X tg l (iList X.K tl) := by
  intro pins s σ H R I h
  refine thn (hl pins s σ H _ I h) fun v s1 ⟨x, H1, I1, r1, q1⟩ => ?_
  obtain ⟨a, e, ⟨xs, hq⟩, q⟩ := q1
  subst e
  cases r1
  obtain ⟨its, rv, p, hz⟩ := I1.list hq
  refine wpAny_pyIter_list p.isList ?_
  refine ⟨s1.heap.objs.size, [s1.heap.objs.size], _, _, H1, rfl, I1.kept (t' := s1.toks) fun b o e => Heap.get?_push_of_some _ e, turn_list a _, ⟨_, Heap.get?_push_size _ rfl, rfl, rfl⟩, fun b hb => ?_, q⟩
  have e : b = s1.heap.objs.size := by simpa using hb
  subst e
  exact I1.fpOk (Nat.le_refl _) (I1.hok.fresh (Nat.le_refl _))
theorem pi_tup {l : Expr} {tl : TE} (hl : PE X l tl) : PI X tg l (iTup X.K tl) := by
  intro pins s σ H R I h
  refine thn (hl pins s σ H _ I h) fun v s1 ⟨x, H1, I1, r1, q1⟩ => ?_
  obtain ⟨a, e, ⟨xs, hq⟩, q⟩ := q1
  subst e
  cases r1
  obtain ⟨its, rv, p, hz⟩ := I1.tuple hq
  refine wpAny_pyIter_tuple (show s1.heap.IsTuple a its.toArray from p) ?_
  refine ⟨s1.heap.objs.size, [s1.heap.objs.size], _, _, H1, rfl, I1.kept (t' := s1.toks) fun b o e => Heap.get?_push_of_some _ e, turn_tuple a _, ⟨_, Heap.get?_push_size _ rfl, rfl, rfl⟩, fun b hb => ?_, q⟩
  have e : b = s1.heap.objs.size := by simpa using hb
  subst e
  exact I1.fpOk (Nat.le_refl _) (I1.hok.fresh (Nat.le_refl _))
/-- a range object just made, walked -/
theorem range_it {pins : List (Addr × Obj)} {σ : St} {H : Hp} {s : Shared} {R : It → Hp → Prop} {E : Value → Shared → Prop} {lo hi : Int} {t u v : Tok} {tk : Nat} (I : Inv X pins σ H s) (h1 : -(2 ^ 62) ≤ lo) (h2 : lo < 2 ^ 62) (h3 : -(2 ^ 62) ≤ hi) (h4 : hi < 2 ^ 62)
    (q : R (Itr lo (hi - lo).toNat) H) : wpAny (model X.prog X.w) X.A (pyIter (.ref s.heap.objs.size)) (PIE X pins σ tg R) E { s with heap := s.heap.push { cls := .type "range", data := .fields #[.int lo t, .int hi u, .int 1 v] }, toks := tk } := by
  refine wpAny_pyIter_range (IsRange.new ..) (small_one h1 h2 h3 h4) ?_
  have I1 : Inv X pins σ H { s with heap := s.heap.push { cls := .type "range", data := .fields #[.int lo t, .int hi u, .int 1 v] }, toks := tk } := I.kept fun b o e => Heap.get?_push_of_some _ e
  refine ⟨(s.heap.push { cls := .type "range", data := .fields #[.int lo t, .int hi u, .int 1 v] }).objs.size, [(s.heap.push { cls := .type "range", data := .fields #[.int lo t, .int hi u, .int 1 v] }).objs.size], _, _, H, rfl,
    I1.kept (t' := tk) fun b o e => Heap.get?_push_of_some _ e, turn_range _ lo (hi - lo).toNat, ?_, fun b hb => ?_, q⟩
  · have e1 : lo + ((0 : Nat) : Int) * 1 = lo := by simp
    have e2 : (((hi - lo).toNat : Nat) : Int) - ((0 : Nat) : Int) = Builtin.Range.rangeSize lo hi 1 := by rw [rangeSize_one]; split <;> omega
    show IsRangeIter _ _ (lo + ((0 : Nat) : Int) * 1) ((((hi - lo).toNat : Nat) : Int) - ((0 : Nat) : Int)) 1
    rw [e1, e2]
    exact Heap.get?_push_size _ rfl
  · have e : b = (s.heap.push { cls := .type "range", data := .fields #[.int lo t, .int hi u, .int 1 v] }).objs.size := by simpa using hb
    subst e
    exact I1.fpOk (Nat.le_refl _) (I1.hok.fresh (Nat.le_refl _))
def iRng1 (ta : TA) : TI := fun σ H R => ta σ H fun vs H1 => ∃ j : Int, vs = [.int j] ∧ -(2 ^ 62) ≤ j ∧ j < 2 ^ 62 ∧ R (Itr 0 j.toNat) H1
def iRng2 (ta : TA) : TI := fun σ H R => ta σ H fun vs H1 => ∃ i j : Int, vs = [.int i, .int j] ∧ (-(2 ^ 62) ≤ i ∧ i < 2 ^ 62 ∧ -(2 ^ 62) ≤ j ∧ j < 2 ^ 62) ∧ R (Itr i (j - i).toNat) H1
theorem pi_range1 {a : Expr} {ta : TA} {p pos : Pos} (hg : Gl X "range") (hm : X.mg "range" = none) (ha : PA X [a] ta) (hs : starEach [a] X.env = [(false, eval a X.env)] := by rfl) : PI X tg (.Call (.Name "range" p) [a] [] pos) (iRng1 ta) := by
  intro pins s σ H R I h
  refine Call_ (ld_blt I hg hm boot_range (PyProof.Rows.callWith_type1 (thn (ha pos pins s σ H _ I h) fun us s1 ⟨vs, H1, I1, r1, q1⟩ => ?_) hs rfl))
  obtain ⟨j, e, q1, q2, q⟩ := q1
  subst e
  cases r1 with
  | cons r rr =>
    cases rr
    obtain ⟨t, rfl⟩ := r
    exact call_range_1 (range_it I1 (by omega) (by omega) q1 q2 (by simpa using q))
theorem pi_range2 {a b : Expr} {ta : TA} {p pos : Pos} (hg : Gl X "range") (hm : X.mg "range" = none) (ha : PA X [a, b] ta) (hs : starEach [a, b] X.env = [(false, eval a X.env), (false, eval b X.env)] := by rfl) (hs2 : starEach [b] X.env = [(false, eval b X.env)] := by rfl) :
    PI X tg (.Call (.Name "range" p) [a, b] [] pos) (iRng2 ta) := by
  intro pins s σ H R I h
  refine Call_ (ld_blt I hg hm boot_range (PyProof.Rows.callWith_type1 (thn (ha pos pins s σ H _ I h) fun us s1 ⟨vs, H1, I1, r1, q1⟩ => ?_) (by rw [hs, hs2]) (by rw [hs2]; rfl)))
  obtain ⟨i, j, e, ⟨q1, q2, q3, q4⟩, q⟩ := q1
  subst e
  cases r1 with
  | cons r rr =>
    cases rr with
    | cons r' rr =>
      cases rr
      obtain ⟨t, rfl⟩ := r
      obtain ⟨t', rfl⟩ := r'
      exact call_range_2 (range_it I1 q1 q2 q3 q4 q)

/-! ### for -/
/-- W: the invariant by the turn and a measure; N: what the body is to reach -/
def tFor (wi : TI) (g : TG) (tb : TS) : TS := fun D σ H => wi σ H fun J H1 => ∃ W : Nat → Nat → St → Hp → Prop, (∃ m, W 0 m σ H1) ∧ ∀ i m σ H, W i m σ H →
  (J.stop i H ∧ D.nx σ H) ∨ (J.go i H ∧ ∃ N : St → Hp → Prop, (∀ σ' H', N σ' H' → ∃ m', m' < m ∧ W (i + 1) m' σ' H') ∧ ∀ x H', J.yld i H x H' → g x σ H' fun σ2 H2 => tb { D with nx := N, ct := N, bk := D.nx } σ2 H2)
/-- the records at fp as they stand -/
def pinsAt (fp : List Addr) (h : Heap) : List (Addr × Obj) := fp.filterMap fun b => (h.get? b).map fun o => (b, o)
theorem mem_pinsAt {fp : List Addr} {h : Heap} {b : Addr} {o : Obj} (hb : b ∈ fp) (e : h.get? b = some o) : (b, o) ∈ pinsAt fp h := List.mem_filterMap.mpr ⟨b, hb, by rw [e]; rfl⟩
theorem of_pinsAt {fp : List Addr} {h : Heap} {p : Addr × Obj} (hp : p ∈ pinsAt fp h) : p.1 ∈ fp ∧ h.get? p.1 = some p.2 := by
  obtain ⟨b, hb, e⟩ := List.mem_filterMap.mp hp
  cases q : h.get? b with
  | none => rw [q] at e; cases e
  | some o =>
    rw [q] at e
    have e' : (b, o) = p := Option.some.inj e
    subst e'
    exact ⟨hb, q⟩
theorem Inv.pinned {pins : List (Addr × Obj)} {σ : St} {H : Hp} {s : Shared} {fp : List Addr} (I : Inv X pins σ H s) (hf : ∀ b ∈ fp, FpOk X pins H b) (ho : ∀ b ∈ fp, ∃ o, s.heap.get? b = some o ∧ ∀ v, o.data ≠ .cell v) : Inv X (pins ++ pinsAt fp s.heap) σ H s :=
  I.pins_of fun p hp => (List.mem_append.mp hp).elim (fun z => I.pin p (List.mem_append_right _ z)) fun z => by
    obtain ⟨hb, e⟩ := of_pinsAt z
    obtain ⟨f0, f1, f2, _⟩ := hf p.1 hb
    obtain ⟨o, e', d⟩ := ho p.1 hb
    rw [e] at e'; cases e'
    exact ⟨e, f0, f1, f2, d⟩
theorem Inv.unpinned {pins pl : List (Addr × Obj)} {σ : St} {H : Hp} {s : Shared} (I : Inv X (pins ++ pl) σ H s) : Inv X pins σ H s := I.pins_of fun p hp => I.pin p (List.mem_append_right _ (List.mem_append_left _ hp))
theorem ps_for {iter : Expr} {body : List Stmt} {wi : TI} {g : TG} {tb : TS} {pos : Pos} (hp : PassesOwn (model X.prog X.w) X.A X.env X.xe) (hc : X.calm = true) (hi : PI X tg iter wi) (hg : PG X tg g) (hb : PSs X body tb)
    (hs : ∀ x, foldedSetIterable iter X.env x = pure x := by intro _; rfl) : PS X (.For tg iter body [] pos) (tFor wi g tb) := by
  intro pins s σ H D I h
  refine wpAny_For (thn (hi pins s σ H _ I h) fun v s1 h1 => thn h1 fun itv s2 h2 => ?_) hs
  obtain ⟨it, fp, tn, J, H2, e, I2, T, st2, f2, W, ⟨m0, w0⟩, turn⟩ := h2
  subst e
  -- what stays true of the iterator's objects through the loop
  have stat : ∀ {H' : Hp}, (∀ b ∈ fp, H' b = none) → ∀ b ∈ fp, FpOk X pins H' b := fun hn b hb => ⟨hn b hb, (f2 b hb).2⟩
  refine codeAny_forLoop_any (fun n s' => ∃ i σ' H', Inv X pins σ' H' s' ∧ tn i s'.heap ∧ (∀ b ∈ fp, H' b = none) ∧ W i n σ' H') ?_ m0 ⟨0, σ, H2, I2, st2, fun b hb => (f2 b hb).1, w0⟩
  rintro n s3 ⟨i, σ3, H3, I3, st3, fr3, w3⟩
  rcases turn i n σ3 H3 w3 with ⟨stop, qn⟩ | ⟨go, N, hN, step⟩
  · refine wpAny_passesOwn hp (thn (T.done X rfl rfl rfl hc i pins s3 σ3 H3 X.xe I3 (stat fr3) st3 stop) fun r s4 ⟨hr, I4⟩ => ?_)
    subst hr
    exact wpAny_execs_nil ⟨σ3, H3, I4, qn⟩
  · refine wpAny_passesOwn hp (thn (T.item X rfl rfl rfl hc i pins s3 σ3 H3 X.xe I3 (stat fr3) st3 go) fun r s4 ⟨u, hr, h4⟩ => ?_)
    subst hr
    refine wpAny_passesOwn hp (thn h4 fun _ s5 ⟨x, H5, I5, r5, y5, st5, fr5⟩ => ?_)
    have I5' := I5.pinned (stat fr5) (T.obj _ _ st5)
    refine wpAny_passesOwn hp (thn (hg _ s5 σ3 H5 x u _ I5' r5 (step x H5 y5)) fun _ s6 ⟨σ6, H6, I6, q6⟩ => ?_)
    refine wpAny_passesOwn hp (thn (hb _ s6 σ6 H6 _ I6 q6) fun f s7 q7 => ?_)
    have again : ∀ {σ7 : St} {H7 : Hp}, Inv X (pins ++ pinsAt fp s5.heap) σ7 H7 s7 → N σ7 H7 → ∃ m, m < n ∧ ∃ i σ' H', Inv X pins σ' H' s7 ∧ tn i s7.heap ∧ (∀ b ∈ fp, H' b = none) ∧ W i m σ' H' := fun {σ7 H7} I7 n7 => by
      obtain ⟨m', hm, w7⟩ := hN σ7 H7 n7
      refine ⟨m', hm, i + 1, σ7, H7, I7.unpinned, T.keep _ _ _ st5 fun b hb o e => (I7.pin (b, o) (List.mem_append_right _ (List.mem_append_right _ (mem_pinsAt hb e)))).1, fun b hb => ?_, w7⟩
      obtain ⟨o, e, d⟩ := T.obj _ _ st5 b hb
      exact (I7.pin (b, o) (List.mem_append_right _ (List.mem_append_right _ (mem_pinsAt hb e)))).2.1
    cases f with
    | next => obtain ⟨σ7, H7, I7, n7⟩ := q7; exact again I7 n7
    | cont => obtain ⟨σ7, H7, I7, n7⟩ := q7; exact again I7 n7
    | brk => obtain ⟨σ7, H7, I7, q7⟩ := q7; exact ⟨σ7, H7, I7.unpinned, q7⟩
    | ret v => obtain ⟨x7, σ7, H7, I7, r7, q7⟩ := q7; exact ⟨x7, σ7, H7, I7.unpinned, r7, q7⟩
end

/-! ### the forms one uses -/
/-- over a list that the body leaves as it is -/
theorem for_list {K : PySem.W.Frag} {a : Addr} {xs : List V} {g : TG} {tb : TS} {D : Ends} {σ : St} {H : Hp} (Pv : Nat → St → Hp → Prop) (h0 : Pv 0 σ H) (hl : ∀ i σ H, i ≤ xs.length → Pv i σ H → SqL K H a xs)
    (hs : ∀ i x σ H, xs[i]? = some x → Pv i σ H → g x σ H fun σ2 H2 => tb { D with nx := Pv (i + 1), ct := Pv (i + 1), bk := D.nx } σ2 H2) (hd : ∀ σ H, Pv xs.length σ H → D.nx σ H) :
    ∃ W : Nat → Nat → St → Hp → Prop, (∃ m, W 0 m σ H) ∧ ∀ i m σ H, W i m σ H →
      ((Itl K a).stop i H ∧ D.nx σ H) ∨ ((Itl K a).go i H ∧ ∃ N : St → Hp → Prop, (∀ σ' H', N σ' H' → ∃ m', m' < m ∧ W (i + 1) m' σ' H') ∧ ∀ x H', (Itl K a).yld i H x H' → g x σ H' fun σ2 H2 => tb { D with nx := N, ct := N, bk := D.nx } σ2 H2) := by
  refine ⟨fun i m σ H => m = xs.length - i ∧ i ≤ xs.length ∧ Pv i σ H, ⟨xs.length, by simp, Nat.zero_le _, h0⟩, ?_⟩
  rintro i m σ H ⟨rfl, hi, p⟩
  have q := hl i σ H hi p
  by_cases hlt : i < xs.length
  · refine .inr ⟨⟨xs, xs[i], q, by simp [hlt]⟩, Pv (i + 1), fun σ' H' p' => ⟨xs.length - (i + 1), by omega, rfl, hlt, p'⟩, fun x H' y => ?_⟩
    obtain ⟨e, y⟩ := y
    subst e
    exact hs i x σ _ (y xs q) p
  · have e : i = xs.length := by omega
    subst e
    exact .inl ⟨⟨xs, q, Nat.le_refl _⟩, hd σ H p⟩
theorem for_tup {K : PySem.W.Frag} {a : Addr} {xs : List V} {g : TG} {tb : TS} {D : Ends} {σ : St} {H : Hp} (Pv : Nat → St → Hp → Prop) (h0 : Pv 0 σ H) (hl : ∀ i σ H, i ≤ xs.length → Pv i σ H → SqT K H a xs)
    (hs : ∀ i x σ H, xs[i]? = some x → Pv i σ H → g x σ H fun σ2 H2 => tb { D with nx := Pv (i + 1), ct := Pv (i + 1), bk := D.nx } σ2 H2) (hd : ∀ σ H, Pv xs.length σ H → D.nx σ H) :
    ∃ W : Nat → Nat → St → Hp → Prop, (∃ m, W 0 m σ H) ∧ ∀ i m σ H, W i m σ H →
      ((Itt K a).stop i H ∧ D.nx σ H) ∨ ((Itt K a).go i H ∧ ∃ N : St → Hp → Prop, (∀ σ' H', N σ' H' → ∃ m', m' < m ∧ W (i + 1) m' σ' H') ∧ ∀ x H', (Itt K a).yld i H x H' → g x σ H' fun σ2 H2 => tb { D with nx := N, ct := N, bk := D.nx } σ2 H2) := by
  refine ⟨fun i m σ H => m = xs.length - i ∧ i ≤ xs.length ∧ Pv i σ H, ⟨xs.length, by simp, Nat.zero_le _, h0⟩, ?_⟩
  rintro i m σ H ⟨rfl, hi, p⟩
  have q := hl i σ H hi p
  by_cases hlt : i < xs.length
  · refine .inr ⟨⟨xs, xs[i], q, by simp [hlt]⟩, Pv (i + 1), fun σ' H' p' => ⟨xs.length - (i + 1), by omega, rfl, hlt, p'⟩, fun x H' y => ?_⟩
    obtain ⟨e, y⟩ := y
    subst e
    exact hs i x σ _ (y xs q) p
  · have e : i = xs.length := by omega
    subst e
    exact .inl ⟨⟨xs, q, Nat.le_refl _⟩, hd σ H p⟩
theorem for_range {lo : Int} {n : Nat} {g : TG} {tb : TS} {D : Ends} {σ : St} {H : Hp} (Pv : Nat → St → Hp → Prop) (h0 : Pv 0 σ H)
    (hs : ∀ i σ H, i < n → Pv i σ H → g (.int (lo + i)) σ H fun σ2 H2 => tb { D with nx := Pv (i + 1), ct := Pv (i + 1), bk := D.nx } σ2 H2) (hd : ∀ σ H, Pv n σ H → D.nx σ H) :
    ∃ W : Nat → Nat → St → Hp → Prop, (∃ m, W 0 m σ H) ∧ ∀ i m σ H, W i m σ H →
      ((Itr lo n).stop i H ∧ D.nx σ H) ∨ ((Itr lo n).go i H ∧ ∃ N : St → Hp → Prop, (∀ σ' H', N σ' H' → ∃ m', m' < m ∧ W (i + 1) m' σ' H') ∧ ∀ x H', (Itr lo n).yld i H x H' → g x σ H' fun σ2 H2 => tb { D with nx := N, ct := N, bk := D.nx } σ2 H2) := by
  refine ⟨fun i m σ H => m = n - i ∧ i ≤ n ∧ Pv i σ H, ⟨n, by simp, Nat.zero_le _, h0⟩, ?_⟩
  rintro i m σ H ⟨rfl, hi, p⟩
  by_cases hlt : i < n
  · refine .inr ⟨hlt, Pv (i + 1), fun σ' H' p' => ⟨n - (i + 1), by omega, rfl, hlt, p'⟩, fun x H' y => ?_⟩
    obtain ⟨e, y⟩ := y
    subst e y
    exact hs i σ _ hlt p
  · have e : i = n := by omega
    subst e
    exact .inl ⟨Nat.le_refl _, hd σ H p⟩
/-- while, by a word and a measure of the state -/
theorem while_by {c : TT} {tb : TS} {D : Ends} {σ : St} {H : Hp} (Pv : St → Hp → Prop) (μ : St → Hp → Nat) (h0 : Pv σ H)
    (hs : ∀ σ H, Pv σ H → c σ H fun b H1 => if b = true then tb { D with nx := fun σ' H' => Pv σ' H' ∧ μ σ' H' < μ σ H, ct := fun σ' H' => Pv σ' H' ∧ μ σ' H' < μ σ H, bk := D.nx } σ H1 else D.nx σ H1)
    (mono : ∀ σ H Q Q', (∀ b H1, Q b H1 → Q' b H1) → c σ H Q → c σ H Q') : tWhile c tb D σ H := by
  refine ⟨fun m σ H => m = μ σ H ∧ Pv σ H, ⟨_, rfl, h0⟩, ?_⟩
  rintro m σ H ⟨rfl, p⟩
  refine mono σ H _ _ (fun b H1 q => ?_) (hs σ H p)
  cases b with
  | true => exact ⟨_, fun σ' H' ⟨p', l⟩ => ⟨_, l, rfl, p'⟩, q⟩
  | false => exact q
end L2

namespace L2
open PySem PySem.Spec PyProof.Rows

abbrev R2 := V → V → Hp → VK → Prop
/-- a two-place operation on values: f is binaryOp op, inplaceOp op or compareOp op -/
def OpR (X : Cx) (f : Value → Value → Sem Value) (r : R2) : Prop :=
  ∀ (pins : List (Addr × Obj)) (s : Shared) (σ : St) (H : Hp) (x y : V) (v u : Value) (Q : VK), Inv X pins σ H s → RelV x v → RelV y u → r x y H Q →
    wpAny (model X.prog X.w) X.A (f v u) (EP X pins σ Q) X.xe s
/-- a one-place operation -/
def UnR (X : Cx) (f : Value → Sem Value) (r : V → Hp → VK → Prop) : Prop :=
  ∀ (pins : List (Addr × Obj)) (s : Shared) (σ : St) (H : Hp) (x : V) (v : Value) (Q : VK), Inv X pins σ H s → RelV x v → r x H Q →
    wpAny (model X.prog X.w) X.A (f v) (EP X pins σ Q) X.xe s
/-- a call of a value that is known (a builtin, a type) with values -/
def CallR (X : Cx) (f : Value) (r : List V → Hp → VK → Prop) : Prop :=
  ∀ (pins : List (Addr × Obj)) (s : Shared) (σ : St) (H : Hp) (xs : List V) (us : List Value) (Q : VK), Inv X pins σ H s → Vals xs us → r xs H Q →
    wpAny (model X.prog X.w) X.A (call f us) (EP X pins σ Q) X.xe s
/-- a value's truth -/
def TruR (X : Cx) (r : V → Hp → (Bool → Hp → Prop) → Prop) : Prop :=
  ∀ (pins : List (Addr × Obj)) (s : Shared) (σ : St) (H : Hp) (x : V) (v : Value) (Q : Bool → Hp → Prop), Inv X pins σ H s → RelV x v → r x H Q →
    wpAny (model X.prog X.w) X.A (truthy v) (TP X pins σ Q) X.xe s

def tOp (r : R2) (ta tb : TE) : TE := fun σ H Q => ta σ H fun x H1 => tb σ H1 fun y H2 => r x y H2 Q
def tUn (r : V → Hp → VK → Prop) (ta : TE) : TE := fun σ H Q => ta σ H fun x H1 => r x H1 Q
/-- ints in, under C, and a value out -/
def rI (C : Int → Int → Prop) (g : Int → Int → V) : R2 := fun x y H Q => ∃ i j, x = .int i ∧ y = .int j ∧ C i j ∧ Q (g i j) H
def rI0 (g : Int → Int → V) : R2 := fun x y H Q => ∃ i j, x = .int i ∧ y = .int j ∧ Q (g i j) H
def rU (g : Int → V) : V → Hp → VK → Prop := fun x H Q => ∃ i, x = .int i ∧ Q (g i) H

section
variable {X : Cx} {a b c : Expr} {ta tb tc : TE} {pos : Pos}

theorem binT (ha : PE X a ta) (hb : PE X b tb) {pins : List (Addr × Obj)} {s : Shared} {σ : St} {H : Hp} {R : V → V → Hp → Prop} (I : Inv X pins σ H s)
    (h : ta σ H fun x H1 => tb σ H1 fun y H2 => R x y H2) {Q : Value → Shared → Prop} {f : Value → Value → Sem Value}
    (hf : ∀ v u s2 x y H2, Inv X pins σ H2 s2 → RelV x v → RelV y u → R x y H2 → wpAny (model X.prog X.w) X.A (f v u) Q X.xe s2) :
    wpAny (model X.prog X.w) X.A (eval a X.env) (fun v s₁ => wpAny (model X.prog X.w) X.A (eval b X.env) (fun u s₂ => wpAny (model X.prog X.w) X.A (f v u) Q X.xe s₂) X.xe s₁) X.xe s := by
  refine thn (ha pins s σ H _ I h) fun v s1 ⟨x, H1, I1, r1, q1⟩ => ?_
  refine thn (hb pins s1 σ H1 _ I1 q1) fun u s2 ⟨y, H2, I2, r2, q2⟩ => ?_
  exact hf v u s2 x y H2 I2 r1 r2 q2

theorem pe_op {op : Operator} {r : R2} (ho : OpR X (binaryOp op) r) (ha : PE X a ta) (hb : PE X b tb) : PE X (.BinOp a op b pos) (tOp r ta tb) := by
  intro pins s σ H Q I h
  exact wpAny_BinOp (binT ha hb I h fun v u s2 x y H2 I2 rx ry q => ho pins s2 σ H2 x y v u Q I2 rx ry q)
theorem pe_un {op : UnaryOp} {r : V → Hp → VK → Prop} (ho : UnR X (unaryOp op) r) (ha : PE X a ta) : PE X (.UnaryOp op a pos) (tUn r ta) := by
  intro pins s σ H Q I h
  exact UnaryOp_ (thn (ha pins s σ H _ I h) fun v s1 ⟨x, H1, I1, r1, q1⟩ => ho pins s1 σ H1 x v Q I1 r1 q1)
/-- a op= e at a name: the name's slot i -/
theorem augR {op : Operator} {r : R2} (ho : OpR X (inplaceOp op) r) {pins : List (Addr × Obj)} {s : Shared} {σ : St} {H : Hp} {x y : V} {v u : Value} {Q : VK} (I : Inv X pins σ H s)
    (rx : RelV x v) (ry : RelV y u) (q : r x y H Q) : wpAny (model X.prog X.w) X.A (inplaceOp op v u) (EP X pins σ Q) X.xe s := ho pins s σ H x y v u Q I rx ry q

/-! ### ints -/
theorem opI {f : Value → Value → Sem Value} {C : Int → Int → Prop} {g : Int → Int → Int}
    (rule : ∀ (i j : Int) (t u : Tok) (s : Shared) (Q : Value → Shared → Prop) (E : Value → Shared → Prop), C i j → Q (.int (g i j) s.toks) { s with toks := s.toks + 1 } → wpAny (model X.prog X.w) X.A (f (.int i t) (.int j u)) Q E s) :
    OpR X f (rI C fun i j => .int (g i j)) := by
  intro pins s σ H x y v u Q I rx ry h
  obtain ⟨i, j, rfl, rfl, hc, q⟩ := h
  obtain ⟨t, rfl⟩ := rx
  obtain ⟨t', rfl⟩ := ry
  exact rule i j t t' s _ _ hc ⟨.int (g i j), H, I.tok _, ⟨_, rfl⟩, q⟩
theorem opI0 {f : Value → Value → Sem Value} {g : Int → Int → Int}
    (rule : ∀ (i j : Int) (t u : Tok) (s : Shared) (Q : Value → Shared → Prop) (E : Value → Shared → Prop), Q (.int (g i j) s.toks) { s with toks := s.toks + 1 } → wpAny (model X.prog X.w) X.A (f (.int i t) (.int j u)) Q E s) :
    OpR X f (rI0 fun i j => .int (g i j)) := by
  intro pins s σ H x y v u Q I rx ry h
  obtain ⟨i, j, rfl, rfl, q⟩ := h
  obtain ⟨t, rfl⟩ := rx
  obtain ⟨t', rfl⟩ := ry
  exact rule i j t t' s _ _ ⟨.int (g i j), H, I.tok _, ⟨_, rfl⟩, q⟩
theorem opB0 {f : Value → Value → Sem Value} {g : Int → Int → Bool}
    (rule : ∀ (i j : Int) (t u : Tok) (s : Shared) (Q : Value → Shared → Prop) (E : Value → Shared → Prop), Q (.bool (g i j)) s → wpAny (model X.prog X.w) X.A (f (.int i t) (.int j u)) Q E s) :
    OpR X f (rI0 fun i j => .bl (g i j)) := by
  intro pins s σ H x y v u Q I rx ry h
  obtain ⟨i, j, rfl, rfl, q⟩ := h
  obtain ⟨t, rfl⟩ := rx
  obtain ⟨t', rfl⟩ := ry
  exact rule i j t t' s _ _ ⟨.bl (g i j), H, I, rfl, q⟩

def CDiv (i j : Int) : Prop := 0 < j ∧ j < 1073741824
def CDivN (i j : Int) : Prop := j ≠ 0 ∧ j.natAbs < 1073741824
def CPow (i j : Int) : Prop := 0 ≤ j ∧ j ≤ 1000000 ∧ i.natAbs < 2 ^ 64
def CMul (i j : Int) : Prop := (-(2 ^ 64) < i ∧ i < 2 ^ 64) ∨ (-(2 ^ 64) < j ∧ j < 2 ^ 64)
theorem CMul.ok {i j : Int} (h : CMul i j) : IntMulOk i j := by
  rcases h with ⟨h1, h2⟩ | ⟨h1, h2⟩
  · exact .of_left (intBits_le_64 h1 h2)
  · exact .of_right (intBits_le_64 h1 h2)
theorem two_pow_nn (k : Nat) : (0 : Int) ≤ 2 ^ k := by
  rw [two_pow_cast]
  exact Int.natCast_nonneg _

theorem op_add : OpR X (binaryOp .Add) (rI0 fun i j => .int (i + j)) := opI0 fun _ _ _ _ _ _ _ q => add_int q
theorem op_sub : OpR X (binaryOp .Sub) (rI0 fun i j => .int (i - j)) := opI0 fun _ _ _ _ _ _ _ q => sub_int q
theorem op_mul : OpR X (binaryOp .Mult) (rI CMul fun i j => .int (i * j)) := opI fun _ _ _ _ _ _ _ hc q => mul_int q hc.ok
/-- // by a positive divisor -/
theorem op_fdiv : OpR X (binaryOp .FloorDiv) (rI CDiv fun i j => .int (i / j)) := opI fun i j _ _ _ _ _ hc q => by
  have h1 : (0 : Int) < j := hc.1
  have h2 : j < 1073741824 := hc.2
  exact floordiv_int (by omega) (by rw [Int.fdiv_eq_ediv_of_nonneg i (by omega)]; exact q) (.inl (PyProof.noPylong_small (by omega)))
theorem op_fdivN : OpR X (binaryOp .FloorDiv) (rI CDivN fun i j => .int (i.fdiv j)) := opI fun _ _ _ _ _ _ _ hc q => floordiv_int hc.1 q (.inl (PyProof.noPylong_small hc.2))
/-- % by a positive divisor of any size -/
theorem op_mod : OpR X (binaryOp .Mod) (rI (fun _ j => 0 < j) fun i j => .int (i % j)) := opI fun i j _ _ _ _ _ hc q => by
  have h1 : (0 : Int) < j := hc
  exact mod_int' (by omega) (by rw [Int.fmod_eq_emod_of_nonneg i (by omega)]; exact q)
theorem op_modN : OpR X (binaryOp .Mod) (rI (fun _ j => j ≠ 0) fun i j => .int (i.fmod j)) := opI fun _ _ _ _ _ _ _ hc q => mod_int' hc q
theorem op_pow : OpR X (binaryOp .Pow) (rI CPow fun i j => .int (i ^ j.toNat)) := opI fun _ _ _ _ _ _ _ hc q => pow_int_small hc.1 hc.2.1 hc.2.2 q
theorem op_shl : OpR X (binaryOp .LShift) (rI CPow fun i j => .int (i * 2 ^ j.toNat)) := opI fun _ _ _ _ _ _ _ hc q => lshift_int_small hc.1 hc.2.1 hc.2.2 q
theorem op_shr : OpR X (binaryOp .RShift) (rI (fun _ j => 0 ≤ j) fun i j => .int (i / 2 ^ j.toNat)) := opI fun i j _ _ _ _ _ hc q =>
  rshift_int hc (by rw [Int.fdiv_eq_ediv_of_nonneg i (two_pow_nn _)]; exact q)
theorem op_and : OpR X (binaryOp .BitAnd) (rI0 fun i j => .int (Builtin.bitAnd i j)) := opI0 fun _ _ _ _ _ _ _ q => and_int q
theorem op_or : OpR X (binaryOp .BitOr) (rI0 fun i j => .int (Builtin.bitOr i j)) := opI0 fun _ _ _ _ _ _ _ q => or_int q
theorem op_xor : OpR X (binaryOp .BitXor) (rI0 fun i j => .int (Builtin.bitXor i j)) := opI0 fun _ _ _ _ _ _ _ q => xor_int q

theorem iop_add : OpR X (inplaceOp .Add) (rI0 fun i j => .int (i + j)) := opI0 fun _ _ _ _ _ _ _ q => iadd_int q
theorem iop_sub : OpR X (inplaceOp .Sub) (rI0 fun i j => .int (i - j)) := opI0 fun _ _ _ _ _ _ _ q => isub_int q
theorem iop_mul : OpR X (inplaceOp .Mult) (rI CMul fun i j => .int (i * j)) := opI fun _ _ _ _ _ _ _ hc q => imul_int q hc.ok
theorem iop_fdiv : OpR X (inplaceOp .FloorDiv) (rI CDiv fun i j => .int (i / j)) := opI fun i j _ _ _ _ _ hc q => by
  have h1 : (0 : Int) < j := hc.1
  have h2 : j < 1073741824 := hc.2
  exact ifloordiv_int (by omega) (by rw [Int.fdiv_eq_ediv_of_nonneg i (by omega)]; exact q) (.inl (PyProof.noPylong_small (by omega)))
theorem iop_mod : OpR X (inplaceOp .Mod) (rI (fun _ j => 0 < j) fun i j => .int (i % j)) := opI fun i j _ _ _ _ _ hc q => by
  have h1 : (0 : Int) < j := hc
  exact imod_int (by omega) (by rw [Int.fmod_eq_emod_of_nonneg i (by omega)]; exact q)
theorem iop_shl : OpR X (inplaceOp .LShift) (rI CPow fun i j => .int (i * 2 ^ j.toNat)) := opI fun _ _ _ _ _ _ _ hc q => ilshift_int_small hc.1 hc.2.1 hc.2.2 q
theorem iop_shr : OpR X (inplaceOp .RShift) (rI (fun _ j => 0 ≤ j) fun i j => .int (i / 2 ^ j.toNat)) := opI fun i j _ _ _ _ _ hc q =>
  irshift_int hc (by rw [Int.fdiv_eq_ediv_of_nonneg i (two_pow_nn _)]; exact q)
theorem iop_and : OpR X (inplaceOp .BitAnd) (rI0 fun i j => .int (Builtin.bitAnd i j)) := opI0 fun _ _ _ _ _ _ _ q => iand_int q
theorem iop_or : OpR X (inplaceOp .BitOr) (rI0 fun i j => .int (Builtin.bitOr i j)) := opI0 fun _ _ _ _ _ _ _ q => ior_int q
theorem iop_xor : OpR X (inplaceOp .BitXor) (rI0 fun i j => .int (Builtin.bitXor i j)) := opI0 fun _ _ _ _ _ _ _ q => ixor_int q

theorem unI {f : Value → Sem Value} {g : Int → Int}
    (rule : ∀ (i : Int) (t : Tok) (s : Shared) (Q : Value → Shared → Prop) (E : Value → Shared → Prop), Q (.int (g i) s.toks) { s with toks := s.toks + 1 } → wpAny (model X.prog X.w) X.A (f (.int i t)) Q E s) :
    UnR X f (rU fun i => .int (g i)) := by
  intro pins s σ H x v Q I rx h
  obtain ⟨i, rfl, q⟩ := h
  obtain ⟨t, rfl⟩ := rx
  exact rule i t s _ _ ⟨.int (g i), H, I.tok _, ⟨_, rfl⟩, q⟩
theorem un_neg : UnR X (unaryOp .USub) (rU fun i => .int (-i)) := unI fun _ _ _ _ _ q => neg_int q
theorem un_inv : UnR X (unaryOp .Invert) (rU fun i => .int (Builtin.bitNot i)) := unI fun _ _ _ _ _ q => invert_int q

/-! ### bools among ints: n += (a < b) -/
theorem op_add_ib : OpR X (binaryOp .Add) (fun x y H Q => ∃ i k, x = .int i ∧ y = .bl k ∧ Q (.int (i + b2i k)) H) := by
  intro pins s σ H x y v u Q I rx ry h
  obtain ⟨i, k, rfl, rfl, q⟩ := h
  obtain ⟨t, rfl⟩ := rx
  cases ry
  exact add_int_bool ⟨.int (i + b2i k), H, I.tok _, ⟨_, rfl⟩, q⟩
end

/-! ### comparisons -/
/-- the scalars that == tells apart as data does -/
def scal : V → V → Bool
  | .non, .non => true | .non, .int _ => true | .int _, .non => true | .non, .bl _ => true | .bl _, .non => true | .non, .str _ => true | .str _, .non => true
  | .int _, .int _ => true | .bl _, .bl _ => true | .str _, .str _ => true | .byt _, .byt _ => true
  | .int _, .str _ => true | .str _, .int _ => true | .bl _, .str _ => true | .str _, .bl _ => true
  | _, _ => false
def rEq : R2 := fun x y H Q => scal x y = true ∧ Q (.bl (decide (x = y))) H
def rNe : R2 := fun x y H Q => scal x y = true ∧ Q (.bl (!decide (x = y))) H

theorem dec_int {i j : Int} : decide (V.int i = V.int j) = (i == j) := by
  rw [Bool.eq_iff_iff]
  simp
theorem dec_bl {i j : Bool} : decide (V.bl i = V.bl j) = (i == j) := by
  rw [Bool.eq_iff_iff]
  simp
theorem dec_str {i j : Str} : decide (V.str i = V.str j) = (i == j) := by
  rw [Bool.eq_iff_iff]
  simp
theorem dec_byt {i j : Array UInt8} : decide (V.byt i = V.byt j) = (i.toList == j.toList) := by
  rw [Bool.eq_iff_iff]
  cases i
  cases j
  simp

section
variable {X : Cx} {a b c : Expr} {ta tb tc : TE} {pos : Pos}
theorem fin_bl {pins : List (Addr × Obj)} {σ : St} {H : Hp} {s : Shared} {Q : VK} {k k' : Bool} (I : Inv X pins σ H s) (q : Q (.bl k) H) (e : k = k') : EP X pins σ Q (.bool k') s := by
  subst e
  exact ⟨.bl k, H, I, rfl, q⟩
theorem op_eq : OpR X (compareOp .Eq) rEq := by
  intro pins s σ H x y v u Q I rx ry h
  obtain ⟨hs, q⟩ := h
  cases x with
  | non =>
    cases rx
    cases y with
    | non => cases ry; exact PySem.EqNone.eq_none_none (fin_bl I q (by simp))
    | bl j => cases ry; exact PySem.EqNone.eq_none_bool (fin_bl I q (by simp))
    | int j => obtain ⟨t', rfl⟩ := ry; exact PySem.EqNone.eq_none_int (fin_bl I q (by simp))
    | str j => obtain ⟨t', rfl⟩ := ry; exact PySem.EqNone.eq_none_str (fin_bl I q (by simp))
    | _ => exact absurd (show false = true from hs) Bool.false_ne_true
  | bl i =>
    cases rx
    cases y with
    | non => cases ry; exact PySem.EqNone.eq_bool_none (fin_bl I q (by simp))
    | bl j => cases ry; exact eq_bool (fin_bl I q dec_bl)
    | str j => obtain ⟨t', rfl⟩ := ry; exact PySem.EqMixed.eq_bool_str (fin_bl I q (by simp))
    | _ => exact absurd (show false = true from hs) Bool.false_ne_true
  | int i =>
    obtain ⟨t, rfl⟩ := rx
    cases y with
    | non => cases ry; exact PySem.EqNone.eq_int_none (fin_bl I q (by simp))
    | int j => obtain ⟨t', rfl⟩ := ry; exact eq_int (fin_bl I q dec_int)
    | str j => obtain ⟨t', rfl⟩ := ry; exact PySem.EqMixed.eq_int_str (fin_bl I q (by simp))
    | _ => exact absurd (show false = true from hs) Bool.false_ne_true
  | str i =>
    obtain ⟨t, rfl⟩ := rx
    cases y with
    | non => cases ry; exact PySem.EqNone.eq_str_none (fin_bl I q (by simp))
    | bl j => cases ry; exact PySem.EqMixed.eq_str_bool (fin_bl I q (by simp))
    | int j => obtain ⟨t', rfl⟩ := ry; exact PySem.EqMixed.eq_str_int (fin_bl I q (by simp))
    | str j => obtain ⟨t', rfl⟩ := ry; exact eq_str (fin_bl I q dec_str)
    | _ => exact absurd (show false = true from hs) Bool.false_ne_true
  | byt i =>
    obtain ⟨t, rfl⟩ := rx
    cases y with
    | byt j => obtain ⟨t', rfl⟩ := ry; exact PySem.W.eq_bytes (fin_bl I q dec_byt)
    | _ => exact absurd (show false = true from hs) Bool.false_ne_true
  | _ => cases y <;> exact absurd (show false = true from hs) Bool.false_ne_true
theorem op_ne : OpR X (compareOp .NotEq) rNe := by
  intro pins s σ H x y v u Q I rx ry h
  obtain ⟨hs, q⟩ := h
  cases x with
  | non =>
    cases rx
    cases y with
    | non => cases ry; exact PySem.EqNone.ne_none_none (fin_bl I q (by simp))
    | bl j => cases ry; exact PySem.EqNone.ne_none_bool (fin_bl I q (by simp))
    | int j => obtain ⟨t', rfl⟩ := ry; exact PySem.EqNone.ne_none_int (fin_bl I q (by simp))
    | str j => obtain ⟨t', rfl⟩ := ry; exact PySem.EqNone.ne_none_str (fin_bl I q (by simp))
    | _ => exact absurd (show false = true from hs) Bool.false_ne_true
  | bl i =>
    cases rx
    cases y with
    | non => cases ry; exact PySem.EqNone.ne_bool_none (fin_bl I q (by simp))
    | bl j => cases ry; exact ne_bool (fin_bl I q (congrArg not dec_bl))
    | str j => obtain ⟨t', rfl⟩ := ry; exact PySem.EqMixed.ne_bool_str (fin_bl I q (by simp))
    | _ => exact absurd (show false = true from hs) Bool.false_ne_true
  | int i =>
    obtain ⟨t, rfl⟩ := rx
    cases y with
    | non => cases ry; exact PySem.EqNone.ne_int_none (fin_bl I q (by simp))
    | int j => obtain ⟨t', rfl⟩ := ry; exact ne_int (fin_bl I q (congrArg not dec_int))
    | str j => obtain ⟨t', rfl⟩ := ry; exact PySem.EqMixed.ne_int_str (fin_bl I q (by simp))
    | _ => exact absurd (show false = true from hs) Bool.false_ne_true
  | str i =>
    obtain ⟨t, rfl⟩ := rx
    cases y with
    | non => cases ry; exact PySem.EqNone.ne_str_none (fin_bl I q (by simp))
    | bl j => cases ry; exact PySem.EqMixed.ne_str_bool (fin_bl I q (by simp))
    | int j => obtain ⟨t', rfl⟩ := ry; exact PySem.EqMixed.ne_str_int (fin_bl I q (by simp))
    | str j => obtain ⟨t', rfl⟩ := ry; exact ne_str (fin_bl I q (congrArg not dec_str))
    | _ => exact absurd (show false = true from hs) Bool.false_ne_true
  | byt i =>
    obtain ⟨t, rfl⟩ := rx
    cases y with
    | byt j => obtain ⟨t', rfl⟩ := ry; exact PySem.W.ne_bytes (fin_bl I q (congrArg not dec_byt))
    | _ => exact absurd (show false = true from hs) Bool.false_ne_true
  | _ => cases y <;> exact absurd (show false = true from hs) Bool.false_ne_true

theorem op_lt : OpR X (compareOp .Lt) (rI0 fun i j => .bl (decide (i < j))) := opB0 fun _ _ _ _ _ _ _ q => lt_int q
theorem op_le : OpR X (compareOp .LtE) (rI0 fun i j => .bl (decide (i ≤ j))) := opB0 fun _ _ _ _ _ _ _ q => le_int q
theorem op_gt : OpR X (compareOp .Gt) (rI0 fun i j => .bl (decide (j < i))) := opB0 fun _ _ _ _ _ _ _ q => gt_int q
theorem op_ge : OpR X (compareOp .GtE) (rI0 fun i j => .bl (decide (j ≤ i))) := opB0 fun _ _ _ _ _ _ _ q => ge_int q
theorem op_lt_str : OpR X (compareOp .Lt) (fun x y H Q => ∃ i j, x = .str i ∧ y = .str j ∧ Q (.bl (decide (i.cps.toList < j.cps.toList))) H) := by
  intro pins s σ H x y v u Q I rx ry h
  obtain ⟨i, j, rfl, rfl, q⟩ := h
  obtain ⟨t, rfl⟩ := rx
  obtain ⟨t', rfl⟩ := ry
  exact lt_str (fin_bl I q rfl)
/-- the one string within the other -/
theorem op_in_str : OpR X (compareOp .In) (fun x y H Q => ∃ i j, x = .str i ∧ y = .str j ∧ Q (.bl (!(Builtin.Str.occurrences j i 0 j.length 1).isEmpty)) H) := by
  intro pins s σ H x y v u Q I rx ry h
  obtain ⟨i, j, rfl, rfl, q⟩ := h
  obtain ⟨t, rfl⟩ := rx
  obtain ⟨t', rfl⟩ := ry
  exact in_str (fin_bl I q rfl)

/-- is None, is not None: the right side a value none -/
theorem op_isN : OpR X (compareOp .Is) (fun x y H Q => y = .non ∧ Q (.bl (decide (x = .non))) H) := by
  intro pins s σ H x y v u Q I rx ry h
  obtain ⟨rfl, q⟩ := h
  cases ry
  refine is_none_gen (fin_bl I q ?_)
  cases x <;> first
    | (cases rx; rfl)
    | (obtain ⟨t, rfl⟩ := rx; rfl)
theorem op_notN : OpR X (compareOp .IsNot) (fun x y H Q => y = .non ∧ Q (.bl (!decide (x = .non))) H) := by
  intro pins s σ H x y v u Q I rx ry h
  obtain ⟨rfl, q⟩ := h
  cases ry
  refine isnot_none_gen (fin_bl I q ?_)
  cases x <;> first
    | (cases rx; rfl)
    | (obtain ⟨t, rfl⟩ := rx; rfl)

theorem op_notin_str : OpR X (compareOp .NotIn) (fun x y H Q => ∃ i j, x = .str i ∧ y = .str j ∧ Q (.bl (!(!(Builtin.Str.occurrences j i 0 j.length 1).isEmpty))) H) := by
  intro pins s σ H x y v u Q I rx ry h
  obtain ⟨i, j, rfl, rfl, q⟩ := h
  obtain ⟨t, rfl⟩ := rx
  obtain ⟨t', rfl⟩ := ry
  exact notIn_str (fin_bl I q rfl)
/-- is, is not of two objects that are tracked lists or instances -/
def isObj : HO → Bool
  | .lst _ => true
  | .ins _ _ _ => true
  | _ => false
theorem obj_there {pins : List (Addr × Obj)} {s : Shared} {σ : St} {H : Hp} {a : Addr} {o : HO} (I : Inv X pins σ H s) (h : H a = some o) (p : isObj o = true) : ∃ ob, s.heap.get? a = some ob ∧ ob.cls ≠ .type "tuple" := by
  cases o with
  | lst xs =>
    obtain ⟨_, its, n, _, e⟩ : xs.length ≤ sizeLine ∧ ∃ (its : List Value) (n : Nat), Vals xs its ∧ s.heap.get? a = some { cls := .type "list", data := .seq its.toArray n } := I.hok a _ h
    exact ⟨_, e, (by show Value.type "list" ≠ .type "tuple"; decide +kernel)⟩
  | ins C dx fs =>
    have x := I.hok a _ h
    obtain ⟨_, _, _, e, _⟩ := x
    exact ⟨_, e, (by show Value.ref C ≠ .type "tuple"; exact fun z => by cases z)⟩
  | _ => exact absurd (show false = true from p) Bool.false_ne_true
theorem op_is_ref : OpR X (compareOp .Is) (fun x y H Q => ∃ a b oa ob, x = .ref a ∧ y = .ref b ∧ H a = some oa ∧ isObj oa = true ∧ H b = some ob ∧ isObj ob = true ∧ Q (.bl (decide (a = b))) H) := by
  intro pins s σ H x y v u Q I rx ry h
  obtain ⟨a, b, oa, ob, rfl, rfl, ha, pa, hb, pb, q⟩ := h
  cases rx
  cases ry
  obtain ⟨o1, e1, n1⟩ := obj_there I ha pa
  obtain ⟨o2, e2, _⟩ := obj_there I hb pb
  by_cases z : a = b
  · subst z
    exact wpAny_is_ref_self (fin_bl I q (by simp))
  · exact wpAny_is_ref_other z e1 e2 n1 (fin_bl I q (by simp [z]))
theorem op_isnot_ref : OpR X (compareOp .IsNot) (fun x y H Q => ∃ a b oa ob, x = .ref a ∧ y = .ref b ∧ H a = some oa ∧ isObj oa = true ∧ H b = some ob ∧ isObj ob = true ∧ Q (.bl (!decide (a = b))) H) := by
  intro pins s σ H x y v u Q I rx ry h
  obtain ⟨a, b, oa, ob, rfl, rfl, ha, pa, hb, pb, q⟩ := h
  cases rx
  cases ry
  obtain ⟨o1, e1, n1⟩ := obj_there I ha pa
  obtain ⟨o2, e2, _⟩ := obj_there I hb pb
  by_cases z : a = b
  · subst z
    exact wpAny_isNot_ref_self (fin_bl I q (by simp))
  · exact wpAny_isNot_ref_other z e1 e2 n1 (fin_bl I q (by simp [z]))

/-- two rules for one operation: by cases -/
theorem OpR.or {f : Value → Value → Sem Value} {r r' : R2} (h : OpR X f r) (h' : OpR X f r') : OpR X f (fun x y H Q => r x y H Q ∨ r' x y H Q) := by
  intro pins s σ H x y v u Q I rx ry q
  rcases q with q | q
  · exact h pins s σ H x y v u Q I rx ry q
  · exact h' pins s σ H x y v u Q I rx ry q

theorem nomark (b : Expr) {op : CmpOp} (h : op ≠ .In := by decide) (h2 : op ≠ .NotIn := by decide) : behindInMarks op b = false := by
  have e1 : (op == CmpOp.In) = false := by cases op <;> first | rfl | exact absurd rfl h
  have e2 : (op == CmpOp.NotIn) = false := by cases op <;> first | rfl | exact absurd rfl h2
  cases b <;> simp [behindInMarks, e1, e2]
/-- a comparison as a value; hm: nomark b, or (for in, not in) by with_unfolding_all rfl -/
theorem pe_cmpR {op : CmpOp} {r : R2} (ho : OpR X (compareOp op) r) (ha : PE X a ta) (hb : PE X b tb) (hm : behindInMarks op b = false) : PE X (.Compare a [op] [b] pos) (tOp r ta tb) := by
  intro pins s σ H Q I h
  exact wpAny_Compare1 (binT ha hb I h fun v u s2 x y H2 I2 rx ry q => ho pins s2 σ H2 x y v u Q I2 rx ry q) hm
/-- a reading of a value as a test -/
def tTest (t : TE) : TT := fun σ H Q => t σ H fun x H' => ∃ k, x = .bl k ∧ Q k H'
theorem pt_cmpR {op : CmpOp} {r : R2} (ho : OpR X (compareOp op) r) (ha : PE X a ta) (hb : PE X b tb) (hm : behindInMarks op b = false) : PT X (.Compare a [op] [b] pos) (tTest (tOp r ta tb)) := by
  intro pins s σ H Q I h
  refine wpAny_isTrue_Compare1 (thn (ha pins s σ H _ I h) fun v s1 ⟨x, H1, I1, r1, q1⟩ => thn (hb pins s1 σ H1 _ I1 q1) fun u s2 ⟨y, H2, I2, r2, q2⟩ =>
    thn (ho pins s2 σ H2 x y v u _ I2 r1 r2 q2) fun c s3 ⟨z, H3, I3, r3, k, e, q3⟩ => ?_) hm
  subst e
  cases r3
  exact wpAny_truthy_bool ⟨H3, I3, q3⟩
/-- a op1 b op2 c -/
def tChain (r r' : R2) (ta tb tc : TE) : TE := fun σ H Q => ta σ H fun x H1 => tb σ H1 fun y H2 => r x y H2 fun z H3 => ∃ k, z = .bl k ∧
  (if k = true then tc σ H3 fun w' H4 => r' y w' H4 Q else Q (.bl false) H3)
theorem pe_chain {op op' : CmpOp} {r r' : R2} (ho : OpR X (compareOp op) r) (ho' : OpR X (compareOp op') r') (ha : PE X a ta) (hb : PE X b tb) (hc : PE X c tc)
    (hm : lastMarks [op, op'] [b, c] = false := by with_unfolding_all rfl) : PE X (.Compare a [op, op'] [b, c] pos) (tChain r r' ta tb tc) := by
  intro pins s σ H Q I h
  refine Compare_chain (thn (ha pins s σ H _ I h) fun v s1 ⟨x, H1, I1, r1, q1⟩ => chain_link (thn (hb pins s1 σ H1 _ I1 q1) fun u s2 ⟨y, H2, I2, r2, q2⟩ =>
    thn (ho pins s2 σ H2 x y v u _ I2 r1 r2 q2) fun d s3 ⟨z, H3, I3, r3, k, e, q3⟩ => ?_)) hm
  subst e
  cases r3
  refine wpAny_truthy_bool ?_
  cases k with
  | false => exact ite_ff ⟨.bl false, H3, I3, rfl, q3⟩
  | true => exact ite_tt (chain_last (thn (hc pins s3 σ H3 _ I3 q3) fun w' s4 ⟨z', H4, I4, r4, q4⟩ => ho' pins s4 σ H4 y z' u w' Q I4 r2 r4 q4))
theorem pt_chain {op op' : CmpOp} {r r' : R2} (ho : OpR X (compareOp op) r) (ho' : OpR X (compareOp op') r') (ha : PE X a ta) (hb : PE X b tb) (hc : PE X c tc)
    (hm : lastMarks [op, op'] [b, c] = false := by with_unfolding_all rfl) : PT X (.Compare a [op, op'] [b, c] pos) (tTest (tChain r r' ta tb tc)) := by
  intro pins s σ H Q I h
  refine isTrue_chain (thn (ha pins s σ H _ I h) fun v s1 ⟨x, H1, I1, r1, q1⟩ => test_link (thn (hb pins s1 σ H1 _ I1 q1) fun u s2 ⟨y, H2, I2, r2, q2⟩ =>
    thn (ho pins s2 σ H2 x y v u _ I2 r1 r2 q2) fun d s3 ⟨z, H3, I3, r3, k, e, q3⟩ => ?_)) hm
  subst e
  cases r3
  refine wpAny_truthy_bool ?_
  cases k with
  | false =>
    obtain ⟨k', e', q'⟩ := q3
    cases e'
    exact ite_ff ⟨H3, I3, q'⟩
  | true =>
    refine ite_tt (test_last (thn (hc pins s3 σ H3 _ I3 q3) fun w' s4 ⟨z', H4, I4, r4, q4⟩ => thn (ho' pins s4 σ H4 y z' u w' _ I4 r2 r4 q4) fun d' s5 ⟨z2, H5, I5, r5, k2, e2, q5⟩ => ?_))
    subst e2
    cases r5
    exact wpAny_truthy_bool ⟨H5, I5, q5⟩

/-! ### truth -/
/-- a value's truth by the abstract heap -/
def TruV (K : PySem.W.Frag) (x : V) (H : Hp) (k : Bool) : Prop :=
  match x with
  | .non => k = false
  | .bl b => k = b
  | .int i => k = (i != 0)
  | .str y => y.length ≤ sizeLine ∧ k = ((y.length : Int) != 0)
  | .byt y => y.size ≤ sizeLine ∧ k = ((y.size : Int) != 0)
  | .ref p => (∃ xs, SqL K H p xs ∧ k = !xs.isEmpty) ∨ (∃ xs, SqT K H p xs ∧ k = !xs.isEmpty) ∨ ∃ kvs, H p = some (.dK kvs) ∧ k = !kvs.isEmpty
  | _ => False
theorem isEmpty_kv {κ : Type} {kvs : List (κ × V)} {vs : List (κ × Value)} (r : KV kvs vs) : (!vs.isEmpty) = !kvs.isEmpty := by
  cases r <;> rfl
theorem isEmpty_of {xs : List V} {its : List Value} (r : Vals xs its) : (!its.toArray.isEmpty) = !xs.isEmpty := by
  cases r <;> simp
theorem line63 : (sizeLine : Nat) < 2 ^ 63 := by rw [sizeLine_eq]; decide
theorem tru_ok : TruR X (fun x H Q => ∃ k, TruV X.K x H k ∧ Q k H) := by
  intro pins s σ H x v Q I rx h
  obtain ⟨k, e, q⟩ := h
  have hl := line63
  have hs : sizeLine = 16777216 := sizeLine_eq
  cases x with
  | non =>
    cases rx
    have e' : k = false := e
    subst e'
    exact truthy_none ⟨H, I, q⟩
  | bl b =>
    cases rx
    have e' : k = b := e
    subst e'
    exact wpAny_truthy_bool ⟨H, I, q⟩
  | int i =>
    obtain ⟨t, rfl⟩ := rx
    have e' : k = (i != 0) := e
    subst e'
    exact PySem.P.truthy_int ⟨H, I, q⟩
  | str y =>
    obtain ⟨t, rfl⟩ := rx
    obtain ⟨hy, e'⟩ : y.length ≤ sizeLine ∧ k = ((y.length : Int) != 0) := e
    subst e'
    exact PySem.P.truthy_str (by omega) ⟨H, I.tok _, q⟩
  | byt y =>
    obtain ⟨t, rfl⟩ := rx
    obtain ⟨hy, e'⟩ : y.size ≤ sizeLine ∧ k = ((y.size : Int) != 0) := e
    subst e'
    exact PySem.W.truthy_bytes (by omega) ⟨H, I.tok _, q⟩
  | ref p =>
    cases rx
    have e' : (∃ xs, SqL X.K H p xs ∧ k = !xs.isEmpty) ∨ (∃ xs, SqT X.K H p xs ∧ k = !xs.isEmpty) ∨ ∃ kvs, H p = some (.dK kvs) ∧ k = !kvs.isEmpty := e
    rcases e' with ⟨xs, hx, e'⟩ | ⟨xs, hx, e'⟩ | ⟨kvs, hx, e'⟩
    · subst e'
      obtain ⟨its, r, pl, hz⟩ := I.list hx
      have hlen := r.length
      exact wpAny_truthy_list pl.isList (by simp only [List.size_toArray]; omega) ⟨H, I.tok _, by rw [isEmpty_of r]; exact q⟩
    · subst e'
      obtain ⟨its, r, pl, hz⟩ := I.tuple hx
      have hlen := r.length
      exact truthy_tuple pl (by simp only [List.size_toArray]; omega) ⟨H, I.tok _, by rw [isEmpty_of r]; exact q⟩
    · subst e'
      obtain ⟨hz, hS, vs, r, m⟩ : kvs.length ≤ sizeLine ∧ (p == sysModules) = false ∧ ∃ vs, KV kvs vs ∧ s.heap.DictOf (mixKind X.prog X.w) p vs := I.hok p _ hx
      have hlen : kvs.length = vs.length := Paired.length r
      exact wpAny_truthy_dict hS m (by omega) ⟨H, I.tok _, by rw [isEmpty_kv r]; exact q⟩
  | _ => exact (show False from e).elim
/-- any expression whose test is its value's truth (a name, a call, a subscript, a field ..: he by fun _ => rfl) -/
theorem pt_truth (ha : PE X a ta) (he : ∀ whole, isTrue a X.env whole = (do let v ← whole; standAt a.pos; holding [v] (truthy v))) :
    PT X a (fun σ H Q => ta σ H fun x H' => ∃ k, TruV X.K x H' k ∧ Q k H') := by
  intro pins s σ H Q I h
  exact isTrue_plain (thn (ha pins s σ H _ I h) fun v s1 ⟨x, H1, I1, r1, q1⟩ => tru_ok pins s1 σ H1 x v Q I1 r1 q1) (he _)

/-! ### strs and bytes -/
theorem pe_byt {x : List UInt8} {k : Nat} : PE X (.Constant (.bytes x) k pos) (fun _ H Q => Q (.byt x.toArray) H) := fun _ _ _ H _ I h => PySem.W.Constant_bytes ⟨.byt x.toArray, H, I.tok _, ⟨_, rfl⟩, h⟩
theorem op_add_str : OpR X (binaryOp .Add) (fun x y H Q => ∃ i j, x = .str i ∧ y = .str j ∧ i.length + j.length ≤ sizeLine ∧ Q (.str (i ++ j)) H) := by
  intro pins s σ H x y v u Q I rx ry h
  obtain ⟨i, j, rfl, rfl, hz, q⟩ := h
  obtain ⟨t, rfl⟩ := rx
  obtain ⟨t', rfl⟩ := ry
  exact add_str (fun t' tk => ⟨.str (i ++ j), H, I.tok _, ⟨_, rfl⟩, q⟩) hz
theorem iop_add_str : OpR X (inplaceOp .Add) (fun x y H Q => ∃ i j, x = .str i ∧ y = .str j ∧ i.length + j.length ≤ sizeLine ∧ Q (.str (i ++ j)) H) := by
  intro pins s σ H x y v u Q I rx ry h
  obtain ⟨i, j, rfl, rfl, hz, q⟩ := h
  obtain ⟨t, rfl⟩ := rx
  obtain ⟨t', rfl⟩ := ry
  exact iadd_str (fun t' tk => ⟨.str (i ++ j), H, I.tok _, ⟨_, rfl⟩, q⟩) hz
theorem op_add_byt : OpR X (binaryOp .Add) (fun x y H Q => ∃ i j, x = .byt i ∧ y = .byt j ∧ i.size + j.size ≤ 16777216 ∧ Q (.byt (i ++ j)) H) := by
  intro pins s σ H x y v u Q I rx ry h
  obtain ⟨i, j, rfl, rfl, hz, q⟩ := h
  obtain ⟨t, rfl⟩ := rx
  obtain ⟨t', rfl⟩ := ry
  exact PySem.W.KBy.add_bytes hz (fun t' tk => ⟨.byt (i ++ j), H, I.tok _, ⟨_, rfl⟩, q⟩)

def PlainIxT (b : Expr) : Prop := ∀ o i, subscripted b false o i = operate [o, i] (getItem o i)
/-- s[i], 0 ≤ i < len -/
theorem pe_item_str (ha : PE X a ta) (hb : PE X b tb) (hs : PlainIxT b) :
    PE X (.Subscript a b pos) (tOp (fun x y H Q => ∃ z i c, x = .str z ∧ y = .int i ∧ 0 ≤ i ∧ i < 2 ^ 63 ∧ i < z.length ∧ z.cps[i.toNat]? = some c ∧ Q (.str ⟨#[c]⟩) H) ta tb) := by
  intro pins s σ H Q I h
  refine Subscript_ (binT ha hb I h fun v u s2 x y H2 I2 rx ry q => ?_)
  obtain ⟨z, i, c, rfl, rfl, h0, h63, h1, hc, q⟩ := q
  obtain ⟨t, rfl⟩ := rx
  obtain ⟨t', rfl⟩ := ry
  have e : seqIndex? i z.length = some i.toNat := PySem.StrLaws.seqIndex_nonneg h0 h1
  exact tail_any (typeIs_str s2 z t) slot_str_getitem.lookup (getItem_str (c := c) (by
    have e1 : decide (i < -(2 ^ 63 : Int)) = false := decide_eq_false (by omega)
    have e2 : decide (i ≥ 2 ^ 63) = false := decide_eq_false (by omega)
    rw [e1, e2] <;> rfl) (by rw [e]; exact hc) ⟨.str ⟨#[c]⟩, H2, I2.tok _, ⟨_, rfl⟩, q⟩) (hs _ _)
/-- b[i], 0 ≤ i < len -/
theorem pe_item_byt (ha : PE X a ta) (hb : PE X b tb) (hs : PlainIxT b) :
    PE X (.Subscript a b pos) (tOp (fun x y H Q => ∃ (z : List UInt8) (i : Int), x = .byt z.toArray ∧ y = .int i ∧ z.length ≤ sizeLine ∧ 0 ≤ i ∧ i < z.length ∧ Q (.int ((z.getD i.toNat 0).toNat : Nat)) H) ta tb) := by
  intro pins s σ H Q I h
  refine Subscript_ (binT ha hb I h fun v u s2 x y H2 I2 rx ry q => ?_)
  obtain ⟨z, i, rfl, rfl, hz, h0, h1, q⟩ := q
  obtain ⟨t, rfl⟩ := rx
  obtain ⟨t', rfl⟩ := ry
  have hl : sizeLine = 16777216 := sizeLine_eq
  exact tail_any (PySem.W.typeIs_bytes s2 z.toArray t) PySem.W.FB.slot_bytes_getitem.lookup (PySem.W.getItem_bytes (by omega) h0 h1 ⟨.int ((z.getD i.toNat 0).toNat : Nat), H2, I2.tok _, ⟨_, rfl⟩, q⟩) (hs _ _)

/-! ### scalar builtins, by CallR -/
theorem vals1 {x : V} {us : List Value} (r : Vals [x] us) : ∃ u, us = [u] ∧ RelV x u := by
  cases r with
  | cons r1 r2 => cases r2; exact ⟨_, rfl, r1⟩
theorem vals2 {x y : V} {us : List Value} (r : Vals [x, y] us) : ∃ u w', us = [u, w'] ∧ RelV x u ∧ RelV y w' := by
  cases r with
  | cons r1 r2 =>
    cases r2 with
    | cons r3 r4 => cases r4; exact ⟨_, _, rfl, r1, r3⟩
theorem call_abs : CallR X (.builtin "abs") (fun xs H Q => ∃ i, xs = [.int i] ∧ Q (.int (if i < 0 then -i else i)) H) := by
  intro pins s σ H xs us Q I r h
  obtain ⟨i, rfl, q⟩ := h
  obtain ⟨u, rfl, t, rfl⟩ := vals1 r
  exact call_abs_int fun u tk => ⟨.int (if i < 0 then -i else i), H, I.tok _, ⟨_, rfl⟩, q⟩
theorem call_max2 (hc : X.calm = true) : CallR X (.builtin "max") (fun xs H Q => ∃ i j, xs = [.int i, .int j] ∧ Q (.int (if j > i then j else i)) H) := by
  intro pins s σ H xs us Q I r h
  obtain ⟨i, j, rfl, q⟩ := h
  obtain ⟨u, w', rfl, ⟨t, rfl⟩, ⟨t', rfl⟩⟩ := vals2 r
  refine max_two_ints (I.ok.hd hc) fun h' tk k => ⟨_, H, I.kept k, ?_, q⟩
  by_cases hj : j > i
  · rw [if_pos hj, if_pos hj]; exact ⟨_, rfl⟩
  · rw [if_neg hj, if_neg hj]; exact ⟨_, rfl⟩
theorem call_min2 (hc : X.calm = true) : CallR X (.builtin "min") (fun xs H Q => ∃ i j, xs = [.int i, .int j] ∧ Q (.int (if j < i then j else i)) H) := by
  intro pins s σ H xs us Q I r h
  obtain ⟨i, j, rfl, q⟩ := h
  obtain ⟨u, w', rfl, ⟨t, rfl⟩, ⟨t', rfl⟩⟩ := vals2 r
  refine min_two_ints (I.ok.hd hc) fun h' tk k => ⟨_, H, I.kept k, ?_, q⟩
  by_cases hj : j < i
  · rw [if_pos hj, if_pos hj]; exact ⟨_, rfl⟩
  · rw [if_neg hj, if_neg hj]; exact ⟨_, rfl⟩
theorem call_int1 : CallR X (.type "int") (fun xs H Q => (∃ i, xs = [.int i] ∧ Q (.int i) H) ∨ ∃ k, xs = [.bl k] ∧ Q (.int (if k then 1 else 0)) H) := by
  intro pins s σ H xs us Q I r h
  rcases h with ⟨i, rfl, q⟩ | ⟨k, rfl, q⟩
  · obtain ⟨u, rfl, t, rfl⟩ := vals1 r
    exact call_int_int ⟨.int i, H, I, ⟨_, rfl⟩, q⟩
  · obtain ⟨u, rfl, r1⟩ := vals1 r
    cases r1
    exact call_int_bool ⟨.int (if k then 1 else 0), H, I.tok _, ⟨_, rfl⟩, q⟩
theorem call_bool1 : CallR X (.type "bool") (fun xs H Q => (∃ i, xs = [.int i] ∧ Q (.bl (i != 0)) H) ∨ ∃ k, xs = [.bl k] ∧ Q (.bl k) H) := by
  intro pins s σ H xs us Q I r h
  rcases h with ⟨i, rfl, q⟩ | ⟨k, rfl, q⟩
  · obtain ⟨u, rfl, t, rfl⟩ := vals1 r
    exact call_bool_int ⟨.bl (i != 0), H, I, rfl, q⟩
  · obtain ⟨u, rfl, r1⟩ := vals1 r
    cases r1
    exact call_bool_bool ⟨.bl k, H, I, rfl, q⟩
theorem call_str_int : CallR X (.type "str") (fun xs H Q => ∃ i, xs = [.int i] ∧ i.natAbs.log2 < 1920 ∧ Q (.str (toString i)) H) := by
  intro pins s σ H xs us Q I r h
  obtain ⟨i, rfl, hz, q⟩ := h
  obtain ⟨u, rfl, t, rfl⟩ := vals1 r
  exact PySem.P.str_of_int hz ⟨.str _, H, I.tok _, ⟨_, rfl⟩, q⟩
theorem call_ord : CallR X (.builtin "ord") (fun xs H Q => ∃ x, xs = [.str x] ∧ x.length = 1 ∧ Q (.int (x.cps.getD 0 0 : Nat)) H) := by
  intro pins s σ H xs us Q I r h
  obtain ⟨x, rfl, hz, q⟩ := h
  obtain ⟨u, rfl, t, rfl⟩ := vals1 r
  exact ord_of_one hz ⟨.int _, H, I.tok _, ⟨_, rfl⟩, q⟩
theorem call_chr : CallR X (.builtin "chr") (fun xs H Q => ∃ i, xs = [.int i] ∧ 0 ≤ i ∧ i ≤ 1114111 ∧ Q (.str ⟨#[i.toNat]⟩) H) := by
  intro pins s σ H xs us Q I r h
  obtain ⟨i, rfl, h0, h1, q⟩ := h
  obtain ⟨u, rfl, t, rfl⟩ := vals1 r
  exact chr_of_range h0 h1 ⟨.str _, H, I.tok _, ⟨_, rfl⟩, q⟩
/-- len of a str, a bytes, a list, a tuple -/
def LenV (K : PySem.W.Frag) (x : V) (H : Hp) (n : Nat) : Prop :=
  match x with
  | .str y => y.length ≤ sizeLine ∧ n = y.length
  | .byt y => y.size ≤ sizeLine ∧ n = y.size
  | .ref p => (∃ xs, SqL K H p xs ∧ n = xs.length) ∨ ∃ xs, SqT K H p xs ∧ n = xs.length
  | _ => False
theorem call_len : CallR X (.builtin "len") (fun xs H Q => ∃ x n, xs = [x] ∧ LenV X.K x H n ∧ Q (.int n) H) := by
  intro pins s σ H xs us Q I r h
  obtain ⟨x, n, rfl, e, q⟩ := h
  obtain ⟨u, rfl, rx⟩ := vals1 r
  have hl := line63
  have hs : sizeLine = 16777216 := sizeLine_eq
  cases x with
  | str y =>
    obtain ⟨t, rfl⟩ := rx
    obtain ⟨hy, e'⟩ : y.length ≤ sizeLine ∧ n = y.length := e
    subst e'
    exact len_str (by omega) ⟨.int _, H, I.tok _, ⟨_, rfl⟩, q⟩
  | byt y =>
    obtain ⟨t, rfl⟩ := rx
    obtain ⟨hy, e'⟩ : y.size ≤ sizeLine ∧ n = y.size := e
    subst e'
    exact PySem.W.len_bytes (by omega) ⟨.int _, H, I.tok _, ⟨_, rfl⟩, q⟩
  | ref p =>
    cases rx
    have e' : (∃ xs, SqL X.K H p xs ∧ n = xs.length) ∨ ∃ xs, SqT X.K H p xs ∧ n = xs.length := e
    rcases e' with ⟨xs, hx, e'⟩ | ⟨xs, hx, e'⟩
    · subst e'
      obtain ⟨its, r', pl, hz⟩ := I.list hx
      have hlen := r'.length
      exact Calls.call_len_list pl.isList (by simp only [List.size_toArray]; omega) ⟨.int xs.length, H, I.tok _, ⟨_, by simp only [List.size_toArray]; rw [hlen]⟩, q⟩
    · subst e'
      obtain ⟨its, r', pl, hz⟩ := I.tuple hx
      have hlen := r'.length
      exact len_tuple pl (by simp only [List.size_toArray]; omega) ⟨.int xs.length, H, I.tok _, ⟨_, by simp only [List.size_toArray]; rw [hlen]⟩, q⟩
  | _ => exact (show False from e).elim
/-- divmod: a new tuple -/
theorem call_divmod : CallR X (.builtin "divmod") (fun xs H Q => ∃ i j, xs = [.int i, .int j] ∧ CDiv i j ∧ ∀ p, H p = none → Q (.ref p) (upd H p (.tup [.int (i / j), .int (i % j)]))) := by
  intro pins s σ H xs us Q I r h
  obtain ⟨i, j, rfl, ⟨h1, h2⟩, q⟩ := h
  obtain ⟨u, w', rfl, ⟨t, rfl⟩, ⟨t', rfl⟩⟩ := vals2 r
  refine divmod_int (by omega) ?_ (.inl (PyProof.noPylong_small (by omega)))
  rw [Int.fdiv_eq_ediv_of_nonneg i (by omega), Int.fmod_eq_emod_of_nonneg i (by omega)]
  have hn : H s.heap.objs.size = none := I.hok.fresh (Nat.le_refl _)
  refine ⟨.ref s.heap.objs.size, _, ?_, rfl, q _ hn⟩
  refine I.laid (fun b o e => Heap.get?_push_of_some _ e) (Nat.le_refl _) ⟨by simp only [List.length_cons, List.length_nil]; rw [sizeLine_eq]; decide, [.int (i / j) s.toks, .int (i % j) (s.toks + 1)], .cons ⟨_, rfl⟩ (.cons ⟨_, rfl⟩ .nil), ?_⟩
  exact ⟨_, Heap.get?_push_size s.heap rfl, rfl, 0, rfl⟩
end
end L2

namespace L2
open PySem PySem.Spec PyProof.Rows

/-! ### an instance, its attributes a map -/
structure ObjM (h : Heap) (x dx C : Addr) (mA : Str → Option Value) : Prop where
  obj : h.get? x = some (PySem.W.instObj C dx)
  ns : h.Ns1 dx mA
  ne : dx ≠ x

theorem lookIn_ns {h : Heap} {dx : Addr} {mA : Str → Option Value} (n : h.Ns1 dx mA) : ∃ od, h.get? dx = some od ∧ ∀ name, PySem.W.lookIn name od = some (mA name) := by
  obtain ⟨o, es, ep, ho, hd, hk, _, hm⟩ := n
  refine ⟨o, ho, fun name => ?_⟩
  have e := hm name
  unfold nsFind findBy at e
  rw [← Array.find?_toList] at e
  unfold PySem.W.lookIn
  rw [hd]
  dsimp only
  split
  · rename_i y q
    rw [q] at e
    exact congrArg some e
  · rename_i q
    rw [q] at e
    have a : es.toList.any (·.refKey) = false := by
      rw [List.any_eq_false]
      intro y hy
      obtain ⟨z, t, hkey⟩ := hk y (Array.mem_toList_iff.mp hy)
      simp [DictEntry.refKey, hkey]
    have a' : ¬ es.toList.any (·.refKey) = true := by rw [a]; exact Bool.false_ne_true
    rw [if_neg a']
    exact congrArg some e

theorem ObjM.look {h : Heap} {x dx C : Addr} {mA : Str → Option Value} (I : ObjM h x dx C mA) : ∃ od, PySem.W.InstAt h x (PySem.W.instObj C dx) C (some od) ∧ ∀ name, PySem.W.lookIn name od = some (mA name) :=
  let ⟨od, ho, hl⟩ := lookIn_ns I.ns
  ⟨od, ⟨I.obj, rfl, rfl, ho⟩, hl⟩

section
variable {prog : Program} {w : World} {A : Around} {E : Value → Shared → Prop} {s : Shared} {K : PySem.W.Frag} {x dx C f : Addr} {mA : Str → Option Value} {name : Str} {v : Value}

theorem get_map {expr : Bool} {Q : Value → Shared → Prop} (X : K.In s.heap) (I : ObjM s.heap x dx C mA) (hg : PySem.W.plainGet K C name = true) (hh : PySem.W.hasDictIn K C = true)
    (ha : PySem.W.findIn K (.ref C) name = some none) (hv : mA name = some v) (hv' : PySem.W.handedIn v = true) (h : Q v { s with toks := s.toks + 1 }) :
    wpAny (model prog w) A (getAttr (.ref x) name expr) Q E s := by
  obtain ⟨od, J, hl⟩ := I.look
  exact PySem.W.get_value X J (PySem.W.plainGet_of hg).1 (PySem.W.findObj_own hh ha rfl (by rw [hl, hv])) hv' h

theorem get_const {expr : Bool} {a : Value} {Q : Value → Shared → Prop} (X : K.In s.heap) (I : ObjM s.heap x dx C mA) (hg : PySem.W.plainGet K C name = true) (hh : PySem.W.hasDictIn K C = true)
    (ha : PySem.W.findIn K (.ref C) name = some (some a)) (hn : PySem.W.specialIn K a "__get__" = some none) (hc : PySem.W.copiedNames.contains name = false) (hv : mA name = none) (hv' : PySem.W.handedIn a = true)
    (h : Q a { s with toks := s.toks + 1 }) : wpAny (model prog w) A (getAttr (.ref x) name expr) Q E s := by
  obtain ⟨od, J, hl⟩ := I.look
  exact PySem.W.get_value X J (PySem.W.plainGet_of hg).1 (PySem.W.findObj_cls hh ha hn hv' hc (by rw [hl, hv])) hv' h

theorem get_meth {pl : Sem Bool} {Q : Value × List Value → Shared → Prop} (X : K.In s.heap) (I : ObjM s.heap x dx C mA) (hg : PySem.W.plainGet K C name = true)
    (hf : PySem.W.findIn K (.ref C) name = some (some (.ref f))) (ht : PySem.W.isFn K (.ref f) = true) (hv : mA name = none) (h : Q (.ref f, [.ref x]) s) :
    wpAny (model prog w) A (getMethod (.ref x) name pl) Q E s := by
  obtain ⟨od, J, hl⟩ := I.look
  exact PySem.W.method_fn X J (PySem.W.plainGet_of hg).1 (PySem.W.plainGet_of hg).2 hf (beq_iff_eq.mp ht) (by show (PySem.W.lookIn name od).map (·.isSome) = some false; rw [hl, hv]; rfl) h

theorem set_map {ns : List Str} {Q : Unit → Shared → Prop} (X : K.In s.heap) (I : ObjM s.heap x dx C mA)
    (hs : PySem.W.findIn K (.ref C) "__setattr__" = some (some (.builtin "object.__setattr__"))) (hp : PySem.W.plainOver K C = true) (ht : PySem.W.takerIn K C name = some none) (hh : PySem.W.hasDictIn K C = true)
    (hw : PySem.Within mA ns) (hsz : ns.length ≤ sizeLine)
    (h : ∀ h', ObjM h' x dx C (fun y => if y = name then some v else mA y) → Heap.SameBut dx s.heap h' → Q () { s with heap := h', toks := s.toks + 2 }) :
    wpAny (model prog w) A (setAttr (.ref x) name v) Q E s := by
  obtain ⟨od, J, hl⟩ := I.look
  refine PySem.W.set_plain X J hs (PySem.W.osa_open (s := { s with toks := s.toks + 1 }) (r := none) X J hp ht fun b => ?_)
  obtain ⟨cd, hc, hd'⟩ := PySem.W.any_some hh
  have hx : s.heap.get? x = some ⟨.ref C, some dx, .plain, #[]⟩ := I.obj
  refine wpAny_bind (wpAny_pure (wpAny_bind (wpAny_bind (wpAny_loadPart hx (wpAny_bind (PySem.W.Looks.here (s := { s with toks := s.toks + 1 }) (PySem.W.looks_clsIn X hc) ?_))))))
  rw [hd']
  refine wpAny_pure (a := some dx) (wpAny_bind (wpAny_pure (wpAny_bind ?_)))
  refine wpAny_nsSet1 (s := { s with toks := s.toks + 1 }) I.ns fun h' hn2 hs2 => ?_
  obtain ⟨oD, esD, epD, hoD, hdD, hcD⟩ := hn2.count (PySem.Within.cons name v hw)
  refine wpAny_bind (wpAny_lookBehind hoD (by rw [hdD]; exact pastItsLine_dict (Nat.le_trans hcD (by rw [List.length_cons]; omega))) ?_)
  exact wpAny_pure (h _ ⟨(hs2.2 _ (Ne.symm I.ne)).trans I.obj, hn2, I.ne⟩ hs2)

/-- C(..): the dict at the heap's end, the instance behind it; then its __init__ -/
theorem make_map {R : Result → Shared → Prop} {vs : List Value} {kw : List (Str × Value)} (X : K.In s.heap) (hm : PySem.W.makesIn K C = true)
    (hi : PySem.W.findIn K (.ref C) "__init__" = some (some (.ref f))) (hf : PySem.W.typeIn K (.ref f) = some (.type "function"))
    (h : codeAny (model prog w) (A.under (.builtin "type.__call__" ⟨.ref C :: vs, kw⟩)) (.call (.ref f) ⟨.ref (s.heap.objs.size + 1) :: vs, kw⟩) (PySem.W.InitBack (s.heap.objs.size + 1) R)
      { s with heap := (s.heap.push PySem.W.emptyDict).push (PySem.W.instObj C s.heap.objs.size) }) :
    codeAny (model prog w) A (.call (.ref C) ⟨vs, kw⟩) R s := by
  obtain ⟨hh, g, d, t, os⟩ := s
  exact PySem.W.make_core (PySem.W.makes_of X hm) (PySem.W.looks_findIn X hi) (fun self => PySem.W.bind_fn X self hf) (.inl rfl) h
/-- C() where there is no __init__ but object's -/
theorem make_map0 {R : Result → Shared → Prop} (X : K.In s.heap) (hm : PySem.W.makesIn K C = true)
    (hi : PySem.W.findIn K (.ref C) "__init__" = some (some (.builtin "object.__init__")))
    (hb : ∀ self, PySem.W.Looks (model prog w) s.heap (bindSpecial (.builtin "object.__init__") self) (.builtin "object.__init__", [self]))
    (h : codeAny (model prog w) (A.under (.builtin "type.__call__" ⟨[.ref C], []⟩)) (.call (.builtin "object.__init__") ⟨[.ref (s.heap.objs.size + 1)], []⟩) (PySem.W.InitBack (s.heap.objs.size + 1) R)
      { s with heap := (s.heap.push PySem.W.emptyDict).push (PySem.W.instObj C s.heap.objs.size) }) :
    codeAny (model prog w) A (.call (.ref C) ⟨[], []⟩) R s := by
  obtain ⟨hh, g, d, t, os⟩ := s
  exact PySem.W.make_core (PySem.W.makes_of X hm) (PySem.W.looks_findIn X hi) hb (.inr ⟨rfl, rfl⟩) h
end

/-! ### the attributes as a list of pairs -/
def putF (f : Str) (v : V) : List (Str × V) → List (Str × V)
  | [] => [(f, v)]
  | (g, x) :: r => if g = f then (g, v) :: r else (g, x) :: putF f v r
theorem lookup_putF (f g : Str) (v : V) : ∀ fs : List (Str × V), (putF f v fs).lookup g = if g = f then some v else fs.lookup g
  | [] => by
    show List.lookup g [(f, v)] = _
    by_cases h : g = f
    · have hb : (g == f) = true := beq_iff_eq.mpr h
      simp only [List.lookup, hb, if_pos h]
    · have hb : (g == f) = false := beq_eq_false_iff_ne.mpr h
      simp only [List.lookup, hb, if_neg h]
  | (k, x) :: r => by
    have ih := lookup_putF f g v r
    rw [show putF f v ((k, x) :: r) = (if k = f then (k, v) :: r else (k, x) :: putF f v r) from rfl]
    by_cases hk : k = f
    · rw [if_pos hk]
      by_cases h : g = k
      · have hb : (g == k) = true := beq_iff_eq.mpr h
        simp only [List.lookup, hb, if_pos (h.trans hk)]
      · have hb : (g == k) = false := beq_eq_false_iff_ne.mpr h
        simp only [List.lookup, hb, if_neg (fun e : g = f => h (e.trans hk.symm))]
    · rw [if_neg hk]
      by_cases h : g = k
      · have hb : (g == k) = true := beq_iff_eq.mpr h
        simp only [List.lookup, hb, if_neg (fun e : g = f => hk (h.symm.trans e))]
      · have hb : (g == k) = false := beq_eq_false_iff_ne.mpr h
        simp only [List.lookup, hb]
        exact ih
theorem keys_putF (f : Str) (v : V) : ∀ fs : List (Str × V), f ∈ (putF f v fs).map (·.1) ∧ ∀ g, g ∈ fs.map (·.1) → g ∈ (putF f v fs).map (·.1)
  | [] => ⟨by simp [putF], fun g h => by simp at h⟩
  | (k, x) :: r => by
    obtain ⟨i1, i2⟩ := keys_putF f v r
    rw [show putF f v ((k, x) :: r) = (if k = f then (k, v) :: r else (k, x) :: putF f v r) from rfl]
    by_cases hk : k = f
    · rw [if_pos hk]
      subst hk
      exact ⟨by simp, fun g h => by simpa using h⟩
    · rw [if_neg hk]
      refine ⟨?_, fun g h => ?_⟩
      · rw [List.map_cons]
        exact List.mem_cons_of_mem _ i1
      · rw [List.map_cons] at h ⊢
        rcases List.mem_cons.mp h with e | e
        · exact List.mem_cons.mpr (.inl e)
        · exact List.mem_cons_of_mem _ (i2 g e)
theorem length_putF (f : Str) (v : V) : ∀ fs : List (Str × V), (putF f v fs).length ≤ fs.length + 1
  | [] => by simp [putF]
  | (k, x) :: r => by
    have ih := length_putF f v r
    rw [show putF f v ((k, x) :: r) = (if k = f then (k, v) :: r else (k, x) :: putF f v r) from rfl]
    by_cases hk : k = f
    · rw [if_pos hk, List.length_cons, List.length_cons]; omega
    · rw [if_neg hk, List.length_cons, List.length_cons]; omega

theorem RelO.some_of {v : V} {o : Option Value} (r : RelO (some v) o) : ∃ u, o = some u ∧ RelV v u := by
  cases o with
  | none => exact (show False from r).elim
  | some u => exact ⟨u, rfl, r⟩
theorem RelO.none_of {o : Option Value} (r : RelO none o) : o = none := by
  cases o with
  | none => rfl
  | some u => exact (show False from r).elim
theorem handed_of {v : V} {u : Value} (r : RelV v u) : PySem.W.handedIn u = true := by
  cases v with
  | non => cases (show u = Value.none from r); rfl
  | bl b => cases (show u = Value.bool b from r); rfl
  | int i => obtain ⟨t, e⟩ := (show ∃ t, u = Value.int i t from r); cases e; rfl
  | str x => obtain ⟨t, e⟩ := (show ∃ t, u = Value.str x t from r); cases e; rfl
  | byt b => obtain ⟨t, e⟩ := (show ∃ t, u = Value.bytes b t from r); cases e; rfl
  | flt b => obtain ⟨t, e⟩ := (show ∃ t, u = Value.float b t from r); cases e; rfl
  | ref a => cases (show u = Value.ref a from r); rfl
  | ty n => cases (show u = Value.type n from r); rfl

section
variable {P : Program} {w : World} {H H' : Hp} {h h' : Heap} {a C dx : Addr} {fs fs' : List (Str × V)}
theorem ins_get (hok : HOk P w H h) (e : H a = some (.ins C dx fs)) : ∃ mA, ObjM h a dx C mA ∧ (∀ f, RelO (fs.lookup f) (mA f)) ∧ PySem.Within mA (fs.map (·.1)) ∧ fs.length ≤ 1000 ∧ H dx = some (.own a) := by
  obtain ⟨d, z, ne, ob, mA, n, r, q⟩ := (show ObjOk P w H h a (.ins C dx fs) from hok a _ e)
  exact ⟨mA, ⟨ob, n, ne⟩, r, q, z, d⟩
end

/-! ### what of the text a class must have -/
structure Cls (K : PySem.W.Frag) (C : Addr) : Prop where
  pg : PySem.W.plainGet K C Str.empty = true
  hd : PySem.W.hasDictIn K C = true
  po : PySem.W.plainOver K C = true
  sa : PySem.W.findIn K (.ref C) "__setattr__" = some (some (.builtin "object.__setattr__"))
theorem Cls.get {K : PySem.W.Frag} {C : Addr} (c : Cls K C) (f : Str) : PySem.W.plainGet K C f = true := c.pg
/-- no class of it has the name -/
def NoAttr (K : PySem.W.Frag) (C : Addr) (f : Str) : Prop := PySem.W.findIn K (.ref C) f = some none
theorem NoAttr.taker {K : PySem.W.Frag} {C : Addr} {f : Str} (n : NoAttr K C f) : PySem.W.takerIn K C f = some none := by
  unfold PySem.W.takerIn
  rw [show PySem.W.findIn K (.ref C) f = some none from n]
  rfl
/-- a constant of the class -/
structure Con (K : PySem.W.Frag) (C : Addr) (f : Str) (v : V) (u : Value) : Prop where
  at_ : PySem.W.findIn K (.ref C) f = some (some u)
  rel : RelV v u
  get : PySem.W.specialIn K u "__get__" = some none
  cp : PySem.W.copiedNames.contains f = false
/-- a method: a plain def of the class or of one above it -/
structure Meth (K : PySem.W.Frag) (C : Addr) (m : Str) (f : Addr) : Prop where
  at_ : PySem.W.findIn K (.ref C) m = some (some (.ref f))
  fn : PySem.W.isFn K (.ref f) = true
  kp : PySem.W.keepIn K (.ref f) = true

section
variable {X : Cx} {pins : List (Addr × Obj)} {σ : St} {H : Hp} {s : Shared} {a C dx : Addr} {fs : List (Str × V)} {f : Str} {v : V} {A : Around} {E : Value → Shared → Prop}

theorem getattr_ok {b : Bool} {Q : Value → Shared → Prop} (I : Inv X pins σ H s) (e : H a = some (.ins C dx fs)) (c : Cls X.K C) (n : NoAttr X.K C f) (l : fs.lookup f = some v)
    (h : ∀ u s', Inv X pins σ H s' → RelV v u → Q u s') : wpAny (model X.prog X.w) A (getAttr (.ref a) f b) Q E s := by
  obtain ⟨mA, O, r, _, _, _⟩ := ins_get I.hok e
  obtain ⟨u, hu, ru⟩ := RelO.some_of (v := v) (o := mA f) (by rw [← l]; exact r f)
  exact get_map I.kIn O (c.get f) c.hd n hu (handed_of ru) (h u _ (I.tok _) ru)

theorem getcon_ok {b : Bool} {u : Value} {Q : Value → Shared → Prop} (I : Inv X pins σ H s) (e : H a = some (.ins C dx fs)) (c : Cls X.K C) (k : Con X.K C f v u) (l : fs.lookup f = none)
    (h : ∀ s', Inv X pins σ H s' → Q u s') : wpAny (model X.prog X.w) A (getAttr (.ref a) f b) Q E s := by
  obtain ⟨mA, O, r, _, _, _⟩ := ins_get I.hok e
  have hn : mA f = none := RelO.none_of (by rw [← l]; exact r f)
  exact get_const I.kIn O (c.get f) c.hd k.at_ k.get k.cp hn (handed_of k.rel) (h _ (I.tok _))

theorem getmeth_ok {m : Str} {g : Addr} {pl : Sem Bool} {Q : Value × List Value → Shared → Prop} (I : Inv X pins σ H s) (e : H a = some (.ins C dx fs)) (c : Cls X.K C) (k : Meth X.K C m g) (l : fs.lookup m = none)
    (h : Q (.ref g, [.ref a]) s) : wpAny (model X.prog X.w) A (getMethod (.ref a) m pl) Q E s := by
  obtain ⟨mA, O, r, _, _, _⟩ := ins_get I.hok e
  have hn : mA m = none := RelO.none_of (by rw [← l]; exact r m)
  exact get_meth I.kIn O (c.get m) k.at_ k.fn hn h

theorem setattr_ok {y : V} {u : Value} {Q : Unit → Shared → Prop} (I : Inv X pins σ H s) (e : H a = some (.ins C dx fs)) (c : Cls X.K C) (n : NoAttr X.K C f) (hl : fs.length < 1000) (ry : RelV y u)
    (h : ∀ s', Inv X pins σ (upd H a (.ins C dx (putF f y fs))) s' → Q () s') : wpAny (model X.prog X.w) A (setAttr (.ref a) f u) Q E s := by
  obtain ⟨mA, O, r, wi, _, ho⟩ := ins_get I.hok e
  have hz : (fs.map (·.1)).length ≤ sizeLine := by rw [List.length_map, sizeLine_eq]; omega
  refine set_map I.kIn O c.sa c.po n.taker c.hd wi hz fun h' O' sb => h _ ?_
  have hd : ∃ o, h'.get? dx = some o := let ⟨o, _, _, e', _⟩ := O'.ns; ⟨o, e'⟩
  refine I.write (x := a) (e := dx) (by rw [e]; exact True.intro) (.inr ho) (fun b q hb z => (sb.2 b hb).trans z) hd ?_
  refine ⟨by rw [upd_ne O.ne]; exact ho, ?_, O.ne, O'.obj, _, O'.ns, fun g => ?_, fun g hg => ?_⟩
  · have := length_putF f y fs; omega
  · show RelO ((putF f y fs).lookup g) (if g = f then some u else mA g)
    rw [lookup_putF]
    by_cases q : g = f
    · rw [if_pos q, if_pos q]; exact ry
    · rw [if_neg q, if_neg q]; exact r g
  · by_cases q : g = f
    · rw [q]; exact (keys_putF f y fs).1
    · refine (keys_putF f y fs).2 g (wi g fun z => hg ?_)
      show (if g = f then some u else mA g) = none
      rw [if_neg q]; exact z

/-- a new instance, tracked, without attributes -/
theorem Inv.made (I : Inv X pins σ H s) : Inv X pins σ (upd (upd H s.heap.objs.size (.own (s.heap.objs.size + 1))) (s.heap.objs.size + 1) (.ins C s.heap.objs.size []))
    { s with heap := (s.heap.push PySem.W.emptyDict).push (PySem.W.instObj C s.heap.objs.size) } := by
  have e1 : (s.heap.push PySem.W.emptyDict).get? s.heap.objs.size = some PySem.W.emptyDict := Heap.get?_push_size s.heap rfl
  have e2 : ((s.heap.push PySem.W.emptyDict).push (PySem.W.instObj C s.heap.objs.size)).get? (s.heap.objs.size + 1) = some (PySem.W.instObj C s.heap.objs.size) := by
    have := Heap.get?_push_size (s.heap.push PySem.W.emptyDict) (o := PySem.W.instObj C s.heap.objs.size) rfl
    rwa [Heap.size_push] at this
  have e3 : (s.heap.push PySem.W.emptyDict).Ns s.heap.objs.size (fun _ => none) := ⟨PySem.W.emptyDict, #[], _, e1, rfl, (fun e he => absurd he (by simp)), fun _ => rfl⟩
  have I1 := I.laid (a := s.heap.objs.size) (o := .own (s.heap.objs.size + 1)) (h' := s.heap.push PySem.W.emptyDict) (t' := s.toks) (fun b u q => Heap.get?_push_of_some _ q) (Nat.le_refl _) ⟨_, e1⟩
  refine I1.laid (a := s.heap.objs.size + 1) (o := .ins C s.heap.objs.size []) (t' := s.toks) (fun b u q => Heap.get?_push_of_some _ q) (Nat.le_of_eq (Heap.size_push _ _)) ?_
  have ne : s.heap.objs.size ≠ s.heap.objs.size + 1 := Nat.ne_of_lt (Nat.lt_succ_self _)
  refine ⟨by rw [upd_ne ne, upd_same], Nat.zero_le _, ne, e2, fun _ => none, (Heap.Ns1.of_empty e3).at fun o q => Heap.get?_push_of_some _ q, fun _ => True.intro, fun y hy => absurd rfl hy⟩

/-- e.f where nothing but the object is asked: through attributeBase (super) and the last hold -/
theorem attr_of {prog : Program} {w : World} {env : Env} {e : Expr} {f : Str} {pos : Pos} {s : Shared} {Q : Value → Shared → Prop} (hb : attributeBase e f env (eval e env) = eval e env)
    (h : wpAny (model prog w) A (eval e env) (fun o s₁ => wpAny (model prog w) A (getAttr o f true) Q E s₁) E s) : wpAny (model prog w) A (eval (.Attribute e f pos) env) Q E s :=
  Attribute_any_ h (by rw [arm_eval_Attribute, hb])
end

/-! ### readings and rules -/
/-- e.f, an attribute of the instance -/
def tFld (K : PySem.W.Frag) (ta : TE) (f : Str) : TE := fun σ H Q => ta σ H fun x H1 => ∃ a C dx fs v, x = .ref a ∧ H1 a = some (.ins C dx fs) ∧ Cls K C ∧ NoAttr K C f ∧ fs.lookup f = some v ∧ Q v H1
/-- e.f, a constant of the class -/
def tCon (K : PySem.W.Frag) (ta : TE) (f : Str) : TE := fun σ H Q => ta σ H fun x H1 => ∃ a C dx fs v u, x = .ref a ∧ H1 a = some (.ins C dx fs) ∧ Cls K C ∧ Con K C f v u ∧ fs.lookup f = none ∧ Q v H1
/-- e.f = value -/
def sFld (K : PySem.W.Frag) (ta tv : TE) (f : Str) : TS := fun D σ H => tv σ H fun y H1 => ta σ H1 fun x H2 => ∃ a C dx fs, x = .ref a ∧ H2 a = some (.ins C dx fs) ∧ Cls K C ∧ NoAttr K C f ∧ fs.length < 1000 ∧
  D.nx σ (upd H2 a (.ins C dx (putF f y fs)))
/-- an augmented operator on two values -/
def InOp (X : Cx) (op : Operator) (rd : V → V → Hp → VK → Prop) : Prop :=
  ∀ (pins : List (Addr × Obj)) (s : Shared) (σ : St) (H : Hp) (x y : V) (u v : Value) (Q : VK), Inv X pins σ H s → RelV x u → RelV y v → rd x y H Q → wpAny (model X.prog X.w) X.A (inplaceOp op u v) (EP X pins σ Q) X.xe s
/-- e.f op= value -/
def sFldAug (K : PySem.W.Frag) (ta tv : TE) (rd : V → V → Hp → VK → Prop) (f : Str) : TS := fun D σ H => ta σ H fun x H1 => ∃ a C dx fs v, x = .ref a ∧ H1 a = some (.ins C dx fs) ∧ Cls K C ∧ NoAttr K C f ∧ fs.lookup f = some v ∧
  tv σ H1 fun y H2 => rd v y H2 fun z H3 => ∃ dx' fs', H3 a = some (.ins C dx' fs') ∧ fs'.length < 1000 ∧ D.nx σ (upd H3 a (.ins C dx' (putF f z fs')))

section
variable {X : Cx} {o e value : Expr} {f : Str} {pos pos' tpos : Pos} {ta tv : TE}
theorem pe_fld (he : PE X e ta) (hb : attributeBase e f X.env (eval e X.env) = eval e X.env) : PE X (.Attribute e f pos) (tFld X.K ta f) := by
  intro pins s σ H Q I h
  refine attr_of hb (thn (he pins s σ H _ I h) fun u s1 ⟨x, H1, I1, rx, a, C, dx, fs, v, ex, ea, c, n, l, q⟩ => ?_)
  subst ex
  obtain rfl : u = Value.ref a := rx
  exact getattr_ok I1 ea c n l fun u' s2 I2 ru => ⟨v, H1, I2, ru, q⟩
theorem pe_con (he : PE X e ta) (hb : attributeBase e f X.env (eval e X.env) = eval e X.env) : PE X (.Attribute e f pos) (tCon X.K ta f) := by
  intro pins s σ H Q I h
  refine attr_of hb (thn (he pins s σ H _ I h) fun u s1 ⟨x, H1, I1, rx, a, C, dx, fs, v, u0, ex, ea, c, k, l, q⟩ => ?_)
  subst ex
  obtain rfl : u = Value.ref a := rx
  exact getcon_ok I1 ea c k l fun s2 I2 => ⟨v, H1, I2, k.rel, q⟩
theorem ps_fld (ha : PE X o ta) (hv : PE X value tv) (hs : swapsWith value (some (.Attribute o f pos')) pos.line X.env = pure false) : PS X (.Assign [.Attribute o f pos'] value pos) (sFld X.K ta tv f) := by
  intro pins s σ H D I h
  refine plainObj_wpAny_Assign_Attribute (thn (hv pins s σ H _ I h) fun u s1 ⟨y, H1, I1, ry, q⟩ => thn (ha pins s1 σ H1 _ I1 q) fun ov s2 ⟨x, H2, I2, rx, a, C, dx, fs, ex, ea, c, n, l, q2⟩ => ?_) hs
  subst ex
  obtain rfl : ov = Value.ref a := rx
  exact setattr_ok I2 ea c n l ry fun s3 I3 => ⟨σ, _, I3, q2⟩
theorem ps_fldaug {op : Operator} {rd : V → V → Hp → VK → Prop} (ha : PE X o ta) (hv : PE X value tv) (hop : InOp X op rd) : PS X (.AugAssign (.Attribute o f tpos) op value pos) (sFldAug X.K ta tv rd f) := by
  intro pins s σ H D I h
  refine wpAny_AugAssign_AttributeAny (thn (ha pins s σ H _ I h) fun ov s1 ⟨x, H1, I1, rx, a, C, dx, fs, v, ex, ea, c, n, l, q⟩ => ?_)
  subst ex
  obtain rfl : ov = Value.ref a := rx
  refine getattr_ok I1 ea c n l fun u s2 I2 ru => thn (hv pins s2 σ H1 _ I2 q) fun w3 s3 ⟨y, H2, I3, ry, q3⟩ => thn (hop pins s3 σ H2 v y u w3 _ I3 ru ry q3) fun w4 s4 ⟨z, H3, I4, rz, dx', fs', ea', l', q4⟩ => ?_
  exact setattr_ok I4 ea' c n l' rz fun s5 I5 => ⟨σ, _, I5, q4⟩
def rAdd : V → V → Hp → VK → Prop := fun x y H Q => ∃ i j, x = .int i ∧ y = .int j ∧ Q (.int (i + j)) H
def rSub : V → V → Hp → VK → Prop := fun x y H Q => ∃ i j, x = .int i ∧ y = .int j ∧ Q (.int (i - j)) H
theorem in_add : InOp X .Add rAdd := by
  rintro pins s σ H x y u v Q I rx ry ⟨i, j, rfl, rfl, q⟩
  obtain ⟨t, rfl⟩ := (show ∃ t, u = Value.int i t from rx)
  obtain ⟨t', rfl⟩ := (show ∃ t', v = Value.int j t' from ry)
  exact PyProof.Rows.iadd_int ⟨.int (i + j), H, I.tok _, ⟨_, rfl⟩, q⟩
theorem in_sub : InOp X .Sub rSub := by
  rintro pins s σ H x y u v Q I rx ry ⟨i, j, rfl, rfl, q⟩
  obtain ⟨t, rfl⟩ := (show ∃ t, u = Value.int i t from rx)
  obtain ⟨t', rfl⟩ := (show ∃ t', v = Value.int j t' from ry)
  exact PyProof.Rows.isub_int ⟨.int (i - j), H, I.tok _, ⟨_, rfl⟩, q⟩

/-- what is between an instance and its method: the tree of a method call -/
theorem methcall_of {pl : Sem Bool} {m : Str} {apos : Pos} {args : List Expr} {pins : List (Addr × Obj)} {s : Shared} {σ : St} {H : Hp} {Q : Value → Shared → Prop} {te : TE} (he : PE X e te) (I : Inv X pins σ H s)
    (h : te σ H fun x H1 => ∃ a C dx fs g, x = .ref a ∧ H1 a = some (.ins C dx fs) ∧ Cls X.K C ∧ Meth X.K C m g ∧ fs.lookup m = none ∧
      ∀ s1, Inv X pins σ H1 s1 → wpAny (model X.prog X.w) X.A (callWith pos (.ref g) [.ref a] (backTo pos (starEach args X.env)) (backToKw pos (keywordEach [] X.env))) Q X.xe s1)
    (ht : eval (.Call (.Attribute e m apos) args [] pos) X.env = (do
      let ov ← eval e X.env
      standAt apos.atName
      let (f, first) ← holding [ov] (getMethod ov m pl)
      callWith pos f first (backTo pos (starEach args X.env)) (backToKw pos (keywordEach [] X.env)))) :
    wpAny (model X.prog X.w) X.A (eval (.Call (.Attribute e m apos) args [] pos) X.env) Q X.xe s := by
  refine PySem.W.methodCall_KW (pl := pl) (thn (he pins s σ H _ I h) fun u s1 ⟨x, H1, I1, rx, a, C, dx, fs, g, ex, ea, c, k, l, q⟩ => ?_) ht
  subst ex
  obtain rfl : u = Value.ref a := rx
  exact getmeth_ok I1 ea c k l (q s1 I1)
end

/-! ### isinstance -/
section
variable {X : Cx} {pins : List (Addr × Obj)} {σ : St} {H : Hp} {s : Shared} {A : Around} {E : Value → Shared → Prop} {Q : Value → Shared → Prop} {c : Value} {b : Bool}
/-- the type of a value, as the fragment's deciders take it; for an instance its class -/
inductive TyOf (K : PySem.W.Frag) (H : Hp) : V → Value → Prop where
  | non : TyOf K H .non (.type "NoneType")
  | bl (x : Bool) : TyOf K H (.bl x) (.type "bool")
  | int (i : Int) : TyOf K H (.int i) (.type "int")
  | str (x : Str) : TyOf K H (.str x) (.type "str")
  | flt (x : UInt64) : TyOf K H (.flt x) (.type "float")
  | lst {a : Addr} {xs : List V} (e : H a = some (.lst xs)) : TyOf K H (.ref a) (.type "list")
  | frz {a : Addr} {o : Obj} {xs : List V} (e : H a = some (.frz o (.lst xs))) : TyOf K H (.ref a) (.type "list")
  | tup {a : Addr} {xs : List V} (e : H a = some (.tup xs)) : TyOf K H (.ref a) (.type "tuple")
  | dK {a : Addr} {kvs : List (Key × V)} (e : H a = some (.dK kvs)) : TyOf K H (.ref a) (.type "dict")
  | dT {a : Addr} {kvs : List (List Key × V)} (e : H a = some (.dT kvs)) : TyOf K H (.ref a) (.type "dict")
  | ins {a C dx : Addr} {fs : List (Str × V)} (e : H a = some (.ins C dx fs)) (cl : Cls K C) (ha : PySem.W.findIn K (.ref C) "__class__" = some (some (.builtin "object.__class__")))
      (hn : PySem.W.specialIn K (.builtin "object.__class__") "__get__" = some (some (.builtin "getset_descriptor.__get__"))) (htk : PySem.W.takesIn K (.builtin "object.__class__") = some true)
      (hm : PySem.W.mroIn K C (.type "object") = some true) : TyOf K H (.ref a) (.ref C)
/-- isinstance(x, c) for one class c, a built-in or an own one: kitOne's answer -/
theorem isinst_ok {x : V} {u t : Value} (I : Inv X pins σ H s) (rx : RelV x u) (ty : TyOf X.K H x t) (e : PySem.W.kitOne X.K t c = some b) (h : ∀ tk, Q (.bool b) { s with toks := tk }) :
    wpAny (model X.prog X.w) A (call (.builtin "isinstance") [u, c]) Q E s := by
  cases ty with
  | non => cases (show u = Value.none from rx); exact PySem.W.kia_one PySem.W.kitx_none I.kIn True.intro e (fun z => nomatch z) h
  | bl y => cases (show u = Value.bool y from rx); exact PySem.W.kia_one PySem.W.kitx_bool I.kIn True.intro e (fun z => nomatch z) h
  | int i => obtain ⟨t, q⟩ := (show ∃ t, u = Value.int i t from rx); cases q; exact PySem.W.kia_one PySem.W.kitx_int I.kIn True.intro e (fun z => nomatch z) h
  | str y => obtain ⟨t, q⟩ := (show ∃ t, u = Value.str y t from rx); cases q; exact PySem.W.kia_one PySem.W.kitx_str I.kIn True.intro e (fun z => nomatch z) h
  | flt y => obtain ⟨t, q⟩ := (show ∃ t, u = Value.float y t from rx); cases q; exact PySem.W.kia_one PySem.W.kitx_float I.kIn True.intro e (fun z => nomatch z) h
  | @lst a xs ea =>
    cases (show u = Value.ref a from rx)
    obtain ⟨_, _, n, _, h1⟩ := (show ObjOk X.prog X.w H s.heap a (.lst xs) from I.hok a _ ea)
    exact PySem.W.kia_one PySem.W.kitx_list I.kIn ⟨_, h1, rfl⟩ e (fun z => nomatch z) h
  | @frz a ob xs ea =>
    cases (show u = Value.ref a from rx)
    obtain ⟨_, _, _, n, _, h1⟩ := (show ObjOk X.prog X.w H s.heap a (.frz ob (.lst xs)) from I.hok a _ ea)
    exact PySem.W.kia_one PySem.W.kitx_list I.kIn ⟨_, h1, rfl⟩ e (fun z => nomatch z) h
  | @tup a xs ea =>
    cases (show u = Value.ref a from rx)
    obtain ⟨_, _, _, p⟩ := (show ObjOk X.prog X.w H s.heap a (.tup xs) from I.hok a _ ea)
    obtain ⟨o, h1, h2, _⟩ := p
    exact PySem.W.kia_one PySem.W.kitx_tuple I.kIn ⟨o, h1, h2⟩ e (fun z => nomatch z) h
  | @dK a kvs ea =>
    cases (show u = Value.ref a from rx)
    obtain ⟨_, _, vs, _, p⟩ := (show ObjOk X.prog X.w H s.heap a (.dK kvs) from I.hok a _ ea)
    obtain ⟨o, es, ep, h1, h2, _⟩ := p
    exact PySem.W.kia_one PySem.W.kitx_dict I.kIn ⟨o, h1, h2.1⟩ e (fun z => nomatch z) h
  | @dT a kvs ea =>
    cases (show u = Value.ref a from rx)
    obtain ⟨_, _, xs, _, o, es, ep, h1, h2, _⟩ := (show ObjOk X.prog X.w H s.heap a (.dT kvs) from I.hok a _ ea)
    exact PySem.W.kia_one PySem.W.kitx_dict I.kIn ⟨o, h1, h2.1⟩ e (fun z => nomatch z) h
  | @ins a C dx fs ea cl ha hn htk hm =>
    cases (show u = Value.ref a from rx)
    obtain ⟨mA, O, _⟩ := ins_get I.hok ea
    obtain ⟨od, J, _⟩ := O.look
    exact PySem.W.kia_one (PySem.W.kitx_own (cl.get _) cl.hd ha hn htk hm) I.kIn J e (fun z => nomatch z) h
end
end L2

namespace L2
open PySem PySem.Spec PyProof.Rows

/-! ### room -/
structure Room (k : Nat) (A : Around) : Prop where
  hd : A.handled = none
  dp : A.depth + 3 * k + 5 < recursionLimit
  un : A.units + 16 * k + 200 < cLine
theorem Room.mono {j k : Nat} {A : Around} (r : Room k A) (h : j ≤ k) : Room j A := ⟨r.hd, by have := r.dp; omega, by have := r.un; omega⟩
theorem Room.deeper {k : Nat} {A : Around} (r : Room (k + 1) A) (env : Env) : Room k (A.deeper env) :=
  ⟨r.hd, by have := r.dp; show A.depth + 1 + 3 * k + 5 < _; omega, by have := r.un; show A.units + 3 + 16 * k + 200 < _; omega⟩
theorem Room.in1 {k : Nat} {A : Around} (r : Room (k + 1) A) : Room k A.in1 :=
  ⟨r.hd, by have := r.dp; show A.depth + 3 * k + 5 < _; omega, by have := r.un; show A.units + 1 + 16 * k + 200 < _; omega⟩
theorem make_depth {A : Around} {C : Addr} {us : List Value} {kw : List (Str × Value)} : (A.under (.builtin "type.__call__" ⟨.ref C :: us, kw⟩)).depth = A.depth + 1 := by
  first | rfl | simp [Around.under, Code.weight, Code.isCreation, Code.isGuard, Code.isCaller, Code.frames, Code.isFrame, guardIds]
theorem make_units {A : Around} {C : Addr} {us : List Value} {kw : List (Str × Value)} : (A.under (.builtin "type.__call__" ⟨.ref C :: us, kw⟩)).units = A.units + 1 := by
  first | rfl | simp [Around.under, Code.cUnits, Code.frames, Code.isFrame]
theorem Room.make {k : Nat} {A : Around} (r : Room (k + 1) A) (C : Addr) (us : List Value) (kw : List (Str × Value)) : Room k (A.under (.builtin "type.__call__" ⟨.ref C :: us, kw⟩)) :=
  ⟨r.hd, by have := r.dp; rw [make_depth]; omega, by have := r.un; rw [make_units]; omega⟩
theorem Room.depth {k : Nat} {A : Around} (r : Room k A) : A.depth < recursionLimit := by have := r.dp; omega
theorem Room.units {k : Nat} {A : Around} (r : Room k A) : A.units + 64 < cLine := by have := r.un; omega
theorem Room.units0 {k : Nat} {A : Around} (r : Room k A) : A.units < cLine := by have := r.un; omega

/-! ### argument lists and displays -/
def tNil : TA := fun _ H Q => Q [] H
def tCons (ta : TE) (tr : TA) : TA := fun σ H Q => ta σ H fun x H1 => tr σ H1 fun xs H2 => Q (x :: xs) H2
section
variable {X : Cx} {e : Expr} {es : List Expr} {te : TE} {t : TA} {pos : Pos}
theorem pa_nil : PA X [] tNil := fun _ _ _ _ H Q I h => Calls.spliced_nil ⟨[], H, I, .nil, h⟩
theorem pa_cons (ha : PE X e te) (hr : PA X es t) (hs : starEach (e :: es) X.env = (false, eval e X.env) :: starEach es X.env := by rfl) : PA X (e :: es) (tCons te t) := by
  intro pos pins s σ H Q I h
  rw [hs]
  show wpAny _ _ (spliced ((false, eval e X.env) :: backTo pos (starEach es X.env))) _ _ s
  refine Calls.spliced_cons (thn (ha pins s σ H _ I h) fun u s1 ⟨x, H1, I1, r1, q1⟩ => ?_)
  exact thn (hr pos pins s1 σ H1 _ I1 q1) fun us s2 ⟨xs, H2, I2, r2, q2⟩ => ⟨x :: xs, H2, I2, .cons r1 r2, q2⟩

/-- a tuple, a list of written items -/
def tTup (t : TA) : TE := fun σ H Q => t σ H fun xs H1 => xs.length ≤ sizeLine ∧ ∀ p, H1 p = none → Q (.ref p) (upd H1 p (.tup xs))
def tLst (t : TA) : TE := fun σ H Q => t σ H fun xs H1 => xs.length ≤ sizeLine ∧ ∀ p, H1 p = none → Q (.ref p) (upd H1 p (.lst xs))
theorem pe_tup {x1} (h : PA X es t) : PE X (.Tuple es x1 pos) (tTup t) := by
  intro pins s σ H Q I hq
  refine wpAny_Tuple_spliced (thn (h pos pins s σ H _ I hq) fun us s1 ⟨xs, H1, I1, r, z, q⟩ => ⟨by rw [← r.length]; exact z, ?_⟩)
  have hf : H1 s1.heap.objs.size = none := I1.hok.fresh (Nat.le_refl _)
  refine ⟨.ref s1.heap.objs.size, upd H1 s1.heap.objs.size (.tup xs), I1.laid (t' := s1.toks) (fun b u e => Heap.get?_push_of_some _ e) (Nat.le_refl _) ?_, rfl, q _ hf⟩
  exact ⟨z, us, r, ⟨_, Heap.get?_push_size _ rfl, rfl, _, rfl⟩⟩
theorem pe_lst (h : PA X es t) : PE X (.List es pos) (tLst t) := by
  intro pins s σ H Q I hq
  refine wpAny_List_spliced (thn (h pos pins s σ H _ I hq) fun us s1 ⟨xs, H1, I1, r, z, q⟩ => ⟨by rw [← r.length]; exact z, ?_⟩)
  have hf : H1 s1.heap.objs.size = none := I1.hok.fresh (Nat.le_refl _)
  refine ⟨.ref s1.heap.objs.size, upd H1 s1.heap.objs.size (.lst xs), I1.laid (t' := s1.toks) (fun b u e => Heap.get?_push_of_some _ e) (Nat.le_refl _) ?_, rfl, q _ hf⟩
  exact ⟨z, us, 0, r, Heap.get?_push_size _ rfl⟩
end

/-! ### what a def promises -/
/-- a def's promise: the bound arguments in the parameters' order, the heap, the wanted end, the wanted exception -/
abbrev Sp := List V → Hp → VK → XK → Prop
/-- how an exception lies behind a call (file 08 gives it): the callers' frames, abstract heap and state ahead of the call, the wish, the exception, the state -/
abbrev CXT := List Env → Hp → Shared → XK → Value → Shared → Prop

/-- the state at a call -/
structure Env0 (P : Program) (w : World) (K : PySem.W.Frag) (mg : Str → Option Value) (base : Heap) (A : Around) (outer : List Env) (s : Shared) (H : Hp) : Prop where
  frames : A.frames = some outer
  mod : Mod K mg base
  bs : ∀ b o, base.get? b = some o → s.heap.get? b = some o ∧ H b = none
  bsz : base.objs.size ≤ s.heap.objs.size
  funs : s.heap.FunFrames base outer
  frf : ∀ b ∈ frs outer, H b = none
  hok : HOk P w H s.heap
  bare : AllBare s.gens
/-- a call's end -/
def CE (outer : List Env) (P : Program) (w : World) (H : Hp) (s : Shared) (Q : VK) (u : Value) (s' : Shared) : Prop :=
  ∃ v H', s'.os = s.os ∧ AllBare s'.gens ∧ Un (frs outer) [] H H' s.heap s'.heap ∧ HOk P w H' s'.heap ∧ RelV v u ∧ Q v H'
def CR (CX : CXT) (outer : List Env) (P : Program) (w : World) (H : Hp) (s : Shared) (Q : VK) (E : XK) (r : Result) (s' : Shared) : Prop :=
  match r with
  | .ok (.ret u) => CE outer P w H s Q u s'
  | .ok _ => False
  | .error e => CX outer H s E e s'
structure FnOk (P : Program) (w : World) (K : PySem.W.Frag) (mg : Str → Option Value) (base : Heap) (CX : CXT) (k : Nat) (f : Addr) (fd : FuncData) (ps : List Str) (sp : Sp) : Prop where
  len : ∀ vs H Q E, sp vs H Q E → vs.length = ps.length
  run : ∀ (A : Around) (outer : List Env) (s : Shared) (H : Hp) (args : Args) (us : List Value) (vs : List V) (Q : VK) (E : XK), Room k A → Env0 P w K mg base A outer s H → BindsTo s fd args (ps.zip us) → Vals vs us → sp vs H Q E →
    codeAny (model P w) A (.call (.ref f) args) (CR CX outer P w H s Q E) s
theorem FnOk.mono {P : Program} {w : World} {K : PySem.W.Frag} {mg : Str → Option Value} {base : Heap} {CX : CXT} {j k : Nat} {f : Addr} {fd : FuncData} {ps : List Str} {sp : Sp} (F : FnOk P w K mg base CX j f fd ps sp) (h : j ≤ k) :
    FnOk P w K mg base CX k f fd ps sp := ⟨F.len, fun A outer s H args us vs Q E hr => F.run A outer s H args us vs Q E (hr.mono h)⟩
/-- a weaker promise -/
theorem FnOk.imp {P : Program} {w : World} {K : PySem.W.Frag} {mg : Str → Option Value} {base : Heap} {CX : CXT} {k : Nat} {f : Addr} {fd : FuncData} {ps : List Str} {sp sp' : Sp} (F : FnOk P w K mg base CX k f fd ps sp)
    (h : ∀ vs H Q E, sp' vs H Q E → sp vs H Q E) : FnOk P w K mg base CX k f fd ps sp' :=
  ⟨fun vs H Q E q => F.len vs H Q E (h _ _ _ _ q), fun A outer s H args us vs Q E hr he hb hv hs => F.run A outer s H args us vs Q E hr he hb hv (h _ _ _ _ hs)⟩

theorem Env0.make {P : Program} {w : World} {K : PySem.W.Frag} {mg : Str → Option Value} {base : Heap} {A : Around} {outer : List Env} {s : Shared} {H : Hp} (e : Env0 P w K mg base A outer s H) (C : Addr) (us : List Value) (kw : List (Str × Value)) :
    Env0 P w K mg base (A.under (.builtin "type.__call__" ⟨.ref C :: us, kw⟩)) outer s H := ⟨by first | exact e.frames | (simpa [Around.under, Code.envs, Code.isFrame, pushEnvs] using e.frames), e.mod, e.bs, e.bsz, e.funs, e.frf, e.hok, e.bare⟩
theorem Env0.in1 {P : Program} {w : World} {K : PySem.W.Frag} {mg : Str → Option Value} {base : Heap} {A : Around} {outer : List Env} {s : Shared} {H : Hp} (e : Env0 P w K mg base A outer s H) :
    Env0 P w K mg base A.in1 outer s H := ⟨e.frames, e.mod, e.bs, e.bsz, e.funs, e.frf, e.hok, e.bare⟩

section
variable {X : Cx} {pins : List (Addr × Obj)} {σ : St} {H : Hp} {s s' : Shared}
/-- from a body: what a callee wants -/
theorem Inv.env0 (I : Inv X pins σ H s) : Env0 X.prog X.w X.K X.mg X.base X.A X.stack s H :=
  ⟨I.ok.frames, I.ok.mod, I.bs, Nat.le_trans I.ok.bsz I.sz, I.stack, I.stkFree, I.hok, I.bare⟩
/-- behind a call -/
theorem Inv.after {Q : VK} {u : Value} (I : Inv X pins σ H s) (h : CE X.stack X.prog X.w H s Q u s') : EP X pins σ Q u s' := by
  obtain ⟨v, H', os, bare, un, hok, r, q⟩ := h
  obtain ⟨hh, g, d, t, os'⟩ := s'
  obtain rfl : os' = s.os := os
  exact ⟨v, H', I.call (h' := hh) (g' := g) (d' := d) (t' := t) (ch := []) un hok bare (fun b z => absurd z (by simp)), r, q⟩
end

/-! ### calls -/
/-- f(..): the written arguments, then the defaults dvs; E: what is wanted of an exception -/
def tCall (sp : Sp) (dvs : List V) (E : XK) (t : TA) : TE := fun σ H Q => t σ H fun vs H1 => sp (vs ++ dvs) H1 Q E
/-- o.m(..) of an instance of the class at C -/
def tMeth (C : Addr) (m : Str) (sp : Sp) (dvs : List V) (E : XK) (ta : TE) (t : TA) : TE := fun σ H Q => ta σ H fun x H1 => ∃ a dx fs, x = .ref a ∧ H1 a = some (.ins C dx fs) ∧ fs.lookup m = none ∧
  t σ H1 fun vs H2 => sp (x :: (vs ++ dvs)) H2 Q E
/-- C(..): a new instance and its dict, then __init__ -/
def tMake (C : Addr) (sp : Sp) (dvs : List V) (E : XK) (t : TA) : TE := fun σ H Q => t σ H fun vs H1 => ∀ x dx, H1 x = none → H1 dx = none → dx ≠ x →
  sp (.ref x :: (vs ++ dvs)) (upd (upd H1 dx (.own x)) x (.ins C dx [])) (fun v H2 => v = .non ∧ Q (.ref x) H2) E

/-- how the parameters are bound: us the positional arguments, kw the keywords' values by name, ds the defaults that fill up -/
def Binds (K : PySem.W.Frag) (fd : FuncData) (ps : List Str) (ds : List Value) : Prop :=
  ∀ (s : Shared) (us : List Value), K.In s.heap → (us ++ ds).length = ps.length → BindsTo s fd ⟨us, []⟩ (ps.zip (us ++ ds))
/-- every parameter is given -/
theorem Binds.all {K : PySem.W.Frag} {fd : FuncData} {ps : List Str} (h : ∀ us : List Value, us.length = ps.length → bindArgs fd ⟨us, []⟩ = pure (ps.zip us)) : Binds K fd ps [] := fun s us _ hl => by
  rw [List.append_nil] at hl ⊢
  exact .of_eq (h us hl)

/-- an exception of a callee reaches what this body wants of exceptions -/
def Passes (CX : CXT) (X : Cx) (E : XK) : Prop := ∀ (pins : List (Addr × Obj)) (σ : St) (H : Hp) (s : Shared) (e : Value) (s' : Shared), Inv X pins σ H s → CX X.stack H s E e s' → X.xe e s'

section
variable {X : Cx} {CX : CXT} {k : Nat} {f C : Addr} {fd : FuncData} {ps : List Str} {sp : Sp} {dvs : List V} {ds : List Value} {E : XK} {x m : Str} {p pos apos : Pos} {e o : Expr} {es : List Expr} {ta : TE} {t : TA}

/-- the callee runs -/
theorem run_fn {pins : List (Addr × Obj)} {σ : St} {H : Hp} {s : Shared} {Q : VK} {us : List Value} {vs : List V} (F : FnOk X.prog X.w X.K X.mg X.base CX k f fd ps sp) (hr : Room k X.A) (hb : Binds X.K fd ps ds) (hd : Vals dvs ds) (hx : Passes CX X E)
    (I : Inv X pins σ H s) (r : Vals vs us) (h : sp (vs ++ dvs) H Q E) : wpAny (model X.prog X.w) X.A (call (.ref f) us) (EP X pins σ Q) X.xe s := by
  have r2 : Vals (vs ++ dvs) (us ++ ds) := r.append hd
  have hl : (us ++ ds).length = ps.length := by rw [← r2.length]; exact F.len _ _ _ _ h
  refine wpAny_call (codeAny_mono (F.run X.A X.stack s H ⟨us, []⟩ (us ++ ds) (vs ++ dvs) Q E hr I.env0 (hb s us I.kIn hl) r2 h) fun r s' hq => ?_)
  cases r with
  | error e => exact hx pins σ H s e s' I hq
  | ok fl =>
    cases fl with
    | ret u => exact I.after hq
    | next => exact False.elim hq
    | brk => exact False.elim hq
    | cont => exact False.elim hq

theorem pe_call (F : FnOk X.prog X.w X.K X.mg X.base CX k f fd ps sp) (hr : Room k X.A) (hg : Gl X x) (hm : X.mg x = some (.ref f)) (hk : PySem.W.keepIn X.K (.ref f) = true) (hb : Binds X.K fd ps ds) (hd : Vals dvs ds) (hx : Passes CX X E)
    (ha : PA X (e :: es) t) (hdb : (x == ("__debug__" : Str)) = false := by decide) (he : starEach (e :: es) X.env = (false, eval e X.env) :: starEach es X.env := by rfl) (hpl : (backTo pos (starEach es X.env)).any (·.1) = false := by rfl) :
    PE X (.Call (.Name x p) (e :: es) [] pos) (tCall sp dvs E t) := by
  intro pins s σ H Q I h
  refine wpAny_Call_Name_kw (ld_glob I hg hm ?_ hdb)
  refine PySem.W.callWith_K (h₀ := X.base) I.ok.mod.kin hk (thn (ha pos pins s σ H _ I h) fun us s1 ⟨vs, H1, I1, r, q⟩ => ⟨I1.kIn, ?_⟩) he hpl
  exact run_fn F hr hb hd hx I1 r q
theorem pe_call0 (F : FnOk X.prog X.w X.K X.mg X.base CX k f fd ps sp) (hr : Room k X.A) (hg : Gl X x) (hm : X.mg x = some (.ref f)) (hk : PySem.W.keepIn X.K (.ref f) = true) (hb : Binds X.K fd ps ds) (hd : Vals dvs ds) (hx : Passes CX X E)
    (hdb : (x == ("__debug__" : Str)) = false := by decide) : PE X (.Call (.Name x p) [] [] pos) (tCall sp dvs E tNil) := by
  intro pins s σ H Q I h
  refine wpAny_Call_Name_kw (ld_glob I hg hm ?_ hdb)
  exact PySem.W.callWith_K0 I.kIn hk (run_fn (us := []) F hr hb hd hx I .nil h)

/-- o.m(e, ..) -/
theorem pe_meth {pl : Sem Bool} (he : PE X o ta) (c : Cls X.K C) (hm : Meth X.K C m f) (F : FnOk X.prog X.w X.K X.mg X.base CX k f fd ps sp) (hr : Room k X.A) (hb : Binds X.K fd ps ds) (hd : Vals dvs ds) (hx : Passes CX X E) (ha : PA X (e :: es) t)
    (hst : starEach (e :: es) X.env = (false, eval e X.env) :: starEach es X.env := by rfl) (hpl : (backTo pos (starEach es X.env)).any (·.1) = false := by rfl)
    (ht : eval (.Call (.Attribute o m apos) (e :: es) [] pos) X.env = (do
      let ov ← eval o X.env
      standAt apos.atName
      let (f, first) ← holding [ov] (getMethod ov m pl)
      callWith pos f first (backTo pos (starEach (e :: es) X.env)) (backToKw pos (keywordEach [] X.env))) := by rfl) :
    PE X (.Call (.Attribute o m apos) (e :: es) [] pos) (tMeth C m sp dvs E ta t) := by
  intro pins s σ H Q I h
  refine PySem.W.methodCall_KW (pl := pl) (thn (he pins s σ H _ I h) fun u s1 ⟨x, H1, I1, rx, a, dx, fs, ex, ea, l, q⟩ => ?_) ht
  subst ex
  obtain rfl : u = Value.ref a := rx
  refine getmeth_ok I1 ea c hm l ?_
  refine PySem.W.callWith_K (first := [.ref a]) (h₀ := X.base) I.ok.mod.kin hm.kp (thn (ha pos pins s1 σ H1 _ I1 q) fun us s2 ⟨vs, H2, I2, r, q2⟩ => ⟨I2.kIn, ?_⟩) hst hpl
  exact run_fn (us := .ref a :: us) (vs := .ref a :: vs) F hr hb hd hx I2 (.cons rfl r) q2
/-- o.m() -/
theorem pe_meth0 {pl : Sem Bool} (he : PE X o ta) (c : Cls X.K C) (hm : Meth X.K C m f) (F : FnOk X.prog X.w X.K X.mg X.base CX k f fd ps sp) (hr : Room k X.A) (hb : Binds X.K fd ps ds) (hd : Vals dvs ds) (hx : Passes CX X E)
    (ht : eval (.Call (.Attribute o m apos) [] [] pos) X.env = (do
      let ov ← eval o X.env
      standAt apos.atName
      let (f, first) ← holding [ov] (getMethod ov m pl)
      callWith pos f first (backTo pos (starEach [] X.env)) (backToKw pos (keywordEach [] X.env))) := by rfl) :
    PE X (.Call (.Attribute o m apos) [] [] pos) (tMeth C m sp dvs E ta tNil) := by
  intro pins s σ H Q I h
  refine PySem.W.methodCall_KW (pl := pl) (thn (he pins s σ H _ I h) fun u s1 ⟨x, H1, I1, rx, a, dx, fs, ex, ea, l, q⟩ => ?_) ht
  subst ex
  obtain rfl : u = Value.ref a := rx
  refine getmeth_ok I1 ea c hm l ?_
  exact PySem.W.callWith_K0 (first := [.ref a]) I1.kIn hm.kp (run_fn (us := [.ref a]) (vs := [.ref a]) F hr hb hd hx I1 (.cons rfl .nil) q)

/-- what a class must have to be made -/
structure Mk (K : PySem.W.Frag) (C f : Addr) : Prop where
  makes : PySem.W.makesIn K C = true
  init : PySem.W.findIn K (.ref C) "__init__" = some (some (.ref f))
  fn : PySem.W.isFn K (.ref f) = true
  kp : PySem.W.keepIn K (.ref C) = true

theorem run_make {pins : List (Addr × Obj)} {σ : St} {H : Hp} {s : Shared} {Q : VK} {us : List Value} {vs : List V} (M : Mk X.K C f) (F : FnOk X.prog X.w X.K X.mg X.base CX k f fd ps sp) (hr : Room (k + 1) X.A) (hb : Binds X.K fd ps ds) (hd : Vals dvs ds)
    (hx : Passes CX X E) (I : Inv X pins σ H s) (r : Vals vs us)
    (h : ∀ x dx, H x = none → H dx = none → dx ≠ x → sp (.ref x :: (vs ++ dvs)) (upd (upd H dx (.own x)) x (.ins C dx [])) (fun v H2 => v = .non ∧ Q (.ref x) H2) E) :
    wpAny (model X.prog X.w) X.A (call (.ref C) us) (EP X pins σ Q) X.xe s := by
  have hq := h (s.heap.objs.size + 1) s.heap.objs.size (I.hok.fresh (Nat.le_succ _)) (I.hok.fresh (Nat.le_refl _)) (Nat.ne_of_lt (Nat.lt_succ_self _))
  have I2 := Inv.made (C := C) I
  have r2 : Vals (V.ref (s.heap.objs.size + 1) :: (vs ++ dvs)) (Value.ref (s.heap.objs.size + 1) :: (us ++ ds)) := .cons rfl (r.append hd)
  have hl : (Value.ref (s.heap.objs.size + 1) :: us ++ ds).length = ps.length := by
    have e := r2.length
    rw [F.len _ _ _ _ hq] at e
    exact e.symm
  refine wpAny_call (make_map (f := f) I.kIn M.makes M.init (beq_iff_eq.mp M.fn) (codeAny_mono (F.run _ X.stack _ _ ⟨Value.ref (s.heap.objs.size + 1) :: us, []⟩ (Value.ref (s.heap.objs.size + 1) :: (us ++ ds)) _ _ E (hr.make C us [])
    (I2.env0.make C us []) (hb _ (Value.ref (s.heap.objs.size + 1) :: us) I2.kIn hl) r2 hq) fun r s' hq' => ?_))
  cases r with
  | error e => exact hx pins σ _ _ e s' I2 hq'
  | ok fl =>
    cases fl with
    | ret u =>
      obtain ⟨v, H', I3, rv, ev, q3⟩ := I2.after hq'
      subst ev
      exact ⟨rv, ⟨V.ref (s.heap.objs.size + 1), H', I3, rfl, q3⟩⟩
    | next => exact False.elim hq'
    | brk => exact False.elim hq'
    | cont => exact False.elim hq'
theorem pe_make (M : Mk X.K C f) (F : FnOk X.prog X.w X.K X.mg X.base CX k f fd ps sp) (hr : Room (k + 1) X.A) (hg : Gl X x) (hm : X.mg x = some (.ref C)) (hb : Binds X.K fd ps ds) (hd : Vals dvs ds) (hx : Passes CX X E)
    (ha : PA X (e :: es) t) (hdb : (x == ("__debug__" : Str)) = false := by decide) (he : starEach (e :: es) X.env = (false, eval e X.env) :: starEach es X.env := by rfl) (hpl : (backTo pos (starEach es X.env)).any (·.1) = false := by rfl) :
    PE X (.Call (.Name x p) (e :: es) [] pos) (tMake C sp dvs E t) := by
  intro pins s σ H Q I h
  refine wpAny_Call_Name_kw (ld_glob I hg hm ?_ hdb)
  refine PySem.W.callWith_K (h₀ := X.base) I.ok.mod.kin M.kp (thn (ha pos pins s σ H _ I h) fun us s1 ⟨vs, H1, I1, r, q⟩ => ⟨I1.kIn, ?_⟩) he hpl
  exact run_make M F hr hb hd hx I1 r q
theorem pe_make0 (M : Mk X.K C f) (F : FnOk X.prog X.w X.K X.mg X.base CX k f fd ps sp) (hr : Room (k + 1) X.A) (hg : Gl X x) (hm : X.mg x = some (.ref C)) (hb : Binds X.K fd ps ds) (hd : Vals dvs ds) (hx : Passes CX X E)
    (hdb : (x == ("__debug__" : Str)) = false := by decide) : PE X (.Call (.Name x p) [] [] pos) (tMake C sp dvs E tNil) := by
  intro pins s σ H Q I h
  refine wpAny_Call_Name_kw (ld_glob I hg hm ?_ hdb)
  exact PySem.W.callWith_K0 I.kIn M.kp (run_make (us := []) M F hr hb hd hx I .nil h)
end

/-! ### keywords -/
/-- the values of the keywords, from the left -/
def PK (X : Cx) (kws : List Keyword) (t : TA) : Prop :=
  ∀ (pos : Pos) (pins : List (Addr × Obj)) (s : Shared) (σ : St) (H : Hp) (Q : List V → Hp → Prop), Inv X pins σ H s → t σ H Q → wpAny (model X.prog X.w) X.A (evalAll ((backToKw pos (keywordEach kws X.env)).map (·.2))) (AP X pins σ Q) X.xe s
section
variable {X : Cx} {CX : CXT} {k : Nat} {f C : Addr} {fd : FuncData} {ps ks : List Str} {sp : Sp} {E : XK} {x m : Str} {p pos apos kpos : Pos} {e o : Expr} {es : List Expr} {kws : List Keyword} {te ta : TE} {t tk : TA} {nm : Option Str}
theorem pk_nil : PK X [] tNil := fun _ _ _ _ H Q I h => wpAny_evalAll_nil ⟨[], H, I, .nil, h⟩
theorem pk_cons (ha : PE X e te) (hr : PK X kws t) : PK X (⟨nm, e, kpos⟩ :: kws) (tCons te t) := by
  intro pos pins s σ H Q I h
  show wpAny _ _ (evalAll ((do let v ← eval e X.env; standAt pos; pure v) :: (backToKw pos (keywordEach kws X.env)).map (·.2))) _ _ s
  refine wpAny_evalAll_cons (wpAny_bind (thn (ha pins s σ H _ I h) fun u s1 ⟨x, H1, I1, r1, q1⟩ => wpAny_bind (wpAny_standAt (wpAny_pure ?_))))
  exact thn (hr pos pins s1 σ H1 _ I1 q1) fun us s2 ⟨xs, H2, I2, r2, q2⟩ => ⟨x :: xs, H2, I2, .cons r1 r2, q2⟩

/-- how a call with keywords binds: g puts the positional values us and the keywords' values ws (names ks) in the parameters' order, defaults among them -/
structure KBinds (K : PySem.W.Frag) (fd : FuncData) (ps ks : List Str) (g : List Value → List Value → List Value) (gV : List V → List V → List V) : Prop where
  to : ∀ (s : Shared) (us ws : List Value), K.In s.heap → (g us ws).length = ps.length → BindsTo s fd ⟨us, ks.zip ws⟩ (ps.zip (g us ws))
  rel : ∀ {vs : List V} {us : List Value} {zs : List V} {ws : List Value}, Vals vs us → Vals zs ws → Vals (gV vs zs) (g us ws)
def tCallK (sp : Sp) (gV : List V → List V → List V) (E : XK) (t tk : TA) : TE := fun σ H Q => t σ H fun vs H1 => tk σ H1 fun zs H2 => sp (gV vs zs) H2 Q E
variable {g : List Value → List Value → List Value} {gV : List V → List V → List V}
theorem run_fnk {pins : List (Addr × Obj)} {σ : St} {H : Hp} {s : Shared} {Q : VK} {us ws : List Value} {vs zs : List V} (F : FnOk X.prog X.w X.K X.mg X.base CX k f fd ps sp) (hr : Room k X.A) (hb : KBinds X.K fd ps ks g gV) (hx : Passes CX X E)
    (I : Inv X pins σ H s) (r : Vals vs us) (rz : Vals zs ws) (h : sp (gV vs zs) H Q E) : wpAny (model X.prog X.w) X.A (call (.ref f) us (ks.zip ws)) (EP X pins σ Q) X.xe s := by
  have r2 := hb.rel r rz
  have hl : (g us ws).length = ps.length := by rw [← r2.length]; exact F.len _ _ _ _ h
  refine wpAny_call (codeAny_mono (F.run X.A X.stack s H ⟨us, ks.zip ws⟩ (g us ws) (gV vs zs) Q E hr I.env0 (hb.to s us ws I.kIn hl) r2 h) fun r s' hq => ?_)
  cases r with
  | error e => exact hx pins σ H s e s' I hq
  | ok fl =>
    cases fl with
    | ret u => exact I.after hq
    | next => exact False.elim hq
    | brk => exact False.elim hq
    | cont => exact False.elim hq
/-- f(e, .., k = v, ..) -/
theorem pe_callK (F : FnOk X.prog X.w X.K X.mg X.base CX k f fd ps sp) (hr : Room k X.A) (hg : Gl X x) (hm : X.mg x = some (.ref f)) (hk : PySem.W.keepIn X.K (.ref f) = true) (hb : KBinds X.K fd ps ks g gV) (hx : Passes CX X E)
    (ha : PA X (e :: es) t) (hkw : PK X kws tk) (hall : (backToKw pos (keywordEach kws X.env)).all (·.1.isSome) = true := by rfl) (hks : (backToKw pos (keywordEach kws X.env)).filterMap (·.1) = ks := by rfl)
    (hdb : (x == ("__debug__" : Str)) = false := by decide) (he : starEach (e :: es) X.env = (false, eval e X.env) :: starEach es X.env := by rfl)
    (hpl : ((backTo pos (starEach (e :: es) X.env)).any (·.1) || (backToKw pos (keywordEach kws X.env)).any (·.1.isNone)) = false := by rfl) :
    PE X (.Call (.Name x p) (e :: es) kws pos) (tCallK sp gV E t tk) := by
  intro pins s σ H Q I h
  refine wpAny_Call_Name_kw (ld_glob I hg hm ?_ hdb)
  refine PySem.W.callWith_KW (h₀ := X.base) I.ok.mod.kin hk hall (thn (ha pos pins s σ H _ I h) fun us s1 ⟨vs, H1, I1, r, q⟩ => ?_) hpl he
  refine thn (hkw pos pins s1 σ H1 _ I1 q) fun ws s2 ⟨zs, H2, I2, rz, q2⟩ => ⟨I2.kIn, ?_⟩
  rw [hks]
  exact run_fnk F hr hb hx I2 r rz q2
end

/-! ### a def's body keeps its promise -/
/-- names: the parameters first -/
structure FnScope (N P : List Str) (sc : Scope) : Prop where
  kind : sc.kind = .function
  co : sc.isCoroutine = false
  gen : sc.isGenerator = false
  nd : N.Nodup
  pre : N.take P.length = P
  par : ∀ x ∈ P, sc.names.lookup x = some .local ∨ sc.names.lookup x = some .cell
  nofree : ∀ y ∈ sc.names, y.2 ≠ .free

theorem bindL_out {kindOf : Str → Option NameKind} {x : Str} : ∀ {binds : List (Str × Value)} {m : Str → Option Value}, (∀ v, (x, v) ∉ binds) → bindL kindOf binds m x = m x
  | [], _, _ => rfl
  | (n, v) :: r, m, h => by
    unfold bindL
    rw [bindL_out fun w hw => h w (List.mem_cons_of_mem _ hw)]
    split
    · have : x ≠ n := by rintro rfl; exact h v List.mem_cons_self
      simp [this]
    · rfl
theorem bindC_out {kindOf : Str → Option NameKind} {x : Str} : ∀ {binds : List (Str × Value)} {m : Str → Option Value}, (∀ v, (x, v) ∉ binds) → bindC kindOf binds m x = m x
  | [], _, _ => rfl
  | (n, v) :: r, m, h => by
    unfold bindC
    rw [bindC_out fun w hw => h w (List.mem_cons_of_mem _ hw)]
    split
    · rfl
    · have : x ≠ n := by rintro rfl; exact h v List.mem_cons_self
      simp [this]
theorem bindL_get {kindOf : Str → Option NameKind} {x : Str} {v : Value} : ∀ {P : List Str} {vs : List Value} {i : Nat} {m : Str → Option Value}, P.Nodup → P[i]? = some x → vs[i]? = some v → kindOf x = some .local →
    bindL kindOf (P.zip vs) m x = some v
  | [], _, _, _, _, h, _, _ => by simp at h
  | _ :: _, [], _, _, _, _, h, _ => by simp at h
  | p :: P, w :: vs, 0, m, nd, h1, h2, hk => by
    simp at h1 h2; subst h1; subst h2
    show bindL kindOf ((p, w) :: P.zip vs) m p = _
    unfold bindL
    rw [bindL_out fun v hv => (List.nodup_cons.mp nd).1 (List.of_mem_zip hv).1, if_pos hk]
    simp
  | p :: P, w :: vs, i + 1, m, nd, h1, h2, hk => by
    show bindL kindOf ((p, w) :: P.zip vs) m x = _
    unfold bindL
    exact bindL_get (i := i) (List.nodup_cons.mp nd).2 (by simpa using h1) (by simpa using h2) hk
theorem bindC_get {kindOf : Str → Option NameKind} {x : Str} {v : Value} : ∀ {P : List Str} {vs : List Value} {i : Nat} {m : Str → Option Value}, P.Nodup → P[i]? = some x → vs[i]? = some v → kindOf x ≠ some .local →
    bindC kindOf (P.zip vs) m x = some v
  | [], _, _, _, _, h, _, _ => by simp at h
  | _ :: _, [], _, _, _, _, h, _ => by simp at h
  | p :: P, w :: vs, 0, m, nd, h1, h2, hk => by
    simp at h1 h2; subst h1; subst h2
    show bindC kindOf ((p, w) :: P.zip vs) m p = _
    unfold bindC
    rw [bindC_out fun v hv => (List.nodup_cons.mp nd).1 (List.of_mem_zip hv).1, if_neg hk]
    simp
  | p :: P, w :: vs, i + 1, m, nd, h1, h2, hk => by
    show bindC kindOf ((p, w) :: P.zip vs) m x = _
    unfold bindC
    exact bindC_get (i := i) (List.nodup_cons.mp nd).2 (by simpa using h1) (by simpa using h2) hk

/-- the names' values at the entry -/
def start (N : List Str) (vs : List V) : St := vs.map some ++ List.replicate (N.length - vs.length) none

/-- the context of a def's body, at its entry; an exception leaves the frame, then lies as CX says -/
def cxOf (CX : CXT) (P : Program) (w : World) (K : PySem.W.Frag) (mg : Str → Option Value) (base : Heap) (N : List Str) (qual : Str) (scope : Scope) (f : Addr) (cd : Value) (A : Around) (outer : List Env) (s : Shared) (H : Hp) (E : XK) : Cx where
  prog := P
  w := w
  K := K
  mg := mg
  base := base
  A := A.deeper (envOfC qual scope s.heap.objs.size f cd)
  N := N
  s₀ := s
  H₀ := H
  env := envOfC qual scope s.heap.objs.size f cd
  outer := outer
  stack := envOfC qual scope s.heap.objs.size f cd :: outer
  ex := []
  calm := true
  fn := fun _ => true
  pn := []
  xe := fun e s' => wpAny (model P w) (A.deeper (envOfC qual scope s.heap.objs.size f cd)) (leaving (envOfC qual scope s.heap.objs.size f cd) e) (fun _ s'' => CX outer H s E e s'') (fun e' s'' => CX outer H s E e' s'') s'

theorem cell_has {sc : Scope} {n : Nat} {x : Str} (h : sc.names.lookup x = some .cell) : ∃ c, (cellsFrom n sc.names []).lookup x = some c := by
  have q := PySem.W.cellsFrom_some sc.names n [] (.inl h)
  exact Option.isSome_iff_exists.mp q

theorem inv_start {CX : CXT} {P : Program} {w : World} {K : PySem.W.Frag} {mg : Str → Option Value} {base : Heap} {N ps : List Str} {qual : Str} {scope : Scope} {f : Addr} {cd : Value} {A : Around} {outer : List Env} {s s1 : Shared} {H : Hp} {E : XK} {us : List Value} {vs : List V}
    (S : FnScope N ps scope) (hd : A.handled = none) (e0 : Env0 P w K mg base A outer s H) (hl : vs.length = ps.length) (r : Vals vs us)
    (x : InCallC s s.heap.objs.size (bindL (envOfC qual scope s.heap.objs.size f cd).kindOf (ps.zip us) fun _ => none) (cellsFrom (s.heap.objs.size + 1) scope.names []) (bindC (envOfC qual scope s.heap.objs.size f cd).kindOf (ps.zip us) fun _ => none) s1) :
    Inv (cxOf CX P w K mg base N qual scope f cd A outer s H E) [] (start N vs) H s1 := by
  have hpl : ps.length ≤ N.length := by have := congrArg List.length S.pre; rw [List.length_take] at this; omega
  obtain ⟨h1, tk, rfl, hk⟩ := x.done
  have noA : ∀ b : Addr, b ∉ (cxOf CX P w K mg base N qual scope f cd A outer s H E).ex := fun b z => absurd (show b ∈ ([] : List Addr) from z) (by simp)
  refine ⟨⟨e0.mod, S.kind, rfl, rfl, Nat.le_refl _, fun y z c h1 h2 => ?_, fun y hy => ?_, fun y c _ h => ?_, fun _ => hd, Around.frames_deeper e0.frames, .inr ⟨rfl, rfl⟩, fun b z => absurd z (noA b), e0.bs, e0.bsz, fun b _ _ => noA b, fun b z => absurd z (noA b), e0.funs, e0.frf⟩,
    rfl, e0.bare, Un.kept hk, ⟨_, x.toInCall.ns, fun i y v h1 h2 h3 => ?_⟩, fun y c h => ⟨_, x.cell y c h⟩, e0.hok.fresh (Nat.le_refl _), fun y c h => ?_, fun p hp => absurd (show p ∈ ([] : List (Addr × Obj)) from hp) (by simp), e0.hok.kept hk, ?_⟩
  · exact name_of_addr x.apart (PySem.mem_of_lookup h1) (PySem.mem_of_lookup h2)
  · have hy : scope.names.lookup y = some .cell ∨ scope.names.lookup y = some .free := hy
    rcases hy with hy | hy
    · exact cell_has hy
    · exact absurd rfl (S.nofree _ (PySem.mem_of_lookup hy))
  · exact Nat.le_of_lt (x.above y c (PySem.mem_of_lookup h))
  · have hi : i < vs.length := by
      unfold start at h2
      by_cases hi : i < vs.length
      · exact hi
      · rw [List.getElem?_append_right (by simpa using hi)] at h2
        rw [List.getElem?_replicate] at h2
        split at h2 <;> cases h2
    have ha : vs[i]? = some v := by
      unfold start at h2
      rw [List.getElem?_append_left (by simpa using hi), List.getElem?_map] at h2
      cases e : vs[i]? with
      | none => rw [e] at h2; cases h2
      | some a => rw [e] at h2; cases h2; rfl
    obtain ⟨u, hu, rv⟩ := r.get ha
    have hp : ps[i]? = some y := by
      rw [← S.pre, List.getElem?_take_of_lt (by omega)]; exact h1
    have ndP : ps.Nodup := by rw [← S.pre]; exact S.nd.sublist (List.take_sublist _ _)
    refine ⟨u, rv, ?_⟩
    rcases S.par y (List.mem_of_getElem? hp) with k | k
    · exact .inl ⟨k, bindL_get ndP hp hu k⟩
    · obtain ⟨c, e⟩ := cell_has (n := s.heap.objs.size + 1) k
      refine .inr ⟨.inl k, c, e, ?_⟩
      have q := x.cell y c e
      rw [bindC_get ndP hp hu (by show scope.names.lookup y ≠ _; rw [k]; decide)] at q
      exact q
  · exact e0.hok.fresh (Nat.le_of_lt (x.above y c (PySem.mem_of_lookup h)))
  · unfold start
    show _ = N.length
    rw [List.length_append, List.length_map, List.length_replicate]
    omega

/-- THE RULE: a def (or a method) of the text, by its body. The body's reading t is chosen for each entry; it is run at the parameters' values -/
theorem fn_of {CX : CXT} {P : Program} {w : World} {K : PySem.W.Frag} {mg : Str → Option Value} {base : Heap} {k : Nat} {f : Addr} {name qual : Str} {params : Arguments} {body : List Stmt} {scope : Scope} {dV kV doc pm cdv ct oc : Value} {an od : Option Addr}
    {osl : Array (Option Value)} {N ps : List Str} {sp : Sp} (lk : K.lookup f = some ⟨oc, od, .func (PySem.W.fnOf name qual params body scope dV kV doc pm an cdv ct), osl⟩) (hcd : PySem.W.codeIn K cdv qual = true) (S : FnScope N ps scope)
    (len : ∀ vs H Q E, sp vs H Q E → vs.length = ps.length)
    (hbody : ∀ (A : Around) (outer : List Env) (s : Shared) (H : Hp) (vs : List V) (Q : VK) (E : XK), Room k (A.deeper (envOfC qual scope s.heap.objs.size f cdv)) → sp vs H Q E →
      ∃ t, PSs (cxOf CX P w K mg base N qual scope f cdv A outer s H E) body t ∧ t { nx := fun _ H' => Q .non H', rt := Q } (start N vs) H) :
    FnOk P w K mg base CX (k + 1) f (PySem.W.fnOf name qual params body scope dV kV doc pm an cdv ct) ps sp := by
  refine ⟨len, fun A outer s H args us vs Q E hr e0 hb r hsp => ?_⟩
  have hl := len _ _ _ _ hsp
  have KX : K.In s.heap := e0.mod.kin.keeps fun b o e => (e0.bs b o e).1
  have lim : s.heap.NoLimit := e0.mod.nolimit.keeps fun b o e => (e0.bs b o e).1
  have hkind : ∀ y ∈ ps.zip us, scope.names.lookup y.1 = some .local ∨ (scope.names.lookup y.1 = some .cell ∧ ((cellsFrom (s.heap.objs.size + 1) scope.names []).lookup y.1).isSome = true) := fun ⟨n, v⟩ hy => by
    rcases S.par n (List.of_mem_zip hy).1 with q | q
    · exact .inl q
    · exact .inr ⟨q, PySem.W.cellsFrom_some _ _ _ (.inl q)⟩
  refine codeAny_call_function hr.depth (KX _ _ lk) rfl S.co S.gen rfl (PySem.W.codeRec_of KX hcd) (hb _ _ _ _ ?_)
  refine wpAny_newFunctionEnv_cells S.kind hkind fun env he s1 x => ?_
  subst he
  refine ⟨lim.keeps x.toInCall.keep, codeAny_func ?_⟩
  obtain ⟨t, ht, hq⟩ := hbody A outer s H vs Q E (hr.deeper _) hsp
  have I : Inv (cxOf CX P w K mg base N qual scope f cdv A outer s H E) [] (start N vs) H s1 := inv_start S hr.hd e0 hl r x
  refine wpAny_mono (ht [] s1 (start N vs) H _ I hq) (fun fl s' hs => ?_) fun e s' hs => hs
  have fin : ∀ {σ' : St} {H' : Hp} {v : V} {u : Value}, Inv (cxOf CX P w K mg base N qual scope f cdv A outer s H E) [] σ' H' s' → RelV v u → Q v H' → CE outer P w H s Q u s' :=
    fun {σ' H' v u} J rv q => ⟨v, H', J.os, J.bare, J.base, J.hok, rv, q⟩
  cases fl with
  | ret u =>
    obtain ⟨v, σ', H', J, rv, q⟩ := hs
    exact fin J rv q
  | next =>
    obtain ⟨σ', H', J, q⟩ := hs
    exact fin (v := V.non) (u := Value.none) J rfl q
  | brk =>
    obtain ⟨_, _, _, q⟩ := hs
    exact False.elim q
  | cont =>
    obtain ⟨_, _, _, q⟩ := hs
    exact False.elim q
end L2

namespace L2
open PySem PySem.Spec PyProof.Rows
section
variable {X : Cx} {x : Str} {p pos : Pos} {e : Expr} {es : List Expr} {t : TA} {id T : String} {r : List V → Hp → VK → Prop}

def tCB (r : List V → Hp → VK → Prop) (t : TA) : TE := fun σ H Q => t σ H fun vs H1 => r vs H1 Q
/-- f(e, ..), f a built-in function -/
theorem pe_callB (hc : CallR X (.builtin id) r) (hg : Gl X x) (hm : X.mg x = none) (hv : bootBuiltins x = some (.builtin id)) (ha : PA X (e :: es) t) (hn : x ≠ "__name__" := by decide) (hdb : (x == ("__debug__" : Str)) = false := by decide)
    (he : starEach (e :: es) X.env = (false, eval e X.env) :: starEach es X.env := by rfl) (hpl : (backTo pos (starEach es X.env)).any (·.1) = false := by rfl) : PE X (.Call (.Name x p) (e :: es) [] pos) (tCB r t) := by
  intro pins s σ H Q I h
  refine wpAny_Call_Name_kw (ld_blt I hg hm hv ?_ hn hdb)
  exact PyProof.Rows.callWith_builtin1 (thn (ha pos pins s σ H _ I h) fun us s1 ⟨vs, H1, I1, r1, q1⟩ => hc pins s1 σ H1 vs us Q I1 r1 q1) he hpl
/-- T(e, ..), T a built-in type -/
theorem pe_callTy (hc : CallR X (.type T) r) (hg : Gl X x) (hm : X.mg x = none) (hv : bootBuiltins x = some (.type T)) (ha : PA X (e :: es) t) (hn : x ≠ "__name__" := by decide) (hdb : (x == ("__debug__" : Str)) = false := by decide)
    (he : starEach (e :: es) X.env = (false, eval e X.env) :: starEach es X.env := by rfl) (hpl : (backTo pos (starEach es X.env)).any (·.1) = false := by rfl) : PE X (.Call (.Name x p) (e :: es) [] pos) (tCB r t) := by
  intro pins s σ H Q I h
  refine wpAny_Call_Name_kw (ld_blt I hg hm hv ?_ hn hdb)
  exact PyProof.Rows.callWith_type1 (thn (ha pos pins s σ H _ I h) fun us s1 ⟨vs, H1, I1, r1, q1⟩ => hc pins s1 σ H1 vs us Q I1 r1 q1) he hpl
/-- T() -/
theorem pe_callTy0 (hc : CallR X (.type T) r) (hg : Gl X x) (hm : X.mg x = none) (hv : bootBuiltins x = some (.type T)) (hn : x ≠ "__name__" := by decide) (hdb : (x == ("__debug__" : Str)) = false := by decide) :
    PE X (.Call (.Name x p) [] [] pos) (tCB r tNil) := by
  intro pins s σ H Q I h
  refine wpAny_Call_Name_kw (ld_blt I hg hm hv ?_ hn hdb)
  exact PyProof.Rows.callWith_type0 (hc pins s σ H [] [] Q I .nil h)
end
end L2

namespace HT
open PySem PyProof.Rows

/-- t < u of tuples of ints -/
def lexLt : List Int → List Int → Bool
  | [], [] => false
  | [], _ :: _ => true
  | _ :: _, [] => false
  | x :: xs, y :: ys => if x = y then lexLt xs ys else decide (x < y)
theorem lexLt_cons (x y : Int) (xs ys : List Int) : lexLt (x :: xs) (y :: ys) = if x = y then lexLt xs ys else decide (x < y) := rfl
theorem lexLt_nil_nil : lexLt [] [] = false := rfl
theorem lexLt_nil_cons (y : Int) (ys : List Int) : lexLt [] (y :: ys) = true := rfl
theorem lexLt_cons_nil (x : Int) (xs : List Int) : lexLt (x :: xs) [] = false := rfl

theorem eqAt_int (A : Around) (s : Shared) (a : Int) (t : Tok) (c : Int) (u : Tok) : ∃ e, SeqAt.EqAt A s (.int a t) (.int c u) e ∧ (e = true ↔ a = c) :=
  ⟨(a == c), SeqAt.EqAt.int_int a t c u, by simp⟩
theorem rcLt_int (A : Around) (s : Shared) (a : Int) (t : Tok) (c : Int) (u : Tok) (prog : Program) (w : World) (E : Value → Shared → Prop) (Q : Value → Shared → Prop) (h : Q (.bool (decide (a < c))) s) :
    wpAny (model prog w) A (richCompare .Lt (.int a t) (.int c u)) Q E s :=
  (PyProof.Rows.lt_int h : wpAny (model prog w) A (compareOp .Lt (.int a t) (.int c u)) Q E s)

section
open PySem.SeqAt
open PySem.AutoSeq1 (wpAny_loadPart')
open PySem.MeetsSeq PySem.MeetsSeq2 PySem.MeetsSeq3

theorem tuple_lt_ints (l b : Addr) (items items2 : Array Value) (n n2 : Nat) (dd dd2 : Option Addr) (sl sl2 : Array (Option Value)) (ns ms : List Int) (hi : IntsAre items.toList ns) (hj : IntsAre items2.toList ms) :
    Meets (Builtin.«tuple.__lt__» ⟨[.ref l, .ref b], []⟩)
      (fun _ R s => s.heap.get? l = some { cls := .type "tuple", dict := dd, data := .seq items n, slots := sl } ∧ s.heap.get? b = some { cls := .type "tuple", dict := dd2, data := .seq items2 n2, slots := sl2 } ∧
        R (.ok (.ret (.bool (lexLt ns ms)))) s) :=
  .of_wp fun prog w A R s h => by
    obtain ⟨hp, g, d, tk, os⟩ := s; obtain ⟨hl, hb, h⟩ := h
    have f2 := AutoSeq1.sub_tuple_tuple
    have z1 : items.size = ns.length := by rw [← hi.length]; simp
    have z2 : items2.size = ms.length := by rw [← hj.length]; simp
    wp_walk using wpAny_loadPart' hl, wpAny_loadPart' hb, wpAny_forIn_list _ (fun rest b s' => b.1 = none ∧ s' = ⟨hp, g, d, tk, os⟩ ∧ ∃ (vs ws : List Value) (ns' ms' : List Int), rest = vs.zip ws ∧
      IntsAre vs ns' ∧ IntsAre ws ms' ∧ ns'.length + items2.size = ms'.length + items.size ∧ R (.ok (.ret (.bool (lexLt ns' ms')))) ⟨hp, g, d, tk, os⟩) _
    case turn =>
      rintro ⟨y, x⟩ rest b s' ⟨hb', rfl, vs, ws, ns', ms', hz, hvi, hwi, hlen, hR⟩
      cases hvi with
      | nil => rw [List.zip_nil_left] at hz; cases hz
      | cons a t hvi' =>
        cases hwi with
        | nil => rw [List.zip_nil_right] at hz; cases hz
        | cons c u hwi' =>
          rw [List.zip_cons_cons] at hz
          injection hz with hyx hrest
          injection hyx with hy hx
          subst hy hx
          rw [lexLt_cons] at hR
          simp only [List.length_cons] at hlen
          obtain ⟨e, he, hiff⟩ := eqAt_int A.in1 ⟨hp, g, d, tk, os⟩ a t c u
          refine wpAny_bind (he prog w _ _ ?_)
          cases e with
          | true =>
            rw [if_pos (hiff.mp rfl)] at hR
            wp_walk
            exact ⟨rfl, rfl, _, _, _, _, hrest, hvi', hwi', by omega, hR⟩
          | false =>
            rw [if_neg (fun q => absurd (hiff.mpr q) Bool.false_ne_true)] at hR
            have hri := rcLt_int A.in1 ⟨hp, g, d, tk, os⟩ a t c u prog w
            wp_walk using hri
            exact ⟨_, rfl, by simpa using hR⟩
    case fin =>
      rintro ⟨b1, b2⟩ s' ⟨hb', rfl, vs, ws, ns', ms', hz, hvi, hwi, hlen, hR⟩
      simp only at hb'
      subst hb'
      have hv : lexLt ns' ms' = decide (items.size < items2.size) := by
        cases hvi with
        | nil =>
          cases hwi with
          | nil =>
            simp only [List.length_nil] at hlen
            rw [lexLt_nil_nil]
            exact (decide_eq_false (by omega)).symm
          | cons c u hw =>
            simp only [List.length_nil, List.length_cons] at hlen
            rw [lexLt_nil_cons]
            exact (decide_eq_true (by omega)).symm
        | cons a t hv =>
          cases hwi with
          | nil =>
            simp only [List.length_nil, List.length_cons] at hlen
            rw [lexLt_cons_nil]
            exact (decide_eq_false (by omega)).symm
          | cons c u hw =>
            rw [List.zip_cons_cons] at hz
            cases hz
      rw [hv] at hR
      wp_walk
      exact ⟨_, rfl, by simpa [Builtin.Tuple.tupleCompareSizes] using hR⟩
    case h =>
      exact ⟨rfl, rfl, items.toList, items2.toList, ns, ms, rfl, hi, hj, by omega, h⟩
end

section
variable {prog : Program} {w : World} {A : Around} {E : Value → Shared → Prop} {s : Shared}

theorem lt_tupInts {l b : Addr} {items items2 : Array Value} {ns ms : List Int} {Q : Value → Shared → Prop} (hl : IsTup s.heap l items) (hb : IsTup s.heap b items2) (hi : IntsAre items.toList ns) (hj : IntsAre items2.toList ms)
    (hu : A.units < cLine) (h : Q (.bool (lexLt ns ms)) s) : wpAny (model prog w) A (compareOp .Lt (.ref l) (.ref b)) Q E s := by
  obtain ⟨⟨cls, dd, data, sl⟩, ho, hc, n, hd⟩ := id hl
  obtain ⟨⟨cls2, dd2, data2, sl2⟩, ho2, hc2, n2, hd2⟩ := id hb
  simp only at hc hd hc2 hd2
  subst hc hd hc2 hd2
  exact richCompare_meets_room (op := .Lt) ⟨_, ho, rfl⟩ ⟨_, ho2, rfl⟩ PySem.F.slot_tuple_lt PySem.F.entry_tuple_lt (PySem.F.args_tuple_lt_2 _ _) (tuple_lt_ints l b items items2 n n2 dd dd2 sl sl2 ns ms hi hj)
    ⟨ho, ho2, show Value.bool (lexLt ns ms) ≠ Value.notImplemented ∧ Q (.bool (lexLt ns ms)) s from ⟨(fun x => nomatch x), h⟩⟩ hu

/-- t + u, t not empty -/
theorem cat_tup {t b : Addr} {vs ws : List Value} {Q : Value → Shared → Prop} (ht : IsTup s.heap t vs.toArray) (hb : IsTup s.heap b ws.toArray) (hv : vs ≠ [])
    (h1 : ws = [] → Q (.ref t) s) (h2 : ws ≠ [] → Q (.ref s.heap.objs.size) { s with heap := s.heap.push { cls := .type "tuple", data := .seq (vs ++ ws).toArray } })
    (hsz : vs.length + ws.length ≤ sizeLine) : wpAny (model prog w) A (binaryOp .Add (.ref t) (.ref b)) Q E s := by
  obtain ⟨⟨cls, dd, data, sl⟩, ho, hc, n, hd⟩ := id ht
  obtain ⟨⟨cls2, dd2, data2, sl2⟩, ho2, hc2, n2, hd2⟩ := id hb
  simp only at hc hd hc2 hd2
  subst hc hd hc2 hd2
  have e : vs.toArray ++ ws.toArray = (vs ++ ws).toArray := by simp
  by_cases hw : ws = []
  · exact concat_meets ⟨_, ho, rfl⟩ ⟨_, ho2, rfl⟩ noFill_tuple_add seq_tuple_add PySem.F.slot_tuple_add PySem.F.entry_tuple_add (PySem.F.args_tuple_add_2 _ _)
      (tuple_addW1 t b vs.toArray ws.toArray n n2 dd dd2 sl sl2 (by simpa using hv) (by simp [hw])) ⟨ho, ho2, h1 hw⟩
  · refine concat_meets ⟨_, ho, rfl⟩ ⟨_, ho2, rfl⟩ noFill_tuple_add seq_tuple_add PySem.F.slot_tuple_add PySem.F.entry_tuple_add (PySem.F.args_tuple_add_2 _ _)
      (tuple_addW2 t b vs.toArray ws.toArray n n2 dd dd2 sl sl2 (by simpa using hv) (by simpa using hw) (by rw [List.size_toArray, List.size_toArray]; exact hsz)) ⟨ho, ho2, ?_⟩
    rw [e]
    exact h2 hw

/-! ### t[a:b], not the whole -/
/-- a slice's bound as a place among n (d where it is left out) -/
def sIx (n d : Nat) : Option Int → Nat
  | none => d
  | some v => if v < 0 then (v + (n : Int)).toNat else min v.toNat n
theorem sIx_none (n d : Nat) : sIx n d none = d := rfl
theorem sIx_nat (n d k : Nat) : sIx n d (some (k : Int)) = min k n := by
  show (if (k : Int) < 0 then ((k : Int) + (n : Int)).toNat else min (k : Int).toNat n) = min k n
  rw [if_neg (by omega), Int.toNat_natCast]
theorem sIx_le (n d : Nat) (hd : d ≤ n) (o : Option Int) : sIx n d o ≤ n := by
  cases o with
  | none => exact hd
  | some v =>
    show (if v < 0 then (v + (n : Int)).toNat else min v.toNat n) ≤ n
    by_cases hv : v < 0
    · rw [if_pos hv]; omega
    · rw [if_neg hv]; exact Nat.min_le_right _ _
theorem clip_eq (v : Int) (n d : Nat) : (if v < 0 then max (v + (n : Int)) 0 else min v (n : Int)) = ((sIx n d (some v) : Nat) : Int) := by
  show (if v < 0 then max (v + (n : Int)) 0 else min v (n : Int)) = (((if v < 0 then (v + (n : Int)).toNat else min v.toNat n) : Nat) : Int)
  by_cases hv : v < 0
  · simp only [if_pos hv]; omega
  · simp only [if_neg hv]; omega
theorem adjust_gen (lo hi : Option Int) (n : Nat) : Builtin.Slice.sliceAdjust lo hi 1 (n : Int) = (((sIx n 0 lo : Nat) : Int), ((sIx n n hi : Nat) : Int)) := by
  have h1 : ¬ ((1 : Int) < 0) := by omega
  unfold Builtin.Slice.sliceAdjust
  simp only [h1, if_false]
  refine Prod.ext ?_ ?_
  · cases lo with
    | none => rfl
    | some v => exact clip_eq v n 0
  · cases hi with
    | none => rfl
    | some v => exact clip_eq v n n
theorem places_gen (i j : Nat) : Builtin.Slice.slicePlaces (i : Int) (j : Int) 1 = j - i := by
  unfold Builtin.Slice.slicePlaces
  have h1 : (1 : Int) > 0 := by omega
  simp only [h1, if_true, Int.ediv_one]
  split <;> omega
theorem slicePart_ {v : Value} {o : Option Int} {Q : Option Int → Shared → Prop} (p : IsPart v o) (h : Q o s) : wpAny (model prog w) A (Builtin.Slice.slicePartIndex v) Q E s := by
  cases p with
  | none => exact slicePart_none h
  | int i t => exact slicePart_int h
theorem sliceApplied_gen {sl : Addr} {vl vu : Value} {lo hi : Option Int} {n : Nat} {Q : Int × Int × Nat → Shared → Prop} (hs : s.heap.IsSliceOf sl vl vu .none) (pl : IsPart vl lo) (pu : IsPart vu hi)
    (h : Q (((sIx n 0 lo : Nat) : Int), 1, sIx n n hi - sIx n 0 lo) s) : wpAny (model prog w) A (Builtin.Slice.sliceApplied (.ref sl) (pure (n : Int))) Q E s := by
  obtain ⟨os, hos, hcs, hds⟩ := id hs
  unfold Builtin.Slice.sliceApplied Builtin.Slice.sliceFields
  refine wpAny_bind (wpAny_bind (wpAny_field hos hds (x := vl) rfl (wpAny_bind (wpAny_field hos hds (x := vu) rfl (wpAny_bind (wpAny_field hos hds (x := .none) rfl (wpAny_pure ?_)))))))
  refine wpAny_bind (slicePart_none ?_)
  show wpAny _ _ (if ((1 : Int) == 0) = true then _ else _) _ _ s
  rw [if_neg (by decide)]
  refine wpAny_bind (slicePart_ pl (wpAny_bind (slicePart_ pu (wpAny_bind (wpAny_pure ?_)))))
  show wpAny _ _ (match Builtin.Slice.sliceAdjust lo hi 1 (n : Int) with | (lo, hi) => pure (lo, (1 : Int), Builtin.Slice.slicePlaces lo hi 1)) _ _ s
  rw [adjust_gen lo hi n]
  show wpAny _ _ (pure (((sIx n 0 lo : Nat) : Int), (1 : Int), Builtin.Slice.slicePlaces ((sIx n 0 lo : Nat) : Int) ((sIx n n hi : Nat) : Int) 1)) _ _ s
  rw [places_gen]
  exact wpAny_pure h
theorem pick_gen (xs : Array Value) (i k : Nat) : ((List.range k).filterMap fun (m : Nat) => xs[((i : Int) + (m : Int) * 1).toNat]?).toArray = ((xs.toList.drop i).take k).toArray := by
  have e : (fun (m : Nat) => xs[((i : Int) + (m : Int) * 1).toNat]?) = fun m => xs[i + m]? := by
    funext m
    have : ((i : Int) + (m : Int) * 1).toNat = i + m := by omega
    rw [this]
  rw [e]
  have := pick_run xs i k
  rw [List.filterMap_map] at this
  have e2 : ((fun x => xs[x]?) ∘ fun x => i + x) = fun m => xs[i + m]? := rfl
  rw [e2] at this
  rw [this]

theorem getItem_tuple_cut {t sl : Addr} {items : Array Value} {vl vu : Value} {lo hi : Option Int} {Q : Value → Shared → Prop} (ht : IsTup s.heap t items) (hs : s.heap.IsSliceOf sl vl vu .none) (pl : IsPart vl lo) (pu : IsPart vu hi)
    (hw : ¬ (sIx items.size 0 lo = 0 ∧ sIx items.size items.size hi = items.size))
    (h : Q (.ref s.heap.objs.size) { s with heap := s.heap.push { cls := .type "tuple", data := .seq ((items.toList.drop (sIx items.size 0 lo)).take (sIx items.size items.size hi - sIx items.size 0 lo)).toArray } })
    (hsz : items.size ≤ sizeLine) : wpAny (model prog w) A (getItem (.ref t) (.ref sl)) Q E s := by
  have htake : sizeOk (.seq ((items.toList.drop (sIx items.size 0 lo)).take (sIx items.size items.size hi - sIx items.size 0 lo)).toArray) := by
    show ((items.toList.drop (sIx items.size 0 lo)).take (sIx items.size items.size hi - sIx items.size 0 lo)).toArray.size ≤ sizeLine
    rw [List.size_toArray, List.length_take, List.length_drop, Array.length_toList]
    omega
  have hj : sIx items.size items.size hi ≤ items.size := sIx_le _ _ (Nat.le_refl _) hi
  obtain ⟨os, hos, hcs, hds⟩ := id hs
  have hTs : s.TypeIs (.ref sl) "slice" := ⟨os, hos, hcs⟩
  unfold getItem
  try with_reducible refine wpAny_holding ?_
  first | refine wpAny_bind (wpAny_pure ?_) | skip
  refine wpAny_bind (wpAny_sequenceKey ht.typeIs (by decide) ?_)
  refine wpAny_bind (wpAny_callSpecial?_slot (name := Str.ofString "__getitem__") ht.typeIs PyProof.Rows.slot_tuple_getitem
    (wpAny_call_entry PyProof.Rows.slot_tuple_getitem ht.typeIs entry_tuple_getitem ?_ (args_tuple_getitem _ _)))
  show wpAny _ _ (Builtin.Tuple.tupleItemsOf (.ref t) >>= _) _ _ s
  refine wpAny_bind (tupleItemsOf_ ht ?_)
  refine wpAny_bind (wpAny_typeOf hTs ?_)
  rw [if_pos (by decide)]
  refine wpAny_bind (sliceApplied_gen hs pl pu ?_)
  have hno : ¬ ((((sIx items.size 0 lo : Nat) : Int) == 0 && (1 : Int) == 1 && (sIx items.size items.size hi - sIx items.size 0 lo) == items.size) = true) := by
    intro q
    rw [Bool.and_eq_true, Bool.and_eq_true] at q
    have q1 : ((sIx items.size 0 lo : Nat) : Int) = 0 := eq_of_beq q.1.1
    have q2 : sIx items.size items.size hi - sIx items.size 0 lo = items.size := eq_of_beq q.2
    exact hw ⟨by omega, by omega⟩
  show wpAny _ _ (if (((sIx items.size 0 lo : Nat) : Int) == 0 && (1 : Int) == 1 && (sIx items.size items.size hi - sIx items.size 0 lo) == items.size) = true then _ else _) _ _ s
  rw [if_neg hno, pick_gen]
  first
    | exact wpAny_bind (m := Builtin.Tuple.tupleExact _) (wpAny_newObj_type (wpAny_pure ⟨_, rfl, wpAny_pure h⟩) htake)
    | exact wpAny_bind (m := Builtin.Tuple.tupleExact _) (wpAny_newObj_type (wpAny_bind (wpAny_pure (wpAny_pure ⟨_, rfl, wpAny_pure h⟩))) htake)
    | exact wpAny_bind (wpAny_bind (m := Builtin.Tuple.tupleExact _) (wpAny_newObj_type (wpAny_pure (wpAny_pure ⟨_, rfl, wpAny_pure h⟩)) htake))
    | exact wpAny_bind (wpAny_bind (m := Builtin.Tuple.tupleExact _) (wpAny_newObj_type (wpAny_pure ⟨_, rfl, wpAny_pure h⟩) htake))
end
end HT

namespace L2
open PySem PySem.Spec PyProof.Rows

/-! ### the parts of a slice -/
abbrev TO := St → Hp → (Option Int → Hp → Prop) → Prop
/-- a slice's part (left out, or an int) -/
def PO (X : Cx) (e : Option Expr) (t : TO) : Prop :=
  ∀ (pins : List (Addr × Obj)) (s : Shared) (σ : St) (H : Hp) (Q : Option Int → Hp → Prop), Inv X pins σ H s → t σ H Q →
    wpAny (model X.prog X.w) X.A (evalPart e X.env) (fun u s' => ∃ o H', Inv X pins σ H' s' ∧ IsPart u o ∧ Q o H') X.xe s
def tNoPart : TO := fun _ H Q => Q none H
def tPart (t : TE) : TO := fun σ H Q => t σ H fun x H1 => ∃ i, x = .int i ∧ Q (some i) H1

theorem intsAre_of {ns : List Int} : ∀ {us : List Value}, Vals (ns.map V.int) us → IntsAre us ns := by
  induction ns with
  | nil => intro us r; rw [List.map_nil] at r; cases r; exact .nil
  | cons n ns ih =>
    intro us r
    rw [List.map_cons] at r
    cases r with
    | cons r1 r2 =>
      obtain ⟨t, e⟩ := r1
      subst e
      exact .cons n t (ih r2)

section
variable {X : Cx} {e : Expr} {te : TE} {lo hi : Option Expr} {tl th : TO} {pos p2 : Pos}

theorem po_none : PO X none tNoPart := by
  intro pins s σ H Q I h
  rw [evalPart_none]
  exact wpAny_pure ⟨none, H, I, .none, h⟩
theorem po_some (h : PE X e te) : PO X (some e) (tPart te) := by
  intro pins s σ H Q I hw
  rw [evalPart_some]
  refine thn (h pins s σ H _ I hw) fun u s1 ⟨x, H1, I1, r1, q1⟩ => ?_
  obtain ⟨i, rfl, q⟩ := q1
  obtain ⟨t, rfl⟩ := r1
  exact ⟨some i, H1, I1, .int i t, q⟩

/-- what a slice of a value is, by values: the slice object stands at sl -/
def SlR (X : Cx) (r : V → Option Int → Option Int → Hp → VK → Prop) : Prop :=
  ∀ (pins : List (Addr × Obj)) (s : Shared) (σ : St) (H : Hp) (x : V) (v vl vu : Value) (lo hi : Option Int) (sl : Addr) (Q : VK), Inv X pins σ H s → RelV x v → s.heap.IsSliceOf sl vl vu .none → IsPart vl lo → IsPart vu hi → r x lo hi H Q →
    ∃ T id, typeLookup (.type T) "__getitem__" = pure (some (.builtin id)) ∧ s.TypeIs v T ∧ wpAny (model X.prog X.w) X.A (getItem v (.ref sl)) (EP X pins σ Q) X.xe s
theorem SlR.or {r r' : V → Option Int → Option Int → Hp → VK → Prop} (h : SlR X r) (h' : SlR X r') : SlR X (fun x lo hi H Q => r x lo hi H Q ∨ r' x lo hi H Q) := by
  intro pins s σ H x v vl vu lo hi sl Q I rx hs pl pu q
  rcases q with q | q
  · exact h pins s σ H x v vl vu lo hi sl Q I rx hs pl pu q
  · exact h' pins s σ H x v vl vu lo hi sl Q I rx hs pl pu q
def tSl (r : V → Option Int → Option Int → Hp → VK → Prop) (te : TE) (tl th : TO) : TE := fun σ H Q => te σ H fun x H1 => tl σ H1 fun l H2 => th σ H2 fun u H3 => r x l u H3 Q
/-- a[lo:hi], any a -/
theorem pe_slice {r : V → Option Int → Option Int → Hp → VK → Prop} (hr : SlR X r) (he : PE X e te) (hl : PO X lo tl) (hu : PO X hi th) : PE X (.Subscript e (.Slice lo hi none p2) pos) (tSl r te tl th) := by
  intro pins s σ H Q I h
  refine Subscript_ (thn (he pins s σ H _ I h) fun v s1 ⟨x, H1, I1, r1, q1⟩ => ?_)
  refine wpAny_Slice (thn (hl pins s1 σ H1 _ I1 q1) fun vl s2 ⟨l, H2, I2, pl, q2⟩ => thn (hu pins s2 σ H2 _ I2 q2) fun vu s3 ⟨u, H3, I3, pu, q3⟩ => ?_)
  rw [evalPart_none]
  refine wpAny_pure ?_
  have I4 : Inv X pins σ H3 { s3 with heap := s3.heap.push { cls := .type "slice", data := .fields #[vl, vu, .none] } } := I3.kept (t' := s3.toks) fun b ob q => Heap.get?_push_of_some _ q
  obtain ⟨T, id, hT, ht, hg⟩ := hr pins { s3 with heap := s3.heap.push { cls := .type "slice", data := .fields #[vl, vu, .none] } } σ H3 x v vl vu l u s3.heap.objs.size Q I4 r1 (Heap.IsSliceOf.new ..) pl pu q3
  show wpAny (model X.prog X.w) X.A (subscriptTail e (.Slice lo hi none p2) v (.ref s3.heap.objs.size)) (EP X pins σ Q) X.xe { s3 with heap := s3.heap.push { cls := .type "slice", data := .fields #[vl, vu, .none] } }
  exact tail_any (ops := [.ref s3.heap.objs.size, v]) ht hT hg (by with_unfolding_all rfl)

/-- the items of xs[lo:hi] -/
def cutV (xs : List V) (lo hi : Option Int) : List V := (xs.drop (HT.sIx xs.length 0 lo)).take (HT.sIx xs.length xs.length hi - HT.sIx xs.length 0 lo)
theorem cutV_length (xs : List V) (lo hi : Option Int) : (cutV xs lo hi).length ≤ xs.length := by
  unfold cutV
  rw [List.length_take, List.length_drop]
  omega
/-- t[lo:hi], not the whole of it (the whole would be t itself) -/
def rSlT (K : PySem.W.Frag) : V → Option Int → Option Int → Hp → VK → Prop := fun x lo hi H Q => ∃ a xs, x = .ref a ∧ SqT K H a xs ∧
  ¬ (HT.sIx xs.length 0 lo = 0 ∧ HT.sIx xs.length xs.length hi = xs.length) ∧ ∀ p, H p = none → Q (.ref p) (upd H p (.tup (cutV xs lo hi)))
theorem sl_tup : SlR X (rSlT X.K) := by
  intro pins s σ H x v vl vu lo hi sl Q I rx hs pl pu h
  obtain ⟨a, xs, rfl, hx, hw, q⟩ := h
  cases rx
  obtain ⟨its, r, ht, hz⟩ := I.tuple hx
  have hlen : its.toArray.size = xs.length := by rw [List.size_toArray]; exact r.length.symm
  refine ⟨"tuple", _, PyProof.Rows.slot_tuple_getitem.lookup, ht.typeIs, ?_⟩
  refine HT.getItem_tuple_cut ht hs pl pu (by rw [hlen]; exact hw) ?_ (by rw [hlen]; exact hz)
  rw [hlen]
  refine ⟨.ref s.heap.objs.size, _, I.laid (t' := s.toks) (o := .tup (cutV xs lo hi)) (fun b ob q => Heap.get?_push_of_some _ q) (Nat.le_refl _) ?_, rfl, q _ (I.hok.fresh (Nat.le_refl _))⟩
  exact ⟨Nat.le_trans (cutV_length xs lo hi) hz, _, (r.drop (HT.sIx xs.length 0 lo)).take (HT.sIx xs.length xs.length hi - HT.sIx xs.length 0 lo), IsTup.new _ _⟩

/-! ### t < u, t + u -/
def rLtT (K : PySem.W.Frag) : R2 := fun x y H Q => ∃ a b ns ms, x = .ref a ∧ y = .ref b ∧ SqT K H a (ns.map V.int) ∧ SqT K H b (ms.map V.int) ∧ Q (.bl (HT.lexLt ns ms)) H
theorem op_ltT (hu : X.A.units < cLine) : OpR X (compareOp .Lt) (rLtT X.K) := by
  intro pins s σ H x y v u Q I rx ry h
  obtain ⟨a, b, ns, ms, rfl, rfl, ha, hb, q⟩ := h
  cases rx
  cases ry
  obtain ⟨its, r1, p1, _⟩ := I.tuple ha
  obtain ⟨its2, r2, p2, _⟩ := I.tuple hb
  have i1 : IntsAre its.toArray.toList ns := intsAre_of r1
  have i2 : IntsAre its2.toArray.toList ms := intsAre_of r2
  exact HT.lt_tupInts p1 p2 i1 i2 hu ⟨.bl (HT.lexLt ns ms), H, I, rfl, q⟩
/-- t + u, t not empty: u empty gives t itself -/
def rCatT (K : PySem.W.Frag) : R2 := fun x y H Q => ∃ a b xs ys, x = .ref a ∧ y = .ref b ∧ SqT K H a xs ∧ SqT K H b ys ∧ xs ≠ [] ∧ xs.length + ys.length ≤ sizeLine ∧
  (ys = [] → Q (.ref a) H) ∧ (ys ≠ [] → ∀ p, H p = none → Q (.ref p) (upd H p (.tup (xs ++ ys))))
theorem Vals.nil_iff {xs : List V} {us : List Value} (r : Vals xs us) : us = [] ↔ xs = [] := by
  cases r with
  | nil => simp
  | cons _ _ => simp
theorem op_catT : OpR X (binaryOp .Add) (rCatT X.K) := by
  intro pins s σ H x y v u Q I rx ry h
  obtain ⟨a, b, xs, ys, rfl, rfl, ha, hb, hx, hz, q1, q2⟩ := h
  cases rx
  cases ry
  obtain ⟨its, r1, p1, _⟩ := I.tuple ha
  obtain ⟨its2, r2, p2, _⟩ := I.tuple hb
  refine HT.cat_tup p1 p2 (fun z => hx (r1.nil_iff.mp z)) (fun z => ⟨.ref a, H, I, rfl, q1 (r2.nil_iff.mp z)⟩) (fun z => ?_) (by rw [← r1.length, ← r2.length]; exact hz)
  refine ⟨.ref s.heap.objs.size, _, I.laid (t' := s.toks) (o := .tup (xs ++ ys)) (fun b ob q => Heap.get?_push_of_some _ q) (Nat.le_refl _) ?_, rfl, q2 (fun w => z (r2.nil_iff.mpr w)) _ (I.hok.fresh (Nat.le_refl _))⟩
  exact ⟨by rw [List.length_append]; exact hz, _, r1.append r2, IsTup.new _ _⟩
/-- tuple(t) -/
theorem call_tupleT : CallR X (.type "tuple") (fun xs H Q => ∃ a ys, xs = [.ref a] ∧ SqT X.K H a ys ∧ Q (.ref a) H) := by
  intro pins s σ H xs us Q I r h
  obtain ⟨a, ys, rfl, ha, q⟩ := h
  obtain ⟨u, rfl, ru⟩ := vals1 r
  cases ru
  obtain ⟨its, _, p1, _⟩ := I.tuple ha
  exact call_tuple_same (items := its.toArray) p1 ⟨.ref a, H, I, rfl, q⟩
end
end L2

namespace L2
open PySem PySem.Spec PyProof.Rows

/-! ### places -/
/-- the place that an index of any sign means -/
def ixN (n : Nat) (i : Int) : Option Nat := if 0 ≤ i then (if i < n then some i.toNat else none) else if -(n : Int) ≤ i then some (i + n).toNat else none
def atI {α : Type} (xs : List α) (i : Int) : Option α := (ixN xs.length i).bind fun j => xs[j]?
theorem ixN_seq {n : Nat} {i : Int} {j : Nat} (h : ixN n i = some j) : seqIndex? i n = some j ∧ j < n ∧ -(n : Int) ≤ i ∧ i < n := by
  unfold ixN at h
  by_cases h0 : 0 ≤ i
  · rw [if_pos h0] at h
    by_cases h1 : i < n
    · rw [if_pos h1] at h
      have e : i.toNat = j := Option.some.inj h
      exact ⟨by rw [seqIndex_of h0 h1, e], by omega, by omega, h1⟩
    · rw [if_neg h1] at h; cases h
  · rw [if_neg h0] at h
    by_cases h1 : -(n : Int) ≤ i
    · rw [if_pos h1] at h
      have e : (i + n).toNat = j := Option.some.inj h
      exact ⟨by rw [seqIndex_neg (by omega) h1, e], by omega, h1, by omega⟩
    · rw [if_neg h1] at h; cases h
theorem atI_get {α : Type} {xs : List α} {i : Int} {v : α} (h : atI xs i = some v) : ∃ j, seqIndex? i xs.length = some j ∧ xs[j]? = some v ∧ j < xs.length ∧ -(xs.length : Int) ≤ i ∧ i < xs.length := by
  unfold atI at h
  cases e : ixN xs.length i with
  | none => rw [e] at h; cases h
  | some j =>
    rw [e] at h
    obtain ⟨h1, h2, h3, h4⟩ := ixN_seq e
    exact ⟨j, h1, h, h2, h3, h4⟩
theorem atI_nat {α : Type} {xs : List α} {j : Nat} {v : α} (h : xs[j]? = some v) : atI xs (j : Int) = some v := by
  have hj : j < xs.length := (List.getElem?_eq_some_iff.mp h).1
  have e : ixN xs.length (j : Int) = some j := by
    unfold ixN
    rw [if_pos (by omega), if_pos (by omega)]; simp
  unfold atI; rw [e]; exact h
theorem atI_last {α : Type} (xs : List α) (v : α) : atI (xs ++ [v]) (-1) = some v := by
  have hl : (xs ++ [v]).length = xs.length + 1 := by simp
  have e : ixN (xs ++ [v]).length (-1) = some xs.length := by
    unfold ixN
    rw [hl, if_neg (by decide), if_pos (by omega)]
    congr 1
    omega
  unfold atI
  rw [e]
  show (xs ++ [v])[xs.length]? = some v
  simp

/-! ### what may be subscripted -/
/-- what stands as an index of a plain subscript -/
def PlainIx (b : Expr) : Prop := ∀ o i, subscripted b false o i = operate [o, i] (getItem o i)
/-- a subscript by values -/
def IxR (X : Cx) (r : R2) : Prop :=
  ∀ (value slice : Expr) (pins : List (Addr × Obj)) (s : Shared) (σ : St) (H : Hp) (x y : V) (v u : Value) (Q : VK), Inv X pins σ H s → RelV x v → RelV y u → r x y H Q →
    subscripted slice false v u = operate [v, u] (getItem v u) → wpAny (model X.prog X.w) X.A (subscriptTail value slice v u) (EP X pins σ Q) X.xe s
/-- a call of a builtin's method by values: the receiver, the arguments -/
def MtR (X : Cx) (id : String) (r : V → List V → Hp → VK → Prop) : Prop :=
  ∀ (pins : List (Addr × Obj)) (s : Shared) (σ : St) (H : Hp) (x : V) (xs : List V) (v : Value) (us : List Value) (Q : VK), Inv X pins σ H s → RelV x v → Vals xs us → r x xs H Q →
    wpAny (model X.prog X.w) X.A (call (.builtin id) (v :: us)) (EP X pins σ Q) X.xe s
section
variable {X : Cx} {a b : Expr} {ta tb : TE} {pos : Pos}
theorem IxR.or {r r' : R2} (h : IxR X r) (h' : IxR X r') : IxR X (fun x y H Q => r x y H Q ∨ r' x y H Q) := by
  intro value slice pins s σ H x y v u Q I rx ry q hs
  rcases q with q | q
  · exact h value slice pins s σ H x y v u Q I rx ry q hs
  · exact h' value slice pins s σ H x y v u Q I rx ry q hs
theorem MtR.or {id : String} {r r' : V → List V → Hp → VK → Prop} (h : MtR X id r) (h' : MtR X id r') : MtR X id (fun x xs H Q => r x xs H Q ∨ r' x xs H Q) := by
  intro pins s σ H x xs v us Q I rx rs q
  rcases q with q | q
  · exact h pins s σ H x xs v us Q I rx rs q
  · exact h' pins s σ H x xs v us Q I rx rs q
/-- a[b] -/
theorem pe_ix {r : R2} (hr : IxR X r) (ha : PE X a ta) (hb : PE X b tb) (hs : PlainIx b) : PE X (.Subscript a b pos) (tOp r ta tb) := by
  intro pins s σ H Q I h
  exact Subscript_ (binT ha hb I h fun v u s2 x y H2 I2 rx ry q => hr a b pins s2 σ H2 x y v u Q I2 rx ry q (hs _ _))

def rIxL (K : PySem.W.Frag) : R2 := fun x y H Q => ∃ p xs i v, x = .ref p ∧ y = .int i ∧ SqL K H p xs ∧ atI xs i = some v ∧ Q v H
def rIxT (K : PySem.W.Frag) : R2 := fun x y H Q => ∃ p xs i v, x = .ref p ∧ y = .int i ∧ SqT K H p xs ∧ atI xs i = some v ∧ Q v H
def rIxS : R2 := fun x y H Q => ∃ z i c, x = .str z ∧ y = .int i ∧ z.length ≤ sizeLine ∧ atI z.cps.toList i = some c ∧ Q (.str ⟨#[c]⟩) H
theorem ix_list : IxR X (rIxL X.K) := by
  intro value slice pins s σ H x y v u Q I rx ry h hs
  obtain ⟨p, xs, i, z, rfl, rfl, hq, he, q⟩ := h
  cases rx
  obtain ⟨t, rfl⟩ := ry
  obtain ⟨its, r, pl, hz⟩ := I.list hq
  obtain ⟨j, h1, h2, h3, h4, h5⟩ := atI_get he
  obtain ⟨w, ew, rw'⟩ := r.get h2
  have hl := r.length
  have hn := line63
  have fin : EP X pins σ Q w s := ⟨z, H, I, rw', q⟩
  by_cases h0 : 0 ≤ i
  · have hj : i.toNat = j := by
      rw [seqIndex_of h0 h5] at h1
      exact Option.some.inj h1
    exact item_listR pl.isList h0 (by omega) (by rw [hj]; simpa using ew) fin hs
  · have hj : (i + (its.toArray.size : Int)).toNat = j := by
      rw [seqIndex_neg (by omega) h4] at h1
      rw [List.size_toArray, ← hl]
      exact Option.some.inj h1
    exact subscriptTail_builtinR (x := w) pl.isList.typeIs slot_list_getitem.lookup
      (wpAny_getItem_list_neg (Q := fun r s' => r = w ∧ EP X pins σ Q r s') pl.isList (by omega) (by rw [List.size_toArray] <;> omega) (by omega) (by rw [hj]; simpa using ew) ⟨rfl, fin⟩) hs
theorem ix_tup : IxR X (rIxT X.K) := by
  intro value slice pins s σ H x y v u Q I rx ry h hs
  obtain ⟨p, xs, i, z, rfl, rfl, hq, he, q⟩ := h
  cases rx
  obtain ⟨t, rfl⟩ := ry
  obtain ⟨its, r, pl, hz⟩ := I.tuple hq
  obtain ⟨j, h1, h2, h3, h4, h5⟩ := atI_get he
  obtain ⟨w, ew, rw'⟩ := r.get h2
  have hl := r.length
  have hn := line63
  have fin : EP X pins σ Q w s := ⟨z, H, I, rw', q⟩
  exact subscriptTail_builtinR (x := w) pl.typeIs slot_tuple_getitem.lookup
    (getItem_tuple (j := j) (Q := fun r s' => r = w ∧ EP X pins σ Q r s') pl (by omega) (by omega) (by rw [List.size_toArray, ← hl]; exact h1) (by simpa using ew) ⟨rfl, fin⟩) hs
theorem ix_str : IxR X rIxS := by
  intro value slice pins s σ H x y v u Q I rx ry h hs
  obtain ⟨z, i, c, rfl, rfl, hz, he, q⟩ := h
  obtain ⟨t, rfl⟩ := rx
  obtain ⟨t', rfl⟩ := ry
  obtain ⟨j, h1, h2, h3, h4, h5⟩ := atI_get he
  have hl : z.cps.toList.length = z.length := by simp [Str.length]
  rw [hl] at h1 h4 h5
  have hn := line63
  exact tail_any (typeIs_str s z t) slot_str_getitem.lookup (getItem_str (c := c) (by
    have e1 : decide (i < -(2 ^ 63 : Int)) = false := decide_eq_false (by omega)
    have e2 : decide (i ≥ 2 ^ 63) = false := decide_eq_false (by omega)
    rw [e1, e2, Bool.or_false]) (by rw [h1]; simpa using h2) ⟨.str ⟨#[c]⟩, H, I.tok _, ⟨_, rfl⟩, q⟩) hs
/-- list, tuple or str -/
def rIx (K : PySem.W.Frag) : R2 := fun x y H Q => rIxL K x y H Q ∨ rIxT K x y H Q ∨ rIxS x y H Q
theorem ix_seq : IxR X (rIx X.K) := ix_list.or (ix_tup.or ix_str)

/-! ### xs[i] = v, any sign -/
/-- the list's object behind a store -/
theorem mapSeq_set (its : List Value) (n j : Nat) (u : Value) : Obj.mapSeq (·.setIfInBounds j u) { cls := .type "list", data := .seq its.toArray n } = { cls := .type "list", data := .seq (its.set j u).toArray n } := by
  simp [Obj.mapSeq]
theorem Inv.lst {pins : List (Addr × Obj)} {σ : St} {H : Hp} {s : Shared} {p : Addr} {xs : List V} (I : Inv X pins σ H s) (h : H p = some (.lst xs)) :
    ∃ (its : List Value) (n : Nat), Vals xs its ∧ s.heap.get? p = some { cls := .type "list", data := .seq its.toArray n } ∧ xs.length ≤ sizeLine := by
  obtain ⟨z, its, n, r, e⟩ := I.hok p _ h
  exact ⟨its, n, r, e, z⟩
/-- the list at p is written by an update of its object -/
theorem Inv.lstUpd {pins : List (Addr × Obj)} {σ : St} {H : Hp} {s : Shared} {p : Addr} {xs ys : List V} {its its' : List Value} {n n' : Nat} {f : Obj → Obj} (I : Inv X pins σ H s) (h : H p = some (.lst xs))
    (ho : s.heap.get? p = some { cls := .type "list", data := .seq its.toArray n }) (hf : f { cls := .type "list", data := .seq its.toArray n } = { cls := .type "list", data := .seq its'.toArray n' }) (r : Vals ys its') (hz : ys.length ≤ sizeLine) (t : Nat) :
    Inv X pins σ (upd H p (.lst ys)) { s with heap := s.heap.update p f, toks := t } := by
  have e : (s.heap.update p f).get? p = some { cls := .type "list", data := .seq its'.toArray n' } := by
    rw [Heap.get?_update_self f ho (by rw [hf] <;> rfl), hf]
  refine I.write (x := p) (e := p) (by rw [h]; trivial) (.inl rfl) (fun b u hb q => (Heap.get?_update_other _ _ (Ne.symm hb)).trans q) ⟨_, e⟩ ?_
  exact ⟨hz, its', n', r, e⟩
def rSetL : V → V → V → Hp → (Hp → Prop) → Prop := fun o i v H Q => ∃ p xs k j, o = .ref p ∧ i = .int k ∧ H p = some (.lst xs) ∧ ixN xs.length k = some j ∧ Q (upd H p (.lst (xs.set j v)))
theorem set_list : PSet X rSetL := by
  intro pins s σ H o i v ov iv u Q I ro ri rv h
  obtain ⟨p, xs, k, j, rfl, rfl, hp, hj, q⟩ := h
  cases ro
  obtain ⟨t, rfl⟩ := ri
  obtain ⟨its, n, r, ho, hz⟩ := I.lst hp
  obtain ⟨h1, h2, h3, h4⟩ := ixN_seq hj
  have hl := r.length
  have hn := line63
  have I' : Inv X pins σ (upd H p (.lst (xs.set j v))) { s with heap := s.heap.update p (Obj.mapSeq (·.setIfInBounds j u)) } :=
    I.lstUpd hp ho (mapSeq_set its n j u) (r.set rv j) (by rw [List.length_set]; exact hz) s.toks
  by_cases h0 : 0 ≤ k
  · have hk : k.toNat = j := by
      rw [seqIndex_of h0 h4] at h1
      exact Option.some.inj h1
    exact PySem.W.ki_setAt ho h0 (by omega) (by rw [List.size_toArray, ← hl]; exact h4) (by rw [hk]; exact ⟨_, I', q⟩)
  · have hk : (k + (its.toArray.size : Int)).toNat = j := by
      rw [seqIndex_neg (by omega) h3] at h1
      rw [List.size_toArray, ← hl]
      exact Option.some.inj h1
    exact PySem.W.ki_setBack ho (by omega) (by rw [List.size_toArray, ← hl]; exact h3) (by omega) (by rw [hk]; exact ⟨_, I', q⟩)

/-! ### slices -/
theorem slice_bounds (lo hi : Option Int) (n : Nat) : (sliceBounds lo hi none n).1 = ((HT.sIx n 0 lo : Nat) : Int) ∧ (sliceBounds lo hi none n).2.1 = ((HT.sIx n n hi : Nat) : Int) ∧ (sliceBounds lo hi none n).2.2 = 1 := by
  refine ⟨?_, ?_, rfl⟩
  · cases lo with
    | none => simp [sliceBounds, HT.sIx]
    | some i =>
      simp only [sliceBounds, HT.sIx, Option.getD_none, show (1 : Int) > 0 by decide, if_true]
      by_cases h : i < 0
      · simp only [h, if_true] <;> omega
      · simp only [h, if_false] <;> omega
  · cases hi with
    | none => simp [sliceBounds, HT.sIx]
    | some i =>
      simp only [sliceBounds, HT.sIx, Option.getD_none, show (1 : Int) > 0 by decide, if_true]
      by_cases h : i < 0
      · simp only [h, if_true] <;> omega
      · simp only [h, if_false] <;> omega
theorem slicePick_cut (its : List Value) (lo hi : Option Int) : slicePick its.toArray lo hi none = ((its.drop (HT.sIx its.length 0 lo)).take (HT.sIx its.length its.length hi - HT.sIx its.length 0 lo)).toArray := by
  obtain ⟨h1, h2, h3⟩ := slice_bounds lo hi its.toArray.size
  unfold slicePick
  rw [h1, h2, h3]
  simp only [sliceRange_one, pick_run, List.size_toArray] <;> rfl
/-- xs[lo:hi] of a list: a new list -/
def rSlL (K : PySem.W.Frag) : V → Option Int → Option Int → Hp → VK → Prop := fun x lo hi H Q => ∃ a xs, x = .ref a ∧ SqL K H a xs ∧ ∀ p, H p = none → Q (.ref p) (upd H p (.lst (cutV xs lo hi)))
theorem sl_list : SlR X (rSlL X.K) := by
  intro pins s σ H x v vl vu lo hi sl Q I rx hs pl pu h
  obtain ⟨a, xs, rfl, hx, q⟩ := h
  cases rx
  obtain ⟨its, r, ht, hz⟩ := I.list hx
  have hlen := r.length
  refine ⟨"list", _, slot_list_getitem.lookup, ht.isList.typeIs, ?_⟩
  refine wpAny_getItem_list_slice ht.isList hs pl pu .none (by simp) ?_ (by rw [List.size_toArray] <;> omega)
  rw [slicePick_cut, ← hlen]
  refine ⟨.ref s.heap.objs.size, _, I.laid (t' := s.toks) (o := .lst (cutV xs lo hi)) (fun b ob q => Heap.get?_push_of_some _ q) (Nat.le_refl _) ?_, rfl, q _ (I.hok.fresh (Nat.le_refl _))⟩
  exact ⟨Nat.le_trans (cutV_length xs lo hi) hz, _, 0, (r.drop (HT.sIx xs.length 0 lo)).take (HT.sIx xs.length xs.length hi - HT.sIx xs.length 0 lo), Heap.get?_push_size _ rfl⟩

/-! ### in, not in: flat items -/
def flatV : V → Bool
  | .non => true
  | .bl _ => true
  | .int _ => true
  | .str _ => true
  | _ => false
/-- == of flat values -/
def eqV : V → V → Bool
  | .non, .non => true
  | .bl a, .bl b => a == b
  | .bl a, .int b => (if a then 1 else 0) == b
  | .int a, .bl b => a == (if b then 1 else 0)
  | .int a, .int b => a == b
  | .str a, .str b => a == b
  | _, _ => false
theorem eqAt_V {A : Around} {s : Shared} {y x : V} {u v : Value} (ry : RelV y u) (rx : RelV x v) (fy : flatV y = true) (fx : flatV x = true) : SeqAt.EqAt A s u v (eqV y x) := by
  cases y with
  | non =>
    cases ry
    cases x with
    | non => cases rx; exact SeqAt.EqAt.same _
    | bl b => cases rx; exact SeqAt.EqAt.none_bool b
    | int b => obtain ⟨t, rfl⟩ := rx; exact SeqAt.EqAt.none_int b t
    | str b => obtain ⟨t, rfl⟩ := rx; exact SeqAt.EqAt.none_str b t
    | _ => exact absurd (show false = true from fx) Bool.false_ne_true
  | bl a =>
    cases ry
    cases x with
    | non => cases rx; exact SeqAt.EqAt.bool_none a
    | bl b => cases rx; exact SeqAt.EqAt.bool_bool a b
    | int b => obtain ⟨t, rfl⟩ := rx; exact SeqAt.EqAt.bool_int a b t
    | str b => obtain ⟨t, rfl⟩ := rx; exact SeqAt.EqAt.bool_str a b t
    | _ => exact absurd (show false = true from fx) Bool.false_ne_true
  | int a =>
    obtain ⟨t', rfl⟩ := ry
    cases x with
    | non => cases rx; exact SeqAt.EqAt.int_none a t'
    | bl b => cases rx; exact SeqAt.EqAt.int_bool a t' b
    | int b => obtain ⟨t, rfl⟩ := rx; exact SeqAt.EqAt.int_int a t' b t
    | str b => obtain ⟨t, rfl⟩ := rx; exact SeqAt.EqAt.int_str a t' b t
    | _ => exact absurd (show false = true from fx) Bool.false_ne_true
  | str a =>
    obtain ⟨t', rfl⟩ := ry
    cases x with
    | non => cases rx; exact SeqAt.EqAt.str_none a t'
    | bl b => cases rx; exact SeqAt.EqAt.str_bool a t' b
    | int b => obtain ⟨t, rfl⟩ := rx; exact SeqAt.EqAt.str_int a t' b t
    | str b => obtain ⟨t, rfl⟩ := rx; exact SeqAt.EqAt.str_str a t' b t
    | _ => exact absurd (show false = true from fx) Bool.false_ne_true
  | _ => exact absurd (show false = true from fy) Bool.false_ne_true
/-- the items' answers, read off the values (a value's own answer does not lean on its token) -/
def eqU (x : V) (u : Value) : Bool := match u with
  | .none => eqV .non x
  | .bool b => eqV (.bl b) x
  | .int i _ => eqV (.int i) x
  | .str z _ => eqV (.str z) x
  | _ => false
theorem eqU_of {x y : V} {u : Value} (r : RelV y u) (f : flatV y = true) : eqU x u = eqV y x := by
  cases y with
  | non => cases r; rfl
  | bl b => cases r; rfl
  | int i => obtain ⟨t, rfl⟩ := r; rfl
  | str z => obtain ⟨t, rfl⟩ := r; rfl
  | _ => exact absurd (show false = true from f) Bool.false_ne_true
theorem any_eqU {x : V} : ∀ {xs : List V} {us : List Value}, Vals xs us → xs.all flatV = true → us.any (eqU x) = xs.any fun y => eqV y x
  | _, _, .nil, _ => rfl
  | y :: xs, u :: us, .cons r t, f => by
    rw [List.all_cons, Bool.and_eq_true] at f
    rw [List.any_cons, List.any_cons, eqU_of r f.1, any_eqU t f.2]
theorem mem_eqAt {A : Around} {s : Shared} {x : V} {v : Value} (rx : RelV x v) (fx : flatV x = true) : ∀ {xs : List V} {us : List Value}, Vals xs us → xs.all flatV = true → ∀ u ∈ us, SeqAt.EqAt A s u v (eqU x u)
  | _, _, .nil, _ => fun u hu => by cases hu
  | y :: xs, u :: us, .cons r t, f => fun u' hu => by
    rw [List.all_cons, Bool.and_eq_true] at f
    rcases List.mem_cons.mp hu with rfl | hu
    · rw [eqU_of r f.1]; exact eqAt_V r rx f.1 fx
    · exact mem_eqAt rx fx t f.2 u' hu
def inV (x : V) (xs : List V) : Bool := xs.any fun y => eqV y x
/-- x in a list or tuple of flat items -/
def rIn (K : PySem.W.Frag) (neg : Bool) : R2 := fun x y H Q => ∃ p xs, y = .ref p ∧ (SqL K H p xs ∨ SqT K H p xs) ∧ flatV x = true ∧ xs.all flatV = true ∧ Q (.bl (if neg then !inV x xs else inV x xs)) H
theorem op_in_seq : OpR X (compareOp .In) (rIn X.K false) := by
  intro pins s σ H x y v u Q I rx ry h
  obtain ⟨p, xs, rfl, hq, fx, fs, q⟩ := h
  cases ry
  rcases hq with hq | hq
  · obtain ⟨its, r, pl, hz⟩ := I.list hq
    refine SeqAt.in_listAt (eqU x) pl.isList (fun w hw => mem_eqAt rx fx r fs w (by simpa using hw)) ⟨.bl _, H, I, rfl, ?_⟩
    rw [show its.toArray.any (eqU x) = its.any (eqU x) by simp, any_eqU r fs]
    exact q
  · obtain ⟨its, r, pl, hz⟩ := I.tuple hq
    refine SeqAt.in_tupleAt (eqU x) pl (fun w hw => mem_eqAt rx fx r fs w (by simpa using hw)) ⟨.bl _, H, I, rfl, ?_⟩
    rw [show its.toArray.any (eqU x) = its.any (eqU x) by simp, any_eqU r fs]
    exact q
theorem op_notIn_seq : OpR X (compareOp .NotIn) (rIn X.K true) := by
  intro pins s σ H x y v u Q I rx ry h
  obtain ⟨p, xs, rfl, hq, fx, fs, q⟩ := h
  cases ry
  rcases hq with hq | hq
  · obtain ⟨its, r, pl, hz⟩ := I.list hq
    refine SeqAt.notIn_listAt (eqU x) pl.isList (fun w hw => mem_eqAt rx fx r fs w (by simpa using hw)) ⟨.bl _, H, I, rfl, ?_⟩
    rw [show its.toArray.any (eqU x) = its.any (eqU x) by simp, any_eqU r fs]
    exact q
  · obtain ⟨its, r, pl, hz⟩ := I.tuple hq
    refine SeqAt.notIn_tupleAt (eqU x) pl (fun w hw => mem_eqAt rx fx r fs w (by simpa using hw)) ⟨.bl _, H, I, rfl, ?_⟩
    rw [show its.toArray.any (eqU x) = its.any (eqU x) by simp, any_eqU r fs]
    exact q
theorem op_notIn_str : OpR X (compareOp .NotIn) (fun x y H Q => ∃ i j, x = .str i ∧ y = .str j ∧ Q (.bl (!(!(Builtin.Str.occurrences j i 0 j.length 1).isEmpty))) H) := by
  intro pins s σ H x y v u Q I rx ry h
  obtain ⟨i, j, rfl, rfl, q⟩ := h
  obtain ⟨t, rfl⟩ := rx
  obtain ⟨t', rfl⟩ := ry
  exact notIn_str ⟨.bl _, H, I, rfl, q⟩

/-! ### len, list(x), tuple(x) of any list or tuple that is read -/
theorem call_len_seq : CallR X (.builtin "len") (fun xs H Q => ∃ p ys, xs = [.ref p] ∧ (SqL X.K H p ys ∨ SqT X.K H p ys) ∧ Q (.int ys.length) H) := by
  intro pins s σ H xs us Q I r h
  obtain ⟨p, ys, rfl, hq, q⟩ := h
  obtain ⟨u, rfl, rx⟩ := vals1 r
  cases rx
  have hn := line63
  rcases hq with hq | hq
  · obtain ⟨its, r', pl, hz⟩ := I.list hq
    have hlen := r'.length
    exact Calls.call_len_list pl.isList (by simp only [List.size_toArray] <;> omega) ⟨.int ys.length, H, I.tok _, ⟨s.toks + 1, by rw [List.size_toArray, hlen]⟩, q⟩
  · obtain ⟨its, r', pl, hz⟩ := I.tuple hq
    have hlen := r'.length
    exact len_tuple pl (by simp only [List.size_toArray] <;> omega) ⟨.int ys.length, H, I.tok _, ⟨s.toks + 1, by rw [List.size_toArray, hlen]⟩, q⟩
theorem call_len_str : CallR X (.builtin "len") (fun xs H Q => ∃ z, xs = [.str z] ∧ z.length ≤ sizeLine ∧ Q (.int z.length) H) := by
  intro pins s σ H xs us Q I r h
  obtain ⟨z, rfl, hz, q⟩ := h
  obtain ⟨u, rfl, t, rfl⟩ := vals1 r
  have hn := line63
  exact len_str (by omega) ⟨.int z.length, H, I.tok _, ⟨_, rfl⟩, q⟩
theorem CallR.or {f : Value} {r r' : List V → Hp → VK → Prop} (h : CallR X f r) (h' : CallR X f r') : CallR X f (fun xs H Q => r xs H Q ∨ r' xs H Q) := by
  intro pins s σ H xs us Q I rs q
  rcases q with q | q
  · exact h pins s σ H xs us Q I rs q
  · exact h' pins s σ H xs us Q I rs q
theorem call_list_of : CallR X (.type "list") (fun xs H Q => ∃ p ys, xs = [.ref p] ∧ (SqL X.K H p ys ∨ SqT X.K H p ys) ∧ ∀ l, H l = none → Q (.ref l) (upd H l (.lst ys))) := by
  intro pins s σ H xs us Q I r h
  obtain ⟨p, ys, rfl, hq, q⟩ := h
  obtain ⟨u, rfl, rx⟩ := vals1 r
  cases rx
  have fin : ∀ (its : List Value), Vals ys its → ys.length ≤ sizeLine → ∀ (h' : Heap) (c' : Nat), (∀ b o', s.heap.get? b = some o' → h'.get? b = some o') →
      h'.get? s.heap.objs.size = some { cls := .type "list", dict := none, data := .seq its.toArray c', slots := #[] } → EP X pins σ Q (.ref s.heap.objs.size) { s with heap := h' } := fun its r' hz h' c' kp e =>
    ⟨.ref s.heap.objs.size, _, I.laid (t' := s.toks) kp (Nat.le_refl _) (show ObjOk X.prog X.w _ h' _ (.lst ys) from ⟨hz, its, c', r', e⟩), rfl, q _ (I.hok.fresh (Nat.le_refl _))⟩
  rcases hq with hq | hq
  · obtain ⟨its, r', pl, hz⟩ := I.list hq
    have hlen := r'.length
    obtain ⟨o, ho, hc, n, hd⟩ := pl.isList
    exact call_list_seq p (.inl rfl) ho hc hd (fun h' c' kp e => fin its r' hz h' c' kp e) (by simp only [List.size_toArray] <;> omega)
  · obtain ⟨its, r', pl, hz⟩ := I.tuple hq
    have hlen := r'.length
    obtain ⟨o, ho, hc, n, hd⟩ := pl
    exact call_list_seq p (.inr rfl) ho hc hd (fun h' c' kp e => fin its r' hz h' c' kp e) (by simp only [List.size_toArray] <;> omega)
theorem call_tuple_of : CallR X (.type "tuple") (fun xs H Q => ∃ p ys, xs = [.ref p] ∧ ((SqL X.K H p ys ∧ ∀ l, H l = none → Q (.ref l) (upd H l (.tup ys))) ∨ (SqT X.K H p ys ∧ Q (.ref p) H))) := by
  intro pins s σ H xs us Q I r h
  obtain ⟨p, ys, rfl, h⟩ := h
  obtain ⟨u, rfl, rx⟩ := vals1 r
  cases rx
  rcases h with ⟨hq, q⟩ | ⟨hq, q⟩
  · obtain ⟨its, r', pl, hz⟩ := I.list hq
    have hlen := r'.length
    refine call_tuple_list pl.isList (fun h' kp => ?_) (by simp only [List.size_toArray] <;> omega)
    have I1 : Inv X pins σ H { s with heap := h' } := I.kept (t' := s.toks) kp
    have I2 : Inv X pins σ (upd H h'.objs.size (.tup ys)) { s with heap := h'.push { cls := .type "tuple", data := .seq its.toArray } } :=
      I1.laid (t' := s.toks) (fun b o e => Heap.get?_push_of_some _ e) (Nat.le_refl _) (show ObjOk X.prog X.w _ _ _ (.tup ys) from ⟨hz, its, r', IsTup.new _ _⟩)
    exact ⟨.ref h'.objs.size, _, I2, rfl, q _ (I1.hok.fresh (Nat.le_refl _))⟩
  · obtain ⟨its, r', pl, hz⟩ := I.tuple hq
    exact call_tuple_same pl ⟨.ref p, H, I, rfl, q⟩

/-! ### the call of a builtin's method: o.m(..) -/
/-- the value is of that builtin type -/
def tyV (K : PySem.W.Frag) (T : String) (x : V) (H : Hp) : Prop := match x with
  | .str _ => T = "str"
  | .int _ => T = "int"
  | .ref p => (T = "list" ∧ ∃ xs, SqL K H p xs) ∨ (T = "tuple" ∧ ∃ o, K.lookup p = some o ∧ o.cls = .type "tuple" ∧ o.dict = none) ∨
      (T = "dict" ∧ ((∃ kvs, H p = some (.dK kvs)) ∨ ∃ kvs, H p = some (.dT kvs))) ∨ (T = "set" ∧ ∃ S n, H p = some (.set S n))
  | _ => False
theorem tyV_is {pins : List (Addr × Obj)} {σ : St} {H : Hp} {s : Shared} {T : String} {x : V} {v : Value} (I : Inv X pins σ H s) (r : RelV x v) (ty : tyV X.K T x H) :
    s.TypeIs v T ∧ ∀ a, v = .ref a → ∃ ob, s.heap.get? a = some ob ∧ ob.dict = none := by
  cases x with
  | str z =>
    obtain ⟨t, rfl⟩ := r
    cases (show T = "str" from ty)
    exact ⟨typeIs_str s z t, fun _ e => nomatch e⟩
  | int i =>
    obtain ⟨t, rfl⟩ := r
    cases (show T = "int" from ty)
    exact ⟨typeIs_int s i t, fun _ e => nomatch e⟩
  | ref p =>
    cases r
    rcases ty with ⟨rfl, xs, hq⟩ | ⟨rfl, o, hk, hc, hd⟩ | ⟨rfl, hk⟩ | ⟨rfl, S, n, hk⟩
    · obtain ⟨its, _, pl, _⟩ := I.list hq
      refine ⟨pl.isList.typeIs, fun a e => ?_⟩
      cases e
      obtain ⟨o, n, e, c, hd, _⟩ := pl
      exact ⟨o, e, hd⟩
    · refine ⟨⟨o, I.kIn p o hk, hc⟩, fun a e => ?_⟩
      cases e
      exact ⟨o, I.kIn _ o hk, hd⟩
    · have z : ∃ o, s.heap.get? p = some o ∧ o.ExactDict := by
        rcases hk with ⟨kvs, hk⟩ | ⟨kvs, hk⟩
        · obtain ⟨_, _, _, _, o, _, _, e, ex, _⟩ := I.hok p _ hk
          exact ⟨o, e, ex⟩
        · obtain ⟨_, _, _, _, o, _, _, e, ex, _⟩ := I.hok p _ hk
          exact ⟨o, e, ex⟩
      obtain ⟨o, e, ex⟩ := z
      refine ⟨⟨o, e, ex.1⟩, fun a e2 => ?_⟩
      cases e2
      exact ⟨o, e, ex.2.1⟩
    · obtain ⟨o, _, _, _, e, ex, _⟩ := I.hok p _ hk
      refine ⟨⟨o, e, ex.1⟩, fun a e2 => ?_⟩
      cases e2
      exact ⟨o, e, ex.2.1⟩
  | _ => exact False.elim ty
def tBM0 (K : PySem.W.Frag) (T : String) (r : V → List V → Hp → VK → Prop) (to : TE) : TE := fun σ H Q => to σ H fun x H1 => tyV K T x H1 ∧ r x [] H1 Q
def tBM (K : PySem.W.Frag) (T : String) (r : V → List V → Hp → VK → Prop) (to : TE) (t : TA) : TE := fun σ H Q => to σ H fun x H1 => tyV K T x H1 ∧ t σ H1 fun xs H2 => r x xs H2 Q
variable {o e : Expr} {es : List Expr} {to : TE} {t : TA} {name : Str} {apos cpos : Pos} {T id : String} {r : V → List V → Hp → VK → Prop}
theorem pe_bm0 (pa : PlainAttrs T) (slot : Slot T name id) (hty : typeOf (.builtin id) = pure (.type "method_descriptor")) (hm : MtR X id r) (ho : PE X o to)
    (hbase : attributeBase o name X.env (eval o X.env) = eval o X.env := by rfl) (hline : (apos.endLine == cpos.line) = true := by rfl) : PE X (.Call (.Attribute o name apos) [] [] cpos) (tBM0 X.K T r to) := by
  intro pins s σ H Q I h
  refine wpAny_Call_method0_late hbase hline (thn (ho pins s σ H _ I h) fun v s1 ⟨x, H1, I1, r1, ty, q1⟩ => ?_)
  obtain ⟨h1, h2⟩ := tyV_is I1 r1 ty
  exact ⟨T, id, pa, slot, hty, h1, h2, Calls.callWith_builtin rfl (PySem.evalArgs_none (hm pins s1 σ H1 x [] v [] Q I1 r1 .nil q1))⟩
theorem pe_bm (pa : PlainAttrs T) (slot : Slot T name id) (hty : typeOf (.builtin id) = pure (.type "method_descriptor")) (hm : MtR X id r) (ho : PE X o to) (ha : PA X (e :: es) t)
    (hbase : attributeBase o name X.env (eval o X.env) = eval o X.env := by rfl)
    (hfew : ((backTo cpos (starEach (e :: es) X.env)).all (fun x => !x.1) && (backToKw cpos (keywordEach [] X.env)).all (fun x => x.1.isSome)
      && decide ((e :: es).length + ([] : List Keyword).length + (if ([] : List Keyword).isEmpty then 0 else 1) < 30)) = true := by rfl)
    (hline : (apos.endLine == cpos.line) = true := by rfl) (hs : starEach (e :: es) X.env = (false, eval e X.env) :: starEach es X.env := by rfl) (hplain : (backTo cpos (starEach es X.env)).any (·.1) = false := by rfl) :
    PE X (.Call (.Attribute o name apos) (e :: es) [] cpos) (tBM X.K T r to t) := by
  intro pins s σ H Q I h
  refine wpAny_Call_method_late hbase hfew hline rfl (thn (ho pins s σ H _ I h) fun v s1 ⟨x, H1, I1, r1, ty, q1⟩ => ?_)
  obtain ⟨h1, h2⟩ := tyV_is I1 r1 ty
  refine ⟨T, id, pa, slot, hty, h1, h2, ?_⟩
  have hA := ha cpos pins s1 σ H1 _ I1 q1
  rw [hs] at hA ⊢
  refine Calls.callWith_builtin (by show (false || (backTo cpos (starEach es X.env)).any (·.1)) = false; rw [hplain] <;> rfl) (Calls.evalArgs_plain ?_)
  exact thn hA fun us s2 ⟨vs, H2, I2, r2, q2⟩ => hm pins s2 σ H2 x vs v us Q I2 r1 r2 q2
/- xs.append(e), list.index on a module's tuple .. are MtR facts of 06m -/
end
end L2

namespace L2
open PySem PySem.Spec PyProof.Rows

def MtM (X : Cx) (id : String) (r : V → List V → Hp → VK → Prop) : Prop :=
  ∀ (pins : List (Addr × Obj)) (s : Shared) (σ : St) (H : Hp) (x : V) (xs : List V) (v : Value) (us : List Value) (Q : VK), Inv X pins σ H s → RelV x v → Vals xs us → r x xs H Q →
    wpAny (model X.prog X.w) X.A (call (.builtin id) (v :: us)) (EP X pins σ Q) X.xe s

/-! ### lists of values -/
theorem Vals.one : ∀ {x : V} {us : List Value}, Vals [x] us → ∃ u, us = [u] ∧ RelV x u
  | _, _, .cons r .nil => ⟨_, rfl, r⟩
theorem Vals.two : ∀ {x y : V} {us : List Value}, Vals [x, y] us → ∃ u v, us = [u, v] ∧ RelV x u ∧ RelV y v
  | _, _, _, .cons r (.cons q .nil) => ⟨_, _, rfl, r, q⟩
theorem Vals.zero : ∀ {us : List Value}, Vals [] us → us = []
  | _, .nil => rfl
theorem Vals.dropLast {xs : List V} {us : List Value} (h : Vals xs us) : Vals xs.dropLast us.dropLast := by
  induction h with
  | nil => exact .nil
  | cons r t ih =>
    cases t with
    | nil => exact .nil
    | cons q t' => exact .cons r ih
theorem Vals.eraseIdx : ∀ {xs : List V} {us : List Value} (i : Nat), Vals xs us → Vals (xs.eraseIdx i) (us.eraseIdx i)
  | _, _, _, .nil => .nil
  | _, _, 0, .cons _ t => t
  | _, _, i + 1, .cons r t => .cons r (Vals.eraseIdx i t)
theorem Vals.reverse {xs : List V} {us : List Value} (h : Vals xs us) : Vals xs.reverse us.reverse := by
  induction h with
  | nil => exact .nil
  | cons r t ih => rw [List.reverse_cons, List.reverse_cons]; exact Vals.append ih (.cons r .nil)
theorem Vals.rep {xs : List V} {us : List Value} (h : Vals xs us) : ∀ k : Nat, Vals (List.replicate k xs).flatten (List.replicate k us).flatten
  | 0 => .nil
  | k + 1 => by
    rw [List.replicate_succ, List.replicate_succ, List.flatten_cons, List.flatten_cons]
    exact Vals.append h (Vals.rep h k)
theorem erase_last {α : Type} (l : List α) : l.eraseIdx (l.length - 1) = l.dropLast := by
  induction l with
  | nil => rfl
  | cons a r ih =>
    cases r with
    | nil => rfl
    | cons b r =>
      have e : (a :: b :: r).length - 1 = ((b :: r).length - 1) + 1 := by
        have h1 : (a :: b :: r).length = r.length + 2 := rfl
        have h2 : (b :: r).length = r.length + 1 := rfl
        omega
      rw [e, List.eraseIdx_cons_succ, ih]
      all_goals rfl
theorem len_erase {α : Type} : ∀ (l : List α) (i : Nat), (l.eraseIdx i).length ≤ l.length
  | [], _ => Nat.le_refl _
  | _ :: _, 0 => Nat.le_succ _
  | _ :: r, i + 1 => Nat.succ_le_succ (len_erase r i)
theorem foldl_rep (its : List Value) : ∀ (k : Nat) (acc : List Value),
    List.foldl (fun x1 x2 => x1 ++ x2) acc.toArray (List.replicate k its.toArray) = (acc ++ (List.replicate k its).flatten).toArray
  | 0, acc => by simp
  | k + 1, acc => by
    have e : acc.toArray ++ its.toArray = (acc ++ its).toArray := by simp
    have e2 : (acc ++ its) ++ (List.replicate k its).flatten = acc ++ (List.replicate (k + 1) its).flatten := by
      rw [List.replicate_succ, List.flatten_cons, List.append_assoc]
    rw [← e2, ← foldl_rep its k (acc ++ its), ← e, List.replicate_succ, List.foldl_cons]

section
variable {X : Cx} {pins : List (Addr × Obj)} {σ : St} {H : Hp} {s : Shared} {l b : Addr} {xs ys zs : List V}

/-! ### the two steps: a tracked list is rewritten, a new list is laid -/
theorem Inv.lset {its its' : List Value} {n : Nat} {f : Array Value → Array Value} {t' : Nat} (I : Inv X pins σ H s) (hH : H l = some (.lst xs))
    (e : s.heap.get? l = some { cls := .type "list", data := .seq its.toArray n }) (hf : f its.toArray = its'.toArray) (hv : Vals ys its') (hz : ys.length ≤ sizeLine) :
    Inv X pins σ (upd H l (.lst ys)) { s with heap := s.heap.update l (Obj.mapSeq f), toks := t' } := by
  have q := PySem.IsL.update e f
  rw [hf] at q
  refine I.write (x := l) (e := l) (by rw [hH]; exact trivial) (.inl rfl) (fun b' u hb hu => (Heap.get?_update_other s.heap (Obj.mapSeq f) (Ne.symm hb)).trans hu) ⟨_, q⟩ ?_
  exact ⟨hz, its', _, hv, q⟩
theorem Inv.lnew {its : List Value} {t' : Nat} (I : Inv X pins σ H s) (hv : Vals ys its) (hz : ys.length ≤ sizeLine) :
    Inv X pins σ (upd H s.heap.objs.size (.lst ys)) { s with heap := s.heap.push { cls := .type "list", data := .seq its.toArray }, toks := t' } :=
  I.laid (fun _ _ q => Heap.get?_push_of_some _ q) (Nat.le_refl _) ⟨hz, its, 0, hv, Heap.get?_push_size _ rfl⟩
theorem Inv.fresh (I : Inv X pins σ H s) : H s.heap.objs.size = none := I.hok.fresh (Nat.le_refl _)
theorem Inv.lstM (I : Inv X pins σ H s) (hH : H l = some (.lst xs)) : xs.length ≤ sizeLine ∧ ∃ (its : List Value) (n : Nat), Vals xs its ∧ xs.length = its.length ∧ s.heap.get? l = some { cls := .type "list", data := .seq its.toArray n } := by
  obtain ⟨z, its, n, r, e⟩ := I.hok l _ hH
  exact ⟨z, its, n, r, r.length, e⟩

theorem notLongL {n : Nat} (h : n ≤ sizeLine) : Builtin.List.listTooLong n = false := by
  unfold Builtin.List.listTooLong
  exact decide_eq_false (by omega)
end

section
variable {X : Cx}

/-! ### methods -/
def rAppend : V → List V → Hp → VK → Prop := fun x vs H Q => ∃ l xs y, x = .ref l ∧ vs = [y] ∧ H l = some (.lst xs) ∧ xs.length < sizeLine ∧ Q .non (upd H l (.lst (xs ++ [y])))
theorem mt_append : MtM X "list.append" rAppend := by
  intro pins s σ H x vs v us Q I rx rv h
  obtain ⟨l, xs, y, rfl, rfl, hH, hz, q⟩ := h
  cases rx
  obtain ⟨u, rfl, ru⟩ := rv.one
  obtain ⟨z, its, n, r, hl, e⟩ := I.lstM hH
  refine call_meets F.slot_list_append ⟨_, e, rfl⟩ F.entry_list_append (F.args_list_append_2 _ _) (PySem.list_append l its.toArray n u (by rw [List.size_toArray]; omega)) ⟨e, ?_⟩
  refine ⟨.non, _, I.lset (its' := its ++ [u]) hH e (by simp) (r.append (.cons ru .nil)) ?_, rfl, q⟩
  rw [List.length_append, List.length_singleton]
  omega

def rExtend : V → List V → Hp → VK → Prop := fun x vs H Q => ∃ l b xs zs, x = .ref l ∧ vs = [.ref b] ∧ H l = some (.lst xs) ∧ H b = some (.lst zs) ∧ xs.length + zs.length ≤ sizeLine ∧ Q .non (upd H l (.lst (xs ++ zs)))
theorem mt_extend : MtM X "list.extend" rExtend := by
  intro pins s σ H x vs v us Q I rx rv h
  obtain ⟨l, b, xs, zs, rfl, rfl, hH, hB, hz, q⟩ := h
  cases rx
  obtain ⟨u, rfl, ru⟩ := rv.one
  cases ru
  obtain ⟨z, its, n, r, hl, e⟩ := I.lstM hH
  obtain ⟨z2, its2, n2, r2, hl2, e2⟩ := I.lstM hB
  have hsz : its.toArray.size + its2.toArray.size ≤ sizeLine := by rw [List.size_toArray, List.size_toArray]; omega
  have hlong : ¬ (!its.toArray.isEmpty && Builtin.List.listTooLong (its.toArray.size + its2.toArray.size)) = true := by
    rw [notLongL hsz, Bool.and_false]
    exact Bool.false_ne_true
  refine call_meets F.slot_list_extend ⟨_, e, rfl⟩ F.entry_list_extend (F.args_list_extend_2 _ _)
    (AutoSeq1.list_extend_list_list_0 l its.toArray n b its2.toArray n2 hlong (by rw [List.size_toArray]; omega) (by omega)) ⟨e, e2, ?_⟩
  refine ⟨.non, _, I.lset (its' := its ++ its2) hH e (by simp) (r.append r2) ?_, rfl, q⟩
  rw [List.length_append]
  omega

def rPop : V → List V → Hp → VK → Prop := fun x vs H Q => ∃ l xs y, x = .ref l ∧ vs = [] ∧ H l = some (.lst xs) ∧ xs[xs.length - 1]? = some y ∧ Q y (upd H l (.lst xs.dropLast))
theorem mt_pop : MtM X "list.pop" rPop := by
  intro pins s σ H x vs v us Q I rx rv h
  obtain ⟨l, xs, y, rfl, rfl, hH, hy, q⟩ := h
  cases rx
  have hus := rv.zero
  subst hus
  obtain ⟨z, its, n, r, hl, e⟩ := I.lstM hH
  obtain ⟨u, hu, ru⟩ := r.get hy
  have hy' : its.toArray[its.toArray.size - 1]? = some u := by
    show its.toArray[its.length - 1]? = some u
    rw [← Array.getElem?_toList, ← hl]
    exact hu
  refine call_meets F.slot_list_pop ⟨_, e, rfl⟩ F.entry_list_pop (F.args_list_pop_1 _) (MeetsSeq.list_pop_last l its.toArray n u hy' (by rw [List.size_toArray]; omega)) ⟨e, ?_⟩
  refine ⟨y, _, I.lset (its' := its.dropLast) hH e ?_ r.dropLast ?_, ru, q⟩
  · show its.toArray.eraseIdxIfInBounds (its.toArray.size - 1) = its.dropLast.toArray
    rw [List.size_toArray, List.eraseIdxIfInBounds_toArray, erase_last]
  · rw [List.length_dropLast]
    omega

def rPopAt : V → List V → Hp → VK → Prop := fun x vs H Q => ∃ l xs i k y, x = .ref l ∧ vs = [.int i] ∧ H l = some (.lst xs) ∧ -(2 ^ 63) ≤ i ∧ i < 2 ^ 63 ∧ seqIndex? i xs.length = some k ∧ xs[k]? = some y ∧ Q y (upd H l (.lst (xs.eraseIdx k)))
theorem mt_popAt : MtM X "list.pop" rPopAt := by
  intro pins s σ H x vs v us Q I rx rv h
  obtain ⟨l, xs, i, k, y, rfl, rfl, hH, h1, h2, hk, hy, q⟩ := h
  cases rx
  obtain ⟨u, rfl, ru⟩ := rv.one
  obtain ⟨t, rfl⟩ := ru
  obtain ⟨z, its, n, r, hl, e⟩ := I.lstM hH
  obtain ⟨w, hw, rw'⟩ := r.get hy
  refine call_meets F.slot_list_pop ⟨_, e, rfl⟩ F.entry_list_pop (F.args_list_pop_2 _ _)
    (MeetsSeq.list_pop_at l its.toArray n i t k w (fitsIndex_both h1 h2) (by rw [List.size_toArray, ← hl]; exact hk) (by rw [← Array.getElem?_toList]; exact hw) (by rw [List.size_toArray]; omega)) ⟨e, ?_⟩
  refine ⟨y, _, I.lset (its' := its.eraseIdx k) hH e ?_ (r.eraseIdx k) ?_, rw', q⟩
  · show its.toArray.eraseIdxIfInBounds k = (its.eraseIdx k).toArray
    rw [List.eraseIdxIfInBounds_toArray]
  · have := len_erase xs k
    omega

def rReverse : V → List V → Hp → VK → Prop := fun x vs H Q => ∃ l xs, x = .ref l ∧ vs = [] ∧ H l = some (.lst xs) ∧ Q .non (upd H l (.lst xs.reverse))
theorem mt_reverse : MtM X "list.reverse" rReverse := by
  intro pins s σ H x vs v us Q I rx rv h
  obtain ⟨l, xs, rfl, rfl, hH, q⟩ := h
  cases rx
  have hus := rv.zero
  subst hus
  obtain ⟨z, its, n, r, hl, e⟩ := I.lstM hH
  refine call_meets F.slot_list_reverse ⟨_, e, rfl⟩ F.entry_list_reverse (F.args_list_reverse_1 _) (AutoSeq1.list_reverse_list_0 l its.toArray n (by rw [List.size_toArray]; omega)) ⟨e, ?_⟩
  refine ⟨.non, _, I.lset (its' := its.reverse) hH e (by simp) r.reverse ?_, rfl, q⟩
  rw [List.length_reverse]
  omega

def rClear : V → List V → Hp → VK → Prop := fun x vs H Q => ∃ l xs, x = .ref l ∧ vs = [] ∧ H l = some (.lst xs) ∧ Q .non (upd H l (.lst []))
theorem mt_clear : MtM X "list.clear" rClear := by
  intro pins s σ H x vs v us Q I rx rv h
  obtain ⟨l, xs, rfl, rfl, hH, q⟩ := h
  cases rx
  have hus := rv.zero
  subst hus
  obtain ⟨z, its, n, r, hl, e⟩ := I.lstM hH
  refine call_meets F.slot_list_clear ⟨_, e, rfl⟩ F.entry_list_clear (F.args_list_clear_1 _) (AutoSeq1.list_clear_list_0 l its.toArray n (by rw [List.size_toArray]; omega)) ⟨e, ?_⟩
  exact ⟨.non, _, I.lset (its' := []) (ys := []) hH e rfl .nil (Nat.zero_le _), rfl, q⟩

/-! ### list + list, list += list, list * int -/
def rCat : R2 := fun x y H Q => ∃ l b xs zs, x = .ref l ∧ y = .ref b ∧ H l = some (.lst xs) ∧ H b = some (.lst zs) ∧ xs.length + zs.length ≤ sizeLine ∧ ∀ p, H p = none → Q (.ref p) (upd H p (.lst (xs ++ zs)))
theorem op_cat : OpR X (binaryOp .Add) rCat := by
  intro pins s σ H x y v u Q I rx ry h
  obtain ⟨l, b, xs, zs, rfl, rfl, hH, hB, hz, q⟩ := h
  cases rx
  cases ry
  obtain ⟨z, its, n, r, hl, e⟩ := I.lstM hH
  obtain ⟨z2, its2, n2, r2, hl2, e2⟩ := I.lstM hB
  refine PySem.P.add_list e e2 ?_ (by rw [List.size_toArray, List.size_toArray]; omega)
  have ea : its.toArray ++ its2.toArray = (its ++ its2).toArray := by simp
  rw [ea]
  exact ⟨.ref _, _, I.lnew (t' := s.toks) (r.append r2) (by rw [List.length_append]; omega), rfl, q _ I.fresh⟩
/-- a list times an int (a negative one is nothing) -/
def rRep : R2 := fun x y H Q => ∃ l k xs, x = .ref l ∧ y = .int k ∧ H l = some (.lst xs) ∧ -(2 ^ 63) ≤ k ∧ k < 2 ^ 63 ∧ xs.length * k.toNat ≤ sizeLine ∧
  ∀ p, H p = none → Q (.ref p) (upd H p (.lst (List.replicate k.toNat xs).flatten))
theorem len_rep {α : Type} (xs : List α) (k : Nat) : (List.replicate k xs).flatten.length = k * xs.length := by
  induction k with
  | zero => simp
  | succ k ih => rw [List.replicate_succ, List.flatten_cons, List.length_append, ih, Nat.succ_mul, Nat.add_comm]
theorem op_rep : OpR X (binaryOp .Mult) rRep := by
  intro pins s σ H x y v u Q I rx ry h
  obtain ⟨l, k, xs, rfl, rfl, hH, h1, h2, hz, q⟩ := h
  cases rx
  obtain ⟨t, rfl⟩ := ry
  obtain ⟨z, its, n, r, hl, e⟩ := I.lstM hH
  have hlen : its.toArray.size * k.toNat ≤ sizeLine := by rw [List.size_toArray, ← hl]; exact hz
  have hcap : ¬ its.toArray.size * k.toNat > (2 ^ 63 - 1) / 8 := by
    have : (sizeLine : Nat) ≤ (2 ^ 63 - 1) / 8 := by decide
    omega
  have hfit : ¬ (!Builtin.List.listFitsIndex k) = true := by
    rw [fitsIndex_both h1 h2]
    exact Bool.false_ne_true
  have hlong : ¬ Builtin.List.listTooLong (its.toArray.size * k.toNat) = true := by
    rw [notLongL hlen]
    exact Bool.false_ne_true
  have hnew : List.foldl (fun x1 x2 => x1 ++ x2) #[] (List.replicate (if its.toArray.isEmpty = true then 0 else k.toNat) its.toArray) = (List.replicate k.toNat its).flatten.toArray := by
    have f0 : ∀ m : Nat, List.foldl (fun x1 x2 => x1 ++ x2) #[] (List.replicate m its.toArray) = (List.replicate m its).flatten.toArray := fun m => by
      have := foldl_rep its m []
      rw [List.nil_append] at this
      exact this
    rw [f0]
    cases its with
    | nil => simp
    | cons a r' => rw [if_neg (by simp)]
  refine wpAny_binaryOp_repeat_ref (T := "list") (U := "int") (by decide) ⟨_, e, rfl⟩ (fun s' => typeIs_int s' k t) noFill_list_mul F.fills_int_mul F.slot_int_rmul repeat_list F.slot_int_index.lookup
    (call_meets F.slot_int_rmul (typeIs_int s k t) F.entry_int_rmul (F.args_int_rmul_2 _ _) (int___rmul___int_list k t l its.toArray n)
      ⟨e, rfl, ⟨_, e, rfl⟩, call_meets F.slot_list_mul ⟨_, e, rfl⟩ F.entry_list_mul (F.args_list_mul_2 _ _) (AutoListH.list___mul___list_int_3 l its.toArray n k t hfit hcap hlong) ⟨e, ?_⟩⟩)
  rw [hnew]
  exact ⟨.ref _, _, I.lnew (t' := s.toks) (r.rep k.toNat) (by rw [len_rep, Nat.mul_comm]; exact hz), rfl, q _ I.fresh⟩

/-! ### del xs[i] -/
theorem del_list {pins : List (Addr × Obj)} {s : Shared} {σ : St} {H : Hp} {l : Addr} {xs : List V} {i : Int} {t : Tok} {k : Nat} {Q : Unit → Shared → Prop} (I : Inv X pins σ H s) (hH : H l = some (.lst xs))
    (h1 : -(2 ^ 63) ≤ i) (h2 : i < 2 ^ 63) (hk : seqIndex? i xs.length = some k) (h : ∀ s', Inv X pins σ (upd H l (.lst (xs.eraseIdx k))) s' → Q () s') :
    wpAny (model X.prog X.w) X.A (delItem (.ref l) (.int i t)) Q X.xe s := by
  obtain ⟨z, its, n, r, hl, e⟩ := I.lstM hH
  refine PySem.P.delItem_list (k := k) e (fitsIndex_both h1 h2) (by rw [List.size_toArray, ← hl]; exact hk) (h _ ?_) (by rw [List.size_toArray]; omega)
  refine I.lset (its' := its.eraseIdx k) (t' := s.toks) hH e ?_ (r.eraseIdx k) ?_
  · show its.toArray.eraseIdxIfInBounds k = (its.eraseIdx k).toArray
    rw [List.eraseIdxIfInBounds_toArray]
  · have := len_erase xs k
    omega
end

/-! ### xs[a:b] = ys -/
section
variable {prog : Program} {w : World} {A : Around} {E : Value → Shared → Prop} {s : Shared}
theorem splice_eq (its its2 : List Value) (a c : Nat) : its.toArray.extract 0 a ++ its2.toArray ++ its.toArray.extract c its.toArray.size = (its.take a ++ its2 ++ its.drop c).toArray := by
  apply Array.toList_inj.mp
  first
    | (simp
       exact List.take_of_length_le (by simp))
    | simp [List.take_of_length_le]
    | simp
theorem bounds_run {a c n : Nat} (hac : a ≤ c) (hc : c ≤ n) : sliceBounds (some (a : Int)) (some (c : Int)) none n = ((a : Int), (c : Int), 1) := by
  simp only [sliceBounds, Option.getD_none]
  have h1 : ¬ ((a : Int) < 0) := by omega
  have h2 : ¬ ((c : Int) < 0) := by omega
  simp only [h1, h2, if_false, show (1 : Int) > 0 by decide, if_true]
  congr 1
  · omega
  · congr 1; omega
set_option maxRecDepth 100000 in
/-- list.__setitem__ with a slice of step one and another list -/
theorem setItem_slice {l b sl : Addr} {items new : Array Value} {n n2 : Nat} {vl vu : Value} {a c : Nat} {Q : Unit → Shared → Prop}
    (e : s.heap.get? l = some { cls := .type "list", data := .seq items n }) (e2 : s.heap.get? b = some { cls := .type "list", data := .seq new n2 }) (hne : l ≠ b)
    (hs : s.heap.IsSliceOf sl vl vu .none) (pl : IsPart vl (some (a : Int))) (pu : IsPart vu (some (c : Int))) (hac : a ≤ c) (hc : c ≤ items.size)
    (hsz : items.size + new.size ≤ sizeLine) (h : Q () { s with heap := s.heap.update l (Obj.mapSeq fun xs => xs.extract 0 a ++ new ++ xs.extract c xs.size) }) :
    wpAny (model prog w) A (setItem (.ref l) (.ref sl) (.ref b)) Q E s := by
  have hl : s.heap.IsList l items := PySem.IsL.isList e
  have hb : s.heap.IsList b new := PySem.IsL.isList e2
  obtain ⟨os, hos, hcs, hds⟩ := id hs
  have hTs : s.TypeIs (.ref sl) "slice" := ⟨os, hos, hcs⟩
  have hstep : ¬ ((rawPart none == rawInt 0) = true) := Bool.false_ne_true
  have hsame : Builtin.List.listSameRef (.ref l) (.ref b) = false := by
    unfold Builtin.List.listSameRef
    exact beq_eq_false_iff_ne.mpr hne
  have hmax : (max (a : Int) (c : Int)).toNat = c := by omega
  have hz' : ((fun xs : Array Value => xs.extract 0 a ++ new ++ xs.extract c xs.size) items).size ≤ sizeLine + 1 := by
    simp only [Array.size_append, Array.size_extract]
    omega
  unfold setItem
  try with_reducible refine wpAny_holding ?_
  first | refine wpAny_bind (wpAny_pure ?_) | skip
  refine wpAny_bind (wpAny_sequenceKey hl.typeIs (by decide) ?_)
  refine wpAny_bind (wpAny_callSpecial?_slot (name := Str.ofString "__setitem__") hl.typeIs slot_list_setitem
    (wpAny_call_entry slot_list_setitem hl.typeIs entry_list_setitem ?_ (args_list_setitem _ _ _)))
  show wpAny _ _ (Builtin.List.listSubscript? (.ref sl) >>= _) _ _ s
  refine wpAny_bind ?_
  unfold Builtin.List.listSubscript?
  refine wpAny_bind (wpAny_specialOf hTs slice_no_index ?_)
  simp only [Option.isNone_none, if_true]
  refine wpAny_pure ?_
  show wpAny _ _ (typeOf (.ref sl) >>= _) _ _ s
  refine wpAny_bind (wpAny_typeOf hTs ?_)
  first
    | rw [if_neg (by decide)]
    | refine PySem.W.KFB.if_not (by decide) ?_
  rw [listSliceParts_eq]
  refine wpAny_bind (wpAny_bind (wpAny_field hos hds (x := .none) rfl (wpAny_bind (wpAny_listPart .none ?_))))
  rw [if_neg hstep]
  refine wpAny_bind (wpAny_field hos hds (x := vl) rfl (wpAny_bind (wpAny_listPart pl ?_)))
  refine wpAny_bind (wpAny_field hos hds (x := vu) rfl (wpAny_bind (wpAny_listPart pu (wpAny_pure ?_))))
  first
    | simp only [hsame, Bool.false_eq_true, if_false]
    | refine PySem.W.KFB.if_not hsame ?_
    | (dsimp only
       rw [if_neg (by rw [hsame]; exact Bool.false_ne_true)])
  refine wpAny_bind (m := Builtin.List.listAllItems (.ref b) "must assign iterable to extended slice") ?_
  unfold Builtin.List.listAllItems
  refine wpAny_bind (wpAny_typeOf hb.typeIs ?_)
  first
    | refine PySem.W.KFB.if_so (by decide) ?_
    | rw [if_pos (by decide)]
    | simp only [beq_self_eq_true, Bool.true_or, if_true]
  unfold Builtin.List.listItems
  refine wpAny_bind (wpAny_seqItems e2 rfl (wpAny_pure ?_))
  refine wpAny_bind (wpAny_bind (wpAny_seqItems e rfl (wpAny_pure ?_)))
  refine wpAny_bind (wpAny_of_eq ((sliceIndices_raw (some (a : Int)) (some (c : Int)) none items.size (by simp)).trans (congrArg (pure : Int × Int × Int → Sem (Int × Int × Int)) (bounds_run hac hc))) ?_)
  show wpAny _ _ (if ((1 : Int) == 1) = true then _ else _) _ _ s
  rw [if_pos (by decide)]
  refine wpAny_bind (wpAny_rule ?_)
  first
    | simp only [notLongL hsz, Bool.false_eq_true, if_false]
    | refine PySem.W.KFB.if_not (notLongL hsz) ?_
  first | refine wpAny_bind (wpAny_pure ?_) | skip
  show wpAny _ _ (updateSeq l (fun xs => xs.extract 0 ((a : Int)).toNat ++ new ++ xs.extract (max (a : Int) (c : Int)).toNat xs.size) >>= _) _ _ s
  rw [hmax, Int.toNat_natCast]
  refine wpAny_bind (wpAny_updateSeq (hz := Nat.le_trans (Nat.le_add_right _ _) hsz) (_hz' := hz') e rfl ?_)
  refine wpAny_bind (wpAny_letGo ?_)
  first
    | exact wpAny_bind (wpAny_pure (wpAny_pure ⟨.none, rfl, wpAny_pure h⟩))
    | exact wpAny_pure ⟨.none, rfl, wpAny_pure h⟩
end

section
variable {X : Cx}
/-- xs[a:c] = ys of another list, at the value level: sl is the slice object that was just made -/
theorem set_slice {pins : List (Addr × Obj)} {s : Shared} {σ : St} {H : Hp} {l b sl : Addr} {xs ys : List V} {a c : Int} {vl vu : Value} {Q : Unit → Shared → Prop} (I : Inv X pins σ H s)
    (hH : H l = some (.lst xs)) (hB : H b = some (.lst ys)) (hne : l ≠ b) (hs : s.heap.IsSliceOf sl vl vu .none) (ra : RelV (.int a) vl) (rc : RelV (.int c) vu) (h0 : 0 ≤ a) (hac : a ≤ c) (hc : c ≤ xs.length)
    (hz : xs.length + ys.length ≤ sizeLine) (h : ∀ s', Inv X pins σ (upd H l (.lst (xs.take a.toNat ++ ys ++ xs.drop c.toNat))) s' → Q () s') :
    wpAny (model X.prog X.w) X.A (setItem (.ref l) (.ref sl) (.ref b)) Q X.xe s := by
  obtain ⟨ta, rfl⟩ := ra
  obtain ⟨tc, rfl⟩ := rc
  obtain ⟨z, its, n, r, hl, e⟩ := I.lstM hH
  obtain ⟨z2, its2, n2, r2, hl2, e2⟩ := I.lstM hB
  obtain ⟨a', rfl⟩ := Int.eq_ofNat_of_zero_le h0
  obtain ⟨c', rfl⟩ := Int.eq_ofNat_of_zero_le (Int.le_trans h0 hac)
  simp only [Int.toNat_natCast] at h
  refine setItem_slice (a := a') (c := c') e e2 hne hs (.int _ _) (.int _ _) (by omega) (by rw [List.size_toArray]; omega) (by rw [List.size_toArray, List.size_toArray]; omega) (h _ ?_)
  refine I.lset (its' := its.take a' ++ its2 ++ its.drop c') (t' := s.toks) hH e ?_ (Vals.append (Vals.append (r.take _) r2) (r.drop _)) ?_
  · exact splice_eq its its2 a' c'
  · rw [List.length_append, List.length_append, List.length_take, List.length_drop]
    omega
end
end L2

namespace L2
open PySem PySem.Spec PyProof.Rows

/-! ### lists of pairs as tables -/
section
variable {κ : Type} [DecidableEq κ]
def valV (kvs : List (κ × V)) (k : κ) : Option V := (kvs.find? fun kv => decide (kv.1 = k)).map (·.2)
/-- in its place, or at the end -/
def putK (kvs : List (κ × V)) (k : κ) (v : V) : List (κ × V) :=
  if (kvs.any fun kv => decide (kv.1 = k)) = true then kvs.map (fun kv => if kv.1 = k then (kv.1, v) else kv) else kvs ++ [(k, v)]
def dropK (kvs : List (κ × V)) (k : κ) : List (κ × V) := kvs.filter fun kv => decide (kv.1 ≠ k)

theorem valV_nil {k : κ} : valV ([] : List (κ × V)) k = none := rfl
theorem valV_pos {p : κ × V} {r : List (κ × V)} {k : κ} (e : p.1 = k) : valV (p :: r) k = some p.2 := by simp [valV, List.find?_cons, e]
theorem valV_neg {p : κ × V} {r : List (κ × V)} {k : κ} (e : ¬ p.1 = k) : valV (p :: r) k = valV r k := by simp [valV, List.find?_cons, e]
theorem valV_any (k : κ) : ∀ kvs : List (κ × V), (kvs.any fun kv => decide (kv.1 = k)) = (valV kvs k).isSome
  | [] => rfl
  | p :: r => by
    rw [List.any_cons]
    by_cases e : p.1 = k
    · simp only [valV_pos e, decide_eq_true e, Bool.true_or, Option.isSome_some]
    · rw [valV_neg e, decide_eq_false e, Bool.false_or]; exact valV_any k r
theorem valV_map (k j : κ) (y : V) : ∀ kvs : List (κ × V), valV (kvs.map fun kv => if kv.1 = k then (kv.1, y) else kv) j = (valV kvs j).map fun x => if j = k then y else x
  | [] => rfl
  | p :: r => by
    have ih := valV_map k j y r
    rw [List.map_cons]
    by_cases h : p.1 = k
    · rw [if_pos h]
      by_cases e : p.1 = j
      · rw [valV_pos (p := (p.1, y)) e, valV_pos e, Option.map_some, if_pos (e.symm.trans h)]
      · rw [valV_neg (p := (p.1, y)) e, valV_neg e, ih]
    · rw [if_neg h]
      by_cases e : p.1 = j
      · rw [valV_pos (p := p) e, valV_pos e, Option.map_some, if_neg (fun z => h (e.trans z))]
      · rw [valV_neg (p := p) e, valV_neg e, ih]
theorem valV_snoc (k j : κ) (y : V) : ∀ kvs : List (κ × V), valV kvs k = none → valV (kvs ++ [(k, y)]) j = if j = k then some y else valV kvs j
  | [], _ => by
    by_cases e : k = j
    · rw [if_pos e.symm]; exact valV_pos (p := (k, y)) e
    · rw [if_neg (fun z => e z.symm)]; exact valV_neg (p := (k, y)) e
  | p :: r, hn => by
    rw [List.cons_append]
    have hk : ¬ p.1 = k := fun z => by rw [valV_pos z] at hn; cases hn
    rw [valV_neg hk] at hn
    have ih := valV_snoc k j y r hn
    by_cases e : p.1 = j
    · rw [valV_pos e, valV_pos e, if_neg (fun z => hk (e.trans z))]
    · rw [valV_neg e, valV_neg e, ih]
theorem valV_put (kvs : List (κ × V)) (k j : κ) (y : V) : valV (putK kvs k y) j = if j = k then some y else valV kvs j := by
  unfold putK
  by_cases a : (kvs.any fun kv => decide (kv.1 = k)) = true
  · rw [if_pos a, valV_map]
    rw [valV_any] at a
    by_cases e : j = k
    · obtain ⟨x, hx⟩ := Option.isSome_iff_exists.mp a
      rw [if_pos e, e, hx, Option.map_some, if_pos rfl]
    · rw [if_neg e]
      cases valV kvs j with
      | none => rfl
      | some x => rw [Option.map_some, if_neg e]
  · rw [if_neg a]
    refine valV_snoc k j y kvs ?_
    rw [valV_any] at a
    cases q : valV kvs k with
    | none => rfl
    | some x => rw [q] at a; exact (a rfl).elim
theorem length_putK (kvs : List (κ × V)) (k : κ) (v : V) : (putK kvs k v).length ≤ kvs.length + 1 := by
  unfold putK
  split
  · rw [List.length_map]; omega
  · rw [List.length_append, List.length_cons, List.length_nil]; omega
theorem putK_new {kvs : List (κ × V)} {k : κ} (v : V) (h : valV kvs k = none) : putK kvs k v = kvs ++ [(k, v)] := by
  unfold putK
  rw [valV_any, h]
  exact if_neg (by decide)

theorem RelO.isSome_eq {o : Option V} {u : Option Value} (r : RelO o u) : o.isSome = u.isSome := by
  cases o with
  | none => cases u with
    | none => rfl
    | some _ => exact (show False from r).elim
  | some _ => cases u with
    | none => exact (show False from r).elim
    | some _ => rfl
theorem RelO.getD {o : Option V} {u : Option Value} {d : V} {d' : Value} (r : RelO o u) (rd : RelV d d') : RelV (o.getD d) (u.getD d') := by
  cases o with
  | none => cases u with
    | none => exact rd
    | some _ => exact (show False from r).elim
  | some _ => cases u with
    | none => exact (show False from r).elim
    | some _ => exact r

/-- raw tables of the same keys -/
theorem KV.val {kvs : List (κ × V)} {vs : List (κ × Value)} (r : KV kvs vs) (k : κ) : RelO (valV kvs k) (valueAt vs k) := by
  unfold KV at r
  induction r with
  | nil => exact True.intro
  | @cons p q ps qs h t ih =>
    obtain ⟨h1, h2⟩ := h
    by_cases e : p.1 = k
    · have e' : q.1 = k := h1.symm.trans e
      have b : valueAt (q :: qs) k = some q.2 := by simp [valueAt, List.find?_cons, e']
      rw [valV_pos e, b]; exact h2
    · have e' : ¬ q.1 = k := fun z => e (h1.trans z)
      have b : valueAt (q :: qs) k = valueAt qs k := by simp [valueAt, List.find?_cons, e']
      rw [valV_neg e, b]; exact ih
theorem KV.any {kvs : List (κ × V)} {vs : List (κ × Value)} (r : KV kvs vs) (k : κ) : (kvs.any fun kv => decide (kv.1 = k)) = vs.any fun kv => decide (kv.1 = k) := by
  unfold KV at r
  induction r with
  | nil => rfl
  | cons h t ih => rw [List.any_cons, List.any_cons, ih, h.1]
theorem KV.repl {kvs : List (κ × V)} {vs : List (κ × Value)} (r : KV kvs vs) (k : κ) {y : V} {u : Value} (ry : RelV y u) :
    KV (kvs.map fun kv => if kv.1 = k then (kv.1, y) else kv) (vs.map fun kv => if kv.1 = k then (kv.1, u) else kv) := by
  unfold KV at r ⊢
  induction r with
  | nil => exact .nil
  | @cons p q ps qs h t ih =>
    rw [List.map_cons, List.map_cons]
    refine .cons ?_ ih
    obtain ⟨h1, h2⟩ := h
    by_cases e : p.1 = k
    · rw [if_pos e, if_pos (h1.symm.trans e)]; exact ⟨h1, ry⟩
    · rw [if_neg e, if_neg (fun z => e (h1.trans z))]; exact ⟨h1, h2⟩
theorem KV.put {kvs : List (κ × V)} {vs : List (κ × Value)} (r : KV kvs vs) (k : κ) {y : V} {u : Value} (ry : RelV y u) : KV (putK kvs k y) (stored vs k u) := by
  unfold putK stored
  rw [r.any k]
  by_cases e : (vs.any fun kv => decide (kv.1 = k)) = true
  · rw [if_pos e, if_pos e]; exact r.repl k ry
  · rw [if_neg e, if_neg e]; exact Paired.snoc r ⟨rfl, ry⟩
theorem KV.drop {kvs : List (κ × V)} {vs : List (κ × Value)} (r : KV kvs vs) (k : κ) : KV (dropK kvs k) (without vs k) := by
  unfold KV at r ⊢
  unfold dropK without
  induction r with
  | nil => exact .nil
  | @cons p q ps qs h t ih =>
    obtain ⟨h1, h2⟩ := h
    rw [List.filter_cons, List.filter_cons]
    by_cases e : p.1 = k
    · have a : ¬ decide (p.1 ≠ k) = true := by simp [e]
      have b : ¬ decide (q.1 ≠ k) = true := by simp [h1.symm.trans e]
      rw [if_neg a, if_neg b]; exact ih
    · have e' : ¬ q.1 = k := fun z => e (h1.trans z)
      have a : decide (p.1 ≠ k) = true := by simp [e]
      have b : decide (q.1 ≠ k) = true := by simp [e']
      rw [if_pos a, if_pos b]; exact .cons ⟨h1, h2⟩ ih
theorem KV.keys {kvs : List (κ × V)} {vs : List (κ × Value)} (r : KV kvs vs) : kvs.map (·.1) = vs.map (·.1) := by
  unfold KV at r
  induction r with
  | nil => rfl
  | cons h t ih => rw [List.map_cons, List.map_cons, ih, h.1]
theorem KV.length {kvs : List (κ × V)} {vs : List (κ × Value)} (r : KV kvs vs) : kvs.length = vs.length := Paired.length r
theorem dropK_le (kvs : List (κ × V)) (k : κ) : (dropK kvs k).length ≤ kvs.length := List.length_filter_le _ _
end


/-! ### a tracked dict, its keys ints and texts or tuples of these -/
theorem kV_is {P : Program} {w : World} {k : Key} {u : Value} (r : RelV (kV k) u) : (mixKind P w).is k u = true := by
  cases k with
  | inl i => obtain ⟨t, e⟩ := (show ∃ t, u = Value.int i t from r); subst e; exact mixKind_int P w i t
  | inr x => obtain ⟨t, e⟩ := (show ∃ t, u = Value.str x t from r); subst e; exact mixKind_str P w x t
theorem kV_inj {a b : Key} (e : kV a = kV b) : a = b := by
  cases a with
  | inl i => cases b with
    | inl j => have e' : V.int i = V.int j := e; injection e' with e'; rw [e']
    | inr y => exact nomatch (show V.int i = V.str y from e)
  | inr x => cases b with
    | inl j => exact nomatch (show V.str x = V.int j from e)
    | inr y => have e' : V.str x = V.str y := e; injection e' with e'; rw [e']
theorem kVs_inj : ∀ {a b : List Key}, a.map kV = b.map kV → a = b
  | [], [], _ => rfl
  | [], _ :: _, e => by simp at e
  | _ :: _, [], e => by simp at e
  | x :: xs, y :: ys, e => by
    rw [List.map_cons, List.map_cons] at e
    injection e with e1 e2
    rw [kV_inj e1, kVs_inj e2]
theorem items_are {P : Program} {w : World} : ∀ {ks : List Key} {us : List Value}, Vals (ks.map kV) us → ItemsAre (mixKind P w) ks us
  | [], _, r => by rw [List.map_nil] at r; cases r; exact .nil
  | k :: ks, _, r => by
    rw [List.map_cons] at r
    cases r with
    | cons h t => exact .cons (kV_is h) (items_are t)

/-- raw entries of a dict with tuple keys -/
abbrev KT (H : Hp) : List (List Key × V) → List (List Key × Addr × Value) → Prop := Paired fun p q => p.1 = q.1 ∧ H q.2.1 = some (.tup (p.1.map kV)) ∧ RelV p.2 q.2.2
theorem KT.val {H : Hp} {kvs : List (List Key × V)} {xs : List (List Key × Addr × Value)} (r : KT H kvs xs) (k : List Key) : RelO (valV kvs k) ((atKey xs k).map (·.2)) := by
  induction r with
  | nil => exact True.intro
  | @cons p q ps qs h t ih =>
    obtain ⟨h1, _, h2⟩ := h
    by_cases e : p.1 = k
    · have e' : q.1 = k := h1.symm.trans e
      have b : atKey (q :: qs) k = some q.2 := by simp [atKey, List.find?_cons, e']
      rw [valV_pos e, b]; exact h2
    · have e' : ¬ q.1 = k := fun z => e (h1.trans z)
      have b : atKey (q :: qs) k = atKey qs k := by simp [atKey, List.find?_cons, e']
      rw [valV_neg e, b]; exact ih
theorem KT.repl {H : Hp} {kvs : List (List Key × V)} {xs : List (List Key × Addr × Value)} (r : KT H kvs xs) (k : List Key) {y : V} {u : Value} (ry : RelV y u) :
    KT H (kvs.map fun kv => if kv.1 = k then (kv.1, y) else kv) (xs.map (putAt k u)) := by
  induction r with
  | nil => exact .nil
  | @cons p q ps qs h t ih =>
    rw [List.map_cons, List.map_cons]
    refine .cons ?_ ih
    obtain ⟨h1, h2, h3⟩ := h
    unfold putAt
    by_cases e : p.1 = k
    · rw [if_pos e, if_pos (h1.symm.trans e)]; exact ⟨h1, h2, ry⟩
    · rw [if_neg e, if_neg (fun z => e (h1.trans z))]; exact ⟨h1, h2, h3⟩
theorem KT.put {H : Hp} {kvs : List (List Key × V)} {xs : List (List Key × Addr × Value)} (r : KT H kvs xs) (k : List Key) {b : Addr} {y : V} {u : Value} (hb : H b = some (.tup (k.map kV))) (ry : RelV y u) :
    KT H (putK kvs k y) (storedH xs k b u) := by
  have e : (kvs.any fun kv => decide (kv.1 = k)) = (atKey xs k).isSome := by
    rw [valV_any, (r.val k).isSome_eq, Option.isSome_map]
  unfold putK storedH
  rw [e]
  by_cases q : (atKey xs k).isSome = true
  · rw [if_pos q, if_pos q]; exact r.repl k ry
  · rw [if_neg q, if_neg q]; exact Paired.snoc r ⟨rfl, hb, ry⟩
theorem KT.keeps {H H' : Hp} {kvs : List (List Key × V)} {xs : List (List Key × Addr × Value)} (r : KT H kvs xs) (ht : ∀ b ys, H b = some (.tup ys) → H' b = some (.tup ys)) : KT H' kvs xs :=
  Paired.mapP r fun _ _ z => ⟨z.1, ht _ _ z.2.1, z.2.2⟩

section
variable {P : Program} {w : World} {H : Hp} {h : Heap} {a : Addr}
theorem rd_of {u : HO} (ok : HOk P w H h) (e : Rd H a u) : ObjOk P w H h a u := e.ok ok
theorem dk_rd {kvs : List (Key × V)} (ok : HOk P w H h) (e : Rd H a (.dK kvs)) : kvs.length ≤ sizeLine ∧ (a == sysModules) = false ∧ ∃ vs, KV kvs vs ∧ h.DictOf (mixKind P w) a vs :=
  show ObjOk P w H h a (.dK kvs) from rd_of ok e
theorem dk_of {kvs : List (Key × V)} (ok : HOk P w H h) (e : H a = some (.dK kvs)) : kvs.length ≤ sizeLine ∧ (a == sysModules) = false ∧ ∃ vs, KV kvs vs ∧ h.DictOf (mixKind P w) a vs := dk_rd ok (.inl e)
/-- a tracked tuple of ints and texts is a key -/
theorem key_of {ks : List Key} (ok : HOk P w H h) (e : H a = some (.tup (ks.map kV))) : (tupleKind (mixKind P w)).is h ks a := by
  obtain ⟨_, its, r, o, h1, h2, n, h3⟩ := (show ObjOk P w H h a (.tup (ks.map kV)) from ok a _ e)
  exact ⟨o, its.toArray, n, h1, h2, h3, by simpa using items_are r⟩
theorem dt_rd {kvs : List (List Key × V)} (ok : HOk P w H h) (e : Rd H a (.dT kvs)) : kvs.length ≤ sizeLine ∧ (a == sysModules) = false ∧
    ∃ xs, KT H kvs xs ∧ h.DictOfH (tupleKind (mixKind P w)) a xs := by
  obtain ⟨z, y, xs, r, o, es, ep, h1, h2, h3, h4, h5⟩ := (show ObjOk P w H h a (.dT kvs) from rd_of ok e)
  refine ⟨z, y, xs, r, o, es, ep, h1, h2, h3, h4, fun x hx => ?_, h5⟩
  have all : ∀ {l : List (List Key × V)} {m : List (List Key × Addr × Value)}, KT H l m → ∀ x ∈ m, (tupleKind (mixKind P w)).is h x.1 x.2.1 := by
    intro l m q
    induction q with
    | nil => intro x hx; exact nomatch hx
    | @cons p q ps qs hq t ih =>
      intro x hx
      rcases List.mem_cons.mp hx with e | hx
      · subst e
        exact key_of ok (by rw [← hq.1]; exact hq.2.1)
      · exact ih x hx
  exact all r x hx
theorem dt_of {kvs : List (List Key × V)} (ok : HOk P w H h) (e : H a = some (.dT kvs)) : kvs.length ≤ sizeLine ∧ (a == sysModules) = false ∧
    ∃ xs, KT H kvs xs ∧ h.DictOfH (tupleKind (mixKind P w)) a xs := dt_rd ok (.inl e)
end

/-- what the dict at a holds at the key y -/
def DGet (H : Hp) (a : Addr) (y : V) (r : Option V) : Prop :=
  (∃ kvs k, Rd H a (.dK kvs) ∧ y = kV k ∧ r = valV kvs k) ∨ ∃ kvs k b, Rd H a (.dT kvs) ∧ y = .ref b ∧ H b = some (.tup (k.map kV)) ∧ r = valV kvs k
/-- the heap behind a[y] = v -/
def DPut (H : Hp) (a : Addr) (y v : V) (H' : Hp) : Prop :=
  (∃ kvs k, H a = some (.dK kvs) ∧ y = kV k ∧ kvs.length < sizeLine ∧ H' = upd H a (.dK (putK kvs k v))) ∨
  ∃ kvs k b, H a = some (.dT kvs) ∧ y = .ref b ∧ H b = some (.tup (k.map kV)) ∧ kvs.length < sizeLine ∧ H' = upd H a (.dT (putK kvs k v))
theorem DGet.k {H : Hp} {a : Addr} {kvs : List (Key × V)} {k : Key} (e : H a = some (.dK kvs)) : DGet H a (kV k) (valV kvs k) := .inl ⟨kvs, k, .inl e, rfl, rfl⟩
theorem DGet.t {H : Hp} {a b : Addr} {kvs : List (List Key × V)} {k : List Key} (e : H a = some (.dT kvs)) (eb : H b = some (.tup (k.map kV))) : DGet H a (.ref b) (valV kvs k) := .inr ⟨kvs, k, b, .inl e, rfl, eb, rfl⟩
theorem DPut.k {H : Hp} {a : Addr} {kvs : List (Key × V)} {k : Key} {v : V} (e : H a = some (.dK kvs)) (hl : kvs.length < sizeLine) : DPut H a (kV k) v (upd H a (.dK (putK kvs k v))) := .inl ⟨kvs, k, e, rfl, hl, rfl⟩
theorem DPut.t {H : Hp} {a b : Addr} {kvs : List (List Key × V)} {k : List Key} {v : V} (e : H a = some (.dT kvs)) (eb : H b = some (.tup (k.map kV))) (hl : kvs.length < sizeLine) :
    DPut H a (.ref b) v (upd H a (.dT (putK kvs k v))) := .inr ⟨kvs, k, b, e, rfl, eb, hl, rfl⟩


section
variable {X : Cx} {pins : List (Addr × Obj)} {σ : St} {H : Hp} {s : Shared} {a : Addr} {y v : V} {u r : Value} {o : Option V} {A : Around} {E : Value → Shared → Prop}

theorem Inv.big (I : Inv X pins σ H s) : sysModules < s.heap.objs.size := by
  have h : mainGlobals < s.heap.objs.size := (I.mod.glob.keeps I.bk).lt
  exact Nat.lt_trans (by decide) h

/-- d[y], there -/
theorem d_getItem {Q : Value → Shared → Prop} (hu : A.units + 1 < cLine) (I : Inv X pins σ H s) (g : DGet H a y (some v)) (ry : RelV y u) (h : ∀ w' s', Inv X pins σ H s' → RelV v w' → Q w' s') :
    wpAny (model X.prog X.w) A (getItem (.ref a) u) Q E s := by
  rcases g with ⟨kvs, k, e, ey, l⟩ | ⟨kvs, k, b, e, ey, eb, l⟩
  · subst ey
    obtain ⟨z, hd, vs, rel, dd⟩ := dk_rd I.hok e
    obtain ⟨w', hw, rw'⟩ := RelO.some_of (v := v) (o := valueAt vs k) (by rw [l]; exact rel.val k)
    exact wpAny_getItem_of (kV_is ry) dd.mapOf hw (h w' _ (I.tok _) rw')
  · subst ey
    cases (show u = Value.ref b from ry)
    obtain ⟨z, hd, xs, rel, dd⟩ := dt_rd I.hok e
    obtain ⟨w', hw, rw'⟩ := RelO.some_of (v := v) (o := (atKey xs k).map (·.2)) (by rw [l]; exact rel.val k)
    obtain ⟨p, hp, hp2⟩ := Option.map_eq_some_iff.mp hw
    refine wpAny_getItem_heap (tupleKind_room_in1 hu) (key_of I.hok eb) dd hp ?_
    rw [hp2]
    exact h w' _ (I.tok _) rw'
/-- y in d -/
theorem d_in {Q : Value → Shared → Prop} (hu : A.units + 1 < cLine) (I : Inv X pins σ H s) (g : DGet H a y o) (ry : RelV y u) (h : ∀ s', Inv X pins σ H s' → Q (.bool o.isSome) s') :
    wpAny (model X.prog X.w) A (compareOp .In u (.ref a)) Q E s := by
  rcases g with ⟨kvs, k, e, ey, l⟩ | ⟨kvs, k, b, e, ey, eb, l⟩
  · subst ey
    obtain ⟨z, hd, vs, rel, dd⟩ := dk_rd I.hok e
    refine wpAny_in_of (kV_is ry) hd dd.mapOf ?_
    rw [← (rel.val k).isSome_eq, ← l]
    exact h _ (I.tok _)
  · subst ey
    cases (show u = Value.ref b from ry)
    obtain ⟨z, hd, xs, rel, dd⟩ := dt_rd I.hok e
    refine wpAny_in_heap (tupleKind_room_in1 hu) (key_of I.hok eb) hd dd ?_
    have q := (rel.val k).isSome_eq
    rw [Option.isSome_map] at q
    rw [← q, ← l]
    exact h _ (I.tok _)
theorem d_notIn {Q : Value → Shared → Prop} (hu : A.units + 1 < cLine) (I : Inv X pins σ H s) (g : DGet H a y o) (ry : RelV y u) (h : ∀ s', Inv X pins σ H s' → Q (.bool (!o.isSome)) s') :
    wpAny (model X.prog X.w) A (compareOp .NotIn u (.ref a)) Q E s := by
  rcases g with ⟨kvs, k, e, ey, l⟩ | ⟨kvs, k, b, e, ey, eb, l⟩
  · subst ey
    obtain ⟨z, hd, vs, rel, dd⟩ := dk_rd I.hok e
    refine wpAny_notIn_of (kV_is ry) hd dd.mapOf ?_
    rw [← (rel.val k).isSome_eq, ← l]
    exact h _ (I.tok _)
  · subst ey
    cases (show u = Value.ref b from ry)
    obtain ⟨z, hd, xs, rel, dd⟩ := dt_rd I.hok e
    refine wpAny_notIn_heap (tupleKind_room_in1 hu) (key_of I.hok eb) hd dd ?_
    have q := (rel.val k).isSome_eq
    rw [Option.isSome_map] at q
    rw [← q, ← l]
    exact h _ (I.tok _)
/-- a dict's object is replaced -/
theorem d_write {h' : Heap} {t' : Nat} {ob : HO} (I : Inv X pins σ H s) (mu : Mut (H a)) (hs : Heap.SameBut a s.heap h') (he : ∃ q, h'.get? a = some q) (new : ObjOk X.prog X.w (upd H a ob) h' a ob) :
    Inv X pins σ (upd H a ob) { s with heap := h', toks := t' } :=
  I.write (x := a) (e := a) mu (.inl rfl) (fun b q hb z => (hs.2 b hb).trans z) he new
theorem dk_new {P : Program} {w : World} {H' : Hp} {h' : Heap} {kvs : List (Key × V)} {vs : List (Key × Value)} (z : kvs.length ≤ sizeLine) (hd : (a == sysModules) = false) (rel : KV kvs vs) (dd : h'.DictOf (mixKind P w) a vs) :
    ObjOk P w H' h' a (.dK kvs) := ⟨z, hd, vs, rel, dd⟩
/-- d[y] = v -/
theorem d_setItem {H' : Hp} {Q : Unit → Shared → Prop} (hu : A.units + 1 < cLine) (I : Inv X pins σ H s) (g : DPut H a y v H') (ry : RelV y u) (rv : RelV v r) (h : ∀ s', Inv X pins σ H' s' → Q () s') :
    wpAny (model X.prog X.w) A (setItem (.ref a) u r) Q E s := by
  rcases g with ⟨kvs, k, e, ey, l, eH⟩ | ⟨kvs, k, b, e, ey, eb, l, eH⟩
  · subst ey eH
    obtain ⟨z, hd, vs, rel, dd⟩ := dk_of I.hok e
    have hz : vs.length ≤ sizeLine := by rw [← rel.length]; exact z
    have hl : (putK kvs k v).length ≤ sizeLine := by have := length_putK kvs k v; omega
    refine wpAny_setItem_pairs (hsz := hz) (kV_is ry) dd fun h' dd' hs => h _ ?_
    have he : ∃ q, h'.get? a = some q := let ⟨q, _, _, hq, _⟩ := dd'; ⟨q, hq⟩
    exact d_write I (by rw [e]; exact True.intro) hs he (dk_new hl hd (rel.put k rv) dd')
  · subst ey eH
    cases (show u = Value.ref b from ry)
    obtain ⟨z, hd, xs, rel, dd⟩ := dt_of I.hok e
    have hz : xs.length ≤ sizeLine := by rw [← Paired.length rel]; exact z
    have hl : (putK kvs k v).length ≤ sizeLine := by have := length_putK kvs k v; omega
    refine wpAny_setItem_heap (hsz := hz) (tupleKind_room_in1 hu) (key_of I.hok eb) dd fun h' dd' hs => h _ ?_
    obtain ⟨q, es, ep, hq, h2, h3, h4, _, h5⟩ := dd'
    refine d_write I (by rw [e]; exact True.intro) hs ⟨q, hq⟩ ⟨hl, hd, _, (rel.put k eb rv).keeps fun c ys ec => ?_, q, es, ep, hq, h2, h3, h4, h5⟩
    rw [upd_ne (ne_of ec e (fun z => nomatch z))]
    exact ec
end

section
variable {X : Cx} {pins : List (Addr × Obj)} {σ : St} {H : Hp} {s : Shared} {a : Addr} {kvs : List (Key × V)} {k : Key} {u : Value} {A : Around} {E : Value → Shared → Prop}
/-- del d[k] -/
theorem d_delItem {Q : Unit → Shared → Prop} (I : Inv X pins σ H s) (e : H a = some (.dK kvs)) (ry : RelV (kV k) u) (l : (valV kvs k).isSome = true) (h : ∀ s', Inv X pins σ (upd H a (.dK (dropK kvs k))) s' → Q () s') :
    wpAny (model X.prog X.w) A (delItem (.ref a) u) Q E s := by
  obtain ⟨z, hd, vs, rel, dd⟩ := dk_of I.hok e
  refine wpAny_delItem_slot dd.typeIs (by decide) PySem.F.slot_dict_delitem
    (call_meetsIn PySem.F.slot_dict_delitem dd.typeIs PySem.F.entry_dict_delitem (PySem.F.args_dict_delitem_2 _ _) (meets_dict_delitem_pairs (mixKind X.prog X.w) a (kV_is ry)) ⟨vs, dd, by rw [← rel.length]; exact z, by rw [← (rel.val k).isSome_eq]; exact l, fun h' dd' hs => h _ ?_⟩)
  have he : ∃ q, h'.get? a = some q := let ⟨q, _, _, hq, _⟩ := dd'; ⟨q, hq⟩
  exact d_write I (by rw [e]; exact True.intro) hs he (dk_new (Nat.le_trans (dropK_le kvs k) z) hd (rel.drop k) dd')
/-- d.pop(k[, x]), there -/
theorem d_pop {v : V} {more : List Value} {Q : Value → Shared → Prop} (I : Inv X pins σ H s) (e : H a = some (.dK kvs)) (ry : RelV (kV k) u) (l : valV kvs k = some v) (hm : more = [] ∨ ∃ x, more = [x])
    (h : ∀ w' s', Inv X pins σ (upd H a (.dK (dropK kvs k))) s' → RelV v w' → Q w' s') : wpAny (model X.prog X.w) A (call (.builtin "dict.pop") (.ref a :: u :: more)) Q E s := by
  obtain ⟨z, hd, vs, rel, dd⟩ := dk_of I.hok e
  obtain ⟨w', hw, rw'⟩ := RelO.some_of (v := v) (o := valueAt vs k) (by rw [← l]; exact rel.val k)
  have hp : (keyPart u).isSome = true := by
    cases k with
    | inl i => obtain ⟨t, q⟩ := (show ∃ t, u = Value.int i t from ry); subst q; rfl
    | inr x => obtain ⟨t, q⟩ := (show ∃ t, u = Value.str x t from ry); subst q; rfl
  have ha : argsOk "dict.pop" ⟨.ref a :: u :: more, []⟩ := by
    rcases hm with q | ⟨x, q⟩
    · subst q; exact PySem.F.args_dict_pop_2 _ _
    · subst q; exact PySem.F.args_dict_pop_3 _ _ _
  refine call_meetsIn PySem.F.slot_dict_pop dd.typeIs PySem.F.entry_dict_pop ha (meets_dict_pop_there (mixKind X.prog X.w) a (kV_is ry) more hm hp)
    ⟨vs, w', dd, by rw [← rel.length]; exact z, hw, fun h' dd' hs => h w' _ ?_ rw'⟩
  have he : ∃ q, h'.get? a = some q := let ⟨q, _, _, hq, _⟩ := dd'; ⟨q, hq⟩
  exact d_write I (by rw [e]; exact True.intro) hs he (dk_new (Nat.le_trans (dropK_le kvs k) z) hd (rel.drop k) dd')
/-- d.pop(k, x), not there -/
theorem d_popD {r : Value} {Q : Value → Shared → Prop} (I : Inv X pins σ H s) (e : H a = some (.dK kvs)) (ry : RelV (kV k) u) (l : valV kvs k = none) (h : ∀ s', Inv X pins σ H s' → Q r s') :
    wpAny (model X.prog X.w) A (call (.builtin "dict.pop") [.ref a, u, r]) Q E s := by
  obtain ⟨z, hd, vs, rel, dd⟩ := dk_of I.hok e
  have hn : valueAt vs k = none := RelO.none_of (by rw [← l]; exact rel.val k)
  have hp : (keyPart u).isSome = true := by
    cases k with
    | inl i => obtain ⟨t, q⟩ := (show ∃ t, u = Value.int i t from ry); subst q; rfl
    | inr x => obtain ⟨t, q⟩ := (show ∃ t, u = Value.str x t from ry); subst q; rfl
  exact call_meetsIn PySem.F.slot_dict_pop dd.typeIs PySem.F.entry_dict_pop (PySem.F.args_dict_pop_3 _ _ _) (meets_dict_pop_default (mixKind X.prog X.w) a (kV_is ry) hd hp r) ⟨vs, dd, hn, h _ (I.tok _)⟩
/-- d.clear() -/
theorem d_clear {Q : Value → Shared → Prop} (I : Inv X pins σ H s) (e : H a = some (.dK kvs)) (h : ∀ s', Inv X pins σ (upd H a (.dK [])) s' → Q .none s') : wpAny (model X.prog X.w) A (call (.builtin "dict.clear") [.ref a]) Q E s := by
  obtain ⟨z, hd, vs, rel, dd⟩ := dk_of I.hok e
  refine call_meetsIn PySem.F.slot_dict_clear dd.typeIs PySem.F.entry_dict_clear (PySem.F.args_dict_clear_1 _) (meets_dict_clear (mixKind X.prog X.w) a) ⟨vs, dd, by rw [← rel.length]; exact z, fun h' dd' hs => h _ ?_⟩
  have he : ∃ q, h'.get? a = some q := let ⟨q, _, _, hq, _⟩ := dd'; ⟨q, hq⟩
  exact d_write (t' := s.toks) I (by rw [e]; exact True.intro) hs he (dk_new (Nat.zero_le _) hd .nil dd')
/-- len(d) -/
theorem d_len {Q : Value → Shared → Prop} (I : Inv X pins σ H s) (e : Rd H a (.dK kvs)) (h : ∀ t s', Inv X pins σ H s' → Q (.int kvs.length t) s') : wpAny (model X.prog X.w) A (call (.builtin "len") [.ref a]) Q E s := by
  obtain ⟨z, hd, vs, rel, dd⟩ := dk_rd I.hok e
  refine call_len_dict hd dd (by rw [← rel.length]; rw [sizeLine_eq] at z; omega) ?_
  rw [← rel.length]
  exact h _ _ (I.tok _)
/-- if d -/
theorem d_truth {Q : Bool → Shared → Prop} (I : Inv X pins σ H s) (e : Rd H a (.dK kvs)) (h : ∀ s', Inv X pins σ H s' → Q (!kvs.isEmpty) s') : wpAny (model X.prog X.w) A (truthy (.ref a)) Q E s := by
  obtain ⟨z, hd, vs, rel, dd⟩ := dk_rd I.hok e
  refine wpAny_truthy_dict hd dd (by rw [← rel.length]; rw [sizeLine_eq] at z; omega) ?_
  have q : kvs.isEmpty = vs.isEmpty := by cases rel <;> rfl
  rw [← q]
  exact h _ (I.tok _)
end


/-! ### readings and rules -/
/-- the element of a subscription, not a slice -/
def NoSl (i : Expr) : Prop := ∀ ov iv, subscripted i false ov iv = operate [ov, iv] (getItem ov iv)
theorem subD_of {prog : Program} {w : World} {A : Around} {E : Value → Shared → Prop} {s : Shared} {env : Env} {value slice : Expr} {pos : Pos} {T id : String} {Q : Value → Shared → Prop}
    (hl : typeLookup (.type T) "__getitem__" = pure (some (.builtin id))) (hs : NoSl slice)
    (h : wpAny (model prog w) A (eval value env) (fun o s₁ => wpAny (model prog w) A (eval slice env) (fun i s₂ => s₂.TypeIs o T ∧ wpAny (model prog w) A (getItem o i) Q E s₂) E s₁) E s) :
    wpAny (model prog w) A (eval (.Subscript value slice pos) env) Q E s := by
  refine Subscript_ (wpAny_mono h (fun o s₁ h₁ => wpAny_mono h₁ (fun i s₂ h₂ => ?_) fun _ _ x => x) fun _ _ x => x)
  obtain ⟨hT, h₂⟩ := h₂
  unfold subscriptTail
  refine wpAny_bind ?_
  rw [getitemInPython_of_ne hT.not_modules]
  refine wpAny_bind (wpAny_specialOf hT hl ?_)
  have fin : wpAny (model prog w) A (subscripted slice false o i) (fun r s₃ => wpAny (model prog w) A (letTemporaryGo value o r >>= fun _ => pure r) Q E s₃) E s₂ := by
    rw [hs o i]
    exact wpAny_operating (wpAny_mono h₂ (fun r s₃ h₃ => wpAny_bind (wpAny_letTemporaryGo (wpAny_pure h₃))) fun _ _ x => x)
  first
    | exact wpAny_pure (wpAny_bind fin)
    | exact wpAny_bind (wpAny_pure (wpAny_bind fin))
    | exact wpAny_bind fin

theorem dict_typeIs {X : Cx} {pins : List (Addr × Obj)} {σ : St} {H : Hp} {s : Shared} {a : Addr} {y : V} {o : Option V} (I : Inv X pins σ H s) (g : DGet H a y o) : s.TypeIs (.ref a) "dict" := by
  rcases g with ⟨kvs, k, e, _, _⟩ | ⟨kvs, k, b, e, _, _, _⟩
  · obtain ⟨_, _, vs, _, dd⟩ := dk_rd I.hok e
    exact dd.typeIs
  · obtain ⟨_, _, xs, _, dd⟩ := dt_rd I.hok e
    exact dd.typeIs
theorem dict_noDict {X : Cx} {pins : List (Addr × Obj)} {σ : St} {H : Hp} {s : Shared} {a : Addr} {y : V} {o : Option V} (I : Inv X pins σ H s) (g : DGet H a y o) :
    ∀ b, Value.ref a = .ref b → ∃ ob, s.heap.get? b = some ob ∧ ob.dict = none := fun b q => by
  cases q
  rcases g with ⟨kvs, k, e, _, _⟩ | ⟨kvs, k, b, e, _, _, _⟩
  · obtain ⟨_, _, vs, _, ob, _, _, h1, h2, _⟩ := dk_rd I.hok e
    exact ⟨ob, h1, h2.2.1⟩
  · obtain ⟨_, _, xs, _, ob, _, _, h1, h2, _⟩ := dt_rd I.hok e
    exact ⟨ob, h1, h2.2.1⟩

/-- d[y] -/
def tDGet (td ty : TE) : TE := fun σ H Q => td σ H fun x H1 => ty σ H1 fun y H2 => ∃ a v, x = .ref a ∧ DGet H2 a y (some v) ∧ Q v H2
/-- y in d, y not in d -/
def tDIn (ty td : TE) : TE := fun σ H Q => ty σ H fun y H1 => td σ H1 fun x H2 => ∃ a o, x = .ref a ∧ DGet H2 a y o ∧ Q (.bl o.isSome) H2
def tDNotIn (ty td : TE) : TE := fun σ H Q => ty σ H fun y H1 => td σ H1 fun x H2 => ∃ a o, x = .ref a ∧ DGet H2 a y o ∧ Q (.bl (!o.isSome)) H2
/-- d[y] = v -/
def sDPut (td ty tv : TE) : TS := fun D σ H => tv σ H fun v H1 => td σ H1 fun x H2 => ty σ H2 fun y H3 => ∃ a H4, x = .ref a ∧ DPut H3 a y v H4 ∧ D.nx σ H4
/-- d[y] op= v -/
def sDAug (td ty tv : TE) (rd : V → V → Hp → VK → Prop) : TS := fun D σ H => td σ H fun x H1 => ty σ H1 fun y H2 => ∃ a v, x = .ref a ∧ DGet H2 a y (some v) ∧
  tv σ H2 fun y2 H3 => rd v y2 H3 fun z H4 => ∃ H5, DPut H4 a y z H5 ∧ D.nx σ H5
/-- del d[y] -/
def sDDel (td ty : TE) : TS := fun D σ H => td σ H fun x H1 => ty σ H1 fun y H2 => ∃ a kvs k, x = .ref a ∧ H2 a = some (.dK kvs) ∧ y = kV k ∧ (valV kvs k).isSome = true ∧ D.nx σ (upd H2 a (.dK (dropK kvs k)))

section
variable {X : Cx} {o i e value : Expr} {pos pos' tpos : Pos} {td ty tv : TE}
theorem pe_dget (hu : X.A.units + 1 < cLine) (ho : PE X o td) (hi : PE X i ty) (hs : NoSl i) : PE X (.Subscript o i pos) (tDGet td ty) := by
  intro pins s σ H Q I h
  refine subD_of PySem.F.slot_dict_getitem.lookup hs (thn (ho pins s σ H _ I h) fun u s1 ⟨x, H1, I1, rx, q1⟩ => thn (hi pins s1 σ H1 _ I1 q1) fun iv s2 ⟨y, H2, I2, ry, a, v, ex, g, q2⟩ => ?_)
  subst ex
  obtain rfl : u = Value.ref a := rx
  exact ⟨dict_typeIs I2 g, d_getItem hu I2 g ry fun w' s3 I3 rw' => ⟨v, H2, I3, rw', q2⟩⟩
theorem pc_din (hu : X.A.units + 1 < cLine) (hi : PE X i ty) (ho : PE X o td) : PC X .In i o (tDIn ty td) := by
  intro pins s σ H Q I h
  refine thn (hi pins s σ H _ I h) fun iv s1 ⟨y, H1, I1, ry, q1⟩ => thn (ho pins s1 σ H1 _ I1 q1) fun u s2 ⟨x, H2, I2, rx, a, ov, ex, g, q2⟩ => ?_
  subst ex
  obtain rfl : u = Value.ref a := rx
  exact d_in hu I2 g ry fun s3 I3 => ⟨.bl ov.isSome, H2, I3, rfl, q2⟩
theorem pc_dnotin (hu : X.A.units + 1 < cLine) (hi : PE X i ty) (ho : PE X o td) : PC X .NotIn i o (tDNotIn ty td) := by
  intro pins s σ H Q I h
  refine thn (hi pins s σ H _ I h) fun iv s1 ⟨y, H1, I1, ry, q1⟩ => thn (ho pins s1 σ H1 _ I1 q1) fun u s2 ⟨x, H2, I2, rx, a, ov, ex, g, q2⟩ => ?_
  subst ex
  obtain rfl : u = Value.ref a := rx
  exact d_notIn hu I2 g ry fun s3 I3 => ⟨.bl (!ov.isSome), H2, I3, rfl, q2⟩
theorem ps_dput (hu : X.A.units + 1 < cLine) (ho : PE X o td) (hi : PE X i ty) (hv : PE X value tv) (hs : swapsWith value (some (.Subscript o i pos')) pos.line X.env = pure false) :
    PS X (.Assign [.Subscript o i pos'] value pos) (sDPut td ty tv) := by
  intro pins s σ H D I h
  refine wpAny_Assign_Subscript (thn (hv pins s σ H _ I h) fun r s1 ⟨v, H1, I1, rv, q1⟩ => thn (ho pins s1 σ H1 _ I1 q1) fun u s2 ⟨x, H2, I2, rx, q2⟩ => thn (hi pins s2 σ H2 _ I2 q2) fun iv s3 ⟨y, H3, I3, ry, a, H4, ex, g, q3⟩ => ?_) hs
  subst ex
  obtain rfl : u = Value.ref a := rx
  exact d_setItem hu I3 g ry rv fun s4 I4 => ⟨σ, H4, I4, q3⟩
theorem ps_daug {op : Operator} {rd : V → V → Hp → VK → Prop} (hu : X.A.units + 1 < cLine) (ho : PE X o td) (hi : PE X i ty) (hv : PE X value tv) (hop : InOp X op rd)
    (ha : ∀ ov iv new, augStore i ov iv new = (do holding [new, ov, iv] (setItem ov iv new); release [new, ov, iv] []; pure .next)) : PS X (.AugAssign (.Subscript o i tpos) op value pos) (sDAug td ty tv rd) := by
  intro pins s σ H D I h
  refine wpAny_AugAssign_SubscriptAny (thn (ho pins s σ H _ I h) fun u s1 ⟨x, H1, I1, rx, q1⟩ => thn (hi pins s1 σ H1 _ I1 q1) fun iv s2 ⟨y, H2, I2, ry, a, v, ex, g, q2⟩ => ?_) ha
  subst ex
  obtain rfl : u = Value.ref a := rx
  refine d_getItem hu I2 g ry fun w' s3 I3 rw' => thn (hv pins s3 σ H2 _ I3 q2) fun w2 s4 ⟨y2, H3, I4, ry2, q3⟩ => thn (hop pins s4 σ H3 v y2 w' w2 _ I4 rw' ry2 q3) fun w3 s5 ⟨z, H4, I5, rz, H5, g5, q4⟩ => ?_
  exact d_setItem hu I5 g5 ry rz fun s6 I6 => ⟨σ, H5, I6, q4⟩
theorem ps_ddel (ho : PE X o td) (hi : PE X i ty) : PS X (.Delete [.Subscript o i tpos] pos) (sDDel td ty) := by
  intro pins s σ H D I h
  refine wpAny_Delete (wpAny_deleteEach_cons (wpAny_delete_Subscript (thn (ho pins s σ H _ I h) fun u s1 ⟨x, H1, I1, rx, q1⟩ => thn (hi pins s1 σ H1 _ I1 q1) fun iv s2 ⟨y, H2, I2, ry, a, kvs, k, ex, e, ey, l, q2⟩ => ?_)))
  subst ex ey
  obtain rfl : u = Value.ref a := rx
  exact d_delItem I2 e ry l fun s3 I3 => wpAny_deleteEach_nil ⟨σ, _, I3, q2⟩
end


/-! ### displays -/
theorem dk_empty {P : Program} {w : World} {H : Hp} (h : Heap) (hb : sysModules < h.objs.size) : ObjOk P w H (h.push { cls := .type "dict", data := .dict #[] }) h.objs.size (.dK []) :=
  ⟨Nat.zero_le _, beq_eq_false_iff_ne.mpr (Ne.symm (Nat.ne_of_lt hb)), [], .nil, Heap.DictOf.new h⟩
theorem dt_empty {P : Program} {w : World} {H : Hp} (h : Heap) (hb : sysModules < h.objs.size) : ObjOk P w H (h.push { cls := .type "dict", data := .dict #[] }) h.objs.size (.dT []) :=
  ⟨Nat.zero_le _, beq_eq_false_iff_ne.mpr (Ne.symm (Nat.ne_of_lt hb)), [], .nil, _, #[], 0, Heap.get?_push_size _ rfl, ⟨rfl, rfl, rfl⟩, rfl, rfl, List.nodup_nil⟩
/-- {}, to be a dict of the kind that is wanted -/
def tDNewK : TE := fun _ H Q => ∀ p, H p = none → Q (.ref p) (upd H p (.dK []))
def tDNewT : TE := fun _ H Q => ∀ p, H p = none → Q (.ref p) (upd H p (.dT []))
section
variable {X : Cx} {pos : Pos}
theorem pe_dnewK : PE X (.Dict [] [] pos) tDNewK := fun pins s σ H Q I h =>
  wpAny_Dict_empty ⟨.ref s.heap.objs.size, _, I.laid (a := s.heap.objs.size) (o := .dK []) (t' := s.toks) (fun _ _ q => Heap.get?_push_of_some _ q) (Nat.le_refl _) (dk_empty s.heap I.big), rfl, h _ (I.hok.fresh (Nat.le_refl _))⟩
theorem pe_dnewT : PE X (.Dict [] [] pos) tDNewT := fun pins s σ H Q I h =>
  wpAny_Dict_empty ⟨.ref s.heap.objs.size, _, I.laid (a := s.heap.objs.size) (o := .dT []) (t' := s.toks) (fun _ _ q => Heap.get?_push_of_some _ q) (Nat.le_refl _) (dt_empty s.heap I.big), rfl, h _ (I.hok.fresh (Nat.le_refl _))⟩
end

/-- the pairs of a display, from the left -/
def tPairs : List (TE × TE) → St → Hp → (List (V × V) → Hp → Prop) → Prop
  | [], _, H, Q => Q [] H
  | (tk, tv) :: r, σ, H, Q => tk σ H fun x H1 => tv σ H1 fun y H2 => tPairs r σ H2 fun ps H3 => Q ((x, y) :: ps) H3
abbrev VV : List (V × V) → List (Value × Value) → Prop := Paired fun p q => RelV p.1 q.1 ∧ RelV p.2 q.2
def PPs (X : Cx) (pos : Pos) (keys : List (Option Expr)) (values : List Expr) (trs : List (TE × TE)) : Prop :=
  ∀ (pins : List (Addr × Obj)) (s : Shared) (σ : St) (H : Hp) (Q : List (V × V) → Hp → Prop), Inv X pins σ H s → tPairs trs σ H Q →
    wpAny (model X.prog X.w) X.A (evalPairs (pairTrees keys values X.env pos)) (fun vs s' => ∃ ps H', Inv X pins σ H' s' ∧ VV ps vs ∧ Q ps H') X.xe s
theorem pps_nil {X : Cx} {pos : Pos} : PPs X pos [] [] [] := fun pins s σ H Q I h => pairTrees_nil_walk ⟨[], H, I, .nil, h⟩
theorem pps_cons {X : Cx} {pos : Pos} {k v : Expr} {ks : List (Option Expr)} {vs : List Expr} {tk tv : TE} {trs : List (TE × TE)} (hk : PE X k tk) (hv : PE X v tv) (hr : PPs X pos ks vs trs) :
    PPs X pos (some k :: ks) (v :: vs) ((tk, tv) :: trs) := fun pins s σ H Q I h =>
  pairTrees_cons_walk (thn (hk pins s σ H _ I h) fun u s1 ⟨x, H1, I1, rx, q1⟩ => thn (hv pins s1 σ H1 _ I1 q1) fun w2 s2 ⟨y, H2, I2, ry, q2⟩ =>
    thn (hr pins s2 σ H2 _ I2 q2) fun ws s3 ⟨ps, H3, I3, rel, q3⟩ => ⟨(x, y) :: ps, H3, I3, .cons ⟨rx, ry⟩ rel, q3⟩)

def mergeK (kvs more : List (Key × V)) : List (Key × V) := more.foldl (fun acc kv => putK acc kv.1 kv.2) kvs
theorem KV.merge : ∀ {more : List (Key × V)} {rs : List (Key × Value)} {kvs : List (Key × V)} {vs : List (Key × Value)}, KV more rs → KV kvs vs → KV (mergeK kvs more) (merged vs rs) := by
  intro more rs kvs vs r
  unfold KV at r
  induction r generalizing kvs vs with
  | nil => intro q; exact q
  | @cons p q ps qs h t ih =>
    intro r0
    have e : KV (putK kvs p.1 p.2) (stored vs q.1 q.2) := by
      have := r0.put p.1 h.2
      rw [← h.1]; exact this
    exact ih e
theorem length_mergeK : ∀ (more kvs : List (Key × V)), (mergeK kvs more).length ≤ kvs.length + more.length
  | [], kvs => by show kvs.length ≤ kvs.length + 0; omega
  | p :: r, kvs => by
    have h1 := length_mergeK r (putK kvs p.1 p.2)
    have h2 := length_putK kvs p.1 p.2
    show (mergeK (putK kvs p.1 p.2) r).length ≤ _
    rw [List.length_cons]; omega
theorem carries_of {P : Program} {w : World} : ∀ {kvs : List (Key × V)} {ws : List (Value × Value)}, VV (kvs.map fun kv => (kV kv.1, kv.2)) ws → ∃ rs, Carries (mixKind P w) ws rs ∧ KV kvs rs
  | [], _, r => by rw [List.map_nil] at r; cases r; exact ⟨[], True.intro, .nil⟩
  | p :: kvs, _, r => by
    rw [List.map_cons] at r
    cases r with
    | @cons a b as bs h t =>
      obtain ⟨rs, c, q⟩ := carries_of (P := P) (w := w) t
      obtain ⟨b1, b2⟩ := b
      exact ⟨(p.1, b2) :: rs, ⟨kV_is h.1, rfl, c⟩, .cons ⟨rfl, h.2⟩ q⟩
/-- {k: v, ..} with keys ints and texts; the new dict stands empty while the pairs are made -/
def tDisp (trs : List (TE × TE)) : TE := fun σ H Q => ∀ p, H p = none → tPairs trs σ (upd H p (.dK [])) fun ps H2 => H2 p = some (.dK []) ∧ ∃ kvs : List (Key × V), ps = kvs.map (fun kv => (kV kv.1, kv.2)) ∧ kvs.length ≤ 15 ∧ Q (.ref p) (upd H2 p (.dK (mergeK [] kvs)))
theorem pe_disp {X : Cx} {pos : Pos} {keys : List (Option Expr)} {values : List Expr} {trs : List (TE × TE)} (h : PPs X pos keys values trs) (hall : keys.all (·.isSome) = true) (hl : keys.length = values.length) (h0 : keys ≠ [])
    (h15 : keys.length ≤ 15) : PE X (.Dict keys values pos) (tDisp trs) := by
  intro pins s σ H Q I q
  have hn := I.hok.fresh (Nat.le_refl s.heap.objs.size)
  have I1 := I.laid (a := s.heap.objs.size) (o := .dK []) (h' := s.heap.push { cls := .type "dict", data := .dict #[] }) (t' := s.toks) (fun _ _ q => Heap.get?_push_of_some _ q) (Nat.le_refl _) (dk_empty s.heap I.big)
  refine wpAny_Dict_walk (knd := mixKind X.prog X.w) hall hl h0 h15 (thn (h pins _ σ _ _ I1 (q _ hn)) fun ws s2 ⟨ps, H2, I2, rel, e, kvs, ep, lk, q2⟩ => ?_)
  subst ep
  obtain ⟨rs, c, rk⟩ := carries_of (P := X.prog) (w := X.w) rel
  obtain ⟨z, hd, vs0, r0, dd⟩ := dk_of I2.hok e
  cases r0
  refine ⟨rs, c, dd, fun h' dd' hs => ⟨.ref s.heap.objs.size, _, ?_, rfl, q2⟩⟩
  have hz : (mergeK [] kvs).length ≤ sizeLine := by
    have h1 := length_mergeK kvs []
    rw [List.length_nil] at h1
    rw [sizeLine_eq]; omega
  have he : ∃ q, h'.get? s.heap.objs.size = some q := let ⟨q, _, _, hq, _⟩ := dd'; ⟨q, hq⟩
  exact d_write I2 (by rw [e]; exact True.intro) hs he (dk_new hz hd (rk.merge .nil) dd')


/-! ### methods -/
/-- a method call o.m(e) of a built-in, with one argument: what must be seen of the text -/
structure M1 (X : Cx) (o : Expr) (m : Str) (apos : Pos) (e : Expr) (cpos : Pos) : Prop where
  base : attributeBase o m X.env (eval o X.env) = eval o X.env
  few : ((backTo cpos (starEach [e] X.env)).all (fun x => !x.1) && (backToKw cpos (keywordEach [] X.env)).all (fun x => x.1.isSome)
    && decide (([e] : List Expr).length + ([] : List Keyword).length + (if ([] : List Keyword).isEmpty then 0 else 1) < 30)) = true
  line : (apos.endLine == cpos.line) = true
  trees : backTo cpos (starEach [e] X.env) = [(false, eval e X.env)]
structure M2 (X : Cx) (o : Expr) (m : Str) (apos : Pos) (e f : Expr) (cpos : Pos) : Prop where
  base : attributeBase o m X.env (eval o X.env) = eval o X.env
  few : ((backTo cpos (starEach [e, f] X.env)).all (fun x => !x.1) && (backToKw cpos (keywordEach [] X.env)).all (fun x => x.1.isSome)
    && decide (([e, f] : List Expr).length + ([] : List Keyword).length + (if ([] : List Keyword).isEmpty then 0 else 1) < 30)) = true
  line : (apos.endLine == cpos.line) = true
  trees : backTo cpos (starEach [e, f] X.env) = [(false, eval e X.env), (false, eval f X.env)]

/-- a is a dict, whatever its keys -/
def IsD (H : Hp) (a : Addr) : Prop := (∃ kvs, Rd H a (.dK kvs)) ∨ ∃ kvs, Rd H a (.dT kvs)
theorem isD_at {X : Cx} {pins : List (Addr × Obj)} {σ : St} {H : Hp} {s : Shared} {a : Addr} (I : Inv X pins σ H s) (d : IsD H a) :
    s.TypeIs (.ref a) "dict" ∧ (∀ b, Value.ref a = .ref b → ∃ ob, s.heap.get? b = some ob ∧ ob.dict = none) ∧ (a == sysModules) = false := by
  rcases d with ⟨kvs, e⟩ | ⟨kvs, e⟩
  · obtain ⟨_, hd, vs, _, dd⟩ := dk_rd I.hok e
    refine ⟨dd.typeIs, fun b q => ?_, hd⟩
    cases q
    obtain ⟨ob, _, _, h1, h2, _⟩ := dd
    exact ⟨ob, h1, h2.2.1⟩
  · obtain ⟨_, hd, xs, _, dd⟩ := dt_rd I.hok e
    refine ⟨dd.typeIs, fun b q => ?_, hd⟩
    cases q
    obtain ⟨ob, _, _, h1, h2, _⟩ := dd
    exact ⟨ob, h1, h2.2.1⟩

section
variable {X : Cx} {pins : List (Addr × Obj)} {σ : St} {H : Hp} {s : Shared} {a : Addr} {y d : V} {u r : Value} {o : Option V} {A : Around} {E : Value → Shared → Prop}
/-- d.get(y) -/
theorem d_get1 {Q : Value → Shared → Prop} (hu : A.units + 1 < cLine) (I : Inv X pins σ H s) (g : DGet H a y o) (ry : RelV y u) (h : ∀ w' s', Inv X pins σ H s' → RelV (o.getD .non) w' → Q w' s') :
    wpAny (model X.prog X.w) A (call (.builtin "dict.get") [.ref a, u]) Q E s := by
  rcases g with ⟨kvs, k, e, ey, l⟩ | ⟨kvs, k, b, e, ey, eb, l⟩
  · subst ey
    obtain ⟨z, hd, vs, rel, dd⟩ := dk_rd I.hok e
    refine call_meetsIn PySem.F.slot_dict_get dd.typeIs PySem.F.entry_dict_get (PySem.F.args_dict_get_2 _ _) (meets_dict_get (mixKind X.prog X.w) a (kV_is ry) hd) ⟨_, dd.mapOf, h _ _ (I.tok _) ?_⟩
    rw [l]
    exact (rel.val k).getD rfl
  · subst ey
    cases (show u = Value.ref b from ry)
    obtain ⟨z, hd, xs, rel, dd⟩ := dt_rd I.hok e
    refine call_meetsIn PySem.F.slot_dict_get dd.typeIs PySem.F.entry_dict_get (PySem.F.args_dict_get_2 _ _) (meetsH_dict_get (tupleKind (mixKind X.prog X.w)) a b hd) ⟨tupleKind_room_in1 hu, k, xs, key_of I.hok eb, dd, h _ _ (I.tok _) ?_⟩
    rw [l]
    exact (rel.val k).getD rfl
/-- d.get(y, x) -/
theorem d_get2 {Q : Value → Shared → Prop} (hu : A.units + 1 < cLine) (I : Inv X pins σ H s) (g : DGet H a y o) (ry : RelV y u) (rd : RelV d r) (h : ∀ w' s', Inv X pins σ H s' → RelV (o.getD d) w' → Q w' s') :
    wpAny (model X.prog X.w) A (call (.builtin "dict.get") [.ref a, u, r]) Q E s := by
  rcases g with ⟨kvs, k, e, ey, l⟩ | ⟨kvs, k, b, e, ey, eb, l⟩
  · subst ey
    obtain ⟨z, hd, vs, rel, dd⟩ := dk_rd I.hok e
    refine call_meetsIn PySem.F.slot_dict_get dd.typeIs PySem.F.entry_dict_get (PySem.F.args_dict_get_3 _ _ _) (meets_dict_get_default (mixKind X.prog X.w) a (kV_is ry) hd r) ⟨_, dd.mapOf, h _ _ (I.tok _) ?_⟩
    rw [l]
    exact (rel.val k).getD rd
  · subst ey
    cases (show u = Value.ref b from ry)
    obtain ⟨z, hd, xs, rel, dd⟩ := dt_rd I.hok e
    refine call_meetsIn PySem.F.slot_dict_get dd.typeIs PySem.F.entry_dict_get (PySem.F.args_dict_get_3 _ _ _) (meetsH_dict_get_default (tupleKind (mixKind X.prog X.w)) a b hd r) ⟨tupleKind_room_in1 hu, k, xs, key_of I.hok eb, dd, h _ _ (I.tok _) ?_⟩
    rw [l]
    exact (rel.val k).getD rd
end

def tDGet1 (td ty : TE) : TE := fun σ H Q => td σ H fun x H1 => ∃ a, x = .ref a ∧ IsD H1 a ∧ ty σ H1 fun y H2 => ∃ o, DGet H2 a y o ∧ Q (o.getD .non) H2
def tDGet2 (td ty tx : TE) : TE := fun σ H Q => td σ H fun x H1 => ∃ a, x = .ref a ∧ IsD H1 a ∧ ty σ H1 fun y H2 => tx σ H2 fun z H3 => ∃ o, DGet H3 a y o ∧ Q (o.getD z) H3
/-- d.pop(k): there; d.pop(k, x): there or not -/
def tDPop1 (td ty : TE) : TE := fun σ H Q => td σ H fun x H1 => ∃ a, x = .ref a ∧ IsD H1 a ∧ ty σ H1 fun y H2 => ∃ kvs k v, H2 a = some (.dK kvs) ∧ y = kV k ∧ valV kvs k = some v ∧ Q v (upd H2 a (.dK (dropK kvs k)))
def tDPop2 (td ty tx : TE) : TE := fun σ H Q => td σ H fun x H1 => ∃ a, x = .ref a ∧ IsD H1 a ∧ ty σ H1 fun y H2 => tx σ H2 fun z H3 => ∃ kvs k, H3 a = some (.dK kvs) ∧ y = kV k ∧
  (∀ v, valV kvs k = some v → Q v (upd H3 a (.dK (dropK kvs k)))) ∧ (valV kvs k = none → Q z H3)
section
variable {X : Cx} {o e f : Expr} {apos cpos : Pos} {td ty tx : TE}
theorem pe_dget1 (hu : X.A.units + 1 < cLine) (ho : PE X o td) (he : PE X e ty) (m : M1 X o "get" apos e cpos) : PE X (.Call (.Attribute o "get" apos) [e] [] cpos) (tDGet1 td ty) := by
  intro pins s σ H Q I h
  refine wpAny_Call_method m.base m.few m.line PySem.F.plainAttrs_dict PySem.F.slot_dict_get PySem.F.type_dict_get (thn (ho pins s σ H _ I h) fun u s1 ⟨x, H1, I1, rx, a, ex, d, q1⟩ => ?_)
  subst ex
  obtain rfl : u = Value.ref a := rx
  obtain ⟨t1, t2, _⟩ := isD_at I1 d
  refine ⟨t1, t2, ?_⟩
  rw [m.trees]
  refine Calls.callWith_builtin rfl (Calls.evalArgs_plain (Calls.spliced_cons (thn (he pins s1 σ H1 _ I1 q1) fun iv s2 ⟨y, H2, I2, ry, ov, g, q2⟩ => Calls.spliced_nil ?_)))
  exact d_get1 hu I2 g ry fun w' s3 I3 rw' => ⟨_, H2, I3, rw', q2⟩
theorem pe_dget2 (hu : X.A.units + 1 < cLine) (ho : PE X o td) (he : PE X e ty) (hf : PE X f tx) (m : M2 X o "get" apos e f cpos) : PE X (.Call (.Attribute o "get" apos) [e, f] [] cpos) (tDGet2 td ty tx) := by
  intro pins s σ H Q I h
  refine wpAny_Call_method m.base m.few m.line PySem.F.plainAttrs_dict PySem.F.slot_dict_get PySem.F.type_dict_get (thn (ho pins s σ H _ I h) fun u s1 ⟨x, H1, I1, rx, a, ex, d, q1⟩ => ?_)
  subst ex
  obtain rfl : u = Value.ref a := rx
  obtain ⟨t1, t2, _⟩ := isD_at I1 d
  refine ⟨t1, t2, ?_⟩
  rw [m.trees]
  refine Calls.callWith_builtin rfl (Calls.evalArgs_plain (Calls.spliced_cons (thn (he pins s1 σ H1 _ I1 q1) fun iv s2 ⟨y, H2, I2, ry, q2⟩ =>
    Calls.spliced_cons (thn (hf pins s2 σ H2 _ I2 q2) fun fv s3 ⟨z, H3, I3, rz, ov, g, q3⟩ => Calls.spliced_nil ?_))))
  exact d_get2 hu I3 g ry rz fun w' s4 I4 rw' => ⟨_, H3, I4, rw', q3⟩
theorem pe_dpop1 (ho : PE X o td) (he : PE X e ty) (m : M1 X o "pop" apos e cpos) : PE X (.Call (.Attribute o "pop" apos) [e] [] cpos) (tDPop1 td ty) := by
  intro pins s σ H Q I h
  refine wpAny_Call_method m.base m.few m.line PySem.F.plainAttrs_dict PySem.F.slot_dict_pop PySem.F.type_dict_pop (thn (ho pins s σ H _ I h) fun u s1 ⟨x, H1, I1, rx, a, ex, d, q1⟩ => ?_)
  subst ex
  obtain rfl : u = Value.ref a := rx
  obtain ⟨t1, t2, _⟩ := isD_at I1 d
  refine ⟨t1, t2, ?_⟩
  rw [m.trees]
  refine Calls.callWith_builtin rfl (Calls.evalArgs_plain (Calls.spliced_cons (thn (he pins s1 σ H1 _ I1 q1) fun iv s2 ⟨y, H2, I2, ry, kvs, k, v, ea, ey, l, q2⟩ => Calls.spliced_nil ?_)))
  subst ey
  exact d_pop I2 ea ry l (.inl rfl) fun w' s3 I3 rw' => ⟨v, _, I3, rw', q2⟩
theorem pe_dpop2 (ho : PE X o td) (he : PE X e ty) (hf : PE X f tx) (m : M2 X o "pop" apos e f cpos) : PE X (.Call (.Attribute o "pop" apos) [e, f] [] cpos) (tDPop2 td ty tx) := by
  intro pins s σ H Q I h
  refine wpAny_Call_method m.base m.few m.line PySem.F.plainAttrs_dict PySem.F.slot_dict_pop PySem.F.type_dict_pop (thn (ho pins s σ H _ I h) fun u s1 ⟨x, H1, I1, rx, a, ex, d, q1⟩ => ?_)
  subst ex
  obtain rfl : u = Value.ref a := rx
  obtain ⟨t1, t2, _⟩ := isD_at I1 d
  refine ⟨t1, t2, ?_⟩
  rw [m.trees]
  refine Calls.callWith_builtin rfl (Calls.evalArgs_plain (Calls.spliced_cons (thn (he pins s1 σ H1 _ I1 q1) fun iv s2 ⟨y, H2, I2, ry, q2⟩ =>
    Calls.spliced_cons (thn (hf pins s2 σ H2 _ I2 q2) fun fv s3 ⟨z, H3, I3, rz, kvs, k, ea, ey, q3, q4⟩ => Calls.spliced_nil ?_))))
  subst ey
  cases l : valV kvs k with
  | some v => exact d_pop I3 ea ry l (.inr ⟨fv, rfl⟩) fun w' s4 I4 rw' => ⟨v, _, I4, rw', q3 v l⟩
  | none => exact d_popD I3 ea ry l fun s4 I4 => ⟨z, H3, I4, rz, q4 l⟩
end

/-! ### dict(d): a copy -/
section
variable {X : Cx} {pins : List (Addr × Obj)} {σ : St} {H : Hp} {s : Shared} {a : Addr} {kvs : List (Key × V)} {A : Around} {E : Value → Shared → Prop}
theorem d_copyOf {Q : Value → Shared → Prop} (I : Inv X pins σ H s) (e : Rd H a (.dK kvs)) (h : ∀ p s', H p = none → Inv X pins σ (upd H p (.dK kvs)) s' → Q (.ref p) s') : wpAny (model X.prog X.w) A (call (.type "dict") [.ref a]) Q E s := by
  obtain ⟨z, hd, vs, rel, dd⟩ := dk_rd I.hok e
  refine kt_call_dict hd dd (by rw [← rel.length]; exact z) fun h' dd' hs => ?_
  refine h _ _ (I.hok.fresh (Nat.le_refl _)) (I.laid (a := s.heap.objs.size) (o := .dK kvs) (t' := s.toks) (fun b q hq => ?_) (Nat.le_refl _) (dk_new z (beq_eq_false_iff_ne.mpr (Ne.symm (Nat.ne_of_lt I.big))) rel dd'))
  exact (hs.2 b (Nat.ne_of_lt (Heap.lt_size hq))).trans (Heap.get?_push_of_some _ hq)
end


section
variable {X : Cx} {pins : List (Addr × Obj)} {σ : St} {H : Hp} {s : Shared} {a : Addr} {y : V} {u : Value} {A : Around} {E : Value → Shared → Prop}
/-- d[y], not there: a KeyError -/
theorem d_missing {Q : Value → Shared → Prop} (hu : A.units + 1 < cLine) (hh : A.handled = none) (I : Inv X pins σ H s) (g : DGet H a y none) (ry : RelV y u)
    (h : ∀ h' e t', Heap.NewExc s.heap h' e "KeyError" → E (.ref e) { s with heap := h', toks := t' }) : wpAny (model X.prog X.w) A (getItem (.ref a) u) Q E s := by
  rcases g with ⟨kvs, k, e, ey, l⟩ | ⟨kvs, k, b, e, ey, eb, l⟩
  · subst ey
    obtain ⟨z, hd, vs, rel, dd⟩ := dk_rd I.hok e
    have hn : valueAt vs k = none := RelO.none_of (by rw [l]; exact rel.val k)
    exact wpAny_getItem_missing_of (kV_is ry) hd hh dd.mapOf hn fun h' ex ne => h h' ex _ ne
  · subst ey
    cases (show u = Value.ref b from ry)
    obtain ⟨z, hd, xs, rel, dd⟩ := dt_rd I.hok e
    have hn : (atKey xs k).map (·.2) = none := RelO.none_of (by rw [l]; exact rel.val k)
    exact wpAny_getItem_missing_heap (tupleKind_room_in1 hu) (key_of I.hok eb) hd hh dd (Option.map_eq_none_iff.mp hn) fun h' ex ne => h h' ex _ ne
end
end L2

namespace Att
open PySem PySem.W PySem.Calls PyProof.Rows

/-! ### the script -/
theorem ints_of_wellAll {P : Params} {h : Heap} : ∀ (ns : List Int) (vs : List Value), WellAll P h vs (ns.map WData.int) → IntsAre vs ns := by
  intro ns
  induction ns with
  | nil =>
    intro vs w
    rw [List.map_nil] at w
    cases w
    exact .nil
  | cons n ns ih =>
    intro vs w
    rw [List.map_cons] at w
    cases w with
    | cons a b =>
      cases a
      exact .cons _ _ (ih _ b)

theorem script_of {l : OpenLaw} {n : Nat} (hn : l.most = some n) {P : Params} {h : Heap} {args : List WData} {vals : List Value}
    (hpre : l.row.toRowW.claim.pre args = true) (hwl : WellAll P h vals args) :
    ∃ a vs ns, vals = [Value.ref a] ∧ args = [WData.list (ns.map WData.int)] ∧ h.get? a = some { cls := .type "list", data := .seq vs.toArray } ∧ IntsAre vs ns ∧ ns.length ≤ n := by
  have hsh : WShape.hasAll [] args [.list .int] = true := (pre_splitW hpre).1
  have hc : l.pre.holds [] { args := args } = true := (pre_splitW hpre).2
  obtain ⟨d, r, rfl, h1, h2⟩ := hasAllW_cons hsh
  obtain rfl := hasAllW_nil h2
  obtain ⟨xs, rfl, h3⟩ := hasW_list h1
  obtain ⟨ns, rfl⟩ := items_int h3
  have hlen : ns.length ≤ n := by
    unfold OpenLaw.pre at hc
    have h4 : (WTm.not (.lt (.lit (.int (n : Int))) (.len (.arg 0)))).holds [] { args := [.list (ns.map .int)] } = true := by
      have h4 := (holds_andW hc).1
      rw [hn] at h4
      exact h4
    have h5 := condW_of h4 (w_not (w_lt w_lit (w_len_list (w_arg rfl))))
    rw [List.length_map] at h5
    refine Nat.le_of_not_lt fun q => ?_
    have q' : (n : Int) < ((ns.length : Nat) : Int) := by omega
    first
      | (rw [decide_eq_true q'] at h5; exact absurd h5 (by decide))
      | (simp at h5; omega)
  cases hwl with
  | cons w1 w2 =>
    cases w2
    cases w1 with
    | list ho hall => exact ⟨_, _, ns, rfl, rfl, ho, ints_of_wellAll ns _ hall, hlen⟩

theorem post_true (l : OpenLaw) (args : List WData) : l.row.toRowW.claim.post args (.bool true) args = true :=
  postW_of (r := l.row.toRowW) (X := (true == true))
    (show WShape.has [] (.bool true) .bool = true by first | rfl | decide | simp [WShape.has, WShape.arms, WShape.armsAll])
    (show (WTm.eq .res (.lit (.bool true))).value [] { args := args, res := some (.bool true), after := args } = some (.bool (true == true)) from w_eq_bool (w_res rfl) w_lit) rfl

/-! ### the attachment: holds_open's last premise (the goal 'hc' behind k_head) from a wpAny of the law's body -/
theorem attach {l : OpenLaw} {n : Nat} {q : Program} {loose : List Str} {XP : (Str → Option Value) → Heap → Prop} {YP : World → Heap → Prop} {d : DefRec} {x : Str}
    (hn : l.most = some n) (hdf : d.params.defaults = [])
    (hbind : ∀ pm cd doc v : Value, bindArgs (docDef d.name d.params d.body d.scope pm cd doc) ⟨[v], []⟩ = pure [(x, v)])
    (hx : d.scope.names.lookup x = some .local ∨ d.scope.names.lookup x = some .cell)
    (hk : d.scope.kind = .function) (hco : d.scope.isCoroutine = false) (hgen : d.scope.isGenerator = false)
    (body : ∀ (w : World) (s₀ s₁ s : Shared) (mg mb : Str → Option Value) (fa : Addr) (o : Obj) (pm cd doc : Value) (a : Addr) (vs : List Value) (ns : List Int),
      Ground q loose [] XP w s₀ mg mb s₁.heap → YP w s₁.heap →
      s₁.heap.get? fa = some o → o.data = .func (docDef d.name d.params d.body d.scope pm cd doc) → s₁.heap.CodeRec cd d.name → mg d.name = some (.ref fa) →
      s₁.heap.get? a = some { cls := .type "list", data := .seq vs.toArray } → IntsAre vs ns → ns.length ≤ n →
      s.gens = #[] → s.os = s₁.os →
      Fr s₁.heap s₁.heap.objs.size s.heap (bindL (envOfC d.name d.scope s₁.heap.objs.size fa cd).kindOf [(x, .ref a)] fun _ => none) →
      Cl s₁.heap.objs.size (cellsFrom (s₁.heap.objs.size + 1) d.scope.names []) s.heap (bindC (envOfC d.name d.scope s₁.heap.objs.size fa cd).kindOf [(x, .ref a)] fun _ => none) →
      wpAny (model l.prog w) (callerA.deeper (envOfC d.name d.scope s₁.heap.objs.size fa cd)) (execs d.body (envOfC d.name d.scope s₁.heap.objs.size fa cd))
        (fun f s' => f = .ret (.bool true) ∧ OldK s₁.heap s'.heap ∧ s'.os = s₁.os ∧ AllBare s'.gens) (fun _ _ => False) s) :
    WalkO q loose XP YP l.row.toRowW d [] (fun f vs => PySem.call f vs) := by
  intro w s₀ s₁ mg mb G Y fa o pm cd doc dV kV ho hd hcd hD hmg hg args vals as hpre hlay hrd hwl hlo
  obtain rfl : dV = .none := Dflts.none hD hdf
  obtain rfl : kV = .none := Dflts.noKw hD
  obtain ⟨a, vs, ns, rfl, rfl, hobj, hints, hlen⟩ := script_of hn hpre hwl
  refine enter_call ?_
  refine call_cells_ret (o := o) (by rw [depth_caller]; decide) ho (fd_plain hd) G.T.nolimit hcd (hbind pm cd doc (.ref a)) (fun y hy => ?_) (fun h₁ tk F X => ?_) hco hgen hk
  · obtain rfl : y = (x, Value.ref a) := List.mem_singleton.mp hy
    rcases hx with e | e
    · exact .inl e
    · exact .inr ⟨e, cellsFrom_some _ _ _ (.inl e)⟩
  · refine wpAny_mono (body w s₀ s₁ { s₁ with heap := h₁, toks := tk } mg mb fa o pm cd doc a vs ns G Y ho (fd_plain hd) hcd hmg hobj hints hlen hg rfl F X) (fun f s' hq => ?_) (fun _ _ hq => hq)
    obtain ⟨rfl, h2, h3, h4⟩ := hq
    exact ⟨.inl ⟨.bool true, .bool true, [], rfl, fun _ => rfl, .bool true, post_true l _, fun _ => ⟨List.Pairwise.nil, fun _ hm => (nomatch hm)⟩⟩, h2, h3, h4⟩

/-- the same from a codeAny of the CALL (for a layer whose function contracts speak of calls) -/
theorem attach_call {l : OpenLaw} {n : Nat} {q : Program} {loose : List Str} {XP : (Str → Option Value) → Heap → Prop} {YP : World → Heap → Prop} {d : DefRec}
    (hn : l.most = some n) (hdf : d.params.defaults = [])
    (call : ∀ (w : World) (s₀ s₁ : Shared) (mg mb : Str → Option Value) (fa : Addr) (o : Obj) (pm cd doc : Value) (a : Addr) (vs : List Value) (ns : List Int),
      Ground q loose [] XP w s₀ mg mb s₁.heap → YP w s₁.heap →
      s₁.heap.get? fa = some o → o.data = .func (docDef d.name d.params d.body d.scope pm cd doc) → s₁.heap.CodeRec cd d.name → mg d.name = some (.ref fa) →
      s₁.heap.get? a = some { cls := .type "list", data := .seq vs.toArray } → IntsAre vs ns → ns.length ≤ n → s₁.gens = #[] →
      codeAny (model l.prog w) callerA (.call (.ref fa) ⟨[.ref a], []⟩) (fun r s' => r = .ok (.ret (.bool true)) ∧ OldK s₁.heap s'.heap ∧ s'.os = s₁.os ∧ AllBare s'.gens) s₁) :
    WalkO q loose XP YP l.row.toRowW d [] (fun f vs => PySem.call f vs) := by
  intro w s₀ s₁ mg mb G Y fa o pm cd doc dV kV ho hd hcd hD hmg hg args vals as hpre hlay hrd hwl hlo
  obtain rfl : dV = .none := Dflts.none hD hdf
  obtain rfl : kV = .none := Dflts.noKw hD
  obtain ⟨a, vs, ns, rfl, rfl, hobj, hints, hlen⟩ := script_of hn hpre hwl
  refine enter_call (codeAny_mono (call w s₀ s₁ mg mb fa o pm cd doc a vs ns G Y ho (fd_plain hd) hcd hmg hobj hints hlen hg) fun r s' hq => ?_)
  obtain ⟨rfl, h2, h3, h4⟩ := hq
  exact ⟨.inl ⟨.bool true, .bool true, [], rfl, fun _ => rfl, .bool true, post_true l _, fun _ => ⟨List.Pairwise.nil, fun _ hm => (nomatch hm)⟩⟩, h2, h3, h4⟩

/-- the same where the top left finished generators (o_head chose holds_openN): nothing may have changed at all and no generator may be left -/
theorem attachN {l : OpenLaw} {n : Nat} {q : Program} {loose : List Str} {XP : (Str → Option Value) → Heap → Prop} {YP : World → Heap → Prop} {d : DefRec} {x : Str}
    (hn : l.most = some n) (hdf : d.params.defaults = [])
    (hbind : ∀ pm cd doc v : Value, bindArgs (docDef d.name d.params d.body d.scope pm cd doc) ⟨[v], []⟩ = pure [(x, v)])
    (hx : d.scope.names.lookup x = some .local ∨ d.scope.names.lookup x = some .cell)
    (hk : d.scope.kind = .function) (hco : d.scope.isCoroutine = false) (hgen : d.scope.isGenerator = false)
    (body : ∀ (w : World) (s₀ s₁ s : Shared) (mg mb : Str → Option Value) (fa : Addr) (o : Obj) (pm cd doc : Value) (a : Addr) (vs : List Value) (ns : List Int),
      Ground q loose [] XP w s₀ mg mb s₁.heap → YP w s₁.heap →
      s₁.heap.get? fa = some o → o.data = .func (docDef d.name d.params d.body d.scope pm cd doc) → s₁.heap.CodeRec cd d.name → mg d.name = some (.ref fa) →
      s₁.heap.get? a = some { cls := .type "list", data := .seq vs.toArray } → IntsAre vs ns → ns.length ≤ n →
      s.gens = #[] → s.os = s₁.os →
      Fr s₁.heap s₁.heap.objs.size s.heap (bindL (envOfC d.name d.scope s₁.heap.objs.size fa cd).kindOf [(x, .ref a)] fun _ => none) →
      Cl s₁.heap.objs.size (cellsFrom (s₁.heap.objs.size + 1) d.scope.names []) s.heap (bindC (envOfC d.name d.scope s₁.heap.objs.size fa cd).kindOf [(x, .ref a)] fun _ => none) →
      wpAny (model l.prog w) (callerA.deeper (envOfC d.name d.scope s₁.heap.objs.size fa cd)) (execs d.body (envOfC d.name d.scope s₁.heap.objs.size fa cd))
        (fun f s' => f = .ret (.bool true) ∧ (∀ b o, s₁.heap.get? b = some o → s'.heap.get? b = some o) ∧ s'.os = s₁.os ∧ s'.gens = #[]) (fun _ _ => False) s) :
    WalkN q loose XP YP l.row.toRowW d [] (fun f vs => PySem.call f vs) := by
  intro w s₀ s₁ mg mb G Y fa o pm cd doc dV kV ho hd hcd hD hmg hg args vals as hpre hlay hrd hwl hlo
  obtain rfl : dV = .none := Dflts.none hD hdf
  obtain rfl : kV = .none := Dflts.noKw hD
  obtain ⟨a, vs, ns, rfl, rfl, hobj, hints, hlen⟩ := script_of hn hpre hwl
  refine enter_callW ?_
  refine call_cells_ret (o := o) (by rw [depth_caller]; decide) ho (fd_plain hd) G.T.nolimit hcd (hbind pm cd doc (.ref a)) (fun y hy => ?_) (fun h₁ tk F X => ?_) hco hgen hk
  · obtain rfl : y = (x, Value.ref a) := List.mem_singleton.mp hy
    rcases hx with e | e
    · exact .inl e
    · exact .inr ⟨e, cellsFrom_some _ _ _ (.inl e)⟩
  · refine wpAny_mono (body w s₀ s₁ { s₁ with heap := h₁, toks := tk } mg mb fa o pm cd doc a vs ns G Y ho (fd_plain hd) hcd hmg hobj hints hlen hg rfl F X) (fun f s' hq => ?_) (fun _ _ hq => hq)
    obtain ⟨rfl, h2, h3, h4⟩ := hq
    exact ⟨.inl ⟨.bool true, .bool true, [], rfl, fun _ => rfl, .bool true, post_true l _, fun _ => ⟨List.Pairwise.nil, fun _ hm => (nomatch hm)⟩⟩, h2, h3, h4⟩

/-! ### rules over ANY heap (no ledger) from facts about the written part K: the library's own take a ledger (News) for what they write -/
section
variable {prog : Program} {w : World} {A : Around} {E : Value → Shared → Prop} {s : Shared} {K : Frag}

/-- a def of the module, or a method (qual 'C.m'), entered: the frame is the next address; cells behind it -/
theorem call_fn {R : Result → Shared → Prop} {name qual : Str} {params : Arguments} {body : List Stmt} {scope : Scope} {dV kV doc pm cdv ct oc : Value} {an od : Option Addr} {osl : Array (Option Value)} {f : Addr} {args : Args} {binds : List (Str × Value)}
    (X : K.In s.heap) (hlim : s.heap.NoLimit) (ho : K.lookup f = some ⟨oc, od, .func (fnOf name qual params body scope dV kV doc pm an cdv ct), osl⟩) (hcd : codeIn K cdv qual = true) (hroom : A.depth < recursionLimit)
    (hbind : BindsTo s (fnOf name qual params body scope dV kV doc pm an cdv ct) args binds)
    (hkind : (binds.all fun y => scope.names.lookup y.1 == some .local || scope.names.lookup y.1 == some .cell) = true)
    (h : ∀ s₁, InCallC s s.heap.objs.size (bindL (envOfC qual scope s.heap.objs.size f cdv).kindOf binds fun _ => none) (cellsFrom (s.heap.objs.size + 1) scope.names [])
        (bindC (envOfC qual scope s.heap.objs.size f cdv).kindOf binds fun _ => none) s₁ →
      wpAny (model prog w) (A.deeper (envOfC qual scope s.heap.objs.size f cdv)) (execs body (envOfC qual scope s.heap.objs.size f cdv))
        (fun fl s' => R (.ok (.ret (match fl with | .ret v => v | _ => .none))) s')
        (fun e s' => wpAny (model prog w) (A.deeper (envOfC qual scope s.heap.objs.size f cdv)) (leaving (envOfC qual scope s.heap.objs.size f cdv) e) (fun _ s'' => R (.error e) s'') (fun e' s'' => R (.error e') s'') s') s₁)
    (hco : scope.isCoroutine = false) (hgen : scope.isGenerator = false) (hk : scope.kind = .function) : codeAny (model prog w) A (.call (.ref f) args) R s := by
  refine codeAny_call_function hroom (X _ _ ho) rfl hco hgen rfl (codeRec_of X hcd) (hbind _ _ _ _ ?_)
  refine wpAny_newFunctionEnv_cells hk (kindsX hkind _) fun env he s₁ x => ?_
  subst he
  exact ⟨hlim.keeps x.toInCall.keep, codeAny_func (h s₁ x)⟩

/-- C(..): dict at size, instance at size + 1, then __init__ -/
theorem make_obj {R : Result → Shared → Prop} {C fI : Addr} {rest : List Value} {kw : List (Str × Value)}
    (X : K.In s.heap) (hm : makesIn K C = true) (hi : findIn K (.ref C) "__init__" = some (some (.ref fI))) (hf : isFn K (.ref fI) = true)
    (h : codeAny (model prog w) (A.under (.builtin "type.__call__" ⟨.ref C :: rest, kw⟩)) (.call (.ref fI) ⟨.ref (s.heap.objs.size + 1) :: rest, kw⟩) (InitBack (s.heap.objs.size + 1) R)
      { s with heap := (s.heap.push emptyDict).push (instObj C s.heap.objs.size) }) : codeAny (model prog w) A (.call (.ref C) ⟨rest, kw⟩) R s := by
  obtain ⟨hh, g, d, t, os⟩ := s
  exact make_core (makes_of X hm) (looks_findIn X hi) (fun self => bind_fn X self (beq_iff_eq.mp hf)) (.inl rfl) h

/-- x.name where the instance's dict holds the name and the class does not -/
theorem get_field {x C : Addr} {ox : Obj} {es : List DictEntry} {n : Nat} {name : Str} {expr : Bool} {v : Value} {Q : Value → Shared → Prop}
    (X : K.In s.heap) (I : PySem.W.InstAt s.heap x ox C (some (dictOf es n))) (hg : plainGet K C name = true) (hh : hasDictIn K C = true) (ha : findIn K (.ref C) name = some none)
    (hl : getL name es = some (some v)) (hv : handedIn v = true) (h : Q v { s with toks := s.toks + 1 }) : wpAny (model prog w) A (getAttr (.ref x) name expr) Q E s :=
  get_value X I (plainGet_of hg).1 (findObj_own hh ha rfl hl) hv h

/-- x.m(..): the method found in the class -/
theorem get_method {x C f : Addr} {ox : Obj} {es : List DictEntry} {n : Nat} {name : Str} {pl : Sem Bool} {Q : Value × List Value → Shared → Prop}
    (X : K.In s.heap) (I : PySem.W.InstAt s.heap x ox C (some (dictOf es n))) (hg : plainGet K C name = true) (hf : findIn K (.ref C) name = some (some (.ref f))) (ht : isFn K (.ref f) = true)
    (hl : getL name es = some none) (h : Q (.ref f, [.ref x]) s) : wpAny (model prog w) A (getMethod (.ref x) name pl) Q E s :=
  method_fn X I (plainGet_of hg).1 (plainGet_of hg).2 hf (beq_iff_eq.mp ht) (by show (lookIn name (dictOf es n)).map _ = _; rw [lookIn_dict, hl]; rfl) h

/-! the whole heap as the ledger: makes every rule that writes through a ledger a rule over any heap -/
def noObjs (h : Heap) : Heap := { h with objs := #[] }
theorem noObjs_get (h : Heap) (b : Addr) : (noObjs h).get? b = none := by
  cases e : (noObjs h).get? b with
  | none => rfl
  | some o => exact absurd (Heap.lt_size e) (Nat.not_lt_zero _)
def ledger (h : Heap) (L d : Addr) : List (Addr × Obj) := (List.range h.objs.size).filterMap fun a => if a = L ∨ a = d then none else (h.get? a).map fun o => (a, o)
theorem mem_ledger {h : Heap} {L d a : Addr} {o : Obj} : (a, o) ∈ ledger h L d ↔ a ≠ L ∧ a ≠ d ∧ h.get? a = some o := by
  unfold ledger
  rw [List.mem_filterMap]
  constructor
  · rintro ⟨b, _, e⟩
    split at e
    · cases e
    · rename_i hb
      obtain ⟨o', ho, e'⟩ := Option.map_eq_some_iff.mp e
      cases e'
      exact ⟨fun q => hb (.inl q), fun q => hb (.inr q), ho⟩
  · rintro ⟨n1, n2, ho⟩
    refine ⟨a, List.mem_range.mpr (Heap.lt_size ho), ?_⟩
    rw [if_neg (show ¬ (a = L ∨ a = d) from fun q => q.elim n1 n2), ho] <;> rfl
theorem news_ledger {h : Heap} {L d : Addr} {od : Obj} (hne : d ≠ L) (ho : h.get? d = some od) : News (noObjs h) L h ([] ++ (d, od) :: ledger h L d) := by
  rintro ⟨a, o⟩ hp
  rcases List.mem_cons.mp hp with e | hp
  · cases e
    exact ⟨ho, hne, noObjs_get _ _⟩
  · obtain ⟨n1, n2, e⟩ := mem_ledger.mp hp
    exact ⟨e, n1, noObjs_get _ _⟩
theorem fr_all {h : Heap} {L : Addr} {m : Str → Option Value} (n : h.Ns L m) : Fr (noObjs h) L h m :=
  ⟨n, fun b o e => (by rw [noObjs_get] at e; cases e), Nat.zero_le _⟩
/-- Upd of the head entry (for append_K, setItem_K ..) -/
theorem upd_ledger {h : Heap} {L d : Addr} {o o' : Obj} : Upd d o o' ((d, o) :: ledger h L d) ((d, o') :: ledger h L d) :=
  .head fun ⟨_, _⟩ hp => (mem_ledger.mp hp).2.1

/-- x.name = v over any heap: L is any namespace of the heap (the frame's, say): its map stays, its object is not told; all else but the dict stays -/
theorem set_field {x C dx L : Addr} {ox : Obj} {m : Str → Option Value} {es es' : List DictEntry} {n n' : Nat} {name : Str} {v : Value} {Q : Unit → Shared → Prop}
    (X : K.In s.heap) (I : PySem.W.InstAt s.heap x ox C (some (dictOf es n))) (hd : ox.dict = some dx) (hL : s.heap.Ns L m) (hne : dx ≠ L)
    (hs : findIn K (.ref C) "__setattr__" = some (some (.builtin "object.__setattr__"))) (hp : plainOver K C = true) (ht : takerIn K C name = some none) (hh : hasDictIn K C = true) (hl : (getL name es).isSome = true)
    (e : (putL name (PyData.keyHash w.params name) (.str name (s.toks + 1)) v es, putN name es n) = (es', n')) (hz : es'.length ≤ 1000)
    (h : ∀ h' : Heap, h'.Ns L m → h'.get? dx = some (dictOf es' n') → (∀ b o, b ≠ dx → b ≠ L → s.heap.get? b = some o → h'.get? b = some o) → Q () { s with heap := h', toks := s.toks + 2 }) :
    wpAny (model prog w) A (setAttr (.ref x) name v) Q E s := by
  obtain ⟨e1, e2⟩ := Prod.mk.inj e
  have hdx : s.heap.get? dx = some (dictOf es n) := by
    have := I.dict
    rw [hd] at this
    exact this
  refine set_plain X I hs (osa_dict (s := { s with toks := s.toks + 1 }) (h₀ := noObjs s.heap) (L := L) (m := m) (od := dictOf es n) (od' := dictOf es' n') (es := es') (n := n') (pre := []) (post := ledger s.heap L dx)
    (fr_all hL) (news_ledger hne hdx) X I hd hp ht hh hl (fun _ q => nomatch q) (fun ⟨_, _⟩ q => (mem_ledger.mp q).2.1) (by rw [putName_dict, e1, e2]) rfl hz fun h' F' N' => ?_)
  exact h h' F'.ns (N'.get (List.Mem.head _)) fun b o n1 n2 ho => N'.get (List.Mem.tail _ (mem_ledger.mpr ⟨n2, n1, ho⟩))
end
end Att

namespace L2
open PySem PySem.Spec PyProof.Rows

theorem vals_ints : ∀ {vs : List Value} {ns : List Int}, IntsAre vs ns → Vals (ns.map V.int) vs
  | _, _, .nil => .nil
  | _, _, .cons n t h => .cons ⟨t, rfl⟩ (vals_ints h)

/-- nothing is tracked but the script, known to the object (or it is an object of the module) -/
def Only (H : Hp) : Prop := ∀ b, H b = none ∨ ∃ o xs, H b = some (.frz o (.lst xs))

/-- THE HEAD: the law's promise, at the heap behind the top. F, the promise of the law's def, may use that base is part of the heap (so K.In base, base.Ns mainGlobals mg stand in Mod) -/
theorem law_call {P : Program} {w : World} {K : PySem.W.Frag} {mg mb : Str → Option Value} {CX : CXT} {k : Nat} {fa a : Addr} {fd : FuncData} {x : Str} {sp : Sp} {s₁ : Shared} {vs : List Value} {ns : List Int}
    (KX : K.In s₁.heap) (hns : s₁.heap.Ns mainGlobals mg) (hb : s₁.heap.Ns builtinsNs mb) (hbb : ∀ x : Str, x ≠ "__name__" → mb x = bootBuiltins x) (hlim : s₁.heap.NoLimit) (hg : s₁.gens = #[])
    (ha : s₁.heap.get? a = some { cls := .type "list", data := .seq vs.toArray }) (hi : IntsAre vs ns) (hl : ns.length ≤ sizeLine) (hr : Room k callerA)
    (F : ∀ base : Heap, K.In base → base.Ns mainGlobals mg → FnOk P w K mg base CX k fa fd [x] sp) (hbind : ∀ (s : Shared) (u : Value), BindsTo s fd ⟨[u], []⟩ [(x, u)])
    (hsp : ∀ H : Hp, Only H → SqL K H a (ns.map V.int) → sp [.ref a] H (fun v _ => v = .bl true) fun _ _ _ => False)
    (hCX : ∀ H e s', CX [] H s₁ (fun _ _ _ => False) e s' → False) :
    codeAny (model P w) callerA (.call (.ref fa) ⟨[.ref a], []⟩) (fun r s' => r = .ok (.ret (.bool true)) ∧ OldK s₁.heap s'.heap ∧ s'.os = s₁.os ∧ AllBare s'.gens) s₁ := by
  have rv := vals_ints hi
  have lenV := hi.length
  -- from an abstract heap in which nothing but the script may be tracked
  have core : ∀ H : Hp, Only H → SqL K H a (ns.map V.int) → HOk P w H s₁.heap → (∀ b, H b ≠ none → b = a) → (H a ≠ none → K.lookup a = none) →
      codeAny (model P w) callerA (.call (.ref fa) ⟨[.ref a], []⟩) (fun r s' => r = .ok (.ret (.bool true)) ∧ OldK s₁.heap s'.heap ∧ s'.os = s₁.os ∧ AllBare s'.gens) s₁ := by
    intro H hO hS hok hA hK
    have base_of : ∀ {b : Addr} {o : Obj}, s₁.heap.get? b = some o → H b = none → (hidT s₁.heap H).get? b = some o := fun e n => hidT_get e n
    have noA : ∀ {b : Addr} {o : Obj} {es : Array DictEntry} {ep : Nat}, s₁.heap.get? b = some o → o.data = .dict es ep → H b = none := fun {b o es ep} e d => by
      cases q : H b with
      | none => rfl
      | some u =>
        have e' : b = a := hA b (by rw [q]; simp)
        subst e'
        rw [ha] at e; cases e
        have d' : Data.seq vs.toArray _ = Data.dict es ep := d
        cases d'
    have nsK : ∀ {b : Addr} {m : Str → Option Value}, s₁.heap.Ns b m → (hidT s₁.heap H).Ns b m := fun {b m} ⟨o, es, ep, e, d, r⟩ => ⟨o, es, ep, base_of e (noA e d), d, r⟩
    have hKb : K.In (hidT s₁.heap H) := fun b o e => base_of (KX b o e) (by
      cases q : H b with
      | none => rfl
      | some u =>
        have e' : b = a := hA b (by rw [q]; simp)
        subst e'
        rw [hK (by rw [q]; simp)] at e; cases e)
    have hM : Mod K mg (hidT s₁.heap H) := ⟨hKb, nsK hns, ⟨mb, nsK hb, hbb⟩, let ⟨mc, h1, h2⟩ := hlim; ⟨mc, nsK h1, h2⟩⟩
    have e0 : Env0 P w K mg (hidT s₁.heap H) callerA [] s₁ H := ⟨rfl, hM, fun b o e => of_hidT e, Nat.le_of_eq (hidT_size _ _), trivial, fun b hb => absurd (show b ∈ ([] : List Addr) from hb) (by simp), hok, .of_eq hg⟩
    refine codeAny_mono ((F _ hKb (nsK hns)).run callerA [] s₁ H ⟨[.ref a], []⟩ [.ref a] [.ref a] _ _ hr e0 (hbind s₁ (.ref a)) (.cons rfl .nil) (hsp H hO hS)) fun r s' h => ?_
    cases r with
    | error e => exact (hCX H e s' h).elim
    | ok fl =>
      cases fl with
      | next => exact False.elim h
      | brk => exact False.elim h
      | cont => exact False.elim h
      | ret u =>
        obtain ⟨v, H', os, bare, un, hok', r', q⟩ := h
        have q' : v = .bl true := q
        subst q'
        obtain rfl : u = Value.bool true := r'
        refine ⟨rfl, OldK.of_keep fun b o e => ?_, os, bare⟩
        cases q : H b with
        | none => exact un.keep b o e q (by intro z; exact absurd (show b ∈ ([] : List Addr) from z) (by simp)) (by simp)
        | some u =>
          rcases hO b with z | ⟨ob, xs, z⟩
          · rw [q] at z; cases z
          · have z2 := un.frzs b ob _ z
            obtain ⟨e1, _⟩ := hok b _ z
            obtain ⟨e2, _⟩ := hok' b _ z2
            rw [e] at e1; cases e1
            exact e2
  cases hk : K.lookup a with
  | some o =>
    -- the script is one of the module's own objects
    have e := KX a o hk
    rw [ha] at e
    cases e
    refine core (fun _ => none) (fun _ => .inl rfl) (.inr ⟨_, vs.toArray, _, hk, rfl, rfl, rfl, by rw [List.size_toArray, lenV]; exact hl, by simpa using rv⟩) (fun b u z => by have z' : (none : Option HO) = some u := z; cases z') (fun b z => absurd rfl z) fun z => absurd rfl z
  | none =>
    refine core (fun b => if b = a then some (.frz { cls := .type "list", data := .seq vs.toArray } (.lst (ns.map V.int))) else none) (fun b => ?_) (.inl (.inr ⟨{ cls := .type "list", data := .seq vs.toArray }, if_pos rfl⟩)) (fun b u z => ?_) (fun b z => ?_) fun _ => hk
    · by_cases hb : b = a
      · exact .inr ⟨_, _, if_pos hb⟩
      · exact .inl (if_neg hb)
    · by_cases hb : b = a
      · have z' := (if_pos hb).symm.trans z
        cases z'
        subst hb
        exact ⟨ha, by rw [List.length_map]; exact hl, vs, _, rv, ha⟩
      · have z' := (if_neg hb).symm.trans z
        cases z'
    · by_cases hb : b = a
      · exact hb
      · exact absurd (if_neg hb) z
end L2

namespace L2
open PySem PySem.Spec PyProof.Rows

abbrev KOf {K : PySem.W.Frag} {h : Heap} (_ : K.In h) : PySem.W.Frag := K

/-- the goal that k_head leaves (case hc), from the law's promise. F gives the function object fd (K's own) once, then the promise over every base -/
theorem walk_of {l : PySem.W.OpenLaw} {n k : Nat} {q : Program} {loose : List Str} {XP : (Str → Option Value) → Heap → Prop} {YP : World → Heap → Prop} {d : DefRec} {K : Params → PySem.W.Frag} {CX : World → CXT} {sp : World → Sp} {x : Str}
    (hn : l.most = some n) (hn2 : n ≤ sizeLine) (hdf : d.params.defaults = []) (hr : Room k callerA)
    (hY : ∀ (w : World) (h : Heap), YP w h → (K w.params).In h)
    (F : ∀ (w : World) (mg : Str → Option Value) (fa : Addr) (h : Heap), (K w.params).In h → h.Ns mainGlobals mg → mg d.name = some (.ref fa) →
      ∃ fd : FuncData, (∀ (s : Shared) (u : Value), BindsTo s fd ⟨[u], []⟩ [(x, u)]) ∧
        ∀ base : Heap, (K w.params).In base → base.Ns mainGlobals mg → FnOk l.prog w (K w.params) mg base (CX w) k fa fd [x] (sp w))
    (hsp : ∀ (w : World) (H : Hp) (a : Addr) (ns : List Int), ns.length ≤ n → Only H → SqL (K w.params) H a (ns.map V.int) → sp w [.ref a] H (fun v _ => v = .bl true) fun _ _ _ => False)
    (hCX : ∀ (w : World) (H : Hp) (s : Shared) (e : Value) (s' : Shared), CX w [] H s (fun _ _ _ => False) e s' → False) :
    PySem.W.WalkO q loose XP YP l.row.toRowW d [] (fun f vs => PySem.call f vs) := by
  refine Att.attach_call hn hdf fun w s₀ s₁ mg mb fa o pm cd doc a vs ns G Y ho hd hcd hmg hobj hints hlen hg => ?_
  have KX := hY w _ Y
  obtain ⟨fd, hb, hF⟩ := F w mg fa _ KX G.T.g hmg
  exact law_call KX G.T.g G.T.b G.T.builtins G.T.nolimit hg hobj hints (Nat.le_trans hlen hn2) hr hF hb (fun H hO hS => hsp w H a ns hlen hO hS) fun H e s' => hCX w H s₁ e s'
/-- the same where the promise hangs on the written part alone: (sp := My.sp_law), no hole under a binder -/
theorem walk_ofK {l : PySem.W.OpenLaw} {n k : Nat} {q : Program} {loose : List Str} {XP : (Str → Option Value) → Heap → Prop} {YP : World → Heap → Prop} {d : DefRec} {K : Params → PySem.W.Frag} {CX : CXT} {sp : PySem.W.Frag → Sp} {x : Str}
    (hn : l.most = some n) (hn2 : n ≤ sizeLine) (hdf : d.params.defaults = []) (hr : Room k callerA)
    (hY : ∀ (w : World) (h : Heap), YP w h → (K w.params).In h)
    (F : ∀ (w : World) (mg : Str → Option Value) (fa : Addr) (h : Heap), (K w.params).In h → h.Ns mainGlobals mg → mg d.name = some (.ref fa) →
      ∃ fd : FuncData, (∀ (s : Shared) (u : Value), BindsTo s fd ⟨[u], []⟩ [(x, u)]) ∧
        ∀ base : Heap, (K w.params).In base → base.Ns mainGlobals mg → FnOk l.prog w (K w.params) mg base CX k fa fd [x] (sp (K w.params)))
    (hsp : ∀ (K : PySem.W.Frag) (H : Hp) (a : Addr) (ns : List Int), ns.length ≤ n → Only H → SqL K H a (ns.map V.int) → sp K [.ref a] H (fun v _ => v = .bl true) fun _ _ _ => False)
    (hCX : ∀ (H : Hp) (s : Shared) (e : Value) (s' : Shared), CX [] H s (fun _ _ _ => False) e s' → False) :
    PySem.W.WalkO q loose XP YP l.row.toRowW d [] (fun f vs => PySem.call f vs) :=
  walk_of (K := K) (CX := fun _ => CX) (sp := fun w => sp (K w.params)) hn hn2 hdf hr hY F (fun w H a ns h1 h2 h3 => hsp (K w.params) H a ns h1 h2 h3) fun _ H s e s' => hCX H s e s'
end L2

/- THE LAST THEOREM (shape; LID, My.* are yours):
   My.Adr: a structure of the addresses that your layer names (classes, functions); My.Txt K t: a structure (Prop) of the equations over K;
   My.txt_mk : {K} {implicit addresses ..} (e1 : nsIn K mainGlobals "law" = some (some (.ref f))) (e2 : K.lookup f = some ⟨oc, od, .func (fnOf "law" "law" params body scope dV kV doc pm an cdv ct), sl⟩) (e3 : codeIn K cdv "law" = true) .. : ∃ t, My.Txt K t

set_option maxRecDepth 100000 in
set_option maxHeartbeats 0 in
theorem PySem.Challenge.cw_LID_holds : PySem.Challenge.rw_LID.Holds := by
  w_on; o_law; k_head; (case hw => w_witness2)
  k_fill
  refine L2.walk_of (l := PySem.Challenge.rw_LID) (n := 63) (k := 40) (x := "script") (CX := fun w => ..) (sp := fun _ => My.sp_law) rfl (by decide) rfl ⟨rfl, by decide, by decide⟩ (fun w h Y => PySem.W.kIn_of Y) ?F ?S ?C
  case F =>
    intro w mg fa h KX G hmg
    have T : ∃ t, My.Txt (L2.KOf KX) t := by
      dsimp only [L2.KOf]                          -- K must stand as «<heap const> w.params» for k_is
      refine' My.txt_mk ?e1 ?e2 ?e3 ..
      (case e1 => PySem.W.k_is)                    -- in the order: a name -> its address -> its object -> its parts
      (case e2 => PySem.W.k_is)
      ..
    obtain ⟨t, T⟩ := T
    have e0 := hmg.symm.trans (PySem.W.mg_of KX G T.law)
    cases e0                                       -- fa is the law's own address
    exact ⟨_, fun s u => .of_eq rfl, fun base kb nb => My.law_fn T kb nb⟩     -- if «.of_eq rfl» comes too early: refine' ⟨_, ?b, fun base kb nb => My.law_fn T kb nb⟩; exact fun s u => .of_eq rfl
  case S => exact fun w H a ns hl hO hS => ..
  case C => exact ..
(the tactic k_is has no namespace: write k_is) -/

/-! SHORT WORDS over the layer: a def of the text, its body, what a loop and a test want. -/
namespace L2
open PySem PySem.Spec PyProof.Rows

/-! ### the text by places -/
/-- the j-th statement of a class's body -/
def inClass (s : Stmt) (j : Nat) : Stmt := match s with
  | .ClassDef _ _ _ body _ _ _ _ _ _ _ => body.getD j (.Pass ⟨0, 0, 0, 0⟩)
  | _ => .Pass ⟨0, 0, 0, 0⟩
def defArgs (s : Stmt) : Arguments := match s with
  | .FunctionDef _ a _ _ _ _ _ _ _ _ => a
  | _ => { posonlyargs := [], args := [], vararg := none, kwonlyargs := [], kw_defaults := [], kwarg := none, defaults := [] }
def defBody (s : Stmt) : List Stmt := match s with
  | .FunctionDef _ _ b _ _ _ _ _ _ _ => b
  | _ => []
def defScope (s : Stmt) : Scope := match s with
  | .FunctionDef _ _ _ _ _ _ sc _ _ _ => sc
  | _ => { kind := .function, names := [], isGenerator := false, isCoroutine := false }

/-! ### no exception leaves a def -/
abbrev CX0 : CXT := fun _ _ _ _ _ _ => False
abbrev E0 : XK := fun _ _ _ => False
theorem pass0 {X : Cx} : Passes CX0 X E0 := fun _ _ _ _ _ _ _ h => h.elim

/-! ### a def (or method) of the text as it stands behind the top -/
structure Fun (K : PySem.W.Frag) (x qual : Str) (st : Stmt) (f : Addr) (fd : FuncData) : Prop where
  ex : ∃ (oc : Value) (od : Option Addr) (kV doc pm : Value) (an : Option Addr) (cdv ct : Value) (osl : Array (Option Value)),
    fd = PySem.W.fnOf x qual (defArgs st) (defBody st) (defScope st) .none kV doc pm an cdv ct ∧ K.lookup f = some ⟨oc, od, .func fd, osl⟩ ∧ PySem.W.codeIn K cdv qual = true
  kp : PySem.W.keepIn K (.ref f) = true
section
variable {P : Program} {w : World} {K : PySem.W.Frag} {mg : Str → Option Value} {base : Heap}
/-- THE RULE for a def: its body as a term of rules, and the reading of that term -/
theorem Fun.ok {x qual : Str} {st : Stmt} {f : Addr} {fd : FuncData} {N ps : List Str} {k : Nat} {sp : Sp} (F : Fun K x qual st f fd) (S : FnScope N ps (defScope st)) (len : ∀ vs H Q E, sp vs H Q E → vs.length = ps.length)
    (hbody : ∀ (cdv : Value) (A : Around) (outer : List Env) (s : Shared) (H : Hp) (vs : List V) (Q : VK) (E : XK), Room k (A.deeper (envOfC qual (defScope st) s.heap.objs.size f cdv)) → sp vs H Q E →
      ∃ t, PSs (cxOf CX0 P w K mg base N qual (defScope st) f cdv A outer s H E).nox (defBody st) t ∧ t { nx := fun _ H' => Q .non H', rt := Q } (start N vs) H) : FnOk P w K mg base CX0 (k + 1) f fd ps sp := by
  obtain ⟨oc, od, kV, doc, pm, an, cdv, ct, osl, rfl, lk, hcd⟩ := F.ex
  refine fn_of lk hcd S len fun A outer s H vs Q E hr hsp => ?_
  obtain ⟨t, h, q⟩ := hbody cdv A outer s H vs Q E hr hsp
  exact ⟨t, h.nox, q⟩
/-- how its arguments bind (no defaults): h is «fun _ _ _ _ _ _ us hl => match us, hl with | [_, _], _ => rfl», one _ a parameter -/
theorem Fun.binds {x qual : Str} {st : Stmt} {f : Addr} {fd : FuncData} {ps : List Str} (F : Fun K x qual st f fd)
    (h : ∀ (kV doc pm : Value) (an : Option Addr) (cdv ct : Value) (us : List Value), us.length = ps.length → bindArgs (PySem.W.fnOf x qual (defArgs st) (defBody st) (defScope st) .none kV doc pm an cdv ct) ⟨us, []⟩ = pure (ps.zip us)) : Binds K fd ps [] := by
  obtain ⟨oc, od, kV, doc, pm, an, cdv, ct, osl, rfl, lk, hcd⟩ := F.ex
  exact .all (h kV doc pm an cdv ct)
theorem fun_mk {x qual : Str} {st : Stmt} {f : Addr} {oc : Value} {od an : Option Addr} {osl : Array (Option Value)} {kV doc pm cdv ct : Value} (l : K.lookup f = some ⟨oc, od, .func (PySem.W.fnOf x qual (defArgs st) (defBody st) (defScope st) .none kV doc pm an cdv ct), osl⟩)
    (c : PySem.W.codeIn K cdv qual = true) (k : PySem.W.keepIn K (.ref f) = true) : Fun K x qual st f (PySem.W.fnOf x qual (defArgs st) (defBody st) (defScope st) .none kV doc pm an cdv ct) := ⟨⟨oc, od, kV, doc, pm, an, cdv, ct, osl, rfl, l, c⟩, k⟩
end
theorem hu_of {A : Around} {k : Nat} (hr : Room k A) : A.units + 1 < cLine := Nat.lt_of_le_of_lt (Nat.add_le_add_left (by decide : 1 ≤ 64) _) hr.units
theorem small1000 {n : Nat} (h : n ≤ 1000) : n < sizeLine := Nat.lt_of_le_of_lt h (by decide)

/-! ### expressions in short: the name that stands in the i-th slot -/
section
variable {X : Cx}
theorem pv (i : Nat) {x : Str} {pos : Pos} (hN : X.N[i]? = some x := by rfl) (hv : Vis X.env.scope x := by first | exact Or.inl rfl | exact Or.inr (Or.inl rfl) | exact Or.inr (Or.inr rfl)) (hd : (x == ("__debug__" : Str)) = false := by decide)
    (hcd : (x == ("__classdict__" : Str)) = false := by decide) : PE X (.Name x pos) (tVar i) := pe_var hN hv hd hcd
end

/-! ### tests -/
theorem iteF {A B : Prop} (h : B) : if false = true then A else B := by
  rw [if_neg Bool.false_ne_true]
  exact h
theorem iteT {A B : Prop} (h : A) : if true = true then A else B := by
  rw [if_pos rfl]
  exact h
theorem ite2 {c A B : Prop} [Decidable c] (h1 : c → A) (h2 : ¬ c → B) : if c then A else B := by
  by_cases h : c
  · rw [if_pos h]
    exact h1 h
  · rw [if_neg h]
    exact h2 h
theorem iteNS {c A B : Prop} [Decidable c] (hc : c) (h : B) : if (!decide c) = true then A else B := by
  rw [decide_eq_true hc]
  exact iteF h

/-! ### heaps -/
/-- all that was tracked is as it was -/
def Same (H H' : Hp) : Prop := ∀ b o, H b = some o → H' b = some o
theorem Same.refl (H : Hp) : Same H H := fun _ _ h => h
theorem Same.trans {H H1 H2 : Hp} (a : Same H H1) (b : Same H1 H2) : Same H H2 := fun c o h => b c o (a c o h)
theorem Same.free {H H' : Hp} (e : Same H H') {l : Addr} (h : H' l = Option.none) : H l = Option.none := by
  cases q : H l with
  | none => rfl
  | some o =>
    rw [e l o q] at h
    cases h
theorem Same.seq {K : PySem.W.Frag} {H H' : Hp} {a : Addr} {xs : List V} (e : Same H H') (h : SqL K H a xs) : SqL K H' a xs := by
  rcases h with (h | ⟨o, h⟩) | h
  · exact .inl (.inl (e _ _ h))
  · exact .inl (.inr ⟨o, e _ _ h⟩)
  · exact .inr h

section
variable {X : Cx}
/-- len of a dict -/
theorem call_lenD : CallR X (.builtin "len") (fun xs H Q => ∃ a kvs, xs = [V.ref a] ∧ H a = some (.dK kvs) ∧ Q (.int kvs.length) H) := by
  intro pins s σ H xs us Q I r h
  obtain ⟨a, kvs, rfl, ha, q⟩ := h
  obtain ⟨u, rfl, ru⟩ := vals1 r
  cases ru
  exact d_len I (.inl ha) fun t s' I' => ⟨.int kvs.length, H, I', ⟨t, rfl⟩, q⟩
end
/-! ### a dict's pairs: keys that differ -/
section
variable {κ : Type} [DecidableEq κ]
theorem valV_not {kvs : List (κ × V)} {k : κ} (h : valV kvs k = none) : ¬ k ∈ kvs.map (·.1) := by
  intro m
  obtain ⟨p, hp, e⟩ := List.mem_map.mp m
  have q : (kvs.any fun kv => decide (kv.1 = k)) = true := List.any_eq_true.mpr ⟨p, hp, decide_eq_true e⟩
  rw [valV_any, h] at q
  exact absurd q (by simp)
theorem valV_in {kvs : List (κ × V)} {k : κ} {v : V} (h : valV kvs k = some v) : k ∈ kvs.map (·.1) := by
  have q : (kvs.any fun kv => decide (kv.1 = k)) = true := by
    rw [valV_any, h]
    all_goals rfl
  obtain ⟨p, hp, e⟩ := List.any_eq_true.mp q
  exact List.mem_map.mpr ⟨p, hp, of_decide_eq_true e⟩
theorem nd_snoc : ∀ {l : List κ} {k : κ}, l.Nodup → ¬ k ∈ l → (l ++ [k]).Nodup
  | [], k, _, _ => by simp
  | a :: r, k, h, hk => by
    obtain ⟨h1, h2⟩ := List.nodup_cons.mp h
    show (a :: (r ++ [k])).Nodup
    refine List.nodup_cons.mpr ⟨fun m => ?_, nd_snoc h2 fun m => hk (List.mem_cons.mpr (Or.inr m))⟩
    rcases List.mem_append.mp m with q | q
    · exact h1 q
    · exact hk (List.mem_cons.mpr (Or.inl (List.mem_singleton.mp q).symm))
theorem nd_putK {kvs : List (κ × V)} {k : κ} (v : V) (hn : (kvs.map (·.1)).Nodup) (h : valV kvs k = none) : ((putK kvs k v).map (·.1)).Nodup := by
  rw [putK_new v h, List.map_append]
  exact nd_snoc hn (valV_not h)
theorem dropK_pos {p : κ × V} {r : List (κ × V)} {k : κ} (e : p.1 = k) : dropK (p :: r) k = dropK r k := by
  unfold dropK
  rw [List.filter_cons, if_neg (by simp [e])]
theorem dropK_neg {p : κ × V} {r : List (κ × V)} {k : κ} (e : ¬ p.1 = k) : dropK (p :: r) k = p :: dropK r k := by
  unfold dropK
  rw [List.filter_cons, if_pos (by simp [e])]
theorem dropK_no : ∀ {kvs : List (κ × V)} {k : κ}, ¬ k ∈ kvs.map (·.1) → dropK kvs k = kvs
  | [], _, _ => rfl
  | p :: r, k, h => by
    have h' : ¬ k ∈ r.map (·.1) := fun m => by
      obtain ⟨q, hq, e⟩ := List.mem_map.mp m
      exact h (List.mem_map.mpr ⟨q, List.mem_cons.mpr (Or.inr hq), e⟩)
    rw [dropK_neg fun e => h (List.mem_map.mpr ⟨p, List.mem_cons.mpr (Or.inl rfl), e⟩), dropK_no h']
theorem dropK_mem {kvs : List (κ × V)} {k : κ} {p : κ × V} (h : p ∈ dropK kvs k) : p ∈ kvs := (List.mem_filter.mp h).1
theorem nd_dropK : ∀ {kvs : List (κ × V)} {k : κ}, (kvs.map (·.1)).Nodup → ((dropK kvs k).map (·.1)).Nodup
  | [], _, _ => List.nodup_nil
  | p :: r, k, h => by
    have h : (p.1 :: r.map (·.1)).Nodup := h
    obtain ⟨h1, h2⟩ := List.nodup_cons.mp h
    by_cases e : p.1 = k
    · rw [dropK_pos e]
      exact nd_dropK h2
    · rw [dropK_neg e]
      show (p.1 :: (dropK r k).map (·.1)).Nodup
      refine List.nodup_cons.mpr ⟨fun m => h1 ?_, nd_dropK h2⟩
      obtain ⟨q, hq, eq⟩ := List.mem_map.mp m
      exact List.mem_map.mpr ⟨q, dropK_mem hq, eq⟩
theorem dropK_len : ∀ {kvs : List (κ × V)} {k : κ}, (kvs.map (·.1)).Nodup → k ∈ kvs.map (·.1) → (dropK kvs k).length + 1 = kvs.length
  | [], _, _, m => by simp at m
  | p :: r, k, h, m => by
    have h : (p.1 :: r.map (·.1)).Nodup := h
    have m : k = p.1 ∨ k ∈ r.map (·.1) := List.mem_cons.mp m
    obtain ⟨h1, h2⟩ := List.nodup_cons.mp h
    by_cases e : p.1 = k
    · subst e
      rw [dropK_pos rfl, dropK_no h1]
      all_goals rfl
    · have m' : k ∈ r.map (·.1) := m.resolve_left fun z => e z.symm
      have q := dropK_len h2 m'
      rw [dropK_neg e, List.length_cons, List.length_cons]
      omega
end
end L2

set_option linter.all false
set_option maxRecDepth 100000
namespace L2.Rv
open PySem PySem.Spec PySem.W PyProof.Rows
section
variable {prog : Program} {w : World} {A : Around} {E : Value → Shared → Prop} {s : Shared} {K : Frag} {x C : Addr} {ox : Obj}
theorem exc_check {M : Model} {v : Value} {Q : Unit → Shared → Prop} (kx : K.In s.heap) (I : InstAt s.heap x ox C none) (hsub : subIn K (.ref C) (.type "BaseException") = some true) (hQ : Q () s) :
    wpAny M A (checkBuiltinCall "BaseException.__getattribute__" ⟨[.ref x, v], []⟩) Q E s := by
  have hsplit : splitId "BaseException.__getattribute__" = some ("BaseException", "__getattribute__") := by decide +kernel
  have hk : builtinKind "BaseException.__getattribute__" = some .slot := by decide +kernel
  have ha := F.args_bexc_ga (.ref x) v
  obtain ⟨hh, g, d, t, os⟩ := s
  have L0 := I.type (M := M)
  have L1 := looks_subIn (M := M) kx hsub
  simp only [checkBuiltinCall, hk, hsplit]
  unfold isInstance
  refine wpAny_bind (wpAny_bind (L0.at (L1.at ?_)))
  simp only [Bool.not_true, Bool.false_eq_true, if_false]
  cases hsig : Manifest.signature? "BaseException.__getattribute__" with
  | none => exact wpAny_pure hQ
  | some sig =>
    simp only [argsOk, hsig] at ha
    exact wpAny_of_eq ha hQ
theorem exc_entry_class {tk : Tok} {P : Value → Shared → Prop} (kx : K.In s.heap) (I : InstAt s.heap x ox C none) (hf : findObj K C none "__class__" = some (.bind (.builtin "getset_descriptor.__get__") (.builtin "object.__class__")))
    (hm : mroIn K C (.type "object") = some true) (h : P (.ref C) s) :
    wpAny (model prog w) A (Builtin.«object.__getattribute__» ⟨[.ref x, .str "__class__" tk], []⟩) (fun fin s' => match fin with | .done (.ret v) => P v s' | _ => False) E s := by
  obtain ⟨hh, g, d, t, os⟩ := s
  have L0 := I.type (M := model prog w)
  have L1 := looks_find (M := model prog w) kx I hf
  unfold Builtin.«object.__getattribute__»
  refine wpAny_bind (wpAny_pure (wpAny_bind (wpAny_pure (wpAny_bind (L0.at (wpAny_bind (L1.at ?_)))))))
  show wpAny _ _ (holding [Value.builtin "object.__class__"] (call (.builtin "getset_descriptor.__get__") [.builtin "object.__class__", .ref x, .ref C]) >>= ret) _ _ _
  exact wpAny_bind (wpAny_holding (wpAny_call (class_get (s := ⟨hh, g, d, t, os⟩) kx I hm (wpAny_pure h))))
theorem exc_class_attr {Q : Option Value → Shared → Prop} (kx : K.In s.heap) (I : InstAt s.heap x ox C none) (hga : findIn K (.ref C) "__getattribute__" = some (some (.builtin "BaseException.__getattribute__"))) (hk : findIn K (.ref C) "__getattr__" = some none)
    (hsub : subIn K (.ref C) (.type "BaseException") = some true) (hf : findObj K C none "__class__" = some (.bind (.builtin "getset_descriptor.__get__") (.builtin "object.__class__"))) (hm : mroIn K C (.type "object") = some true)
    (h : Q (some (.ref C)) { s with toks := s.toks + 1 }) : wpAny (model prog w) A (getAttr? (.ref x) "__class__") Q E s := by
  obtain ⟨hh, g, d, t, os⟩ := s
  have L0 := I.type (M := model prog w)
  have L1 := looks_findIn (M := model prog w) kx hga
  have L2 := looks_findIn (M := model prog w) kx hk
  have hb : bindSpecial (.builtin "BaseException.__getattribute__") (.ref x) = pure (.builtin "BaseException.__getattribute__", [.ref x]) := F.excAttr_ValueError.ga.bind _
  unfold getAttr? getAttrBy? getAttrBy
  refine wpAny_bind (wpAny_mkText (wpAny_bind (wpAny_attempt (wpAny_holding (wpAny_bind (L0.at (wpAny_bind (L1.at ?_))))))))
  dsimp only
  rw [if_neg (show ¬ ((onTheHeap (Value.ref C) && (Value.builtin "BaseException.__getattribute__" == Value.builtin "object.__getattribute__")) = true) from by simp)]
  unfold getAttrByItsOwn hookBefore
  rw [if_pos (show onTheHeap (.ref C) = true from rfl)]
  refine wpAny_bind (L2.at (wpAny_bind (wpAny_attempt (wpAny_holding ?_))))
  unfold callGetattribute boundAndCalled
  rw [if_neg (by decide)]
  refine wpAny_bind (wpAny_of_eq hb ?_)
  refine wpAny_call (codeAny_call_builtin F.excAttr_ValueError.ga.plain F.entry_bexc_ga (exc_check (s := ⟨hh, g, d, t + 1, os⟩) kx I hsub ?_))
  refine wpAny_mono (exc_entry_class (s := ⟨hh, g, d, t + 1, os⟩) (P := fun v s' => wpAny (model prog w) A (handedOut v) (fun v s'' => Q (some v) s'') (fun _ _ => False) s') kx I hf hm (handed_on rfl h)) (fun fin s' z => ?_) fun _ _ z => z
  cases fin with
  | done fl =>
    cases fl with
    | ret v => exact wpAny_mono z (fun _ _ y => wpAny_pure y) (fun _ _ y => absurd y id)
    | _ => exact z.elim
  | _ => exact z.elim
/-- isinstance of an exception that was caught -/
theorem kitx_exc {a : Addr} (hga : findIn K (.ref C) "__getattribute__" = some (some (.builtin "BaseException.__getattribute__"))) (hk : findIn K (.ref C) "__getattr__" = some none) (hsub : subIn K (.ref C) (.type "BaseException") = some true)
    (hf : findObj K C none "__class__" = some (.bind (.builtin "getset_descriptor.__get__") (.builtin "object.__class__"))) (hm : mroIn K C (.type "object") = some true) (hc : (clsIn K C).isSome = true) :
    KitX K (.ref a) (.ref C) (fun hp => ∃ o vs, hp.get? a = some o ∧ o.cls = .ref C ∧ o.dict = none ∧ o.data = .fields vs) where
  ty := fun M hp kx ⟨o, vs, e1, e2, e3, e4⟩ => (show InstAt hp a o C none from ⟨e1, e2, by unfold notCls; rw [e4], by rw [e3]; trivial⟩).type
  it := fun M hp kx _ => by
    obtain ⟨cd, hcd⟩ := Option.isSome_iff_exists.mp hc
    unfold clsIn at hcd
    split at hcd
    · rename_i z1 z2 z3 z4 ho
      intro A' Q' E' s' kk q
      unfold isType loadHead
      exact wpAny_bind (wpAny_loadPart (kk _ _ (kx _ _ ho)) (wpAny_pure q))
    · cases hcd
  ne := fun hp tp dd its n sl kx htp => by
    obtain ⟨cd, hcd⟩ := Option.isSome_iff_exists.mp hc
    refine Bool.eq_false_iff.mpr fun q => ?_
    cases Value.ref.inj (beq_iff_eq.mp q)
    unfold clsIn at hcd
    split at hcd
    · rename_i z1 z2 z3 z4 ho
      have z := (kx _ _ ho).symm.trans htp
      cases z
    · cases hcd
  ca := fun {prog w A E Q s} kx ⟨o, vs, e1, e2, e3, e4⟩ k => exc_class_attr kx (show InstAt s.heap a o C none from ⟨e1, e2, by unfold notCls; rw [e4], by rw [e3]; trivial⟩) hga hk hsub hf hm k
theorem type_no_tuple : isSubtype (.type "type") (.type "tuple") = pure false := by rw [isSubtype_type]; kernel_rfl
theorem exc_matches {M : Model} {a C' : Addr} {oe : Obj} {b : Bool} {Q : Bool → Shared → Prop} (kx : K.In s.heap) (he : s.heap.get? a = some oe) (hc : oe.cls = .ref C) (hty : typeIn K (.ref C') = some (.type "type")) (hcl : (clsIn K C').isSome = true)
    (hex : subIn K (.ref C') (.type "BaseException") = some true) (hsub : subIn K (.ref C) (.ref C') = some b) (h : Q b s) : wpAny M A (excMatches (.ref a) (.ref C')) Q E s := by
  obtain ⟨hh, g, d, t, os⟩ := s
  have L0 := looks_typeIn (M := M) kx hty
  have L1 := looks_subIn (M := M) kx hex
  have L2 := looks_subIn (M := M) kx hsub
  have L3 : Looks M hh (isType (.ref C')) true := by
    obtain ⟨cd, hcd⟩ := Option.isSome_iff_exists.mp hcl
    unfold clsIn at hcd
    split at hcd
    · rename_i z1 z2 z3 z4 ho
      intro A' Q' E' s' kk q
      unfold isType loadHead
      exact wpAny_bind (wpAny_loadPart (kk _ _ (kx _ _ ho)) (wpAny_pure q))
    · cases hcd
  have L4 : Looks M hh (typeOf (.ref a)) (.ref C) := hc ▸ (Looks.ld he).andThen .now
  unfold excMatches isInstance isExcClass
  refine wpAny_bind (wpAny_bind (L0.at (wpAny_of_eq type_no_tuple ?_)))
  simp only [Bool.false_eq_true, if_false]
  refine wpAny_bind (wpAny_pure ?_)
  simp only [List.forIn_cons, List.forIn_nil]
  refine wpAny_bind (wpAny_bind (wpAny_bind (wpAny_bind (L3.at ?_))))
  rw [if_pos rfl]
  refine L1.at ?_
  simp only [Bool.not_true, Bool.false_eq_true, if_false]
  refine wpAny_pure (wpAny_pure (wpAny_bind (L4.at (wpAny_bind (wpAny_bind (wpAny_bind (L2.at ?_)))))))
  cases b with
  | true => exact wpAny_pure (wpAny_pure (wpAny_pure h))
  | false => exact wpAny_pure (wpAny_pure (wpAny_pure h))
end
end L2.Rv

/-! A small deterministic reading of the statements and expressions that the program and its laws use: values, a heap that is a list of objects, results. -/
set_option linter.all false
namespace L2.Rv
noncomputable section
open PySem (Str)
inductive MV where
  | non | bl (b : Bool) | int (i : Int) | str (s : Str) | ref (n : Nat) | scr (ns : List Int) | tup (xs : List MV) | any
noncomputable instance : DecidableEq MV := fun _ _ => Classical.propDecidable _
inductive MO where
  | lst (xs : List MV) | dct (kvs : List (Str × MV)) | ins (c : Nat) (fs : List (String × MV)) | exn (c : Nat)
noncomputable instance : DecidableEq MO := fun _ _ => Classical.propDecidable _
abbrev MH := List MO
inductive Res (α : Type) where
  | ok (a : α) (h : MH) | exc (c : Nat) (h : MH) | stuck
abbrev M (α : Type) := MH → Res α
def bnd {α β : Type} (m : M α) (f : α → M β) : M β := fun h => match m h with
  | .ok a h' => f a h'
  | .exc c h' => .exc c h'
  | .stuck => .stuck
def ret {α : Type} (a : α) : M α := fun h => .ok a h
def stk {α : Type} : M α := fun _ => .stuck
def rse {α : Type} (c : Nat) : M α := fun h => .exc c h
def new (o : MO) : M MV := fun h => .ok (.ref h.length) (h ++ [o])
def look (n : Nat) : M MO := fun h => match h[n]? with
  | some o => .ok o h
  | none => .stuck
def put (n : Nat) (o : MO) : M Unit := fun h => if n < h.length then .ok () (h.set n o) else .stuck
abbrev MSt := List (Option MV)
abbrev ME := MSt → M MV
inductive MF where
  | next (σ : MSt) | brk (σ : MSt) | cnt (σ : MSt) | ret (v : MV)
abbrev MS := MSt → M MF
/-! expressions -/
def eVar (i : Nat) : ME := fun σ => match σ[i]? with
  | some (some v) => ret v
  | _ => stk
def eC (v : MV) : ME := fun _ => ret v
abbrev Op2 := MV → MV → M MV
abbrev Op1 := MV → M MV
def eBin (f : Op2) (a b : ME) : ME := fun σ => bnd (a σ) fun x => bnd (b σ) fun y => f x y
def eUn (f : Op1) (a : ME) : ME := fun σ => bnd (a σ) f
def asB : MV → M Bool
  | .bl b => ret b
  | _ => stk
def tst (g : ME) (σ : MSt) : M Bool := bnd (g σ) asB
def eNot (a : ME) : ME := fun σ => bnd (tst a σ) fun b => ret (.bl (!b))
def eAnd (a b : ME) : ME := fun σ => bnd (tst a σ) fun c => if c = true then b σ else ret (.bl false)
def eOr (a b : ME) : ME := fun σ => bnd (tst a σ) fun c => if c = true then ret (.bl true) else b σ
def eIf (c a b : ME) : ME := fun σ => bnd (tst c σ) fun k => if k = true then a σ else b σ
abbrev MA := MSt → M (List MV)
def aNil : MA := fun _ => ret []
def aCons (e : ME) (r : MA) : MA := fun σ => bnd (e σ) fun x => bnd (r σ) fun xs => ret (x :: xs)
def eLst (a : MA) : ME := fun σ => bnd (a σ) fun xs => if xs.length ≤ 1000 then new (.lst xs) else stk
def eTup (a : MA) : ME := fun σ => bnd (a σ) fun xs => if xs.length ≤ 1000 then ret (.tup xs) else stk
abbrev Fn := List MV → M MV
def eCall (f : Fn) (a : MA) : ME := fun σ => bnd (a σ) f
/-- C(..): the new instance, then its __init__ -/
def eMake (c : Nat) (f : Fn) (a : MA) : ME := fun σ => bnd (a σ) fun xs => bnd (new (.ins c [])) fun o => bnd (f (o :: xs)) fun v => match v with
  | .non => ret o
  | _ => stk
/-- o.m(..) of an instance of the class c -/
def eMeth (c : Nat) (mth : String) (f : Fn) (o : ME) (a : MA) : ME := fun σ => bnd (o σ) fun x => match x with
  | .ref n => bnd (look n) fun ob => match ob with
    | .ins c' fs => if c' = c ∧ fs.lookup mth = none then bnd (a σ) fun xs => f (x :: xs) else stk
    | _ => stk
  | _ => stk
def eFld (o : ME) (cs : List Nat) (f : String) : ME := fun σ => bnd (o σ) fun x => match x with
  | .ref n => bnd (look n) fun ob => match ob with
    | .ins c fs => if cs.contains c = true then (match fs.lookup f with
      | some v => ret v
      | none => stk) else stk
    | _ => stk
  | _ => stk
/-! operations on values -/
def oAdd : Op2 := fun x y => match x, y with
  | .int i, .int j => ret (.int (i + j))
  | .str i, .str j => if i.length + j.length ≤ 100000 then ret (.str (i ++ j)) else stk
  | .ref a, .ref b => bnd (look a) fun oa => bnd (look b) fun ob => match oa, ob with
    | .lst xs, .lst ys => if xs.length + ys.length ≤ 100000 then new (.lst (xs ++ ys)) else stk
    | _, _ => stk
  | _, _ => stk
def oSub : Op2 := fun x y => match x, y with
  | .int i, .int j => ret (.int (i - j))
  | _, _ => stk
def oMul : Op2 := fun x y => match x, y with
  | .int i, .int j => if (-(2 ^ 64) < i ∧ i < 2 ^ 64) ∨ (-(2 ^ 64) < j ∧ j < 2 ^ 64) then ret (.int (i * j)) else stk
  | .ref a, .int k => bnd (look a) fun o => match o with
    | .lst xs => if -1000000 ≤ k ∧ k ≤ 1000000 ∧ xs.length * k.toNat ≤ 100000 then new (.lst (List.replicate k.toNat xs).flatten) else stk
    | _ => stk
  | _, _ => stk
def oMod : Op2 := fun x y => match x, y with
  | .int i, .int j => if 0 < j then ret (.int (i % j)) else stk
  | _, _ => stk
def oDiv : Op2 := fun x y => match x, y with
  | .int i, .int j => if 0 < j ∧ j < 1073741824 then ret (.int (i / j)) else stk
  | _, _ => stk
def oPow : Op2 := fun x y => match x, y with
  | .int i, .int j => if 0 ≤ j ∧ j ≤ 1000000 ∧ i.natAbs < 2 ^ 64 then ret (.int (i ^ j.toNat)) else stk
  | _, _ => stk
def oNeg : Op1 := fun x => match x with
  | .int i => ret (.int (-i))
  | _ => stk
def oLt : Op2 := fun x y => match x, y with
  | .int i, .int j => ret (.bl (decide (i < j)))
  | _, _ => stk
def oLe : Op2 := fun x y => match x, y with
  | .int i, .int j => ret (.bl (decide (i ≤ j)))
  | _, _ => stk
def oGt : Op2 := fun x y => match x, y with
  | .int i, .int j => ret (.bl (decide (j < i)))
  | _, _ => stk
def oGe : Op2 := fun x y => match x, y with
  | .int i, .int j => ret (.bl (decide (j ≤ i)))
  | _, _ => stk
def isNon : MV → Bool
  | .non => true
  | _ => false
def oIsN : Op1 := fun x => match x with
  | .any => stk
  | x => ret (.bl (isNon x))
def oNotN : Op1 := fun x => match x with
  | .any => stk
  | x => ret (.bl (!isNon x))
/-! dicts: keys are texts -/
def dget (k : Str) : List (Str × MV) → Option MV
  | [] => none
  | (a, v) :: r => if a = k then some v else dget k r
def dput (k : Str) (v : MV) (kvs : List (Str × MV)) : List (Str × MV) := if (dget k kvs).isSome = true then kvs.map (fun kv => if kv.1 = k then (kv.1, v) else kv) else kvs ++ [(k, v)]
def ddrop (k : Str) (kvs : List (Str × MV)) : List (Str × MV) := kvs.filter fun kv => decide (kv.1 ≠ k)
/-- xs[i] of a list, a tuple, a text -/
def atN {α : Type} (xs : List α) (i : Int) : Option α :=
  if 0 ≤ i then xs[i.toNat]? else if -(xs.length : Int) ≤ i then xs[(i + xs.length).toNat]? else none
def oIx : Op2 := fun x y => match x, y with
  | .ref a, .int i => bnd (look a) fun o => match o with
    | .lst xs => (match atN xs i with
      | some v => ret v
      | none => stk)
    | _ => stk
  | .tup xs, .int i => (match atN xs i with
      | some v => ret v
      | none => stk)
  | .scr ns, .int i => (match atN ns i with
    | some v => ret (.int v)
    | none => stk)
  | .str s, .int i => if s.length ≤ 100000 then (match atN s.cps.toList i with
    | some c => ret (.str ⟨#[c]⟩)
    | none => stk) else stk
  | .ref a, .str k => bnd (look a) fun o => match o with
    | .dct kvs => (match dget k kvs with
      | some v => ret v
      | none => stk)
    | _ => stk
  | _, _ => stk
def oLen : Op1 := fun x => match x with
  | .ref a => bnd (look a) fun o => match o with
    | .lst xs => ret (.int xs.length)
    | .dct xs => ret (.int xs.length)
    | _ => stk
  | .str s => if s.length ≤ 100000 then ret (.int s.length) else stk
  | .scr ns => ret (.int ns.length)
  | .tup xs => ret (.int xs.length)
  | _ => stk
/-- list(xs) -/
def oList : Op1 := fun x => match x with
  | .ref a => bnd (look a) fun o => match o with
    | .lst xs => new (.lst xs)
    | _ => stk
  | _ => stk
def oIntOf : Op1 := fun x => match x with
  | .int i => ret (.int i)
  | .bl b => ret (.int (if b then 1 else 0))
  | _ => stk
/-- plain values, that == compares by what they are -/
def flat : MV → Bool
  | .ref _ => false
  | .scr _ => false
  | .tup _ => false
  | .any => false
  | _ => true
def same2 : MV → MV → Bool
  | .int _, .int _ => true
  | .bl _, .bl _ => true
  | .str _, .str _ => true
  | _, _ => false
/-- a value as plain data, some levels deep -/
def datL (f : MV → Option PySem.PyData) : List MV → Option (List PySem.PyData)
  | [] => some []
  | x :: r => match f x, datL f r with
    | some d, some ds => some (d :: ds)
    | _, _ => none
def dat (h : MH) : Nat → MV → Option PySem.PyData
  | _, .non => some .none
  | _, .bl b => some (.bool b)
  | _, .int i => some (.int i)
  | _, .str s => some (.str s)
  | n + 1, .tup xs => (match datL (dat h n) xs with
    | some ds => some (.tuple ds)
    | none => none)
  | n + 1, .ref a => (match h[a]? with
    | some (.lst xs) => (match datL (dat h n) xs with
      | some ds => some (.list ds)
      | none => none)
    | _ => none)
  | _, _ => none
def eqDeep (x y : MV) : M Bool := fun h => match dat h 6 x, dat h 6 y with
  | some d, some e => if PySem.SeqAt.shaped d = true ∧ PySem.SeqAt.shaped e = true then .ok (PySem.PyData.eqv d e) h else .stuck
  | _, _ => .stuck
def oEq : Op2 := fun x y => if same2 x y = true then ret (.bl (decide (x = y))) else bnd (eqDeep x y) fun b => ret (.bl b)
def oNe : Op2 := fun x y => if same2 x y = true then ret (.bl (!decide (x = y))) else bnd (eqDeep x y) fun b => ret (.bl (!b))
/-- == of flat values, as in asks it -/
def eqM : MV → MV → Bool
  | .non, .non => true
  | .bl a, .bl b => a == b
  | .bl a, .int b => (if a then 1 else 0) == b
  | .int a, .bl b => a == (if b then 1 else 0)
  | .int a, .int b => a == b
  | .str a, .str b => a == b
  | _, _ => false
def inM (x : MV) (xs : List MV) : Bool := xs.any fun y => eqM y x
def oIn (neg : Bool) : Op2 := fun x y => match y with
  | .ref a => bnd (look a) fun o => match o with
    | .lst xs => if flat x = true ∧ xs.all flat = true then ret (.bl (if neg then !inM x xs else inM x xs)) else stk
    | .dct kvs => (match x with
      | .str k => ret (.bl (if neg then !(dget k kvs).isSome else (dget k kvs).isSome))
      | _ => stk)
    | _ => stk
  | .tup xs => if flat x = true ∧ xs.all flat = true then ret (.bl (if neg then !inM x xs else inM x xs)) else stk
  | _ => stk
/-- list(range(n)) -/
def oListRange : Op1 := fun x => match x with
  | .int j => if -1000000 ≤ j ∧ j ≤ 1000000 then new (.lst ((List.range j.toNat).map fun (k : Nat) => .int k)) else stk
  | _ => stk
/-- min(a, b), max(a, b) of ints; min(xs) -/
def oMin : Op2 := fun x y => match x, y with
  | .int i, .int j => ret (.int (if j < i then j else i))
  | _, _ => stk
def oMax : Op2 := fun x y => match x, y with
  | .int i, .int j => ret (.int (if i < j then j else i))
  | _, _ => stk
/-! isinstance -/
inductive Ty where
  | int | bool | str | list | tuple | exn (al cs : List Nat)
def isTy (t : Ty) : Op1 := fun x => match x with
  | .non => (match t with
    | .exn _ _ => stk
    | _ => ret (.bl false))
  | .bl _ => (match t with
    | .bool => ret (.bl true)
    | .int => ret (.bl true)
    | .exn _ _ => stk
    | _ => ret (.bl false))
  | .int _ => (match t with
    | .int => ret (.bl true)
    | .exn _ _ => stk
    | _ => ret (.bl false))
  | .str _ => (match t with
    | .str => ret (.bl true)
    | .exn _ _ => stk
    | _ => ret (.bl false))
  | .ref n => bnd (look n) fun o => match o, t with
    | .lst _, .list => ret (.bl true)
    | .lst _, .exn _ _ => stk
    | .lst _, _ => ret (.bl false)
    | .exn c, .exn al cs => if al.contains c = true then ret (.bl (cs.contains c)) else stk
    | _, _ => stk
  | .tup _ => (match t with
    | .tuple => ret (.bl true)
    | .exn _ _ => stk
    | _ => ret (.bl false))
  | .scr _ => stk
  | .any => stk
/-! statements -/
def sNil : MS := fun σ => ret (.next σ)
def sSeq (a b : MS) : MS := fun σ => bnd (a σ) fun f => match f with
  | .next σ' => b σ'
  | f => ret f
def sExpr (e : ME) : MS := fun σ => bnd (e σ) fun _ => ret (.next σ)
def sSet (i : Nat) (e : ME) : MS := fun σ => bnd (e σ) fun v => ret (.next (σ.set i (some v)))
def sRet (e : ME) : MS := fun σ => bnd (e σ) fun v => ret (.ret v)
def sIf (c : ME) (a b : MS) : MS := fun σ => bnd (tst c σ) fun k => if k = true then a σ else b σ
def sRaise (c : Nat) (a : MA) : MS := fun σ => bnd (a σ) fun xs => if xs.length ≤ 1000 then rse c else stk
def putF (f : String) (v : MV) : List (String × MV) → List (String × MV)
  | [] => [(f, v)]
  | (g, u) :: r => if g = f then (g, v) :: r else (g, u) :: putF f v r
/-- o.f = e (the value first) -/
def sFld (o : ME) (cs : List Nat) (f : String) (e : ME) : MS := fun σ => bnd (e σ) fun v => bnd (o σ) fun x => match x with
  | .ref n => bnd (look n) fun ob => match ob with
    | .ins c fs => if cs.contains c = true ∧ fs.length < 1000 then bnd (put n (.ins c (putF f v fs))) fun _ => ret (.next σ) else stk
    | _ => stk
  | _ => stk
/-- xs[i] = e -/
def ixN (n : Nat) (i : Int) : Option Nat := if 0 ≤ i then (if i < n then some i.toNat else none) else if -(n : Int) ≤ i then some (i + n).toNat else none
def setIx (o i v : MV) : M Unit := match o, i with
  | .ref n, .int k => bnd (look n) fun ob => match ob with
    | .lst xs => (match ixN xs.length k with
      | some j => put n (.lst (xs.set j v))
      | none => stk)
    | _ => stk
  | .ref n, .str k => bnd (look n) fun ob => match ob with
    | .dct kvs => if kvs.length < 1000 then put n (.dct (dput k v kvs)) else stk
    | _ => stk
  | _, _ => stk
def sSetIx (o i e : ME) : MS := fun σ => bnd (e σ) fun v => bnd (o σ) fun x => bnd (i σ) fun y => bnd (setIx x y v) fun _ => ret (.next σ)
/-- xs[i] op= e -/
def getIx : Op2 := fun x y => match x with
  | .ref _ => oIx x y
  | _ => stk
/-- + of ints alone -/
def oAddI : Op2 := fun x y => match x, y with
  | .int i, .int j => ret (.int (i + j))
  | _, _ => stk
def sAugIx (f : Op2) (o i e : ME) : MS := fun σ => bnd (o σ) fun x => bnd (i σ) fun y => bnd (getIx x y) fun u => bnd (e σ) fun v => bnd (f u v) fun z => bnd (setIx x y z) fun _ => ret (.next σ)
/-- o.f op= e -/
def sAugFld (f2 : Op2) (o : ME) (cs : List Nat) (f : String) (e : ME) : MS := fun σ => bnd (o σ) fun x => match x with
  | .ref n => bnd (look n) fun ob => match ob with
    | .ins c fs => if cs.contains c = true then (match fs.lookup f with
      | some u => bnd (e σ) fun v => bnd (f2 u v) fun z => bnd (look n) fun ob' => (match ob' with
        | .ins c' fs' => if c' = c ∧ fs'.length < 1000 then bnd (put n (.ins c' (putF f z fs'))) fun _ => ret (.next σ) else stk
        | _ => stk)
      | none => stk) else stk
    | _ => stk
  | _ => stk
/-- {}, d.get(k, x), d.pop(k) -/
def eDNew : ME := fun _ => new (.dct [])
def eDGet (o k x : ME) : ME := fun σ => bnd (o σ) fun d => match d with
  | .ref n => bnd (look n) fun ob => match ob with
    | .dct _ => bnd (k σ) fun y => bnd (x σ) fun z => match y with
      | .str s => bnd (look n) fun ob' => (match ob' with
        | .dct kvs => ret ((dget s kvs).getD z)
        | _ => stk)
      | _ => stk
    | _ => stk
  | _ => stk
def eDPop (o k : ME) : ME := fun σ => bnd (o σ) fun d => match d with
  | .ref n => bnd (look n) fun ob => match ob with
    | .dct _ => bnd (k σ) fun y => match y with
      | .str s => bnd (look n) fun ob' => (match ob' with
        | .dct kvs => (match dget s kvs with
          | some v => bnd (put n (.dct (ddrop s kvs))) fun _ => ret v
          | none => stk)
        | _ => stk)
      | _ => stk
    | _ => stk
  | _ => stk
/-- a[lo:hi] -/
def cutIx (n d : Nat) : Option Int → Nat
  | none => d
  | some v => if v < 0 then (v + (n : Int)).toNat else min v.toNat n
def cutN {α : Type} (xs : List α) (lo hi : Option Int) : List α := (xs.drop (cutIx xs.length 0 lo)).take (cutIx xs.length xs.length hi - cutIx xs.length 0 lo)
def part (e : Option ME) (σ : MSt) : M (Option Int) := match e with
  | none => ret none
  | some g => bnd (g σ) fun v => match v with
    | .int i => ret (some i)
    | _ => stk
def slOf (x : MV) (lo hi : Option Int) : M MV := match x with
  | .ref a => bnd (look a) fun o => match o with
    | .lst xs => new (.lst (cutN xs lo hi))
    | _ => stk
  | .tup xs => if cutIx xs.length 0 lo = 0 ∧ cutIx xs.length xs.length hi = xs.length then stk else ret (.tup (cutN xs lo hi))
  | .str s => if s.length ≤ 100000 then ret (.str (PySem.Txt.slice s lo hi)) else stk
  | _ => stk
def eSl (a : ME) (lo hi : Option ME) : ME := fun σ => bnd (a σ) fun x => bnd (part lo σ) fun l => bnd (part hi σ) fun u => slOf x l u
/-- xs.append(e) as an expression -/
def appendV (x v : MV) : M MV := match x with
  | .ref n => bnd (look n) fun ob => match ob with
    | .lst xs => if xs.length < 100000 then bnd (put n (.lst (xs ++ [v]))) fun _ => ret .non else stk
    | _ => stk
  | _ => stk
def eAppend (o e : ME) : ME := fun σ => bnd (o σ) fun x => match x with
  | .ref n => bnd (look n) fun ob => match ob with
    | .lst _ => bnd (e σ) fun v => appendV x v
    | _ => stk
  | _ => stk
/-! what a loop walks: the items (each a row of values for the targets), and what must stay -/
structure Src where
  items : List (List MV)
  stays : List (Nat × List MV)
def stayIn (h : MH) : List (Nat × List MV) → Bool
  | [] => true
  | (n, xs) :: r => decide (h[n]? = some (.lst xs)) && stayIn h r
def Src.okIn (s : Src) (h : MH) : Bool := stayIn h s.stays
abbrev MI := MSt → M Src
def iList (e : ME) : MI := fun σ => bnd (e σ) fun x => match x with
  | .ref n => bnd (look n) fun o => match o with
    | .lst xs => ret ⟨xs.map fun v => [v], [(n, xs)]⟩
    | _ => stk
  | _ => stk
/-- .. whose items are tuples of k things -/
def rowsOf (k : Nat) : List MV → Option (List (List MV))
  | [] => some []
  | .tup ys :: r => if ys.length = k then (match rowsOf k r with
    | some rs => some (ys :: rs)
    | none => none) else none
  | _ :: _ => none
def iListT (k : Nat) (e : ME) : MI := fun σ => bnd (e σ) fun x => match x with
  | .ref n => bnd (look n) fun o => match o with
    | .lst xs => (match rowsOf k xs with
      | some rs => ret ⟨rs, [(n, xs)]⟩
      | none => stk)
    | _ => stk
  | _ => stk
/-- zip of two lists -/
def zipRows : List MV → List MV → List (List MV)
  | x :: xs, y :: ys => [x, y] :: zipRows xs ys
  | _, _ => []
def iZip (e e' : ME) : MI := fun σ => bnd (e σ) fun x => bnd (e' σ) fun y => match x, y with
  | .ref n, .ref k => bnd (look n) fun o => bnd (look k) fun o' => match o, o' with
    | .lst xs, .lst ys => ret ⟨zipRows xs ys, [(n, xs), (k, ys)]⟩
    | _, _ => stk
  | _, _ => stk
def downFrom (lo : Int) (n : Nat) : List (List MV) := (List.range n).map fun k => [.int (lo - (k : Nat))]
/-- range(a, b, -1) -/
def iRngDn (e e' : ME) : MI := fun σ => bnd (e σ) fun x => bnd (e' σ) fun y => match x, y with
  | .int i, .int j => if -1000000 ≤ i ∧ i < 1000000 ∧ -1000000 ≤ j ∧ j < 1000000 then ret ⟨downFrom i (i - j).toNat, []⟩ else stk
  | _, _ => stk
def upTo (lo : Int) (n : Nat) : List (List MV) := (List.range n).map fun k => [.int (lo + (k : Nat))]
def iRng1 (e : ME) : MI := fun σ => bnd (e σ) fun x => match x with
  | .int j => if -(2 ^ 62) ≤ j ∧ j < 2 ^ 62 then ret ⟨upTo 0 j.toNat, []⟩ else stk
  | _ => stk
def iRng2 (e e' : ME) : MI := fun σ => bnd (e σ) fun x => bnd (e' σ) fun y => match x, y with
  | .int i, .int j => if -(2 ^ 62) ≤ i ∧ i < 2 ^ 62 ∧ -(2 ^ 62) ≤ j ∧ j < 2 ^ 62 then ret ⟨upTo i (j - i).toNat, []⟩ else stk
  | _, _ => stk
def setAll : List Nat → List MV → MSt → MSt
  | i :: is, v :: vs, σ => setAll is vs (σ.set i (some v))
  | _, _, σ => σ
def forItems (s : Src) (is : List Nat) (body : MS) : List (List MV) → MSt → M MF
  | [], σ => fun h => if s.okIn h = true then .ok (.next σ) h else .stuck
  | vs :: r, σ => fun h => if s.okIn h = true then bnd (body (setAll is vs σ)) (fun f => match f with
    | .next σ' => forItems s is body r σ'
    | .cnt σ' => forItems s is body r σ'
    | .brk σ' => ret (.next σ')
    | .ret v => ret (.ret v)) h else .stuck
def sFor (is : List Nat) (src : MI) (body : MS) : MS := fun σ => bnd (src σ) fun s => forItems s is body s.items σ
def whileN (t : ME) (body : MS) : Nat → MSt → M MF
  | 0, _ => stk
  | n + 1, σ => bnd (tst t σ) fun k => if k = true then bnd (body σ) fun f => match f with
      | .next σ' => whileN t body n σ'
      | .cnt σ' => whileN t body n σ'
      | .brk σ' => ret (.next σ')
      | .ret v => ret (.ret v)
    else ret (.next σ)
def sWhile (t : ME) (body : MS) : MS := whileN t body 1000
/-- [elt for targets in src if cond]; the targets stand behind the frame's own slots -/
def compItems (s : Src) (cond : Option ME) (elt : ME) (σ : MSt) : List (List MV) → M (List MV)
  | [] => fun h => if s.okIn h = true then .ok [] h else .stuck
  | vs :: r => fun h => if s.okIn h = true then bnd (match cond with
      | none => ret true
      | some c => tst c (σ ++ vs.map some)) (fun k => if k = true then bnd (elt (σ ++ vs.map some)) fun v => bnd (compItems s cond elt σ r) fun ws => ret (v :: ws) else compItems s cond elt σ r) h else .stuck
def noExc {α : Type} (m : M α) : M α := fun h => match m h with
  | .exc _ _ => .stuck
  | r => r
def eComp (src : MI) (cond : Option ME) (elt : ME) : ME := fun σ => bnd (src σ) fun s => if s.items.length ≤ 100000 then bnd (noExc (compItems s cond elt σ s.items)) fun vs => new (.lst vs) else stk
/-- try: body except C (as slot): suite, from the left -/
structure Hd where
  cs : List Nat
  nm : Option Nat
  body : MS
def unbound (i : Nat) : MF → MF
  | .next σ => .next (σ.set i none)
  | .brk σ => .brk (σ.set i none)
  | .cnt σ => .cnt (σ.set i none)
  | .ret v => .ret v
def handle (c : Nat) (σ : MSt) : List Hd → M MF
  | [] => stk
  | d :: r => if d.cs.contains c = true then (match d.nm with
      | none => noExc (d.body σ)
      | some i => bnd (new (.exn c)) fun e => bnd (noExc (d.body (σ.set i (some e)))) fun f => ret (unbound i f))
    else handle c σ r
/-- al: the classes that are known -/
def sTry (al : List Nat) (body : MS) (hs : List Hd) : MS := fun σ h => match body σ h with
  | .ok f h' => .ok f h'
  | .exc c h' => if al.contains c = true then handle c σ hs h' else .stuck
  | .stuck => .stuck
/-! a def: p parameters, n names -/
def fnOf (p n : Nat) (body : MS) : Fn := fun vs => if vs.length = p then bnd (body (vs.map some ++ List.replicate (n - vs.length) none)) fun f => match f with
  | .next _ => ret .non
  | .ret v => ret v
  | _ => stk
  else stk
end
end L2.Rv

set_option linter.all false
set_option maxRecDepth 100000
namespace L2.Rv
open PySem PySem.Spec PyProof.Rows
/-- what is the same through a whole law: the classes' addresses, the written part, the script -/
structure Gb where
  cl : Nat → Addr
  K : PySem.W.Frag
  sa : Addr
  ns : List Int
variable {G : Gb} {m m' m1 m2 : List Addr} {h h' h1 h2 : MH} {H H' H1 H2 : Hp}
mutual
def VR (G : Gb) (m : List Addr) (H : Hp) : MV → V → Prop
  | .non, v => v = .non
  | .bl b, v => v = .bl b
  | .int i, v => v = .int i
  | .str s, v => v = .str s
  | .ref n, v => ∃ a, m[n]? = some a ∧ v = .ref a
  | .scr ns, v => ns = G.ns ∧ v = .ref G.sa
  | .tup xs, v => ∃ a vs, v = .ref a ∧ a ∉ m ∧ H a = some (.tup vs) ∧ VRl G m H xs vs
  | .any, _ => True
def VRl (G : Gb) (m : List Addr) (H : Hp) : List MV → List V → Prop
  | [], vs => vs = []
  | x :: xs, vs => ∃ y ys, vs = y :: ys ∧ VR G m H x y ∧ VRl G m H xs ys
end
abbrev VRs (G : Gb) (m : List Addr) (H : Hp) : List MV → List V → Prop := Paired (VR G m H)
theorem VRl.to : ∀ {xs : List MV} {vs : List V}, VRl G m H xs vs → VRs G m H xs vs
  | [], vs, r => by cases (show vs = [] from r); exact .nil
  | x :: xs, vs, r => by
    obtain ⟨y, ys, e, q, t⟩ := (show ∃ y ys, vs = y :: ys ∧ VR G m H x y ∧ VRl G m H xs ys from r)
    subst e
    exact .cons q (VRl.to t)
theorem VRl.of : ∀ {xs : List MV} {vs : List V}, VRs G m H xs vs → VRl G m H xs vs
  | _, _, .nil => rfl
  | _, _, .cons q t => ⟨_, _, rfl, q, VRl.of t⟩
def FR (G : Gb) (m : List Addr) (H : Hp) : List (String × MV) → List (Str × V) → Prop := Paired fun p q => q.1 = Str.ofString p.1 ∧ VR G m H p.2 q.2
def DR (G : Gb) (m : List Addr) (H : Hp) : List (Str × MV) → List (Key × V) → Prop := Paired fun p q => q.1 = Sum.inr p.1 ∧ VR G m H p.2 q.2
/-- an exception that was caught, by its class -/
def ExcΦ (a C : Addr) (hp : Heap) : Prop := ∃ o vs, hp.get? a = some o ∧ o.cls = .ref C ∧ o.dict = none ∧ o.data = .fields vs
def OR (G : Gb) (m : List Addr) (H : Hp) (a : Addr) : MO → Prop
  | .lst xs => ∃ vs, VRs G m H xs vs ∧ H a = some (.lst vs)
  | .dct kvs => ∃ ws, DR G m H kvs ws ∧ H a = some (.dK ws)
  | .ins c fs => ∃ dx ws, FR G m H fs ws ∧ H a = some (.ins (G.cl c) dx ws)
  | .exn c => H a = some (.ext (ExcΦ a (G.cl c)))
structure HR (G : Gb) (m : List Addr) (h : MH) (H : Hp) : Prop where
  len : m.length = h.length
  nd : m.Nodup
  ob : ∀ (n : Nat) (a : Addr) (o : MO), m[n]? = some a → h[n]? = some o → OR G m H a o
  scr : (∃ o, H G.sa = some (.frz o (.lst (G.ns.map V.int)))) ∨ ∀ H0 : Hp, SqL G.K H0 G.sa (G.ns.map V.int)
/-- the heap has grown: what is not ours stays -/
structure Ext (m : List Addr) (H : Hp) (m' : List Addr) (H' : Hp) : Prop where
  pre : ∃ e, m' = m ++ e
  fr : ∀ a o, H a = some o → a ∉ m → H' a = some o ∧ a ∉ m'
theorem Ext.refl : Ext m H m H := ⟨⟨[], by simp⟩, fun _ _ e n => ⟨e, n⟩⟩
theorem Ext.trans (x : Ext m H m1 H1) (y : Ext m1 H1 m2 H2) : Ext m H m2 H2 := by
  obtain ⟨e, rfl⟩ := x.pre
  obtain ⟨f, rfl⟩ := y.pre
  exact ⟨⟨e ++ f, by simp⟩, fun a o q n => let ⟨q1, n1⟩ := x.fr a o q n; y.fr a o q1 n1⟩
theorem Ext.get (x : Ext m H m' H') {n : Nat} {a : Addr} (e : m[n]? = some a) : m'[n]? = some a := by
  obtain ⟨f, rfl⟩ := x.pre
  have hn : n < m.length := (List.getElem?_eq_some_iff.mp e).1
  rw [List.getElem?_append_left hn]
  exact e
/-- what values want of a change -/
structure Mn (m : List Addr) (H : Hp) (m' : List Addr) (H' : Hp) : Prop where
  get : ∀ (n : Nat) (a : Addr), m[n]? = some a → m'[n]? = some a
  tup : ∀ a vs, H a = some (.tup vs) → a ∉ m → H' a = some (.tup vs) ∧ a ∉ m'
theorem Ext.mn (x : Ext m H m' H') : Mn m H m' H' := ⟨fun _ _ => x.get, fun a vs e n => x.fr a _ e n⟩
mutual
theorem VR.mono (x : Mn m H m' H') : ∀ {v : MV} {v' : V}, VR G m H v v' → VR G m' H' v v'
  | .ref n, v', r => by
    obtain ⟨a, e, q⟩ := (show ∃ a, m[n]? = some a ∧ v' = .ref a from r)
    exact ⟨a, x.get n a e, q⟩
  | .tup xs, v', r => by
    obtain ⟨a, vs, q, e, z, t⟩ := (show ∃ a vs, v' = .ref a ∧ a ∉ m ∧ H a = some (.tup vs) ∧ VRl G m H xs vs from r)
    obtain ⟨z', e'⟩ := x.tup a vs z e
    exact ⟨a, vs, q, e', z', VRl.mono x t⟩
  | .non, _, r => r
  | .bl _, _, r => r
  | .int _, _, r => r
  | .str _, _, r => r
  | .scr _, _, r => r
  | .any, _, r => trivial
theorem VRl.mono (x : Mn m H m' H') : ∀ {xs : List MV} {vs : List V}, VRl G m H xs vs → VRl G m' H' xs vs
  | [], _, r => r
  | y :: ys, vs, r => by
    obtain ⟨z, zs, e, q, t⟩ := (show ∃ z zs, vs = z :: zs ∧ VR G m H y z ∧ VRl G m H ys zs from r)
    exact ⟨z, zs, e, VR.mono x q, VRl.mono x t⟩
end
theorem Ext.vr {v : MV} {v' : V} (x : Ext m H m' H') (r : VR G m H v v') : VR G m' H' v v' := VR.mono x.mn r
theorem VRs.mono {xs : List MV} {vs : List V} (x : Mn m H m' H') (r : VRs G m H xs vs) : VRs G m' H' xs vs := Paired.imp' (fun _ _ q => VR.mono x q) r
theorem Ext.vrs {xs : List MV} {vs : List V} (x : Ext m H m' H') (r : VRs G m H xs vs) : VRs G m' H' xs vs := VRs.mono x.mn r
theorem OR.mono {a : Addr} {o : MO} (x : Mn m H m' H') (e : H' a = H a) (r : OR G m H a o) : OR G m' H' a o := by
  cases o with
  | lst xs => obtain ⟨vs, q, z⟩ := r; exact ⟨vs, VRs.mono x q, e.trans z⟩
  | dct kvs => obtain ⟨ws, q, z⟩ := r; exact ⟨ws, Paired.imp' (fun _ _ p => ⟨p.1, VR.mono x p.2⟩) q, e.trans z⟩
  | ins c fs => obtain ⟨dx, ws, q, z⟩ := r; exact ⟨dx, ws, Paired.imp' (fun _ _ p => ⟨p.1, VR.mono x p.2⟩) q, e.trans z⟩
  | exn c => exact e.trans r
theorem OR.notup {a : Addr} {o : MO} (r : OR G m H a o) {vs : List V} : H a ≠ some (.tup vs) := fun y => by
  cases o with
  | lst xs => obtain ⟨_, _, z⟩ := r; rw [z] at y; cases y
  | dct kvs => obtain ⟨_, _, z⟩ := r; rw [z] at y; cases y
  | ins c fs => obtain ⟨_, _, _, z⟩ := r; rw [z] at y; cases y
  | exn c => rw [show H a = _ from r] at y; cases y
theorem OR.some {a : Addr} {o : MO} (r : OR G m H a o) : ∃ u, H a = some u := by
  cases o with
  | lst xs => obtain ⟨vs, q, z⟩ := r; exact ⟨_, z⟩
  | dct kvs => obtain ⟨ws, q, z⟩ := r; exact ⟨_, z⟩
  | ins c fs => obtain ⟨dx, ws, q, z⟩ := r; exact ⟨_, z⟩
  | exn c => exact ⟨_, r⟩
theorem HR.get (R : HR G m h H) {n : Nat} {a : Addr} (e : m[n]? = some a) : ∃ o, h[n]? = some o ∧ OR G m H a o := by
  have hn : n < m.length := (List.getElem?_eq_some_iff.mp e).1
  have hn' : n < h.length := by rw [← R.len]; exact hn
  exact ⟨h[n], by simp [hn'], R.ob n a _ e (by simp [hn'])⟩
theorem HR.atN (R : HR G m h H) {n : Nat} {o : MO} (e : h[n]? = some o) : ∃ a, m[n]? = some a ∧ OR G m H a o := by
  have hn : n < h.length := (List.getElem?_eq_some_iff.mp e).1
  have hn' : n < m.length := by rw [R.len]; exact hn
  exact ⟨m[n], by simp [hn'], R.ob n _ o (by simp [hn']) e⟩
theorem HR.mem (R : HR G m h H) {a : Addr} (e : a ∈ m) : ∃ u, H a = some u := by
  obtain ⟨n, hn⟩ := List.mem_iff_getElem?.mp e
  obtain ⟨o, _, q⟩ := R.get hn
  exact OR.some q
theorem HR.fresh (R : HR G m h H) {p : Addr} (e : H p = none) : p ∉ m := fun z => by
  obtain ⟨u, q⟩ := R.mem z
  rw [e] at q; cases q
theorem snoc_get {α : Type} {l : List α} {x : α} {n : Nat} {a : α} (e : l[n]? = some a) : (l ++ [x])[n]? = some a := by
  rw [List.getElem?_append_left (List.getElem?_eq_some_iff.mp e).1]; exact e
theorem snoc_cases {α : Type} {l : List α} {x : α} {n : Nat} {a : α} (e : (l ++ [x])[n]? = some a) : l[n]? = some a ∨ (n = l.length ∧ a = x) := by
  by_cases hn : n < l.length
  · rw [List.getElem?_append_left hn] at e; exact .inl e
  · rw [List.getElem?_append_right (by omega)] at e
    have : n - l.length = 0 := by
      have := (List.getElem?_eq_some_iff.mp e).1
      simp at this; omega
    rw [this] at e
    simp at e
    exact .inr ⟨by omega, e.symm⟩
/-- a new object -/
theorem HR.new (R : HR G m h H) {p : Addr} {o : MO} {u : HO} (e : H p = none) (ro : OR G (m ++ [p]) (upd H p u) p o) : HR G (m ++ [p]) (h ++ [o]) (upd H p u) := by
  have np := R.fresh e
  refine ⟨by simp [R.len], ?_, fun n a ob ea eo => ?_, ?_⟩
  · rw [List.nodup_append]
    exact ⟨R.nd, by simp, fun a ha b hb => by simp at hb; subst hb; intro z; subst z; exact np ha⟩
  · rcases snoc_cases ea with ea | ⟨rfl, rfl⟩
    · have hne : a ≠ p := fun z => np (z ▸ List.mem_of_getElem? ea)
      have eo' : h[n]? = some ob := by
        rcases snoc_cases eo with eo | ⟨q, _⟩
        · exact eo
        · have := (List.getElem?_eq_some_iff.mp ea).1
          rw [R.len] at this; omega
      exact OR.mono ⟨fun _ _ => snoc_get, fun b vs z nb => ⟨by rw [upd_ne (ne_of_none z e)]; exact z, by simp [nb]; exact ne_of_none z e⟩⟩ (upd_ne hne) (R.ob n a ob ea eo')
    · have : ob = o := by
        rcases snoc_cases eo with eo | ⟨_, q⟩
        · have := (List.getElem?_eq_some_iff.mp eo).1
          rw [← R.len] at this; omega
        · exact q
      subst this
      exact ro
  · rcases R.scr with ⟨o', q⟩ | q
    · exact .inl ⟨o', by rw [upd_ne (ne_of_none q e)]; exact q⟩
    · exact .inr q
theorem Ext.new (R : HR G m h H) {p : Addr} {u : HO} (e : H p = none) : Ext m H (m ++ [p]) (upd H p u) :=
  ⟨⟨[p], rfl⟩, fun a o q n => ⟨by rw [upd_ne (ne_of_none q e)]; exact q, by simp [n]; exact ne_of_none q e⟩⟩
theorem nodup_get {α : Type} {l : List α} (nd : l.Nodup) {i j : Nat} {a : α} (e : l[i]? = some a) (f : l[j]? = some a) : i = j := by
  obtain ⟨hi, ei⟩ := List.getElem?_eq_some_iff.mp e
  obtain ⟨hj, ej⟩ := List.getElem?_eq_some_iff.mp f
  have p := List.pairwise_iff_getElem.mp nd
  rcases Nat.lt_trichotomy i j with z | z | z
  · exact absurd (ei.trans ej.symm) (p i j hi hj z)
  · exact z
  · exact absurd (ej.trans ei.symm) (p j i hj hi z)
/-- an object of ours is changed -/
theorem HR.upd (R : HR G m h H) {n : Nat} {a : Addr} {o : MO} {u : HO} (ea : m[n]? = some a) (nz : ∀ o' ys, H a ≠ some (.frz o' ys)) (ro : OR G m (L2.upd H a u) a o) : HR G m (h.set n o) (L2.upd H a u) := by
  refine ⟨by simp [R.len], R.nd, fun k b ob eb eo => ?_, ?_⟩
  · by_cases hk : k = n
    · subst hk
      rw [ea] at eb; cases eb
      rw [List.getElem?_set_self (by have := (List.getElem?_eq_some_iff.mp ea).1; rw [← R.len]; exact this)] at eo
      cases eo
      exact ro
    · rw [List.getElem?_set_ne (Ne.symm hk)] at eo
      have hne : b ≠ a := fun z => by
        subst z
        exact hk (nodup_get R.nd eb ea)
      exact OR.mono ⟨fun _ _ q => q, fun c vs z nc => ⟨by rw [upd_ne (show c ≠ a from fun y => nc (by rw [y]; exact List.mem_of_getElem? ea))]; exact z, nc⟩⟩ (upd_ne hne) (R.ob k b ob eb eo)
  · rcases R.scr with ⟨o', q⟩ | q
    · exact .inl ⟨o', by rw [upd_ne (fun z => nz o' _ (z ▸ q))]; exact q⟩
    · exact .inr q
theorem Ext.upd {n : Nat} {a : Addr} {u : HO} (ea : m[n]? = some a) : Ext m H m (L2.upd H a u) :=
  ⟨⟨[], by simp⟩, fun b o q nb => ⟨by rw [upd_ne (show b ≠ a from fun z => nb (by rw [z]; exact List.mem_of_getElem? ea))]; exact q, nb⟩⟩
/-- an object beside ours -/
theorem Ext.side {q : Addr} {u : HO} (e : H q = none) : Ext m H m (L2.upd H q u) := ⟨⟨[], by simp⟩, fun a o z n => ⟨by rw [upd_ne (ne_of_none z e)]; exact z, n⟩⟩
theorem HR.side {q : Addr} {u : HO} (R : HR G m h H) (e : H q = none) : HR G m h (L2.upd H q u) :=
  ⟨R.len, R.nd, fun n a ob ea eo => OR.mono (Ext.side e).mn (upd_ne (show a ≠ q from fun z => R.fresh e (by rw [← z]; exact List.mem_of_getElem? ea))) (R.ob n a ob ea eo), by
    rcases R.scr with ⟨o', z⟩ | z
    · exact .inl ⟨o', by rw [upd_ne (ne_of_none z e)]; exact z⟩
    · exact .inr z⟩
theorem Mn.sideSet {q : Addr} {u : HO} (nt : ∀ ys, H q ≠ some (.tup ys)) : Mn m H m (L2.upd H q u) := ⟨fun _ _ e => e, fun a vs z n => ⟨by rw [upd_ne (show a ≠ q from fun y => nt vs (by rw [← y]; exact z))]; exact z, n⟩⟩
theorem HR.sideSet {q : Addr} {u : HO} (R : HR G m h H) (nq : q ∉ m) (nt : ∀ ys, H q ≠ some (.tup ys)) (nz : ∀ o' ys, H q ≠ some (.frz o' ys)) : HR G m h (L2.upd H q u) :=
  ⟨R.len, R.nd, fun n a ob ea eo => OR.mono (Mn.sideSet nt) (upd_ne (show a ≠ q from fun z => nq (by rw [← z]; exact List.mem_of_getElem? ea))) (R.ob n a ob ea eo), by
    rcases R.scr with ⟨o', z⟩ | z
    · exact .inl ⟨o', by rw [upd_ne (show G.sa ≠ q from fun y => nz o' _ (by rw [← y]; exact z))]; exact z⟩
    · exact .inr z⟩
/-- the frame's slots: what is known -/
structure SR (G : Gb) (m : List Addr) (H : Hp) (σ : MSt) (σ' : St) : Prop where
  len : σ.length = σ'.length
  sl : ∀ (i : Nat) (v : MV), σ[i]? = some (some v) → ∃ v', σ'[i]? = some (some v') ∧ VR G m H v v'
theorem SR.mono {σ : MSt} {σ' : St} (x : Ext m H m' H') (S : SR G m H σ σ') : SR G m' H' σ σ' := ⟨S.len, fun i v e => let ⟨v', q, r⟩ := S.sl i v e; ⟨v', q, x.vr r⟩⟩
theorem SR.mn {σ : MSt} {σ' : St} (x : Mn m H m' H') (S : SR G m H σ σ') : SR G m' H' σ σ' := ⟨S.len, fun i v e => let ⟨v', q, r⟩ := S.sl i v e; ⟨v', q, VR.mono x r⟩⟩
theorem SR.set {σ : MSt} {σ' : St} (S : SR G m H σ σ') (i : Nat) {v : MV} {v' : V} (r : VR G m H v v') : SR G m H (σ.set i (some v)) (σ'.set i (some v')) := by
  refine ⟨by simp [S.len], fun j w e => ?_⟩
  by_cases hj : i = j
  · subst hj
    have hl : i < σ.length := by
      have := (List.getElem?_eq_some_iff.mp e).1
      simpa using this
    rw [List.getElem?_set_self hl] at e
    cases e
    exact ⟨v', by rw [List.getElem?_set_self (by rw [← S.len]; exact hl)], r⟩
  · rw [List.getElem?_set_ne hj] at e ⊢
    exact S.sl j w e
theorem SR.forget {σ : MSt} {σ' : St} (S : SR G m H σ σ') (i : Nat) (u : Option V) : SR G m H (σ.set i none) (σ'.set i u) := by
  refine ⟨by simp [S.len], fun j w e => ?_⟩
  by_cases hj : i = j
  · subst hj
    have hl : i < σ.length := by
      have := (List.getElem?_eq_some_iff.mp e).1
      simpa using this
    rw [List.getElem?_set_self hl] at e
    cases e
  · rw [List.getElem?_set_ne hj] at e ⊢
    exact S.sl j w e
/-- an exception's own records, as they may stand while it flies through a body -/
def ExcSh (C a : Addr) (ok : Addr → Prop) (hp : Heap) : Prop :=
  ∃ oe vs, hp.get? a = some oe ∧ oe.cls = .ref C ∧ oe.dict = none ∧ oe.data = .fields vs ∧ 1 < vs.size ∧ ok a ∧
    (vs[1]? = some .none ∨ ∃ T oT ts, vs[1]? = some (.ref T) ∧ T ≠ a ∧ hp.get? T = some oT ∧ oT.data = .fields ts ∧ 3 < ts.size ∧ ok T)
/-- a record of our own that may turn: nothing that stood at the entry, no frame, no cell, not pinned -/
structure Fp (X : Cx) (pins : List (Addr × Obj)) (H : Hp) (b : Addr) : Prop where
  un : H b = none
  loc : b ≠ X.env.locals
  fs : b ∉ X.fs
  new : b ∈ X.ex ∨ X.s₀.heap.get? b = none
  ce : ∀ x c, X.env.cells.lookup x = some c → c ≠ b
  pin : ∀ p ∈ X.pn ++ pins, p.1 ≠ b
abbrev Exc (X : Cx) (pins : List (Addr × Obj)) (H : Hp) (C a : Addr) (s : Shared) : Prop := ExcSh C a (Fp X pins H) s.heap
theorem ExcSh.imp {C a : Addr} {p q : Addr → Prop} {hp : Heap} (f : ∀ b, p b → q b) (x : ExcSh C a p hp) : ExcSh C a q hp := by
  obtain ⟨oe, vs, a1, a2, a3, a4, a5, a6, a7⟩ := x
  refine ⟨oe, vs, a1, a2, a3, a4, a5, f _ a6, ?_⟩
  rcases a7 with a7 | ⟨T, oT, ts, b1, b2, b3, b4, b5, b6⟩
  · exact .inl a7
  · exact .inr ⟨T, oT, ts, b1, b2, b3, b4, b5, f _ b6⟩
/-- what is wanted of an exception of the class c with the heap h' -/
def XP (G : Gb) (X : Cx) (E : Value → Shared → Prop) (EX : St → Prop) (m : List Addr) (H : Hp) (c : Nat) (h' : MH) : Prop :=
  ∀ (pins : List (Addr × Obj)) (σ' : St) (m' : List Addr) (H' : Hp) (a : Addr) (s' : Shared), EX σ' → Ext m H m' H' → HR G m' h' H' → Inv X pins σ' H' s' → Exc X pins H' (G.cl c) a s' → E (.ref a) s'
def Post {α : Type} (G : Gb) (X : Cx) (E : Value → Shared → Prop) (EX : St → Prop) (m : List Addr) (H : Hp) (r : Res α) (Q : α → List Addr → MH → Hp → Prop) : Prop :=
  match r with
  | .ok v h' => ∀ m' H', Ext m H m' H' → HR G m' h' H' → Q v m' h' H'
  | .exc c h' => XP G X E EX m H c h'
  | .stuck => False
variable {X : Cx} {E : Value → Shared → Prop} {EX : St → Prop}
theorem Post.ext {α : Type} {r : Res α} {Q : α → List Addr → MH → Hp → Prop} (x : Ext m H m1 H1) (P : Post G X E EX m H r Q) : Post G X E EX m1 H1 r Q := by
  cases r with
  | ok v h' => exact fun m' H' y R => P m' H' (x.trans y) R
  | exc c h' => exact fun pins σ' m' H' a s' ex y R I q => P pins σ' m' H' a s' ex (x.trans y) R I q
  | stuck => exact P
theorem Post.bind {α β : Type} {a : M α} {k : α → M β} {Q : β → List Addr → MH → Hp → Prop} (P : Post G X E EX m H (bnd a k h) Q) : Post G X E EX m H (a h) fun v m1 h1 H1 => Post G X E EX m1 H1 (k v h1) Q := by
  unfold bnd at P
  cases e : a h with
  | ok v h1 =>
    rw [e] at P
    exact fun m' H' y _ => P.ext y
  | exc c h1 => rw [e] at P; exact P
  | stuck => rw [e] at P; exact P
theorem Post.mono {α : Type} {r : Res α} {Q Q' : α → List Addr → MH → Hp → Prop} (P : Post G X E EX m H r Q) (f : ∀ v m' h' H', Ext m H m' H' → HR G m' h' H' → Q v m' h' H' → Q' v m' h' H') : Post G X E EX m H r Q' := by
  cases r with
  | ok v h' => exact fun m' H' y R => f _ _ _ _ y R (P m' H' y R)
  | exc c h' => exact P
  | stuck => exact P
/-- now: what stands at once -/
theorem Post.here {α : Type} {v : α} {Q : α → List Addr → MH → Hp → Prop} (R : HR G m h H) (P : Post G X E EX m H (.ok v h) Q) : Q v m h H := P m H .refl R
/-! ### the readings -/
def TGe (G : Gb) (X : Cx) (E : Value → Shared → Prop) (EX : St → Prop) (g : ME) : TE := fun σ' H Q =>
  ∃ m h σ, EX σ' ∧ SR G m H σ σ' ∧ HR G m h H ∧ Post G X E EX m H (g σ h) fun v m' _ H' => ∀ v', VR G m' H' v v' → Q v' H'
def TGt (G : Gb) (X : Cx) (E : Value → Shared → Prop) (EX : St → Prop) (g : ME) : TT := fun σ' H Q =>
  ∃ m h σ, EX σ' ∧ SR G m H σ σ' ∧ HR G m h H ∧ Post G X E EX m H (tst g σ h) fun b _ _ H' => Q b H'
def TGa (G : Gb) (X : Cx) (E : Value → Shared → Prop) (EX : St → Prop) (g : MA) : TA := fun σ' H Q =>
  ∃ m h σ, EX σ' ∧ SR G m H σ σ' ∧ HR G m h H ∧ Post G X E EX m H (g σ h) fun vs m' _ H' => ∀ vs', VRs G m' H' vs vs' → Q vs' H'
def TGs (G : Gb) (X : Cx) (E : Value → Shared → Prop) (EX : St → Prop) (g : MS) : TS := fun D σ' H =>
  ∃ m h σ, EX σ' ∧ SR G m H σ σ' ∧ HR G m h H ∧ Post G X E EX m H (g σ h) fun f m' _ H' => match f with
    | .next σ1 => ∀ σ1', SR G m' H' σ1 σ1' → D.nx σ1' H'
    | .brk σ1 => ∀ σ1', SR G m' H' σ1 σ1' → D.bk σ1' H'
    | .cnt σ1 => ∀ σ1', SR G m' H' σ1 σ1' → D.ct σ1' H'
    | .ret v => ∀ v', VR G m' H' v v' → D.rt v' H'
end L2.Rv

set_option linter.all false
set_option maxRecDepth 100000
namespace L2.Rv
open PySem PySem.Spec PyProof.Rows
variable {G : Gb} {m m' m1 m2 : List Addr} {h h' h1 h2 : MH} {H H' H1 H2 : Hp} {X : Cx} {E : Value → Shared → Prop} {EX : St → Prop} {σ : MSt} {σ' : St}
/-! ### the judgements -/
def GE (G : Gb) (X : Cx) (e : Expr) (g : ME) : Prop := ∀ E EX, PE (X.wish E) e (TGe G X E EX g)
def GT (G : Gb) (X : Cx) (e : Expr) (g : ME) : Prop := ∀ E EX, PT (X.wish E) e (TGt G X E EX g)
def GW (G : Gb) (X : Cx) (e : Expr) (g : ME) : Prop := ∀ E EX, PW (X.wish E) e (TGt G X E EX g)
def GA (G : Gb) (X : Cx) (es : List Expr) (g : MA) : Prop := ∀ E EX, PA (X.wish E) es (TGa G X E EX g)
def GS (G : Gb) (EX : St → Prop) (X : Cx) (st : Stmt) (g : MS) : Prop := ∀ E, PassesOwn (model X.prog X.w) X.A X.env E → PS (X.wish E) st (TGs G X E EX g)
def GSs (G : Gb) (EX : St → Prop) (X : Cx) (st : List Stmt) (g : MS) : Prop := ∀ E, PassesOwn (model X.prog X.w) X.A X.env E → PSs (X.wish E) st (TGs G X E EX g)
abbrev ET : St → Prop := fun _ => True
theorem PE_imp {e : Expr} {t t' : TE} (p : PE X e t) (f : ∀ σ H Q, t' σ H Q → t σ H Q) : PE X e t' := fun pins s σ H Q I hw => p pins s σ H Q I (f σ H Q hw)
theorem PT_imp {e : Expr} {t t' : TT} (p : PT X e t) (f : ∀ σ H Q, t' σ H Q → t σ H Q) : PT X e t' := fun pins s σ H Q I hw => p pins s σ H Q I (f σ H Q hw)
theorem PW_imp {e : Expr} {t t' : TT} (p : PW X e t) (f : ∀ σ H Q, t' σ H Q → t σ H Q) : PW X e t' := fun wh pins s σ H Q I hw => p wh pins s σ H Q I (f σ H Q hw)
theorem PA_imp {e : List Expr} {t t' : TA} (p : PA X e t) (f : ∀ σ H Q, t' σ H Q → t σ H Q) : PA X e t' := fun pos pins s σ H Q I hw => p pos pins s σ H Q I (f σ H Q hw)
theorem PS_imp {e : Stmt} {t t' : TS} (p : PS X e t) (f : ∀ D σ H, t' D σ H → t D σ H) : PS X e t' := fun pins s σ H D I hw => p pins s σ H D I (f D σ H hw)
theorem PSs_imp {e : List Stmt} {t t' : TS} (p : PSs X e t) (f : ∀ D σ H, t' D σ H → t D σ H) : PSs X e t' := fun pins s σ H D I hw => p pins s σ H D I (f D σ H hw)
/-! ### parts -/
theorem sub {ga : ME} {β : Type} {k : MV → M β} {Q : β → List Addr → MH → Hp → Prop} (ex : EX σ') (S : SR G m H σ σ') (R : HR G m h H) (P : Post G X E EX m H (bnd (ga σ) k h) Q) {Rr : V → Hp → Prop}
    (hk : ∀ v m1 h1 H1 v', Ext m H m1 H1 → HR G m1 h1 H1 → VR G m1 H1 v v' → Post G X E EX m1 H1 (k v h1) Q → Rr v' H1) : TGe G X E EX ga σ' H Rr :=
  ⟨m, h, σ, ex, S, R, P.bind.mono fun v m1 h1 H1 x R1 P1 v' r => hk v m1 h1 H1 v' x R1 r P1⟩
theorem subA {ga : MA} {β : Type} {k : List MV → M β} {Q : β → List Addr → MH → Hp → Prop} (ex : EX σ') (S : SR G m H σ σ') (R : HR G m h H) (P : Post G X E EX m H (bnd (ga σ) k h) Q) {Rr : List V → Hp → Prop}
    (hk : ∀ v m1 h1 H1 v', Ext m H m1 H1 → HR G m1 h1 H1 → VRs G m1 H1 v v' → Post G X E EX m1 H1 (k v h1) Q → Rr v' H1) : TGa G X E EX ga σ' H Rr :=
  ⟨m, h, σ, ex, S, R, P.bind.mono fun v m1 h1 H1 x R1 P1 v' r => hk v m1 h1 H1 v' x R1 r P1⟩
theorem subB {ga : ME} {β : Type} {k : Bool → M β} {Q : β → List Addr → MH → Hp → Prop} (ex : EX σ') (S : SR G m H σ σ') (R : HR G m h H) (P : Post G X E EX m H (bnd (tst ga σ) k h) Q) {Rr : Bool → Hp → Prop}
    (hk : ∀ b m1 h1 H1, Ext m H m1 H1 → HR G m1 h1 H1 → Post G X E EX m1 H1 (k b h1) Q → Rr b H1) : TGe G X E EX ga σ' H fun x H1 => ∃ c, x = .bl c ∧ Rr c H1 := by
  refine ⟨m, h, σ, ex, S, R, (Post.bind (a := ga σ) (k := asB) P.bind).mono fun v m1 h1 H1 x R1 P1 v' r => ?_⟩
  cases v with
  | bl b =>
    cases (show v' = V.bl b from r)
    exact ⟨b, rfl, hk b m1 h1 H1 x R1 (Post.here R1 P1)⟩
  | _ => exact P1.elim
theorem subT {ga : ME} {β : Type} {k : Bool → M β} {Q : β → List Addr → MH → Hp → Prop} (ex : EX σ') (S : SR G m H σ σ') (R : HR G m h H) (P : Post G X E EX m H (bnd (tst ga σ) k h) Q) {Rr : Bool → Hp → Prop}
    (hk : ∀ b m1 h1 H1, Ext m H m1 H1 → HR G m1 h1 H1 → Post G X E EX m1 H1 (k b h1) Q → Rr b H1) : TGt G X E EX ga σ' H Rr :=
  ⟨m, h, σ, ex, S, R, P.bind.mono fun b m1 h1 H1 x R1 P1 => hk b m1 h1 H1 x R1 P1⟩
/-- a test's value is read -/
theorem tst_of {ga : ME} {Rr : Bool → Hp → Prop} (t : TGt G X E EX ga σ' H Rr) : TGe G X E EX ga σ' H fun x H1 => ∃ c, x = .bl c ∧ Rr c H1 := by
  obtain ⟨m, h, σ, ex, S, R, P⟩ := t
  refine ⟨m, h, σ, ex, S, R, (Post.bind (a := ga σ) (k := asB) P).mono fun v m1 h1 H1 x R1 P1 v' r => ?_⟩
  cases v with
  | bl b =>
    cases (show v' = V.bl b from r)
    exact ⟨b, rfl, Post.here R1 P1⟩
  | _ => exact P1.elim
/-! ### names, constants, operations -/
theorem ge_var (i : Nat) {x : Str} {pos : Pos} (hN : X.N[i]? = some x := by rfl) (hv : Vis X.env.scope x := by first | exact Or.inl rfl | exact Or.inr (Or.inl rfl) | exact Or.inr (Or.inr rfl)) (hd : (x == ("__debug__" : Str)) = false := by decide)
    (hcd : (x == ("__classdict__" : Str)) = false := by decide) : GE G X (.Name x pos) (eVar i) := fun E EX => PE_imp (pe_var (X := X.wish E) hN hv hd hcd) fun σ' H Q ⟨m, h, σ, ex, S, R, P⟩ => by
  unfold eVar at P
  cases e : σ[i]? with
  | none => simp only [e] at P; exact P.elim
  | some u => cases u with
    | none => simp only [e] at P; exact P.elim
    | some v =>
      simp only [e] at P
      obtain ⟨v', q, r⟩ := S.sl i v e
      exact ⟨v', q, Post.here R P v' r⟩
theorem ge_c {e : Expr} {v : MV} {v' : V} (p : ∀ E, PE (X.wish E) e (tC v')) (r : ∀ m H, VR G m H v v') : GE G X e (eC v) := fun E EX => PE_imp (p E) fun σ' H Q ⟨m, h, σ, ex, S, R, P⟩ => Post.here R P v' (r m H)
theorem ge_int {i j pos} : GE G X (.Constant (.int i) j pos) (eC (.int i)) := ge_c (fun _ => pe_int) fun _ _ => rfl
theorem ge_bl {i j pos} : GE G X (.Constant (.bool i) j pos) (eC (.bl i)) := ge_c (fun _ => pe_bl) fun _ _ => rfl
theorem ge_non {j pos} : GE G X (.Constant .none j pos) (eC .non) := ge_c (fun _ => pe_non) fun _ _ => rfl
theorem ge_str {x j pos} : GE G X (.Constant (.str x) j pos) (eC (.str x)) := ge_c (fun _ => pe_str) fun _ _ => rfl
/-- a module's int -/
theorem ge_gint {x : Str} {i : Int} {u : Value} {pos : Pos} (hg : Gl X x) (hm : X.mg x = some u) (r : RelV (.int i) u) (hd : (x == ("__debug__" : Str)) = false := by decide) : GE G X (.Name x pos) (eC (.int i)) :=
  ge_c (fun E => pe_glob (X := X.wish E) hg hm r hd) fun _ _ => rfl
def VO (G : Gb) (f : Op2) (r : R2) : Prop := ∀ (X : Cx) (E : Value → Shared → Prop) (EX : St → Prop) (m : List Addr) (h : MH) (H : Hp) (x y : MV) (x' y' : V) (Q : VK), HR G m h H → VR G m H x x' → VR G m H y y' →
  Post G X E EX m H (f x y h) (fun v m' _ H' => ∀ v', VR G m' H' v v' → Q v' H') → r x' y' H Q
theorem VO.or1 {f : Op2} {r r' : R2} (v : VO G f r) : VO G f (fun x y H Q => r x y H Q ∨ r' x y H Q) := fun X E EX m h H x y x' y' Q R a b P => .inl (v X E EX m h H x y x' y' Q R a b P)
section
variable {a b : Expr} {ga gb : ME} {pos : Pos} {f : Op2} {r : R2}
theorem opG {ta : TE → TE → TE} (vo : VO G f r) {Q : VK} (t : TGe G X E EX (eBin f ga gb) σ' H Q) : tOp r (TGe G X E EX ga) (TGe G X E EX gb) σ' H Q := by
  obtain ⟨m, h, σ, ex, S, R, P⟩ := t
  exact sub ex S R P fun v m1 h1 H1 v' x1 R1 r1 P1 => sub ex (S.mono x1) R1 P1 fun w m2 h2 H2 w' x2 R2 r2 P2 => vo _ _ _ _ _ _ _ _ _ _ _ R2 (x2.vr r1) r2 P2
theorem ge_bin {op : Operator} (ho : ∀ E, OpR (X.wish E) (binaryOp op) r) (vo : VO G f r) (ha : GE G X a ga) (hb : GE G X b gb) : GE G X (.BinOp a op b pos) (eBin f ga gb) := fun E EX =>
  PE_imp (pe_op (ho E) (ha E EX) (hb E EX)) fun _ _ _ t => opG (ta := fun a _ => a) vo t
theorem ge_cmp {op : CmpOp} (ho : ∀ E, OpR (X.wish E) (compareOp op) r) (vo : VO G f r) (ha : GE G X a ga) (hb : GE G X b gb) (hm : behindInMarks op b = false) : GE G X (.Compare a [op] [b] pos) (eBin f ga gb) := fun E EX =>
  PE_imp (pe_cmpR (ho E) (ha E EX) (hb E EX) hm) fun _ _ _ t => opG (ta := fun a _ => a) vo t
theorem gt_cmp {op : CmpOp} (ho : ∀ E, OpR (X.wish E) (compareOp op) r) (vo : VO G f r) (ha : GE G X a ga) (hb : GE G X b gb) (hm : behindInMarks op b = false) : GT G X (.Compare a [op] [b] pos) (eBin f ga gb) := fun E EX =>
  PT_imp (pt_cmpR (ho E) (ha E EX) (hb E EX) hm) fun _ _ _ t => opG (ta := fun a _ => a) vo (tst_of t)
end
theorem VR.non_iff {v : MV} {v' : V} (na : v ≠ .any) (r : VR G m H v v') : decide (v' = .non) = isNon v := by
  cases v with
  | ref n => obtain ⟨a, _, q⟩ := r; subst q; simp [isNon]
  | scr n => obtain ⟨_, q⟩ := r; subst q; simp [isNon]
  | tup n => obtain ⟨a, vs, q, _⟩ := r; subst q; simp [isNon]
  | non => cases (show v' = V.non from r); simp [isNon]
  | bl b => cases (show v' = V.bl b from r); simp [isNon]
  | int b => cases (show v' = V.int b from r); simp [isNon]
  | str b => cases (show v' = V.str b from r); simp [isNon]
  | any => exact absurd rfl na
section
variable {a : Expr} {ga : ME} {pos pos' : Pos} {j : Nat}
theorem isG {Q : VK} (t : TGe G X E EX (eUn oIsN ga) σ' H Q) : tOp (fun x y H Q => y = .non ∧ Q (.bl (decide (x = .non))) H) (TGe G X E EX ga) (tC .non) σ' H Q := by
  obtain ⟨m, h, σ, ex, S, R, P⟩ := t
  exact sub ex S R P fun v m1 h1 H1 v' x1 R1 r1 P1 => ⟨rfl, by
    by_cases na : v = .any
    · subst na; exact P1.elim
    · rw [r1.non_iff na]; cases v <;> first | exact Post.here R1 P1 _ rfl | exact absurd rfl na⟩
theorem notG {Q : VK} (t : TGe G X E EX (eUn oNotN ga) σ' H Q) : tOp (fun x y H Q => y = .non ∧ Q (.bl (!decide (x = .non))) H) (TGe G X E EX ga) (tC .non) σ' H Q := by
  obtain ⟨m, h, σ, ex, S, R, P⟩ := t
  exact sub ex S R P fun v m1 h1 H1 v' x1 R1 r1 P1 => ⟨rfl, by
    by_cases na : v = .any
    · subst na; exact P1.elim
    · rw [r1.non_iff na]; cases v <;> first | exact Post.here R1 P1 _ rfl | exact absurd rfl na⟩
theorem ge_isN (ha : GE G X a ga) : GE G X (.Compare a [.Is] [.Constant .none j pos'] pos) (eUn oIsN ga) := fun E EX => PE_imp (pe_cmpR op_isN (ha E EX) pe_non (nomark _)) fun _ _ _ t => isG t
theorem ge_notN (ha : GE G X a ga) : GE G X (.Compare a [.IsNot] [.Constant .none j pos'] pos) (eUn oNotN ga) := fun E EX => PE_imp (pe_cmpR op_notN (ha E EX) pe_non (nomark _)) fun _ _ _ t => notG t
theorem gt_isN (ha : GE G X a ga) : GT G X (.Compare a [.Is] [.Constant .none j pos'] pos) (eUn oIsN ga) := fun E EX => PT_imp (pt_cmpR op_isN (ha E EX) pe_non (nomark _)) fun _ _ _ t => isG (tst_of t)
theorem gt_notN (ha : GE G X a ga) : GT G X (.Compare a [.IsNot] [.Constant .none j pos'] pos) (eUn oNotN ga) := fun E EX => PT_imp (pt_cmpR op_notN (ha E EX) pe_non (nomark _)) fun _ _ _ t => notG (tst_of t)
theorem ge_neg (ha : GE G X a ga) : GE G X (.UnaryOp .USub a pos) (eUn oNeg ga) := fun E EX => PE_imp (pe_un un_neg (ha E EX)) fun σ' H Q ⟨m, h, σ, ex, S, R, P⟩ =>
  sub ex S R P fun v m1 h1 H1 v' x1 R1 r1 P1 => by
    cases v with
    | int i => cases (show v' = V.int i from r1); exact ⟨i, rfl, Post.here R1 P1 _ rfl⟩
    | _ => exact P1.elim
end
/-! ### tests -/
section
variable {a b c : Expr} {ga gb gc : ME} {pos : Pos} {rest : List Expr}
theorem gt_val (ha : GE G X a ga) (he : ∀ whole, isTrue a X.env whole = (do let v ← whole; standAt a.pos; holding [v] (truthy v)) := by intro _; rfl) : GT G X a ga := fun E EX =>
  PT_imp (pt_val (X := X.wish E) (ha E EX) he) fun σ' H Q t => tst_of t
theorem GW.gt (h : GW G X a ga) : GT G X a ga := fun E EX => (h E EX).pt
theorem gw_one (op : BoolOp) (ha : GT G X a ga) : GW G X (.BoolOp op [a] pos) ga := fun E EX => by
  cases op with
  | And => exact pw_and1 (ha E EX)
  | Or => exact pw_or1 (ha E EX)
theorem bnd_bnd {α β γ : Type} (a : M α) (f : α → M β) (g : β → M γ) : bnd (bnd a f) g = bnd a fun x => bnd (f x) g := by
  funext h
  unfold bnd
  cases a h <;> rfl
theorem tst_eAnd : tst (eAnd ga gb) σ = bnd (tst ga σ) fun c => if c = true then tst gb σ else ret false := by
  show bnd (bnd (tst ga σ) _) asB = _
  rw [bnd_bnd]
  congr 1
  funext c
  cases c <;> rfl
theorem tst_eOr : tst (eOr ga gb) σ = bnd (tst ga σ) fun c => if c = true then ret true else tst gb σ := by
  show bnd (bnd (tst ga σ) _) asB = _
  rw [bnd_bnd]
  congr 1
  funext c
  cases c <;> rfl
theorem tst_eNot : tst (eNot ga) σ = bnd (tst ga σ) fun c => ret (!c) := by
  show bnd (bnd (tst ga σ) _) asB = _
  rw [bnd_bnd]
  rfl
theorem gw_and (ha : GT G X a ga) (hb : GW G X (.BoolOp .And (b :: rest) pos) gb) : GW G X (.BoolOp .And (a :: b :: rest) pos) (eAnd ga gb) := fun E EX =>
  PW_imp (pw_and (ha E EX) (hb E EX)) fun σ' H Q ⟨m, h, σ, ex, S, R, P⟩ => by
    rw [tst_eAnd] at P
    refine subT ex S R P fun k m1 h1 H1 x1 R1 P1 => ?_
    cases k with
    | true => exact ⟨m1, h1, σ, ex, S.mono x1, R1, P1⟩
    | false => exact Post.here R1 P1
theorem gw_or (ha : GT G X a ga) (hb : GW G X (.BoolOp .Or (b :: rest) pos) gb) : GW G X (.BoolOp .Or (a :: b :: rest) pos) (eOr ga gb) := fun E EX =>
  PW_imp (pw_or (ha E EX) (hb E EX)) fun σ' H Q ⟨m, h, σ, ex, S, R, P⟩ => by
    rw [tst_eOr] at P
    refine subT ex S R P fun k m1 h1 H1 x1 R1 P1 => ?_
    cases k with
    | false => exact ⟨m1, h1, σ, ex, S.mono x1, R1, P1⟩
    | true => exact Post.here R1 P1
theorem gt_not (ha : GT G X a ga) : GT G X (.UnaryOp .Not a pos) (eNot ga) := fun E EX =>
  PT_imp (pt_not (ha E EX)) fun σ' H Q ⟨m, h, σ, ex, S, R, P⟩ => by
    rw [tst_eNot] at P
    exact subT ex S R P fun k m1 h1 H1 x1 R1 P1 => Post.here R1 P1
theorem ge_one {op : BoolOp} (ha : GE G X a ga) : GE G X (.BoolOp op [a] pos) ga := fun E EX => pe_one (ha E EX)
theorem ge_and (ha : GE G X a ga) (hb : GE G X (.BoolOp .And (b :: rest) pos) gb) : GE G X (.BoolOp .And (a :: b :: rest) pos) (eAnd ga gb) := fun E EX =>
  PE_imp (pe_and (ha E EX) (hb E EX)) fun σ' H Q ⟨m, h, σ, ex, S, R, P⟩ => subB ex S R P fun k m1 h1 H1 x1 R1 P1 => by
    cases k with
    | true => exact ⟨m1, h1, σ, ex, S.mono x1, R1, P1⟩
    | false => exact Post.here R1 P1 _ rfl
theorem ge_or (ha : GE G X a ga) (hb : GE G X (.BoolOp .Or (b :: rest) pos) gb) : GE G X (.BoolOp .Or (a :: b :: rest) pos) (eOr ga gb) := fun E EX =>
  PE_imp (pe_or (ha E EX) (hb E EX)) fun σ' H Q ⟨m, h, σ, ex, S, R, P⟩ => subB ex S R P fun k m1 h1 H1 x1 R1 P1 => by
    cases k with
    | false => exact ⟨m1, h1, σ, ex, S.mono x1, R1, P1⟩
    | true => exact Post.here R1 P1 _ rfl
theorem ge_not (ha : GE G X a ga) : GE G X (.UnaryOp .Not a pos) (eNot ga) := fun E EX =>
  PE_imp (pe_not (ha E EX)) fun σ' H Q ⟨m, h, σ, ex, S, R, P⟩ => subB ex S R P fun k m1 h1 H1 x1 R1 P1 => Post.here R1 P1 _ rfl
theorem ge_if (hc : GT G X c gc) (ha : GE G X a ga) (hb : GE G X b gb) : GE G X (.IfExp c a b pos) (eIf gc ga gb) := fun E EX =>
  PE_imp (pe_ifExp (hc E EX) (ha E EX) (hb E EX)) fun σ' H Q ⟨m, h, σ, ex, S, R, P⟩ => subT ex S R P fun k m1 h1 H1 x1 R1 P1 => by
    cases k with
    | true => exact ⟨m1, h1, σ, ex, S.mono x1, R1, P1⟩
    | false => exact ⟨m1, h1, σ, ex, S.mono x1, R1, P1⟩
end
/-! ### rows of arguments, displays -/
section
variable {e : Expr} {es : List Expr} {ge : ME} {ga : MA} {pos : Pos}
theorem ga_nil : GA G X [] aNil := fun E EX => PA_imp pa_nil fun σ' H Q ⟨m, h, σ, ex, S, R, P⟩ => Post.here R P _ .nil
theorem ga_cons (he : GE G X e ge) (hr : GA G X es ga) (hs : starEach (e :: es) X.env = (false, eval e X.env) :: starEach es X.env := by rfl) : GA G X (e :: es) (aCons ge ga) := fun E EX =>
  PA_imp (pa_cons (X := X.wish E) (he E EX) (hr E EX) hs) fun σ' H Q ⟨m, h, σ, ex, S, R, P⟩ => sub ex S R P fun v m1 h1 H1 v' x1 R1 r1 P1 => subA ex (S.mono x1) R1 P1 fun w m2 h2 H2 w' x2 R2 r2 P2 => Post.here R2 P2 _ (.cons (x2.vr r1) r2)
theorem small {n : Nat} (q : n ≤ 1000) : n ≤ sizeLine := Nat.le_of_lt (small1000 q)
theorem big {n : Nat} (q : n ≤ 100000) : n ≤ sizeLine := Nat.le_trans q (by decide)
/-- a new list, a new tuple -/
theorem new_lst {xs : List MV} {vs : List V} {Q : VK} (R : HR G m h H) (r : VRs G m H xs vs) (P : Post G X E EX m H (new (.lst xs) h) fun v m' _ H' => ∀ v', VR G m' H' v v' → Q v' H') {p : Addr} (hp : H p = none) : Q (.ref p) (upd H p (.lst vs)) := by
  have x := Ext.new (u := .lst vs) R hp
  refine P (m ++ [p]) (upd H p (.lst vs)) x (R.new hp ⟨vs, x.vrs r, upd_same⟩) (.ref p) ⟨p, ?_, rfl⟩
  rw [← R.len]; simp
theorem new_tup {xs : List MV} {vs : List V} {Q : VK} (R : HR G m h H) (r : VRs G m H xs vs) (P : Post G X E EX m H (.ok (.tup xs) h) fun v m' _ H' => ∀ v', VR G m' H' v v' → Q v' H') {p : Addr} (hp : H p = none) : Q (.ref p) (upd H p (.tup vs)) := by
  have x : Ext m H m (upd H p (.tup vs)) := Ext.side hp
  exact P m (upd H p (.tup vs)) x (R.side hp) (.ref p) ⟨p, vs, rfl, R.fresh hp, upd_same, VRl.of (x.vrs r)⟩
theorem ge_lst (ha : GA G X es ga) : GE G X (.List es pos) (eLst ga) := fun E EX =>
  PE_imp (pe_lst (ha E EX)) fun σ' H Q ⟨m, h, σ, ex, S, R, P⟩ => subA ex S R P fun xs m1 h1 H1 vs x1 R1 r1 P1 => by
    split at P1
    · rename_i hz
      exact ⟨by rw [← Paired.length r1]; exact small hz, fun p hp => new_lst R1 r1 P1 hp⟩
    · exact P1.elim
theorem ge_tup {k} (ha : GA G X es ga) : GE G X (.Tuple es k pos) (eTup ga) := fun E EX =>
  PE_imp (pe_tup (ha E EX)) fun σ' H Q ⟨m, h, σ, ex, S, R, P⟩ => subA ex S R P fun xs m1 h1 H1 vs x1 R1 r1 P1 => by
    split at P1
    · rename_i hz
      exact ⟨by rw [← Paired.length r1]; exact small hz, fun p hp => new_tup R1 r1 P1 hp⟩
    · exact P1.elim
end
end L2.Rv

set_option linter.all false
set_option maxRecDepth 100000
namespace L2.Rv
open PySem PySem.Spec PyProof.Rows
variable {G : Gb} {m m' m1 m2 : List Addr} {h h' h1 h2 : MH} {H H' H1 H2 : Hp} {X : Cx} {E : Value → Shared → Prop} {EX : St → Prop} {σ : MSt} {σ' : St}
theorem pairGet {α β : Type} {R : α → β → Prop} : ∀ {xs : List α} {ys : List β} {i : Nat} {x : α}, Paired R xs ys → xs[i]? = some x → ∃ y, ys[i]? = some y ∧ R x y
  | _, _, _, _, .nil, e => by simp at e
  | _, _, 0, _, .cons r _, e => by simp at e; subst e; exact ⟨_, rfl, r⟩
  | _, _, i + 1, x, .cons _ t, e => by
    obtain ⟨u, h1, h2⟩ := pairGet (i := i) (x := x) t (by simpa using e)
    exact ⟨u, by simpa using h1, h2⟩
theorem pairApp {α β : Type} {R : α → β → Prop} : ∀ {xs zs : List α} {ys ws : List β}, Paired R xs ys → Paired R zs ws → Paired R (xs ++ zs) (ys ++ ws)
  | _, _, _, _, .nil, s => s
  | _, _, _, _, .cons r t, s => .cons r (pairApp t s)
theorem pairSet {α β : Type} {R : α → β → Prop} {x : α} {y : β} (r : R x y) : ∀ {xs : List α} {ys : List β} (i : Nat), Paired R xs ys → Paired R (xs.set i x) (ys.set i y)
  | _, _, _, .nil => .nil
  | _, _, 0, .cons _ t => .cons r t
  | _, _, i + 1, .cons q t => .cons q (pairSet r i t)
theorem look_post {β : Type} {n : Nat} {a : Addr} {k : MO → M β} {Q : β → List Addr → MH → Hp → Prop} (R : HR G m h H) (e : m[n]? = some a) (P : Post G X E EX m H (bnd (look n) k h) Q) :
    ∃ o, h[n]? = some o ∧ OR G m H a o ∧ Post G X E EX m H (k o h) Q := by
  obtain ⟨o, e1, q⟩ := R.get e
  refine ⟨o, e1, q, ?_⟩
  simpa only [bnd, look, e1] using P
theorem vo_int {f : Op2} {C : Int → Int → Prop} {g : Int → Int → V} {gm : Int → Int → MV} (hf : ∀ i j h (Q : MV → List Addr → MH → Hp → Prop) X E EX m H, HR G m h H → Post G X E EX m H (f (.int i) (.int j) h) Q → C i j ∧ Q (gm i j) m h H) (hg : ∀ m H i j, VR G m H (gm i j) (g i j))
    (hn : ∀ x y h, (∀ i j, ¬ (x = .int i ∧ y = .int j)) → f x y h = .stuck) : VO G f (rI C g) := by
  intro X E EX m h H x y x' y' Q R rx ry P
  by_cases e : ∃ i j, x = .int i ∧ y = .int j
  · obtain ⟨i, j, rfl, rfl⟩ := e
    obtain ⟨c, q⟩ := hf i j h _ X E EX m H R P
    exact ⟨i, j, rx, ry, c, q _ (hg m H i j)⟩
  · rw [hn x y h fun i j z => e ⟨i, j, z⟩] at P
    exact P.elim
theorem vo_int0 {f : Op2} {g : Int → Int → V} {gm : Int → Int → MV} (hf : ∀ i j h, f (.int i) (.int j) h = .ok (gm i j) h) (hg : ∀ m H i j, VR G m H (gm i j) (g i j))
    (hn : ∀ x y h, (∀ i j, ¬ (x = .int i ∧ y = .int j)) → f x y h = .stuck) : VO G f (rI0 g) := by
  intro X E EX m h H x y x' y' Q R rx ry P
  by_cases e : ∃ i j, x = .int i ∧ y = .int j
  · obtain ⟨i, j, rfl, rfl⟩ := e
    rw [hf] at P
    exact ⟨i, j, rx, ry, Post.here R P _ (hg m H i j)⟩
  · rw [hn x y h fun i j z => e ⟨i, j, z⟩] at P
    exact P.elim
theorem vo_sub : VO G oSub (rI0 fun i j => .int (i - j)) := vo_int0 (gm := fun i j => .int (i - j)) (fun _ _ _ => rfl) (fun _ _ _ _ => rfl) fun x y h n => by
  cases x <;> cases y <;> first | rfl | exact absurd ⟨rfl, rfl⟩ (n _ _)
theorem vo_lt : VO G oLt (rI0 fun i j => .bl (decide (i < j))) := vo_int0 (gm := fun i j => .bl (decide (i < j))) (fun _ _ _ => rfl) (fun _ _ _ _ => rfl) fun x y h n => by
  cases x <;> cases y <;> first | rfl | exact absurd ⟨rfl, rfl⟩ (n _ _)
theorem vo_le : VO G oLe (rI0 fun i j => .bl (decide (i ≤ j))) := vo_int0 (gm := fun i j => .bl (decide (i ≤ j))) (fun _ _ _ => rfl) (fun _ _ _ _ => rfl) fun x y h n => by
  cases x <;> cases y <;> first | rfl | exact absurd ⟨rfl, rfl⟩ (n _ _)
theorem vo_gt : VO G oGt (rI0 fun i j => .bl (decide (j < i))) := vo_int0 (gm := fun i j => .bl (decide (j < i))) (fun _ _ _ => rfl) (fun _ _ _ _ => rfl) fun x y h n => by
  cases x <;> cases y <;> first | rfl | exact absurd ⟨rfl, rfl⟩ (n _ _)
theorem vo_ge : VO G oGe (rI0 fun i j => .bl (decide (j ≤ i))) := vo_int0 (gm := fun i j => .bl (decide (j ≤ i))) (fun _ _ _ => rfl) (fun _ _ _ _ => rfl) fun x y h n => by
  cases x <;> cases y <;> first | rfl | exact absurd ⟨rfl, rfl⟩ (n _ _)
def rMulA : R2 := fun x y H Q => rI CMul (fun i j => .int (i * j)) x y H Q ∨ rRep x y H Q
theorem op_mulA : OpR X (binaryOp .Mult) rMulA := op_mul.or op_rep
theorem pairRep {α β : Type} {Rr : α → β → Prop} {xs : List α} {ys : List β} (r : Paired Rr xs ys) : ∀ k, Paired Rr (List.replicate k xs).flatten (List.replicate k ys).flatten
  | 0 => .nil
  | k + 1 => by
    rw [List.replicate_succ, List.replicate_succ, List.flatten_cons, List.flatten_cons]
    exact pairApp r (pairRep r k)
theorem vo_mul : VO G oMul rMulA := by
  intro X E EX m h H x y x' y' Q R rx ry P
  cases x with
  | int i => cases y with
    | int j =>
      unfold oMul at P
      dsimp only at P
      split at P
      · rename_i c; exact .inl ⟨i, j, rx, ry, c, Post.here R P _ rfl⟩
      · exact P.elim
    | _ => exact P.elim
  | ref a => cases y with
    | int j =>
      obtain ⟨aa, ea, rfl⟩ := rx
      obtain ⟨oa, e1, q1, P1⟩ := look_post R ea P
      cases oa with
      | lst xs =>
        obtain ⟨vs, r, z⟩ := q1
        dsimp only at P1
        split at P1
        · rename_i c
          refine .inr ⟨aa, j, vs, rfl, ry, z, by omega, by omega, by rw [← Paired.length r]; exact big c.2.2, fun p hp => new_lst R (pairRep r j.toNat) P1 hp⟩
        · exact P1.elim
      | _ => exact P1.elim
    | _ => exact P.elim
  | _ => exact P.elim
theorem vo_mod : VO G oMod (rI (fun _ j => 0 < j) fun i j => .int (i % j)) := vo_int (gm := fun i j => .int (i % j)) (fun i j h Q X E EX m H R P => by
    unfold oMod at P
    dsimp only at P
    split at P
    · rename_i c; exact ⟨c, Post.here R P⟩
    · exact P.elim) (fun _ _ _ _ => rfl) fun x y h n => by
  cases x <;> cases y <;> first | rfl | exact absurd ⟨rfl, rfl⟩ (n _ _)
theorem vo_div : VO G oDiv (rI CDiv fun i j => .int (i / j)) := vo_int (gm := fun i j => .int (i / j)) (fun i j h Q X E EX m H R P => by
    unfold oDiv at P
    dsimp only at P
    split at P
    · rename_i c; exact ⟨c, Post.here R P⟩
    · exact P.elim) (fun _ _ _ _ => rfl) fun x y h n => by
  cases x <;> cases y <;> first | rfl | exact absurd ⟨rfl, rfl⟩ (n _ _)
theorem vo_pow : VO G oPow (rI CPow fun i j => .int (i ^ j.toNat)) := vo_int (gm := fun i j => .int (i ^ j.toNat)) (fun i j h Q X E EX m H R P => by
    unfold oPow at P
    dsimp only at P
    split at P
    · rename_i c; exact ⟨c, Post.here R P⟩
    · exact P.elim) (fun _ _ _ _ => rfl) fun x y h n => by
  cases x <;> cases y <;> first | rfl | exact absurd ⟨rfl, rfl⟩ (n _ _)
/-! + of ints, texts, lists -/
def rAdd : R2 := fun x y H Q => rI0 (fun i j => .int (i + j)) x y H Q ∨ ((∃ i j, x = .str i ∧ y = .str j ∧ i.length + j.length ≤ sizeLine ∧ Q (.str (i ++ j)) H) ∨ rCat x y H Q)
theorem op_addG : OpR X (binaryOp .Add) rAdd := op_add.or (op_add_str.or op_cat)
theorem vo_add : VO G oAdd rAdd := by
  intro X E EX m h H x y x' y' Q R rx ry P
  cases x with
  | int i => cases y with
    | int j => exact .inl ⟨i, j, rx, ry, Post.here R P _ rfl⟩
    | _ => exact P.elim
  | str i => cases y with
    | str j =>
      unfold oAdd at P
      dsimp only at P
      split at P
      · rename_i c; exact .inr (.inl ⟨i, j, rx, ry, big c, Post.here R P _ rfl⟩)
      · exact P.elim
    | _ => exact P.elim
  | ref a => cases y with
    | ref b =>
      obtain ⟨aa, ea, rfl⟩ := rx
      obtain ⟨bb, eb, rfl⟩ := ry
      obtain ⟨oa, e1, q1, P1⟩ := look_post R ea P
      obtain ⟨ob, e2, q2, P2⟩ := look_post R eb P1
      cases oa with
      | lst xs => cases ob with
        | lst ys =>
          dsimp only at P2
          split at P2
          · rename_i c
            obtain ⟨vs, r1, z1⟩ := q1
            obtain ⟨ws, r2, z2⟩ := q2
            exact .inr (.inr ⟨aa, bb, vs, ws, rfl, rfl, z1, z2, by rw [← Paired.length r1, ← Paired.length r2]; exact big c, fun p hp => new_lst R (pairApp r1 r2) P2 hp⟩)
          · exact P2.elim
        | _ => exact P2.elim
      | _ => exact P2.elim
    | _ => exact P.elim
  | non => exact P.elim
  | bl _ => exact P.elim
  | scr _ => exact P.elim
  | tup _ => exact P.elim
  | any => exact P.elim
/-! ==, != -/
theorem datL_paired {f : MV → Option PyData} {s : Shared} : ∀ {xs : List MV} {vs : List V} {us : List Value} {ds : List PyData}, VRs G m H xs vs → Vals vs us → (∀ x v u d, VR G m H x v → RelV v u → f x = some d → ∃ as, Reads s.heap u d as) → datL f xs = some ds → ∃ as, ReadsAll s.heap us ds as
  | _, _, _, ds, .nil, .nil, _, e => by
    cases (show ([] : List PyData) = ds from Option.some.inj e)
    exact ⟨_, .nil⟩
  | x :: xs, _, _, ds, .cons r t, .cons q w, k, e => by
    unfold datL at e
    cases e1 : f x with
    | none => rw [e1] at e; cases e
    | some d =>
      cases e2 : datL f xs with
      | none => rw [e1, e2] at e; cases e
      | some es =>
        rw [e1, e2] at e
        cases e
        obtain ⟨as, h1⟩ := k _ _ _ _ r q e1
        obtain ⟨bs, h2⟩ := datL_paired t w k e2
        exact ⟨_, .cons h1 h2⟩
theorem reads_of {pins : List (Addr × Obj)} {s : Shared} {σ2 : St} (I : Inv X pins σ2 H s) (R : HR G m h H) : ∀ (n : Nat) (x : MV) (v : V) (u : Value) (d : PyData), VR G m H x v → RelV v u → dat h n x = some d → ∃ as, Reads s.heap u d as := by
  intro n
  induction n with
  | zero =>
    intro x v u d r q e
    cases x with
    | non => cases (show v = V.non from r); cases q; cases (show some PyData.none = some d from e); exact ⟨_, .none⟩
    | bl b => cases (show v = V.bl b from r); cases q; cases (show some (PyData.bool b) = some d from e); exact ⟨_, .bool b⟩
    | int i => cases (show v = V.int i from r); obtain ⟨t, rfl⟩ := q; cases (show some (PyData.int i) = some d from e); exact ⟨_, .int i t⟩
    | str i => cases (show v = V.str i from r); obtain ⟨t, rfl⟩ := q; cases (show some (PyData.str i) = some d from e); exact ⟨_, .str i t⟩
    | _ => cases (show none = some d from e)
  | succ n ih =>
    intro x v u d r q e
    cases x with
    | non => cases (show v = V.non from r); cases q; cases (show some PyData.none = some d from e); exact ⟨_, .none⟩
    | bl b => cases (show v = V.bl b from r); cases q; cases (show some (PyData.bool b) = some d from e); exact ⟨_, .bool b⟩
    | int i => cases (show v = V.int i from r); obtain ⟨t, rfl⟩ := q; cases (show some (PyData.int i) = some d from e); exact ⟨_, .int i t⟩
    | str i => cases (show v = V.str i from r); obtain ⟨t, rfl⟩ := q; cases (show some (PyData.str i) = some d from e); exact ⟨_, .str i t⟩
    | tup xs =>
      obtain ⟨a, vs, rfl, _, z, rl⟩ := (show ∃ a vs, v = .ref a ∧ a ∉ m ∧ H a = some (.tup vs) ∧ VRl G m H xs vs from r)
      cases q
      unfold dat at e
      cases e1 : datL (dat h n) xs with
      | none => rw [e1] at e; cases e
      | some ds =>
        rw [e1] at e
        cases e
        obtain ⟨its, rv, p, hz⟩ := I.tuple (SqT.of z)
        obtain ⟨as, hr⟩ := datL_paired (VRl.to rl) rv (fun x v u d => ih x v u d) e1
        obtain ⟨o, ho, hc, k, hd⟩ := (show s.heap.IsTuple a its.toArray from p)
        exact ⟨_, reads_tuple_at ho hc hd (by simpa using hr)⟩
    | ref i =>
      obtain ⟨a, ea, rfl⟩ := (show ∃ a, m[i]? = some a ∧ v = .ref a from r)
      cases q
      obtain ⟨ob, eo, qo⟩ := R.get ea
      unfold dat at e
      rw [eo] at e
      cases ob with
      | lst xs =>
        dsimp only at e
        obtain ⟨vs, rl, z⟩ := qo
        cases e1 : datL (dat h n) xs with
        | none => rw [e1] at e; cases e
        | some ds =>
          rw [e1] at e
          cases e
          obtain ⟨its, rv, p, hz⟩ := I.list (SqL.of z)
          obtain ⟨as, hr⟩ := datL_paired rl rv (fun x v u d => ih x v u d) e1
          obtain ⟨o, ho, hc, k, hd⟩ := p.isList
          exact ⟨_, reads_list_at ho hc hd (by simpa using hr)⟩
      | _ => cases (show none = some d from e)
    | scr _ => cases (show none = some d from e)
    | any => cases (show none = some d from e)
def rEqD (neg : Bool) : R2 := fun x y H Q => (∃ (G : Gb) (m : List Addr) (h : MH) (a b : MV) (d e : PyData), HR G m h H ∧ VR G m H a x ∧ VR G m H b y ∧ dat h 6 a = some d ∧ dat h 6 b = some e ∧ (SeqAt.shaped d = true ∧ SeqAt.shaped e = true) ∧ Q (.bl (if neg then !PyData.eqv d e else PyData.eqv d e)) H)
theorem op_eqD (hu : X.A.units + 64 < cLine) : OpR X (compareOp .Eq) (fun x y H Q => rEq x y H Q ∨ rEqD false x y H Q) := by
  refine op_eq.or ?_
  intro pins s σ2 H x y v u Q I rx ry ⟨G, m, h, a, b, d, e, R, ra, rb, da, db, sh, q⟩
  obtain ⟨as, r1⟩ := reads_of I R 6 a x v d ra rx da
  obtain ⟨bs, r2⟩ := reads_of I R 6 b y u e rb ry db
  exact eq_dataH r1 r2 sh.1 sh.2 hu ⟨.bl _, H, I, rfl, q⟩
theorem op_neD (hu : X.A.units + 64 < cLine) : OpR X (compareOp .NotEq) (fun x y H Q => rNe x y H Q ∨ rEqD true x y H Q) := by
  refine op_ne.or ?_
  intro pins s σ2 H x y v u Q I rx ry ⟨G, m, h, a, b, d, e, R, ra, rb, da, db, sh, q⟩
  obtain ⟨as, r1⟩ := reads_of I R 6 a x v d ra rx da
  obtain ⟨bs, r2⟩ := reads_of I R 6 b y u e rb ry db
  exact ne_dataH r1 r2 sh.1 sh.2 hu ⟨.bl _, H, I, rfl, q⟩
theorem eqDeep_post {β : Type} {x y : MV} {k : Bool → M β} {Q : β → List Addr → MH → Hp → Prop} (P : Post G X E EX m H (bnd (eqDeep x y) k h) Q) : ∃ d e, dat h 6 x = some d ∧ dat h 6 y = some e ∧ (SeqAt.shaped d = true ∧ SeqAt.shaped e = true) ∧ Post G X E EX m H (k (PyData.eqv d e) h) Q := by
  unfold bnd eqDeep at P
  cases e1 : dat h 6 x with
  | none => rw [e1] at P; exact P.elim
  | some d =>
    cases e2 : dat h 6 y with
    | none => rw [e1, e2] at P; exact P.elim
    | some e =>
      rw [e1, e2] at P
      dsimp only at P
      by_cases c : SeqAt.shaped d = true ∧ SeqAt.shaped e = true
      · rw [if_pos c] at P; exact ⟨d, e, rfl, rfl, c, P⟩
      · rw [if_neg c] at P; exact P.elim
theorem vo_eq : VO G oEq (fun x y H Q => rEq x y H Q ∨ rEqD false x y H Q) := by
  intro X E EX m h H x y x' y' Q R rx ry P
  unfold oEq at P
  split at P
  · rename_i c
    refine .inl ?_
    cases x <;> cases y <;> first | (exfalso; exact Bool.false_ne_true c) | (cases rx; cases ry; refine ⟨rfl, ?_⟩; have q := Post.here R P _ rfl; simpa using q)
  · obtain ⟨d, e, h1, h2, c, P1⟩ := eqDeep_post P
    exact .inr ⟨G, m, h, x, y, d, e, R, rx, ry, h1, h2, c, Post.here R P1 _ rfl⟩
theorem vo_ne : VO G oNe (fun x y H Q => rNe x y H Q ∨ rEqD true x y H Q) := by
  intro X E EX m h H x y x' y' Q R rx ry P
  unfold oNe at P
  split at P
  · rename_i c
    refine .inl ?_
    cases x <;> cases y <;> first | (exfalso; exact Bool.false_ne_true c) | (cases rx; cases ry; refine ⟨rfl, ?_⟩; have q := Post.here R P _ rfl; simpa using q)
  · obtain ⟨d, e, h1, h2, c, P1⟩ := eqDeep_post P
    exact .inr ⟨G, m, h, x, y, d, e, R, rx, ry, h1, h2, c, Post.here R P1 _ rfl⟩
/-! ### dicts, by their readings -/
theorem dget_rel {k : Str} : ∀ {kvs : List (Str × MV)} {ws : List (Key × V)}, DR G m H kvs ws → (∀ v, dget k kvs = some v → ∃ v', valV ws (Sum.inr k) = some v' ∧ VR G m H v v') ∧ (dget k kvs = none → valV ws (Sum.inr k) = none)
  | _, _, .nil => ⟨fun v e => (by cases e), fun _ => rfl⟩
  | (a, u) :: kvs, (b, u') :: ws, .cons ⟨q, r⟩ t => by
    have q : b = Sum.inr a := q
    subst q
    have ih := dget_rel (k := k) t
    unfold dget
    by_cases e : a = k
    · subst e
      rw [if_pos rfl, valV_pos rfl]
      exact ⟨fun v e => ⟨u', rfl, by cases e; exact r⟩, fun e => by cases e⟩
    · rw [if_neg e, valV_neg (fun z => e (Sum.inr.inj z))]
      exact ih
theorem dget_any {k : Str} {kvs : List (Str × MV)} {ws : List (Key × V)} (r : DR G m H kvs ws) : (ws.any fun kv => decide (kv.1 = Sum.inr k)) = (dget k kvs).isSome := by
  rw [valV_any]
  obtain ⟨a, b⟩ := dget_rel (k := k) r
  cases e : dget k kvs with
  | none => rw [b e]; rfl
  | some v => obtain ⟨v', e', _⟩ := a v e; rw [e']; rfl
theorem dput_rel {k : Str} {v : MV} {v' : V} (rv : VR G m H v v') {kvs : List (Str × MV)} {ws : List (Key × V)} (r : DR G m H kvs ws) : DR G m H (dput k v kvs) (putK ws (Sum.inr k) v') := by
  unfold dput putK
  rw [dget_any r]
  by_cases c : (dget k kvs).isSome = true
  · rw [if_pos c, if_pos c]
    clear c
    induction r with
    | nil => exact .nil
    | cons p t ih =>
      rename_i x y l1 l2
      simp only [List.map_cons]
      by_cases e : x.1 = k
      · rw [if_pos e, if_pos (by rw [p.1, e])]
        exact .cons ⟨p.1, rv⟩ ih
      · rw [if_neg e, if_neg (by rw [p.1]; exact fun z => e (Sum.inr.inj z))]
        exact .cons p ih
  · rw [if_neg c, if_neg c]
    exact pairApp r (.cons ⟨rfl, rv⟩ .nil)
theorem ddrop_rel {k : Str} {kvs : List (Str × MV)} {ws : List (Key × V)} (r : DR G m H kvs ws) : DR G m H (ddrop k kvs) (dropK ws (Sum.inr k)) := by
  unfold ddrop dropK
  induction r with
  | nil => exact .nil
  | cons p t ih =>
    rename_i x y l1 l2
    by_cases e : x.1 = k
    · rw [List.filter_cons_of_neg (by simp [e]), List.filter_cons_of_neg (by rw [p.1]; simp [e])]
      exact ih
    · rw [List.filter_cons_of_pos (by simp [e]), List.filter_cons_of_pos (by rw [p.1]; simp [e])]
      exact .cons p ih
def rIxD : R2 := fun x y H Q => ∃ a v, x = .ref a ∧ DGet H a y (some v) ∧ Q v H
theorem ix_dict (hu : X.A.units + 1 < cLine) : IxR X rIxD := by
  intro value slice pins s σ H x y v u Q I rx ry ⟨a, w, ex, g, q⟩ hs
  subst ex
  cases rx
  exact tail_any (dict_typeIs I g) PySem.F.slot_dict_getitem.lookup (d_getItem hu I g ry fun w' s3 I3 rw' => ⟨w, H, I3, rw', q⟩) hs
def rIxA (K : PySem.W.Frag) : R2 := fun x y H Q => rIx K x y H Q ∨ rIxD x y H Q
/-! xs[i] -/
theorem atI_atN {α : Type} (xs : List α) (i : Int) : atI xs i = atN xs i := by
  unfold atI atN L2.ixN
  by_cases h0 : 0 ≤ i
  · rw [if_pos h0, if_pos h0]
    by_cases hn : i < xs.length
    · rw [if_pos hn]; rfl
    · rw [if_neg hn]
      exact (List.getElem?_eq_none_iff.mpr (by omega)).symm
  · rw [if_neg h0, if_neg h0]
    by_cases hn : -(xs.length : Int) ≤ i
    · rw [if_pos hn, if_pos hn]; rfl
    · rw [if_neg hn, if_neg hn]; rfl
theorem pairAt {α β : Type} {Rr : α → β → Prop} {xs : List α} {ys : List β} {i : Int} {x : α} (r : Paired Rr xs ys) (e : atN xs i = some x) : ∃ y, atN ys i = some y ∧ Rr x y := by
  unfold atN at e ⊢
  rw [← Paired.length r]
  split at e
  · rename_i c; rw [if_pos c]; exact pairGet r e
  · rename_i c; rw [if_neg c]
    split at e
    · rename_i d; rw [if_pos d]; exact pairGet r e
    · cases e
theorem HR.sq (R : HR G m h H) : SqL G.K H G.sa (G.ns.map V.int) := by
  rcases R.scr with ⟨o, q⟩ | q
  · exact .inl (.inr ⟨o, q⟩)
  · exact q H
theorem vo_ix : VO G oIx (rIxA G.K) := by
  intro X E EX m h H x y x' y' Q R rx ry P
  cases x with
  | ref a => cases y with
    | int i =>
      obtain ⟨aa, ea, rfl⟩ := rx
      obtain ⟨oa, e1, q1, P1⟩ := look_post R ea P
      cases oa with
      | lst xs =>
        obtain ⟨vs, r, z⟩ := q1
        dsimp only at P1
        cases e : atN xs i with
        | none => simp only [e] at P1; exact P1.elim
        | some v =>
          simp only [e] at P1
          obtain ⟨v', e', rv⟩ := pairAt r e
          exact .inl (.inl ⟨aa, vs, i, v', rfl, ry, SqL.of z, by rw [atI_atN]; exact e', Post.here R P1 _ rv⟩)
      | _ => exact P1.elim
    | str k =>
      obtain ⟨aa, ea, rfl⟩ := rx
      obtain ⟨oa, e1, q1, P1⟩ := look_post R ea P
      cases oa with
      | dct kvs =>
        obtain ⟨ws, r, z⟩ := q1
        dsimp only at P1
        cases e : dget k kvs with
        | none => simp only [e] at P1; exact P1.elim
        | some v =>
          simp only [e] at P1
          obtain ⟨v', e', rv⟩ := (dget_rel (k := k) r).1 v e
          cases (show y' = V.str k from ry)
          exact .inr ⟨aa, v', rfl, e' ▸ DGet.k (k := Sum.inr k) z, Post.here R P1 _ rv⟩
      | _ => exact P1.elim
    | _ => exact P.elim
  | tup xs => cases y with
    | int i =>
      obtain ⟨aa, vs, rfl, _, z, r⟩ := rx
      have r := VRl.to r
      unfold oIx at P
      dsimp only at P
      cases e : atN xs i with
      | none => simp only [e] at P; exact P.elim
      | some v =>
        simp only [e] at P
        obtain ⟨v', e', rv⟩ := pairAt r e
        exact .inl (.inr (.inl ⟨aa, vs, i, v', rfl, ry, SqT.of z, by rw [atI_atN]; exact e', Post.here R P _ rv⟩))
    | _ => exact P.elim
  | any => exact P.elim
  | scr ns => cases y with
    | int i =>
      obtain ⟨e0, rfl⟩ := rx
      subst e0
      unfold oIx at P
      dsimp only at P
      cases e : atN G.ns i with
      | none => simp only [e] at P; exact P.elim
      | some v =>
        simp only [e] at P
        refine .inl (.inl ⟨G.sa, G.ns.map V.int, i, .int v, rfl, ry, R.sq, ?_, Post.here R P _ rfl⟩)
        rw [atI_atN]
        unfold atN at e ⊢
        rw [List.length_map]
        split at e
        · rename_i c; rw [if_pos c, List.getElem?_map, e]; rfl
        · rename_i c; rw [if_neg c]
          split at e
          · rename_i d; rw [if_pos d, List.getElem?_map, e]; rfl
          · cases e
    | _ => exact P.elim
  | non => exact P.elim
  | bl _ => exact P.elim
  | int _ => exact P.elim
  | str z => cases y with
    | int i =>
      unfold oIx at P
      dsimp only at P
      split at P
      · rename_i c
        cases e : atN z.cps.toList i with
        | none => simp only [e] at P; exact P.elim
        | some cc =>
          simp only [e] at P
          exact .inl (.inr (.inr ⟨z, i, cc, rx, ry, big c, by rw [atI_atN]; exact e, Post.here R P _ rfl⟩))
      · exact P.elim
    | _ => exact P.elim
section
variable {a b : Expr} {ga gb : ME} {pos : Pos}
theorem ge_ix (hu : X.A.units + 1 < cLine) (ha : GE G X a ga) (hb : GE G X b gb) (hs : PlainIx b := by intro _ _; rfl) (hK : X.K = G.K := by rfl) : GE G X (.Subscript a b pos) (eBin oIx ga gb) := fun E EX =>
  PE_imp (pe_ix (X := X.wish E) (ix_seq.or (ix_dict hu)) (ha E EX) (hb E EX) hs) fun _ _ _ t => by
    have := opG (ta := fun a _ => a) vo_ix t
    rw [← hK] at this
    exact this
end
/-! ### calls of built-ins with one argument -/
def VO1 (G : Gb) (f : Op1) (r : List V → Hp → VK → Prop) : Prop := ∀ (X : Cx) (E : Value → Shared → Prop) (EX : St → Prop) (m : List Addr) (h : MH) (H : Hp) (x : MV) (x' : V) (Q : VK), HR G m h H → VR G m H x x' →
  Post G X E EX m H (f x h) (fun v m' _ H' => ∀ v', VR G m' H' v v' → Q v' H') → r [x'] H Q
section
variable {e : Expr} {ge : ME} {x : Str} {p pos : Pos} {id T : String} {f : Op1} {r : List V → Hp → VK → Prop}
theorem GE.a1 (he : GE G X e ge) (hs : starEach [e] X.env = [(false, eval e X.env)]) : ∀ E EX, PA (X.wish E) [e] (tCons (TGe G X E EX ge) tNil) := fun E EX => pa_cons (X := X.wish E) (he E EX) pa_nil hs
theorem call1 {Q : VK} (vo : VO1 G f r) (t : TGe G X E EX (eUn f ge) σ' H Q) : tCB r (tCons (TGe G X E EX ge) tNil) σ' H Q := by
  obtain ⟨m, h, σ, ex, S, R, P⟩ := t
  exact sub ex S R P fun v m1 h1 H1 v' x1 R1 r1 P1 => vo _ _ _ _ _ _ _ _ _ R1 r1 P1
theorem ge_callB (hc : ∀ E, CallR (X.wish E) (.builtin id) r) (vo : VO1 G f r) (he : GE G X e ge) (hm : X.mg x = none) (hv : bootBuiltins x = some (.builtin id)) (hg : Gl X x := by rfl) (hn : x ≠ "__name__" := by decide) (hdb : (x == ("__debug__" : Str)) = false := by decide)
    (hs : starEach [e] X.env = [(false, eval e X.env)] := by rfl) : GE G X (.Call (.Name x p) [e] [] pos) (eUn f ge) := fun E EX =>
  PE_imp (pe_callB (X := X.wish E) (hc E) hg hm hv (he.a1 hs E EX) hn hdb hs rfl) fun _ _ _ t => call1 vo t
theorem ge_callT (hc : ∀ E, CallR (X.wish E) (.type T) r) (vo : VO1 G f r) (he : GE G X e ge) (hm : X.mg x = none) (hv : bootBuiltins x = some (.type T)) (hg : Gl X x := by rfl) (hn : x ≠ "__name__" := by decide) (hdb : (x == ("__debug__" : Str)) = false := by decide)
    (hs : starEach [e] X.env = [(false, eval e X.env)] := by rfl) : GE G X (.Call (.Name x p) [e] [] pos) (eUn f ge) := fun E EX =>
  PE_imp (pe_callTy (X := X.wish E) (hc E) hg hm hv (he.a1 hs E EX) hn hdb hs rfl) fun _ _ _ t => call1 vo t
end
def rLen (K : PySem.W.Frag) : List V → Hp → VK → Prop := fun xs H Q => (∃ x n, xs = [x] ∧ LenV K x H n ∧ Q (.int n) H) ∨ ∃ a kvs, xs = [V.ref a] ∧ H a = some (.dK kvs) ∧ Q (.int kvs.length) H
theorem call_lenG : CallR X (.builtin "len") (rLen X.K) := call_len.or call_lenD
theorem vo_len : VO1 G oLen (rLen G.K) := by
  intro X E EX m h H x x' Q R rx P
  cases x with
  | ref a =>
    obtain ⟨aa, ea, rfl⟩ := rx
    obtain ⟨oa, e1, q1, P1⟩ := look_post R ea P
    cases oa with
    | lst xs =>
      obtain ⟨vs, r, z⟩ := q1
      exact .inl ⟨_, vs.length, rfl, .inl ⟨vs, SqL.of z, rfl⟩, by rw [← Paired.length r]; exact Post.here R P1 _ rfl⟩
    | dct kvs =>
      obtain ⟨ws, r, z⟩ := q1
      exact .inr ⟨aa, ws, rfl, z, by rw [← Paired.length r]; exact Post.here R P1 _ rfl⟩
    | _ => exact P1.elim
  | str y =>
    unfold oLen at P
    dsimp only at P
    split at P
    · rename_i c
      cases (show x' = V.str y from rx)
      exact .inl ⟨_, y.length, rfl, ⟨big c, rfl⟩, Post.here R P _ rfl⟩
    · exact P.elim
  | scr ns =>
    obtain ⟨e0, rfl⟩ := rx
    subst e0
    exact .inl ⟨_, (G.ns.map V.int).length, rfl, .inl ⟨_, R.sq, rfl⟩, by rw [List.length_map]; exact Post.here R P _ rfl⟩
  | tup xs =>
    obtain ⟨aa, vs, rfl, _, z, r⟩ := rx
    exact .inl ⟨_, vs.length, rfl, .inr ⟨vs, SqT.of z, rfl⟩, by rw [← Paired.length (VRl.to r)]; exact Post.here R P _ rfl⟩
  | non => exact P.elim
  | bl _ => exact P.elim
  | int _ => exact P.elim
  | any => exact P.elim
def rListOf (K : PySem.W.Frag) : List V → Hp → VK → Prop := fun xs H Q => ∃ p ys, xs = [.ref p] ∧ (SqL K H p ys ∨ SqT K H p ys) ∧ ∀ l, H l = none → Q (.ref l) (L2.upd H l (.lst ys))
theorem vo_list : VO1 G oList (rListOf G.K) := by
  intro X E EX m h H x x' Q R rx P
  cases x with
  | ref a =>
    obtain ⟨aa, ea, rfl⟩ := rx
    obtain ⟨oa, e1, q1, P1⟩ := look_post R ea P
    cases oa with
    | lst xs =>
      obtain ⟨vs, r, z⟩ := q1
      exact ⟨aa, vs, rfl, .inl (SqL.of z), fun l hl => new_lst R r P1 hl⟩
    | _ => exact P1.elim
  | _ => exact P.elim
def rIntOf : List V → Hp → VK → Prop := fun xs H Q => (∃ i, xs = [.int i] ∧ Q (.int i) H) ∨ ∃ k, xs = [.bl k] ∧ Q (.int (if k then 1 else 0)) H
theorem vo_intOf : VO1 G oIntOf rIntOf := by
  intro X E EX m h H x x' Q R rx P
  cases x with
  | int i => cases (show x' = V.int i from rx); exact .inl ⟨i, rfl, Post.here R P _ rfl⟩
  | bl k => cases (show x' = V.bl k from rx); exact .inr ⟨k, rfl, Post.here R P _ rfl⟩
  | _ => exact P.elim
end L2.Rv

set_option linter.all false
set_option maxRecDepth 100000
namespace L2.Rv
open PySem PySem.Spec PyProof.Rows
variable {G : Gb} {m m' m1 m2 : List Addr} {h h' h1 h2 : MH} {H H' H1 H2 : Hp} {X : Cx} {E : Value → Shared → Prop} {EX : St → Prop} {σ : MSt} {σ' : St}
/-! ### statements -/
section
variable {e o i c : Expr} {ge go gi gc : ME} {pos pos' : Pos} {st : Stmt} {rest sa sb : List Stmt} {a b : MS}
theorem gs_nil : GSs G EX X [] sNil := fun E hp => PSs_imp pss_nil fun D σ' H ⟨m, h, σ, ex, S, R, P⟩ => Post.here R P σ' S
theorem gs_one (h1 : GS G EX X st a) : GSs G EX X [st] a := fun E hp => pss_one (h1 E hp)
theorem gs_cons (h1 : GS G ET X st a) (h2 : GSs G ET X rest b) : GSs G ET X (st :: rest) (sSeq a b) := fun E hp => PSs_imp (pss_cons (h1 E hp) (h2 E hp)) fun D σ' H ⟨m, h, σ, ex, S, R, P⟩ =>
  ⟨m, h, σ, ex, S, R, P.bind.mono fun f m1 h1 H1 x R1 P1 => by
    cases f with
    | next σ1 => exact fun σ1' S1 => ⟨m1, h1, σ1, trivial, S1, R1, P1⟩
    | brk σ1 => exact Post.here R1 P1
    | cnt σ1 => exact Post.here R1 P1
    | ret v => exact Post.here R1 P1⟩
theorem gs_expr (he : GE G X e ge) (hs : swapsWith e none pos.line X.env = pure false := by rfl) : GS G EX X (.Expr e pos) (sExpr ge) := fun E hp => PS_imp (ps_expr (X := X.wish E) (he E EX) hs) fun D σ' H ⟨m, h, σ, ex, S, R, P⟩ =>
  sub ex S R P fun v m1 h1 H1 v' x1 R1 r1 P1 => Post.here R1 P1 σ' (S.mono x1)
theorem gs_ret (he : GE G X e ge) : GS G EX X (.Return (some e) pos) (sRet ge) := fun E hp => PS_imp (ps_ret (X := X.wish E) (he E EX)) fun D σ' H ⟨m, h, σ, ex, S, R, P⟩ =>
  sub ex S R P fun v m1 h1 H1 v' x1 R1 r1 P1 => Post.here R1 P1 v' r1
theorem gs_if (hc : GT G X c gc) (ha : GSs G EX X sa a) (hb : GSs G EX X sb b) : GS G EX X (.If c sa sb pos) (sIf gc a b) := fun E hp => PS_imp (ps_if (hc E EX) (ha E hp) (hb E hp)) fun D σ' H ⟨m, h, σ, ex, S, R, P⟩ =>
  subT ex S R P fun k m1 h1 H1 x1 R1 P1 => by
    cases k with
    | true => exact ⟨m1, h1, σ, ex, S.mono x1, R1, P1⟩
    | false => exact ⟨m1, h1, σ, ex, S.mono x1, R1, P1⟩
theorem gs_pass : GS G EX X (.Pass pos) sNil := fun E hp => PS_imp ps_pass fun D σ' H ⟨m, h, σ, ex, S, R, P⟩ => Post.here R P σ' S
theorem gs_set {n : Nat} {x : Str} (he : GE G X e ge) (hN : X.N.Nodup) (hi : X.N[n]? = some x := by rfl) (hx : Loc X.env.scope x := by first | exact Or.inl rfl | exact Or.inr rfl)
    (hs : swapsWith e (some (.Name x pos')) pos.line X.env = pure false := by rfl) (hf : X.fn x = true ∨ X.env.scope.names.lookup x = some .local := by first | exact .inl rfl | exact .inr rfl) :
    GS G EX X (.Assign [.Name x pos'] e pos) (sSet n ge) := fun E hp => PS_imp (ps_set (X := X.wish E) hN hi hx (he E EX) hs hf) fun D σ' H ⟨m, h, σ, ex, S, R, P⟩ =>
  sub ex S R P fun v m1 h1 H1 v' x1 R1 r1 P1 => Post.here R1 P1 _ ((S.mono x1).set n r1)
theorem ofS_inj {a b : String} (e : Str.ofString a = Str.ofString b) : a = b := by
  rw [Str.ofString_eq_toList, Str.ofString_eq_toList] at e
  have e1 : a.toList.map Char.toNat = b.toList.map Char.toNat := by simpa using congrArg (fun s : Str => s.cps.toList) e
  have e2 : a.toList = b.toList := by
    have inj : ∀ (l k : List Char), l.map Char.toNat = k.map Char.toNat → l = k := by
      intro l
      induction l with
      | nil => intro k q; cases k with
        | nil => rfl
        | cons _ _ => simp at q
      | cons x l ih => intro k q; cases k with
        | nil => simp at q
        | cons y k =>
          simp only [List.map_cons, List.cons.injEq] at q
          rw [ih k q.2, Char.toNat_inj.mp q.1]
    exact inj _ _ e1
  exact String.toList_inj.mp e2
theorem lookF {f : String} : ∀ {fs : List (String × MV)} {ws : List (Str × V)} {v : MV}, FR G m H fs ws → fs.lookup f = some v → ∃ v', ws.lookup (Str.ofString f) = some v' ∧ VR G m H v v'
  | _, _, _, .nil, e => by simp at e
  | (g, u) :: fs, (g', u') :: ws, v, .cons ⟨q, r⟩ t, e => by
    have q : g' = Str.ofString g := q
    subst q
    by_cases hg : f = g
    · subst hg
      simp only [List.lookup_cons, beq_self_eq_true] at e ⊢
      cases e
      exact ⟨u', rfl, r⟩
    · have h1 : (f == g) = false := by simpa using hg
      have h2 : (Str.ofString f == Str.ofString g) = false := by
        rw [beq_eq_false_iff_ne]; exact fun z => hg (ofS_inj z)
      simp only [List.lookup_cons, h1, h2] at e ⊢
      exact lookF t e
theorem lookN {f : String} : ∀ {fs : List (String × MV)} {ws : List (Str × V)}, FR G m H fs ws → fs.lookup f = none → ws.lookup (Str.ofString f) = none
  | _, _, .nil, e => by simp
  | (g, u) :: fs, (g', u') :: ws, .cons ⟨q, r⟩ t, e => by
    have q : g' = Str.ofString g := q
    subst q
    by_cases hg : f = g
    · subst hg
      simp only [List.lookup_cons, beq_self_eq_true] at e
      cases e
    · have h1 : (f == g) = false := by simpa using hg
      have h2 : (Str.ofString f == Str.ofString g) = false := by
        rw [beq_eq_false_iff_ne]; exact fun z => hg (ofS_inj z)
      simp only [List.lookup_cons, h1, h2] at e ⊢
      exact lookN t e
theorem FR.mono {m' : List Addr} {H' : Hp} {fs : List (String × MV)} {ws : List (Str × V)} (x : Mn m H m' H') (r : FR G m H fs ws) : FR G m' H' fs ws := Paired.imp' (fun _ _ p => ⟨p.1, VR.mono x p.2⟩) r
theorem DR.mono {m' : List Addr} {H' : Hp} {fs : List (Str × MV)} {ws : List (Key × V)} (x : Mn m H m' H') (r : DR G m H fs ws) : DR G m' H' fs ws := Paired.imp' (fun _ _ p => ⟨p.1, VR.mono x p.2⟩) r
theorem putFR {f : String} {v : MV} {v' : V} (r : VR G m H v v') : ∀ {fs : List (String × MV)} {ws : List (Str × V)}, FR G m H fs ws → FR G m H (putF f v fs) (L2.putF (Str.ofString f) v' ws)
  | _, _, .nil => .cons ⟨rfl, r⟩ .nil
  | (g, u) :: fs, (g', u') :: ws, .cons ⟨q, ru⟩ t => by
    have q : g' = Str.ofString g := q
    subst q
    unfold putF L2.putF
    by_cases hg : g = f
    · subst hg
      rw [if_pos rfl, if_pos rfl]
      exact .cons ⟨rfl, r⟩ t
    · rw [if_neg hg, if_neg fun z => hg (ofS_inj z)]
      exact .cons ⟨rfl, ru⟩ (putFR r t)
/-- what the classes' fields want: cs are the classes that this field is asked of -/
def FldOk (G : Gb) (cs : List Nat) (f : String) : Prop := ∀ c ∈ cs, Cls G.K (G.cl c) ∧ NoAttr G.K (G.cl c) (Str.ofString f)
theorem FldOk.one {c : Nat} {f : String} (a : Cls G.K (G.cl c)) (b : NoAttr G.K (G.cl c) (Str.ofString f)) : FldOk G [c] f := fun c' q => by
  cases List.mem_singleton.mp q
  exact ⟨a, b⟩
theorem ge_fld {f : String} {cs : List Nat} (he : GE G X e ge) (hf : FldOk G cs f) (hb : attributeBase e (Str.ofString f) X.env (eval e X.env) = eval e X.env := by rfl) (hK : X.K = G.K := by rfl) : GE G X (.Attribute e (Str.ofString f) pos) (eFld ge cs f) := fun E EX =>
  PE_imp (pe_fld (X := X.wish E) (he E EX) hb) fun σ' H Q ⟨m, h, σ, ex, S, R, P⟩ => sub ex S R P fun v m1 h1 H1 v' x1 R1 r1 P1 => by
    cases v with
    | ref n =>
      obtain ⟨aa, ea, rfl⟩ := r1
      obtain ⟨oa, e1, q1, P2⟩ := look_post R1 ea P1
      cases oa with
      | ins c fs =>
        obtain ⟨dx, ws, r, z⟩ := q1
        dsimp only at P2
        split at P2
        · rename_i hc
          cases ew : fs.lookup f with
          | none => simp only [ew] at P2; exact P2.elim
          | some w =>
            simp only [ew] at P2
            obtain ⟨w', ew', rw'⟩ := lookF r ew
            have k := hf c (by simpa using hc)
            rw [← hK] at k
            exact ⟨aa, _, dx, ws, w', rfl, z, k.1, k.2, ew', Post.here R1 P2 _ rw'⟩
        · exact P2.elim
      | _ => exact P2.elim
    | _ => exact P1.elim
theorem put_post {β : Type} {n : Nat} {o : MO} {k : Unit → M β} {Q : β → List Addr → MH → Hp → Prop} {aa : Addr} (R : HR G m h H) (e : m[n]? = some aa) (P : Post G X E EX m H (bnd (put n o) k h) Q) : Post G X E EX m H (k () (h.set n o)) Q := by
  have hn : n < h.length := by rw [← R.len]; exact (List.getElem?_eq_some_iff.mp e).1
  simpa only [bnd, put, hn, if_true] using P
theorem gs_fld {f : String} {cs : List Nat} (ho : GE G X o go) (he : GE G X e ge) (hf : FldOk G cs f) (hs : swapsWith e (some (.Attribute o (Str.ofString f) pos')) pos.line X.env = pure false := by rfl) (hK : X.K = G.K := by rfl) :
    GS G EX X (.Assign [.Attribute o (Str.ofString f) pos'] e pos) (sFld go cs f ge) := fun E hp =>
  PS_imp (ps_fld (X := X.wish E) (ho E EX) (he E EX) hs) fun D σ' H ⟨m, h, σ, ex, S, R, P⟩ => sub ex S R P fun v m1 h1 H1 v' x1 R1 r1 P1 => sub ex (S.mono x1) R1 P1 fun w m2 h2 H2 w' x2 R2 r2 P2 => by
    cases w with
    | ref n =>
      obtain ⟨aa, ea, rfl⟩ := r2
      obtain ⟨oa, e1, q1, P3⟩ := look_post R2 ea P2
      cases oa with
      | ins c fs =>
        obtain ⟨dx, ws, r, z⟩ := q1
        dsimp only at P3
        split at P3
        · rename_i hl
          have k := hf c (by simpa using hl.1)
          rw [← hK] at k
          refine ⟨aa, _, dx, ws, rfl, z, k.1, k.2, by rw [← Paired.length r]; exact hl.2, ?_⟩
          have P4 := put_post R2 ea P3
          have x3 : Ext m2 H2 m2 (upd H2 aa (.ins (G.cl c) dx (L2.putF (Str.ofString f) v' ws))) := Ext.upd ea
          exact P4 _ _ x3 (R2.upd ea (fun o' ys z' => by rw [z] at z'; cases z') ⟨dx, _, FR.mono x3.mn (putFR (x2.vr r1) r), upd_same⟩) σ' (((S.mono x1).mono x2).mono x3)
        · exact P3.elim
      | _ => exact P3.elim
    | _ => exact P2.elim
/-- o[i] = e of a list or a dict -/
def rSetD : V → V → V → Hp → (Hp → Prop) → Prop := fun o i v H Q => ∃ a H4, o = .ref a ∧ DPut H a i v H4 ∧ Q H4
def rSetA : V → V → V → Hp → (Hp → Prop) → Prop := fun o i v H Q => rSetL o i v H Q ∨ rSetD o i v H Q
theorem set_all (hu : X.A.units + 1 < cLine) : PSet X rSetA := by
  intro pins s σ H o i v ov iv u Q I ro ri rv q
  rcases q with q | ⟨a, H4, eo, g, q⟩
  · exact set_list pins s σ H o i v ov iv u Q I ro ri rv q
  · subst eo
    cases ro
    exact d_setItem hu I g ri rv fun s4 I4 => ⟨H4, I4, q⟩
theorem setA_ok {β : Type} {k : Unit → M β} {Q : β → List Addr → MH → Hp → Prop} {x y v : MV} {x' y' v' : V} (R : HR G m h H) (rx : VR G m H x x') (ry : VR G m H y y') (rv : VR G m H v v') (P : Post G X E EX m H (bnd (setIx x y v) k h) Q) :
    rSetA x' y' v' H fun H' => ∃ h', Ext m H m H' ∧ HR G m h' H' ∧ Post G X E EX m H' (k () h') Q := by
  have P := Post.bind P
  cases x with
  | ref n => cases y with
    | int i =>
      obtain ⟨aa, ea, rfl⟩ := rx
      obtain ⟨oa, e1, q1, P4⟩ := look_post R ea P
      cases oa with
      | lst xs =>
        obtain ⟨vs, r, z⟩ := q1
        dsimp only at P4
        cases ej : ixN xs.length i with
        | none => simp only [ej] at P4; exact P4.elim
        | some j =>
          simp only [ej] at P4
          have hj : L2.ixN vs.length i = some j := by rw [← Paired.length r]; exact ej
          refine .inl ⟨aa, vs, i, j, rfl, ry, z, hj, ?_⟩
          have hn : n < h.length := by rw [← R.len]; exact (List.getElem?_eq_some_iff.mp ea).1
          have x4 : Ext m H m (upd H aa (.lst (vs.set j v'))) := Ext.upd ea
          simp only [put, hn, if_true] at P4
          have R4 := R.upd (u := .lst (vs.set j v')) (o := .lst (xs.set j v)) ea (fun o' ys z' => by rw [z] at z'; cases z') ⟨_, x4.vrs (pairSet rv j r), upd_same⟩
          exact ⟨_, x4, R4, P4 _ _ x4 R4⟩
      | _ => exact P4.elim
    | str i =>
      obtain ⟨aa, ea, rfl⟩ := rx
      obtain ⟨oa, e1, q1, P4⟩ := look_post R ea P
      cases oa with
      | dct kvs =>
        obtain ⟨ws, r, z⟩ := q1
        dsimp only at P4
        split at P4
        · rename_i hz
          cases (show y' = V.str i from ry)
          refine .inr ⟨aa, _, rfl, DPut.k (k := Sum.inr i) z (by rw [← Paired.length r]; exact Nat.lt_of_lt_of_le hz (small (Nat.le_refl _))), ?_⟩
          have hn : n < h.length := by rw [← R.len]; exact (List.getElem?_eq_some_iff.mp ea).1
          have x4 : Ext m H m (upd H aa (.dK (putK ws (Sum.inr i) v'))) := Ext.upd ea
          simp only [put, hn, if_true] at P4
          have R4 := R.upd (u := .dK (putK ws (Sum.inr i) v')) (o := .dct (dput i v kvs)) ea (fun o' ys z' => by rw [z] at z'; cases z') ⟨_, DR.mono x4.mn (dput_rel rv r), upd_same⟩
          exact ⟨_, x4, R4, P4 _ _ x4 R4⟩
        · exact P4.elim
      | _ => exact P4.elim
    | _ => exact P.elim
  | _ => exact P.elim
theorem gs_setIx (ho : GE G X o go) (hi : GE G X i gi) (he : GE G X e ge) (hs : swapsWithSole [.Subscript o i pos'] e pos.line X.env = pure false := by rfl) (hw : swappedStores [.Subscript o i pos'] e X.env = pure none := by rfl)
    (h1 : (assignEach [.Subscript o i pos'] X.env).map (·.2) = [assign (.Subscript o i pos') X.env] := by rfl) (hg : ∀ E t t', PE (X.wish E) o t → PE (X.wish E) i t' → PG (X.wish E) (.Subscript o i pos') (gSub t t' rSetA)) :
    GS G EX X (.Assign [.Subscript o i pos'] e pos) (sSetIx go gi ge) := fun E hp =>
  PS_imp (ps_asg (X := X.wish E) (he E EX) (hg E _ _ (ho E EX) (hi E EX)) hs hw h1) fun D σ' H ⟨m, h, σ, ex, S, R, P⟩ => sub ex S R P fun v m1 h1 H1 v' x1 R1 r1 P1 => sub ex (S.mono x1) R1 P1 fun w m2 h2 H2 w' x2 R2 r2 P2 =>
    sub ex ((S.mono x1).mono x2) R2 P2 fun y m3 h3 H3 y' x3 R3 r3 P3 => by
      rcases setA_ok R3 (x3.vr r2) r3 ((x2.trans x3).vr r1) P3 with q | q
      · obtain ⟨p, xs, k, j, e1, e2, e3, e4, h4, x4, R4, P4⟩ := q
        exact .inl ⟨p, xs, k, j, e1, e2, e3, e4, Post.here R4 P4 σ' ((((S.mono x1).mono x2).mono x3).mono x4)⟩
      · obtain ⟨a, H4, e1, g, h4, x4, R4, P4⟩ := q
        exact .inr ⟨a, H4, e1, g, Post.here R4 P4 σ' ((((S.mono x1).mono x2).mono x3).mono x4)⟩
end
/-! ### while -/
theorem gs_while {c : Expr} {body : List Stmt} {gc : ME} {gb : MS} {pos : Pos} (hc : GT G X c gc) (hb : GSs G ET X body gb) : GS G ET X (.While c body [] pos) (sWhile gc gb) := fun E hp =>
  PS_imp (ps_while (X := X.wish E) hp (hc E ET) (hb E hp)) fun D σ' H ⟨m, h, σ, ex, S, R, P⟩ => by
    let QD : MF → List Addr → MH → Hp → Prop := fun f m' _ H' => match f with
      | .next σ1 => ∀ σ1', SR G m' H' σ1 σ1' → D.nx σ1' H'
      | .brk σ1 => ∀ σ1', SR G m' H' σ1 σ1' → D.bk σ1' H'
      | .cnt σ1 => ∀ σ1', SR G m' H' σ1 σ1' → D.ct σ1' H'
      | .ret v => ∀ v', VR G m' H' v v' → D.rt v' H'
    refine ⟨fun n σ2' H2 => ∃ m2 h2 σ2, SR G m2 H2 σ2 σ2' ∧ HR G m2 h2 H2 ∧ Post G X E ET m2 H2 (whileN gc gb n σ2 h2) QD, ⟨1000, m, h, σ, S, R, P⟩, ?_⟩
    rintro n σ2' H2 ⟨m2, h2, σ2, S2, R2, P2⟩
    cases n with
    | zero => exact P2.elim
    | succ n =>
      refine subT (σ := σ2) trivial S2 R2 P2 fun k m3 h3 H3 x3 R3 P3 => ?_
      cases k with
      | false =>
        rw [if_neg Bool.false_ne_true]
        exact Post.here R3 P3 σ2' (S2.mono x3)
      | true =>
        rw [if_pos rfl]
        refine ⟨fun σ4' H4 => ∃ m4 h4 σ4, SR G m4 H4 σ4 σ4' ∧ HR G m4 h4 H4 ∧ Post G X E ET m4 H4 (whileN gc gb n σ4 h4) QD, fun σ4' H4 q => ⟨n, Nat.lt_succ_self n, q⟩, ?_⟩
        refine ⟨m3, h3, σ2, trivial, S2.mono x3, R3, (Post.bind P3).mono fun f m4 h4 H4 x4 R4 P4 => ?_⟩
        cases f with
        | next σ4 => exact fun σ4' S4 => ⟨m4, h4, σ4, S4, R4, P4⟩
        | cnt σ4 => exact fun σ4' S4 => ⟨m4, h4, σ4, S4, R4, P4⟩
        | brk σ4 => exact Post.here R4 P4
        | ret v => exact Post.here R4 P4
/-! ### for -/
/-- an item and the values that come to the targets -/
def Row (G : Gb) (m : List Addr) (H : Hp) (one : Bool) (vs : List MV) (x : V) : Prop := if one = true then ∃ v, vs = [v] ∧ VR G m H v x else VR G m H (.tup vs) x
/-- what is walked gives the items, one by one, while what must stay stands -/
def JOk (G : Gb) (J : It) (s : Src) (one : Bool) (k : Nat) (m0 : List Addr) (H0 : Hp) : Prop := ∀ m h H, Ext m0 H0 m H → HR G m h H → s.okIn h = true →
  (∀ i vs, s.items[i]? = some vs → vs.length = k ∧ J.go i H ∧ ∀ x H', J.yld i H x H' → Ext m H m H' ∧ HR G m h H' ∧ Row G m H' one vs x) ∧ J.stop s.items.length H
def GI (G : Gb) (X : Cx) (tg iter : Expr) (one : Bool) (k : Nat) (gi : MI) : Prop := ∀ E EX, ∃ wi, PI (X.wish E) tg iter wi ∧ ∀ σ' H R, (∃ m h σ, EX σ' ∧ SR G m H σ σ' ∧ HR G m h H ∧ Post G X E EX m H (gi σ h) fun s m1 h1 H1 => ∀ J, JOk G J s one k m1 H1 → R J H1) → wi σ' H R
/-- the targets -/
def GTg (G : Gb) (X : Cx) (tg : Expr) (one : Bool) (is : List Nat) : Prop := ∀ E, ∃ g, PG (X.wish E) tg g ∧ ∀ m H vs x σ σ' Q, SR G m H σ σ' → Row G m H one vs x → vs.length = is.length → (∀ σ1', SR G m H (setAll is vs σ) σ1' → Q σ1' H) → g x σ' H Q
theorem gt_name {n : Nat} {x : Str} {pos : Pos} (hN : X.N.Nodup) (hi : X.N[n]? = some x := by rfl) (hx : Loc X.env.scope x := by first | exact Or.inl rfl | exact Or.inr rfl) (hf : X.fn x = true ∨ X.env.scope.names.lookup x = some .local := by first | exact .inl rfl | exact .inr rfl) : GTg G X (.Name x pos) true [n] := fun E =>
  ⟨gName n, pg_name (X := X.wish E) hN hi hx hf, fun m H vs v σ σ' Q S r hl q => by
    obtain ⟨w, rfl, rw'⟩ := r
    exact q _ (S.set n rw')⟩
/-- names in a row -/
def GTn (G : Gb) (X : Cx) (es : List Expr) (is : List Nat) : Prop := ∀ E, ∃ g, PGs (X.wish E) es g ∧ ∀ m H vs xs σ σ' Q, SR G m H σ σ' → VRs G m H vs xs → vs.length = is.length → (∀ σ1', SR G m H (setAll is vs σ) σ1' → Q σ1' H) → g xs σ' H Q
theorem gtn_nil : GTn G X [] [] := fun E => ⟨gNil, pgs_nil, fun m H vs xs σ σ' Q S r hl q => by
  cases r with
  | nil => exact ⟨rfl, q _ S⟩
  | cons _ _ => simp at hl⟩
theorem gtn_cons {n : Nat} {x : Str} {pos : Pos} {es : List Expr} {is : List Nat} (h : GTn G X es is) (hN : X.N.Nodup) (hi : X.N[n]? = some x := by rfl) (hx : Loc X.env.scope x := by first | exact Or.inl rfl | exact Or.inr rfl) (hf : X.fn x = true ∨ X.env.scope.names.lookup x = some .local := by first | exact .inl rfl | exact .inr rfl)
    (hs : (assignEach (.Name x pos :: es) X.env).map (·.2) = assign (.Name x pos) X.env :: (assignEach es X.env).map (·.2) := by rfl) : GTn G X (.Name x pos :: es) (n :: is) := fun E => by
  obtain ⟨g, pg, hg⟩ := h E
  refine ⟨gCons (gName n) g, pgs_cons (X := X.wish E) (pg_name (X := X.wish E) hN hi hx hf) pg hs, fun m H vs xs σ σ' Q S r hl q => ?_⟩
  cases r with
  | nil => simp at hl
  | cons r t => exact ⟨_, _, rfl, hg m H _ _ _ _ _ (S.set n r) t (by simpa using hl) q⟩
theorem gt_tup {es : List Expr} {k : Nat} {is : List Nat} {pos : Pos} (h : GTn G X es is) (hl : (assignEach es X.env).length = is.length := by rfl) (hst : (assignEach es X.env).findIdx? (·.1) = none := by rfl) (hc : X.calm = true := by rfl) (hK : X.K = G.K := by rfl) : GTg G X (.Tuple es k pos) false is := fun E => by
  obtain ⟨g, pg, hg⟩ := h E
  refine ⟨gTup X.K is.length g, pg_tup (X := X.wish E) hc pg hl hst, fun m H vs x σ σ' Q S r hl' q => ?_⟩
  obtain ⟨a, ws, rfl, _, z, t⟩ := (show ∃ a ws, x = .ref a ∧ a ∉ m ∧ H a = some (.tup ws) ∧ VRl G m H vs ws from r)
  have t := VRl.to t
  exact ⟨a, ws, rfl, SqT.of z, by rw [← Paired.length t]; exact hl', hg m H vs ws σ σ' Q S t hl' q⟩
theorem gs_for {tg iter : Expr} {body : List Stmt} {gi : MI} {gb : MS} {one : Bool} {is : List Nat} {pos : Pos} (hi : GI G X tg iter one is.length gi) (hg : GTg G X tg one is) (hb : GSs G ET X body gb) (hc : X.calm = true := by rfl) (hs : ∀ x, foldedSetIterable iter X.env x = pure x := by intro _; rfl) :
    GS G ET X (.For tg iter body [] pos) (sFor is gi gb) := fun E hp => by
  obtain ⟨wi, pw, hw⟩ := hi E ET
  obtain ⟨g, pg, hg⟩ := hg E
  refine PS_imp (ps_for (X := X.wish E) hp hc pw pg (hb E hp) hs) fun D σ' H ⟨m, h, σ, ex, S, R, P⟩ => ?_
  let QD : MF → List Addr → MH → Hp → Prop := fun f m' _ H' => match f with
    | .next σ1 => ∀ σ1', SR G m' H' σ1 σ1' → D.nx σ1' H'
    | .brk σ1 => ∀ σ1', SR G m' H' σ1 σ1' → D.bk σ1' H'
    | .cnt σ1 => ∀ σ1', SR G m' H' σ1 σ1' → D.ct σ1' H'
    | .ret v => ∀ v', VR G m' H' v v' → D.rt v' H'
  refine hw σ' H _ ⟨m, h, σ, trivial, S, R, (Post.bind P).mono fun s m1 h1 H1 x1 R1 P1 J hJ => ?_⟩
  refine ⟨fun k n' σ2' H2 => n' = s.items.length - k ∧ k ≤ s.items.length ∧ ∃ m2 h2 σ2, Ext m1 H1 m2 H2 ∧ SR G m2 H2 σ2 σ2' ∧ HR G m2 h2 H2 ∧ Post G X E ET m2 H2 (forItems s is gb (s.items.drop k) σ2 h2) QD,
    ⟨s.items.length, rfl, Nat.zero_le _, m1, h1, σ, .refl, S.mono x1, R1, P1⟩, ?_⟩
  rintro k n' σ2' H2 ⟨rfl, hk, m2, h2, σ2, pre2, S2, R2, P2⟩
  by_cases hlt : k < s.items.length
  · have ed : s.items.drop k = s.items[k] :: s.items.drop (k + 1) := (List.drop_eq_getElem_cons hlt)
    rw [ed] at P2
    unfold forItems at P2
    split at P2
    · rename_i hok
      obtain ⟨j1, _⟩ := hJ m2 h2 H2 pre2 R2 hok
      obtain ⟨lv, go, yl⟩ := j1 k s.items[k] (by simp [hlt])
      refine .inr ⟨go, fun σ4' H4 => ∃ m4 h4 σ4, Ext m1 H1 m4 H4 ∧ SR G m4 H4 σ4 σ4' ∧ HR G m4 h4 H4 ∧ Post G X E ET m4 H4 (forItems s is gb (s.items.drop (k + 1)) σ4 h4) QD, fun σ4' H4 q => ⟨s.items.length - (k + 1), by omega, rfl, hlt, q⟩, fun x H' y => ?_⟩
      obtain ⟨x3, R3, rx⟩ := yl x H' y
      refine hg m2 H' _ x σ2 σ2' _ (S2.mono x3) rx lv fun σ3' S3 => ?_
      refine ⟨m2, h2, setAll is s.items[k] σ2, trivial, S3, R3, ((Post.bind P2).ext x3).mono fun f m4 h4 H4 x4 R4 P4 => ?_⟩
      have pre4 : Ext m1 H1 m4 H4 := pre2.trans (x3.trans x4)
      cases f with
      | next σ4 => exact fun σ4' S4 => ⟨m4, h4, σ4, pre4, S4, R4, P4⟩
      | cnt σ4 => exact fun σ4' S4 => ⟨m4, h4, σ4, pre4, S4, R4, P4⟩
      | brk σ4 => exact Post.here R4 P4
      | ret v => exact Post.here R4 P4
    · exact P2.elim
  · have e : k = s.items.length := by omega
    subst e
    rw [List.drop_length] at P2
    unfold forItems at P2
    split at P2
    · rename_i hok
      obtain ⟨_, st⟩ := hJ m2 h2 H2 pre2 R2 hok
      exact .inl ⟨st, Post.here R2 P2 σ2' S2⟩
    · exact P2.elim
/-! what is walked: a list, a range -/
theorem jok_list {n : Nat} {a : Addr} {xs : List MV} (K : PySem.W.Frag) (ea : m[n]? = some a) : JOk G (Itl K a) ⟨xs.map fun v => [v], [(n, xs)]⟩ true 1 m H := by
  intro m2 h2 H2 pre R ok
  have ea2 : m2[n]? = some a := pre.get ea
  have eo : h2[n]? = some (.lst xs) := by simpa [Src.okIn, stayIn] using ok
  obtain ⟨vs, r, z⟩ := R.ob n a _ ea2 eo
  refine ⟨fun i ws ei => ?_, ⟨vs, SqL.of z, by simp [Paired.length r]⟩⟩
  rw [List.getElem?_map] at ei
  cases ev : xs[i]? with
  | none => rw [ev] at ei; cases ei
  | some v =>
    rw [ev] at ei
    cases ei
    obtain ⟨v', e1, rv⟩ := pairGet r ev
    refine ⟨rfl, ⟨vs, v', SqL.of z, e1⟩, fun x H' y => ?_⟩
    obtain ⟨rfl, y2⟩ := y
    have := y2 vs (SqL.of z)
    rw [e1] at this
    cases this
    exact ⟨.refl, R, v, rfl, rv⟩
theorem gi_list {tg l : Expr} {gl : ME} (hl : GE G X l gl) : GI G X tg l true 1 (iList gl) := fun E EX => by
  refine ⟨_, pi_list (X := X.wish E) (hl E EX), fun σ' H R ⟨m, h, σ, ex, S, Rr, P⟩ => ?_⟩
  refine sub ex S Rr P fun v m1 h1 H1 v' x1 R1 r1 P1 => ?_
  cases v with
  | ref n =>
    obtain ⟨aa, ea, rfl⟩ := r1
    obtain ⟨oa, e1, q1, P2⟩ := look_post R1 ea P1
    cases oa with
    | lst xs =>
      obtain ⟨vs, r, z⟩ := q1
      exact ⟨aa, rfl, ⟨vs, SqL.of z⟩, Post.here R1 P2 _ (jok_list _ ea)⟩
    | _ => exact P2.elim
  | _ => exact P1.elim
/-- a list of tuples, taken apart -/
theorem rowsOf_get {k : Nat} : ∀ {xs : List MV} {rs : List (List MV)} {i : Nat} {vs : List MV}, rowsOf k xs = some rs → rs[i]? = some vs → xs[i]? = some (.tup vs) ∧ vs.length = k
  | [], rs, i, vs, e, g => by
    cases (show ([] : List (List MV)) = rs from Option.some.inj e)
    simp at g
  | .tup ys :: xs, rs, i, vs, e, g => by
    unfold rowsOf at e
    split at e
    · rename_i hk
      cases er : rowsOf k xs with
      | none => rw [er] at e; cases e
      | some r' =>
        rw [er] at e
        cases e
        cases i with
        | zero => simp at g; subst g; exact ⟨rfl, hk⟩
        | succ i => exact rowsOf_get (i := i) er (by simpa using g)
    · cases e
  | .non :: xs, rs, i, vs, e, g => by cases e
  | .bl _ :: xs, rs, i, vs, e, g => by cases e
  | .int _ :: xs, rs, i, vs, e, g => by cases e
  | .str _ :: xs, rs, i, vs, e, g => by cases e
  | .ref _ :: xs, rs, i, vs, e, g => by cases e
  | .scr _ :: xs, rs, i, vs, e, g => by cases e
  | .any :: xs, rs, i, vs, e, g => by cases e
theorem rowsOf_len {k : Nat} : ∀ {xs : List MV} {rs : List (List MV)}, rowsOf k xs = some rs → rs.length = xs.length
  | [], rs, e => by cases (show ([] : List (List MV)) = rs from Option.some.inj e); rfl
  | .tup ys :: xs, rs, e => by
    unfold rowsOf at e
    split at e
    · cases er : rowsOf k xs with
      | none => rw [er] at e; cases e
      | some r' => rw [er] at e; cases e; simp [rowsOf_len er]
    · cases e
  | .non :: xs, rs, e => by cases e
  | .bl _ :: xs, rs, e => by cases e
  | .int _ :: xs, rs, e => by cases e
  | .str _ :: xs, rs, e => by cases e
  | .ref _ :: xs, rs, e => by cases e
  | .scr _ :: xs, rs, e => by cases e
  | .any :: xs, rs, e => by cases e
theorem jok_listT {n k : Nat} {a : Addr} {xs : List MV} {rs : List (List MV)} (K : PySem.W.Frag) (ea : m[n]? = some a) (er : rowsOf k xs = some rs) : JOk G (Itl K a) ⟨rs, [(n, xs)]⟩ false k m H := by
  intro m2 h2 H2 pre R ok
  have ea2 : m2[n]? = some a := pre.get ea
  have eo : h2[n]? = some (.lst xs) := by simpa [Src.okIn, stayIn] using ok
  obtain ⟨vs, r, z⟩ := R.ob n a _ ea2 eo
  refine ⟨fun i ws ei => ?_, ⟨vs, SqL.of z, by rw [rowsOf_len er, Paired.length r]; exact Nat.le_refl _⟩⟩
  obtain ⟨ev, hk⟩ := rowsOf_get er ei
  obtain ⟨v', e1, rv⟩ := pairGet r ev
  refine ⟨hk, ⟨vs, v', SqL.of z, e1⟩, fun x H' y => ?_⟩
  obtain ⟨rfl, y2⟩ := y
  have := y2 vs (SqL.of z)
  rw [e1] at this
  cases this
  exact ⟨.refl, R, rv⟩
theorem gi_listT {k : Nat} {tg l : Expr} {gl : ME} (hl : GE G X l gl) : GI G X tg l false k (iListT k gl) := fun E EX => by
  refine ⟨_, pi_list (X := X.wish E) (hl E EX), fun σ' H R ⟨m, h, σ, ex, S, Rr, P⟩ => ?_⟩
  refine sub ex S Rr P fun v m1 h1 H1 v' x1 R1 r1 P1 => ?_
  cases v with
  | ref n =>
    obtain ⟨aa, ea, rfl⟩ := r1
    obtain ⟨oa, e1, q1, P2⟩ := look_post R1 ea P1
    cases oa with
    | lst xs =>
      obtain ⟨vs, r, z⟩ := q1
      dsimp only at P2
      cases er : rowsOf k xs with
      | none => simp only [er] at P2; exact P2.elim
      | some rs =>
        simp only [er] at P2
        exact ⟨aa, rfl, ⟨vs, SqL.of z⟩, Post.here R1 P2 _ (jok_listT _ ea er)⟩
    | _ => exact P2.elim
  | _ => exact P1.elim
theorem jok_range {lo : Int} {n : Nat} : JOk G (Itr lo n) ⟨upTo lo n, []⟩ true 1 m H := by
  intro m2 h2 H2 _ R ok
  refine ⟨fun i vs ei => ?_, by simp [upTo, Itr]⟩
  have hi : i < n := by
    have := (List.getElem?_eq_some_iff.mp ei).1
    simpa [upTo] using this
  unfold upTo at ei
  rw [List.getElem?_map, List.getElem?_range hi] at ei
  cases ei
  refine ⟨rfl, hi, fun x H' y => ?_⟩
  obtain ⟨rfl, y2⟩ := y
  exact ⟨.refl, R, _, rfl, y2⟩
theorem gi_range1 {tg a : Expr} {ga : ME} {p pos : Pos} (ha : GE G X a ga) (hm : X.mg "range" = none) (hg : Gl X "range" := by rfl) (hs : starEach [a] X.env = [(false, eval a X.env)] := by rfl) : GI G X tg (.Call (.Name "range" p) [a] [] pos) true 1 (iRng1 ga) := fun E EX => by
  refine ⟨_, pi_range1 (X := X.wish E) hg hm (ha.a1 hs E EX) hs, fun σ' H R ⟨m, h, σ, ex, S, Rr, P⟩ => ?_⟩
  refine sub ex S Rr P fun v m1 h1 H1 v' x1 R1 r1 P1 => ?_
  cases v with
  | int j =>
    cases (show v' = V.int j from r1)
    dsimp only at P1
    split at P1
    · rename_i c
      exact ⟨j, rfl, c.1, c.2, Post.here R1 P1 _ jok_range⟩
    · exact P1.elim
  | _ => exact P1.elim
theorem gi_range2 {tg a b : Expr} {ga gb : ME} {p pos : Pos} (ha : GE G X a ga) (hb : GE G X b gb) (hm : X.mg "range" = none) (hg : Gl X "range" := by rfl) (hs : starEach [a, b] X.env = [(false, eval a X.env), (false, eval b X.env)] := by rfl)
    (hs2 : starEach [b] X.env = [(false, eval b X.env)] := by rfl) : GI G X tg (.Call (.Name "range" p) [a, b] [] pos) true 1 (iRng2 ga gb) := fun E EX => by
  refine ⟨_, pi_range2 (X := X.wish E) hg hm (pa_cons (X := X.wish E) (ha E EX) (hb.a1 hs2 E EX) (by show starEach [a, b] X.env = (false, eval a X.env) :: starEach [b] X.env; rw [hs, hs2])) hs hs2, fun σ' H R ⟨m, h, σ, ex, S, Rr, P⟩ => ?_⟩
  refine sub ex S Rr P fun v m1 h1 H1 v' x1 R1 r1 P1 => sub ex (S.mono x1) R1 P1 fun w m2 h2 H2 w' x2 R2 r2 P2 => ?_
  cases v with
  | int i => cases w with
    | int j =>
      cases (show v' = V.int i from r1)
      cases (show w' = V.int j from r2)
      dsimp only at P2
      split at P2
      · rename_i c
        exact ⟨i, j, rfl, c, Post.here R2 P2 _ jok_range⟩
      · exact P2.elim
    | _ => exact P2.elim
  | _ => exact P2.elim
end L2.Rv

set_option linter.all false
set_option maxRecDepth 100000
namespace L2.Rv
open PySem PySem.Spec PyProof.Rows
variable {G : Gb} {m m' m1 m2 : List Addr} {h h' h1 h2 : MH} {H H' H1 H2 : Hp} {X : Cx} {E : Value → Shared → Prop} {EX : St → Prop} {σ : MSt} {σ' : St}
/-! ### an exception flies -/
/-- .. and has its traceback -/
def ExcTr (C a : Addr) (ok : Addr → Prop) (hp : Heap) : Prop :=
  ∃ oe vs T oT ts, hp.get? a = some oe ∧ oe.cls = .ref C ∧ oe.dict = none ∧ oe.data = .fields vs ∧ 1 < vs.size ∧ ok a ∧ vs[1]? = some (.ref T) ∧ T ≠ a ∧ hp.get? T = some oT ∧ oT.data = .fields ts ∧ 3 < ts.size ∧ ok T
theorem ExcTr.sh {C a : Addr} {ok : Addr → Prop} {hp : Heap} (x : ExcTr C a ok hp) : ExcSh C a ok hp := by
  obtain ⟨oe, vs, T, oT, ts, a1, a2, a3, a4, a5, a6, b1, b2, b3, b4, b5, b6⟩ := x
  exact ⟨oe, vs, a1, a2, a3, a4, a5, a6, .inr ⟨T, oT, ts, b1, b2, b3, b4, b5, b6⟩⟩
section
variable {M : Model} {A : Around} {pins : List (Addr × Obj)} {s : Shared} {C a : Addr} {Q : Unit → Shared → Prop}
theorem Fp.of {b : Addr} (I : Inv X pins σ' H s) (e : s.heap.get? b = none) (n : H' b = none) : Fp X pins H' b := by
  have ne : ∀ c o, s.heap.get? c = some o → c ≠ b := fun c o q z => by rw [z, e] at q; cases q
  refine ⟨n, ?_, fun z => ?_, ?_, fun x c q => ?_, fun p hp => ?_⟩
  · obtain ⟨_, ⟨o, _, _, ho, _⟩, _⟩ := I.loc
    exact fun z => ne _ o ho z.symm
  · obtain ⟨_, o, ho, _⟩ := I.funs.mem z
    exact ne _ o ho rfl
  · by_cases hx : b ∈ X.ex
    · exact .inl hx
    · cases q : X.s₀.heap.get? b with
      | none => exact .inr rfl
      | some o =>
        obtain ⟨o', q'⟩ := I.base.there b o q hx
        exact absurd rfl (ne b o' q')
  · obtain ⟨v, o, ho, _⟩ := I.cell x c q
    exact ne c o ho
  · exact ne _ _ (I.pin p hp).1
theorem Fp.turned {b : Addr} {h' : Heap} {t' : Nat} (f : Fp X pins H b) (I : Inv X pins σ' H s) (k : ∀ c o, c ≠ b → s.heap.get? c = some o → h'.get? c = some o) : Inv X pins σ' H { s with heap := h', toks := t' } := by
  have n0 : ∀ c o, X.s₀.heap.get? c = some o → c ∉ X.ex → c ≠ b := fun c o q hx z => by
    rcases f.new with y | y
    · exact hx (z ▸ y)
    · rw [z, y] at q; cases q
  have ck : ∀ x c v, X.env.cells.lookup x = some c → s.heap.IsCell c v → h'.IsCell c v := fun x c v q ⟨o, ho, hd⟩ => ⟨o, k c o (f.ce x c q) ho, hd⟩
  refine ⟨I.ok, I.os, I.bare, ⟨fun c o q n hb hx => k c o (n0 c o q hx) (I.base.keep c o q n hb hx), fun c o q n hb hx => ?_, fun c o q n hx => I.base.free c o q n hx, fun c o q hx => ?_, I.base.tups, I.base.frzs, I.base.tbls⟩, ?_, fun x c q => ?_, I.free, I.freeC, fun p hp => ?_, fun c u e => ?_, I.len⟩
  · obtain ⟨sl, z⟩ := I.base.slot c o q n hb hx
    exact ⟨sl, k c _ (n0 c o q hx) z⟩
  · obtain ⟨o', z⟩ := I.base.there c o q hx
    exact ⟨o', k c o' (n0 c o q hx) z⟩
  · obtain ⟨mm, ⟨o, es, ep, ho, r⟩, hl⟩ := I.loc
    refine ⟨mm, ⟨o, es, ep, k _ o (Ne.symm f.loc) ho, r⟩, fun i x v e1 e2 e3 => ?_⟩
    obtain ⟨u, ru, l⟩ := hl i x v e1 e2 e3
    refine ⟨u, ru, ?_⟩
    rcases l with l | ⟨kk, c, e, z⟩
    · exact .inl l
    · exact .inr ⟨kk, c, e, ck x c _ e z⟩
  · obtain ⟨v, z⟩ := I.cell x c q
    exact ⟨v, ck x c v q z⟩
  · obtain ⟨a1, a2, a3, a4, a5⟩ := I.pin p hp
    exact ⟨k _ _ (f.pin p hp) a1, a2, a3, a4, a5⟩
  · refine (I.hok c u e).stay (fun d v hd q => k d v ?_ q) (fun _ q => q) fun _ _ q => q
    rcases hd with z | z
    · rw [z]; exact fun y => by rw [y, f.un] at e; cases e
    · exact fun y => by rw [y, f.un] at z; cases z
theorem exc_flightT {fr : Option Addr} (I : Inv X pins σ' H s) (x : ExcTr C a (Fp X pins H) s.heap) (k : ∀ s', Inv X pins σ' H s' → ExcTr C a (Fp X pins H) s'.heap → Q () s') : wpAny M A (setFlight (.ref a) fr) Q E s := by
  obtain ⟨oe, vs, T, oT, ts, a1, a2, a3, a4, a5, a6, b1, b2, b3, b4, b5, b6⟩ := x
  unfold setFlight
  refine wpAny_bind (wpAny_field a1 a4 b1 ?_)
  rw [if_pos (show (Value.ref T != Value.none) = true from by simp)]
  have hd := Obj.data_mapFields b4 (·.setIfInBounds 3 (fr.elim Value.none fun f => rawInt f))
  refine wpAny_setField b3 b4 b5 (k { s with heap := s.heap.update T (Obj.mapFields (·.setIfInBounds 3 (fr.elim Value.none fun f => rawInt f))) } (b6.turned (t' := s.toks) I fun c o hc q => ?_) ⟨oe, vs, T, _, _, ?_, a2, a3, a4, a5, a6, b1, b2, Heap.get?_update_self _ b3 (Obj.isFreed_of_fields hd), hd, by simpa using b5, b6⟩)
  · exact (Heap.get?_update_other _ _ (Ne.symm hc)).trans q
  · exact (Heap.get?_update_other _ _ b2).trans a1
theorem exc_flight {fr : Option Addr} (I : Inv X pins σ' H s) (x : Exc X pins H C a s) (k : ∀ s', Inv X pins σ' H s' → Exc X pins H C a s' → Q () s') : wpAny M A (setFlight (.ref a) fr) Q E s := by
  obtain ⟨oe, vs, a1, a2, a3, a4, a5, a6, a7⟩ := id x
  rcases a7 with a7 | ⟨T, oT, ts, b1, b2, b3, b4, b5, b6⟩
  · unfold setFlight
    refine wpAny_bind (wpAny_field a1 a4 a7 ?_)
    rw [if_neg (by decide)]
    exact wpAny_pure (k s I x)
  · exact exc_flightT I ⟨oe, vs, T, oT, ts, a1, a2, a3, a4, a5, a6, b1, b2, b3, b4, b5, b6⟩ fun s' I' x' => k s' I' x'.sh
/-- the frames' slots have changed -/
theorem Inv.slots {h' : Heap} (I : Inv X pins σ' H s) (hs : Heap.SlotsOnly (frs X.stack) s.heap h') : Inv X pins σ' H { s with heap := h' } := by
  have nt : ∀ b u, H b = some u → b ∉ frs X.stack := fun b u e z => by rw [I.stkFree b z] at e; cases e
  refine I.call' (s' := { s with heap := h' }) (ch := []) rfl ?_ ?_ I.bare (fun b z => absurd z (by simp))
  · exact ⟨fun b o e n nf _ => (hs.2.1 b nf).trans e, fun b o e n _ _ => hs.2.2 b o e, fun b o e n _ => n, fun b o e _ => let ⟨sl, q⟩ := hs.2.2 b o e; ⟨_, q⟩, fun b xs e => e, fun b o u e => e, fun b ps e => ⟨#[], by rw [e]; simp⟩⟩
  · intro b u e
    refine (I.hok b u e).stay (fun c v hc q => ?_) (fun _ q => q) fun _ _ q => q
    rcases hc with z | z
    · rw [z] at q ⊢; exact (hs.2.1 b (nt b u e)).trans q
    · exact (hs.2.1 c (nt c _ z)).trans q
theorem exc_entry {head : Value} {hn : Bool} (hfr : A.frames = some (X.env :: X.outer)) (hst : X.stack = X.env :: X.outer) (hf : X.env.frame = some X.env.locals) (I : Inv X pins σ' H s) (x : Exc X pins H C a s)
    (k : ∀ s', Inv X pins σ' H s' → ExcTr C a (Fp X pins H) s'.heap → Q () s') :
    wpAny M A (do let b ← frameOf X.env; let pl ← entryPlaceOf X.env.locals hn; let t ← EntryCells.newEntry head b .none (rawInt X.env.locals) .none pl; setField (.ref a) 1 t) Q E s := by
  obtain ⟨oe, vs, a1, a2, a3, a4, a5, a6, a7⟩ := id x
  have hl : s.heap.FunFrames X.base (X.env :: X.outer) := hst ▸ I.stack
  refine wpAny_bind (wpAny_frameOf_fun hfr hl hf fun h₁ hs₁ => ?_)
  refine wpAny_bind (wpAny_entryPlaceOf fun pl hpl => ?_)
  unfold EntryCells.newEntry newFields
  refine wpAny_bind (wpAny_newObj_type ?_ (hpl.sizeOk5 _ _ _ _ _))
  have hne : a ∉ frs X.stack := fun hm => by
    rw [hst] at hm
    obtain ⟨_, o, ho, hnf⟩ := hl.mem hm
    rw [a1] at ho; cases ho; exact hnf vs a4
  have I₁ : Inv X pins σ' H { s with heap := h₁ } := Inv.slots I (by rw [hst]; exact hs₁)
  have e₁ : h₁.get? a = some oe := (hs₁.2.1 a (by rw [hst] at hne; exact hne)).trans a1
  have e₂ := Heap.get?_push_of_some (h := h₁) { cls := .type "traceback", dict := none, data := .fields ([head, .ref X.env.locals, .none, rawInt X.env.locals, .none] ++ (if pl.isEmpty then List.replicate 6 Value.none else pl)).toArray } e₁
  have I₂ := I₁.kept (t' := s.toks) (h' := h₁.push { cls := .type "traceback", dict := none, data := .fields ([head, .ref X.env.locals, .none, rawInt X.env.locals, .none] ++ (if pl.isEmpty then List.replicate 6 Value.none else pl)).toArray }) fun b o e => Heap.get?_push_of_some _ e
  have hTa : h₁.objs.size ≠ a := Nat.ne_of_gt (Heap.lt_size e₁)
  have fT : Fp X pins H h₁.objs.size := Fp.of I₁ (Heap.get?_none_of_le (Nat.le_refl _)) (I₁.hok.fresh (Nat.le_refl _))
  have hd := Obj.data_mapFields a4 (·.setIfInBounds 1 (Value.ref h₁.objs.size))
  refine wpAny_setField e₂ a4 a5 (k _ (a6.turned (t' := s.toks) I₂ fun c o hc q => (Heap.get?_update_other _ _ (Ne.symm hc)).trans q) ?_)
  have hT := (Heap.get?_update_other (h₁.push { cls := .type "traceback", dict := none, data := .fields ([head, .ref X.env.locals, .none, rawInt X.env.locals, .none] ++ (if pl.isEmpty then List.replicate 6 Value.none else pl)).toArray }) (Obj.mapFields (·.setIfInBounds 1 (Value.ref h₁.objs.size))) (Ne.symm hTa)).trans (Heap.get?_push_size h₁ rfl)
  refine ⟨_, _, h₁.objs.size, _, _, Heap.get?_update_self _ e₂ (Obj.isFreed_of_fields hd), (Obj.cls_mapFields _ _).trans a2, ?_, hd, by simpa using a5, a6, by simp [a5], hTa, hT, rfl, ?_, fT⟩
  · obtain ⟨c, d, dt, sl⟩ := oe; cases dt <;> exact a3
  · simp only [List.size_toArray, List.length_append, List.length_cons, List.length_nil]; omega
theorem exc_note (hfr : A.frames = some (X.env :: X.outer)) (hst : X.stack = X.env :: X.outer) (hf : X.env.frame = some X.env.locals) (I : Inv X pins σ' H s) (x : Exc X pins H C a s)
    (k : ∀ s', Inv X pins σ' H s' → ExcTr C a (Fp X pins H) s'.heap → Q () s') : wpAny M A (noteFrame (.ref a) X.env) Q E s := by
  obtain ⟨oe, vs, a1, a2, a3, a4, a5, a6, a7⟩ := id x
  unfold noteFrame
  simp only [hf]
  rcases a7 with a7 | ⟨T, oT, ts, b1, b2, b3, b4, b5, b6⟩
  · refine wpAny_bind (wpAny_field a1 a4 a7 ?_)
    rw [if_neg (by decide)]
    exact exc_entry hfr hst hf I x k
  · refine wpAny_bind (wpAny_field a1 a4 b1 ?_)
    rw [if_pos (show (Value.ref T != Value.none) = true from by simp)]
    obtain ⟨v3, h3⟩ : ∃ v, ts[3]? = some v := ⟨ts[3], by simp [b5]⟩
    refine wpAny_bind (wpAny_field b3 b4 h3 ?_)
    by_cases hq : (v3 == rawInt X.env.locals) = true
    · rw [if_pos hq]
      exact wpAny_pure (k s I ⟨oe, vs, T, oT, ts, a1, a2, a3, a4, a5, a6, b1, b2, b3, b4, b5, b6⟩)
    · rw [if_neg hq]
      have hd := Obj.data_mapFields b4 (·.setIfInBounds 3 Value.none)
      refine wpAny_bind (wpAny_setField b3 b4 b5 ?_)
      refine exc_entry hfr hst hf (s := { s with heap := s.heap.update T (Obj.mapFields (·.setIfInBounds 3 Value.none)) }) (b6.turned (t' := s.toks) I fun c o hc q => ?_) ?_ k
      · exact (Heap.get?_update_other _ _ (Ne.symm hc)).trans q
      · exact ⟨oe, vs, (Heap.get?_update_other _ _ b2).trans a1, a2, a3, a4, a5, a6, .inr ⟨T, _, _, b1, b2, Heap.get?_update_self _ b3 (Obj.isFreed_of_fields hd), hd, by simpa using b5, b6⟩⟩
end
/-- the wish about exceptions that a body bears: of the class c, with the heap h0 -/
def EB (G : Gb) (X : Cx) (EX : St → Prop) (pins : List (Addr × Obj)) (m : List Addr) (H : Hp) (c : Nat) (h0 : MH) : Value → Shared → Prop := fun e s' =>
  ∃ σ' m' H' a, EX σ' ∧ Ext m H m' H' ∧ HR G m' h0 H' ∧ Inv X pins σ' H' s' ∧ e = .ref a ∧ Exc X pins H' (G.cl c) a s'
theorem EB.passes {pins : List (Addr × Obj)} {c : Nat} {h0 : MH} (hfr : X.A.frames = some (X.env :: X.outer)) (hst : X.stack = X.env :: X.outer) (hf : X.env.frame = some X.env.locals) :
    PassesOwn (model X.prog X.w) X.A X.env (EB G X EX pins m H c h0) := by
  rintro e s ⟨σ', m', H', a, ex, x, R, I, rfl, q⟩
  refine exc_note hfr hst hf I q fun s1 I1 q1 => ?_
  unfold cameBackBy
  obtain ⟨oe, vs, T, oT, ts, a1, a2, a3, a4, a5, a6, b1, b2, b3, b4, b5, b6⟩ := id q1
  refine wpAny_bind (wpAny_field a1 a4 b1 ?_)
  rw [if_neg (by simp)]
  exact exc_flightT I1 q1 fun s2 I2 q2 => ⟨σ', m', H', a, ex, x, R, I2, rfl, q2.sh⟩
/-- how an exception lies behind a call -/
def CXe (P : Program) (w : World) : CXT := fun outer H s E e s' =>
  ∃ a C H', e = .ref a ∧ s'.os = s.os ∧ AllBare s'.gens ∧ Un (frs outer) [] H H' s.heap s'.heap ∧ HOk P w H' s'.heap ∧ ExcSh C a (fun b => s.heap.get? b = none ∧ H' b = none) s'.heap ∧ E (.ref C) none H'
/-- a def's promise, by its reading -/
def SpG (cl : Nat → Addr) (K : PySem.W.Frag) (n : Nat) (f : Fn) : Sp := fun vs H Q E => ∃ sa ns m h ms, vs.length = n ∧ VRs ⟨cl, K, sa, ns⟩ m H ms vs ∧ HR ⟨cl, K, sa, ns⟩ m h H ∧
  match f ms h with
  | .ok v h' => ∀ m' H' v', Ext m H m' H' → HR ⟨cl, K, sa, ns⟩ m' h' H' → VR ⟨cl, K, sa, ns⟩ m' H' v v' → Q v' H'
  | .exc c h' => ∀ m' H', Ext m H m' H' → HR ⟨cl, K, sa, ns⟩ m' h' H' → E (.ref (cl c)) none H'
  | .stuck => False
structure FnG (P : Program) (w : World) (K : PySem.W.Frag) (mg : Str → Option Value) (base : Heap) (cl : Nat → Addr) (k : Nat) (f : Addr) (fd : FuncData) (ps : List Str) (gf : Fn) : Prop where
  ok : FnOk P w K mg base (CXe P w) k f fd ps (SpG cl K ps.length gf)
  ar : ∀ ms h, gf ms h ≠ .stuck → ms.length = ps.length
theorem PSs_to {E' : Value → Shared → Prop} {st : List Stmt} {t : TS} (p : PSs (X.wish E') st t) (f : ∀ e s', E' e s' → X.xe e s') : PSs X st t := fun pins s σ H D I hw =>
  wpAny_mono (p pins s σ H D (I.wish E') hw) (fun _ _ q => SP.unwish q) f
theorem PSs_ok {st : List Stmt} {t : TS} (p : X.Ok → PSs X st t) : PSs X st t := fun pins s σ H D I hw => p I.ok pins s σ H D I hw
theorem vrs_start {ms : List MV} {vs : List V} {N : List Str} (r : VRs G m H ms vs) : SR G m H (ms.map some ++ List.replicate (N.length - ms.length) none) (start N vs) := by
  refine ⟨by simp [start, Paired.length r], fun i v e => ?_⟩
  have hi : i < ms.length := by
    by_cases hi : i < ms.length
    · exact hi
    · rw [List.getElem?_append_right (by simpa using hi), List.getElem?_replicate] at e
      split at e <;> cases e
  rw [List.getElem?_append_left (by simpa using hi), List.getElem?_map] at e
  cases e1 : ms[i]? with
  | none => rw [e1] at e; cases e
  | some w =>
    rw [e1] at e
    cases e
    obtain ⟨v', q, rv⟩ := pairGet r e1
    refine ⟨v', ?_, rv⟩
    unfold start
    rw [List.getElem?_append_left (by simpa [← Paired.length r] using hi), List.getElem?_map, q]
    rfl
section
variable {P : Program} {w : World} {K : PySem.W.Frag} {mg : Str → Option Value} {base : Heap} {cl : Nat → Addr}
/-- THE RULE of a def -/
theorem fun_okG {x qual : Str} {st : Stmt} {f : Addr} {fd : FuncData} {N ps : List Str} {k : Nat} {g : MS} {gf : Fn} (F : Fun K x qual st f fd) (S : FnScope N ps (defScope st)) (hgf : gf = fnOf ps.length N.length g)
    (hbody : ∀ (cdv : Value) (A : Around) (outer : List Env) (s : Shared) (H : Hp) (E : XK) (sa : Addr) (ns : List Int), Room k (A.deeper (envOfC qual (defScope st) s.heap.objs.size f cdv)) →
      GSs ⟨cl, K, sa, ns⟩ ET (cxOf (CXe P w) P w K mg base N qual (defScope st) f cdv A outer s H E) (defBody st) g) : FnG P w K mg base cl (k + 1) f fd ps gf := by
  subst hgf
  refine ⟨?_, fun ms h q => ?_⟩
  rotate_left
  · unfold fnOf at q
    split at q
    · assumption
    · exact absurd rfl q
  obtain ⟨oc, od, kV, doc, pm, an, cdv, ct, osl, rfl, lk, hcd⟩ := F.ex
  refine fn_of lk hcd S (fun vs H Q E q => ?_) fun A outer s H vs Q E hr hsp => ?_
  · obtain ⟨sa, ns, m, h, ms, hl, _⟩ := q; exact hl
  · obtain ⟨sa, ns, m, h, ms, hl, rv, R, post⟩ := hsp
    have hb := hbody cdv A outer s H E sa ns hr
    have S0 := vrs_start (N := N) rv
    cases e : g (ms.map some ++ List.replicate (N.length - ms.length) none) h with
    | ok fl h' =>
      refine ⟨_, PSs_to (hb (fun _ _ => False) PassesOwn.never) (fun _ _ z => z.elim), m, h, _, trivial, S0, R, ?_⟩
      rw [e]
      unfold fnOf at post
      rw [if_pos (show ms.length = ps.length from (Paired.length rv).trans hl)] at post
      simp only [bnd, e] at post
      intro m' H' x R'
      cases fl with
      | next σ1 => exact fun _ _ => post m' H' .non x R' rfl
      | ret v => exact fun v' r => post m' H' v' x R' r
      | brk σ1 => exact post.elim
      | cnt σ1 => exact post.elim
    | exc c h' =>
      unfold fnOf at post
      rw [if_pos (show ms.length = ps.length from (Paired.length rv).trans hl)] at post
      simp only [bnd, e] at post
      refine ⟨_, PSs_ok fun ok => PSs_to (hb (EB ⟨cl, K, sa, ns⟩ _ ET [] m H c h') (EB.passes ok.frames rfl rfl)) ?_, m, h, _, trivial, S0, R, ?_⟩
      · rintro ev s' ⟨σ', m', H', a, _, x, R', I, rfl, q⟩
        show wpAny (model P w) _ (leaving _ (.ref a)) _ _ s'
        unfold leaving
        refine wpAny_bind (exc_note ok.frames rfl rfl I q fun s1 I1 q1 => ?_)
        refine exc_flightT I1 q1 fun s2 I2 q2 => ⟨a, cl c, H', rfl, I2.os, I2.bare, I2.base, I2.hok, q2.sh.imp (fun b fb => ⟨fb.new.elim (fun z => absurd z (by simp [cxOf])) id, fb.un⟩), post m' H' x R'⟩
      · rw [e]
        intro pins σ' m' H' a s' _ x R' I q
        exact ⟨σ', m', H', a, trivial, x, R', I.pins_of (fun p hp => absurd hp (by simp)), rfl, q.imp fun b fb => ⟨fb.un, fb.loc, fb.fs, fb.new, fb.ce, fun p hp => fb.pin p (List.mem_append_left _ (by simpa using hp))⟩⟩
    | stuck =>
      unfold fnOf at post
      rw [if_pos (show ms.length = ps.length from (Paired.length rv).trans hl)] at post
      simp only [bnd, e] at post
end
end L2.Rv

set_option linter.all false
set_option maxRecDepth 100000
namespace L2.Rv
open PySem PySem.Spec PyProof.Rows
variable {G : Gb} {m m' m1 m2 : List Addr} {h h' h1 h2 : MH} {H H' H1 H2 : Hp} {X : Cx} {E : Value → Shared → Prop} {EX : St → Prop} {σ : MSt} {σ' : St}
/-! ### calls -/
abbrev FnX (G : Gb) (X : Cx) (k : Nat) (f : Addr) (fd : FuncData) (ps : List Str) (gf : Fn) : Prop := FnG X.prog X.w X.K X.mg X.base G.cl k f fd ps gf
section
variable {k : Nat} {f : Addr} {fd : FuncData} {ps : List Str} {gf : Fn} {pins : List (Addr × Obj)} {s : Shared} {Q : VK} {us : List Value} {vs : List V} {ms : List MV}
/-- the wish about a callee's exception -/
def EXK (G : Gb) (m : List Addr) (H : Hp) (r : Res MV) : XK := fun C _ H' => match r with
  | .exc c h' => C = .ref (G.cl c) ∧ ∃ m', Ext m H m' H' ∧ HR G m' h' H'
  | _ => False
theorem sp_of (hK : X.K = G.K) (rv : VRs G m H ms vs) (R : HR G m h H) (hl : ms.length = ps.length) (ns : gf ms h ≠ .stuck) {Q : VK} (P : ∀ v h', gf ms h = .ok v h' → ∀ m' H' v', Ext m H m' H' → HR G m' h' H' → VR G m' H' v v' → Q v' H') :
    SpG G.cl X.K ps.length gf vs H Q (EXK G m H (gf ms h)) := by
  rw [hK]
  refine ⟨G.sa, G.ns, m, h, ms, (Paired.length rv).symm.trans hl, rv, R, ?_⟩
  cases e : gf ms h with
  | ok v h' => exact P v h' e
  | exc c h' => exact fun m' H' x R' => ⟨rfl, m', x, R'⟩
  | stuck => exact absurd e ns
theorem exc_back (I : Inv X pins σ' H s) {r : Res MV} {e : Value} {s' : Shared} (q : CXe X.prog X.w X.stack H s (EXK G m H r) e s') :
    ∃ c h' m' H' a, r = .exc c h' ∧ e = .ref a ∧ Ext m H m' H' ∧ HR G m' h' H' ∧ Inv X pins σ' H' s' ∧ Exc X pins H' (G.cl c) a s' := by
  obtain ⟨a, C, H', rfl, os, bare, un, hok, sh, ek⟩ := q
  cases r with
  | exc c h' =>
    obtain ⟨ec, m', x, R'⟩ := ek
    cases ec
    exact ⟨c, h', m', H', a, rfl, rfl, x, R', I.call' os un hok bare (fun b z => absurd z (by simp)), sh.imp fun b z => Fp.of I z.1 z.2⟩
  | ok v h' => exact ek.elim
  | stuck => exact ek.elim
theorem run_fnG (F : FnX G X k f fd ps gf) (hr : Room k X.A) (hb : Binds X.K fd ps []) (hK : X.K = G.K) (I : Inv (X.wish E) pins σ' H s) (ex : EX σ') (R : HR G m h H) (rv : VRs G m H ms vs) (r : Vals vs us)
    (P : Post G X E EX m H (gf ms h) fun v m' _ H' => ∀ v', VR G m' H' v v' → Q v' H') : wpAny (model X.prog X.w) X.A (call (.ref f) us) (EP (X.wish E) pins σ' Q) E s := by
  have ns : gf ms h ≠ .stuck := fun z => by rw [z] at P; exact P
  have hl := F.ar ms h ns
  have hu : us.length = ps.length := by rw [← r.length, ← Paired.length rv]; exact hl
  have bt : BindsTo s fd ⟨us, []⟩ (ps.zip us) := by
    have := hb s us I.kIn (by simpa using hu)
    simpa using this
  refine wpAny_call (codeAny_mono (F.ok.run X.A X.stack s H ⟨us, []⟩ us vs Q (EXK G m H (gf ms h)) hr I.unwish.env0 bt r (sp_of hK rv R hl ns fun v h' e m' H' v' x R' q => ?_)) fun rr s' hq => ?_)
  · rw [e] at P; exact P m' H' x R' v' q
  · cases rr with
    | error ev =>
      obtain ⟨c, h', m', H', a, er, rfl, x, R', I', q⟩ := exc_back I.unwish hq
      rw [er] at P
      exact P pins σ' m' H' a s' ex x R' I' q
    | ok fl =>
      cases fl with
      | ret u => exact I.after hq
      | next => exact False.elim hq
      | brk => exact False.elim hq
      | cont => exact False.elim hq
end
section
variable {k : Nat} {f C : Addr} {fd : FuncData} {ps : List Str} {gf : Fn} {x : Str} {p pos apos : Pos} {e o : Expr} {es : List Expr} {ga : MA} {go : ME}
/-- f(..) of the text -/
theorem ge_call (F : FnX G X k f fd ps gf) (hr : Room k X.A) (hm : X.mg x = some (.ref f)) (hk : PySem.W.keepIn X.K (.ref f) = true) (hb : Binds X.K fd ps []) (ha : GA G X (e :: es) ga) (hg : Gl X x := by rfl) (hK : X.K = G.K := by rfl)
    (hdb : (x == ("__debug__" : Str)) = false := by decide) (he : starEach (e :: es) X.env = (false, eval e X.env) :: starEach es X.env := by rfl) (hpl : (backTo pos (starEach es X.env)).any (·.1) = false := by rfl) :
    GE G X (.Call (.Name x p) (e :: es) [] pos) (eCall gf ga) := fun E EX pins s σ' H Q I ⟨m, h, σ, ex, S, R, P⟩ => by
  refine wpAny_Call_Name_kw (ld_glob I hg hm ?_ hdb)
  refine PySem.W.callWith_K (h₀ := X.base) I.ok.mod.kin hk (thn (ha E EX pos pins s σ' H (fun vs H1 => ∃ m1 h1 ms, HR G m1 h1 H1 ∧ VRs G m1 H1 ms vs ∧ Post G X E EX m1 H1 (gf ms h1) fun v m' _ H' => ∀ v', VR G m' H' v v' → Q v' H') I
    (subA ex S R P fun ms m1 h1 H1 vs x1 R1 r1 P1 => ⟨m1, h1, ms, R1, r1, P1⟩)) fun us s1 ⟨vs, H1, I1, r, m1, h1, ms, R1, rv, P1⟩ => ⟨I1.kIn, ?_⟩) he hpl
  exact run_fnG (X := X) F hr hb hK I1 ex R1 rv r P1
/-- f() -/
theorem ge_call0 (F : FnX G X k f fd ps gf) (hr : Room k X.A) (hm : X.mg x = some (.ref f)) (hk : PySem.W.keepIn X.K (.ref f) = true) (hb : Binds X.K fd ps []) (hg : Gl X x := by rfl) (hK : X.K = G.K := by rfl)
    (hdb : (x == ("__debug__" : Str)) = false := by decide) : GE G X (.Call (.Name x p) [] [] pos) (eCall gf aNil) := fun E EX pins s σ' H Q I ⟨m, h, σ, ex, S, R, P⟩ => by
  refine wpAny_Call_Name_kw (ld_glob I hg hm ?_ hdb)
  exact PySem.W.callWith_K0 I.kIn hk (run_fnG (X := X) (us := []) F hr hb hK I ex R .nil .nil P)
/-- the method's object -/
theorem meth_obj {c : Nat} {mth : String} {n : Nat} {x' : V} {β : Type} {kk : M β} {Q : β → List Addr → MH → Hp → Prop} (R : HR G m h H) (r : VR G m H (.ref n) x')
    (P : Post G X E EX m H (bnd (look n) (fun ob => match ob with
      | .ins c' fs => if c' = c ∧ fs.lookup mth = none then kk else stk
      | _ => stk) h) Q) : ∃ a dx ws, x' = .ref a ∧ H a = some (.ins (G.cl c) dx ws) ∧ ws.lookup (Str.ofString mth) = none ∧ Post G X E EX m H (kk h) Q := by
  obtain ⟨a, ea, rfl⟩ := r
  obtain ⟨oa, e1, q1, P1⟩ := look_post R ea P
  cases oa with
  | ins c' fs =>
    dsimp only at P1
    split at P1
    · rename_i cc
      obtain ⟨rfl, hn⟩ := cc
      obtain ⟨dx, ws, rf, z⟩ := q1
      exact ⟨a, dx, ws, rfl, z, lookN rf hn, P1⟩
    · exact P1.elim
  | _ => exact P1.elim
theorem ge_meth {pl : Sem Bool} {c : Nat} {mth : String} (ho : GE G X o go) (cC : Cls X.K (G.cl c)) (hm : Meth X.K (G.cl c) (Str.ofString mth) f) (F : FnX G X k f fd ps gf) (hr : Room k X.A) (hb : Binds X.K fd ps []) (ha : GA G X (e :: es) ga) (hK : X.K = G.K := by rfl)
    (hst : starEach (e :: es) X.env = (false, eval e X.env) :: starEach es X.env := by rfl) (hpl : (backTo pos (starEach es X.env)).any (·.1) = false := by rfl)
    (ht : eval (.Call (.Attribute o (Str.ofString mth) apos) (e :: es) [] pos) X.env = (do
      let ov ← eval o X.env
      standAt apos.atName
      let (f, first) ← holding [ov] (getMethod ov (Str.ofString mth) pl)
      callWith pos f first (backTo pos (starEach (e :: es) X.env)) (backToKw pos (keywordEach [] X.env))) := by rfl) :
    GE G X (.Call (.Attribute o (Str.ofString mth) apos) (e :: es) [] pos) (eMeth c mth gf go ga) := fun E EX pins s σ' H Q I ⟨m, h, σ, ex, S, R, P⟩ => by
  refine PySem.W.methodCall_KW (pl := pl) (thn (ho E EX pins s σ' H (fun x H1 => ∃ a dx ws, x = .ref a ∧ H1 a = some (.ins (G.cl c) dx ws) ∧ ws.lookup (Str.ofString mth) = none ∧ ∃ m1 h1 n, HR G m1 h1 H1 ∧ SR G m1 H1 σ σ' ∧ VR G m1 H1 (.ref n) x ∧
      Post G X E EX m1 H1 (bnd (ga σ) (fun xs => gf (.ref n :: xs)) h1) fun v m' _ H' => ∀ v', VR G m' H' v v' → Q v' H') I (sub ex S R P fun v m1 h1 H1 v' x1 R1 r1 P1 => ?_)) fun u s1 ⟨x, H1, I1, rx, a, dx, ws, exx, ea, l, m1, h1, n, R1, S1, rn, P1⟩ => ?_) ht
  · cases v with
    | ref n =>
      obtain ⟨a, dx, ws, e1, e2, e3, P2⟩ := meth_obj R1 r1 P1
      exact ⟨a, dx, ws, e1, e2, e3, m1, h1, n, R1, S.mono x1, r1, P2⟩
    | _ => exact P1.elim
  · subst exx
    obtain rfl : u = Value.ref a := rx
    refine getmeth_ok I1 ea cC hm l ?_
    refine PySem.W.callWith_K (first := [.ref a]) (h₀ := X.base) I.ok.mod.kin hm.kp (thn (ha E EX pos pins s1 σ' H1 (fun vs H2 => ∃ m2 h2 ms, HR G m2 h2 H2 ∧ VRs G m2 H2 (.ref n :: ms) (.ref a :: vs) ∧ Post G X E EX m2 H2 (gf (.ref n :: ms) h2) fun v m' _ H' => ∀ v', VR G m' H' v v' → Q v' H') I1
      (subA ex S1 R1 P1 fun ms m2 h2 H2 vs x2 R2 r2 P2 => ⟨m2, h2, ms, R2, .cons (x2.vr rn) r2, P2⟩)) fun us s2 ⟨vs, H2, I2, r, m2, h2, ms, R2, rv, P2⟩ => ⟨I2.kIn, ?_⟩) hst hpl
    exact run_fnG (X := X) (us := .ref a :: us) (vs := .ref a :: vs) F hr hb hK I2 ex R2 rv (.cons rfl r) P2
theorem ge_meth0 {pl : Sem Bool} {c : Nat} {mth : String} (ho : GE G X o go) (cC : Cls X.K (G.cl c)) (hm : Meth X.K (G.cl c) (Str.ofString mth) f) (F : FnX G X k f fd ps gf) (hr : Room k X.A) (hb : Binds X.K fd ps []) (hK : X.K = G.K := by rfl)
    (ht : eval (.Call (.Attribute o (Str.ofString mth) apos) [] [] pos) X.env = (do
      let ov ← eval o X.env
      standAt apos.atName
      let (f, first) ← holding [ov] (getMethod ov (Str.ofString mth) pl)
      callWith pos f first (backTo pos (starEach [] X.env)) (backToKw pos (keywordEach [] X.env))) := by rfl) :
    GE G X (.Call (.Attribute o (Str.ofString mth) apos) [] [] pos) (eMeth c mth gf go aNil) := fun E EX pins s σ' H Q I ⟨m, h, σ, ex, S, R, P⟩ => by
  refine PySem.W.methodCall_KW (pl := pl) (thn (ho E EX pins s σ' H (fun x H1 => ∃ a dx ws, x = .ref a ∧ H1 a = some (.ins (G.cl c) dx ws) ∧ ws.lookup (Str.ofString mth) = none ∧ ∃ m1 h1 n, HR G m1 h1 H1 ∧ SR G m1 H1 σ σ' ∧ VR G m1 H1 (.ref n) x ∧
      Post G X E EX m1 H1 (bnd (aNil σ) (fun xs => gf (.ref n :: xs)) h1) fun v m' _ H' => ∀ v', VR G m' H' v v' → Q v' H') I (sub ex S R P fun v m1 h1 H1 v' x1 R1 r1 P1 => ?_)) fun u s1 ⟨x, H1, I1, rx, a, dx, ws, exx, ea, l, m1, h1, n, R1, S1, rn, P1⟩ => ?_) ht
  · cases v with
    | ref n =>
      obtain ⟨a, dx, ws, e1, e2, e3, P2⟩ := meth_obj R1 r1 P1
      exact ⟨a, dx, ws, e1, e2, e3, m1, h1, n, R1, S.mono x1, r1, P2⟩
    | _ => exact P1.elim
  · subst exx
    obtain rfl : u = Value.ref a := rx
    refine getmeth_ok I1 ea cC hm l ?_
    exact PySem.W.callWith_K0 (first := [.ref a]) I1.kIn hm.kp (run_fnG (X := X) (us := [.ref a]) (vs := [.ref a]) F hr hb hK I1 ex R1 (.cons rn .nil) (.cons rfl .nil) P1)
/-- C(..) -/
theorem ge_make {c : Nat} (M : Mk X.K (G.cl c) f) (F : FnX G X k f fd ps gf) (hr : Room (k + 1) X.A) (hm : X.mg x = some (.ref (G.cl c))) (hb : Binds X.K fd ps []) (ha : GA G X (e :: es) ga) (hg : Gl X x := by rfl) (hK : X.K = G.K := by rfl)
    (hdb : (x == ("__debug__" : Str)) = false := by decide) (he : starEach (e :: es) X.env = (false, eval e X.env) :: starEach es X.env := by rfl) (hpl : (backTo pos (starEach es X.env)).any (·.1) = false := by rfl) :
    GE G X (.Call (.Name x p) (e :: es) [] pos) (eMake c gf ga) := fun E EX pins s σ' H Q I ⟨m, h, σ, ex, S, R, P⟩ => by
  refine wpAny_Call_Name_kw (ld_glob I hg hm ?_ hdb)
  refine PySem.W.callWith_K (h₀ := X.base) I.ok.mod.kin M.kp (thn (ha E EX pos pins s σ' H (fun vs H1 => ∃ m1 h1 ms, HR G m1 h1 H1 ∧ VRs G m1 H1 ms vs ∧ Post G X E EX m1 H1 (bnd (new (.ins c [])) (fun o => bnd (gf (o :: ms)) fun v => match v with
      | .non => ret o
      | _ => stk) h1) fun v m' _ H' => ∀ v', VR G m' H' v v' → Q v' H') I
    (subA ex S R P fun ms m1 h1 H1 vs x1 R1 r1 P1 => ⟨m1, h1, ms, R1, r1, P1⟩)) fun us s1 ⟨vs, H1, I1, r, m1, h1, ms, R1, rv, P1⟩ => ⟨I1.kIn, ?_⟩) he hpl
  have I2 := Inv.made (C := G.cl c) I1
  have f1 : H1 s1.heap.objs.size = none := I1.hok.fresh (Nat.le_refl _)
  have f2 : H1 (s1.heap.objs.size + 1) = none := I1.hok.fresh (Nat.le_succ _)
  have f2' : upd H1 s1.heap.objs.size (.own (s1.heap.objs.size + 1)) (s1.heap.objs.size + 1) = none := by rw [upd_ne (Nat.succ_ne_self _)]; exact f2
  have x2 : Ext m1 H1 (m1 ++ [s1.heap.objs.size + 1]) (upd (upd H1 s1.heap.objs.size (.own (s1.heap.objs.size + 1))) (s1.heap.objs.size + 1) (.ins (G.cl c) s1.heap.objs.size [])) := (Ext.side f1).trans (Ext.new (R1.side f1) f2')
  have R2 : HR G (m1 ++ [s1.heap.objs.size + 1]) (h1 ++ [.ins c []]) (upd (upd H1 s1.heap.objs.size (.own (s1.heap.objs.size + 1))) (s1.heap.objs.size + 1) (.ins (G.cl c) s1.heap.objs.size [])) := (R1.side f1).new f2' ⟨_, [], .nil, upd_same⟩
  have P2 : Post G X E EX (m1 ++ [s1.heap.objs.size + 1]) (upd (upd H1 s1.heap.objs.size (.own (s1.heap.objs.size + 1))) (s1.heap.objs.size + 1) (.ins (G.cl c) s1.heap.objs.size [])) (bnd (gf (.ref h1.length :: ms)) (fun v => match v with
      | .non => ret (.ref h1.length)
      | _ => stk) (h1 ++ [.ins c []])) fun v m' _ H' => ∀ v', VR G m' H' v v' → Q v' H' := (Post.bind P1) _ _ x2 R2
  have ns : gf (.ref h1.length :: ms) (h1 ++ [.ins c []]) ≠ .stuck := fun z => by unfold bnd at P2; rw [z] at P2; exact P2
  have hl := F.ar _ _ ns
  have rn : VR G (m1 ++ [s1.heap.objs.size + 1]) (upd (upd H1 s1.heap.objs.size (.own (s1.heap.objs.size + 1))) (s1.heap.objs.size + 1) (.ins (G.cl c) s1.heap.objs.size [])) (.ref h1.length) (.ref (s1.heap.objs.size + 1)) := ⟨_, by rw [← R1.len]; simp, rfl⟩
  have rv2 : VRs G (m1 ++ [s1.heap.objs.size + 1]) (upd (upd H1 s1.heap.objs.size (.own (s1.heap.objs.size + 1))) (s1.heap.objs.size + 1) (.ins (G.cl c) s1.heap.objs.size [])) (.ref h1.length :: ms) (.ref (s1.heap.objs.size + 1) :: vs) := .cons rn (x2.vrs rv)
  have r2 : Vals (V.ref (s1.heap.objs.size + 1) :: vs) (Value.ref (s1.heap.objs.size + 1) :: us) := .cons rfl r
  have hu : (Value.ref (s1.heap.objs.size + 1) :: us).length = ps.length := by rw [← r2.length, ← Paired.length rv2]; exact hl
  refine wpAny_call (make_map (f := f) I1.kIn M.makes M.init (beq_iff_eq.mp M.fn) (codeAny_mono (F.ok.run _ X.stack _ _ ⟨Value.ref (s1.heap.objs.size + 1) :: us, []⟩ (Value.ref (s1.heap.objs.size + 1) :: us) _ (fun v H3 => v = .non ∧ Q (.ref (s1.heap.objs.size + 1)) H3) (EXK G _ _ (gf (.ref h1.length :: ms) (h1 ++ [.ins c []]))) (hr.make (G.cl c) us [])
    (I2.unwish.env0.make (G.cl c) us []) (by simpa using hb _ (Value.ref (s1.heap.objs.size + 1) :: us) I2.kIn (by simpa using hu)) r2 (sp_of hK rv2 R2 hl ns fun v h' ev m' H' v' x R' q => ?_)) fun rr s' hq' => ?_))
  · have P3 := P2
    unfold bnd at P3
    rw [ev] at P3
    cases v with
    | non =>
      cases (show v' = V.non from q)
      exact ⟨rfl, P3 m' H' x R' _ (x.vr rn)⟩
    | _ => exact P3.elim
  · cases rr with
    | error ev =>
      obtain ⟨c', h', m', H', a, er, rfl, x, R', I', q⟩ := exc_back (pins := pins) (σ' := σ') I2.unwish hq'
      unfold bnd at P2
      rw [er] at P2
      exact P2 pins σ' m' H' a s' ex x R' I' q
    | ok fl =>
      cases fl with
      | ret u =>
        obtain ⟨v, H', I3, rv', ev, q3⟩ := I2.after hq'
        subst ev
        exact ⟨rv', ⟨V.ref (s1.heap.objs.size + 1), H', I3, rfl, q3⟩⟩
      | next => exact False.elim hq'
      | brk => exact False.elim hq'
      | cont => exact False.elim hq'
end
end L2.Rv

set_option linter.all false
set_option maxRecDepth 100000
namespace L2.Rv
open PySem PySem.Spec PyProof.Rows
variable {G : Gb} {m m' m1 m2 : List Addr} {h h' h1 h2 : MH} {H H' H1 H2 : Hp} {X : Cx} {E : Value → Shared → Prop} {EX : St → Prop} {σ : MSt} {σ' : St}
/-! ### raise of an own class -/
theorem excObj {K : PySem.W.Frag} {hp : Heap} {C : Addr} {bm : List Value} {newId : String} (kx : K.In hp) (q : PySem.W.excIn K C bm newId = true) :
    ∃ tl N nm qn bs hd sn sub ab col dd k0 k1 k2 k3 k5 mN, hp.get? C = some (excClassObj nm qn C N bs tl hd sn sub ab col dd k0 k1 k2 k3 k5 newId) ∧ hp.Ns N mN ∧ mN "__init__" = none ∧ OwnTail hp bm tl := by
  unfold PySem.W.excIn at q
  split at q
  · rename_i ddx cdx slx hox
    split at q
    · rename_i Cx' tlx y0 y1 y2 y3 nx y5 hmx hsx
      simp only [Bool.and_eq_true, beq_iff_eq, Bool.not_eq_true'] at q
      have hno := q.2
      have hns := q.1.2
      have htl := q.1.1.2
      have hdl := q.1.1.1.2
      have e1 := q.1.1.1.1.1
      have e2 := q.1.1.1.1.2
      cases cdx with
      | mk nmx bsx mrox nsx qx hdx snx subx abx colx delx =>
        dsimp only at hmx hdl hns hno
        subst e1; subst e2; subst hmx; subst hdl
        have esl : slx = #[y0, y1, y2, y3, some (.builtin nx), y5] := by
          cases slx with
          | mk l => exact congrArg Array.mk hsx
        subst esl
        exact ⟨tlx, nsx, nmx, qx, bsx, hdx, snx, subx, abx, colx, ddx, y0, y1, y2, y3, y5, _, kx _ _ hox, .of_isNs (PySem.W.isNs_of_in kx hns), PySem.W.nsMap_none_of_in kx hns hno, PySem.W.tail_of_in kx htl⟩
    · cases q
  · cases q
theorem obj_get {P : Program} {w : World} {hp : Heap} {a : Addr} {o : HO} (x : ObjOk P w H hp a o) : ∃ ob, hp.get? a = some ob := by
  cases o with
  | lst xs => obtain ⟨_, _, _, _, e⟩ := x; exact ⟨_, e⟩
  | tup xs => obtain ⟨_, _, _, _, e, _⟩ := x; exact ⟨_, e⟩
  | dK kvs => obtain ⟨_, _, _, _, o, _, _, e, _⟩ := x; exact ⟨_, e⟩
  | dT kvs => obtain ⟨_, _, _, _, o, _, _, e, _⟩ := x; exact ⟨_, e⟩
  | set S n => obtain ⟨o, _, _, _, e, _⟩ := x; exact ⟨_, e⟩
  | ins C dx fs => obtain ⟨_, _, _, e, _⟩ := x; exact ⟨_, e⟩
  | own y => exact x
  | xd fs => obtain ⟨_, ⟨_, _, _, e, _⟩, _⟩ := x; exact ⟨_, e⟩
  | rng lo hi => obtain ⟨_, _, _, e⟩ := x; exact ⟨_, e⟩
  | frz ob u => exact ⟨_, x.1⟩
  | tbl ps => exact ⟨_, x⟩
  | met f y => exact ⟨_, x⟩
  | ext φ => exact x.2.1
theorem Inv.untracked {pins : List (Addr × Obj)} {s : Shared} (I : Inv X pins σ' H s) {a : Addr} (e : s.heap.get? a = none) : H a = none := by
  cases z : H a with
  | none => rfl
  | some u =>
    obtain ⟨o, q⟩ := obj_get (I.hok a u z)
    rw [e] at q; cases q
theorem gs_raise {x : Str} {c : Nat} {bm : List Value} {B newId initId : String} {np cpos pos : Pos} {e : Expr} {es : List Expr} {ga : MA} (FB : ExcBaseFacts B newId initId bm) (q : PySem.W.excIn X.K (G.cl c) bm newId = true) (hm : X.mg x = some (.ref (G.cl c))) (hd : X.A.handled = none)
    (ha : GA G X (e :: es) ga) (hg : Gl X x := by rfl) (hdb : (x == ("__debug__" : Str)) = false := by decide) (he : starEach (e :: es) X.env = (false, eval e X.env) :: starEach es X.env := by rfl) (hpl : (backTo cpos (starEach es X.env)).any (·.1) = false := by rfl) :
    GS G EX X (.Raise (some (.Call (.Name x np) (e :: es) [] cpos)) none pos) (sRaise c ga) := fun E hp pins s σ' H D I ⟨m, h, σ, ex, S, R, P⟩ => by
  obtain ⟨tl, N, nm, qn, bs, hdt, sn, sb, ab, col, dd, k0, k1, k2, k3, k5, mN, oC, oN, ni, T⟩ := excObj I.ok.mod.kin q
  refine wpAny_Raise_call_subU (C := G.cl c) (nm := nm) (q := qn) (N := N) (bs := bs) (bm := tl) (hdct := hdt) (sn := sn) (sub := sb) (ab := ab) (col := col) (dd := dd) (k0 := k0) (k1 := k1) (k2 := k2) (k3 := k3) (k5 := k5) FB FB.hasB FB (mN := mN) (T.hasType FB.hasBase) hd
    (by rw [he]; show (false || (backTo cpos (starEach es X.env)).any (·.1)) = false; rw [hpl]; rfl) ni (ld_glob I hg hm ⟨rfl, ?_⟩ hdb)
  have hA := ha E EX cpos pins s σ' H (fun vs H1 => ∃ m1 h1 ms, HR G m1 h1 H1 ∧ VRs G m1 H1 ms vs ∧ ms.length ≤ 1000 ∧ XP G X E EX m1 H1 c h1) I (subA ex S R P fun ms m1 h1 H1 vs x1 R1 r1 P1 => by
    split at P1
    · rename_i hz; exact ⟨m1, h1, ms, R1, r1, hz, P1⟩
    · exact P1.elim)
  rw [show backTo cpos (starEach (e :: es) (X.wish E).env) = backTo cpos (starEach (e :: es) X.env) from rfl] at hA
  rw [he] at hA ⊢
  refine Calls.evalArgs_plain (wpAny_mono hA (fun us s1 ⟨vs, H1, I1, r, m1, h1, ms, R1, rv, hz, P1⟩ => ⟨rfl, ?_, I1.bk _ _ oC, oN.keeps I1.bk, T.keeps I1.bk, fun h' a hx => ?_⟩) fun _ _ y => y)
  · show us.length ≤ sizeLine
    rw [← r.length, ← Paired.length rv]
    exact small hz
  · obtain ⟨t, ht, _, _⟩ := hx.there
    have I2 : Inv X pins σ' H1 { s1 with heap := h' } := I1.unwish.kept (t' := s1.toks) hx.keeps
    exact P1 pins σ' m1 H1 a _ ex .refl R1 I2 ⟨_, _, ht, rfl, rfl, rfl, by simp, Fp.of I1.unwish hx.new (Inv.untracked I1.unwish hx.new), .inl rfl⟩
/-! ### xs.append(e) -/
section
variable {o e : Expr} {go ge : ME} {apos cpos : Pos}
theorem ge_append (ho : GE G X o go) (he : GE G X e ge) (hbase : attributeBase o (Str.ofString "append") X.env (eval o X.env) = eval o X.env := by rfl)
    (hfew : ((backTo cpos (starEach [e] X.env)).all (fun x => !x.1) && (backToKw cpos (keywordEach [] X.env)).all (fun x => x.1.isSome)
      && decide ([e].length + ([] : List Keyword).length + (if ([] : List Keyword).isEmpty then 0 else 1) < 30)) = true := by rfl)
    (hline : (apos.endLine == cpos.line) = true := by rfl) (hs : starEach [e] X.env = [(false, eval e X.env)] := by rfl) : GE G X (.Call (.Attribute o (Str.ofString "append") apos) [e] [] cpos) (eAppend go ge) := fun E EX =>
  PE_imp (pe_bm (X := X.wish E) PySem.F.plainAttrs_list PySem.F.slot_list_append PySem.F.type_list_append mt_append (ho E EX) (he.a1 hs E EX) hbase hfew hline hs rfl) fun σ' H Q ⟨m, h, σ, ex, S, R, P⟩ =>
    sub ex S R P fun v m1 h1 H1 v' x1 R1 r1 P1 => by
      cases v with
      | ref n =>
        obtain ⟨aa, ea, rfl⟩ := r1
        obtain ⟨ob, eo, qo, P2⟩ := look_post R1 ea P1
        cases ob with
        | lst xs =>
          obtain ⟨vs, rr, z⟩ := qo
          refine ⟨.inl ⟨rfl, vs, SqL.of z⟩, sub ex (S.mono x1) R1 P2 fun w m2 h2 H2 w' x2 R2 r2 P3 => ?_⟩
          have ea2 := x2.get ea
          obtain ⟨ob2, eo2, qo2, P4⟩ := look_post R2 ea2 P3
          cases ob2 with
          | lst ys =>
            obtain ⟨ws, rs, z2⟩ := qo2
            dsimp only at P4
            split at P4
            · rename_i hz
              refine ⟨aa, ws, w', rfl, rfl, z2, by rw [← Paired.length rs]; exact Nat.lt_of_lt_of_le hz (big (Nat.le_refl _)), ?_⟩
              have P5 := put_post R2 ea2 P4
              have x3 : Ext m2 H2 m2 (upd H2 aa (.lst (ws ++ [w']))) := Ext.upd ea2
              exact P5 _ _ x3 (R2.upd ea2 (fun o' yy zz => by rw [z2] at zz; cases zz) ⟨_, x3.vrs (pairApp rs (.cons r2 .nil)), upd_same⟩) _ rfl
            · exact P4.elim
          | _ => exact P4.elim
        | _ => exact P2.elim
      | _ => exact P1.elim
end
end L2.Rv

set_option linter.all false
set_option maxRecDepth 100000
namespace L2.Rv
open PySem PySem.Spec PyProof.Rows
variable {G : Gb} {m m' m1 m2 : List Addr} {h h' h1 h2 : MH} {H H' H1 H2 : Hp} {X : Cx} {E : Value → Shared → Prop} {EX : St → Prop} {σ : MSt} {σ' : St}
/-! ### isinstance -/
def isTyB : Ty → String → Bool
  | .int, k => k == "int" || k == "bool"
  | .bool, k => k == "bool"
  | .str, k => k == "str"
  | .list, k => k == "list"
  | .tuple, k => k == "tuple"
  | .exn _ _, _ => false
/-- what the written part says of an own exception class -/
structure ExcCls (K : PySem.W.Frag) (C : Addr) : Prop where
  ga : PySem.W.findIn K (.ref C) "__getattribute__" = some (some (.builtin "BaseException.__getattribute__"))
  gt : PySem.W.findIn K (.ref C) "__getattr__" = some none
  sb : PySem.W.subIn K (.ref C) (.type "BaseException") = some true
  fd : PySem.W.findObj K C none "__class__" = some (.bind (.builtin "getset_descriptor.__get__") (.builtin "object.__class__"))
  mr : PySem.W.mroIn K C (.type "object") = some true
  cl : (PySem.W.clsIn K C).isSome = true
  ty : PySem.W.typeIn K (.ref C) = some (.type "type")
/-- isinstance(.., c) is answered as t says -/
inductive KTy (K : PySem.W.Frag) (cl : Nat → Addr) (c : Value) : Ty → Prop where
  | plain {t : Ty} : (∀ al cs, t ≠ .exn al cs) → (["NoneType", "bool", "int", "str", "list", "tuple"].all fun k => PySem.W.kitOne K (.type k) c == some (isTyB t k)) = true → KTy K cl c t
  | exc {al cs : List Nat} : (∀ n ∈ al, ExcCls K (cl n) ∧ PySem.W.kitOne K (.ref (cl n)) c = some (cs.contains n)) → KTy K cl c (.exn al cs)
def rIsi (K : PySem.W.Frag) (u : V) (c : Value) : List V → Hp → VK → Prop := fun xs H Q => ∃ x b, xs = [x, u] ∧ ((∃ t, TyOf K H x t ∧ PySem.W.kitOne K t c = some b) ∨ ∃ a C, x = .ref a ∧ H a = some (.ext (ExcΦ a C)) ∧ ExcCls K C ∧ PySem.W.kitOne K (.ref C) c = some b) ∧ Q (.bl b) H
/-- a class as a value -/
def ClsV (u : V) (c : Value) : Prop := (∃ T, u = .ty T ∧ c = .type T) ∨ ∃ C, u = .ref C ∧ c = .ref C
theorem ClsV.rel {u : V} {c : Value} (z : ClsV u c) : RelV u c := by
  rcases z with ⟨T, rfl, rfl⟩ | ⟨C, rfl, rfl⟩ <;> rfl
theorem call_isi {u : V} {c : Value} (ru : ClsV u c) : CallR X (.builtin "isinstance") (rIsi X.K u c) := by
  intro pins s σ' H xs us Q I r ⟨x, b, ex, q, hQ⟩
  subst ex
  obtain ⟨v, w, rfl, rx, ry⟩ := vals2 r
  have ew : w = c := by
    rcases ru with ⟨T, rfl, rfl⟩ | ⟨C, rfl, rfl⟩ <;> exact ry
  subst ew
  rcases q with ⟨t, ty, e⟩ | ⟨a, C, rfl, ha, ec, e⟩
  · exact isinst_ok I rx ty e fun tk => ⟨.bl b, H, I.tok _, rfl, hQ⟩
  · cases (show v = Value.ref a from rx)
    obtain ⟨ph, _, _⟩ := (show ObjOk X.prog X.w H s.heap a (.ext (ExcΦ a C)) from I.hok a _ ha)
    exact PySem.W.kia_one (kitx_exc ec.ga ec.gt ec.sb ec.fd ec.mr ec.cl) I.kIn ph e (fun z => nomatch z) fun tk => ⟨.bl b, H, I.tok _, rfl, hQ⟩
theorem KTy.of {K : PySem.W.Frag} {cl : Nat → Addr} {c : Value} {t : Ty} (k : KTy K cl c t) (ne : ∀ al cs, t ≠ .exn al cs) {n : String} (hn : n ∈ ["NoneType", "bool", "int", "str", "list", "tuple"]) : PySem.W.kitOne K (.type n) c = some (isTyB t n) := by
  cases k with
  | plain _ q => exact beq_iff_eq.mp (List.all_eq_true.mp q n hn)
  | exc q => exact absurd rfl (ne _ _)
theorem vo_isi {c : Value} {u : V} {t : Ty} (k : KTy G.K G.cl c t) {Q : VK} {x : MV} {x' : V} (R : HR G m h H) (rx : VR G m H x x') (P : Post G X E EX m H (isTy t x h) fun v m' _ H' => ∀ v', VR G m' H' v v' → Q v' H') : rIsi G.K u c [x', u] H Q := by
  by_cases ne : ∃ al cs, t = .exn al cs
  · obtain ⟨al, cs, rfl⟩ := ne
    cases x with
    | ref n =>
      obtain ⟨a, ea, rfl⟩ := rx
      obtain ⟨o, eo, qo, P1⟩ := look_post R ea P
      cases o with
      | exn c' =>
        dsimp only at P1
        split at P1
        · rename_i hc
          cases k with
          | plain z _ => exact absurd rfl (z _ _)
          | exc q =>
            obtain ⟨e1, e2⟩ := q c' (by simpa using hc)
            exact ⟨_, _, rfl, .inr ⟨a, _, rfl, qo, e1, e2⟩, Post.here R P1 _ rfl⟩
        · exact P1.elim
      | _ => exact P1.elim
    | _ => exact P.elim
  · have ne' : ∀ al cs, t ≠ .exn al cs := fun al cs z => ne ⟨al, cs, z⟩
    cases x with
    | non =>
      cases (show x' = V.non from rx)
      refine ⟨_, _, rfl, .inl ⟨_, .non, k.of ne' (by decide)⟩, ?_⟩
      cases t <;> first | exact Post.here R P _ rfl | exact absurd rfl (ne' _ _)
    | bl b =>
      cases (show x' = V.bl b from rx)
      refine ⟨_, _, rfl, .inl ⟨_, .bl b, k.of ne' (by decide)⟩, ?_⟩
      cases t <;> first | exact Post.here R P _ rfl | exact absurd rfl (ne' _ _)
    | int b =>
      cases (show x' = V.int b from rx)
      refine ⟨_, _, rfl, .inl ⟨_, .int b, k.of ne' (by decide)⟩, ?_⟩
      cases t <;> first | exact Post.here R P _ rfl | exact absurd rfl (ne' _ _)
    | str b =>
      cases (show x' = V.str b from rx)
      refine ⟨_, _, rfl, .inl ⟨_, .str b, k.of ne' (by decide)⟩, ?_⟩
      cases t <;> first | exact Post.here R P _ rfl | exact absurd rfl (ne' _ _)
    | scr _ => exact P.elim
    | any => exact P.elim
    | tup xs =>
      obtain ⟨a, vs, rfl, _, z, _⟩ := rx
      refine ⟨_, _, rfl, .inl ⟨_, .tup z, k.of ne' (by decide)⟩, ?_⟩
      cases t <;> first | exact Post.here R P _ rfl | exact absurd rfl (ne' _ _)
    | ref n =>
      obtain ⟨a, ea, rfl⟩ := rx
      obtain ⟨o, eo, qo, P1⟩ := look_post R ea P
      cases o with
      | lst xs =>
        obtain ⟨vs, r, z⟩ := qo
        refine ⟨_, _, rfl, .inl ⟨_, .lst z, k.of ne' (by decide)⟩, ?_⟩
        cases t <;> first | exact Post.here R P1 _ rfl | exact absurd rfl (ne' _ _)
      | exn c' => cases t <;> first | exact P1.elim | exact absurd rfl (ne' _ _)
      | dct _ => cases t <;> exact P1.elim
      | ins _ _ => cases t <;> exact P1.elim
theorem ge_isi {e ce : Expr} {ge : ME} {t : Ty} {c : Value} {u : V} {p pos : Pos} (he : GE G X e ge) (hc : ∀ E, PE (X.wish E) ce (tC u)) (cv : ClsV u c) (k : KTy G.K G.cl c t) (hm : X.mg "isinstance" = none) (hg : Gl X "isinstance" := by rfl) (hK : X.K = G.K := by rfl)
    (hs : starEach [e, ce] X.env = (false, eval e X.env) :: starEach [ce] X.env := by rfl) (hs2 : starEach [ce] X.env = [(false, eval ce X.env)] := by rfl) (hpl : (backTo pos (starEach [ce] X.env)).any (·.1) = false := by rfl) :
    GE G X (.Call (.Name "isinstance" p) [e, ce] [] pos) (eUn (isTy t) ge) := fun E EX =>
  PE_imp (pe_callB (X := X.wish E) (call_isi cv) hg hm PyProof.Rows.Boot.«isinstance» (pa_cons (X := X.wish E) (he E EX) (pa_cons (X := X.wish E) (hc E) pa_nil hs2) hs) (by decide) (by decide) hs hpl) fun σ' H Q ⟨m, h, σ, ex, S, R, P⟩ =>
    sub ex S R P fun v m1 h1 H1 v' x1 R1 r1 P1 => by
      have := vo_isi (u := u) k R1 r1 P1
      rw [← hK] at this
      exact this
/-! ### try -/
/-- the frame's own map has changed -/
theorem Inv.relocal {pins : List (Addr × Obj)} {s : Shared} {hp : Heap} {t : Nat} {σ2 : St} {m2 : Str → Option Value} (I : Inv X pins σ' H s) (hs : Heap.SameBut X.env.locals s.heap hp) (hn : hp.Ns X.env.locals m2) (hl : σ2.length = σ'.length)
    (hv : ∀ (j : Nat) (y : Str) (v : V), X.N[j]? = some y → σ2[j]? = some (some v) → Vis X.env.scope y → ∃ u, RelV v u ∧ Look X.env hp m2 y u) : Inv X pins σ2 H { s with heap := hp, toks := t } := by
  have n0 : ∀ b o, X.s₀.heap.get? b = some o → b ≠ X.env.locals := fun b o e => Nat.ne_of_lt (Nat.lt_of_lt_of_le (Heap.lt_size e) I.ok.above)
  refine ⟨I.ok, I.os, I.bare, ⟨fun b o e n hb hx => (hs.2 b (n0 b o e)).trans (I.base.keep b o e n hb hx), fun b o e n hb hx => ?_, I.base.free, fun b o e hx => ?_, I.base.tups, I.base.frzs, I.base.tbls⟩, ⟨m2, hn, hv⟩, fun x c e => ?_, I.free, I.freeC, fun p hp' => ?_, fun b u e => ?_, hl.trans I.len⟩
  · obtain ⟨sl, z⟩ := I.base.slot b o e n hb hx
    exact ⟨sl, (hs.2 b (n0 b o e)).trans z⟩
  · obtain ⟨o', z⟩ := I.base.there b o e hx
    exact ⟨o', (hs.2 b (n0 b o e)).trans z⟩
  · obtain ⟨v, z⟩ := I.cell x c e
    exact ⟨v, z.sameBut hs (I.cne x c e)⟩
  · obtain ⟨a1, a2, a3, a4, a5⟩ := I.pin p hp'
    exact ⟨(hs.2 _ a3).trans a1, a2, a3, a4, a5⟩
  · have nl : ∀ c w', H c = some w' → c ≠ X.env.locals := fun c w' q z => by rw [z, I.free] at q; cases q
    refine (I.hok b u e).stay (fun c v hc q => (hs.2 c ?_).trans q) (fun _ q => q) fun _ _ q => q
    rcases hc with z | z
    · rw [z]; exact nl b u e
    · exact nl c _ z
/-- the name of an except clause goes -/
theorem name_gone {M : Model} {A : Around} {pins : List (Addr × Obj)} {s : Shared} {n : Str} {i : Nat} {pos : Pos} {Q : Unit → Shared → Prop} (I : Inv X pins σ' H s) (hN : X.N.Nodup) (hi : X.N[i]? = some n) (hl : X.env.kindOf n = some .local)
    (k : ∀ s', Inv X pins (σ'.set i none) H s' → Q () s') : wpAny M A (do bindName X.env n .none; unbindBehindTheSuite X.env n pos) Q E s := by
  obtain ⟨mm, hn, hv⟩ := I.loc
  refine wpAny_nameGoes_keeps hl hn (by rw [I.ok.kind]; rfl) fun hp v hn' hs => k _ (Inv.relocal I hs hn' (by simp) fun j y w e1 e2 e3 => ?_)
  by_cases hj : i = j
  · subst hj
    have : i < σ'.length := by rw [I.len]; exact (List.getElem?_eq_some_iff.mp hi).1
    rw [List.getElem?_set_self this] at e2
    cases e2
  · rw [List.getElem?_set_ne hj] at e2
    obtain ⟨u, ru, l⟩ := hv j y w e1 e2 e3
    refine ⟨u, ru, ?_⟩
    have ny : y ≠ n := fun z => hj (nodup_get hN hi (z ▸ e1))
    rcases l with ⟨kk, q⟩ | ⟨kk, c, q, z⟩
    · exact .inl ⟨kk, by simp [ny, q]⟩
    · exact .inr ⟨kk, c, q, z.sameBut hs (I.cne y c q)⟩
/-- a record of our own is tracked from now on -/
theorem Inv.track {pins : List (Addr × Obj)} {s : Shared} {a : Addr} {φ : Heap → Prop} (I : Inv X pins σ' H s) (f : Fp X pins H a) (ok : ObjOk X.prog X.w (upd H a (.ext φ)) s.heap a (.ext φ)) : Inv X pins σ' (upd H a (.ext φ)) s := by
  have na : ∀ b u, H b = some u → b ≠ a := fun b u e z => by rw [z, f.un] at e; cases e
  refine ⟨I.ok, I.os, I.bare, ⟨I.base.keep, I.base.slot, fun b o e n hx => ?_, I.base.there, fun b xs e => ?_, fun b o u e => ?_, fun b ps e => ?_⟩, I.loc, I.cell, ?_, fun x c e => ?_, fun p hp => ?_, fun b u e => ?_, I.len⟩
  · rw [upd_ne]
    · exact I.base.free b o e n hx
    · intro z
      rcases f.new with y | y
      · exact hx (z ▸ y)
      · rw [z, y] at e; cases e
  · have q := I.base.tups b xs e
    rw [upd_ne (na b _ q)]; exact q
  · have q := I.base.frzs b o u e
    rw [upd_ne (na b _ q)]; exact q
  · obtain ⟨mo, q⟩ := I.base.tbls b ps e
    exact ⟨mo, by rw [upd_ne (na b _ q)]; exact q⟩
  · rw [upd_ne (Ne.symm f.loc)]; exact I.free
  · rw [upd_ne (f.ce x c e)]; exact I.freeC x c e
  · obtain ⟨a1, a2, a3, a4, a5⟩ := I.pin p hp
    exact ⟨a1, by rw [upd_ne (f.pin p hp)]; exact a2, a3, a4, a5⟩
  · by_cases z : b = a
    · subst z
      rw [upd_same] at e; cases e
      exact ok
    · rw [upd_ne z] at e
      refine (I.hok b u e).stay (fun _ _ _ q => q) (fun c q => ?_) fun c xs q => ?_
      · rw [upd_ne (na c _ q)]; exact q
      · rw [upd_ne (na c _ q)]; exact q
end L2.Rv

set_option linter.all false
set_option maxRecDepth 100000
namespace L2.Rv
open PySem PySem.Spec PyProof.Rows
variable {G : Gb} {m m' m1 m2 : List Addr} {h h' h1 h2 : MH} {H H' H1 H2 : Hp} {X : Cx} {E : Value → Shared → Prop} {EX : St → Prop} {σ : MSt} {σ' : St}
abbrev QD (G : Gb) (D : Ends) : MF → List Addr → MH → Hp → Prop := fun f m' _ H' => match f with
  | .next σ1 => ∀ σ1', SR G m' H' σ1 σ1' → D.nx σ1' H'
  | .brk σ1 => ∀ σ1', SR G m' H' σ1 σ1' → D.bk σ1' H'
  | .cnt σ1 => ∀ σ1', SR G m' H' σ1 σ1' → D.ct σ1' H'
  | .ret v => ∀ v', VR G m' H' v v' → D.rt v' H'
/-- within an except suite -/
abbrev Cx.inSuite (X : Cx) (A : Around) : Cx := { X with A := A, calm := false }
theorem Inv.mark {pins : List (Addr × Obj)} {s : Shared} (I : Inv X pins σ' H s) (v : Option Value) : Inv (Cx.inSuite X (X.A.mark v)) pins σ' H s :=
  ⟨⟨I.ok.mod, I.ok.kind, I.ok.glob, I.ok.blt, I.ok.above, I.ok.inj, I.ok.has, I.ok.cab, (fun z => nomatch z), I.ok.frames, I.ok.stk, I.ok.exf, I.ok.bs, I.ok.bsz, I.ok.noex, I.ok.exfs, I.ok.funs, I.ok.frf⟩, I.os, I.bare, I.base, I.loc, I.cell, I.free, I.freeC, I.pin, I.hok, I.len⟩
theorem Inv.unmark {pins : List (Addr × Obj)} {s : Shared} {A : Around} (ok : X.Ok) (I : Inv (Cx.inSuite X A) pins σ' H s) : Inv X pins σ' H s := ⟨ok, I.os, I.bare, I.base, I.loc, I.cell, I.free, I.freeC, I.pin, I.hok, I.len⟩
/-- .. with pins that every state bears -/
abbrev Cx.pinned (X : Cx) (pn : List (Addr × Obj)) : Cx := { X with pn := pn }
theorem Inv.toPn {pins : List (Addr × Obj)} {s : Shared} (I : Inv X pins σ' H s) : Inv (Cx.pinned X (X.pn ++ pins)) [] σ' H s :=
  ⟨⟨I.ok.mod, I.ok.kind, I.ok.glob, I.ok.blt, I.ok.above, I.ok.inj, I.ok.has, I.ok.cab, I.ok.hd, I.ok.frames, I.ok.stk, I.ok.exf, I.ok.bs, I.ok.bsz, I.ok.noex, I.ok.exfs, I.ok.funs, I.ok.frf⟩, I.os, I.bare, I.base, I.loc, I.cell, I.free, I.freeC, fun p hp => I.pin p (by simpa using hp), I.hok, I.len⟩
theorem Inv.ofPn {pins pins' : List (Addr × Obj)} {s : Shared} (ok : X.Ok) (I : Inv (Cx.pinned X (X.pn ++ pins)) pins' σ' H s) : Inv X pins σ' H s :=
  ⟨ok, I.os, I.bare, I.base, I.loc, I.cell, I.free, I.freeC, fun p hp => I.pin p (List.mem_append_left _ hp), I.hok, I.len⟩
theorem Fp.ofPn {pins pins' : List (Addr × Obj)} {b : Addr} (f : Fp (Cx.pinned X (X.pn ++ pins)) pins' H b) : Fp X pins H b := ⟨f.un, f.loc, f.fs, f.new, f.ce, fun p hp => f.pin p (List.mem_append_left _ hp)⟩
inductive GHs (G : Gb) (X : Cx) (al : List Nat) : List ExceptHandler → List Hd → Prop where
  | nil : GHs G X al [] []
  | plain {x : Str} {np pos : Pos} {b0 : Stmt} {body : List Stmt} {rest : List ExceptHandler} {C' : Addr} {cs : List Nat} {gb : MS} {ds : List Hd} (hm : X.mg x = some (.ref C')) (hg : Gl X x) (hC : ExcCls X.K C')
      (hs : ∀ n ∈ al, PySem.W.subIn X.K (.ref (G.cl n)) (.ref C') = some (cs.contains n)) (hb : ∀ A', GSs G ET (Cx.inSuite X A') (b0 :: body) gb) (hd : (x == ("__debug__" : Str)) = false) (hr : GHs G X al rest ds) :
      GHs G X al (.ExceptHandler (some (.Name x np)) none (b0 :: body) pos :: rest) (⟨cs, none, gb⟩ :: ds)
  | named {x n : Str} {i : Nat} {np pos : Pos} {b0 : Stmt} {body : List Stmt} {rest : List ExceptHandler} {C' : Addr} {cs : List Nat} {gb : MS} {ds : List Hd} (hm : X.mg x = some (.ref C')) (hg : Gl X x) (hC : ExcCls X.K C')
      (hs : ∀ n ∈ al, PySem.W.subIn X.K (.ref (G.cl n)) (.ref C') = some (cs.contains n)) (hN : X.N.Nodup) (hi : X.N[i]? = some n) (hl : X.env.scope.names.lookup n = some .local) (hb : ∀ A', GSs G ET (Cx.inSuite X A') (b0 :: body) gb) (hd : (x == ("__debug__" : Str)) = false) (hr : GHs G X al rest ds) :
      GHs G X al (.ExceptHandler (some (.Name x np)) (some n) (b0 :: body) pos :: rest) (⟨cs, some i, gb⟩ :: ds)
theorem Post.noExc {α : Type} {a : M α} {Q : α → List Addr → MH → Hp → Prop} {X' : Cx} {E' : Value → Shared → Prop} {EX' : St → Prop} (P : Post G X E EX m H (noExc a h) Q) : Post G X' E' EX' m H (a h) Q := by
  unfold Rv.noExc at P
  cases e : a h with
  | ok v h' => rw [e] at P; exact P
  | exc c h' => rw [e] at P; exact P.elim
  | stuck => rw [e] at P; exact P.elim
theorem SP.back {pins : List (Addr × Obj)} {D : Ends} {f : Flow} {s' : Shared} {A : Around} {E' : Value → Shared → Prop} (ok : X.Ok) (q : SP ((Cx.inSuite X A).wish E') pins D f s') : SP X pins D f s' := by
  cases f with
  | next => obtain ⟨σ2, H2, I, z⟩ := q; exact ⟨σ2, H2, Inv.unmark ok I.unwish, z⟩
  | brk => obtain ⟨σ2, H2, I, z⟩ := q; exact ⟨σ2, H2, Inv.unmark ok I.unwish, z⟩
  | cont => obtain ⟨σ2, H2, I, z⟩ := q; exact ⟨σ2, H2, Inv.unmark ok I.unwish, z⟩
  | ret u => obtain ⟨v, σ2, H2, I, r, z⟩ := q; exact ⟨v, σ2, H2, Inv.unmark ok I.unwish, r, z⟩
theorem handle_ok {al : List Nat} {pins : List (Addr × Obj)} {D : Ends} {a : Addr} {c : Nat} (hK : X.K = G.K) (hc : c ∈ al) {hs : List ExceptHandler} {ds : List Hd} (g : GHs G X al hs ds) : ∀ {s : Shared} {H : Hp} {m : List Addr} {h : MH}, Inv X pins σ' H s → SR G m H σ σ' → HR G m h H →
    Exc X pins H (G.cl c) a s → Post G X E ET m H (handle c σ ds h) (QD G D) → wpAny (model X.prog X.w) X.A (handleBy (.ref a) X.env hs) (SP X pins D) E s := by
  induction g with
  | nil => intro s H m h I S R x P; exact P.elim
  | @plain x np pos b0 body rest C' cs gb ds hm hg hC hs hb hd hr ih =>
    intro s H m h I S R x P
    obtain ⟨oe, vs, a1, a2, a3, a4, a5, a6, a7⟩ := id x
    refine wpAny_handleBy_cons (codeAny_handlers_test (ld_glob (Inv.mark I (some (.ref a))) hg hm ?_ hd)) (fun q => nomatch q)
    refine exc_matches I.kIn a1 a2 hC.ty hC.cl hC.sb (hs c hc) ?_
    unfold handle at P
    cases hcc : cs.contains c with
    | true =>
      rw [hcc, if_pos rfl] at P
      refine codeAny_handlers_suite (exc_flight I x fun s1 I1 x1 => ?_)
      exact wpAny_mono (hb (X.A.mark (some (.ref a))) (fun _ _ => False) PassesOwn.never pins s1 σ' H D ((Inv.mark I1 _).wish _) ⟨m, h, σ, trivial, S, R, Post.noExc P⟩) (fun f s2 q => SP.back I.ok q) fun _ _ z => z.elim
    | false =>
      rw [hcc, if_neg Bool.false_ne_true] at P
      exact ih I S R x P
  | @named x n i np pos b0 body rest C' cs gb ds hm hg hC hs hN hi hl hb hd hr ih =>
    intro s H m h I S R x P
    obtain ⟨oe, vs, a1, a2, a3, a4, a5, a6, a7⟩ := id x
    refine wpAny_handleBy_cons (codeAny_handlers_test (ld_glob (Inv.mark I (some (.ref a))) hg hm ?_ hd)) (fun q => nomatch q)
    refine exc_matches I.kIn a1 a2 hC.ty hC.cl hC.sb (hs c hc) ?_
    unfold handle at P
    cases hcc : cs.contains c with
    | true =>
      rw [hcc, if_pos rfl] at P
      refine codeAny_handlers_suite_as (exc_flight I x fun s1 I1 x1 => ?_)
      obtain ⟨oe1, vs1, b1, b2, b3, b4, b5, b6, b7⟩ := id x1
      have ph : ExcΦ a (G.cl c) s1.heap := ⟨oe1, vs1, b1, b2, b3, b4⟩
      have I2 := Inv.track (φ := ExcΦ a (G.cl c)) I1 b6 ⟨ph, ⟨oe1, b1⟩, fun p1 p2 ⟨o, ws, q1, q2, q3, q4⟩ k => ⟨o, ws, k o q1, q2, q3, q4⟩⟩
      have x2 : Ext m H (m ++ [a]) (upd H a (.ext (ExcΦ a (G.cl c)))) := Ext.new R b6.un
      have R2 : HR G (m ++ [a]) (h ++ [.exn c]) (upd H a (.ext (ExcΦ a (G.cl c)))) := R.new b6.un upd_same
      have rn : VR G (m ++ [a]) (upd H a (.ext (ExcΦ a (G.cl c)))) (.ref h.length) (.ref a) := ⟨a, by rw [← R.len]; simp, rfl⟩
      have P2 := (Post.bind P) _ _ x2 R2
      refine store_ok (X := X) (v := .ref a) I2 hN hi (.inl hl) rfl (fun s2 I3 => ?_) (.inr hl)
      refine wpAny_mono (hb (X.A.mark (some (.ref a))) (fun _ _ => False) PassesOwn.never pins s2 _ _ { nx := fun σ1' H1 => D.nx (σ1'.set i none) H1, rt := D.rt, bk := fun σ1' H1 => D.bk (σ1'.set i none) H1, ct := fun σ1' H1 => D.ct (σ1'.set i none) H1 } ((Inv.mark I3 _).wish _)
        ⟨_, _, _, trivial, (S.mono x2).set i rn, R2, Post.noExc ((Post.bind P2).mono fun f m3 h3 H3 x3 R3 P3 => ?_)⟩) (fun f s3 q => ?_) fun _ _ z => z.elim
      · have P4 := Post.here R3 P3
        cases f with
        | next σ3 => exact fun σ3' S3 => P4 _ (S3.forget i none)
        | brk σ3 => exact fun σ3' S3 => P4 _ (S3.forget i none)
        | cnt σ3 => exact fun σ3' S3 => P4 _ (S3.forget i none)
        | ret v => exact P4
      · have q' := SP.back I.ok q
        cases f with
        | next => obtain ⟨σ4, H4, I4, z⟩ := q'; exact name_gone I4 hN hi hl fun s4 I5 => ⟨_, H4, I5, z⟩
        | brk => obtain ⟨σ4, H4, I4, z⟩ := q'; exact name_gone I4 hN hi hl fun s4 I5 => ⟨_, H4, I5, z⟩
        | cont => obtain ⟨σ4, H4, I4, z⟩ := q'; exact name_gone I4 hN hi hl fun s4 I5 => ⟨_, H4, I5, z⟩
        | ret u => obtain ⟨v, σ4, H4, I4, r, z⟩ := q'; exact name_gone I4 hN hi hl fun s4 I5 => ⟨v, _, H4, I5, r, z⟩
    | false =>
      rw [hcc, if_neg Bool.false_ne_true] at P
      exact ih I S R x P
theorem gs_try {al : List Nat} {body : List Stmt} {h0 : ExceptHandler} {hs : List ExceptHandler} {gb : MS} {ds : List Hd} {pos : Pos} (hb : ∀ pn EX, GSs G EX (Cx.pinned X pn) body gb) (hh : GHs G X al (h0 :: hs) ds) (hK : X.K = G.K := by rfl) (hst : X.stack = X.env :: X.outer := by rfl) (hf : X.env.frame = some X.env.locals := by rfl) :
    GS G ET X (.Try body (h0 :: hs) [] [] pos) (sTry al gb ds) := fun E hp pins s σ' H D I ⟨m, h, σ, ex, S, R, P⟩ => by
  have I0 := I.unwish
  refine wpAny_Try_except ?_
  have fin : ∀ f s1, SP X pins D f s1 → (match f with | .next => wpAny (model X.prog X.w) X.A (execs [] X.env) (SP (X.wish E) pins D) E s1 | f => SP (X.wish E) pins D f s1) := fun f s1 q => by
    cases f with
    | next => obtain ⟨σ2, H2, I2, z⟩ := q; exact wpAny_execs_nil ⟨σ2, H2, I2.wish E, z⟩
    | brk => obtain ⟨σ2, H2, I2, z⟩ := q; exact ⟨σ2, H2, I2.wish E, z⟩
    | cont => obtain ⟨σ2, H2, I2, z⟩ := q; exact ⟨σ2, H2, I2.wish E, z⟩
    | ret u => obtain ⟨v, σ2, H2, I2, r, z⟩ := q; exact ⟨v, σ2, H2, I2.wish E, r, z⟩
  have back : ∀ {E' : Value → Shared → Prop} {f s1}, SP ((Cx.pinned X (X.pn ++ pins)).wish E') [] D f s1 → SP X pins D f s1 := fun {E' f s1} q => by
    cases f with
    | next => obtain ⟨σ2, H2, I2, z⟩ := q; exact ⟨σ2, H2, Inv.ofPn I0.ok I2.unwish, z⟩
    | brk => obtain ⟨σ2, H2, I2, z⟩ := q; exact ⟨σ2, H2, Inv.ofPn I0.ok I2.unwish, z⟩
    | cont => obtain ⟨σ2, H2, I2, z⟩ := q; exact ⟨σ2, H2, Inv.ofPn I0.ok I2.unwish, z⟩
    | ret u => obtain ⟨v, σ2, H2, I2, r, z⟩ := q; exact ⟨v, σ2, H2, Inv.ofPn I0.ok I2.unwish, r, z⟩
  unfold sTry at P
  cases eb : gb σ h with
  | ok f h' =>
    simp only [eb] at P
    exact wpAny_mono (hb (X.pn ++ pins) ET (fun _ _ => False) PassesOwn.never [] s σ' H D ((Inv.toPn I0).wish _) ⟨m, h, σ, trivial, S, R, by rw [eb]; exact P⟩) (fun f s1 q => fin f s1 (back q)) fun _ _ z => z.elim
  | exc c h' =>
    simp only [eb] at P
    split at P
    · rename_i hcc
      have fr : X.A.frames = some (X.env :: X.outer) := by rw [I0.ok.frames, hst]
      refine wpAny_mono (hb (X.pn ++ pins) (fun z => z = σ') (EB G (Cx.pinned X (X.pn ++ pins)) (fun z => z = σ') [] m H c h') (EB.passes fr hst hf) [] s σ' H D ((Inv.toPn I0).wish _) ⟨m, h, σ, rfl, S, R, ?_⟩) (fun f s1 q => fin f s1 (back q)) ?_
      · rw [eb]
        intro pins' σ2 m2 H2 a s2 e2 x2 R2 I2 q2
        exact ⟨σ2, m2, H2, a, e2, x2, R2, I2.pins_of (fun p hp => absurd hp (by simp)), rfl, q2.imp fun b fb => ⟨fb.un, fb.loc, fb.fs, fb.new, fb.ce, fun p hp => fb.pin p (List.mem_append_left _ (by simpa using hp))⟩⟩
      · rintro e s1 ⟨σ2, m2, H2, a, rfl, x2, R2, I2, rfl, q2⟩
        have I3 := Inv.ofPn I0.ok I2
        have q3 : Exc X pins H2 (G.cl c) a s1 := q2.imp fun b fb => Fp.ofPn fb
        refine exc_note (X := X) fr hst hf I3 q3 fun s4 I4 q4 => ?_
        refine exc_flightT I4 q4 fun s5 I5 q5 => ?_
        refine wpAny_mono (handle_ok (E := E) hK (by simpa using hcc) hh I5 (S.mono x2) R2 q5.sh (P.ext x2)) (fun f s6 q => ?_) fun _ _ z => z
        cases f with
        | next => obtain ⟨σ6, H6, I6, z⟩ := q; exact ⟨σ6, H6, I6.wish E, z⟩
        | brk => obtain ⟨σ6, H6, I6, z⟩ := q; exact ⟨σ6, H6, I6.wish E, z⟩
        | cont => obtain ⟨σ6, H6, I6, z⟩ := q; exact ⟨σ6, H6, I6.wish E, z⟩
        | ret u => obtain ⟨v, σ6, H6, I6, r, z⟩ := q; exact ⟨v, σ6, H6, I6.wish E, r, z⟩
    · exact P.elim
  | stuck =>
    simp only [eb] at P
    exact P.elim
end L2.Rv

set_option linter.all false
set_option maxRecDepth 100000
namespace L2.Rv
open PySem PySem.Spec PyProof.Rows
variable {G : Gb} {m m' m1 m2 : List Addr} {h h' h1 h2 : MH} {H H' H1 H2 : Hp} {X : Cx} {E : Value → Shared → Prop} {EX : St → Prop} {σ : MSt} {σ' : St}
/-! ### comprehensions -/
def compN (N : List Str) (x : List Str) : List Str := N.map (fun n => if n ∈ x then Str.ofString "" else n) ++ x
/-- the block's context -/
def compCx (X : Cx) (x : List Str) (scope : Scope) (cl : List (Str × Addr)) (C : Addr) (s : Shared) (H : Hp) (fp : List Addr) (pins : List (Addr × Obj)) : Cx :=
  { X with N := compN X.N x, env := compEnvC scope cl C X.env, s₀ := s, H₀ := H, outer := X.stack, ex := fp, fn := fun _ => false, pn := X.pn ++ pins, xe := fun _ _ => False }
/-- what the text says of the block -/
structure CompOk (X : Cx) (x : List Str) (scope : Scope) (cl : List (Str × Addr)) : Prop where
  clos : closureFor scope X.env = pure cl
  cells : ∀ n c, cl.lookup n = some c → X.env.cells.lookup n = some c
  kind : scope.kind = .function
  nocell : ∀ y ∈ scope.names, y.2 ≠ .cell
  locs : ∀ y ∈ scope.names, y.2 = .local → scope.names.lookup y.1 = some .local
  has : ∀ y, scope.names.lookup y = some .free → ∃ c, cl.lookup y = some c
  outk : ∀ y, scope.names.lookup y = some .free → X.env.kindOf y = some .cell ∨ X.env.kindOf y = some .free
  nolo : ∀ n ∈ X.N, n ∉ x → scope.names.lookup n ≠ some .local
  dum : scope.names.lookup (Str.ofString "") = none
  nd : (compN X.N x).Nodup
theorem lookup_relabel {env : Env} : ∀ {names : List (Str × NameKind)} {x : Str} {k : NameKind}, (∀ y ∈ names, y.2 ≠ .cell) → (names.map fun (n, k) => if (k == NameKind.free && env.scope.kind == .function && env.kindOf n == some .cell) then (n, NameKind.cell) else (n, k)).lookup x = some k →
    names.lookup x = some k ∨ (names.lookup x = some .free ∧ k = .cell)
  | [], _, _, _, e => by simp at e
  | (n, k0) :: r, x, k, nc, e => by
    have ih := @lookup_relabel env r x k (fun y hy => nc y (List.mem_cons_of_mem _ hy))
    by_cases hx : x = n
    · subst hx
      simp only [List.map_cons] at e
      split at e
      · rename_i hc
        simp only [Bool.and_eq_true, beq_iff_eq] at hc
        refine .inr ⟨by simp [List.lookup_cons, hc.1.1], ?_⟩
        simp only [List.lookup_cons, beq_self_eq_true, Option.some.injEq] at e
        exact e.symm
      · simp only [List.lookup_cons, beq_self_eq_true] at e ⊢
        exact .inl e
    · have hb : (x == n) = false := by simpa using hx
      simp only [List.map_cons] at e
      have e' : (r.map fun (n, k) => if (k == NameKind.free && env.scope.kind == .function && env.kindOf n == some .cell) then (n, NameKind.cell) else (n, k)).lookup x = some k := by
        split at e <;> simpa only [List.lookup_cons, hb] using e
      simp only [List.lookup_cons, hb]
      exact ih e'
/-- the block begins -/
theorem comp_start {x : List Str} {scope : Scope} {cl : List (Str × Addr)} {fp : List Addr} {pins : List (Addr × Obj)} {s : Shared} {hp : Heap} {t : Nat} (ok : CompOk X x scope cl) (I : Inv X pins σ' H s) (hf : ∀ b ∈ fp, FpOk X pins H b) (hfo : ∀ b ∈ fp, ∃ o, s.heap.get? b = some o)
    (hn : ∃ mm, hp.Ns s.heap.objs.size mm) (hk : ∀ b o, s.heap.get? b = some o → hp.get? b = some o) : Inv (compCx X x scope cl s.heap.objs.size s H fp pins) [] (σ' ++ List.replicate x.length none) H { s with heap := hp, toks := t } := by
  obtain ⟨mm, hn⟩ := hn
  have ltC : ∀ b o, s.heap.get? b = some o → b ≠ s.heap.objs.size := fun b o e => Nat.ne_of_lt (Heap.lt_size e)
  have kd : ∀ y k, (relabel scope X.env).names.lookup y = some k → scope.names.lookup y = some k ∨ (scope.names.lookup y = some .free ∧ k = .cell) := fun y k e => lookup_relabel ok.nocell e
  have nc : ∀ y, scope.names.lookup y ≠ some .cell := fun y e => ok.nocell _ (PySem.mem_of_lookup e) rfl
  have stk : ∀ b, b ≠ X.env.locals → b ∉ X.fs → b ∉ frs X.stack := fun b h1 h2 z => by
    rcases List.mem_cons.mp (I.stkSub b z) with y | y
    · exact h1 y
    · exact h2 y
  refine ⟨⟨I.ok.mod, ok.kind, I.ok.glob, I.ok.blt, Nat.le_refl _, fun y z c e1 e2 => I.ok.inj y z c (ok.cells y c e1) (ok.cells z c e2), fun y hy => ?_, (fun y c e => nomatch e), I.ok.hd, I.ok.frames, .inl rfl, fun b hb => ⟨?_, fun y c e => ?_⟩, I.bs, Nat.le_trans I.ok.bsz I.sz, fun b o e hb => ?_, fun b hb => ?_, I.stack, I.stkFree⟩,
    rfl, I.bare, Un.kept hk, ⟨mm, hn, fun i y v e1 e2 e3 => ?_⟩, fun y c e => ?_, I.hok.fresh (Nat.le_refl _), fun y c e => I.freeC y c (ok.cells y c e), fun p hp' => ?_, I.hok.kept hk, ?_⟩
  · have hy' : scope.names.lookup y = some .free := by
      rcases hy with hy | hy
      · rcases kd y _ hy with z | z
        · exact absurd z (nc y)
        · exact z.1
      · rcases kd y _ hy with z | z
        · exact z
        · exact z.1
    exact ok.has y hy'
  · obtain ⟨o, e⟩ := hfo b hb; exact ltC b o e
  · exact (hf b hb).2.2.2.2.1 y c (ok.cells y c e)
  · rcases (hf b hb).2.2.2.1 with z | z
    · exact I.ok.noex b o e z
    · exact absurd (Nat.lt_of_lt_of_le (Heap.lt_size e) (Nat.le_trans I.ok.bsz z)) (Nat.lt_irrefl _)
  · exact stk b (hf b hb).2.1 (hf b hb).2.2.1
  · have hi : i < σ'.length := by
      by_cases hi : i < σ'.length
      · exact hi
      · rw [List.getElem?_append_right (by omega), List.getElem?_replicate] at e2
        split at e2 <;> cases e2
    rw [List.getElem?_append_left hi] at e2
    have e1' : (X.N.map fun n => if n ∈ x then Str.ofString "" else n)[i]? = some y := by
      have : (compN X.N x)[i]? = some y := e1
      unfold compN at this
      rwa [List.getElem?_append_left (by simpa [← I.len] using hi)] at this
    rw [List.getElem?_map] at e1'
    cases en : X.N[i]? with
    | none => rw [en] at e1'; cases e1'
    | some n =>
      rw [en] at e1'
      have ey : (if n ∈ x then Str.ofString "" else n) = y := Option.some.inj e1'
      by_cases hnx : n ∈ x
      · rw [if_pos hnx] at ey
        subst ey
        exfalso
        rcases e3 with z | z | z
        · rcases kd _ _ z with w | w
          · rw [ok.dum] at w; cases w
          · have w := w.1; rw [ok.dum] at w; cases w
        · rcases kd _ _ z with w | w
          · rw [ok.dum] at w; cases w
          · have w := w.1; rw [ok.dum] at w; cases w
        · rcases kd _ _ z with w | w
          · rw [ok.dum] at w; cases w
          · have w := w.1; rw [ok.dum] at w; cases w
      · rw [if_neg hnx] at ey
        subst ey
        have fr : scope.names.lookup n = some .free ∧ ((relabel scope X.env).names.lookup n = some .cell ∨ (relabel scope X.env).names.lookup n = some .free) := by
          rcases e3 with z | z | z
          · rcases kd _ _ z with w | w
            · exact absurd w (ok.nolo n (List.mem_of_getElem? en) hnx)
            · exact absurd w.2 (by decide)
          · rcases kd _ _ z with w | w
            · exact absurd w (nc n)
            · exact ⟨w.1, .inl z⟩
          · rcases kd _ _ z with w | w
            · exact ⟨w, .inr z⟩
            · exact ⟨w.1, .inr z⟩
        obtain ⟨m0, hn0, hl0⟩ := I.loc
        obtain ⟨u, ru, lk⟩ := hl0 i n v en e2 (by
          rcases ok.outk n fr.1 with z | z
          · exact .inr (.inl z)
          · exact .inr (.inr z))
        refine ⟨u, ru, ?_⟩
        obtain ⟨c', hc'⟩ := ok.has n fr.1
        have hx' := ok.cells n c' hc'
        rcases lk with ⟨k1, _⟩ | ⟨_, c, ec, o, ho, hd⟩
        · rcases ok.outk n fr.1 with z | z <;> (rw [k1] at z; cases z)
        · rw [ec] at hx'
          cases hx'
          exact .inr ⟨fr.2, c', hc', o, hk c' o ho, hd⟩
  · obtain ⟨v, o, ho, hd⟩ := I.cell y c (ok.cells y c e)
    exact ⟨v, o, hk c o ho, hd⟩
  · have hp2 : p ∈ X.pn ++ pins := by simpa [compCx] using hp'
    obtain ⟨a1, a2, a3, a4, a5⟩ := I.pin p hp2
    exact ⟨hk _ _ a1, a2, ltC _ _ a1, stk _ a3 a4, a5⟩
  · show (σ' ++ List.replicate x.length none).length = (compN X.N x).length
    simp [compN, I.len]
abbrev Nt (P : Program) (w : World) (A : Around) (env : Env) (R : Result → Shared → Prop) : Value → Shared → Prop := notedBy (model P w) A env fun e z => R (.error e) z
/-- a comprehension's turns, whatever the target is -/
theorem comp_turns {P : Program} {w : World} {A : Around} {R : Result → Shared → Prop} {s : Shared} {el tg io : Expr} {cs : List Expr} {sc : Scope} {ps : Pos} {iv ac : Value} {env : Env} (J : Nat → Shared → Prop)
    (turn : ∀ n s, J n s → wpAny (model P w) A (pyNext iv) (fun r s1 => match r with
      | none => R (.ok .next) s1
      | some v => wpAny (model P w) A (letOwnedTupleGo tg iv v >>= fun _ => assign tg env v) (fun _ s2 =>
          wpAny (model P w) A (forIn cs true fun c q => if q = true then do let k ← isTrue c env (eval c env); pure (ForInStep.yield k) else pure (ForInStep.yield q)) (fun k s3 =>
            if k = true then wpAny (model P w) A (eval el env) (fun y s4 => wpAny (model P w) A (call (.builtin "list.append") [ac, y]) (fun _ s5 => ∃ n', n' < n ∧ J n' s5) (Nt P w A env R) s4) (Nt P w A env R) s3
            else ∃ n', n' < n ∧ J n' s3) (Nt P w A env R) s2) (Nt P w A env R) s1) (Nt P w A env R) s)
    (n : Nat) (j : J n s) : codeAny (model P w) A (.compLoop (.ListComp el [⟨tg, io, cs, 0⟩] sc ps) 0 iv ac env) R s := by
  refine codeAny_loop rfl J (fun n s j => ?_) n j
  show wpAny _ A ((compTurn (.ListComp el [⟨tg, io, cs, 0⟩] sc ps) 0 iv ac env).onRaise (fun y => do noteFrame y env; theTreesLotGoes y)) _ _ s
  refine wpAny_noted ?_
  rw [compTurn_list]
  refine wpAny_bind (wpAny_standAt (wpAny_bind (wpAny_mono (turn n s j) (fun r s1 q1 => ?_) fun _ _ z => z)))
  cases r with
  | none => exact wpAny_pure q1
  | some v =>
    dsimp only at q1 ⊢
    rw [← bind_assoc]
    refine wpAny_bind (wpAny_mono q1 (fun _ s2 q2 => wpAny_bind (wpAny_mono q2 (fun k s3 q3 => ?_) fun _ _ z => z)) fun _ _ z => z)
    cases k with
    | false => exact wpAny_pure ⟨rfl, q3⟩
    | true => exact wpAny_bind (wpAny_bind (wpAny_mono q3 (fun y s4 q4 => wpAny_bind (wpAny_mono q4 (fun _ s5 q5 => wpAny_pure (wpAny_pure ⟨rfl, q5⟩)) fun _ _ z => z)) fun _ _ z => z))
theorem setAll_app : ∀ (v : List MV) (σ : MSt), setAll (List.range' σ.length v.length) v (σ ++ List.replicate v.length none) = σ ++ v.map some
  | [], σ => by simp [setAll]
  | a :: v, σ => by
    have ih := setAll_app v (σ ++ [some a])
    simp only [List.length_append, List.length_cons, List.length_nil, Nat.zero_add] at ih
    simp only [List.length_cons, List.range'_succ, setAll, List.replicate_succ, List.map_cons]
    have e : (σ ++ none :: List.replicate v.length none : MSt).set σ.length (some a) = σ ++ [some a] ++ List.replicate v.length none := by simp
    rw [e, ih]
    simp
/-- the tests of a comprehension -/
def IfsOk (G : Gb) (X : Cx) (x : List Str) (scope : Scope) (cl : List (Str × Addr)) (ifs : List Expr) (gc : Option ME) : Prop := match ifs, gc with
  | [], none => True
  | [c], some g => ∀ C s H fp pins, GT G (compCx X x scope cl C s H fp pins) c g
  | _, _ => False
theorem Ext.sideSet {q : Addr} {u : HO} (x : Ext m H m' H') (e : H q = none) : Ext m H m' (L2.upd H' q u) :=
  ⟨x.pre, fun a o z n => ⟨by rw [upd_ne (ne_of_none z e)]; exact (x.fr a o z n).1, (x.fr a o z n).2⟩⟩
theorem Mn.adopt {q : Addr} (nt : ∀ ys, H q ≠ some (.tup ys)) : Mn m H (m ++ [q]) H := ⟨fun _ _ => snoc_get, fun a vs z n => ⟨z, by simp only [List.mem_append, List.mem_singleton, not_or]; exact ⟨n, fun y => nt vs (by rw [← y]; exact z)⟩⟩⟩
theorem HR.adopt {q : Addr} {o : MO} (R : HR G m h H) (nq : q ∉ m) (nt : ∀ ys, H q ≠ some (.tup ys)) (ro : OR G (m ++ [q]) H q o) : HR G (m ++ [q]) (h ++ [o]) H := by
  refine ⟨by simp [R.len], ?_, fun n a ob ea eo => ?_, R.scr⟩
  · rw [List.nodup_append]
    exact ⟨R.nd, by simp, fun a ha b hb => by simp at hb; subst hb; intro z; subst z; exact nq ha⟩
  · rcases snoc_cases ea with ea | ⟨rfl, rfl⟩
    · have eo' : h[n]? = some ob := by
        rcases snoc_cases eo with eo | ⟨q', _⟩
        · exact eo
        · have := (List.getElem?_eq_some_iff.mp ea).1
          rw [R.len] at this; omega
      exact OR.mono (Mn.adopt nt) rfl (R.ob n a ob ea eo')
    · have : ob = o := by
        rcases snoc_cases eo with eo | ⟨_, q'⟩
        · have := (List.getElem?_eq_some_iff.mp eo).1
          rw [← R.len] at this; omega
        · exact q'
      subst this
      exact ro
theorem comp_loop {x : List Str} {one : Bool} {pos : Pos} {tg elt iter : Expr} {ifs : List Expr} {scope : Scope} {cl : List (Str × Addr)} {gc : Option ME} {gelt : ME} {src : Src} {J : It} {fp : List Addr} {it D C : Addr} {tn : Nat → Heap → Prop} {s3 s4 : Shared} {H2 H3 H4 : Hp} {pins : List (Addr × Obj)} {all : List MV} {hE : MH}
    (ok : CompOk X x scope cl) (helt : ∀ C s H fp pins, GE G (compCx X x scope cl C s H fp pins) elt gelt) (hif : IfsOk G X x scope cl ifs gc) (htg : ∀ C s H fp pins, GTg G (compCx X x scope cl C s H fp pins) tg one (List.range' X.N.length x.length)) (hcalm : X.calm = true) (T : Turn X.prog X.w X.K tg J fp it tn) (hJ : JOk G J src one x.length m1 H2) (hlen : src.items.length ≤ 100000)
    (hall : compItems src gc gelt σ src.items h1 = .ok all hE) (f3 : ∀ b ∈ fp, FpOk X pins H3 b) (hC : ∀ b ∈ fp, b ≠ C) (hst : ∀ b ∈ fp, b ∉ frs X.stack) (I4 : Inv (compCx X x scope cl C s3 H3 fp pins) [] (σ' ++ List.replicate x.length none) H4 s4) (st4 : tn 0 s4.heap) (S1 : SR G m1 H4 σ σ') (R1 : HR G m1 h1 H4) (x4 : Ext m1 H2 m1 H4)
    (hD : H2 D = none) (nD : D ∉ m1) (eD : H4 D = some (.lst [])) (frp : ∀ b ∈ fp, H4 b = none) {Rr : Result → Shared → Prop}
    (hR : ∀ σc H5 m5 s5 vs, Inv (compCx X x scope cl C s3 H3 fp pins) [] σc H5 s5 → HR G m5 hE H5 → Ext m1 H2 m5 H5 → D ∉ m5 → VRs G m5 H5 all vs → H5 D = some (.lst vs) → Rr (.ok .next) s5) :
    codeAny (model X.prog X.w) X.A (.compLoop (.ListComp elt [⟨tg, iter, ifs, 0⟩] scope pos) 0 (.ref it) (.ref D) (compEnvC scope cl C X.env)) Rr s4 := by
  have len1 : σ'.length = X.N.length := by
    have := I4.len
    simp [compCx, compN] at this
    exact this
  have lenσ : σ.length = X.N.length := S1.len.trans len1
  have stat : ∀ {H' : Hp} {pl : List (Addr × Obj)}, (∀ b ∈ fp, H' b = none) → (∀ p ∈ pl, False) → ∀ b ∈ fp, FpOk (compCx X x scope cl C s3 H3 fp pins) pl H' b := fun hn hpl b hb =>
    ⟨hn b hb, hC b hb, hst b hb, .inl hb, fun y c e => (f3 b hb).2.2.2.2.1 y c (ok.cells y c e), fun p hp => by
      rcases List.mem_append.mp hp with z | z
      · exact (f3 b hb).2.2.2.2.2 p z
      · exact (hpl p z).elim⟩
  have S1' : SR G m1 H4 (σ ++ List.replicate x.length none) (σ' ++ List.replicate x.length none) := ⟨by simp [S1.len], fun i v e => by
    by_cases hi : i < σ.length
    · rw [List.getElem?_append_left hi] at e
      obtain ⟨v', q, r⟩ := S1.sl i v e
      exact ⟨v', by rw [List.getElem?_append_left (by rw [← S1.len]; exact hi)]; exact q, r⟩
    · rw [List.getElem?_append_right (by omega), List.getElem?_replicate] at e
      split at e <;> cases e⟩
  refine comp_turns (fun n s => ∃ k σc H5 m5 h5 acc vs rest, n = src.items.length - k ∧ k ≤ src.items.length ∧ Inv (compCx X x scope cl C s3 H3 fp pins) [] σc H5 s ∧ tn k s.heap ∧ (∀ b ∈ fp, H5 b = none) ∧ SR G m5 H5 (σ ++ List.replicate x.length none) σc ∧ HR G m5 h5 H5 ∧ Ext m1 H2 m5 H5 ∧ D ∉ m5 ∧ VRs G m5 H5 acc vs ∧ H5 D = some (.lst vs) ∧ acc.length ≤ k ∧
    compItems src gc gelt σ (src.items.drop k) h5 = .ok rest hE ∧ acc ++ rest = all) ?_ src.items.length ⟨0, _, H4, m1, h1, [], [], all, rfl, Nat.zero_le _, I4, st4, frp, S1', R1, x4, nD, .nil, eD, Nat.le_refl _, hall, rfl⟩
  rintro n s ⟨k, σc, H5, m5, h5, acc, vs, rest, rfl, hk, I5, st5, fr5, S5, R5, x5, nD5, ra, eD5, hac, hci, hsum⟩
  by_cases hlt : k < src.items.length
  · have ed : src.items.drop k = src.items[k] :: src.items.drop (k + 1) := List.drop_eq_getElem_cons hlt
    rw [ed] at hci
    unfold compItems at hci
    split at hci
    case isFalse => cases hci
    case isTrue hok =>
    obtain ⟨j1, _⟩ := hJ m5 h5 H5 x5 R5 hok
    obtain ⟨lv, go, yl⟩ := j1 k src.items[k] (by simp [hlt])
    generalize src.items[k] = v at lv yl hci
    refine wpAny_mono (T.item (compCx X x scope cl C s3 H3 fp pins) rfl rfl rfl hcalm k [] s σc H5 (fun _ _ => False) I5 (stat fr5 fun p z => by cases z) st5 go) (fun r s6 q6 => ?_) fun _ _ z => z.elim
    obtain ⟨w, rfl, q6⟩ := q6
    dsimp only
    have q7 : wpAny (model X.prog X.w) X.A (letOwnedTupleGo tg (.ref it) w >>= fun _ => assign tg (compEnvC scope cl C X.env) w) (fun _ s8 => ∃ σ8 H8 hp7, Inv (compCx X x scope cl C s3 H3 fp pins) ([] ++ pinsAt fp hp7) σ8 H8 s8 ∧ Ext m5 H5 m5 H8 ∧ HR G m5 h5 H8 ∧ SR G m5 H8 (σ ++ v.map some) σ8 ∧ tn (k + 1) hp7) (fun _ _ => False) s6 := by
      refine wpAny_bind (wpAny_mono q6 (fun _ s7 ⟨x', H', I7, rw7, y7, st7, fr7⟩ => ?_) fun _ _ z => z)
      obtain ⟨xx, RR, rx⟩ := yl x' H' y7
      have I8 := I7.pinned (stat fr7 fun p z => by cases z) (T.obj _ _ st7)
      obtain ⟨g, pg, hg⟩ := htg C s3 H3 fp pins (fun _ _ => False)
      refine wpAny_mono (pg _ s7 σc H' x' w (fun σ9 H9 => H9 = H' ∧ SR G m5 H' (σ ++ v.map some) σ9) (I8.wish _) rw7 (hg m5 H' v x' _ σc _ (S5.mono xx) rx (by simpa using lv) fun σ1' S1' => ⟨rfl, ?_⟩)) (fun _ s8 ⟨σ9, H9, I9, e2, S9⟩ => ?_) fun _ _ z => z
      · have e := setAll_app v σ
        rw [lenσ, lv] at e
        rw [e] at S1'
        exact S1'
      · subst e2
        exact ⟨σ9, H9, s7.heap, I9.unwish, xx, RR, S9, st7⟩
    have again : ∀ {s9 : Shared} {H9 : Hp} {m9 : List Addr} {h9 : MH} {σ9 : St} {hp7 : Heap} {acc9 : List MV} {vs9 : List V} {rest9 : List MV}, tn (k + 1) hp7 → Inv (compCx X x scope cl C s3 H3 fp pins) ([] ++ pinsAt fp hp7) σ9 H9 s9 → SR G m9 H9 (σ ++ v.map some) σ9 → HR G m9 h9 H9 → Ext m1 H2 m9 H9 → D ∉ m9 →
        VRs G m9 H9 acc9 vs9 → H9 D = some (.lst vs9) → acc9.length ≤ k + 1 → compItems src gc gelt σ (src.items.drop (k + 1)) h9 = .ok rest9 hE → acc9 ++ rest9 = all →
        ∃ n', n' < src.items.length - k ∧ ∃ k σc H5 m5 h5 acc vs rest, n' = src.items.length - k ∧ k ≤ src.items.length ∧ Inv (compCx X x scope cl C s3 H3 fp pins) [] σc H5 s9 ∧ tn k s9.heap ∧ (∀ b ∈ fp, H5 b = none) ∧ SR G m5 H5 (σ ++ List.replicate x.length none) σc ∧ HR G m5 h5 H5 ∧ Ext m1 H2 m5 H5 ∧ D ∉ m5 ∧ VRs G m5 H5 acc vs ∧ H5 D = some (.lst vs) ∧ acc.length ≤ k ∧
          compItems src gc gelt σ (src.items.drop k) h5 = .ok rest hE ∧ acc ++ rest = all := fun {s9 H9 m9 h9 σ9 hp7 acc9 vs9 rest9} st7 I9 S9 R9 x9 nD9 ra9 eD9 hac9 hci9 hsum9 => by
      have pn : ∀ b ∈ fp, ∀ o, hp7.get? b = some o → s9.heap.get? b = some o ∧ H9 b = none := fun b hb o e =>
        have z := I9.pin (b, o) (List.mem_append_right _ (List.mem_append_right _ (mem_pinsAt hb e)))
        ⟨z.1, z.2.1⟩
      refine ⟨src.items.length - (k + 1), by omega, k + 1, σ9, H9, m9, h9, acc9, vs9, rest9, rfl, hlt, I9.pins_of (fun p hp => absurd hp (by simp)), T.keep _ _ _ st7 fun b hb o e => (pn b hb o e).1, fun b hb => ?_, ?_, R9, x9, nD9, ra9, eD9, hac9, hci9, hsum9⟩
      · obtain ⟨o, e, _⟩ := T.obj _ _ st7 b hb
        exact (pn b hb o e).2
      · refine ⟨by have := S9.len; simp [lv] at this ⊢; exact this, fun i v' e => S9.sl i v' ?_⟩
        by_cases hi : i < σ.length
        · rw [List.getElem?_append_left hi] at e ⊢; exact e
        · rw [List.getElem?_append_right (by omega), List.getElem?_replicate] at e
          split at e <;> cases e
    have body : ∀ {s8 : Shared} {H8 : Hp} {m8 : List Addr} {h8 : MH} {σ8 : St} {hp7 : Heap} {E' : Value → Shared → Prop}, tn (k + 1) hp7 → Inv (compCx X x scope cl C s3 H3 fp pins) ([] ++ pinsAt fp hp7) σ8 H8 s8 → SR G m8 H8 (σ ++ v.map some) σ8 → HR G m8 h8 H8 → Ext m5 H5 m8 H8 →
        bnd (gelt (σ ++ v.map some)) (fun ve => bnd (compItems src gc gelt σ (src.items.drop (k + 1))) fun ws => ret (ve :: ws)) h8 = .ok rest hE →
        wpAny (model X.prog X.w) X.A (eval elt (compEnvC scope cl C X.env)) (fun xv s9 => wpAny (model X.prog X.w) X.A (call (.builtin "list.append") [.ref D, xv]) (fun _ s10 => ∃ n', n' < src.items.length - k ∧ ∃ k σc H5 m5 h5 acc vs rest, n' = src.items.length - k ∧ k ≤ src.items.length ∧ Inv (compCx X x scope cl C s3 H3 fp pins) [] σc H5 s10 ∧ tn k s10.heap ∧ (∀ b ∈ fp, H5 b = none) ∧ SR G m5 H5 (σ ++ List.replicate x.length none) σc ∧ HR G m5 h5 H5 ∧ Ext m1 H2 m5 H5 ∧ D ∉ m5 ∧ VRs G m5 H5 acc vs ∧ H5 D = some (.lst vs) ∧ acc.length ≤ k ∧
          compItems src gc gelt σ (src.items.drop k) h5 = .ok rest hE ∧ acc ++ rest = all) E' s9) E' s8 := fun {s8 H8 m8 h8 σ8 hp7 E'} st7 I8 S8 R8 x8 hc8 => by
      obtain ⟨eD8, nD8⟩ := x8.fr D _ eD5 nD5
      obtain ⟨ve, h9, rest9, eg, hci9, er⟩ : ∃ ve h9 rest9, gelt (σ ++ v.map some) h8 = .ok ve h9 ∧ compItems src gc gelt σ (src.items.drop (k + 1)) h9 = .ok rest9 hE ∧ rest = ve :: rest9 := by
        simp only [bnd] at hc8
        cases eg : gelt (σ ++ v.map some) h8 with
        | ok ve h9 =>
          rw [eg] at hc8
          dsimp only at hc8
          cases ec : compItems src gc gelt σ (src.items.drop (k + 1)) h9 with
          | ok ws h10 =>
            rw [ec] at hc8
            injection hc8 with e1 e2
            subst e1; subst e2
            exact ⟨ve, h9, ws, rfl, ec, rfl⟩
          | exc c h' => rw [ec] at hc8; cases hc8
          | stuck => rw [ec] at hc8; cases hc8
        | exc c h' => rw [eg] at hc8; cases hc8
        | stuck => rw [eg] at hc8; cases hc8
      subst er
      refine wpAny_mono (helt C s3 H3 fp pins (fun _ _ => False) ET _ s8 σ8 H8 (fun v' H9 => ∃ m9, Ext m8 H8 m9 H9 ∧ HR G m9 h9 H9 ∧ VR G m9 H9 ve v') (I8.wish _) ⟨m8, h8, σ ++ v.map some, trivial, S8, R8, by rw [eg]; exact fun m9 H9 y R9 v' rv => ⟨m9, y, R9, rv⟩⟩) (fun xv s9 ⟨v', H9, I9, r9, m9, x9, R9, rv⟩ => ?_) fun _ _ z => z.elim
      obtain ⟨eD9, nD9⟩ := x9.fr D _ eD8 nD8
      have x59 : Ext m1 H2 m9 H9 := (x5.trans x8).trans x9
      refine wpAny_mono (mt_append (X := (compCx X x scope cl C s3 H3 fp pins).wish fun _ _ => False) _ s9 σ8 H9 (.ref D) [v'] (.ref D) [xv] (fun _ H10 => H10 = upd H9 D (.lst (vs ++ [v']))) I9 rfl (.cons r9 .nil) ⟨D, vs, v', rfl, rfl, eD9, ?_, rfl⟩) (fun _ s10 ⟨v10, H10, I10, _, e10⟩ => ?_) fun _ _ z => z.elim
      · rw [← Paired.length ra]
        exact Nat.lt_of_lt_of_le (Nat.lt_of_le_of_lt hac (Nat.lt_of_lt_of_le hlt hlen)) (big (Nat.le_refl _))
      · subst e10
        have mD : Mn m9 H9 m9 (upd H9 D (.lst (vs ++ [v']))) := Mn.sideSet fun ys z => by rw [eD9] at z; cases z
        exact again (acc9 := acc ++ [ve]) (vs9 := vs ++ [v']) (rest9 := rest9) st7 I10.unwish ((S8.mono x9).mn mD) (R9.sideSet nD9 (fun ys z => by rw [eD9] at z; cases z) (fun o' ys z => by rw [eD9] at z; cases z)) (x59.sideSet hD) nD9 (VRs.mono mD (pairApp (x9.vrs (x8.vrs ra)) (.cons rv .nil))) upd_same (by simp; omega) hci9 (by simpa using hsum)
    refine wpAny_mono q7 (fun _ s8 ⟨σ8, H8, hp7, I8, x58, R8, S8, st7⟩ => ?_) fun _ _ z => z.elim
    cases ifs with
    | nil => cases gc with
      | none =>
        simp only [List.forIn_nil]
        refine wpAny_pure ?_
        rw [if_pos rfl]
        exact body st7 I8 S8 R8 x58 hci
      | some g => exact hif.elim
    | cons c more => cases more with
      | nil => cases gc with
        | none => exact hif.elim
        | some g =>
          have hif : ∀ C s H fp pins, GT G (compCx X x scope cl C s H fp pins) c g := hif
          unfold bnd at hci
          cases et : tst g (σ ++ v.map some) h5 with
          | ok b h6 =>
            simp only [et] at hci
            refine wpAny_tests_one (wpAny_mono (hif C s3 H3 fp pins (fun _ _ => False) ET _ s8 _ H8 (fun b' H6 => b' = b ∧ ∃ m6, Ext m5 H8 m6 H6 ∧ HR G m6 h6 H6) (I8.wish _) ⟨m5, h5, σ ++ v.map some, trivial, S8, R8, by
                rw [et]; exact fun m6 H6 y R6 => ⟨rfl, m6, y, R6⟩⟩) (fun b' s9 ⟨H6, I9, eb, m6, x6, R6⟩ => ?_) fun _ _ z => z.elim)
            subst eb
            cases b' with
            | true =>
              rw [if_pos rfl]
              exact body st7 I9.unwish (S8.mono x6) R6 (x58.trans x6) (by simpa only [bnd, if_true] using hci)
            | false =>
              rw [if_neg Bool.false_ne_true]
              obtain ⟨eD6, nD6⟩ := (x58.trans x6).fr D _ eD5 nD5
              exact again st7 I9.unwish (S8.mono x6) R6 (x5.trans (x58.trans x6)) nD6 ((x58.trans x6).vrs ra) eD6 (by omega) (by simpa using hci) hsum
          | exc c h' => simp only [et] at hci; cases hci
          | stuck => simp only [et] at hci; cases hci
      | cons _ _ => exact hif.elim
  · have e : k = src.items.length := by omega
    subst e
    rw [List.drop_length] at hci
    unfold compItems at hci
    split at hci
    case isFalse => cases hci
    case isTrue hok =>
    obtain ⟨_, stp⟩ := hJ m5 h5 H5 x5 R5 hok
    injection hci with e1 e2
    subst e1; subst e2
    refine wpAny_mono (T.done (compCx X x scope cl C s3 H3 fp pins) rfl rfl rfl hcalm _ [] s σc H5 (fun _ _ => False) I5 (stat fr5 fun p z => by cases z) st5 stp) (fun r s6 q6 => ?_) fun _ _ z => z.elim
    obtain ⟨rfl, I6⟩ := q6
    rw [List.append_nil] at hsum
    subst hsum
    exact hR σc H5 m5 s6 vs I6 R5 x5 nD5 ra eD5
theorem comp_core {x : List Str} {one : Bool} {pos : Pos} {tg elt iter : Expr} {ifs : List Expr} {scope : Scope} {cl : List (Str × Addr)} {gi : MI} {gc : Option ME} {gelt : ME} (ok : CompOk X x scope cl) (hi : GI G X tg iter one x.length gi)
    (helt : ∀ C s H fp pins, GE G (compCx X x scope cl C s H fp pins) elt gelt) (hif : IfsOk G X x scope cl ifs gc) (htg : ∀ C s H fp pins, GTg G (compCx X x scope cl C s H fp pins) tg one (List.range' X.N.length x.length)) (hcalm : X.calm = true) {pins : List (Addr × Obj)} {s : Shared} (I : Inv X pins σ' H s) (ex : EX σ') (S : SR G m H σ σ') (R : HR G m h H)
    {Q : MV → List Addr → MH → Hp → Prop} (P : Post G X E EX m H (eComp gi gc gelt σ h) Q) {RR : Value → Addr → Result → Shared → Prop}
    (hRR : ∀ D C s5 H5 m5 h5 v, Inv X pins σ' H5 s5 → Fp X pins H5 C → (∃ mm, s5.heap.Ns C mm) → Ext m H m5 H5 → HR G m5 h5 H5 → VR G m5 H5 v (.ref D) → Q v m5 h5 H5 → RR (.ref D) C (.ok .next) s5) :
    wpAny (model X.prog X.w) X.A (eval iter X.env) (fun xv s₁ => wpAny (model X.prog X.w) X.A (pyIter xv) (fun it s₂ => wpAny (model X.prog X.w) X.A (newList []) (fun acc s₃ =>
      wpAny (model X.prog X.w) X.A (newFunctionEnv scope X.env.globals cl [] X.env.qual none .none (some X.env)) (fun cenv s₄ =>
        codeAny (model X.prog X.w) X.A (.compStart (.ListComp elt [⟨tg, iter, ifs, 0⟩] scope pos) 0 it acc { cenv with scope := relabel scope X.env }) (RR acc cenv.locals) s₄) E s₃) E s₂) E s₁) E s := by
  obtain ⟨wi, pw, hw⟩ := hi E EX
  refine wpAny_mono (pw pins s σ' H (fun J H2 => ∃ src m1 h1, JOk G J src one x.length m1 H2 ∧ HR G m1 h1 H2 ∧ Ext m H m1 H2 ∧ Post G X E EX m1 H2 ((if src.items.length ≤ 100000 then bnd (noExc (compItems src gc gelt σ src.items)) (fun vs => new (.lst vs)) else stk) h1) Q) (I.wish E)
    (hw σ' H _ ⟨m, h, σ, ex, S, R, (Post.bind P).mono fun src m1 h1 H1 x1 R1 P1 J hJ => ⟨src, m1, h1, hJ, R1, x1, P1⟩⟩)) (fun xv s1 q1 => wpAny_mono q1 (fun itv s2 q2 => ?_) fun _ _ z => z) fun _ _ z => z
  obtain ⟨it, fp, tn, J, H2, rfl, I2, T, st2, f2, src, m1, h1, hJ, R1, x1, P1⟩ := q2
  have I2 := I2.unwish
  have f2 : ∀ b ∈ fp, FpOk X pins H2 b := f2
  split at P1
  case isFalse => exact P1.elim
  case isTrue hlen =>
  -- the items come out
  obtain ⟨all, hE, hall, P2⟩ : ∃ all hE, compItems src gc gelt σ src.items h1 = .ok all hE ∧ Post G X E EX m1 H2 (new (.lst all) hE) Q := by
    unfold bnd noExc at P1
    cases e : compItems src gc gelt σ src.items h1 with
    | ok all hE => rw [e] at P1; exact ⟨all, hE, rfl, P1⟩
    | exc c h' => rw [e] at P1; exact P1.elim
    | stuck => rw [e] at P1; exact P1.elim
  have fD : H2 s2.heap.objs.size = none := I2.hok.fresh (Nat.le_refl _)
  refine wpAny_newObj_type ?_
  have I3 := I2.laid (t' := s2.toks) (o := .lst []) (h' := s2.heap.push { cls := .type "list", dict := none, data := .seq ([] : List Value).toArray }) (fun b u e => Heap.get?_push_of_some _ e) (Nat.le_refl _) ⟨Nat.zero_le _, [], 0, .nil, Heap.get?_push_size _ rfl⟩
  generalize hs3 : ({ s2 with heap := s2.heap.push { cls := .type "list", dict := none, data := .seq ([] : List Value).toArray } } : Shared) = s3 at I3 ⊢
  have e3 : ∀ b o, s2.heap.get? b = some o → s3.heap.get? b = some o := fun b o e => by rw [← hs3]; exact Heap.get?_push_of_some _ e
  have z3 : s2.heap.objs.size < s3.heap.objs.size := by rw [← hs3]; simp
  have ffo : ∀ b ∈ fp, ∃ o, s2.heap.get? b = some o := fun b hb => let ⟨o, e, _⟩ := T.obj 0 _ st2 b hb; ⟨o, e⟩
  have f3 : ∀ b ∈ fp, FpOk X pins (upd H2 s2.heap.objs.size (.lst [])) b := fun b hb => by
    obtain ⟨o, e⟩ := ffo b hb
    exact ⟨by rw [upd_ne (Nat.ne_of_lt (Heap.lt_size e))]; exact (f2 b hb).1, (f2 b hb).2⟩
  refine wpAny_newFunctionEnv ok.nocell (fun y hy => by simp at hy) (fun hp4 ns4 sb4 => ?_) ok.kind
  have k4 : ∀ b o, s3.heap.get? b = some o → hp4.get? b = some o := fun b o e => sb4.extBut b o (Nat.ne_of_lt (Heap.lt_size e)) (Heap.get?_push_of_some _ e)
  have I4 := comp_start (t := s3.toks + ([] : List (Str × Value)).length) ok I3 f3 (fun b hb => let ⟨o, e⟩ := ffo b hb; ⟨o, e3 b o e⟩) ⟨_, ns4⟩ k4
  have st4 : tn 0 hp4 := T.keep 0 _ _ st2 fun b hb o e => k4 b o (e3 b o e)
  have stkF : ∀ b ∈ fp, b ∉ frs X.stack := fun b hb z => by
    rcases List.mem_cons.mp (I3.stkSub b z) with y | y
    · exact (f3 b hb).2.1 y
    · exact (f3 b hb).2.2.1 y
  have loop := comp_loop (pos := pos) (iter := iter) (C := s3.heap.objs.size) (s3 := s3) (D := s2.heap.objs.size) ok helt hif htg hcalm T hJ hlen hall f3 (fun b hb => let ⟨o, e⟩ := ffo b hb; Nat.ne_of_lt (Heap.lt_size (e3 b o e))) stkF I4 st4 ((S.mono x1).mono (Ext.side fD)) (R1.side fD) (Ext.side fD) fD (R1.fresh fD) upd_same (fun b hb => (f3 b hb).1)
    (Rr := RR (.ref s2.heap.objs.size) s3.heap.objs.size) fun σc H5 m5 s5 vs I5 R5 x5 nD5 ra eD5 => by
      have xA : Ext m1 H2 (m5 ++ [s2.heap.objs.size]) H5 := by
        obtain ⟨e, pe⟩ := x5.pre
        refine ⟨⟨e ++ [s2.heap.objs.size], by rw [pe]; simp⟩, fun a o z n => ⟨(x5.fr a o z n).1, ?_⟩⟩
        simp only [List.mem_append, List.mem_singleton, not_or]
        exact ⟨(x5.fr a o z n).2, ne_of_none z fD⟩
      have RA : HR G (m5 ++ [s2.heap.objs.size]) (hE ++ [.lst all]) H5 := R5.adopt nD5 (fun ys z => by rw [eD5] at z; cases z) ⟨vs, VRs.mono (Mn.adopt (fun ys z => by rw [eD5] at z; cases z)) ra, eD5⟩
      refine hRR s2.heap.objs.size s3.heap.objs.size s5 H5 (m5 ++ [s2.heap.objs.size]) (hE ++ [.lst all]) (.ref hE.length) (I3.call' I5.os I5.base I5.hok I5.bare fun b hb => ⟨(f3 b hb).2.2.2.1, (f3 b hb).2.1, (f3 b hb).2.2.2.2.1, (f3 b hb).2.2.2.2.2⟩) (Fp.of I3 (Heap.get?_none_of_le (Nat.le_refl _)) I5.free) ?_ (x1.trans xA) RA ⟨_, by rw [← R5.len]; simp, rfl⟩ (P2 _ _ xA RA)
      obtain ⟨mm, hn, _⟩ := I5.loc
      exact ⟨mm, hn⟩
  exact codeAny_compStart_list loop (T.self X.A 0 _ _ _ st4 loop)
/-- [elt for x in iter if c] -/
theorem ge_comp {x : List Str} {one : Bool} {pos : Pos} {tg elt iter : Expr} {ifs : List Expr} {scope : Scope} {cl : List (Str × Addr)} {gi : MI} {gc : Option ME} {gelt : ME} (ok : CompOk X x scope cl) (hi : GI G X tg iter one x.length gi)
    (helt : ∀ C s H fp pins, GE G (compCx X x scope cl C s H fp pins) elt gelt) (hif : IfsOk G X x scope cl ifs gc) (htg : (compN X.N x).Nodup → ∀ C s H fp pins, GTg G (compCx X x scope cl C s H fp pins) tg one (List.range' X.N.length x.length)) (hcalm : X.calm = true := by rfl) (hs : ∀ z, foldedSetIterable iter X.env z = pure z := by intro _; rfl) :
    GE G X (.ListComp elt [⟨tg, iter, ifs, 0⟩] scope pos) (eComp gi gc gelt) := fun E EX pins s σ' H Q I ⟨m, h, σ, ex, S, R, P⟩ => by
  rw [eval_ListComp]
  refine wpAny_comprehension_free (use := none) rfl hs ok.clos ok.kind ok.locs ?_
  refine comp_core (RR := fun acc C => compPost (model X.prog X.w) X.A E none (EP (X.wish E) pins σ' Q) acc C) ok hi helt hif (htg ok.nd) hcalm I.unwish ex S R P fun D C s5 H5 m5 h5 v I5 fC hn x5 R5 rv q => ?_
  obtain ⟨mm, hn⟩ := hn
  refine ⟨mm, hn, fun h6 hs6 => ⟨.ref D, H5, Inv.wish ?_ E, rfl, q _ rv⟩⟩
  exact fC.turned (t' := s5.toks) I5 fun c o hc e => hs6.extBut c o hc e
/-- y = [elt for x in iter if c] -/
theorem gs_set_comp {x : List Str} {y : Str} {n : Nat} {one : Bool} {py pos spos : Pos} {tg elt iter : Expr} {ifs : List Expr} {scope : Scope} {cl : List (Str × Addr)} {gi : MI} {gc : Option ME} {gelt : ME} (ok : CompOk X x scope cl) (hi : GI G X tg iter one x.length gi)
    (helt : ∀ C s H fp pins, GE G (compCx X x scope cl C s H fp pins) elt gelt) (hif : IfsOk G X x scope cl ifs gc) (htg : (compN X.N x).Nodup → ∀ C s H fp pins, GTg G (compCx X x scope cl C s H fp pins) tg one (List.range' X.N.length x.length)) (hN : X.N.Nodup) (hy : X.N[n]? = some y := by rfl) (hl : X.env.scope.names.lookup y = some .local := by rfl) (hcalm : X.calm = true := by rfl) (hs : ∀ z, foldedSetIterable iter X.env z = pure z := by intro _; rfl)
    (hsw : swapsWith (.ListComp elt [⟨tg, iter, ifs, 0⟩] scope pos) (some (.Name y py)) spos.line X.env = pure true := by rfl) :
    GS G EX X (.Assign [.Name y py] (.ListComp elt [⟨tg, iter, ifs, 0⟩] scope pos) spos) (sSet n (eComp gi gc gelt)) := fun E hp pins s σ' H D I ⟨m, h, σ, ex, S, R, P⟩ => by
  show wpAny _ _ (exec _ X.env) _ _ s
  rw [exec_Assign_Name_used _ _ _ _ hsw]
  refine wpAny_bind (wpAny_standAt (wpAny_bind ?_))
  show wpAny _ X.A (do let _ ← comprehension (.ListComp elt [⟨tg, iter, ifs, 0⟩] scope pos) scope X.env _ (newList []) false (eval iter X.env) (some (assign (.Name y py) X.env))) _ _ s
  refine wpAny_bind (wpAny_mono (wpAny_comprehension_free (use := some (assign (.Name y py) X.env)) (Q := fun _ s' => SP (X.wish E) pins D .next s') rfl hs ok.clos ok.kind ok.locs ?_) (fun _ s' hq => wpAny_pure (wpAny_pure hq)) fun _ _ z => z)
  refine comp_core (RR := fun acc C => compPost (model X.prog X.w) X.A E (some (assign (.Name y py) X.env)) (fun _ s' => SP (X.wish E) pins D .next s') acc C) ok hi helt hif (htg ok.nd) hcalm I.unwish ex S R (Post.bind P) fun D' C s5 H5 m5 h5 v I5 fC hn x5 R5 rv q => ?_
  obtain ⟨mm, oC, es, ep, hoC, hdC, hkC⟩ := hn
  have I6 : Inv X (pins ++ [(C, oC)]) σ' H5 s5 := I5.pins_of fun p hp => by
    rcases List.mem_append.mp hp with z | z
    · exact I5.pin p (List.mem_append_right _ z)
    · cases List.mem_singleton.mp z
      exact ⟨hoC, fC.un, fC.loc, fC.fs, fun v' z => by rw [hdC] at z; cases z⟩
  refine wpAny_assign_Name (store_ok (X := X) (v := .ref D') I6 hN hy (.inl hl) rfl (fun s7 I7 => ?_) (.inr hl))
  have pC := I7.pin (C, oC) (List.mem_append_right _ (List.mem_append_right _ (List.mem_singleton.mpr rfl)))
  refine ⟨mm, ⟨oC, es, ep, pC.1, hdC, hkC⟩, fun h8 hs8 => ?_⟩
  have I8 : Inv X pins (σ'.set n (some (.ref D'))) H5 s7 := I7.pins_of fun p hp => I7.pin p (List.mem_append_right _ (List.mem_append_left _ hp))
  have I9 : Inv X pins (σ'.set n (some (.ref D'))) H5 { s7 with heap := h8 } := fC.turned (t' := s7.toks) I8 fun c o hc e => hs8.extBut c o hc e
  exact ⟨_, H5, I9.wish E, Post.here R5 q _ ((S.mono x5).set n rv)⟩
end L2.Rv

set_option linter.all false
set_option maxRecDepth 100000
namespace L2.Rv
open PySem PySem.Spec PyProof.Rows
variable {G : Gb} {m m' m1 m2 : List Addr} {h h' h1 h2 : MH} {H H' H1 H2 : Hp} {X : Cx} {E : Value → Shared → Prop} {EX : St → Prop} {σ : MSt} {σ' : St}
theorem VR.flat_iff {x : MV} {v : V} (na : x ≠ .any) (r : VR G m H x v) : flatV v = flat x := by
  cases x with
  | any => exact absurd rfl na
  | tup n => obtain ⟨a, vs, q, _⟩ := r; subst q; rfl
  | ref n => obtain ⟨a, _, q⟩ := r; subst q; rfl
  | scr n => obtain ⟨_, q⟩ := r; subst q; rfl
  | non => cases (show v = V.non from r); rfl
  | bl b => cases (show v = V.bl b from r); rfl
  | int b => cases (show v = V.int b from r); rfl
  | str b => cases (show v = V.str b from r); rfl
theorem VR.eq_iff {x y : MV} {v w : V} (r : VR G m H x v) (q : VR G m H y w) (fx : flat x = true) (fy : flat y = true) : eqV v w = eqM x y := by
  cases x <;> cases y <;> first | (exact absurd fx Bool.false_ne_true) | (exact absurd fy Bool.false_ne_true) | (cases r; cases q; rfl)
theorem flat_na {x : MV} (f : flat x = true) : x ≠ .any := fun z => by rw [z] at f; cases f
theorem VRs.flat_iff {xs : List MV} {vs : List V} (r : VRs G m H xs vs) (f : xs.all flat = true) : vs.all flatV = true := by
  induction r with
  | nil => rfl
  | cons a t ih =>
    simp only [List.all_cons, Bool.and_eq_true] at f ⊢
    exact ⟨by rw [VR.flat_iff (flat_na f.1) a]; exact f.1, ih f.2⟩
theorem VRs.in_iff {xs : List MV} {vs : List V} {x : MV} {v : V} (q : VR G m H x v) (fx : flat x = true) (r : VRs G m H xs vs) (fs : xs.all flat = true) : inV v vs = inM x xs := by
  unfold inV inM
  induction r with
  | nil => rfl
  | cons a t ih =>
    simp only [List.all_cons, Bool.and_eq_true] at fs
    simp only [List.any_cons, ih fs.2, VR.eq_iff a q fs.1 fx]
def rInD (neg : Bool) : R2 := fun x y H Q => ∃ a o, y = .ref a ∧ DGet H a x o ∧ Q (.bl (if neg then !o.isSome else o.isSome)) H
theorem op_inA (hu : X.A.units + 1 < cLine) : OpR X (compareOp .In) (fun x y H Q => rIn X.K false x y H Q ∨ rInD false x y H Q) := by
  refine op_in_seq.or ?_
  intro pins s σ2 H x y v u Q I rx ry ⟨a, o, ey, g, q⟩
  subst ey
  cases ry
  exact d_in hu I g rx fun s3 I3 => ⟨.bl o.isSome, H, I3, rfl, q⟩
theorem op_notInA (hu : X.A.units + 1 < cLine) : OpR X (compareOp .NotIn) (fun x y H Q => rIn X.K true x y H Q ∨ rInD true x y H Q) := by
  refine op_notIn_seq.or ?_
  intro pins s σ2 H x y v u Q I rx ry ⟨a, o, ey, g, q⟩
  subst ey
  cases ry
  exact d_notIn hu I g rx fun s3 I3 => ⟨.bl (!o.isSome), H, I3, rfl, q⟩
theorem vo_in {neg : Bool} : VO G (oIn neg) (fun x y H Q => rIn G.K neg x y H Q ∨ rInD neg x y H Q) := by
  intro X E EX m h H x y x' y' Q R rx ry P
  cases y with
  | ref a =>
    obtain ⟨aa, ea, rfl⟩ := ry
    obtain ⟨oa, e1, q1, P1⟩ := look_post R ea P
    cases oa with
    | lst xs =>
      obtain ⟨vs, r, z⟩ := q1
      dsimp only at P1
      split at P1
      · rename_i c
        exact .inl ⟨aa, vs, rfl, .inl (SqL.of z), by rw [VR.flat_iff (flat_na c.1) rx]; exact c.1, VRs.flat_iff r c.2, by rw [VRs.in_iff rx c.1 r c.2]; exact Post.here R P1 _ rfl⟩
      · exact P1.elim
    | dct kvs =>
      obtain ⟨ws, r, z⟩ := q1
      dsimp only at P1
      cases x with
      | str k =>
        cases (show x' = V.str k from rx)
        refine .inr ⟨aa, _, rfl, DGet.k (k := Sum.inr k) z, ?_⟩
        have e : (valV ws (Sum.inr k)).isSome = (dget k kvs).isSome := by rw [← valV_any, dget_any r]
        rw [e]
        exact Post.here R P1 _ rfl
      | _ => exact P1.elim
    | _ => exact P1.elim
  | tup xs =>
    obtain ⟨aa, vs, rfl, _, z, r⟩ := ry
    have r := VRl.to r
    unfold oIn at P
    dsimp only at P
    split at P
    · rename_i c
      exact .inl ⟨aa, vs, rfl, .inr (SqT.of z), by rw [VR.flat_iff (flat_na c.1) rx]; exact c.1, VRs.flat_iff r c.2, by rw [VRs.in_iff rx c.1 r c.2]; exact Post.here R P _ rfl⟩
    · exact P.elim
  | _ => exact P.elim
/-! list(range(n)) -/
theorem pairedOf {α β : Type} {Rr : α → β → Prop} : ∀ (xs : List α) (ys : List β), xs.length = ys.length → (∀ (i : Nat) x y, xs[i]? = some x → ys[i]? = some y → Rr x y) → Paired Rr xs ys
  | [], [], _, _ => .nil
  | [], _ :: _, e, _ => by simp at e
  | _ :: _, [], e, _ => by simp at e
  | x :: xs, y :: ys, e, f => .cons (f 0 x y rfl rfl) (pairedOf xs ys (by simpa using e) fun i a b ha hb => f (i + 1) a b (by simpa using ha) (by simpa using hb))
theorem vrs_ints {α : Type} (f : α → Int) : ∀ (l : List α), VRs G m H (l.map fun k => MV.int (f k)) (l.map fun k => V.int (f k))
  | [] => .nil
  | _ :: r => .cons rfl (vrs_ints f r)
theorem ge_listRange {a : Expr} {ga : ME} {p q pos pos' : Pos} (ha : GE G X a ga) (hm : X.mg "range" = none) (hl : X.mg "list" = none) (hd : X.A.handled = none) (hg : Gl X "range" := by rfl) (hg2 : Gl X "list" := by rfl) (hs : starEach [a] X.env = [(false, eval a X.env)] := by rfl)
    (hs2 : starEach [.Call (.Name "range" q) [a] [] pos'] X.env = [(false, eval (.Call (.Name "range" q) [a] [] pos') X.env)] := by rfl) : GE G X (.Call (.Name "list" p) [.Call (.Name "range" q) [a] [] pos'] [] pos) (eUn oListRange ga) := fun E EX => by
  have hr : PE (X.wish E) (.Call (.Name "range" q) [a] [] pos') (fun σ' H Q => tCons (TGe G X E EX ga) tNil σ' H fun vs H1 => ∃ j : Int, vs = [.int j] ∧ ∀ p, H1 p = none → Q (.ref p) (upd H1 p (.rng 0 j))) := by
    intro pins s σ' H Q I t
    refine Call_ (ld_blt I hg hm boot_range (PyProof.Rows.callWith_type1 (thn (ha.a1 hs E EX pos' pins s σ' H _ I t) fun us s1 ⟨vs, H1, I1, r1, q1⟩ => ?_) hs rfl))
    obtain ⟨j, rfl, q1⟩ := q1
    obtain ⟨u, rfl, ru⟩ := vals1 r1
    obtain ⟨t, rfl⟩ := ru
    refine call_range_1 ⟨.ref s1.heap.objs.size, _, I1.laid (t' := s1.toks + 1 + 1) (o := .rng 0 j) (fun b u e => Heap.get?_push_of_some _ e) (Nat.le_refl _) ⟨_, _, _, Heap.get?_push_size _ rfl⟩, rfl, q1 _ (I1.hok.fresh (Nat.le_refl _))⟩
  have hc : CallR (X.wish E) (.type "list") (fun xs H Q => ∃ (p : Addr) (j : Int), xs = [.ref p] ∧ H p = some (.rng 0 j) ∧ (-1000000 ≤ j ∧ j ≤ 1000000) ∧ ∀ l, H l = none → Q (.ref l) (upd H l (.lst ((List.range j.toNat).map fun (k : Nat) => V.int k)))) := by
    intro pins s σ' H xs us Q I r ⟨p, j, ex, hp, hj, q⟩
    subst ex
    obtain ⟨u, rfl, ru⟩ := vals1 r
    cases ru
    obtain ⟨t1, t2, t3, hget⟩ := (show ObjOk X.prog X.w H s.heap p (.rng 0 j) from I.hok p _ hp)
    refine call_list_range (n := j.toNat) hd hget (small_one (by decide) (by decide) (by omega) (by omega)) (by rw [rangeSize_one]; split <;> omega) (by omega) fun h' tk acc c hk hget' hit => ?_
    refine ⟨.ref s.heap.objs.size, _, I.laid (t' := tk) (o := .lst ((List.range j.toNat).map fun (k : Nat) => V.int k)) hk (Nat.le_refl _) ⟨by rw [List.length_map, List.length_range]; exact Nat.le_trans (show j.toNat ≤ 1000000 by omega) (show 1000000 ≤ sizeLine by decide), acc.toList, c, ?_, by simpa using hget'⟩, rfl, q _ (I.hok.fresh (Nat.le_refl _))⟩
    refine pairedOf _ _ (by simp [hit.1]) fun i a b ha hb => ?_
    have hi : i < j.toNat := by
      have := (List.getElem?_eq_some_iff.mp ha).1
      simpa using this
    rw [List.getElem?_map, List.getElem?_range hi] at ha
    cases ha
    obtain ⟨t, rfl⟩ := hit.2 i b (by simpa using hb)
    exact ⟨t, by simp⟩
  refine PE_imp (pe_callTy (X := X.wish E) hc hg2 hl PyProof.Rows.Boot.«list» (pa_cons (X := X.wish E) hr pa_nil hs2) (by decide) (by decide) hs2 rfl) fun σ' H Q ⟨m, h, σ, ex, S, R, P⟩ => ?_
  refine sub ex S R P fun v m1 h1 H1 v' x1 R1 r1 P1 => ?_
  cases v with
  | int j =>
    cases (show v' = V.int j from r1)
    refine ⟨j, rfl, fun p hp => ?_⟩
    have P1 : Post G X E EX m1 H1 ((if -1000000 ≤ j ∧ j ≤ 1000000 then new (.lst ((List.range j.toNat).map fun (k : Nat) => MV.int k)) else stk) h1) _ := P1
    split at P1
    · rename_i hj
      refine ⟨p, j, rfl, upd_same, hj, fun l hl => ?_⟩
      exact new_lst (R1.side hp) (vrs_ints (fun (k : Nat) => (k : Int)) _) (P1.ext (Ext.side hp)) hl
    · exact P1.elim
  | _ => exact P1.elim
end L2.Rv
namespace L2.Rv
open PySem PySem.Spec PyProof.Rows
variable {G : Gb} {X : Cx}
/-! ### what a comprehension's scope must say, as one test -/
def ClOk (env : Env) : List (Str × Addr) → Prop
  | [] => True
  | (n, c) :: r => env.cells.lookup n = some c ∧ ClOk env r
theorem ClOk.get {env : Env} : ∀ {cl : List (Str × Addr)}, ClOk env cl → ∀ n c, cl.lookup n = some c → env.cells.lookup n = some c
  | [], _, n, c, e => by simp at e
  | (n', c') :: r, k, n, c, e => by
    by_cases hn : n = n'
    · subst hn
      simp only [List.lookup_cons, beq_self_eq_true] at e
      cases e
      exact k.1
    · have hb : (n == n') = false := by simpa using hn
      simp only [List.lookup_cons, hb] at e
      exact ClOk.get k.2 n c e
def compChk (N : List Str) (x : List Str) (scope : Scope) (env : Env) (cl : List (Str × Addr)) : Bool :=
  scope.names.all (fun y => y.2 != .cell) && scope.names.all (fun y => y.2 != .local || scope.names.lookup y.1 == some .local) && true &&
  scope.names.all (fun y => y.2 != .free || ((cl.lookup y.1).isSome && (env.kindOf y.1 == some .cell || env.kindOf y.1 == some .free))) &&
  N.all (fun n => decide (n ∈ x) || scope.names.lookup n != some .local) && (scope.names.lookup (Str.ofString "")).isNone && decide (compN N x).Nodup
theorem CompOk.of {x : List Str} {scope : Scope} {cl : List (Str × Addr)} (h1 : closureFor scope X.env = pure cl) (h2 : ClOk X.env cl) (h0 : scope.kind = .function) (h3 : compChk X.N x scope X.env cl = true) : CompOk X x scope cl := by
  simp only [compChk, Bool.and_eq_true, List.all_eq_true, Bool.or_eq_true, bne_iff_ne, ne_eq, beq_iff_eq, decide_eq_true_eq, Option.isNone_iff_eq_none] at h3
  obtain ⟨⟨⟨⟨⟨⟨a1, a2⟩, a3⟩, a4⟩, a5⟩, a6⟩, a7⟩ := h3
  refine ⟨h1, h2.get, h0, a1, fun y hy e => (a2 y hy).resolve_left (fun z => z e), fun y e => ?_, fun y e => ?_, fun n hn ne => (a5 n hn).resolve_left ne, a6, a7⟩
  · have := (a4 _ (PySem.mem_of_lookup e)).resolve_left (fun z => z rfl)
    exact Option.isSome_iff_exists.mp this.1
  · exact ((a4 _ (PySem.mem_of_lookup e)).resolve_left (fun z => z rfl)).2
theorem findObj_dataN {K : PySem.W.Frag} {C : Addr} {name : Str} {a g : Value} (hc : (PySem.W.clsIn K C).isSome = true) (ha : PySem.W.findIn K (.ref C) name = some (some a)) (hg : PySem.W.specialIn K a "__get__" = some (some g)) (ht : PySem.W.takesIn K a = some true) : PySem.W.findObj K C none name = some (.bind g a) := by
  obtain ⟨cd, hc⟩ := Option.isSome_iff_exists.mp hc
  unfold PySem.W.findObj
  rw [hc, Option.bind_some, ha, Option.bind_some]
  simp [hg, ht]
abbrev bmVE : List Value := [.type "ValueError", .type "Exception", .type "BaseException", .type "object"]
abbrev newVE : String := "ValueError.__new__"
/-! ### [..] of a target -/
theorem pgSub {o i : Expr} {pos' : Pos} (h : ∀ (X : Cx) t t', PE X o t → PE X i t' → PG X (.Subscript o i pos') (gSub t t' rSetL)) : ∀ E t t', PE (X.wish E) o t → PE (X.wish E) i t' → PG (X.wish E) (.Subscript o i pos') (gSub t t' rSetL) := fun E t t' => h (X.wish E) t t'
end L2.Rv

set_option linter.all false
set_option maxRecDepth 100000
namespace L2.Rv
open PySem PySem.Spec PyProof.Rows
variable {G : Gb} {m m' m1 m2 : List Addr} {h h' h1 h2 : MH} {H H' H1 H2 : Hp} {X : Cx} {E : Value → Shared → Prop} {EX : St → Prop} {σ : MSt} {σ' : St}
/-! ### several records of an iterator turn at once -/
theorem Inv.turnedL {pins : List (Addr × Obj)} {s : Shared} {fp : List Addr} {hp : Heap} {t : Nat} (I : Inv X pins σ' H s) (f : ∀ b ∈ fp, FpOk X pins H b) (k : ∀ c o, c ∉ fp → s.heap.get? c = some o → hp.get? c = some o) : Inv X pins σ' H { s with heap := hp, toks := t } := by
  have nit : ∀ b u, H b = some u → b ∉ fp := fun b u e z => by rw [(f b z).1] at e; cases e
  refine I.step (g' := s.gens) (d' := s.drawn) (ch := fp) (fun b hb => ⟨(f b hb).2.2.2.1, (f b hb).2.1, (f b hb).2.2.2.2.1, (f b hb).2.2.2.2.2⟩) (fun b o _ _ hc e _ => k b o hc e) (fun b o _ _ hc e _ => ⟨o.slots, k b o hc e⟩) (fun _ _ _ _ n => n)
    (fun b o hc e => ⟨o, k b o hc e⟩) (fun _ _ e => e) (fun _ _ _ e => e) (fun b ps e => ⟨#[], by rw [e]; simp⟩) (fun mm hm => ?_) (fun b u e => ?_) I.bare
  · obtain ⟨o, es, ep, ho, r⟩ := hm
    exact ⟨o, es, ep, k _ o (fun z => (f _ z).2.1 rfl) ho, r⟩
  · refine (I.hok b u e).stay (fun c v hc q => k c v ?_ q) (fun _ q => q) fun _ _ q => q
    rcases hc with z | z
    · rw [z]; exact nit b u e
    · exact nit c _ z
/-- a new record is tracked from now on -/
theorem Inv.trackO {pins : List (Addr × Obj)} {s : Shared} {a : Addr} {v : HO} (I : Inv X pins σ' H s) (f : Fp X pins H a) (ok : ObjOk X.prog X.w (upd H a v) s.heap a v) : Inv X pins σ' (upd H a v) s := by
  have na : ∀ b u, H b = some u → b ≠ a := fun b u e z => by rw [z, f.un] at e; cases e
  refine ⟨I.ok, I.os, I.bare, ⟨I.base.keep, I.base.slot, fun b o e n hx => ?_, I.base.there, fun b xs e => ?_, fun b o u e => ?_, fun b ps e => ?_⟩, I.loc, I.cell, ?_, fun x c e => ?_, fun p hp => ?_, fun b u e => ?_, I.len⟩
  · rw [upd_ne]
    · exact I.base.free b o e n hx
    · intro z
      rcases f.new with y | y
      · exact hx (z ▸ y)
      · rw [z, y] at e; cases e
  · have q := I.base.tups b xs e
    rw [upd_ne (na b _ q)]; exact q
  · have q := I.base.frzs b o u e
    rw [upd_ne (na b _ q)]; exact q
  · obtain ⟨mo, q⟩ := I.base.tbls b ps e
    exact ⟨mo, by rw [upd_ne (na b _ q)]; exact q⟩
  · rw [upd_ne (Ne.symm f.loc)]; exact I.free
  · rw [upd_ne (f.ce x c e)]; exact I.freeC x c e
  · obtain ⟨a1, a2, a3, a4, a5⟩ := I.pin p hp
    exact ⟨a1, by rw [upd_ne (f.pin p hp)]; exact a2, a3, a4, a5⟩
  · by_cases z : b = a
    · subst z
      rw [upd_same] at e; cases e
      exact ok
    · rw [upd_ne z] at e
      refine (I.hok b u e).stay (fun _ _ _ q => q) (fun c q => ?_) fun c xs q => ?_
      · rw [upd_ne (na c _ q)]; exact q
      · rw [upd_ne (na c _ q)]; exact q
/-! ### zip of two lists -/
def Itz (K : PySem.W.Frag) (l1 l2 : Addr) : It where
  go := fun i H => ∃ xs ys x y, SqL K H l1 xs ∧ SqL K H l2 ys ∧ xs[i]? = some x ∧ ys[i]? = some y
  yld := fun i H v H' => ∃ T x y, v = .ref T ∧ H T = none ∧ H' = upd H T (.tup [x, y]) ∧ (∀ xs, SqL K H l1 xs → xs[i]? = some x) ∧ ∀ ys, SqL K H l2 ys → ys[i]? = some y
  stop := fun i H => ∃ xs ys, SqL K H l1 xs ∧ SqL K H l2 ys ∧ (xs.length ≤ i ∨ ys.length ≤ i)
theorem mem5 {a b c d e x : Addr} (h : x ∉ [a, b, c, d, e]) : x ≠ a ∧ x ≠ b ∧ x ≠ c ∧ x ≠ d ∧ x ≠ e := by simpa using h
theorem turn_zip {P : Program} {w : World} {K : PySem.W.Frag} {elts : List Expr} {x1 : Nat} {tp : Pos} {z TI TO i1 i2 l1 l2 : Addr} (D : ZipApart z TI TO i1 i2 l1 l2) :
    Turn P w K (.Tuple elts x1 tp) (Itz K l1 l2) [z, TI, TO, i1, i2] z (fun i h => IsZip h z TI TO .none ∧ IsPair h TI (.ref i1) (.ref i2) ∧ (∃ a b, IsPair h TO a b) ∧ h.IsListIter i1 l1 i ∧ h.IsListIter i2 l2 i) where
  mem := by simp
  obj := fun i h ⟨hz, hTI, ⟨a, b, hTO⟩, h1, h2⟩ c hc => by
    simp only [List.mem_cons, List.not_mem_nil, or_false] at hc
    rcases hc with rfl | rfl | rfl | rfl | rfl
    · exact ⟨_, hz, fun v y => by cases (show Data.fields _ = Data.cell v from y)⟩
    · exact ⟨_, hTI, fun v y => by cases (show Data.seq _ _ = Data.cell v from y)⟩
    · exact ⟨_, hTO, fun v y => by cases (show Data.seq _ _ = Data.cell v from y)⟩
    · obtain ⟨o, e, q1, q2⟩ := h1; exact ⟨o, e, fun v y => by rw [q2] at y; cases y⟩
    · obtain ⟨o, e, q1, q2⟩ := h2; exact ⟨o, e, fun v y => by rw [q2] at y; cases y⟩
  keep := fun i h h' ⟨hz, hTI, ⟨a, b, hTO⟩, h1, h2⟩ k => ⟨k z (by simp) _ hz, k TI (by simp) _ hTI, ⟨a, b, k TO (by simp) _ hTO⟩, h1.at fun o e => k i1 (by simp) o e, h2.at fun o e => k i2 (by simp) o e⟩
  item := by
    intro X hP hw hK hc i pins s σ H E I hf ⟨hz, hTI, ⟨a, b, hTO⟩, h1, h2⟩ ⟨xs, ys, x, y, q1, q2, e1, e2⟩
    subst hP hw hK
    obtain ⟨its, rv, p, hzz⟩ := I.list q1
    obtain ⟨its2, rv2, p2, hzz2⟩ := I.list q2
    obtain ⟨u, hu, ru⟩ := rv.get e1
    obtain ⟨u2, hu2, ru2⟩ := rv2.get e2
    refine wpAny_pyNext_zip_item D hz hTI hTO h1 h2 p.isList p2.isList (x := u) (y := u2) (by simpa using hu) (by simpa using hu2) fun hp' a1 a2 a3 a4 a5 a6 kk => ?_
    refine ⟨_, rfl, wpAny_letOwnedTupleGo_zip a1 fun hp2 b1 b2 => ?_⟩
    have kz : ∀ c o, c ≠ z → c ≠ TO → c ≠ i1 → c ≠ i2 → s.heap.get? c = some o → hp2.get? c = some o := fun c o c1 c2 c3 c4 e => b2.extBut _ _ c1 (kk c o c1 c2 c3 c4 e)
    have I1 : Inv X pins σ H { s with heap := hp2, toks := s.toks } := Inv.turnedL I hf fun c o hc' e => by
      obtain ⟨n1, n2, n3, n4, n5⟩ := mem5 hc'
      exact kz c o n1 n3 n4 n5 e
    have nT : ∀ c o, s.heap.get? c = some o → s.heap.objs.size ≠ c := fun c o e => Nat.ne_of_gt (Heap.lt_size e)
    have zT : s.heap.objs.size ≠ z := nT z _ hz
    have gT : hp2.get? s.heap.objs.size = some { cls := .type "tuple", data := .seq #[u, u2] } := b2.extBut _ _ zT a5
    have fT : Fp X pins H s.heap.objs.size := Fp.of I (Heap.get?_none_of_le (Nat.le_refl _)) (I.hok.fresh (Nat.le_refl _))
    have I2 := Inv.trackO (v := .tup [x, y]) I1 fT ⟨by show 2 ≤ sizeLine; decide, [u, u2], .cons ru (.cons ru2 .nil), ⟨_, gT, rfl, 0, rfl⟩⟩
    refine ⟨.ref s.heap.objs.size, _, I2, rfl, ⟨s.heap.objs.size, x, y, rfl, fT.un, rfl, fun ws hw => by rw [I.list_inj hw q1]; exact e1, fun ws hw => by rw [I.list_inj hw q2]; exact e2⟩, ⟨b1, ?_, ⟨u, u2, b2.extBut _ _ D.TOz a2⟩, a3.extBut b2.extBut D.i1z, a4.extBut b2.extBut D.i2z⟩, fun c hc' => ?_⟩
    · exact kz _ _ D.TIz D.TITO D.TIi1 D.TIi2 hTI
    · rw [upd_ne]
      · exact (hf c hc').1
      · simp only [List.mem_cons, List.not_mem_nil, or_false] at hc'
        rcases hc' with rfl | rfl | rfl | rfl | rfl
        · exact (nT _ _ hz).symm
        · exact (nT _ _ hTI).symm
        · exact (nT _ _ hTO).symm
        · obtain ⟨o, e, _⟩ := h1; exact (nT _ _ e).symm
        · obtain ⟨o, e, _⟩ := h2; exact (nT _ _ e).symm
  done := by
    intro X hP hw hK hc i pins s σ H E I hf ⟨hz, hTI, ⟨a, b, hTO⟩, h1, h2⟩ ⟨xs, ys, q1, q2, e1⟩
    subst hP hw hK
    obtain ⟨its, rv, p, hzz⟩ := I.list q1
    obtain ⟨its2, rv2, p2, hzz2⟩ := I.list q2
    have l1 := rv.length
    have l2 := rv2.length
    refine wpAny_pyNext_zip_end (I.ok.hd hc) D hz hTI hTO h1 h2 p.isList p2.isList ?_ fun hp' kk => ⟨rfl, Inv.turnedL (t := s.toks) I hf fun c o hc' e => ?_⟩
    · rcases e1 with e1 | e1
      · exact .inl (by simp; omega)
      · exact .inr (by simp; omega)
    · obtain ⟨n1, n2, n3, n4, n5⟩ := mem5 hc'
      exact kk c o n1 n3 n4 n5 e
  self := fun _ _ _ _ _ st h => wpAny_pyIter_zip st.1 h
/-- for a, b in zip(xs, ys) -/
theorem pi_zip {a b : Expr} {ta : TA} {elts : List Expr} {x1 : Nat} {tp p pos : Pos} (hg : Gl X "zip") (hm : X.mg "zip" = none) (ha : PA X [a, b] ta) (hs : starEach [a, b] X.env = [(false, eval a X.env), (false, eval b X.env)] := by rfl) (hs2 : starEach [b] X.env = [(false, eval b X.env)] := by rfl) :
    PI X (.Tuple elts x1 tp) (.Call (.Name "zip" p) [a, b] [] pos) (fun σ H R => ta σ H fun vs H1 => ∃ l1 l2 xs ys, vs = [.ref l1, .ref l2] ∧ SqL X.K H1 l1 xs ∧ SqL X.K H1 l2 ys ∧ R (Itz X.K l1 l2) H1) := by
  intro pins s σ H R I t
  refine Call_ (ld_blt I hg hm PyProof.Rows.Boot.«zip» (PyProof.Rows.callWith_type1 (thn (ha pos pins s σ H _ I t) fun us s1 ⟨vs, H1, I1, r1, q1⟩ => ?_) (by rw [hs, hs2]) (by rw [hs2]; rfl)))
  obtain ⟨l1, l2, xs, ys, rfl, q1, q2, q⟩ := q1
  obtain ⟨v, w, rfl, rx, ry⟩ := vals2 r1
  cases rx
  cases ry
  obtain ⟨its, rv, p1, hz1⟩ := I1.list q1
  obtain ⟨its2, rv2, p2, hz2⟩ := I1.list q2
  have a1 : l1 < s1.heap.objs.size := by obtain ⟨_, e, _⟩ := p1.isList; exact Heap.lt_size e
  have a2 : l2 < s1.heap.objs.size := by obtain ⟨_, e, _⟩ := p2.isList; exact Heap.lt_size e
  refine call_zip_2 p1.isList p2.isList fun hp hz hTI hTO hi1 hi2 hsz hk => ?_
  refine wpAny_pyIter_zip (s := { s1 with heap := hp }) hz ?_
  refine ⟨_, [s1.heap.objs.size + 4, s1.heap.objs.size + 2, s1.heap.objs.size + 3, s1.heap.objs.size, s1.heap.objs.size + 1], _, _, H1, rfl, I1.kept (t' := s1.toks) hk, turn_zip (zipApart_new a1 a2), ⟨hz, hTI, ⟨_, _, hTO⟩, hi1, hi2⟩, fun b hb => ?_, q⟩
  have lb : s1.heap.objs.size ≤ b := by
    simp only [List.mem_cons, List.not_mem_nil, or_false] at hb
    rcases hb with rfl | rfl | rfl | rfl | rfl <;> omega
  exact I1.fpOk lb (I1.hok.fresh lb)
theorem zipRows_get : ∀ {xs ys : List MV} {i : Nat} {r : List MV}, (zipRows xs ys)[i]? = some r → ∃ x y, xs[i]? = some x ∧ ys[i]? = some y ∧ r = [x, y]
  | [], ys, i, r, e => by simp [zipRows] at e
  | _ :: _, [], i, r, e => by simp [zipRows] at e
  | x :: xs, y :: ys, 0, r, e => by simp [zipRows] at e; exact ⟨x, y, rfl, rfl, e.symm⟩
  | x :: xs, y :: ys, i + 1, r, e => by
    obtain ⟨a, b, h1, h2, h3⟩ := zipRows_get (xs := xs) (ys := ys) (i := i) (by simpa [zipRows] using e)
    exact ⟨a, b, by simpa using h1, by simpa using h2, h3⟩
theorem zipRows_len : ∀ (xs ys : List MV), (zipRows xs ys).length = min xs.length ys.length
  | [], ys => by simp [zipRows]
  | _ :: _, [] => by simp [zipRows]
  | x :: xs, y :: ys => by simp [zipRows, zipRows_len xs ys]
theorem jok_zip {n k : Nat} {a b : Addr} {xs ys : List MV} (ea : m[n]? = some a) (eb : m[k]? = some b) : JOk G (Itz G.K a b) ⟨zipRows xs ys, [(n, xs), (k, ys)]⟩ false 2 m H := by
  intro m2 h2 H2 pre R ok
  have ea2 : m2[n]? = some a := pre.get ea
  have eb2 : m2[k]? = some b := pre.get eb
  have eo : h2[n]? = some (.lst xs) ∧ h2[k]? = some (.lst ys) := by simpa [Src.okIn, stayIn] using ok
  obtain ⟨vs, r, z⟩ := R.ob n a _ ea2 eo.1
  obtain ⟨ws, r2, z2⟩ := R.ob k b _ eb2 eo.2
  refine ⟨fun i row ei => ?_, ⟨vs, ws, SqL.of z, SqL.of z2, ?_⟩⟩
  · obtain ⟨x, y, e1, e2, rfl⟩ := zipRows_get ei
    obtain ⟨v, e3, rv⟩ := pairGet r e1
    obtain ⟨w, e4, rw'⟩ := pairGet r2 e2
    refine ⟨rfl, ⟨vs, ws, v, w, SqL.of z, SqL.of z2, e3, e4⟩, fun u H' yy => ?_⟩
    obtain ⟨T, x', y', rfl, hT, rfl, f1, f2⟩ := yy
    have q1 := f1 vs (SqL.of z)
    have q2 := f2 ws (SqL.of z2)
    rw [e3] at q1
    rw [e4] at q2
    cases q1
    cases q2
    have xx : Ext m2 H2 m2 (upd H2 T (.tup [v, w])) := Ext.side hT
    exact ⟨xx, R.side hT, T, [v, w], rfl, R.fresh hT, upd_same, VRl.of (.cons (xx.vr rv) (.cons (xx.vr rw') .nil))⟩
  · show vs.length ≤ (zipRows xs ys).length ∨ ws.length ≤ (zipRows xs ys).length
    rw [zipRows_len, ← Paired.length r, ← Paired.length r2]
    omega
theorem gi_zip {a b : Expr} {ga gb : ME} {elts : List Expr} {x1 : Nat} {tp p pos : Pos} (ha : GE G X a ga) (hb : GE G X b gb) (hm : X.mg "zip" = none) (hg : Gl X "zip" := by rfl) (hs : starEach [a, b] X.env = [(false, eval a X.env), (false, eval b X.env)] := by rfl)
    (hs2 : starEach [b] X.env = [(false, eval b X.env)] := by rfl) (hK : X.K = G.K := by rfl) : GI G X (.Tuple elts x1 tp) (.Call (.Name "zip" p) [a, b] [] pos) false 2 (iZip ga gb) := fun E EX => by
  refine ⟨_, pi_zip (X := X.wish E) hg hm (pa_cons (X := X.wish E) (ha E EX) (hb.a1 hs2 E EX) (by show starEach [a, b] X.env = (false, eval a X.env) :: starEach [b] X.env; rw [hs, hs2])) hs hs2, fun σ' H R ⟨m, h, σ, ex, S, Rr, P⟩ => ?_⟩
  refine sub ex S Rr P fun v m1 h1 H1 v' x1 R1 r1 P1 => sub ex (S.mono x1) R1 P1 fun w m2 h2 H2 w' x2 R2 r2 P2 => ?_
  cases v with
  | ref n => cases w with
    | ref k =>
      obtain ⟨aa, ea, rfl⟩ := x2.vr r1
      obtain ⟨bb, eb, rfl⟩ := r2
      obtain ⟨oa, e1, q1, P3⟩ := look_post R2 ea P2
      obtain ⟨ob, e2, q2, P4⟩ := look_post R2 eb P3
      cases oa with
      | lst xs => cases ob with
        | lst ys =>
          obtain ⟨vs, r, z⟩ := q1
          obtain ⟨ws, r', z'⟩ := q2
          refine ⟨aa, bb, vs, ws, rfl, SqL.of z, SqL.of z', ?_⟩
          have J := Post.here R2 P4 (Itz G.K aa bb) (jok_zip ea eb)
          rw [← hK] at J
          exact J
        | _ => exact P4.elim
      | _ => exact P4.elim
    | _ => exact P2.elim
  | _ => exact P2.elim
end L2.Rv

set_option linter.all false
set_option maxRecDepth 100000
namespace L2.Rv
open PySem PySem.Spec PyProof.Rows
variable {G : Gb} {m m' m1 m2 : List Addr} {h h' h1 h2 : MH} {H H' H1 H2 : Hp} {X : Cx} {E : Value → Shared → Prop} {EX : St → Prop} {σ : MSt} {σ' : St}
/-! ### xs[i] op= e -/
def rGetA (K : PySem.W.Frag) : V → V → Hp → VK → Prop := fun x y H Q => rIxL K x y H Q ∨ rIxD x y H Q
theorem get_all (hu : X.A.units + 1 < cLine) : PGet X (rGetA X.K) := by
  intro pins s σ H x y v u Q I rx ry q
  rcases q with ⟨p, xs, i, z, rfl, rfl, hq, he, q⟩ | ⟨a, w, ex, g, q⟩
  · cases rx
    obtain ⟨t, rfl⟩ := ry
    obtain ⟨its, r, pl, hz⟩ := I.list hq
    obtain ⟨j, h1, h2, h3, h4, h5⟩ := atI_get he
    obtain ⟨w, ew, rw'⟩ := r.get h2
    have hl := r.length
    have hn := line63
    have fin : EP X pins σ Q w s := ⟨z, H, I, rw', q⟩
    by_cases h0 : 0 ≤ i
    · have hj : i.toNat = j := by
        rw [seqIndex_of h0 h5] at h1
        exact Option.some.inj h1
      exact wpAny_getItem_list pl.isList h0 (by omega) (by rw [hj]; simpa using ew) fin
    · have hj : (i + (its.toArray.size : Int)).toNat = j := by
        rw [seqIndex_neg (by omega) h4] at h1
        rw [List.size_toArray, ← hl]
        exact Option.some.inj h1
      exact wpAny_getItem_list_neg pl.isList (by omega) (by rw [List.size_toArray] <;> omega) (by omega) (by rw [hj]; simpa using ew) fin
  · subst ex
    cases rx
    exact d_getItem hu I g ry fun w' s3 I3 rw' => ⟨w, H, I3, rw', q⟩
/-- the value at an index of a list or a dict -/
theorem getA_ok {β : Type} {k : MV → M β} {Q : β → List Addr → MH → Hp → Prop} {x y : MV} {x' y' : V} {K : PySem.W.Frag} (R : HR G m h H) (rx : VR G m H x x') (ry : VR G m H y y') (P : Post G X E EX m H (bnd (getIx x y) k h) Q) :
    rGetA K x' y' H fun v' H' => H' = H ∧ ∃ v, VR G m H v v' ∧ Post G X E EX m H (k v h) Q := by
  have P := Post.bind P
  cases x with
  | ref n => cases y with
    | int i =>
      obtain ⟨aa, ea, rfl⟩ := rx
      obtain ⟨oa, e1, q1, P1⟩ := look_post R ea P
      cases oa with
      | lst xs =>
        obtain ⟨vs, r, z⟩ := q1
        dsimp only at P1
        cases e : atN xs i with
        | none => simp only [e] at P1; exact P1.elim
        | some v =>
          simp only [e] at P1
          obtain ⟨v', e', rv⟩ := pairAt r e
          exact .inl ⟨aa, vs, i, v', rfl, ry, SqL.of z, by rw [atI_atN]; exact e', rfl, v, rv, Post.here R P1⟩
      | _ => exact P1.elim
    | str i =>
      obtain ⟨aa, ea, rfl⟩ := rx
      obtain ⟨oa, e1, q1, P1⟩ := look_post R ea P
      cases oa with
      | dct kvs =>
        obtain ⟨ws, r, z⟩ := q1
        dsimp only at P1
        cases e : dget i kvs with
        | none => simp only [e] at P1; exact P1.elim
        | some v =>
          simp only [e] at P1
          obtain ⟨v', e', rv⟩ := (dget_rel (k := i) r).1 v e
          cases (show y' = V.str i from ry)
          exact .inr ⟨aa, v', rfl, e' ▸ DGet.k (k := Sum.inr i) z, rfl, v, rv, Post.here R P1⟩
      | _ => exact P1.elim
    | _ => exact P.elim
  | _ => exact P.elim
/-- op= of ints -/
theorem ipA {op : Operator} {g : Int → Int → Int} {f : Op2} (hv : ∀ i j h, f (.int i) (.int j) h = .ok (.int (g i j)) h) {β : Type} {k : MV → M β} {Q : β → List Addr → MH → Hp → Prop} {x y : MV} {x' y' : V} (ii : ∀ h, (∃ i, x = .int i) ∧ (∃ j, y = .int j) ∨ bnd (f x y) k h = .stuck) (R : HR G m h H) (rx : VR G m H x x') (ry : VR G m H y y') (P : Post G X E EX m H (bnd (f x y) k h) Q) :
    ∃ i j, x' = .int i ∧ y' = .int j ∧ Post G X E EX m H (k (.int (g i j)) h) Q := by
  rcases ii h with ⟨⟨i, rfl⟩, ⟨j, rfl⟩⟩ | e
  · refine ⟨i, j, rx, ry, ?_⟩
    have P1 := Post.bind P
    rw [hv i j h] at P1
    exact Post.here R P1
  · rw [e] at P
    exact P.elim
theorem sub_ii {x y : MV} {β : Type} {k : MV → M β} (h : MH) : ((∃ i, x = .int i) ∧ (∃ j, y = .int j)) ∨ bnd (oSub x y) k h = .stuck := by
  cases x <;> cases y <;> first | exact .inl ⟨⟨_, rfl⟩, ⟨_, rfl⟩⟩ | exact .inr rfl
theorem add_ii {x y : MV} {β : Type} {k : MV → M β} (h : MH) : ((∃ i, x = .int i) ∧ (∃ j, y = .int j)) ∨ bnd (oAddI x y) k h = .stuck := by
  cases x <;> cases y <;> first | exact .inl ⟨⟨_, rfl⟩, ⟨_, rfl⟩⟩ | exact .inr rfl
section
variable {o i e : Expr} {go gi ge : ME} {pos tpos : Pos} {op : Operator} {g : Int → Int → Int} {f : Op2}
theorem gs_augIx (hu : X.A.units + 1 < cLine) (hip : ∀ E, PIp (X.wish E) op (ipI g)) (hv : ∀ i j h, f (.int i) (.int j) h = .ok (.int (g i j)) h) (hi2 : ∀ (x y : MV) (k : MV → M MF) (h : MH), ((∃ i, x = .int i) ∧ (∃ j, y = .int j)) ∨ bnd (f x y) k h = .stuck)
    (ho : GE G X o go) (hi : GE G X i gi) (he : GE G X e ge) (hK : X.K = G.K := by rfl) (ha : ∀ ov iv new, augStore i ov iv new = (do holding [new, ov, iv] (setItem ov iv new); release [new, ov, iv] []; pure .next) := by intros; rfl) :
    GS G EX X (.AugAssign (.Subscript o i tpos) op e pos) (sAugIx f go gi ge) := fun E hp =>
  PS_imp (ps_augS (X := X.wish E) (ho E EX) (hi E EX) (get_all hu) (he E EX) (hip E) (set_all hu) ha) fun D σ' H ⟨m, h, σ, ex, S, R, P⟩ => sub ex S R P fun x m1 h1 H1 x' x1 R1 r1 P1 => sub ex (S.mono x1) R1 P1 fun y m2 h2 H2 y' x2 R2 r2 P2 => by
    have fin : ∀ v' H', (H' = H2 ∧ ∃ v, VR G m2 H2 v v' ∧ Post G X E EX m2 H2 (bnd (ge σ) (fun w => bnd (f v w) fun z => bnd (setIx x y z) fun _ => ret (MF.next σ)) h2) (QD G D)) → TGe G X E EX ge σ' H' fun y_1 H4 => ipI g v' y_1 H4 fun z H5 => rSetA x' y' z H5 fun H6 => D.nx σ' H6 := by
      rintro v' H' ⟨rfl, v, rv, P3⟩
      refine sub ex ((S.mono x1).mono x2) R2 P3 fun w m4 h4 H4 w' x4 R4 r4 P4 => ?_
      obtain ⟨i, j, e1, e2, P5⟩ := ipA (op := op) (g := g) hv (hi2 v w _) R4 (x4.vr rv) r4 P4
      refine ⟨i, j, e1, e2, ?_⟩
      rcases setA_ok R4 (x4.vr (x2.vr r1)) (x4.vr r2) (show VR G m4 H4 (.int (g i j)) (.int (g i j)) from rfl) P5 with q | q
      · obtain ⟨p, xs, k, j, e1, e2, e3, e4, h4, x5, R5, P6⟩ := q
        exact .inl ⟨p, xs, k, j, e1, e2, e3, e4, Post.here R5 P6 σ' ((((S.mono x1).mono x2).mono x4).mono x5)⟩
      · obtain ⟨a, H4, e1, g, h4, x5, R5, P6⟩ := q
        exact .inr ⟨a, H4, e1, g, Post.here R5 P6 σ' ((((S.mono x1).mono x2).mono x4).mono x5)⟩
    rcases getA_ok (K := G.K) R2 (x2.vr r1) r2 P2 with q | q
    · obtain ⟨p, xs, i, v', e1, e2, e3, e4, q⟩ := q
      refine .inl ⟨p, xs, i, v', e1, e2, ?_, e4, fin v' H2 q⟩
      show SqL X.K H2 p xs
      rw [hK]; exact e3
    · obtain ⟨a, v', e1, g, q⟩ := q
      exact .inr ⟨a, v', e1, g, fin v' H2 q⟩
/-- o.f op= e -/
theorem gs_augFld {fl : String} {cs : List Nat} {rd : V → V → Hp → VK → Prop} (hin : ∀ E, InOp (X.wish E) op rd) (hrd : ∀ x y H Q, ipI g x y H Q → rd x y H Q) (hv : ∀ i j h, f (.int i) (.int j) h = .ok (.int (g i j)) h) (hi2 : ∀ (x y : MV) (k : MV → M MF) (h : MH), ((∃ i, x = .int i) ∧ (∃ j, y = .int j)) ∨ bnd (f x y) k h = .stuck)
    (ho : GE G X o go) (he : GE G X e ge) (hf : FldOk G cs fl) (hK : X.K = G.K := by rfl) : GS G EX X (.AugAssign (.Attribute o (Str.ofString fl) tpos) op e pos) (sAugFld f go cs fl ge) := fun E hp =>
  PS_imp (ps_fldaug (X := X.wish E) (ho E EX) (he E EX) (hin E)) fun D σ' H ⟨m, h, σ, ex, S, R, P⟩ => sub ex S R P fun x m1 h1 H1 x' x1 R1 r1 P1 => by
    cases x with
    | ref n =>
      obtain ⟨aa, ea, rfl⟩ := r1
      obtain ⟨oa, e1, q1, P2⟩ := look_post R1 ea P1
      cases oa with
      | ins c fs =>
        obtain ⟨dx, ws, r, z⟩ := q1
        dsimp only at P2
        split at P2
        · rename_i hc
          cases ew : fs.lookup fl with
          | none => simp only [ew] at P2; exact P2.elim
          | some w =>
            simp only [ew] at P2
            obtain ⟨w', ew', rw'⟩ := lookF r ew
            have k := hf c (by simpa using hc)
            rw [← hK] at k
            refine ⟨aa, _, dx, ws, w', rfl, z, k.1, k.2, ew', ?_⟩
            refine sub ex (S.mono x1) R1 P2 fun v m2 h2 H2 v' x2 R2 r2 P3 => hrd _ _ _ _ ?_
            obtain ⟨i, j, e1, e2, P4⟩ := ipA (op := op) (g := g) hv (hi2 w v _) R2 (x2.vr rw') r2 P3
            refine ⟨i, j, e1, e2, ?_⟩
            have ea2 := x2.get ea
            obtain ⟨ob, eo, qo, P5⟩ := look_post R2 ea2 P4
            cases ob with
            | ins c' fs' =>
              obtain ⟨dx', ws', r', z'⟩ := qo
              dsimp only at P5
              split at P5
              · rename_i hl
                obtain ⟨ec, hl⟩ := hl
                subst ec
                refine ⟨dx', ws', z', by rw [← Paired.length r']; exact hl, ?_⟩
                have P6 := put_post R2 ea2 P5
                have x3 : Ext m2 H2 m2 (upd H2 aa (.ins (G.cl c') dx' (L2.putF (Str.ofString fl) (.int (g i j)) ws'))) := Ext.upd ea2
                exact P6 _ _ x3 (R2.upd ea2 (fun o' ys zz => by rw [z'] at zz; cases zz) ⟨dx', _, FR.mono x3.mn (putFR (show VR G m2 H2 (.int (g i j)) (.int (g i j)) from rfl) r'), upd_same⟩) σ' (((S.mono x1).mono x2).mono x3)
              · exact P5.elim
            | _ => exact P5.elim
        · exact P2.elim
      | _ => exact P2.elim
    | _ => exact P1.elim
end
/-! ### range(a, b, -1) -/
def Itd (lo : Int) (n : Nat) : It := ⟨fun i _ => i < n, fun i H x H' => H' = H ∧ x = .int (lo - i), fun i _ => n ≤ i⟩
theorem turn_down {P : Program} {w : World} {K : PySem.W.Frag} {tg : Expr} (it : Addr) (lo : Int) (n : Nat) : Turn P w K tg (Itd lo n) [it] it (fun i h => IsRangeIter h it (lo + (i : Nat) * (-1)) ((n : Int) - (i : Nat)) (-1)) where
  mem := by simp
  obj := fun i h st b hb => by
    have e : b = it := by simpa using hb
    subst e
    exact ⟨_, st, fun v z => by cases (show Data.fields _ = Data.cell v from z)⟩
  keep := fun i h h' st k => k it (by simp) _ st
  item := by
    intro X hP hw hK hc i pins s σ H E I hf st hg
    subst hP hw hK
    obtain ⟨f0, f1, f2, f3, f4, f5⟩ := hf it (by simp)
    have W := Walks.range (prog := X.prog) (w := X.w) (I.ok.hd hc) it lo (-1) n
    refine W.item i s _ _ hg st fun v h' tk hv st' kk => ?_
    obtain ⟨t, rfl⟩ := hv
    have I1 : Inv X pins σ H { s with heap := h', toks := tk } := I.turned (fun b o hb e => kk b o (by simpa using hb) e) f0 f1 f3 f4 f5
    refine ⟨_, rfl, go_of (s := { s with heap := h', toks := tk }) (n := "range_iterator") st' rfl rfl (by decide) ⟨.int (lo - i), H, I1, ⟨t, ?_⟩, ⟨rfl, rfl⟩, st', fun b hb => (hf b hb).1⟩⟩
    congr 1
    omega
  done := by
    intro X hP hw hK hc i pins s σ H E I hf st hg
    subst hP hw hK
    obtain ⟨f0, f1, f2, f3, f4, f5⟩ := hf it (by simp)
    exact wpAny_pyNext_range_end (I.ok.hd hc) st (by have : n ≤ i := hg; omega) fun h' eb => ⟨rfl, I.turned (t' := s.toks) (fun b o hb e => eb b o hb e) f0 f1 f3 f4 f5⟩
  self := fun _ _ _ _ _ st h => wpAny_pyIter_rangeiter st h
theorem pi_down {a b c : Expr} {ta : TA} {tg : Expr} {p pos : Pos} (hg : Gl X "range") (hm : X.mg "range" = none) (ha : PA X [a, b, c] ta) (hs : starEach [a, b, c] X.env = (false, eval a X.env) :: starEach [b, c] X.env := by rfl) (hpl : (backTo pos (starEach [b, c] X.env)).any (·.1) = false := by rfl) :
    PI X tg (.Call (.Name "range" p) [a, b, c] [] pos) (fun σ H R => ta σ H fun vs H1 => ∃ i j : Int, vs = [.int i, .int j, .int (-1)] ∧ (-1000000 ≤ i ∧ i < 1000000 ∧ -1000000 ≤ j ∧ j < 1000000) ∧ R (Itd i (i - j).toNat) H1) := by
  intro pins s σ H R I t
  refine Call_ (ld_blt I hg hm boot_range (PyProof.Rows.callWith_type1 (thn (ha pos pins s σ H _ I t) fun us s1 ⟨vs, H1, I1, r1, q1⟩ => ?_) hs hpl))
  obtain ⟨i, j, rfl, bd, q⟩ := q1
  cases r1 with
  | cons ra r1 => cases r1 with
    | cons rb r1 => cases r1 with
      | cons rc r1 =>
        cases r1
        obtain ⟨t1, rfl⟩ := ra
        obtain ⟨t2, rfl⟩ := rb
        obtain ⟨t3, rfl⟩ := rc
        refine call_range_3 (by decide) ?_ (Or.inl (PyProof.noPylong_small (by omega)))
        refine wpAny_pyIter_range (IsRange.new ..) (PySem.W.small_down (by omega) (by omega) (by omega) (by omega)) ?_
        have I2 : Inv X pins σ H1 { s1 with heap := s1.heap.push { cls := .type "range", data := .fields #[.int i t1, .int j t2, .int (-1) t3] }, toks := s1.toks } := I1.kept fun b o e => Heap.get?_push_of_some _ e
        refine ⟨(s1.heap.push { cls := .type "range", data := .fields #[.int i t1, .int j t2, .int (-1) t3] }).objs.size, [(s1.heap.push { cls := .type "range", data := .fields #[.int i t1, .int j t2, .int (-1) t3] }).objs.size], _, _, H1, rfl,
          I2.kept (t' := s1.toks) fun b o e => Heap.get?_push_of_some _ e, turn_down _ i (i - j).toNat, ?_, fun b hb => ?_, q⟩
        · have e1 : i + ((0 : Nat) : Int) * (-1) = i := by simp
          have e2 : (((i - j).toNat : Nat) : Int) - ((0 : Nat) : Int) = Builtin.Range.rangeSize i j (-1) := by rw [PySem.W.rangeSize_downNat]; omega
          show IsRangeIter _ _ (i + ((0 : Nat) : Int) * (-1)) ((((i - j).toNat : Nat) : Int) - ((0 : Nat) : Int)) (-1)
          rw [e1, e2]
          exact Heap.get?_push_size _ rfl
        · have e : b = (s1.heap.push { cls := .type "range", data := .fields #[.int i t1, .int j t2, .int (-1) t3] }).objs.size := by simpa using hb
          subst e
          exact I2.fpOk (Nat.le_refl _) (I2.hok.fresh (Nat.le_refl _))
theorem jok_down {lo : Int} {n : Nat} : JOk G (Itd lo n) ⟨downFrom lo n, []⟩ true 1 m H := by
  intro m2 h2 H2 _ R ok
  refine ⟨fun i vs ei => ?_, by simp [downFrom, Itd]⟩
  have hi : i < n := by
    have := (List.getElem?_eq_some_iff.mp ei).1
    simpa [downFrom] using this
  unfold downFrom at ei
  rw [List.getElem?_map, List.getElem?_range hi] at ei
  cases ei
  refine ⟨rfl, hi, fun x H' y => ?_⟩
  obtain ⟨rfl, y2⟩ := y
  exact ⟨.refl, R, _, rfl, y2⟩
theorem gi_down {tg a b : Expr} {ga gb : ME} {j : Nat} {p pos p1 p2 : Pos} (ha : GE G X a ga) (hb : GE G X b gb) (hm : X.mg "range" = none) (hg : Gl X "range" := by rfl)
    (hs : starEach [a, b, .UnaryOp .USub (.Constant (.int 1) j p1) p2] X.env = (false, eval a X.env) :: starEach [b, .UnaryOp .USub (.Constant (.int 1) j p1) p2] X.env := by rfl)
    (hs2 : starEach [b, .UnaryOp .USub (.Constant (.int 1) j p1) p2] X.env = (false, eval b X.env) :: starEach [.UnaryOp .USub (.Constant (.int 1) j p1) p2] X.env := by rfl)
    (hs3 : starEach [.UnaryOp .USub (.Constant (.int 1) j p1) p2] X.env = [(false, eval (.UnaryOp .USub (.Constant (.int 1) j p1) p2) X.env)] := by rfl) (hpl : (backTo pos (starEach [b, .UnaryOp .USub (.Constant (.int 1) j p1) p2] X.env)).any (·.1) = false := by rfl) :
    GI G X tg (.Call (.Name "range" p) [a, b, .UnaryOp .USub (.Constant (.int 1) j p1) p2] [] pos) true 1 (iRngDn ga gb) := fun E EX => by
  refine ⟨_, pi_down (X := X.wish E) hg hm (pa_cons (X := X.wish E) (ha E EX) (pa_cons (X := X.wish E) (hb E EX) (pa_cons (X := X.wish E) (pe_un un_neg pe_int) pa_nil hs3) hs2) hs) hs hpl, fun σ' H R ⟨m, h, σ, ex, S, Rr, P⟩ => ?_⟩
  refine sub ex S Rr P fun v m1 h1 H1 v' x1 R1 r1 P1 => sub ex (S.mono x1) R1 P1 fun w m2 h2 H2 w' x2 R2 r2 P2 => ?_
  cases v with
  | int i => cases w with
    | int j =>
      cases (show v' = V.int i from r1)
      cases (show w' = V.int j from r2)
      dsimp only at P2
      split at P2
      · rename_i c
        exact ⟨1, rfl, i, j, rfl, c, Post.here R2 P2 _ jok_down⟩
      · exact P2.elim
    | _ => exact P2.elim
  | _ => exact P2.elim
end L2.Rv

set_option linter.all false
namespace L2.Rv
open PySem (Str)
/-! ### running, by what is wanted behind it -/
@[irreducible] def wp {α : Type} (m : M α) (h : MH) (Q : α → MH → Prop) (E : Nat → MH → Prop) : Prop := match m h with
  | .ok a h' => Q a h'
  | .exc c h' => E c h'
  | .stuck => False
abbrev noE : Nat → MH → Prop := fun _ _ => False
section
variable {α β : Type} {h h' : MH} {E : Nat → MH → Prop}
theorem wp_bnd (m : M α) (f : α → M β) (Q : β → MH → Prop) : wp (bnd m f) h Q E = wp m h (fun a h' => wp (f a) h' Q E) E := by
  unfold wp bnd
  cases m h <;> rfl
theorem wp_ret (a : α) (Q : α → MH → Prop) : wp (ret a) h Q E = Q a h := by unfold wp; rfl
theorem wp_stk (Q : α → MH → Prop) : wp stk h Q E = False := by unfold wp; rfl
theorem wp_rse (c : Nat) (Q : α → MH → Prop) : wp (rse c) h Q E = E c h := by unfold wp; rfl
theorem wp_new (o : MO) (Q : MV → MH → Prop) : wp (new o) h Q E = Q (.ref h.length) (h ++ [o]) := by unfold wp; rfl
theorem wp_look {n : Nat} {o : MO} (e : h[n]? = some o) (Q : MO → MH → Prop) : wp (look n) h Q E = Q o h := by
  unfold wp look
  rw [e]
theorem wp_put {n : Nat} {o : MO} (e : n < h.length) (Q : Unit → MH → Prop) : wp (put n o) h Q E = Q () (h.set n o) := by
  unfold wp put
  rw [if_pos e]
theorem wp_ite {c : Prop} [Decidable c] (a b : M α) (Q : α → MH → Prop) : wp (if c then a else b) h Q E = if c then wp a h Q E else wp b h Q E := by
  by_cases q : c
  · rw [if_pos q, if_pos q]
  · rw [if_neg q, if_neg q]
theorem wp_congr {m m' : M α} {Q : α → MH → Prop} (e : m h = m' h) : wp m h Q E = wp m' h Q E := by unfold wp; rw [e]
theorem wp_mono {m : M α} {Q Q' : α → MH → Prop} {E' : Nat → MH → Prop} (w : wp m h Q E) (f : ∀ a h', Q a h' → Q' a h') (g : ∀ c h', E c h' → E' c h') : wp m h Q' E' := by
  unfold wp at w ⊢
  cases e : m h with
  | ok a h' => rw [e] at w; exact f a h' w
  | exc c h' => rw [e] at w; exact g c h' w
  | stuck => rw [e] at w; exact w
theorem wp_then {m : M α} {Q Q' : α → MH → Prop} (w : wp m h Q noE) (f : ∀ a h', Q a h' → Q' a h') : wp m h Q' E := wp_mono w f fun _ _ z => z.elim
theorem wp_run {m : M α} {Q : α → MH → Prop} (w : wp m h Q noE) : ∃ a h', m h = .ok a h' ∧ Q a h' := by
  unfold wp at w
  cases e : m h with
  | ok a h' => rw [e] at w; exact ⟨a, h', rfl, w⟩
  | exc c h' => rw [e] at w; exact w.elim
  | stuck => rw [e] at w; exact w.elim
theorem wp_of {m : M α} {a : α} {Q : α → MH → Prop} (e : m h = .ok a h') (q : Q a h') : wp m h Q E := by
  unfold wp
  rw [e]; exact q
end
/-! ### the heap grows -/
def Pre (h h' : MH) : Prop := ∃ t, h' = h ++ t
section
variable {h h1 h2 : MH} {n : Nat} {o : MO}
theorem Pre.refl : Pre h h := ⟨[], by simp⟩
theorem Pre.trans (a : Pre h h1) (b : Pre h1 h2) : Pre h h2 := by
  obtain ⟨t, rfl⟩ := a
  obtain ⟨u, rfl⟩ := b
  exact ⟨t ++ u, by simp⟩
theorem Pre.app (o : MO) : Pre h (h ++ [o]) := ⟨[o], rfl⟩
theorem Pre.snoc (a : Pre h h1) (o : MO) : Pre h (h1 ++ [o]) := a.trans (Pre.app o)
theorem get_lt (e : h[n]? = some o) : n < h.length := (List.getElem?_eq_some_iff.mp e).1
theorem Pre.get (a : Pre h h1) (e : h[n]? = some o) : h1[n]? = some o := by
  obtain ⟨t, rfl⟩ := a
  rw [List.getElem?_append_left (get_lt e)]; exact e
theorem Pre.len (a : Pre h h1) : h.length ≤ h1.length := by
  obtain ⟨t, rfl⟩ := a
  simp
theorem Pre.set (a : Pre h h1) (hn : h.length ≤ n) : Pre h (h1.set n o) := by
  obtain ⟨t, rfl⟩ := a
  exact ⟨t.set (n - h.length) o, by rw [List.set_append_right _ _ hn]⟩
theorem get_app {g : MH} (e : h[n]? = some o) : (h ++ g)[n]? = some o := by
  rw [List.getElem?_append_left (get_lt e)]; exact e
theorem get_new : (h ++ [o])[h.length]? = some o := by simp
theorem get_at {g : MH} : (h ++ o :: g)[h.length]? = some o := by simp
theorem get_set (e : n < h.length) : (h.set n o)[n]? = some o := by simp [e]
theorem get_set_ne {k : Nat} {o' : MO} (e : h[k]? = some o') (ne : n ≠ k) : (h.set n o)[k]? = some o' := by rw [List.getElem?_set_ne ne]; exact e
end
/-! ### defs -/
theorem wp_fn {p n : Nat} {b : MS} {vs : List MV} {h : MH} {Q : MV → MH → Prop} {E : Nat → MH → Prop} (hl : vs.length = p) (w : wp (b (vs.map some ++ List.replicate (n - vs.length) none)) h (fun f h' => match f with
      | .next _ => Q .non h'
      | .ret v => Q v h'
      | _ => False) E) : wp (fnOf p n b vs) h Q E := by
  unfold fnOf
  rw [if_pos hl, wp_bnd]
  refine wp_mono w (fun f h' q => ?_) fun _ _ z => z
  cases f <;> dsimp only at q ⊢ <;> first | exact q.elim | (rw [wp_ret]; exact q)
/-! ### loops -/
theorem wp_for {s : Src} {is : List Nat} {body : MS} {h : MH} {σ : MSt} {Q : MF → MH → Prop} {E : Nat → MH → Prop} {all : List (List MV)} (I : Nat → MSt → MH → Prop) (hok : ∀ k σ h, I k σ h → s.okIn h = true)
    (turn : ∀ k x σ h, all[k]? = some x → I k σ h → wp (body (setAll is x σ)) h (fun f h' => match f with
      | .next σ' => I (k + 1) σ' h'
      | .cnt σ' => I (k + 1) σ' h'
      | .brk σ' => Q (.next σ') h'
      | .ret v => Q (.ret v) h') E) (last : ∀ σ h, I all.length σ h → Q (.next σ) h) (h0 : I 0 σ h) : wp (forItems s is body all σ) h Q E := by
  have go : ∀ (d k : Nat) (σ : MSt) (h : MH), all.length - k = d → k ≤ all.length → I k σ h → wp (forItems s is body (all.drop k) σ) h Q E := by
    intro d
    induction d with
    | zero =>
      intro k σ h hd hk i
      have : k = all.length := by omega
      subst this
      rw [List.drop_length]
      have ok := hok _ _ _ i
      have e : forItems s is body [] σ h = .ok (.next σ) h := by simp [forItems, ok]
      exact wp_of e (last σ h i)
    | succ d ih =>
      intro k σ h hd hk i
      have hlt : k < all.length := by omega
      have ok := hok _ _ _ i
      rw [List.drop_eq_getElem_cons hlt]
      have e : forItems s is body (all[k] :: all.drop (k + 1)) σ h = bnd (body (setAll is all[k] σ)) (fun f => match f with
        | .next σ' => forItems s is body (all.drop (k + 1)) σ'
        | .cnt σ' => forItems s is body (all.drop (k + 1)) σ'
        | .brk σ' => ret (.next σ')
        | .ret v => ret (.ret v)) h := by
        conv => lhs; unfold forItems
        rw [if_pos ok]
        try rfl
      rw [wp_congr e, wp_bnd]
      refine wp_mono (turn k all[k] σ h (by simp [hlt]) i) (fun f h' q => ?_) fun _ _ z => z
      cases f with
      | next σ' => exact ih (k + 1) σ' h' (by omega) hlt q
      | cnt σ' => exact ih (k + 1) σ' h' (by omega) hlt q
      | brk σ' => dsimp only at q ⊢; rw [wp_ret]; exact q
      | ret v => dsimp only at q ⊢; rw [wp_ret]; exact q
  simpa using go all.length 0 σ h (by omega) (Nat.zero_le _) h0
theorem wp_while {t : ME} {body : MS} {σ : MSt} {h : MH} {Q : MF → MH → Prop} {E : Nat → MH → Prop} (I : Nat → MSt → MH → Prop)
    (turn : ∀ k σ h, I k σ h → wp (tst t σ) h (fun b h' => if b = true then wp (body σ) h' (fun f h'' => match f with
      | .next σ' => ∃ j, j < k ∧ I j σ' h''
      | .cnt σ' => ∃ j, j < k ∧ I j σ' h''
      | .brk σ' => Q (.next σ') h''
      | .ret v => Q (.ret v) h'') E else Q (.next σ) h') E) {k : Nat} (hk : k < 1000) (h0 : I k σ h) : wp (sWhile t body σ) h Q E := by
  have go : ∀ (n k : Nat) (σ : MSt) (h : MH), k < n → I k σ h → wp (whileN t body n σ) h Q E := by
    intro n
    induction n with
    | zero => intro k σ h hk; omega
    | succ n ih =>
      intro k σ h hk i
      rw [show whileN t body (n + 1) σ = bnd (tst t σ) _ from rfl, wp_bnd]
      refine wp_mono (turn k σ h i) (fun b h' q => ?_) fun _ _ z => z
      cases b with
      | false =>
        rw [if_neg Bool.false_ne_true] at q ⊢
        rw [wp_ret]; exact q
      | true =>
        rw [if_pos rfl] at q ⊢
        rw [wp_bnd]
        refine wp_mono q (fun f h'' q => ?_) fun _ _ z => z
        cases f with
        | next σ' => obtain ⟨j, hj, i⟩ := q; exact ih j σ' h'' (by omega) i
        | cnt σ' => obtain ⟨j, hj, i⟩ := q; exact ih j σ' h'' (by omega) i
        | brk σ' => dsimp only at q ⊢; rw [wp_ret]; exact q
        | ret v => dsimp only at q ⊢; rw [wp_ret]; exact q
  exact go 1000 k σ h hk h0
/-! ### comprehensions -/
def condOf (cond : Option ME) (σ : MSt) : M Bool := match cond with
  | none => ret true
  | some t => tst t σ
/-- each item passes (c) and gives a value (f); what is laid behind does not matter -/
theorem wp_compItems {s : Src} {cond : Option ME} {elt : ME} {σ : MSt} {h : MH} {c : List MV → Bool} {F : List MV → MV → MH → Prop} (hF : ∀ x v h1 h2, F x v h1 → Pre h1 h2 → F x v h2) (hok : ∀ h', Pre h h' → s.okIn h' = true) : ∀ (items : List (List MV)) (h1 : MH), Pre h h1 →
    (∀ x ∈ items, ∀ h1, Pre h h1 → wp (condOf cond (σ ++ x.map some)) h1 (fun b h2 => b = c x ∧ Pre h1 h2) noE) →
    (∀ x ∈ items, c x = true → ∀ h1, Pre h h1 → wp (elt (σ ++ x.map some)) h1 (fun v h2 => F x v h2 ∧ Pre h1 h2) noE) →
    wp (compItems s cond elt σ items) h1 (fun vs h2 => vs.length = (items.filter c).length ∧ (∀ (i : Nat) (x : List MV) (v : MV), (items.filter c)[i]? = some x → vs[i]? = some v → F x v h2) ∧ Pre h1 h2) noE
  | [], h1, p, _, _ => by
    have e : compItems s cond elt σ [] h1 = .ok [] h1 := by simp [compItems, hok h1 p]
    exact wp_of e ⟨rfl, fun i x v a b => by simp at a, .refl⟩
  | x :: r, h1, p, a1, a2 => by
    have ih := fun h2 p2 => wp_compItems hF hok r h2 p2 (fun y hy => a1 y (List.mem_cons_of_mem _ hy)) (fun y hy => a2 y (List.mem_cons_of_mem _ hy))
    have e : compItems s cond elt σ (x :: r) h1 = bnd (condOf cond (σ ++ x.map some)) (fun k => if k = true then bnd (elt (σ ++ x.map some)) fun v => bnd (compItems s cond elt σ r) fun ws => ret (v :: ws) else compItems s cond elt σ r) h1 := by
      conv => lhs; unfold compItems
      rw [if_pos (hok h1 p)]
      cases cond <;> rfl
    rw [wp_congr e, wp_bnd]
    refine wp_mono (a1 x List.mem_cons_self h1 p) (fun b h2 ⟨eb, p2⟩ => ?_) fun _ _ z => z
    subst eb
    cases hc : c x with
    | true =>
      rw [if_pos rfl, wp_bnd]
      refine wp_mono (a2 x List.mem_cons_self hc h2 (p.trans p2)) (fun v h3 ⟨fv, p3⟩ => ?_) fun _ _ z => z
      rw [wp_bnd]
      refine wp_mono (ih h3 ((p.trans p2).trans p3)) (fun ws h4 ⟨q1, q2, p4⟩ => ?_) fun _ _ z => z
      rw [wp_ret]
      refine ⟨by simp [hc, q1], fun i y u ey eu => ?_, (p2.trans p3).trans p4⟩
      rw [List.filter_cons_of_pos hc] at ey
      cases i with
      | zero => simp at ey eu; subst ey; subst eu; exact hF _ _ _ _ fv p4
      | succ i => exact q2 i y u (by simpa using ey) (by simpa using eu)
    | false =>
      rw [if_neg Bool.false_ne_true]
      refine wp_mono (ih h2 (p.trans p2)) (fun ws h4 ⟨q1, q2, p4⟩ => ?_) fun _ _ z => z
      rw [List.filter_cons_of_neg (by simp [hc])]
      exact ⟨q1, q2, p2.trans p4⟩
theorem wp_noExc {α : Type} {m : M α} {h : MH} {Q : α → MH → Prop} {E : Nat → MH → Prop} (w : wp m h Q noE) : wp (noExc m) h Q E := by
  obtain ⟨a, h', e, q⟩ := wp_run w
  have e2 : noExc m h = .ok a h' := by simp only [noExc, e]
  exact wp_of e2 q
/-- [f(x) for x in src if c(x)], by values -/
theorem wp_comp {src : MI} {cond : Option ME} {elt : ME} {σ : MSt} {h : MH} {Q : MV → MH → Prop} {E : Nat → MH → Prop} {s : Src} {h1 : MH} (c : List MV → Bool) (f : List MV → MV) (hs : src σ h = .ok s h1) (hok : ∀ h', Pre h1 h' → s.okIn h' = true) (hlen : s.items.length ≤ 100000)
    (a1 : ∀ x ∈ s.items, ∀ h2, Pre h1 h2 → wp (condOf cond (σ ++ x.map some)) h2 (fun b h3 => b = c x ∧ Pre h2 h3) noE)
    (a2 : ∀ x ∈ s.items, c x = true → ∀ h2, Pre h1 h2 → wp (elt (σ ++ x.map some)) h2 (fun v h3 => v = f x ∧ Pre h2 h3) noE)
    (q : ∀ h2, Pre h1 h2 → Q (.ref h2.length) (h2 ++ [.lst ((s.items.filter c).map f)])) : wp (eComp src cond elt σ) h Q E := by
  unfold eComp
  rw [wp_bnd]
  refine wp_of hs ?_
  rw [if_pos hlen, wp_bnd]
  refine wp_noExc (wp_mono (wp_compItems (F := fun x v _ => v = f x) (fun _ _ _ _ z _ => z) hok s.items h1 .refl a1 a2) (fun vs h2 ⟨q1, q2, p⟩ => ?_) fun _ _ z => z)
  rw [wp_new]
  have e : vs = (s.items.filter c).map f := by
    apply List.ext_getElem? 
    intro i
    rw [List.getElem?_map]
    cases ex : (s.items.filter c)[i]? with
    | none =>
      rw [List.getElem?_eq_none_iff] at ex
      rw [Option.map_none, List.getElem?_eq_none_iff]; omega
    | some x =>
      have hi : i < vs.length := by rw [q1]; exact (List.getElem?_eq_some_iff.mp ex).1
      have ev : vs[i]? = some vs[i] := by simp [hi]
      rw [ev, q2 i x _ ex ev]; rfl
  rw [e]
  exact q h2 p
theorem src_rng2 {e e' : ME} {σ : MSt} {h : MH} {i j : Int} {n : Nat} (h1 : e σ h = .ok (.int i) h) (h2 : e' σ h = .ok (.int j) h) (b1 : -1000000 ≤ i ∧ i ≤ 1000000) (b2 : -1000000 ≤ j ∧ j ≤ 1000000) (hn : (j - i).toNat = n) : iRng2 e e' σ h = .ok ⟨upTo i n, []⟩ h := by
  have q : -(2 ^ 62) ≤ i ∧ i < 2 ^ 62 ∧ -(2 ^ 62) ≤ j ∧ j < 2 ^ 62 := by omega
  simp only [iRng2, bnd, h1, h2]
  rw [if_pos q, hn]
  rfl
theorem src_rng1 {e : ME} {σ : MSt} {h h' : MH} {j : Int} {n : Nat} (h1 : e σ h = .ok (.int j) h') (b2 : -1000000 ≤ j ∧ j ≤ 1000000) (hn : j.toNat = n) : iRng1 e σ h = .ok ⟨upTo 0 n, []⟩ h' := by
  have q : -(2 ^ 62) ≤ j ∧ j < 2 ^ 62 := by omega
  simp only [iRng1, bnd, h1]
  rw [if_pos q, hn]
  rfl
theorem src_list {e : ME} {σ : MSt} {h h' : MH} {n : Nat} {xs : List MV} (h1 : e σ h = .ok (.ref n) h') (h2 : h'[n]? = some (.lst xs)) : iList e σ h = .ok ⟨xs.map fun v => [v], [(n, xs)]⟩ h' := by
  simp only [iList, bnd, h1, look, h2]
  rfl
theorem src_zip {e e' : ME} {σ : MSt} {h h1 h2 : MH} {n k : Nat} {xs ys : List MV} (a1 : e σ h = .ok (.ref n) h1) (a2 : e' σ h1 = .ok (.ref k) h2) (b1 : h2[n]? = some (.lst xs)) (b2 : h2[k]? = some (.lst ys)) : iZip e e' σ h = .ok ⟨zipRows xs ys, [(n, xs), (k, ys)]⟩ h2 := by
  simp only [iZip, bnd, a1, a2, look, b1, b2]
  rfl
theorem src_down {e e' : ME} {σ : MSt} {h h1 h2 : MH} {i j : Int} {n : Nat} (a1 : e σ h = .ok (.int i) h1) (a2 : e' σ h1 = .ok (.int j) h2) (b1 : -1000000 ≤ i ∧ i < 1000000 ∧ -1000000 ≤ j ∧ j < 1000000) (hn : (i - j).toNat = n) : iRngDn e e' σ h = .ok ⟨downFrom i n, []⟩ h2 := by
  simp only [iRngDn, bnd, a1, a2]
  rw [if_pos b1, hn]
  rfl
theorem down_get {lo : Int} {n k : Nat} (h : k < n) : (downFrom lo n)[k]? = some [.int (lo - (k : Nat))] := by
  unfold downFrom
  rw [List.getElem?_map, List.getElem?_range h]; rfl
theorem down_len {lo : Int} {n : Nat} : (downFrom lo n).length = n := by simp [downFrom]
theorem okIn_two {items : List (List MV)} {h : MH} {n k : Nat} {xs ys : List MV} (e : h[n]? = some (.lst xs)) (e' : h[k]? = some (.lst ys)) : (Src.mk items [(n, xs), (k, ys)]).okIn h = true := by simp [Src.okIn, stayIn, e, e']
theorem okIn_none {items : List (List MV)} {h : MH} : (Src.mk items []).okIn h = true := rfl
theorem okIn_some {items : List (List MV)} {h : MH} {n : Nat} {xs : List MV} (e : h[n]? = some (.lst xs)) : (Src.mk items [(n, xs)]).okIn h = true := by simp [Src.okIn, stayIn, e]
theorem upTo_get {lo : Int} {n k : Nat} (h : k < n) : (upTo lo n)[k]? = some [.int (lo + (k : Nat))] := by
  unfold upTo
  rw [List.getElem?_map, List.getElem?_range h]; rfl
theorem upTo_len {lo : Int} {n : Nat} : (upTo lo n).length = n := by simp [upTo]
theorem mem_upTo {lo : Int} {n : Nat} {x : List MV} (h : x ∈ upTo lo n) : ∃ k, k < n ∧ x = [.int (lo + (k : Nat))] := by
  unfold upTo at h
  obtain ⟨k, hk, rfl⟩ := List.mem_map.mp h
  exact ⟨k, List.mem_range.mp hk, rfl⟩
theorem atN_nat {α : Type} (xs : List α) (k : Nat) : atN xs (k : Int) = xs[k]? := by
  unfold atN
  rw [if_pos (Int.natCast_nonneg k), Int.toNat_natCast]
/-! ### the script's cells -/
def cell (ns : List Int) (k : Int) : Int := ns.getD k.toNat 0
/-! ### the words, by what is wanted -/
section
variable {α β : Type} {h : MH} {E : Nat → MH → Prop} {σ : MSt}
theorem ite_and {c : Prop} [Decidable c] {p : Prop} : (if c then p else False) = (c ∧ p) := by
  by_cases q : c <;> simp [q]
theorem wp_look' (n : Nat) (Q : MO → MH → Prop) : wp (look n) h Q E = (match h[n]? with
    | some o => Q o h
    | none => False) := by
  unfold wp look
  cases h[n]? <;> first | rfl | (unfold wp; rfl)
theorem wp_put' (n : Nat) (o : MO) (Q : Unit → MH → Prop) : wp (put n o) h Q E = (n < h.length ∧ Q () (h.set n o)) := by
  unfold wp put
  by_cases e : n < h.length <;> simp [e]
@[simp] theorem w_var (i : Nat) (Q : MV → MH → Prop) : wp (eVar i σ) h Q E = (match σ[i]? with
    | some (some v) => Q v h
    | _ => False) := by
  unfold wp eVar
  cases e : σ[i]? with
  | none => first | rfl | (unfold wp; rfl)
  | some u => cases u <;> first | rfl | (unfold wp; rfl)
@[simp] theorem w_c (v : MV) (Q : MV → MH → Prop) : wp (eC v σ) h Q E = Q v h := by unfold wp; rfl
@[simp] theorem w_bin (f : Op2) (a b : ME) (Q : MV → MH → Prop) : wp (eBin f a b σ) h Q E = wp (a σ) h (fun x h1 => wp (b σ) h1 (fun y h2 => wp (f x y) h2 Q E) E) E := by
  unfold eBin; simp only [wp_bnd]
@[simp] theorem w_un (f : Op1) (a : ME) (Q : MV → MH → Prop) : wp (eUn f a σ) h Q E = wp (a σ) h (fun x h1 => wp (f x) h1 Q E) E := by
  unfold eUn; simp only [wp_bnd]
theorem wp_tst (g : ME) (Q : Bool → MH → Prop) : wp (tst g σ) h Q E = wp (g σ) h (fun v h1 => match v with
    | .bl b => Q b h1
    | _ => False) E := by
  unfold tst
  rw [wp_bnd]
  congr 1
  funext v h1
  cases v <;> first | rfl | (unfold wp; rfl)
@[simp] theorem w_tst (g : ME) (Q : Bool → MH → Prop) : wp (tst g σ) h Q E = wp (g σ) h (fun v h1 => match v with
    | .bl b => Q b h1
    | _ => False) E := wp_tst g Q
@[simp] theorem w_not (a : ME) (Q : MV → MH → Prop) : wp (eNot a σ) h Q E = wp (tst a σ) h (fun b h1 => Q (.bl (!b)) h1) E := by
  unfold eNot; simp only [wp_bnd, wp_ret]
@[simp] theorem w_and (a b : ME) (Q : MV → MH → Prop) : wp (eAnd a b σ) h Q E = wp (tst a σ) h (fun c h1 => if c = true then wp (b σ) h1 Q E else Q (.bl false) h1) E := by
  unfold eAnd; simp only [wp_bnd, wp_ite, wp_ret]
@[simp] theorem w_or (a b : ME) (Q : MV → MH → Prop) : wp (eOr a b σ) h Q E = wp (tst a σ) h (fun c h1 => if c = true then Q (.bl true) h1 else wp (b σ) h1 Q E) E := by
  unfold eOr; simp only [wp_bnd, wp_ite, wp_ret]
@[simp] theorem w_if (c a b : ME) (Q : MV → MH → Prop) : wp (eIf c a b σ) h Q E = wp (tst c σ) h (fun k h1 => if k = true then wp (a σ) h1 Q E else wp (b σ) h1 Q E) E := by
  unfold eIf; simp only [wp_bnd, wp_ite]
@[simp] theorem w_anil (Q : List MV → MH → Prop) : wp (aNil σ) h Q E = Q [] h := by unfold wp; rfl
@[simp] theorem w_acons (e : ME) (r : MA) (Q : List MV → MH → Prop) : wp (aCons e r σ) h Q E = wp (e σ) h (fun x h1 => wp (r σ) h1 (fun xs h2 => Q (x :: xs) h2) E) E := by
  unfold aCons; simp only [wp_bnd, wp_ret]
@[simp] theorem w_lst (a : MA) (Q : MV → MH → Prop) : wp (eLst a σ) h Q E = wp (a σ) h (fun xs h1 => xs.length ≤ 1000 ∧ Q (.ref h1.length) (h1 ++ [.lst xs])) E := by
  unfold eLst; rw [wp_bnd]
  congr 1
  funext xs h1
  rw [wp_ite, wp_new, wp_stk]
  by_cases c : xs.length ≤ 1000 <;> simp [c]
@[simp] theorem w_tup (a : MA) (Q : MV → MH → Prop) : wp (eTup a σ) h Q E = wp (a σ) h (fun xs h1 => xs.length ≤ 1000 ∧ Q (.tup xs) h1) E := by
  unfold eTup; rw [wp_bnd]
  congr 1
  funext xs h1
  rw [wp_ite, wp_ret, wp_stk]
  by_cases c : xs.length ≤ 1000 <;> simp [c]
@[simp] theorem w_call (f : Fn) (a : MA) (Q : MV → MH → Prop) : wp (eCall f a σ) h Q E = wp (a σ) h (fun xs h1 => wp (f xs) h1 Q E) E := by
  unfold eCall; simp only [wp_bnd]
@[simp] theorem w_make (c : Nat) (f : Fn) (a : MA) (Q : MV → MH → Prop) : wp (eMake c f a σ) h Q E = wp (a σ) h (fun xs h1 => wp (f (.ref h1.length :: xs)) (h1 ++ [.ins c []]) (fun v h2 => v = .non ∧ Q (.ref h1.length) h2) E) E := by
  unfold eMake
  simp only [wp_bnd, wp_new]
  congr 1
  funext xs h1
  congr 1
  funext v h2
  cases v <;> simp [wp_ret, wp_stk]
@[simp] theorem w_meth (c : Nat) (mth : String) (f : Fn) (o : ME) (a : MA) (Q : MV → MH → Prop) : wp (eMeth c mth f o a σ) h Q E = wp (o σ) h (fun x h1 => match x with
    | .ref n => (match h1[n]? with
      | some (.ins c' fs) => c' = c ∧ fs.lookup mth = none ∧ wp (a σ) h1 (fun xs h2 => wp (f (x :: xs)) h2 Q E) E
      | _ => False)
    | _ => False) E := by
  unfold eMeth
  rw [wp_bnd]
  congr 1
  funext x h1
  cases x with
  | ref n =>
    dsimp only
    rw [wp_bnd, wp_look']
    cases h1[n]? with
    | none => first | rfl | (unfold wp; rfl)
    | some ob => cases ob with
      | ins c' fs =>
        dsimp only
        rw [wp_ite, wp_bnd, wp_stk]
        by_cases q : c' = c <;> by_cases q2 : fs.lookup mth = none <;> simp [q, q2]
      | _ => first | rfl | (unfold wp; rfl)
  | _ => first | rfl | (unfold wp; rfl)
@[simp] theorem w_fld (o : ME) (cs : List Nat) (f : String) (Q : MV → MH → Prop) : wp (eFld o cs f σ) h Q E = wp (o σ) h (fun x h1 => match x with
    | .ref n => (match h1[n]? with
      | some (.ins c fs) => cs.contains c = true ∧ (match fs.lookup f with
        | some v => Q v h1
        | none => False)
      | _ => False)
    | _ => False) E := by
  unfold eFld
  rw [wp_bnd]
  congr 1
  funext x h1
  cases x with
  | ref n =>
    dsimp only
    rw [wp_bnd, wp_look']
    cases h1[n]? with
    | none => first | rfl | (unfold wp; rfl)
    | some ob => cases ob with
      | ins c' fs =>
        dsimp only
        by_cases q : cs.contains c' = true
        · rw [if_pos q]
          cases fs.lookup f <;> simp only [wp_ret, wp_stk, q, true_and, and_false]
        · rw [if_neg q]
          simp only [wp_stk, q, false_and, Bool.false_eq_true]
      | _ => first | rfl | (unfold wp; rfl)
  | _ => first | rfl | (unfold wp; rfl)
/-! operations -/
@[simp] theorem w_addI (i j : Int) (Q : MV → MH → Prop) : wp (oAdd (.int i) (.int j)) h Q E = Q (.int (i + j)) h := by unfold wp; rfl
@[simp] theorem w_addS (i j : Str) (Q : MV → MH → Prop) : wp (oAdd (.str i) (.str j)) h Q E = (i.length + j.length ≤ 100000 ∧ Q (.str (i ++ j)) h) := by
  unfold oAdd
  dsimp only
  rw [wp_ite, wp_ret, wp_stk]
  by_cases c : i.length + j.length ≤ 100000 <;> simp [c]
@[simp] theorem w_addL (a b : Nat) (Q : MV → MH → Prop) : wp (oAdd (.ref a) (.ref b)) h Q E = (match h[a]?, h[b]? with
    | some (.lst xs), some (.lst ys) => xs.length + ys.length ≤ 100000 ∧ Q (.ref h.length) (h ++ [.lst (xs ++ ys)])
    | _, _ => False) := by
  unfold oAdd
  dsimp only
  rw [wp_bnd, wp_look']
  cases h[a]? with
  | none => first | rfl | (unfold wp; rfl)
  | some oa =>
    dsimp only
    rw [wp_bnd, wp_look']
    cases h[b]? with
    | none => cases oa <;> first | rfl | (unfold wp; rfl)
    | some ob => cases oa <;> cases ob <;> first | rfl | (unfold wp; rfl) | (dsimp only; rw [wp_ite, wp_new, wp_stk]; rename_i xs ys; by_cases c : xs.length + ys.length ≤ 100000 <;> simp [c])
@[simp] theorem w_sub (i j : Int) (Q : MV → MH → Prop) : wp (oSub (.int i) (.int j)) h Q E = Q (.int (i - j)) h := by unfold wp; rfl
@[simp] theorem w_mul (i j : Int) (Q : MV → MH → Prop) : wp (oMul (.int i) (.int j)) h Q E = (((-(2 ^ 64) < i ∧ i < 2 ^ 64) ∨ (-(2 ^ 64) < j ∧ j < 2 ^ 64)) ∧ Q (.int (i * j)) h) := by
  unfold oMul
  dsimp only
  rw [wp_ite, wp_ret, wp_stk]
  by_cases c : (-(2 ^ 64) < i ∧ i < 2 ^ 64) ∨ (-(2 ^ 64) < j ∧ j < 2 ^ 64) <;> simp [c]
@[simp] theorem w_mod (i j : Int) (Q : MV → MH → Prop) : wp (oMod (.int i) (.int j)) h Q E = (0 < j ∧ Q (.int (i % j)) h) := by
  unfold oMod
  dsimp only
  rw [wp_ite, wp_ret, wp_stk]
  by_cases c : 0 < j <;> simp [c]
@[simp] theorem w_div (i j : Int) (Q : MV → MH → Prop) : wp (oDiv (.int i) (.int j)) h Q E = ((0 < j ∧ j < 1073741824) ∧ Q (.int (i / j)) h) := by
  unfold oDiv
  dsimp only
  rw [wp_ite, wp_ret, wp_stk]
  by_cases c : 0 < j ∧ j < 1073741824 <;> simp [c]
@[simp] theorem w_pow (i j : Int) (Q : MV → MH → Prop) : wp (oPow (.int i) (.int j)) h Q E = ((0 ≤ j ∧ j ≤ 1000000 ∧ i.natAbs < 2 ^ 64) ∧ Q (.int (i ^ j.toNat)) h) := by
  unfold oPow
  dsimp only
  rw [wp_ite, wp_ret, wp_stk]
  by_cases c : 0 ≤ j ∧ j ≤ 1000000 ∧ i.natAbs < 2 ^ 64 <;> simp [c]
@[simp] theorem w_neg (i : Int) (Q : MV → MH → Prop) : wp (oNeg (.int i)) h Q E = Q (.int (-i)) h := by unfold wp; rfl
@[simp] theorem w_lt (i j : Int) (Q : MV → MH → Prop) : wp (oLt (.int i) (.int j)) h Q E = Q (.bl (decide (i < j))) h := by unfold wp; rfl
@[simp] theorem w_le (i j : Int) (Q : MV → MH → Prop) : wp (oLe (.int i) (.int j)) h Q E = Q (.bl (decide (i ≤ j))) h := by unfold wp; rfl
@[simp] theorem w_gt (i j : Int) (Q : MV → MH → Prop) : wp (oGt (.int i) (.int j)) h Q E = Q (.bl (decide (j < i))) h := by unfold wp; rfl
@[simp] theorem w_ge (i j : Int) (Q : MV → MH → Prop) : wp (oGe (.int i) (.int j)) h Q E = Q (.bl (decide (j ≤ i))) h := by unfold wp; rfl
@[simp] theorem w_isN_int (i : Int) (Q : MV → MH → Prop) : wp (oIsN (.int i)) h Q E = Q (.bl false) h := by unfold wp; rfl
@[simp] theorem w_isN_non (Q : MV → MH → Prop) : wp (oIsN .non) h Q E = Q (.bl true) h := by unfold wp; rfl
@[simp] theorem w_isN_ref (n : Nat) (Q : MV → MH → Prop) : wp (oIsN (.ref n)) h Q E = Q (.bl false) h := by unfold wp; rfl
@[simp] theorem w_notN_int (i : Int) (Q : MV → MH → Prop) : wp (oNotN (.int i)) h Q E = Q (.bl true) h := by unfold wp; rfl
@[simp] theorem w_notN_non (Q : MV → MH → Prop) : wp (oNotN .non) h Q E = Q (.bl false) h := by unfold wp; rfl
@[simp] theorem w_eqI (i j : Int) (Q : MV → MH → Prop) : wp (oEq (.int i) (.int j)) h Q E = Q (.bl (decide (i = j))) h := by
  unfold oEq
  rw [if_pos (show same2 (.int i) (.int j) = true from rfl), wp_ret]
  by_cases e : i = j <;> simp [e]
@[simp] theorem w_neI (i j : Int) (Q : MV → MH → Prop) : wp (oNe (.int i) (.int j)) h Q E = Q (.bl (!decide (i = j))) h := by
  unfold oNe
  rw [if_pos (show same2 (.int i) (.int j) = true from rfl), wp_ret]
  by_cases e : i = j <;> simp [e]
@[simp] theorem w_eqS (i j : Str) (Q : MV → MH → Prop) : wp (oEq (.str i) (.str j)) h Q E = Q (.bl (decide (i = j))) h := by
  unfold oEq
  rw [if_pos (show same2 (.str i) (.str j) = true from rfl), wp_ret]
  by_cases e : i = j <;> simp [e]
@[simp] theorem w_neS (i j : Str) (Q : MV → MH → Prop) : wp (oNe (.str i) (.str j)) h Q E = Q (.bl (!decide (i = j))) h := by
  unfold oNe
  rw [if_pos (show same2 (.str i) (.str j) = true from rfl), wp_ret]
  by_cases e : i = j <;> simp [e]
@[simp] theorem w_ixL (a : Nat) (i : Int) (Q : MV → MH → Prop) : wp (oIx (.ref a) (.int i)) h Q E = (match h[a]? with
    | some (.lst xs) => (match atN xs i with
      | some v => Q v h
      | none => False)
    | _ => False) := by
  unfold oIx
  dsimp only
  rw [wp_bnd, wp_look']
  cases h[a]? with
  | none => first | rfl | (unfold wp; rfl)
  | some o => cases o with
    | lst xs => dsimp only; cases atN xs i <;> first | rfl | (unfold wp; rfl)
    | _ => first | rfl | (unfold wp; rfl)
@[simp] theorem w_ixT (xs : List MV) (i : Int) (Q : MV → MH → Prop) : wp (oIx (.tup xs) (.int i)) h Q E = (match atN xs i with
      | some v => Q v h
      | none => False) := by
  unfold oIx
  dsimp only
  cases atN xs i <;> first | rfl | (unfold wp; rfl)
@[simp] theorem w_ixZ (ns : List Int) (i : Int) (Q : MV → MH → Prop) : wp (oIx (.scr ns) (.int i)) h Q E = (match atN ns i with
      | some v => Q (.int v) h
      | none => False) := by
  unfold oIx
  dsimp only
  cases atN ns i <;> first | rfl | (unfold wp; rfl)
@[simp] theorem w_lenR (a : Nat) (Q : MV → MH → Prop) : wp (oLen (.ref a)) h Q E = (match h[a]? with
    | some (.lst xs) => Q (.int xs.length) h
    | some (.dct xs) => Q (.int xs.length) h
    | _ => False) := by
  unfold oLen
  dsimp only
  rw [wp_bnd, wp_look']
  cases h[a]? with
  | none => first | rfl | (unfold wp; rfl)
  | some o => cases o <;> first | rfl | (unfold wp; rfl)
@[simp] theorem w_lenT (xs : List MV) (Q : MV → MH → Prop) : wp (oLen (.tup xs)) h Q E = Q (.int xs.length) h := by unfold wp; rfl
@[simp] theorem w_lenZ (ns : List Int) (Q : MV → MH → Prop) : wp (oLen (.scr ns)) h Q E = Q (.int ns.length) h := by unfold wp; rfl
@[simp] theorem w_lenS (s : Str) (Q : MV → MH → Prop) : wp (oLen (.str s)) h Q E = (s.length ≤ 100000 ∧ Q (.int s.length) h) := by
  unfold oLen
  dsimp only
  rw [wp_ite, wp_ret, wp_stk]
  by_cases c : s.length ≤ 100000 <;> simp [c]
@[simp] theorem w_list (a : Nat) (Q : MV → MH → Prop) : wp (oList (.ref a)) h Q E = (match h[a]? with
    | some (.lst xs) => Q (.ref h.length) (h ++ [.lst xs])
    | _ => False) := by
  unfold oList
  dsimp only
  rw [wp_bnd, wp_look']
  cases h[a]? with
  | none => first | rfl | (unfold wp; rfl)
  | some o => cases o <;> first | rfl | (unfold wp; rfl)
@[simp] theorem w_intI (i : Int) (Q : MV → MH → Prop) : wp (oIntOf (.int i)) h Q E = Q (.int i) h := by unfold wp; rfl
@[simp] theorem w_intB (b : Bool) (Q : MV → MH → Prop) : wp (oIntOf (.bl b)) h Q E = Q (.int (if b then 1 else 0)) h := by unfold wp; rfl
@[simp] theorem w_inL (neg : Bool) (x : MV) (a : Nat) (Q : MV → MH → Prop) : wp (oIn neg x (.ref a)) h Q E = (match h[a]? with
    | some (.lst xs) => (flat x = true ∧ xs.all flat = true) ∧ Q (.bl (if neg then !inM x xs else inM x xs)) h
    | some (.dct kvs) => (match x with
      | .str k => Q (.bl (if neg then !(dget k kvs).isSome else (dget k kvs).isSome)) h
      | _ => False)
    | _ => False) := by
  unfold oIn
  dsimp only
  rw [wp_bnd, wp_look']
  cases h[a]? with
  | none => first | rfl | (unfold wp; rfl)
  | some o => cases o with
    | lst xs =>
      dsimp only
      rw [wp_ite, wp_ret, wp_stk]
      by_cases c : flat x = true ∧ xs.all flat = true <;> simp [c]
    | dct kvs => dsimp only; cases x <;> first | rfl | (unfold wp; rfl)
    | _ => first | rfl | (unfold wp; rfl)
@[simp] theorem w_ixD (a : Nat) (k : Str) (Q : MV → MH → Prop) : wp (oIx (.ref a) (.str k)) h Q E = (match h[a]? with
    | some (.dct kvs) => (match dget k kvs with
      | some v => Q v h
      | none => False)
    | _ => False) := by
  unfold oIx
  dsimp only
  rw [wp_bnd, wp_look']
  cases h[a]? with
  | none => first | rfl | (unfold wp; rfl)
  | some o => cases o with
    | dct xs => dsimp only; cases dget k xs <;> first | rfl | (unfold wp; rfl)
    | _ => first | rfl | (unfold wp; rfl)
@[simp] theorem w_ixS (s : Str) (i : Int) (Q : MV → MH → Prop) : wp (oIx (.str s) (.int i)) h Q E = (s.length ≤ 100000 ∧ (match atN s.cps.toList i with
      | some c => Q (.str ⟨#[c]⟩) h
      | none => False)) := by
  unfold oIx
  dsimp only
  by_cases c : s.length ≤ 100000
  · rw [if_pos c]
    simp only [c, true_and]
    cases atN s.cps.toList i <;> first | rfl | (unfold wp; rfl)
  · rw [if_neg c, wp_stk]; simp [c]
@[simp] theorem w_mulL (a : Nat) (k : Int) (Q : MV → MH → Prop) : wp (oMul (.ref a) (.int k)) h Q E = (match h[a]? with
    | some (.lst xs) => (-1000000 ≤ k ∧ k ≤ 1000000 ∧ xs.length * k.toNat ≤ 100000) ∧ Q (.ref h.length) (h ++ [.lst (List.replicate k.toNat xs).flatten])
    | _ => False) := by
  unfold oMul
  dsimp only
  rw [wp_bnd, wp_look']
  cases h[a]? with
  | none => first | rfl | (unfold wp; rfl)
  | some o => cases o with
    | lst xs => dsimp only; rw [wp_ite, wp_new, wp_stk, ite_and]
    | _ => first | rfl | (unfold wp; rfl)
@[simp] theorem w_min (i j : Int) (Q : MV → MH → Prop) : wp (oMin (.int i) (.int j)) h Q E = Q (.int (if j < i then j else i)) h := by unfold wp; rfl
@[simp] theorem w_max (i j : Int) (Q : MV → MH → Prop) : wp (oMax (.int i) (.int j)) h Q E = Q (.int (if i < j then j else i)) h := by unfold wp; rfl
@[simp] theorem w_addII (i j : Int) (Q : MV → MH → Prop) : wp (oAddI (.int i) (.int j)) h Q E = Q (.int (i + j)) h := by unfold wp; rfl
@[simp] theorem w_getIx (a : Nat) (y : MV) (Q : MV → MH → Prop) : wp (getIx (.ref a) y) h Q E = wp (oIx (.ref a) y) h Q E := rfl
@[simp] theorem w_listRange (j : Int) (Q : MV → MH → Prop) : wp (oListRange (.int j)) h Q E = ((-1000000 ≤ j ∧ j ≤ 1000000) ∧ Q (.ref h.length) (h ++ [.lst ((List.range j.toNat).map fun (k : Nat) => .int k)])) := by
  unfold oListRange
  dsimp only
  rw [wp_ite, wp_new, wp_stk]
  by_cases c : -1000000 ≤ j ∧ j ≤ 1000000 <;> simp [c]
/-! statements -/
@[simp] theorem w_nil (Q : MF → MH → Prop) : wp (sNil σ) h Q E = Q (.next σ) h := by unfold wp; rfl
theorem wp_seq (a b : MS) (Q : MF → MH → Prop) : wp (sSeq a b σ) h Q E = wp (a σ) h (fun f h1 => match f with
    | .next σ' => wp (b σ') h1 Q E
    | f => Q f h1) E := by
  unfold sSeq
  rw [wp_bnd]
  congr 1
  funext f h1
  cases f <;> first | rfl | (unfold wp; rfl)
@[simp] theorem w_seq (a b : MS) (Q : MF → MH → Prop) : wp (sSeq a b σ) h Q E = wp (a σ) h (fun f h1 => match f with
    | .next σ' => wp (b σ') h1 Q E
    | f => Q f h1) E := wp_seq a b Q
theorem wp_cut {a b : MS} {Q : MF → MH → Prop} {R : MSt → MH → Prop} (w : wp (a σ) h (fun f h1 => ∃ σ1, f = .next σ1 ∧ R σ1 h1) E) (k : ∀ σ1 h1, R σ1 h1 → wp (b σ1) h1 Q E) : wp (sSeq a b σ) h Q E := by
  rw [wp_seq]
  refine wp_mono w (fun f h1 ⟨σ1, e, r⟩ => ?_) fun _ _ z => z
  subst e
  exact k σ1 h1 r
@[simp] theorem w_expr (e : ME) (Q : MF → MH → Prop) : wp (sExpr e σ) h Q E = wp (e σ) h (fun _ h1 => Q (.next σ) h1) E := by
  unfold sExpr; simp only [wp_bnd, wp_ret]
@[simp] theorem w_set (i : Nat) (e : ME) (Q : MF → MH → Prop) : wp (sSet i e σ) h Q E = wp (e σ) h (fun v h1 => Q (.next (σ.set i (some v))) h1) E := by
  unfold sSet; simp only [wp_bnd, wp_ret]
@[simp] theorem w_ret (e : ME) (Q : MF → MH → Prop) : wp (sRet e σ) h Q E = wp (e σ) h (fun v h1 => Q (.ret v) h1) E := by
  unfold sRet; simp only [wp_bnd, wp_ret]
@[simp] theorem w_sif (c : ME) (a b : MS) (Q : MF → MH → Prop) : wp (sIf c a b σ) h Q E = wp (tst c σ) h (fun k h1 => if k = true then wp (a σ) h1 Q E else wp (b σ) h1 Q E) E := by
  unfold sIf; simp only [wp_bnd, wp_ite]
@[simp] theorem w_raise (c : Nat) (a : MA) (Q : MF → MH → Prop) : wp (sRaise c a σ) h Q E = wp (a σ) h (fun xs h1 => xs.length ≤ 1000 ∧ E c h1) E := by
  unfold sRaise
  rw [wp_bnd]
  congr 1
  funext xs h1
  rw [wp_ite, wp_rse, wp_stk]
  by_cases q : xs.length ≤ 1000 <;> simp [q]
@[simp] theorem w_sfld (o : ME) (cs : List Nat) (f : String) (e : ME) (Q : MF → MH → Prop) : wp (sFld o cs f e σ) h Q E = wp (e σ) h (fun v h1 => wp (o σ) h1 (fun x h2 => match x with
    | .ref n => (match h2[n]? with
      | some (.ins c fs) => (cs.contains c = true ∧ fs.length < 1000) ∧ n < h2.length ∧ Q (.next σ) (h2.set n (.ins c (putF f v fs)))
      | _ => False)
    | _ => False) E) E := by
  unfold sFld
  rw [wp_bnd]
  congr 1
  funext v h1
  rw [wp_bnd]
  congr 1
  funext x h2
  cases x with
  | ref n =>
    dsimp only
    rw [wp_bnd, wp_look']
    cases h2[n]? with
    | none => first | rfl | (unfold wp; rfl)
    | some ob => cases ob with
      | ins c fs =>
        dsimp only
        rw [wp_ite, wp_bnd, wp_put', wp_stk]
        simp only [wp_ret, ite_and]
      | _ => first | rfl | (unfold wp; rfl)
  | _ => first | rfl | (unfold wp; rfl)
@[simp] theorem w_setIx (o i e : ME) (Q : MF → MH → Prop) : wp (sSetIx o i e σ) h Q E = wp (e σ) h (fun v h1 => wp (o σ) h1 (fun x h2 => wp (i σ) h2 (fun y h3 => wp (setIx x y v) h3 (fun _ h4 => Q (.next σ) h4) E) E) E) E := by
  unfold sSetIx; simp only [wp_bnd, wp_ret]
@[simp] theorem w_setL (n : Nat) (k : Int) (v : MV) (Q : Unit → MH → Prop) : wp (setIx (.ref n) (.int k) v) h Q E = (match h[n]? with
    | some (.lst xs) => (match ixN xs.length k with
      | some j => n < h.length ∧ Q () (h.set n (.lst (xs.set j v)))
      | none => False)
    | _ => False) := by
  unfold setIx
  dsimp only
  rw [wp_bnd, wp_look']
  cases h[n]? with
  | none => first | rfl | (unfold wp; rfl)
  | some ob => cases ob with
    | lst xs =>
      dsimp only
      cases ixN xs.length k with
      | none => first | rfl | (unfold wp; rfl)
      | some j => dsimp only; rw [wp_put']
    | _ => first | rfl | (unfold wp; rfl)
@[simp] theorem w_setD (n : Nat) (k : Str) (v : MV) (Q : Unit → MH → Prop) : wp (setIx (.ref n) (.str k) v) h Q E = (match h[n]? with
    | some (.dct kvs) => kvs.length < 1000 ∧ n < h.length ∧ Q () (h.set n (.dct (dput k v kvs)))
    | _ => False) := by
  unfold setIx
  dsimp only
  rw [wp_bnd, wp_look']
  cases h[n]? with
  | none => first | rfl | (unfold wp; rfl)
  | some ob => cases ob with
    | dct xs => dsimp only; rw [wp_ite, wp_put', wp_stk, ite_and]
    | _ => first | rfl | (unfold wp; rfl)
@[simp] theorem w_augIx (f : Op2) (o i e : ME) (Q : MF → MH → Prop) : wp (sAugIx f o i e σ) h Q E = wp (o σ) h (fun x h1 => wp (i σ) h1 (fun y h2 => wp (getIx x y) h2 (fun u h3 => wp (e σ) h3 (fun v h4 => wp (f u v) h4 (fun z h5 => wp (setIx x y z) h5 (fun _ h6 => Q (.next σ) h6) E) E) E) E) E) E := by
  unfold sAugIx; simp only [wp_bnd, wp_ret]
@[simp] theorem w_augFld (f2 : Op2) (o : ME) (cs : List Nat) (f : String) (e : ME) (Q : MF → MH → Prop) : wp (sAugFld f2 o cs f e σ) h Q E = wp (o σ) h (fun x h1 => match x with
    | .ref n => (match h1[n]? with
      | some (.ins c fs) => cs.contains c = true ∧ (match fs.lookup f with
        | some u => wp (e σ) h1 (fun v h2 => wp (f2 u v) h2 (fun z h3 => match h3[n]? with
          | some (.ins c' fs') => (c' = c ∧ fs'.length < 1000) ∧ n < h3.length ∧ Q (.next σ) (h3.set n (.ins c' (putF f z fs')))
          | _ => False) E) E
        | none => False)
      | _ => False)
    | _ => False) E := by
  unfold sAugFld
  rw [wp_bnd]
  congr 1
  funext x h1
  cases x with
  | ref n =>
    dsimp only
    rw [wp_bnd, wp_look']
    cases h1[n]? with
    | none => first | rfl | (unfold wp; rfl)
    | some ob => cases ob with
      | ins c fs =>
        dsimp only
        by_cases q : cs.contains c = true
        · rw [if_pos q]
          simp only [q, true_and]
          cases fs.lookup f with
          | none => first | rfl | (unfold wp; rfl)
          | some u =>
            dsimp only
            rw [wp_bnd]
            congr 1
            funext v h2
            rw [wp_bnd]
            congr 1
            funext z h3
            rw [wp_bnd, wp_look']
            cases h3[n]? with
            | none => first | rfl | (unfold wp; rfl)
            | some ob => cases ob with
              | ins c' fs' =>
                dsimp only
                rw [wp_ite, wp_bnd, wp_put', wp_stk]
                simp only [wp_ret, ite_and]
              | _ => first | rfl | (unfold wp; rfl)
        · rw [if_neg q]
          simp only [wp_stk, q, false_and, Bool.false_eq_true]
      | _ => first | rfl | (unfold wp; rfl)
  | _ => first | rfl | (unfold wp; rfl)
@[simp] theorem w_dnew (Q : MV → MH → Prop) : wp (eDNew σ) h Q E = Q (.ref h.length) (h ++ [.dct []]) := by unfold wp; rfl
@[simp] theorem w_append (o e : ME) (Q : MV → MH → Prop) : wp (eAppend o e σ) h Q E = wp (o σ) h (fun x h1 => match x with
    | .ref n => (match h1[n]? with
      | some (.lst _) => wp (e σ) h1 (fun v h2 => match h2[n]? with
        | some (.lst xs) => xs.length < 100000 ∧ n < h2.length ∧ Q .non (h2.set n (.lst (xs ++ [v])))
        | _ => False) E
      | _ => False)
    | _ => False) E := by
  unfold eAppend
  rw [wp_bnd]
  congr 1
  funext x h1
  cases x with
  | ref n =>
    dsimp only
    rw [wp_bnd, wp_look']
    cases h1[n]? with
    | none => first | rfl | (unfold wp; rfl)
    | some ob => cases ob with
      | lst ys =>
        dsimp only
        rw [wp_bnd]
        congr 1
        funext v h2
        unfold appendV
        dsimp only
        rw [wp_bnd, wp_look']
        cases h2[n]? with
        | none => first | rfl | (unfold wp; rfl)
        | some ob => cases ob with
          | lst xs =>
            dsimp only
            rw [wp_ite, wp_bnd, wp_put', wp_stk]
            by_cases q : xs.length < 100000 <;> simp [q, wp_ret]
          | _ => first | rfl | (unfold wp; rfl)
      | _ => first | rfl | (unfold wp; rfl)
  | _ => first | rfl | (unfold wp; rfl)
theorem wp_noExc' {α : Type} {m : M α} {Q : α → MH → Prop} : wp (noExc m) h Q E = wp m h Q noE := by
  unfold wp noExc
  cases m h <;> first | rfl | (unfold wp; rfl)
@[simp] theorem w_try (al : List Nat) (body : MS) (hs : List Hd) (Q : MF → MH → Prop) : wp (sTry al body hs σ) h Q E = wp (body σ) h Q (fun c h1 => al.contains c = true ∧ wp (handle c σ hs) h1 Q E) := by
  unfold wp sTry
  cases body σ h with
  | ok f h' => rfl
  | exc c h' =>
    dsimp only
    by_cases q : al.contains c = true
    · rw [if_pos q]; simp only [q, true_and]
    · rw [if_neg q]; simp only [q, false_and, Bool.false_eq_true]
  | stuck => rfl
@[simp] theorem w_hand0 (c : Nat) (cs : List Nat) (b : MS) (r : List Hd) (Q : MF → MH → Prop) : wp (handle c σ (⟨cs, none, b⟩ :: r)) h Q E = if cs.contains c = true then wp (b σ) h Q noE else wp (handle c σ r) h Q E := by
  conv => lhs; unfold handle
  by_cases q : cs.contains c = true
  · rw [if_pos q, if_pos q]; exact wp_noExc'
  · rw [if_neg q, if_neg q]
@[simp] theorem w_hand1 (c i : Nat) (cs : List Nat) (b : MS) (r : List Hd) (Q : MF → MH → Prop) : wp (handle c σ (⟨cs, some i, b⟩ :: r)) h Q E = if cs.contains c = true then wp (b (σ.set i (some (.ref h.length)))) (h ++ [.exn c]) (fun f h1 => Q (unbound i f) h1) noE else wp (handle c σ r) h Q E := by
  conv => lhs; unfold handle
  by_cases q : cs.contains c = true
  · rw [if_pos q, if_pos q]
    dsimp only
    rw [wp_bnd, wp_new, wp_bnd, wp_noExc']
    simp only [wp_ret]
  · rw [if_neg q, if_neg q]
@[simp] theorem w_isX (al cs : List Nat) (n : Nat) (Q : MV → MH → Prop) : wp (isTy (.exn al cs) (.ref n)) h Q E = (match h[n]? with
    | some (.exn c) => al.contains c = true ∧ Q (.bl (cs.contains c)) h
    | _ => False) := by
  unfold isTy
  rw [wp_bnd, wp_look']
  cases h[n]? with
  | none => first | rfl | (unfold wp; rfl)
  | some o => cases o with
    | exn c =>
      dsimp only
      rw [wp_ite, wp_ret, wp_stk, ite_and]
    | _ => first | rfl | (unfold wp; rfl)
@[simp] theorem w_for (is : List Nat) (src : MI) (body : MS) (Q : MF → MH → Prop) : wp (sFor is src body σ) h Q E = wp (src σ) h (fun s h1 => wp (forItems s is body s.items σ) h1 Q E) E := by
  unfold sFor; simp only [wp_bnd]
@[simp] theorem w_iList (e : ME) (Q : Src → MH → Prop) : wp (iList e σ) h Q E = wp (e σ) h (fun x h1 => match x with
    | .ref n => (match h1[n]? with
      | some (.lst xs) => Q ⟨xs.map fun v => [v], [(n, xs)]⟩ h1
      | _ => False)
    | _ => False) E := by
  unfold iList
  rw [wp_bnd]
  congr 1
  funext x h1
  cases x with
  | ref n =>
    dsimp only
    rw [wp_bnd, wp_look']
    cases h1[n]? with
    | none => first | rfl | (unfold wp; rfl)
    | some ob => cases ob <;> first | rfl | (unfold wp; rfl)
  | _ => first | rfl | (unfold wp; rfl)
@[simp] theorem w_rng1 (e : ME) (Q : Src → MH → Prop) : wp (iRng1 e σ) h Q E = wp (e σ) h (fun x h1 => match x with
    | .int j => (-(2 ^ 62) ≤ j ∧ j < 2 ^ 62) ∧ Q ⟨upTo 0 j.toNat, []⟩ h1
    | _ => False) E := by
  unfold iRng1
  rw [wp_bnd]
  congr 1
  funext x h1
  cases x with
  | int j =>
    dsimp only
    rw [wp_ite, wp_ret, wp_stk]
    by_cases q : -(2 ^ 62) ≤ j ∧ j < 2 ^ 62
    · rw [if_pos q]; simp only [q, true_and, and_self]
    · rw [if_neg q]; simp only [q, false_and]
  | _ => first | rfl | (unfold wp; rfl)
@[simp] theorem w_rng2 (e e' : ME) (Q : Src → MH → Prop) : wp (iRng2 e e' σ) h Q E = wp (e σ) h (fun x h1 => wp (e' σ) h1 (fun y h2 => match x, y with
    | .int i, .int j => (-(2 ^ 62) ≤ i ∧ i < 2 ^ 62 ∧ -(2 ^ 62) ≤ j ∧ j < 2 ^ 62) ∧ Q ⟨upTo i (j - i).toNat, []⟩ h2
    | _, _ => False) E) E := by
  unfold iRng2
  rw [wp_bnd]
  congr 1
  funext x h1
  rw [wp_bnd]
  congr 1
  funext y h2
  cases x <;> cases y <;> first | rfl | (unfold wp; rfl) | (dsimp only; rw [wp_ite, wp_ret, wp_stk, ite_and])
end
/-! ### == of what is alike -/
open PySem in
mutual
theorem eqv_refl : ∀ (d : PyData), d.canLay0 = true → PyData.eqv d d = true
  | .none, _ => by simp [PyData.eqv]
  | .bool b, _ => by simp [PyData.eqv]
  | .int b, _ => by simp [PyData.eqv]
  | .str b, _ => by simp [PyData.eqv]
  | .list xs, h => by
    simp only [PyData.eqv]
    exact eqvAll_refl xs (by simpa [PyData.canLay0] using h)
  | .tuple xs, h => by
    simp only [PyData.eqv]
    exact eqvAll_refl xs (by simpa [PyData.canLay0] using h)
  | .dict _, h => by simp [PyData.canLay0] at h
theorem eqvAll_refl : ∀ (ds : List PyData), PyData.canLayAll0 ds = true → PyData.eqvAll ds ds = true
  | [], _ => by simp [PyData.eqvAll]
  | d :: ds, h => by
    simp only [PyData.canLayAll0, Bool.and_eq_true] at h
    simp only [PyData.eqvAll, Bool.and_eq_true]
    exact ⟨eqv_refl d h.1, eqvAll_refl ds h.2⟩
end
section
variable {h : MH} {E : Nat → MH → Prop} {Q : MV → MH → Prop} {x y : MV} {d : PySem.PyData}
theorem eqDeep_same (h1 : dat h 6 x = some d) (h2 : dat h 6 y = some d) (sh : PySem.SeqAt.shaped d = true) : eqDeep x y h = .ok true h := by
  unfold eqDeep
  rw [h1, h2]
  dsimp only
  rw [if_pos ⟨sh, sh⟩, eqv_refl d (PySem.SeqAt.canLay_of_shaped sh)]
theorem eq_same_w (h1 : dat h 6 x = some d) (h2 : dat h 6 y = some d) (sh : PySem.SeqAt.shaped d = true) (ns : same2 x y = false) (q : Q (.bl true) h) : wp (oEq x y) h Q E := by
  unfold oEq
  rw [if_neg (by rw [ns]; exact Bool.false_ne_true), wp_bnd]
  exact wp_of (eqDeep_same h1 h2 sh) (by rw [wp_ret]; exact q)
theorem ne_same_w (h1 : dat h 6 x = some d) (h2 : dat h 6 y = some d) (sh : PySem.SeqAt.shaped d = true) (ns : same2 x y = false) (q : Q (.bl false) h) : wp (oNe x y) h Q E := by
  unfold oNe
  rw [if_neg (by rw [ns]; exact Bool.false_ne_true), wp_bnd]
  exact wp_of (eqDeep_same h1 h2 sh) (by rw [wp_ret]; exact q)
end
/-- plain rows of ints and Nones -/
def rowD : MV → PySem.PyData
  | .int i => .int i
  | .str s => .str s
  | .bl b => .bool b
  | _ => .none
theorem datL_flat {h : MH} {n : Nat} : ∀ {xs : List MV}, xs.all flat = true → datL (dat h n) xs = some (xs.map rowD)
  | [], _ => rfl
  | x :: r, f => by
    simp only [List.all_cons, Bool.and_eq_true] at f
    have e : dat h n x = some (rowD x) := by
      cases x <;> first | (exact absurd f.1 Bool.false_ne_true) | (cases n <;> rfl)
    unfold datL
    rw [e, datL_flat f.2]
    rfl
theorem dat_flat {h : MH} {a n : Nat} {xs : List MV} (e : h[a]? = some (.lst xs)) (f : xs.all flat = true) : dat h (n + 1) (.ref a) = some (.list (xs.map rowD)) := by
  unfold dat
  rw [e]
  dsimp only
  rw [datL_flat f]
/-- ints and Nones alone: no texts -/
def plainI : MV → Bool
  | .int _ => true
  | .non => true
  | .bl _ => true
  | _ => false
theorem plain_flat {xs : List MV} (f : xs.all plainI = true) : xs.all flat = true := by
  rw [List.all_eq_true] at f ⊢
  intro x hx
  have := f x hx
  cases x <;> first | rfl | exact this
theorem lay_plain : ∀ {xs : List MV}, xs.all plainI = true → PySem.PyData.canLayAll0 (xs.map rowD) = true
  | [], _ => rfl
  | x :: r, f => by
    simp only [List.all_cons, Bool.and_eq_true] at f
    simp only [List.map_cons, PySem.PyData.canLayAll0, Bool.and_eq_true]
    refine ⟨?_, lay_plain f.2⟩
    cases x <;> first | rfl | exact absurd f.1 Bool.false_ne_true
theorem depth_plain : ∀ {xs : List MV}, xs.all plainI = true → PySem.PyData.depthAll (xs.map rowD) = 0
  | [], _ => rfl
  | x :: r, f => by
    simp only [List.all_cons, Bool.and_eq_true] at f
    simp only [List.map_cons, PySem.PyData.depthAll, depth_plain f.2]
    cases x <;> first | rfl | exact absurd f.1 Bool.false_ne_true
theorem shaped_plain {xs : List MV} (f : xs.all plainI = true) : PySem.SeqAt.shaped (.list (xs.map rowD)) = true := by
  simp [PySem.SeqAt.shaped, PySem.PyData.canLay0, lay_plain f, PySem.PyData.depth, depth_plain f]
theorem eq_lists_w {h : MH} {E : Nat → MH → Prop} {Q : MV → MH → Prop} {a b : Nat} {xs : List MV} (h1 : h[a]? = some (.lst xs)) (h2 : h[b]? = some (.lst xs)) (f : xs.all plainI = true) (q : Q (.bl true) h) : wp (oEq (.ref a) (.ref b)) h Q E :=
  eq_same_w (dat_flat h1 (plain_flat f)) (dat_flat h2 (plain_flat f)) (shaped_plain f) rfl q
theorem ne_lists_w {h : MH} {E : Nat → MH → Prop} {Q : MV → MH → Prop} {a b : Nat} {xs : List MV} (h1 : h[a]? = some (.lst xs)) (h2 : h[b]? = some (.lst xs)) (f : xs.all plainI = true) (q : Q (.bl false) h) : wp (oNe (.ref a) (.ref b)) h Q E :=
  ne_same_w (dat_flat h1 (plain_flat f)) (dat_flat h2 (plain_flat f)) (shaped_plain f) rfl q
/-! ### rows of ints, by their place -/
def zs (l : List Int) : List MV := l.map .int
def tab (n : Nat) (f : Nat → Int) : List MV := (List.range n).map fun k => .int (f k)
theorem tab_len (n : Nat) (f : Nat → Int) : (tab n f).length = n := by simp [tab]
theorem tab_get {n : Nat} {f : Nat → Int} {k : Nat} (h : k < n) : (tab n f)[k]? = some (.int (f k)) := by
  unfold tab
  rw [List.getElem?_map, List.getElem?_range h]; rfl
theorem tab_at {n : Nat} {f : Nat → Int} {k : Nat} (h : k < n) : atN (tab n f) (k : Int) = some (.int (f k)) := by rw [atN_nat, tab_get h]
theorem tab_none {n : Nat} {f : Nat → Int} {k : Nat} (h : n ≤ k) : (tab n f)[k]? = none := by
  rw [List.getElem?_eq_none_iff, tab_len]; exact h
theorem tab_congr {n : Nat} {f g : Nat → Int} (h : ∀ k, k < n → f k = g k) : tab n f = tab n g := by
  unfold tab
  refine List.map_congr_left fun k hk => ?_
  rw [h k (List.mem_range.mp hk)]
theorem tab_set {n : Nat} {f : Nat → Int} {k : Nat} {v : Int} : (tab n f).set k (.int v) = tab n (fun i => if i = k then v else f i) := by
  apply List.ext_getElem?
  intro i
  by_cases hi : i < n
  · rw [tab_get hi]
    by_cases e : k = i
    · subst e
      rw [List.getElem?_set_self (by rw [tab_len]; exact hi), if_pos rfl]
    · rw [List.getElem?_set_ne e, tab_get hi, if_neg (fun z => e z.symm)]
  · rw [tab_none (by omega)]
    rw [List.getElem?_eq_none_iff, List.length_set, tab_len]; omega
theorem tab_succ (n : Nat) (f : Nat → Int) : tab n f ++ [.int (f n)] = tab (n + 1) f := by
  unfold tab
  rw [List.range_succ, List.map_append]
  rfl
theorem tab_plain (n : Nat) (f : Nat → Int) : (tab n f).all plainI = true := by simp [tab, plainI]
theorem tab_flat (n : Nat) (f : Nat → Int) : (tab n f).all flat = true := plain_flat (tab_plain n f)
theorem ixN_nat {n k : Nat} (h : k < n) : ixN n (k : Int) = some k := by
  have : (k : Int) < (n : Int) := by omega
  simp only [ixN]
  rw [if_pos (by omega), if_pos this]
  simp
theorem zip_tab : ∀ (n : Nat) (f g : Nat → Int), zipRows (tab n f) (tab n g) = (List.range n).map fun k => [.int (f k), .int (g k)] := by
  intro n f g
  have go : ∀ l : List Nat, zipRows (l.map fun k => .int (f k)) (l.map fun k => .int (g k)) = l.map fun k => [MV.int (f k), MV.int (g k)] := by
    intro l
    induction l with
    | nil => rfl
    | cons k l ih => simp only [List.map_cons, zipRows, ih]
  exact go _
/-! ### sums -/
def sumTo : Nat → (Nat → Int) → Int
  | 0, _ => 0
  | n + 1, f => sumTo n f + f n
theorem sumTo_congr : ∀ {n : Nat} {f g : Nat → Int}, (∀ k, k < n → f k = g k) → sumTo n f = sumTo n g
  | 0, _, _, _ => rfl
  | n + 1, f, g, h => by
    simp only [sumTo]
    rw [sumTo_congr (n := n) fun k hk => h k (by omega), h n (by omega)]
theorem sumTo_add : ∀ (n : Nat) (f g : Nat → Int), sumTo n (fun k => f k + g k) = sumTo n f + sumTo n g
  | 0, _, _ => rfl
  | n + 1, f, g => by
    simp only [sumTo, sumTo_add n f g]
    omega
theorem sumTo_zero : ∀ {n : Nat} {f : Nat → Int}, (∀ k, k < n → f k = 0) → sumTo n f = 0
  | 0, _, _ => rfl
  | n + 1, f, h => by
    simp only [sumTo, sumTo_zero (n := n) fun k hk => h k (by omega), h n (by omega)]
    omega
theorem sumTo_one {n p : Nat} {f : Nat → Int} (hp : p < n) : sumTo n (fun q => if q = p then f q else 0) = f p := by
  induction n with
  | zero => omega
  | succ n ih =>
    simp only [sumTo]
    by_cases e : n = p
    · subst e
      rw [if_pos rfl, sumTo_zero]
      · omega
      · intro k hk; rw [if_neg (by omega)]
    · rw [if_neg e, ih (by omega)]
      omega
end L2.Rv

/-! the small reading of the text -/
set_option linter.all false
namespace L2.Rv
noncomputable section
open PySem (Str)
def check_below_b : MS := (sSeq (sIf (eOr (eBin oLt (eUn oLen (eVar 0)) (eC (.int 1))) (eBin oGt (eUn oLen (eVar 0)) (eC (.int 40)))) (sRaise 101 (aCons (eC (.str (Str.ofString "a river has 1 to 40 points"))) aNil)) sNil)
    (sSeq (sIf (eUn oNotN (eBin oIx (eVar 0) (eC (.int 0)))) (sRaise 101 (aCons (eC (.str (Str.ofString "nothing lies below the mouth"))) aNil)) sNil)
    (sFor [1] (iRng2 (eC (.int 1)) (eUn oLen (eVar 0))) (sSeq (sSet 2 (eBin oIx (eVar 0) (eVar 1)))
    (sIf (eOr (eUn oIsN (eVar 2)) (eOr (eBin oLt (eVar 2) (eC (.int 0))) (eBin oGe (eVar 2) (eVar 1)))) (sRaise 101 (aCons (eC (.str (Str.ofString "each point but the mouth has a point of a lesser number below it"))) aNil)) sNil)))))
def check_below_f : Fn := fnOf 1 3 check_below_b
def River___init___b : MS := (sSeq (sExpr (eCall check_below_f (aCons (eVar 1) aNil)))
    (sFld (eVar 0) [1] "runs_to" (eUn oList (eVar 1))))
def River___init___f : Fn := fnOf 2 2 River___init___b
def law_cell_at_b : MS := (sSeq (sIf (eBin oLt (eVar 1) (eUn oLen (eVar 0))) (sRet (eBin oIx (eVar 0) (eVar 1))) sNil)
    (sRet (eC (.int 0))))
def law_cell_at_f : Fn := fnOf 2 2 law_cell_at_b
def law_below_b : MS := (sRet (eBin oAdd (eLst (aCons (eC .non) aNil)) (eComp (iRng2 (eC (.int 1)) (eVar 2)) none (eBin oMod (eCall law_cell_at_f (aCons (eVar 0) (aCons (eBin oAdd (eVar 1) (eVar 3)) aNil))) (eVar 3)))))
def law_below_f : Fn := fnOf 3 3 law_below_b
def law_way_b : MS := (sSeq (sSet 2 (eLst aNil))
    (sSeq (sWhile (eUn oNotN (eVar 1)) (sSeq (sExpr (eAppend (eVar 2) (eVar 1)))
    (sSet 1 (eBin oIx (eVar 0) (eVar 1)))))
    (sRet (eVar 2))))
def law_way_f : Fn := fnOf 2 3 law_way_b
def law_flows_b : MS := (sSeq (sSet 3 (eComp (iList (eVar 1)) none (eC (.int 0))))
    (sSeq (sFor [4] (iRng1 (eUn oLen (eVar 1))) (sFor [5] (iList (eCall law_way_f (aCons (eVar 0) (aCons (eVar 4) aNil)))) (sSetIx (eVar 3) (eVar 5) (eBin oSub (eBin oAdd (eBin oIx (eVar 3) (eVar 5)) (eBin oIx (eVar 1) (eVar 4))) (eBin oIx (eVar 2) (eVar 4))))))
    (sRet (eVar 3))))
def law_flows_f : Fn := fnOf 3 6 law_flows_b
def law_whole_b : MS := (sRet (eAnd (eUn (isTy .int) (eVar 0)) (eNot (eUn (isTy .bool) (eVar 0)))))
def law_whole_f : Fn := fnOf 1 1 law_whole_b
def law_same_b : MS := (sSeq (sIf (eOr (eNot (eUn (isTy .list) (eVar 0))) (eBin oNe (eUn oLen (eVar 0)) (eUn oLen (eVar 1)))) (sRet (eC (.bl false))) sNil)
    (sSeq (sFor [2] (iRng1 (eUn oLen (eVar 1))) (sIf (eOr (eNot (eCall law_whole_f (aCons (eBin oIx (eVar 0) (eVar 2)) aNil))) (eBin oNe (eBin oIx (eVar 0) (eVar 2)) (eBin oIx (eVar 1) (eVar 2)))) (sRet (eC (.bl false))) sNil))
    (sRet (eC (.bl true)))))
def law_same_f : Fn := fnOf 2 3 law_same_b
def law_year_b : MS := (sSeq (sSet 3 (eLst aNil))
    (sSeq (sFor [4] (iRng1 (eVar 2)) (sSeq (sSet 5 (eCall law_cell_at_f (aCons (eVar 0) (aCons (eBin oAdd (eVar 1) (eVar 4)) aNil))))
    (sSeq (sSet 6 (eBin oMod (eBin oDiv (eVar 5) (eC (.int 5))) (eC (.int 60))))
    (sSeq (sIf (eBin oEq (eBin oMod (eVar 5) (eC (.int 5))) (eC (.int 4))) (sSet 6 (eBin oMod (eBin oDiv (eVar 5) (eC (.int 5))) (eC (.int 1000001)))) sNil)
    (sExpr (eAppend (eVar 3) (eVar 6)))))))
    (sRet (eVar 3))))
def law_year_f : Fn := fnOf 3 7 law_year_b
def River_check_point_b : MS := (sIf (eOr (eBin oLt (eVar 1) (eC (.int 0))) (eBin oGe (eVar 1) (eUn oLen (eFld (eVar 0) [1] "runs_to")))) (sRaise 103 (aCons (eC (.str (Str.ofString "the river has no such point"))) aNil)) sNil)
def River_check_point_f : Fn := fnOf 2 2 River_check_point_b
def River_below_b : MS := (sSeq (sExpr (eMeth 1 "check_point" River_check_point_f (eVar 0) (aCons (eVar 1) aNil)))
    (sRet (eBin oIx (eFld (eVar 0) [1] "runs_to") (eVar 1))))
def River_below_f : Fn := fnOf 2 2 River_below_b
def River_points_b : MS := (sRet (eUn oLen (eFld (eVar 0) [1] "runs_to")))
def River_points_f : Fn := fnOf 1 1 River_points_b
def check_year_b : MS := (sSeq (sIf (eBin oNe (eUn oLen (eVar 1)) (eMeth 1 "points" River_points_f (eVar 0) aNil)) (sRaise 102 (aCons (eC (.str (Str.ofString "a year has one inflow for each point"))) aNil)) sNil)
    (sFor [2] (iList (eVar 1)) (sIf (eOr (eBin oLt (eVar 2) (eC (.int 0))) (eBin oGt (eVar 2) (eC (.int 1000000)))) (sRaise 102 (aCons (eC (.str (Str.ofString "an inflow is from 0 to 1000000"))) aNil)) sNil)))
def check_year_f : Fn := fnOf 2 3 check_year_b
def flows_b : MS := (sSeq (sExpr (eCall check_year_f (aCons (eVar 0) (aCons (eVar 1) aNil))))
    (sSeq (sSet 3 (eComp (iZip (eVar 1) (eVar 2)) none (eBin oSub (eVar 5) (eVar 6))))
    (sSeq (sFor [4] (iRngDn (eBin oSub (eMeth 1 "points" River_points_f (eVar 0) aNil) (eC (.int 1))) (eC (.int 0))) (sAugIx oAddI (eVar 3) (eMeth 1 "below" River_below_f (eVar 0) (aCons (eVar 4) aNil)) (eBin oIx (eVar 3) (eVar 4))))
    (sRet (eVar 3)))))
def flows_f : Fn := fnOf 3 5 flows_b
def law_b : MS := (sSeq (sSet 1 (eBin oAdd (eC (.int 1)) (eBin oMod (eCall law_cell_at_f (aCons (eVar 0) (aCons (eC (.int 0)) aNil))) (eC (.int 8)))))
    (sSeq (sIf (eBin oEq (eBin oMod (eBin oDiv (eCall law_cell_at_f (aCons (eVar 0) (aCons (eC (.int 0)) aNil))) (eC (.int 8))) (eC (.int 9))) (eC (.int 1))) (sSet 1 (eC (.int 30))) sNil)
    (sSeq (sSet 2 (eCall law_below_f (aCons (eVar 0) (aCons (eC (.int 1)) (aCons (eVar 1) aNil)))))
    (sSeq (sSet 3 (eCall law_year_f (aCons (eVar 0) (aCons (eC (.int 9)) (aCons (eVar 1) aNil)))))
    (sSeq (sSet 4 (eLst aNil))
    (sSeq (sFor [5] (iRng1 (eVar 1)) (sSeq (sSet 6 (eCall law_cell_at_f (aCons (eVar 0) (aCons (eBin oAdd (eC (.int 18)) (eVar 5)) aNil))))
    (sExpr (eAppend (eVar 4) (eBin oIx (eLst (aCons (eBin oMod (eBin oDiv (eVar 6) (eC (.int 4))) (eC (.int 40))) (aCons (eBin oMod (eBin oDiv (eVar 6) (eC (.int 4))) (eC (.int 1000001))) aNil))) (eUn oIntOf (eBin oEq (eBin oMod (eVar 6) (eC (.int 4))) (eC (.int 3)))))))))
    (sSeq (sSet 7 (eCall law_flows_f (aCons (eVar 2) (aCons (eVar 3) (aCons (eVar 4) aNil)))))
    (sSeq (sSet 8 (eMake 1 River___init___f (aCons (eVar 2) aNil)))
    (sSeq (sSet 9 (eLst (aCons (eUn oList (eVar 3)) (aCons (eUn oList (eVar 4)) aNil))))
    (sSeq (sSet 10 (eCall flows_f (aCons (eVar 8) (aCons (eBin oIx (eVar 9) (eC (.int 0))) (aCons (eBin oIx (eVar 9) (eC (.int 1))) aNil)))))
    (sSeq (sIf (eOr (eNot (eCall law_same_f (aCons (eVar 10) (aCons (eVar 7) aNil)))) (eBin oNe (eVar 9) (eLst (aCons (eVar 3) (aCons (eVar 4) aNil))))) (sRet (eC (.bl false))) sNil)
    (sSeq (sSetIx (eVar 10) (eC (.int 0)) (eC (.int 5)))
    (sRet (eCall law_same_f (aCons (eCall flows_f (aCons (eVar 8) (aCons (eUn oList (eVar 3)) (aCons (eUn oList (eVar 4)) aNil)))) (aCons (eVar 7) aNil))))))))))))))))
def law_f : Fn := fnOf 1 11 law_b
end
end L2.Rv

set_option linter.all false
set_option maxRecDepth 100000
set_option maxHeartbeats 4000000
namespace L2.Rv
open PySem PySem.Spec PyProof.Rows
def top (i : Nat) : Stmt := PySem.Challenge.pw_riverdue_k04_flows.main.body.getD i (.Pass ⟨0, 0, 0, 0⟩)
abbrev s_check_below : Stmt := top 10
abbrev s_River___init__ : Stmt := inClass (top 9) 0
abbrev s_law_cell_at : Stmt := top 14
abbrev s_law_below : Stmt := top 17
abbrev s_law_way : Stmt := top 18
abbrev s_law_flows : Stmt := top 20
abbrev s_law_whole : Stmt := top 15
abbrev s_law_same : Stmt := top 16
abbrev s_law_year : Stmt := top 19
abbrev s_River_check_point : Stmt := inClass (top 9) 2
abbrev s_River_below : Stmt := inClass (top 9) 3
abbrev s_River_points : Stmt := inClass (top 9) 1
abbrev s_check_year : Stmt := top 11
abbrev s_flows : Stmt := top 12
abbrev s_law : Stmt := top 21
structure Adr where
  c_River : Addr
  c_DueError : Addr
  c_BadRiver : Addr
  c_BadYear : Addr
  c_NoPoint : Addr
  f_check_below : Addr
  d_check_below : FuncData
  f_River___init__ : Addr
  d_River___init__ : FuncData
  f_law_cell_at : Addr
  d_law_cell_at : FuncData
  f_law_below : Addr
  d_law_below : FuncData
  f_law_way : Addr
  d_law_way : FuncData
  f_law_flows : Addr
  d_law_flows : FuncData
  f_law_whole : Addr
  d_law_whole : FuncData
  f_law_same : Addr
  d_law_same : FuncData
  f_law_year : Addr
  d_law_year : FuncData
  f_River_check_point : Addr
  d_River_check_point : FuncData
  f_River_below : Addr
  d_River_below : FuncData
  f_River_points : Addr
  d_River_points : FuncData
  f_check_year : Addr
  d_check_year : FuncData
  f_flows : Addr
  d_flows : FuncData
  f_law : Addr
  d_law : FuncData
def Adr.cl (a : Adr) : Nat → Addr := fun n => if n = 1 then a.c_River else if n = 100 then a.c_DueError else if n = 101 then a.c_BadRiver else if n = 102 then a.c_BadYear else if n = 103 then a.c_NoPoint else 0
structure Txt (K : PySem.W.Frag) (mg : Str → Option Value) (a : Adr) : Prop where
  n_bool : mg "bool" = none
  n_int : mg "int" = none
  n_isinstance : mg "isinstance" = none
  n_len : mg "len" = none
  n_list : mg "list" = none
  n_range : mg "range" = none
  n_zip : mg "zip" = none
  kt_bool : KTy K a.cl (.type "bool") .bool
  kt_int : KTy K a.cl (.type "int") .int
  kt_list : KTy K a.cl (.type "list") .list
  g_MOST_INFLOW : ∃ t, mg "MOST_INFLOW" = some (.int 1000000 t)
  g_MOST_POINTS : ∃ t, mg "MOST_POINTS" = some (.int 40 t)
  m_River : mg "River" = some (.ref a.c_River)
  cl_River : Cls K a.c_River
  mk_River : Mk K a.c_River a.f_River___init__
  na_River_runs_to : NoAttr K a.c_River "runs_to"
  m_DueError : mg "DueError" = some (.ref a.c_DueError)
  ec_DueError : ExcCls K a.c_DueError
  m_BadRiver : mg "BadRiver" = some (.ref a.c_BadRiver)
  ec_BadRiver : ExcCls K a.c_BadRiver
  m_BadYear : mg "BadYear" = some (.ref a.c_BadYear)
  ec_BadYear : ExcCls K a.c_BadYear
  m_NoPoint : mg "NoPoint" = some (.ref a.c_NoPoint)
  ec_NoPoint : ExcCls K a.c_NoPoint
  ei_BadRiver : PySem.W.excIn K a.c_BadRiver bmVE newVE = true
  ei_BadYear : PySem.W.excIn K a.c_BadYear bmVE newVE = true
  ei_NoPoint : PySem.W.excIn K a.c_NoPoint bmVE newVE = true
  F_check_below : Fun K "check_below" "check_below" s_check_below a.f_check_below a.d_check_below
  B_check_below : Binds K a.d_check_below ["below"] []
  m_check_below : mg "check_below" = some (.ref a.f_check_below)
  F_River___init__ : Fun K "__init__" "River.__init__" s_River___init__ a.f_River___init__ a.d_River___init__
  B_River___init__ : Binds K a.d_River___init__ ["self", "below"] []
  F_law_cell_at : Fun K "_law_cell_at" "_law_cell_at" s_law_cell_at a.f_law_cell_at a.d_law_cell_at
  B_law_cell_at : Binds K a.d_law_cell_at ["script", "k"] []
  m_law_cell_at : mg "_law_cell_at" = some (.ref a.f_law_cell_at)
  F_law_below : Fun K "_law_below" "_law_below" s_law_below a.f_law_below a.d_law_below
  B_law_below : Binds K a.d_law_below ["script", "start", "size"] []
  m_law_below : mg "_law_below" = some (.ref a.f_law_below)
  F_law_way : Fun K "_law_way" "_law_way" s_law_way a.f_law_way a.d_law_way
  B_law_way : Binds K a.d_law_way ["below", "point"] []
  m_law_way : mg "_law_way" = some (.ref a.f_law_way)
  F_law_flows : Fun K "_law_flows" "_law_flows" s_law_flows a.f_law_flows a.d_law_flows
  B_law_flows : Binds K a.d_law_flows ["below", "year", "taken"] []
  m_law_flows : mg "_law_flows" = some (.ref a.f_law_flows)
  F_law_whole : Fun K "_law_whole" "_law_whole" s_law_whole a.f_law_whole a.d_law_whole
  B_law_whole : Binds K a.d_law_whole ["found"] []
  m_law_whole : mg "_law_whole" = some (.ref a.f_law_whole)
  F_law_same : Fun K "_law_same" "_law_same" s_law_same a.f_law_same a.d_law_same
  B_law_same : Binds K a.d_law_same ["found", "due"] []
  m_law_same : mg "_law_same" = some (.ref a.f_law_same)
  F_law_year : Fun K "_law_year" "_law_year" s_law_year a.f_law_year a.d_law_year
  B_law_year : Binds K a.d_law_year ["script", "start", "size"] []
  m_law_year : mg "_law_year" = some (.ref a.f_law_year)
  F_River_check_point : Fun K "check_point" "River.check_point" s_River_check_point a.f_River_check_point a.d_River_check_point
  B_River_check_point : Binds K a.d_River_check_point ["self", "point"] []
  me_River_check_point : Meth K a.c_River "check_point" a.f_River_check_point
  F_River_below : Fun K "below" "River.below" s_River_below a.f_River_below a.d_River_below
  B_River_below : Binds K a.d_River_below ["self", "point"] []
  me_River_below : Meth K a.c_River "below" a.f_River_below
  F_River_points : Fun K "points" "River.points" s_River_points a.f_River_points a.d_River_points
  B_River_points : Binds K a.d_River_points ["self"] []
  me_River_points : Meth K a.c_River "points" a.f_River_points
  F_check_year : Fun K "check_year" "check_year" s_check_year a.f_check_year a.d_check_year
  B_check_year : Binds K a.d_check_year ["river", "year"] []
  m_check_year : mg "check_year" = some (.ref a.f_check_year)
  F_flows : Fun K "flows" "flows" s_flows a.f_flows a.d_flows
  B_flows : Binds K a.d_flows ["river", "year", "taken"] []
  m_flows : mg "flows" = some (.ref a.f_flows)
  F_law : Fun K "law" "law" s_law a.f_law a.d_law
  B_law : Binds K a.d_law ["script"] []
  m_law : mg "law" = some (.ref a.f_law)
end L2.Rv

set_option linter.all false
set_option maxRecDepth 100000
set_option maxHeartbeats 4000000
namespace L2.Rv
open PySem PySem.Spec PyProof.Rows
section
variable {P : Program} {w : World} {K : PySem.W.Frag} {mg : Str → Option Value} {base : Heap} {a : Adr}
theorem sc_check_below : FnScope ["below", "point", "lower"] ["below"] (defScope s_check_below) := ⟨rfl, rfl, rfl, by decide +kernel, rfl, by decide +kernel, by decide +kernel⟩
theorem ok_check_below (T : Txt K mg a) : FnG P w K mg base a.cl 1 a.f_check_below a.d_check_below ["below"] check_below_f := by
  obtain ⟨t_MOST_POINTS, h_MOST_POINTS⟩ := T.g_MOST_POINTS
  refine fun_okG (N := ["below", "point", "lower"]) (k := 0) (g := check_below_b) T.F_check_below sc_check_below rfl fun cdv A outer s H E sa ns hr => ?_
  exact (gs_cons (gs_if (GW.gt (gw_or (gt_cmp (fun _ => op_lt) vo_lt (ge_callB (fun _ => call_lenG) vo_len (ge_var 0) T.n_len PySem.boot_len) ge_int (nomark _)) (gw_one .Or (gt_cmp (fun _ => op_gt) vo_gt (ge_callB (fun _ => call_lenG) vo_len (ge_var 0) T.n_len PySem.boot_len) (ge_gint rfl h_MOST_POINTS ⟨_, rfl⟩) (nomark _))))) (gs_one (gs_raise (c := 101) PySem.F.excBase_ValueError T.ei_BadRiver T.m_BadRiver hr.hd (ga_cons ge_str ga_nil))) gs_nil)
    (gs_cons (gs_if (gt_notN (ge_ix (hu_of hr) (ge_var 0) ge_int)) (gs_one (gs_raise (c := 101) PySem.F.excBase_ValueError T.ei_BadRiver T.m_BadRiver hr.hd (ga_cons ge_str ga_nil))) gs_nil)
    (gs_one (gs_for (one := true) (is := [1]) (gi_range2 ge_int (ge_callB (fun _ => call_lenG) vo_len (ge_var 0) T.n_len PySem.boot_len) T.n_range) (gt_name sc_check_below.nd) (gs_cons (gs_set (n := 2) (ge_ix (hu_of hr) (ge_var 0) (ge_var 1)) sc_check_below.nd)
    (gs_one (gs_if (GW.gt (gw_or (gt_isN (ge_var 2)) (gw_or (gt_cmp (fun _ => op_lt) vo_lt (ge_var 2) ge_int (nomark _)) (gw_one .Or (gt_cmp (fun _ => op_ge) vo_ge (ge_var 2) (ge_var 1) (nomark _)))))) (gs_one (gs_raise (c := 101) PySem.F.excBase_ValueError T.ei_BadRiver T.m_BadRiver hr.hd (ga_cons ge_str ga_nil))) gs_nil)))))))
end
end L2.Rv

set_option linter.all false
set_option maxRecDepth 100000
set_option maxHeartbeats 4000000
namespace L2.Rv
open PySem PySem.Spec PyProof.Rows
section
variable {P : Program} {w : World} {K : PySem.W.Frag} {mg : Str → Option Value} {base : Heap} {a : Adr}
theorem sc_River___init__ : FnScope ["self", "below"] ["self", "below"] (defScope s_River___init__) := ⟨rfl, rfl, rfl, by decide +kernel, rfl, by decide +kernel, by decide +kernel⟩
theorem ok_River___init__ (T : Txt K mg a) : FnG P w K mg base a.cl 2 a.f_River___init__ a.d_River___init__ ["self", "below"] River___init___f := by
  have G_check_below : FnG P w K mg base a.cl 1 a.f_check_below a.d_check_below ["below"] check_below_f := ok_check_below T
  refine fun_okG (N := ["self", "below"]) (k := 1) (g := River___init___b) T.F_River___init__ sc_River___init__ rfl fun cdv A outer s H E sa ns hr => ?_
  exact (gs_cons (gs_expr (ge_call G_check_below (hr.mono (by decide)) T.m_check_below T.F_check_below.kp T.B_check_below (ga_cons (ge_var 1) ga_nil)))
    (gs_one (gs_fld (f := "runs_to") (ge_var 0) (ge_callT (fun _ => call_list_of) vo_list (ge_var 1) T.n_list PyProof.Rows.Boot.«list») (FldOk.one T.cl_River T.na_River_runs_to))))
end
end L2.Rv

set_option linter.all false
set_option maxRecDepth 100000
set_option maxHeartbeats 4000000
namespace L2.Rv
open PySem PySem.Spec PyProof.Rows
section
variable {P : Program} {w : World} {K : PySem.W.Frag} {mg : Str → Option Value} {base : Heap} {a : Adr}
theorem sc_law_cell_at : FnScope ["script", "k"] ["script", "k"] (defScope s_law_cell_at) := ⟨rfl, rfl, rfl, by decide +kernel, rfl, by decide +kernel, by decide +kernel⟩
theorem ok_law_cell_at (T : Txt K mg a) : FnG P w K mg base a.cl 1 a.f_law_cell_at a.d_law_cell_at ["script", "k"] law_cell_at_f := by
  refine fun_okG (N := ["script", "k"]) (k := 0) (g := law_cell_at_b) T.F_law_cell_at sc_law_cell_at rfl fun cdv A outer s H E sa ns hr => ?_
  exact (gs_cons (gs_if (gt_cmp (fun _ => op_lt) vo_lt (ge_var 1) (ge_callB (fun _ => call_lenG) vo_len (ge_var 0) T.n_len PySem.boot_len) (nomark _)) (gs_one (gs_ret (ge_ix (hu_of hr) (ge_var 0) (ge_var 1)))) gs_nil)
    (gs_one (gs_ret ge_int)))
end
end L2.Rv

set_option linter.all false
set_option maxRecDepth 100000
set_option maxHeartbeats 4000000
namespace L2.Rv
open PySem PySem.Spec PyProof.Rows
section
variable {P : Program} {w : World} {K : PySem.W.Frag} {mg : Str → Option Value} {base : Heap} {a : Adr}
theorem sc_law_below : FnScope ["script", "start", "size"] ["script", "start", "size"] (defScope s_law_below) := ⟨rfl, rfl, rfl, by decide +kernel, rfl, by decide +kernel, by decide +kernel⟩
theorem ok_law_below (T : Txt K mg a) : FnG P w K mg base a.cl 2 a.f_law_below a.d_law_below ["script", "start", "size"] law_below_f := by
  have G_law_cell_at : FnG P w K mg base a.cl 1 a.f_law_cell_at a.d_law_cell_at ["script", "k"] law_cell_at_f := ok_law_cell_at T
  refine fun_okG (N := ["script", "start", "size"]) (k := 1) (g := law_below_b) T.F_law_below sc_law_below rfl fun cdv A outer s H E sa ns hr => ?_
  exact (gs_one (gs_ret (ge_bin (fun _ => op_addG) vo_add (ge_lst (ga_cons ge_non ga_nil)) (ge_comp (x := ["k"]) (one := true) (CompOk.of rfl ⟨rfl, ⟨rfl, trivial⟩⟩ rfl rfl) (gi_range2 ge_int (ge_var 2) T.n_range) (fun C s H fp pins => (ge_bin (fun _ => op_mod) vo_mod (ge_call G_law_cell_at (hr.mono (by decide)) T.m_law_cell_at T.F_law_cell_at.kp T.B_law_cell_at (ga_cons (ge_var 0) (ga_cons (ge_bin (fun _ => op_addG) vo_add (ge_var 1) (ge_var 3)) ga_nil))) (ge_var 3))) trivial (fun nd C s H fp pins => gt_name nd)))))
end
end L2.Rv

set_option linter.all false
set_option maxRecDepth 100000
set_option maxHeartbeats 4000000
namespace L2.Rv
open PySem PySem.Spec PyProof.Rows
section
variable {P : Program} {w : World} {K : PySem.W.Frag} {mg : Str → Option Value} {base : Heap} {a : Adr}
theorem sc_law_way : FnScope ["below", "point", "found"] ["below", "point"] (defScope s_law_way) := ⟨rfl, rfl, rfl, by decide +kernel, rfl, by decide +kernel, by decide +kernel⟩
theorem ok_law_way (T : Txt K mg a) : FnG P w K mg base a.cl 1 a.f_law_way a.d_law_way ["below", "point"] law_way_f := by
  refine fun_okG (N := ["below", "point", "found"]) (k := 0) (g := law_way_b) T.F_law_way sc_law_way rfl fun cdv A outer s H E sa ns hr => ?_
  exact (gs_cons (gs_set (n := 2) (ge_lst ga_nil) sc_law_way.nd)
    (gs_cons (gs_while (gt_notN (ge_var 1)) (gs_cons (gs_expr (ge_append (ge_var 2) (ge_var 1)))
    (gs_one (gs_set (n := 1) (ge_ix (hu_of hr) (ge_var 0) (ge_var 1)) sc_law_way.nd))))
    (gs_one (gs_ret (ge_var 2)))))
end
end L2.Rv

set_option linter.all false
set_option maxRecDepth 100000
set_option maxHeartbeats 4000000
namespace L2.Rv
open PySem PySem.Spec PyProof.Rows
section
variable {P : Program} {w : World} {K : PySem.W.Frag} {mg : Str → Option Value} {base : Heap} {a : Adr}
theorem sc_law_flows : FnScope ["below", "year", "taken", "found", "point", "other"] ["below", "year", "taken"] (defScope s_law_flows) := ⟨rfl, rfl, rfl, by decide +kernel, rfl, by decide +kernel, by decide +kernel⟩
theorem ok_law_flows (T : Txt K mg a) : FnG P w K mg base a.cl 2 a.f_law_flows a.d_law_flows ["below", "year", "taken"] law_flows_f := by
  have G_law_way : FnG P w K mg base a.cl 1 a.f_law_way a.d_law_way ["below", "point"] law_way_f := ok_law_way T
  refine fun_okG (N := ["below", "year", "taken", "found", "point", "other"]) (k := 1) (g := law_flows_b) T.F_law_flows sc_law_flows rfl fun cdv A outer s H E sa ns hr => ?_
  exact (gs_cons (gs_set_comp (n := 3) (x := ["inflow"]) (one := true) (CompOk.of rfl trivial rfl rfl) (gi_list (ge_var 1)) (fun C s H fp pins => ge_int) trivial (fun nd C s H fp pins => gt_name nd) sc_law_flows.nd)
    (gs_cons (gs_for (one := true) (is := [4]) (gi_range1 (ge_callB (fun _ => call_lenG) vo_len (ge_var 1) T.n_len PySem.boot_len) T.n_range) (gt_name sc_law_flows.nd) (gs_one (gs_for (one := true) (is := [5]) (gi_list (ge_call G_law_way (hr.mono (by decide)) T.m_law_way T.F_law_way.kp T.B_law_way (ga_cons (ge_var 0) (ga_cons (ge_var 4) ga_nil)))) (gt_name sc_law_flows.nd) (gs_one (gs_setIx (ge_var 3) (ge_var 5) (ge_bin (fun _ => op_sub) vo_sub (ge_bin (fun _ => op_addG) vo_add (ge_ix (hu_of hr) (ge_var 3) (ge_var 5)) (ge_ix (hu_of hr) (ge_var 1) (ge_var 4))) (ge_ix (hu_of hr) (ge_var 2) (ge_var 4))) (hg := fun E t t' h1 h2 => pg_sub h1 h2 (set_all (hu_of hr))))))))
    (gs_one (gs_ret (ge_var 3)))))
end
end L2.Rv

set_option linter.all false
set_option maxRecDepth 100000
set_option maxHeartbeats 4000000
namespace L2.Rv
open PySem PySem.Spec PyProof.Rows
section
variable {P : Program} {w : World} {K : PySem.W.Frag} {mg : Str → Option Value} {base : Heap} {a : Adr}
theorem sc_law_whole : FnScope ["found"] ["found"] (defScope s_law_whole) := ⟨rfl, rfl, rfl, by decide +kernel, rfl, by decide +kernel, by decide +kernel⟩
theorem ok_law_whole (T : Txt K mg a) : FnG P w K mg base a.cl 1 a.f_law_whole a.d_law_whole ["found"] law_whole_f := by
  refine fun_okG (N := ["found"]) (k := 0) (g := law_whole_b) T.F_law_whole sc_law_whole rfl fun cdv A outer s H E sa ns hr => ?_
  exact (gs_one (gs_ret (ge_and (ge_isi (ge_var 0) (fun E => pe_bltn (v := .ty "int") rfl T.n_int PyProof.Rows.Boot.«int» rfl) (.inl ⟨_, rfl, rfl⟩) T.kt_int T.n_isinstance) (ge_one (ge_not (ge_isi (ge_var 0) (fun E => pe_bltn (v := .ty "bool") rfl T.n_bool PyProof.Rows.Boot.«bool» rfl) (.inl ⟨_, rfl, rfl⟩) T.kt_bool T.n_isinstance))))))
end
end L2.Rv

set_option linter.all false
set_option maxRecDepth 100000
set_option maxHeartbeats 4000000
namespace L2.Rv
open PySem PySem.Spec PyProof.Rows
section
variable {P : Program} {w : World} {K : PySem.W.Frag} {mg : Str → Option Value} {base : Heap} {a : Adr}
theorem sc_law_same : FnScope ["found", "due", "k"] ["found", "due"] (defScope s_law_same) := ⟨rfl, rfl, rfl, by decide +kernel, rfl, by decide +kernel, by decide +kernel⟩
theorem ok_law_same (T : Txt K mg a) : FnG P w K mg base a.cl 2 a.f_law_same a.d_law_same ["found", "due"] law_same_f := by
  have G_law_whole : FnG P w K mg base a.cl 1 a.f_law_whole a.d_law_whole ["found"] law_whole_f := ok_law_whole T
  refine fun_okG (N := ["found", "due", "k"]) (k := 1) (g := law_same_b) T.F_law_same sc_law_same rfl fun cdv A outer s H E sa ns hr => ?_
  exact (gs_cons (gs_if (GW.gt (gw_or (gt_not (gt_val (ge_isi (ge_var 0) (fun E => pe_bltn (v := .ty "list") rfl T.n_list PyProof.Rows.Boot.«list» rfl) (.inl ⟨_, rfl, rfl⟩) T.kt_list T.n_isinstance))) (gw_one .Or (gt_cmp (fun _ => (op_neD hr.units)) vo_ne (ge_callB (fun _ => call_lenG) vo_len (ge_var 0) T.n_len PySem.boot_len) (ge_callB (fun _ => call_lenG) vo_len (ge_var 1) T.n_len PySem.boot_len) (nomark _))))) (gs_one (gs_ret ge_bl)) gs_nil)
    (gs_cons (gs_for (one := true) (is := [2]) (gi_range1 (ge_callB (fun _ => call_lenG) vo_len (ge_var 1) T.n_len PySem.boot_len) T.n_range) (gt_name sc_law_same.nd) (gs_one (gs_if (GW.gt (gw_or (gt_not (gt_val (ge_call G_law_whole (hr.mono (by decide)) T.m_law_whole T.F_law_whole.kp T.B_law_whole (ga_cons (ge_ix (hu_of hr) (ge_var 0) (ge_var 2)) ga_nil)))) (gw_one .Or (gt_cmp (fun _ => (op_neD hr.units)) vo_ne (ge_ix (hu_of hr) (ge_var 0) (ge_var 2)) (ge_ix (hu_of hr) (ge_var 1) (ge_var 2)) (nomark _))))) (gs_one (gs_ret ge_bl)) gs_nil)))
    (gs_one (gs_ret ge_bl))))
end
end L2.Rv

set_option linter.all false
set_option maxRecDepth 100000
set_option maxHeartbeats 4000000
namespace L2.Rv
open PySem PySem.Spec PyProof.Rows
section
variable {P : Program} {w : World} {K : PySem.W.Frag} {mg : Str → Option Value} {base : Heap} {a : Adr}
theorem sc_law_year : FnScope ["script", "start", "size", "year", "k", "cell", "inflow"] ["script", "start", "size"] (defScope s_law_year) := ⟨rfl, rfl, rfl, by decide +kernel, rfl, by decide +kernel, by decide +kernel⟩
theorem ok_law_year (T : Txt K mg a) : FnG P w K mg base a.cl 2 a.f_law_year a.d_law_year ["script", "start", "size"] law_year_f := by
  have G_law_cell_at : FnG P w K mg base a.cl 1 a.f_law_cell_at a.d_law_cell_at ["script", "k"] law_cell_at_f := ok_law_cell_at T
  refine fun_okG (N := ["script", "start", "size", "year", "k", "cell", "inflow"]) (k := 1) (g := law_year_b) T.F_law_year sc_law_year rfl fun cdv A outer s H E sa ns hr => ?_
  exact (gs_cons (gs_set (n := 3) (ge_lst ga_nil) sc_law_year.nd)
    (gs_cons (gs_for (one := true) (is := [4]) (gi_range1 (ge_var 2) T.n_range) (gt_name sc_law_year.nd) (gs_cons (gs_set (n := 5) (ge_call G_law_cell_at (hr.mono (by decide)) T.m_law_cell_at T.F_law_cell_at.kp T.B_law_cell_at (ga_cons (ge_var 0) (ga_cons (ge_bin (fun _ => op_addG) vo_add (ge_var 1) (ge_var 4)) ga_nil))) sc_law_year.nd)
    (gs_cons (gs_set (n := 6) (ge_bin (fun _ => op_mod) vo_mod (ge_bin (fun _ => op_fdiv) vo_div (ge_var 5) ge_int) ge_int) sc_law_year.nd)
    (gs_cons (gs_if (gt_cmp (fun _ => (op_eqD hr.units)) vo_eq (ge_bin (fun _ => op_mod) vo_mod (ge_var 5) ge_int) ge_int (nomark _)) (gs_one (gs_set (n := 6) (ge_bin (fun _ => op_mod) vo_mod (ge_bin (fun _ => op_fdiv) vo_div (ge_var 5) ge_int) ge_int) sc_law_year.nd)) gs_nil)
    (gs_one (gs_expr (ge_append (ge_var 3) (ge_var 6))))))))
    (gs_one (gs_ret (ge_var 3)))))
end
end L2.Rv

set_option linter.all false
set_option maxRecDepth 100000
set_option maxHeartbeats 4000000
namespace L2.Rv
open PySem PySem.Spec PyProof.Rows
section
variable {P : Program} {w : World} {K : PySem.W.Frag} {mg : Str → Option Value} {base : Heap} {a : Adr}
theorem sc_River_check_point : FnScope ["self", "point"] ["self", "point"] (defScope s_River_check_point) := ⟨rfl, rfl, rfl, by decide +kernel, rfl, by decide +kernel, by decide +kernel⟩
theorem ok_River_check_point (T : Txt K mg a) : FnG P w K mg base a.cl 1 a.f_River_check_point a.d_River_check_point ["self", "point"] River_check_point_f := by
  refine fun_okG (N := ["self", "point"]) (k := 0) (g := River_check_point_b) T.F_River_check_point sc_River_check_point rfl fun cdv A outer s H E sa ns hr => ?_
  exact (gs_one (gs_if (GW.gt (gw_or (gt_cmp (fun _ => op_lt) vo_lt (ge_var 1) ge_int (nomark _)) (gw_one .Or (gt_cmp (fun _ => op_ge) vo_ge (ge_var 1) (ge_callB (fun _ => call_lenG) vo_len (ge_fld (f := "runs_to") (ge_var 0) (FldOk.one T.cl_River T.na_River_runs_to)) T.n_len PySem.boot_len) (nomark _))))) (gs_one (gs_raise (c := 103) PySem.F.excBase_ValueError T.ei_NoPoint T.m_NoPoint hr.hd (ga_cons ge_str ga_nil))) gs_nil))
end
end L2.Rv

set_option linter.all false
set_option maxRecDepth 100000
set_option maxHeartbeats 4000000
namespace L2.Rv
open PySem PySem.Spec PyProof.Rows
section
variable {P : Program} {w : World} {K : PySem.W.Frag} {mg : Str → Option Value} {base : Heap} {a : Adr}
theorem sc_River_below : FnScope ["self", "point"] ["self", "point"] (defScope s_River_below) := ⟨rfl, rfl, rfl, by decide +kernel, rfl, by decide +kernel, by decide +kernel⟩
theorem ok_River_below (T : Txt K mg a) : FnG P w K mg base a.cl 2 a.f_River_below a.d_River_below ["self", "point"] River_below_f := by
  have G_River_check_point : FnG P w K mg base a.cl 1 a.f_River_check_point a.d_River_check_point ["self", "point"] River_check_point_f := ok_River_check_point T
  refine fun_okG (N := ["self", "point"]) (k := 1) (g := River_below_b) T.F_River_below sc_River_below rfl fun cdv A outer s H E sa ns hr => ?_
  exact (gs_cons (gs_expr (ge_meth (c := 1) (mth := "check_point") (ge_var 0) T.cl_River T.me_River_check_point G_River_check_point (hr.mono (by decide)) T.B_River_check_point (ga_cons (ge_var 1) ga_nil)))
    (gs_one (gs_ret (ge_ix (hu_of hr) (ge_fld (f := "runs_to") (ge_var 0) (FldOk.one T.cl_River T.na_River_runs_to)) (ge_var 1)))))
end
end L2.Rv

set_option linter.all false
set_option maxRecDepth 100000
set_option maxHeartbeats 4000000
namespace L2.Rv
open PySem PySem.Spec PyProof.Rows
section
variable {P : Program} {w : World} {K : PySem.W.Frag} {mg : Str → Option Value} {base : Heap} {a : Adr}
theorem sc_River_points : FnScope ["self"] ["self"] (defScope s_River_points) := ⟨rfl, rfl, rfl, by decide +kernel, rfl, by decide +kernel, by decide +kernel⟩
theorem ok_River_points (T : Txt K mg a) : FnG P w K mg base a.cl 1 a.f_River_points a.d_River_points ["self"] River_points_f := by
  refine fun_okG (N := ["self"]) (k := 0) (g := River_points_b) T.F_River_points sc_River_points rfl fun cdv A outer s H E sa ns hr => ?_
  exact (gs_one (gs_ret (ge_callB (fun _ => call_lenG) vo_len (ge_fld (f := "runs_to") (ge_var 0) (FldOk.one T.cl_River T.na_River_runs_to)) T.n_len PySem.boot_len)))
end
end L2.Rv

set_option linter.all false
set_option maxRecDepth 100000
set_option maxHeartbeats 4000000
namespace L2.Rv
open PySem PySem.Spec PyProof.Rows
section
variable {P : Program} {w : World} {K : PySem.W.Frag} {mg : Str → Option Value} {base : Heap} {a : Adr}
theorem sc_check_year : FnScope ["river", "year", "inflow"] ["river", "year"] (defScope s_check_year) := ⟨rfl, rfl, rfl, by decide +kernel, rfl, by decide +kernel, by decide +kernel⟩
theorem ok_check_year (T : Txt K mg a) : FnG P w K mg base a.cl 2 a.f_check_year a.d_check_year ["river", "year"] check_year_f := by
  obtain ⟨t_MOST_INFLOW, h_MOST_INFLOW⟩ := T.g_MOST_INFLOW
  have G_River_points : FnG P w K mg base a.cl 1 a.f_River_points a.d_River_points ["self"] River_points_f := ok_River_points T
  refine fun_okG (N := ["river", "year", "inflow"]) (k := 1) (g := check_year_b) T.F_check_year sc_check_year rfl fun cdv A outer s H E sa ns hr => ?_
  exact (gs_cons (gs_if (gt_cmp (fun _ => (op_neD hr.units)) vo_ne (ge_callB (fun _ => call_lenG) vo_len (ge_var 1) T.n_len PySem.boot_len) (ge_meth0 (c := 1) (mth := "points") (ge_var 0) T.cl_River T.me_River_points G_River_points (hr.mono (by decide)) T.B_River_points) (nomark _)) (gs_one (gs_raise (c := 102) PySem.F.excBase_ValueError T.ei_BadYear T.m_BadYear hr.hd (ga_cons ge_str ga_nil))) gs_nil)
    (gs_one (gs_for (one := true) (is := [2]) (gi_list (ge_var 1)) (gt_name sc_check_year.nd) (gs_one (gs_if (GW.gt (gw_or (gt_cmp (fun _ => op_lt) vo_lt (ge_var 2) ge_int (nomark _)) (gw_one .Or (gt_cmp (fun _ => op_gt) vo_gt (ge_var 2) (ge_gint rfl h_MOST_INFLOW ⟨_, rfl⟩) (nomark _))))) (gs_one (gs_raise (c := 102) PySem.F.excBase_ValueError T.ei_BadYear T.m_BadYear hr.hd (ga_cons ge_str ga_nil))) gs_nil)))))
end
end L2.Rv

set_option linter.all false
set_option maxRecDepth 100000
set_option maxHeartbeats 4000000
namespace L2.Rv
open PySem PySem.Spec PyProof.Rows
section
variable {P : Program} {w : World} {K : PySem.W.Frag} {mg : Str → Option Value} {base : Heap} {a : Adr}
theorem sc_flows : FnScope ["river", "year", "taken", "found", "point"] ["river", "year", "taken"] (defScope s_flows) := ⟨rfl, rfl, rfl, by decide +kernel, rfl, by decide +kernel, by decide +kernel⟩
theorem ok_flows (T : Txt K mg a) : FnG P w K mg base a.cl 3 a.f_flows a.d_flows ["river", "year", "taken"] flows_f := by
  have G_River_below : FnG P w K mg base a.cl 2 a.f_River_below a.d_River_below ["self", "point"] River_below_f := ok_River_below T
  have G_River_points : FnG P w K mg base a.cl 1 a.f_River_points a.d_River_points ["self"] River_points_f := ok_River_points T
  have G_check_year : FnG P w K mg base a.cl 2 a.f_check_year a.d_check_year ["river", "year"] check_year_f := ok_check_year T
  refine fun_okG (N := ["river", "year", "taken", "found", "point"]) (k := 2) (g := flows_b) T.F_flows sc_flows rfl fun cdv A outer s H E sa ns hr => ?_
  exact (gs_cons (gs_expr (ge_call G_check_year (hr.mono (by decide)) T.m_check_year T.F_check_year.kp T.B_check_year (ga_cons (ge_var 0) (ga_cons (ge_var 1) ga_nil))))
    (gs_cons (gs_set_comp (n := 3) (x := ["inflow", "gone"]) (one := false) (CompOk.of rfl trivial rfl rfl) (gi_zip (ge_var 1) (ge_var 2) T.n_zip) (fun C s H fp pins => (ge_bin (fun _ => op_sub) vo_sub (ge_var 5) (ge_var 6))) trivial (fun nd C s H fp pins => gt_tup (gtn_cons (n := 5) (gtn_cons (n := 6) gtn_nil nd) nd)) sc_flows.nd)
    (gs_cons (gs_for (one := true) (is := [4]) (gi_down (ge_bin (fun _ => op_sub) vo_sub (ge_meth0 (c := 1) (mth := "points") (ge_var 0) T.cl_River T.me_River_points G_River_points (hr.mono (by decide)) T.B_River_points) ge_int) ge_int T.n_range) (gt_name sc_flows.nd) (gs_one (gs_augIx (hu_of hr) (fun _ => ip_add) (fun _ _ _ => rfl) (fun _ _ _ h => add_ii h) (ge_var 3) (ge_meth (c := 1) (mth := "below") (ge_var 0) T.cl_River T.me_River_below G_River_below (hr.mono (by decide)) T.B_River_below (ga_cons (ge_var 4) ga_nil)) (ge_ix (hu_of hr) (ge_var 3) (ge_var 4)))))
    (gs_one (gs_ret (ge_var 3))))))
end
end L2.Rv

set_option linter.all false
set_option maxRecDepth 100000
set_option maxHeartbeats 4000000
namespace L2.Rv
open PySem PySem.Spec PyProof.Rows
section
variable {P : Program} {w : World} {K : PySem.W.Frag} {mg : Str → Option Value} {base : Heap} {a : Adr}
theorem sc_law : FnScope ["script", "size", "below", "year", "taken", "k", "cell", "due", "river", "handed", "found"] ["script"] (defScope s_law) := ⟨rfl, rfl, rfl, by decide +kernel, rfl, by decide +kernel, by decide +kernel⟩
theorem ok_law (T : Txt K mg a) : FnG P w K mg base a.cl 4 a.f_law a.d_law ["script"] law_f := by
  have G_River___init__ : FnG P w K mg base a.cl 2 a.f_River___init__ a.d_River___init__ ["self", "below"] River___init___f := ok_River___init__ T
  have G_law_below : FnG P w K mg base a.cl 2 a.f_law_below a.d_law_below ["script", "start", "size"] law_below_f := ok_law_below T
  have G_law_cell_at : FnG P w K mg base a.cl 1 a.f_law_cell_at a.d_law_cell_at ["script", "k"] law_cell_at_f := ok_law_cell_at T
  have G_law_flows : FnG P w K mg base a.cl 2 a.f_law_flows a.d_law_flows ["below", "year", "taken"] law_flows_f := ok_law_flows T
  have G_law_same : FnG P w K mg base a.cl 2 a.f_law_same a.d_law_same ["found", "due"] law_same_f := ok_law_same T
  have G_law_year : FnG P w K mg base a.cl 2 a.f_law_year a.d_law_year ["script", "start", "size"] law_year_f := ok_law_year T
  have G_flows : FnG P w K mg base a.cl 3 a.f_flows a.d_flows ["river", "year", "taken"] flows_f := ok_flows T
  refine fun_okG (N := ["script", "size", "below", "year", "taken", "k", "cell", "due", "river", "handed", "found"]) (k := 3) (g := law_b) T.F_law sc_law rfl fun cdv A outer s H E sa ns hr => ?_
  exact (gs_cons (gs_set (n := 1) (ge_bin (fun _ => op_addG) vo_add ge_int (ge_bin (fun _ => op_mod) vo_mod (ge_call G_law_cell_at (hr.mono (by decide)) T.m_law_cell_at T.F_law_cell_at.kp T.B_law_cell_at (ga_cons (ge_var 0) (ga_cons ge_int ga_nil))) ge_int)) sc_law.nd)
    (gs_cons (gs_if (gt_cmp (fun _ => (op_eqD hr.units)) vo_eq (ge_bin (fun _ => op_mod) vo_mod (ge_bin (fun _ => op_fdiv) vo_div (ge_call G_law_cell_at (hr.mono (by decide)) T.m_law_cell_at T.F_law_cell_at.kp T.B_law_cell_at (ga_cons (ge_var 0) (ga_cons ge_int ga_nil))) ge_int) ge_int) ge_int (nomark _)) (gs_one (gs_set (n := 1) ge_int sc_law.nd)) gs_nil)
    (gs_cons (gs_set (n := 2) (ge_call G_law_below (hr.mono (by decide)) T.m_law_below T.F_law_below.kp T.B_law_below (ga_cons (ge_var 0) (ga_cons ge_int (ga_cons (ge_var 1) ga_nil)))) sc_law.nd)
    (gs_cons (gs_set (n := 3) (ge_call G_law_year (hr.mono (by decide)) T.m_law_year T.F_law_year.kp T.B_law_year (ga_cons (ge_var 0) (ga_cons ge_int (ga_cons (ge_var 1) ga_nil)))) sc_law.nd)
    (gs_cons (gs_set (n := 4) (ge_lst ga_nil) sc_law.nd)
    (gs_cons (gs_for (one := true) (is := [5]) (gi_range1 (ge_var 1) T.n_range) (gt_name sc_law.nd) (gs_cons (gs_set (n := 6) (ge_call G_law_cell_at (hr.mono (by decide)) T.m_law_cell_at T.F_law_cell_at.kp T.B_law_cell_at (ga_cons (ge_var 0) (ga_cons (ge_bin (fun _ => op_addG) vo_add ge_int (ge_var 5)) ga_nil))) sc_law.nd)
    (gs_one (gs_expr (ge_append (ge_var 4) (ge_ix (hu_of hr) (ge_lst (ga_cons (ge_bin (fun _ => op_mod) vo_mod (ge_bin (fun _ => op_fdiv) vo_div (ge_var 6) ge_int) ge_int) (ga_cons (ge_bin (fun _ => op_mod) vo_mod (ge_bin (fun _ => op_fdiv) vo_div (ge_var 6) ge_int) ge_int) ga_nil))) (ge_callT (fun _ => call_int1) vo_intOf (ge_cmp (fun _ => (op_eqD hr.units)) vo_eq (ge_bin (fun _ => op_mod) vo_mod (ge_var 6) ge_int) ge_int (nomark _)) T.n_int PyProof.Rows.Boot.«int»)))))))
    (gs_cons (gs_set (n := 7) (ge_call G_law_flows (hr.mono (by decide)) T.m_law_flows T.F_law_flows.kp T.B_law_flows (ga_cons (ge_var 2) (ga_cons (ge_var 3) (ga_cons (ge_var 4) ga_nil)))) sc_law.nd)
    (gs_cons (gs_set (n := 8) (ge_make (c := 1) T.mk_River G_River___init__ (hr.mono (by decide)) T.m_River T.B_River___init__ (ga_cons (ge_var 2) ga_nil)) sc_law.nd)
    (gs_cons (gs_set (n := 9) (ge_lst (ga_cons (ge_callT (fun _ => call_list_of) vo_list (ge_var 3) T.n_list PyProof.Rows.Boot.«list») (ga_cons (ge_callT (fun _ => call_list_of) vo_list (ge_var 4) T.n_list PyProof.Rows.Boot.«list») ga_nil))) sc_law.nd)
    (gs_cons (gs_set (n := 10) (ge_call G_flows (hr.mono (by decide)) T.m_flows T.F_flows.kp T.B_flows (ga_cons (ge_var 8) (ga_cons (ge_ix (hu_of hr) (ge_var 9) ge_int) (ga_cons (ge_ix (hu_of hr) (ge_var 9) ge_int) ga_nil)))) sc_law.nd)
    (gs_cons (gs_if (GW.gt (gw_or (gt_not (gt_val (ge_call G_law_same (hr.mono (by decide)) T.m_law_same T.F_law_same.kp T.B_law_same (ga_cons (ge_var 10) (ga_cons (ge_var 7) ga_nil))))) (gw_one .Or (gt_cmp (fun _ => (op_neD hr.units)) vo_ne (ge_var 9) (ge_lst (ga_cons (ge_var 3) (ga_cons (ge_var 4) ga_nil))) (nomark _))))) (gs_one (gs_ret ge_bl)) gs_nil)
    (gs_cons (gs_setIx (ge_var 10) ge_int ge_int (hg := fun E t t' h1 h2 => pg_sub h1 h2 (set_all (hu_of hr))))
    (gs_one (gs_ret (ge_call G_law_same (hr.mono (by decide)) T.m_law_same T.F_law_same.kp T.B_law_same (ga_cons (ge_call G_flows (hr.mono (by decide)) T.m_flows T.F_flows.kp T.B_flows (ga_cons (ge_var 8) (ga_cons (ge_callT (fun _ => call_list_of) vo_list (ge_var 3) T.n_list PyProof.Rows.Boot.«list») (ga_cons (ge_callT (fun _ => call_list_of) vo_list (ge_var 4) T.n_list PyProof.Rows.Boot.«list») ga_nil)))) (ga_cons (ge_var 7) ga_nil)))))))))))))))))
end
end L2.Rv

set_option linter.all false
set_option maxRecDepth 100000
set_option maxHeartbeats 4000000
namespace L2.Rv
open PySem PySem.Spec PyProof.Rows
/-- the law: a list of at most 63 ints is handed in, True comes out -/
def spLaw (K : PySem.W.Frag) : Sp := fun vs H Q _ => ∃ (sa : Addr) (ns : List Int), vs = [.ref sa] ∧ Only H ∧ SqL K H sa (ns.map V.int) ∧ ns.length ≤ 63 ∧ ∀ H', Q (.bl true) H'
theorem all_mk {l : PySem.W.OpenLaw} {w : World} {K : PySem.W.Frag} {h : Heap} {mg : Str → Option Value} {fa : Addr} (X : K.In h) (G : h.Ns mainGlobals mg) (hfa : mg "law" = some (.ref fa))
    {c_River : Addr} {c_DueError : Addr} {c_BadRiver : Addr} {c_BadYear : Addr} {c_NoPoint : Addr} {t_MOST_INFLOW : Tok} {t_MOST_POINTS : Tok} {f_check_below : Addr} {od_check_below an_check_below : Option Addr} {sl_check_below : Array (Option Value)} {oc_check_below kV_check_below dc_check_below pm_check_below cd_check_below ct_check_below : Value} {f_River___init__ : Addr} {od_River___init__ an_River___init__ : Option Addr} {sl_River___init__ : Array (Option Value)} {oc_River___init__ kV_River___init__ dc_River___init__ pm_River___init__ cd_River___init__ ct_River___init__ : Value} {f_law_cell_at : Addr} {od_law_cell_at an_law_cell_at : Option Addr} {sl_law_cell_at : Array (Option Value)} {oc_law_cell_at kV_law_cell_at dc_law_cell_at pm_law_cell_at cd_law_cell_at ct_law_cell_at : Value} {f_law_below : Addr} {od_law_below an_law_below : Option Addr} {sl_law_below : Array (Option Value)} {oc_law_below kV_law_below dc_law_below pm_law_below cd_law_below ct_law_below : Value} {f_law_way : Addr} {od_law_way an_law_way : Option Addr} {sl_law_way : Array (Option Value)} {oc_law_way kV_law_way dc_law_way pm_law_way cd_law_way ct_law_way : Value} {f_law_flows : Addr} {od_law_flows an_law_flows : Option Addr} {sl_law_flows : Array (Option Value)} {oc_law_flows kV_law_flows dc_law_flows pm_law_flows cd_law_flows ct_law_flows : Value} {f_law_whole : Addr} {od_law_whole an_law_whole : Option Addr} {sl_law_whole : Array (Option Value)} {oc_law_whole kV_law_whole dc_law_whole pm_law_whole cd_law_whole ct_law_whole : Value} {f_law_same : Addr} {od_law_same an_law_same : Option Addr} {sl_law_same : Array (Option Value)} {oc_law_same kV_law_same dc_law_same pm_law_same cd_law_same ct_law_same : Value} {f_law_year : Addr} {od_law_year an_law_year : Option Addr} {sl_law_year : Array (Option Value)} {oc_law_year kV_law_year dc_law_year pm_law_year cd_law_year ct_law_year : Value} {f_River_check_point : Addr} {od_River_check_point an_River_check_point : Option Addr} {sl_River_check_point : Array (Option Value)} {oc_River_check_point kV_River_check_point dc_River_check_point pm_River_check_point cd_River_check_point ct_River_check_point : Value} {f_River_below : Addr} {od_River_below an_River_below : Option Addr} {sl_River_below : Array (Option Value)} {oc_River_below kV_River_below dc_River_below pm_River_below cd_River_below ct_River_below : Value} {f_River_points : Addr} {od_River_points an_River_points : Option Addr} {sl_River_points : Array (Option Value)} {oc_River_points kV_River_points dc_River_points pm_River_points cd_River_points ct_River_points : Value} {f_check_year : Addr} {od_check_year an_check_year : Option Addr} {sl_check_year : Array (Option Value)} {oc_check_year kV_check_year dc_check_year pm_check_year cd_check_year ct_check_year : Value} {f_flows : Addr} {od_flows an_flows : Option Addr} {sl_flows : Array (Option Value)} {oc_flows kV_flows dc_flows pm_flows cd_flows ct_flows : Value} {f_law : Addr} {od_law an_law : Option Addr} {sl_law : Array (Option Value)} {oc_law kV_law dc_law pm_law cd_law ct_law : Value}
    (x_n_bool : PySem.W.nsIn K mainGlobals "bool" = some none)
    (x_n_int : PySem.W.nsIn K mainGlobals "int" = some none)
    (x_n_isinstance : PySem.W.nsIn K mainGlobals "isinstance" = some none)
    (x_n_len : PySem.W.nsIn K mainGlobals "len" = some none)
    (x_n_list : PySem.W.nsIn K mainGlobals "list" = some none)
    (x_n_range : PySem.W.nsIn K mainGlobals "range" = some none)
    (x_n_zip : PySem.W.nsIn K mainGlobals "zip" = some none)
    (x_a_River : PySem.W.nsIn K mainGlobals "River" = some (some (.ref c_River)))
    (x_a_DueError : PySem.W.nsIn K mainGlobals "DueError" = some (some (.ref c_DueError)))
    (x_a_BadRiver : PySem.W.nsIn K mainGlobals "BadRiver" = some (some (.ref c_BadRiver)))
    (x_a_BadYear : PySem.W.nsIn K mainGlobals "BadYear" = some (some (.ref c_BadYear)))
    (x_a_NoPoint : PySem.W.nsIn K mainGlobals "NoPoint" = some (some (.ref c_NoPoint)))
    (x_g_MOST_INFLOW : PySem.W.nsIn K mainGlobals "MOST_INFLOW" = some (some (.int 1000000 t_MOST_INFLOW)))
    (x_g_MOST_POINTS : PySem.W.nsIn K mainGlobals "MOST_POINTS" = some (some (.int 40 t_MOST_POINTS)))
    (x_a_check_below : PySem.W.nsIn K mainGlobals "check_below" = some (some (.ref f_check_below)))
    (x_l_check_below : K.lookup f_check_below = some ⟨oc_check_below, od_check_below, .func (PySem.W.fnOf "check_below" "check_below" (defArgs s_check_below) (defBody s_check_below) (defScope s_check_below) .none kV_check_below dc_check_below pm_check_below an_check_below cd_check_below ct_check_below), sl_check_below⟩)
    (x_c_check_below : PySem.W.codeIn K cd_check_below "check_below" = true)
    (x_k_check_below : PySem.W.keepIn K (.ref f_check_below) = true)
    (x_a_River___init__ : PySem.W.findIn K (.ref c_River) "__init__" = some (some (.ref f_River___init__)))
    (x_i_River___init__ : PySem.W.isFn K (.ref f_River___init__) = true)
    (x_l_River___init__ : K.lookup f_River___init__ = some ⟨oc_River___init__, od_River___init__, .func (PySem.W.fnOf "__init__" "River.__init__" (defArgs s_River___init__) (defBody s_River___init__) (defScope s_River___init__) .none kV_River___init__ dc_River___init__ pm_River___init__ an_River___init__ cd_River___init__ ct_River___init__), sl_River___init__⟩)
    (x_c_River___init__ : PySem.W.codeIn K cd_River___init__ "River.__init__" = true)
    (x_k_River___init__ : PySem.W.keepIn K (.ref f_River___init__) = true)
    (x_a_law_cell_at : PySem.W.nsIn K mainGlobals "_law_cell_at" = some (some (.ref f_law_cell_at)))
    (x_l_law_cell_at : K.lookup f_law_cell_at = some ⟨oc_law_cell_at, od_law_cell_at, .func (PySem.W.fnOf "_law_cell_at" "_law_cell_at" (defArgs s_law_cell_at) (defBody s_law_cell_at) (defScope s_law_cell_at) .none kV_law_cell_at dc_law_cell_at pm_law_cell_at an_law_cell_at cd_law_cell_at ct_law_cell_at), sl_law_cell_at⟩)
    (x_c_law_cell_at : PySem.W.codeIn K cd_law_cell_at "_law_cell_at" = true)
    (x_k_law_cell_at : PySem.W.keepIn K (.ref f_law_cell_at) = true)
    (x_a_law_below : PySem.W.nsIn K mainGlobals "_law_below" = some (some (.ref f_law_below)))
    (x_l_law_below : K.lookup f_law_below = some ⟨oc_law_below, od_law_below, .func (PySem.W.fnOf "_law_below" "_law_below" (defArgs s_law_below) (defBody s_law_below) (defScope s_law_below) .none kV_law_below dc_law_below pm_law_below an_law_below cd_law_below ct_law_below), sl_law_below⟩)
    (x_c_law_below : PySem.W.codeIn K cd_law_below "_law_below" = true)
    (x_k_law_below : PySem.W.keepIn K (.ref f_law_below) = true)
    (x_a_law_way : PySem.W.nsIn K mainGlobals "_law_way" = some (some (.ref f_law_way)))
    (x_l_law_way : K.lookup f_law_way = some ⟨oc_law_way, od_law_way, .func (PySem.W.fnOf "_law_way" "_law_way" (defArgs s_law_way) (defBody s_law_way) (defScope s_law_way) .none kV_law_way dc_law_way pm_law_way an_law_way cd_law_way ct_law_way), sl_law_way⟩)
    (x_c_law_way : PySem.W.codeIn K cd_law_way "_law_way" = true)
    (x_k_law_way : PySem.W.keepIn K (.ref f_law_way) = true)
    (x_a_law_flows : PySem.W.nsIn K mainGlobals "_law_flows" = some (some (.ref f_law_flows)))
    (x_l_law_flows : K.lookup f_law_flows = some ⟨oc_law_flows, od_law_flows, .func (PySem.W.fnOf "_law_flows" "_law_flows" (defArgs s_law_flows) (defBody s_law_flows) (defScope s_law_flows) .none kV_law_flows dc_law_flows pm_law_flows an_law_flows cd_law_flows ct_law_flows), sl_law_flows⟩)
    (x_c_law_flows : PySem.W.codeIn K cd_law_flows "_law_flows" = true)
    (x_k_law_flows : PySem.W.keepIn K (.ref f_law_flows) = true)
    (x_a_law_whole : PySem.W.nsIn K mainGlobals "_law_whole" = some (some (.ref f_law_whole)))
    (x_l_law_whole : K.lookup f_law_whole = some ⟨oc_law_whole, od_law_whole, .func (PySem.W.fnOf "_law_whole" "_law_whole" (defArgs s_law_whole) (defBody s_law_whole) (defScope s_law_whole) .none kV_law_whole dc_law_whole pm_law_whole an_law_whole cd_law_whole ct_law_whole), sl_law_whole⟩)
    (x_c_law_whole : PySem.W.codeIn K cd_law_whole "_law_whole" = true)
    (x_k_law_whole : PySem.W.keepIn K (.ref f_law_whole) = true)
    (x_a_law_same : PySem.W.nsIn K mainGlobals "_law_same" = some (some (.ref f_law_same)))
    (x_l_law_same : K.lookup f_law_same = some ⟨oc_law_same, od_law_same, .func (PySem.W.fnOf "_law_same" "_law_same" (defArgs s_law_same) (defBody s_law_same) (defScope s_law_same) .none kV_law_same dc_law_same pm_law_same an_law_same cd_law_same ct_law_same), sl_law_same⟩)
    (x_c_law_same : PySem.W.codeIn K cd_law_same "_law_same" = true)
    (x_k_law_same : PySem.W.keepIn K (.ref f_law_same) = true)
    (x_a_law_year : PySem.W.nsIn K mainGlobals "_law_year" = some (some (.ref f_law_year)))
    (x_l_law_year : K.lookup f_law_year = some ⟨oc_law_year, od_law_year, .func (PySem.W.fnOf "_law_year" "_law_year" (defArgs s_law_year) (defBody s_law_year) (defScope s_law_year) .none kV_law_year dc_law_year pm_law_year an_law_year cd_law_year ct_law_year), sl_law_year⟩)
    (x_c_law_year : PySem.W.codeIn K cd_law_year "_law_year" = true)
    (x_k_law_year : PySem.W.keepIn K (.ref f_law_year) = true)
    (x_a_River_check_point : PySem.W.findIn K (.ref c_River) "check_point" = some (some (.ref f_River_check_point)))
    (x_i_River_check_point : PySem.W.isFn K (.ref f_River_check_point) = true)
    (x_l_River_check_point : K.lookup f_River_check_point = some ⟨oc_River_check_point, od_River_check_point, .func (PySem.W.fnOf "check_point" "River.check_point" (defArgs s_River_check_point) (defBody s_River_check_point) (defScope s_River_check_point) .none kV_River_check_point dc_River_check_point pm_River_check_point an_River_check_point cd_River_check_point ct_River_check_point), sl_River_check_point⟩)
    (x_c_River_check_point : PySem.W.codeIn K cd_River_check_point "River.check_point" = true)
    (x_k_River_check_point : PySem.W.keepIn K (.ref f_River_check_point) = true)
    (x_a_River_below : PySem.W.findIn K (.ref c_River) "below" = some (some (.ref f_River_below)))
    (x_i_River_below : PySem.W.isFn K (.ref f_River_below) = true)
    (x_l_River_below : K.lookup f_River_below = some ⟨oc_River_below, od_River_below, .func (PySem.W.fnOf "below" "River.below" (defArgs s_River_below) (defBody s_River_below) (defScope s_River_below) .none kV_River_below dc_River_below pm_River_below an_River_below cd_River_below ct_River_below), sl_River_below⟩)
    (x_c_River_below : PySem.W.codeIn K cd_River_below "River.below" = true)
    (x_k_River_below : PySem.W.keepIn K (.ref f_River_below) = true)
    (x_a_River_points : PySem.W.findIn K (.ref c_River) "points" = some (some (.ref f_River_points)))
    (x_i_River_points : PySem.W.isFn K (.ref f_River_points) = true)
    (x_l_River_points : K.lookup f_River_points = some ⟨oc_River_points, od_River_points, .func (PySem.W.fnOf "points" "River.points" (defArgs s_River_points) (defBody s_River_points) (defScope s_River_points) .none kV_River_points dc_River_points pm_River_points an_River_points cd_River_points ct_River_points), sl_River_points⟩)
    (x_c_River_points : PySem.W.codeIn K cd_River_points "River.points" = true)
    (x_k_River_points : PySem.W.keepIn K (.ref f_River_points) = true)
    (x_a_check_year : PySem.W.nsIn K mainGlobals "check_year" = some (some (.ref f_check_year)))
    (x_l_check_year : K.lookup f_check_year = some ⟨oc_check_year, od_check_year, .func (PySem.W.fnOf "check_year" "check_year" (defArgs s_check_year) (defBody s_check_year) (defScope s_check_year) .none kV_check_year dc_check_year pm_check_year an_check_year cd_check_year ct_check_year), sl_check_year⟩)
    (x_c_check_year : PySem.W.codeIn K cd_check_year "check_year" = true)
    (x_k_check_year : PySem.W.keepIn K (.ref f_check_year) = true)
    (x_a_flows : PySem.W.nsIn K mainGlobals "flows" = some (some (.ref f_flows)))
    (x_l_flows : K.lookup f_flows = some ⟨oc_flows, od_flows, .func (PySem.W.fnOf "flows" "flows" (defArgs s_flows) (defBody s_flows) (defScope s_flows) .none kV_flows dc_flows pm_flows an_flows cd_flows ct_flows), sl_flows⟩)
    (x_c_flows : PySem.W.codeIn K cd_flows "flows" = true)
    (x_k_flows : PySem.W.keepIn K (.ref f_flows) = true)
    (x_a_law : PySem.W.nsIn K mainGlobals "law" = some (some (.ref f_law)))
    (x_l_law : K.lookup f_law = some ⟨oc_law, od_law, .func (PySem.W.fnOf "law" "law" (defArgs s_law) (defBody s_law) (defScope s_law) .none kV_law dc_law pm_law an_law cd_law ct_law), sl_law⟩)
    (x_c_law : PySem.W.codeIn K cd_law "law" = true)
    (x_k_law : PySem.W.keepIn K (.ref f_law) = true)
    (x_pg_River : PySem.W.plainGet K c_River Str.empty = true)
    (x_hd_River : PySem.W.hasDictIn K c_River = true)
    (x_po_River : PySem.W.plainOver K c_River = true)
    (x_sa_River : PySem.W.findIn K (.ref c_River) "__setattr__" = some (some (.builtin "object.__setattr__")))
    (x_mk_River : PySem.W.makesIn K c_River = true)
    (x_kc_River : PySem.W.keepIn K (.ref c_River) = true)
    (x_na_River_runs_to : PySem.W.findIn K (.ref c_River) "runs_to" = some none)
    (x_kt_bool_NoneType : PySem.W.kitOne K (.type "NoneType") (.type "bool") = some false)
    (x_kt_bool_bool : PySem.W.kitOne K (.type "bool") (.type "bool") = some true)
    (x_kt_bool_int : PySem.W.kitOne K (.type "int") (.type "bool") = some false)
    (x_kt_bool_str : PySem.W.kitOne K (.type "str") (.type "bool") = some false)
    (x_kt_bool_list : PySem.W.kitOne K (.type "list") (.type "bool") = some false)
    (x_kt_bool_tuple : PySem.W.kitOne K (.type "tuple") (.type "bool") = some false)
    (x_kt_int_NoneType : PySem.W.kitOne K (.type "NoneType") (.type "int") = some false)
    (x_kt_int_bool : PySem.W.kitOne K (.type "bool") (.type "int") = some true)
    (x_kt_int_int : PySem.W.kitOne K (.type "int") (.type "int") = some true)
    (x_kt_int_str : PySem.W.kitOne K (.type "str") (.type "int") = some false)
    (x_kt_int_list : PySem.W.kitOne K (.type "list") (.type "int") = some false)
    (x_kt_int_tuple : PySem.W.kitOne K (.type "tuple") (.type "int") = some false)
    (x_kt_list_NoneType : PySem.W.kitOne K (.type "NoneType") (.type "list") = some false)
    (x_kt_list_bool : PySem.W.kitOne K (.type "bool") (.type "list") = some false)
    (x_kt_list_int : PySem.W.kitOne K (.type "int") (.type "list") = some false)
    (x_kt_list_str : PySem.W.kitOne K (.type "str") (.type "list") = some false)
    (x_kt_list_list : PySem.W.kitOne K (.type "list") (.type "list") = some true)
    (x_kt_list_tuple : PySem.W.kitOne K (.type "tuple") (.type "list") = some false)
    (x_sp_cls : PySem.W.specialIn K (.builtin "object.__class__") "__get__" = some (some (.builtin "getset_descriptor.__get__")))
    (x_tk_cls : PySem.W.takesIn K (.builtin "object.__class__") = some true)
    (x_e1_DueError : PySem.W.findIn K (.ref c_DueError) "__getattribute__" = some (some (.builtin "BaseException.__getattribute__")))
    (x_e2_DueError : PySem.W.findIn K (.ref c_DueError) "__getattr__" = some none)
    (x_e3_DueError : PySem.W.subIn K (.ref c_DueError) (.type "BaseException") = some true)
    (x_e4_DueError : PySem.W.findIn K (.ref c_DueError) "__class__" = some (some (.builtin "object.__class__")))
    (x_e5_DueError : PySem.W.mroIn K c_DueError (.type "object") = some true)
    (x_e6_DueError : PySem.W.isClsIn K c_DueError = true)
    (x_e7_DueError : PySem.W.typeIn K (.ref c_DueError) = some (.type "type"))
    (x_e1_BadRiver : PySem.W.findIn K (.ref c_BadRiver) "__getattribute__" = some (some (.builtin "BaseException.__getattribute__")))
    (x_e2_BadRiver : PySem.W.findIn K (.ref c_BadRiver) "__getattr__" = some none)
    (x_e3_BadRiver : PySem.W.subIn K (.ref c_BadRiver) (.type "BaseException") = some true)
    (x_e4_BadRiver : PySem.W.findIn K (.ref c_BadRiver) "__class__" = some (some (.builtin "object.__class__")))
    (x_e5_BadRiver : PySem.W.mroIn K c_BadRiver (.type "object") = some true)
    (x_e6_BadRiver : PySem.W.isClsIn K c_BadRiver = true)
    (x_e7_BadRiver : PySem.W.typeIn K (.ref c_BadRiver) = some (.type "type"))
    (x_e1_BadYear : PySem.W.findIn K (.ref c_BadYear) "__getattribute__" = some (some (.builtin "BaseException.__getattribute__")))
    (x_e2_BadYear : PySem.W.findIn K (.ref c_BadYear) "__getattr__" = some none)
    (x_e3_BadYear : PySem.W.subIn K (.ref c_BadYear) (.type "BaseException") = some true)
    (x_e4_BadYear : PySem.W.findIn K (.ref c_BadYear) "__class__" = some (some (.builtin "object.__class__")))
    (x_e5_BadYear : PySem.W.mroIn K c_BadYear (.type "object") = some true)
    (x_e6_BadYear : PySem.W.isClsIn K c_BadYear = true)
    (x_e7_BadYear : PySem.W.typeIn K (.ref c_BadYear) = some (.type "type"))
    (x_e1_NoPoint : PySem.W.findIn K (.ref c_NoPoint) "__getattribute__" = some (some (.builtin "BaseException.__getattribute__")))
    (x_e2_NoPoint : PySem.W.findIn K (.ref c_NoPoint) "__getattr__" = some none)
    (x_e3_NoPoint : PySem.W.subIn K (.ref c_NoPoint) (.type "BaseException") = some true)
    (x_e4_NoPoint : PySem.W.findIn K (.ref c_NoPoint) "__class__" = some (some (.builtin "object.__class__")))
    (x_e5_NoPoint : PySem.W.mroIn K c_NoPoint (.type "object") = some true)
    (x_e6_NoPoint : PySem.W.isClsIn K c_NoPoint = true)
    (x_e7_NoPoint : PySem.W.typeIn K (.ref c_NoPoint) = some (.type "type"))
    (x_ei_BadRiver : PySem.W.excIn K c_BadRiver bmVE newVE = true)
    (x_ei_BadYear : PySem.W.excIn K c_BadYear bmVE newVE = true)
    (x_ei_NoPoint : PySem.W.excIn K c_NoPoint bmVE newVE = true)
    (hold : ∀ ns : List Int, ns.length ≤ 63 → ∃ h', law_f [.scr ns] [] = .ok (.bl true) h') :
    ∃ fd : FuncData, (∀ (s : Shared) (v : Value), BindsTo s fd ⟨[v], []⟩ [("script", v)]) ∧ ∀ base : Heap, K.In base → base.Ns mainGlobals mg → FnOk l.prog w K mg base (CXe l.prog w) 4 fa fd ["script"] (spLaw K) := by
  obtain rfl : f_law = fa := (Value.ref.inj (Option.some.inj (hfa.symm.trans (PySem.W.mg_of X G x_a_law)))).symm
  have F_check_below := fun_mk (st := s_check_below) x_l_check_below x_c_check_below x_k_check_below
  have F_River___init__ := fun_mk (st := s_River___init__) x_l_River___init__ x_c_River___init__ x_k_River___init__
  have F_law_cell_at := fun_mk (st := s_law_cell_at) x_l_law_cell_at x_c_law_cell_at x_k_law_cell_at
  have F_law_below := fun_mk (st := s_law_below) x_l_law_below x_c_law_below x_k_law_below
  have F_law_way := fun_mk (st := s_law_way) x_l_law_way x_c_law_way x_k_law_way
  have F_law_flows := fun_mk (st := s_law_flows) x_l_law_flows x_c_law_flows x_k_law_flows
  have F_law_whole := fun_mk (st := s_law_whole) x_l_law_whole x_c_law_whole x_k_law_whole
  have F_law_same := fun_mk (st := s_law_same) x_l_law_same x_c_law_same x_k_law_same
  have F_law_year := fun_mk (st := s_law_year) x_l_law_year x_c_law_year x_k_law_year
  have F_River_check_point := fun_mk (st := s_River_check_point) x_l_River_check_point x_c_River_check_point x_k_River_check_point
  have F_River_below := fun_mk (st := s_River_below) x_l_River_below x_c_River_below x_k_River_below
  have F_River_points := fun_mk (st := s_River_points) x_l_River_points x_c_River_points x_k_River_points
  have F_check_year := fun_mk (st := s_check_year) x_l_check_year x_c_check_year x_k_check_year
  have F_flows := fun_mk (st := s_flows) x_l_flows x_c_flows x_k_flows
  have F_law := fun_mk (st := s_law) x_l_law x_c_law x_k_law
  have ec_DueError : ExcCls K c_DueError := ⟨x_e1_DueError, x_e2_DueError, x_e3_DueError, findObj_dataN x_e6_DueError x_e4_DueError x_sp_cls x_tk_cls, x_e5_DueError, x_e6_DueError, x_e7_DueError⟩
  have ec_BadRiver : ExcCls K c_BadRiver := ⟨x_e1_BadRiver, x_e2_BadRiver, x_e3_BadRiver, findObj_dataN x_e6_BadRiver x_e4_BadRiver x_sp_cls x_tk_cls, x_e5_BadRiver, x_e6_BadRiver, x_e7_BadRiver⟩
  have ec_BadYear : ExcCls K c_BadYear := ⟨x_e1_BadYear, x_e2_BadYear, x_e3_BadYear, findObj_dataN x_e6_BadYear x_e4_BadYear x_sp_cls x_tk_cls, x_e5_BadYear, x_e6_BadYear, x_e7_BadYear⟩
  have ec_NoPoint : ExcCls K c_NoPoint := ⟨x_e1_NoPoint, x_e2_NoPoint, x_e3_NoPoint, findObj_dataN x_e6_NoPoint x_e4_NoPoint x_sp_cls x_tk_cls, x_e5_NoPoint, x_e6_NoPoint, x_e7_NoPoint⟩
  have T : Txt K mg ⟨c_River, c_DueError, c_BadRiver, c_BadYear, c_NoPoint, f_check_below, PySem.W.fnOf "check_below" "check_below" (defArgs s_check_below) (defBody s_check_below) (defScope s_check_below) .none kV_check_below dc_check_below pm_check_below an_check_below cd_check_below ct_check_below, f_River___init__, PySem.W.fnOf "__init__" "River.__init__" (defArgs s_River___init__) (defBody s_River___init__) (defScope s_River___init__) .none kV_River___init__ dc_River___init__ pm_River___init__ an_River___init__ cd_River___init__ ct_River___init__, f_law_cell_at, PySem.W.fnOf "_law_cell_at" "_law_cell_at" (defArgs s_law_cell_at) (defBody s_law_cell_at) (defScope s_law_cell_at) .none kV_law_cell_at dc_law_cell_at pm_law_cell_at an_law_cell_at cd_law_cell_at ct_law_cell_at, f_law_below, PySem.W.fnOf "_law_below" "_law_below" (defArgs s_law_below) (defBody s_law_below) (defScope s_law_below) .none kV_law_below dc_law_below pm_law_below an_law_below cd_law_below ct_law_below, f_law_way, PySem.W.fnOf "_law_way" "_law_way" (defArgs s_law_way) (defBody s_law_way) (defScope s_law_way) .none kV_law_way dc_law_way pm_law_way an_law_way cd_law_way ct_law_way, f_law_flows, PySem.W.fnOf "_law_flows" "_law_flows" (defArgs s_law_flows) (defBody s_law_flows) (defScope s_law_flows) .none kV_law_flows dc_law_flows pm_law_flows an_law_flows cd_law_flows ct_law_flows, f_law_whole, PySem.W.fnOf "_law_whole" "_law_whole" (defArgs s_law_whole) (defBody s_law_whole) (defScope s_law_whole) .none kV_law_whole dc_law_whole pm_law_whole an_law_whole cd_law_whole ct_law_whole, f_law_same, PySem.W.fnOf "_law_same" "_law_same" (defArgs s_law_same) (defBody s_law_same) (defScope s_law_same) .none kV_law_same dc_law_same pm_law_same an_law_same cd_law_same ct_law_same, f_law_year, PySem.W.fnOf "_law_year" "_law_year" (defArgs s_law_year) (defBody s_law_year) (defScope s_law_year) .none kV_law_year dc_law_year pm_law_year an_law_year cd_law_year ct_law_year, f_River_check_point, PySem.W.fnOf "check_point" "River.check_point" (defArgs s_River_check_point) (defBody s_River_check_point) (defScope s_River_check_point) .none kV_River_check_point dc_River_check_point pm_River_check_point an_River_check_point cd_River_check_point ct_River_check_point, f_River_below, PySem.W.fnOf "below" "River.below" (defArgs s_River_below) (defBody s_River_below) (defScope s_River_below) .none kV_River_below dc_River_below pm_River_below an_River_below cd_River_below ct_River_below, f_River_points, PySem.W.fnOf "points" "River.points" (defArgs s_River_points) (defBody s_River_points) (defScope s_River_points) .none kV_River_points dc_River_points pm_River_points an_River_points cd_River_points ct_River_points, f_check_year, PySem.W.fnOf "check_year" "check_year" (defArgs s_check_year) (defBody s_check_year) (defScope s_check_year) .none kV_check_year dc_check_year pm_check_year an_check_year cd_check_year ct_check_year, f_flows, PySem.W.fnOf "flows" "flows" (defArgs s_flows) (defBody s_flows) (defScope s_flows) .none kV_flows dc_flows pm_flows an_flows cd_flows ct_flows, f_law, PySem.W.fnOf "law" "law" (defArgs s_law) (defBody s_law) (defScope s_law) .none kV_law dc_law pm_law an_law cd_law ct_law⟩ := {
    n_bool := PySem.W.mg_none_of X G x_n_bool
    n_int := PySem.W.mg_none_of X G x_n_int
    n_isinstance := PySem.W.mg_none_of X G x_n_isinstance
    n_len := PySem.W.mg_none_of X G x_n_len
    n_list := PySem.W.mg_none_of X G x_n_list
    n_range := PySem.W.mg_none_of X G x_n_range
    n_zip := PySem.W.mg_none_of X G x_n_zip
    kt_bool := .plain (fun al cs z => nomatch z) (by simp only [List.all_cons, List.all_nil, x_kt_bool_NoneType, x_kt_bool_bool, x_kt_bool_int, x_kt_bool_str, x_kt_bool_list, x_kt_bool_tuple]; rfl)
    kt_int := .plain (fun al cs z => nomatch z) (by simp only [List.all_cons, List.all_nil, x_kt_int_NoneType, x_kt_int_bool, x_kt_int_int, x_kt_int_str, x_kt_int_list, x_kt_int_tuple]; rfl)
    kt_list := .plain (fun al cs z => nomatch z) (by simp only [List.all_cons, List.all_nil, x_kt_list_NoneType, x_kt_list_bool, x_kt_list_int, x_kt_list_str, x_kt_list_list, x_kt_list_tuple]; rfl)
    g_MOST_INFLOW := ⟨_, PySem.W.mg_of X G x_g_MOST_INFLOW⟩
    g_MOST_POINTS := ⟨_, PySem.W.mg_of X G x_g_MOST_POINTS⟩
    m_River := PySem.W.mg_of X G x_a_River
    cl_River := ⟨x_pg_River, x_hd_River, x_po_River, x_sa_River⟩
    mk_River := ⟨x_mk_River, x_a_River___init__, x_i_River___init__, x_kc_River⟩
    na_River_runs_to := x_na_River_runs_to
    m_DueError := PySem.W.mg_of X G x_a_DueError
    ec_DueError := ec_DueError
    m_BadRiver := PySem.W.mg_of X G x_a_BadRiver
    ec_BadRiver := ec_BadRiver
    m_BadYear := PySem.W.mg_of X G x_a_BadYear
    ec_BadYear := ec_BadYear
    m_NoPoint := PySem.W.mg_of X G x_a_NoPoint
    ec_NoPoint := ec_NoPoint
    ei_BadRiver := x_ei_BadRiver
    ei_BadYear := x_ei_BadYear
    ei_NoPoint := x_ei_NoPoint
    F_check_below := F_check_below
    B_check_below := F_check_below.binds (ps := ["below"]) fun _ _ _ _ _ _ us hl => match us, hl with | [_], _ => rfl
    m_check_below := PySem.W.mg_of X G x_a_check_below
    F_River___init__ := F_River___init__
    B_River___init__ := F_River___init__.binds (ps := ["self", "below"]) fun _ _ _ _ _ _ us hl => match us, hl with | [_, _], _ => rfl
    F_law_cell_at := F_law_cell_at
    B_law_cell_at := F_law_cell_at.binds (ps := ["script", "k"]) fun _ _ _ _ _ _ us hl => match us, hl with | [_, _], _ => rfl
    m_law_cell_at := PySem.W.mg_of X G x_a_law_cell_at
    F_law_below := F_law_below
    B_law_below := F_law_below.binds (ps := ["script", "start", "size"]) fun _ _ _ _ _ _ us hl => match us, hl with | [_, _, _], _ => rfl
    m_law_below := PySem.W.mg_of X G x_a_law_below
    F_law_way := F_law_way
    B_law_way := F_law_way.binds (ps := ["below", "point"]) fun _ _ _ _ _ _ us hl => match us, hl with | [_, _], _ => rfl
    m_law_way := PySem.W.mg_of X G x_a_law_way
    F_law_flows := F_law_flows
    B_law_flows := F_law_flows.binds (ps := ["below", "year", "taken"]) fun _ _ _ _ _ _ us hl => match us, hl with | [_, _, _], _ => rfl
    m_law_flows := PySem.W.mg_of X G x_a_law_flows
    F_law_whole := F_law_whole
    B_law_whole := F_law_whole.binds (ps := ["found"]) fun _ _ _ _ _ _ us hl => match us, hl with | [_], _ => rfl
    m_law_whole := PySem.W.mg_of X G x_a_law_whole
    F_law_same := F_law_same
    B_law_same := F_law_same.binds (ps := ["found", "due"]) fun _ _ _ _ _ _ us hl => match us, hl with | [_, _], _ => rfl
    m_law_same := PySem.W.mg_of X G x_a_law_same
    F_law_year := F_law_year
    B_law_year := F_law_year.binds (ps := ["script", "start", "size"]) fun _ _ _ _ _ _ us hl => match us, hl with | [_, _, _], _ => rfl
    m_law_year := PySem.W.mg_of X G x_a_law_year
    F_River_check_point := F_River_check_point
    B_River_check_point := F_River_check_point.binds (ps := ["self", "point"]) fun _ _ _ _ _ _ us hl => match us, hl with | [_, _], _ => rfl
    me_River_check_point := ⟨x_a_River_check_point, x_i_River_check_point, x_k_River_check_point⟩
    F_River_below := F_River_below
    B_River_below := F_River_below.binds (ps := ["self", "point"]) fun _ _ _ _ _ _ us hl => match us, hl with | [_, _], _ => rfl
    me_River_below := ⟨x_a_River_below, x_i_River_below, x_k_River_below⟩
    F_River_points := F_River_points
    B_River_points := F_River_points.binds (ps := ["self"]) fun _ _ _ _ _ _ us hl => match us, hl with | [_], _ => rfl
    me_River_points := ⟨x_a_River_points, x_i_River_points, x_k_River_points⟩
    F_check_year := F_check_year
    B_check_year := F_check_year.binds (ps := ["river", "year"]) fun _ _ _ _ _ _ us hl => match us, hl with | [_, _], _ => rfl
    m_check_year := PySem.W.mg_of X G x_a_check_year
    F_flows := F_flows
    B_flows := F_flows.binds (ps := ["river", "year", "taken"]) fun _ _ _ _ _ _ us hl => match us, hl with | [_, _, _], _ => rfl
    m_flows := PySem.W.mg_of X G x_a_flows
    F_law := F_law
    B_law := F_law.binds (ps := ["script"]) fun _ _ _ _ _ _ us hl => match us, hl with | [_], _ => rfl
    m_law := PySem.W.mg_of X G x_a_law
  }
  refine ⟨_, fun s v => .of_eq rfl, fun base _ _ => (ok_law T).ok.imp fun vs H Q E q => ?_⟩
  obtain ⟨sa, ns, rfl, hO, hS, hl, hQ⟩ := q
  obtain ⟨h', hh⟩ := hold ns hl
  refine ⟨sa, ns, [], [], [.scr ns], rfl, .cons ⟨rfl, rfl⟩ .nil, ⟨rfl, List.nodup_nil, fun n a o e => by simp at e, ?_⟩, ?_⟩
  · rcases hS with (hS | ⟨o, hS⟩) | hS
    · rcases hO sa with z | ⟨ob, xs, z⟩ <;> (rw [hS] at z; cases z)
    · exact .inl ⟨o, hS⟩
    · exact .inr fun H0 => .inr hS
  · rw [hh]
    intro m' H' v' _ _ r
    cases (show v' = V.bl true from r)
    exact hQ H'
theorem walk {l : PySem.W.OpenLaw} {q : Program} {loose : List Str} {XP : (Str → Option Value) → Heap → Prop} {YP : World → Heap → Prop} {d : DefRec} {K : Params → PySem.W.Frag} (hn : l.most = some 63) (hdf : d.params.defaults = [])
    (hY : ∀ (w : World) (h : Heap), YP w h → (K w.params).In h)
    (F : ∀ (w : World) (mg : Str → Option Value) (fa : Addr) (h : Heap), (K w.params).In h → h.Ns mainGlobals mg → mg d.name = some (.ref fa) →
      ∃ fd : FuncData, (∀ (s : Shared) (u : Value), BindsTo s fd ⟨[u], []⟩ [("script", u)]) ∧ ∀ base : Heap, (K w.params).In base → base.Ns mainGlobals mg → FnOk l.prog w (K w.params) mg base (CXe l.prog w) 4 fa fd ["script"] (spLaw (K w.params))) :
    PySem.W.WalkO q loose XP YP l.row.toRowW d [] (fun f vs => PySem.call f vs) :=
  L2.walk_of (n := 63) (k := 4) (x := "script") (CX := fun w => CXe l.prog w) (sp := fun w => spLaw (K w.params)) hn (by decide) hdf ⟨rfl, by decide, by decide⟩ hY F (fun _ _ a ns hl hO hS => ⟨a, ns, rfl, hO, hS, hl, fun _ => rfl⟩) fun _ _ _ _ _ z => by obtain ⟨_, _, _, _, _, _, _, _, _, y⟩ := z; exact y
end L2.Rv

set_option linter.all false
set_option maxRecDepth 10000
set_option maxHeartbeats 1000000
namespace L2.Rv
open PySem (Str)
/-! ### the script's cells -/
theorem cell_w {ns : List Int} {k : Int} (hk : 0 ≤ k) {h : MH} {Q : MV → MH → Prop} {E : Nat → MH → Prop} : wp (law_cell_at_f [.scr ns, .int k]) h Q E = Q (.int (cell ns k)) h := by
  obtain ⟨k, rfl⟩ := Int.eq_ofNat_of_zero_le hk
  have key : law_cell_at_f [.scr ns, .int k] h = .ok (.int (cell ns k)) h := by
    by_cases c : k < ns.length
    · have e : atN ns (k : Int) = some (cell ns k) := by rw [atN_nat]; simp [cell, c]
      simp [law_cell_at_f, law_cell_at_b, fnOf, bnd, sSeq, sIf, tst, eBin, eVar, eUn, oLen, oLt, ret, asB, sRet, oIx, c, e]
    · have e : cell ns k = 0 := by simp [cell, Nat.le_of_not_lt c]
      simp [law_cell_at_f, law_cell_at_b, fnOf, bnd, sSeq, sIf, tst, eBin, eVar, eUn, oLen, oLt, ret, asB, sRet, oIx, c, e, sNil, eC]
  unfold wp
  rw [key]
/-! ### rivers -/
def nats (l : List Nat) : List MV := l.map fun (x : Nat) => .int (x : Int)
def rows (b : List Nat) : List MV := .non :: nats b
def Wf (b : List Nat) : Prop := ∀ (k x : Nat), b[k]? = some x → x ≤ k
theorem nats_len (b : List Nat) : (nats b).length = b.length := by simp [nats]
theorem rows_len (b : List Nat) : (rows b).length = b.length + 1 := by simp [rows, nats]
theorem rows_get {b : List Nat} {p x : Nat} (e : b[p]? = some x) : (rows b)[p + 1]? = some (.int x) := by simp [rows, nats, e]
structure RiverAt (h : MH) (r : Nat) (b : List Nat) : Prop where
  ob : ∃ l, h[r]? = some (.ins 1 [("runs_to", .ref l)]) ∧ h[l]? = some (.lst (rows b))
  wf : Wf b
  few : b.length < 40
theorem RiverAt.pre {h h' : MH} {r : Nat} {b : List Nat} (R : RiverAt h r b) (p : Pre h h') : RiverAt h' r b := by
  obtain ⟨⟨l, h1, h2⟩, w, f⟩ := R
  exact ⟨⟨l, p.get h1, p.get h2⟩, w, f⟩
section
variable {h : MH} {r : Nat} {b : List Nat} {Q : MV → MH → Prop} {E : Nat → MH → Prop}
theorem check_below_ok {a : Nat} (ha : h[a]? = some (.lst (rows b))) (w : Wf b) (f : b.length < 40) (q : Q .non h) : wp (check_below_f [.ref a]) h Q E := by
  refine wp_fn (by rfl) ?_
  have c1 : ¬ ((b.length : Int) + 1 < 1) := by omega
  have c2 : ¬ (40 < (b.length : Int) + 1) := by omega
  have c0 : atN (rows b) 0 = some .non := rfl
  simp [check_below_b, ha, rows_len, c1, c2, c0]
  refine ⟨by omega, ?_⟩
  refine wp_for (fun k σ h' => h' = h ∧ ∃ x y, σ = [some (.ref a), x, y]) (fun _ _ _ _ => rfl) (fun k x σ h' hx ⟨eh, u, v, es⟩ => ?_) (fun σ h' ⟨eh, u, v, es⟩ => ?_) ⟨rfl, _, _, rfl⟩
  · subst eh; subst es
    have hk : k < b.length := by
      have := (List.getElem?_eq_some_iff.mp hx).1
      rw [upTo_len] at this
      omega
    rw [upTo_get (by omega)] at hx
    cases hx
    obtain ⟨z, ez⟩ : ∃ z, b[k]? = some z := ⟨b[k], by simp [hk]⟩
    have g : atN (rows b) (1 + (k : Int)) = some (.int z) := by
      rw [show (1 + (k : Int)) = ((k + 1 : Nat) : Int) by omega, atN_nat]; exact rows_get ez
    have lz := w k z ez
    have d1 : ¬ ((z : Int) < 0) := by omega
    have d2 : ¬ (1 + (k : Int) ≤ (z : Int)) := by omega
    simp [setAll, ha, g, d1, d2]
  · subst eh; exact q
/-- nothing of the river lies ahead of lo -/
structure RiverFr (h : MH) (r : Nat) (b : List Nat) (lo : Nat) : Prop where
  ob : ∃ l, h[r]? = some (.ins 1 [("runs_to", .ref l)]) ∧ h[l]? = some (.lst (rows b)) ∧ lo ≤ l
  lo : lo ≤ r
  wf : Wf b
  few : b.length < 40
theorem RiverFr.at {lo : Nat} (R : RiverFr h r b lo) : RiverAt h r b := by
  obtain ⟨⟨l, h1, h2, h3⟩, h4, w, f⟩ := R
  exact ⟨⟨l, h1, h2⟩, w, f⟩
theorem RiverFr.pre {h' : MH} {lo : Nat} (R : RiverFr h r b lo) (p : Pre h h') : RiverFr h' r b lo := by
  obtain ⟨⟨l, h1, h2, h3⟩, h4, w, f⟩ := R
  exact ⟨⟨l, p.get h1, p.get h2, h3⟩, h4, w, f⟩
theorem RiverFr.set {lo n : Nat} {o : MO} (R : RiverFr h r b lo) (hn : n < lo) : RiverFr (h.set n o) r b lo := by
  obtain ⟨⟨l, h1, h2, h3⟩, h4, w, f⟩ := R
  exact ⟨⟨l, get_set_ne h1 (by omega), get_set_ne h2 (by omega), h3⟩, h4, w, f⟩
theorem river_initF {a : Nat} (ha : h[a]? = some (.lst (rows b))) (w : Wf b) (f : b.length < 40) (q : ∀ h', Pre h h' → RiverFr h' h.length b h.length → Q .non h') : wp (River___init___f [.ref h.length, .ref a]) (h ++ [.ins 1 []]) Q E := by
  unfold River___init___f
  refine wp_fn (by rfl) ?_
  have ha' : (h ++ [.ins 1 []])[a]? = some (.lst (rows b)) := get_app ha
  have la := get_lt ha
  simp [River___init___b]
  refine check_below_ok ha' w f ?_
  simp [ha', putF]
  exact ⟨by omega, q _ ⟨_, rfl⟩ ⟨⟨h.length + 1, by simp, by simp, by omega⟩, Nat.le_refl _, w, f⟩⟩
theorem river_init {a : Nat} (ha : h[a]? = some (.lst (rows b))) (w : Wf b) (f : b.length < 40) (q : ∀ h', Pre h h' → RiverAt h' h.length b → Q .non h') : wp (River___init___f [.ref h.length, .ref a]) (h ++ [.ins 1 []]) Q E :=
  river_initF ha w f fun h' p R => q h' p R.at
theorem points_w (R : RiverAt h r b) : wp (River_points_f [.ref r]) h Q E = Q (.int ((b.length : Int) + 1)) h := by
  obtain ⟨⟨l, h1, h2⟩, w, f⟩ := R
  have key : River_points_f [.ref r] h = .ok (.int ((b.length : Int) + 1)) h := by
    simp [River_points_f, River_points_b, fnOf, bnd, sRet, eUn, eFld, eVar, ret, look, h1, h2, oLen, rows_len]
  unfold wp
  rw [key]
theorem check_point_w {p : Int} (R : RiverAt h r b) (h0 : 0 ≤ p) (hp : p < (b.length : Int) + 1) : wp (River_check_point_f [.ref r, .int p]) h Q E = Q .non h := by
  obtain ⟨⟨l, h1, h2⟩, w, f⟩ := R
  have n1 : ¬ p < 0 := by omega
  have n2 : ¬ (b.length : Int) + 1 ≤ p := by omega
  have key : River_check_point_f [.ref r, .int p] h = .ok .non h := by
    simp [River_check_point_f, River_check_point_b, fnOf, bnd, sIf, tst, eOr, eBin, eC, oLt, oGe, asB, eUn, eFld, eVar, ret, look, h1, h2, oLen, rows_len, n1, n2, sNil]
  unfold wp
  rw [key]
theorem check_point_x {p : Int} (R : RiverAt h r b) (hp : p < 0 ∨ (b.length : Int) + 1 ≤ p) : wp (River_check_point_f [.ref r, .int p]) h Q E = E 103 h := by
  obtain ⟨⟨l, h1, h2⟩, w, f⟩ := R
  have key : River_check_point_f [.ref r, .int p] h = .exc 103 h := by
    by_cases n1 : p < 0
    · simp [River_check_point_f, River_check_point_b, fnOf, bnd, sIf, tst, eOr, eBin, eC, oLt, oGe, asB, eUn, eFld, eVar, ret, look, h1, h2, oLen, rows_len, n1, sRaise, aCons, aNil, rse]
    · have n2 : (b.length : Int) + 1 ≤ p := by omega
      simp [River_check_point_f, River_check_point_b, fnOf, bnd, sIf, tst, eOr, eBin, eC, oLt, oGe, asB, eUn, eFld, eVar, ret, look, h1, h2, oLen, rows_len, n1, n2, sRaise, aCons, aNil, rse]
  unfold wp
  rw [key]
/-- a method is called on the river -/
theorem RiverAt.meth (R : RiverAt h r b) {f : Fn} {mth : String} {a : MA} {σ : MSt} {i : Nat} (hm : (mth == "runs_to") = false) (hs : σ[i]? = some (some (.ref r))) : wp (eMeth 1 mth f (eVar i) a σ) h Q E = wp (a σ) h (fun xs h2 => wp (f (.ref r :: xs)) h2 Q E) E := by
  obtain ⟨⟨l, h1, h2⟩, w, f⟩ := R
  have hm' : mth ≠ "runs_to" := by simpa using hm
  simp [hs, h1, List.lookup_cons, hm, hm']
/-- the way of a point -/
def wayF (b : List Nat) : Nat → Nat → List Nat
  | 0, _ => []
  | _ + 1, 0 => [0]
  | f + 1, p + 1 => (p + 1) :: wayF b f (b.getD p 0)
def wayN (b : List Nat) (p : Nat) : List Nat := wayF b (p + 1) p
theorem wayF_more {b : List Nat} (w : Wf b) : ∀ {f g p : Nat}, p < f → p < g → wayF b f p = wayF b g p
  | 0, _, _, h, _ => absurd h (Nat.not_lt_zero _)
  | _, 0, _, _, h => absurd h (Nat.not_lt_zero _)
  | f + 1, g + 1, 0, _, _ => rfl
  | f + 1, g + 1, p + 1, hf, hg => by
    have le : b.getD p 0 ≤ p := by
      rw [List.getD_eq_getElem?_getD]
      cases e : b[p]? with
      | none => simp
      | some x => simpa using w p x e
    unfold wayF
    rw [wayF_more w (f := f) (g := g) (p := b.getD p 0) (by omega) (by omega)]
theorem wayN_zero (b : List Nat) : wayN b 0 = [0] := rfl
theorem wayN_succ {b : List Nat} (w : Wf b) {p x : Nat} (e : b[p]? = some x) : wayN b (p + 1) = (p + 1) :: wayN b x := by
  have le := w p x e
  unfold wayN
  show (p + 1) :: wayF b (p + 1) (b.getD p 0) = _
  rw [List.getD_eq_getElem?_getD, e]
  simp only [Option.getD_some]
  rw [wayF_more w (show x < p + 1 by omega) (show x < x + 1 by omega)]
theorem wayN_len {b : List Nat} (w : Wf b) : ∀ p, p < b.length + 1 → (wayN b p).length ≤ p + 1 := by
  intro p
  induction p using Nat.strongRecOn with
  | ind p ih =>
    intro hp
    cases p with
    | zero => simp [wayN_zero]
    | succ p =>
      obtain ⟨x, ex⟩ : ∃ x, b[p]? = some x := ⟨b[p]'(by omega), by simp⟩
      rw [wayN_succ w ex]
      have := w p x ex
      have := ih x (by omega) (by omega)
      simp; omega
/-- what lies below a point -/
def belowV (b : List Nat) (p : Nat) : MV := (rows b).getD p .non
theorem below_at (hp : p < b.length + 1) : atN (rows b) ((p : Nat) : Int) = some (belowV b p) := by
  rw [atN_nat, belowV, List.getD_eq_getElem?_getD]
  have : p < (rows b).length := by rw [rows_len]; exact hp
  simp [this]
theorem below_w {p : Nat} (R : RiverAt h r b) (hp : p < b.length + 1) : wp (River_below_f [.ref r, .int p]) h Q E = Q (belowV b p) h := by
  have c := check_point_w (Q := fun v h' => v = .non ∧ h' = h) (E := noE) (p := p) R (by omega) (by omega)
  obtain ⟨⟨l, h1, h2⟩, w, f⟩ := R
  have key : River_below_f [.ref r, .int p] h = .ok (belowV b p) h := by
    obtain ⟨v, h', e, rfl, rfl⟩ := wp_run (cast c.symm ⟨rfl, rfl⟩)
    simp [River_below_f, River_below_b, fnOf, bnd, sSeq, sExpr, eMeth, aCons, aNil, eVar, ret, look, h1, h2, List.lookup_cons, e, sRet, eBin, eFld, oIx, below_at hp]
  unfold wp
  rw [key]
theorem below_x {p : Int} (R : RiverAt h r b) (hp : p < 0 ∨ (b.length : Int) + 1 ≤ p) : wp (River_below_f [.ref r, .int p]) h Q E ↔ E 103 h := by
  unfold River_below_f fnOf River_below_b
  rw [if_pos (show [MV.ref r, MV.int p].length = 2 from rfl), wp_bnd, wp_seq, w_expr, R.meth (by decide) rfl]
  simp [check_point_x R hp]
theorem inM_nats {q : Nat} : ∀ {l : List Nat}, inM (.int q) (nats l) = decide (q ∈ l)
  | [] => rfl
  | x :: l => by
    have ih := @inM_nats q l
    simp only [inM, nats, List.map_cons, List.any_cons] at ih ⊢
    rw [ih]
    by_cases e : x = q
    · subst e; simp [eqM]
    · have e2 : ¬ ((x : Int) = (q : Int)) := by omega
      have e3 : ¬ q = x := fun z => e z.symm
      simp [eqM, e2, e3]
theorem flat_nats (l : List Nat) : (nats l).all flat = true := by simp [nats, flat]
/-- the points above -/
def aboveN (b : List Nat) (q : Nat) : List Nat := (List.range (b.length + 1)).filter fun p => decide (q ∈ wayN b p)
theorem filter_upTo {n : Nat} {c : Nat → Bool} {c' : List MV → Bool} (hc : ∀ k, k < n → c' [.int (0 + (k : Int))] = c k) : ((upTo 0 n).filter c').map (fun x => x.headD .non) = nats ((List.range n).filter c) := by
  have go : ∀ (l : List Nat), (∀ k ∈ l, k < n) → ((l.map fun (k : Nat) => [MV.int (0 + (k : Nat))]).filter c').map (fun x => x.headD .non) = nats (l.filter c) := by
    intro l
    induction l with
    | nil => intro _; rfl
    | cons k l ih =>
      intro hl
      have h1 := hc k (hl k List.mem_cons_self)
      have h2 := ih fun j hj => hl j (List.mem_cons_of_mem _ hj)
      simp only [List.map_cons, List.filter_cons, h1]
      cases c k with
      | true => simp only [if_true, List.map_cons, h2, List.headD_cons]; simp [nats]
      | false => simpa using h2
  exact go _ fun k hk => List.mem_range.mp hk
theorem zero_way (w : Wf b) : ∀ p, p < b.length + 1 → 0 ∈ wayN b p := by
  intro p
  induction p using Nat.strongRecOn with
  | ind p ih =>
    intro hp
    cases p with
    | zero => simp [wayN_zero]
    | succ p =>
      obtain ⟨x, ex⟩ : ∃ x, b[p]? = some x := ⟨b[p]'(by omega), by simp⟩
      have := w p x ex
      rw [wayN_succ w ex]
      exact List.mem_cons_of_mem _ (ih x (by omega) (by omega))
theorem above_zero (w : Wf b) : aboveN b 0 = List.range (b.length + 1) := by
  unfold aboveN
  refine List.filter_eq_self.mpr fun p hp => ?_
  simpa using zero_way w p (List.mem_range.mp hp)
end
/-! ### the river of a script -/
def belowOf (ns : List Int) (st : Int) (size : Nat) : List Nat := (List.range (size - 1)).map fun (k : Nat) => (cell ns (st + (1 + (k : Int))) % (1 + (k : Int))).toNat
theorem belowOf_len (ns : List Int) (st : Int) (size : Nat) : (belowOf ns st size).length = size - 1 := by simp [belowOf]
theorem belowOf_wf (ns : List Int) (st : Int) (size : Nat) : Wf (belowOf ns st size) := by
  intro k x e
  unfold belowOf at e
  rw [List.getElem?_map] at e
  cases ek : (List.range (size - 1))[k]? with
  | none => rw [ek] at e; cases e
  | some j =>
    rw [ek] at e
    have hj : j = k := by
      obtain ⟨h1, h2⟩ := List.getElem?_eq_some_iff.mp ek
      simpa using h2.symm
    subst hj
    have e : (cell ns (st + (1 + (j : Int))) % (1 + (j : Int))).toNat = x := Option.some.inj e
    have a := Int.emod_lt_of_pos (cell ns (st + (1 + (j : Int)))) (show (0 : Int) < 1 + (j : Int) by omega)
    omega
theorem map_upTo {n : Nat} {lo : Int} {f : List MV → MV} {g : Nat → Nat} (hf : ∀ k, k < n → f [.int (lo + (k : Int))] = .int (g k : Int)) : (upTo lo n).map f = nats ((List.range n).map g) := by
  unfold upTo nats
  rw [List.map_map, List.map_map]
  refine List.map_congr_left fun k hk => ?_
  exact hf k (List.mem_range.mp hk)
theorem law_below_w {ns : List Int} {st : Int} {size : Nat} {h : MH} {Q : MV → MH → Prop} {E : Nat → MH → Prop} (h0 : 0 ≤ st) (hs : 1 ≤ size) (hz : size ≤ 1000) (q : ∀ h', Pre h h' → h.length < h'.length → Q (.ref h'.length) (h' ++ [.lst (rows (belowOf ns st size))])) : wp (law_below_f [.scr ns, .int st, .int size]) h Q E := by
  unfold law_below_f
  refine wp_fn (by rfl) ?_
  simp [law_below_b]
  have hsrc : iRng2 (eC (.int 1)) (eVar 2) [some (.scr ns), some (.int st), some (.int size)] (h ++ [.lst [.non]]) = .ok ⟨upTo 1 (size - 1), []⟩ (h ++ [.lst [.non]]) := by
    exact src_rng2 rfl rfl ⟨by omega, by omega⟩ ⟨by omega, by omega⟩ (by omega)
  refine wp_comp (fun _ => true) (fun x => match x with
    | [.int k] => .int (cell ns (st + k) % k)
    | _ => .non) hsrc (fun _ _ => rfl) (by simp [upTo_len]; omega) (fun x hx h2 p2 => ?_) (fun x hx _ h2 p2 => ?_) fun h2 p2 => ?_
  · simp [condOf, wp_ret, Pre.refl]
  · obtain ⟨k, hk, rfl⟩ := mem_upTo hx
    have h1 : (0 : Int) ≤ st + (1 + (k : Int)) := by omega
    simp [cell_w h1]
    exact ⟨by omega, .refl⟩
  · have e : List.map (fun x => match x with
      | [MV.int k] => MV.int (cell ns (st + k) % k)
      | _ => MV.non) (List.filter (fun _ => true) (upTo 1 (size - 1))) = nats (belowOf ns st size) := by
      rw [List.filter_eq_self.mpr fun _ _ => rfl]
      unfold belowOf
      refine map_upTo fun k hk => ?_
      have a := Int.emod_nonneg (cell ns (st + (1 + (k : Int)))) (show (1 + (k : Int)) ≠ 0 by omega)
      simp only [MV.int.injEq]
      omega
    rw [e]
    have pl := p2.len
    simp at pl
    have g1 : (h2 ++ [.lst (nats (belowOf ns st size))])[h.length]? = some (.lst [.non]) := get_app (p2.get get_new)
    have l1 : (nats (belowOf ns st size)).length + 1 ≤ 100000 := by rw [nats_len, belowOf_len]; omega
    simp [g1, l1]
    refine ⟨by omega, ?_⟩
    have := q (h2 ++ [.lst (nats (belowOf ns st size))]) (((Pre.app _).trans p2).snoc _) (by simp; omega)
    simpa [rows] using this
/-! ### lists that are held against what is due -/
theorem whole_int {i : Int} {h : MH} {Q : MV → MH → Prop} {E : Nat → MH → Prop} : wp (law_whole_f [.int i]) h Q E = Q (.bl true) h := by
  have key : law_whole_f [.int i] h = .ok (.bl true) h := by
    simp [law_whole_f, law_whole_b, fnOf, bnd, sRet, eAnd, eNot, tst, asB, eUn, eVar, isTy, ret]
  unfold wp
  rw [key]
theorem same_w {l : List Nat} {a d : Nat} {h : MH} {Q : MV → MH → Prop} {E : Nat → MH → Prop} (ha : h[a]? = some (.lst (nats l))) (hd : h[d]? = some (.lst (nats l))) (few : l.length < 100000) (q : Q (.bl true) h) : wp (law_same_f [.ref a, .ref d]) h Q E := by
  refine wp_fn (by rfl) ?_
  simp [law_same_b, isTy, wp_bnd, wp_look', ha, hd, nats_len, wp_ret]
  refine ⟨by omega, ?_⟩
  refine wp_for (fun k σ h' => h' = h ∧ ∃ x, σ = [some (.ref a), some (.ref d), x]) (fun _ _ _ _ => rfl) (fun k x σ h' hx ⟨eh, u, es⟩ => ?_) (fun σ h' ⟨eh, u, es⟩ => ?_) ⟨rfl, _, rfl⟩
  · subst eh; subst es
    have hk : k < l.length := by
      have := (List.getElem?_eq_some_iff.mp hx).1
      rw [upTo_len] at this
      omega
    rw [upTo_get hk] at hx
    cases hx
    have g : atN (nats l) (0 + (k : Int)) = some (.int (l[k] : Nat)) := by
      rw [show (0 + (k : Int)) = ((k : Nat) : Int) by omega, atN_nat]; simp [nats, hk]
    simp at g
    simp [setAll, ha, hd, g, whole_int]
  · subst eh; subst es; simp; exact q
theorem sameT_w {n : Nat} {f : Nat → Int} {a d : Nat} {h : MH} {Q : MV → MH → Prop} {E : Nat → MH → Prop} (ha : h[a]? = some (.lst (tab n f))) (hd : h[d]? = some (.lst (tab n f))) (few : n < 100000) (q : Q (.bl true) h) : wp (law_same_f [.ref a, .ref d]) h Q E := by
  unfold law_same_f
  refine wp_fn (by rfl) ?_
  simp [law_same_b, isTy, wp_bnd, wp_look', ha, hd, tab_len, wp_ret]
  refine ⟨by omega, ?_⟩
  refine wp_for (fun k σ h' => h' = h ∧ ∃ x, σ = [some (.ref a), some (.ref d), x]) (fun _ _ _ _ => rfl) (fun k x σ h' hx ⟨eh, u, es⟩ => ?_) (fun σ h' ⟨eh, u, es⟩ => ?_) ⟨rfl, _, rfl⟩
  · subst eh; subst es
    have hk : k < n := by
      have := (List.getElem?_eq_some_iff.mp hx).1
      rw [upTo_len] at this
      omega
    rw [upTo_get hk] at hx
    cases hx
    have g : atN (tab n f) (0 + (k : Int)) = some (.int (f k)) := by
      rw [show (0 + (k : Int)) = ((k : Nat) : Int) by omega, tab_at hk]
    simp at g
    simp [setAll, ha, hd, g, whole_int]
  · subst eh; subst es; simp; exact q
/-! ### the law's own ways -/
section
variable {h : MH} {a : Nat} {b : List Nat} {Q : MV → MH → Prop} {E : Nat → MH → Prop}
theorem rows_plain (b : List Nat) : (rows b).all plainI = true := by simp [rows, nats, plainI]
theorem law_way_w {p : Nat} (ha : h[a]? = some (.lst (rows b))) (w : Wf b) (f : b.length < 40) (hp : p < b.length + 1) (q : Q (.ref h.length) (h ++ [.lst (nats (wayN b p))])) : wp (law_way_f [.ref a, .int p]) h Q E := by
  unfold law_way_f
  refine wp_fn (by rfl) ?_
  unfold law_way_b
  rw [wp_seq]
  simp
  refine wp_while (k := p + 1) (fun k σ h' => ∃ acc : List Nat, acc.length + k ≤ 100 ∧ h' = h ++ [.lst (nats acc)] ∧ ((k = 0 ∧ acc = wayN b p ∧ σ = [some (.ref a), some .non, some (.ref h.length)]) ∨ ∃ x : Nat, k = x + 1 ∧ x < b.length + 1 ∧ acc ++ wayN b x = wayN b p ∧ σ = [some (.ref a), some (.int x), some (.ref h.length)])) ?_ (by omega)
    ⟨[], by simp; omega, rfl, .inr ⟨p, rfl, hp, rfl, rfl⟩⟩
  rintro k σ h' ⟨acc, hl, rfl, ⟨rfl, rfl, rfl⟩ | ⟨x, rfl, hx, e, rfl⟩⟩
  · simp
    exact q
  · have g2 : ∀ o, (h ++ [o])[a]? = some (.lst (rows b)) := fun o => get_app ha
    have la : (nats acc).length < 100000 := by rw [nats_len]; omega
    have snoc : nats acc ++ [.int x] = nats (acc ++ [x]) := by simp [nats]
    simp [la, g2, snoc, below_at hx]
    cases x with
    | zero =>
      exact ⟨0, by omega, acc ++ [0], by simp; omega, rfl, .inl ⟨rfl, by rw [wayN_zero] at e; exact e, rfl⟩⟩
    | succ x =>
      obtain ⟨z, ez⟩ : ∃ z, b[x]? = some z := ⟨b[x]'(by omega), by simp⟩
      have lz := w x z ez
      have ev : belowV b (x + 1) = .int z := by rw [belowV, List.getD_eq_getElem?_getD, rows_get ez]; rfl
      exact ⟨z + 1, by omega, acc ++ [x + 1], by simp; omega, rfl, .inr ⟨z, rfl, by omega, by rw [← e, wayN_succ w ez]; simp, by rw [ev]⟩⟩
end
/-! ### flows -/
/-- the flow of a point: what comes in less what is taken, of all points above -/
def flowT (b : List Nat) (n : Nat) (d : Nat → Int) (p : Nat) : Int := sumTo n fun q => if p ∈ wayN b q then d q else 0
/-- p is met from q, and all that was passed ahead of it is beyond k -/
def chi (b : List Nat) (k p : Nat) : Nat → Nat → Bool
  | 0, _ => false
  | f + 1, q => if q = p then true else if q ≤ k then false else chi b k p f (b.getD (q - 1) 0)
theorem getD_lt {b : List Nat} (w : Wf b) {q : Nat} (hq : 0 < q) : b.getD (q - 1) 0 < q := by
  rw [List.getD_eq_getElem?_getD]
  cases e : b[q - 1]? with
  | none => simpa using hq
  | some x => have := w (q - 1) x e; simp; omega
theorem chi_top {b : List Nat} {k p q f : Nat} (hf : 0 < f) (hq : q ≤ k) : chi b k p f q = decide (q = p) := by
  obtain ⟨f, rfl⟩ : ∃ g, f = g + 1 := ⟨f - 1, by omega⟩
  unfold chi
  by_cases e : q = p
  · simp [e]
  · simp [e, hq]
theorem chi_go {b : List Nat} {k p q f : Nat} (e : ¬ q = p) (hq : k < q) : chi b k p (f + 1) q = chi b k p f (b.getD (q - 1) 0) := by
  conv => lhs; unfold chi
  rw [if_neg e, if_neg (Nat.not_le.mpr hq)]
theorem chi_way {b : List Nat} {p : Nat} : ∀ (f q : Nat), q < f → chi b 0 p f q = decide (p ∈ wayF b f q)
  | 0, q, h => by omega
  | f + 1, 0, _ => by
    unfold chi wayF
    by_cases e : p = 0
    · simp [e]
    · have : ¬ (0 = p) := fun z => e z.symm
      simp [e, this]
  | f + 1, q + 1, h => by
    unfold chi wayF
    by_cases e : q + 1 = p
    · subst e; simp
    · have e' : ¬ p = q + 1 := fun z => e z.symm
      rw [if_neg e, if_neg (by omega)]
      simp only [Nat.add_sub_cancel, List.mem_cons, e', false_or]
      by_cases hz : b.getD q 0 < f
      · exact chi_way f _ hz
      · -- not met where the list is a river; the two agree all the same
        have : ∀ g q, chi b 0 p g q = decide (p ∈ wayF b g q) := by
          intro g
          induction g with
          | zero => intro q; simp [chi, wayF]
          | succ g ih =>
            intro q
            cases q with
            | zero =>
              unfold chi wayF
              by_cases e : p = 0
              · simp [e]
              · have : ¬ (0 = p) := fun z => e z.symm
                simp [e, this]
            | succ q =>
              unfold chi wayF
              by_cases e : q + 1 = p
              · subst e; simp
              · have e' : ¬ p = q + 1 := fun z => e z.symm
                rw [if_neg e, if_neg (by omega)]
                simp only [Nat.add_sub_cancel, List.mem_cons, e', false_or]
                exact ih _
        exact this f _
theorem chi_step {b : List Nat} (w : Wf b) {c p : Nat} (hc : 0 < c) : ∀ (f q : Nat), q < f → (if chi b (c - 1) p f q = true then (1 : Int) else 0) = (if chi b c p f q = true then 1 else 0) + if b.getD (c - 1) 0 = p ∧ chi b c c f q = true then 1 else 0
  | 0, q, h => by omega
  | f + 1, q, h => by
    have lc := getD_lt w hc
    by_cases e : q = p
    · subst e
      have h1 : chi b (c - 1) q (f + 1) q = true := by unfold chi; simp
      have h2 : chi b c q (f + 1) q = true := by unfold chi; simp
      rw [if_pos h1, if_pos h2, if_neg]
      · omega
      · rintro ⟨z, y⟩
        unfold chi at y
        rw [if_neg (by omega), if_pos (by omega)] at y
        cases y
    · by_cases hq : c < q
      · have lq := getD_lt w (show 0 < q by omega)
        have ih := chi_step w (p := p) hc f (b.getD (q - 1) 0) (by omega)
        rw [chi_go e (show c - 1 < q by omega), chi_go e hq, chi_go (show ¬ q = c by omega) hq]
        exact ih
      · by_cases hq2 : q = c
        · subst hq2
          have f0 : 0 < f := by omega
          have h1 : chi b (q - 1) p (f + 1) q = decide (b.getD (q - 1) 0 = p) := by
            conv => lhs; unfold chi
            rw [if_neg e, if_neg (by omega), chi_top f0 (by omega)]
          have h2 : chi b q p (f + 1) q = false := by unfold chi; simp [e]
          have h3 : chi b q q (f + 1) q = true := by unfold chi; simp
          rw [h1, h2, h3]
          by_cases z : b.getD (q - 1) 0 = p <;> simp [z]
        · have h1 : chi b (c - 1) p (f + 1) q = false := by rw [chi_top (by omega) (by omega)]; simp [e]
          have h2 : chi b c p (f + 1) q = false := by rw [chi_top (by omega) (by omega)]; simp [e]
          have h3 : chi b c c (f + 1) q = false := by rw [chi_top (by omega) (by omega)]; simp [hq2]
          rw [h1, h2, h3]
          simp
/-- what stands at p while the points beyond k have passed on -/
def upTill (b : List Nat) (n : Nat) (d : Nat → Int) (k p : Nat) : Int := sumTo n fun q => if chi b k p n q = true then d q else 0
theorem upTill_top {b : List Nat} {n : Nat} {d : Nat → Int} {p : Nat} (hp : p < n) : upTill b n d (n - 1) p = d p := by
  unfold upTill
  rw [← sumTo_one (f := d) hp]
  refine sumTo_congr fun q hq => ?_
  rw [chi_top (by omega) (by omega)]
  by_cases e : q = p <;> simp [e]
theorem ite3 {A B C : Prop} [Decidable A] [Decidable B] [Decidable C] {v : Int} (s : (if A then (1 : Int) else 0) = (if B then 1 else 0) + if C then 1 else 0) : (if A then v else 0) = (if B then v else 0) + if C then v else 0 := by
  by_cases a : A
  · by_cases b : B
    · by_cases c : C
      · rw [if_pos a, if_pos b, if_pos c] at s; omega
      · rw [if_pos a, if_pos b, if_neg c]; omega
    · by_cases c : C
      · rw [if_pos a, if_neg b, if_pos c]; omega
      · rw [if_pos a, if_neg b, if_neg c] at s; omega
  · by_cases b : B
    · by_cases c : C
      · rw [if_neg a, if_pos b, if_pos c] at s; omega
      · rw [if_neg a, if_pos b, if_neg c] at s; omega
    · by_cases c : C
      · rw [if_neg a, if_neg b, if_pos c] at s; omega
      · rw [if_neg a, if_neg b, if_neg c]; omega
theorem upTill_step {b : List Nat} (w : Wf b) {n c p : Nat} {d : Nat → Int} (hc : 0 < c) : upTill b n d (c - 1) p = upTill b n d c p + if b.getD (c - 1) 0 = p then upTill b n d c c else 0 := by
  unfold upTill
  have e : (if b.getD (c - 1) 0 = p then sumTo n (fun q => if chi b c c n q = true then d q else 0) else 0) = sumTo n (fun q => if b.getD (c - 1) 0 = p ∧ chi b c c n q = true then d q else 0) := by
    by_cases z : b.getD (c - 1) 0 = p
    · rw [if_pos z]
      exact sumTo_congr fun q hq => by simp only [z, true_and]
    · rw [if_neg z]
      exact (sumTo_zero fun q hq => by simp only [z, false_and, if_false]).symm
  rw [e, ← sumTo_add]
  refine sumTo_congr fun q hq => ?_
  exact ite3 (chi_step w (p := p) hc n q hq)
theorem wayF_wayN {b : List Nat} (w : Wf b) {n q : Nat} (hq : q < n) : wayF b n q = wayN b q := wayF_more w hq (Nat.lt_succ_self q)
theorem upTill_zero {b : List Nat} (w : Wf b) {n p : Nat} {d : Nat → Int} : upTill b n d 0 p = flowT b n d p := by
  unfold upTill flowT
  refine sumTo_congr fun q hq => ?_
  rw [chi_way n q hq, wayF_wayN w hq]
  by_cases e : p ∈ wayN b q <;> simp [e]
section
variable {h : MH} {r : Nat} {b : List Nat} {Q : MV → MH → Prop} {E : Nat → MH → Prop}
theorem check_year_w {a n : Nat} {y : Nat → Int} (R : RiverAt h r b) (ha : h[a]? = some (.lst (tab n y))) (hn : n = b.length + 1) (bd : ∀ k, k < n → 0 ≤ y k ∧ y k ≤ 1000000) (q : Q .non h) : wp (check_year_f [.ref r, .ref a]) h Q E := by
  unfold check_year_f
  refine wp_fn (by rfl) ?_
  unfold check_year_b
  refine wp_cut (R := fun σ h1 => h = h1 ∧ σ = [some (.ref r), some (.ref a), none]) ?_ ?_
  · rw [w_sif, w_tst, w_bin]
    simp only [w_un, w_var, List.map_cons, List.map_nil, List.cons_append, List.nil_append, List.getElem?_cons_succ, List.getElem?_cons_zero, w_lenR, ha, tab_len]
    rw [R.meth (by decide) rfl]
    simp [points_w R, hn]
  rintro _ _ ⟨rfl, rfl⟩
  rw [w_for]
  refine wp_of (src_list rfl ha) ?_
  refine wp_for (fun k σ h' => h' = h ∧ ∃ x, σ = [some (.ref r), some (.ref a), x]) (fun _ _ _ i => by rw [i.1]; exact okIn_some ha) (fun k x σ h' hx ⟨eh, u, es⟩ => ?_) (fun σ h' ⟨eh, u, es⟩ => ?_) ⟨rfl, _, rfl⟩
  · subst eh; subst es
    have hk : k < n := by
      have := (List.getElem?_eq_some_iff.mp hx).1
      simpa [tab_len] using this
    rw [List.getElem?_map, tab_get hk] at hx
    cases hx
    obtain ⟨b1, b2⟩ := bd k hk
    have c1 : ¬ y k < 0 := by omega
    have c2 : ¬ 1000000 < y k := by omega
    simp [setAll, c1, c2]
  · subst eh; exact q
theorem flows_w {a c n : Nat} {y t : Nat → Int} (R : RiverAt h r b) (ha : h[a]? = some (.lst (tab n y))) (hc : h[c]? = some (.lst (tab n t))) (hn : n = b.length + 1) (bd : ∀ k, k < n → 0 ≤ y k ∧ y k ≤ 1000000)
    (q : ∀ h' x, Pre h h' → h.length ≤ x → h'[x]? = some (.lst (tab n (flowT b n fun k => y k - t k))) → Q (.ref x) h') : wp (flows_f [.ref r, .ref a, .ref c]) h Q E := by
  unfold flows_f
  refine wp_fn (by rfl) ?_
  have few := R.few
  have w := R.wf
  refine wp_cut (R := fun σ h1 => h = h1 ∧ σ = [some (.ref r), some (.ref a), some (.ref c), none, none]) ?_ ?_
  · simp
    exact check_year_w R ha hn bd (by simp)
  rintro _ _ ⟨rfl, rfl⟩
  refine wp_cut (R := fun σ h1 => ∃ h0, Pre h h0 ∧ h1 = h0 ++ [.lst (tab n fun k => y k - t k)] ∧ σ = [some (.ref r), some (.ref a), some (.ref c), some (.ref h0.length), none]) ?_ ?_
  · rw [w_set]
    refine wp_comp (fun _ => true) (fun x => match x with
      | [.int i, .int j] => .int (i - j)
      | _ => .non) (src_zip rfl rfl ha hc) (fun h' p => okIn_two (p.get ha) (p.get hc)) ?_ (fun x hx h2 p2 => ?_) (fun x hx _ h2 p2 => ?_) fun h2 p2 => ?_
    · rw [zip_tab]; simp; omega
    · simp [condOf, wp_ret, Pre.refl]
    · rw [zip_tab] at hx
      obtain ⟨k, hk, rfl⟩ := List.mem_map.mp hx
      simp
      exact .refl
    · have e : List.map (fun x => match x with
        | [MV.int i, MV.int j] => MV.int (i - j)
        | _ => MV.non) (List.filter (fun _ => true) (zipRows (tab n y) (tab n t))) = tab n fun k => y k - t k := by
        rw [List.filter_eq_self.mpr fun _ _ => rfl, zip_tab, List.map_map]
        rfl
      exact ⟨_, rfl, h2, p2, by rw [e], rfl⟩
  rintro _ _ ⟨h0, p0, rfl, rfl⟩
  replace R := R.pre p0
  have R1 : ∀ o, RiverAt (h0 ++ [o]) r b := fun o => R.pre (Pre.app _)
  refine wp_cut (R := fun σ h1 => h1 = h0 ++ [.lst (tab n (flowT b n fun k => y k - t k))] ∧ ∃ x, σ = [some (.ref r), some (.ref a), some (.ref c), some (.ref h0.length), x]) ?_ ?_
  · rw [w_for]
    refine wp_of (src_down (h1 := h0 ++ [.lst (tab n fun k => y k - t k)]) (i := (b.length : Int)) (j := 0) (n := b.length) ?_ rfl (by omega) (by omega)) ?_
    · have w1 : wp (eBin oSub (eMeth 1 "points" River_points_f (eVar 0) aNil) (eC (.int 1)) [some (.ref r), some (.ref a), some (.ref c), some (.ref h0.length), none]) (h0 ++ [.lst (tab n fun k => y k - t k)]) (fun v h1 => v = .int (b.length : Int) ∧ h1 = h0 ++ [.lst (tab n fun k => y k - t k)]) noE := by
        rw [w_bin, (R1 _).meth (by decide) rfl]
        simp [points_w (R1 _)]
      obtain ⟨v, h1, e, rfl, rfl⟩ := wp_run w1
      exact e
    refine wp_for (fun k σ h1 => k ≤ b.length ∧ h1 = h0 ++ [.lst (tab n (upTill b n (fun k => y k - t k) (b.length - k)))] ∧ ∃ x, σ = [some (.ref r), some (.ref a), some (.ref c), some (.ref h0.length), x]) (fun _ _ _ _ => rfl) (fun k x σ h1 hx ⟨hk, eh, u, es⟩ => ?_) (fun σ h1 ⟨hk, eh, u, es⟩ => ?_) ⟨by omega, ?_, _, rfl⟩
    · subst eh; subst es
      have hk : k < b.length := by
        have := (List.getElem?_eq_some_iff.mp hx).1
        rwa [down_len] at this
      rw [down_get hk] at hx
      cases hx
      obtain ⟨c0, hc0⟩ : ∃ c0 : Nat, c0 = b.length - k := ⟨_, rfl⟩
      have ec : (b.length : Int) - (k : Int) = (c0 : Int) := by omega
      have hb := fun Q => below_w (p := c0) (Q := Q) (E := E) (R1 (.lst (tab n (upTill b n (fun k => y k - t k) c0)))) (by omega)
      rw [← hc0]
      obtain ⟨z, ez⟩ : ∃ z, b[c0 - 1]? = some z := ⟨b[c0 - 1]'(by omega), by simp⟩
      have lz := w (c0 - 1) z ez
      have ev : belowV b c0 = .int z := by
        rw [belowV, List.getD_eq_getElem?_getD, show c0 = c0 - 1 + 1 by omega, rows_get ez]; rfl
      have ed : b.getD (c0 - 1) 0 = z := by rw [List.getD_eq_getElem?_getD, ez]; rfl
      simp only [setAll, List.set_cons_succ, List.set_cons_zero, ec, w_augIx, w_var, List.getElem?_cons_succ, List.getElem?_cons_zero]
      rw [(R1 _).meth (by decide) rfl]
      simp only [w_acons, w_anil, w_var, List.getElem?_cons_succ, List.getElem?_cons_zero, hb, ev, w_getIx, w_ixL, get_new, w_bin]
      rw [tab_at (show z < n by omega)]
      dsimp only
      rw [tab_at (show c0 < n by omega)]
      simp [tab_len, ixN_nat (show z < n by omega), tab_set]
      refine ⟨by omega, tab_congr fun p hp => ?_⟩
      rw [show b.length - (k + 1) = c0 - 1 by omega, upTill_step w (show 0 < c0 by omega), ed]
      by_cases e : p = z
      · subst e; simp
      · have e' : ¬ z = p := fun q => e q.symm
        simp [e, e']
    · rw [down_len] at eh
      subst eh; subst es
      refine ⟨_, rfl, ?_, u, rfl⟩
      rw [Nat.sub_self]
      congr 3
      exact tab_congr fun p hp => upTill_zero w
    · congr 3
      exact tab_congr fun p hp => by rw [show b.length - 0 = n - 1 by omega, upTill_top hp]
  rintro _ _ ⟨rfl, x, rfl⟩
  simp
  exact q _ _ (p0.snoc _) p0.len get_new
end
/-! ### the year of a script -/
def yearF (ns : List Int) (st : Int) (k : Nat) : Int := if cell ns (st + k) % 5 = 4 then cell ns (st + k) / 5 % 1000001 else cell ns (st + k) / 5 % 60
theorem yearF_bd (ns : List Int) (st : Int) (k : Nat) : 0 ≤ yearF ns st k ∧ yearF ns st k ≤ 1000000 := by
  unfold yearF
  split <;> omega
theorem law_year_w {ns : List Int} {st : Int} {size : Nat} {h : MH} {Q : MV → MH → Prop} {E : Nat → MH → Prop} (h0 : 0 ≤ st) (hz : size ≤ 1000) (q : Q (.ref h.length) (h ++ [.lst (tab size (yearF ns st))])) : wp (law_year_f [.scr ns, .int st, .int size]) h Q E := by
  unfold law_year_f
  refine wp_fn (by rfl) ?_
  refine wp_cut (R := fun σ h1 => h1 = h ++ [.lst (tab 0 (yearF ns st))] ∧ σ = [some (.scr ns), some (.int st), some (.int size), some (.ref h.length), none, none, none]) (by simp; rfl) ?_
  rintro _ _ ⟨rfl, rfl⟩
  refine wp_cut (R := fun σ h1 => h1 = h ++ [.lst (tab size (yearF ns st))] ∧ ∃ x y z, σ = [some (.scr ns), some (.int st), some (.int size), some (.ref h.length), x, y, z]) ?_ ?_
  · rw [w_for]
    refine wp_of (src_rng1 (n := size) (h' := h ++ [.lst (tab 0 (yearF ns st))]) rfl ⟨by omega, by omega⟩ (by omega)) ?_
    refine wp_for (fun k σ h1 => k ≤ size ∧ h1 = h ++ [.lst (tab k (yearF ns st))] ∧ ∃ x y z, σ = [some (.scr ns), some (.int st), some (.int size), some (.ref h.length), x, y, z]) (fun _ _ _ _ => rfl) (fun k x σ h1 hx ⟨hk, eh, u, v, w, es⟩ => ?_) (fun σ h1 ⟨hk, eh, r⟩ => ?_) ⟨by omega, rfl, _, _, _, rfl⟩
    · subst eh; subst es
      have hk : k < size := by
        have := (List.getElem?_eq_some_iff.mp hx).1
        rwa [upTo_len] at this
      rw [upTo_get hk] at hx
      cases hx
      have e0 : (0 : Int) + (k : Int) = k := by omega
      have hc : (0 : Int) ≤ st + k := by omega
      have tl := tab_len k (yearF ns st)
      by_cases c : cell ns (st + k) % 5 = 4
      · have ey : yearF ns st k = cell ns (st + k) / 5 % 1000001 := by unfold yearF; rw [if_pos c]
        simp [setAll, e0, cell_w hc, c, tl, ← ey, tab_succ]
        omega
      · have ey : yearF ns st k = cell ns (st + k) / 5 % 60 := by unfold yearF; rw [if_neg c]
        simp [setAll, e0, cell_w hc, c, tl, ← ey, tab_succ]
        omega
    · rw [upTo_len] at eh
      exact ⟨σ, rfl, eh, r⟩
  rintro _ _ ⟨rfl, x, y, z, rfl⟩
  simp
  exact q
theorem way_mono {b : List Nat} (w : Wf b) : ∀ p, p < b.length + 1 → (∀ x ∈ wayN b p, x ≤ p) ∧ (wayN b p).Nodup := by
  intro p
  induction p using Nat.strongRecOn with
  | ind p ih =>
    intro hp
    cases p with
    | zero => simp [wayN_zero]
    | succ p =>
      obtain ⟨x, ex⟩ : ∃ x, b[p]? = some x := ⟨b[p]'(by omega), by simp⟩
      have lx := w p x ex
      obtain ⟨h1, h2⟩ := ih x (by omega) (by omega)
      rw [wayN_succ w ex]
      refine ⟨fun y hy => ?_, ?_⟩
      · rcases List.mem_cons.mp hy with rfl | hy
        · omega
        · have := h1 y hy; omega
      · rw [List.nodup_cons]
        exact ⟨fun hy => by have := h1 _ hy; omega, h2⟩
theorem mem_take_succ {l : List Nat} {j x p : Nat} (nd : l.Nodup) (e : l[j]? = some x) : (if p ∈ l.take (j + 1) then (1 : Int) else 0) = (if p ∈ l.take j then 1 else 0) + if x = p then 1 else 0 := by
  have ex : l.take (j + 1) = l.take j ++ [x] := by rw [List.take_add_one, e]; rfl
  rw [ex]
  have nx : x ∉ l.take j := by
    intro hx
    obtain ⟨i, hi⟩ := List.mem_iff_getElem?.mp hx
    have lj := (List.getElem?_eq_some_iff.mp e).1
    have li : i < j := by
      have := (List.getElem?_eq_some_iff.mp hi).1
      simp at this
      omega
    rw [List.getElem?_take_of_lt li] at hi
    have := nodup_get nd hi e
    omega
  by_cases h1 : p ∈ l.take j
  · have : ¬ x = p := fun z => nx (z ▸ h1)
    simp [h1, this]
  · by_cases h2 : x = p
    · subst h2; simp [h1]
    · have h3 : ¬ p = x := fun z => h2 z.symm
      simp [h1, h2, h3]
/-- what is due of the first k points -/
def dueT (b : List Nat) (k : Nat) (d : Nat → Int) (p : Nat) : Int := sumTo k fun q => if p ∈ wayN b q then d q else 0
theorem law_flows_w {h : MH} {bl a c n : Nat} {b : List Nat} {y t : Nat → Int} {Q : MV → MH → Prop} {E : Nat → MH → Prop} (hb : h[bl]? = some (.lst (rows b))) (w : Wf b) (few : b.length < 40) (ha : h[a]? = some (.lst (tab n y))) (hc : h[c]? = some (.lst (tab n t))) (hn : n = b.length + 1)
    (q : ∀ h' x, Pre h h' → h.length ≤ x → h'[x]? = some (.lst (tab n (flowT b n fun k => y k - t k))) → Q (.ref x) h') : wp (law_flows_f [.ref bl, .ref a, .ref c]) h Q E := by
  unfold law_flows_f
  refine wp_fn (by rfl) ?_
  refine wp_cut (R := fun σ h1 => ∃ x, Pre h h1 ∧ h.length ≤ x ∧ h1[x]? = some (.lst (tab n (dueT b 0 fun k => y k - t k))) ∧ σ = [some (.ref bl), some (.ref a), some (.ref c), some (.ref x), none, none]) ?_ ?_
  · rw [w_set]
    refine wp_comp (fun _ => true) (fun _ => .int 0) (src_list rfl ha) (fun h' p => okIn_some (p.get ha)) (by simp [tab_len]; omega) (fun x hx h2 p2 => ?_) (fun x hx _ h2 p2 => ?_) fun h2 p2 => ?_
    · simp [condOf, wp_ret, Pre.refl]
    · simp
      exact .refl
    · refine ⟨_, rfl, h2.length, p2.snoc _, p2.len, ?_, rfl⟩
      rw [List.filter_eq_self.mpr fun _ _ => rfl]
      simp [tab, dueT, sumTo, List.map_map]
      try rfl
  rintro _ h1 ⟨x, p1, lx, gx, rfl⟩
  refine wp_cut (R := fun σ h2 => ∃ u v, Pre h h2 ∧ h2[x]? = some (.lst (tab n (dueT b n fun k => y k - t k))) ∧ σ = [some (.ref bl), some (.ref a), some (.ref c), some (.ref x), u, v]) ?_ ?_
  · rw [w_for]
    have hs : (eUn oLen (eVar 1)) [some (.ref bl), some (.ref a), some (.ref c), some (.ref x), none, none] h1 = .ok (.int n) h1 := by
      simp [eUn, eVar, bnd, ret, oLen, look, p1.get ha, tab_len]
    refine wp_of (src_rng1 (n := n) hs ⟨by omega, by omega⟩ (by omega)) ?_
    refine wp_for (fun k σ h2 => k ≤ n ∧ ∃ u v, Pre h h2 ∧ h2[x]? = some (.lst (tab n (dueT b k fun k => y k - t k))) ∧ σ = [some (.ref bl), some (.ref a), some (.ref c), some (.ref x), u, v]) (fun _ _ _ _ => rfl) (fun k z σ h2 hx ⟨hk, u, v, p2, gx, es⟩ => ?_) (fun σ h2 ⟨hk, u, v, r⟩ => ?_) ⟨by omega, _, _, p1, gx, rfl⟩
    · subst es
      have hk : k < n := by
        have := (List.getElem?_eq_some_iff.mp hx).1
        rwa [upTo_len] at this
      rw [upTo_get hk] at hx
      cases hx
      have e0 : (0 : Int) + (k : Int) = k := by omega
      simp only [setAll, List.set_cons_succ, List.set_cons_zero, e0, w_for, w_iList, w_call, w_acons, w_anil, w_var, List.getElem?_cons_succ, List.getElem?_cons_zero]
      refine law_way_w (p2.get hb) w few (by omega) ?_
      simp only [get_new]
      have ndw := (way_mono w k (by omega)).2
      have mxw := (way_mono w k (by omega)).1
      have lx2 := get_lt gx
      refine wp_for (fun j σ h3 => ∃ u v, Pre h h3 ∧ h3[h2.length]? = some (.lst (nats (wayN b k))) ∧ h3[x]? = some (.lst (tab n fun p => dueT b k (fun k => y k - t k) p + if p ∈ (wayN b k).take j then y k - t k else 0)) ∧ v = some (.int k) ∧ σ = [some (.ref bl), some (.ref a), some (.ref c), some (.ref x), v, u]) (fun _ _ _ i => by obtain ⟨_, _, _, g, _⟩ := i; exact okIn_some g) (fun j z σ h3 hz ⟨u, v, p3, gw, gx3, ev, es⟩ => ?_) (fun σ h3 ⟨u, v, p3, gw, gx3, ev, es⟩ => ?_) ?_
      · subst ev; subst es
        obtain ⟨p, hp, rfl⟩ : ∃ p : Nat, (wayN b k)[j]? = some p ∧ z = [.int p] := by
          rw [List.getElem?_map] at hz
          unfold nats at hz
          rw [List.getElem?_map] at hz
          cases e : (wayN b k)[j]? with
          | none => rw [e] at hz; cases hz
          | some p => rw [e] at hz; cases hz; exact ⟨p, rfl, rfl⟩
        have lp := mxw p (List.mem_of_getElem? hp)
        have l3 := get_lt gx3
        simp [setAll, gx3, tab_at (show p < n by omega), p3.get ha, p3.get hc, tab_at hk, tab_len, ixN_nat (show p < n by omega), tab_set]
        refine ⟨l3, Pre.set p3 lx, get_set_ne gw (by omega), ?_⟩
        rw [get_set l3]
        congr 2
        refine tab_congr fun i hi => ?_
        have st := ite3 (v := y k - t k) (mem_take_succ (p := i) ndw hp)
        by_cases e : i = p
        · subst e
          simp only [if_true] at st ⊢
          rw [st]
          omega
        · have e' : ¬ p = i := fun q => e q.symm
          simp only [e, e', if_false] at st ⊢
          rw [st]
          omega
      · subst ev; subst es
        refine ⟨by omega, _, _, p3, ?_, rfl⟩
        rw [gx3]
        congr 2
        refine tab_congr fun p hp => ?_
        have e : (wayN b k).take (List.map (fun v => [v]) (nats (wayN b k))).length = wayN b k := by
          rw [List.length_map, nats_len, List.take_length]
        rw [e]
        simp [dueT, sumTo]
      · refine ⟨_, _, p2.snoc _, get_new, ?_, rfl, rfl⟩
        rw [get_app gx]
        congr 2
        exact tab_congr fun p hp => by simp
    · rw [upTo_len] at r
      exact ⟨σ, rfl, u, v, r⟩
  rintro _ h2 ⟨u, v, p2, gx, rfl⟩
  simp
  exact q _ _ p2 lx gx
/-! ### the law -/
def takenF (ns : List Int) (k : Nat) : Int := if cell ns (18 + k) % 4 = 3 then cell ns (18 + k) / 4 % 1000001 else cell ns (18 + k) / 4 % 40
theorem datL_two {h : MH} {a c n : Nat} {y t : Nat → Int} (ha : h[a]? = some (.lst (tab n y))) (hc : h[c]? = some (.lst (tab n t))) : datL (dat h 5) [.ref a, .ref c] = some [.list ((tab n y).map rowD), .list ((tab n t).map rowD)] := by
  simp only [datL, dat_flat ha (tab_flat n y), dat_flat hc (tab_flat n t)]
theorem law_true : ∀ ns : List Int, ns.length ≤ 63 → ∃ h', law_f [.scr ns] [] = .ok (.bl true) h' := by
  intro ns _
  suffices w : wp (law_f [.scr ns]) [] (fun v _ => v = .bl true) noE by
    obtain ⟨v, h', e, rfl⟩ := wp_run w
    exact ⟨h', e⟩
  unfold law_f
  refine wp_fn (by rfl) ?_
  have m8 := Int.emod_nonneg (cell ns 0) (show (8 : Int) ≠ 0 by decide)
  have m8' := Int.emod_lt_of_pos (cell ns 0) (show (0 : Int) < 8 by decide)
  refine wp_cut (R := fun σ h => σ = [some (.scr ns), some (.int (1 + cell ns 0 % 8)), none, none, none, none, none, none, none, none, none] ∧ h = []) (by simp [cell_w]) ?_
  rintro _ _ ⟨rfl, rfl⟩
  refine wp_cut (R := fun σ h => ∃ size : Nat, (1 ≤ size ∧ size ≤ 40) ∧ σ = [some (.scr ns), some (.int size), none, none, none, none, none, none, none, none, none] ∧ h = []) ?_ ?_
  · simp [cell_w]
    split
    · exact ⟨30, by omega, rfl⟩
    · exact ⟨(1 + cell ns 0 % 8).toNat, by omega, by omega⟩
  rintro _ _ ⟨size, ⟨s1, s40⟩, rfl, rfl⟩
  have bl := belowOf_len ns 1 size
  have bw := belowOf_wf ns 1 size
  generalize hB : belowOf ns 1 size = B at bl bw
  refine wp_cut (R := fun σ h => ∃ b, h[b]? = some (.lst (rows B)) ∧ σ = [some (.scr ns), some (.int size), some (.ref b), none, none, none, none, none, none, none, none]) ?_ ?_
  · simp
    refine law_below_w (by decide) s1 (by omega) fun h1 p1 l1 => ?_
    rw [hB]
    simp
  rintro _ h1 ⟨b, hb, rfl⟩
  refine wp_cut (R := fun σ h => h = h1 ++ [.lst (tab size (yearF ns 9))] ∧ σ = [some (.scr ns), some (.int size), some (.ref b), some (.ref h1.length), none, none, none, none, none, none, none]) ?_ ?_
  · simp
    exact law_year_w (by decide) (by omega) (by simp)
  rintro _ _ ⟨rfl, rfl⟩
  have hy : (h1 ++ [.lst (tab size (yearF ns 9))])[h1.length]? = some (.lst (tab size (yearF ns 9))) := get_new
  replace hb : (h1 ++ [.lst (tab size (yearF ns 9))])[b]? = some (.lst (rows B)) := get_app hb
  generalize h1 ++ [.lst (tab size (yearF ns 9))] = h2 at hb hy ⊢
  generalize h1.length = yr at hy ⊢
  refine wp_cut (R := fun σ h => h = h2 ++ [.lst (tab 0 (takenF ns))] ∧ σ = [some (.scr ns), some (.int size), some (.ref b), some (.ref yr), some (.ref h2.length), none, none, none, none, none, none]) (by simp; rfl) ?_
  rintro _ _ ⟨rfl, rfl⟩
  refine wp_cut (R := fun σ h => ∃ x y, Pre h2 h ∧ h[h2.length]? = some (.lst (tab size (takenF ns))) ∧ σ = [some (.scr ns), some (.int size), some (.ref b), some (.ref yr), some (.ref h2.length), x, y, none, none, none, none]) ?_ ?_
  · rw [w_for]
    refine wp_of (src_rng1 (n := size) (h' := h2 ++ [.lst (tab 0 (takenF ns))]) rfl ⟨by omega, by omega⟩ (by omega)) ?_
    refine wp_for (fun k σ h => k ≤ size ∧ ∃ x y, Pre h2 h ∧ h[h2.length]? = some (.lst (tab k (takenF ns))) ∧ σ = [some (.scr ns), some (.int size), some (.ref b), some (.ref yr), some (.ref h2.length), x, y, none, none, none, none]) (fun _ _ _ _ => rfl) (fun k z σ h3 hx ⟨hk, u, v, p3, g3, es⟩ => ?_) (fun σ h3 ⟨hk, u, v, r⟩ => ?_) ⟨by omega, _, _, Pre.app _, get_new, rfl⟩
    · subst es
      have hk : k < size := by
        have := (List.getElem?_eq_some_iff.mp hx).1
        rwa [upTo_len] at this
      rw [upTo_get hk] at hx
      cases hx
      have e0 : (0 : Int) + (k : Int) = k := by omega
      have hc : (0 : Int) ≤ 18 + k := by omega
      have tl := tab_len k (takenF ns)
      have l3 := get_lt g3
      have g4 : ∀ o, (h3 ++ [o])[h2.length]? = some (.lst (tab k (takenF ns))) := fun o => get_app g3
      have a0 : ∀ u v : MV, atN [u, v] 0 = some u := fun _ _ => rfl
      have a1 : ∀ u v : MV, atN [u, v] 1 = some v := fun _ _ => rfl
      have fin : ∀ o, Pre h2 ((h3 ++ [o]).set h2.length (.lst (tab (k + 1) (takenF ns)))) ∧ ((h3 ++ [o]).set h2.length (.lst (tab (k + 1) (takenF ns))))[h2.length]? = some (.lst (tab (k + 1) (takenF ns))) := fun o =>
        ⟨Pre.set (p3.snoc o) (Nat.le_refl _), get_set (by simp; omega)⟩
      by_cases c : cell ns (18 + k) % 4 = 3
      · have ey : takenF ns k = cell ns (18 + k) / 4 % 1000001 := by unfold takenF; rw [if_pos c]
        simp [setAll, e0, cell_w hc, c, g3, g4, tl, ← ey, tab_succ, a1]
        refine ⟨by omega, by omega, by omega, ?_⟩
        simpa using fin _
      · have ey : takenF ns k = cell ns (18 + k) / 4 % 40 := by unfold takenF; rw [if_neg c]
        simp [setAll, e0, cell_w hc, c, g3, g4, tl, ← ey, tab_succ, a0]
        refine ⟨by omega, by omega, by omega, ?_⟩
        simpa using fin _
    · rw [upTo_len] at r
      exact ⟨σ, rfl, u, v, r⟩
  rintro _ h3 ⟨x, y, p3, gt, rfl⟩
  replace hb := p3.get hb
  replace hy := p3.get hy
  generalize h2.length = tk at gt ⊢
  have hn : size = B.length + 1 := by omega
  generalize hF : (flowT B size fun k => yearF ns 9 k - takenF ns k) = F
  refine wp_cut (R := fun σ h => ∃ d, Pre h3 h ∧ h[d]? = some (.lst (tab size F)) ∧ σ = [some (.scr ns), some (.int size), some (.ref b), some (.ref yr), some (.ref tk), x, y, some (.ref d), none, none, none]) ?_ ?_
  · simp
    refine law_flows_w hb bw (by omega) hy gt hn fun h4 d p4 ld gd => ?_
    rw [hF] at gd
    exact ⟨p4, d, gd, rfl⟩
  rintro _ h4 ⟨d, p4, gd, rfl⟩
  replace hb := p4.get hb
  replace hy := p4.get hy
  replace gt := p4.get gt
  refine wp_cut (R := fun σ h => ∃ r, Pre h4 h ∧ RiverAt h r B ∧ σ = [some (.scr ns), some (.int size), some (.ref b), some (.ref yr), some (.ref tk), x, y, some (.ref d), some (.ref r), none, none]) ?_ ?_
  · simp
    exact river_init hb bw (by omega) fun h5 p5 R => ⟨rfl, p5, R⟩
  rintro _ h5 ⟨r, p5, R, rfl⟩
  replace hy := p5.get hy
  replace gt := p5.get gt
  replace gd := p5.get gd
  refine wp_cut (R := fun σ h => ∃ e u v, Pre h5 h ∧ h[e]? = some (.lst [.ref u, .ref v]) ∧ h[u]? = some (.lst (tab size (yearF ns 9))) ∧ h[v]? = some (.lst (tab size (takenF ns))) ∧ σ = [some (.scr ns), some (.int size), some (.ref b), some (.ref yr), some (.ref tk), x, y, some (.ref d), some (.ref r), some (.ref e), none]) ?_ ?_
  · simp [hy, get_app gt]
    exact ⟨⟨_, rfl⟩, h5.length + 2, h5.length, h5.length + 1, by simp, by simp, by simp, rfl⟩
  rintro _ h6 ⟨e, u, v, p6, ge, gu, gv, rfl⟩
  replace R := R.pre p6
  replace hy := p6.get hy
  replace gt := p6.get gt
  replace gd := p6.get gd
  have bd : ∀ k, k < size → 0 ≤ yearF ns 9 k ∧ yearF ns 9 k ≤ 1000000 := fun k _ => yearF_bd ns 9 k
  refine wp_cut (R := fun σ h => ∃ f, Pre h6 h ∧ h6.length ≤ f ∧ h[f]? = some (.lst (tab size F)) ∧ σ = [some (.scr ns), some (.int size), some (.ref b), some (.ref yr), some (.ref tk), x, y, some (.ref d), some (.ref r), some (.ref e), some (.ref f)]) ?_ ?_
  · have a0 : ∀ u v : MV, atN [u, v] 0 = some u := fun _ _ => rfl
    have a1 : ∀ u v : MV, atN [u, v] 1 = some v := fun _ _ => rfl
    simp [ge, a0, a1]
    refine flows_w R gu gv hn bd fun h7 f p7 lf gf => ?_
    rw [hF] at gf
    exact ⟨p7, f, lf, gf, rfl⟩
  rintro _ h7 ⟨f, p7, lf, gf, rfl⟩
  have R6 := R
  have hy6 := hy
  have gt6 := gt
  replace R := R.pre p7
  replace hy := p7.get hy
  replace gt := p7.get gt
  have gd7 := p7.get gd
  have ld := get_lt gd
  have ly := get_lt hy
  refine wp_cut (R := fun σ h => Pre h7 h ∧ σ = [some (.scr ns), some (.int size), some (.ref b), some (.ref yr), some (.ref tk), x, y, some (.ref d), some (.ref r), some (.ref e), some (.ref f)]) ?_ ?_
  · simp
    refine sameT_w gf gd7 (by omega) ?_
    simp
    have e1 : (h7 ++ [.lst [.ref yr, .ref tk]])[e]? = some (.lst [.ref u, .ref v]) := get_app (p7.get ge)
    have d1 : dat (h7 ++ [.lst [.ref yr, .ref tk]]) 6 (.ref e) = some (.list [.list ((tab size (yearF ns 9)).map rowD), .list ((tab size (takenF ns)).map rowD)]) := by
      unfold dat
      rw [e1]
      dsimp only
      rw [datL_two (get_app (p7.get gu)) (get_app (p7.get gv))]
    have d2 : dat (h7 ++ [.lst [.ref yr, .ref tk]]) 6 (.ref h7.length) = some (.list [.list ((tab size (yearF ns 9)).map rowD), .list ((tab size (takenF ns)).map rowD)]) := by
      unfold dat
      rw [get_new]
      dsimp only
      rw [datL_two (get_app hy) (get_app gt)]
    refine ne_same_w d1 d2 ?_ rfl ?_
    · have l1 := lay_plain (tab_plain size (yearF ns 9))
      have l2 := lay_plain (tab_plain size (takenF ns))
      have q1 := depth_plain (tab_plain size (yearF ns 9))
      have q2 := depth_plain (tab_plain size (takenF ns))
      simp [PySem.SeqAt.shaped, PySem.PyData.canLay0, PySem.PyData.canLayAll0, PySem.PyData.depth, PySem.PyData.depthAll, l1, l2, q1, q2]
    · simp
      exact Pre.app _
  rintro _ h8 ⟨p8, rfl⟩
  replace R := R.pre p8
  replace hy := p8.get hy
  replace gt := p8.get gt
  have gd8 := p8.get gd7
  have gf8 := p8.get gf
  have lf8 := get_lt gf8
  refine wp_cut (R := fun σ h => RiverAt h r B ∧ h[yr]? = some (.lst (tab size (yearF ns 9))) ∧ h[tk]? = some (.lst (tab size (takenF ns))) ∧ h[d]? = some (.lst (tab size F)) ∧ σ = [some (.scr ns), some (.int size), some (.ref b), some (.ref yr), some (.ref tk), x, y, some (.ref d), some (.ref r), some (.ref e), some (.ref f)]) ?_ ?_
  · have ps : ∀ o, Pre h6 (h8.set f o) := fun o => Pre.set (p7.trans p8) lf
    have ix : ixN size 0 = some 0 := ixN_nat (k := 0) (by omega)
    simp [gf8, tab_len, ix]
    exact ⟨lf8, R6.pre (ps _), (ps _).get hy6, (ps _).get gt6, (ps _).get gd⟩
  rintro _ h9 ⟨R, hy, gt, gd, rfl⟩
  simp [hy, get_app gt]
  refine flows_w (R.pre ⟨_, rfl⟩) (y := yearF ns 9) (t := takenF ns) (by simp) (by simp) hn bd fun h10 f p10 lf gf => ?_
  rw [hF] at gf
  exact sameT_w gf (p10.get (get_app gd)) (by omega) rfl
end L2.Rv

open PySem PySem.W PyProof.Rows
set_option maxRecDepth 100000 in
set_option maxHeartbeats 0 in
theorem PySem.Challenge.cw_riverdue_k04_flows_holds : PySem.Challenge.rw_riverdue_k04_flows.Holds := by
  w_on; o_law; k_head; (case hw => w_witness2)
  k_fill
  refine L2.Rv.walk (l := PySem.Challenge.rw_riverdue_k04_flows) rfl rfl (fun w h Y => PySem.W.kIn_of Y) ?F
  case F =>
    intro w mg fa h KX G hmg
    refine' L2.Rv.all_mk KX G hmg ?x_n_bool ?x_n_int ?x_n_isinstance ?x_n_len ?x_n_list ?x_n_range ?x_n_zip ?x_a_River ?x_a_DueError ?x_a_BadRiver ?x_a_BadYear ?x_a_NoPoint ?x_g_MOST_INFLOW ?x_g_MOST_POINTS ?x_a_check_below ?x_l_check_below ?x_c_check_below ?x_k_check_below ?x_a_River___init__ ?x_i_River___init__ ?x_l_River___init__ ?x_c_River___init__ ?x_k_River___init__ ?x_a_law_cell_at ?x_l_law_cell_at ?x_c_law_cell_at ?x_k_law_cell_at ?x_a_law_below ?x_l_law_below ?x_c_law_below ?x_k_law_below ?x_a_law_way ?x_l_law_way ?x_c_law_way ?x_k_law_way ?x_a_law_flows ?x_l_law_flows ?x_c_law_flows ?x_k_law_flows ?x_a_law_whole ?x_l_law_whole ?x_c_law_whole ?x_k_law_whole ?x_a_law_same ?x_l_law_same ?x_c_law_same ?x_k_law_same ?x_a_law_year ?x_l_law_year ?x_c_law_year ?x_k_law_year ?x_a_River_check_point ?x_i_River_check_point ?x_l_River_check_point ?x_c_River_check_point ?x_k_River_check_point ?x_a_River_below ?x_i_River_below ?x_l_River_below ?x_c_River_below ?x_k_River_below ?x_a_River_points ?x_i_River_points ?x_l_River_points ?x_c_River_points ?x_k_River_points ?x_a_check_year ?x_l_check_year ?x_c_check_year ?x_k_check_year ?x_a_flows ?x_l_flows ?x_c_flows ?x_k_flows ?x_a_law ?x_l_law ?x_c_law ?x_k_law ?x_pg_River ?x_hd_River ?x_po_River ?x_sa_River ?x_mk_River ?x_kc_River ?x_na_River_runs_to ?x_kt_bool_NoneType ?x_kt_bool_bool ?x_kt_bool_int ?x_kt_bool_str ?x_kt_bool_list ?x_kt_bool_tuple ?x_kt_int_NoneType ?x_kt_int_bool ?x_kt_int_int ?x_kt_int_str ?x_kt_int_list ?x_kt_int_tuple ?x_kt_list_NoneType ?x_kt_list_bool ?x_kt_list_int ?x_kt_list_str ?x_kt_list_list ?x_kt_list_tuple ?x_sp_cls ?x_tk_cls ?x_e1_DueError ?x_e2_DueError ?x_e3_DueError ?x_e4_DueError ?x_e5_DueError ?x_e6_DueError ?x_e7_DueError ?x_e1_BadRiver ?x_e2_BadRiver ?x_e3_BadRiver ?x_e4_BadRiver ?x_e5_BadRiver ?x_e6_BadRiver ?x_e7_BadRiver ?x_e1_BadYear ?x_e2_BadYear ?x_e3_BadYear ?x_e4_BadYear ?x_e5_BadYear ?x_e6_BadYear ?x_e7_BadYear ?x_e1_NoPoint ?x_e2_NoPoint ?x_e3_NoPoint ?x_e4_NoPoint ?x_e5_NoPoint ?x_e6_NoPoint ?x_e7_NoPoint ?x_ei_BadRiver ?x_ei_BadYear ?x_ei_NoPoint ?hold
    (case x_n_bool => k_is)
    (case x_n_int => k_is)
    (case x_n_isinstance => k_is)
    (case x_n_len => k_is)
    (case x_n_list => k_is)
    (case x_n_range => k_is)
    (case x_n_zip => k_is)
    (case x_a_River => k_is)
    (case x_a_DueError => k_is)
    (case x_a_BadRiver => k_is)
    (case x_a_BadYear => k_is)
    (case x_a_NoPoint => k_is)
    (case x_g_MOST_INFLOW => k_is)
    (case x_g_MOST_POINTS => k_is)
    (case x_a_check_below => k_is)
    (case x_l_check_below => k_is)
    (case x_c_check_below => k_is)
    (case x_k_check_below => k_is)
    (case x_a_River___init__ => k_is)
    (case x_i_River___init__ => k_is)
    (case x_l_River___init__ => k_is)
    (case x_c_River___init__ => k_is)
    (case x_k_River___init__ => k_is)
    (case x_a_law_cell_at => k_is)
    (case x_l_law_cell_at => k_is)
    (case x_c_law_cell_at => k_is)
    (case x_k_law_cell_at => k_is)
    (case x_a_law_below => k_is)
    (case x_l_law_below => k_is)
    (case x_c_law_below => k_is)
    (case x_k_law_below => k_is)
    (case x_a_law_way => k_is)
    (case x_l_law_way => k_is)
    (case x_c_law_way => k_is)
    (case x_k_law_way => k_is)
    (case x_a_law_flows => k_is)
    (case x_l_law_flows => k_is)
    (case x_c_law_flows => k_is)
    (case x_k_law_flows => k_is)
    (case x_a_law_whole => k_is)
    (case x_l_law_whole => k_is)
    (case x_c_law_whole => k_is)
    (case x_k_law_whole => k_is)
    (case x_a_law_same => k_is)
    (case x_l_law_same => k_is)
    (case x_c_law_same => k_is)
    (case x_k_law_same => k_is)
    (case x_a_law_year => k_is)
    (case x_l_law_year => k_is)
    (case x_c_law_year => k_is)
    (case x_k_law_year => k_is)
    (case x_a_River_check_point => k_is)
    (case x_i_River_check_point => k_is)
    (case x_l_River_check_point => k_is)
    (case x_c_River_check_point => k_is)
    (case x_k_River_check_point => k_is)
    (case x_a_River_below => k_is)
    (case x_i_River_below => k_is)
    (case x_l_River_below => k_is)
    (case x_c_River_below => k_is)
    (case x_k_River_below => k_is)
    (case x_a_River_points => k_is)
    (case x_i_River_points => k_is)
    (case x_l_River_points => k_is)
    (case x_c_River_points => k_is)
    (case x_k_River_points => k_is)
    (case x_a_check_year => k_is)
    (case x_l_check_year => k_is)
    (case x_c_check_year => k_is)
    (case x_k_check_year => k_is)
    (case x_a_flows => k_is)
    (case x_l_flows => k_is)
    (case x_c_flows => k_is)
    (case x_k_flows => k_is)
    (case x_a_law => k_is)
    (case x_l_law => k_is)
    (case x_c_law => k_is)
    (case x_k_law => k_is)
    (case x_pg_River => k_is)
    (case x_hd_River => k_is)
    (case x_po_River => k_is)
    (case x_sa_River => k_is)
    (case x_mk_River => k_is)
    (case x_kc_River => k_is)
    (case x_na_River_runs_to => k_is)
    (case x_kt_bool_NoneType => kit_is)
    (case x_kt_bool_bool => kit_is)
    (case x_kt_bool_int => kit_is)
    (case x_kt_bool_str => kit_is)
    (case x_kt_bool_list => kit_is)
    (case x_kt_bool_tuple => kit_is)
    (case x_kt_int_NoneType => kit_is)
    (case x_kt_int_bool => kit_is)
    (case x_kt_int_int => kit_is)
    (case x_kt_int_str => kit_is)
    (case x_kt_int_list => kit_is)
    (case x_kt_int_tuple => kit_is)
    (case x_kt_list_NoneType => kit_is)
    (case x_kt_list_bool => kit_is)
    (case x_kt_list_int => kit_is)
    (case x_kt_list_str => kit_is)
    (case x_kt_list_list => kit_is)
    (case x_kt_list_tuple => kit_is)
    (case x_sp_cls => k_is)
    (case x_tk_cls => k_is)
    (case x_e1_DueError => k_is)
    (case x_e2_DueError => k_is)
    (case x_e3_DueError => k_is)
    (case x_e4_DueError => k_is)
    (case x_e5_DueError => k_is)
    (case x_e6_DueError => k_is)
    (case x_e7_DueError => k_is)
    (case x_e1_BadRiver => k_is)
    (case x_e2_BadRiver => k_is)
    (case x_e3_BadRiver => k_is)
    (case x_e4_BadRiver => k_is)
    (case x_e5_BadRiver => k_is)
    (case x_e6_BadRiver => k_is)
    (case x_e7_BadRiver => k_is)
    (case x_e1_BadYear => k_is)
    (case x_e2_BadYear => k_is)
    (case x_e3_BadYear => k_is)
    (case x_e4_BadYear => k_is)
    (case x_e5_BadYear => k_is)
    (case x_e6_BadYear => k_is)
    (case x_e7_BadYear => k_is)
    (case x_e1_NoPoint => k_is)
    (case x_e2_NoPoint => k_is)
    (case x_e3_NoPoint => k_is)
    (case x_e4_NoPoint => k_is)
    (case x_e5_NoPoint => k_is)
    (case x_e6_NoPoint => k_is)
    (case x_e7_NoPoint => k_is)
    (case x_ei_BadRiver => k_exc)
    (case x_ei_BadYear => k_exc)
    (case x_ei_NoPoint => k_exc)
    (case hold => exact L2.Rv.law_true)

