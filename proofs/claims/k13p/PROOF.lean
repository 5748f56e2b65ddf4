import PyProof.Rows.All
import Wide.All
import OpenK.AllK
import Wide.FinOn
import PyProof.EqAt
import PyProof.EqKinds
import PyProof.TupleCall
import KE.BitLaws
import PyProof.SetScanFacts
import KE.KSortTup
import PySem.Challenge.RW_pagefeeder_k13_written_and_read
set_option Elab.async false
set_option linter.all false
set_option maxRecDepth 100000
set_option maxHeartbeats 4000000

/-! THE HAND LAYER, for ints, bools, texts, own classes, lists, tuples, dicts, comprehensions, walks over dicts, enumerate, zip, reversed, texts, calls, loops. Paste it whole ahead of your own text; what your proof does not reach may be deleted. -/
namespace L2
open PySem PySem.Spec PyProof.Rows

/-- a key: an int, a str or None -/
inductive Key where
  | inl (i : Int) | inr (x : Str) | no
  deriving DecidableEq
def isNon : Value → Bool
  | .none => true
  | _ => false
theorem isNon_eq {v : Value} (h : isNon v = true) : v = .none := by cases v <;> first | rfl | cases h
def keyIs : Key → Value → Bool
  | .inl k, v => Value.isInt k v
  | .inr x, v => Value.isStrOf x v
  | .no, v => isNon v
def keyH (w : World) : Key → Int
  | .inl k => hashInt k
  | .inr x => hashStr w x
  | .no => 0xFCA86420
theorem keyIs_shape : ∀ {k : Key} {v : Value}, keyIs k v = true → (∃ i t, k = Key.inl i ∧ v = Value.int i t) ∨ (∃ x t, k = Key.inr x ∧ v = Value.str x t) ∨ (k = Key.no ∧ v = Value.none)
  | .inl i, v, h => by
    obtain ⟨t, e⟩ := Value.isInt_shape (k := i) (v := v) h
    exact .inl ⟨i, t, rfl, e⟩
  | .inr x, v, h => by
    obtain ⟨t, e⟩ := Value.isStrOf_shape (x := x) (v := v) h
    exact .inr (.inl ⟨x, t, rfl, e⟩)
  | .no, v, h => .inr (.inr ⟨rfl, isNon_eq h⟩)
theorem keyIs_int (i : Int) (t : Tok) : keyIs (.inl i) (.int i t) = true := by simp [keyIs, Value.isInt]
theorem keyIs_str (x : Str) (t : Tok) : keyIs (.inr x) (.str x t) = true := by simp [keyIs, Value.isStrOf]
theorem key_ll (a b : Int) : decide ((Key.inl a : Key) = Key.inl b) = (a == b) := by
  by_cases e : a = b
  · subst e; simp
  · have h : ¬ (Key.inl a : Key) = Key.inl b := fun q => e (Key.inl.inj q)
    rw [decide_eq_false h]
    exact (beq_eq_false_iff_ne.mpr e).symm
theorem key_rr (a b : Str) : decide ((Key.inr a : Key) = Key.inr b) = decide (a = b) := by
  by_cases e : a = b
  · subst e; simp
  · have h : ¬ (Key.inr a : Key) = Key.inr b := fun q => e (Key.inr.inj q)
    rw [decide_eq_false h, decide_eq_false e]
theorem hash_non {prog : Program} {w : World} {A : Around} {E : Value → Shared → Prop} {s : Shared} {Q : Int → Shared → Prop} (h : Q 0xFCA86420 { s with toks := s.toks + 1 }) : wpAny (model prog w) A (pyHash .none) Q E s := by
  have hT : s.TypeIs Value.none "NoneType" := PySem.typeIs_none s
  unfold pyHash
  first | unfold pyHashByItsType | skip
  have hv : [Value.none].any Value.onHeap = false := rfl
  refine wpAny_bind ?_
  rw [cRoomFor, if_neg (by rw [hv]; exact Bool.false_ne_true)]; refine wpAny_pure ?_
  refine wpAny_bind (wpAny_specialOf hT PySem.F.slot_NoneType_hash.lookup ?_)
  show wpAny _ _ (if (some (Value.builtin "NoneType.__hash__") == some Value.none) = true then _ else _) Q E s
  rw [if_neg (by rw [beq_builtin_none]; exact Bool.false_ne_true)]
  refine wpAny_bind (wpAny_specialOf hT PySem.F.slot_NoneType_hash.lookup ?_)
  show wpAny _ _ (callSpecialIfBoundUnlessNone? Value.none "__hash__" _ >>= _) Q E s
  refine wpAny_bind (wpAny_callSpecialIfBoundUnlessNone?_slot hT PySem.F.slot_NoneType_hash (wpAny_call_entry PySem.F.slot_NoneType_hash hT PySem.F.entry_NoneType_hash ?_ (PySem.F.args_NoneType_hash_1 _)))
  show wpAny _ _ (do ret (← mkInt 0xFCA86420)) _ _ s
  refine wpAny_ret_mkInt ?_
  exact wpAny_pure h
def mixKind (prog : Program) (w : World) : PySem.KeyKind prog w Key where
  is := keyIs
  hash := keyH w
  inj := fun v a b ha hb => by
    rcases keyIs_shape ha with ⟨i, t, rfl, rfl⟩ | ⟨x, t, rfl, rfl⟩ | ⟨rfl, rfl⟩
    · rcases keyIs_shape hb with ⟨j, u, rfl, e⟩ | ⟨y, u, rfl, e⟩ | ⟨rfl, e⟩
      · injection e with e1 _; rw [e1]
      · exact nomatch e
      · exact nomatch e
    · rcases keyIs_shape hb with ⟨j, u, rfl, e⟩ | ⟨y, u, rfl, e⟩ | ⟨rfl, e⟩
      · exact nomatch e
      · injection e with e1 _; rw [e1]
      · exact nomatch e
    · rcases keyIs_shape hb with ⟨j, u, rfl, e⟩ | ⟨y, u, rfl, e⟩ | ⟨rfl, e⟩
      · exact nomatch e
      · exact nomatch e
      · rfl
  byValue := fun k v h => by
    rcases keyIs_shape h with ⟨i, t, rfl, rfl⟩ | ⟨x, t, rfl, rfl⟩ | ⟨rfl, rfl⟩ <;> rfl
  pyHash := fun hv h => by
    rcases keyIs_shape hv with ⟨i, t, rfl, rfl⟩ | ⟨x, t, rfl, rfl⟩ | ⟨rfl, rfl⟩
    · exact wpAny_pyHash_int h
    · exact wpAny_pyHash_str h
    · exact hash_non h
  eqBool := fun hu hv h => by
    rcases keyIs_shape hu with ⟨i, t, rfl, rfl⟩ | ⟨x, t, rfl, rfl⟩ | ⟨rfl, rfl⟩
    · rcases keyIs_shape hv with ⟨j, u, rfl, rfl⟩ | ⟨y, u, rfl, rfl⟩ | ⟨rfl, rfl⟩
      · rw [key_ll] at h; exact wpAny_eqBool_int h
      · exact SeqAt.EqAt.int_str i t y u _ _ _ _ h
      · exact SeqAt.EqAt.int_none i t _ _ _ _ h
    · rcases keyIs_shape hv with ⟨j, u, rfl, rfl⟩ | ⟨y, u, rfl, rfl⟩ | ⟨rfl, rfl⟩
      · exact SeqAt.EqAt.str_int x t j u _ _ _ _ h
      · rw [key_rr] at h; exact wpAny_eqBool_str h
      · exact SeqAt.EqAt.str_none x t _ _ _ _ h
    · rcases keyIs_shape hv with ⟨j, u, rfl, rfl⟩ | ⟨y, u, rfl, rfl⟩ | ⟨rfl, rfl⟩
      · exact SeqAt.EqAt.none_int j u _ _ _ _ h
      · exact SeqAt.EqAt.none_str y u _ _ _ _ h
      · exact SeqAt.EqAt.same _ _ _ _ _ h
  «strs» := fun k x t v h => by
    rcases keyIs_shape h with ⟨i, u, rfl, e⟩ | ⟨y, u, rfl, e⟩ | ⟨rfl, e⟩
    · exact nomatch e
    · injection e with e1 _
      subst e1
      cases v <;> rfl
    · exact nomatch e

theorem mixKind_int (prog : Program) (w : World) (i : Int) (t : Tok) : (mixKind prog w).is (.inl i) (.int i t) = true := keyIs_int i t
theorem mixKind_str (prog : Program) (w : World) (x : Str) (t : Tok) : (mixKind prog w).is (.inr x) (.str x t) = true := keyIs_str x t
end L2

namespace L2
open PySem PySem.Spec PyProof.Rows

/-- a value, without the heap -/
inductive V where
  | non | bl (b : Bool) | int (i : Int) | str (x : Str) | byt (b : Array UInt8) | flt (b : UInt64) | ref (a : Addr) | ty (n : String)
  deriving DecidableEq

def RelV : V → Value → Prop
  | .non, u => u = Value.none
  | .bl b, u => u = Value.bool b
  | .int i, u => ∃ t, u = Value.int i t
  | .str x, u => ∃ t, u = Value.str x t
  | .byt b, u => ∃ t, u = Value.bytes b t
  | .flt b, u => ∃ t, u = Value.float b t
  | .ref a, u => u = Value.ref a
  | .ty n, u => u = Value.type n

abbrev Vals : List V → List Value → Prop := Paired RelV
theorem Vals.length {xs : List V} {us : List Value} (r : Vals xs us) : xs.length = us.length := Paired.length r
theorem Vals.get : ∀ {xs : List V} {us : List Value} {i : Nat} {x : V}, Vals xs us → xs[i]? = some x → ∃ u, us[i]? = some u ∧ RelV x u
  | _, _, _, _, .nil, e => by simp at e
  | _, _, 0, _, .cons r _, e => by simp at e; subst e; exact ⟨_, rfl, r⟩
  | _, _, i + 1, x, .cons _ t, e => by
    obtain ⟨u, h1, h2⟩ := Vals.get (i := i) (x := x) t (by simpa using e)
    exact ⟨u, by simpa using h1, h2⟩
theorem Vals.set {x : V} {u : Value} (r : RelV x u) : ∀ {xs : List V} {us : List Value} (i : Nat), Vals xs us → Vals (xs.set i x) (us.set i u)
  | _, _, _, .nil => .nil
  | _, _, 0, .cons _ t => .cons r t
  | _, _, i + 1, .cons q t => .cons q (Vals.set r i t)
theorem Vals.append : ∀ {xs ys : List V} {us ws : List Value}, Vals xs us → Vals ys ws → Vals (xs ++ ys) (us ++ ws)
  | _, _, _, _, .nil, s => s
  | _, _, _, _, .cons r t, s => .cons r (Vals.append t s)
theorem Vals.take : ∀ {xs : List V} {us : List Value} (n : Nat), Vals xs us → Vals (xs.take n) (us.take n)
  | _, _, 0, _ => .nil
  | _, _, _ + 1, .nil => .nil
  | _, _, n + 1, .cons r t => .cons r (Vals.take n t)
theorem Vals.drop : ∀ {xs : List V} {us : List Value} (n : Nat), Vals xs us → Vals (xs.drop n) (us.drop n)
  | _, _, 0, r => r
  | _, _, _ + 1, .nil => .nil
  | _, _, n + 1, .cons _ t => Vals.drop n t
def RelO : Option V → Option Value → Prop
  | some v, some u => RelV v u
  | none, none => True
  | _, _ => False
def KV {κ : Type} : List (κ × V) → List (κ × Value) → Prop := Paired fun (p : κ × V) (q : κ × Value) => p.1 = q.1 ∧ RelV p.2 q.2

/-- a key of a dict (00_mix): an int or a text -/
def kV : Key → V
  | .inl i => .int i
  | .inr x => .str x
  | .no => .non

/-- what stands at a tracked address -/
inductive HO where
  /-- a list -/
  | lst (xs : List V)
  /-- a tuple (never changes) -/
  | tup (xs : List V)
  /-- a dict whose keys are ints and texts; one whose keys are tuples of ints and texts (the empty one is both) -/
  | dK (kvs : List (Key × V)) | dT (kvs : List (List Key × V))
  /-- a set of ints: its members, its size -/
  | set (S : Int → Bool) (n : Nat)
  /-- an instance of the class at C, its dict at dx, its attributes -/
  | ins (C dx : Addr) (fs : List (Str × V))
  /-- the dict of the instance at x -/
  | own (x : Addr)
  /-- the dict of an exception -/
  | xd (fs : List (Str × V))
  /-- a bound method, f of x -/
  | met (f x : Addr)
  /-- a range object lo, lo + 1, .. below hi -/
  | rng (lo hi : Int)
  /-- a thing that is known to the object (the script; a dict while a loop walks it): read, never written while it is so -/
  | frz (o : Obj) (u : HO)
  /-- a code object's table -/
  | tbl (ps : Array Value)
  /-- a code object's table, each of whose code objects is known and tells this name -/
  | tab (q : Str)
  /-- any other thing, by what is true of its one object (a def of one's own: SetO a S n := HO.ext fun h => ..) -/
  | ext (φ : Heap → Prop)

abbrev Hp := Addr → Option HO
def upd (H : Hp) (a : Addr) (o : HO) : Hp := fun b => if b = a then some o else H b
theorem upd_same {H : Hp} {a : Addr} {o : HO} : upd H a o a = some o := by unfold upd; rw [if_pos rfl]
theorem upd_ne {H : Hp} {a b : Addr} {o : HO} (h : b ≠ a) : upd H a o b = H b := by unfold upd; rw [if_neg h]
theorem ne_of_none {H : Hp} {a b : Addr} {o : HO} (h : H a = some o) (h' : H b = none) : a ≠ b := by
  intro e; subst e; rw [h] at h'; cases h'

section
variable (P : Program) (w : World)
def ObjOk (H : Hp) (h : Heap) (a : Addr) : HO → Prop
  | .lst xs => xs.length ≤ sizeLine ∧ ∃ (its : List Value) (n : Nat), Vals xs its ∧ h.get? a = some { cls := .type "list", data := .seq its.toArray n }
  | .tup xs => xs.length ≤ sizeLine ∧ ∃ its : List Value, Vals xs its ∧ IsTup h a its.toArray
  | .dK kvs => kvs.length ≤ sizeLine ∧ (a == sysModules) = false ∧ ∃ vs, KV kvs vs ∧ h.DictOf (mixKind P w) a vs
  | .dT kvs => kvs.length ≤ sizeLine ∧ (a == sysModules) = false ∧ ∃ xs : List (List Key × Addr × Value),
      Paired (fun (p : List Key × V) (q : List Key × Addr × Value) => p.1 = q.1 ∧ H q.2.1 = some (.tup (p.1.map kV)) ∧ RelV p.2 q.2.2) kvs xs ∧
      ∃ o es ep, h.get? a = some o ∧ o.ExactDict ∧ o.data = .dict es ep ∧ es.toList = xs.map (entryOfKey (tupleKind (mixKind P w))) ∧ (xs.map (·.1)).Nodup
  | .set S n => h.SetOf (intKind P w) a S n
  | .ins C dx fs => H dx = some (.own a) ∧ fs.length ≤ 1000 ∧ dx ≠ a ∧ h.get? a = some (PySem.W.instObj C dx) ∧
      ∃ mA, h.Ns1 dx mA ∧ (∀ f, RelO (fs.lookup f) (mA f)) ∧ PySem.Within mA (fs.map (·.1))
  | .own _ => ∃ o, h.get? a = some o
  | .xd fs => ∃ mA, h.Ns1 a mA ∧ ∀ f, RelO (fs.lookup f) (mA f)
  | .rng lo hi => ∃ t u v, h.get? a = some { cls := .type "range", data := .fields #[.int lo t, .int hi u, .int 1 v] }
  | .frz o u => h.get? a = some o ∧ ObjOk H h a u
  | .tbl ps => h.get? a = some { cls := .none, data := .fields ps }
  | .tab q => ∃ ps : Array Value, h.get? a = some { cls := .none, data := .fields ps } ∧ PySem.TriplesOk ps.toList ∧ ∀ pos cv, PySem.codeAmong pos ps.toList = some cv → ∃ (c : Addr) (oc : Obj) (vs : Array Value) (t : Tok), cv = .ref c ∧ H c = some (.frz oc (.own c)) ∧ oc.data = .fields vs ∧ vs[1]? = some (.str q t)
  | .met f x => h.get? a = some (PySem.W.methodObj (.ref f) (.ref x))
  | .ext φ => φ h ∧ (∃ o, h.get? a = some o) ∧ ∀ h1 h2 : Heap, φ h1 → (∀ o, h1.get? a = some o → h2.get? a = some o) → φ h2
/-- the abstract heap is held -/
def HOk (H : Hp) (h : Heap) : Prop := ∀ a o, H a = some o → ObjOk P w H h a o
end

section
variable {P : Program} {w : World} {H H' : Hp} {h h' : Heap} {a : Addr} {o : HO}
theorem ObjOk.lt (x : ObjOk P w H h a o) : a < h.objs.size := by
  cases o with
  | lst xs => obtain ⟨_, _, _, _, e⟩ := x; exact Heap.lt_size e
  | tup xs => obtain ⟨_, _, _, p⟩ := x; exact p.lt
  | dK kvs => obtain ⟨_, _, _, _, o, _, _, e, _⟩ := x; exact Heap.lt_size e
  | dT kvs => obtain ⟨_, _, _, _, o, _, _, e, _⟩ := x; exact Heap.lt_size e
  | set S n => obtain ⟨o, _, _, _, e, _⟩ := x; exact Heap.lt_size e
  | ins C dx fs => obtain ⟨_, _, _, e, _⟩ := x; exact Heap.lt_size e
  | own y => obtain ⟨_, e⟩ := x; exact Heap.lt_size e
  | xd fs => obtain ⟨_, ⟨_, _, _, e, _⟩, _⟩ := x; exact Heap.lt_size e
  | rng lo hi => obtain ⟨_, _, _, e⟩ := x; exact Heap.lt_size e
  | frz ob u => obtain ⟨e, _⟩ := x; exact Heap.lt_size e
  | tbl ps => exact Heap.lt_size (show h.get? a = some _ from x)
  | tab q => obtain ⟨_, e, _⟩ := x; exact Heap.lt_size e
  | met f y => exact Heap.lt_size (show h.get? a = some _ from x)
  | ext φ => obtain ⟨_, ⟨_, e⟩, _⟩ := x; exact Heap.lt_size e
theorem Paired.mapP {α β : Type} {F G : α → β → Prop} : ∀ {l₁ : List α} {l₂ : List β}, Paired F l₁ l₂ → (∀ a b, F a b → G a b) → Paired G l₁ l₂
  | _, _, .nil, _ => .nil
  | _, _, .cons r t, f => .cons (f _ _ r) (Paired.mapP t f)
/-- what an object's description leans on: its own object, its own dict, the tuples -/
theorem ObjOk.stay (x : ObjOk P w H h a o) (k : ∀ b u, (b = a ∨ H b = some (.own a)) → h.get? b = some u → h'.get? b = some u)
    (ho : ∀ b, H b = some (.own a) → H' b = some (.own a)) (ht : ∀ b xs, H b = some (.tup xs) → H' b = some (.tup xs)) (hz : ∀ b oc y, H b = some (.frz oc (.own y)) → H' b = some (.frz oc (.own y))) : ObjOk P w H' h' a o := by
  induction o with
  | lst xs => obtain ⟨z, its, n, r, e⟩ := x; exact ⟨z, its, n, r, k _ _ (.inl rfl) e⟩
  | tup xs => obtain ⟨z, its, r, ob, e, c⟩ := x; exact ⟨z, its, r, ob, k _ _ (.inl rfl) e, c⟩
  | dK kvs => obtain ⟨z, y, vs, r, ob, es, ep, e, c⟩ := x; exact ⟨z, y, vs, r, ob, es, ep, k _ _ (.inl rfl) e, c⟩
  | dT kvs =>
    obtain ⟨z, y, xs, r, ob, es, ep, e, c⟩ := x
    exact ⟨z, y, xs, Paired.mapP r fun p q z => ⟨z.1, ht _ _ z.2.1, z.2.2⟩, ob, es, ep, k _ _ (.inl rfl) e, c⟩
  | set S n => obtain ⟨ob, es, ep, t, e, c⟩ := x; exact ⟨ob, es, ep, t, k _ _ (.inl rfl) e, c⟩
  | ins C dx fs =>
    obtain ⟨d, z, ne, e, mA, ⟨od, es, ep, e2, c⟩, r⟩ := x
    exact ⟨ho _ d, z, ne, k _ _ (.inl rfl) e, mA, ⟨od, es, ep, k _ _ (.inr d) e2, c⟩, r⟩
  | own y => obtain ⟨ob, e⟩ := x; exact ⟨ob, k _ _ (.inl rfl) e⟩
  | xd fs => obtain ⟨mA, ⟨od, es, ep, e, c⟩, r⟩ := x; exact ⟨mA, ⟨od, es, ep, k _ _ (.inl rfl) e, c⟩, r⟩
  | rng lo hi => obtain ⟨t, u, v, e⟩ := x; exact ⟨t, u, v, k _ _ (.inl rfl) e⟩
  | frz ob u ih => obtain ⟨e, q⟩ := x; exact ⟨k _ _ (.inl rfl) e, ih q⟩
  | tbl ps =>
    have e : h.get? a = some { cls := .none, data := .fields ps } := x
    show h'.get? a = some { cls := .none, data := .fields ps }
    exact k a _ (.inl rfl) e
  | tab q =>
    obtain ⟨ps, e, tr, c⟩ := x
    refine ⟨ps, k a _ (.inl rfl) e, tr, fun pos cv z => ?_⟩
    obtain ⟨c', oc, vs, t, e1, e2, e3⟩ := c pos cv z
    exact ⟨c', oc, vs, t, e1, hz _ _ _ e2, e3⟩
  | met f y =>
    have e : h.get? a = some (PySem.W.methodObj (.ref f) (.ref y)) := x
    show h'.get? a = some (PySem.W.methodObj (.ref f) (.ref y))
    exact k a _ (.inl rfl) e
  | ext φ => obtain ⟨p, ⟨o, e⟩, st⟩ := x; exact ⟨st _ _ p fun o q => k _ _ (.inl rfl) q, ⟨o, k _ _ (.inl rfl) e⟩, st⟩
theorem HOk.lt (x : HOk P w H h) (e : H a = some o) : a < h.objs.size := (x a o e).lt
theorem HOk.fresh (x : HOk P w H h) (e : h.objs.size ≤ a) : H a = none := by
  cases q : H a with
  | none => rfl
  | some u => exact absurd (Nat.lt_of_lt_of_le (x.lt q) e) (Nat.lt_irrefl _)
/-- every object of the heap is kept -/
theorem HOk.kept (x : HOk P w H h) (k : ∀ b u, h.get? b = some u → h'.get? b = some u) : HOk P w H h' := fun a o e =>
  (x a o e).stay (fun b u _ q => k b u q) (fun _ q => q) (fun _ _ q => q) fun _ _ _ q => q
/-- a new object is laid and tracked -/
theorem HOk.laid (x : HOk P w H h) (k : ∀ b u, h.get? b = some u → h'.get? b = some u) (hp : h.objs.size ≤ a) (new : ObjOk P w (upd H a o) h' a o) : HOk P w (upd H a o) h' := fun b u e => by
  have hn := x.fresh hp
  by_cases hb : b = a
  · subst hb; rw [upd_same] at e; cases e; exact new
  · rw [upd_ne hb] at e
    exact (x b u e).stay (fun c v _ q => k c v q) (fun c q => by rw [upd_ne (ne_of_none q hn)]; exact q) (fun c xs q => by rw [upd_ne (ne_of_none q hn)]; exact q) fun c oc y q => by rw [upd_ne (ne_of_none q hn)]; exact q
end

/-- what may be read as u: it is u, or a known u -/
def Rd (H : Hp) (a : Addr) (u : HO) : Prop := H a = some u ∨ ∃ o, H a = some (.frz o u)
theorem Rd.of {H : Hp} {a : Addr} {u : HO} (h : H a = some u) : Rd H a u := .inl h
theorem Rd.ok {P : Program} {w : World} {H : Hp} {h : Heap} {a : Addr} {u : HO} (r : Rd H a u) (x : HOk P w H h) : ObjOk P w H h a u := by
  rcases r with r | ⟨o, r⟩
  · exact x a u r
  · obtain ⟨_, q⟩ := x a _ r
    exact q
/-- what may be written -/
def Mut : Option HO → Prop
  | some (.lst _) => True
  | some (.dK _) => True
  | some (.dT _) => True
  | some (.set _ _) => True
  | some (.ins _ _ _) => True
  | some (.ext _) => True
  | _ => False
section
variable {P : Program} {w : World} {H : Hp} {h h' : Heap} {x e : Addr} {o' : HO}
/-- the object at e is changed: x itself, or the dict of the instance x -/
theorem HOk.write (ok : HOk P w H h) (mu : Mut (H x)) (he : e = x ∨ H e = some (.own x)) (k : ∀ b u, b ≠ e → h.get? b = some u → h'.get? b = some u) (heo : ∃ u, h'.get? e = some u)
    (new : ObjOk P w (upd H x o') h' x o') : HOk P w (upd H x o') h' := fun b u q => by
  have nown : ∀ c y, H c = some (.own y) → c ≠ x := fun c y r z => by subst z; rw [r] at mu; exact mu
  have ntup : ∀ c xs, H c = some (.tup xs) → c ≠ x := fun c xs r z => by subst z; rw [r] at mu; exact mu
  have nfrz : ∀ c oc y, H c = some (.frz oc (.own y)) → c ≠ x := fun c oc y r z => by subst z; rw [r] at mu; exact mu
  by_cases hb : b = x
  · subst hb; rw [upd_same] at q; cases q; exact new
  · rw [upd_ne hb] at q
    by_cases hbe : b = e
    · have q' : H b = some (.own x) := by
        rcases he with z | z
        · exact absurd (hbe.trans z) hb
        · rw [hbe]; exact z
      rw [q] at q'; cases q'
      obtain ⟨v, hv⟩ := heo
      exact ⟨v, by rw [hbe]; exact hv⟩
    · refine (ok b u q).stay (fun c v hc r => k c v ?_ r) (fun c r => by rw [upd_ne (nown c b r)]; exact r) (fun c xs r => by rw [upd_ne (ntup c xs r)]; exact r) fun c oc y r => by rw [upd_ne (nfrz c oc y r)]; exact r
      rcases hc with rfl | hc
      · exact hbe
      · rintro rfl
        rcases he with z | z
        · exact nown c b hc z
        · rw [hc] at z; cases z; exact hb rfl
end

/-! ### kept unless tracked; of the frames at fs (the callers') the slots may change (an exception that passes writes there); of the records at ex (iterators) nothing is said -/
structure Un (fs ex : List Addr) (H H' : Hp) (h h' : Heap) : Prop where
  keep : ∀ b o, h.get? b = some o → H b = none → b ∉ fs → b ∉ ex → h'.get? b = some o
  slot : ∀ b o, h.get? b = some o → H b = none → b ∈ fs → b ∉ ex → ∃ sl, h'.get? b = some { o with slots := sl }
  free : ∀ b o, h.get? b = some o → H b = none → b ∉ ex → H' b = none
  there : ∀ b o, h.get? b = some o → b ∉ ex → ∃ o', h'.get? b = some o'
  tups : ∀ b xs, H b = some (.tup xs) → H' b = some (.tup xs)
  frzs : ∀ b o u, H b = some (.frz o u) → H' b = some (.frz o u)
  tbls : ∀ b ps, H b = some (.tbl ps) → ∃ more, H' b = some (.tbl (ps ++ more))
section
variable {fs fs' ex ex' : List Addr} {H H1 H2 : Hp} {h h1 h2 h' : Heap} {a x e : Addr} {o : HO}
theorem Un.any (u : Un fs ex H H1 h h1) {b : Addr} {ob : Obj} (q : h.get? b = some ob) (n : H b = none) (hx : b ∉ ex) : ∃ sl, h1.get? b = some { ob with slots := sl } := by
  by_cases hb : b ∈ fs
  · exact u.slot b ob q n hb hx
  · exact ⟨ob.slots, u.keep b ob q n hb hx⟩
theorem Un.trans (a : Un fs ex H H1 h h1) (b : Un fs ex H1 H2 h1 h2) : Un fs ex H H2 h h2 where
  keep := fun c ob q n hc hx => b.keep c ob (a.keep c ob q n hc hx) (a.free c ob q n hx) hc hx
  slot := fun c ob q n hc hx => by
    obtain ⟨sl, e1⟩ := a.slot c ob q n hc hx
    obtain ⟨sl', e2⟩ := b.slot c _ e1 (a.free c ob q n hx) hc hx
    exact ⟨sl', e2⟩
  free := fun c ob q n hx => by
    obtain ⟨o', e1⟩ := a.there c ob q hx
    exact b.free c o' e1 (a.free c ob q n hx) hx
  there := fun c ob q hx => by
    obtain ⟨o', e1⟩ := a.there c ob q hx
    exact b.there c o' e1 hx
  tups := fun c xs q => b.tups c xs (a.tups c xs q)
  frzs := fun c ob xs q => b.frzs c ob xs (a.frzs c ob xs q)
  tbls := fun c ps q => by
    obtain ⟨m1, e1⟩ := a.tbls c ps q
    obtain ⟨m2, e2⟩ := b.tbls c _ e1
    exact ⟨m1 ++ m2, by rw [e2, Array.append_assoc]⟩
theorem Un.kept (k : ∀ b u, h.get? b = some u → h'.get? b = some u) : Un fs ex H H h h' :=
  ⟨fun b ob q _ _ _ => k b ob q, fun b ob q _ _ _ => ⟨ob.slots, k b ob q⟩, fun _ _ _ n _ => n, fun b ob q _ => ⟨ob, k b ob q⟩, fun _ _ q => q, fun _ _ _ q => q, fun _ ps q => ⟨#[], by rw [q]; simp⟩⟩
theorem Un.refl : Un fs ex H H h h := Un.kept fun _ _ q => q
theorem Un.laid (k : ∀ b u, h.get? b = some u → h'.get? b = some u) (hp : h.objs.size ≤ a) (hn : H a = none) : Un fs ex H (upd H a o) h h' where
  keep := fun b u q _ _ _ => k b u q
  slot := fun b u q _ _ _ => ⟨u.slots, k b u q⟩
  free := fun b u q n _ => by rw [upd_ne (Nat.ne_of_lt (Nat.lt_of_lt_of_le (Heap.lt_size q) hp))]; exact n
  there := fun b u q _ => ⟨u, k b u q⟩
  tups := fun b xs q => by rw [upd_ne (ne_of_none q hn)]; exact q
  frzs := fun b u xs q => by rw [upd_ne (ne_of_none q hn)]; exact q
  tbls := fun b ps q => ⟨#[], by rw [upd_ne (ne_of_none q hn), q]; simp⟩
theorem Un.write (mu : Mut (H x)) (he : e = x ∨ H e = some (.own x)) (k : ∀ b u, b ≠ e → h.get? b = some u → h'.get? b = some u) (heo : ∃ u, h'.get? e = some u) : Un fs ex H (upd H x o) h h' := by
  have hx : ∀ b, H b = none → b ≠ x := fun b n z => by subst z; rw [n] at mu; exact mu
  have hb : ∀ b, H b = none → b ≠ e := fun b n z => by
    subst z
    rcases he with r | r
    · exact hx b n r
    · rw [n] at r; cases r
  have hm : ∀ b u, H b = some u → ¬ Mut (some u) → b ≠ x := fun b u q nm z => by subst z; rw [q] at mu; exact nm mu
  refine ⟨fun b u q n _ _ => k b u (hb b n) q, fun b u q n _ _ => ⟨u.slots, k b u (hb b n) q⟩, fun b u q n _ => by rw [upd_ne (hx b n)]; exact n, fun b u q _ => ?_,
    fun b xs q => by rw [upd_ne (hm b _ q fun z => z)]; exact q, fun b u xs q => by rw [upd_ne (hm b _ q fun z => z)]; exact q, fun b ps q => ⟨#[], by rw [upd_ne (hm b _ q fun z => z), q]; simp⟩⟩
  by_cases hbe : b = e
  · subst hbe; exact heo
  · exact ⟨u, k b u hbe q⟩
theorem Un.mono (u : Un fs ex H H1 h h1) (hs : ∀ b ∈ fs, b ∈ fs') (hx : ∀ b ∈ ex, b ∈ ex') : Un fs' ex' H H1 h h1 :=
  ⟨fun b ob q n hb he => u.keep b ob q n (fun z => hb (hs b z)) fun z => he (hx b z), fun _ _ q n _ he => u.any q n fun z => he (hx _ z), fun b ob q n he => u.free b ob q n fun z => he (hx b z), fun b ob q he => u.there b ob q fun z => he (hx b z), u.tups, u.frzs, u.tbls⟩
end

/-! ### the heap without what is tracked -/
def trk (h : Heap) (H : Hp) : List Addr := (List.range h.objs.size).filter fun a => (H a).isSome
def hidT (h : Heap) (H : Hp) : Heap := PySem.W.hideAll h (trk h H)
theorem hidT_size (h : Heap) (H : Hp) : (hidT h H).objs.size = h.objs.size := PySem.W.hideAll_size _ _
theorem hidT_get {h : Heap} {H : Hp} {b : Addr} {o : Obj} (e : h.get? b = some o) (n : H b = none) : (hidT h H).get? b = some o :=
  PySem.W.hideAll_get _ e fun hm => by
    have q : (H b).isSome = true := (List.mem_filter.mp hm).2
    rw [n] at q; simp at q
theorem of_hidT {h : Heap} {H : Hp} {b : Addr} {o : Obj} (e : (hidT h H).get? b = some o) : h.get? b = some o ∧ H b = none := by
  have e' : h.get? b = some o := PySem.W.of_hideAll (trk h H) e
  refine ⟨e', ?_⟩
  cases q : H b with
  | none => rfl
  | some x =>
    have hm : b ∈ trk h H := List.mem_filter.mpr ⟨List.mem_range.mpr (Heap.lt_size e'), by simp [q]⟩
    have z : (hidT h H).get? b = none := PySem.W.hideAll_none (trk h H) hm
    rw [z] at e; cases e

/-! ### OpenK's ledger, filled with every new object but one -/
def allNews (g h : Heap) (L : Addr) : List (Addr × Obj) := (List.range h.objs.size).filterMap fun a => if a = L ∨ (g.get? a).isSome = true then none else (h.get? a).map fun o => (a, o)
def rest (g h : Heap) (L d : Addr) : List (Addr × Obj) := (allNews g h L).filter fun p => decide (p.1 ≠ d)
end L2

namespace L2
open PySem PySem.Spec PyProof.Rows

/-- the module's facts, over the base: the heap at the law's entry without what is tracked there -/
structure Mod (K : PySem.W.Frag) (mg : Str → Option Value) (base : Heap) : Prop where
  kin : K.In base
  glob : base.Ns mainGlobals mg
  blt : ∃ mb, base.Ns builtinsNs mb ∧ ∀ x : Str, x ≠ "__name__" → mb x = bootBuiltins x
  nolimit : base.NoLimit

/-- the context: a def's body (or a comprehension's block) running. base: fixed through the whole law; s₀, H₀: the entry; outer: the frames whose slots others may change (a def's callers); stack: all frames that run;
   ex: iterators that were made ahead of the entry and are walked here (a comprehension's); fn: the names whose cells were made at the entry (a def: all; a comprehension's block: its own); calm: not within an except suite; pn: pins that every state bears; xe: what is wanted of an exception that leaves the code -/
structure Cx where
  prog : Program
  w : World
  K : PySem.W.Frag
  mg : Str → Option Value
  base : Heap
  A : Around
  N : List Str
  s_0 : Shared
  H_0 : Hp
  env : Env
  outer : List Env
  stack : List Env
  ex : List Addr
  fn : Str → Bool
  calm : Bool
  pn : List (Addr × Obj)
  xe : Value → Shared → Prop
/-- the callers' frames -/
def frs (l : List Env) : List Addr := l.filterMap (·.frame)
abbrev Cx.fs (X : Cx) : List Addr := frs X.outer

def Vis (sc : Scope) (x : Str) : Prop := sc.names.lookup x = some .local ∨ sc.names.lookup x = some .cell ∨ sc.names.lookup x = some .free
def Loc (sc : Scope) (x : Str) : Prop := sc.names.lookup x = some .local ∨ sc.names.lookup x = some .cell
def Look (env : Env) (h : Heap) (m : Str → Option Value) (x : Str) (u : Value) : Prop :=
  (env.kindOf x = some .local ∧ m x = some u) ∨ ((env.kindOf x = some .cell ∨ env.kindOf x = some .free) ∧ ∃ c, env.cells.lookup x = some c ∧ h.IsCell c (some u))

structure Cx.Ok (X : Cx) : Prop where
  mod : Mod X.K X.mg X.base
  kind : X.env.scope.kind = .function
  glob : X.env.globals = mainGlobals
  blt : X.env.builtins = builtinsNs
  above : X.s_0.heap.objs.size ≤ X.env.locals
  inj : ∀ x y c, X.env.cells.lookup x = some c → X.env.cells.lookup y = some c → x = y
  has : ∀ x, (X.env.kindOf x = some .cell ∨ X.env.kindOf x = some .free) → ∃ c, X.env.cells.lookup x = some c
  cab : ∀ x c, X.fn x = true → X.env.cells.lookup x = some c → X.s_0.heap.objs.size ≤ c
  hd : X.calm = true → X.A.handled = none
  frames : X.A.frames = some X.stack
  stk : X.stack = X.outer ∨ (X.stack = X.env :: X.outer ∧ X.env.frame = some X.env.locals)
  exf : ∀ b ∈ X.ex, b ≠ X.env.locals ∧ ∀ x c, X.env.cells.lookup x = some c → c ≠ b
  bs : ∀ b o, X.base.get? b = some o → X.s_0.heap.get? b = some o ∧ X.H_0 b = none
  bsz : X.base.objs.size ≤ X.s_0.heap.objs.size
  noex : ∀ b o, X.base.get? b = some o → b ∉ X.ex
  exfs : ∀ b ∈ X.ex, b ∉ X.fs
  funs : X.s_0.heap.FunFrames X.base X.outer
  frf : ∀ b ∈ X.fs, X.H_0 b = none

structure Inv (X : Cx) (pins : List (Addr × Obj)) (σ : List (Option V)) (H : Hp) (s : Shared) : Prop where
  ok : X.Ok
  os : s.os = X.s_0.os
  bare : AllBare s.gens
  base : Un X.fs X.ex X.H_0 H X.s_0.heap s.heap
  loc : ∃ m, s.heap.Ns X.env.locals m ∧ ∀ (i : Nat) (x : Str) (v : V), X.N[i]? = some x → σ[i]? = some (some v) → Vis X.env.scope x → ∃ u, RelV v u ∧ Look X.env s.heap m x u
  cell : ∀ x c, X.env.cells.lookup x = some c → ∃ v, s.heap.IsCell c v
  free : H X.env.locals = none
  freeC : ∀ x c, X.env.cells.lookup x = some c → H c = none
  pin : ∀ p ∈ X.pn ++ pins, s.heap.get? p.1 = some p.2 ∧ H p.1 = none ∧ p.1 ≠ X.env.locals ∧ p.1 ∉ X.fs ∧ ∀ v, p.2.data ≠ .cell v
  hok : HOk X.prog X.w H s.heap
  len : σ.length = X.N.length

section
variable {X : Cx} {pins : List (Addr × Obj)} {σ : List (Option V)} {H H' : Hp} {s : Shared} {h' : Heap}

theorem Cx.Ok.nofr (ok : X.Ok) {b : Addr} {o : Obj} (e : X.base.get? b = some o) : b ∉ X.fs := fun hb => by
  have := (ok.funs.mem hb).1
  rw [e] at this; cases this
theorem Inv.bs (I : Inv X pins σ H s) : ∀ b o, X.base.get? b = some o → s.heap.get? b = some o ∧ H b = none := fun b o e =>
  ⟨I.base.keep b o (I.ok.bs b o e).1 (I.ok.bs b o e).2 (I.ok.nofr e) (I.ok.noex b o e), I.base.free b o (I.ok.bs b o e).1 (I.ok.bs b o e).2 (I.ok.noex b o e)⟩
theorem Inv.bk (I : Inv X pins σ H s) : ∀ b o, X.base.get? b = some o → s.heap.get? b = some o := fun b o e => (I.bs b o e).1
theorem Inv.mod (I : Inv X pins σ H s) : Mod X.K X.mg X.base := I.ok.mod
theorem Inv.kIn (I : Inv X pins σ H s) : X.K.In s.heap := I.ok.mod.kin.keeps I.bk
theorem Inv.nolimit (I : Inv X pins σ H s) : s.heap.NoLimit := I.ok.mod.nolimit.keeps I.bk
/-- the frame over the base: for OpenK's rules (K.In X.base is I.mod.kin) -/
theorem Inv.fr (I : Inv X pins σ H s) : ∃ m, Fr X.base X.env.locals s.heap m :=
  let ⟨m, hn, _⟩ := I.loc
  ⟨m, hn, I.bk, Nat.le_trans I.ok.bsz I.ok.above⟩
theorem Inv.lt (I : Inv X pins σ H s) : X.env.locals < s.heap.objs.size := let ⟨_, hn, _⟩ := I.loc; hn.lt
theorem Inv.sz (I : Inv X pins σ H s) : X.s_0.heap.objs.size ≤ s.heap.objs.size := Nat.le_trans I.ok.above (Nat.le_of_lt I.lt)
theorem Inv.nofs (I : Inv X pins σ H s) {a : Addr} (h : s.heap.objs.size ≤ a) : a ∉ X.fs := fun hb => by
  obtain ⟨_, o, ho, _⟩ := I.ok.funs.mem hb
  exact absurd (Nat.lt_of_lt_of_le (Heap.lt_size ho) (Nat.le_trans I.sz h)) (Nat.lt_irrefl _)
theorem Inv.cne (I : Inv X pins σ H s) : ∀ x c, X.env.cells.lookup x = some c → c ≠ X.env.locals := fun x c e z => by
  obtain ⟨v, o, ho, hd⟩ := I.cell x c e
  obtain ⟨m, ⟨o', es, ep, ho', hd', _⟩, _⟩ := I.loc
  rw [z, ho'] at ho; cases ho; rw [hd'] at hd; cases hd
theorem Inv.funs (I : Inv X pins σ H s) : s.heap.FunFrames X.base X.outer := by
  have all : ∀ (l : List Env), (∀ b ∈ frs l, b ∈ X.fs) → X.s_0.heap.FunFrames X.base l → s.heap.FunFrames X.base l := by
    intro l
    induction l with
    | nil => intro _ _; trivial
    | cons env r ih =>
      intro hs hl
      obtain ⟨hk, ⟨L, o, hf, hn, ho, hd⟩, hr⟩ := hl
      have hL : L ∈ X.fs := hs L (by unfold frs; rw [List.filterMap_cons, hf]; exact List.mem_cons_self)
      obtain ⟨sl, e⟩ := I.base.slot L o ho (I.ok.frf L hL) hL fun z => I.ok.exfs L z hL
      exact ⟨hk, ⟨L, _, hf, hn, e, hd⟩, ih (fun b hb => hs b (by unfold frs; rw [List.filterMap_cons, hf]; exact List.mem_cons_of_mem _ hb)) hr⟩
  exact all X.outer (fun _ hb => hb) I.ok.funs

/-- the frames that run, for a call -/
theorem Inv.stack (I : Inv X pins σ H s) : s.heap.FunFrames X.base X.stack := by
  rcases I.ok.stk with e | ⟨e, hf⟩
  · rw [e]; exact I.funs
  · rw [e]
    obtain ⟨m, hn, _⟩ := I.loc
    refine .cons (by rw [I.ok.kind]; decide) hf hn ?_ I.funs
    exact Heap.get?_none_of_le (Nat.le_trans I.ok.bsz I.ok.above)
theorem Inv.stkSub (I : Inv X pins σ H s) : ∀ b ∈ frs X.stack, b ∈ X.env.locals :: X.fs := fun b hb => by
  rcases I.ok.stk with e | ⟨e, hf⟩
  · rw [e] at hb; exact List.mem_cons_of_mem _ hb
  · rw [e] at hb
    unfold frs at hb
    rw [List.filterMap_cons, hf] at hb
    exact hb
theorem Inv.stkFree (I : Inv X pins σ H s) : ∀ b ∈ frs X.stack, H b = none := fun b hb => by
  rcases List.mem_cons.mp (I.stkSub b hb) with e | hb
  · rw [e]; exact I.free
  · obtain ⟨_, o, ho, _⟩ := I.ok.funs.mem hb
    exact I.base.free b o ho (I.ok.frf b hb) fun z => I.ok.exfs b z hb

/-- THE STEP: the untracked objects but the frame and the records at ch are kept (the callers' frames up to slots), the frame's map is kept, the new abstract heap is held -/
theorem Inv.step {g' : Array GenState} {t' : Nat} {d' : Drawn} {ch : List Addr} (I : Inv X pins σ H s)
    (hch : ∀ b ∈ ch, (b ∈ X.ex ∨ X.s_0.heap.objs.size ≤ b) ∧ b ≠ X.env.locals ∧ (∀ x c, X.env.cells.lookup x = some c → c ≠ b) ∧ ∀ p ∈ X.pn ++ pins, p.1 ≠ b)
    (keep : ∀ b o, b ≠ X.env.locals → b ∉ X.fs → b ∉ ch → s.heap.get? b = some o → H b = none → h'.get? b = some o)
    (slot : ∀ b o, b ≠ X.env.locals → b ∈ X.fs → b ∉ ch → s.heap.get? b = some o → H b = none → ∃ sl, h'.get? b = some { o with slots := sl }) (free : ∀ b o, b ∉ ch → s.heap.get? b = some o → H b = none → H' b = none)
    (there : ∀ b o, b ∉ ch → s.heap.get? b = some o → ∃ o', h'.get? b = some o')
    (tups : ∀ b xs, H b = some (.tup xs) → H' b = some (.tup xs)) (frzs : ∀ b o u, H b = some (.frz o u) → H' b = some (.frz o u)) (tbls : ∀ b ps, H b = some (.tbl ps) → ∃ more, H' b = some (.tbl (ps ++ more)))
    (ns : ∀ m, s.heap.Ns X.env.locals m → h'.Ns X.env.locals m) (hok : HOk X.prog X.w H' h') (hg : AllBare g') :
    Inv X pins σ H' { s with heap := h', gens := g', drawn := d', toks := t' } := by
  have neL : ∀ b o, X.s_0.heap.get? b = some o → b ≠ X.env.locals := fun b o e => Nat.ne_of_lt (Nat.lt_of_lt_of_le (Heap.lt_size e) I.ok.above)
  have neC : ∀ b o, X.s_0.heap.get? b = some o → b ∉ X.ex → b ∉ ch := fun b o e hx hb => by
    rcases (hch b hb).1 with z | z
    · exact hx z
    · exact absurd (Nat.lt_of_lt_of_le (Heap.lt_size e) z) (Nat.lt_irrefl _)
  have cellK : ∀ x c, X.env.cells.lookup x = some c → ∀ v, s.heap.IsCell c v → h'.IsCell c v := fun x c e v ⟨o, ho, hd⟩ => by
    have nch : c ∉ ch := fun z => (hch c z).2.2.1 x c e rfl
    by_cases hc : c ∈ X.fs
    · obtain ⟨sl, q⟩ := slot c o (I.cne x c e) hc nch ho (I.freeC x c e)
      exact ⟨_, q, hd⟩
    · exact ⟨o, keep c o (I.cne x c e) hc nch ho (I.freeC x c e), hd⟩
  refine ⟨I.ok, I.os, hg, ⟨fun b o e n hb hx => ?_, fun b o e n hb hx => ?_, fun b o e n hx => ?_, fun b o e hx => ?_, fun b xs e => tups b xs (I.base.tups b xs e), fun b o xs e => frzs b o xs (I.base.frzs b o xs e), fun b ps e => ?_⟩, ?_, fun x c e => ?_, ?_, fun x c e => ?_, fun p hp => ?_, hok, I.len⟩
  · exact keep b o (neL b o e) hb (neC b o e hx) (I.base.keep b o e n hb hx) (I.base.free b o e n hx)
  · obtain ⟨sl, e1⟩ := I.base.slot b o e n hb hx
    obtain ⟨sl', e2⟩ := slot b _ (neL b o e) hb (neC b o e hx) e1 (I.base.free b o e n hx)
    exact ⟨sl', e2⟩
  · obtain ⟨o', e1⟩ := I.base.there b o e hx
    exact free b o' (neC b o e hx) e1 (I.base.free b o e n hx)
  · obtain ⟨o', e1⟩ := I.base.there b o e hx
    exact there b o' (neC b o e hx) e1
  · obtain ⟨m1, e1⟩ := I.base.tbls b ps e
    obtain ⟨m2, e2⟩ := tbls b _ e1
    exact ⟨m1 ++ m2, by rw [e2, Array.append_assoc]⟩
  · obtain ⟨m, hn, hl⟩ := I.loc
    refine ⟨m, ns m hn, fun i x v e1 e2 e3 => ?_⟩
    obtain ⟨u, r, l⟩ := hl i x v e1 e2 e3
    refine ⟨u, r, ?_⟩
    rcases l with l | ⟨k, c, e, z⟩
    · exact .inl l
    · exact .inr ⟨k, c, e, cellK x c e _ z⟩
  · obtain ⟨v, z⟩ := I.cell x c e
    exact ⟨v, cellK x c e v z⟩
  · obtain ⟨m, ⟨o, _, _, ho, _⟩, _⟩ := I.loc
    exact free _ o (fun z => (hch _ z).2.1 rfl) ho I.free
  · obtain ⟨v, o, ho, hd⟩ := I.cell x c e
    exact free c o (fun z => (hch c z).2.2.1 x c e rfl) ho (I.freeC x c e)
  · obtain ⟨e, n, ne, nf, d⟩ := I.pin p hp
    have nch : p.1 ∉ ch := fun z => (hch p.1 z).2.2.2 p hp rfl
    exact ⟨keep p.1 p.2 ne nf nch e n, free p.1 p.2 nch e n, ne, nf, d⟩
/-- .. where the frame's own object is kept too -/
theorem Inv.un {t' : Nat} (I : Inv X pins σ H s) (u : Un X.fs [] H H' s.heap h') (hok : HOk X.prog X.w H' h') : Inv X pins σ H' { s with heap := h', toks := t' } := by
  obtain ⟨m, ⟨o, es, ep, ho, r⟩, _⟩ := id I.loc
  obtain ⟨sl, hL⟩ := u.any ho I.free (by simp)
  exact I.step (g' := s.gens) (d' := s.drawn) (ch := []) (fun _ z => nomatch z) (fun b o _ hb _ e n => u.keep b o e n hb (by simp)) (fun b o _ hb _ e n => u.slot b o e n hb (by simp)) (fun b o _ e n => u.free b o e n (by simp)) (fun b o _ e => u.there b o e (by simp)) u.tups u.frzs u.tbls (fun m' hm => by
    obtain ⟨o', es', ep', ho', r'⟩ := hm
    rw [ho] at ho'; cases ho'
    exact ⟨_, es', ep', hL, r'⟩) hok I.bare
/-- behind a call (or a comprehension's block): the slots of this frame may have changed too, the records at ch may have turned -/
theorem Inv.call {g' : Array GenState} {t' : Nat} {d' : Drawn} {ch : List Addr} (I : Inv X pins σ H s) (u : Un (frs X.stack) ch H H' s.heap h') (hok : HOk X.prog X.w H' h') (hg : AllBare g')
    (hch : ∀ b ∈ ch, (b ∈ X.ex ∨ X.s_0.heap.objs.size ≤ b) ∧ b ≠ X.env.locals ∧ (∀ x c, X.env.cells.lookup x = some c → c ≠ b) ∧ ∀ p ∈ X.pn ++ pins, p.1 ≠ b) :
    Inv X pins σ H' { s with heap := h', gens := g', drawn := d', toks := t' } := by
  obtain ⟨m, ⟨o, es, ep, ho, r⟩, _⟩ := id I.loc
  obtain ⟨sl, hL⟩ := u.any ho I.free fun z => (hch _ z).2.1 rfl
  exact I.step (ch := ch) hch (fun b o hL hb hc e n => u.keep b o e n (fun z => (List.mem_cons.mp (I.stkSub b z)).elim hL hb) hc) (fun b o _ _ hc e n => u.any e n hc) (fun b o hc e n => u.free b o e n hc) (fun b o hc e => u.there b o e hc) u.tups u.frzs u.tbls (fun m' hm => by
    obtain ⟨o', es', ep', ho', r'⟩ := hm
    rw [ho] at ho'; cases ho'
    exact ⟨_, es', ep', hL, r'⟩) hok hg
/-- an untracked record of ours (an iterator) has turned -/
theorem Inv.turned {t' : Nat} {it : Addr} (I : Inv X pins σ H s) (k : ∀ b o, b ≠ it → s.heap.get? b = some o → h'.get? b = some o) (hn : H it = none) (hL : it ≠ X.env.locals)
    (h1 : it ∈ X.ex ∨ X.s_0.heap.objs.size ≤ it) (h2 : ∀ x c, X.env.cells.lookup x = some c → c ≠ it) (h3 : ∀ p ∈ X.pn ++ pins, p.1 ≠ it) : Inv X pins σ H { s with heap := h', toks := t' } := by
  have nit : ∀ b u, H b = some u → b ≠ it := fun b u e z => by rw [z, hn] at e; cases e
  refine I.step (g' := s.gens) (d' := s.drawn) (ch := [it]) (fun b hb => ?_) (fun b o _ _ hc e _ => k b o (fun z => hc (by simp [z])) e) (fun b o _ _ hc e _ => ⟨o.slots, k b o (fun z => hc (by simp [z])) e⟩) (fun _ _ _ _ n => n)
    (fun b o hc e => ⟨o, k b o (fun z => hc (by simp [z])) e⟩) (fun _ _ e => e) (fun _ _ _ e => e) (fun b ps e => ⟨#[], by rw [e]; simp⟩) (fun m hm => ?_) (fun b u e => ?_) I.bare
  · have e : b = it := by simpa using hb
    subst e
    exact ⟨h1, hL, h2, h3⟩
  · obtain ⟨o, es, ep, ho, r⟩ := hm
    exact ⟨o, es, ep, k _ o (Ne.symm hL) ho, r⟩
  · refine (I.hok b u e).stay (fun c v hc q => k c v ?_ q) (fun _ q => q) (fun _ _ q => q) fun _ _ _ q => q
    rcases hc with z | z
    · rw [z]; exact nit b u e
    · exact nit c _ z
theorem Inv.tok (I : Inv X pins σ H s) (t : Nat) : Inv X pins σ H { s with toks := t } := I.un (h' := s.heap) (t' := t) Un.refl I.hok
/-- all objects kept -/
theorem Inv.kept {t' : Nat} (I : Inv X pins σ H s) (k : ∀ b u, s.heap.get? b = some u → h'.get? b = some u) : Inv X pins σ H { s with heap := h', toks := t' } := I.un (Un.kept k) (I.hok.kept k)
/-- a new object laid and tracked -/
theorem Inv.laid {a : Addr} {o : HO} {t' : Nat} (I : Inv X pins σ H s) (k : ∀ b u, s.heap.get? b = some u → h'.get? b = some u) (hp : s.heap.objs.size ≤ a) (new : ObjOk X.prog X.w (upd H a o) h' a o) :
    Inv X pins σ (upd H a o) { s with heap := h', toks := t' } := I.un (Un.laid k hp (I.hok.fresh hp)) (I.hok.laid k hp new)
/-- an object written -/
theorem Inv.write {x e : Addr} {o : HO} {t' : Nat} (I : Inv X pins σ H s) (mu : Mut (H x)) (he : e = x ∨ H e = some (.own x)) (k : ∀ b u, b ≠ e → s.heap.get? b = some u → h'.get? b = some u) (heo : ∃ u, h'.get? e = some u)
    (new : ObjOk X.prog X.w (upd H x o) h' x o) : Inv X pins σ (upd H x o) { s with heap := h', toks := t' } := I.un (Un.write mu he k heo) (I.hok.write mu he k heo new)
/-- forgetting slots, pins -/
theorem Inv.weak {σ' : List (Option V)} (I : Inv X pins σ H s) (hl : σ'.length = σ.length) (w : ∀ (i : Nat) v, σ'[i]? = some (some v) → σ[i]? = some (some v)) : Inv X pins σ' H s :=
  ⟨I.ok, I.os, I.bare, I.base, let ⟨m, hn, hl'⟩ := I.loc; ⟨m, hn, fun i x v e1 e2 e3 => hl' i x v e1 (w i v e2) e3⟩, I.cell, I.free, I.freeC, I.pin, I.hok, hl.trans I.len⟩
theorem Inv.pins_of {pins' : List (Addr × Obj)} (I : Inv X pins σ H s) (h : ∀ p ∈ pins', s.heap.get? p.1 = some p.2 ∧ H p.1 = none ∧ p.1 ≠ X.env.locals ∧ p.1 ∉ X.fs ∧ ∀ v, p.2.data ≠ .cell v) : Inv X pins' σ H s :=
  ⟨I.ok, I.os, I.bare, I.base, I.loc, I.cell, I.free, I.freeC, fun p hp => (List.mem_append.mp hp).elim (fun z => I.pin p (List.mem_append_left _ z)) (h p), I.hok, I.len⟩

theorem nodup_ix {N : List Str} (hN : N.Nodup) {i j : Nat} {x : Str} (a : N[i]? = some x) (b : N[j]? = some x) : i = j := by
  obtain ⟨h1, e1⟩ := List.getElem?_eq_some_iff.mp a
  obtain ⟨h2, e2⟩ := List.getElem?_eq_some_iff.mp b
  exact (List.getElem_inj hN).mp (e1.trans e2.symm)

/-- a name is stored; what changed -/
theorem store_ok2 {M : Model} {A : Around} {E : Value → Shared → Prop} {i : Nat} {x : Str} {v : V} {u : Value} {Q : Unit → Shared → Prop} (I : Inv X pins σ H s) (hN : X.N.Nodup) (hi : X.N[i]? = some x) (hx : Loc X.env.scope x) (r : RelV v u)
    (h : ∀ s', Inv X pins (σ.set i (some v)) H s' → (∃ a, Heap.SameBut a s.heap s'.heap ∧ (a = X.env.locals ∨ X.env.cells.lookup x = some a)) → Q () s') (hf : X.fn x = true ∨ X.env.scope.names.lookup x = some .local := by first | exact .inl rfl | exact .inr rfl | assumption) : wpAny M A (storeName X.env x u) Q E s := by
  obtain ⟨m, hn, hl⟩ := id I.loc
  have hcls : (X.env.scope.kind == .class || (X.env.scope.kind == .module && X.env.locals != X.env.globals)) = false := by rw [I.ok.kind]; rfl
  have hiσ : i < σ.length := by rw [I.len]; exact (List.getElem?_eq_some_iff.mp hi).1
  have cne := I.cne
  have tracked : ∀ {a : Addr} {h' : Heap}, (∃ o, s.heap.get? a = some o ∧ H a = none) → Heap.SameBut a s.heap h' → HOk X.prog X.w H h' := fun {a h'} ha hs b ob e => by
    obtain ⟨_, _, hfree⟩ := ha
    refine (I.hok b ob e).stay (fun c w' hc q => (hs.2 c ?_).trans q) (fun _ q => q) (fun _ _ q => q) fun _ _ _ q => q
    rintro rfl
    rcases hc with rfl | hc
    · rw [hfree] at e; cases e
    · rw [hfree] at hc; cases hc
  rcases hx with hk | hk
  · refine wpAny_storeName_local hk hn (fun h' hn' hs => ?_) hcls
    obtain ⟨oL, _, _, hoL, _⟩ := id hn
    refine h _ ⟨I.ok, I.os, I.bare, ⟨fun b o e n hb hx => ?_, fun b o e n hb hx => ?_, I.base.free, fun b o e hx => ?_, I.base.tups, I.base.frzs, I.base.tbls⟩, ⟨_, hn', fun j y v' e1 e2 e3 => ?_⟩, fun y c e => ?_, I.free, I.freeC, fun p hp => ?_, tracked ⟨oL, hoL, I.free⟩ hs, by simpa using I.len⟩ ⟨_, hs, .inl rfl⟩
    · exact (hs.2 b (Nat.ne_of_lt (Nat.lt_of_lt_of_le (Heap.lt_size e) I.ok.above))).trans (I.base.keep b o e n hb hx)
    · obtain ⟨sl, e1⟩ := I.base.slot b o e n hb hx
      exact ⟨sl, (hs.2 b (Nat.ne_of_lt (Nat.lt_of_lt_of_le (Heap.lt_size e) I.ok.above))).trans e1⟩
    · obtain ⟨o', e1⟩ := I.base.there b o e hx
      exact ⟨o', (hs.2 b (Nat.ne_of_lt (Nat.lt_of_lt_of_le (Heap.lt_size e) I.ok.above))).trans e1⟩
    · by_cases hj : j = i
      · subst hj
        rw [hi] at e1; cases e1
        rw [List.getElem?_set_self hiσ] at e2
        cases e2
        exact ⟨u, r, .inl ⟨hk, by simp⟩⟩
      · rw [List.getElem?_set_ne (Ne.symm hj)] at e2
        obtain ⟨u', r', q⟩ := hl j y v' e1 e2 e3
        refine ⟨u', r', ?_⟩
        rcases q with ⟨k, e⟩ | ⟨k, c, e, z⟩
        · refine .inl ⟨k, ?_⟩
          have : y ≠ x := fun e => hj (nodup_ix hN e1 (e ▸ hi))
          simp [this, e]
        · exact .inr ⟨k, c, e, z.sameBut hs (cne y c e)⟩
    · obtain ⟨w', z⟩ := I.cell y c e
      exact ⟨w', z.sameBut hs (cne y c e)⟩
    · obtain ⟨e, n, ne, nf, d⟩ := I.pin p hp
      exact ⟨(hs.2 p.1 ne).trans e, n, ne, nf, d⟩
  · have hfn : X.fn x = true := by
      rcases hf with z | z
      · exact z
      · rw [z] at hk; cases hk
    obtain ⟨c, hc⟩ := I.ok.has x (.inl hk)
    obtain ⟨w', z⟩ := I.cell x c hc
    refine wpAny_storeName_cell I.ok.kind hk hc z (fun h' hc' hs => ?_)
    obtain ⟨oc, hoc, hocd⟩ := id z
    refine h { s with heap := h' } ⟨I.ok, I.os, I.bare, ⟨fun b o e n hb hx => ?_, fun b o e n hb hx => ?_, I.base.free, fun b o e hx => ?_, I.base.tups, I.base.frzs, I.base.tbls⟩, ⟨m, hn.sameBut hs (Ne.symm (cne x c hc)), fun j y v' e1 e2 e3 => ?_⟩, fun y c' e => ?_, I.free, I.freeC, fun p hp => ?_, tracked ⟨oc, hoc, I.freeC x c hc⟩ hs, by simpa using I.len⟩ ⟨c, hs, .inr hc⟩
    · exact (hs.2 b (Nat.ne_of_lt (Nat.lt_of_lt_of_le (Heap.lt_size e) (I.ok.cab x c hfn hc)))).trans (I.base.keep b o e n hb hx)
    · obtain ⟨sl, e1⟩ := I.base.slot b o e n hb hx
      exact ⟨sl, (hs.2 b (Nat.ne_of_lt (Nat.lt_of_lt_of_le (Heap.lt_size e) (I.ok.cab x c hfn hc)))).trans e1⟩
    · obtain ⟨o', e1⟩ := I.base.there b o e hx
      exact ⟨o', (hs.2 b (Nat.ne_of_lt (Nat.lt_of_lt_of_le (Heap.lt_size e) (I.ok.cab x c hfn hc)))).trans e1⟩
    · by_cases hj : j = i
      · subst hj
        rw [hi] at e1; cases e1
        rw [List.getElem?_set_self hiσ] at e2
        cases e2
        exact ⟨u, r, .inr ⟨.inl hk, c, hc, hc'⟩⟩
      · rw [List.getElem?_set_ne (Ne.symm hj)] at e2
        obtain ⟨u', r', q⟩ := hl j y v' e1 e2 e3
        refine ⟨u', r', ?_⟩
        rcases q with q | ⟨k, c', e, z'⟩
        · exact .inl q
        · refine .inr ⟨k, c', e, z'.sameBut hs ?_⟩
          rintro rfl
          exact hj (nodup_ix hN e1 (I.ok.inj _ _ _ e hc ▸ hi))
    · by_cases hcc : c' = c
      · subst hcc; exact ⟨_, hc'⟩
      · obtain ⟨w2, z2⟩ := I.cell y c' e
        exact ⟨w2, z2.sameBut hs hcc⟩
    · obtain ⟨e, n, ne, nf, d⟩ := I.pin p hp
      refine ⟨(hs.2 p.1 ?_).trans e, n, ne, nf, d⟩
      intro q
      rw [q, hoc] at e
      have q' : oc = p.2 := Option.some.inj e
      exact d w' (by rw [← q']; exact hocd)
theorem store_ok {M : Model} {A : Around} {E : Value → Shared → Prop} {i : Nat} {x : Str} {v : V} {u : Value} {Q : Unit → Shared → Prop} (I : Inv X pins σ H s) (hN : X.N.Nodup) (hi : X.N[i]? = some x) (hx : Loc X.env.scope x) (r : RelV v u)
    (h : ∀ s', Inv X pins (σ.set i (some v)) H s' → Q () s') (hf : X.fn x = true ∨ X.env.scope.names.lookup x = some .local := by first | exact .inl rfl | exact .inr rfl | assumption) : wpAny M A (storeName X.env x u) Q E s :=
  store_ok2 I hN hi hx r (fun s' I' _ => h s' I') hf
/-- behind a call or a block, the state as it is -/
theorem Inv.call' {s' : Shared} {ch : List Addr} (I : Inv X pins σ H s) (ho : s'.os = s.os) (u : Un (frs X.stack) ch H H' s.heap s'.heap) (hok : HOk X.prog X.w H' s'.heap) (hg : AllBare s'.gens)
    (hch : ∀ b ∈ ch, (b ∈ X.ex ∨ X.s_0.heap.objs.size ≤ b) ∧ b ≠ X.env.locals ∧ (∀ x c, X.env.cells.lookup x = some c → c ≠ b) ∧ ∀ p ∈ X.pn ++ pins, p.1 ≠ b) : Inv X pins σ H' s' := by
  obtain ⟨h', g', d', t', o'⟩ := s'
  have e : o' = s.os := ho
  subst e
  exact I.call (g' := g') (t' := t') (d' := d') u hok hg hch
end

/-! ### the judgements -/
/-- an exception: its class, its own dict's address (where it has one), the abstract heap behind it -/
abbrev XK := Value → Option Addr → Hp → Prop
abbrev St := List (Option V)
abbrev VK := V → Hp → Prop
/-- an expression's reading; a test's; an argument list's -/
abbrev TE := St → Hp → VK → Prop
abbrev TT := St → Hp → (Bool → Hp → Prop) → Prop
abbrev TA := St → Hp → (List V → Hp → Prop) → Prop
/-- what is wanted behind a statement -/
structure Ends where
  nx : St → Hp → Prop
  rt : VK
  bk : St → Hp → Prop := fun _ _ => False
  ct : St → Hp → Prop := fun _ _ => False
abbrev TS := Ends → St → Hp → Prop

def EP (X : Cx) (pins : List (Addr × Obj)) (σ : St) (Q : VK) (u : Value) (s' : Shared) : Prop := ∃ v H', Inv X pins σ H' s' ∧ RelV v u ∧ Q v H'
def TP (X : Cx) (pins : List (Addr × Obj)) (σ : St) (Q : Bool → Hp → Prop) (b : Bool) (s' : Shared) : Prop := ∃ H', Inv X pins σ H' s' ∧ Q b H'
def AP (X : Cx) (pins : List (Addr × Obj)) (σ : St) (Q : List V → Hp → Prop) (us : List Value) (s' : Shared) : Prop := ∃ vs H', Inv X pins σ H' s' ∧ Vals vs us ∧ Q vs H'
def SP (X : Cx) (pins : List (Addr × Obj)) (D : Ends) (f : Flow) (s' : Shared) : Prop :=
  match f with
  | .next => ∃ σ' H', Inv X pins σ' H' s' ∧ D.nx σ' H'
  | .brk => ∃ σ' H', Inv X pins σ' H' s' ∧ D.bk σ' H'
  | .cont => ∃ σ' H', Inv X pins σ' H' s' ∧ D.ct σ' H'
  | .ret u => ∃ v σ' H', Inv X pins σ' H' s' ∧ RelV v u ∧ D.rt v H'

def PE (X : Cx) (e : Expr) (t : TE) : Prop :=
  ∀ (pins : List (Addr × Obj)) (s : Shared) (σ : St) (H : Hp) (Q : VK), Inv X pins σ H s → t σ H Q → wpAny (model X.prog X.w) X.A (eval e X.env) (EP X pins σ Q) X.xe s
def PT (X : Cx) (e : Expr) (t : TT) : Prop :=
  ∀ (pins : List (Addr × Obj)) (s : Shared) (σ : St) (H : Hp) (Q : Bool → Hp → Prop), Inv X pins σ H s → t σ H Q → wpAny (model X.prog X.w) X.A (isTrue e X.env (eval e X.env)) (TP X pins σ Q) X.xe s
/-- a test whatever its 'whole' is (and, or) -/
def PW (X : Cx) (e : Expr) (t : TT) : Prop :=
  ∀ (whole : Sem Value) (pins : List (Addr × Obj)) (s : Shared) (σ : St) (H : Hp) (Q : Bool → Hp → Prop), Inv X pins σ H s → t σ H Q → wpAny (model X.prog X.w) X.A (isTrue e X.env whole) (TP X pins σ Q) X.xe s
theorem PW.pt {X : Cx} {e : Expr} {t : TT} (h : PW X e t) : PT X e t := h _
/-- an argument list (no star), from the left -/
def PA (X : Cx) (es : List Expr) (t : TA) : Prop :=
  ∀ (pos : Pos) (pins : List (Addr × Obj)) (s : Shared) (σ : St) (H : Hp) (Q : List V → Hp → Prop), Inv X pins σ H s → t σ H Q → wpAny (model X.prog X.w) X.A (spliced (backTo pos (starEach es X.env))) (AP X pins σ Q) X.xe s
def PS (X : Cx) (st : Stmt) (t : TS) : Prop :=
  ∀ (pins : List (Addr × Obj)) (s : Shared) (σ : St) (H : Hp) (D : Ends), Inv X pins σ H s → t D σ H → wpAny (model X.prog X.w) X.A (exec st X.env) (SP X pins D) X.xe s
def PSs (X : Cx) (st : List Stmt) (t : TS) : Prop :=
  ∀ (pins : List (Addr × Obj)) (s : Shared) (σ : St) (H : Hp) (D : Ends), Inv X pins σ H s → t D σ H → wpAny (model X.prog X.w) X.A (execs st X.env) (SP X pins D) X.xe s
/-- weaken the end -/
theorem thn {α : Type} {t : Sem α} {Q Q' : α → Shared → Prop} {M : Model} {A : Around} {E : Value → Shared → Prop} {s : Shared} (h : wpAny M A t Q E s) (hQ : ∀ a s, Q a s → Q' a s) : wpAny M A t Q' E s := wpAny_mono h hQ fun _ _ x => x
end L2

namespace L2
open PySem PySem.Spec PyProof.Rows
section
variable {X : Cx}

/-! ### names and constants -/
def tVar (i : Nat) : TE := fun σ H Q => ∃ v, σ[i]? = some (some v) ∧ Q v H
def tC (v : V) : TE := fun _ H Q => Q v H
theorem pe_var {i : Nat} {x : Str} {pos : Pos} (hN : X.N[i]? = some x) (hv : Vis X.env.scope x) (hd : (x == ("__debug__" : Str)) = false := by decide) (hcd : (x == ("__classdict__" : Str)) = false := by decide) : PE X (.Name x pos) (tVar i) := by
  intro pins s σ H Q I h
  obtain ⟨v, e, h⟩ := h
  obtain ⟨m, hn, hl⟩ := I.loc
  obtain ⟨u, r, l⟩ := hl i x v hN e hv
  have fin : EP X pins σ Q u s := ⟨v, H, I, r, h⟩
  rcases l with ⟨hk, hm⟩ | ⟨hk, c, hc, hcell⟩
  · exact wpAny_Name (wpAny_loadName_local I.ok.kind hk hn hm fin) hd
  · rcases hk with hk | hk
    · exact wpAny_Name (wpAny_loadName_cell I.ok.kind hk hc hcell fin) hd
    · exact wpAny_Name (wpAny_loadName_free I.ok.kind hk hc hcell fin hcd) hd
theorem pe_int {i j pos} : PE X (.Constant (.int i) j pos) (tC (.int i)) := fun _ _ _ H _ I h => wpAny_Constant_int ⟨.int i, H, I.tok _, ⟨_, rfl⟩, h⟩
theorem pe_bl {b j pos} : PE X (.Constant (.bool b) j pos) (tC (.bl b)) := fun _ _ _ H _ I h => Constant_bool ⟨.bl b, H, I, rfl, h⟩
theorem pe_non {j pos} : PE X (.Constant .none j pos) (tC .non) := fun _ _ _ H _ I h => Constant_none ⟨.non, H, I, rfl, h⟩
theorem pe_str {x j pos} : PE X (.Constant (.str x) j pos) (tC (.str x)) := fun _ _ _ H _ I h => Calls.Constant_str ⟨.str x, H, I.tok _, ⟨_, rfl⟩, h⟩

/-- a global name of the def -/
def Gl (X : Cx) (x : Str) : Prop := X.env.kindOf x = some .globalImplicit
theorem ld_glob {E : Value → Shared → Prop} {pins : List (Addr × Obj)} {s : Shared} {σ : St} {H : Hp} {x : Str} {u : Value} {pos : Pos} {Q : Value → Shared → Prop} (I : Inv X pins σ H s) (hg : Gl X x) (hm : X.mg x = some u) (h : Q u s)
    (hd : (x == ("__debug__" : Str)) = false := by decide) : wpAny (model X.prog X.w) X.A (eval (.Name x pos) X.env) Q E s :=
  Calls.Name_function_global I.ok.kind hg (Calls.loadGlobal_global (by rw [I.ok.glob]; exact I.mod.glob.keeps I.bk) hm h) hd
theorem ld_blt {E : Value → Shared → Prop} {pins : List (Addr × Obj)} {s : Shared} {σ : St} {H : Hp} {x : Str} {u : Value} {pos : Pos} {Q : Value → Shared → Prop} (I : Inv X pins σ H s) (hg : Gl X x) (hm : X.mg x = none) (hv : bootBuiltins x = some u) (h : Q u s)
    (hn : x ≠ "__name__" := by decide) (hd : (x == ("__debug__" : Str)) = false := by decide) : wpAny (model X.prog X.w) X.A (eval (.Name x pos) X.env) Q E s := by
  obtain ⟨mb, h1, h2⟩ := I.mod.blt
  exact Calls.Name_function_global I.ok.kind hg (Calls.loadGlobal_builtin (by rw [I.ok.glob]; exact I.mod.glob.keeps I.bk) hm (by rw [I.ok.blt]; exact h1.keeps I.bk) ((h2 x hn).trans hv) h) hd
/-- a module's constant, a class, a function, as a value -/
theorem pe_glob {x : Str} {v : V} {u : Value} {pos : Pos} (hg : Gl X x) (hm : X.mg x = some u) (r : RelV v u) (hd : (x == ("__debug__" : Str)) = false := by decide) : PE X (.Name x pos) (tC v) :=
  fun _ _ _ H _ I h => ld_glob I hg hm ⟨v, H, I, r, h⟩ hd
theorem pe_bltn {x : Str} {v : V} {u : Value} {pos : Pos} (hg : Gl X x) (hm : X.mg x = none) (hv : bootBuiltins x = some u) (r : RelV v u) (hn : x ≠ "__name__" := by decide) (hd : (x == ("__debug__" : Str)) = false := by decide) : PE X (.Name x pos) (tC v) :=
  fun _ _ _ H _ I h => ld_blt I hg hm hv ⟨v, H, I, r, h⟩ hn hd

/-! ### arithmetic -/
/-- two ints -/
def t2I (ta tb : TE) (k : Int → Int → Hp → Prop) : St → Hp → Prop := fun σ H => ta σ H fun x H1 => tb σ H1 fun y H2 => ∃ i j, x = .int i ∧ y = .int j ∧ k i j H2
def tAdd (ta tb : TE) : TE := fun σ H Q => t2I ta tb (fun i j H2 => Q (.int (i + j)) H2) σ H
def tSub (ta tb : TE) : TE := fun σ H Q => t2I ta tb (fun i j H2 => Q (.int (i - j)) H2) σ H
/-- the left factor below 2^64 -/
def tMul (ta tb : TE) : TE := fun σ H Q => t2I ta tb (fun i j H2 => (-(2 ^ 64) < i ∧ i < 2 ^ 64) ∧ Q (.int (i * j)) H2) σ H
variable {a b : Expr} {ta tb : TE} {pos : Pos}
/-! ### comparisons -/
def PC (X : Cx) (op : CmpOp) (a b : Expr) (t : TE) : Prop :=
  ∀ (pins : List (Addr × Obj)) (s : Shared) (σ : St) (H : Hp) (Q : VK), Inv X pins σ H s → t σ H Q →
    wpAny (model X.prog X.w) X.A (eval a X.env) (fun v s₁ => wpAny (model X.prog X.w) X.A (eval b X.env) (fun u s₂ => wpAny (model X.prog X.w) X.A (compareOp op v u) (EP X pins σ Q) X.xe s₂) X.xe s₁) X.xe s
def tCmp (p : Int → Int → Bool) (ta tb : TE) : TE := fun σ H Q => t2I ta tb (fun i j H2 => Q (.bl (p i j)) H2) σ H
abbrev tLt : TE → TE → TE := tCmp fun i j => decide (i < j)
abbrev tLe : TE → TE → TE := tCmp fun i j => decide (i ≤ j)
abbrev tGt : TE → TE → TE := tCmp fun i j => decide (j < i)
abbrev tGe : TE → TE → TE := tCmp fun i j => decide (j ≤ i)
abbrev tEqI : TE → TE → TE := tCmp fun i j => decide (i = j)
abbrev tNeI : TE → TE → TE := tCmp fun i j => !decide (i = j)
/-- is None -/
def tIsN (ta : TE) : TE := fun σ H Q => ta σ H fun x H1 => Q (.bl (decide (x = .non))) H1
def tNotN (ta : TE) : TE := fun σ H Q => ta σ H fun x H1 => Q (.bl (!decide (x = .non))) H1
/-- a comparison as a value, as a test -/
def tB (t : TE) : TT := fun σ H Q => t σ H fun x H1 => ∃ c, x = .bl c ∧ Q c H1
/-- an expression whose value is a bool, as a test -/
theorem pt_val {e : Expr} {t : TE} (h : PE X e t) (he : ∀ whole, isTrue e X.env whole = (do let v ← whole; standAt e.pos; holding [v] (truthy v)) := by intro _; rfl) : PT X e (tB t) := by
  intro pins s σ H Q I hw
  refine isTrue_plain (thn (h pins s σ H _ I hw) fun v s1 ⟨x, H1, I1, r1, q1⟩ => ?_) (he _)
  obtain ⟨d, rfl, q⟩ := q1
  cases r1
  exact wpAny_truthy_bool ⟨H1, I1, q⟩

/-! ### and, or, not -/
variable {tA tB' : TT} {rest : List Expr}
def tAnd (t u : TT) : TT := fun σ H Q => t σ H fun c H1 => if c = true then u σ H1 Q else Q false H1
def tOr (t u : TT) : TT := fun σ H Q => t σ H fun c H1 => if c = true then Q true H1 else u σ H1 Q
def tNot (t : TT) : TT := fun σ H Q => t σ H fun c H1 => Q (!c) H1
theorem pw_or1 (ha : PT X a tA) : PW X (.BoolOp .Or [a] pos) tA := by
  intro wh pins s σ H Q I h
  refine isTrue_or (thn (ha pins s σ H Q I h) fun c s1 e => ?_)
  cases c with
  | false => exact isTrue_or_nil e
  | true => exact e
theorem pw_or (ha : PT X a tA) (hb : PW X (.BoolOp .Or (b :: rest) pos) tB') : PW X (.BoolOp .Or (a :: b :: rest) pos) (tOr tA tB') := by
  intro wh pins s σ H Q I h
  refine isTrue_or (thn (ha pins s σ H _ I h) fun c s1 ⟨H1, I1, q1⟩ => ?_)
  cases c with
  | true => exact ⟨H1, I1, q1⟩
  | false => exact hb wh pins s1 σ H1 Q I1 q1
theorem pt_not (ha : PT X a tA) : PT X (.UnaryOp .Not a pos) (tNot tA) := by
  intro pins s σ H Q I h
  exact isTrue_not (ha pins s σ H (fun c H1 => Q (!c) H1) I h)
/-- .. as values (bools) -/
def tAndV (ta tb : TE) : TE := fun σ H Q => ta σ H fun x H1 => ∃ c, x = .bl c ∧ if c = true then tb σ H1 Q else Q (.bl false) H1
def tOrV (ta tb : TE) : TE := fun σ H Q => ta σ H fun x H1 => ∃ c, x = .bl c ∧ if c = true then Q (.bl true) H1 else tb σ H1 Q
def tNotV (ta : TE) : TE := fun σ H Q => ta σ H fun x H1 => ∃ c, x = .bl c ∧ Q (.bl (!c)) H1
theorem pe_one {op} {t : TE} (h : PE X a t) : PE X (.BoolOp op [a] pos) t := fun pins s σ H Q I hw => BoolOp_one (h pins s σ H Q I hw)
theorem pe_and (ha : PE X a ta) (hb : PE X (.BoolOp .And (b :: rest) pos) tb) : PE X (.BoolOp .And (a :: b :: rest) pos) (tAndV ta tb) := by
  intro pins s σ H Q I h
  refine BoolOp_and (thn (ha pins s σ H _ I h) fun v s1 ⟨x, H1, I1, r1, q1⟩ => ?_)
  obtain ⟨c, rfl, q1⟩ := q1
  cases r1
  refine wpAny_truthy_bool ?_
  cases c with
  | true => exact hb pins s1 σ H1 Q I1 q1
  | false => exact ⟨.bl false, H1, I1, rfl, q1⟩
theorem pe_or (ha : PE X a ta) (hb : PE X (.BoolOp .Or (b :: rest) pos) tb) : PE X (.BoolOp .Or (a :: b :: rest) pos) (tOrV ta tb) := by
  intro pins s σ H Q I h
  refine BoolOp_or (thn (ha pins s σ H _ I h) fun v s1 ⟨x, H1, I1, r1, q1⟩ => ?_)
  obtain ⟨c, rfl, q1⟩ := q1
  cases r1
  refine wpAny_truthy_bool ?_
  cases c with
  | false => exact hb pins s1 σ H1 Q I1 q1
  | true => exact ⟨.bl true, H1, I1, rfl, q1⟩
/-- a if t else b -/
def tIf (t : TT) (ta tb : TE) : TE := fun σ H Q => t σ H fun c H1 => if c = true then ta σ H1 Q else tb σ H1 Q
theorem pe_ifExp {c : Expr} (hc : PT X c tA) (ha : PE X a ta) (hb : PE X b tb) : PE X (.IfExp c a b pos) (tIf tA ta tb) := by
  intro pins s σ H Q I h
  refine wpAny_IfExp (thn (hc pins s σ H _ I h) fun d s1 ⟨H1, I1, q1⟩ => ?_)
  cases d with
  | true => exact ha pins s1 σ H1 Q I1 q1
  | false => exact hb pins s1 σ H1 Q I1 q1
end
end L2

namespace L2
open PySem PySem.Spec PyProof.Rows

/-! ### a list, a tuple that is read: tracked, frozen, or an object of the module -/
def SqL (K : PySem.W.Frag) (H : Hp) (a : Addr) (xs : List V) : Prop :=
  Rd H a (.lst xs) ∨
    ∃ (o : Obj) (its : Array Value) (n : Nat), K.lookup a = some o ∧ o.cls = .type "list" ∧ o.dict = none ∧ o.data = .seq its n ∧ its.size ≤ sizeLine ∧ Vals xs its.toList
def SqT (K : PySem.W.Frag) (H : Hp) (a : Addr) (xs : List V) : Prop :=
  Rd H a (.tup xs) ∨
    ∃ (o : Obj) (its : Array Value) (n : Nat), K.lookup a = some o ∧ o.cls = .type "tuple" ∧ o.data = .seq its n ∧ its.size ≤ sizeLine ∧ Vals xs its.toList
def absV : Value → Option V
  | .none => some .non
  | .bool b => some (.bl b)
  | .int i _ => some (.int i)
  | .str x _ => some (.str x)
  | .bytes b _ => some (.byt b)
  | .float b _ => some (.flt b)
  | .ref a => some (.ref a)
  | .type n => some (.ty n)
  | _ => none
theorem RelV.abs {x : V} {u : Value} (r : RelV x u) : absV u = some x := by
  cases x with
  | non => cases r; rfl
  | bl _ => cases r; rfl
  | int _ => obtain ⟨t, rfl⟩ := r; rfl
  | str _ => obtain ⟨t, rfl⟩ := r; rfl
  | byt _ => obtain ⟨t, rfl⟩ := r; rfl
  | flt _ => obtain ⟨t, rfl⟩ := r; rfl
  | ref _ => cases r; rfl
  | ty _ => cases r; rfl
theorem RelV.inj {x y : V} {u : Value} (r : RelV x u) (q : RelV y u) : x = y := Option.some.inj (r.abs.symm.trans q.abs)
theorem Vals.inj : ∀ {xs ys : List V} {us : List Value}, Vals xs us → Vals ys us → xs = ys
  | _, _, _, .nil, .nil => rfl
  | _, _, _, .cons r t, .cons r' t' => by rw [r.inj r', Vals.inj t t']
section
variable {X : Cx} {pins : List (Addr × Obj)} {σ : St} {H : Hp} {s : Shared} {a : Addr} {xs ys : List V}
theorem SqL.of {K : PySem.W.Frag} (h : H a = some (.lst xs)) : SqL K H a xs := .inl (.inl h)
theorem SqT.of {K : PySem.W.Frag} (h : H a = some (.tup xs)) : SqT K H a xs := .inl (.inl h)
theorem Inv.list (I : Inv X pins σ H s) (h : SqL X.K H a xs) : ∃ its : List Value, Vals xs its ∧ PlainL s.heap a its.toArray ∧ xs.length ≤ sizeLine := by
  rcases h with h | ⟨o, its, n, hk, hc, hd, hs, hz, r⟩
  · obtain ⟨z, its, n, r, e⟩ := h.ok I.hok
    exact ⟨its, r, ⟨_, n, e, rfl, rfl, rfl⟩, z⟩
  · refine ⟨its.toList, r, ⟨o, n, I.kIn a o hk, hc, hd, by simpa using hs⟩, ?_⟩
    have e := r.length
    simp only [Array.length_toList] at e
    omega
theorem Inv.tuple (I : Inv X pins σ H s) (h : SqT X.K H a xs) : ∃ its : List Value, Vals xs its ∧ IsTup s.heap a its.toArray ∧ xs.length ≤ sizeLine := by
  rcases h with h | ⟨o, its, n, hk, hc, hs, hz, r⟩
  · obtain ⟨z, its, r, p⟩ := h.ok I.hok
    exact ⟨its, r, p, z⟩
  · refine ⟨its.toList, r, ⟨o, I.kIn a o hk, hc, n, by simpa using hs⟩, ?_⟩
    have e := r.length
    simp only [Array.length_toList] at e
    omega
theorem Inv.list_inj (I : Inv X pins σ H s) (h : SqL X.K H a xs) (h' : SqL X.K H a ys) : xs = ys := by
  obtain ⟨its, r, ⟨o, n, e, _, _, d⟩, _⟩ := I.list h
  obtain ⟨its', r', ⟨o', n', e', _, _, d'⟩, _⟩ := I.list h'
  rw [e] at e'; cases e'
  rw [d] at d'
  injection d' with d1 _
  have : its = its' := by simpa using congrArg Array.toList d1
  subst this
  exact r.inj r'
theorem Inv.tuple_inj (I : Inv X pins σ H s) (h : SqT X.K H a xs) (h' : SqT X.K H a ys) : xs = ys := by
  obtain ⟨its, r, ⟨o, e, _, n, d⟩, _⟩ := I.tuple h
  obtain ⟨its', r', ⟨o', e', _, n', d'⟩, _⟩ := I.tuple h'
  rw [e] at e'; cases e'
  rw [d] at d'
  injection d' with d1 _
  have : its = its' := by simpa using congrArg Array.toList d1
  subst this
  exact r.inj r'
end

/-! ### another wish about exceptions -/
abbrev Cx.wish (X : Cx) (E : Value → Shared → Prop) : Cx := { X with xe := E }
/-- no exception leaves -/
abbrev Cx.nox (X : Cx) : Cx := X.wish fun _ _ => False
theorem Cx.Ok.wish {X : Cx} (ok : X.Ok) (E : Value → Shared → Prop) : (X.wish E).Ok :=
  ⟨ok.mod, ok.kind, ok.glob, ok.blt, ok.above, ok.inj, ok.has, ok.cab, ok.hd, ok.frames, ok.stk, ok.exf, ok.bs, ok.bsz, ok.noex, ok.exfs, ok.funs, ok.frf⟩
theorem Cx.Ok.unwish {X : Cx} {E : Value → Shared → Prop} (ok : (X.wish E).Ok) : X.Ok :=
  ⟨ok.mod, ok.kind, ok.glob, ok.blt, ok.above, ok.inj, ok.has, ok.cab, ok.hd, ok.frames, ok.stk, ok.exf, ok.bs, ok.bsz, ok.noex, ok.exfs, ok.funs, ok.frf⟩
section
variable {X : Cx} {pins : List (Addr × Obj)} {σ : St} {H : Hp} {s : Shared} {E : Value → Shared → Prop}
theorem Inv.wish (I : Inv X pins σ H s) (E : Value → Shared → Prop) : Inv (X.wish E) pins σ H s := ⟨I.ok.wish E, I.os, I.bare, I.base, I.loc, I.cell, I.free, I.freeC, I.pin, I.hok, I.len⟩
theorem Inv.unwish (I : Inv (X.wish E) pins σ H s) : Inv X pins σ H s := ⟨I.ok.unwish, I.os, I.bare, I.base, I.loc, I.cell, I.free, I.freeC, I.pin, I.hok, I.len⟩
theorem SP.unwish {D : Ends} {f : Flow} {s' : Shared} (h : SP (X.wish E) pins D f s') : SP X pins D f s' := by
  cases f with
  | next => obtain ⟨σ', H', I, q⟩ := h; exact ⟨σ', H', I.unwish, q⟩
  | brk => obtain ⟨σ', H', I, q⟩ := h; exact ⟨σ', H', I.unwish, q⟩
  | cont => obtain ⟨σ', H', I, q⟩ := h; exact ⟨σ', H', I.unwish, q⟩
  | ret u => obtain ⟨v, σ', H', I, r, q⟩ := h; exact ⟨v, σ', H', I.unwish, r, q⟩
theorem PE.nox {e : Expr} {t : TE} (h : PE X.nox e t) : PE X e t := fun pins s σ H Q I hw =>
  wpAny_mono (h pins s σ H Q (I.wish _) hw) (fun _ _ ⟨v, H', I', r, q⟩ => ⟨v, H', I'.unwish, r, q⟩) fun _ _ z => False.elim z
theorem PT.nox {e : Expr} {t : TT} (h : PT X.nox e t) : PT X e t := fun pins s σ H Q I hw =>
  wpAny_mono (h pins s σ H Q (I.wish _) hw) (fun _ _ ⟨H', I', q⟩ => ⟨H', I'.unwish, q⟩) fun _ _ z => False.elim z
theorem PSs.nox {st : List Stmt} {t : TS} (h : PSs X.nox st t) : PSs X st t := fun pins s σ H D I hw =>
  wpAny_mono (h pins s σ H D (I.wish _) hw) (fun _ _ q => q.unwish) fun _ _ z => False.elim z
end

/-! ### blocks and small statements -/
section
variable {X : Cx} {st : Stmt} {rest : List Stmt} {t u : TS} {e : Expr} {te : TE} {pos : Pos}
def tNext : TS := fun D σ H => D.nx σ H
def tSeq (t u : TS) : TS := fun D σ H => t { D with nx := u D } σ H
theorem pss_nil : PSs X [] tNext := fun _ _ σ H _ I h => wpAny_execs_nil ⟨σ, H, I, h⟩
theorem pss_cons (h1 : PS X st t) (h2 : PSs X rest u) : PSs X (st :: rest) (tSeq t u) := by
  intro pins s σ H D I h
  refine wpAny_execs_cons (thn (h1 pins s σ H { D with nx := u D } I h) fun f s1 q => ?_)
  cases f with
  | next =>
    obtain ⟨σ', H', I', q⟩ := q
    exact h2 pins s1 σ' H' D I' q
  | ret v => exact q
  | brk => exact q
  | cont => exact q
theorem pss_one (h1 : PS X st t) : PSs X [st] t := by
  intro pins s σ H D I h
  refine wpAny_execs_cons (thn (h1 pins s σ H D I h) fun f s1 q => ?_)
  cases f with
  | next => exact wpAny_execs_nil q
  | ret v => exact q
  | brk => exact q
  | cont => exact q
def tBreak : TS := fun D σ H => D.bk σ H
def tCont : TS := fun D σ H => D.ct σ H
/-- in a def's body nothing is shown -/
theorem Inv.quiet {pins : List (Addr × Obj)} {σ : St} {H : Hp} {s : Shared} (I : Inv X pins σ H s) : interactive X.env = false := by simp [interactive, I.ok.kind]
/-- an expression whose value is dropped -/
def tDrop (te : TE) : TS := fun D σ H => te σ H fun _ H1 => D.nx σ H1
theorem ps_expr (he : PE X e te) (hs : swapsWith e none pos.line X.env = pure false := by rfl) : PS X (.Expr e pos) (tDrop te) := by
  intro pins s σ H D I h
  exact wpAny_Expr_any (thn (he pins s σ H _ I h) fun v s1 ⟨x, H1, I1, r1, q1⟩ => ⟨σ, H1, I1, q1⟩) I.quiet hs
def tRet (te : TE) : TS := fun D σ H => te σ H D.rt
theorem ps_ret (he : PE X e te) : PS X (.Return (some e) pos) (tRet te) := by
  intro pins s σ H D I h
  exact wpAny_Return_some (thn (he pins s σ H _ I h) fun v s1 ⟨x, H1, I1, r1, q1⟩ => ⟨x, σ, H1, I1, r1, q1⟩)
def tRetN : TS := fun D _ H => D.rt .non H
def tIfS (c : TT) (t u : TS) : TS := fun D σ H => c σ H fun b H1 => if b = true then t D σ H1 else u D σ H1
theorem ps_if {c : Expr} {a b : List Stmt} {tc : TT} (hc : PT X c tc) (ha : PSs X a t) (hb : PSs X b u) : PS X (.If c a b pos) (tIfS tc t u) := by
  intro pins s σ H D I h
  refine wpAny_If (thn (hc pins s σ H _ I h) fun d s1 ⟨H1, I1, q1⟩ => ?_)
  cases d with
  | true => exact ha pins s1 σ H1 D I1 q1
  | false => exact hb pins s1 σ H1 D I1 q1
/-- code that the proof never comes to -/
def tNever : TS := fun _ _ _ => False
theorem ps_never : PS X st tNever := fun _ _ _ _ _ _ h => h.elim
theorem pss_never {sts : List Stmt} : PSs X sts tNever := fun _ _ _ _ _ _ h => h.elim
end

/-! ### targets -/
abbrev TG := V → St → Hp → (St → Hp → Prop) → Prop
abbrev TGs := List V → St → Hp → (St → Hp → Prop) → Prop
def PG (X : Cx) (target : Expr) (t : TG) : Prop :=
  ∀ (pins : List (Addr × Obj)) (s : Shared) (σ : St) (H : Hp) (v : V) (u : Value) (Q : St → Hp → Prop), Inv X pins σ H s → RelV v u → t v σ H Q →
    wpAny (model X.prog X.w) X.A (assign target X.env u) (fun _ s' => ∃ σ' H', Inv X pins σ' H' s' ∧ Q σ' H') X.xe s
/-- several targets, one after another -/
def PGs (X : Cx) (ts : List Expr) (t : TGs) : Prop :=
  ∀ (pins : List (Addr × Obj)) (s : Shared) (σ : St) (H : Hp) (vs : List V) (us : List Value) (Q : St → Hp → Prop), Inv X pins σ H s → Vals vs us → t vs σ H Q →
    wpAny (model X.prog X.w) X.A (assignInOrder ((assignEach ts X.env).map (·.2)) us) (fun _ s' => ∃ σ' H', Inv X pins σ' H' s' ∧ Q σ' H') X.xe s
/-- o[i] = v, by values -/
abbrev TSet := V → V → V → Hp → (Hp → Prop) → Prop
def PSet (X : Cx) (t : TSet) : Prop :=
  ∀ (pins : List (Addr × Obj)) (s : Shared) (σ : St) (H : Hp) (o i v : V) (ov iv u : Value) (Q : Hp → Prop), Inv X pins σ H s → RelV o ov → RelV i iv → RelV v u → t o i v H Q →
    wpAny (model X.prog X.w) X.A (setItem ov iv u) (fun _ s' => ∃ H', Inv X pins σ H' s' ∧ Q H') X.xe s
/-- a op= b, by values -/
abbrev TIp := V → V → Hp → VK → Prop
def PIp (X : Cx) (op : Operator) (t : TIp) : Prop :=
  ∀ (pins : List (Addr × Obj)) (s : Shared) (σ : St) (H : Hp) (x y : V) (v u : Value) (Q : VK), Inv X pins σ H s → RelV x v → RelV y u → t x y H Q →
    wpAny (model X.prog X.w) X.A (inplaceOp op v u) (EP X pins σ Q) X.xe s
section
variable {X : Cx} {pos : Pos}
def gName (i : Nat) : TG := fun v σ H Q => Q (σ.set i (some v)) H
theorem pg_name {i : Nat} {x : Str} (hN : X.N.Nodup) (hi : X.N[i]? = some x) (hx : Loc X.env.scope x) (hf : X.fn x = true ∨ X.env.scope.names.lookup x = some .local := by first | exact .inl rfl | exact .inr rfl | assumption) : PG X (.Name x pos) (gName i) := by
  intro pins s σ H v u Q I r h
  exact wpAny_assign_Name (store_ok I hN hi hx r (fun s' I' => ⟨_, H, I', h⟩) hf)
def gNil : TGs := fun vs σ H Q => vs = [] ∧ Q σ H
def gCons (t : TG) (u : TGs) : TGs := fun vs σ H Q => ∃ v r, vs = v :: r ∧ t v σ H fun σ' H' => u r σ' H' Q
theorem pgs_nil : PGs X [] gNil := by
  intro pins s σ H vs us Q I r h
  obtain ⟨e, h⟩ := h
  subst e
  cases r
  exact assignInOrder_nil ⟨σ, H, I, h⟩
theorem pgs_cons {e : Expr} {es : List Expr} {t : TG} {u : TGs} (h1 : PG X e t) (h2 : PGs X es u)
    (hs : (assignEach (e :: es) X.env).map (·.2) = assign e X.env :: (assignEach es X.env).map (·.2) := by rfl) : PGs X (e :: es) (gCons t u) := by
  intro pins s σ H vs us Q I r h
  obtain ⟨v, vr, e1, h⟩ := h
  subst e1
  cases r with
  | cons r rr =>
    rw [hs]
    refine assignInOrder_cons (thn (h1 pins s σ H _ _ _ I r h) fun _ s1 ⟨σ1, H1, I1, q1⟩ => ?_)
    exact h2 pins s1 σ1 H1 _ _ Q I1 rr q1
/-- (a, b, ..) = a tuple of that length -/
def gTup (K : PySem.W.Frag) (n : Nat) (t : TGs) : TG := fun v σ H Q => ∃ a xs, v = .ref a ∧ SqT K H a xs ∧ xs.length = n ∧ t xs σ H Q
theorem pg_tup {es : List Expr} {k : Nat} {t : TGs} {n : Nat} (hc : X.calm = true) (h : PGs X es t)
    (hn : (assignEach es X.env).length = n := by rfl) (hst : (assignEach es X.env).findIdx? (·.1) = none := by rfl) : PG X (.Tuple es k pos) (gTup X.K n t) := by
  intro pins s σ H v u Q I r hw
  obtain ⟨a, xs, e1, hq, hl, hw⟩ := hw
  subst e1
  cases r
  obtain ⟨its, rv, ht, hz⟩ := I.tuple hq
  refine assign_Tuple_tuple (I.ok.hd hc) ht (by simp [hn, ← hl, rv.length]) hst fun h' hx => ?_
  have I1 : Inv X pins σ H { s with heap := h' } := I.kept (t' := s.toks) fun b o e => hx b o (Nat.ne_of_lt (Heap.lt_size e)) e
  exact h pins _ σ H xs _ Q I1 (by simpa using rv) hw
/-- o[i] = .. -/
def gSub (to ti : TE) (t : TSet) : TG := fun v σ H Q => to σ H fun o H1 => ti σ H1 fun i H2 => t o i v H2 fun H3 => Q σ H3
theorem pg_sub {o i : Expr} {to ti : TE} {t : TSet} (ho : PE X o to) (hi : PE X i ti) (hs : PSet X t)
    (ha : ∀ v, assign (.Subscript o i pos) X.env v = (do
      let ov ← holding [v] (eval o X.env)
      let iv ← holding [v, ov] (eval i X.env)
      standAt pos
      holding [v, ov, iv] (setItem ov iv v)
      release [v, ov, iv] []) := by intro _; rfl) : PG X (.Subscript o i pos) (gSub to ti t) := by
  intro pins s σ H v u Q I r h
  rw [ha]
  refine wpAny_bind (wpAny_holding (thn (ho pins s σ H _ I h) fun ov s1 ⟨x, H1, I1, r1, q1⟩ => ?_))
  refine wpAny_bind (wpAny_holding (thn (hi pins s1 σ H1 _ I1 q1) fun iv s2 ⟨y, H2, I2, r2, q2⟩ => ?_))
  refine wpAny_bind (wpAny_standAt (wpAny_bind (wpAny_holding (thn (hs pins s2 σ H2 x y v ov iv u _ I2 r1 r2 r q2) fun _ s3 ⟨H3, I3, q3⟩ => ?_))))
  exact wpAny_release ⟨σ, H3, I3, q3⟩
/-- target = value -/
def tAsg (te : TE) (g : TG) : TS := fun D σ H => te σ H fun x H1 => g x σ H1 D.nx
theorem ps_asg {tg e : Expr} {te : TE} {g : TG} (he : PE X e te) (hg : PG X tg g) (hs : swapsWithSole [tg] e pos.line X.env = pure false := by rfl) (hw : swappedStores [tg] e X.env = pure none := by rfl)
    (h1 : (assignEach [tg] X.env).map (·.2) = [assign tg X.env] := by rfl) : PS X (.Assign [tg] e pos) (tAsg te g) := by
  intro pins s σ H D I h
  refine wpAny_Assign_stores (thn (he pins s σ H _ I h) fun v s1 ⟨x, H1, I1, r1, q1⟩ => ?_) hs hw
  rw [h1]
  exact thn (hg pins s1 σ H1 x v _ I1 r1 q1) fun _ s2 q => q
/-- name = value -/
theorem ps_set {i : Nat} {x : Str} {e : Expr} {te : TE} {pos' : Pos} (hN : X.N.Nodup) (hi : X.N[i]? = some x) (hx : Loc X.env.scope x) (he : PE X e te) (hs : swapsWith e (some (.Name x pos')) pos.line X.env = pure false := by rfl) (hf : X.fn x = true ∨ X.env.scope.names.lookup x = some .local := by first | exact .inl rfl | exact .inr rfl | assumption) :
    PS X (.Assign [.Name x pos'] e pos) (tAsg te (gName i)) := by
  intro pins s σ H D I h
  refine wpAny_Assign_Name (thn (he pins s σ H _ I h) fun v s1 ⟨y, H1, I1, r1, q1⟩ => ?_) hs
  exact store_ok I1 hN hi hx r1 (fun s2 I2 => ⟨_, H1, I2, q1⟩) hf
/-- a, b = x, y with plain local names: stored from the right; the pair itself is not tracked (the opening rows as in PyProof/Rows/TupAssign.lean:23) -/
def tPar (i j : Nat) (ta : TA) : TS := fun D σ H => ta σ H fun vs H1 => ∃ v w, vs = [v, w] ∧ D.nx ((σ.set i (some v)).set j (some w)) H1
theorem ps_par {i j : Nat} {x y : Str} {a b : Expr} {ta : TA} {px py pt : Pos} {kt k2 pt2} (hc : X.calm = true) (hN : X.N.Nodup) (hi : X.N[i]? = some x) (hj : X.N[j]? = some y) (hij : i ≠ j)
    (hx : X.env.scope.names.lookup x = some .local) (hy : X.env.scope.names.lookup y = some .local) (ha : PA X [a, b] ta)
    (hw : swappedStores [.Tuple [.Name x px, .Name y py] kt pt] (.Tuple [a, b] k2 pt2) X.env = pure (some [x, y]))
    (hs : swapsWithSole [.Tuple [.Name x px, .Name y py] kt pt] (.Tuple [a, b] k2 pt2) pos.line X.env = pure false := by rfl) :
    PS X (.Assign [.Tuple [.Name x px, .Name y py] kt pt] (.Tuple [a, b] k2 pt2) pos) (tPar i j ta) := by
  intro pins s σ H D I h
  rw [exec_Assign_arm]
  refine wpAny_bind (wpAny_standAt ?_)
  rw [hs]
  refine wpAny_bind (wpAny_pure ?_)
  rw [if_neg (by decide)]
  refine wpAny_bind (Tuple_ (thn (ha _ pins s σ H _ I h) fun us s1 ⟨vs, H1, I1, r1, q1⟩ => ?_))
  obtain ⟨v, w, e1, q1⟩ := q1
  subst e1
  obtain ⟨u1, u2, rfl, rv, rw'⟩ : ∃ u1 u2, us = [u1, u2] ∧ RelV v u1 ∧ RelV w u2 := by
    cases r1 with
    | cons p q =>
      cases q with
      | cons p' q' =>
        cases q'
        exact ⟨_, _, rfl, p, p'⟩
  refine wpAny_newObj_type ?_ (by show 2 ≤ sizeLine; decide)
  have I2 : Inv X pins σ H1 { s1 with heap := s1.heap.push { cls := .type "tuple", data := .seq [u1, u2].toArray } } := I1.kept (t' := s1.toks) fun b o e => Heap.get?_push_of_some _ e
  rw [hw]
  refine wpAny_bind (wpAny_pure ?_)
  show wpAny (model X.prog X.w) X.A (do rule "assign.swapped-stores"; let items ← unpackItems (.ref s1.heap.objs.size) 2 none; assignInOrder [fun v => bindName X.env y v, fun v => bindName X.env x v] items.reverse; pure Flow.next) _ _ _
  refine wpAny_bind (wpAny_rule (wpAny_bind (unpackItems_tuple (items := #[u1, u2]) (I.ok.hd hc) (IsTup.new s1.heap _) fun h' hx' => ?_)))
  have I3 := I2.kept (h' := h') (t' := s1.toks) fun b o e => hx' b o (Nat.ne_of_lt (Heap.lt_size e)) e
  show wpAny _ _ (assignInOrder [fun v => bindName X.env y v, fun v => bindName X.env x v] [u2, u1] >>= fun _ => pure Flow.next) _ _ _
  refine wpAny_bind (assignInOrder_cons (wpAny_bindName (store_ok I3 hN hj (.inl hy) rw' (fun s2 I4 => ?_) (.inr hy))))
  refine assignInOrder_cons (wpAny_bindName (store_ok I4 hN hi (.inl hx) rv (fun s3 I5 => assignInOrder_nil (wpAny_pure ?_)) (.inr hx)))
  rw [List.set_comm _ _ (Ne.symm hij)] at I5
  exact ⟨_, H1, I5, q1⟩
/-- name op= e -/
def tAug (i : Nat) (te : TE) (ti : TIp) : TS := fun D σ H => ∃ x, σ[i]? = some (some x) ∧ te σ H fun y H1 => ti x y H1 fun z H2 => D.nx (σ.set i (some z)) H2
/-- o[i] op= e -/
def tAugS (to ti te : TE) (tget : V → V → Hp → VK → Prop) (tip : TIp) (tset : TSet) : TS := fun D σ H => to σ H fun o H1 => ti σ H1 fun i H2 => tget o i H2 fun x H3 => te σ H3 fun y H4 => tip x y H4 fun z H5 => tset o i z H5 fun H6 => D.nx σ H6
/-- o[i], by values -/
def PGet (X : Cx) (t : V → V → Hp → VK → Prop) : Prop :=
  ∀ (pins : List (Addr × Obj)) (s : Shared) (σ : St) (H : Hp) (o i : V) (ov iv : Value) (Q : VK), Inv X pins σ H s → RelV o ov → RelV i iv → t o i H Q →
    wpAny (model X.prog X.w) X.A (getItem ov iv) (EP X pins σ Q) X.xe s
/-- ints -/
def ipI (f : Int → Int → Int) : TIp := fun x y H Q => ∃ i j, x = .int i ∧ y = .int j ∧ Q (.int (f i j)) H
end

/-! ### while -/
section
variable {X : Cx} {pos : Pos}
/-- the invariant W with its measure -/
def tWhile (c : TT) (tb : TS) : TS := fun D σ H => ∃ W : Nat → St → Hp → Prop, (∃ m, W m σ H) ∧ ∀ m σ H, W m σ H →
  c σ H fun b H1 => if b = true then ∃ N : St → Hp → Prop, (∀ σ' H', N σ' H' → ∃ m', m' < m ∧ W m' σ' H') ∧ tb { D with nx := N, ct := N, bk := D.nx } σ H1 else D.nx σ H1
end

/-! ### what a loop or a comprehension walks -/
/-- at turn i: it yields x (the heap may grow), or it stops -/
structure It where
  go : Nat → Hp → Prop
  yld : Nat → Hp → V → Hp → Prop
  stop : Nat → Hp → Prop
/-- the iterator's own objects may turn: they are not the frame's, not pinned, younger than the entry (or a comprehension's own) -/
def FpOk (X : Cx) (pins : List (Addr × Obj)) (H : Hp) (b : Addr) : Prop :=
  H b = none ∧ b ≠ X.env.locals ∧ b ∉ X.fs ∧ (b ∈ X.ex ∨ X.s_0.heap.objs.size ≤ b) ∧ (∀ x c, X.env.cells.lookup x = some c → c ≠ b) ∧ ∀ p ∈ X.pn ++ pins, p.1 ≠ b
theorem Inv.fpOk {X : Cx} {pins : List (Addr × Obj)} {σ : St} {H H' : Hp} {s : Shared} {b : Addr} (I : Inv X pins σ H s) (hb : s.heap.objs.size ≤ b) (hn : H' b = none) : FpOk X pins H' b := by
  refine ⟨hn, Nat.ne_of_gt (Nat.lt_of_lt_of_le I.lt hb), I.nofs hb, .inr (Nat.le_trans I.sz hb), fun x c e z => ?_, fun p hp z => ?_⟩
  · obtain ⟨v, q⟩ := I.cell x c e
    exact absurd (Nat.lt_of_lt_of_le q.lt (by rw [z]; exact hb)) (Nat.lt_irrefl _)
  · exact absurd (Nat.lt_of_lt_of_le (Heap.lt_size (I.pin p hp).1) (by rw [z]; exact hb)) (Nat.lt_irrefl _)
structure Turn (P : Program) (w : World) (K : PySem.W.Frag) (tg : Expr) (J : It) (fp : List Addr) (it : Addr) (tn : Nat → Heap → Prop) : Prop where
  mem : it ∈ fp
  obj : ∀ i h, tn i h → ∀ b ∈ fp, ∃ o, h.get? b = some o ∧ ∀ v, o.data ≠ .cell v
  keep : ∀ i h h', tn i h → (∀ b ∈ fp, ∀ o, h.get? b = some o → h'.get? b = some o) → tn i h'
  item : ∀ (X : Cx), X.prog = P → X.w = w → X.K = K → X.calm = true → ∀ (i : Nat) (pins : List (Addr × Obj)) (s : Shared) (σ : St) (H : Hp) (E : Value → Shared → Prop), Inv X pins σ H s → (∀ b ∈ fp, FpOk X pins H b) → tn i s.heap → J.go i H →
    wpAny (model P w) X.A (pyNext (.ref it)) (fun r s1 => ∃ u, r = some u ∧
      wpAny (model P w) X.A (letOwnedTupleGo tg (.ref it) u) (fun _ s2 => ∃ x H', Inv X pins σ H' s2 ∧ RelV x u ∧ J.yld i H x H' ∧ tn (i + 1) s2.heap ∧ ∀ b ∈ fp, H' b = none) E s1) E s
  done : ∀ (X : Cx), X.prog = P → X.w = w → X.K = K → X.calm = true → ∀ (i : Nat) (pins : List (Addr × Obj)) (s : Shared) (σ : St) (H : Hp) (E : Value → Shared → Prop), Inv X pins σ H s → (∀ b ∈ fp, FpOk X pins H b) → tn i s.heap → J.stop i H →
    wpAny (model P w) X.A (pyNext (.ref it)) (fun r s1 => r = none ∧ Inv X pins σ H s1) E s
  self : ∀ (A : Around) (i : Nat) (s : Shared) (Q : Value → Shared → Prop) (E : Value → Shared → Prop), tn i s.heap → Q (.ref it) s → wpAny (model P w) A (pyIter (.ref it)) Q E s
abbrev TI := St → Hp → (It → Hp → Prop) → Prop
/-- an iterator has come -/
def PIE (X : Cx) (pins : List (Addr × Obj)) (σ : St) (tg : Expr) (R : It → Hp → Prop) (itv : Value) (s2 : Shared) : Prop :=
  ∃ (it : Addr) (fp : List Addr) (tn : Nat → Heap → Prop) (J : It) (H' : Hp), itv = .ref it ∧ Inv X pins σ H' s2 ∧ Turn X.prog X.w X.K tg J fp it tn ∧ tn 0 s2.heap ∧ (∀ b ∈ fp, FpOk X pins H' b) ∧ R J H'
def PI (X : Cx) (tg iter : Expr) (wi : TI) : Prop :=
  ∀ (pins : List (Addr × Obj)) (s : Shared) (σ : St) (H : Hp) (R : It → Hp → Prop), Inv X pins σ H s → wi σ H R →
    wpAny (model X.prog X.w) X.A (eval iter X.env) (fun v s1 => wpAny (model X.prog X.w) X.A (pyIter v) (PIE X pins σ tg R) X.xe s1) X.xe s

/-- the step ahead of the store is nothing for an iterator that keeps no tuple -/
theorem go_of {M : Model} {A : Around} {E : Value → Shared → Prop} {s : Shared} {tg : Expr} {it : Addr} {u : Value} {o : Obj} {n : String} {vs : Array Value} {Q : Unit → Shared → Prop} (ho : s.heap.get? it = some o) (hc : o.cls = .type n) (hd : o.data = .fields vs)
    (hn : ["enumerate", "zip", "dict_itemiterator", "dict_reverseitemiterator", "odict_iterator", "itertools.zip_longest", "itertools.pairwise"].contains n = false) (hQ : Q () s) : wpAny M A (letOwnedTupleGo tg (.ref it) u) Q E s := by
  unfold letOwnedTupleGo
  cases tg <;> first
    | exact wpAny_pure hQ
    | (cases u <;> first
        | exact wpAny_pure hQ
        | (refine wpAny_bind (wpAny_load ho ?_)
           rw [hc, hd]
           show wpAny M A (if (["enumerate", "zip", "dict_itemiterator", "dict_reverseitemiterator", "odict_iterator", "itertools.zip_longest", "itertools.pairwise"].contains n && vs[0]? == some (rawInt _)) = true then _ else _) Q E s
           rw [if_neg (by intro h; rw [hn, Bool.false_and] at h; cases h)]
           exact wpAny_pure hQ))

/-- the list at a, as it stands at each turn (a loop may append to it) -/
def Itl (K : PySem.W.Frag) (a : Addr) : It :=
  ⟨fun i H => ∃ xs x, SqL K H a xs ∧ xs[i]? = some x, fun i H x H' => H' = H ∧ ∀ xs, SqL K H a xs → xs[i]? = some x, fun i H => ∃ xs, SqL K H a xs ∧ xs.length ≤ i⟩
def Itt (K : PySem.W.Frag) (a : Addr) : It :=
  ⟨fun i H => ∃ xs x, SqT K H a xs ∧ xs[i]? = some x, fun i H x H' => H' = H ∧ ∀ xs, SqT K H a xs → xs[i]? = some x, fun i H => ∃ xs, SqT K H a xs ∧ xs.length ≤ i⟩
/-- lo, lo + 1, .. (n of them) -/
def Itr (lo : Int) (n : Nat) : It := ⟨fun i _ => i < n, fun i H x H' => H' = H ∧ x = .int (lo + i), fun i _ => n ≤ i⟩
theorem turn_list {P : Program} {w : World} {K : PySem.W.Frag} {tg : Expr} (a it : Addr) : Turn P w K tg (Itl K a) [it] it (fun i h => h.IsListIter it a i) where
  mem := by simp
  obj := fun i h st b hb => by
    have e : b = it := by simpa using hb
    subst e
    obtain ⟨o, e, c, d⟩ := st
    exact ⟨o, e, fun v z => by rw [d] at z; cases z⟩
  keep := fun i h h' st k => st.at fun o e => k it (by simp) o e
  item := by
    intro X hP hw hK hc i pins s σ H E I hf st hg
    subst hP hw hK
    obtain ⟨xs, x, hq, hx⟩ := hg
    obtain ⟨its, rv, p, hz⟩ := I.list hq
    obtain ⟨u, hu, ru⟩ := rv.get hx
    obtain ⟨f0, f1, f2, f3, f4, f5⟩ := hf it (by simp)
    refine wpAny_pyNext_list_item st p.isList (x := u) (by simpa using hu) fun h' st' sb => ?_
    have I1 : Inv X pins σ H { s with heap := h' } := I.turned (t' := s.toks) (fun b o hb e => (sb.2 b hb).trans e) f0 f1 f3 f4 f5
    obtain ⟨o, e, c, d⟩ := id st'
    exact ⟨u, rfl, go_of (s := { s with heap := h' }) e c d (by decide) ⟨x, H, I1, ru, ⟨rfl, fun ys hy => by rw [I.list_inj hy hq]; exact hx⟩, st', fun b hb => (hf b hb).1⟩⟩
  done := by
    intro X hP hw hK hc i pins s σ H E I hf st hg
    subst hP hw hK
    obtain ⟨xs, hq, hx⟩ := hg
    obtain ⟨its, rv, p, hz⟩ := I.list hq
    obtain ⟨f0, f1, f2, f3, f4, f5⟩ := hf it (by simp)
    have hl := rv.length
    exact wpAny_pyNext_list_end (I.ok.hd hc) st p.isList (by simp; omega) fun h' eb => ⟨rfl, I.turned (t' := s.toks) (fun b o hb e => eb b o hb e) f0 f1 f3 f4 f5⟩
  self := fun _ _ _ _ _ st h => wpAny_pyIter_listiter st h
theorem turn_tuple {P : Program} {w : World} {K : PySem.W.Frag} {tg : Expr} (a it : Addr) : Turn P w K tg (Itt K a) [it] it (fun i h => h.IsTupleIter it a i) where
  mem := by simp
  obj := fun i h st b hb => by
    have e : b = it := by simpa using hb
    subst e
    obtain ⟨o, e, c, d⟩ := st
    exact ⟨o, e, fun v z => by rw [d] at z; cases z⟩
  keep := fun i h h' st k => st.at fun o e => k it (by simp) o e
  item := by
    intro X hP hw hK hc i pins s σ H E I hf st hg
    subst hP hw hK
    obtain ⟨xs, x, hq, hx⟩ := hg
    obtain ⟨its, rv, p, hz⟩ := I.tuple hq
    obtain ⟨u, hu, ru⟩ := rv.get hx
    obtain ⟨f0, f1, f2, f3, f4, f5⟩ := hf it (by simp)
    refine wpAny_pyNext_tuple_item st (show s.heap.IsTuple a its.toArray from p) (x := u) (by simpa using hu) fun h' st' sb => ?_
    have I1 : Inv X pins σ H { s with heap := h' } := I.turned (t' := s.toks) (fun b o hb e => (sb.2 b hb).trans e) f0 f1 f3 f4 f5
    obtain ⟨o, e, c, d⟩ := id st'
    exact ⟨u, rfl, go_of (s := { s with heap := h' }) e c d (by decide) ⟨x, H, I1, ru, ⟨rfl, fun ys hy => by rw [I.tuple_inj hy hq]; exact hx⟩, st', fun b hb => (hf b hb).1⟩⟩
  done := by
    intro X hP hw hK hc i pins s σ H E I hf st hg
    subst hP hw hK
    obtain ⟨xs, hq, hx⟩ := hg
    obtain ⟨its, rv, p, hz⟩ := I.tuple hq
    obtain ⟨f0, f1, f2, f3, f4, f5⟩ := hf it (by simp)
    have hl := rv.length
    exact wpAny_pyNext_tuple_end (I.ok.hd hc) st (show s.heap.IsTuple a its.toArray from p) (by simp; omega) fun h' eb => ⟨rfl, I.turned (t' := s.toks) (fun b o hb e => eb b o hb e) f0 f1 f3 f4 f5⟩
  self := fun _ _ _ _ _ st h => wpAny_pyIter_tupleiter st h
theorem turn_range {P : Program} {w : World} {K : PySem.W.Frag} {tg : Expr} (it : Addr) (lo : Int) (n : Nat) : Turn P w K tg (Itr lo n) [it] it (fun i h => IsRangeIter h it (lo + (i : Nat) * 1) ((n : Int) - (i : Nat)) 1) where
  mem := by simp
  obj := fun i h st b hb => by
    have e : b = it := by simpa using hb
    subst e
    exact ⟨_, st, fun v z => by
      have z' : Data.fields _ = Data.cell v := z
      cases z'⟩
  keep := fun i h h' st k => k it (by simp) _ st
  item := by
    intro X hP hw hK hc i pins s σ H E I hf st hg
    subst hP hw hK
    obtain ⟨f0, f1, f2, f3, f4, f5⟩ := hf it (by simp)
    have W := Walks.range (prog := X.prog) (w := X.w) (I.ok.hd hc) it lo 1 n
    refine W.item i s _ _ hg st fun v h' tk hv st' kk => ?_
    obtain ⟨t, rfl⟩ := hv
    have I1 : Inv X pins σ H { s with heap := h', toks := tk } := I.turned (fun b o hb e => kk b o (by simpa using hb) e) f0 f1 f3 f4 f5
    refine ⟨_, rfl, go_of (s := { s with heap := h', toks := tk }) (n := "range_iterator") st' rfl rfl (by decide) ⟨.int (lo + i), H, I1, ⟨t, ?_⟩, ⟨rfl, rfl⟩, st', fun b hb => (hf b hb).1⟩⟩
    rw [Int.mul_one]
  done := by
    intro X hP hw hK hc i pins s σ H E I hf st hg
    subst hP hw hK
    obtain ⟨f0, f1, f2, f3, f4, f5⟩ := hf it (by simp)
    exact wpAny_pyNext_range_end (I.ok.hd hc) st (by have : n ≤ i := hg; omega) fun h' eb => ⟨rfl, I.turned (t' := s.toks) (fun b o hb e => eb b o hb e) f0 f1 f3 f4 f5⟩
  self := fun _ _ _ _ _ st h => wpAny_pyIter_rangeiter st h
end L2

namespace L2
open PySem PySem.Spec PyProof.Rows
section
variable {X : Cx} {tg : Expr}
def iList (K : PySem.W.Frag) (tl : TE) : TI := fun σ H R => tl σ H fun x H1 => ∃ a, x = .ref a ∧ (∃ xs, SqL K H1 a xs) ∧ R (Itl K a) H1
def iTup (K : PySem.W.Frag) (tl : TE) : TI := fun σ H R => tl σ H fun x H1 => ∃ a, x = .ref a ∧ (∃ xs, SqT K H1 a xs) ∧ R (Itt K a) H1
theorem pi_list {l : Expr} {tl : TE} (hl : PE X l tl) : PI X tg l (iList X.K tl) := by
  intro pins s σ H R I h
  refine thn (hl pins s σ H _ I h) fun v s1 ⟨x, H1, I1, r1, q1⟩ => ?_
  obtain ⟨a, e, ⟨xs, hq⟩, q⟩ := q1
  subst e
  cases r1
  obtain ⟨its, rv, p, hz⟩ := I1.list hq
  refine wpAny_pyIter_list p.isList ?_
  refine ⟨s1.heap.objs.size, [s1.heap.objs.size], _, _, H1, rfl, I1.kept (t' := s1.toks) fun b o e => Heap.get?_push_of_some _ e, turn_list a _, ⟨_, Heap.get?_push_size _ rfl, rfl, rfl⟩, fun b hb => ?_, q⟩
  have e : b = s1.heap.objs.size := by simpa using hb
  subst e
  exact I1.fpOk (Nat.le_refl _) (I1.hok.fresh (Nat.le_refl _))
theorem pi_tup {l : Expr} {tl : TE} (hl : PE X l tl) : PI X tg l (iTup X.K tl) := by
  intro pins s σ H R I h
  refine thn (hl pins s σ H _ I h) fun v s1 ⟨x, H1, I1, r1, q1⟩ => ?_
  obtain ⟨a, e, ⟨xs, hq⟩, q⟩ := q1
  subst e
  cases r1
  obtain ⟨its, rv, p, hz⟩ := I1.tuple hq
  refine wpAny_pyIter_tuple (show s1.heap.IsTuple a its.toArray from p) ?_
  refine ⟨s1.heap.objs.size, [s1.heap.objs.size], _, _, H1, rfl, I1.kept (t' := s1.toks) fun b o e => Heap.get?_push_of_some _ e, turn_tuple a _, ⟨_, Heap.get?_push_size _ rfl, rfl, rfl⟩, fun b hb => ?_, q⟩
  have e : b = s1.heap.objs.size := by simpa using hb
  subst e
  exact I1.fpOk (Nat.le_refl _) (I1.hok.fresh (Nat.le_refl _))
/-- a range object just made, walked -/
theorem range_it {pins : List (Addr × Obj)} {σ : St} {H : Hp} {s : Shared} {R : It → Hp → Prop} {E : Value → Shared → Prop} {lo hi : Int} {t u v : Tok} {tk : Nat} (I : Inv X pins σ H s) (h1 : -(2 ^ 62) ≤ lo) (h2 : lo < 2 ^ 62) (h3 : -(2 ^ 62) ≤ hi) (h4 : hi < 2 ^ 62)
    (q : R (Itr lo (hi - lo).toNat) H) : wpAny (model X.prog X.w) X.A (pyIter (.ref s.heap.objs.size)) (PIE X pins σ tg R) E { s with heap := s.heap.push { cls := .type "range", data := .fields #[.int lo t, .int hi u, .int 1 v] }, toks := tk } := by
  refine wpAny_pyIter_range (IsRange.new ..) (small_one h1 h2 h3 h4) ?_
  have I1 : Inv X pins σ H { s with heap := s.heap.push { cls := .type "range", data := .fields #[.int lo t, .int hi u, .int 1 v] }, toks := tk } := I.kept fun b o e => Heap.get?_push_of_some _ e
  refine ⟨(s.heap.push { cls := .type "range", data := .fields #[.int lo t, .int hi u, .int 1 v] }).objs.size, [(s.heap.push { cls := .type "range", data := .fields #[.int lo t, .int hi u, .int 1 v] }).objs.size], _, _, H, rfl,
    I1.kept (t' := tk) fun b o e => Heap.get?_push_of_some _ e, turn_range _ lo (hi - lo).toNat, ?_, fun b hb => ?_, q⟩
  · have e1 : lo + ((0 : Nat) : Int) * 1 = lo := by simp
    have e2 : (((hi - lo).toNat : Nat) : Int) - ((0 : Nat) : Int) = Builtin.Range.rangeSize lo hi 1 := by rw [rangeSize_one]; split <;> omega
    show IsRangeIter _ _ (lo + ((0 : Nat) : Int) * 1) ((((hi - lo).toNat : Nat) : Int) - ((0 : Nat) : Int)) 1
    rw [e1, e2]
    exact Heap.get?_push_size _ rfl
  · have e : b = (s.heap.push { cls := .type "range", data := .fields #[.int lo t, .int hi u, .int 1 v] }).objs.size := by simpa using hb
    subst e
    exact I1.fpOk (Nat.le_refl _) (I1.hok.fresh (Nat.le_refl _))
def iRng1 (ta : TA) : TI := fun σ H R => ta σ H fun vs H1 => ∃ j : Int, vs = [.int j] ∧ -(2 ^ 62) ≤ j ∧ j < 2 ^ 62 ∧ R (Itr 0 j.toNat) H1
def iRng2 (ta : TA) : TI := fun σ H R => ta σ H fun vs H1 => ∃ i j : Int, vs = [.int i, .int j] ∧ (-(2 ^ 62) ≤ i ∧ i < 2 ^ 62 ∧ -(2 ^ 62) ≤ j ∧ j < 2 ^ 62) ∧ R (Itr i (j - i).toNat) H1
theorem pi_range1 {a : Expr} {ta : TA} {p pos : Pos} (hg : Gl X "range") (hm : X.mg "range" = none) (ha : PA X [a] ta) (hs : starEach [a] X.env = [(false, eval a X.env)] := by rfl) : PI X tg (.Call (.Name "range" p) [a] [] pos) (iRng1 ta) := by
  intro pins s σ H R I h
  refine Call_ (ld_blt I hg hm boot_range (PyProof.Rows.callWith_type1 (thn (ha pos pins s σ H _ I h) fun us s1 ⟨vs, H1, I1, r1, q1⟩ => ?_) hs rfl))
  obtain ⟨j, e, q1, q2, q⟩ := q1
  subst e
  cases r1 with
  | cons r rr =>
    cases rr
    obtain ⟨t, rfl⟩ := r
    exact call_range_1 (range_it I1 (by omega) (by omega) q1 q2 (by simpa using q))
/-! ### for -/
/-- W: the invariant by the turn and a measure; N: what the body is to reach -/
def tFor (wi : TI) (g : TG) (tb : TS) : TS := fun D σ H => wi σ H fun J H1 => ∃ W : Nat → Nat → St → Hp → Prop, (∃ m, W 0 m σ H1) ∧ ∀ i m σ H, W i m σ H →
  (J.stop i H ∧ D.nx σ H) ∨ (J.go i H ∧ ∃ N : St → Hp → Prop, (∀ σ' H', N σ' H' → ∃ m', m' < m ∧ W (i + 1) m' σ' H') ∧ ∀ x H', J.yld i H x H' → g x σ H' fun σ2 H2 => tb { D with nx := N, ct := N, bk := D.nx } σ2 H2)
/-- the records at fp as they stand -/
def pinsAt (fp : List Addr) (h : Heap) : List (Addr × Obj) := fp.filterMap fun b => (h.get? b).map fun o => (b, o)
theorem mem_pinsAt {fp : List Addr} {h : Heap} {b : Addr} {o : Obj} (hb : b ∈ fp) (e : h.get? b = some o) : (b, o) ∈ pinsAt fp h := List.mem_filterMap.mpr ⟨b, hb, by rw [e]; rfl⟩
theorem of_pinsAt {fp : List Addr} {h : Heap} {p : Addr × Obj} (hp : p ∈ pinsAt fp h) : p.1 ∈ fp ∧ h.get? p.1 = some p.2 := by
  obtain ⟨b, hb, e⟩ := List.mem_filterMap.mp hp
  cases q : h.get? b with
  | none => rw [q] at e; cases e
  | some o =>
    rw [q] at e
    have e' : (b, o) = p := Option.some.inj e
    subst e'
    exact ⟨hb, q⟩
theorem Inv.pinned {pins : List (Addr × Obj)} {σ : St} {H : Hp} {s : Shared} {fp : List Addr} (I : Inv X pins σ H s) (hf : ∀ b ∈ fp, FpOk X pins H b) (ho : ∀ b ∈ fp, ∃ o, s.heap.get? b = some o ∧ ∀ v, o.data ≠ .cell v) : Inv X (pins ++ pinsAt fp s.heap) σ H s :=
  I.pins_of fun p hp => (List.mem_append.mp hp).elim (fun z => I.pin p (List.mem_append_right _ z)) fun z => by
    obtain ⟨hb, e⟩ := of_pinsAt z
    obtain ⟨f0, f1, f2, _⟩ := hf p.1 hb
    obtain ⟨o, e', d⟩ := ho p.1 hb
    rw [e] at e'; cases e'
    exact ⟨e, f0, f1, f2, d⟩
theorem Inv.unpinned {pins pl : List (Addr × Obj)} {σ : St} {H : Hp} {s : Shared} (I : Inv X (pins ++ pl) σ H s) : Inv X pins σ H s := I.pins_of fun p hp => I.pin p (List.mem_append_right _ (List.mem_append_left _ hp))
theorem ps_for {iter : Expr} {body : List Stmt} {wi : TI} {g : TG} {tb : TS} {pos : Pos} (hp : PassesOwn (model X.prog X.w) X.A X.env X.xe) (hc : X.calm = true) (hi : PI X tg iter wi) (hg : PG X tg g) (hb : PSs X body tb)
    (hs : ∀ x, foldedSetIterable iter X.env x = pure x := by intro _; rfl) : PS X (.For tg iter body [] pos) (tFor wi g tb) := by
  intro pins s σ H D I h
  refine wpAny_For (thn (hi pins s σ H _ I h) fun v s1 h1 => thn h1 fun itv s2 h2 => ?_) hs
  obtain ⟨it, fp, tn, J, H2, e, I2, T, st2, f2, W, ⟨m0, w0⟩, turn⟩ := h2
  subst e
  -- what stays true of the iterator's objects through the loop
  have stat : ∀ {H' : Hp}, (∀ b ∈ fp, H' b = none) → ∀ b ∈ fp, FpOk X pins H' b := fun hn b hb => ⟨hn b hb, (f2 b hb).2⟩
  refine codeAny_forLoop_any (fun n s' => ∃ i σ' H', Inv X pins σ' H' s' ∧ tn i s'.heap ∧ (∀ b ∈ fp, H' b = none) ∧ W i n σ' H') ?_ m0 ⟨0, σ, H2, I2, st2, fun b hb => (f2 b hb).1, w0⟩
  rintro n s3 ⟨i, σ3, H3, I3, st3, fr3, w3⟩
  rcases turn i n σ3 H3 w3 with ⟨stop, qn⟩ | ⟨go, N, hN, step⟩
  · refine wpAny_passesOwn hp (thn (T.done X rfl rfl rfl hc i pins s3 σ3 H3 X.xe I3 (stat fr3) st3 stop) fun r s4 ⟨hr, I4⟩ => ?_)
    subst hr
    exact wpAny_execs_nil ⟨σ3, H3, I4, qn⟩
  · refine wpAny_passesOwn hp (thn (T.item X rfl rfl rfl hc i pins s3 σ3 H3 X.xe I3 (stat fr3) st3 go) fun r s4 ⟨u, hr, h4⟩ => ?_)
    subst hr
    refine wpAny_passesOwn hp (thn h4 fun _ s5 ⟨x, H5, I5, r5, y5, st5, fr5⟩ => ?_)
    have I5' := I5.pinned (stat fr5) (T.obj _ _ st5)
    refine wpAny_passesOwn hp (thn (hg _ s5 σ3 H5 x u _ I5' r5 (step x H5 y5)) fun _ s6 ⟨σ6, H6, I6, q6⟩ => ?_)
    refine wpAny_passesOwn hp (thn (hb _ s6 σ6 H6 _ I6 q6) fun f s7 q7 => ?_)
    have again : ∀ {σ7 : St} {H7 : Hp}, Inv X (pins ++ pinsAt fp s5.heap) σ7 H7 s7 → N σ7 H7 → ∃ m, m < n ∧ ∃ i σ' H', Inv X pins σ' H' s7 ∧ tn i s7.heap ∧ (∀ b ∈ fp, H' b = none) ∧ W i m σ' H' := fun {σ7 H7} I7 n7 => by
      obtain ⟨m', hm, w7⟩ := hN σ7 H7 n7
      refine ⟨m', hm, i + 1, σ7, H7, I7.unpinned, T.keep _ _ _ st5 fun b hb o e => (I7.pin (b, o) (List.mem_append_right _ (List.mem_append_right _ (mem_pinsAt hb e)))).1, fun b hb => ?_, w7⟩
      obtain ⟨o, e, d⟩ := T.obj _ _ st5 b hb
      exact (I7.pin (b, o) (List.mem_append_right _ (List.mem_append_right _ (mem_pinsAt hb e)))).2.1
    cases f with
    | next => obtain ⟨σ7, H7, I7, n7⟩ := q7; exact again I7 n7
    | cont => obtain ⟨σ7, H7, I7, n7⟩ := q7; exact again I7 n7
    | brk => obtain ⟨σ7, H7, I7, q7⟩ := q7; exact ⟨σ7, H7, I7.unpinned, q7⟩
    | ret v => obtain ⟨x7, σ7, H7, I7, r7, q7⟩ := q7; exact ⟨x7, σ7, H7, I7.unpinned, r7, q7⟩
end

/-! ### the forms one uses -/
end L2

namespace L2
open PySem PySem.Spec PyProof.Rows

abbrev R2 := V → V → Hp → VK → Prop
/-- a two-place operation on values: f is binaryOp op, inplaceOp op or compareOp op -/
def OpR (X : Cx) (f : Value → Value → Sem Value) (r : R2) : Prop :=
  ∀ (pins : List (Addr × Obj)) (s : Shared) (σ : St) (H : Hp) (x y : V) (v u : Value) (Q : VK), Inv X pins σ H s → RelV x v → RelV y u → r x y H Q →
    wpAny (model X.prog X.w) X.A (f v u) (EP X pins σ Q) X.xe s
/-- a one-place operation -/
def UnR (X : Cx) (f : Value → Sem Value) (r : V → Hp → VK → Prop) : Prop :=
  ∀ (pins : List (Addr × Obj)) (s : Shared) (σ : St) (H : Hp) (x : V) (v : Value) (Q : VK), Inv X pins σ H s → RelV x v → r x H Q →
    wpAny (model X.prog X.w) X.A (f v) (EP X pins σ Q) X.xe s
/-- a call of a value that is known (a builtin, a type) with values -/
def CallR (X : Cx) (f : Value) (r : List V → Hp → VK → Prop) : Prop :=
  ∀ (pins : List (Addr × Obj)) (s : Shared) (σ : St) (H : Hp) (xs : List V) (us : List Value) (Q : VK), Inv X pins σ H s → Vals xs us → r xs H Q →
    wpAny (model X.prog X.w) X.A (call f us) (EP X pins σ Q) X.xe s
/-- a value's truth -/
def TruR (X : Cx) (r : V → Hp → (Bool → Hp → Prop) → Prop) : Prop :=
  ∀ (pins : List (Addr × Obj)) (s : Shared) (σ : St) (H : Hp) (x : V) (v : Value) (Q : Bool → Hp → Prop), Inv X pins σ H s → RelV x v → r x H Q →
    wpAny (model X.prog X.w) X.A (truthy v) (TP X pins σ Q) X.xe s

def tOp (r : R2) (ta tb : TE) : TE := fun σ H Q => ta σ H fun x H1 => tb σ H1 fun y H2 => r x y H2 Q
def tUn (r : V → Hp → VK → Prop) (ta : TE) : TE := fun σ H Q => ta σ H fun x H1 => r x H1 Q
/-- ints in, under C, and a value out -/
def rI (C : Int → Int → Prop) (g : Int → Int → V) : R2 := fun x y H Q => ∃ i j, x = .int i ∧ y = .int j ∧ C i j ∧ Q (g i j) H
def rI0 (g : Int → Int → V) : R2 := fun x y H Q => ∃ i j, x = .int i ∧ y = .int j ∧ Q (g i j) H
def rU (g : Int → V) : V → Hp → VK → Prop := fun x H Q => ∃ i, x = .int i ∧ Q (g i) H

section
variable {X : Cx} {a b c : Expr} {ta tb tc : TE} {pos : Pos}

theorem binT (ha : PE X a ta) (hb : PE X b tb) {pins : List (Addr × Obj)} {s : Shared} {σ : St} {H : Hp} {R : V → V → Hp → Prop} (I : Inv X pins σ H s)
    (h : ta σ H fun x H1 => tb σ H1 fun y H2 => R x y H2) {Q : Value → Shared → Prop} {f : Value → Value → Sem Value}
    (hf : ∀ v u s2 x y H2, Inv X pins σ H2 s2 → RelV x v → RelV y u → R x y H2 → wpAny (model X.prog X.w) X.A (f v u) Q X.xe s2) :
    wpAny (model X.prog X.w) X.A (eval a X.env) (fun v s₁ => wpAny (model X.prog X.w) X.A (eval b X.env) (fun u s₂ => wpAny (model X.prog X.w) X.A (f v u) Q X.xe s₂) X.xe s₁) X.xe s := by
  refine thn (ha pins s σ H _ I h) fun v s1 ⟨x, H1, I1, r1, q1⟩ => ?_
  refine thn (hb pins s1 σ H1 _ I1 q1) fun u s2 ⟨y, H2, I2, r2, q2⟩ => ?_
  exact hf v u s2 x y H2 I2 r1 r2 q2

theorem pe_op {op : Operator} {r : R2} (ho : OpR X (binaryOp op) r) (ha : PE X a ta) (hb : PE X b tb) : PE X (.BinOp a op b pos) (tOp r ta tb) := by
  intro pins s σ H Q I h
  exact wpAny_BinOp (binT ha hb I h fun v u s2 x y H2 I2 rx ry q => ho pins s2 σ H2 x y v u Q I2 rx ry q)
/-! ### ints -/
theorem opI {f : Value → Value → Sem Value} {C : Int → Int → Prop} {g : Int → Int → Int}
    (rule : ∀ (i j : Int) (t u : Tok) (s : Shared) (Q : Value → Shared → Prop) (E : Value → Shared → Prop), C i j → Q (.int (g i j) s.toks) { s with toks := s.toks + 1 } → wpAny (model X.prog X.w) X.A (f (.int i t) (.int j u)) Q E s) :
    OpR X f (rI C fun i j => .int (g i j)) := by
  intro pins s σ H x y v u Q I rx ry h
  obtain ⟨i, j, rfl, rfl, hc, q⟩ := h
  obtain ⟨t, rfl⟩ := rx
  obtain ⟨t', rfl⟩ := ry
  exact rule i j t t' s _ _ hc ⟨.int (g i j), H, I.tok _, ⟨_, rfl⟩, q⟩
theorem opI0 {f : Value → Value → Sem Value} {g : Int → Int → Int}
    (rule : ∀ (i j : Int) (t u : Tok) (s : Shared) (Q : Value → Shared → Prop) (E : Value → Shared → Prop), Q (.int (g i j) s.toks) { s with toks := s.toks + 1 } → wpAny (model X.prog X.w) X.A (f (.int i t) (.int j u)) Q E s) :
    OpR X f (rI0 fun i j => .int (g i j)) := by
  intro pins s σ H x y v u Q I rx ry h
  obtain ⟨i, j, rfl, rfl, q⟩ := h
  obtain ⟨t, rfl⟩ := rx
  obtain ⟨t', rfl⟩ := ry
  exact rule i j t t' s _ _ ⟨.int (g i j), H, I.tok _, ⟨_, rfl⟩, q⟩
theorem opB0 {f : Value → Value → Sem Value} {g : Int → Int → Bool}
    (rule : ∀ (i j : Int) (t u : Tok) (s : Shared) (Q : Value → Shared → Prop) (E : Value → Shared → Prop), Q (.bool (g i j)) s → wpAny (model X.prog X.w) X.A (f (.int i t) (.int j u)) Q E s) :
    OpR X f (rI0 fun i j => .bl (g i j)) := by
  intro pins s σ H x y v u Q I rx ry h
  obtain ⟨i, j, rfl, rfl, q⟩ := h
  obtain ⟨t, rfl⟩ := rx
  obtain ⟨t', rfl⟩ := ry
  exact rule i j t t' s _ _ ⟨.bl (g i j), H, I, rfl, q⟩

def CDiv (i j : Int) : Prop := 0 < j ∧ j < 1073741824
def CDivN (i j : Int) : Prop := j ≠ 0 ∧ j.natAbs < 1073741824
def CPow (i j : Int) : Prop := 0 ≤ j ∧ j ≤ 1000000 ∧ i.natAbs < 2 ^ 64
def CMul (i j : Int) : Prop := (-(2 ^ 64) < i ∧ i < 2 ^ 64) ∨ (-(2 ^ 64) < j ∧ j < 2 ^ 64)
theorem CMul.ok {i j : Int} (h : CMul i j) : IntMulOk i j := by
  rcases h with ⟨h1, h2⟩ | ⟨h1, h2⟩
  · exact .of_left (intBits_le_64 h1 h2)
  · exact .of_right (intBits_le_64 h1 h2)
theorem op_add : OpR X (binaryOp .Add) (rI0 fun i j => .int (i + j)) := opI0 fun _ _ _ _ _ _ _ q => add_int q
theorem op_sub : OpR X (binaryOp .Sub) (rI0 fun i j => .int (i - j)) := opI0 fun _ _ _ _ _ _ _ q => sub_int q
theorem op_mul : OpR X (binaryOp .Mult) (rI CMul fun i j => .int (i * j)) := opI fun _ _ _ _ _ _ _ hc q => mul_int q hc.ok
/-- // by a positive divisor -/
theorem op_fdiv : OpR X (binaryOp .FloorDiv) (rI CDiv fun i j => .int (i / j)) := opI fun i j _ _ _ _ _ hc q => by
  have h1 : (0 : Int) < j := hc.1
  have h2 : j < 1073741824 := hc.2
  exact floordiv_int (by omega) (by rw [Int.fdiv_eq_ediv_of_nonneg i (by omega)]; exact q) (.inl (PyProof.noPylong_small (by omega)))
/-- % by a positive divisor of any size -/
theorem op_mod : OpR X (binaryOp .Mod) (rI (fun _ j => 0 < j) fun i j => .int (i % j)) := opI fun i j _ _ _ _ _ hc q => by
  have h1 : (0 : Int) < j := hc
  exact mod_int' (by omega) (by rw [Int.fmod_eq_emod_of_nonneg i (by omega)]; exact q)
theorem op_pow : OpR X (binaryOp .Pow) (rI CPow fun i j => .int (i ^ j.toNat)) := opI fun _ _ _ _ _ _ _ hc q => pow_int_small hc.1 hc.2.1 hc.2.2 q
/-! ### bools among ints: n += (a < b) -/
end

/-! ### comparisons -/
/-- the scalars that == tells apart as data does -/
def scal : V → V → Bool
  | .non, .non => true | .non, .int _ => true | .int _, .non => true | .non, .bl _ => true | .bl _, .non => true | .non, .str _ => true | .str _, .non => true
  | .int _, .int _ => true | .bl _, .bl _ => true | .str _, .str _ => true | .byt _, .byt _ => true
  | .int _, .str _ => true | .str _, .int _ => true | .bl _, .str _ => true | .str _, .bl _ => true
  | _, _ => false
def rEq : R2 := fun x y H Q => scal x y = true ∧ Q (.bl (decide (x = y))) H
def rNe : R2 := fun x y H Q => scal x y = true ∧ Q (.bl (!decide (x = y))) H

section
variable {X : Cx} {a b c : Expr} {ta tb tc : TE} {pos : Pos}
theorem fin_bl {pins : List (Addr × Obj)} {σ : St} {H : Hp} {s : Shared} {Q : VK} {k k' : Bool} (I : Inv X pins σ H s) (q : Q (.bl k) H) (e : k = k') : EP X pins σ Q (.bool k') s := by
  subst e
  exact ⟨.bl k, H, I, rfl, q⟩
theorem op_le : OpR X (compareOp .LtE) (rI0 fun i j => .bl (decide (i ≤ j))) := opB0 fun _ _ _ _ _ _ _ q => le_int q
theorem op_gt : OpR X (compareOp .Gt) (rI0 fun i j => .bl (decide (j < i))) := opB0 fun _ _ _ _ _ _ _ q => gt_int q
theorem op_ge : OpR X (compareOp .GtE) (rI0 fun i j => .bl (decide (j ≤ i))) := opB0 fun _ _ _ _ _ _ _ q => ge_int q
/-- is None, is not None: the right side a value none -/
theorem op_isN : OpR X (compareOp .Is) (fun x y H Q => y = .non ∧ Q (.bl (decide (x = .non))) H) := by
  intro pins s σ H x y v u Q I rx ry h
  obtain ⟨rfl, q⟩ := h
  cases ry
  refine is_none_gen (fin_bl I q ?_)
  cases x <;> first
    | (cases rx; rfl)
    | (obtain ⟨t, rfl⟩ := rx; rfl)
theorem op_notN : OpR X (compareOp .IsNot) (fun x y H Q => y = .non ∧ Q (.bl (!decide (x = .non))) H) := by
  intro pins s σ H x y v u Q I rx ry h
  obtain ⟨rfl, q⟩ := h
  cases ry
  refine isnot_none_gen (fin_bl I q ?_)
  cases x <;> first
    | (cases rx; rfl)
    | (obtain ⟨t, rfl⟩ := rx; rfl)

/-- is, is not of two objects that are tracked lists or instances -/
def isObj : HO → Bool
  | .lst _ => true
  | .ins _ _ _ => true
  | _ => false
/-- two rules for one operation: by cases -/
theorem OpR.or {f : Value → Value → Sem Value} {r r' : R2} (h : OpR X f r) (h' : OpR X f r') : OpR X f (fun x y H Q => r x y H Q ∨ r' x y H Q) := by
  intro pins s σ H x y v u Q I rx ry q
  rcases q with q | q
  · exact h pins s σ H x y v u Q I rx ry q
  · exact h' pins s σ H x y v u Q I rx ry q

theorem nomark (b : Expr) {op : CmpOp} (h : op ≠ .In := by decide) (h2 : op ≠ .NotIn := by decide) : behindInMarks op b = false := by
  have e1 : (op == CmpOp.In) = false := by cases op <;> first | rfl | exact absurd rfl h
  have e2 : (op == CmpOp.NotIn) = false := by cases op <;> first | rfl | exact absurd rfl h2
  cases b <;> simp [behindInMarks, e1, e2]
/-- a comparison as a value; hm: nomark b, or (for in, not in) by with_unfolding_all rfl -/
theorem pe_cmpR {op : CmpOp} {r : R2} (ho : OpR X (compareOp op) r) (ha : PE X a ta) (hb : PE X b tb) (hm : behindInMarks op b = false) : PE X (.Compare a [op] [b] pos) (tOp r ta tb) := by
  intro pins s σ H Q I h
  exact wpAny_Compare1 (binT ha hb I h fun v u s2 x y H2 I2 rx ry q => ho pins s2 σ H2 x y v u Q I2 rx ry q) hm
/-- a reading of a value as a test -/
def tTest (t : TE) : TT := fun σ H Q => t σ H fun x H' => ∃ k, x = .bl k ∧ Q k H'
theorem pt_cmpR {op : CmpOp} {r : R2} (ho : OpR X (compareOp op) r) (ha : PE X a ta) (hb : PE X b tb) (hm : behindInMarks op b = false) : PT X (.Compare a [op] [b] pos) (tTest (tOp r ta tb)) := by
  intro pins s σ H Q I h
  refine wpAny_isTrue_Compare1 (thn (ha pins s σ H _ I h) fun v s1 ⟨x, H1, I1, r1, q1⟩ => thn (hb pins s1 σ H1 _ I1 q1) fun u s2 ⟨y, H2, I2, r2, q2⟩ =>
    thn (ho pins s2 σ H2 x y v u _ I2 r1 r2 q2) fun c s3 ⟨z, H3, I3, r3, k, e, q3⟩ => ?_) hm
  subst e
  cases r3
  exact wpAny_truthy_bool ⟨H3, I3, q3⟩
/-- a op1 b op2 c -/
def tChain (r r' : R2) (ta tb tc : TE) : TE := fun σ H Q => ta σ H fun x H1 => tb σ H1 fun y H2 => r x y H2 fun z H3 => ∃ k, z = .bl k ∧
  (if k = true then tc σ H3 fun w' H4 => r' y w' H4 Q else Q (.bl false) H3)
/-! ### truth -/
/-- a value's truth by the abstract heap -/
def TruV (K : PySem.W.Frag) (x : V) (H : Hp) (k : Bool) : Prop :=
  match x with
  | .non => k = false
  | .bl b => k = b
  | .int i => k = (i != 0)
  | .str y => y.length ≤ sizeLine ∧ k = ((y.length : Int) != 0)
  | .byt y => y.size ≤ sizeLine ∧ k = ((y.size : Int) != 0)
  | .ref p => (∃ xs, SqL K H p xs ∧ k = !xs.isEmpty) ∨ (∃ xs, SqT K H p xs ∧ k = !xs.isEmpty) ∨ ∃ kvs, H p = some (.dK kvs) ∧ k = !kvs.isEmpty
  | _ => False
theorem isEmpty_kv {κ : Type} {kvs : List (κ × V)} {vs : List (κ × Value)} (r : KV kvs vs) : (!vs.isEmpty) = !kvs.isEmpty := by
  cases r <;> rfl
theorem isEmpty_of {xs : List V} {its : List Value} (r : Vals xs its) : (!its.toArray.isEmpty) = !xs.isEmpty := by
  cases r <;> simp
theorem line63 : (sizeLine : Nat) < 2 ^ 63 := by rw [sizeLine_eq]; decide
theorem tru_ok : TruR X (fun x H Q => ∃ k, TruV X.K x H k ∧ Q k H) := by
  intro pins s σ H x v Q I rx h
  obtain ⟨k, e, q⟩ := h
  have hl := line63
  have hs : sizeLine = 16777216 := sizeLine_eq
  cases x with
  | non =>
    cases rx
    have e' : k = false := e
    subst e'
    exact truthy_none ⟨H, I, q⟩
  | bl b =>
    cases rx
    have e' : k = b := e
    subst e'
    exact wpAny_truthy_bool ⟨H, I, q⟩
  | int i =>
    obtain ⟨t, rfl⟩ := rx
    have e' : k = (i != 0) := e
    subst e'
    exact PySem.P.truthy_int ⟨H, I, q⟩
  | str y =>
    obtain ⟨t, rfl⟩ := rx
    obtain ⟨hy, e'⟩ : y.length ≤ sizeLine ∧ k = ((y.length : Int) != 0) := e
    subst e'
    exact PySem.P.truthy_str (by omega) ⟨H, I.tok _, q⟩
  | byt y =>
    obtain ⟨t, rfl⟩ := rx
    obtain ⟨hy, e'⟩ : y.size ≤ sizeLine ∧ k = ((y.size : Int) != 0) := e
    subst e'
    exact PySem.W.truthy_bytes (by omega) ⟨H, I.tok _, q⟩
  | ref p =>
    cases rx
    have e' : (∃ xs, SqL X.K H p xs ∧ k = !xs.isEmpty) ∨ (∃ xs, SqT X.K H p xs ∧ k = !xs.isEmpty) ∨ ∃ kvs, H p = some (.dK kvs) ∧ k = !kvs.isEmpty := e
    rcases e' with ⟨xs, hx, e'⟩ | ⟨xs, hx, e'⟩ | ⟨kvs, hx, e'⟩
    · subst e'
      obtain ⟨its, r, pl, hz⟩ := I.list hx
      have hlen := r.length
      exact wpAny_truthy_list pl.isList (by simp only [List.size_toArray]; omega) ⟨H, I.tok _, by rw [isEmpty_of r]; exact q⟩
    · subst e'
      obtain ⟨its, r, pl, hz⟩ := I.tuple hx
      have hlen := r.length
      exact truthy_tuple pl (by simp only [List.size_toArray]; omega) ⟨H, I.tok _, by rw [isEmpty_of r]; exact q⟩
    · subst e'
      obtain ⟨hz, hS, vs, r, m⟩ : kvs.length ≤ sizeLine ∧ (p == sysModules) = false ∧ ∃ vs, KV kvs vs ∧ s.heap.DictOf (mixKind X.prog X.w) p vs := I.hok p _ hx
      have hlen : kvs.length = vs.length := Paired.length r
      exact wpAny_truthy_dict hS m (by omega) ⟨H, I.tok _, by rw [isEmpty_kv r]; exact q⟩
  | _ => exact (show False from e).elim
/-! ### strs and bytes -/
theorem op_add_str : OpR X (binaryOp .Add) (fun x y H Q => ∃ i j, x = .str i ∧ y = .str j ∧ i.length + j.length ≤ sizeLine ∧ Q (.str (i ++ j)) H) := by
  intro pins s σ H x y v u Q I rx ry h
  obtain ⟨i, j, rfl, rfl, hz, q⟩ := h
  obtain ⟨t, rfl⟩ := rx
  obtain ⟨t', rfl⟩ := ry
  exact add_str (fun t' tk => ⟨.str (i ++ j), H, I.tok _, ⟨_, rfl⟩, q⟩) hz
def PlainIxT (b : Expr) : Prop := ∀ o i, subscripted b false o i = operate [o, i] (getItem o i)
/-! ### scalar builtins, by CallR -/
theorem vals1 {x : V} {us : List Value} (r : Vals [x] us) : ∃ u, us = [u] ∧ RelV x u := by
  cases r with
  | cons r1 r2 => cases r2; exact ⟨_, rfl, r1⟩
theorem vals2 {x y : V} {us : List Value} (r : Vals [x, y] us) : ∃ u w', us = [u, w'] ∧ RelV x u ∧ RelV y w' := by
  cases r with
  | cons r1 r2 =>
    cases r2 with
    | cons r3 r4 => cases r4; exact ⟨_, _, rfl, r1, r3⟩
theorem call_str_int : CallR X (.type "str") (fun xs H Q => ∃ i, xs = [.int i] ∧ i.natAbs.log2 < 1920 ∧ Q (.str (toString i)) H) := by
  intro pins s σ H xs us Q I r h
  obtain ⟨i, rfl, hz, q⟩ := h
  obtain ⟨u, rfl, t, rfl⟩ := vals1 r
  exact PySem.P.str_of_int hz ⟨.str _, H, I.tok _, ⟨_, rfl⟩, q⟩
/-- len of a str, a bytes, a list, a tuple -/
def LenV (K : PySem.W.Frag) (x : V) (H : Hp) (n : Nat) : Prop :=
  match x with
  | .str y => y.length ≤ sizeLine ∧ n = y.length
  | .byt y => y.size ≤ sizeLine ∧ n = y.size
  | .ref p => (∃ xs, SqL K H p xs ∧ n = xs.length) ∨ ∃ xs, SqT K H p xs ∧ n = xs.length
  | _ => False
end
end L2

namespace L2
open PySem PySem.Spec PyProof.Rows

/-! ### an instance, its attributes a map -/
structure ObjM (h : Heap) (x dx C : Addr) (mA : Str → Option Value) : Prop where
  obj : h.get? x = some (PySem.W.instObj C dx)
  ns : h.Ns1 dx mA
  ne : dx ≠ x

theorem lookIn_ns {h : Heap} {dx : Addr} {mA : Str → Option Value} (n : h.Ns1 dx mA) : ∃ od, h.get? dx = some od ∧ ∀ name, PySem.W.lookIn name od = some (mA name) := by
  obtain ⟨o, es, ep, ho, hd, hk, _, hm⟩ := n
  refine ⟨o, ho, fun name => ?_⟩
  have e := hm name
  unfold nsFind findBy at e
  rw [← Array.find?_toList] at e
  unfold PySem.W.lookIn
  rw [hd]
  dsimp only
  split
  · rename_i y q
    rw [q] at e
    exact congrArg some e
  · rename_i q
    rw [q] at e
    have a : es.toList.any (·.refKey) = false := by
      rw [List.any_eq_false]
      intro y hy
      obtain ⟨z, t, hkey⟩ := hk y (Array.mem_toList_iff.mp hy)
      simp [DictEntry.refKey, hkey]
    have a' : ¬ es.toList.any (·.refKey) = true := by rw [a]; exact Bool.false_ne_true
    rw [if_neg a']
    exact congrArg some e

theorem ObjM.look {h : Heap} {x dx C : Addr} {mA : Str → Option Value} (I : ObjM h x dx C mA) : ∃ od, PySem.W.InstAt h x (PySem.W.instObj C dx) C (some od) ∧ ∀ name, PySem.W.lookIn name od = some (mA name) :=
  let ⟨od, ho, hl⟩ := lookIn_ns I.ns
  ⟨od, ⟨I.obj, rfl, rfl, ho⟩, hl⟩

section
variable {prog : Program} {w : World} {A : Around} {E : Value → Shared → Prop} {s : Shared} {K : PySem.W.Frag} {x dx C f : Addr} {mA : Str → Option Value} {name : Str} {v : Value}

end

/-! ### the attributes as a list of pairs -/
def putF (f : Str) (v : V) : List (Str × V) → List (Str × V)
  | [] => [(f, v)]
  | (g, x) :: r => if g = f then (g, v) :: r else (g, x) :: putF f v r
theorem RelO.some_of {v : V} {o : Option Value} (r : RelO (some v) o) : ∃ u, o = some u ∧ RelV v u := by
  cases o with
  | none => exact (show False from r).elim
  | some u => exact ⟨u, rfl, r⟩
section
variable {P : Program} {w : World} {H H' : Hp} {h h' : Heap} {a C dx : Addr} {fs fs' : List (Str × V)}
end

/-! ### what of the text a class must have -/
structure Cls (K : PySem.W.Frag) (C : Addr) : Prop where
  pg : PySem.W.plainGet K C Str.empty = true
  hd : PySem.W.hasDictIn K C = true
  po : PySem.W.plainOver K C = true
  sa : PySem.W.findIn K (.ref C) "__setattr__" = some (some (.builtin "object.__setattr__"))
theorem Cls.get {K : PySem.W.Frag} {C : Addr} (c : Cls K C) (f : Str) : PySem.W.plainGet K C f = true := c.pg
/-- no class of it has the name -/
def NoAttr (K : PySem.W.Frag) (C : Addr) (f : Str) : Prop := PySem.W.findIn K (.ref C) f = some none
/-- a constant of the class -/
structure Con (K : PySem.W.Frag) (C : Addr) (f : Str) (v : V) (u : Value) : Prop where
  at_ : PySem.W.findIn K (.ref C) f = some (some u)
  rel : RelV v u
  get : PySem.W.specialIn K u "__get__" = some none
  cp : PySem.W.copiedNames.contains f = false
/-- a method: a plain def of the class or of one above it -/
structure Meth (K : PySem.W.Frag) (C : Addr) (m : Str) (f : Addr) : Prop where
  at_ : PySem.W.findIn K (.ref C) m = some (some (.ref f))
  fn : PySem.W.isFn K (.ref f) = true
  kp : PySem.W.keepIn K (.ref f) = true

section
variable {X : Cx} {pins : List (Addr × Obj)} {σ : St} {H : Hp} {s : Shared} {a C dx : Addr} {fs : List (Str × V)} {f : Str} {v : V} {A : Around} {E : Value → Shared → Prop}

/-- a new instance, tracked, without attributes -/
theorem Inv.made (I : Inv X pins σ H s) : Inv X pins σ (upd (upd H s.heap.objs.size (.own (s.heap.objs.size + 1))) (s.heap.objs.size + 1) (.ins C s.heap.objs.size []))
    { s with heap := (s.heap.push PySem.W.emptyDict).push (PySem.W.instObj C s.heap.objs.size) } := by
  have e1 : (s.heap.push PySem.W.emptyDict).get? s.heap.objs.size = some PySem.W.emptyDict := Heap.get?_push_size s.heap rfl
  have e2 : ((s.heap.push PySem.W.emptyDict).push (PySem.W.instObj C s.heap.objs.size)).get? (s.heap.objs.size + 1) = some (PySem.W.instObj C s.heap.objs.size) := by
    have := Heap.get?_push_size (s.heap.push PySem.W.emptyDict) (o := PySem.W.instObj C s.heap.objs.size) rfl
    rwa [Heap.size_push] at this
  have e3 : (s.heap.push PySem.W.emptyDict).Ns s.heap.objs.size (fun _ => none) := ⟨PySem.W.emptyDict, #[], _, e1, rfl, (fun e he => absurd he (by simp)), fun _ => rfl⟩
  have I1 := I.laid (a := s.heap.objs.size) (o := .own (s.heap.objs.size + 1)) (h' := s.heap.push PySem.W.emptyDict) (t' := s.toks) (fun b u q => Heap.get?_push_of_some _ q) (Nat.le_refl _) ⟨_, e1⟩
  refine I1.laid (a := s.heap.objs.size + 1) (o := .ins C s.heap.objs.size []) (t' := s.toks) (fun b u q => Heap.get?_push_of_some _ q) (Nat.le_of_eq (Heap.size_push _ _)) ?_
  have ne : s.heap.objs.size ≠ s.heap.objs.size + 1 := Nat.ne_of_lt (Nat.lt_succ_self _)
  refine ⟨by rw [upd_ne ne, upd_same], Nat.zero_le _, ne, e2, fun _ => none, (Heap.Ns1.of_empty e3).at fun o q => Heap.get?_push_of_some _ q, fun _ => True.intro, fun y hy => absurd rfl hy⟩

end

/-! ### readings and rules -/
/-- e.f, an attribute of the instance -/
def tFld (K : PySem.W.Frag) (ta : TE) (f : Str) : TE := fun σ H Q => ta σ H fun x H1 => ∃ a C dx fs v, x = .ref a ∧ H1 a = some (.ins C dx fs) ∧ Cls K C ∧ NoAttr K C f ∧ fs.lookup f = some v ∧ Q v H1
/-- e.f, a constant of the class -/
def tCon (K : PySem.W.Frag) (ta : TE) (f : Str) : TE := fun σ H Q => ta σ H fun x H1 => ∃ a C dx fs v u, x = .ref a ∧ H1 a = some (.ins C dx fs) ∧ Cls K C ∧ Con K C f v u ∧ fs.lookup f = none ∧ Q v H1
/-- e.f = value -/
def sFld (K : PySem.W.Frag) (ta tv : TE) (f : Str) : TS := fun D σ H => tv σ H fun y H1 => ta σ H1 fun x H2 => ∃ a C dx fs, x = .ref a ∧ H2 a = some (.ins C dx fs) ∧ Cls K C ∧ NoAttr K C f ∧ fs.length < 1000 ∧
  D.nx σ (upd H2 a (.ins C dx (putF f y fs)))
/-- an augmented operator on two values -/
def InOp (X : Cx) (op : Operator) (rd : V → V → Hp → VK → Prop) : Prop :=
  ∀ (pins : List (Addr × Obj)) (s : Shared) (σ : St) (H : Hp) (x y : V) (u v : Value) (Q : VK), Inv X pins σ H s → RelV x u → RelV y v → rd x y H Q → wpAny (model X.prog X.w) X.A (inplaceOp op u v) (EP X pins σ Q) X.xe s
/-- e.f op= value -/
def sFldAug (K : PySem.W.Frag) (ta tv : TE) (rd : V → V → Hp → VK → Prop) (f : Str) : TS := fun D σ H => ta σ H fun x H1 => ∃ a C dx fs v, x = .ref a ∧ H1 a = some (.ins C dx fs) ∧ Cls K C ∧ NoAttr K C f ∧ fs.lookup f = some v ∧
  tv σ H1 fun y H2 => rd v y H2 fun z H3 => ∃ dx' fs', H3 a = some (.ins C dx' fs') ∧ fs'.length < 1000 ∧ D.nx σ (upd H3 a (.ins C dx' (putF f z fs')))

section
variable {X : Cx} {o e value : Expr} {f : Str} {pos pos' tpos : Pos} {ta tv : TE}
def rAdd : V → V → Hp → VK → Prop := fun x y H Q => ∃ i j, x = .int i ∧ y = .int j ∧ Q (.int (i + j)) H
def rSub : V → V → Hp → VK → Prop := fun x y H Q => ∃ i j, x = .int i ∧ y = .int j ∧ Q (.int (i - j)) H
end

/-! ### isinstance -/
section
variable {X : Cx} {pins : List (Addr × Obj)} {σ : St} {H : Hp} {s : Shared} {A : Around} {E : Value → Shared → Prop} {Q : Value → Shared → Prop} {c : Value} {b : Bool}
/-- the type of a value, as the fragment's deciders take it; for an instance its class -/
inductive TyOf (K : PySem.W.Frag) (H : Hp) : V → Value → Prop where
  | non : TyOf K H .non (.type "NoneType")
  | bl (x : Bool) : TyOf K H (.bl x) (.type "bool")
  | int (i : Int) : TyOf K H (.int i) (.type "int")
  | str (x : Str) : TyOf K H (.str x) (.type "str")
  | flt (x : UInt64) : TyOf K H (.flt x) (.type "float")
  | lst {a : Addr} {xs : List V} (e : H a = some (.lst xs)) : TyOf K H (.ref a) (.type "list")
  | frz {a : Addr} {o : Obj} {xs : List V} (e : H a = some (.frz o (.lst xs))) : TyOf K H (.ref a) (.type "list")
  | tup {a : Addr} {xs : List V} (e : H a = some (.tup xs)) : TyOf K H (.ref a) (.type "tuple")
  | dK {a : Addr} {kvs : List (Key × V)} (e : H a = some (.dK kvs)) : TyOf K H (.ref a) (.type "dict")
  | dT {a : Addr} {kvs : List (List Key × V)} (e : H a = some (.dT kvs)) : TyOf K H (.ref a) (.type "dict")
  | ins {a C dx : Addr} {fs : List (Str × V)} (e : H a = some (.ins C dx fs)) (cl : Cls K C) (ha : PySem.W.findIn K (.ref C) "__class__" = some (some (.builtin "object.__class__")))
      (hn : PySem.W.specialIn K (.builtin "object.__class__") "__get__" = some (some (.builtin "getset_descriptor.__get__"))) (htk : PySem.W.takesIn K (.builtin "object.__class__") = some true)
      (hm : PySem.W.mroIn K C (.type "object") = some true) : TyOf K H (.ref a) (.ref C)
end
end L2

namespace L2
open PySem PySem.Spec PyProof.Rows

/-! ### room -/
structure Room (k : Nat) (A : Around) : Prop where
  hd : A.handled = none
  dp : A.depth + 3 * k + 5 < recursionLimit
  un : A.units + 16 * k + 200 < cLine
theorem Room.mono {j k : Nat} {A : Around} (r : Room k A) (h : j ≤ k) : Room j A := ⟨r.hd, by have := r.dp; omega, by have := r.un; omega⟩
theorem Room.deeper {k : Nat} {A : Around} (r : Room (k + 1) A) (env : Env) : Room k (A.deeper env) :=
  ⟨r.hd, by have := r.dp; show A.depth + 1 + 3 * k + 5 < _; omega, by have := r.un; show A.units + 3 + 16 * k + 200 < _; omega⟩
theorem Room.in1 {k : Nat} {A : Around} (r : Room (k + 1) A) : Room k A.in1 :=
  ⟨r.hd, by have := r.dp; show A.depth + 3 * k + 5 < _; omega, by have := r.un; show A.units + 1 + 16 * k + 200 < _; omega⟩
theorem Room.depth {k : Nat} {A : Around} (r : Room k A) : A.depth < recursionLimit := by have := r.dp; omega
theorem Room.units {k : Nat} {A : Around} (r : Room k A) : A.units + 64 < cLine := by have := r.un; omega
/-! ### argument lists and displays -/
def tNil : TA := fun _ H Q => Q [] H
def tCons (ta : TE) (tr : TA) : TA := fun σ H Q => ta σ H fun x H1 => tr σ H1 fun xs H2 => Q (x :: xs) H2
section
variable {X : Cx} {e : Expr} {es : List Expr} {te : TE} {t : TA} {pos : Pos}
theorem pa_nil : PA X [] tNil := fun _ _ _ _ H Q I h => Calls.spliced_nil ⟨[], H, I, .nil, h⟩
theorem pa_cons (ha : PE X e te) (hr : PA X es t) (hs : starEach (e :: es) X.env = (false, eval e X.env) :: starEach es X.env := by rfl) : PA X (e :: es) (tCons te t) := by
  intro pos pins s σ H Q I h
  rw [hs]
  show wpAny _ _ (spliced ((false, eval e X.env) :: backTo pos (starEach es X.env))) _ _ s
  refine Calls.spliced_cons (thn (ha pins s σ H _ I h) fun u s1 ⟨x, H1, I1, r1, q1⟩ => ?_)
  exact thn (hr pos pins s1 σ H1 _ I1 q1) fun us s2 ⟨xs, H2, I2, r2, q2⟩ => ⟨x :: xs, H2, I2, .cons r1 r2, q2⟩

/-- a tuple, a list of written items -/
def tTup (t : TA) : TE := fun σ H Q => t σ H fun xs H1 => xs.length ≤ sizeLine ∧ ∀ p, H1 p = none → Q (.ref p) (upd H1 p (.tup xs))
def tLst (t : TA) : TE := fun σ H Q => t σ H fun xs H1 => xs.length ≤ sizeLine ∧ ∀ p, H1 p = none → Q (.ref p) (upd H1 p (.lst xs))
theorem pe_tup {x1} (h : PA X es t) : PE X (.Tuple es x1 pos) (tTup t) := by
  intro pins s σ H Q I hq
  refine wpAny_Tuple_spliced (thn (h pos pins s σ H _ I hq) fun us s1 ⟨xs, H1, I1, r, z, q⟩ => ⟨by rw [← r.length]; exact z, ?_⟩)
  have hf : H1 s1.heap.objs.size = none := I1.hok.fresh (Nat.le_refl _)
  refine ⟨.ref s1.heap.objs.size, upd H1 s1.heap.objs.size (.tup xs), I1.laid (t' := s1.toks) (fun b u e => Heap.get?_push_of_some _ e) (Nat.le_refl _) ?_, rfl, q _ hf⟩
  exact ⟨z, us, r, ⟨_, Heap.get?_push_size _ rfl, rfl, _, rfl⟩⟩
theorem pe_lst (h : PA X es t) : PE X (.List es pos) (tLst t) := by
  intro pins s σ H Q I hq
  refine wpAny_List_spliced (thn (h pos pins s σ H _ I hq) fun us s1 ⟨xs, H1, I1, r, z, q⟩ => ⟨by rw [← r.length]; exact z, ?_⟩)
  have hf : H1 s1.heap.objs.size = none := I1.hok.fresh (Nat.le_refl _)
  refine ⟨.ref s1.heap.objs.size, upd H1 s1.heap.objs.size (.lst xs), I1.laid (t' := s1.toks) (fun b u e => Heap.get?_push_of_some _ e) (Nat.le_refl _) ?_, rfl, q _ hf⟩
  exact ⟨z, us, 0, r, Heap.get?_push_size _ rfl⟩
end

/-! ### what a def promises -/
/-- a def's promise: the bound arguments in the parameters' order, the heap, the wanted end, the wanted exception -/
abbrev Sp := List V → Hp → VK → XK → Prop
/-- how an exception lies behind a call (file 08 gives it): the callers' frames, abstract heap and state ahead of the call, the wish, the exception, the state -/
abbrev CXT := List Env → Hp → Shared → XK → Value → Shared → Prop

/-- the state at a call -/
structure Env0 (P : Program) (w : World) (K : PySem.W.Frag) (mg : Str → Option Value) (base : Heap) (A : Around) (outer : List Env) (s : Shared) (H : Hp) : Prop where
  frames : A.frames = some outer
  mod : Mod K mg base
  bs : ∀ b o, base.get? b = some o → s.heap.get? b = some o ∧ H b = none
  bsz : base.objs.size ≤ s.heap.objs.size
  funs : s.heap.FunFrames base outer
  frf : ∀ b ∈ frs outer, H b = none
  hok : HOk P w H s.heap
  bare : AllBare s.gens
/-- a call's end -/
def CE (outer : List Env) (P : Program) (w : World) (H : Hp) (s : Shared) (Q : VK) (u : Value) (s' : Shared) : Prop :=
  ∃ v H', s'.os = s.os ∧ AllBare s'.gens ∧ Un (frs outer) [] H H' s.heap s'.heap ∧ HOk P w H' s'.heap ∧ RelV v u ∧ Q v H'
def CR (CX : CXT) (outer : List Env) (P : Program) (w : World) (H : Hp) (s : Shared) (Q : VK) (E : XK) (r : Result) (s' : Shared) : Prop :=
  match r with
  | .ok (.ret u) => CE outer P w H s Q u s'
  | .ok _ => False
  | .error e => CX outer H s E e s'
structure FnOk (P : Program) (w : World) (K : PySem.W.Frag) (mg : Str → Option Value) (base : Heap) (CX : CXT) (k : Nat) (f : Addr) (fd : FuncData) (ps : List Str) (sp : Sp) : Prop where
  len : ∀ vs H Q E, sp vs H Q E → vs.length = ps.length
  run : ∀ (A : Around) (outer : List Env) (s : Shared) (H : Hp) (args : Args) (us : List Value) (vs : List V) (Q : VK) (E : XK), Room k A → Env0 P w K mg base A outer s H → BindsTo s fd args (ps.zip us) → Vals vs us → sp vs H Q E →
    codeAny (model P w) A (.call (.ref f) args) (CR CX outer P w H s Q E) s
theorem FnOk.mono {P : Program} {w : World} {K : PySem.W.Frag} {mg : Str → Option Value} {base : Heap} {CX : CXT} {j k : Nat} {f : Addr} {fd : FuncData} {ps : List Str} {sp : Sp} (F : FnOk P w K mg base CX j f fd ps sp) (h : j ≤ k) :
    FnOk P w K mg base CX k f fd ps sp := ⟨F.len, fun A outer s H args us vs Q E hr => F.run A outer s H args us vs Q E (hr.mono h)⟩
/-- a weaker promise -/
theorem FnOk.imp {P : Program} {w : World} {K : PySem.W.Frag} {mg : Str → Option Value} {base : Heap} {CX : CXT} {k : Nat} {f : Addr} {fd : FuncData} {ps : List Str} {sp sp' : Sp} (F : FnOk P w K mg base CX k f fd ps sp)
    (h : ∀ vs H Q E, sp' vs H Q E → sp vs H Q E) : FnOk P w K mg base CX k f fd ps sp' :=
  ⟨fun vs H Q E q => F.len vs H Q E (h _ _ _ _ q), fun A outer s H args us vs Q E hr he hb hv hs => F.run A outer s H args us vs Q E hr he hb hv (h _ _ _ _ hs)⟩

theorem Env0.in1 {P : Program} {w : World} {K : PySem.W.Frag} {mg : Str → Option Value} {base : Heap} {A : Around} {outer : List Env} {s : Shared} {H : Hp} (e : Env0 P w K mg base A outer s H) :
    Env0 P w K mg base A.in1 outer s H := ⟨e.frames, e.mod, e.bs, e.bsz, e.funs, e.frf, e.hok, e.bare⟩

section
variable {X : Cx} {pins : List (Addr × Obj)} {σ : St} {H : Hp} {s s' : Shared}
/-- from a body: what a callee wants -/
theorem Inv.env0 (I : Inv X pins σ H s) : Env0 X.prog X.w X.K X.mg X.base X.A X.stack s H :=
  ⟨I.ok.frames, I.ok.mod, I.bs, Nat.le_trans I.ok.bsz I.sz, I.stack, I.stkFree, I.hok, I.bare⟩
/-- behind a call -/
theorem Inv.after {Q : VK} {u : Value} (I : Inv X pins σ H s) (h : CE X.stack X.prog X.w H s Q u s') : EP X pins σ Q u s' := by
  obtain ⟨v, H', os, bare, un, hok, r, q⟩ := h
  obtain ⟨hh, g, d, t, os'⟩ := s'
  obtain rfl : os' = s.os := os
  exact ⟨v, H', I.call (h' := hh) (g' := g) (d' := d) (t' := t) (ch := []) un hok bare (fun b z => absurd z (by simp)), r, q⟩
end

/-! ### calls -/
/-- f(..): the written arguments, then the defaults dvs; E: what is wanted of an exception -/
def tCall (sp : Sp) (dvs : List V) (E : XK) (t : TA) : TE := fun σ H Q => t σ H fun vs H1 => sp (vs ++ dvs) H1 Q E
/-- o.m(..) of an instance of the class at C -/
def tMeth (C : Addr) (m : Str) (sp : Sp) (dvs : List V) (E : XK) (ta : TE) (t : TA) : TE := fun σ H Q => ta σ H fun x H1 => ∃ a dx fs, x = .ref a ∧ H1 a = some (.ins C dx fs) ∧ fs.lookup m = none ∧
  t σ H1 fun vs H2 => sp (x :: (vs ++ dvs)) H2 Q E
/-- C(..): a new instance and its dict, then __init__ -/
def tMake (C : Addr) (sp : Sp) (dvs : List V) (E : XK) (t : TA) : TE := fun σ H Q => t σ H fun vs H1 => ∀ x dx, H1 x = none → H1 dx = none → dx ≠ x →
  sp (.ref x :: (vs ++ dvs)) (upd (upd H1 dx (.own x)) x (.ins C dx [])) (fun v H2 => v = .non ∧ Q (.ref x) H2) E

/-- how the parameters are bound: us the positional arguments, kw the keywords' values by name, ds the defaults that fill up -/
def Binds (K : PySem.W.Frag) (fd : FuncData) (ps : List Str) (ds : List Value) : Prop :=
  ∀ (s : Shared) (us : List Value), K.In s.heap → (us ++ ds).length = ps.length → BindsTo s fd ⟨us, []⟩ (ps.zip (us ++ ds))
/-- every parameter is given -/
theorem Binds.all {K : PySem.W.Frag} {fd : FuncData} {ps : List Str} (h : ∀ us : List Value, us.length = ps.length → bindArgs fd ⟨us, []⟩ = pure (ps.zip us)) : Binds K fd ps [] := fun s us _ hl => by
  rw [List.append_nil] at hl ⊢
  exact .of_eq (h us hl)

/-- an exception of a callee reaches what this body wants of exceptions -/
def Passes (CX : CXT) (X : Cx) (E : XK) : Prop := ∀ (pins : List (Addr × Obj)) (σ : St) (H : Hp) (s : Shared) (e : Value) (s' : Shared), Inv X pins σ H s → CX X.stack H s E e s' → X.xe e s'

section
variable {X : Cx} {CX : CXT} {k : Nat} {f C : Addr} {fd : FuncData} {ps : List Str} {sp : Sp} {dvs : List V} {ds : List Value} {E : XK} {x m : Str} {p pos apos : Pos} {e o : Expr} {es : List Expr} {ta : TE} {t : TA}

/-- the callee runs -/
theorem run_fn {pins : List (Addr × Obj)} {σ : St} {H : Hp} {s : Shared} {Q : VK} {us : List Value} {vs : List V} (F : FnOk X.prog X.w X.K X.mg X.base CX k f fd ps sp) (hr : Room k X.A) (hb : Binds X.K fd ps ds) (hd : Vals dvs ds) (hx : Passes CX X E)
    (I : Inv X pins σ H s) (r : Vals vs us) (h : sp (vs ++ dvs) H Q E) : wpAny (model X.prog X.w) X.A (call (.ref f) us) (EP X pins σ Q) X.xe s := by
  have r2 : Vals (vs ++ dvs) (us ++ ds) := r.append hd
  have hl : (us ++ ds).length = ps.length := by rw [← r2.length]; exact F.len _ _ _ _ h
  refine wpAny_call (codeAny_mono (F.run X.A X.stack s H ⟨us, []⟩ (us ++ ds) (vs ++ dvs) Q E hr I.env0 (hb s us I.kIn hl) r2 h) fun r s' hq => ?_)
  cases r with
  | error e => exact hx pins σ H s e s' I hq
  | ok fl =>
    cases fl with
    | ret u => exact I.after hq
    | next => exact False.elim hq
    | brk => exact False.elim hq
    | cont => exact False.elim hq

theorem pe_call (F : FnOk X.prog X.w X.K X.mg X.base CX k f fd ps sp) (hr : Room k X.A) (hg : Gl X x) (hm : X.mg x = some (.ref f)) (hk : PySem.W.keepIn X.K (.ref f) = true) (hb : Binds X.K fd ps ds) (hd : Vals dvs ds) (hx : Passes CX X E)
    (ha : PA X (e :: es) t) (hdb : (x == ("__debug__" : Str)) = false := by decide) (he : starEach (e :: es) X.env = (false, eval e X.env) :: starEach es X.env := by rfl) (hpl : (backTo pos (starEach es X.env)).any (·.1) = false := by rfl) :
    PE X (.Call (.Name x p) (e :: es) [] pos) (tCall sp dvs E t) := by
  intro pins s σ H Q I h
  refine wpAny_Call_Name_kw (ld_glob I hg hm ?_ hdb)
  refine PySem.W.callWith_K (h₀ := X.base) I.ok.mod.kin hk (thn (ha pos pins s σ H _ I h) fun us s1 ⟨vs, H1, I1, r, q⟩ => ⟨I1.kIn, ?_⟩) he hpl
  exact run_fn F hr hb hd hx I1 r q
/-- what a class must have to be made -/
structure Mk (K : PySem.W.Frag) (C f : Addr) : Prop where
  makes : PySem.W.makesIn K C = true
  init : PySem.W.findIn K (.ref C) "__init__" = some (some (.ref f))
  fn : PySem.W.isFn K (.ref f) = true
  kp : PySem.W.keepIn K (.ref C) = true

end

/-! ### keywords -/
/-- the values of the keywords, from the left -/
def PK (X : Cx) (kws : List Keyword) (t : TA) : Prop :=
  ∀ (pos : Pos) (pins : List (Addr × Obj)) (s : Shared) (σ : St) (H : Hp) (Q : List V → Hp → Prop), Inv X pins σ H s → t σ H Q → wpAny (model X.prog X.w) X.A (evalAll ((backToKw pos (keywordEach kws X.env)).map (·.2))) (AP X pins σ Q) X.xe s
section
variable {X : Cx} {CX : CXT} {k : Nat} {f C : Addr} {fd : FuncData} {ps ks : List Str} {sp : Sp} {E : XK} {x m : Str} {p pos apos kpos : Pos} {e o : Expr} {es : List Expr} {kws : List Keyword} {te ta : TE} {t tk : TA} {nm : Option Str}
/-- how a call with keywords binds: g puts the positional values us and the keywords' values ws (names ks) in the parameters' order, defaults among them -/
structure KBinds (K : PySem.W.Frag) (fd : FuncData) (ps ks : List Str) (g : List Value → List Value → List Value) (gV : List V → List V → List V) : Prop where
  to : ∀ (s : Shared) (us ws : List Value), K.In s.heap → (g us ws).length = ps.length → BindsTo s fd ⟨us, ks.zip ws⟩ (ps.zip (g us ws))
  rel : ∀ {vs : List V} {us : List Value} {zs : List V} {ws : List Value}, Vals vs us → Vals zs ws → Vals (gV vs zs) (g us ws)
def tCallK (sp : Sp) (gV : List V → List V → List V) (E : XK) (t tk : TA) : TE := fun σ H Q => t σ H fun vs H1 => tk σ H1 fun zs H2 => sp (gV vs zs) H2 Q E
variable {g : List Value → List Value → List Value} {gV : List V → List V → List V}
end

/-! ### a def's body keeps its promise -/
/-- names: the parameters first -/
structure FnScope (N P : List Str) (sc : Scope) : Prop where
  kind : sc.kind = .function
  co : sc.isCoroutine = false
  gen : sc.isGenerator = false
  nd : N.Nodup
  pre : N.take P.length = P
  par : ∀ x ∈ P, sc.names.lookup x = some .local ∨ sc.names.lookup x = some .cell
  nofree : ∀ y ∈ sc.names, y.2 ≠ .free

theorem bindL_out {kindOf : Str → Option NameKind} {x : Str} : ∀ {binds : List (Str × Value)} {m : Str → Option Value}, (∀ v, (x, v) ∉ binds) → bindL kindOf binds m x = m x
  | [], _, _ => rfl
  | (n, v) :: r, m, h => by
    unfold bindL
    rw [bindL_out fun w hw => h w (List.mem_cons_of_mem _ hw)]
    split
    · have : x ≠ n := by rintro rfl; exact h v List.mem_cons_self
      simp [this]
    · rfl
theorem bindC_out {kindOf : Str → Option NameKind} {x : Str} : ∀ {binds : List (Str × Value)} {m : Str → Option Value}, (∀ v, (x, v) ∉ binds) → bindC kindOf binds m x = m x
  | [], _, _ => rfl
  | (n, v) :: r, m, h => by
    unfold bindC
    rw [bindC_out fun w hw => h w (List.mem_cons_of_mem _ hw)]
    split
    · rfl
    · have : x ≠ n := by rintro rfl; exact h v List.mem_cons_self
      simp [this]
theorem bindL_get {kindOf : Str → Option NameKind} {x : Str} {v : Value} : ∀ {P : List Str} {vs : List Value} {i : Nat} {m : Str → Option Value}, P.Nodup → P[i]? = some x → vs[i]? = some v → kindOf x = some .local →
    bindL kindOf (P.zip vs) m x = some v
  | [], _, _, _, _, h, _, _ => by simp at h
  | _ :: _, [], _, _, _, _, h, _ => by simp at h
  | p :: P, w :: vs, 0, m, nd, h1, h2, hk => by
    simp at h1 h2; subst h1; subst h2
    show bindL kindOf ((p, w) :: P.zip vs) m p = _
    unfold bindL
    rw [bindL_out fun v hv => (List.nodup_cons.mp nd).1 (List.of_mem_zip hv).1, if_pos hk]
    simp
  | p :: P, w :: vs, i + 1, m, nd, h1, h2, hk => by
    show bindL kindOf ((p, w) :: P.zip vs) m x = _
    unfold bindL
    exact bindL_get (i := i) (List.nodup_cons.mp nd).2 (by simpa using h1) (by simpa using h2) hk
theorem bindC_get {kindOf : Str → Option NameKind} {x : Str} {v : Value} : ∀ {P : List Str} {vs : List Value} {i : Nat} {m : Str → Option Value}, P.Nodup → P[i]? = some x → vs[i]? = some v → kindOf x ≠ some .local →
    bindC kindOf (P.zip vs) m x = some v
  | [], _, _, _, _, h, _, _ => by simp at h
  | _ :: _, [], _, _, _, _, h, _ => by simp at h
  | p :: P, w :: vs, 0, m, nd, h1, h2, hk => by
    simp at h1 h2; subst h1; subst h2
    show bindC kindOf ((p, w) :: P.zip vs) m p = _
    unfold bindC
    rw [bindC_out fun v hv => (List.nodup_cons.mp nd).1 (List.of_mem_zip hv).1, if_neg hk]
    simp
  | p :: P, w :: vs, i + 1, m, nd, h1, h2, hk => by
    show bindC kindOf ((p, w) :: P.zip vs) m x = _
    unfold bindC
    exact bindC_get (i := i) (List.nodup_cons.mp nd).2 (by simpa using h1) (by simpa using h2) hk

/-- the names' values at the entry -/
def start (N : List Str) (vs : List V) : St := vs.map some ++ List.replicate (N.length - vs.length) none

/-- the context of a def's body, at its entry; an exception leaves the frame, then lies as CX says -/
def cxOf (CX : CXT) (P : Program) (w : World) (K : PySem.W.Frag) (mg : Str → Option Value) (base : Heap) (N : List Str) (qual : Str) (scope : Scope) (f : Addr) (cd : Value) (A : Around) (outer : List Env) (s : Shared) (H : Hp) (E : XK) : Cx where
  prog := P
  w := w
  K := K
  mg := mg
  base := base
  A := A.deeper (envOfC qual scope s.heap.objs.size f cd)
  N := N
  s_0 := s
  H_0 := H
  env := envOfC qual scope s.heap.objs.size f cd
  outer := outer
  stack := envOfC qual scope s.heap.objs.size f cd :: outer
  ex := []
  calm := true
  fn := fun _ => true
  pn := []
  xe := fun e s' => wpAny (model P w) (A.deeper (envOfC qual scope s.heap.objs.size f cd)) (leaving (envOfC qual scope s.heap.objs.size f cd) e) (fun _ s'' => CX outer H s E e s'') (fun e' s'' => CX outer H s E e' s'') s'

theorem cell_has {sc : Scope} {n : Nat} {x : Str} (h : sc.names.lookup x = some .cell) : ∃ c, (cellsFrom n sc.names []).lookup x = some c := by
  have q := PySem.W.cellsFrom_some sc.names n [] (.inl h)
  exact Option.isSome_iff_exists.mp q

theorem inv_start {CX : CXT} {P : Program} {w : World} {K : PySem.W.Frag} {mg : Str → Option Value} {base : Heap} {N ps : List Str} {qual : Str} {scope : Scope} {f : Addr} {cd : Value} {A : Around} {outer : List Env} {s s1 : Shared} {H : Hp} {E : XK} {us : List Value} {vs : List V}
    (S : FnScope N ps scope) (hd : A.handled = none) (e0 : Env0 P w K mg base A outer s H) (hl : vs.length = ps.length) (r : Vals vs us)
    (x : InCallC s s.heap.objs.size (bindL (envOfC qual scope s.heap.objs.size f cd).kindOf (ps.zip us) fun _ => none) (cellsFrom (s.heap.objs.size + 1) scope.names []) (bindC (envOfC qual scope s.heap.objs.size f cd).kindOf (ps.zip us) fun _ => none) s1) :
    Inv (cxOf CX P w K mg base N qual scope f cd A outer s H E) [] (start N vs) H s1 := by
  have hpl : ps.length ≤ N.length := by have := congrArg List.length S.pre; rw [List.length_take] at this; omega
  obtain ⟨h1, tk, rfl, hk⟩ := x.done
  have noA : ∀ b : Addr, b ∉ (cxOf CX P w K mg base N qual scope f cd A outer s H E).ex := fun b z => absurd (show b ∈ ([] : List Addr) from z) (by simp)
  refine ⟨⟨e0.mod, S.kind, rfl, rfl, Nat.le_refl _, fun y z c h1 h2 => ?_, fun y hy => ?_, fun y c _ h => ?_, fun _ => hd, Around.frames_deeper e0.frames, .inr ⟨rfl, rfl⟩, fun b z => absurd z (noA b), e0.bs, e0.bsz, fun b _ _ => noA b, fun b z => absurd z (noA b), e0.funs, e0.frf⟩,
    rfl, e0.bare, Un.kept hk, ⟨_, x.toInCall.ns, fun i y v h1 h2 h3 => ?_⟩, fun y c h => ⟨_, x.cell y c h⟩, e0.hok.fresh (Nat.le_refl _), fun y c h => ?_, fun p hp => absurd (show p ∈ ([] : List (Addr × Obj)) from hp) (by simp), e0.hok.kept hk, ?_⟩
  · exact name_of_addr x.apart (PySem.mem_of_lookup h1) (PySem.mem_of_lookup h2)
  · have hy : scope.names.lookup y = some .cell ∨ scope.names.lookup y = some .free := hy
    rcases hy with hy | hy
    · exact cell_has hy
    · exact absurd rfl (S.nofree _ (PySem.mem_of_lookup hy))
  · exact Nat.le_of_lt (x.above y c (PySem.mem_of_lookup h))
  · have hi : i < vs.length := by
      unfold start at h2
      by_cases hi : i < vs.length
      · exact hi
      · rw [List.getElem?_append_right (by simpa using hi)] at h2
        rw [List.getElem?_replicate] at h2
        split at h2 <;> cases h2
    have ha : vs[i]? = some v := by
      unfold start at h2
      rw [List.getElem?_append_left (by simpa using hi), List.getElem?_map] at h2
      cases e : vs[i]? with
      | none => rw [e] at h2; cases h2
      | some a => rw [e] at h2; cases h2; rfl
    obtain ⟨u, hu, rv⟩ := r.get ha
    have hp : ps[i]? = some y := by
      rw [← S.pre, List.getElem?_take_of_lt (by omega)]; exact h1
    have ndP : ps.Nodup := by rw [← S.pre]; exact S.nd.sublist (List.take_sublist _ _)
    refine ⟨u, rv, ?_⟩
    rcases S.par y (List.mem_of_getElem? hp) with k | k
    · exact .inl ⟨k, bindL_get ndP hp hu k⟩
    · obtain ⟨c, e⟩ := cell_has (n := s.heap.objs.size + 1) k
      refine .inr ⟨.inl k, c, e, ?_⟩
      have q := x.cell y c e
      rw [bindC_get ndP hp hu (by show scope.names.lookup y ≠ _; rw [k]; decide)] at q
      exact q
  · exact e0.hok.fresh (Nat.le_of_lt (x.above y c (PySem.mem_of_lookup h)))
  · unfold start
    show _ = N.length
    rw [List.length_append, List.length_map, List.length_replicate]
    omega

/-- THE RULE: a def (or a method) of the text, by its body. The body's reading t is chosen for each entry; it is run at the parameters' values -/
theorem fn_of {CX : CXT} {P : Program} {w : World} {K : PySem.W.Frag} {mg : Str → Option Value} {base : Heap} {k : Nat} {f : Addr} {name qual : Str} {params : Arguments} {body : List Stmt} {scope : Scope} {dV kV doc pm cdv ct oc : Value} {an od : Option Addr}
    {osl : Array (Option Value)} {N ps : List Str} {sp : Sp} (lk : K.lookup f = some ⟨oc, od, .func (PySem.W.fnOf name qual params body scope dV kV doc pm an cdv ct), osl⟩) (hcd : PySem.W.codeIn K cdv qual = true) (S : FnScope N ps scope)
    (len : ∀ vs H Q E, sp vs H Q E → vs.length = ps.length)
    (hbody : ∀ (A : Around) (outer : List Env) (s : Shared) (H : Hp) (vs : List V) (Q : VK) (E : XK), Room k (A.deeper (envOfC qual scope s.heap.objs.size f cdv)) → sp vs H Q E →
      ∃ t, PSs (cxOf CX P w K mg base N qual scope f cdv A outer s H E) body t ∧ t { nx := fun _ H' => Q .non H', rt := Q } (start N vs) H) :
    FnOk P w K mg base CX (k + 1) f (PySem.W.fnOf name qual params body scope dV kV doc pm an cdv ct) ps sp := by
  refine ⟨len, fun A outer s H args us vs Q E hr e0 hb r hsp => ?_⟩
  have hl := len _ _ _ _ hsp
  have KX : K.In s.heap := e0.mod.kin.keeps fun b o e => (e0.bs b o e).1
  have lim : s.heap.NoLimit := e0.mod.nolimit.keeps fun b o e => (e0.bs b o e).1
  have hkind : ∀ y ∈ ps.zip us, scope.names.lookup y.1 = some .local ∨ (scope.names.lookup y.1 = some .cell ∧ ((cellsFrom (s.heap.objs.size + 1) scope.names []).lookup y.1).isSome = true) := fun ⟨n, v⟩ hy => by
    rcases S.par n (List.of_mem_zip hy).1 with q | q
    · exact .inl q
    · exact .inr ⟨q, PySem.W.cellsFrom_some _ _ _ (.inl q)⟩
  refine codeAny_call_function hr.depth (KX _ _ lk) rfl S.co S.gen rfl (PySem.W.codeRec_of KX hcd) (hb _ _ _ _ ?_)
  refine wpAny_newFunctionEnv_cells S.kind hkind fun env he s1 x => ?_
  subst he
  refine ⟨lim.keeps x.toInCall.keep, codeAny_func ?_⟩
  obtain ⟨t, ht, hq⟩ := hbody A outer s H vs Q E (hr.deeper _) hsp
  have I : Inv (cxOf CX P w K mg base N qual scope f cdv A outer s H E) [] (start N vs) H s1 := inv_start S hr.hd e0 hl r x
  refine wpAny_mono (ht [] s1 (start N vs) H _ I hq) (fun fl s' hs => ?_) fun e s' hs => hs
  have fin : ∀ {σ' : St} {H' : Hp} {v : V} {u : Value}, Inv (cxOf CX P w K mg base N qual scope f cdv A outer s H E) [] σ' H' s' → RelV v u → Q v H' → CE outer P w H s Q u s' :=
    fun {σ' H' v u} J rv q => ⟨v, H', J.os, J.bare, J.base, J.hok, rv, q⟩
  cases fl with
  | ret u =>
    obtain ⟨v, σ', H', J, rv, q⟩ := hs
    exact fin J rv q
  | next =>
    obtain ⟨σ', H', J, q⟩ := hs
    exact fin (v := V.non) (u := Value.none) J rfl q
  | brk =>
    obtain ⟨_, _, _, q⟩ := hs
    exact False.elim q
  | cont =>
    obtain ⟨_, _, _, q⟩ := hs
    exact False.elim q
end L2

namespace L2
open PySem PySem.Spec PyProof.Rows
section
variable {X : Cx} {x : Str} {p pos : Pos} {e : Expr} {es : List Expr} {t : TA} {id T : String} {r : List V → Hp → VK → Prop}

def tCB (r : List V → Hp → VK → Prop) (t : TA) : TE := fun σ H Q => t σ H fun vs H1 => r vs H1 Q
/-- f(e, ..), f a built-in function -/
theorem pe_callB (hc : CallR X (.builtin id) r) (hg : Gl X x) (hm : X.mg x = none) (hv : bootBuiltins x = some (.builtin id)) (ha : PA X (e :: es) t) (hn : x ≠ "__name__" := by decide) (hdb : (x == ("__debug__" : Str)) = false := by decide)
    (he : starEach (e :: es) X.env = (false, eval e X.env) :: starEach es X.env := by rfl) (hpl : (backTo pos (starEach es X.env)).any (·.1) = false := by rfl) : PE X (.Call (.Name x p) (e :: es) [] pos) (tCB r t) := by
  intro pins s σ H Q I h
  refine wpAny_Call_Name_kw (ld_blt I hg hm hv ?_ hn hdb)
  exact PyProof.Rows.callWith_builtin1 (thn (ha pos pins s σ H _ I h) fun us s1 ⟨vs, H1, I1, r1, q1⟩ => hc pins s1 σ H1 vs us Q I1 r1 q1) he hpl
/-- T(e, ..), T a built-in type -/
theorem pe_callTy (hc : CallR X (.type T) r) (hg : Gl X x) (hm : X.mg x = none) (hv : bootBuiltins x = some (.type T)) (ha : PA X (e :: es) t) (hn : x ≠ "__name__" := by decide) (hdb : (x == ("__debug__" : Str)) = false := by decide)
    (he : starEach (e :: es) X.env = (false, eval e X.env) :: starEach es X.env := by rfl) (hpl : (backTo pos (starEach es X.env)).any (·.1) = false := by rfl) : PE X (.Call (.Name x p) (e :: es) [] pos) (tCB r t) := by
  intro pins s σ H Q I h
  refine wpAny_Call_Name_kw (ld_blt I hg hm hv ?_ hn hdb)
  exact PyProof.Rows.callWith_type1 (thn (ha pos pins s σ H _ I h) fun us s1 ⟨vs, H1, I1, r1, q1⟩ => hc pins s1 σ H1 vs us Q I1 r1 q1) he hpl
end
end L2

namespace HT
open PySem PyProof.Rows

/-- t < u of tuples of ints -/
def lexLt : List Int → List Int → Bool
  | [], [] => false
  | [], _ :: _ => true
  | _ :: _, [] => false
  | x :: xs, y :: ys => if x = y then lexLt xs ys else decide (x < y)
section
open PySem.SeqAt
open PySem.AutoSeq1 (wpAny_loadPart')
open PySem.MeetsSeq PySem.MeetsSeq2 PySem.MeetsSeq3

end

section
variable {prog : Program} {w : World} {A : Around} {E : Value → Shared → Prop} {s : Shared}

/-! ### t[a:b], not the whole -/
/-- a slice's bound as a place among n (d where it is left out) -/
def sIx (n d : Nat) : Option Int → Nat
  | none => d
  | some v => if v < 0 then (v + (n : Int)).toNat else min v.toNat n
theorem sIx_nat (n d k : Nat) : sIx n d (some (k : Int)) = min k n := by
  show (if (k : Int) < 0 then ((k : Int) + (n : Int)).toNat else min (k : Int).toNat n) = min k n
  rw [if_neg (by omega), Int.toNat_natCast]
end
end HT

namespace L2
open PySem PySem.Spec PyProof.Rows

/-! ### the parts of a slice -/
abbrev TO := St → Hp → (Option Int → Hp → Prop) → Prop
/-- a slice's part (left out, or an int) -/
def PO (X : Cx) (e : Option Expr) (t : TO) : Prop :=
  ∀ (pins : List (Addr × Obj)) (s : Shared) (σ : St) (H : Hp) (Q : Option Int → Hp → Prop), Inv X pins σ H s → t σ H Q →
    wpAny (model X.prog X.w) X.A (evalPart e X.env) (fun u s' => ∃ o H', Inv X pins σ H' s' ∧ IsPart u o ∧ Q o H') X.xe s
def tNoPart : TO := fun _ H Q => Q none H
def tPart (t : TE) : TO := fun σ H Q => t σ H fun x H1 => ∃ i, x = .int i ∧ Q (some i) H1

section
variable {X : Cx} {e : Expr} {te : TE} {lo hi : Option Expr} {tl th : TO} {pos p2 : Pos}

/-- what a slice of a value is, by values: the slice object stands at sl -/
def SlR (X : Cx) (r : V → Option Int → Option Int → Hp → VK → Prop) : Prop :=
  ∀ (pins : List (Addr × Obj)) (s : Shared) (σ : St) (H : Hp) (x : V) (v vl vu : Value) (lo hi : Option Int) (sl : Addr) (Q : VK), Inv X pins σ H s → RelV x v → s.heap.IsSliceOf sl vl vu .none → IsPart vl lo → IsPart vu hi → r x lo hi H Q →
    ∃ T id, typeLookup (.type T) "__getitem__" = pure (some (.builtin id)) ∧ s.TypeIs v T ∧ wpAny (model X.prog X.w) X.A (getItem v (.ref sl)) (EP X pins σ Q) X.xe s
theorem SlR.or {r r' : V → Option Int → Option Int → Hp → VK → Prop} (h : SlR X r) (h' : SlR X r') : SlR X (fun x lo hi H Q => r x lo hi H Q ∨ r' x lo hi H Q) := by
  intro pins s σ H x v vl vu lo hi sl Q I rx hs pl pu q
  rcases q with q | q
  · exact h pins s σ H x v vl vu lo hi sl Q I rx hs pl pu q
  · exact h' pins s σ H x v vl vu lo hi sl Q I rx hs pl pu q
def tSl (r : V → Option Int → Option Int → Hp → VK → Prop) (te : TE) (tl th : TO) : TE := fun σ H Q => te σ H fun x H1 => tl σ H1 fun l H2 => th σ H2 fun u H3 => r x l u H3 Q
/-- the items of xs[lo:hi] -/
def cutV (xs : List V) (lo hi : Option Int) : List V := (xs.drop (HT.sIx xs.length 0 lo)).take (HT.sIx xs.length xs.length hi - HT.sIx xs.length 0 lo)
/-- t[lo:hi], not the whole of it (the whole would be t itself) -/
def rSlT (K : PySem.W.Frag) : V → Option Int → Option Int → Hp → VK → Prop := fun x lo hi H Q => ∃ a xs, x = .ref a ∧ SqT K H a xs ∧
  ¬ (HT.sIx xs.length 0 lo = 0 ∧ HT.sIx xs.length xs.length hi = xs.length) ∧ ∀ p, H p = none → Q (.ref p) (upd H p (.tup (cutV xs lo hi)))
/-! ### t < u, t + u -/
def rLtT (K : PySem.W.Frag) : R2 := fun x y H Q => ∃ a b ns ms, x = .ref a ∧ y = .ref b ∧ SqT K H a (ns.map V.int) ∧ SqT K H b (ms.map V.int) ∧ Q (.bl (HT.lexLt ns ms)) H
/-- t + u, t not empty: u empty gives t itself -/
def rCatT (K : PySem.W.Frag) : R2 := fun x y H Q => ∃ a b xs ys, x = .ref a ∧ y = .ref b ∧ SqT K H a xs ∧ SqT K H b ys ∧ xs ≠ [] ∧ xs.length + ys.length ≤ sizeLine ∧
  (ys = [] → Q (.ref a) H) ∧ (ys ≠ [] → ∀ p, H p = none → Q (.ref p) (upd H p (.tup (xs ++ ys))))
end
end L2

namespace L2
open PySem PySem.Spec PyProof.Rows

/-! ### places -/
/-- the place that an index of any sign means -/
def ixN (n : Nat) (i : Int) : Option Nat := if 0 ≤ i then (if i < n then some i.toNat else none) else if -(n : Int) ≤ i then some (i + n).toNat else none
def atI {α : Type} (xs : List α) (i : Int) : Option α := (ixN xs.length i).bind fun j => xs[j]?
theorem ixN_seq {n : Nat} {i : Int} {j : Nat} (h : ixN n i = some j) : seqIndex? i n = some j ∧ j < n ∧ -(n : Int) ≤ i ∧ i < n := by
  unfold ixN at h
  by_cases h0 : 0 ≤ i
  · rw [if_pos h0] at h
    by_cases h1 : i < n
    · rw [if_pos h1] at h
      have e : i.toNat = j := Option.some.inj h
      exact ⟨by rw [seqIndex_of h0 h1, e], by omega, by omega, h1⟩
    · rw [if_neg h1] at h; cases h
  · rw [if_neg h0] at h
    by_cases h1 : -(n : Int) ≤ i
    · rw [if_pos h1] at h
      have e : (i + n).toNat = j := Option.some.inj h
      exact ⟨by rw [seqIndex_neg (by omega) h1, e], by omega, h1, by omega⟩
    · rw [if_neg h1] at h; cases h
theorem atI_get {α : Type} {xs : List α} {i : Int} {v : α} (h : atI xs i = some v) : ∃ j, seqIndex? i xs.length = some j ∧ xs[j]? = some v ∧ j < xs.length ∧ -(xs.length : Int) ≤ i ∧ i < xs.length := by
  unfold atI at h
  cases e : ixN xs.length i with
  | none => rw [e] at h; cases h
  | some j =>
    rw [e] at h
    obtain ⟨h1, h2, h3, h4⟩ := ixN_seq e
    exact ⟨j, h1, h, h2, h3, h4⟩
theorem atI_nat {α : Type} {xs : List α} {j : Nat} {v : α} (h : xs[j]? = some v) : atI xs (j : Int) = some v := by
  have hj : j < xs.length := (List.getElem?_eq_some_iff.mp h).1
  have e : ixN xs.length (j : Int) = some j := by
    unfold ixN
    rw [if_pos (by omega), if_pos (by omega)]; simp
  unfold atI; rw [e]; exact h
/-! ### what may be subscripted -/
/-- what stands as an index of a plain subscript -/
def PlainIx (b : Expr) : Prop := ∀ o i, subscripted b false o i = operate [o, i] (getItem o i)
/-- a subscript by values -/
def IxR (X : Cx) (r : R2) : Prop :=
  ∀ (value slice : Expr) (pins : List (Addr × Obj)) (s : Shared) (σ : St) (H : Hp) (x y : V) (v u : Value) (Q : VK), Inv X pins σ H s → RelV x v → RelV y u → r x y H Q →
    subscripted slice false v u = operate [v, u] (getItem v u) → wpAny (model X.prog X.w) X.A (subscriptTail value slice v u) (EP X pins σ Q) X.xe s
/-- a call of a builtin's method by values: the receiver, the arguments -/
def MtR (X : Cx) (id : String) (r : V → List V → Hp → VK → Prop) : Prop :=
  ∀ (pins : List (Addr × Obj)) (s : Shared) (σ : St) (H : Hp) (x : V) (xs : List V) (v : Value) (us : List Value) (Q : VK), Inv X pins σ H s → RelV x v → Vals xs us → r x xs H Q →
    wpAny (model X.prog X.w) X.A (call (.builtin id) (v :: us)) (EP X pins σ Q) X.xe s
section
variable {X : Cx} {a b : Expr} {ta tb : TE} {pos : Pos}
theorem IxR.or {r r' : R2} (h : IxR X r) (h' : IxR X r') : IxR X (fun x y H Q => r x y H Q ∨ r' x y H Q) := by
  intro value slice pins s σ H x y v u Q I rx ry q hs
  rcases q with q | q
  · exact h value slice pins s σ H x y v u Q I rx ry q hs
  · exact h' value slice pins s σ H x y v u Q I rx ry q hs
theorem MtR.or {id : String} {r r' : V → List V → Hp → VK → Prop} (h : MtR X id r) (h' : MtR X id r') : MtR X id (fun x xs H Q => r x xs H Q ∨ r' x xs H Q) := by
  intro pins s σ H x xs v us Q I rx rs q
  rcases q with q | q
  · exact h pins s σ H x xs v us Q I rx rs q
  · exact h' pins s σ H x xs v us Q I rx rs q
/-- a[b] -/
theorem pe_ix {r : R2} (hr : IxR X r) (ha : PE X a ta) (hb : PE X b tb) (hs : PlainIx b) : PE X (.Subscript a b pos) (tOp r ta tb) := by
  intro pins s σ H Q I h
  exact Subscript_ (binT ha hb I h fun v u s2 x y H2 I2 rx ry q => hr a b pins s2 σ H2 x y v u Q I2 rx ry q (hs _ _))

def rIxL (K : PySem.W.Frag) : R2 := fun x y H Q => ∃ p xs i v, x = .ref p ∧ y = .int i ∧ SqL K H p xs ∧ atI xs i = some v ∧ Q v H
def rIxT (K : PySem.W.Frag) : R2 := fun x y H Q => ∃ p xs i v, x = .ref p ∧ y = .int i ∧ SqT K H p xs ∧ atI xs i = some v ∧ Q v H
def rIxS : R2 := fun x y H Q => ∃ z i c, x = .str z ∧ y = .int i ∧ z.length ≤ sizeLine ∧ atI z.cps.toList i = some c ∧ Q (.str ⟨#[c]⟩) H
theorem ix_list : IxR X (rIxL X.K) := by
  intro value slice pins s σ H x y v u Q I rx ry h hs
  obtain ⟨p, xs, i, z, rfl, rfl, hq, he, q⟩ := h
  cases rx
  obtain ⟨t, rfl⟩ := ry
  obtain ⟨its, r, pl, hz⟩ := I.list hq
  obtain ⟨j, h1, h2, h3, h4, h5⟩ := atI_get he
  obtain ⟨w, ew, rw'⟩ := r.get h2
  have hl := r.length
  have hn := line63
  have fin : EP X pins σ Q w s := ⟨z, H, I, rw', q⟩
  by_cases h0 : 0 ≤ i
  · have hj : i.toNat = j := by
      rw [seqIndex_of h0 h5] at h1
      exact Option.some.inj h1
    exact item_listR pl.isList h0 (by omega) (by rw [hj]; simpa using ew) fin hs
  · have hj : (i + (its.toArray.size : Int)).toNat = j := by
      rw [seqIndex_neg (by omega) h4] at h1
      rw [List.size_toArray, ← hl]
      exact Option.some.inj h1
    exact subscriptTail_builtinR (x := w) pl.isList.typeIs slot_list_getitem.lookup
      (wpAny_getItem_list_neg (Q := fun r s' => r = w ∧ EP X pins σ Q r s') pl.isList (by omega) (by rw [List.size_toArray] <;> omega) (by omega) (by rw [hj]; simpa using ew) ⟨rfl, fin⟩) hs
theorem ix_tup : IxR X (rIxT X.K) := by
  intro value slice pins s σ H x y v u Q I rx ry h hs
  obtain ⟨p, xs, i, z, rfl, rfl, hq, he, q⟩ := h
  cases rx
  obtain ⟨t, rfl⟩ := ry
  obtain ⟨its, r, pl, hz⟩ := I.tuple hq
  obtain ⟨j, h1, h2, h3, h4, h5⟩ := atI_get he
  obtain ⟨w, ew, rw'⟩ := r.get h2
  have hl := r.length
  have hn := line63
  have fin : EP X pins σ Q w s := ⟨z, H, I, rw', q⟩
  exact subscriptTail_builtinR (x := w) pl.typeIs slot_tuple_getitem.lookup
    (getItem_tuple (j := j) (Q := fun r s' => r = w ∧ EP X pins σ Q r s') pl (by omega) (by omega) (by rw [List.size_toArray, ← hl]; exact h1) (by simpa using ew) ⟨rfl, fin⟩) hs
theorem ix_str : IxR X rIxS := by
  intro value slice pins s σ H x y v u Q I rx ry h hs
  obtain ⟨z, i, c, rfl, rfl, hz, he, q⟩ := h
  obtain ⟨t, rfl⟩ := rx
  obtain ⟨t', rfl⟩ := ry
  obtain ⟨j, h1, h2, h3, h4, h5⟩ := atI_get he
  have hl : z.cps.toList.length = z.length := by simp [Str.length]
  rw [hl] at h1 h4 h5
  have hn := line63
  exact tail_any (typeIs_str s z t) slot_str_getitem.lookup (getItem_str (c := c) (by
    have e1 : decide (i < -(2 ^ 63 : Int)) = false := decide_eq_false (by omega)
    have e2 : decide (i ≥ 2 ^ 63) = false := decide_eq_false (by omega)
    rw [e1, e2, Bool.or_false]) (by rw [h1]; simpa using h2) ⟨.str ⟨#[c]⟩, H, I.tok _, ⟨_, rfl⟩, q⟩) hs
/-- list, tuple or str -/
def rIx (K : PySem.W.Frag) : R2 := fun x y H Q => rIxL K x y H Q ∨ rIxT K x y H Q ∨ rIxS x y H Q
theorem ix_seq : IxR X (rIx X.K) := ix_list.or (ix_tup.or ix_str)

/-! ### xs[i] = v, any sign -/
/-- the list's object behind a store -/
theorem mapSeq_set (its : List Value) (n j : Nat) (u : Value) : Obj.mapSeq (·.setIfInBounds j u) { cls := .type "list", data := .seq its.toArray n } = { cls := .type "list", data := .seq (its.set j u).toArray n } := by
  simp [Obj.mapSeq]
theorem Inv.lst {pins : List (Addr × Obj)} {σ : St} {H : Hp} {s : Shared} {p : Addr} {xs : List V} (I : Inv X pins σ H s) (h : H p = some (.lst xs)) :
    ∃ (its : List Value) (n : Nat), Vals xs its ∧ s.heap.get? p = some { cls := .type "list", data := .seq its.toArray n } ∧ xs.length ≤ sizeLine := by
  obtain ⟨z, its, n, r, e⟩ := I.hok p _ h
  exact ⟨its, n, r, e, z⟩
/-- the list at p is written by an update of its object -/
theorem Inv.lstUpd {pins : List (Addr × Obj)} {σ : St} {H : Hp} {s : Shared} {p : Addr} {xs ys : List V} {its its' : List Value} {n n' : Nat} {f : Obj → Obj} (I : Inv X pins σ H s) (h : H p = some (.lst xs))
    (ho : s.heap.get? p = some { cls := .type "list", data := .seq its.toArray n }) (hf : f { cls := .type "list", data := .seq its.toArray n } = { cls := .type "list", data := .seq its'.toArray n' }) (r : Vals ys its') (hz : ys.length ≤ sizeLine) (t : Nat) :
    Inv X pins σ (upd H p (.lst ys)) { s with heap := s.heap.update p f, toks := t } := by
  have e : (s.heap.update p f).get? p = some { cls := .type "list", data := .seq its'.toArray n' } := by
    rw [Heap.get?_update_self f ho (by rw [hf] <;> rfl), hf]
  refine I.write (x := p) (e := p) (by rw [h]; trivial) (.inl rfl) (fun b u hb q => (Heap.get?_update_other _ _ (Ne.symm hb)).trans q) ⟨_, e⟩ ?_
  exact ⟨hz, its', n', r, e⟩
def rSetL : V → V → V → Hp → (Hp → Prop) → Prop := fun o i v H Q => ∃ p xs k j, o = .ref p ∧ i = .int k ∧ H p = some (.lst xs) ∧ ixN xs.length k = some j ∧ Q (upd H p (.lst (xs.set j v)))
theorem set_list : PSet X rSetL := by
  intro pins s σ H o i v ov iv u Q I ro ri rv h
  obtain ⟨p, xs, k, j, rfl, rfl, hp, hj, q⟩ := h
  cases ro
  obtain ⟨t, rfl⟩ := ri
  obtain ⟨its, n, r, ho, hz⟩ := I.lst hp
  obtain ⟨h1, h2, h3, h4⟩ := ixN_seq hj
  have hl := r.length
  have hn := line63
  have I' : Inv X pins σ (upd H p (.lst (xs.set j v))) { s with heap := s.heap.update p (Obj.mapSeq (·.setIfInBounds j u)) } :=
    I.lstUpd hp ho (mapSeq_set its n j u) (r.set rv j) (by rw [List.length_set]; exact hz) s.toks
  by_cases h0 : 0 ≤ k
  · have hk : k.toNat = j := by
      rw [seqIndex_of h0 h4] at h1
      exact Option.some.inj h1
    exact PySem.W.ki_setAt ho h0 (by omega) (by rw [List.size_toArray, ← hl]; exact h4) (by rw [hk]; exact ⟨_, I', q⟩)
  · have hk : (k + (its.toArray.size : Int)).toNat = j := by
      rw [seqIndex_neg (by omega) h3] at h1
      rw [List.size_toArray, ← hl]
      exact Option.some.inj h1
    exact PySem.W.ki_setBack ho (by omega) (by rw [List.size_toArray, ← hl]; exact h3) (by omega) (by rw [hk]; exact ⟨_, I', q⟩)

/-! ### slices -/
/-- xs[lo:hi] of a list: a new list -/
def rSlL (K : PySem.W.Frag) : V → Option Int → Option Int → Hp → VK → Prop := fun x lo hi H Q => ∃ a xs, x = .ref a ∧ SqL K H a xs ∧ ∀ p, H p = none → Q (.ref p) (upd H p (.lst (cutV xs lo hi)))
/-! ### in, not in: flat items -/
def flatV : V → Bool
  | .non => true
  | .bl _ => true
  | .int _ => true
  | .str _ => true
  | _ => false
/-- == of flat values -/
def eqV : V → V → Bool
  | .non, .non => true
  | .bl a, .bl b => a == b
  | .bl a, .int b => (if a then 1 else 0) == b
  | .int a, .bl b => a == (if b then 1 else 0)
  | .int a, .int b => a == b
  | .str a, .str b => a == b
  | _, _ => false
/-- the items' answers, read off the values (a value's own answer does not lean on its token) -/
def eqU (x : V) (u : Value) : Bool := match u with
  | .none => eqV .non x
  | .bool b => eqV (.bl b) x
  | .int i _ => eqV (.int i) x
  | .str z _ => eqV (.str z) x
  | _ => false
def inV (x : V) (xs : List V) : Bool := xs.any fun y => eqV y x
/-- x in a list or tuple of flat items -/
def rIn (K : PySem.W.Frag) (neg : Bool) : R2 := fun x y H Q => ∃ p xs, y = .ref p ∧ (SqL K H p xs ∨ SqT K H p xs) ∧ flatV x = true ∧ xs.all flatV = true ∧ Q (.bl (if neg then !inV x xs else inV x xs)) H
/-! ### len, list(x), tuple(x) of any list or tuple that is read -/
theorem call_len_seq : CallR X (.builtin "len") (fun xs H Q => ∃ p ys, xs = [.ref p] ∧ (SqL X.K H p ys ∨ SqT X.K H p ys) ∧ Q (.int ys.length) H) := by
  intro pins s σ H xs us Q I r h
  obtain ⟨p, ys, rfl, hq, q⟩ := h
  obtain ⟨u, rfl, rx⟩ := vals1 r
  cases rx
  have hn := line63
  rcases hq with hq | hq
  · obtain ⟨its, r', pl, hz⟩ := I.list hq
    have hlen := r'.length
    exact Calls.call_len_list pl.isList (by simp only [List.size_toArray] <;> omega) ⟨.int ys.length, H, I.tok _, ⟨s.toks + 1, by rw [List.size_toArray, hlen]⟩, q⟩
  · obtain ⟨its, r', pl, hz⟩ := I.tuple hq
    have hlen := r'.length
    exact len_tuple pl (by simp only [List.size_toArray] <;> omega) ⟨.int ys.length, H, I.tok _, ⟨s.toks + 1, by rw [List.size_toArray, hlen]⟩, q⟩
theorem call_len_str : CallR X (.builtin "len") (fun xs H Q => ∃ z, xs = [.str z] ∧ z.length ≤ sizeLine ∧ Q (.int z.length) H) := by
  intro pins s σ H xs us Q I r h
  obtain ⟨z, rfl, hz, q⟩ := h
  obtain ⟨u, rfl, t, rfl⟩ := vals1 r
  have hn := line63
  exact len_str (by omega) ⟨.int z.length, H, I.tok _, ⟨_, rfl⟩, q⟩
theorem CallR.or {f : Value} {r r' : List V → Hp → VK → Prop} (h : CallR X f r) (h' : CallR X f r') : CallR X f (fun xs H Q => r xs H Q ∨ r' xs H Q) := by
  intro pins s σ H xs us Q I rs q
  rcases q with q | q
  · exact h pins s σ H xs us Q I rs q
  · exact h' pins s σ H xs us Q I rs q
theorem call_list_of : CallR X (.type "list") (fun xs H Q => ∃ p ys, xs = [.ref p] ∧ (SqL X.K H p ys ∨ SqT X.K H p ys) ∧ ∀ l, H l = none → Q (.ref l) (upd H l (.lst ys))) := by
  intro pins s σ H xs us Q I r h
  obtain ⟨p, ys, rfl, hq, q⟩ := h
  obtain ⟨u, rfl, rx⟩ := vals1 r
  cases rx
  have fin : ∀ (its : List Value), Vals ys its → ys.length ≤ sizeLine → ∀ (h' : Heap) (c' : Nat), (∀ b o', s.heap.get? b = some o' → h'.get? b = some o') →
      h'.get? s.heap.objs.size = some { cls := .type "list", dict := none, data := .seq its.toArray c', slots := #[] } → EP X pins σ Q (.ref s.heap.objs.size) { s with heap := h' } := fun its r' hz h' c' kp e =>
    ⟨.ref s.heap.objs.size, _, I.laid (t' := s.toks) kp (Nat.le_refl _) (show ObjOk X.prog X.w _ h' _ (.lst ys) from ⟨hz, its, c', r', e⟩), rfl, q _ (I.hok.fresh (Nat.le_refl _))⟩
  rcases hq with hq | hq
  · obtain ⟨its, r', pl, hz⟩ := I.list hq
    have hlen := r'.length
    obtain ⟨o, ho, hc, n, hd⟩ := pl.isList
    exact call_list_seq p (.inl rfl) ho hc hd (fun h' c' kp e => fin its r' hz h' c' kp e) (by simp only [List.size_toArray] <;> omega)
  · obtain ⟨its, r', pl, hz⟩ := I.tuple hq
    have hlen := r'.length
    obtain ⟨o, ho, hc, n, hd⟩ := pl
    exact call_list_seq p (.inr rfl) ho hc hd (fun h' c' kp e => fin its r' hz h' c' kp e) (by simp only [List.size_toArray] <;> omega)
theorem call_tuple_of : CallR X (.type "tuple") (fun xs H Q => ∃ p ys, xs = [.ref p] ∧ ((SqL X.K H p ys ∧ ∀ l, H l = none → Q (.ref l) (upd H l (.tup ys))) ∨ (SqT X.K H p ys ∧ Q (.ref p) H))) := by
  intro pins s σ H xs us Q I r h
  obtain ⟨p, ys, rfl, h⟩ := h
  obtain ⟨u, rfl, rx⟩ := vals1 r
  cases rx
  rcases h with ⟨hq, q⟩ | ⟨hq, q⟩
  · obtain ⟨its, r', pl, hz⟩ := I.list hq
    have hlen := r'.length
    refine call_tuple_list pl.isList (fun h' kp => ?_) (by simp only [List.size_toArray] <;> omega)
    have I1 : Inv X pins σ H { s with heap := h' } := I.kept (t' := s.toks) kp
    have I2 : Inv X pins σ (upd H h'.objs.size (.tup ys)) { s with heap := h'.push { cls := .type "tuple", data := .seq its.toArray } } :=
      I1.laid (t' := s.toks) (fun b o e => Heap.get?_push_of_some _ e) (Nat.le_refl _) (show ObjOk X.prog X.w _ _ _ (.tup ys) from ⟨hz, its, r', IsTup.new _ _⟩)
    exact ⟨.ref h'.objs.size, _, I2, rfl, q _ (I1.hok.fresh (Nat.le_refl _))⟩
  · obtain ⟨its, r', pl, hz⟩ := I.tuple hq
    exact call_tuple_same pl ⟨.ref p, H, I, rfl, q⟩

/-! ### the call of a builtin's method: o.m(..) -/
/-- the value is of that builtin type -/
def tyV (K : PySem.W.Frag) (T : String) (x : V) (H : Hp) : Prop := match x with
  | .str _ => T = "str"
  | .int _ => T = "int"
  | .ref p => (T = "list" ∧ ∃ xs, SqL K H p xs) ∨ (T = "tuple" ∧ ∃ o, K.lookup p = some o ∧ o.cls = .type "tuple" ∧ o.dict = none) ∨
      (T = "dict" ∧ ((∃ kvs, H p = some (.dK kvs)) ∨ ∃ kvs, H p = some (.dT kvs))) ∨ (T = "set" ∧ ∃ S n, H p = some (.set S n))
  | _ => False
theorem tyV_is {pins : List (Addr × Obj)} {σ : St} {H : Hp} {s : Shared} {T : String} {x : V} {v : Value} (I : Inv X pins σ H s) (r : RelV x v) (ty : tyV X.K T x H) :
    s.TypeIs v T ∧ ∀ a, v = .ref a → ∃ ob, s.heap.get? a = some ob ∧ ob.dict = none := by
  cases x with
  | str z =>
    obtain ⟨t, rfl⟩ := r
    cases (show T = "str" from ty)
    exact ⟨typeIs_str s z t, fun _ e => nomatch e⟩
  | int i =>
    obtain ⟨t, rfl⟩ := r
    cases (show T = "int" from ty)
    exact ⟨typeIs_int s i t, fun _ e => nomatch e⟩
  | ref p =>
    cases r
    rcases ty with ⟨rfl, xs, hq⟩ | ⟨rfl, o, hk, hc, hd⟩ | ⟨rfl, hk⟩ | ⟨rfl, S, n, hk⟩
    · obtain ⟨its, _, pl, _⟩ := I.list hq
      refine ⟨pl.isList.typeIs, fun a e => ?_⟩
      cases e
      obtain ⟨o, n, e, c, hd, _⟩ := pl
      exact ⟨o, e, hd⟩
    · refine ⟨⟨o, I.kIn p o hk, hc⟩, fun a e => ?_⟩
      cases e
      exact ⟨o, I.kIn _ o hk, hd⟩
    · have z : ∃ o, s.heap.get? p = some o ∧ o.ExactDict := by
        rcases hk with ⟨kvs, hk⟩ | ⟨kvs, hk⟩
        · obtain ⟨_, _, _, _, o, _, _, e, ex, _⟩ := I.hok p _ hk
          exact ⟨o, e, ex⟩
        · obtain ⟨_, _, _, _, o, _, _, e, ex, _⟩ := I.hok p _ hk
          exact ⟨o, e, ex⟩
      obtain ⟨o, e, ex⟩ := z
      refine ⟨⟨o, e, ex.1⟩, fun a e2 => ?_⟩
      cases e2
      exact ⟨o, e, ex.2.1⟩
    · obtain ⟨o, _, _, _, e, ex, _⟩ := I.hok p _ hk
      refine ⟨⟨o, e, ex.1⟩, fun a e2 => ?_⟩
      cases e2
      exact ⟨o, e, ex.2.1⟩
  | _ => exact False.elim ty
def tBM0 (K : PySem.W.Frag) (T : String) (r : V → List V → Hp → VK → Prop) (to : TE) : TE := fun σ H Q => to σ H fun x H1 => tyV K T x H1 ∧ r x [] H1 Q
def tBM (K : PySem.W.Frag) (T : String) (r : V → List V → Hp → VK → Prop) (to : TE) (t : TA) : TE := fun σ H Q => to σ H fun x H1 => tyV K T x H1 ∧ t σ H1 fun xs H2 => r x xs H2 Q
variable {o e : Expr} {es : List Expr} {to : TE} {t : TA} {name : Str} {apos cpos : Pos} {T id : String} {r : V → List V → Hp → VK → Prop}
theorem pe_bm (pa : PlainAttrs T) (slot : Slot T name id) (hty : typeOf (.builtin id) = pure (.type "method_descriptor")) (hm : MtR X id r) (ho : PE X o to) (ha : PA X (e :: es) t)
    (hbase : attributeBase o name X.env (eval o X.env) = eval o X.env := by rfl)
    (hfew : ((backTo cpos (starEach (e :: es) X.env)).all (fun x => !x.1) && (backToKw cpos (keywordEach [] X.env)).all (fun x => x.1.isSome)
      && decide ((e :: es).length + ([] : List Keyword).length + (if ([] : List Keyword).isEmpty then 0 else 1) < 30)) = true := by rfl)
    (hline : (apos.endLine == cpos.line) = true := by rfl) (hs : starEach (e :: es) X.env = (false, eval e X.env) :: starEach es X.env := by rfl) (hplain : (backTo cpos (starEach es X.env)).any (·.1) = false := by rfl) :
    PE X (.Call (.Attribute o name apos) (e :: es) [] cpos) (tBM X.K T r to t) := by
  intro pins s σ H Q I h
  refine wpAny_Call_method_late hbase hfew hline rfl (thn (ho pins s σ H _ I h) fun v s1 ⟨x, H1, I1, r1, ty, q1⟩ => ?_)
  obtain ⟨h1, h2⟩ := tyV_is I1 r1 ty
  refine ⟨T, id, pa, slot, hty, h1, h2, ?_⟩
  have hA := ha cpos pins s1 σ H1 _ I1 q1
  rw [hs] at hA ⊢
  refine Calls.callWith_builtin (by show (false || (backTo cpos (starEach es X.env)).any (·.1)) = false; rw [hplain] <;> rfl) (Calls.evalArgs_plain ?_)
  exact thn hA fun us s2 ⟨vs, H2, I2, r2, q2⟩ => hm pins s2 σ H2 x vs v us Q I2 r1 r2 q2
/- xs.append(e), list.index on a module's tuple .. are MtR facts of 06m -/
end
end L2

namespace L2
open PySem PySem.Spec PyProof.Rows

def MtM (X : Cx) (id : String) (r : V → List V → Hp → VK → Prop) : Prop :=
  ∀ (pins : List (Addr × Obj)) (s : Shared) (σ : St) (H : Hp) (x : V) (xs : List V) (v : Value) (us : List Value) (Q : VK), Inv X pins σ H s → RelV x v → Vals xs us → r x xs H Q →
    wpAny (model X.prog X.w) X.A (call (.builtin id) (v :: us)) (EP X pins σ Q) X.xe s

/-! ### lists of values -/
theorem Vals.one : ∀ {x : V} {us : List Value}, Vals [x] us → ∃ u, us = [u] ∧ RelV x u
  | _, _, .cons r .nil => ⟨_, rfl, r⟩
theorem Vals.two : ∀ {x y : V} {us : List Value}, Vals [x, y] us → ∃ u v, us = [u, v] ∧ RelV x u ∧ RelV y v
  | _, _, _, .cons r (.cons q .nil) => ⟨_, _, rfl, r, q⟩
theorem Vals.zero : ∀ {us : List Value}, Vals [] us → us = []
  | _, .nil => rfl
theorem Vals.dropLast {xs : List V} {us : List Value} (h : Vals xs us) : Vals xs.dropLast us.dropLast := by
  induction h with
  | nil => exact .nil
  | cons r t ih =>
    cases t with
    | nil => exact .nil
    | cons q t' => exact .cons r ih
theorem Vals.eraseIdx : ∀ {xs : List V} {us : List Value} (i : Nat), Vals xs us → Vals (xs.eraseIdx i) (us.eraseIdx i)
  | _, _, _, .nil => .nil
  | _, _, 0, .cons _ t => t
  | _, _, i + 1, .cons r t => .cons r (Vals.eraseIdx i t)
theorem Vals.reverse {xs : List V} {us : List Value} (h : Vals xs us) : Vals xs.reverse us.reverse := by
  induction h with
  | nil => exact .nil
  | cons r t ih => rw [List.reverse_cons, List.reverse_cons]; exact Vals.append ih (.cons r .nil)
theorem Vals.rep {xs : List V} {us : List Value} (h : Vals xs us) : ∀ k : Nat, Vals (List.replicate k xs).flatten (List.replicate k us).flatten
  | 0 => .nil
  | k + 1 => by
    rw [List.replicate_succ, List.replicate_succ, List.flatten_cons, List.flatten_cons]
    exact Vals.append h (Vals.rep h k)
section
variable {X : Cx} {pins : List (Addr × Obj)} {σ : St} {H : Hp} {s : Shared} {l b : Addr} {xs ys zs : List V}

/-! ### the two steps: a tracked list is rewritten, a new list is laid -/
theorem Inv.lset {its its' : List Value} {n : Nat} {f : Array Value → Array Value} {t' : Nat} (I : Inv X pins σ H s) (hH : H l = some (.lst xs))
    (e : s.heap.get? l = some { cls := .type "list", data := .seq its.toArray n }) (hf : f its.toArray = its'.toArray) (hv : Vals ys its') (hz : ys.length ≤ sizeLine) :
    Inv X pins σ (upd H l (.lst ys)) { s with heap := s.heap.update l (Obj.mapSeq f), toks := t' } := by
  have q := PySem.IsL.update e f
  rw [hf] at q
  refine I.write (x := l) (e := l) (by rw [hH]; exact trivial) (.inl rfl) (fun b' u hb hu => (Heap.get?_update_other s.heap (Obj.mapSeq f) (Ne.symm hb)).trans hu) ⟨_, q⟩ ?_
  exact ⟨hz, its', _, hv, q⟩
theorem Inv.lnew {its : List Value} {t' : Nat} (I : Inv X pins σ H s) (hv : Vals ys its) (hz : ys.length ≤ sizeLine) :
    Inv X pins σ (upd H s.heap.objs.size (.lst ys)) { s with heap := s.heap.push { cls := .type "list", data := .seq its.toArray }, toks := t' } :=
  I.laid (fun _ _ q => Heap.get?_push_of_some _ q) (Nat.le_refl _) ⟨hz, its, 0, hv, Heap.get?_push_size _ rfl⟩
theorem Inv.fresh (I : Inv X pins σ H s) : H s.heap.objs.size = none := I.hok.fresh (Nat.le_refl _)
theorem Inv.lstM (I : Inv X pins σ H s) (hH : H l = some (.lst xs)) : xs.length ≤ sizeLine ∧ ∃ (its : List Value) (n : Nat), Vals xs its ∧ xs.length = its.length ∧ s.heap.get? l = some { cls := .type "list", data := .seq its.toArray n } := by
  obtain ⟨z, its, n, r, e⟩ := I.hok l _ hH
  exact ⟨z, its, n, r, r.length, e⟩

end

section
variable {X : Cx}

/-! ### methods -/
def rAppend : V → List V → Hp → VK → Prop := fun x vs H Q => ∃ l xs y, x = .ref l ∧ vs = [y] ∧ H l = some (.lst xs) ∧ xs.length < sizeLine ∧ Q .non (upd H l (.lst (xs ++ [y])))
theorem mt_append : MtM X "list.append" rAppend := by
  intro pins s σ H x vs v us Q I rx rv h
  obtain ⟨l, xs, y, rfl, rfl, hH, hz, q⟩ := h
  cases rx
  obtain ⟨u, rfl, ru⟩ := rv.one
  obtain ⟨z, its, n, r, hl, e⟩ := I.lstM hH
  refine call_meets F.slot_list_append ⟨_, e, rfl⟩ F.entry_list_append (F.args_list_append_2 _ _) (PySem.list_append l its.toArray n u (by rw [List.size_toArray]; omega)) ⟨e, ?_⟩
  refine ⟨.non, _, I.lset (its' := its ++ [u]) hH e (by simp) (r.append (.cons ru .nil)) ?_, rfl, q⟩
  rw [List.length_append, List.length_singleton]
  omega

def rExtend : V → List V → Hp → VK → Prop := fun x vs H Q => ∃ l b xs zs, x = .ref l ∧ vs = [.ref b] ∧ H l = some (.lst xs) ∧ H b = some (.lst zs) ∧ xs.length + zs.length ≤ sizeLine ∧ Q .non (upd H l (.lst (xs ++ zs)))
def rPop : V → List V → Hp → VK → Prop := fun x vs H Q => ∃ l xs y, x = .ref l ∧ vs = [] ∧ H l = some (.lst xs) ∧ xs[xs.length - 1]? = some y ∧ Q y (upd H l (.lst xs.dropLast))
def rPopAt : V → List V → Hp → VK → Prop := fun x vs H Q => ∃ l xs i k y, x = .ref l ∧ vs = [.int i] ∧ H l = some (.lst xs) ∧ -(2 ^ 63) ≤ i ∧ i < 2 ^ 63 ∧ seqIndex? i xs.length = some k ∧ xs[k]? = some y ∧ Q y (upd H l (.lst (xs.eraseIdx k)))
def rReverse : V → List V → Hp → VK → Prop := fun x vs H Q => ∃ l xs, x = .ref l ∧ vs = [] ∧ H l = some (.lst xs) ∧ Q .non (upd H l (.lst xs.reverse))
def rClear : V → List V → Hp → VK → Prop := fun x vs H Q => ∃ l xs, x = .ref l ∧ vs = [] ∧ H l = some (.lst xs) ∧ Q .non (upd H l (.lst []))
/-! ### list + list, list += list, list * int -/
def rCat : R2 := fun x y H Q => ∃ l b xs zs, x = .ref l ∧ y = .ref b ∧ H l = some (.lst xs) ∧ H b = some (.lst zs) ∧ xs.length + zs.length ≤ sizeLine ∧ ∀ p, H p = none → Q (.ref p) (upd H p (.lst (xs ++ zs)))
/-- a list times an int (a negative one is nothing) -/
def rRep : R2 := fun x y H Q => ∃ l k xs, x = .ref l ∧ y = .int k ∧ H l = some (.lst xs) ∧ -(2 ^ 63) ≤ k ∧ k < 2 ^ 63 ∧ xs.length * k.toNat ≤ sizeLine ∧
  ∀ p, H p = none → Q (.ref p) (upd H p (.lst (List.replicate k.toNat xs).flatten))
/-! ### del xs[i] -/
end

/-! ### xs[a:b] = ys -/
section
variable {prog : Program} {w : World} {A : Around} {E : Value → Shared → Prop} {s : Shared}
end

section
variable {X : Cx}
end
end L2

namespace L2
open PySem PySem.Spec PyProof.Rows

theorem Vals.ints : ∀ {ns : List Int} {us : List Value}, Vals (ns.map V.int) us → IntsAre us ns
  | [], us, h => by
    rw [List.map_nil] at h
    cases h
    exact IntsAre.nil
  | n :: ns, us, h => by
    rw [List.map_cons] at h
    cases h with
    | cons r t =>
      obtain ⟨k, rfl⟩ := r
      exact IntsAre.cons n k (Vals.ints t)
theorem Vals.strs : ∀ {xs : List Str} {us : List Value}, Vals (xs.map V.str) us → StrsAre us xs
  | [], us, h => by
    rw [List.map_nil] at h
    cases h
    exact StrsAre.nil
  | x :: xs, us, h => by
    rw [List.map_cons] at h
    cases h with
    | cons r t =>
      obtain ⟨k, rfl⟩ := r
      exact StrsAre.cons x k (Vals.strs t)
theorem Vals.bls : ∀ {bs : List Bool} {us : List Value}, Vals (bs.map V.bl) us → us = bs.map Value.bool
  | [], us, h => by
    rw [List.map_nil] at h
    cases h
    rfl
  | b :: bs, us, h => by
    rw [List.map_cons] at h
    cases h with
    | cons r t =>
      cases r
      rw [Vals.bls t, List.map_cons]
theorem Vals.ref1 {a : Addr} {us : List Value} (r : Vals [V.ref a] us) : us = [Value.ref a] := by
  cases r with
  | cons r t =>
    cases t
    cases r
    rfl
/-! ### the library's walks over a list of ints, kept objects alone -/
section
variable {prog : Program} {w : World} {A : Around} {E : Value → Shared → Prop} {s : Shared} {l : Addr} {its : List Value} {ns : List Int} {Q : Value → Shared → Prop}
end

/-! ### the calls, by values (CallR of 03t; MtR of 06l) -/
section
variable {X : Cx}
/-- sum(xs) of a list of ints -/
def rSum (K : PySem.W.Frag) : List V → Hp → VK → Prop := fun vs H Q => ∃ (a : Addr) (ns : List Int), vs = [V.ref a] ∧ SqL K H a (ns.map V.int) ∧ Q (.int ns.sum) H
/-- max(xs), min(xs) of a list of ints -/
def rMax (K : PySem.W.Frag) : List V → Hp → VK → Prop := fun vs H Q => ∃ (a : Addr) (ns : List Int), vs = [V.ref a] ∧ SqL K H a (ns.map V.int) ∧ 0 < ns.length ∧ ∀ m, m ∈ ns → (∀ y, y ∈ ns → y ≤ m) → Q (.int m) H
def rMin (K : PySem.W.Frag) : List V → Hp → VK → Prop := fun vs H Q => ∃ (a : Addr) (ns : List Int), vs = [V.ref a] ∧ SqL K H a (ns.map V.int) ∧ 0 < ns.length ∧ ∀ m, m ∈ ns → (∀ y, y ∈ ns → m ≤ y) → Q (.int m) H
/-! sorted, sort (fewer than 64 items: the library's own bound) -/
def rSorted (K : PySem.W.Frag) : List V → Hp → VK → Prop := fun vs H Q => ∃ (a : Addr) (ns : List Int), vs = [V.ref a] ∧ SqL K H a (ns.map V.int) ∧ ns.length < 64 ∧
  ∀ (ns' : List Int) (p : Addr), ns'.Perm ns → ns'.Pairwise (· ≤ ·) → H p = none → Q (.ref p) (upd H p (.lst (ns'.map V.int)))
def rSortedS (K : PySem.W.Frag) : List V → Hp → VK → Prop := fun vs H Q => ∃ (a : Addr) (xs : List Str), vs = [V.ref a] ∧ SqL K H a (xs.map V.str) ∧ xs.length < 64 ∧
  ∀ (ys : List Str) (p : Addr), ys.Perm xs → sortedS ys = true → H p = none → Q (.ref p) (upd H p (.lst (ys.map V.str)))
/-- xs.sort(), ints -/
def rSort : V → List V → Hp → VK → Prop := fun x xs H Q => ∃ (a : Addr) (ns : List Int), x = V.ref a ∧ xs = [] ∧ H a = some (.lst (ns.map V.int)) ∧ ns.length < 64 ∧
  ∀ ns' : List Int, ns'.Perm ns → ns'.Pairwise (· ≤ ·) → Q .non (upd H a (.lst (ns'.map V.int)))
end

/-! ### list.index, flat items -/
section
variable {X : Cx}
def rIndex (K : PySem.W.Frag) : V → List V → Hp → VK → Prop := fun x xs H Q => ∃ (a : Addr) (ys : List V) (y : V) (j : Nat) (z : V), x = V.ref a ∧ xs = [y] ∧ SqL K H a ys ∧ flatV y = true ∧ ys.all flatV = true ∧ ys[j]? = some z ∧ eqV z y = true ∧
  (∀ (m : Nat) (z' : V), m < j → ys[m]? = some z' → eqV z' y = false) ∧ Q (.int (j : Nat)) H
end

/-! ### type(x) of an own instance; is, is not of a module's class -/
section
variable {X : Cx}
end

/-! ### any(xs), all(xs) of a list of bools -/
theorem iter_any {prog : Program} {w : World} {A : Around} {E : Value → Shared → Prop} {s : Shared} {l : Addr} {items : Array Value} {Q : Value → Shared → Prop} (hl : s.heap.IsList l items)
    (h : ∀ s₂ : Shared, s₂ = { s with heap := s.heap.push { cls := .type "list_iterator", data := .fields #[.ref l, .int 0 0] } } →
      (s₂.heap.IsListIter s.heap.objs.size l 0 ∧ s₂.heap.IsList l items) → l ≠ s.heap.objs.size → Q (.ref s.heap.objs.size) s₂) : wpAny (model prog w) A (pyIter (.ref l)) Q E s := by
  have hlt : l < s.heap.objs.size := by obtain ⟨_, e, _⟩ := hl; exact Heap.lt_size e
  exact wpAny_pyIter_list hl (h _ rfl ⟨⟨_, Heap.get?_push_size _ rfl, rfl, rfl⟩, hl.push _⟩ (Nat.ne_of_lt hlt))
theorem truth_bools {prog : Program} {w : World} {A : Around} {bs : List Bool} {its : List Value} (e : its = bs.map Value.bool) :
    TruthOf prog w A (fun i v => its.toArray[i]? = some v) (fun i => bs.getD i false) := fun i v s Q E hv hq => by
  have hv' : its[i]? = some v := by simpa using hv
  rw [e, List.getElem?_map] at hv'
  obtain ⟨b, hb, rfl⟩ := Option.map_eq_some_iff.mp hv'
  have hg : bs.getD i false = b := by rw [List.getD_eq_getElem?_getD, hb] <;> rfl
  have hq' : Q (bs.getD i false) s := hq
  rw [hg] at hq'
  exact wpAny_truthy_bool hq'
theorem all_range : ∀ bs : List Bool, (List.range bs.length).all (fun i => bs.getD i false) = bs.all id
  | [] => rfl
  | b :: bs => by
    rw [List.length_cons, List.range_succ_eq_map, List.all_cons, List.all_map, List.all_cons, ← all_range bs]
    all_goals rfl
section
variable {X : Cx}
def rAny (K : PySem.W.Frag) : List V → Hp → VK → Prop := fun vs H Q => ∃ (a : Addr) (bs : List Bool), vs = [V.ref a] ∧ SqL K H a (bs.map V.bl) ∧ Q (.bl (bs.any id)) H
def rAll (K : PySem.W.Frag) : List V → Hp → VK → Prop := fun vs H Q => ∃ (a : Addr) (bs : List Bool), vs = [V.ref a] ∧ SqL K H a (bs.map V.bl) ∧ Q (.bl (bs.all id)) H
theorem cr_all (hc : X.calm = true) : CallR X (.builtin "all") (rAll X.K) := by
  intro pins s σ H vs us Q I r h
  obtain ⟨a, bs, rfl, hs, q⟩ := h
  obtain ⟨its, rv, hl, _⟩ := I.list hs
  rw [Vals.ref1 r]
  have hb := rv.bls
  refine call_all_walk (iter_any hl.isList fun s₂ e2 st hne => ?_)
  subst e2
  refine ⟨_, _, _, _, _, _, _, rfl, Walks.list (A := X.A.in1) (I.ok.hd hc) _ a hne its.toArray, st, truth_bools hb, fun h' tk hk => ?_⟩
  refine ⟨.bl _, H, I.kept fun b o eo => hk b o (fun hmem => ?_) (Heap.get?_push_of_some _ eo), ?_, q⟩
  · rcases List.mem_cons.mp hmem with e1 | hmem
    · exact absurd (e1 ▸ Heap.lt_size eo) (Nat.lt_irrefl _)
    · cases hmem
  · show Value.bool _ = Value.bool _
    rw [← all_range, hb, List.size_toArray, List.length_map]
end

/-! ### == and != of data at any depth: none, bools, ints, texts, lists, tuples -/
mutual
inductive Dp (K : PySem.W.Frag) (H : Hp) : V → PyData → Prop
  | non : Dp K H .non .none
  | bl (b : Bool) : Dp K H (.bl b) (.bool b)
  | int (i : Int) : Dp K H (.int i) (.int i)
  | str (x : Str) : Dp K H (.str x) (.str x)
  | lst {a : Addr} {xs : List V} {ds : List PyData} : SqL K H a xs → DpAll K H xs ds → Dp K H (.ref a) (.list ds)
  | tup {a : Addr} {xs : List V} {ds : List PyData} : SqT K H a xs → DpAll K H xs ds → Dp K H (.ref a) (.tuple ds)
inductive DpAll (K : PySem.W.Frag) (H : Hp) : List V → List PyData → Prop
  | nil : DpAll K H [] []
  | cons {v : V} {vs : List V} {d : PyData} {ds : List PyData} : Dp K H v d → DpAll K H vs ds → DpAll K H (v :: vs) (d :: ds)
end
section
variable {X : Cx} {pins : List (Addr × Obj)} {σ : St} {H : Hp} {s : Shared}
mutual
theorem Dp.reads (I : Inv X pins σ H s) : ∀ (d : PyData) (v : V) (u : Value), Dp X.K H v d → RelV v u → ∃ as, Reads s.heap u d as
  | .none, _, _, h, r => by
    cases h
    cases r
    exact ⟨_, Reads.none⟩
  | .bool b, _, _, h, r => by
    cases h
    cases r
    exact ⟨_, Reads.bool b⟩
  | .int i, _, _, h, r => by
    cases h
    obtain ⟨t, rfl⟩ := r
    exact ⟨_, Reads.int i t⟩
  | .str x, _, _, h, r => by
    cases h
    obtain ⟨t, rfl⟩ := r
    exact ⟨_, Reads.str x t⟩
  | .list ds, _, _, h, r => by
    cases h with
    | lst hs ha =>
      cases r
      obtain ⟨its, rv, ⟨o, n, ho, hc, _, hd⟩, _⟩ := I.list hs
      obtain ⟨as, hr⟩ := Dp.readsAll I ds _ its ha rv
      exact ⟨_, Reads.list ho hc hd hr⟩
  | .tuple ds, _, _, h, r => by
    cases h with
    | tup hs ha =>
      cases r
      obtain ⟨its, rv, ⟨o, ho, hc, n, hd⟩, _⟩ := I.tuple hs
      obtain ⟨as, hr⟩ := Dp.readsAll I ds _ its ha rv
      exact ⟨_, Reads.tuple ho hc hd hr⟩
  | .dict _, _, _, h, _ => by cases h
theorem Dp.readsAll (I : Inv X pins σ H s) : ∀ (ds : List PyData) (vs : List V) (us : List Value), DpAll X.K H vs ds → Vals vs us → ∃ as, ReadsAll s.heap us ds as
  | [], _, _, h, r => by
    cases h
    cases r
    exact ⟨_, ReadsAll.nil⟩
  | d :: ds, _, _, h, r => by
    cases h with
    | cons h1 h2 =>
      cases r with
      | cons r1 r2 =>
        obtain ⟨as, q1⟩ := Dp.reads I d _ _ h1 r1
        obtain ⟨bs, q2⟩ := Dp.readsAll I ds _ _ h2 r2
        exact ⟨_, ReadsAll.cons q1 q2⟩
end
end
section
variable {X : Cx}
def rEqD (K : PySem.W.Frag) : R2 := fun x y H Q => ∃ d e, Dp K H x d ∧ Dp K H y e ∧ SeqAt.shaped d = true ∧ SeqAt.shaped e = true ∧ Q (.bl (PyData.eqv d e)) H
def rNeD (K : PySem.W.Frag) : R2 := fun x y H Q => ∃ d e, Dp K H x d ∧ Dp K H y e ∧ SeqAt.shaped d = true ∧ SeqAt.shaped e = true ∧ Q (.bl (!PyData.eqv d e)) H
theorem op_eqD (hu : X.A.units + 64 < cLine) : OpR X (compareOp .Eq) (rEqD X.K) := by
  intro pins s σ H x y v u Q I rx ry h
  obtain ⟨d, e, hd, he, sd, se, q⟩ := h
  obtain ⟨as, r1⟩ := Dp.reads I d x v hd rx
  obtain ⟨bs, r2⟩ := Dp.reads I e y u he ry
  exact SeqAt.compareEq_shaped r1 r2 sd se hu ⟨.bl _, H, I, rfl, q⟩
theorem op_neD (hu : X.A.units + 64 < cLine) : OpR X (compareOp .NotEq) (rNeD X.K) := by
  intro pins s σ H x y v u Q I rx ry h
  obtain ⟨d, e, hd, he, sd, se, q⟩ := h
  obtain ⟨as, r1⟩ := Dp.reads I d x v hd rx
  obtain ⟨bs, r2⟩ := Dp.reads I e y u he ry
  exact SeqAt.compareNe_shaped r1 r2 sd se hu ⟨.bl _, H, I, rfl, q⟩
end
end L2

namespace L2
open PySem PySem.Spec PyProof.Rows
abbrev CellAt (h : Heap) (c : Addr) (v : Option Value) : Prop := h.IsCell c v
def relS (scope sc : Scope) : Scope :=
  { scope with names := scope.names.map fun (n, k) => if (k == .free && sc.kind == .function && sc.names.lookup n == some .cell) then (n, .cell) else (n, k) }

def cloFrom (cells : List (Str × Addr)) : List (Str × NameKind) → List (Str × Addr) → List (Str × Addr)
  | [], acc => acc
  | (n, k) :: r, acc => if k == .free then cloFrom cells r ((n, (cells.lookup n).getD 0) :: acc) else cloFrom cells r acc

theorem closure_loop (env : Env) (f : Str × NameKind → List (Str × Addr) → Sem (ForInStep (List (Str × Addr))))
    (hf : ∀ n k c, f (n, k) c = if k == .free then (do let a ← cellOf env n; pure (.yield ((n, a) :: c))) else pure (.yield c)) :
    ∀ (names : List (Str × NameKind)) (acc : List (Str × Addr)), (∀ y ∈ names, y.2 = .free → ∃ c, env.cells.lookup y.1 = some c) → forIn names acc f = pure (cloFrom env.cells names acc)
  | [], acc, _ => by rw [List.forIn_nil]; rfl
  | (n, k) :: r, acc, h => by
    rw [List.forIn_cons, hf]
    have ih := fun acc => closure_loop env f hf r acc fun y hy => h y (List.mem_cons_of_mem _ hy)
    unfold cloFrom
    by_cases hk : (k == NameKind.free) = true
    · rw [if_pos hk, if_pos hk]
      obtain ⟨c, hc⟩ := h (n, k) List.mem_cons_self (by simpa using hk)
      have e : cellOf env n = pure c := by unfold cellOf; rw [hc]
      rw [e]
      have e2 : (env.cells.lookup n).getD 0 = c := by rw [hc]; rfl
      rw [e2]
      exact ih _
    · rw [if_neg hk, if_neg hk]
      exact ih _
theorem closure_ok {scope : Scope} {env : Env} (h : ∀ y ∈ scope.names, y.2 = .free → ∃ c, env.cells.lookup y.1 = some c) : closureFor scope env = pure (cloFrom env.cells scope.names []) := by
  simp only [closureFor]
  rw [closure_loop env _ (fun n k c => rfl) scope.names [] h]
  rfl

theorem mem_lookup {α : Type} : ∀ {l : List (Str × α)} {n : Str} {c : α}, (n, c) ∈ l → ∃ c', l.lookup n = some c'
  | (k, v) :: r, n, c, h => by
    rw [List.lookup_cons]
    cases hb : n == k with
    | true => exact ⟨_, rfl⟩
    | false =>
      rcases List.mem_cons.mp h with e | h
      · cases e; simp at hb
      · exact mem_lookup h

theorem cloFrom_mem {cells : List (Str × Addr)} : ∀ {names : List (Str × NameKind)} {acc : List (Str × Addr)} {n : Str} {c : Addr}, (n, c) ∈ cloFrom cells names acc → (n, c) ∈ acc ∨ ((n, .free) ∈ names ∧ c = (cells.lookup n).getD 0)
  | [], _, _, _, h => .inl h
  | (m, k) :: r, acc, n, c, h => by
    unfold cloFrom at h
    split at h
    · rename_i hk
      have hk : k = .free := by simpa using hk
      rcases cloFrom_mem h with h | ⟨h1, h2⟩
      · rcases List.mem_cons.mp h with e | h
        · cases e; exact .inr ⟨hk ▸ List.mem_cons_self, rfl⟩
        · exact .inl h
      · exact .inr ⟨List.mem_cons_of_mem _ h1, h2⟩
    · rcases cloFrom_mem h with h | ⟨h1, h2⟩
      · exact .inl h
      · exact .inr ⟨List.mem_cons_of_mem _ h1, h2⟩
theorem cloFrom_acc {cells : List (Str × Addr)} : ∀ {names : List (Str × NameKind)} {acc : List (Str × Addr)} {p : Str × Addr}, p ∈ acc → p ∈ cloFrom cells names acc
  | [], _, _, h => h
  | (m, k) :: r, acc, p, h => by
    unfold cloFrom
    split
    · exact cloFrom_acc (List.mem_cons_of_mem _ h)
    · exact cloFrom_acc h
theorem cloFrom_has {cells : List (Str × Addr)} : ∀ {names : List (Str × NameKind)} {acc : List (Str × Addr)} {n : Str}, (n, .free) ∈ names → (n, (cells.lookup n).getD 0) ∈ cloFrom cells names acc
  | (m, k) :: r, acc, n, h => by
    unfold cloFrom
    rcases List.mem_cons.mp h with e | h
    · cases e
      exact cloFrom_acc List.mem_cons_self
    · split
      · exact cloFrom_has h
      · exact cloFrom_has h

theorem cells_mem : ∀ {names : List (Str × NameKind)} {h : Heap} {acc : List (Str × Addr)} {x : Str} {c : Addr}, (x, c) ∈ cellsFrom h.objs.size names acc →
    (x, c) ∈ acc ∨ ((x, .cell) ∈ names ∧ h.objs.size ≤ c ∧ CellAt (pushCells h names) c none)
  | [], _, _, _, _, h => .inl h
  | (n, k) :: r, h, acc, x, c, hm => by
    unfold cellsFrom at hm
    unfold pushCells
    split at hm
    · rename_i hk
      rw [if_pos hk]
      have hk : k = .cell := by simpa using hk
      rw [← Heap.size_push h { cls := .type "cell", data := .cell none }] at hm
      rcases cells_mem hm with hm | ⟨h1, h2, h3⟩
      · rcases List.mem_cons.mp hm with e | hm
        · cases e
          exact .inr ⟨hk ▸ List.mem_cons_self, Nat.le_refl _, _, pushCells_keeps r _ _ _ (Heap.get?_push_size _ rfl), rfl⟩
        · exact .inl hm
      · rw [Heap.size_push] at h2
        exact .inr ⟨List.mem_cons_of_mem _ h1, Nat.le_of_succ_le h2, h3⟩
    · rename_i hk
      rw [if_neg hk]
      rcases cells_mem hm with hm | ⟨h1, h2, h3⟩
      · exact .inl hm
      · exact .inr ⟨List.mem_cons_of_mem _ h1, h2, h3⟩
theorem cells_acc : ∀ {names : List (Str × NameKind)} {n : Nat} {acc : List (Str × Addr)} {p : Str × Addr}, p ∈ acc → p ∈ cellsFrom n names acc
  | [], _, _, _, h => h
  | (m, k) :: r, n, acc, p, h => by
    unfold cellsFrom
    split
    · exact cells_acc (List.mem_cons_of_mem _ h)
    · exact cells_acc h
theorem cells_has : ∀ {names : List (Str × NameKind)} {n : Nat} {acc : List (Str × Addr)} {x : Str}, (x, .cell) ∈ names → ∃ c, (x, c) ∈ cellsFrom n names acc
  | (m, k) :: r, n, acc, x, h => by
    unfold cellsFrom
    rcases List.mem_cons.mp h with e | h
    · cases e
      exact ⟨n, cells_acc List.mem_cons_self⟩
    · split
      · exact cells_has h
      · exact cells_has h
theorem cells_inj : ∀ {names : List (Str × NameKind)} {h : Heap} {acc : List (Str × Addr)} {x y : Str} {c : Addr}, (∀ p ∈ acc, p.2 < h.objs.size) → (∀ x y c, (x, c) ∈ acc → (y, c) ∈ acc → x = y) →
    (x, c) ∈ cellsFrom h.objs.size names acc → (y, c) ∈ cellsFrom h.objs.size names acc → x = y
  | [], _, _, _, _, _, _, hi, h1, h2 => hi _ _ _ h1 h2
  | (n, k) :: r, h, acc, x, y, c, hl, hi, h1, h2 => by
    unfold cellsFrom at h1 h2
    split at h1
    · rename_i hk
      rw [if_pos hk] at h2
      rw [← Heap.size_push h { cls := .type "cell", data := .cell none }] at h1 h2
      refine cells_inj (h := h.push _) (fun p hp => ?_) (fun x y c a b => ?_) h1 h2
      · rw [Heap.size_push]
        rcases List.mem_cons.mp hp with rfl | hp
        · exact Nat.lt_succ_self _
        · exact Nat.lt_succ_of_lt (hl p hp)
      · rcases List.mem_cons.mp a with e | a <;> rcases List.mem_cons.mp b with e' | b
        · cases e; cases e'; rfl
        · cases e; exact absurd (hl _ b) (Nat.lt_irrefl _)
        · cases e'; exact absurd (hl _ a) (Nat.lt_irrefl _)
        · exact hi _ _ _ a b
    · rename_i hk
      rw [if_neg hk] at h2
      exact cells_inj hl hi h1 h2

theorem newEnv_comp {M : Model} {A : Around} {E : Value → Shared → Prop} {s : Shared} {scope : Scope} {globals : Addr} {closure : List (Str × Addr)} {qual : Str} {func : Option Addr} {code : Value} {around : Env} {builtins : Addr} {Q : Env → Shared → Prop}
    (h : Q (newEnv scope s.heap.objs.size globals (cellsFrom (s.heap.objs.size + 1) scope.names closure) qual func code (some around) builtins)
      { s with heap := pushCells (s.heap.push { cls := .type "dict", data := .dict #[] }) scope.names }) :
    wpAny M A (newFunctionEnv scope globals closure [] qual func code (some around) builtins) Q E s := by
  simp only [newFunctionEnv, Option.isSome_some, if_true]
  refine wpAny_bind (wpAny_alloc ?_)
  refine wpAny_bind (wpAny_layCells _ (fun n k c => rfl) scope.names closure _ _ ?_)
  rw [show ({ s with heap := s.heap.push { cls := .type "dict", data := .dict #[] } } : Shared).heap.objs.size = s.heap.objs.size + 1 from Heap.size_push ..]
  rw [List.forIn_nil]
  exact wpAny_bind (wpAny_pure (wpAny_pure h))

/-- every name of the written scope, in the scope that runs -/
theorem lookup_relS {sc : Scope} : ∀ {names : List (Str × NameKind)} {x : Str} {k : NameKind},
    (names.map fun (n, k) => if (k == NameKind.free && sc.kind == .function && sc.names.lookup n == some .cell) then (n, NameKind.cell) else (n, k)).lookup x = some k →
    ∃ k', names.lookup x = some k' ∧ (k = k' ∨ (k' = .free ∧ k = .cell))
  | [], _, _, h => by simp at h
  | (n, k₀) :: r, x, k, h => by
    have ih := @lookup_relS sc r x k
    have h' : List.lookup x ((if (k₀ == NameKind.free && sc.kind == .function && sc.names.lookup n == some .cell) = true then (n, NameKind.cell) else (n, k₀)) :: (r.map _)) = some k := h
    cases hx : x == n with
    | true =>
      simp only [List.lookup_cons, hx]
      by_cases hc : (k₀ == NameKind.free && sc.kind == .function && sc.names.lookup n == some .cell) = true
      · rw [if_pos hc] at h'
        simp only [List.lookup_cons, hx] at h'
        cases h'
        simp only [Bool.and_eq_true, beq_iff_eq] at hc
        exact ⟨k₀, rfl, .inr ⟨hc.1.1, rfl⟩⟩
      · rw [if_neg hc] at h'
        simp only [List.lookup_cons, hx] at h'
        cases h'
        exact ⟨_, rfl, .inl rfl⟩
    | false =>
      simp only [List.lookup_cons, hx]
      by_cases hc : (k₀ == NameKind.free && sc.kind == .function && sc.names.lookup n == some .cell) = true
      · rw [if_pos hc] at h'
        simp only [List.lookup_cons, hx] at h'
        exact ih h'
      · rw [if_neg hc] at h'
        simp only [List.lookup_cons, hx] at h'
        exact ih h'
/-- the names of a comprehension's block: its own (with their places in N), or captured -/
structure BlkOk (N : List Str) (sc scope : Scope) (own : List (Str × Nat)) : Prop where
  kind : scope.kind = .function
  uniq : ∀ y ∈ scope.names, scope.names.lookup y.1 = some y.2
  ix : ∀ p ∈ own, N[p.2]? = some p.1
  free : ∀ y ∈ scope.names, y.2 = .free → sc.names.lookup y.1 = some .cell ∨ sc.names.lookup y.1 = some .free
  own : ∀ y ∈ scope.names, y.2 = .local ∨ y.2 = .cell → y.1 ∈ own.map (·.1) ∨ y.1 ∉ N
/-- the slots of the block's own names forgotten -/
def wipe (σ : St) : List Nat → St
  | [] => σ
  | v :: vs => (wipe σ vs).set v none
theorem wipe_length (σ : St) : ∀ vs : List Nat, (wipe σ vs).length = σ.length
  | [] => rfl
  | v :: vs => by unfold wipe; rw [List.length_set, wipe_length σ vs]
theorem wipe_some {σ : St} {i : Nat} {x : V} : ∀ {vs : List Nat}, (wipe σ vs)[i]? = some (some x) → σ[i]? = some (some x) ∧ i ∉ vs
  | [], h => ⟨h, by simp⟩
  | v :: vs, h => by
    unfold wipe at h
    by_cases hi : v = i
    · subst hi
      by_cases hv : v < (wipe σ vs).length
      · rw [List.getElem?_set_self hv] at h; cases h
      · rw [List.getElem?_eq_none (by simpa using hv)] at h; cases h
    · rw [List.getElem?_set_ne hi] at h
      obtain ⟨h1, h2⟩ := wipe_some h
      exact ⟨h1, by simp only [List.mem_cons, not_or]; exact ⟨fun e => hi e.symm, h2⟩⟩

/-- the context of a block that starts at s, its iterator's objects at fp -/
abbrev Cx.blk (X : Cx) (s : Shared) (H : Hp) (scope : Scope) (cenv : Env) (fp : List Addr) : Cx := { X with s_0 := s, H_0 := H, env := cenv, outer := X.stack, ex := fp, fn := fun x => scope.names.lookup x == some .cell, pn := [], xe := fun _ _ => False }
section
variable {X : Cx} {pins : List (Addr × Obj)} {σ : St} {H : Hp} {s : Shared}
theorem block_start {scope : Scope} {own : List (Str × Nat)} {fp : List Addr} (I : Inv X pins σ H s) (ok : BlkOk X.N X.env.scope scope own) (hN : X.N.Nodup) (hfp : ∀ b ∈ fp, FpOk X pins H b ∧ b < s.heap.objs.size) :
    Inv (X.blk s H scope (compEnvC scope (cellsFrom (s.heap.objs.size + 1) scope.names (cloFrom X.env.cells scope.names [])) s.heap.objs.size X.env) fp) [] (wipe σ (own.map (·.2))) H { s with heap := pushCells (s.heap.push { cls := .type "dict", data := .dict #[] }) scope.names } := by
  have hfree : ∀ y ∈ scope.names, y.2 = .free → ∃ c, X.env.cells.lookup y.1 = some c := fun y hy e => by
    rcases ok.free y hy e with k | k
    · exact I.ok.has _ (.inl k)
    · exact I.ok.has _ (.inr k)
  generalize hcenv : compEnvC scope (cellsFrom (s.heap.objs.size + 1) scope.names (cloFrom X.env.cells scope.names [])) s.heap.objs.size X.env = cenv
  have kp : ∀ b o, s.heap.get? b = some o → (pushCells (s.heap.push { cls := .type "dict", data := .dict #[] }) scope.names).get? b = some o := fun b o e => pushCells_keeps _ _ _ _ (Heap.get?_push_of_some _ e)
  have hL : cenv.locals = s.heap.objs.size := by rw [← hcenv]; rfl
  have hcl : cenv.cells = cellsFrom (s.heap.objs.size + 1) scope.names (cloFrom X.env.cells scope.names []) := by rw [← hcenv]; rfl
  have hsc : cenv.scope = relS scope X.env.scope := by rw [← hcenv]; rfl
  rw [← Heap.size_push s.heap { cls := .type "dict", data := .dict #[] }] at hcl
  have cm : ∀ {y c}, (y, c) ∈ cloFrom X.env.cells scope.names [] → X.env.cells.lookup y = some c ∧ c < s.heap.objs.size := fun {y c} hm => by
    rcases cloFrom_mem hm with hm | ⟨h1, rfl⟩
    · cases hm
    · obtain ⟨c, hc⟩ := hfree _ h1 rfl
      rw [hc]
      obtain ⟨w, z⟩ := I.cell _ _ hc
      exact ⟨rfl, z.lt⟩
  have mem : ∀ {y c}, cenv.cells.lookup y = some c → (X.env.cells.lookup y = some c ∧ c < s.heap.objs.size) ∨ (s.heap.objs.size + 1 ≤ c ∧ CellAt (pushCells (s.heap.push { cls := .type "dict", data := .dict #[] }) scope.names) c none) := fun {y c} e => by
    rw [hcl] at e
    rcases cells_mem (PySem.mem_of_lookup e) with hm | ⟨_, h2, h3⟩
    · exact .inl (cm hm)
    · rw [Heap.size_push] at h2; exact .inr ⟨h2, h3⟩
  have look : ∀ {y}, scope.names.lookup y = some .free → ∃ c, cenv.cells.lookup y = some c ∧ X.env.cells.lookup y = some c := fun {y} hl => by
    have hy : (y, NameKind.free) ∈ scope.names := PySem.mem_of_lookup hl
    obtain ⟨c', e'⟩ := mem_lookup (cells_acc (names := scope.names) (n := (s.heap.push { cls := .type "dict", data := .dict #[] }).objs.size) (cloFrom_has (cells := X.env.cells) (acc := []) hy))
    rw [← hcl] at e'
    refine ⟨c', e', ?_⟩
    rw [hcl] at e'
    rcases cells_mem (PySem.mem_of_lookup e') with hm | ⟨h1, _, _⟩
    · exact (cm hm).1
    · have := ok.uniq _ h1
      rw [hl] at this; cases this
  have okB : (X.blk s H scope cenv fp).Ok := by
    refine ⟨I.ok.mod, by show cenv.scope.kind = _; rw [hsc]; exact ok.kind, by show cenv.globals = _; rw [← hcenv]; exact I.ok.glob, by show cenv.builtins = _; rw [← hcenv]; exact I.ok.blt, by show s.heap.objs.size ≤ cenv.locals; rw [hL]; exact Nat.le_refl _,
      fun y z c e1 e2 => ?_, fun y hy => ?_, fun y c z e => ?_, I.ok.hd, I.ok.frames, .inl rfl, fun b hb => ⟨?_, fun y c e z => ?_⟩, I.bs, Nat.le_trans I.ok.bsz I.sz, fun b o e hb => ?_, fun b hb z => ?_, I.stack, I.stkFree⟩
    · have e1 : cenv.cells.lookup y = some c := e1
      have e2 : cenv.cells.lookup z = some c := e2
      rw [hcl] at e1 e2
      refine cells_inj (fun p hp => ?_) (fun y z c a b => I.ok.inj y z c (cm a).1 (cm b).1) (PySem.mem_of_lookup e1) (PySem.mem_of_lookup e2)
      rw [Heap.size_push]
      exact Nat.lt_succ_of_lt (cm (y := p.1) (c := p.2) hp).2
    · show ∃ c, cenv.cells.lookup y = some c
      have key : ∀ k, cenv.kindOf y = some k → (k = .cell ∨ k = .free) → ∃ c, cenv.cells.lookup y = some c := fun k hk hk' => by
        unfold Env.kindOf at hk
        rw [hsc] at hk
        obtain ⟨k', e, r⟩ := lookup_relS hk
        have : k' = .cell ∨ k' = .free := by
          rcases r with rfl | ⟨rfl, _⟩
          · exact hk'
          · exact .inr rfl
        rcases this with rfl | rfl
        · obtain ⟨c, hm⟩ := cells_has (n := (s.heap.push { cls := .type "dict", data := .dict #[] }).objs.size) (acc := cloFrom X.env.cells scope.names []) (PySem.mem_of_lookup e)
          obtain ⟨c', e'⟩ := mem_lookup hm
          exact ⟨c', by rw [hcl]; exact e'⟩
        · obtain ⟨c, h1, _⟩ := look e
          exact ⟨c, h1⟩
      rcases hy with hy | hy
      · exact key _ hy (.inl rfl)
      · exact key _ hy (.inr rfl)
    · have z : (scope.names.lookup y == some NameKind.cell) = true := z
      have z : scope.names.lookup y = some .cell := by simpa using z
      have e : cenv.cells.lookup y = some c := e
      rw [hcl] at e
      rcases cells_mem (PySem.mem_of_lookup e) with hm | ⟨_, h2, _⟩
      · rcases cloFrom_mem hm with hm | ⟨h1, _⟩
        · cases hm
        · have q := ok.uniq _ h1
          rw [z] at q; cases q
      · rw [Heap.size_push] at h2
        exact Nat.le_of_succ_le h2
    · show b ≠ cenv.locals
      rw [hL]; exact Nat.ne_of_lt (hfp b hb).2
    · have e : cenv.cells.lookup y = some c := e
      rcases mem e with ⟨h1, _⟩ | ⟨h1, _⟩
      · exact (hfp b hb).1.2.2.2.2.1 y c h1 z
      · have h2 : s.heap.objs.size + 1 ≤ b := by rw [← z]; exact h1
        exact absurd (Nat.lt_of_lt_of_le (hfp b hb).2 (Nat.le_of_succ_le h2)) (Nat.lt_irrefl _)
    · rcases (hfp b hb).1.2.2.2.1 with z | z
      · exact I.ok.noex b o e z
      · exact absurd (Nat.lt_of_lt_of_le (Heap.lt_size e) (Nat.le_trans I.ok.bsz z)) (Nat.lt_irrefl _)
    · rcases List.mem_cons.mp (I.stkSub b z) with z | z
      · exact (hfp b hb).1.2.1 z
      · exact (hfp b hb).1.2.2.1 z
  refine ⟨okB, rfl, I.bare, Un.kept kp, ⟨fun _ => none, ?_, fun i y av e1 e2 e3 => ?_⟩, fun y c e => ?_, ?_, fun y c e => ?_, fun p hp => ?_, I.hok.kept kp, by rw [wipe_length]; exact I.len⟩
  · show Heap.Ns _ cenv.locals _
    rw [hL]
    exact Heap.Ns.keeps (Heap.Ns.new ..) fun b o e => pushCells_keeps _ _ _ _ e
  · obtain ⟨e2, hne⟩ := wipe_some e2
    have hfr : scope.names.lookup y = some .free ∧ (cenv.kindOf y = some .cell ∨ cenv.kindOf y = some .free) := by
      have key : ∀ k, cenv.scope.names.lookup y = some k → k = .local ∨ k = .cell ∨ k = .free → scope.names.lookup y = some .free ∧ (cenv.kindOf y = some .cell ∨ cenv.kindOf y = some .free) := fun k hk hk' => by
        have hk0 := hk
        rw [hsc] at hk
        obtain ⟨k', e, r⟩ := lookup_relS hk
        have no : ¬ (k' = .local ∨ k' = .cell) := fun hh => by
          rcases ok.own _ (PySem.mem_of_lookup e) hh with e' | e'
          · obtain ⟨p, hp, hpy⟩ := List.mem_map.mp e'
            have e3 := ok.ix p hp
            have : p.1 = y := hpy
            rw [this] at e3
            exact hne (List.mem_map.mpr ⟨p, hp, nodup_ix hN e3 e1⟩)
          · exact e' (List.mem_of_getElem? e1)
        rcases r with rfl | ⟨rfl, rfl⟩
        · rcases hk' with rfl | rfl | rfl
          · exact absurd (.inl rfl) no
          · exact absurd (.inr rfl) no
          · exact ⟨e, .inr hk0⟩
        · exact ⟨e, .inl hk0⟩
      have e3 : Vis cenv.scope y := e3
      rcases e3 with e3 | e3 | e3
      · exact key _ e3 (.inl rfl)
      · exact key _ e3 (.inr (.inl rfl))
      · exact key _ e3 (.inr (.inr rfl))
    obtain ⟨m, hn, hl⟩ := I.loc
    have hvis : Vis X.env.scope y := (ok.free _ (PySem.mem_of_lookup hfr.1) rfl).elim (fun k => .inr (.inl k)) (fun k => .inr (.inr k))
    obtain ⟨w, r, q⟩ := hl i y av e1 e2 hvis
    refine ⟨w, r, .inr ⟨hfr.2, ?_⟩⟩
    obtain ⟨c, h1, h2⟩ := look hfr.1
    rcases q with ⟨k, _⟩ | ⟨_, c', e', z⟩
    · have k : X.env.scope.names.lookup y = some .local := k
      rcases ok.free _ (PySem.mem_of_lookup hfr.1) rfl with k' | k' <;> rw [show X.env.scope.names.lookup y = _ from k'] at k <;> cases k
    · rw [h2] at e'; cases e'
      exact ⟨c, h1, z.keeps kp⟩
  · have e : cenv.cells.lookup y = some c := e
    rcases mem e with ⟨h1, _⟩ | ⟨_, z⟩
    · obtain ⟨w, z⟩ := I.cell y c h1
      exact ⟨w, z.keeps kp⟩
    · exact ⟨_, z⟩
  · show H cenv.locals = none
    rw [hL]; exact I.hok.fresh (Nat.le_refl _)
  · have e : cenv.cells.lookup y = some c := e
    rcases mem e with ⟨h1, _⟩ | ⟨h1, _⟩
    · exact I.freeC y c h1
    · exact I.hok.fresh (Nat.le_of_succ_le h1)
  · exact absurd (show p ∈ ([] : List (Addr × Obj)) ++ [] from hp) (by simp)

/-- an item appended to a tracked list -/
theorem app_ok {E : Value → Shared → Prop} {D : Addr} {xs : List V} {y : V} {v : Value} {Q : Value → Shared → Prop} (I : Inv X pins σ H s) (hD : H D = some (.lst xs)) (hz : xs.length < sizeLine) (r : RelV y v)
    (h : ∀ s', Inv X pins σ (upd H D (.lst (xs ++ [y]))) s' → Q .none s') : wpAny (model X.prog X.w) X.A (call (.builtin "list.append") [.ref D, v]) Q E s := by
  obtain ⟨hz', its, n, ri, e⟩ := I.hok D _ hD
  have hl := ri.length
  refine append_at (hsz := by rw [List.size_toArray]; omega) e fun h' sb ho' => ?_
  refine h { s with heap := h' } (I.write (t' := s.toks) (by rw [hD]; trivial) (.inl rfl) (fun b u hb q => (sb.2 b hb).trans q) ⟨_, ho'⟩ ⟨by rw [List.length_append]; exact hz, its ++ [v], n + 1, ri.append (.cons r .nil), ?_⟩)
  rw [ho']
  simp

/-- a clause's tests -/
def PTs (X : Cx) (ifs : List Expr) (t : TT) : Prop :=
  ∀ (pins : List (Addr × Obj)) (s : Shared) (σ : St) (H : Hp) (Q : Bool → Hp → Prop), Inv X pins σ H s → t σ H Q →
    wpAny (model X.prog X.w) X.A (forIn ifs true fun c r => if r = true then do let ok ← isTrue c X.env (eval c X.env); pure (ForInStep.yield ok) else pure (ForInStep.yield r)) (TP X pins σ Q) X.xe s
def tYes : TT := fun _ H Q => Q true H
theorem pts_nil : PTs X [] tYes := fun _ _ _ H _ I h => wpAny_tests_nil ⟨H, I, h⟩
theorem pts_one {c : Expr} {t : TT} (h : PT X c t) : PTs X [c] t := fun pins s σ H Q I hw => wpAny_tests_one (h pins s σ H Q I hw)
end

theorem thnF {α : Type} {t : Sem α} {Q Q' : α → Shared → Prop} {M : Model} {A : Around} {E : Value → Shared → Prop} {s : Shared} (h : wpAny M A t Q (fun _ _ => False) s) (hQ : ∀ a s, Q a s → Q' a s) : wpAny M A t Q' E s := wpAny_mono h hQ fun _ _ z => False.elim z

/-- the loop of a list comprehension's block, the target of any form (codeAny_compLoop_tests asks a target that no tuple goes to; statement and proof follow it, PyProof/CompMap.lean:41-61, with the step letOwnedTupleGo kept) -/
theorem compLoop_any {prog : Program} {w : World} {A : Around} {R : Result → Shared → Prop} {s : Shared} {elt target iter : Expr} {ifs : List Expr} {scope : Scope} {pos : Pos} {it acc : Value} {env : Env} (I : Nat → Shared → Prop)
    (turn : ∀ n s, I n s → wpAny (model prog w) A (pyNext it) (fun r s₁ => match r with
      | none => R (.ok .next) s₁
      | some v => wpAny (model prog w) A (letOwnedTupleGo target it v) (fun _ s₁' => wpAny (model prog w) A (assign target env v) (fun _ s₂ =>
          wpAny (model prog w) A (forIn ifs true fun c r => if r = true then do let ok ← isTrue c env (eval c env); pure (ForInStep.yield ok) else pure (ForInStep.yield r)) (fun ok s₃ =>
            if ok = true then wpAny (model prog w) A (eval elt env) (fun x s₄ =>
              wpAny (model prog w) A (call (.builtin "list.append") [acc, x]) (fun _ s₅ => ∃ m, m < n ∧ I m s₅) (notedBy (model prog w) A env fun e s' => R (.error e) s') s₄) (notedBy (model prog w) A env fun e s' => R (.error e) s') s₃
            else ∃ m, m < n ∧ I m s₃) (notedBy (model prog w) A env fun e s' => R (.error e) s') s₂) (notedBy (model prog w) A env fun e s' => R (.error e) s') s₁') (notedBy (model prog w) A env fun e s' => R (.error e) s') s₁) (notedBy (model prog w) A env fun e s' => R (.error e) s') s)
    (n : Nat) (h : I n s) :
    codeAny (model prog w) A (.compLoop (.ListComp elt [⟨target, iter, ifs, 0⟩] scope pos) 0 it acc env) R s := by
  refine codeAny_loop rfl I (fun n s hI => ?_) n h
  show wpAny _ A ((compTurn (.ListComp elt [⟨target, iter, ifs, 0⟩] scope pos) 0 it acc env).onRaise (fun x => do noteFrame x env; theTreesLotGoes x)) _ _ s
  refine wpAny_noted ?_
  rw [compTurn_list]
  refine wpAny_bind (wpAny_standAt (wpAny_bind (wpAny_mono (turn n s hI) (fun r s₁ h₁ => ?_) fun _ _ h' => h')))
  cases r with
  | none => exact wpAny_pure h₁
  | some v =>
    refine wpAny_bind (wpAny_mono h₁ (fun _ s₁' h₁' => ?_) fun _ _ h' => h')
    refine wpAny_bind (wpAny_mono h₁' (fun _ s₂ h₂ => wpAny_bind (wpAny_mono h₂ (fun ok s₃ h₃ => ?_) fun _ _ h' => h')) fun _ _ h' => h')
    cases ok with
    | false => exact wpAny_pure ⟨rfl, h₃⟩
    | true =>
      exact wpAny_bind (wpAny_bind (wpAny_mono h₃ (fun x s₄ h₄ => wpAny_bind (wpAny_mono h₄ (fun _ s₅ h₅ => wpAny_pure (wpAny_pure ⟨rfl, h₅⟩)) fun _ _ h' => h')) fun _ _ h' => h'))

section
variable {X : Cx}
/-- [elt for target in iter if ..]: D the new list; W by the turn and a measure, Nx what a turn is to reach -/
def tLc (wi : TI) (g : TG) (tt : TT) (te : TE) (vs : List Nat) : TE := fun σ H Q => wi σ H fun J H1 => ∀ D, H1 D = none → ∃ W : Nat → Nat → Hp → Prop, (∃ m, W 0 m (upd H1 D (.lst []))) ∧ ∀ i m H, W i m H →
  (J.stop i H ∧ Q (.ref D) H) ∨ (J.go i H ∧ ∃ Nx : Hp → Prop, (∀ H', Nx H' → ∃ m', m' < m ∧ W (i + 1) m' H') ∧ ∀ x H', J.yld i H x H' → g x (wipe σ vs) H' fun σ2 H2 => wipe σ2 vs = wipe σ vs ∧ tt σ2 H2 fun b H3 =>
    if b = true then te σ2 H3 fun y H4 => ∃ acc, H4 D = some (.lst acc) ∧ acc.length < sizeLine ∧ Nx (upd H4 D (.lst (acc ++ [y]))) else Nx H3)
theorem lc_core {pins : List (Addr × Obj)} {s : Shared} {σ : St} {H : Hp} {Q : VK} {elt tg iter : Expr} {ifs : List Expr} {scope : Scope} {own : List (Str × Nat)} {pos pos' : Pos} {wi : TI} {g : TG} {tt : TT} {te : TE} {use : Option (Value → Sem Unit)} {Qf : Value → Shared → Prop}
    (hc : X.calm = true) (hN : X.N.Nodup) (I : Inv X pins σ H s) (hi : PI X tg iter wi) (ok : BlkOk X.N X.env.scope scope own)
    (hg : ∀ (s : Shared) (H : Hp) (C : Addr) (cl : List (Str × Addr)) (fp : List Addr), PG (X.blk s H scope (compEnvC scope cl C X.env) fp) tg g) (ht : ∀ (s : Shared) (H : Hp) (C : Addr) (cl : List (Str × Addr)) (fp : List Addr), PTs (X.blk s H scope (compEnvC scope cl C X.env) fp) ifs tt)
    (he : ∀ (s : Shared) (H : Hp) (C : Addr) (cl : List (Str × Addr)) (fp : List Addr), PE (X.blk s H scope (compEnvC scope cl C X.env) fp) elt te) (hs : ∀ x, foldedSetIterable iter X.env x = pure x)
    (h : tLc wi g tt te (own.map (·.2)) σ H Q)
    (hRR : ∀ D C s' m H', Inv X pins σ H' s' → Q (.ref D) H' → s'.heap.Ns C m → FpOk X pins H' C → compPost (model X.prog X.w) X.A X.xe use Qf (.ref D) C (.ok .next) s') :
    wpAny (model X.prog X.w) X.A (comprehension (.ListComp elt [⟨tg, iter, ifs, 0⟩] scope pos) scope X.env pos' (newList []) false (eval iter X.env) use) Qf X.xe s := by
  have hfree : ∀ y ∈ scope.names, y.2 = .free → ∃ c, X.env.cells.lookup y.1 = some c := fun y hy e => by
    rcases ok.free y hy e with k | k
    · exact I.ok.has _ (.inl k)
    · exact I.ok.has _ (.inr k)
  refine wpAny_comprehension_free (use := use) rfl hs (closure_ok hfree) ok.kind (fun y hy e => by rw [ok.uniq y hy, e])
    (thn (hi pins s σ H _ I h) fun xv s1 hx => thn hx fun itv s2 h2 => ?_)
  obtain ⟨it, fp, tn, J, H2, e, I2, T, st2, f2, q⟩ := h2
  subst e
  refine wpAny_newObj_type (newEnv_comp ?_) (by show 0 ≤ sizeLine; decide)
  generalize hD : s2.heap.objs.size = D
  have hDn : H2 D = none := I2.hok.fresh (Nat.le_of_eq hD)
  obtain ⟨W, ⟨m0, w0⟩, turn⟩ := q D hDn
  -- the new list
  generalize hs3 : ({ s2 with heap := s2.heap.push { cls := .type "list", data := .seq ([] : List Value).toArray } } : Shared) = s3
  have I3 : Inv X pins σ (upd H2 D (.lst [])) s3 := by
    rw [← hs3]
    refine I2.laid (t' := s2.toks) (fun b o e => Heap.get?_push_of_some _ e) (Nat.le_of_eq hD) ⟨Nat.zero_le _, [], 0, .nil, ?_⟩
    rw [← hD]
    exact Heap.get?_push_size _ rfl
  have h3 : s3.heap = s2.heap.push { cls := .type "list", data := .seq ([] : List Value).toArray } := by rw [← hs3]
  have sz : ∀ b ∈ fp, b < s2.heap.objs.size := fun b hb => by
    obtain ⟨o, e, _⟩ := T.obj _ _ st2 b hb
    exact Heap.lt_size e
  have f3 : ∀ b ∈ fp, FpOk X pins (upd H2 D (.lst [])) b ∧ b < s3.heap.objs.size := fun b hb => by
    have hlt := sz b hb
    refine ⟨⟨?_, (f2 b hb).2⟩, by rw [h3, Heap.size_push]; exact Nat.lt_succ_of_lt hlt⟩
    rw [upd_ne (by rw [← hD]; exact Nat.ne_of_lt hlt)]
    exact (f2 b hb).1
  have st3 : tn 0 s3.heap := T.keep _ _ _ st2 fun b _ o e => by rw [h3]; exact Heap.get?_push_of_some _ e
  have I4 := block_start I3 ok hN f3
  have pg := hg s3 (upd H2 D (.lst [])) s3.heap.objs.size (cellsFrom (s3.heap.objs.size + 1) scope.names (cloFrom X.env.cells scope.names [])) fp
  have pt := ht s3 (upd H2 D (.lst [])) s3.heap.objs.size (cellsFrom (s3.heap.objs.size + 1) scope.names (cloFrom X.env.cells scope.names [])) fp
  have pe := he s3 (upd H2 D (.lst [])) s3.heap.objs.size (cellsFrom (s3.heap.objs.size + 1) scope.names (cloFrom X.env.cells scope.names [])) fp
  show codeAny _ _ (.compStart (.ListComp elt [⟨tg, iter, ifs, 0⟩] scope pos) 0 (.ref it) (.ref D) (compEnvC scope (cellsFrom (s3.heap.objs.size + 1) scope.names (cloFrom X.env.cells scope.names [])) s3.heap.objs.size X.env)) (compPost (model X.prog X.w) X.A X.xe use Qf (.ref D) s3.heap.objs.size) { s3 with heap := pushCells (s3.heap.push { cls := .type "dict", data := .dict #[] }) scope.names }
  have nfp : ∀ b ∈ fp, (upd H2 D (.lst [])) b = none := fun b hb => (f3 b hb).1.1
  generalize hce : compEnvC scope (cellsFrom (s3.heap.objs.size + 1) scope.names (cloFrom X.env.cells scope.names [])) s3.heap.objs.size X.env = ce at I4 pg pt pe ⊢
  have cL : ce.locals = s3.heap.objs.size := by subst hce; rfl
  generalize hH3 : upd H2 D (.lst []) = H3 at I3 I4 pg pt pe w0 nfp f3
  generalize hs4 : ({ s3 with heap := pushCells (s3.heap.push { cls := .type "dict", data := .dict #[] }) scope.names } : Shared) = s4 at I4 ⊢
  have st4 : tn 0 s4.heap := T.keep _ _ _ st3 fun b _ o e => by rw [← hs4]; exact pushCells_keeps _ _ _ _ (Heap.get?_push_of_some _ e)
  have stat : ∀ {σ' : St} {H' : Hp} {s' : Shared}, Inv (X.blk s3 H3 scope ce fp) [] σ' H' s' → (∀ b ∈ fp, H' b = none) → ∀ b ∈ fp, FpOk (X.blk s3 H3 scope ce fp) [] H' b := fun {σ' H' s'} I' hn b hb =>
    ⟨hn b hb, (I'.ok.exf b hb).1, I'.ok.exfs b hb, .inl hb, fun x c e => (I'.ok.exf b hb).2 x c e, fun p hp => absurd (show p ∈ ([] : List (Addr × Obj)) ++ [] from hp) (by simp)⟩
  have loop : codeAny (model X.prog X.w) X.A (.compLoop (.ListComp elt [⟨tg, iter, ifs, 0⟩] scope pos) 0 (.ref it) (.ref D) ce) (compPost (model X.prog X.w) X.A X.xe use Qf (.ref D) s3.heap.objs.size) s4 := by
    refine compLoop_any (fun n s' => ∃ i H', Inv (X.blk s3 H3 scope ce fp) [] (wipe σ (own.map (·.2))) H' s' ∧ tn i s'.heap ∧ (∀ b ∈ fp, H' b = none) ∧ W i n H') ?_ m0 ⟨0, H3, I4, st4, nfp, w0⟩
    rintro n s5 ⟨i, H5, I5, st5, n5, w5⟩
    rcases turn i n H5 w5 with ⟨stop, qq⟩ | ⟨go, Nx, hNx, step⟩
    · have td := T.done (X.blk s3 H3 scope ce fp) rfl rfl rfl hc i [] s5 _ H5 (fun _ _ => False) I5 (stat I5 n5) st5 stop
      refine thnF td fun r s6 ⟨hr, I6⟩ => ?_
      subst hr
      -- back in the def's context
      have I7 : Inv X pins σ H5 s6 := I3.call' (ch := fp) I6.os I6.base I6.hok I6.bare fun b hb => ⟨(f3 b hb).1.2.2.2.1, (f3 b hb).1.2.1, (f3 b hb).1.2.2.2.2.1, (f3 b hb).1.2.2.2.2.2⟩
      have nC : H5 s3.heap.objs.size = none := by
        have z : H5 ce.locals = none := I6.free
        rw [cL] at z
        exact z
      obtain ⟨m, hn, _⟩ := I6.loc
      have hn : s6.heap.Ns ce.locals m := hn
      rw [cL] at hn
      exact hRR D s3.heap.objs.size s6 m H5 I7 qq hn (I3.fpOk (Nat.le_refl _) nC)
    · have ti := T.item (X.blk s3 H3 scope ce fp) rfl rfl rfl hc i [] s5 _ H5 (fun _ _ => False) I5 (stat I5 n5) st5 go
      refine thnF ti fun r s6 ⟨u, hr, h6⟩ => ?_
      subst hr
      refine thnF h6 fun _ s7 ⟨x, H7, I7, r7, y7, st7, n7⟩ => ?_
      have I7' := I7.pinned (stat I7 n7) (T.obj _ _ st7)
      refine thnF (pg _ s7 _ H7 x u _ I7' r7 (step x H7 y7)) fun _ s8 ⟨σ8, H8, I8, hw8, q8⟩ => ?_
      refine thnF (pt _ s8 σ8 H8 _ I8 q8) fun b s9 ⟨H9, I9, q9⟩ => ?_
      -- the turn's end
      have fin : ∀ {s' : Shared} {H' : Hp}, Inv (X.blk s3 H3 scope ce fp) ([] ++ pinsAt fp s7.heap) σ8 H' s' → Nx H' → ∃ m, m < n ∧ ∃ i H', Inv (X.blk s3 H3 scope ce fp) [] (wipe σ (own.map (·.2))) H' s' ∧ tn i s'.heap ∧ (∀ b ∈ fp, H' b = none) ∧ W i m H' := fun {s' H'} I' nx => by
        obtain ⟨m', hm, w'⟩ := hNx H' nx
        have pin' : ∀ b ∈ fp, ∀ o, s7.heap.get? b = some o → s'.heap.get? b = some o ∧ H' b = none := fun b hb o e =>
          let z := I'.pin (b, o) (List.mem_append_right _ (List.mem_append_right _ (mem_pinsAt hb e)))
          ⟨z.1, z.2.1⟩
        have hl : (wipe σ (own.map (·.2))).length = σ8.length := by rw [← hw8, wipe_length]
        refine ⟨m', hm, i + 1, H', (I'.unpinned (pins := [])).weak hl (fun j v e => ?_), T.keep _ _ _ st7 fun b hb o e => (pin' b hb o e).1, fun b hb => ?_, w'⟩
        · rw [← hw8] at e
          exact (wipe_some e).1
        · obtain ⟨o, e, _⟩ := T.obj _ _ st7 b hb
          exact (pin' b hb o e).2
      cases b with
      | false =>
        simp only [Bool.false_eq_true, if_false] at q9 ⊢
        exact fin I9 q9
      | true =>
        simp only [if_true] at q9 ⊢
        refine thnF (pe _ s9 σ8 H9 _ I9 q9) fun z s10 ⟨yv, H10, I10, r10, acc, hD10, hz10, nx⟩ => ?_
        exact app_ok (X := X.blk s3 H3 scope ce fp) I10 hD10 hz10 r10 fun s11 I11 => fin I11 nx
  exact codeAny_compStart_list loop (T.self X.A 0 _ _ _ st4 loop)
/-- as a value -/
theorem pe_lc {elt tg iter : Expr} {ifs : List Expr} {scope : Scope} {own : List (Str × Nat)} {pos : Pos} {wi : TI} {g : TG} {tt : TT} {te : TE} (hc : X.calm = true) (hN : X.N.Nodup) (hi : PI X tg iter wi) (ok : BlkOk X.N X.env.scope scope own)
    (hg : ∀ (s : Shared) (H : Hp) (C : Addr) (cl : List (Str × Addr)) (fp : List Addr), PG (X.blk s H scope (compEnvC scope cl C X.env) fp) tg g) (ht : ∀ (s : Shared) (H : Hp) (C : Addr) (cl : List (Str × Addr)) (fp : List Addr), PTs (X.blk s H scope (compEnvC scope cl C X.env) fp) ifs tt)
    (he : ∀ (s : Shared) (H : Hp) (C : Addr) (cl : List (Str × Addr)) (fp : List Addr), PE (X.blk s H scope (compEnvC scope cl C X.env) fp) elt te) (hs : ∀ x, foldedSetIterable iter X.env x = pure x := by intro _; rfl) :
    PE X (.ListComp elt [⟨tg, iter, ifs, 0⟩] scope pos) (tLc wi g tt te (own.map (·.2))) := by
  intro pins s σ H Q I h
  rw [eval_ListComp]
  refine lc_core hc hN I hi ok hg ht he hs h fun D C s' m H' I' q hn f => ⟨m, hn, fun h'' sb => ?_⟩
  obtain ⟨f0, f1, f2, f3, f4, f5⟩ := f
  exact ⟨.ref D, H', I'.turned (t' := s'.toks) (fun b o hb e => (sb.2 b hb).trans e) f0 f1 f3 f4 f5, rfl, q⟩
/-- name = [..] on one line, the name a local -/
theorem ps_setLc {i : Nat} {y : Str} {py : Pos} {elt tg iter : Expr} {ifs : List Expr} {scope : Scope} {own : List (Str × Nat)} {pos spos : Pos} {wi : TI} {g : TG} {tt : TT} {te : TE} (hc : X.calm = true) (hN : X.N.Nodup) (hy : X.N[i]? = some y) (hyl : X.env.scope.names.lookup y = some .local)
    (hsw : swapsWith (.ListComp elt [⟨tg, iter, ifs, 0⟩] scope pos) (some (.Name y py)) spos.line X.env = pure true) (hi : PI X tg iter wi) (ok : BlkOk X.N X.env.scope scope own)
    (hg : ∀ (s : Shared) (H : Hp) (C : Addr) (cl : List (Str × Addr)) (fp : List Addr), PG (X.blk s H scope (compEnvC scope cl C X.env) fp) tg g) (ht : ∀ (s : Shared) (H : Hp) (C : Addr) (cl : List (Str × Addr)) (fp : List Addr), PTs (X.blk s H scope (compEnvC scope cl C X.env) fp) ifs tt)
    (he : ∀ (s : Shared) (H : Hp) (C : Addr) (cl : List (Str × Addr)) (fp : List Addr), PE (X.blk s H scope (compEnvC scope cl C X.env) fp) elt te) (hs : ∀ x, foldedSetIterable iter X.env x = pure x := by intro _; rfl) :
    PS X (.Assign [.Name y py] (.ListComp elt [⟨tg, iter, ifs, 0⟩] scope pos) spos) (tAsg (tLc wi g tt te (own.map (·.2))) (gName i)) := by
  intro pins s σ H D I h
  rw [exec_Assign_Name_used _ _ _ _ hsw]
  refine wpAny_bind (wpAny_standAt (wpAny_bind ?_))
  show wpAny _ X.A (do let _ ← comprehension (.ListComp elt [⟨tg, iter, ifs, 0⟩] scope pos) scope X.env (firstIterPos [⟨tg, iter, ifs, 0⟩] pos) (newList []) false (eval iter X.env) (some (assign (.Name y py) X.env))) _ _ s
  have h : tLc wi g tt te (own.map (·.2)) σ H (fun x H1 => gName i x σ H1 D.nx) := h
  refine wpAny_bind (thn (lc_core (Qf := fun _ s' => SP X pins D .next s') hc hN I hi ok hg ht he hs h fun L C s' m H' I' q hn f => ?_) fun _ s' hq => wpAny_pure (wpAny_pure hq))
  show wpAny _ _ (assign (.Name y py) X.env (.ref L)) _ _ _
  refine wpAny_assign_Name (store_ok2 (v := V.ref L) I' hN hy (.inl hyl) rfl (fun s2 I2 ⟨a, sb, ha⟩ => ?_) (.inr hyl))
  obtain ⟨f0, f1, f2, f3, f4, f5⟩ := f
  have haC : C ≠ a := by
    rcases ha with z | z
    · rw [z]; exact f1
    · exact fun e => f4 y a z e.symm
  refine ⟨m, hn.sameBut sb haC, fun h3 sb3 => ?_⟩
  exact ⟨_, H', I2.turned (t' := s2.toks) (fun b o hb e => (sb3.2 b hb).trans e) f0 f1 f3 f4 f5, q⟩
theorem sw_true {elt : Expr} {gs : List Comprehension} {scope : Scope} {pos py : Pos} {y : Str} {l : Nat} {env : Env} (hk : env.scope.kind = .function) (hy : env.scope.names.lookup y = some .local) (hl : (py.line == pos.line) = true)
    (ha : (scope.names.any fun (n, k) => n == y && (k == .local || k == .cell)) = false) : swapsWith (.ListComp elt gs scope pos) (some (.Name y py)) l env = pure true := by
  have ky : env.kindOf y = some .local := hy
  have hb : env.blockKind = .function := by unfold Env.blockKind; rw [hk]; rfl
  unfold swapsWith
  simp only [hb, ky, ha, Expr.pos, hl]
  rfl
end

/-! ### the forms one uses -/
def blkC (N : List Str) (sc scope : Scope) (own : List (Str × Nat)) : Bool :=
  (match scope.kind with | .function => true | _ => false) && (scope.names.all fun y => decide (scope.names.lookup y.1 = some y.2)) && (own.all fun p => decide (N[p.2]? = some p.1)) &&
    (scope.names.all fun y => match y.2 with
      | .free => (match sc.names.lookup y.1 with | some .cell => true | some .free => true | _ => false)
      | .local => decide (y.1 ∈ own.map (·.1)) || decide (y.1 ∉ N)
      | .cell => decide (y.1 ∈ own.map (·.1)) || decide (y.1 ∉ N)
      | _ => true)
theorem blkOk_by {N : List Str} {sc scope : Scope} {own : List (Str × Nat)} (h : blkC N sc scope own = true) : BlkOk N sc scope own := by
  unfold blkC at h
  simp only [Bool.and_eq_true, List.all_eq_true, decide_eq_true_eq] at h
  obtain ⟨⟨⟨h1, h2⟩, h3⟩, h4⟩ := h
  refine ⟨?_, h2, h3, fun y hy e => ?_, fun y hy e => ?_⟩
  · split at h1
    · assumption
    · cases h1
  · have q := h4 y hy
    simp only [e] at q
    split at q <;> first | exact .inl (by assumption) | exact .inr (by assumption) | cases q
  · have q := h4 y hy
    rcases e with e | e <;> (simp only [e, Bool.or_eq_true, decide_eq_true_eq] at q; exact q)
end L2

namespace L2
open PySem PySem.Spec PyProof.Rows

section
variable {prog : Program} {w : World} {A : Around} {R : Result → Shared → Prop} {s : Shared} {elt t0 i0 t1 i1 : Expr} {ifs0 ifs1 : List Expr} {scope : Scope} {pos : Pos} {it acc : Value} {env : Env}
end

section
variable {X : Cx}
/-- [elt for tg in iter if .. for tg1 in iter1 if ..]: behind the first clause's store and tests the second source's own loop, from which Nx is reached. vs: the block's names; vs1: those of the second target -/
def tLc2 (wi : TI) (g : TG) (tt : TT) (wi1 : TI) (g1 : TG) (tt1 : TT) (te : TE) (vs vs1 : List Nat) : TE := fun σ H Q => wi σ H fun J H1 => ∀ D, H1 D = none → ∃ W : Nat → Nat → Hp → Prop, (∃ m, W 0 m (upd H1 D (.lst []))) ∧ ∀ i m H, W i m H →
  (J.stop i H ∧ Q (.ref D) H) ∨ (J.go i H ∧ ∃ Nx : Hp → Prop, (∀ H', Nx H' → ∃ m', m' < m ∧ W (i + 1) m' H') ∧ ∀ x H', J.yld i H x H' → g x (wipe σ vs) H' fun σ2 H2 => wipe σ2 vs = wipe σ vs ∧ tt σ2 H2 fun b H3 =>
    if b = true then wi1 σ2 H3 fun J1 H4 => ∃ W1 : Nat → Nat → Hp → Prop, (∃ m, W1 0 m H4) ∧ ∀ j k H, W1 j k H →
      (J1.stop j H ∧ Nx H) ∨ (J1.go j H ∧ ∃ Nx1 : Hp → Prop, (∀ H', Nx1 H' → ∃ k', k' < k ∧ W1 (j + 1) k' H') ∧ ∀ x H', J1.yld j H x H' → g1 x (wipe σ2 vs1) H' fun σ3 H5 => wipe σ3 vs1 = wipe σ2 vs1 ∧ tt1 σ3 H5 fun b H6 =>
        if b = true then te σ3 H6 fun y H7 => ∃ acc, H7 D = some (.lst acc) ∧ acc.length < sizeLine ∧ Nx1 (upd H7 D (.lst (acc ++ [y]))) else Nx1 H6)
    else Nx H3)
end
end L2

namespace L2
open PySem PySem.Spec PyProof.Rows

/-! ### lists of pairs as tables -/
section
variable {κ : Type} [DecidableEq κ]
def valV (kvs : List (κ × V)) (k : κ) : Option V := (kvs.find? fun kv => decide (kv.1 = k)).map (·.2)
/-- in its place, or at the end -/
def putK (kvs : List (κ × V)) (k : κ) (v : V) : List (κ × V) :=
  if (kvs.any fun kv => decide (kv.1 = k)) = true then kvs.map (fun kv => if kv.1 = k then (kv.1, v) else kv) else kvs ++ [(k, v)]
def dropK (kvs : List (κ × V)) (k : κ) : List (κ × V) := kvs.filter fun kv => decide (kv.1 ≠ k)

theorem valV_pos {p : κ × V} {r : List (κ × V)} {k : κ} (e : p.1 = k) : valV (p :: r) k = some p.2 := by simp [valV, List.find?_cons, e]
theorem valV_neg {p : κ × V} {r : List (κ × V)} {k : κ} (e : ¬ p.1 = k) : valV (p :: r) k = valV r k := by simp [valV, List.find?_cons, e]
theorem valV_any (k : κ) : ∀ kvs : List (κ × V), (kvs.any fun kv => decide (kv.1 = k)) = (valV kvs k).isSome
  | [] => rfl
  | p :: r => by
    rw [List.any_cons]
    by_cases e : p.1 = k
    · simp only [valV_pos e, decide_eq_true e, Bool.true_or, Option.isSome_some]
    · rw [valV_neg e, decide_eq_false e, Bool.false_or]; exact valV_any k r
theorem RelO.isSome_eq {o : Option V} {u : Option Value} (r : RelO o u) : o.isSome = u.isSome := by
  cases o with
  | none => cases u with
    | none => rfl
    | some _ => exact (show False from r).elim
  | some _ => cases u with
    | none => exact (show False from r).elim
    | some _ => rfl
theorem RelO.getD {o : Option V} {u : Option Value} {d : V} {d' : Value} (r : RelO o u) (rd : RelV d d') : RelV (o.getD d) (u.getD d') := by
  cases o with
  | none => cases u with
    | none => exact rd
    | some _ => exact (show False from r).elim
  | some _ => cases u with
    | none => exact (show False from r).elim
    | some _ => exact r

/-- raw tables of the same keys -/
theorem KV.val {kvs : List (κ × V)} {vs : List (κ × Value)} (r : KV kvs vs) (k : κ) : RelO (valV kvs k) (valueAt vs k) := by
  unfold KV at r
  induction r with
  | nil => exact True.intro
  | @cons p q ps qs h t ih =>
    obtain ⟨h1, h2⟩ := h
    by_cases e : p.1 = k
    · have e' : q.1 = k := h1.symm.trans e
      have b : valueAt (q :: qs) k = some q.2 := by simp [valueAt, List.find?_cons, e']
      rw [valV_pos e, b]; exact h2
    · have e' : ¬ q.1 = k := fun z => e (h1.trans z)
      have b : valueAt (q :: qs) k = valueAt qs k := by simp [valueAt, List.find?_cons, e']
      rw [valV_neg e, b]; exact ih
theorem KV.any {kvs : List (κ × V)} {vs : List (κ × Value)} (r : KV kvs vs) (k : κ) : (kvs.any fun kv => decide (kv.1 = k)) = vs.any fun kv => decide (kv.1 = k) := by
  unfold KV at r
  induction r with
  | nil => rfl
  | cons h t ih => rw [List.any_cons, List.any_cons, ih, h.1]
theorem KV.repl {kvs : List (κ × V)} {vs : List (κ × Value)} (r : KV kvs vs) (k : κ) {y : V} {u : Value} (ry : RelV y u) :
    KV (kvs.map fun kv => if kv.1 = k then (kv.1, y) else kv) (vs.map fun kv => if kv.1 = k then (kv.1, u) else kv) := by
  unfold KV at r ⊢
  induction r with
  | nil => exact .nil
  | @cons p q ps qs h t ih =>
    rw [List.map_cons, List.map_cons]
    refine .cons ?_ ih
    obtain ⟨h1, h2⟩ := h
    by_cases e : p.1 = k
    · rw [if_pos e, if_pos (h1.symm.trans e)]; exact ⟨h1, ry⟩
    · rw [if_neg e, if_neg (fun z => e (h1.trans z))]; exact ⟨h1, h2⟩
theorem KV.put {kvs : List (κ × V)} {vs : List (κ × Value)} (r : KV kvs vs) (k : κ) {y : V} {u : Value} (ry : RelV y u) : KV (putK kvs k y) (stored vs k u) := by
  unfold putK stored
  rw [r.any k]
  by_cases e : (vs.any fun kv => decide (kv.1 = k)) = true
  · rw [if_pos e, if_pos e]; exact r.repl k ry
  · rw [if_neg e, if_neg e]; exact Paired.snoc r ⟨rfl, ry⟩
theorem KV.drop {kvs : List (κ × V)} {vs : List (κ × Value)} (r : KV kvs vs) (k : κ) : KV (dropK kvs k) (without vs k) := by
  unfold KV at r ⊢
  unfold dropK without
  induction r with
  | nil => exact .nil
  | @cons p q ps qs h t ih =>
    obtain ⟨h1, h2⟩ := h
    rw [List.filter_cons, List.filter_cons]
    by_cases e : p.1 = k
    · have a : ¬ decide (p.1 ≠ k) = true := by simp [e]
      have b : ¬ decide (q.1 ≠ k) = true := by simp [h1.symm.trans e]
      rw [if_neg a, if_neg b]; exact ih
    · have e' : ¬ q.1 = k := fun z => e (h1.trans z)
      have a : decide (p.1 ≠ k) = true := by simp [e]
      have b : decide (q.1 ≠ k) = true := by simp [e']
      rw [if_pos a, if_pos b]; exact .cons ⟨h1, h2⟩ ih
theorem KV.keys {kvs : List (κ × V)} {vs : List (κ × Value)} (r : KV kvs vs) : kvs.map (·.1) = vs.map (·.1) := by
  unfold KV at r
  induction r with
  | nil => rfl
  | cons h t ih => rw [List.map_cons, List.map_cons, ih, h.1]
theorem KV.length {kvs : List (κ × V)} {vs : List (κ × Value)} (r : KV kvs vs) : kvs.length = vs.length := Paired.length r
end


/-! ### a tracked dict, its keys ints and texts or tuples of these -/
theorem kV_is {P : Program} {w : World} {k : Key} {u : Value} (r : RelV (kV k) u) : (mixKind P w).is k u = true := by
  cases k with
  | inl i => obtain ⟨t, e⟩ := (show ∃ t, u = Value.int i t from r); subst e; exact mixKind_int P w i t
  | inr x => obtain ⟨t, e⟩ := (show ∃ t, u = Value.str x t from r); subst e; exact mixKind_str P w x t
  | no => cases (show u = Value.none from r); rfl
theorem items_are {P : Program} {w : World} : ∀ {ks : List Key} {us : List Value}, Vals (ks.map kV) us → ItemsAre (mixKind P w) ks us
  | [], _, r => by rw [List.map_nil] at r; cases r; exact .nil
  | k :: ks, _, r => by
    rw [List.map_cons] at r
    cases r with
    | cons h t => exact .cons (kV_is h) (items_are t)

/-- raw entries of a dict with tuple keys -/
abbrev KT (H : Hp) : List (List Key × V) → List (List Key × Addr × Value) → Prop := Paired fun p q => p.1 = q.1 ∧ H q.2.1 = some (.tup (p.1.map kV)) ∧ RelV p.2 q.2.2
theorem KT.val {H : Hp} {kvs : List (List Key × V)} {xs : List (List Key × Addr × Value)} (r : KT H kvs xs) (k : List Key) : RelO (valV kvs k) ((atKey xs k).map (·.2)) := by
  induction r with
  | nil => exact True.intro
  | @cons p q ps qs h t ih =>
    obtain ⟨h1, _, h2⟩ := h
    by_cases e : p.1 = k
    · have e' : q.1 = k := h1.symm.trans e
      have b : atKey (q :: qs) k = some q.2 := by simp [atKey, List.find?_cons, e']
      rw [valV_pos e, b]; exact h2
    · have e' : ¬ q.1 = k := fun z => e (h1.trans z)
      have b : atKey (q :: qs) k = atKey qs k := by simp [atKey, List.find?_cons, e']
      rw [valV_neg e, b]; exact ih
theorem KT.repl {H : Hp} {kvs : List (List Key × V)} {xs : List (List Key × Addr × Value)} (r : KT H kvs xs) (k : List Key) {y : V} {u : Value} (ry : RelV y u) :
    KT H (kvs.map fun kv => if kv.1 = k then (kv.1, y) else kv) (xs.map (putAt k u)) := by
  induction r with
  | nil => exact .nil
  | @cons p q ps qs h t ih =>
    rw [List.map_cons, List.map_cons]
    refine .cons ?_ ih
    obtain ⟨h1, h2, h3⟩ := h
    unfold putAt
    by_cases e : p.1 = k
    · rw [if_pos e, if_pos (h1.symm.trans e)]; exact ⟨h1, h2, ry⟩
    · rw [if_neg e, if_neg (fun z => e (h1.trans z))]; exact ⟨h1, h2, h3⟩
theorem KT.put {H : Hp} {kvs : List (List Key × V)} {xs : List (List Key × Addr × Value)} (r : KT H kvs xs) (k : List Key) {b : Addr} {y : V} {u : Value} (hb : H b = some (.tup (k.map kV))) (ry : RelV y u) :
    KT H (putK kvs k y) (storedH xs k b u) := by
  have e : (kvs.any fun kv => decide (kv.1 = k)) = (atKey xs k).isSome := by
    rw [valV_any, (r.val k).isSome_eq, Option.isSome_map]
  unfold putK storedH
  rw [e]
  by_cases q : (atKey xs k).isSome = true
  · rw [if_pos q, if_pos q]; exact r.repl k ry
  · rw [if_neg q, if_neg q]; exact Paired.snoc r ⟨rfl, hb, ry⟩
theorem KT.keeps {H H' : Hp} {kvs : List (List Key × V)} {xs : List (List Key × Addr × Value)} (r : KT H kvs xs) (ht : ∀ b ys, H b = some (.tup ys) → H' b = some (.tup ys)) : KT H' kvs xs :=
  Paired.mapP r fun _ _ z => ⟨z.1, ht _ _ z.2.1, z.2.2⟩

section
variable {P : Program} {w : World} {H : Hp} {h : Heap} {a : Addr}
theorem rd_of {u : HO} (ok : HOk P w H h) (e : Rd H a u) : ObjOk P w H h a u := e.ok ok
/-- a tracked tuple of ints and texts is a key -/
theorem key_of {ks : List Key} (ok : HOk P w H h) (e : H a = some (.tup (ks.map kV))) : (tupleKind (mixKind P w)).is h ks a := by
  obtain ⟨_, its, r, o, h1, h2, n, h3⟩ := (show ObjOk P w H h a (.tup (ks.map kV)) from ok a _ e)
  exact ⟨o, its.toArray, n, h1, h2, h3, by simpa using items_are r⟩
theorem dt_rd {kvs : List (List Key × V)} (ok : HOk P w H h) (e : Rd H a (.dT kvs)) : kvs.length ≤ sizeLine ∧ (a == sysModules) = false ∧
    ∃ xs, KT H kvs xs ∧ h.DictOfH (tupleKind (mixKind P w)) a xs := by
  obtain ⟨z, y, xs, r, o, es, ep, h1, h2, h3, h4, h5⟩ := (show ObjOk P w H h a (.dT kvs) from rd_of ok e)
  refine ⟨z, y, xs, r, o, es, ep, h1, h2, h3, h4, fun x hx => ?_, h5⟩
  have all : ∀ {l : List (List Key × V)} {m : List (List Key × Addr × Value)}, KT H l m → ∀ x ∈ m, (tupleKind (mixKind P w)).is h x.1 x.2.1 := by
    intro l m q
    induction q with
    | nil => intro x hx; exact nomatch hx
    | @cons p q ps qs hq t ih =>
      intro x hx
      rcases List.mem_cons.mp hx with e | hx
      · subst e
        exact key_of ok (by rw [← hq.1]; exact hq.2.1)
      · exact ih x hx
  exact all r x hx
end

/-- what the dict at a holds at the key y -/
def DGet (H : Hp) (a : Addr) (y : V) (r : Option V) : Prop :=
  (∃ kvs k, Rd H a (.dK kvs) ∧ y = kV k ∧ r = valV kvs k) ∨ ∃ kvs k b, Rd H a (.dT kvs) ∧ y = .ref b ∧ H b = some (.tup (k.map kV)) ∧ r = valV kvs k
/-- the heap behind a[y] = v -/
def DPut (H : Hp) (a : Addr) (y v : V) (H' : Hp) : Prop :=
  (∃ kvs k, H a = some (.dK kvs) ∧ y = kV k ∧ kvs.length < sizeLine ∧ H' = upd H a (.dK (putK kvs k v))) ∨
  ∃ kvs k b, H a = some (.dT kvs) ∧ y = .ref b ∧ H b = some (.tup (k.map kV)) ∧ kvs.length < sizeLine ∧ H' = upd H a (.dT (putK kvs k v))
theorem DGet.k {H : Hp} {a : Addr} {kvs : List (Key × V)} {k : Key} (e : H a = some (.dK kvs)) : DGet H a (kV k) (valV kvs k) := .inl ⟨kvs, k, .inl e, rfl, rfl⟩
theorem DGet.t {H : Hp} {a b : Addr} {kvs : List (List Key × V)} {k : List Key} (e : H a = some (.dT kvs)) (eb : H b = some (.tup (k.map kV))) : DGet H a (.ref b) (valV kvs k) := .inr ⟨kvs, k, b, .inl e, rfl, eb, rfl⟩
theorem DPut.k {H : Hp} {a : Addr} {kvs : List (Key × V)} {k : Key} {v : V} (e : H a = some (.dK kvs)) (hl : kvs.length < sizeLine) : DPut H a (kV k) v (upd H a (.dK (putK kvs k v))) := .inl ⟨kvs, k, e, rfl, hl, rfl⟩
theorem DPut.t {H : Hp} {a b : Addr} {kvs : List (List Key × V)} {k : List Key} {v : V} (e : H a = some (.dT kvs)) (eb : H b = some (.tup (k.map kV))) (hl : kvs.length < sizeLine) :
    DPut H a (.ref b) v (upd H a (.dT (putK kvs k v))) := .inr ⟨kvs, k, b, e, rfl, eb, hl, rfl⟩


section
variable {X : Cx} {pins : List (Addr × Obj)} {σ : St} {H : Hp} {s : Shared} {a : Addr} {y v : V} {u r : Value} {o : Option V} {A : Around} {E : Value → Shared → Prop}

end

section
variable {X : Cx} {pins : List (Addr × Obj)} {σ : St} {H : Hp} {s : Shared} {a : Addr} {kvs : List (Key × V)} {k : Key} {u : Value} {A : Around} {E : Value → Shared → Prop}
end


/-! ### readings and rules -/
/-- the element of a subscription, not a slice -/
def NoSl (i : Expr) : Prop := ∀ ov iv, subscripted i false ov iv = operate [ov, iv] (getItem ov iv)
/-- d[y] -/
def tDGet (td ty : TE) : TE := fun σ H Q => td σ H fun x H1 => ty σ H1 fun y H2 => ∃ a v, x = .ref a ∧ DGet H2 a y (some v) ∧ Q v H2
/-- y in d, y not in d -/
def tDIn (ty td : TE) : TE := fun σ H Q => ty σ H fun y H1 => td σ H1 fun x H2 => ∃ a o, x = .ref a ∧ DGet H2 a y o ∧ Q (.bl o.isSome) H2
def tDNotIn (ty td : TE) : TE := fun σ H Q => ty σ H fun y H1 => td σ H1 fun x H2 => ∃ a o, x = .ref a ∧ DGet H2 a y o ∧ Q (.bl (!o.isSome)) H2
/-- d[y] = v -/
def sDPut (td ty tv : TE) : TS := fun D σ H => tv σ H fun v H1 => td σ H1 fun x H2 => ty σ H2 fun y H3 => ∃ a H4, x = .ref a ∧ DPut H3 a y v H4 ∧ D.nx σ H4
/-- d[y] op= v -/
def sDAug (td ty tv : TE) (rd : V → V → Hp → VK → Prop) : TS := fun D σ H => td σ H fun x H1 => ty σ H1 fun y H2 => ∃ a v, x = .ref a ∧ DGet H2 a y (some v) ∧
  tv σ H2 fun y2 H3 => rd v y2 H3 fun z H4 => ∃ H5, DPut H4 a y z H5 ∧ D.nx σ H5
/-- del d[y] -/
def sDDel (td ty : TE) : TS := fun D σ H => td σ H fun x H1 => ty σ H1 fun y H2 => ∃ a kvs k, x = .ref a ∧ H2 a = some (.dK kvs) ∧ y = kV k ∧ (valV kvs k).isSome = true ∧ D.nx σ (upd H2 a (.dK (dropK kvs k)))

section
variable {X : Cx} {o i e value : Expr} {pos pos' tpos : Pos} {td ty tv : TE}
end


/-! ### displays -/
/-- {}, to be a dict of the kind that is wanted -/
def tDNewK : TE := fun _ H Q => ∀ p, H p = none → Q (.ref p) (upd H p (.dK []))
def tDNewT : TE := fun _ H Q => ∀ p, H p = none → Q (.ref p) (upd H p (.dT []))
section
variable {X : Cx} {pos : Pos}
end

/-- the pairs of a display, from the left -/
def tPairs : List (TE × TE) → St → Hp → (List (V × V) → Hp → Prop) → Prop
  | [], _, H, Q => Q [] H
  | (tk, tv) :: r, σ, H, Q => tk σ H fun x H1 => tv σ H1 fun y H2 => tPairs r σ H2 fun ps H3 => Q ((x, y) :: ps) H3
abbrev VV : List (V × V) → List (Value × Value) → Prop := Paired fun p q => RelV p.1 q.1 ∧ RelV p.2 q.2
def PPs (X : Cx) (pos : Pos) (keys : List (Option Expr)) (values : List Expr) (trs : List (TE × TE)) : Prop :=
  ∀ (pins : List (Addr × Obj)) (s : Shared) (σ : St) (H : Hp) (Q : List (V × V) → Hp → Prop), Inv X pins σ H s → tPairs trs σ H Q →
    wpAny (model X.prog X.w) X.A (evalPairs (pairTrees keys values X.env pos)) (fun vs s' => ∃ ps H', Inv X pins σ H' s' ∧ VV ps vs ∧ Q ps H') X.xe s
def mergeK (kvs more : List (Key × V)) : List (Key × V) := more.foldl (fun acc kv => putK acc kv.1 kv.2) kvs
/-- {k: v, ..} with keys ints and texts; the new dict stands empty while the pairs are made -/
def tDisp (trs : List (TE × TE)) : TE := fun σ H Q => ∀ p, H p = none → tPairs trs σ (upd H p (.dK [])) fun ps H2 => H2 p = some (.dK []) ∧ ∃ kvs : List (Key × V), ps = kvs.map (fun kv => (kV kv.1, kv.2)) ∧ kvs.length ≤ 15 ∧ Q (.ref p) (upd H2 p (.dK (mergeK [] kvs)))
/-! ### methods -/
/-- a method call o.m(e) of a built-in, with one argument: what must be seen of the text -/
structure M1 (X : Cx) (o : Expr) (m : Str) (apos : Pos) (e : Expr) (cpos : Pos) : Prop where
  base : attributeBase o m X.env (eval o X.env) = eval o X.env
  few : ((backTo cpos (starEach [e] X.env)).all (fun x => !x.1) && (backToKw cpos (keywordEach [] X.env)).all (fun x => x.1.isSome)
    && decide (([e] : List Expr).length + ([] : List Keyword).length + (if ([] : List Keyword).isEmpty then 0 else 1) < 30)) = true
  line : (apos.endLine == cpos.line) = true
  trees : backTo cpos (starEach [e] X.env) = [(false, eval e X.env)]
structure M2 (X : Cx) (o : Expr) (m : Str) (apos : Pos) (e f : Expr) (cpos : Pos) : Prop where
  base : attributeBase o m X.env (eval o X.env) = eval o X.env
  few : ((backTo cpos (starEach [e, f] X.env)).all (fun x => !x.1) && (backToKw cpos (keywordEach [] X.env)).all (fun x => x.1.isSome)
    && decide (([e, f] : List Expr).length + ([] : List Keyword).length + (if ([] : List Keyword).isEmpty then 0 else 1) < 30)) = true
  line : (apos.endLine == cpos.line) = true
  trees : backTo cpos (starEach [e, f] X.env) = [(false, eval e X.env), (false, eval f X.env)]

/-- a is a dict, whatever its keys -/
def IsD (H : Hp) (a : Addr) : Prop := (∃ kvs, Rd H a (.dK kvs)) ∨ ∃ kvs, Rd H a (.dT kvs)
section
variable {X : Cx} {pins : List (Addr × Obj)} {σ : St} {H : Hp} {s : Shared} {a : Addr} {y d : V} {u r : Value} {o : Option V} {A : Around} {E : Value → Shared → Prop}
end

def tDGet1 (td ty : TE) : TE := fun σ H Q => td σ H fun x H1 => ∃ a, x = .ref a ∧ IsD H1 a ∧ ty σ H1 fun y H2 => ∃ o, DGet H2 a y o ∧ Q (o.getD .non) H2
def tDGet2 (td ty tx : TE) : TE := fun σ H Q => td σ H fun x H1 => ∃ a, x = .ref a ∧ IsD H1 a ∧ ty σ H1 fun y H2 => tx σ H2 fun z H3 => ∃ o, DGet H3 a y o ∧ Q (o.getD z) H3
/-- d.pop(k): there; d.pop(k, x): there or not -/
def tDPop1 (td ty : TE) : TE := fun σ H Q => td σ H fun x H1 => ∃ a, x = .ref a ∧ IsD H1 a ∧ ty σ H1 fun y H2 => ∃ kvs k v, H2 a = some (.dK kvs) ∧ y = kV k ∧ valV kvs k = some v ∧ Q v (upd H2 a (.dK (dropK kvs k)))
def tDPop2 (td ty tx : TE) : TE := fun σ H Q => td σ H fun x H1 => ∃ a, x = .ref a ∧ IsD H1 a ∧ ty σ H1 fun y H2 => tx σ H2 fun z H3 => ∃ kvs k, H3 a = some (.dK kvs) ∧ y = kV k ∧
  (∀ v, valV kvs k = some v → Q v (upd H3 a (.dK (dropK kvs k)))) ∧ (valV kvs k = none → Q z H3)
section
variable {X : Cx} {o e f : Expr} {apos cpos : Pos} {td ty tx : TE}
end

/-! ### dict(d): a copy -/
section
variable {X : Cx} {pins : List (Addr × Obj)} {σ : St} {H : Hp} {s : Shared} {a : Addr} {kvs : List (Key × V)} {A : Around} {E : Value → Shared → Prop}
end


section
variable {X : Cx} {pins : List (Addr × Obj)} {σ : St} {H : Hp} {s : Shared} {a : Addr} {y : V} {u : Value} {A : Around} {E : Value → Shared → Prop}
end
end L2

namespace L2
open PySem PySem.Spec PyProof.Rows

section
variable {prog : Program} {w : World} {A : Around} {E : Value → Shared → Prop}
end

section
variable {X : Cx}
end
end L2

namespace L2
open PySem PySem.Spec PyProof.Rows

section
variable {X : Cx} {pins : List (Addr × Obj)} {σ : St} {H : Hp} {s : Shared} {h' : Heap}
/-- .. and one new object is laid -/
theorem Inv.turnedNew {t' : Nat} {ch : List Addr} {T : Addr} {ob : HO} (I : Inv X pins σ H s) (k : ∀ b o, b ∉ ch → s.heap.get? b = some o → h'.get? b = some o) (hf : ∀ b ∈ ch, FpOk X pins H b) (hT : s.heap.objs.size ≤ T)
    (new : ObjOk X.prog X.w (upd H T ob) h' T ob) : Inv X pins σ (upd H T ob) { s with heap := h', toks := t' } := by
  have hn : H T = none := I.hok.fresh hT
  have nit : ∀ b u, H b = some u → b ∉ ch := fun b u e z => by
    have q := (hf b z).1
    rw [q] at e; cases e
  refine I.step (g' := s.gens) (d' := s.drawn) (ch := ch) (fun b hb => ⟨(hf b hb).2.2.2.1, (hf b hb).2.1, (hf b hb).2.2.2.2.1, (hf b hb).2.2.2.2.2⟩) (fun b o _ _ hc e _ => k b o hc e) (fun b o _ _ hc e _ => ⟨o.slots, k b o hc e⟩)
    (fun b o _ e n => ?_) (fun b o hc e => ⟨o, k b o hc e⟩) (fun b xs e => ?_) (fun b o u e => ?_) (fun b ps e => ⟨#[], ?_⟩) (fun m hm => ?_) (fun b u e => ?_) I.bare
  · rw [upd_ne (Nat.ne_of_lt (Nat.lt_of_lt_of_le (Heap.lt_size e) hT))]; exact n
  · rw [upd_ne (ne_of_none e hn)]; exact e
  · rw [upd_ne (ne_of_none e hn)]; exact e
  · rw [upd_ne (ne_of_none e hn), e]; simp
  · obtain ⟨o, es, ep, ho, r⟩ := hm
    exact ⟨o, es, ep, k _ o (fun z => (hf _ z).2.1 rfl) ho, r⟩
  · by_cases hb : b = T
    · subst hb
      rw [upd_same] at e
      cases e
      exact new
    · rw [upd_ne hb] at e
      refine (I.hok b u e).stay (fun c v hc q => k c v ?_ q) (fun c q => by rw [upd_ne (ne_of_none q hn)]; exact q) (fun c xs q => by rw [upd_ne (ne_of_none q hn)]; exact q) fun c oc y q => by rw [upd_ne (ne_of_none q hn)]; exact q
      rcases hc with z | z
      · rw [z]; exact nit b u e
      · exact nit c _ z

/-! ### locking a thing while a statement runs -/
end
/-- the statement runs while the thing at d is locked (read, not written); d and what stands there are the reading's choice -/
def tLock (t : TS) : TS := fun D σ H => ∃ d u, H d = some u ∧ Mut (some u) ∧ ∀ od, t ⟨fun σ' H' => H' d = some (.frz od u) ∧ D.nx σ' (upd H' d u), fun v H' => H' d = some (.frz od u) ∧ D.rt v (upd H' d u), fun σ' H' => H' d = some (.frz od u) ∧ D.bk σ' (upd H' d u), fun σ' H' => H' d = some (.frz od u) ∧ D.ct σ' (upd H' d u)⟩ σ (upd H d (.frz od u))
def tLockE (t : TE) : TE := fun σ H Q => ∃ d u, H d = some u ∧ Mut (some u) ∧ ∀ od, t σ (upd H d (.frz od u)) fun v H' => H' d = some (.frz od u) ∧ Q v (upd H' d u)
section
variable {X : Cx}
/-! ### one iterator just laid -/
theorem pi_one {tg : Expr} {pins : List (Addr × Obj)} {σ : St} {H : Hp} {s : Shared} {R : It → Hp → Prop} {J : It} {tn : Nat → Heap → Prop} {tk : Nat} (I : Inv X pins σ H s) (o : Obj)
    (T : Turn X.prog X.w X.K tg J [s.heap.objs.size] s.heap.objs.size tn) (st : tn 0 (s.heap.push o)) (q : R J H) : PIE X pins σ tg R (.ref s.heap.objs.size) { s with heap := s.heap.push o, toks := tk } := by
  refine ⟨s.heap.objs.size, [s.heap.objs.size], tn, J, H, rfl, I.kept fun b ob e => Heap.get?_push_of_some _ e, T, st, fun b hb => ?_, q⟩
  have e : b = s.heap.objs.size := by simpa using hb
  subst e
  exact I.fpOk (Nat.le_refl _) (I.hok.fresh (Nat.le_refl _))
end

/-! ### range with a step -/
/-- lo, lo + c, .. (n of them) -/
def Itc (lo c : Int) (n : Nat) : It := ⟨fun i _ => i < n, fun i H x H' => H' = H ∧ x = .int (lo + (i : Nat) * c), fun i _ => n ≤ i⟩
/-- range(i, j, c): small bounds, n items -/
def RgC (i j c : Int) (n : Nat) : Prop := c ≠ 0 ∧ c.natAbs < 1073741824 ∧ Builtin.Range.small i j c = true ∧ Builtin.Range.rangeSize i j c = n
theorem RgC.neg {i j : Int} (ha : -(2 ^ 62) ≤ i) (ha' : i < 2 ^ 62) (hb : -(2 ^ 62) ≤ j) (hb' : j < 2 ^ 62) : RgC i j (-1) (i - j).toNat :=
  ⟨by decide, by decide, PySem.W.small_down ha ha' hb hb', PySem.W.rangeSize_downNat i j⟩
def iRng3 (ta : TA) : TI := fun σ H R => ta σ H fun vs H1 => ∃ (i j c : Int) (n : Nat), vs = [.int i, .int j, .int c] ∧ RgC i j c n ∧ R (Itc i c n) H1
section
variable {X : Cx} {tg : Expr}
end
/-! ### reversed(list) -/
/-- the list at a (n items at the start, which the loop leaves there), from its end -/
def Itv (K : PySem.W.Frag) (a : Addr) (n : Nat) : It :=
  ⟨fun i H => i < n ∧ ∃ (xs : List V) (x : V), SqL K H a xs ∧ xs[n - 1 - i]? = some x, fun i H x H' => H' = H ∧ ∀ xs, SqL K H a xs → xs[n - 1 - i]? = some x, fun i _ => n ≤ i⟩
def iRev (K : PySem.W.Frag) (ta : TA) : TI := fun σ H R => ta σ H fun vs H1 => ∃ (a : Addr) (xs : List V), vs = [.ref a] ∧ SqL K H1 a xs ∧ R (Itv K a xs.length) H1
section
variable {X : Cx} {tg : Expr}
end

/-! ### a str -/
def Its (x : Str) : It := ⟨fun i _ => i < x.cps.size, fun i H v H' => H' = H ∧ ∃ c, x.cps[i]? = some c ∧ v = .str ⟨#[c]⟩, fun i _ => x.cps.size ≤ i⟩
theorem turn_str {P : Program} {w : World} {K : PySem.W.Frag} {tg : Expr} (it : Addr) (x : Str) (t : Tok) (ty : String) (hty : ty = "str_ascii_iterator" ∨ ty = "str_iterator") :
    Turn P w K tg (Its x) [it] it (fun i h => h.IsStrIter it ty x t i) where
  mem := by simp
  obj := fun i h st b hb => by
    have e : b = it := by simpa using hb
    subst e
    obtain ⟨o, e, c, d⟩ := st
    exact ⟨o, e, fun v z => by rw [d] at z; cases z⟩
  keep := fun i h h' st k => let ⟨o, ho, r⟩ := st; ⟨o, k it (by simp) o ho, r⟩
  item := by
    intro X hP hw hK hc i pins s σ H E I hf st hg
    subst hP hw hK
    obtain ⟨f0, f1, f2, f3, f4, f5⟩ := hf it (by simp)
    have W : Walks X.prog X.w X.A it [it] [it] x.cps.size (SignAt x) (fun i h => h.IsStrIter it ty x t i) := by
      rcases hty with e | e
      · rw [e]; exact Walks.strAscii (I.ok.hd hc) it x t
      · rw [e]; exact Walks.strWide (I.ok.hd hc) it x t
    have hno : ["enumerate", "zip", "dict_itemiterator", "dict_reverseitemiterator", "odict_iterator", "itertools.zip_longest", "itertools.pairwise"].contains ty = false := by
      rcases hty with e | e
      · rw [e]; decide
      · rw [e]; decide
    refine W.item i s _ _ hg st fun v h' tk hv st' kk => ?_
    obtain ⟨c, u, hcx, rfl⟩ := hv
    have I1 : Inv X pins σ H { s with heap := h', toks := tk } := I.turned (fun b o hb e => kk b o (by simpa using hb) e) f0 f1 f3 f4 f5
    obtain ⟨oi, e, cc, dd⟩ := id st'
    exact ⟨_, rfl, go_of (s := { s with heap := h', toks := tk }) e cc dd hno ⟨.str ⟨#[c]⟩, H, I1, ⟨u, rfl⟩, ⟨rfl, c, hcx, rfl⟩, st', fun b hb => (hf b hb).1⟩⟩
  done := by
    intro X hP hw hK hc i pins s σ H E I hf st hg
    subst hP hw hK
    obtain ⟨f0, f1, f2, f3, f4, f5⟩ := hf it (by simp)
    have hx : x.cps[i]? = none := Array.getElem?_eq_none hg
    rcases hty with e | e
    · rw [e] at st
      exact wpAny_pyNext_ascii_end (I.ok.hd hc) st hx fun h' eb => ⟨rfl, I.turned (t' := s.toks) (fun b o hb e => eb b o hb e) f0 f1 f3 f4 f5⟩
    · rw [e] at st
      exact wpAny_pyNext_wide_end (I.ok.hd hc) st hx fun h' eb => ⟨rfl, I.turned (t' := s.toks) (fun b o hb e => eb b o hb e) f0 f1 f3 f4 f5⟩
  self := fun A i s Q E st h => by
    rcases hty with e | e
    · rw [e] at st; exact wpAny_pyIter_striter_ascii st h
    · rw [e] at st; exact wpAny_pyIter_striter_wide st h
def iStr (te : TE) : TI := fun σ H R => te σ H fun v H1 => ∃ x, v = .str x ∧ R (Its x) H1
theorem pi_str {X : Cx} {tg e : Expr} {te : TE} (he : PE X e te) : PI X tg e (iStr te) := by
  intro pins s σ H R I h
  refine thn (he pins s σ H _ I h) fun v s1 ⟨y, H1, I1, r1, x, ex, q⟩ => ?_
  subst ex
  obtain ⟨t, rfl⟩ := r1
  cases ha : x.cps.all (· < 128)
  · exact wpAny_pyIter_wide ha (pi_one (tk := s1.toks) I1 _ (turn_str _ x t "str_iterator" (.inr rfl)) ⟨_, Heap.get?_push_size _ rfl, rfl, rfl⟩ q)
  · exact wpAny_pyIter_ascii ha (pi_one (tk := s1.toks) I1 _ (turn_str _ x t "str_ascii_iterator" (.inl rfl)) ⟨_, Heap.get?_push_size _ rfl, rfl, rfl⟩ q)

/-! ### a dict's keys: any dict's entries -/
section
variable {prog : Program} {w : World} {A : Around} {E : Value → Shared → Prop} {s : Shared}
end

/-! ### a locked dict -/
theorem paired_get {α β : Type} {G : α → β → Prop} {l₁ : List α} {l₂ : List β} (h : Paired G l₁ l₂) : ∀ {i : Nat} {a : α}, l₁[i]? = some a → ∃ b, l₂[i]? = some b ∧ G a b := by
  induction h with
  | nil => intro i a e; simp at e
  | @cons a b l₁ l₂ r t ih =>
    intro i a' e
    cases i with
    | zero =>
      simp only [List.getElem?_cons_zero, Option.some.injEq] at e
      subst e
      exact ⟨b, rfl, r⟩
    | succ j =>
      simp only [List.getElem?_cons_succ] at e ⊢
      exact ih e
section
variable {X : Cx} {pins : List (Addr × Obj)} {σ : St} {H : Hp} {s : Shared} {d : Addr} {o : Obj}
end

/-- the keys of the locked dict at d, in their order -/
def Itk (d : Addr) (o : Obj) (kvs : List (Key × V)) : It :=
  ⟨fun i H => H d = some (.frz o (.dK kvs)) ∧ i < kvs.length, fun i H x H' => H' = H ∧ ∃ k v, kvs[i]? = some (k, v) ∧ x = kV k, fun i H => H d = some (.frz o (.dK kvs)) ∧ kvs.length ≤ i⟩
/-- .. of tuple keys: the key's own tuple -/
def Itkt (d : Addr) (o : Obj) (kvs : List (List Key × V)) : It :=
  ⟨fun i H => H d = some (.frz o (.dT kvs)) ∧ i < kvs.length, fun i H x H' => H' = H ∧ ∃ (k : List Key) (v : V) (q : Addr), kvs[i]? = some (k, v) ∧ x = .ref q ∧ H q = some (.tup (k.map kV)), fun i H => H d = some (.frz o (.dT kvs)) ∧ kvs.length ≤ i⟩
/-- the values -/
def Itd (d : Addr) (o : Obj) (kvs : List (Key × V)) : It :=
  ⟨fun i H => H d = some (.frz o (.dK kvs)) ∧ i < kvs.length, fun i H x H' => H' = H ∧ ∃ k, kvs[i]? = some (k, x), fun i H => H d = some (.frz o (.dK kvs)) ∧ kvs.length ≤ i⟩
/-- the pairs, each a new tuple -/
def Iti (d : Addr) (o : Obj) (kvs : List (Key × V)) : It :=
  ⟨fun i H => H d = some (.frz o (.dK kvs)) ∧ i < kvs.length, fun i H x H' => ∃ T k v, kvs[i]? = some (k, v) ∧ x = .ref T ∧ H T = none ∧ H' = upd H T (.tup [kV k, v]), fun i H => H d = some (.frz o (.dK kvs)) ∧ kvs.length ≤ i⟩
section
variable {P : Program} {w : World} {K : PySem.W.Frag} {tg : Expr} {d : Addr} {o : Obj} {es : Array DictEntry} {ep : Nat}
end

/-! ### for k in d, d.keys(), d.values(), d.items() -/
/-- the dict is locked (tLock, or by the caller) -/
def iKeys (td : TE) : TI := fun σ H R => td σ H fun x H1 => ∃ d o, x = .ref d ∧ ((∃ kvs, H1 d = some (.frz o (.dK kvs)) ∧ R (Itk d o kvs) H1) ∨ ∃ kvs, H1 d = some (.frz o (.dT kvs)) ∧ R (Itkt d o kvs) H1)
def iVals (td : TE) : TI := fun σ H R => td σ H fun x H1 => ∃ d o kvs, x = .ref d ∧ H1 d = some (.frz o (.dK kvs)) ∧ R (Itd d o kvs) H1
def iItems (td : TE) : TI := fun σ H R => td σ H fun x H1 => ∃ d o kvs, x = .ref d ∧ H1 d = some (.frz o (.dK kvs)) ∧ R (Iti d o kvs) H1
def iKeysM (td : TE) : TI := fun σ H R => td σ H fun x H1 => ∃ d o kvs, x = .ref d ∧ H1 d = some (.frz o (.dK kvs)) ∧ R (Itk d o kvs) H1
section
variable {X : Cx} {tg e : Expr} {td : TE} {apos cpos : Pos}
end

/-! ### enumerate(list) -/
/-- the list at a as it stands at each turn, each item in a new pair -/
def Ite (K : PySem.W.Frag) (a : Addr) : It :=
  ⟨fun i H => ∃ (xs : List V) (x : V), SqL K H a xs ∧ xs[i]? = some x, fun i H v H' => ∃ T x, v = .ref T ∧ H T = none ∧ H' = upd H T (.tup [.int (i : Nat), x]) ∧ ∀ xs, SqL K H a xs → xs[i]? = some x, fun i H => ∃ xs : List V, SqL K H a xs ∧ xs.length ≤ i⟩
theorem turn_enum {P : Program} {w : World} {K : PySem.W.Frag} {elts : List Expr} {kk : Nat} {tpos : Pos} (a e it : Addr) :
    Turn P w K (.Tuple elts kk tpos) (Ite K a) [e, it] e (fun i h => (∃ old, IsEnum h e it ((i : Nat) : Int) old) ∧ h.IsListIter it a i ∧ e ≠ it) where
  mem := by simp
  obj := fun i h st b hb => by
    obtain ⟨⟨old, he⟩, ⟨o, ho, hc, hd⟩, _⟩ := st
    have e' : b = e ∨ b = it := by simpa using hb
    rcases e' with z | z
    · rw [z]; exact ⟨_, he, fun v q => nomatch q⟩
    · rw [z]; exact ⟨o, ho, fun v q => by rw [hd] at q; cases q⟩
  keep := fun i h h' st k => let ⟨⟨old, he⟩, hi, hne⟩ := st; ⟨⟨old, k e (by simp) _ he⟩, hi.at fun o q => k it (by simp) o q, hne⟩
  item := by
    intro X hP hw hK hc i pins s σ H E I hf st hg
    subst hP hw hK
    obtain ⟨⟨old, he⟩, hit, hne⟩ := st
    obtain ⟨xs, x, hq, hx⟩ := hg
    obtain ⟨its, rv, p, hz⟩ := I.list hq
    obtain ⟨u, hu, ru⟩ := rv.get hx
    have hel : e < s.heap.objs.size := Heap.lt_size he
    have hil : it < s.heap.objs.size := by obtain ⟨_, q, _⟩ := hit; exact Heap.lt_size q
    refine wpAny_pyNext_enum_item he hit p.isList (x := u) (by simpa using hu) hne fun h' ho hit' hT hsz hk => ?_
    refine ⟨_, rfl, wpAny_letOwnedTupleGo_enum (s := { s with heap := h', toks := s.toks + 1 }) ho fun h'' he' sb => ?_⟩
    have hT2 : h''.get? s.heap.objs.size = some { cls := .type "tuple", data := .seq #[.int i s.toks, u] } := (sb.2 _ (Nat.ne_of_gt hel)).trans hT
    have new : ObjOk X.prog X.w (upd H s.heap.objs.size (.tup [.int (i : Nat), x])) h'' s.heap.objs.size (.tup [.int (i : Nat), x]) :=
      ⟨by show 2 ≤ sizeLine; decide, [.int i s.toks, u], .cons ⟨_, rfl⟩ (.cons ru .nil), ⟨_, hT2, rfl, _, rfl⟩⟩
    have I1 : Inv X pins σ (upd H s.heap.objs.size (.tup [.int (i : Nat), x])) { s with heap := h'', toks := s.toks + 1 } :=
      I.turnedNew (ch := [e, it]) (fun b ob hb q => (sb.2 b (fun z => hb (by simp [z]))).trans (hk b ob (fun z => hb (by simp [z])) (fun z => hb (by simp [z])) q)) hf (Nat.le_refl _) new
    refine ⟨.ref s.heap.objs.size, _, I1, rfl, ⟨_, x, rfl, I.hok.fresh (Nat.le_refl _), rfl, fun ys hy => by rw [I.list_inj hy hq]; exact hx⟩, ⟨⟨u, ?_⟩, hit'.at fun o q => (sb.2 it (Ne.symm hne)).trans q, hne⟩, fun b hb => ?_⟩
    · have e1 : ((i + 1 : Nat) : Int) = (i : Int) + 1 := by omega
      rw [e1]; exact he'
    · have hb' : b < s.heap.objs.size := by
        have e' : b = e ∨ b = it := by simpa using hb
        rcases e' with z | z
        · rw [z]; exact hel
        · rw [z]; exact hil
      rw [upd_ne (Nat.ne_of_lt hb')]
      exact (hf b hb).1
  done := by
    intro X hP hw hK hc i pins s σ H E I hf st hg
    subst hP hw hK
    obtain ⟨⟨old, he⟩, hit, hne⟩ := st
    obtain ⟨xs, hq, hx⟩ := hg
    obtain ⟨its, rv, p, hz⟩ := I.list hq
    obtain ⟨f0, f1, f2, f3, f4, f5⟩ := hf it (by simp)
    have hl := rv.length
    exact wpAny_pyNext_enum_end (I.ok.hd hc) he hit p.isList (by simp; omega) fun h' eb => ⟨rfl, I.turned (t' := s.toks) (fun b o hb q => eb b o hb q) f0 f1 f3 f4 f5⟩
  self := fun A i s Q E st h => let ⟨⟨_, he⟩, _⟩ := st; wpAny_pyIter_enum he h
def iEnum (K : PySem.W.Frag) (ta : TA) : TI := fun σ H R => ta σ H fun vs H1 => ∃ a xs, vs = [.ref a] ∧ SqL K H1 a xs ∧ R (Ite K a) H1
theorem pi_enum {X : Cx} {e : Expr} {ta : TA} {p pos tpos : Pos} {elts : List Expr} {kk : Nat} (hg : Gl X "enumerate") (hm : X.mg "enumerate" = none) (ha : PA X [e] ta) (hs : starEach [e] X.env = [(false, eval e X.env)] := by rfl) :
    PI X (.Tuple elts kk tpos) (.Call (.Name "enumerate" p) [e] [] pos) (iEnum X.K ta) := by
  intro pins s σ H R I h
  refine Call_ (ld_blt I hg hm boot_enumerate (PyProof.Rows.callWith_type1 (thn (ha pos pins s σ H _ I h) fun us s1 ⟨vs, H1, I1, r1, q1⟩ => ?_) hs rfl))
  obtain ⟨a, xs, ex, hq, q⟩ := q1
  subst ex
  cases r1 with
  | cons r rr =>
    cases rr
    cases r
    obtain ⟨its, rv, p', hz⟩ := I1.list hq
    refine call_enumerate_list p'.isList fun h' he hit hsz hk => wpAny_pyIter_enum he ?_
    have I2 : Inv X pins σ H1 { s1 with heap := h' } := I1.kept (t' := s1.toks) hk
    refine ⟨s1.heap.objs.size + 1, [s1.heap.objs.size + 1, s1.heap.objs.size], _, _, H1, rfl, I2, turn_enum a (s1.heap.objs.size + 1) s1.heap.objs.size, ⟨⟨.none, he⟩, hit, Nat.succ_ne_self _⟩, fun b hb => ?_, q⟩
    have e' : b = s1.heap.objs.size + 1 ∨ b = s1.heap.objs.size := by simpa using hb
    have hle : s1.heap.objs.size ≤ b := by
      rcases e' with z | z
      · rw [z]; exact Nat.le_add_right _ _
      · rw [z]; exact Nat.le_refl _
    exact I1.fpOk hle (I1.hok.fresh hle)
/-! ### zip(list, list) -/
/-- the lists at a and b as they stand at each turn, the items in new pairs -/
def Itz (K : PySem.W.Frag) (a b : Addr) : It :=
  ⟨fun i H => ∃ (xs ys : List V) (x y : V), SqL K H a xs ∧ SqL K H b ys ∧ xs[i]? = some x ∧ ys[i]? = some y,
    fun i H v H' => ∃ T x y, v = .ref T ∧ H T = none ∧ H' = upd H T (.tup [x, y]) ∧ (∀ xs, SqL K H a xs → xs[i]? = some x) ∧ ∀ ys, SqL K H b ys → ys[i]? = some y,
    fun i H => ∃ xs ys : List V, SqL K H a xs ∧ SqL K H b ys ∧ (xs.length ≤ i ∨ ys.length ≤ i)⟩
def iZip (K : PySem.W.Frag) (ta : TA) : TI := fun σ H R => ta σ H fun vs H1 => ∃ a b xs ys, vs = [.ref a, .ref b] ∧ SqL K H1 a xs ∧ SqL K H1 b ys ∧ R (Itz K a b) H1
end L2

section 
namespace Bits
open PySem PyProof.Rows

end Bits
end 

section 
namespace TL
open PySem PySem.Builtin PySem.Builtin.Str PySem.StrLaws

abbrev tl (x : Str) : List Nat := x.cps.toList
theorem len_tl (x : Str) : x.length = (tl x).length := by simp [tl, Str.length]
theorem ext_tl {x y : Str} (h : tl x = tl y) : x = y := Str.ext' (Array.toList_inj.mp h)
theorem tl_append (x y : Str) : tl (x ++ y) = tl x ++ tl y := by
  show (x ++ y).cps.toList = _
  rw [Str.cps_append, Array.toList_append]
theorem mk_tl (x : Str) : (⟨(tl x).toArray⟩ : Str) = x := ext_tl rfl
theorem map_tl_inj : ∀ {l m : List Str}, l.map tl = m.map tl → l = m
  | [], [], _ => rfl
  | [], _ :: _, h => by simp at h
  | _ :: _, [], h => by simp at h
  | x :: l, y :: m, h => by
    rw [List.map_cons, List.map_cons] at h
    injection h with h1 h2
    rw [ext_tl h1, map_tl_inj h2]
/-! ### the list functions -/
/-- S stands at the head of l -/
def pre (S l : List Nat) : Bool := l.take S.length == S
/-- l cut at each S from the left; k signs are still to be passed over -/
def spl (S : List Nat) : Nat → List Nat → List Nat → List (List Nat)
  | _, acc, [] => [acc]
  | 0, acc, c :: r => if pre S (c :: r) = true then acc :: spl S (S.length - 1) [] r else spl S 0 (acc ++ [c]) r
  | k + 1, acc, _ :: r => spl S k acc r
/-- what stands before the first S, and behind it -/
def par (S : List Nat) : List Nat → List Nat → Option (List Nat × List Nat)
  | _, [] => none
  | acc, c :: r => if pre S (c :: r) = true then some (acc, (c :: r).drop S.length) else par S (acc ++ [c]) r

theorem spl_nil (S : List Nat) (k : Nat) (acc : List Nat) : spl S k acc [] = [acc] := by cases k <;> rfl
theorem spl_hit {S acc r : List Nat} {c : Nat} (h : pre S (c :: r) = true) : spl S 0 acc (c :: r) = acc :: spl S (S.length - 1) [] r := by
  show (if pre S (c :: r) = true then acc :: spl S (S.length - 1) [] r else spl S 0 (acc ++ [c]) r) = _
  rw [if_pos h]
theorem spl_miss {S acc r : List Nat} {c : Nat} (h : pre S (c :: r) = false) : spl S 0 acc (c :: r) = spl S 0 (acc ++ [c]) r := by
  show (if pre S (c :: r) = true then acc :: spl S (S.length - 1) [] r else spl S 0 (acc ++ [c]) r) = _
  rw [if_neg (by rw [h]; exact Bool.false_ne_true)]
theorem spl_pass (S : List Nat) : ∀ (k : Nat) (acc l : List Nat), spl S k acc l = spl S 0 acc (l.drop k)
  | 0, _, _ => by rw [List.drop_zero]
  | k + 1, acc, [] => by rw [List.drop_nil, spl_nil, spl_nil]
  | k + 1, acc, c :: r => by
    show spl S k acc r = spl S 0 acc (r.drop k)
    exact spl_pass S k acc r
theorem pre_nil {S : List Nat} (hS : S ≠ []) : pre S [] = false := by
  cases S with
  | nil => exact absurd rfl hS
  | cons s S => rfl
theorem pre_of_head {s c : Nat} (S r : List Nat) (h : c ≠ s) : pre (s :: S) (c :: r) = false := by
  cases hp : pre (s :: S) (c :: r) with
  | false => rfl
  | true =>
    have e : (c :: r).take (s :: S).length = s :: S := eq_of_beq hp
    rw [List.length_cons, List.take_succ_cons] at e
    injection e with e1 e2
    exact absurd e1 h
theorem pre_self (S r : List Nat) : pre S (S ++ r) = true := by
  show ((S ++ r).take S.length == S) = true
  have e : (S ++ r).take S.length = S := List.take_left
  rw [e] <;> exact beq_self_eq_true S

theorem getElem_drop_cons {L : List Nat} {a : Nat} (h : a < L.length) : ∃ c, L.drop a = c :: L.drop (a + 1) := ⟨L[a], List.drop_eq_getElem_cons h⟩
theorem spl_run (S L : List Nat) : ∀ (m a : Nat) (acc : List Nat), a + m ≤ L.length → (∀ k, a ≤ k → k < a + m → pre S (L.drop k) = false) →
    spl S 0 acc (L.drop a) = spl S 0 (acc ++ (L.drop a).take m) (L.drop (a + m))
  | 0, a, acc, _, _ => by rw [List.take_zero, List.append_nil, Nat.add_zero]
  | m + 1, a, acc, h, hn => by
    have hlt : a < L.length := by omega
    obtain ⟨c, e⟩ := getElem_drop_cons hlt
    have h0 := hn a (Nat.le_refl _) (by omega)
    have ih := spl_run S L m (a + 1) (acc ++ [c]) (by omega) (fun k h1 h2 => hn k (by omega) (by omega))
    have e2 : a + 1 + m = a + (m + 1) := by omega
    rw [e2] at ih
    rw [e] at h0
    rw [e, spl_miss h0, ih, List.take_succ_cons, List.append_assoc] <;> rfl
theorem drop_two (L : List Nat) (a b : Nat) : (L.drop a).drop b = L.drop (a + b) := by
  first
    | rw [List.drop_drop]
    | rw [List.drop_drop, Nat.add_comm]
theorem spl_at {S L : List Nat} (hS : S ≠ []) {c : Nat} {acc : List Nat} (h : pre S (L.drop c) = true) : spl S 0 acc (L.drop c) = acc :: spl S 0 [] (L.drop (c + S.length)) := by
  rw [← drop_two]
  cases e : L.drop c with
  | nil => rw [e, pre_nil hS] at h; cases h
  | cons d r =>
    rw [e] at h
    rw [spl_hit h, spl_pass]
    cases S with
    | nil => exact absurd rfl hS
    | cons s S => rfl
/-! ### the model's split and partition are these -/
theorem at_iff {x y : Str} (hy : tl y ≠ []) (i : Nat) : At x y x.length i ↔ pre (tl y) ((tl x).drop i) = true := by
  have hx := len_tl x
  have hl := len_tl y
  constructor
  · intro h
    have h2 := h.2
    rw [subAt_eq, hl] at h2
    exact h2
  · intro h
    have e : ((tl x).drop i).take (tl y).length = tl y := eq_of_beq h
    have e1 := congrArg List.length e
    rw [List.length_take, List.length_drop] at e1
    have e2 : 0 < (tl y).length := List.length_pos_iff.mpr hy
    refine ⟨by omega, ?_⟩
    rw [subAt_eq, hl]
    exact h
theorem no_at {x y : Str} (hy : tl y ≠ []) {i : Nat} (h : ¬ At x y x.length i) : pre (tl y) ((tl x).drop i) = false := by
  cases hp : pre (tl y) ((tl x).drop i) with
  | false => rfl
  | true => exact absurd ((at_iff hy i).mpr hp) h
theorem len1 {y : Str} (hy : tl y ≠ []) : 1 ≤ y.length := by
  have e2 : 0 < (tl y).length := List.length_pos_iff.mpr hy
  rw [len_tl y]
  exact e2
theorem tl_strSub (x : Str) (i j : Nat) : tl (strSub x i j) = ((tl x).drop i).take (j - i) := strSub_toList x i j
theorem tl_strSub_end (x : Str) (i : Nat) : tl (strSub x i x.length) = (tl x).drop i := by
  rw [tl_strSub, len_tl x]
  exact List.take_of_length_le (by rw [List.length_drop] <;> omega)

theorem parts_spl {x y : Str} (hy : tl y ≠ []) : ∀ (cuts : List Nat) (a f : Nat), a ≤ (tl x).length → ChainG x y x.length a cuts f → (∀ k, f ≤ k → ¬ At x y x.length k) →
    (partsFrom x y.length a cuts).map tl = spl (tl y) 0 [] ((tl x).drop a)
  | [], a, f, ha, h, hn => by
    have e : f = a := h
    subst e
    show [tl (strSub x f x.length)] = _
    have run := spl_run (tl y) (tl x) ((tl x).length - f) f [] (by omega) (fun k h1 _ => no_at hy (hn k h1))
    have e2 : f + ((tl x).length - f) = (tl x).length := by omega
    rw [e2, List.drop_length, spl_nil, List.nil_append, List.take_of_length_le (by rw [List.length_drop] <;> omega)] at run
    rw [run, tl_strSub_end]
  | c :: r, a, f, ha, h, hn => by
    obtain ⟨h1, h2, h3, h4⟩ := h
    have hc : c + y.length ≤ x.length := h2.1
    have hx := len_tl x
    have hl := len_tl y
    have ih := parts_spl hy r (c + y.length) f (by omega) h4 hn
    show tl (strSub x a c) :: (partsFrom x y.length (c + y.length) r).map tl = _
    have run := spl_run (tl y) (tl x) (c - a) a [] (by omega) (fun k k1 k2 => no_at hy (h3 k k1 (by omega)))
    have e2 : a + (c - a) = c := by omega
    rw [e2, List.nil_append, spl_at hy ((at_iff hy c).mp h2)] at run
    rw [run, ih, tl_strSub, hl]

/-- hk: by kind_ok where the separator is plain -/
theorem split_spl (x y : Str) (hy : tl y ≠ []) (hk : ¬ Builtin.Str.strKind x < Builtin.Str.strKind y) : (Txt.split x y).map tl = spl (tl y) 0 [] (tl x) := by
  obtain ⟨f, g, hn⟩ := occ_tight x y (len1 hy)
  have key := parts_spl hy _ 0 f (Nat.zero_le _) g hn
  rw [List.drop_zero] at key
  have none_case : occurrences x y 0 x.length (x.length + 1) = [] → [x].map tl = spl (tl y) 0 [] (tl x) := fun ho => by
    rw [ho] at key
    rw [← key]
    show [tl x] = [tl (strSub x 0 x.length)]
    rw [sub_whole]
  unfold Txt.split
  by_cases h1 : (decide (x.length < y.length) || decide (Builtin.Str.strKind x < Builtin.Str.strKind y)) = true
  · rw [if_pos h1]
    have hlt : x.length < y.length := by
      simp only [Bool.or_eq_true, decide_eq_true_eq] at h1
      rcases h1 with h | h
      · exact h
      · exact absurd h hk
    refine none_case ?_
    cases ho : occurrences x y 0 x.length (x.length + 1) with
    | nil => rfl
    | cons c r =>
      rw [ho] at g
      have hc : c + y.length ≤ x.length := g.2.1.1
      omega
  · rw [if_neg h1]
    by_cases h2 : (occurrences x y 0 x.length (x.length + 1)).isEmpty = true
    · rw [if_pos h2]
      exact none_case (List.isEmpty_iff.mp h2)
    · rw [if_neg h2, partsBetween_eq]
      exact key
theorem kind_ok {x y : Str} (h : y.cps.all (· < 256) = true) : ¬ Builtin.Str.strKind x < Builtin.Str.strKind y := by
  have e : Builtin.Str.strKind y = 1 := by unfold PySem.Builtin.Str.strKind; rw [if_pos h]
  rw [e]
  unfold PySem.Builtin.Str.strKind
  split
  · omega
  · split <;> omega

/-! ### computing spl and par -/
/-- a part that the separator does not begin in, then the separator -/
theorem spl_part {S p rest acc : List Nat} (hS : S ≠ []) (h : ∀ i, i < p.length → pre S ((p ++ (S ++ rest)).drop i) = false) :
    spl S 0 acc (p ++ (S ++ rest)) = (acc ++ p) :: spl S 0 [] rest := by
  have run := spl_run S (p ++ (S ++ rest)) p.length 0 acc (by rw [List.length_append]; omega) (fun k _ k2 => h k (by omega))
  have ed : (p ++ (S ++ rest)).drop p.length = S ++ rest := List.drop_left
  rw [List.drop_zero, Nat.zero_add, List.take_left] at run
  rw [run, spl_at hS (by rw [ed]; exact pre_self S rest), ← drop_two, ed, List.drop_left]
theorem spl_last {S p acc : List Nat} (h : ∀ i, i < p.length → pre S (p.drop i) = false) : spl S 0 acc p = [acc ++ p] := by
  have run := spl_run S p p.length 0 acc (by omega) (fun k _ k2 => h k (by omega))
  rw [List.drop_zero, Nat.zero_add, List.drop_length, spl_nil, List.take_length] at run
  exact run
/-- the separator's first sign is not in the part -/
theorem free_of {s : Nat} {S p q : List Nat} (h : s ∉ p) : ∀ i, i < p.length → pre (s :: S) ((p ++ q).drop i) = false := fun i hi => by
  have hlt : i < (p ++ q).length := by rw [List.length_append]; omega
  have e : (p ++ q).drop i = (p ++ q)[i] :: (p ++ q).drop (i + 1) := List.drop_eq_getElem_cons hlt
  rw [e]
  refine pre_of_head _ _ fun z => h ?_
  have e1 : (p ++ q)[i] = p[i] := List.getElem_append_left hi
  rw [← z, e1]
  exact List.getElem_mem hi
theorem spl_part1 {s : Nat} {S p rest acc : List Nat} (h : s ∉ p) : spl (s :: S) 0 acc (p ++ (s :: S ++ rest)) = (acc ++ p) :: spl (s :: S) 0 [] rest :=
  spl_part (by simp) (free_of h)
theorem spl_last1 {s : Nat} {S p acc : List Nat} (h : s ∉ p) : spl (s :: S) 0 acc p = [acc ++ p] := spl_last fun i hi => by
  have z := free_of (S := S) (q := []) h i hi
  rw [List.append_nil] at z
  exact z
/-- joined lists -/
def joinL (S : List Nat) : List (List Nat) → List Nat
  | [] => []
  | [p] => p
  | p :: q :: r => p ++ (S ++ joinL S (q :: r))
theorem tl_join (y : Str) : ∀ parts : List Str, tl (Str.join y parts) = joinL (tl y) (parts.map tl)
  | [] => rfl
  | [_] => rfl
  | x :: z :: r => by
    show tl (x ++ y ++ Str.join y (z :: r)) = tl x ++ (tl y ++ joinL (tl y) ((z :: r).map tl))
    rw [tl_append, tl_append, tl_join y (z :: r), List.append_assoc]
theorem spl_join {s : Nat} {S : List Nat} : ∀ {parts : List (List Nat)}, parts ≠ [] → (∀ p ∈ parts, s ∉ p) → spl (s :: S) 0 [] (joinL (s :: S) parts) = parts
  | [], h, _ => absurd rfl h
  | [p], _, hp => by
    show spl (s :: S) 0 [] p = [p]
    rw [spl_last1 (hp p (List.mem_singleton.mpr rfl)), List.nil_append]
  | p :: q :: r, _, hp => by
    show spl (s :: S) 0 [] (p ++ (s :: S ++ joinL (s :: S) (q :: r))) = p :: q :: r
    rw [spl_part1 (hp p (List.mem_cons_self ..)), List.nil_append, spl_join (by simp) fun z hz => hp z (List.mem_cons_of_mem _ hz)]
theorem join_eq (y : Str) (parts : List Str) : Txt.join y parts = Str.join y parts := glued_eq_join y parts
/-- THE READ-BACK: a joined text, split -/
theorem split_join {y : Str} {s : Nat} {S : List Nat} (ey : tl y = s :: S) (hk : y.cps.all (· < 256) = true) {parts : List Str} (hne : parts ≠ []) (hp : ∀ p ∈ parts, s ∉ tl p) :
    Txt.split (Txt.join y parts) y = parts := by
  refine map_tl_inj ?_
  rw [split_spl _ y (by rw [ey]; simp) (kind_ok hk), join_eq, tl_join, ey]
  refine spl_join (fun e => hne (List.map_eq_nil_iff.mp e)) fun p h => ?_
  obtain ⟨z, hz, rfl⟩ := List.mem_map.mp h
  exact hp z hz
/-! ### digits -/
/-- the signs of a number -/
def numL (n : Nat) : List Nat := (Nat.toDigits 10 n).map Char.toNat
/-! ### words: x.split() -/
def wstep (st : List (List Nat) × List Nat) (c : Nat) : List (List Nat) × List Nat :=
  if Unicode.isSpace c = true then (if st.2 = [] then st else (st.1 ++ [st.2], [])) else (st.1, st.2 ++ [c])
def wfin (st : List (List Nat) × List Nat) : List (List Nat) := if st.2 = [] then st.1 else st.1 ++ [st.2]
end TL
end 

namespace L2
open PySem PySem.Spec PyProof.Rows

/-- a list of texts, of numbered texts -/
theorem vals_strs : ∀ l : List (Str × Tok), Vals ((l.map (·.1)).map V.str) (strValues l)
  | [] => .nil
  | p :: r => .cons ⟨p.2, rfl⟩ (vals_strs r)
theorem strs_of_vals : ∀ {ys : List Str} {us : List Value}, Vals (ys.map V.str) us → StrsAre us ys
  | [], _, .nil => .nil
  | y :: ys, _, .cons r t => by
    obtain ⟨k, rfl⟩ := r
    exact .cons y k (strs_of_vals t)

/-- a new list of texts, tracked -/
def rNewStrs (ys : List Str) : Hp → VK → Prop := fun H Q => ∀ p, H p = none → Q (.ref p) (upd H p (.lst (ys.map V.str)))

section
variable {X : Cx} {pins : List (Addr × Obj)} {σ : St} {H : Hp} {s : Shared} {Q : VK}
theorem laid_strs {l : List (Str × Tok)} {ys : List Str} {k : Nat} (I : Inv X pins σ H s) (e : l.map (·.1) = ys) (hz : ys.length ≤ sizeLine) (h : rNewStrs ys H Q) :
    EP X pins σ Q (.ref s.heap.objs.size) { s with toks := k, heap := s.heap.push { cls := .type "list", data := .seq (strValues l).toArray } } := by
  have hp := I.hok.fresh (Nat.le_refl _)
  refine ⟨.ref s.heap.objs.size, upd H s.heap.objs.size (.lst (ys.map V.str)), I.laid (fun b u q => Heap.get?_push_of_some _ q) (Nat.le_refl _) ⟨by rw [List.length_map]; exact hz, strValues l, _, ?_, Heap.get?_push_size _ rfl⟩, rfl, h _ hp⟩
  rw [← e]
  exact vals_strs l
end

section
variable {X : Cx}

/-- x.split(sep) -/
theorem mt_split : MtR X "str.split" (fun x xs H Q => ∃ a b, x = .str a ∧ xs = [.str b] ∧ (b.length == 0) = false ∧ a.length + 2 ≤ sizeLine ∧ rNewStrs (Txt.split a b) H Q) := by
  intro pins s σ H x xs v us Q I rx rs h
  obtain ⟨a, b, rfl, rfl, hb, hz, h⟩ := h
  obtain ⟨t, rfl⟩ := rx
  cases rs with
  | cons r1 rs =>
    cases rs
    obtain ⟨u, rfl⟩ := r1
    have hl : (Txt.split a b).length ≤ sizeLine := Nat.le_trans (PyProof.Rows.split_le a b) hz
    have hn : (Builtin.Str.partsBetween a (Builtin.Str.occurrences a b 0 a.length (a.length + 1)) b.length).length ≤ sizeLine := by
      have e1 := StrLaws.occ_length_le a b 0 a.length (a.length + 1)
      rw [length_partsBetween]; omega
    cases h1 : (decide (a.length < b.length) || decide (Builtin.Str.strKind a < Builtin.Str.strKind b))
    · cases hf : (Builtin.Str.occurrences a b 0 a.length (a.length + 1)).isEmpty
      · refine call_meets F.slot_str_split (typeIs_str _ _ _) F.entry_str_split (F.args_str_split_2 _ _) (meets_str_split_sep a b t u h1 hb hf (by omega) hn) ?_
        show EP X pins σ Q (.ref s.heap.objs.size) { s with toks := _, heap := s.heap.push { cls := .type "list", data := .seq (strsFrom s.toks (Builtin.Str.partsBetween a (Builtin.Str.occurrences a b 0 a.length (a.length + 1)) b.length)).toArray } }
        rw [strsFrom_eq]
        exact laid_strs (ys := Txt.split a b) I ((numbered_texts _ _).trans ((if_neg (ne_true_of_eq_false h1)).trans (if_neg (ne_true_of_eq_false hf))).symm) hl h
      · refine call_meets F.slot_str_split (typeIs_str _ _ _) F.entry_str_split (F.args_str_split_2 _ _) (meets_str_split_not_found a b t u h1 hb hf) ?_
        exact laid_strs (l := [(a, t)]) (ys := Txt.split a b) (k := s.toks) I ((if_neg (ne_true_of_eq_false h1)).trans (if_pos hf)).symm hl h
    · refine call_meets F.slot_str_split (typeIs_str _ _ _) F.entry_str_split (F.args_str_split_2 _ _) (meets_str_split_cannot_occur a b t u h1) ?_
      exact laid_strs (l := [(a, t)]) (ys := Txt.split a b) (k := s.toks) I (if_pos h1).symm hl h

/-- sep.join(a list | a tuple of texts) -/
theorem mt_join : MtR X "str.join" (fun x xs H Q => ∃ a p, ∃ ys : List Str, x = .str a ∧ xs = [.ref p] ∧ (SqL X.K H p (ys.map V.str) ∨ SqT X.K H p (ys.map V.str)) ∧
    (ys.map (·.length)).sum + ys.length * a.length ≤ 16777216 ∧ Q (.str (Txt.join a ys)) H) := by
  intro pins s σ H x xs v us Q I rx rs h
  obtain ⟨a, p, ys, rfl, rfl, hp, hz, h⟩ := h
  obtain ⟨t, rfl⟩ := rx
  cases rs with
  | cons r1 rs =>
    cases rs
    cases r1
    rcases hp with hp | hp
    · obtain ⟨its, r, ⟨o, n, ho, hc, _, hd⟩, _⟩ := I.list hp
      exact PyProof.Rows.join_list (items := its.toArray) ⟨o, ho, hc, n, hd⟩ (by rw [List.toList_toArray]; exact strs_of_vals r) hz fun t' k => ⟨.str _, H, I.tok k, ⟨t', rfl⟩, h⟩
    · obtain ⟨its, r, ht, _⟩ := I.tuple hp
      exact PyProof.Rows.join_tuple (items := its.toArray) ht (by rw [List.toList_toArray]; exact strs_of_vals r) hz fun t' k => ⟨.str _, H, I.tok k, ⟨t', rfl⟩, h⟩

/-! ### of a text alone -/
/-! ### of a text and a text -/
/-- int(text) -/
theorem call_int_str : CallR X (.type "int") (fun xs H Q => ∃ a n, xs = [.str a] ∧ PySem.intText? a = some n ∧ a.length ≤ 640 ∧ Q (.int n) H) := by
  intro pins s σ H xs us Q I rs h
  obtain ⟨a, n, rfl, hn, hl, h⟩ := h
  cases rs with
  | cons r1 rs =>
    cases rs
    obtain ⟨t, rfl⟩ := r1
    exact PySem.W.KIN.call_text hn hl ⟨.int n, H, I.tok _, ⟨_, rfl⟩, h⟩
end

section
variable {X : Cx} {o e : Expr} {to te : TE}
def tM0 (r : V → List V → Hp → VK → Prop) (to : TE) : TE := fun σ H Q => to σ H fun x H1 => (∃ a, x = .str a) ∧ r x [] H1 Q
def tM1 (r : V → List V → Hp → VK → Prop) (to te : TE) : TE := fun σ H Q => to σ H fun x H1 => (∃ a, x = .str a) ∧ te σ H1 fun y H2 => r x [y] H2 Q
theorem pe_m1 {id : String} {name : Str} {apos pos : Pos} {r : V → List V → Hp → VK → Prop} (slot : Slot "str" name id) (ty : typeOf (.builtin id) = pure (.type "method_descriptor")) (rule : MtR X id r) (ho : PE X o to) (he : PE X e te)
    (hs : starEach [e] X.env = [(false, eval e X.env)] := by rfl) (hbase : attributeBase o name X.env (eval o X.env) = eval o X.env := by rfl) (hline : (apos.endLine == pos.line) = true := by rfl) :
    PE X (.Call (.Attribute o name apos) [e] [] pos) (tM1 r to te) := by
  intro pins s σ H Q I h
  refine PySem.Call_method1 hbase hs hline (thn (ho pins s σ H _ I h) fun v s1 ⟨x, H1, I1, r1, q1⟩ => ?_)
  obtain ⟨⟨a, rfl⟩, q1⟩ := q1
  obtain ⟨t, rfl⟩ := _root_.id r1
  refine ⟨"str", _, F.plainAttrs_str, slot, ty, typeIs_str _ _ _, (fun _ e => nomatch e), Calls.callWith_builtin rfl (Calls.evalArgs_plain (Calls.spliced_cons ?_))⟩
  exact thn (he pins s1 σ H1 _ I1 q1) fun u s2 ⟨y, H2, I2, r2, q2⟩ => Calls.spliced_nil (rule pins s2 σ H2 _ [y] _ [u] Q I2 r1 (.cons r2 .nil) q2)

theorem pe_split {apos pos : Pos} (ho : PE X o to) (he : PE X e te) (hs : starEach [e] X.env = [(false, eval e X.env)] := by rfl) (hbase : attributeBase o "split" X.env (eval o X.env) = eval o X.env := by rfl) (hline : (apos.endLine == pos.line) = true := by rfl) :
    PE X (.Call (.Attribute o "split" apos) [e] [] pos) (tM1 (fun x xs H Q => ∃ a b, x = .str a ∧ xs = [.str b] ∧ (b.length == 0) = false ∧ a.length + 2 ≤ sizeLine ∧ rNewStrs (Txt.split a b) H Q) to te) :=
  pe_m1 F.slot_str_split F.type_str_split mt_split ho he hs hbase hline
theorem pe_join {apos pos : Pos} (ho : PE X o to) (he : PE X e te) (hs : starEach [e] X.env = [(false, eval e X.env)] := by rfl) (hbase : attributeBase o "join" X.env (eval o X.env) = eval o X.env := by rfl) (hline : (apos.endLine == pos.line) = true := by rfl) :
    PE X (.Call (.Attribute o "join" apos) [e] [] pos) (tM1 (fun x xs H Q => ∃ a p, ∃ ys : List Str, x = .str a ∧ xs = [.ref p] ∧ (SqL X.K H p (ys.map V.str) ∨ SqT X.K H p (ys.map V.str)) ∧
      (ys.map (·.length)).sum + ys.length * a.length ≤ 16777216 ∧ Q (.str (Txt.join a ys)) H) to te) :=
  pe_m1 F.slot_str_join F.type_str_join mt_join ho he hs hbase hline
end
end L2

namespace L2
open PySem PySem.Spec PyProof.Rows

section
variable {X : Cx}
/-- one sign in a text -/
theorem op_in_sign : OpR X (compareOp .In) (fun x y H Q => ∃ (c : Nat) (z : Str), x = .str ⟨#[c]⟩ ∧ y = .str z ∧ Q (.bl (decide (c ∈ z.cps.toList))) H) := by
  intro pins s σ H x y v u Q I rx ry h
  obtain ⟨c, z, rfl, rfl, q⟩ := h
  obtain ⟨t, rfl⟩ := rx
  obtain ⟨t', rfl⟩ := ry
  exact PyProof.Rows.in_str (fin_bl I q (PySem.StrLaws.found_one z c).symm)
end

/-! ### slices of a text -/
theorem IsPart.raw {v : Value} {o : Option Int} (p : IsPart v o) : ∃ l : Option (Int × Tok), v = partValue l ∧ l.map (·.1) = o := by
  cases p with
  | none => exact ⟨none, rfl, rfl⟩
  | int i t => exact ⟨some (i, t), rfl, rfl⟩

/-- a part, clipped, as the text's slice reckons it -/
def clipS (n d : Nat) : Option Int → Int
  | none => (d : Int)
  | some i => max 0 (min (if i < 0 then i + (n : Int) else i) (n : Int))
/-- z[lo:hi] -/
def cutS (z : Str) (lo hi : Option Int) : Str :=
  ⟨((z.cps.toList.drop (HT.sIx z.length 0 lo)).take (HT.sIx z.length z.length hi - HT.sIx z.length 0 lo)).toArray⟩
def rSlS : V → Option Int → Option Int → Hp → VK → Prop := fun x lo hi H Q => ∃ z, x = .str z ∧ z.length ≤ sizeLine ∧ Q (.str (cutS z lo hi)) H
end L2

namespace Att
open PySem PySem.W PySem.Calls PyProof.Rows

/-! ### the script -/
theorem ints_of_wellAll {P : Params} {h : Heap} : ∀ (ns : List Int) (vs : List Value), WellAll P h vs (ns.map WData.int) → IntsAre vs ns := by
  intro ns
  induction ns with
  | nil =>
    intro vs w
    rw [List.map_nil] at w
    cases w
    exact .nil
  | cons n ns ih =>
    intro vs w
    rw [List.map_cons] at w
    cases w with
    | cons a b =>
      cases a
      exact .cons _ _ (ih _ b)

theorem script_of {l : OpenLaw} {n : Nat} (hn : l.most = some n) {P : Params} {h : Heap} {args : List WData} {vals : List Value}
    (hpre : l.row.toRowW.claim.pre args = true) (hwl : WellAll P h vals args) :
    ∃ a vs ns, vals = [Value.ref a] ∧ args = [WData.list (ns.map WData.int)] ∧ h.get? a = some { cls := .type "list", data := .seq vs.toArray } ∧ IntsAre vs ns ∧ ns.length ≤ n := by
  have hsh : WShape.hasAll [] args [.list .int] = true := (pre_splitW hpre).1
  have hc : l.pre.holds [] { args := args } = true := (pre_splitW hpre).2
  obtain ⟨d, r, rfl, h1, h2⟩ := hasAllW_cons hsh
  obtain rfl := hasAllW_nil h2
  obtain ⟨xs, rfl, h3⟩ := hasW_list h1
  obtain ⟨ns, rfl⟩ := items_int h3
  have hlen : ns.length ≤ n := by
    unfold OpenLaw.pre at hc
    have h4 : (WTm.not (.lt (.lit (.int (n : Int))) (.len (.arg 0)))).holds [] { args := [.list (ns.map .int)] } = true := by
      have h4 := (holds_andW hc).1
      rw [hn] at h4
      exact h4
    have h5 := condW_of h4 (w_not (w_lt w_lit (w_len_list (w_arg rfl))))
    rw [List.length_map] at h5
    refine Nat.le_of_not_lt fun q => ?_
    have q' : (n : Int) < ((ns.length : Nat) : Int) := by omega
    first
      | (rw [decide_eq_true q'] at h5; exact absurd h5 (by decide))
      | (simp at h5; omega)
  cases hwl with
  | cons w1 w2 =>
    cases w2
    cases w1 with
    | list ho hall => exact ⟨_, _, ns, rfl, rfl, ho, ints_of_wellAll ns _ hall, hlen⟩

theorem post_true (l : OpenLaw) (args : List WData) : l.row.toRowW.claim.post args (.bool true) args = true :=
  postW_of (r := l.row.toRowW) (X := (true == true))
    (show WShape.has [] (.bool true) .bool = true by first | rfl | decide | simp [WShape.has, WShape.arms, WShape.armsAll])
    (show (WTm.eq .res (.lit (.bool true))).value [] { args := args, res := some (.bool true), after := args } = some (.bool (true == true)) from w_eq_bool (w_res rfl) w_lit) rfl

/-! ### the attachment: holds_open's last premise (the goal 'hc' behind k_head) from a wpAny of the law's body -/
/-- the same from a codeAny of the CALL (for a layer whose function contracts speak of calls) -/
theorem attach_call {l : OpenLaw} {n : Nat} {q : Program} {loose : List Str} {XP : (Str → Option Value) → Heap → Prop} {YP : World → Heap → Prop} {d : DefRec}
    (hn : l.most = some n) (hdf : d.params.defaults = [])
    (call : ∀ (w : World) (s₀ s₁ : Shared) (mg mb : Str → Option Value) (fa : Addr) (o : Obj) (pm cd doc : Value) (a : Addr) (vs : List Value) (ns : List Int),
      Ground q loose [] XP w s₀ mg mb s₁.heap → YP w s₁.heap →
      s₁.heap.get? fa = some o → o.data = .func (docDef d.name d.params d.body d.scope pm cd doc) → s₁.heap.CodeRec cd d.name → mg d.name = some (.ref fa) →
      s₁.heap.get? a = some { cls := .type "list", data := .seq vs.toArray } → IntsAre vs ns → ns.length ≤ n → s₁.gens = #[] →
      codeAny (model l.prog w) callerA (.call (.ref fa) ⟨[.ref a], []⟩) (fun r s' => r = .ok (.ret (.bool true)) ∧ OldK s₁.heap s'.heap ∧ s'.os = s₁.os ∧ AllBare s'.gens) s₁) :
    WalkO q loose XP YP l.row.toRowW d [] (fun f vs => PySem.call f vs) := by
  intro w s₀ s₁ mg mb G Y fa o pm cd doc dV kV ho hd hcd hD hmg hg args vals as hpre hlay hrd hwl hlo
  obtain rfl : dV = .none := Dflts.none hD hdf
  obtain rfl : kV = .none := Dflts.noKw hD
  obtain ⟨a, vs, ns, rfl, rfl, hobj, hints, hlen⟩ := script_of hn hpre hwl
  refine enter_call (codeAny_mono (call w s₀ s₁ mg mb fa o pm cd doc a vs ns G Y ho (fd_plain hd) hcd hmg hobj hints hlen hg) fun r s' hq => ?_)
  obtain ⟨rfl, h2, h3, h4⟩ := hq
  exact ⟨.inl ⟨.bool true, .bool true, [], rfl, fun _ => rfl, .bool true, post_true l _, fun _ => ⟨List.Pairwise.nil, fun _ hm => (nomatch hm)⟩⟩, h2, h3, h4⟩

/-! ### rules over ANY heap (no ledger) from facts about the written part K: the library's own take a ledger (News) for what they write -/
section
variable {prog : Program} {w : World} {A : Around} {E : Value → Shared → Prop} {s : Shared} {K : Frag}

/-! the whole heap as the ledger: makes every rule that writes through a ledger a rule over any heap -/
def noObjs (h : Heap) : Heap := { h with objs := #[] }
def ledger (h : Heap) (L d : Addr) : List (Addr × Obj) := (List.range h.objs.size).filterMap fun a => if a = L ∨ a = d then none else (h.get? a).map fun o => (a, o)
end
end Att

namespace L2
open PySem PySem.Spec PyProof.Rows

theorem vals_ints : ∀ {vs : List Value} {ns : List Int}, IntsAre vs ns → Vals (ns.map V.int) vs
  | _, _, .nil => .nil
  | _, _, .cons n t h => .cons ⟨t, rfl⟩ (vals_ints h)

/-- nothing is tracked but the script, known to the object (or it is an object of the module) -/
def Only (H : Hp) : Prop := ∀ b, H b = none ∨ ∃ o xs, H b = some (.frz o (.lst xs))

/-- THE HEAD: the law's promise, at the heap behind the top. F, the promise of the law's def, may use that base is part of the heap (so K.In base, base.Ns mainGlobals mg stand in Mod) -/
theorem law_call {P : Program} {w : World} {K : PySem.W.Frag} {mg mb : Str → Option Value} {CX : CXT} {k : Nat} {fa a : Addr} {fd : FuncData} {x : Str} {sp : Sp} {s₁ : Shared} {vs : List Value} {ns : List Int}
    (KX : K.In s₁.heap) (hns : s₁.heap.Ns mainGlobals mg) (hb : s₁.heap.Ns builtinsNs mb) (hbb : ∀ x : Str, x ≠ "__name__" → mb x = bootBuiltins x) (hlim : s₁.heap.NoLimit) (hg : s₁.gens = #[])
    (ha : s₁.heap.get? a = some { cls := .type "list", data := .seq vs.toArray }) (hi : IntsAre vs ns) (hl : ns.length ≤ sizeLine) (hr : Room k callerA)
    (F : ∀ base : Heap, K.In base → base.Ns mainGlobals mg → FnOk P w K mg base CX k fa fd [x] sp) (hbind : ∀ (s : Shared) (u : Value), BindsTo s fd ⟨[u], []⟩ [(x, u)])
    (hsp : ∀ H : Hp, Only H → SqL K H a (ns.map V.int) → sp [.ref a] H (fun v _ => v = .bl true) fun _ _ _ => False)
    (hCX : ∀ H e s', CX [] H s₁ (fun _ _ _ => False) e s' → False) :
    codeAny (model P w) callerA (.call (.ref fa) ⟨[.ref a], []⟩) (fun r s' => r = .ok (.ret (.bool true)) ∧ OldK s₁.heap s'.heap ∧ s'.os = s₁.os ∧ AllBare s'.gens) s₁ := by
  have rv := vals_ints hi
  have lenV := hi.length
  -- from an abstract heap in which nothing but the script may be tracked
  have core : ∀ H : Hp, Only H → SqL K H a (ns.map V.int) → HOk P w H s₁.heap → (∀ b, H b ≠ none → b = a) → (H a ≠ none → K.lookup a = none) →
      codeAny (model P w) callerA (.call (.ref fa) ⟨[.ref a], []⟩) (fun r s' => r = .ok (.ret (.bool true)) ∧ OldK s₁.heap s'.heap ∧ s'.os = s₁.os ∧ AllBare s'.gens) s₁ := by
    intro H hO hS hok hA hK
    have base_of : ∀ {b : Addr} {o : Obj}, s₁.heap.get? b = some o → H b = none → (hidT s₁.heap H).get? b = some o := fun e n => hidT_get e n
    have noA : ∀ {b : Addr} {o : Obj} {es : Array DictEntry} {ep : Nat}, s₁.heap.get? b = some o → o.data = .dict es ep → H b = none := fun {b o es ep} e d => by
      cases q : H b with
      | none => rfl
      | some u =>
        have e' : b = a := hA b (by rw [q]; simp)
        subst e'
        rw [ha] at e; cases e
        have d' : Data.seq vs.toArray _ = Data.dict es ep := d
        cases d'
    have nsK : ∀ {b : Addr} {m : Str → Option Value}, s₁.heap.Ns b m → (hidT s₁.heap H).Ns b m := fun {b m} ⟨o, es, ep, e, d, r⟩ => ⟨o, es, ep, base_of e (noA e d), d, r⟩
    have hKb : K.In (hidT s₁.heap H) := fun b o e => base_of (KX b o e) (by
      cases q : H b with
      | none => rfl
      | some u =>
        have e' : b = a := hA b (by rw [q]; simp)
        subst e'
        rw [hK (by rw [q]; simp)] at e; cases e)
    have hM : Mod K mg (hidT s₁.heap H) := ⟨hKb, nsK hns, ⟨mb, nsK hb, hbb⟩, let ⟨mc, h1, h2⟩ := hlim; ⟨mc, nsK h1, h2⟩⟩
    have e0 : Env0 P w K mg (hidT s₁.heap H) callerA [] s₁ H := ⟨rfl, hM, fun b o e => of_hidT e, Nat.le_of_eq (hidT_size _ _), trivial, fun b hb => absurd (show b ∈ ([] : List Addr) from hb) (by simp), hok, .of_eq hg⟩
    refine codeAny_mono ((F _ hKb (nsK hns)).run callerA [] s₁ H ⟨[.ref a], []⟩ [.ref a] [.ref a] _ _ hr e0 (hbind s₁ (.ref a)) (.cons rfl .nil) (hsp H hO hS)) fun r s' h => ?_
    cases r with
    | error e => exact (hCX H e s' h).elim
    | ok fl =>
      cases fl with
      | next => exact False.elim h
      | brk => exact False.elim h
      | cont => exact False.elim h
      | ret u =>
        obtain ⟨v, H', os, bare, un, hok', r', q⟩ := h
        have q' : v = .bl true := q
        subst q'
        obtain rfl : u = Value.bool true := r'
        refine ⟨rfl, OldK.of_keep fun b o e => ?_, os, bare⟩
        cases q : H b with
        | none => exact un.keep b o e q (by intro z; exact absurd (show b ∈ ([] : List Addr) from z) (by simp)) (by simp)
        | some u =>
          rcases hO b with z | ⟨ob, xs, z⟩
          · rw [q] at z; cases z
          · have z2 := un.frzs b ob _ z
            obtain ⟨e1, _⟩ := hok b _ z
            obtain ⟨e2, _⟩ := hok' b _ z2
            rw [e] at e1; cases e1
            exact e2
  cases hk : K.lookup a with
  | some o =>
    -- the script is one of the module's own objects
    have e := KX a o hk
    rw [ha] at e
    cases e
    refine core (fun _ => none) (fun _ => .inl rfl) (.inr ⟨_, vs.toArray, _, hk, rfl, rfl, rfl, by rw [List.size_toArray, lenV]; exact hl, by simpa using rv⟩) (fun b u z => by have z' : (none : Option HO) = some u := z; cases z') (fun b z => absurd rfl z) fun z => absurd rfl z
  | none =>
    refine core (fun b => if b = a then some (.frz { cls := .type "list", data := .seq vs.toArray } (.lst (ns.map V.int))) else none) (fun b => ?_) (.inl (.inr ⟨{ cls := .type "list", data := .seq vs.toArray }, if_pos rfl⟩)) (fun b u z => ?_) (fun b z => ?_) fun _ => hk
    · by_cases hb : b = a
      · exact .inr ⟨_, _, if_pos hb⟩
      · exact .inl (if_neg hb)
    · by_cases hb : b = a
      · have z' := (if_pos hb).symm.trans z
        cases z'
        subst hb
        exact ⟨ha, by rw [List.length_map]; exact hl, vs, _, rv, ha⟩
      · have z' := (if_neg hb).symm.trans z
        cases z'
    · by_cases hb : b = a
      · exact hb
      · exact absurd (if_neg hb) z
end L2

namespace L2
open PySem PySem.Spec PyProof.Rows

abbrev KOf {K : PySem.W.Frag} {h : Heap} (_ : K.In h) : PySem.W.Frag := K

/-- the goal that k_head leaves (case hc), from the law's promise. F gives the function object fd (K's own) once, then the promise over every base -/
theorem walk_of {l : PySem.W.OpenLaw} {n k : Nat} {q : Program} {loose : List Str} {XP : (Str → Option Value) → Heap → Prop} {YP : World → Heap → Prop} {d : DefRec} {K : Params → PySem.W.Frag} {CX : World → CXT} {sp : World → Sp} {x : Str}
    (hn : l.most = some n) (hn2 : n ≤ sizeLine) (hdf : d.params.defaults = []) (hr : Room k callerA)
    (hY : ∀ (w : World) (h : Heap), YP w h → (K w.params).In h)
    (F : ∀ (w : World) (mg : Str → Option Value) (fa : Addr) (h : Heap), (K w.params).In h → h.Ns mainGlobals mg → mg d.name = some (.ref fa) →
      ∃ fd : FuncData, (∀ (s : Shared) (u : Value), BindsTo s fd ⟨[u], []⟩ [(x, u)]) ∧
        ∀ base : Heap, (K w.params).In base → base.Ns mainGlobals mg → FnOk l.prog w (K w.params) mg base (CX w) k fa fd [x] (sp w))
    (hsp : ∀ (w : World) (H : Hp) (a : Addr) (ns : List Int), ns.length ≤ n → Only H → SqL (K w.params) H a (ns.map V.int) → sp w [.ref a] H (fun v _ => v = .bl true) fun _ _ _ => False)
    (hCX : ∀ (w : World) (H : Hp) (s : Shared) (e : Value) (s' : Shared), CX w [] H s (fun _ _ _ => False) e s' → False) :
    PySem.W.WalkO q loose XP YP l.row.toRowW d [] (fun f vs => PySem.call f vs) := by
  refine Att.attach_call hn hdf fun w s₀ s₁ mg mb fa o pm cd doc a vs ns G Y ho hd hcd hmg hobj hints hlen hg => ?_
  have KX := hY w _ Y
  obtain ⟨fd, hb, hF⟩ := F w mg fa _ KX G.T.g hmg
  exact law_call KX G.T.g G.T.b G.T.builtins G.T.nolimit hg hobj hints (Nat.le_trans hlen hn2) hr hF hb (fun H hO hS => hsp w H a ns hlen hO hS) fun H e s' => hCX w H s₁ e s'
end L2

/- THE LAST THEOREM (shape; LID, My.* are yours):
   My.Adr: a structure of the addresses that your layer names (classes, functions); My.Txt K t: a structure (Prop) of the equations over K;
   My.txt_mk : {K} {implicit addresses ..} (e1 : nsIn K mainGlobals "law" = some (some (.ref f))) (e2 : K.lookup f = some ⟨oc, od, .func (fnOf "law" "law" params body scope dV kV doc pm an cdv ct), sl⟩) (e3 : codeIn K cdv "law" = true) .. : ∃ t, My.Txt K t

theorem PySem.Challenge.cw_LID_holds : PySem.Challenge.rw_LID.Holds := by
  w_on; o_law; k_head; (case hw => w_witness2)
  k_fill
  refine L2.walk_of (l := PySem.Challenge.rw_LID) (n := 63) (k := 40) (x := "script") (CX := fun w => ..) (sp := fun _ => My.sp_law) rfl (by decide) rfl ⟨rfl, by decide, by decide⟩ (fun w h Y => PySem.W.kIn_of Y) ?F ?S ?C
  case F =>
    intro w mg fa h KX G hmg
    have T : ∃ t, My.Txt (L2.KOf KX) t := by
      dsimp only [L2.KOf]                          -- K must stand as «<heap const> w.params» for k_is
      refine' My.txt_mk ?e1 ?e2 ?e3 ..
      (case e1 => PySem.W.k_is)                    -- in the order: a name -> its address -> its object -> its parts
      (case e2 => PySem.W.k_is)
      ..
    obtain ⟨t, T⟩ := T
    have e0 := hmg.symm.trans (PySem.W.mg_of KX G T.law)
    cases e0                                       -- fa is the law's own address
    exact ⟨_, fun s u => .of_eq rfl, fun base kb nb => My.law_fn T kb nb⟩     -- if «.of_eq rfl» comes too early: refine' ⟨_, ?b, fun base kb nb => My.law_fn T kb nb⟩; exact fun s u => .of_eq rfl
  case S => exact fun w H a ns hl hO hS => ..
  case C => exact ..
(the tactic k_is has no namespace: write k_is) -/

/-! SHORT WORDS over the layer: a def of the text, its body, what a loop and a test want. -/
namespace L2
open PySem PySem.Spec PyProof.Rows

/-! ### the text by places -/
/-- the j-th statement of a class's body -/
def inClass (s : Stmt) (j : Nat) : Stmt := match s with
  | .ClassDef _ _ _ body _ _ _ _ _ _ _ => body.getD j (.Pass ⟨0, 0, 0, 0⟩)
  | _ => .Pass ⟨0, 0, 0, 0⟩
def defArgs (s : Stmt) : Arguments := match s with
  | .FunctionDef _ a _ _ _ _ _ _ _ _ => a
  | _ => { posonlyargs := [], args := [], vararg := none, kwonlyargs := [], kw_defaults := [], kwarg := none, defaults := [] }
def defBody (s : Stmt) : List Stmt := match s with
  | .FunctionDef _ _ b _ _ _ _ _ _ _ => b
  | _ => []
def defScope (s : Stmt) : Scope := match s with
  | .FunctionDef _ _ _ _ _ _ sc _ _ _ => sc
  | _ => { kind := .function, names := [], isGenerator := false, isCoroutine := false }

/-! ### no exception leaves a def -/
abbrev CX0 : CXT := fun _ _ _ _ _ _ => False
abbrev E0 : XK := fun _ _ _ => False
theorem pass0 {X : Cx} : Passes CX0 X E0 := fun _ _ _ _ _ _ _ h => h.elim

/-! ### a def (or method) of the text as it stands behind the top -/
structure Fun (K : PySem.W.Frag) (x qual : Str) (st : Stmt) (f : Addr) (fd : FuncData) : Prop where
  ex : ∃ (oc : Value) (od : Option Addr) (kV doc pm : Value) (an : Option Addr) (cdv ct : Value) (osl : Array (Option Value)),
    fd = PySem.W.fnOf x qual (defArgs st) (defBody st) (defScope st) .none kV doc pm an cdv ct ∧ K.lookup f = some ⟨oc, od, .func fd, osl⟩ ∧ PySem.W.codeIn K cdv qual = true
  kp : PySem.W.keepIn K (.ref f) = true
section
variable {P : Program} {w : World} {K : PySem.W.Frag} {mg : Str → Option Value} {base : Heap}
/-- THE RULE for a def: its body as a term of rules, and the reading of that term -/
theorem Fun.ok {x qual : Str} {st : Stmt} {f : Addr} {fd : FuncData} {N ps : List Str} {k : Nat} {sp : Sp} (F : Fun K x qual st f fd) (S : FnScope N ps (defScope st)) (len : ∀ vs H Q E, sp vs H Q E → vs.length = ps.length)
    (hbody : ∀ (cdv : Value) (A : Around) (outer : List Env) (s : Shared) (H : Hp) (vs : List V) (Q : VK) (E : XK), Room k (A.deeper (envOfC qual (defScope st) s.heap.objs.size f cdv)) → sp vs H Q E →
      ∃ t, PSs (cxOf CX0 P w K mg base N qual (defScope st) f cdv A outer s H E).nox (defBody st) t ∧ t { nx := fun _ H' => Q .non H', rt := Q } (start N vs) H) : FnOk P w K mg base CX0 (k + 1) f fd ps sp := by
  obtain ⟨oc, od, kV, doc, pm, an, cdv, ct, osl, rfl, lk, hcd⟩ := F.ex
  refine fn_of lk hcd S len fun A outer s H vs Q E hr hsp => ?_
  obtain ⟨t, h, q⟩ := hbody cdv A outer s H vs Q E hr hsp
  exact ⟨t, h.nox, q⟩
/-- how its arguments bind (no defaults): h is «fun _ _ _ _ _ _ us hl => match us, hl with | [_, _], _ => rfl», one _ a parameter -/
theorem Fun.binds {x qual : Str} {st : Stmt} {f : Addr} {fd : FuncData} {ps : List Str} (F : Fun K x qual st f fd)
    (h : ∀ (kV doc pm : Value) (an : Option Addr) (cdv ct : Value) (us : List Value), us.length = ps.length → bindArgs (PySem.W.fnOf x qual (defArgs st) (defBody st) (defScope st) .none kV doc pm an cdv ct) ⟨us, []⟩ = pure (ps.zip us)) : Binds K fd ps [] := by
  obtain ⟨oc, od, kV, doc, pm, an, cdv, ct, osl, rfl, lk, hcd⟩ := F.ex
  exact .all (h kV doc pm an cdv ct)
theorem fun_mk {x qual : Str} {st : Stmt} {f : Addr} {oc : Value} {od an : Option Addr} {osl : Array (Option Value)} {kV doc pm cdv ct : Value} (l : K.lookup f = some ⟨oc, od, .func (PySem.W.fnOf x qual (defArgs st) (defBody st) (defScope st) .none kV doc pm an cdv ct), osl⟩)
    (c : PySem.W.codeIn K cdv qual = true) (k : PySem.W.keepIn K (.ref f) = true) : Fun K x qual st f (PySem.W.fnOf x qual (defArgs st) (defBody st) (defScope st) .none kV doc pm an cdv ct) := ⟨⟨oc, od, kV, doc, pm, an, cdv, ct, osl, rfl, l, c⟩, k⟩
end
/-! ### expressions in short: the name that stands in the i-th slot -/
section
variable {X : Cx}
theorem pv (i : Nat) {x : Str} {pos : Pos} (hN : X.N[i]? = some x := by rfl) (hv : Vis X.env.scope x := by first | exact Or.inl rfl | exact Or.inr (Or.inl rfl) | exact Or.inr (Or.inr rfl)) (hd : (x == ("__debug__" : Str)) = false := by decide)
    (hcd : (x == ("__classdict__" : Str)) = false := by decide) : PE X (.Name x pos) (tVar i) := pe_var hN hv hd hcd
end

/-! ### tests -/
theorem iteF {A B : Prop} (h : B) : if false = true then A else B := by
  rw [if_neg Bool.false_ne_true]
  exact h
theorem iteT {A B : Prop} (h : A) : if true = true then A else B := by
  rw [if_pos rfl]
  exact h
/-! ### heaps -/
/-- all that was tracked is as it was -/
def Same (H H' : Hp) : Prop := ∀ b o, H b = some o → H' b = some o
theorem Same.refl (H : Hp) : Same H H := fun _ _ h => h
theorem Same.trans {H H1 H2 : Hp} (a : Same H H1) (b : Same H1 H2) : Same H H2 := fun c o h => b c o (a c o h)
theorem Same.free {H H' : Hp} (e : Same H H') {l : Addr} (h : H' l = Option.none) : H l = Option.none := by
  cases q : H l with
  | none => rfl
  | some o =>
    rw [e l o q] at h
    cases h
theorem Same.seq {K : PySem.W.Frag} {H H' : Hp} {a : Addr} {xs : List V} (e : Same H H') (h : SqL K H a xs) : SqL K H' a xs := by
  rcases h with (h | ⟨o, h⟩) | h
  · exact .inl (.inl (e _ _ h))
  · exact .inl (.inr ⟨o, e _ _ h⟩)
  · exact .inr h

/-! ### a dict's pairs: keys that differ -/
section
variable {κ : Type} [DecidableEq κ]
end
/-! ### lists -/
/-- a new instance and its __init__ leave all that was tracked as it was -/
theorem Same.made {H H1 : Hp} {x dx C : Addr} (nx : H x = Option.none) (nd : H dx = Option.none) (k : ∀ b o, (upd (upd H dx (.own x)) x (.ins C dx [])) b = some o → b ≠ x → H1 b = some o) : Same H H1 := fun b o e =>
  k b o (by rw [upd_ne (ne_of_none e nx), upd_ne (ne_of_none e nd)]; exact e) (ne_of_none e nx)
end L2

/-! Values for heaps: what a def does to plain data, over the hand layer. -/
namespace Z
open PySem PySem.Spec PyProof.Rows L2

abbrev St := L2.St
abbrev D := PyData
abbrev Frag := PySem.W.Frag
/-- the heap that holds nothing -/
def NH : Hp := fun _ => none
def Le (F F' : Hp) : Prop := ∀ a u, F a = some u → F' a = some u
theorem Le.refl {F : Hp} : Le F F := fun _ _ h => h
theorem Le.trans {F G J : Hp} (a : Le F G) (b : Le G J) : Le F J := fun x u h => b x u (a x u h)
theorem Le.upd {F : Hp} {l : Addr} {o : HO} (h : F l = none) : Le F (upd F l o) := fun a u e => by
  rw [upd_ne (ne_of_none e h)]; exact e
def NFz (u : HO) : Prop := (∀ xs, u ≠ .tup xs) ∧ ∀ q, u ≠ .tab q
/-- what stands still is read -/
def Sub (F H : Hp) : Prop := ∀ a u, F a = some u → H a = some u ∨ (NFz u ∧ ∃ o, H a = some (.frz o u))
theorem Sub.rd {F H : Hp} (s : Sub F H) {a : Addr} {u : HO} (e : F a = some u) : Rd H a u := (s a u e).imp id fun z => z.2
theorem Sub.tup {F H : Hp} (s : Sub F H) {a : Addr} {xs : List V} (e : F a = some (.tup xs)) : H a = some (.tup xs) := by
  rcases s a _ e with z | ⟨z, _⟩
  · exact z
  · exact absurd rfl (z.1 xs)
theorem Sub.tab {F H : Hp} (s : Sub F H) {a : Addr} {q : Str} (e : F a = some (.tab q)) : H a = some (.tab q) := by
  rcases s a _ e with z | ⟨z, _⟩
  · exact z
  · exact absurd rfl (z.2 q)
theorem Rd.none {a : Addr} {u : HO} (h : Rd NH a u) : False := by
  rcases h with h | ⟨o, h⟩ <;> cases h

def SeL (K : Frag) (F : Hp) (a : Addr) (xs : List V) : Prop := F a = some (.lst xs) ∨ SqL K NH a xs
def SeT (_K : Frag) (F : Hp) (a : Addr) (xs : List V) : Prop := F a = some (.tup xs)
theorem SeL.sq {K : Frag} {F H : Hp} {a : Addr} {xs : List V} (s : Sub F H) (h : SeL K F a xs) : SqL K H a xs := by
  rcases h with h | h | h
  · exact .inl (s.rd h)
  · exact (Rd.none h).elim
  · exact .inr h
theorem SeT.sq {K : Frag} {F H : Hp} {a : Addr} {xs : List V} (s : Sub F H) (h : SeT K F a xs) : SqT K H a xs := .inl (.inl (s.tup h))
theorem SeL.mono {K : Frag} {F F' : Hp} {a : Addr} {xs : List V} (s : Le F F') (h : SeL K F a xs) : SeL K F' a xs := h.imp (s _ _) id
theorem SeT.mono {K : Frag} {F F' : Hp} {a : Addr} {xs : List V} (s : Le F F') (h : SeT K F a xs) : SeT K F' a xs := s _ _ h

/-- a key as data -/
def kD : Key → D
  | .inl i => .int i
  | .inr x => .str x
  | .no => .none
mutual
/-- the value v is the data d, in what stands still -/
inductive Rep (K : Frag) (F : Hp) : V → D → Prop
  | non : Rep K F .non .none
  | bl (b : Bool) : Rep K F (.bl b) (.bool b)
  | int (i : Int) : Rep K F (.int i) (.int i)
  | str (x : Str) : Rep K F (.str x) (.str x)
  | lst {a : Addr} {xs : List V} {ds : List D} : SeL K F a xs → RepAll K F xs ds → Rep K F (.ref a) (.list ds)
  | tup {a : Addr} {xs : List V} {ds : List D} : SeT K F a xs → RepAll K F xs ds → Rep K F (.ref a) (.tuple ds)
  | dct {a : Addr} {kvs : List (List Key × V)} {es : List (D × D)} : F a = some (.dT kvs) → RepKV K F kvs es → Rep K F (.ref a) (.dict es)
inductive RepAll (K : Frag) (F : Hp) : List V → List D → Prop
  | nil : RepAll K F [] []
  | cons {v : V} {vs : List V} {d : D} {ds : List D} : Rep K F v d → RepAll K F vs ds → RepAll K F (v :: vs) (d :: ds)
/-- the entries of a dict whose keys are tuples -/
inductive RepKV (K : Frag) (F : Hp) : List (List Key × V) → List (D × D) → Prop
  | nil : RepKV K F [] []
  | cons {k : List Key} {v : V} {kvs : List (List Key × V)} {d : D} {es : List (D × D)} : Rep K F v d → RepKV K F kvs es → RepKV K F ((k, v) :: kvs) ((.tuple (k.map kD), d) :: es)
end
mutual
theorem Rep.mono {K : Frag} {F F' : Hp} (s : Le F F') : ∀ {v : V} {d : D}, Rep K F v d → Rep K F' v d
  | _, _, .non => .non
  | _, _, .bl b => .bl b
  | _, _, .int i => .int i
  | _, _, .str x => .str x
  | _, _, .lst h r => .lst (h.mono s) (RepAll.mono s r)
  | _, _, .tup h r => .tup (h.mono s) (RepAll.mono s r)
  | _, _, .dct h r => .dct (s _ _ h) (RepKV.mono s r)
theorem RepAll.mono {K : Frag} {F F' : Hp} (s : Le F F') : ∀ {v : List V} {d : List D}, RepAll K F v d → RepAll K F' v d
  | _, _, .nil => .nil
  | _, _, .cons a b => .cons (Rep.mono s a) (RepAll.mono s b)
theorem RepKV.mono {K : Frag} {F F' : Hp} (s : Le F F') : ∀ {v : List (List Key × V)} {d : List (D × D)}, RepKV K F v d → RepKV K F' v d
  | _, _, .nil => .nil
  | _, _, .cons a b => .cons (Rep.mono s a) (RepKV.mono s b)
end
mutual
theorem Rep.dp {K : Frag} {F H : Hp} (s : Sub F H) : ∀ {v : V} {d : D}, Rep K F v d → d.canLay0 = true → Dp K H v d
  | _, _, .non, _ => .non
  | _, _, .bl b, _ => .bl b
  | _, _, .int i, _ => .int i
  | _, _, .str x, _ => .str x
  | _, _, .lst h r, c => .lst (h.sq s) (RepAll.dp s r (by simpa [PyData.canLay0] using c))
  | _, _, .tup h r, c => .tup (h.sq s) (RepAll.dp s r (by simpa [PyData.canLay0] using c))
  | _, _, .dct _ _, c => by simp [PyData.canLay0] at c
theorem RepAll.dp {K : Frag} {F H : Hp} (s : Sub F H) : ∀ {v : List V} {d : List D}, RepAll K F v d → PyData.canLayAll0 d = true → DpAll K H v d
  | _, _, .nil, _ => .nil
  | _, _, .cons a b, c => by
    simp only [PyData.canLayAll0, Bool.and_eq_true] at c
    exact .cons (Rep.dp s a c.1) (RepAll.dp s b c.2)
end
section
variable {K : Frag} {F : Hp}
theorem RepAll.len : ∀ {vs : List V} {ds : List D}, RepAll K F vs ds → vs.length = ds.length
  | _, _, .nil => rfl
  | _, _, .cons _ r => by rw [List.length_cons, List.length_cons, RepAll.len r]
theorem RepAll.get : ∀ {vs : List V} {ds : List D} {i : Nat} {d : D}, RepAll K F vs ds → ds[i]? = some d → ∃ v, vs[i]? = some v ∧ Rep K F v d
  | _, _, _, _, .nil, e => by simp at e
  | _, _, 0, _, .cons r _, e => by simp at e; subst e; exact ⟨_, rfl, r⟩
  | _, _, i + 1, d, .cons _ t, e => by
    obtain ⟨v, h1, h2⟩ := RepAll.get (i := i) (d := d) t (by simpa using e)
    exact ⟨v, by simpa using h1, h2⟩
theorem RepAll.append : ∀ {vs ws : List V} {ds es : List D}, RepAll K F vs ds → RepAll K F ws es → RepAll K F (vs ++ ws) (ds ++ es)
  | _, _, _, _, .nil, r => r
  | _, _, _, _, .cons a b, r => .cons a (RepAll.append b r)
theorem RepAll.set : ∀ {vs : List V} {ds : List D} {v : V} {d : D} (i : Nat), RepAll K F vs ds → Rep K F v d → RepAll K F (vs.set i v) (ds.set i d)
  | _, _, _, _, _, .nil, _ => .nil
  | _, _, _, _, 0, .cons _ b, r => .cons r b
  | _, _, _, _, i + 1, .cons a b, r => .cons a (RepAll.set i b r)
theorem RepAll.take : ∀ {vs : List V} {ds : List D} (n : Nat), RepAll K F vs ds → RepAll K F (vs.take n) (ds.take n)
  | _, _, 0, _ => .nil
  | _, _, _ + 1, .nil => .nil
  | _, _, n + 1, .cons r t => .cons r (RepAll.take n t)
theorem RepAll.drop : ∀ {vs : List V} {ds : List D} (n : Nat), RepAll K F vs ds → RepAll K F (vs.drop n) (ds.drop n)
  | _, _, 0, r => r
  | _, _, _ + 1, .nil => .nil
  | _, _, n + 1, .cons _ t => RepAll.drop n t
theorem RepAll.ints : ∀ (ns : List Int), RepAll K F (ns.map V.int) (ns.map PyData.int)
  | [] => .nil
  | n :: ns => .cons (.int n) (RepAll.ints ns)
end

/-- a name's worth: data that no one changes any more, or a thing that this name alone holds -/
inductive SV where
  | val (d : D)
  | own (d : D)
abbrev En := List (Option SV)
def OwnAt (K : Frag) (F H : Hp) (p : Addr) : D → Prop
  | .list ds => ∃ vs, H p = some (.lst vs) ∧ RepAll K F vs ds
  | .dict es => ∃ kvs, H p = some (.dT kvs) ∧ RepKV K F kvs es
  | _ => False
theorem OwnAt.some {K : Frag} {F H : Hp} {p : Addr} {d : D} (h : OwnAt K F H p d) : ∃ o, H p = some o := by
  cases d with
  | list ds => obtain ⟨vs, h, _⟩ := h; exact ⟨_, h⟩
  | dict es => obtain ⟨vs, h, _⟩ := h; exact ⟨_, h⟩
  | _ => exact h.elim
theorem OwnAt.mono {K : Frag} {F F' H : Hp} {p : Addr} {d : D} (s : Le F F') (h : OwnAt K F H p d) : OwnAt K F' H p d := by
  cases d with
  | list ds => obtain ⟨vs, h, r⟩ := h; exact ⟨vs, h, r.mono s⟩
  | dict es => obtain ⟨vs, h, r⟩ := h; exact ⟨vs, h, r.mono s⟩
  | _ => exact h.elim
theorem OwnAt.heap {K : Frag} {F H H' : Hp} {p : Addr} {d : D} (e : H' p = H p) (h : OwnAt K F H p d) : OwnAt K F H' p d := by
  cases d with
  | list ds => obtain ⟨vs, h, r⟩ := h; exact ⟨vs, e.trans h, r⟩
  | dict es => obtain ⟨vs, h, r⟩ := h; exact ⟨vs, e.trans h, r⟩
  | _ => exact h.elim

theorem OwnAt.noTup {K : Frag} {F H : Hp} {p : Addr} {d : D} {xs : List V} (h : OwnAt K F H p d) (r : Rd H p (.tup xs)) : False := by
  cases d with
  | list ds =>
    obtain ⟨vs, h, _⟩ := h
    rcases r with r | ⟨o, r⟩ <;> rw [h] at r <;> cases r
  | dict es =>
    obtain ⟨vs, h, _⟩ := h
    rcases r with r | ⟨o, r⟩ <;> rw [h] at r <;> cases r
  | _ => exact h.elim
/-- only new things and tuples stand still anew -/
def NewF (F H F' : Hp) : Prop := ∀ a u, F' a = some u → F a = some u ∨ H a = none ∨ ∃ xs, u = HO.tup xs
theorem NewF.refl {F H : Hp} : NewF F H F := fun _ _ e => .inl e
/-- what a body started from: its heap, what stood still, what it may change, the thing handed in to be changed -/
structure Bs where
  B : Hp
  F0 : Hp
  mu : Addr → Prop
  io : Option Addr

/-- the defs of the laws and of the program in which a lambda stands -/
def lamNames : List Str := ["gaps", "stacks", "rules_rising", "law", "_law_runs_right", "_law_books_right", "_law_feeder_right", "_law_all_told"]
/-- the table at P is that of one of them; its code objects tell q -/
def TabK (K : Frag) (P : Addr) (q : Str) : Prop := ∃ x ∈ lamNames, ∃ c, PySem.W.tabIn K x = some (c, P) ∧ q = x ++ ".<locals>.<lambda>"
def TabF (K : Frag) (F : Hp) : Prop := ∀ P q, TabK K P q → F P = some (.tab q)
theorem TabF.le {K : Frag} {F F' : Hp} (h : TabF K F) (l : Le F F') : TabF K F' := fun P q t => l P _ (h P q t)
structure SOk (K : Frag) (b : Bs) (F H : Hp) (σ : St) (env : En) : Prop where
  sub : Sub F H
  keep : ∀ a o, b.B a = some o → ¬ b.mu a → H a = some o
  newF : ∀ a u, F a = some u → b.F0 a = some u ∨ b.B a = none ∨ b.mu a ∨ ∃ xs, u = HO.tup xs
  le : Le b.F0 F
  len : σ.length = env.length
  val : ∀ (i : Nat) (d : D), env[i]? = some (some (.val d)) → ∃ v, σ[i]? = some (some v) ∧ Rep K F v d
  own : ∀ (i : Nat) (d : D), env[i]? = some (some (.own d)) → ∃ p, σ[i]? = some (some (.ref p)) ∧ OwnAt K F H p d ∧ F p = none ∧ (b.B p = none ∨ b.mu p)
  inj : ∀ (i j : Nat) (p : Addr) (d e : D), env[i]? = some (some (.own d)) → env[j]? = some (some (.own e)) → σ[i]? = some (some (.ref p)) → σ[j]? = some (some (.ref p)) → i = j
  io : ∀ p, b.io = some p → σ[0]? = some (some (.ref p)) ∧ ∃ d, env[0]? = some (some (.own d))
  iom : ∀ a, b.mu a → ∃ o, H a = some o
  tab : TabF K b.F0

section
variable {K : Frag} {b : Bs} {F H : Hp} {σ : St} {env : En} {l : Addr} {o : HO}
theorem SOk.fF (S : SOk K b F H σ env) (h : H l = none) : F l = none := by
  cases e : F l with
  | none => rfl
  | some u =>
    rcases S.sub _ _ e with z | ⟨_, _, z⟩
    · rw [h] at z; cases z
    · rw [h] at z; cases z
theorem SOk.nmu (S : SOk K b F H σ env) (h : H l = none) : ¬ b.mu l := fun m => by
  obtain ⟨o, e⟩ := S.iom l m
  rw [h] at e; cases e
theorem SOk.fB (S : SOk K b F H σ env) (h : H l = none) : b.B l = none := by
  cases e : b.B l with
  | none => rfl
  | some u => have z := S.keep _ _ e (S.nmu h); rw [h] at z; cases z
/-- not owned by a name -/
def Free (σ : St) (env : En) (a : Addr) : Prop := ∀ (i : Nat) (d : D), env[i]? = some (some (.own d)) → σ[i]? ≠ some (some (.ref a))
theorem SOk.free (S : SOk K b F H σ env) (h : H l = none) : Free σ env l := fun i d e z => by
  obtain ⟨p, h1, h2, _⟩ := S.own i d e
  rw [h1] at z; cases z
  obtain ⟨o, h2⟩ := h2.some
  rw [h] at h2; cases h2
/-- a new thing that nobody holds yet -/
theorem SOk.lay (S : SOk K b F H σ env) (h : H l = none) : SOk K b F (upd H l o) σ env where
  tab := S.tab
  sub := fun a u e => by
    have hn : a ≠ l := ne_of_none e (S.fF h)
    rcases S.sub a u e with z | ⟨nt, ob, z⟩
    · exact .inl (by rw [upd_ne hn]; exact z)
    · exact .inr ⟨nt, ob, by rw [upd_ne hn]; exact z⟩
  keep := fun a u e m => by rw [upd_ne (ne_of_none e (S.fB h))]; exact S.keep a u e m
  newF := S.newF
  le := S.le
  len := S.len
  val := S.val
  own := fun i d e => by
    obtain ⟨p, h1, h2, h3⟩ := S.own i d e
    exact ⟨p, h1, h2.heap (upd_ne (by obtain ⟨u, q⟩ := h2.some; exact ne_of_none q h)), h3⟩
  inj := S.inj
  io := S.io
  iom := fun a m => by
    obtain ⟨u, e⟩ := S.iom a m
    exact ⟨u, by rw [upd_ne (ne_of_none e h)]; exact e⟩
/-- what nobody holds, and nobody will change, stands still from now on -/
theorem SOk.frz (S : SOk K b F H σ env) (h : H l = some o) (hF : F l = none) (hB : b.B l = none ∨ b.mu l) (hf : Free σ env l) : SOk K b (upd F l o) H σ env where
  tab := S.tab
  sub := fun a u e => by
    by_cases q : a = l
    · subst q; rw [upd_same] at e; cases e; exact .inl h
    · rw [upd_ne q] at e; exact S.sub a u e
  keep := S.keep
  newF := fun a u e => by
    by_cases q : a = l
    · subst q; exact .inr (hB.imp id .inl)
    · rw [upd_ne q] at e; exact S.newF a u e
  le := S.le.trans (.upd hF)
  len := S.len
  val := fun i d e => by
    obtain ⟨v, h1, h2⟩ := S.val i d e
    exact ⟨v, h1, h2.mono (.upd hF)⟩
  own := fun i d e => by
    obtain ⟨p, h1, h2, h3, h4⟩ := S.own i d e
    refine ⟨p, h1, h2.mono (.upd hF), ?_, h4⟩
    rw [upd_ne (fun z => hf i d e (by rw [← z]; exact h1))]
    exact h3
  inj := S.inj
  io := S.io
  iom := S.iom
/-- a new thing that stands still -/
theorem SOk.new (S : SOk K b F H σ env) (h : H l = none) : SOk K b (upd F l o) (upd H l o) σ env :=
  (S.lay h).frz upd_same (S.fF h) (.inl (S.fB h)) (S.free h)
/-- a name gets data -/
theorem SOk.set (S : SOk K b F H σ env) {i : Nat} {v : V} {d : D} (hi : b.io = none ∨ i ≠ 0) (r : Rep K F v d) : SOk K b F H (σ.set i (some v)) (env.set i (some (.val d))) where
  tab := S.tab
  sub := S.sub
  keep := S.keep
  newF := S.newF
  le := S.le
  len := by rw [List.length_set, List.length_set]; exact S.len
  val := fun j e h => by
    by_cases q : i = j
    · subst q
      have hl : i < env.length := by
        have := (List.getElem?_eq_some_iff.mp h).1
        rw [List.length_set] at this; exact this
      rw [List.getElem?_set_self hl] at h
      cases h
      exact ⟨v, List.getElem?_set_self (by rw [S.len]; exact hl), r⟩
    · rw [List.getElem?_set_ne q] at h
      rw [List.getElem?_set_ne q]
      exact S.val j e h
  own := fun j e h => by
    by_cases q : i = j
    · subst q
      have hl : i < env.length := by
        have := (List.getElem?_eq_some_iff.mp h).1
        rw [List.length_set] at this; exact this
      rw [List.getElem?_set_self hl] at h
      cases h
    · rw [List.getElem?_set_ne q] at h
      rw [List.getElem?_set_ne q]
      exact S.own j e h
  inj := fun j k p e e' h1 h2 h3 h4 => by
    have ne : ∀ {j : Nat} {e : D}, (env.set i (some (.val d)))[j]? = some (some (SV.own e)) → i ≠ j := fun {j e} h q => by
      subst q
      have hl : i < env.length := by
        have := (List.getElem?_eq_some_iff.mp h).1
        rw [List.length_set] at this; exact this
      rw [List.getElem?_set_self hl] at h
      cases h
    have n1 := ne h1
    have n2 := ne h2
    rw [List.getElem?_set_ne n1] at h1 h3
    rw [List.getElem?_set_ne n2] at h2 h4
    exact S.inj j k p e e' h1 h2 h3 h4
  io := fun p e => by
    have n : i ≠ 0 := by
      rcases hi with q | q
      · rw [q] at e; cases e
      · exact q
    rw [List.getElem?_set_ne n, List.getElem?_set_ne n]
    exact S.io p e
  iom := S.iom
/-- a name forgets -/
theorem SOk.wipe1 (S : SOk K b F H σ env) {i : Nat} (hi : b.io = none ∨ i ≠ 0) : SOk K b F H (σ.set i none) (env.set i none) where
  tab := S.tab
  sub := S.sub
  keep := S.keep
  newF := S.newF
  le := S.le
  len := by rw [List.length_set, List.length_set]; exact S.len
  val := fun j e h => by
    by_cases q : i = j
    · subst q
      have hl : i < env.length := by
        have := (List.getElem?_eq_some_iff.mp h).1
        rw [List.length_set] at this; exact this
      rw [List.getElem?_set_self hl] at h
      cases h
    · rw [List.getElem?_set_ne q] at h
      rw [List.getElem?_set_ne q]
      exact S.val j e h
  own := fun j e h => by
    by_cases q : i = j
    · subst q
      have hl : i < env.length := by
        have := (List.getElem?_eq_some_iff.mp h).1
        rw [List.length_set] at this; exact this
      rw [List.getElem?_set_self hl] at h
      cases h
    · rw [List.getElem?_set_ne q] at h
      rw [List.getElem?_set_ne q]
      exact S.own j e h
  inj := fun j k p e e' h1 h2 h3 h4 => by
    have ne : ∀ {j : Nat} {e : D}, (env.set i none)[j]? = some (some (SV.own e)) → i ≠ j := fun {j e} h q => by
      subst q
      have hl : i < env.length := by
        have := (List.getElem?_eq_some_iff.mp h).1
        rw [List.length_set] at this; exact this
      rw [List.getElem?_set_self hl] at h
      cases h
    have n1 := ne h1
    have n2 := ne h2
    rw [List.getElem?_set_ne n1] at h1 h3
    rw [List.getElem?_set_ne n2] at h2 h4
    exact S.inj j k p e e' h1 h2 h3 h4
  io := fun p e => by
    have n : i ≠ 0 := by
      rcases hi with q | q
      · rw [q] at e; cases e
      · exact q
    rw [List.getElem?_set_ne n, List.getElem?_set_ne n]
    exact S.io p e
  iom := S.iom
/-- a name gets a thing of its own -/
theorem SOk.setOwn (S : SOk K b F H σ env) {i : Nat} {p : Addr} {d : D} (hi : b.io = none ∨ i ≠ 0) (r : OwnAt K F H p d) (hF : F p = none) (hB : b.B p = none ∨ b.mu p) (hf : Free σ env p) : SOk K b F H (σ.set i (some (.ref p))) (env.set i (some (.own d))) where
  tab := S.tab
  sub := S.sub
  keep := S.keep
  newF := S.newF
  le := S.le
  len := by rw [List.length_set, List.length_set]; exact S.len
  val := fun j e h => by
    by_cases q : i = j
    · subst q
      have hl : i < env.length := by
        have := (List.getElem?_eq_some_iff.mp h).1
        rw [List.length_set] at this; exact this
      rw [List.getElem?_set_self hl] at h
      cases h
    · rw [List.getElem?_set_ne q] at h
      rw [List.getElem?_set_ne q]
      exact S.val j e h
  own := fun j e h => by
    by_cases q : i = j
    · subst q
      have hl : i < env.length := by
        have := (List.getElem?_eq_some_iff.mp h).1
        rw [List.length_set] at this; exact this
      rw [List.getElem?_set_self hl] at h
      cases h
      exact ⟨p, List.getElem?_set_self (by rw [S.len]; exact hl), r, hF, hB⟩
    · rw [List.getElem?_set_ne q] at h
      rw [List.getElem?_set_ne q]
      exact S.own j e h
  inj := fun j k q e e' h1 h2 h3 h4 => by
    have lt : ∀ {x : Option SV} {s : Option SV}, (env.set i s)[i]? = some x → i < env.length := fun {x s} h => by
      have := (List.getElem?_eq_some_iff.mp h).1
      rw [List.length_set] at this; exact this
    by_cases n1 : i = j
    · by_cases n2 : i = k
      · rw [← n1, ← n2]
      · subst n1
        have hl := lt h1
        rw [List.getElem?_set_self (by rw [S.len]; exact hl)] at h3
        cases h3
        rw [List.getElem?_set_ne n2] at h2 h4
        exact absurd h4 (hf k e' h2)
    · by_cases n2 : i = k
      · subst n2
        have hl := lt h2
        rw [List.getElem?_set_self (by rw [S.len]; exact hl)] at h4
        cases h4
        rw [List.getElem?_set_ne n1] at h1 h3
        exact absurd h3 (hf j e h1)
      · rw [List.getElem?_set_ne n1] at h1 h3
        rw [List.getElem?_set_ne n2] at h2 h4
        exact S.inj j k q e e' h1 h2 h3 h4
  io := fun p e => by
    have n : i ≠ 0 := by
      rcases hi with q | q
      · rw [q] at e; cases e
      · exact q
    rw [List.getElem?_set_ne n, List.getElem?_set_ne n]
    exact S.io p e
  iom := S.iom
/-- the thing that a name holds is changed -/
theorem SOk.put (S : SOk K b F H σ env) {i : Nat} {p : Addr} {d d' : D} (he : env[i]? = some (some (.own d))) (hp : σ[i]? = some (some (.ref p))) {F' H' : Hp} (lF : Le F F') (sub : Sub F' H')
    (kp : ∀ a o, H a = some o → a ≠ p → H' a = some o) (nF : NewF F H F') (r : OwnAt K F' H' p d') : SOk K b F' H' σ (env.set i (some (.own d'))) := by
  obtain ⟨p', h1, h2, h3, h4⟩ := S.own i d he
  rw [hp] at h1; cases h1
  have hl : i < env.length := (List.getElem?_eq_some_iff.mp he).1
  refine ⟨sub, ?_, ?_, S.le.trans lF, ?_, ?_, ?_, ?_, ?_, ?_, S.tab⟩
  · intro a u e m
    refine kp a u (S.keep a u e m) fun z => ?_
    subst z
    rcases h4 with z | z
    · rw [z] at e; cases e
    · exact m z
  · intro a u e
    rcases nF a u e with z | z | z
    · exact S.newF a u z
    · exact .inr (.inl (S.fB z))
    · exact .inr (.inr (.inr z))
  · rw [List.length_set]; exact S.len
  · intro j e h
    have q : i ≠ j := fun q => by
      subst q
      rw [List.getElem?_set_self hl] at h
      cases h
    rw [List.getElem?_set_ne q] at h
    obtain ⟨v, g1, g2⟩ := S.val j e h
    exact ⟨v, g1, g2.mono lF⟩
  · intro j e h
    by_cases q : i = j
    · subst q
      rw [List.getElem?_set_self hl] at h
      cases h
      refine ⟨p, hp, r, ?_, h4⟩
      cases z : F' p with
      | none => rfl
      | some u =>
        rcases nF p u z with z | z | ⟨xs, rfl⟩
        · rw [h3] at z; cases z
        · obtain ⟨o, q⟩ := h2.some
          rw [z] at q; cases q
        · exact (r.noTup (sub.rd z)).elim
    · rw [List.getElem?_set_ne q] at h
      obtain ⟨p2, g1, g2, g3, g4⟩ := S.own j e h
      have ne : p2 ≠ p := fun z => q (S.inj i j p d e he h hp (by rw [← z]; exact g1))
      obtain ⟨o2, hs⟩ := g2.some
      have g2' := (g2.mono lF).heap ((kp p2 o2 hs ne).trans hs.symm)
      refine ⟨p2, g1, g2', ?_, g4⟩
      cases z : F' p2 with
      | none => rfl
      | some u =>
        rcases nF p2 u z with z | z | ⟨xs, rfl⟩
        · rw [g3] at z; cases z
        · rw [z] at hs; cases hs
        · exact (g2'.noTup (sub.rd z)).elim
  · have own' : ∀ {j : Nat} {e : D}, (env.set i (some (.own d')))[j]? = some (some (SV.own e)) → ∃ e', env[j]? = some (some (SV.own e')) := fun {j e} h => by
      by_cases q : i = j
      · subst q; exact ⟨d, he⟩
      · rw [List.getElem?_set_ne q] at h; exact ⟨e, h⟩
    intro j k q e e' g1 g2 g3 g4
    obtain ⟨e1, g1⟩ := own' g1
    obtain ⟨e2, g2⟩ := own' g2
    exact S.inj j k q e1 e2 g1 g2 g3 g4
  · intro q e
    obtain ⟨g1, d0, g2⟩ := S.io q e
    refine ⟨g1, ?_⟩
    by_cases q : i = 0
    · subst q; exact ⟨d', List.getElem?_set_self hl⟩
    · exact ⟨d0, by rw [List.getElem?_set_ne q]; exact g2⟩
  · intro a m
    obtain ⟨o, e⟩ := S.iom a m
    by_cases q : a = p
    · subst q; exact r.some
    · exact ⟨o, kp a o e q⟩
theorem SOk.putO (S : SOk K b F H σ env) {i : Nat} {p : Addr} {d d' : D} {o : HO} (he : env[i]? = some (some (.own d))) (hp : σ[i]? = some (some (.ref p))) (r : OwnAt K F (upd H p o) p d') :
    SOk K b F (upd H p o) σ (env.set i (some (.own d'))) := by
  obtain ⟨p', h1, h2, h3, h4⟩ := S.own i d he
  rw [hp] at h1; cases h1
  refine S.put he hp .refl (fun a u e => ?_) (fun a o e n => by rw [upd_ne n]; exact e) .refl r
  have n : a ≠ p := ne_of_none e h3
  rcases S.sub a u e with z | ⟨nt, ob, z⟩
  · exact .inl (by rw [upd_ne n]; exact z)
  · exact .inr ⟨nt, ob, by rw [upd_ne n]; exact z⟩
theorem SOk.putL (S : SOk K b F H σ env) {i : Nat} {p : Addr} {d : D} {vs : List V} {ds : List D} (he : env[i]? = some (some (.own d))) (hp : σ[i]? = some (some (.ref p))) (r : RepAll K F vs ds) :
    SOk K b F (upd H p (.lst vs)) σ (env.set i (some (.own (.list ds)))) := S.putO he hp ⟨vs, upd_same, r⟩
/-- what is owned, as what stands still -/
theorem ownFrz {K : Frag} {F H : Hp} {p : Addr} {d : D} (h : OwnAt K F H p d) (hF : F p = none) : ∃ o, H p = some o ∧ Rep K (upd F p o) (.ref p) d := by
  cases d with
  | list ds => obtain ⟨vs, h, r⟩ := h; exact ⟨_, h, .lst (.inl upd_same) (r.mono (.upd hF))⟩
  | dict es => obtain ⟨vs, h, r⟩ := h; exact ⟨_, h, .dct upd_same (r.mono (.upd hF))⟩
  | _ => exact h.elim
/-- a name's own thing stands still from now on -/
theorem SOk.freeze (S : SOk K b F H σ env) {i : Nat} {p : Addr} {d : D} (hi : b.io = none ∨ i ≠ 0) (he : env[i]? = some (some (.own d))) (hp : σ[i]? = some (some (.ref p))) :
    ∃ F', Le F F' ∧ SOk K b F' H σ (env.set i (some (.val d))) ∧ Rep K F' (.ref p) d := by
  obtain ⟨p', h1, ha, h3, h4⟩ := S.own i _ he
  rw [hp] at h1; cases h1
  obtain ⟨o, h2, R⟩ := ownFrz ha h3
  have hl : i < env.length := (List.getElem?_eq_some_iff.mp he).1
  have W := S.wipe1 (i := i) hi
  have hf : Free (σ.set i none) (env.set i none) p := fun j e g z => by
    have q : i ≠ j := fun q => by subst q; rw [List.getElem?_set_self hl] at g; cases g
    rw [List.getElem?_set_ne q] at g z
    exact q (S.inj i j p _ e he g hp z)
  have W2 := W.frz h2 h3 h4 hf
  have W3 := W2.set (i := i) (v := .ref p) (d := d) hi R
  rw [List.set_set, List.set_set] at W3
  have e1 : σ.set i (some (V.ref p)) = σ := by
    apply List.ext_getElem?
    intro j
    by_cases q : i = j
    · subst q; rw [List.getElem?_set_self (by rw [S.len]; exact hl), hp]
    · rw [List.getElem?_set_ne q]
  rw [e1] at W3
  exact ⟨_, .upd h3, W3, R⟩
end
end Z

namespace Z
open PySem PySem.Spec PyProof.Rows L2

abbrev EF := En → Option (D × En)
abbrev BF := En → Option (Bool × En)
abbrev AF := En → Option (List D × En)
inductive Out where
  | nx (e : En) | rt (r : SV) (e : En) | bk (e : En) | ct (e : En)
abbrev SF := En → Option Out
def SV.d : SV → D
  | .val d => d
  | .own d => d

/-- a thing that no name holds yet -/
structure Fresh (K : Frag) (b : Bs) (F H : Hp) (σ : St) (env : En) (p : Addr) (d : D) : Prop where
  at' : OwnAt K F H p d
  nF : F p = none
  nB : b.B p = none ∨ b.mu p
  fr : Free σ env p
def HoldsR (K : Frag) (b : Bs) (F H : Hp) (σ : St) (env : En) (v : V) : SV → Prop
  | .val d => Rep K F v d
  | .own d => ∃ p, v = .ref p ∧ Fresh K b F H σ env p d

def zE (K : Frag) (b : Bs) (f : EF) : TE := fun σ H Q => ∃ F env d env', SOk K b F H σ env ∧ f env = some (d, env') ∧ ∀ v F' H', Le F F' → SOk K b F' H' σ env' → Rep K F' v d → Q v H'
def zO (K : Frag) (b : Bs) (f : EF) : TE := fun σ H Q => ∃ F env d env', SOk K b F H σ env ∧ f env = some (d, env') ∧ ∀ p F' H', Le F F' → SOk K b F' H' σ env' → Fresh K b F' H' σ env' p d → Q (.ref p) H'
def zT (K : Frag) (b : Bs) (f : BF) : TT := fun σ H Q => ∃ F env d env', SOk K b F H σ env ∧ f env = some (d, env') ∧ ∀ F' H', Le F F' → SOk K b F' H' σ env' → Q d H'
def zA (K : Frag) (b : Bs) (f : AF) : TA := fun σ H Q => ∃ F env d env', SOk K b F H σ env ∧ f env = some (d, env') ∧ ∀ v F' H', Le F F' → SOk K b F' H' σ env' → RepAll K F' v d → Q v H'
def zS (K : Frag) (b : Bs) (f : SF) : TS := fun D σ H => ∃ F env o, SOk K b F H σ env ∧ f env = some o ∧ match o with
  | .nx env' => ∀ F' σ' H', Le F F' → SOk K b F' H' σ' env' → D.nx σ' H'
  | .bk env' => ∀ F' σ' H', Le F F' → SOk K b F' H' σ' env' → D.bk σ' H'
  | .ct env' => ∀ F' σ' H', Le F F' → SOk K b F' H' σ' env' → D.ct σ' H'
  | .rt r env' => ∀ v F' σ' H', Le F F' → SOk K b F' H' σ' env' → HoldsR K b F' H' σ' env' v r → D.rt v H'

structure ZE (X : Cx) (e : Expr) (f : EF) : Prop where
  pe : ∀ b, PE X e (zE X.K b f)
structure ZO (X : Cx) (e : Expr) (f : EF) : Prop where
  pe : ∀ b, PE X e (zO X.K b f)
structure ZT (X : Cx) (e : Expr) (f : BF) : Prop where
  pt : ∀ b, PT X e (zT X.K b f)
structure ZW (X : Cx) (e : Expr) (f : BF) : Prop where
  pw : ∀ b, PW X e (zT X.K b f)
structure ZA (X : Cx) (es : List Expr) (f : AF) : Prop where
  pa : ∀ b, PA X es (zA X.K b f)
structure ZS (X : Cx) (st : Stmt) (f : SF) : Prop where
  ps : ∀ b, PS X st (zS X.K b f)
structure ZSs (X : Cx) (st : List Stmt) (f : SF) : Prop where
  ps : ∀ b, PSs X st (zS X.K b f)

section
variable {X : Cx}
theorem peOf {e : Expr} {t t' : TE} (h : PE X e t) (k : ∀ σ H Q, t' σ H Q → t σ H Q) : PE X e t' := fun pins s σ H Q I q => h pins s σ H Q I (k _ _ _ q)
theorem ptOf {e : Expr} {t t' : TT} (h : PT X e t) (k : ∀ σ H Q, t' σ H Q → t σ H Q) : PT X e t' := fun pins s σ H Q I q => h pins s σ H Q I (k _ _ _ q)
theorem pwOf {e : Expr} {t t' : TT} (h : PW X e t) (k : ∀ σ H Q, t' σ H Q → t σ H Q) : PW X e t' := fun wh pins s σ H Q I q => h wh pins s σ H Q I (k _ _ _ q)
theorem paOf {e : List Expr} {t t' : TA} (h : PA X e t) (k : ∀ σ H Q, t' σ H Q → t σ H Q) : PA X e t' := fun pos pins s σ H Q I q => h pos pins s σ H Q I (k _ _ _ q)
theorem psOf {e : Stmt} {t t' : TS} (h : PS X e t) (k : ∀ D σ H, t' D σ H → t D σ H) : PS X e t' := fun pins s σ H D I q => h pins s σ H D I (k _ _ _ q)
theorem pssOf {e : List Stmt} {t t' : TS} (h : PSs X e t) (k : ∀ D σ H, t' D σ H → t D σ H) : PSs X e t' := fun pins s σ H D I q => h pins s σ H D I (k _ _ _ q)

/-! ### names and constants -/
def eVar (i : Nat) : EF := fun env => match env[i]? with
  | some (some (.val d)) => some (d, env)
  | _ => none
theorem ze_var (i : Nat) {x : Str} {pos : Pos} (hN : X.N[i]? = some x := by rfl) (hv : Vis X.env.scope x := by first | exact Or.inl rfl | exact Or.inr (Or.inl rfl) | exact Or.inr (Or.inr rfl)) (hd : (x == ("__debug__" : Str)) = false := by decide)
    (hcd : (x == ("__classdict__" : Str)) = false := by decide) : ZE X (.Name x pos) (eVar i) := ⟨fun b => peOf (pe_var hN hv hd hcd) fun σ H Q ⟨F, env, d, env', S, e, k⟩ => by
  unfold eVar at e
  split at e
  · rename_i d' h
    cases e
    obtain ⟨v, h1, h2⟩ := S.val i d h
    exact ⟨v, h1, k v F H .refl S h2⟩
  · cases e⟩
/-- a name's own thing, handed on: it stands still from now on -/
def eVarF (i : Nat) : EF := fun env => match env[i]? with
  | some (some (.own d)) => some (d, env.set i (some (.val d)))
  | some (some (.val d)) => some (d, env)
  | _ => none
theorem ze_varF (i : Nat) {x : Str} {pos : Pos} (h0 : i ≠ 0 := by decide) (hN : X.N[i]? = some x := by rfl) (hv : Vis X.env.scope x := by first | exact Or.inl rfl | exact Or.inr (Or.inl rfl) | exact Or.inr (Or.inr rfl)) (hd : (x == ("__debug__" : Str)) = false := by decide)
    (hcd : (x == ("__classdict__" : Str)) = false := by decide) : ZE X (.Name x pos) (eVarF i) := ⟨fun b => peOf (pe_var hN hv hd hcd) fun σ H Q ⟨F, env, d, env', S, e, k⟩ => by
  unfold eVarF at e
  split at e
  · rename_i ds h
    cases e
    obtain ⟨p, h1, h2⟩ := S.own i _ h
    obtain ⟨F', l, S', r⟩ := S.freeze (.inr h0) h h1
    exact ⟨.ref p, h1, k _ F' H l S' r⟩
  · rename_i d' h
    cases e
    obtain ⟨v, h1, h2⟩ := S.val i d h
    exact ⟨v, h1, k v F H .refl S h2⟩
  · cases e⟩
def eC (d : D) : EF := fun env => some (d, env)
theorem ze_int {i j pos} : ZE X (.Constant (.int i) j pos) (eC (.int i)) := ⟨fun b => peOf pe_int fun σ H Q ⟨F, env, d, env', S, e, k⟩ => by cases e; exact k _ F H .refl S (.int i)⟩
theorem ze_bl {i j pos} : ZE X (.Constant (.bool i) j pos) (eC (.bool i)) := ⟨fun b => peOf pe_bl fun σ H Q ⟨F, env, d, env', S, e, k⟩ => by cases e; exact k _ F H .refl S (.bl i)⟩
theorem ze_non {j pos} : ZE X (.Constant .none j pos) (eC .none) := ⟨fun b => peOf pe_non fun σ H Q ⟨F, env, d, env', S, e, k⟩ => by cases e; exact k _ F H .refl S .non⟩
theorem ze_str {i j pos} : ZE X (.Constant (.str i) j pos) (eC (.str i)) := ⟨fun b => peOf pe_str fun σ H Q ⟨F, env, d, env', S, e, k⟩ => by cases e; exact k _ F H .refl S (.str i)⟩
/-- a module's constant int -/
theorem ze_gint {x : Str} {i : Int} {t : Tok} {pos : Pos} (hm : X.mg x = some (.int i t)) (hg : Gl X x := by rfl) (hd : (x == ("__debug__" : Str)) = false := by decide) : ZE X (.Name x pos) (eC (.int i)) := ⟨fun b => peOf (pe_glob (v := .int i) hg hm ⟨t, rfl⟩ hd) fun σ H Q ⟨F, env, d, env', S, e, k⟩ => by cases e; exact k _ F H .refl S (.int i)⟩

/-! ### two values, an operator -/
def eBin (g : D → D → Option D) (f1 f2 : EF) : EF := fun env => (f1 env).bind fun a => (f2 a.2).bind fun c => (g a.1 c.1).map fun d => (d, c.2)
theorem eBin_some {g : D → D → Option D} {f1 f2 : EF} {env : En} {r : D × En} (h : eBin g f1 f2 env = some r) : ∃ d1 e1 d2 e2, f1 env = some (d1, e1) ∧ f2 e1 = some (d2, e2) ∧ g d1 d2 = some r.1 ∧ r.2 = e2 := by
  unfold eBin at h
  obtain ⟨⟨d1, e1⟩, h1, h⟩ := Option.bind_eq_some_iff.mp h
  obtain ⟨⟨d2, e2⟩, h2, h⟩ := Option.bind_eq_some_iff.mp h
  obtain ⟨d, h3, h⟩ := Option.map_eq_some_iff.mp h
  cases h
  exact ⟨d1, e1, d2, e2, h1, h2, h3, rfl⟩
/-- the operator's rule upon data, nothing new laid -/
structure RF (K : Frag) (r : R2) (g : D → D → Option D) : Prop where
  go : ∀ (F H : Hp) (x y : V) (dx dy d : D) (Q : VK), Sub F H → Rep K F x dx → Rep K F y dy → g dx dy = some d → (∀ v, Rep K F v d → Q v H) → r x y H Q
theorem tOp_of {r : R2} {g : D → D → Option D} {b : Bs} {f1 f2 : EF} (hr : RF X.K r g) {σ : St} {H : Hp} {Q : VK} (h : zE X.K b (eBin g f1 f2) σ H Q) : tOp r (zE X.K b f1) (zE X.K b f2) σ H Q := by
  obtain ⟨F, env, d, env', S, e, k⟩ := h
  obtain ⟨d1, e1, d2, e2, h1, h2, h3, h4⟩ := eBin_some e
  cases h4
  exact ⟨F, env, d1, e1, S, h1, fun v1 F1 H1 l1 S1 r1 => ⟨F1, e1, d2, env', S1, h2, fun v2 F2 H2 l2 S2 r2 =>
    hr.go F2 H2 v1 v2 d1 d2 d Q S2.sub (r1.mono l2) r2 h3 fun v r3 => k v F2 H2 (l1.trans l2) S2 r3⟩⟩
variable {a c : Expr} {f1 f2 f3 : EF} {pos : Pos}
theorem ze_op {op : Operator} {r : R2} {g : D → D → Option D} (ho : OpR X (binaryOp op) r) (hr : RF X.K r g) (ha : ZE X a f1) (hc : ZE X c f2) : ZE X (.BinOp a op c pos) (eBin g f1 f2) :=
  ⟨fun b => peOf (pe_op ho (ha.pe b) (hc.pe b)) fun σ H Q h => tOp_of hr h⟩
theorem ze_cmp {op : CmpOp} {r : R2} {g : D → D → Option D} (ho : OpR X (compareOp op) r) (hr : RF X.K r g) (ha : ZE X a f1) (hc : ZE X c f2) (hm : behindInMarks op c = false) : ZE X (.Compare a [op] [c] pos) (eBin g f1 f2) :=
  ⟨fun b => peOf (pe_cmpR ho (ha.pe b) (hc.pe b) hm) fun σ H Q h => tOp_of hr h⟩
def bT (f : EF) : BF := fun env => (f env).bind fun a => match a.1 with
  | .bool k => some (k, a.2)
  | _ => none
theorem bT_some {f : EF} {env : En} {r : Bool × En} (h : bT f env = some r) : f env = some (.bool r.1, r.2) := by
  unfold bT at h
  obtain ⟨⟨d1, e1⟩, h1, h⟩ := Option.bind_eq_some_iff.mp h
  cases d1 <;> simp at h
  obtain rfl := h
  exact h1
theorem tTest_of {b : Bs} {f : EF} {t : TE} {σ : St} {H : Hp} {Q : Bool → Hp → Prop} (ht : ∀ Q, zE X.K b f σ H Q → t σ H Q) (h : zT X.K b (bT f) σ H Q) : tTest t σ H Q := by
  obtain ⟨F, env, d, env', S, e, k⟩ := h
  exact ht _ ⟨F, env, .bool d, env', S, bT_some e, fun v F' H' l S' r => by cases r; exact ⟨d, rfl, k F' H' l S'⟩⟩
theorem zt_cmp {op : CmpOp} {r : R2} {g : D → D → Option D} (ho : OpR X (compareOp op) r) (hr : RF X.K r g) (ha : ZE X a f1) (hc : ZE X c f2) (hm : behindInMarks op c = false) : ZT X (.Compare a [op] [c] pos) (bT (eBin g f1 f2)) :=
  ⟨fun b => ptOf (pt_cmpR ho (ha.pe b) (hc.pe b) hm) fun σ H Q h => tTest_of (fun Q h => tOp_of hr h) h⟩
theorem zt_val {e : Expr} {f : EF} (h : ZE X e f) (he : ∀ whole, isTrue e X.env whole = (do let v ← whole; standAt e.pos; holding [v] (truthy v)) := by intro _; rfl) : ZT X e (bT f) :=
  ⟨fun b => ptOf (pt_val (h.pe b) he) fun σ H Q h => tTest_of (t := zE X.K b f) (fun Q h => h) h⟩
/-- a < b < c -/
def eChain (g g' : D → D → Option D) (f1 f2 f3 : EF) : EF := fun env => (f1 env).bind fun a => (f2 a.2).bind fun c => (g a.1 c.1).bind fun k => match k with
  | .bool true => (f3 c.2).bind fun e => (g' c.1 e.1).map fun d => (d, e.2)
  | .bool false => some (.bool false, c.2)
  | _ => none
/-! the operators upon data -/
def dI (f : Int → Int → Option D) : D → D → Option D
  | .int i, .int j => f i j
  | _, _ => none
theorem rf_I {C : Int → Int → Prop} {g : Int → Int → V} {f : Int → Int → Option D} {K : Frag} (h : ∀ i j d, f i j = some d → C i j ∧ ∀ F, Rep K F (g i j) d) : RF K (rI C g) (dI f) := ⟨fun F H x y dx dy d Q s rx ry e k => by
  unfold dI at e
  split at e
  · cases rx; cases ry
    obtain ⟨c, r⟩ := h _ _ _ e
    exact ⟨_, _, rfl, rfl, c, k _ (r F)⟩
  · cases e⟩
theorem rf_I0 {g : Int → Int → V} {f : Int → Int → Option D} {K : Frag} (h : ∀ i j d, f i j = some d → ∀ F, Rep K F (g i j) d) : RF K (rI0 g) (dI f) := ⟨fun F H x y dx dy d Q s rx ry e k => by
  unfold dI at e
  split at e
  · cases rx; cases ry
    exact ⟨_, _, rfl, rfl, k _ (h _ _ _ e F)⟩
  · cases e⟩
def gAdd : D → D → Option D := dI fun i j => some (.int (i + j))
def gSub : D → D → Option D := dI fun i j => some (.int (i - j))
def gMul : D → D → Option D := dI fun i j => if (-(2 ^ 64) < i ∧ i < 2 ^ 64) ∨ (-(2 ^ 64) < j ∧ j < 2 ^ 64) then some (.int (i * j)) else none
def gDiv : D → D → Option D := dI fun i j => if 0 < j ∧ j < 1073741824 then some (.int (i / j)) else none
def gMod : D → D → Option D := dI fun i j => if 0 < j then some (.int (i % j)) else none
def gPow : D → D → Option D := dI fun i j => if 0 ≤ j ∧ j ≤ 1000000 ∧ i.natAbs < 2 ^ 64 then some (.int (i ^ j.toNat)) else none
def gLt : D → D → Option D := dI fun i j => some (.bool (decide (i < j)))
def gLe : D → D → Option D := dI fun i j => some (.bool (decide (i ≤ j)))
def gGt : D → D → Option D := dI fun i j => some (.bool (decide (j < i)))
def gGe : D → D → Option D := dI fun i j => some (.bool (decide (j ≤ i)))
section
variable {K : Frag}
theorem rf_sub : RF K (rI0 fun i j => .int (i - j)) gSub := rf_I0 fun i j d e F => by cases e; exact .int _
theorem rf_mul : RF K (rI CMul fun i j => .int (i * j)) gMul := rf_I fun i j d e => by
  split at e
  · rename_i h; cases e; exact ⟨h, fun _ => .int _⟩
  · cases e
theorem rf_div : RF K (rI CDiv fun i j => .int (i / j)) gDiv := rf_I fun i j d e => by
  split at e
  · rename_i h; cases e; exact ⟨h, fun _ => .int _⟩
  · cases e
theorem rf_mod : RF K (rI (fun _ j => 0 < j) fun i j => .int (i % j)) gMod := rf_I fun i j d e => by
  split at e
  · rename_i h; cases e; exact ⟨h, fun _ => .int _⟩
  · cases e
theorem rf_pow : RF K (rI CPow fun i j => .int (i ^ j.toNat)) gPow := rf_I fun i j d e => by
  split at e
  · rename_i h; cases e; exact ⟨h, fun _ => .int _⟩
  · cases e
theorem rf_le : RF K (rI0 fun i j => .bl (decide (i ≤ j))) gLe := rf_I0 fun i j d e F => by cases e; exact .bl _
theorem rf_gt : RF K (rI0 fun i j => .bl (decide (j < i))) gGt := rf_I0 fun i j d e F => by cases e; exact .bl _
theorem rf_ge : RF K (rI0 fun i j => .bl (decide (j ≤ i))) gGe := rf_I0 fun i j d e F => by cases e; exact .bl _
/-- == and != of data -/
def gEq : D → D → Option D := fun d e => if SeqAt.shaped d = true ∧ SeqAt.shaped e = true then some (.bool (PyData.eqv d e)) else none
def gNe : D → D → Option D := fun d e => if SeqAt.shaped d = true ∧ SeqAt.shaped e = true then some (.bool (!PyData.eqv d e)) else none
theorem rf_eq : RF K (rEqD K) gEq := ⟨fun F H x y dx dy d Q s rx ry e k => by
  unfold gEq at e
  split at e
  · rename_i h; cases e; exact ⟨dx, dy, rx.dp s (SeqAt.canLay_of_shaped h.1), ry.dp s (SeqAt.canLay_of_shaped h.2), h.1, h.2, k _ (.bl _)⟩
  · cases e⟩
theorem rf_ne : RF K (rNeD K) gNe := ⟨fun F H x y dx dy d Q s rx ry e k => by
  unfold gNe at e
  split at e
  · rename_i h; cases e; exact ⟨dx, dy, rx.dp s (SeqAt.canLay_of_shaped h.1), ry.dp s (SeqAt.canLay_of_shaped h.2), h.1, h.2, k _ (.bl _)⟩
  · cases e⟩
def isNone : D → Bool
  | .none => true
  | _ => false
def gIs : D → D → Option D
  | d, .none => some (.bool (isNone d))
  | _, _ => none
def gIsNot : D → D → Option D
  | d, .none => some (.bool (!isNone d))
  | _, _ => none
theorem isNone_of {F : Hp} {x : V} {d : D} (r : Rep K F x d) : decide (x = .non) = isNone d := by
  cases r <;> simp [isNone]
theorem rf_is : RF K (fun x y H Q => y = .non ∧ Q (.bl (decide (x = .non))) H) gIs := ⟨fun F H x y dx dy d Q s rx ry e k => by
  cases ry <;> simp [gIs] at e
  subst e
  exact ⟨rfl, by rw [isNone_of rx]; exact k _ (.bl _)⟩⟩
theorem rf_isNot : RF K (fun x y H Q => y = .non ∧ Q (.bl (!decide (x = .non))) H) gIsNot := ⟨fun F H x y dx dy d Q s rx ry e k => by
  cases ry <;> simp [gIsNot] at e
  subst e
  exact ⟨rfl, by rw [isNone_of rx]; exact k _ (.bl _)⟩⟩
end

/-! ### and, or, not -/
def bAnd (f g : BF) : BF := fun env => (f env).bind fun a => if a.1 = true then g a.2 else some (false, a.2)
def bOr (f g : BF) : BF := fun env => (f env).bind fun a => if a.1 = true then some (true, a.2) else g a.2
def bNot (f : BF) : BF := fun env => (f env).map fun a => (!a.1, a.2)
variable {rest : List Expr} {t1 t2 : BF}
theorem ZW.zt {e : Expr} (h : ZW X e t1) : ZT X e t1 := ⟨fun b => PW.pt (h.pw b)⟩
theorem zw_or1 (ha : ZT X a t1) : ZW X (.BoolOp .Or [a] pos) t1 := ⟨fun b => pw_or1 (ha.pt b)⟩
theorem zw_or (ha : ZT X a t1) (hb : ZW X (.BoolOp .Or (c :: rest) pos) t2) : ZW X (.BoolOp .Or (a :: c :: rest) pos) (bOr t1 t2) :=
  ⟨fun b => pwOf (pw_or (ha.pt b) (hb.pw b)) fun σ H Q ⟨F, env, d, env', S, e, k⟩ => by
    unfold bOr at e
    obtain ⟨⟨d1, e1⟩, h1, h⟩ := Option.bind_eq_some_iff.mp e
    refine ⟨F, env, d1, e1, S, h1, fun F1 H1 l1 S1 => ?_⟩
    cases d1 with
    | false => exact iteF ⟨F1, e1, d, env', S1, h, fun F2 H2 l2 S2 => k F2 H2 (l1.trans l2) S2⟩
    | true => simp at h; obtain ⟨rfl, rfl⟩ := h; exact iteT (k F1 H1 l1 S1)⟩
theorem zt_not (ha : ZT X a t1) : ZT X (.UnaryOp .Not a pos) (bNot t1) :=
  ⟨fun b => ptOf (pt_not (ha.pt b)) fun σ H Q ⟨F, env, d, env', S, e, k⟩ => by
    unfold bNot at e
    obtain ⟨⟨d1, e1⟩, h1, h⟩ := Option.map_eq_some_iff.mp e
    cases h
    exact ⟨F, env, d1, e1, S, h1, k⟩⟩
def eAnd (f g : EF) : EF := fun env => (f env).bind fun a => match a.1 with
  | .bool true => g a.2
  | .bool false => some (.bool false, a.2)
  | _ => none
def eOr (f g : EF) : EF := fun env => (f env).bind fun a => match a.1 with
  | .bool true => some (.bool true, a.2)
  | .bool false => g a.2
  | _ => none
def eNot (f : EF) : EF := fun env => (f env).bind fun a => match a.1 with
  | .bool k => some (.bool (!k), a.2)
  | _ => none
theorem ze_one {op} (h : ZE X a f1) : ZE X (.BoolOp op [a] pos) f1 := ⟨fun b => pe_one (h.pe b)⟩
theorem ze_and (ha : ZE X a f1) (hb : ZE X (.BoolOp .And (c :: rest) pos) f2) : ZE X (.BoolOp .And (a :: c :: rest) pos) (eAnd f1 f2) :=
  ⟨fun b => peOf (pe_and (ha.pe b) (hb.pe b)) fun σ H Q ⟨F, env, d, env', S, e, k⟩ => by
    unfold eAnd at e
    obtain ⟨⟨d1, e1⟩, h1, h⟩ := Option.bind_eq_some_iff.mp e
    refine ⟨F, env, d1, e1, S, h1, fun v F1 H1 l1 S1 r => ?_⟩
    cases d1 <;> simp at h
    rename_i kb
    cases r
    refine ⟨kb, rfl, ?_⟩
    cases kb with
    | true => exact iteT ⟨F1, e1, d, env', S1, h, fun v F2 H2 l2 S2 r2 => k v F2 H2 (l1.trans l2) S2 r2⟩
    | false => obtain ⟨rfl, rfl⟩ := h; exact iteF (k _ F1 H1 l1 S1 (.bl _))⟩
theorem ze_or (ha : ZE X a f1) (hb : ZE X (.BoolOp .Or (c :: rest) pos) f2) : ZE X (.BoolOp .Or (a :: c :: rest) pos) (eOr f1 f2) :=
  ⟨fun b => peOf (pe_or (ha.pe b) (hb.pe b)) fun σ H Q ⟨F, env, d, env', S, e, k⟩ => by
    unfold eOr at e
    obtain ⟨⟨d1, e1⟩, h1, h⟩ := Option.bind_eq_some_iff.mp e
    refine ⟨F, env, d1, e1, S, h1, fun v F1 H1 l1 S1 r => ?_⟩
    cases d1 <;> simp at h
    rename_i kb
    cases r
    refine ⟨kb, rfl, ?_⟩
    cases kb with
    | false => exact iteF ⟨F1, e1, d, env', S1, h, fun v F2 H2 l2 S2 r2 => k v F2 H2 (l1.trans l2) S2 r2⟩
    | true => obtain ⟨rfl, rfl⟩ := h; exact iteT (k _ F1 H1 l1 S1 (.bl _))⟩
def eIf (t : BF) (f g : EF) : EF := fun env => (t env).bind fun a => if a.1 = true then f a.2 else g a.2
theorem ze_if {e1 e2 : Expr} (hc : ZT X c t1) (ha : ZE X e1 f1) (hb : ZE X e2 f2) : ZE X (.IfExp c e1 e2 pos) (eIf t1 f1 f2) :=
  ⟨fun b => peOf (pe_ifExp (hc.pt b) (ha.pe b) (hb.pe b)) fun σ H Q ⟨F, env, d, env', S, e, k⟩ => by
    unfold eIf at e
    obtain ⟨⟨d1, e1⟩, h1, h⟩ := Option.bind_eq_some_iff.mp e
    refine ⟨F, env, d1, e1, S, h1, fun F1 H1 l1 S1 => ?_⟩
    cases d1 with
    | true => exact iteT ⟨F1, e1, d, env', S1, h, fun v F2 H2 l2 S2 r2 => k v F2 H2 (l1.trans l2) S2 r2⟩
    | false => exact iteF ⟨F1, e1, d, env', S1, h, fun v F2 H2 l2 S2 r2 => k v F2 H2 (l1.trans l2) S2 r2⟩⟩

/-! ### argument lists, displays -/
def aNil : AF := fun env => some ([], env)
def aCons (f : EF) (g : AF) : AF := fun env => (f env).bind fun a => (g a.2).map fun c => (a.1 :: c.1, c.2)
variable {es : List Expr} {g1 : AF}
theorem za_nil : ZA X [] aNil := ⟨fun b => paOf pa_nil fun σ H Q ⟨F, env, d, env', S, e, k⟩ => by cases e; exact k [] F H .refl S .nil⟩
theorem za_cons {e : Expr} (ha : ZE X e f1) (hr : ZA X es g1) (hs : starEach (e :: es) X.env = (false, eval e X.env) :: starEach es X.env := by rfl) : ZA X (e :: es) (aCons f1 g1) :=
  ⟨fun b => paOf (pa_cons (ha.pe b) (hr.pa b) hs) fun σ H Q ⟨F, env, d, env', S, e, k⟩ => by
    unfold aCons at e
    obtain ⟨⟨d1, e1⟩, h1, h⟩ := Option.bind_eq_some_iff.mp e
    obtain ⟨⟨d2, e2⟩, h2, h⟩ := Option.map_eq_some_iff.mp h
    cases h
    exact ⟨F, env, d1, e1, S, h1, fun v1 F1 H1 l1 S1 r1 => ⟨F1, e1, d2, _, S1, h2, fun v2 F2 H2 l2 S2 r2 => k _ F2 H2 (l1.trans l2) S2 (.cons (r1.mono l2) r2)⟩⟩⟩
def eTup (g : AF) : EF := fun env => (g env).bind fun a => if a.1.length ≤ sizeLine then some (.tuple a.1, a.2) else none
def eLst (g : AF) : EF := fun env => (g env).bind fun a => if a.1.length ≤ sizeLine then some (.list a.1, a.2) else none
theorem ze_tup {x1} (h : ZA X es g1) : ZE X (.Tuple es x1 pos) (eTup g1) := ⟨fun b => peOf (pe_tup (h.pa b)) fun σ H Q ⟨F, env, d, env', S, e, k⟩ => by
  unfold eTup at e
  obtain ⟨⟨d1, e1⟩, h1, h⟩ := Option.bind_eq_some_iff.mp e
  split at h
  · rename_i hl
    cases h
    exact ⟨F, env, d1, _, S, h1, fun v F1 H1 l1 S1 r => ⟨by rw [r.len]; exact hl, fun p hp => k _ (upd F1 p (.tup v)) _ (l1.trans (.upd (S1.fF hp))) (S1.new hp) (.tup upd_same (r.mono (.upd (S1.fF hp))))⟩⟩
  · cases h⟩
theorem zo_lst (h : ZA X es g1) : ZO X (.List es pos) (eLst g1) := ⟨fun b => peOf (pe_lst (h.pa b)) fun σ H Q ⟨F, env, d, env', S, e, k⟩ => by
  unfold eLst at e
  obtain ⟨⟨d1, e1⟩, h1, h⟩ := Option.bind_eq_some_iff.mp e
  split at h
  · rename_i hl
    cases h
    exact ⟨F, env, d1, _, S, h1, fun v F1 H1 l1 S1 r => ⟨by rw [r.len]; exact hl, fun p hp => k p F1 _ l1 (S1.lay hp) ⟨⟨v, upd_same, r⟩, S1.fF hp, .inl (S1.fB hp), S1.free hp⟩⟩⟩
  · cases h⟩
/-- a new thing that is let go stands still -/
theorem Fresh.rep {K : Frag} {b : Bs} {F H : Hp} {σ : St} {env : En} {p : Addr} {d : D} (f : Fresh K b F H σ env p d) (S : SOk K b F H σ env) : ∃ F', Le F F' ∧ SOk K b F' H σ env ∧ Rep K F' (.ref p) d := by
  obtain ⟨a, nF, nB, fr⟩ := f
  obtain ⟨o, hp, R⟩ := ownFrz a nF
  exact ⟨_, .upd nF, S.frz hp nF nB fr, R⟩
theorem ZO.ze {e : Expr} (h : ZO X e f1) : ZE X e f1 := ⟨fun b => peOf (h.pe b) fun σ H Q ⟨F, env, d, env', S, e, k⟩ => ⟨F, env, d, env', S, e, fun p F1 H1 l1 S1 f => by
  obtain ⟨F2, l2, S2, r⟩ := f.rep S1
  exact k _ F2 H1 (l1.trans l2) S2 r⟩⟩
end
end Z

namespace Z
open PySem PySem.Spec PyProof.Rows L2
section
variable {X : Cx} {a c : Expr} {f1 f2 f3 : EF} {pos : Pos} {es : List Expr} {g1 : AF}

/-! ### items -/
theorem RepAll.atI {K : Frag} {F : Hp} {vs : List V} {ds : List D} {i : Int} {d : D} (r : RepAll K F vs ds) (h : L2.atI ds i = some d) : ∃ v, L2.atI vs i = some v ∧ Rep K F v d := by
  unfold L2.atI at h ⊢
  rw [r.len]
  obtain ⟨j, h1, h2⟩ := Option.bind_eq_some_iff.mp h
  rw [h1]
  exact r.get h2
def gIx : D → D → Option D
  | .list ds, .int i => L2.atI ds i
  | .tuple ds, .int i => L2.atI ds i
  | _, _ => none
theorem rf_ix {K : Frag} : RF K (rIx K) gIx := ⟨fun F H x y dx dy d Q s rx ry e k => by
  cases rx with
  | lst h r =>
    cases ry <;> simp [gIx] at e
    obtain ⟨v, h1, h2⟩ := r.atI e
    exact .inl ⟨_, _, _, v, rfl, rfl, h.sq s, h1, k v h2⟩
  | tup h r =>
    cases ry <;> simp [gIx] at e
    obtain ⟨v, h1, h2⟩ := r.atI e
    exact .inr (.inl ⟨_, _, _, v, rfl, rfl, h.sq s, h1, k v h2⟩)
  | _ => simp [gIx] at e⟩
theorem ze_ix (ha : ZE X a f1) (hc : ZE X c f2) (hs : PlainIx c) : ZE X (.Subscript a c pos) (eBin gIx f1 f2) :=
  ⟨fun b => peOf (pe_ix ix_seq (ha.pe b) (hc.pe b) hs) fun σ H Q h => tOp_of rf_ix h⟩
/-- x[e], the list that the name alone holds -/
def eIxB (i : Nat) (f : EF) : EF := fun env => match env[i]? with
  | some (some (.own _)) => (f env).bind fun a => match a.2[i]?, a.1 with
    | some (some (.own (.list ds))), .int k => (L2.atI ds k).map fun d => (d, a.2)
    | _, _ => none
  | _ => none
theorem ze_ixB (i : Nat) {x : Str} {p2 : Pos} (hc : ZE X c f2) (hs : PlainIx c) (hN : X.N[i]? = some x := by rfl) (hv : Vis X.env.scope x := by first | exact Or.inl rfl | exact Or.inr (Or.inl rfl) | exact Or.inr (Or.inr rfl)) (hd : (x == ("__debug__" : Str)) = false := by decide)
    (hcd : (x == ("__classdict__" : Str)) = false := by decide) : ZE X (.Subscript (.Name x p2) c pos) (eIxB i f2) :=
  ⟨fun b => peOf (pe_ix ix_seq (pe_var hN hv hd hcd) (hc.pe b) hs) fun σ H Q ⟨F, env, d, env', S, e, k⟩ => by
    unfold eIxB at e
    split at e
    · rename_i d0 he0
      obtain ⟨⟨d1, e1⟩, h1, h⟩ := Option.bind_eq_some_iff.mp e
      split at h
      · rename_i ds z h2 h3
        obtain ⟨d2, h4, h5⟩ := Option.map_eq_some_iff.mp h
        cases h5
        obtain ⟨p, q1, q2⟩ := S.own i _ he0
        refine ⟨.ref p, q1, F, env, d1, _, S, h1, fun v F1 H1 l1 S1 r => ?_⟩
        dsimp only at h3
        subst h3
        cases r
        obtain ⟨p', g1, ⟨vs, g2, g3⟩, _⟩ := S1.own i _ h2
        rw [q1] at g1; cases g1
        obtain ⟨v, m1, m2⟩ := g3.atI h4
        exact .inl ⟨p, vs, z, v, rfl, rfl, SqL.of g2, m1, k v F1 H1 l1 S1 m2⟩
      · cases h
    · cases e⟩

/-! ### slices -/
abbrev OF := En → Option (Option Int × En)
def zP (K : Frag) (b : Bs) (f : OF) : TO := fun σ H Q => ∃ F env d env', SOk K b F H σ env ∧ f env = some (d, env') ∧ ∀ F' H', Le F F' → SOk K b F' H' σ env' → Q d H'
structure ZP (X : Cx) (e : Option Expr) (f : OF) : Prop where
  po : ∀ b, PO X e (zP X.K b f)
def oNone : OF := fun env => some (none, env)
def oSome (f : EF) : OF := fun env => (f env).bind fun a => match a.1 with
  | .int i => some (some i, a.2)
  | _ => none
def cutD (xs : List D) (lo hi : Option Int) : List D := (xs.drop (HT.sIx xs.length 0 lo)).take (HT.sIx xs.length xs.length hi - HT.sIx xs.length 0 lo)
theorem RepAll.cut {K : Frag} {F : Hp} {vs : List V} {ds : List D} (r : RepAll K F vs ds) (lo hi : Option Int) : RepAll K F (cutV vs lo hi) (cutD ds lo hi) := by
  unfold cutV cutD
  rw [r.len]
  exact (r.drop _).take _
def eSl (f : EF) (g h : OF) : EF := fun env => (f env).bind fun a => (g a.2).bind fun l => (h l.2).bind fun u => match a.1 with
  | .list ds => some (.list (cutD ds l.1 u.1), u.2)
  | _ => none
variable {lo hi : Option Expr} {ol oh : OF} {p2 : Pos}
/-- xs[::-1] of a list: a new list -/
def rSlR (K : Frag) : V → Hp → VK → Prop := fun x H Q => ∃ a xs, x = .ref a ∧ SqL K H a xs ∧ ∀ p, H p = none → Q (.ref p) (upd H p (.lst xs.reverse))
def eRev (f : EF) : EF := fun env => (f env).bind fun a => match a.1 with
  | .list ds => some (.list ds.reverse, a.2)
  | _ => none
/-! ### xs + ys -/
def rCatS (K : Frag) : R2 := fun x y H Q => ∃ l b xs zs, x = .ref l ∧ y = .ref b ∧ SqL K H l xs ∧ SqL K H b zs ∧ xs.length + zs.length ≤ sizeLine ∧ ∀ p, H p = none → Q (.ref p) (upd H p (.lst (xs ++ zs)))
theorem op_catS : OpR X (binaryOp .Add) (rCatS X.K) := by
  intro pins s σ H x y v u Q I rx ry h
  obtain ⟨l, b, xs, zs, rfl, rfl, hH, hB, hz, q⟩ := h
  cases rx
  cases ry
  obtain ⟨its, r, hl, z⟩ := I.list hH
  obtain ⟨its2, r2, hl2, z2⟩ := I.list hB
  have e1 := r.length
  have e2 := r2.length
  obtain ⟨⟨cls, dd, data, sl⟩, n, ho, hc, hdn, hd⟩ := hl
  obtain ⟨⟨cls2, dd2, data2, sl2⟩, n2, ho2, hc2, hdn2, hd2⟩ := hl2
  simp only at hc hd hc2 hd2
  subst hc hd hc2 hd2
  have ea : its.toArray ++ its2.toArray = (its ++ its2).toArray := by simp
  refine PySem.concat_meets ⟨_, ho, rfl⟩ ⟨_, ho2, rfl⟩ noFill_list_add seq_list_add PySem.F.slot_list_add PySem.F.entry_list_add (PySem.F.args_list_add_2 _ _) (list_addW l b its.toArray its2.toArray n n2 dd dd2 sl sl2 (by rw [List.size_toArray, List.size_toArray]; omega)) ⟨ho, ho2, ?_⟩
  rw [ea]
  exact ⟨.ref _, _, I.lnew (t' := s.toks) (r.append r2) (by rw [List.length_append]; omega), rfl, q _ I.fresh⟩
def gCat : D → D → Option D
  | .list xs, .list ys => if xs.length + ys.length ≤ sizeLine then some (.list (xs ++ ys)) else none
  | _, _ => none
/-! ### calls of built-ins -/
structure CF (K : Frag) (r : List V → Hp → VK → Prop) (g : List D → Option D) : Prop where
  go : ∀ (F H : Hp) (vs : List V) (ds : List D) (d : D) (Q : VK), Sub F H → RepAll K F vs ds → g ds = some d → (∀ v, Rep K F v d → Q v H) → r vs H Q
def eCB (g : List D → Option D) (f : AF) : EF := fun env => (f env).bind fun a => (g a.1).map fun d => (d, a.2)
theorem tCB_of {r : List V → Hp → VK → Prop} {g : List D → Option D} {b : Bs} {fa : AF} (hr : CF X.K r g) {σ : St} {H : Hp} {Q : VK} (h : zE X.K b (eCB g fa) σ H Q) : tCB r (zA X.K b fa) σ H Q := by
  obtain ⟨F, env, d, env', S, e, k⟩ := h
  unfold eCB at e
  obtain ⟨⟨d1, e1⟩, h1, h⟩ := Option.bind_eq_some_iff.mp e
  obtain ⟨d2, h2, h3⟩ := Option.map_eq_some_iff.mp h
  cases h3
  exact ⟨F, env, d1, _, S, h1, fun v F1 H1 l1 S1 r => hr.go F1 H1 v d1 _ Q S1.sub r h2 fun v r2 => k v F1 H1 l1 S1 r2⟩
variable {e : Expr} {x : Str} {p : Pos} {id T : String} {r : List V → Hp → VK → Prop} {gd : List D → Option D}
theorem ze_callB (hc : CallR X (.builtin id) r) (hr : CF X.K r gd) (hm : X.mg x = none) (hv : bootBuiltins x = some (.builtin id)) (ha : ZA X (e :: es) g1) (hg : Gl X x := by rfl) (hn : x ≠ "__name__" := by decide) (hdb : (x == ("__debug__" : Str)) = false := by decide)
    (he : starEach (e :: es) X.env = (false, eval e X.env) :: starEach es X.env := by rfl) (hpl : (backTo pos (starEach es X.env)).any (·.1) = false := by rfl) : ZE X (.Call (.Name x p) (e :: es) [] pos) (eCB gd g1) :=
  ⟨fun b => peOf (pe_callB hc hg hm hv (ha.pa b) hn hdb he hpl) fun σ H Q h => tCB_of hr h⟩
theorem ze_callTy (hc : CallR X (.type T) r) (hr : CF X.K r gd) (hm : X.mg x = none) (hv : bootBuiltins x = some (.type T)) (ha : ZA X (e :: es) g1) (hg : Gl X x := by rfl) (hn : x ≠ "__name__" := by decide) (hdb : (x == ("__debug__" : Str)) = false := by decide)
    (he : starEach (e :: es) X.env = (false, eval e X.env) :: starEach es X.env := by rfl) (hpl : (backTo pos (starEach es X.env)).any (·.1) = false := by rfl) : ZE X (.Call (.Name x p) (e :: es) [] pos) (eCB gd g1) :=
  ⟨fun b => peOf (pe_callTy hc hg hm hv (ha.pa b) hn hdb he hpl) fun σ H Q h => tCB_of hr h⟩
def gLen : List D → Option D
  | [.list ds] => some (.int ds.length)
  | [.tuple ds] => some (.int ds.length)
  | _ => none
theorem cf_len {K : Frag} : CF K (fun xs H Q => ∃ p ys, xs = [.ref p] ∧ (SqL K H p ys ∨ SqT K H p ys) ∧ Q (.int ys.length) H) gLen := ⟨fun F H vs ds d Q s r e k => by
  unfold gLen at e
  split at e
  · cases e
    cases r with
    | cons r1 r2 =>
      cases r2
      cases r1 with
      | lst hs r => exact ⟨_, _, rfl, .inl (hs.sq s), by rw [r.len]; exact k _ (.int _)⟩
  · cases e
    cases r with
    | cons r1 r2 =>
      cases r2
      cases r1 with
      | tup hs r => exact ⟨_, _, rfl, .inr (hs.sq s), by rw [r.len]; exact k _ (.int _)⟩
  · cases e⟩
def gMin2 : List D → Option D
  | [.int i, .int j] => some (.int (if j < i then j else i))
  | _ => none
def gMax2 : List D → Option D
  | [.int i, .int j] => some (.int (if j > i then j else i))
  | _ => none
def gInt1 : List D → Option D
  | [.int i] => some (.int i)
  | [.bool k] => some (.int (if k then 1 else 0))
  | _ => none
def bools : List D → Option (List Bool)
  | [] => some []
  | .bool k :: ds => (bools ds).map (k :: ·)
  | _ => none
theorem RepAll.bools {K : Frag} {F : Hp} : ∀ {vs : List V} {ds : List D} {bs : List Bool}, RepAll K F vs ds → Z.bools ds = some bs → vs = bs.map V.bl
  | _, _, _, .nil, e => by cases e; rfl
  | _, d :: ds, bs, .cons r1 r2, e => by
    cases r1 with
    | bl k =>
      obtain ⟨bs', h1, h2⟩ := Option.map_eq_some_iff.mp e
      cases h2
      rw [RepAll.bools r2 h1]; rfl
    | _ => cases e
def gAll : List D → Option D
  | [.list ds] => (bools ds).map fun bs => .bool (bs.all _root_.id)
  | _ => none
def gAny : List D → Option D
  | [.list ds] => (bools ds).map fun bs => .bool (bs.any _root_.id)
  | _ => none
theorem cf_all {K : Frag} : CF K (rAll K) gAll := ⟨fun F H vs ds d Q s r e k => by
  unfold gAll at e
  split at e
  · obtain ⟨bs, h1, h2⟩ := Option.map_eq_some_iff.mp e
    cases h2
    cases r with
    | cons r1 r2 =>
      cases r2
      cases r1 with
      | lst hs r => exact ⟨_, bs, rfl, by rw [← r.bools h1]; exact hs.sq s, k _ (.bl _)⟩
  · cases e⟩
/-- list(x): a new list -/
def eList (f : AF) : EF := fun env => (f env).bind fun a => match a.1 with
  | [.list ds] => some (.list ds, a.2)
  | [.tuple ds] => some (.list ds, a.2)
  | _ => none
theorem zo_list (hm : X.mg "list" = none) (ha : ZA X [e] g1) (hg : Gl X "list" := by rfl) 
    (he : starEach [e] X.env = (false, eval e X.env) :: starEach [] X.env := by rfl) (hpl : (backTo pos (starEach [] X.env)).any (·.1) = false := by rfl) : ZO X (.Call (.Name "list" p) [e] [] pos) (eList g1) :=
  ⟨fun b => peOf (pe_callTy call_list_of hg hm (by decide +kernel) (ha.pa b) (by decide) (by decide) he hpl) fun σ H Q ⟨F, env, d, env', S, e, k⟩ => by
    unfold eList at e
    obtain ⟨⟨d1, e1⟩, h1, h⟩ := Option.bind_eq_some_iff.mp e
    refine ⟨F, env, d1, e1, S, h1, fun v F1 H1 l1 S1 r => ?_⟩
    dsimp only at h
    split at h
    · cases h
      cases r with
      | cons r1 r2 =>
        cases r2
        cases r1 with
        | lst hs r => exact ⟨_, _, rfl, .inl (hs.sq S1.sub), fun p hp => k p F1 _ l1 (S1.lay hp) ⟨⟨_, upd_same, r⟩, S1.fF hp, .inl (S1.fB hp), S1.free hp⟩⟩
    · cases h
      cases r with
      | cons r1 r2 =>
        cases r2
        cases r1 with
        | tup hs r => exact ⟨_, _, rfl, .inr (hs.sq S1.sub), fun p hp => k p F1 _ l1 (S1.lay hp) ⟨⟨_, upd_same, r⟩, S1.fF hp, .inl (S1.fB hp), S1.free hp⟩⟩
    · cases h⟩
/-- tuple(x) -/
def eTuple (f : AF) : EF := fun env => (f env).bind fun a => match a.1 with
  | [.list ds] => some (.tuple ds, a.2)
  | [.tuple ds] => some (.tuple ds, a.2)
  | _ => none
theorem ze_tuple (hm : X.mg "tuple" = none) (ha : ZA X [e] g1) (hg : Gl X "tuple" := by rfl) 
    (he : starEach [e] X.env = (false, eval e X.env) :: starEach [] X.env := by rfl) (hpl : (backTo pos (starEach [] X.env)).any (·.1) = false := by rfl) : ZE X (.Call (.Name "tuple" p) [e] [] pos) (eTuple g1) :=
  ⟨fun b => peOf (pe_callTy call_tuple_of hg hm (by decide +kernel) (ha.pa b) (by decide) (by decide) he hpl) fun σ H Q ⟨F, env, d, env', S, e, k⟩ => by
    unfold eTuple at e
    obtain ⟨⟨d1, e1⟩, h1, h⟩ := Option.bind_eq_some_iff.mp e
    refine ⟨F, env, d1, e1, S, h1, fun v F1 H1 l1 S1 r => ?_⟩
    dsimp only at h
    split at h
    · cases h
      cases r with
      | cons r1 r2 =>
        cases r2
        cases r1 with
        | lst hs r => exact ⟨_, _, rfl, .inl ⟨hs.sq S1.sub, fun p hp => k _ _ _ (l1.trans (.upd (S1.fF hp))) (S1.new hp) (.tup upd_same (r.mono (.upd (S1.fF hp))))⟩⟩
    · cases h
      cases r with
      | cons r1 r2 =>
        cases r2
        cases r1 with
        | tup hs r => exact ⟨_, _, rfl, .inr ⟨hs.sq S1.sub, k _ F1 H1 l1 S1 (.tup hs r)⟩⟩
    · cases h⟩
end
end Z

namespace Z
open PySem PySem.Spec PyProof.Rows L2

section
variable {K : Frag} {b : Bs} {F F' H H' : Hp} {σ : St} {env : En}
/-- a callee has run: it has added, and changed nothing -/
theorem SOk.grow (S : SOk K b F H σ env) (lF : Le F F') (sub : Sub F' H') (kp : ∀ a o, H a = some o → H' a = some o) (nF : NewF F H F') : SOk K b F' H' σ env where
  tab := S.tab
  sub := sub
  keep := fun a o e m => kp a o (S.keep a o e m)
  newF := fun a u e => by
    rcases nF a u e with z | z | z
    · exact S.newF a u z
    · exact .inr (.inl (S.fB z))
    · exact .inr (.inr (.inr z))
  le := S.le.trans lF
  len := S.len
  val := fun i d e => let ⟨v, h1, h2⟩ := S.val i d e; ⟨v, h1, h2.mono lF⟩
  own := fun i d e => by
    obtain ⟨p, h1, h2, h3, h4⟩ := S.own i d e
    obtain ⟨o, q⟩ := h2.some
    have h2' := (h2.mono lF).heap ((kp p o q).trans q.symm)
    refine ⟨p, h1, h2', ?_, h4⟩
    cases z : F' p with
    | none => rfl
    | some u =>
      rcases nF p u z with z | z | ⟨xs, rfl⟩
      · rw [h3] at z; cases z
      · rw [z] at q; cases q
      · exact (h2'.noTup (sub.rd z)).elim
  inj := S.inj
  io := S.io
  iom := fun a m => let ⟨o, e⟩ := S.iom a m; ⟨o, kp a o e⟩
end

/-! ### what a def promises: it reckons m upon data -/
def spP (K : Frag) (n : Nat) (m : List D → Option SV) : Sp := fun vs H Q _ => ∃ F ds r, (Sub F H ∧ TabF K F) ∧ vs.length = n ∧ RepAll K F vs ds ∧ m ds = some r ∧ match r with
  | .val d => ∀ v F' H', Le F F' → Sub F' H' → (∀ a o, H a = some o → H' a = some o) → NewF F H F' → Rep K F' v d → Q v H'
  | .own d => ∀ p F' H', Le F F' → Sub F' H' → (∀ a o, H a = some o → H' a = some o) → NewF F H F' → OwnAt K F' H' p d → F' p = none → H p = none → Q (.ref p) H'
/-- a def that changes its first argument -/
def spIO (K : Frag) (n : Nat) (m : D → List D → Option (SV × D)) : Sp := fun vs H Q _ => ∃ F q ws d0 ds r, (Sub F H ∧ TabF K F) ∧ vs = .ref q :: ws ∧ vs.length = n ∧ OwnAt K F H q d0 ∧ F q = none ∧ RepAll K F ws ds ∧ m d0 ds = some r ∧ match r.1 with
  | .val d => ∀ v F' H', Le F F' → Sub F' H' → (∀ a o, H a = some o → a ≠ q → H' a = some o) → NewF F H F' → OwnAt K F' H' q r.2 → Rep K F' v d → Q v H'
  | .own d => ∀ p F' H', Le F F' → Sub F' H' → (∀ a o, H a = some o → a ≠ q → H' a = some o) → NewF F H F' → OwnAt K F' H' q r.2 → OwnAt K F' H' p d → F' p = none → H p = none → Q (.ref p) H'

section
variable {X : Cx} {CX : CXT} {k : Nat} {f : Addr} {fd : FuncData} {ps : List Str} {n : Nat} {m : List D → Option SV} {mi : D → List D → Option (SV × D)} {x : Str} {p pos : Pos} {e : Expr} {es : List Expr} {g1 : AF}
def eCall (m : List D → Option SV) (f : AF) : EF := fun env => (f env).bind fun a => (m a.1).map fun r => (r.d, a.2)
def eCallO (m : List D → Option SV) (f : AF) : EF := fun env => (f env).bind fun a => (m a.1).bind fun r => match r with
  | .own d => some (d, a.2)
  | .val _ => none
theorem sp_val {b : Bs} {F H : Hp} {σ : St} {env : En} {vs : List V} {ds : List D} {r : SV} {Q : VK} {E : XK} (S : SOk X.K b F H σ env) (hl : vs.length = n) (rr : RepAll X.K F vs ds) (hm : m ds = some r)
    (k : ∀ v F' H', Le F F' → SOk X.K b F' H' σ env → Rep X.K F' v r.d → Q v H') : spP X.K n m vs H Q E := by
  refine ⟨F, ds, r, ⟨S.sub, S.tab.le S.le⟩, hl, rr, hm, ?_⟩
  cases r with
  | val d => exact fun v F' H' l sub kp nF r => k v F' H' l (S.grow l sub kp nF) r
  | own d =>
    intro p F' H' l sub kp nF r hF hH
    have S' := S.grow l sub kp nF
    have fr : Fresh X.K b F' H' σ env p d := ⟨r, hF, .inl (S.fB hH), fun i e he z => by
      obtain ⟨q, h1, h2, _⟩ := S.own i e he
      rw [h1] at z; cases z
      obtain ⟨o, h2⟩ := h2.some
      rw [hH] at h2; cases h2⟩
    obtain ⟨F2, l2, S2, r2⟩ := fr.rep S'
    exact k _ F2 H' (l.trans l2) S2 r2
theorem ze_call (G : FnOk X.prog X.w X.K X.mg X.base CX0 k f fd ps (spP X.K n m)) (hlen : ∀ ds r, m ds = some r → ds.length = n) (hr : Room k X.A) (hm : X.mg x = some (.ref f)) (hk : PySem.W.keepIn X.K (.ref f) = true) (hb : Binds X.K fd ps []) (ha : ZA X (e :: es) g1)
    (hg : Gl X x := by rfl) (hdb : (x == ("__debug__" : Str)) = false := by decide) (he : starEach (e :: es) X.env = (false, eval e X.env) :: starEach es X.env := by rfl) (hpl : (backTo pos (starEach es X.env)).any (·.1) = false := by rfl) :
    ZE X (.Call (.Name x p) (e :: es) [] pos) (eCall m g1) :=
  ⟨fun b => peOf (pe_call (E := E0) G hr hg hm hk hb .nil pass0 (ha.pa b) hdb he hpl) fun σ H Q ⟨F, env, d, env', S, e, k⟩ => by
    unfold eCall at e
    obtain ⟨⟨d1, e1⟩, h1, h⟩ := Option.bind_eq_some_iff.mp e
    obtain ⟨r, h2, h3⟩ := Option.map_eq_some_iff.mp h
    cases h3
    refine ⟨F, env, d1, _, S, h1, fun v F1 H1 l1 S1 r1 => ?_⟩
    show spP X.K n m (v ++ []) H1 Q E0
    rw [List.append_nil]
    exact sp_val S1 (by rw [r1.len]; exact hlen _ _ h2) r1 h2 fun v F2 H2 l2 S2 r2 => k v F2 H2 (l1.trans l2) S2 r2⟩
theorem zo_call (G : FnOk X.prog X.w X.K X.mg X.base CX0 k f fd ps (spP X.K n m)) (hlen : ∀ ds r, m ds = some r → ds.length = n) (hr : Room k X.A) (hm : X.mg x = some (.ref f)) (hk : PySem.W.keepIn X.K (.ref f) = true) (hb : Binds X.K fd ps []) (ha : ZA X (e :: es) g1)
    (hg : Gl X x := by rfl) (hdb : (x == ("__debug__" : Str)) = false := by decide) (he : starEach (e :: es) X.env = (false, eval e X.env) :: starEach es X.env := by rfl) (hpl : (backTo pos (starEach es X.env)).any (·.1) = false := by rfl) :
    ZO X (.Call (.Name x p) (e :: es) [] pos) (eCallO m g1) :=
  ⟨fun b => peOf (pe_call (E := E0) G hr hg hm hk hb .nil pass0 (ha.pa b) hdb he hpl) fun σ H Q ⟨F, env, d, env', S, e, k⟩ => by
    unfold eCallO at e
    obtain ⟨⟨d1, e1⟩, h1, h⟩ := Option.bind_eq_some_iff.mp e
    obtain ⟨r, h2, h3⟩ := Option.bind_eq_some_iff.mp h
    cases r with
    | val _ => cases h3
    | own d =>
      cases h3
      refine ⟨F, env, d1, _, S, h1, fun v F1 H1 l1 S1 r1 => ?_⟩
      show spP X.K n m (v ++ []) H1 Q E0
      rw [List.append_nil]
      refine ⟨F1, d1, .own d, ⟨S1.sub, S1.tab.le S1.le⟩, by rw [r1.len]; exact hlen _ _ h2, r1, h2, fun p F' H' l sub kp nF r hF hH => ?_⟩
      exact k p F' H' (l1.trans l) (S1.grow l sub kp nF) ⟨r, hF, .inl (S1.fB hH), fun i e he z => by
        obtain ⟨q, g1, g2, _⟩ := S1.own i e he
        rw [g1] at z; cases z
        obtain ⟨o, g2⟩ := g2.some
        rw [hH] at g2; cases g2⟩⟩
/-- f(x, ..): f changes the thing that the name alone holds -/
def eCallIO (i : Nat) (m : D → List D → Option (SV × D)) (f : AF) : EF := fun env => match env[i]? with
  | some (some (.own _)) => (f env).bind fun a => match a.2[i]? with
    | some (some (.own d0)) => (m d0 a.1).map fun r => (r.1.d, a.2.set i (some (.own r.2)))
    | _ => none
  | _ => none
theorem ze_callIO (i : Nat) {y : Str} {p2 : Pos} (G : FnOk X.prog X.w X.K X.mg X.base CX0 k f fd ps (spIO X.K (n + 1) mi)) (hlen : ∀ d ds r, mi d ds = some r → ds.length = n) (hr : Room k X.A) (hm : X.mg x = some (.ref f)) (hk : PySem.W.keepIn X.K (.ref f) = true) (hb : Binds X.K fd ps []) (ha : ZA X es g1)
    (hN : X.N[i]? = some y := by rfl) (hv : Vis X.env.scope y := by first | exact Or.inl rfl | exact Or.inr (Or.inl rfl) | exact Or.inr (Or.inr rfl)) (hd : (y == ("__debug__" : Str)) = false := by decide) (hcd : (y == ("__classdict__" : Str)) = false := by decide)
    (hg : Gl X x := by rfl) (hdb : (x == ("__debug__" : Str)) = false := by decide) (he : starEach (.Name y p2 :: es) X.env = (false, eval (.Name y p2) X.env) :: starEach es X.env := by rfl) (hpl : (backTo pos (starEach es X.env)).any (·.1) = false := by rfl) :
    ZE X (.Call (.Name x p) (.Name y p2 :: es) [] pos) (eCallIO i mi g1) :=
  ⟨fun b => peOf (pe_call (E := E0) G hr hg hm hk hb .nil pass0 (pa_cons (pe_var hN hv hd hcd) (ha.pa b) he) hdb he hpl) fun σ H Q ⟨F, env, d, env', S, e, k⟩ => by
    unfold eCallIO at e
    split at e
    · rename_i d0 he0
      obtain ⟨⟨d1, e1⟩, h1, h⟩ := Option.bind_eq_some_iff.mp e
      split at h
      · rename_i d2 he2
        obtain ⟨⟨r, d3⟩, h2, h3⟩ := Option.map_eq_some_iff.mp h
        cases h3
        obtain ⟨q, q1, q2⟩ := S.own i _ he0
        refine ⟨.ref q, q1, F, env, d1, e1, S, h1, fun v F1 H1 l1 S1 r1 => ?_⟩
        show spIO X.K (n + 1) mi ((.ref q :: v) ++ []) H1 Q E0
        rw [List.append_nil]
        obtain ⟨q', g1, g2, g3, g4⟩ := S1.own i _ he2
        rw [q1] at g1; cases g1
        refine ⟨F1, q, v, d2, d1, (r, d3), ⟨S1.sub, S1.tab.le S1.le⟩, rfl, by rw [List.length_cons, r1.len]; exact congrArg (· + 1) (hlen _ _ _ h2), g2, g3, r1, h2, ?_⟩
        have ne0 : ∀ {a : Addr}, H1 a = none → a ≠ q := fun {a} z e => by obtain ⟨o, w⟩ := g2.some; rw [e, w] at z; cases z
        cases r with
        | val d => exact fun v F' H' l sub kp nF ow r => k v F' H' (l1.trans l) (S1.put he2 q1 l sub kp nF ow) r
        | own d =>
          intro p F' H' l sub kp nF ow r hF hH
          have S2 := S1.put he2 q1 l sub kp nF ow
          have fr : Fresh X.K b F' H' σ (e1.set i (some (.own d3))) p d := ⟨r, hF, .inl (S1.fB hH), fun j e he z => by
            have own' : ∃ e', e1[j]? = some (some (SV.own e')) := by
              by_cases w : i = j
              · subst w; exact ⟨d2, he2⟩
              · rw [List.getElem?_set_ne w] at he; exact ⟨e, he⟩
            obtain ⟨e', he'⟩ := own'
            obtain ⟨q2, g1, g2, _⟩ := S1.own j e' he'
            rw [g1] at z; cases z
            obtain ⟨o, g2⟩ := g2.some
            rw [hH] at g2; cases g2⟩
          obtain ⟨F2, l2, S3, r2⟩ := fr.rep S2
          exact k _ F2 H' ((l1.trans l).trans l2) S3 r2
      · cases h
    · cases e⟩
end

/-! ### the targets of a loop, of a parallel store -/
def setAll (σ : St) : List Nat → List V → St
  | i :: is, v :: vs => setAll (σ.set i (some v)) is vs
  | _, _ => σ
def setAllE (env : En) : List Nat → List D → En
  | i :: is, d :: ds => setAllE (env.set i (some (.val d))) is ds
  | _, _ => env
theorem SOk.setAll {K : Frag} {b : Bs} {F H : Hp} : ∀ {is : List Nat} {vs : List V} {ds : List D} {σ : St} {env : En}, SOk K b F H σ env → (∀ i ∈ is, i ≠ 0) → RepAll K F vs ds → SOk K b F H (Z.setAll σ is vs) (setAllE env is ds)
  | [], _, _, _, _, S, _, _ => S
  | _ :: _, _, _, _, _, S, _, .nil => S
  | i :: is, v :: vs, d :: ds, σ, env, S, h0, .cons r1 r2 => by
    have S' := S.set (.inr (h0 i (List.mem_cons_self ..))) r1
    have := SOk.setAll (is := is) (vs := vs) (ds := ds) S' (fun j hj => h0 j (List.mem_cons_of_mem _ hj)) r2
    exact this
def zG (K : Frag) (is : List Nat) (f : D → Option (List D)) : TG := fun v σ H Q => ∃ F d ds, Sub F H ∧ Rep K F v d ∧ f d = some ds ∧ ∀ vs, RepAll K F vs ds → Q (setAll σ is vs) H
structure ZG (X : Cx) (tg : Expr) (is : List Nat) (f : D → Option (List D)) : Prop where
  pg : PG X tg (zG X.K is f)
theorem pgOf {X : Cx} {e : Expr} {t t' : TG} (h : PG X e t) (k : ∀ v σ H Q, t' v σ H Q → t v σ H Q) : PG X e t' := fun pins s σ H v u Q I r q => h pins s σ H v u Q I r (k _ _ _ _ q)
section
variable {X : Cx} {pos p1 p2 p3 : Pos} {x y z : Str}
def t1 : D → Option (List D) := fun d => some [d]
def tN (n : Nat) : D → Option (List D)
  | .tuple ds => if ds.length = n then some ds else none
  | _ => none
theorem zg_name (i : Nat) (hN : X.N.Nodup) (hi : X.N[i]? = some x := by rfl) (hx : Loc X.env.scope x := by first | exact Or.inl rfl | exact Or.inr rfl) (hf : X.fn x = true ∨ X.env.scope.names.lookup x = some .local := by first | exact .inl rfl | exact .inr rfl | assumption) : ZG X (.Name x pos) [i] t1 :=
  ⟨pgOf (pg_name hN hi hx hf) fun v σ H Q ⟨F, d, ds, s, r, e, k⟩ => by cases e; exact k [v] (.cons r .nil)⟩
theorem zg_tup2 (i j : Nat) {kk : Nat} (hc : X.calm = true) (hN : X.N.Nodup) (hi : X.N[i]? = some x := by rfl) (hx : Loc X.env.scope x := by first | exact Or.inl rfl | exact Or.inr rfl) (hf : X.fn x = true ∨ X.env.scope.names.lookup x = some .local := by first | exact .inl rfl | exact .inr rfl | assumption)
    (hj : X.N[j]? = some y := by rfl) (hy : Loc X.env.scope y := by first | exact Or.inl rfl | exact Or.inr rfl) (hfy : X.fn y = true ∨ X.env.scope.names.lookup y = some .local := by first | exact .inl rfl | exact .inr rfl | assumption) : ZG X (.Tuple [.Name x p1, .Name y p2] kk pos) [i, j] (tN 2) :=
  ⟨pgOf (pg_tup (n := 2) hc (pgs_cons (pg_name hN hi hx hf) (pgs_cons (pg_name hN hj hy hfy) pgs_nil))) fun v σ H Q ⟨F, d, ds, s, r, e, k⟩ => by
    cases r with
    | tup hs r =>
      simp only [tN] at e
      split at e
      · rename_i hl
        cases e
        have rl := r.len
        rw [hl] at rl
        refine ⟨_, _, rfl, hs.sq s, rl, ?_⟩
        cases r with
        | nil => simp at hl
        | cons r1 r2 =>
          cases r2 with
          | nil => simp at hl
          | cons r2 r3 =>
            cases r3 with
            | cons _ _ => simp at hl
            | nil => exact ⟨_, _, rfl, _, _, rfl, rfl, k _ (.cons r1 (.cons r2 .nil))⟩
      · cases e
    | _ => cases e⟩
end

/-! ### what is walked -/
def Walks (K : Frag) (b : Bs) (F : Hp) (J : It) (ds : List D) : Prop := ∀ (i : Nat) (F' H' : Hp), Le F F' → Sub F' H' → (∀ a o, b.B a = some o → ¬ b.mu a → H' a = some o) →
  (∀ d, ds[i]? = some d → J.go i H' ∧ ∀ v H2, J.yld i H' v H2 → ∃ F2, Le F' F2 ∧ Sub F2 H2 ∧ (∀ a o, H' a = some o → H2 a = some o) ∧ NewF F' H' F2 ∧ Rep K F2 v d) ∧
  (ds.length ≤ i → J.stop i H')
def zI (K : Frag) (b : Bs) (f : AF) : TI := fun σ H R => ∃ F env ds env', SOk K b F H σ env ∧ f env = some (ds, env') ∧ ∀ J F' H', Le F F' → SOk K b F' H' σ env' → Walks K b F' J ds → R J H'
def zIA (K : Frag) (b : Bs) (f : AF) : TI := fun σ H R => ∃ F env ds env', SOk K b F H σ env ∧ f env = some (ds, env') ∧ ∀ J F' H', Le F F' → SOk K b F' H' σ env' → (∀ b', Walks K b' F' J ds) → R J H'
theorem zIA_of {K : Frag} {b : Bs} {f : AF} (σ : St) (H : Hp) (R : It → Hp → Prop) (h : zI K b f σ H R) : zIA K b f σ H R := by
  obtain ⟨F, env, ds, env', S, e, k⟩ := h
  exact ⟨F, env, ds, env', S, e, fun J F' H' l S' w => k J F' H' l S' (w b)⟩
structure ZI (X : Cx) (tg iter : Expr) (f : AF) : Prop where
  pi : ∀ b, PI X tg iter (zIA X.K b f)
theorem piOf {X : Cx} {tg e : Expr} {t t' : TI} (h : PI X tg e t) (k : ∀ σ H R, t' σ H R → t σ H R) : PI X tg e t' := fun pins s σ H R I q => h pins s σ H R I (k _ _ _ q)
section
variable {X : Cx} {tg e e2 : Expr} {f1 : EF} {g1 : AF} {p pos tpos : Pos} {elts : List Expr} {kk : Nat}
def iL (f : EF) : AF := fun env => (f env).bind fun a => match a.1 with
  | .list ds => some (ds, a.2)
  | _ => none
def iT (f : EF) : AF := fun env => (f env).bind fun a => match a.1 with
  | .tuple ds => some (ds, a.2)
  | _ => none
theorem walks_list {K : Frag} {b : Bs} {F : Hp} {a : Addr} {xs : List V} {ds : List D} (hs : SeL K F a xs) (r : RepAll K F xs ds) : Walks K b F (Itl K a) ds := fun i F' H' l s _ => by
  have hq := (hs.mono l).sq s
  refine ⟨fun d h => ?_, fun h => ⟨xs, hq, by rw [r.len]; exact h⟩⟩
  obtain ⟨v, h1, h2⟩ := r.get h
  exact ⟨⟨xs, v, hq, h1⟩, fun w H2 ⟨e1, e2⟩ => by
    subst e1
    have := e2 xs hq
    rw [h1] at this
    cases this
    exact ⟨F', .refl, s, fun _ _ e => e, .refl, h2.mono l⟩⟩
theorem walks_tup {K : Frag} {b : Bs} {F : Hp} {a : Addr} {xs : List V} {ds : List D} (hs : SeT K F a xs) (r : RepAll K F xs ds) : Walks K b F (Itt K a) ds := fun i F' H' l s _ => by
  have hq := (hs.mono l).sq s
  refine ⟨fun d h => ?_, fun h => ⟨xs, hq, by rw [r.len]; exact h⟩⟩
  obtain ⟨v, h1, h2⟩ := r.get h
  exact ⟨⟨xs, v, hq, h1⟩, fun w H2 ⟨e1, e2⟩ => by
    subst e1
    have := e2 xs hq
    rw [h1] at this
    cases this
    exact ⟨F', .refl, s, fun _ _ e => e, .refl, h2.mono l⟩⟩
theorem zi_list (h : ZE X e f1) : ZI X tg e (iL f1) := ⟨fun b => piOf (pi_list (h.pe b)) fun σ H R ⟨F, env, d, env', S, e, k⟩ => by
  unfold iL at e
  obtain ⟨⟨d1, e1⟩, h1, h⟩ := Option.bind_eq_some_iff.mp e
  dsimp only at h
  split at h
  · cases h
    refine ⟨F, env, _, _, S, h1, fun v F1 H1 l1 S1 r => ?_⟩
    cases r with
    | lst hs r => exact ⟨_, rfl, ⟨_, hs.sq S1.sub⟩, k _ F1 H1 l1 S1 fun _ => walks_list hs r⟩
  · cases h⟩
theorem zi_tup (h : ZE X e f1) : ZI X tg e (iT f1) := ⟨fun b => piOf (pi_tup (h.pe b)) fun σ H R ⟨F, env, d, env', S, e, k⟩ => by
  unfold iT at e
  obtain ⟨⟨d1, e1⟩, h1, h⟩ := Option.bind_eq_some_iff.mp e
  dsimp only at h
  split at h
  · cases h
    refine ⟨F, env, _, _, S, h1, fun v F1 H1 l1 S1 r => ?_⟩
    cases r with
    | tup hs r => exact ⟨_, rfl, ⟨_, hs.sq S1.sub⟩, k _ F1 H1 l1 S1 fun _ => walks_tup hs r⟩
  · cases h⟩
def rngD (lo : Int) (n : Nat) : List D := (List.range n).map fun i => .int (lo + (i : Nat))
theorem walks_rng {K : Frag} {b : Bs} {F : Hp} (lo : Int) (n : Nat) : Walks K b F (Itr lo n) (rngD lo n) := fun i F' H' l s _ => by
  refine ⟨fun d h => ?_, fun h => ?_⟩
  · unfold rngD at h
    rw [List.getElem?_map] at h
    by_cases hi : i < n
    · rw [List.getElem?_range hi] at h
      cases h
      exact ⟨hi, fun v H2 ⟨e1, e2⟩ => by subst e1 e2; exact ⟨F', .refl, s, fun _ _ e => e, .refl, .int _⟩⟩
    · rw [List.getElem?_eq_none (by simpa using hi)] at h; cases h
  · unfold rngD at h
    rw [List.length_map, List.length_range] at h
    exact h
def iR1 (f : AF) : AF := fun env => (f env).bind fun a => match a.1 with
  | [.int j] => if -(2 ^ 62) ≤ j ∧ j < 2 ^ 62 then some (rngD 0 j.toNat, a.2) else none
  | _ => none
def iR2 (f : AF) : AF := fun env => (f env).bind fun a => match a.1 with
  | [.int i, .int j] => if -(2 ^ 62) ≤ i ∧ i < 2 ^ 62 ∧ -(2 ^ 62) ≤ j ∧ j < 2 ^ 62 then some (rngD i (j - i).toNat, a.2) else none
  | _ => none
theorem zi_range1 (hm : X.mg "range" = none) (ha : ZA X [e] g1) (hg : Gl X "range" := by rfl) (hs : starEach [e] X.env = [(false, eval e X.env)] := by rfl) : ZI X tg (.Call (.Name "range" p) [e] [] pos) (iR1 g1) :=
  ⟨fun b => piOf (pi_range1 hg hm (ha.pa b) hs) fun σ H R ⟨F, env, d, env', S, e, k⟩ => by
    unfold iR1 at e
    obtain ⟨⟨d1, e1⟩, h1, h⟩ := Option.bind_eq_some_iff.mp e
    dsimp only at h
    split at h
    · split at h
      · rename_i hh
        cases h
        refine ⟨F, env, _, _, S, h1, fun v F1 H1 l1 S1 r => ?_⟩
        cases r with
        | cons r1 r2 =>
          cases r2
          cases r1
          exact ⟨_, rfl, hh.1, hh.2, k _ F1 H1 l1 S1 fun _ => walks_rng _ _⟩
      · cases h
    · cases h⟩
theorem new2 {K : Frag} {F H : Hp} {T : Addr} {x y : V} {dx dy : D} (s : Sub F H) (hT : H T = none) (r1 : Rep K F x dx) (r2 : Rep K F y dy) :
    ∃ F2, Le F F2 ∧ Sub F2 (upd H T (.tup [x, y])) ∧ (∀ a o, H a = some o → upd H T (.tup [x, y]) a = some o) ∧ NewF F H F2 ∧ Rep K F2 (.ref T) (.tuple [dx, dy]) := by
  have hF : F T = none := by
    cases e : F T with
    | none => rfl
    | some u =>
      rcases s _ _ e with z | ⟨_, _, z⟩
      · rw [hT] at z; cases z
      · rw [hT] at z; cases z
  have l : Le F (upd F T (.tup [x, y])) := .upd hF
  refine ⟨upd F T (.tup [x, y]), l, fun a u e => ?_, fun a o e => by rw [upd_ne (ne_of_none e hT)]; exact e, fun a u e => ?_, .tup upd_same (.cons (r1.mono l) (.cons (r2.mono l) .nil))⟩
  · by_cases q : a = T
    · subst q; rw [upd_same] at e; cases e; exact .inl upd_same
    · rw [upd_ne q] at e
      rcases s a u e with z | ⟨nt, ob, z⟩
      · exact .inl (by rw [upd_ne q]; exact z)
      · exact .inr ⟨nt, ob, by rw [upd_ne q]; exact z⟩
  · by_cases q : a = T
    · subst q; exact .inr (.inl hT)
    · rw [upd_ne q] at e; exact .inl e
def enumD (n : Nat) : List D → List D
  | [] => []
  | d :: ds => .tuple [.int (n : Nat), d] :: enumD (n + 1) ds
theorem enumD_get : ∀ (ds : List D) (n i : Nat) (d : D), (enumD n ds)[i]? = some d → ∃ d', ds[i]? = some d' ∧ d = .tuple [.int ((n + i : Nat) : Int), d']
  | [], n, i, d, h => by simp [enumD] at h
  | x :: xs, n, 0, d, h => by simp [enumD] at h; subst h; exact ⟨x, rfl, rfl⟩
  | x :: xs, n, i + 1, d, h => by
    obtain ⟨d', h1, h2⟩ := enumD_get xs (n + 1) i d (by simpa [enumD] using h)
    exact ⟨d', by simpa using h1, by rw [h2, Nat.add_right_comm]; rfl⟩
theorem enumD_len : ∀ (ds : List D) (n : Nat), (enumD n ds).length = ds.length
  | [], _ => rfl
  | x :: xs, n => by rw [enumD, List.length_cons, List.length_cons, enumD_len xs]
def iEn (f : AF) : AF := fun env => (f env).bind fun a => match a.1 with
  | [.list ds] => some (enumD 0 ds, a.2)
  | _ => none
theorem zi_enum (hm : X.mg "enumerate" = none) (ha : ZA X [e] g1) (hg : Gl X "enumerate" := by rfl) (hs : starEach [e] X.env = [(false, eval e X.env)] := by rfl) : ZI X (.Tuple elts kk tpos) (.Call (.Name "enumerate" p) [e] [] pos) (iEn g1) :=
  ⟨fun b => piOf (pi_enum hg hm (ha.pa b) hs) fun σ H R ⟨F, env, d, env', S, e, k⟩ => by
    unfold iEn at e
    obtain ⟨⟨d1, e1⟩, h1, h⟩ := Option.bind_eq_some_iff.mp e
    dsimp only at h
    split at h
    · rename_i ds
      cases h
      refine ⟨F, env, _, _, S, h1, fun v F1 H1 l1 S1 r => ?_⟩
      cases r with
      | cons r1 r2 =>
        cases r2
        cases r1 with
        | lst hs r =>
          refine ⟨_, _, rfl, hs.sq S1.sub, k _ F1 H1 l1 S1 fun _ i F' H' l s _ => ?_⟩
          have hq := (hs.mono l).sq s
          refine ⟨fun d h => ?_, fun h => ⟨_, hq, by rw [r.len]; rw [enumD_len] at h; exact h⟩⟩
          obtain ⟨d', h2, rfl⟩ := enumD_get _ _ _ _ h
          obtain ⟨v, h3, h4⟩ := r.get h2
          refine ⟨⟨_, v, hq, h3⟩, fun w H2 ⟨T, x, ew, hT, eH, hx⟩ => ?_⟩
          have := hx _ hq
          rw [h3] at this
          cases this
          subst ew eH
          rw [Nat.zero_add]
          exact new2 s hT (.int _) (h4.mono l)
    · cases h⟩
def zipD : List D → List D → List D
  | x :: xs, y :: ys => .tuple [x, y] :: zipD xs ys
  | _, _ => []
def iZ (f : AF) : AF := fun env => (f env).bind fun a => match a.1 with
  | [.list xs, .list ys] => some (zipD xs ys, a.2)
  | _ => none
end
end Z

namespace Z
open PySem PySem.Spec PyProof.Rows L2
section
variable {X : Cx} {st : Stmt} {rest sts sts2 : List Stmt} {f g : SF} {e c : Expr} {f1 f2 f3 : EF} {t1' : BF} {g1 : AF} {pos : Pos}

/-- what is wanted of an end -/
def EndIs (K : Frag) (b : Bs) (F : Hp) (D : Ends) : Out → Prop
  | .nx env' => ∀ F' σ' H', Le F F' → SOk K b F' H' σ' env' → D.nx σ' H'
  | .bk env' => ∀ F' σ' H', Le F F' → SOk K b F' H' σ' env' → D.bk σ' H'
  | .ct env' => ∀ F' σ' H', Le F F' → SOk K b F' H' σ' env' → D.ct σ' H'
  | .rt r env' => ∀ v F' σ' H', Le F F' → SOk K b F' H' σ' env' → HoldsR K b F' H' σ' env' v r → D.rt v H'
theorem zS_mk {K : Frag} {b : Bs} {D : Ends} {σ : St} {H : Hp} {F : Hp} {env : En} {o : Out} (S : SOk K b F H σ env) (e : f env = some o) (k : EndIs K b F D o) : zS K b f D σ H := ⟨F, env, o, S, e, by cases o <;> exact k⟩
theorem zS_un {K : Frag} {b : Bs} {D : Ends} {σ : St} {H : Hp} (h : zS K b f D σ H) : ∃ F env o, SOk K b F H σ env ∧ f env = some o ∧ EndIs K b F D o := by
  obtain ⟨F, env, o, S, e, k⟩ := h
  exact ⟨F, env, o, S, e, by cases o <;> exact k⟩
theorem EndIs.mono {K : Frag} {b : Bs} {F F' : Hp} {D : Ends} {o : Out} (l : Le F F') (k : EndIs K b F D o) : EndIs K b F' D o := by
  cases o with
  | nx _ => exact fun F2 σ2 H2 l2 => k F2 σ2 H2 (l.trans l2)
  | bk _ => exact fun F2 σ2 H2 l2 => k F2 σ2 H2 (l.trans l2)
  | ct _ => exact fun F2 σ2 H2 l2 => k F2 σ2 H2 (l.trans l2)
  | rt _ _ => exact fun v F2 σ2 H2 l2 => k v F2 σ2 H2 (l.trans l2)
def sNx : SF := fun env => some (.nx env)
def sSeq (f g : SF) : SF := fun env => (f env).bind fun o => match o with
  | .nx e => g e
  | o => some o
theorem zss_nil : ZSs X [] sNx := ⟨fun b => pssOf pss_nil fun D σ H h => by
  obtain ⟨F, env, o, S, e, k⟩ := zS_un h
  cases e
  exact k F σ H .refl S⟩
theorem zss_cons (h1 : ZS X st f) (h2 : ZSs X rest g) : ZSs X (st :: rest) (sSeq f g) := ⟨fun b => pssOf (pss_cons (h1.ps b) (h2.ps b)) fun D σ H h => by
  obtain ⟨F, env, o, S, e, k⟩ := zS_un h
  unfold sSeq at e
  obtain ⟨o1, h1, h⟩ := Option.bind_eq_some_iff.mp e
  refine zS_mk S h1 ?_
  cases o1 with
  | nx e1 => exact fun F1 σ1 H1 l1 S1 => zS_mk S1 h (k.mono l1)
  | rt r e1 => cases h; exact k
  | bk e1 => cases h; exact k
  | ct e1 => cases h; exact k⟩
theorem zss_one (h1 : ZS X st f) : ZSs X [st] f := ⟨fun b => pss_one (h1.ps b)⟩
def sNone : SF := fun _ => none
theorem zs_never : ZS X st sNone := ⟨fun b => psOf ps_never fun D σ H h => by
  obtain ⟨F, env, o, S, e, k⟩ := zS_un h
  cases e⟩
def sBk : SF := fun env => some (.bk env)
def sCt : SF := fun env => some (.ct env)
def sDrop (f : EF) : SF := fun env => (f env).map fun a => .nx a.2
def sRet (f : EF) : SF := fun env => (f env).map fun a => .rt (.val a.1) a.2
def sRetO (f : EF) : SF := fun env => (f env).map fun a => .rt (.own a.1) a.2
theorem zs_ret (h : ZE X e f1) : ZS X (.Return (some e) pos) (sRet f1) := ⟨fun b => psOf (ps_ret (h.pe b)) fun D σ H h => by
  obtain ⟨F, env, o, S, e, k⟩ := zS_un h
  obtain ⟨⟨d, e1⟩, h1, h2⟩ := Option.map_eq_some_iff.mp e
  cases h2
  exact ⟨F, env, d, e1, S, h1, fun v F' H' l S' r => k v F' σ H' l S' r⟩⟩
theorem zs_retO (h : ZO X e f1) : ZS X (.Return (some e) pos) (sRetO f1) := ⟨fun b => psOf (ps_ret (h.pe b)) fun D σ H h => by
  obtain ⟨F, env, o, S, e, k⟩ := zS_un h
  obtain ⟨⟨d, e1⟩, h1, h2⟩ := Option.map_eq_some_iff.mp e
  cases h2
  exact ⟨F, env, d, e1, S, h1, fun p F' H' l S' r => k _ F' σ H' l S' ⟨p, rfl, r⟩⟩⟩
/-- return x, x a name that alone holds its thing -/
def sRetV (i : Nat) : SF := fun env => match env[i]? with
  | some (some (.own d)) => some (.rt (.own d) (env.set i none))
  | _ => none
theorem zs_retV (i : Nat) {x : Str} {p2 : Pos} (h0 : i ≠ 0 := by decide) (hN : X.N[i]? = some x := by rfl) (hv : Vis X.env.scope x := by first | exact Or.inl rfl | exact Or.inr (Or.inl rfl) | exact Or.inr (Or.inr rfl)) (hd : (x == ("__debug__" : Str)) = false := by decide)
    (hcd : (x == ("__classdict__" : Str)) = false := by decide) : ZS X (.Return (some (.Name x p2)) pos) (sRetV i) := ⟨fun b => psOf (ps_ret (pe_var hN hv hd hcd)) fun D σ H h => by
  obtain ⟨F, env, o, S, e, k⟩ := zS_un h
  unfold sRetV at e
  split at e
  · rename_i d he
    cases e
    obtain ⟨p, h1, h2, h3, h4⟩ := S.own i _ he
    have hl : i < env.length := (List.getElem?_eq_some_iff.mp he).1
    refine ⟨.ref p, h1, k _ F (σ.set i none) H .refl (S.wipe1 (.inr h0)) ⟨p, rfl, h2, h3, h4, fun j e g z => ?_⟩⟩
    have q : i ≠ j := fun q => by subst q; rw [List.getElem?_set_self hl] at g; cases g
    rw [List.getElem?_set_ne q] at g z
    exact q (S.inj i j p _ e he g h1 z)
  · cases e⟩
def sIf (t : BF) (f g : SF) : SF := fun env => (t env).bind fun a => if a.1 = true then f a.2 else g a.2
theorem zs_if (hc : ZT X c t1') (ha : ZSs X sts f) (hb : ZSs X sts2 g) : ZS X (.If c sts sts2 pos) (sIf t1' f g) := ⟨fun b => psOf (ps_if (hc.pt b) (ha.ps b) (hb.ps b)) fun D σ H h => by
  obtain ⟨F, env, o, S, e, k⟩ := zS_un h
  unfold sIf at e
  obtain ⟨⟨d, e1⟩, h1, h⟩ := Option.bind_eq_some_iff.mp e
  refine ⟨F, env, d, e1, S, h1, fun F1 H1 l1 S1 => ?_⟩
  cases d with
  | true => exact iteT (zS_mk S1 h (k.mono l1))
  | false => exact iteF (zS_mk S1 h (k.mono l1))⟩
def sSet (i : Nat) (f : EF) : SF := fun env => (f env).map fun a => .nx (a.2.set i (some (.val a.1)))
def sSetO (i : Nat) (f : EF) : SF := fun env => (f env).map fun a => .nx (a.2.set i (some (.own a.1)))
variable {x y z : Str} {p1 p2 p3 : Pos}
theorem zs_set (i : Nat) (hN : X.N.Nodup) (he : ZE X e f1) (h0 : i ≠ 0 := by decide) (hi : X.N[i]? = some x := by rfl) (hx : Loc X.env.scope x := by first | exact Or.inl rfl | exact Or.inr rfl) (hs : swapsWith e (some (.Name x p1)) pos.line X.env = pure false := by rfl)
    (hf : X.fn x = true ∨ X.env.scope.names.lookup x = some .local := by first | exact .inl rfl | exact .inr rfl | assumption) : ZS X (.Assign [.Name x p1] e pos) (sSet i f1) := ⟨fun b => psOf (ps_set hN hi hx (he.pe b) hs hf) fun D σ H h => by
  obtain ⟨F, env, o, S, e, k⟩ := zS_un h
  obtain ⟨⟨d, e1⟩, h1, h2⟩ := Option.map_eq_some_iff.mp e
  cases h2
  exact ⟨F, env, d, e1, S, h1, fun v F' H' l S' r => k F' _ H' l (S'.set (.inr h0) r)⟩⟩
theorem zs_setO (i : Nat) (hN : X.N.Nodup) (he : ZO X e f1) (h0 : i ≠ 0 := by decide) (hi : X.N[i]? = some x := by rfl) (hx : Loc X.env.scope x := by first | exact Or.inl rfl | exact Or.inr rfl) (hs : swapsWith e (some (.Name x p1)) pos.line X.env = pure false := by rfl)
    (hf : X.fn x = true ∨ X.env.scope.names.lookup x = some .local := by first | exact .inl rfl | exact .inr rfl | assumption) : ZS X (.Assign [.Name x p1] e pos) (sSetO i f1) := ⟨fun b => psOf (ps_set hN hi hx (he.pe b) hs hf) fun D σ H h => by
  obtain ⟨F, env, o, S, e, k⟩ := zS_un h
  obtain ⟨⟨d, e1⟩, h1, h2⟩ := Option.map_eq_some_iff.mp e
  cases h2
  exact ⟨F, env, d, e1, S, h1, fun p F' H' l S' r => k F' _ H' l (S'.setOwn (.inr h0) r.at' r.nF r.nB r.fr)⟩⟩
/-- a, b = e -/
def sTgt (is : List Nat) (ft : D → Option (List D)) (f : EF) : SF := fun env => (f env).bind fun a => (ft a.1).map fun ds => .nx (setAllE a.2 is ds)
theorem zs_tgt {tg : Expr} {is : List Nat} {ft : D → Option (List D)} (he : ZE X e f1) (hg : ZG X tg is ft) (h0 : ∀ i ∈ is, i ≠ 0 := by decide) (hs : swapsWithSole [tg] e pos.line X.env = pure false := by rfl) (hw : swappedStores [tg] e X.env = pure none := by rfl)
    (h1 : (assignEach [tg] X.env).map (·.2) = [assign tg X.env] := by rfl) : ZS X (.Assign [tg] e pos) (sTgt is ft f1) := ⟨fun b => psOf (ps_asg (he.pe b) hg.pg hs hw h1) fun D σ H h => by
  obtain ⟨F, env, o, S, e, k⟩ := zS_un h
  unfold sTgt at e
  obtain ⟨⟨d, e1⟩, h1, h⟩ := Option.bind_eq_some_iff.mp e
  obtain ⟨ds, h2, h3⟩ := Option.map_eq_some_iff.mp h
  cases h3
  exact ⟨F, env, d, e1, S, h1, fun v F' H' l S' r => ⟨F', d, ds, S'.sub, r, h2, fun vs rs => k F' _ H' l (S'.setAll h0 rs)⟩⟩⟩
/-- a, b = e1, e2 (no tuple is kept) -/
def sPar (is : List Nat) (f : AF) : SF := fun env => (f env).bind fun a => if a.1.length = is.length then some (.nx (setAllE a.2 is a.1)) else none
/-- x[e1] = e2 -/
def sPut (i : Nat) (fi fv : EF) : SF := fun env => (fv env).bind fun v => match v.2[i]? with
  | some (some (.own _)) => (fi v.2).bind fun a => match a.2[i]?, a.1 with
    | some (some (.own (.list ds))), .int k => (ixN ds.length k).map fun j => .nx (a.2.set i (some (.own (.list (ds.set j v.1)))))
    | _, _ => none
  | _ => none
theorem zs_put (i : Nat) {idx : Expr} {pt : Pos} (he : ZE X e f1) (hidx : ZE X idx f2) (hN : X.N[i]? = some x := by rfl) (hv : Vis X.env.scope x := by first | exact Or.inl rfl | exact Or.inr (Or.inl rfl) | exact Or.inr (Or.inr rfl)) (hd : (x == ("__debug__" : Str)) = false := by decide)
    (hcd : (x == ("__classdict__" : Str)) = false := by decide) 
    (ha : ∀ v, assign (.Subscript (.Name x p1) idx pt) X.env v = (do
      let ov ← holding [v] (eval (.Name x p1) X.env)
      let iv ← holding [v, ov] (eval idx X.env)
      standAt pt
      holding [v, ov, iv] (setItem ov iv v)
      release [v, ov, iv] []) := by intro _; rfl)
    (hs : swapsWithSole [.Subscript (.Name x p1) idx pt] e pos.line X.env = pure false := by rfl) (hw : swappedStores [.Subscript (.Name x p1) idx pt] e X.env = pure none := by rfl)
    (h1 : (assignEach [.Subscript (.Name x p1) idx pt] X.env).map (·.2) = [assign (.Subscript (.Name x p1) idx pt) X.env] := by rfl) : ZS X (.Assign [.Subscript (.Name x p1) idx pt] e pos) (sPut i f2 f1) :=
  ⟨fun b => psOf (ps_asg (he.pe b) (pg_sub (pe_var hN hv hd hcd) (hidx.pe b) set_list ha) hs hw h1) fun D σ H h => by
    obtain ⟨F, env, o, S, e, k⟩ := zS_un h
    unfold sPut at e
    obtain ⟨⟨dv, e1⟩, h1, h⟩ := Option.bind_eq_some_iff.mp e
    dsimp only at h
    split at h
    · rename_i d0 he1
      obtain ⟨⟨di, e2⟩, h2, h⟩ := Option.bind_eq_some_iff.mp h
      dsimp only at h
      split at h
      · rename_i ds z he2
        obtain ⟨j, h3, h4⟩ := Option.map_eq_some_iff.mp h
        cases h4
        refine ⟨F, env, dv, e1, S, h1, fun v F1 H1 l1 S1 r1 => ?_⟩
        obtain ⟨q, q1, _⟩ := S1.own i _ he1
        refine ⟨.ref q, q1, F1, e1, _, e2, S1, h2, fun vi F2 H2 l2 S2 r2 => ?_⟩
        cases r2
        obtain ⟨q', g1, ⟨vs, g2, g3⟩, _⟩ := S2.own i _ he2
        rw [q1] at g1; cases g1
        refine ⟨q, vs, _, j, rfl, rfl, g2, by rw [g3.len]; exact h3, k F2 σ _ (l1.trans l2) (S2.putL he2 q1 (g3.set j (r1.mono l2)))⟩
      · cases h
    · cases h⟩
/-- x.append(e) -/
def sApp (i : Nat) (f : AF) : SF := fun env => match env[i]? with
  | some (some (.own (.list _))) => (f env).bind fun a => match a.2[i]?, a.1 with
    | some (some (.own (.list ds))), [d] => if ds.length < sizeLine then some (.nx (a.2.set i (some (.own (.list (ds ++ [d])))))) else none
    | _, _ => none
  | _ => none
theorem zs_app (i : Nat) {apos cpos : Pos} (ha : ZA X [e] g1) (hN : X.N[i]? = some x := by rfl) (hv : Vis X.env.scope x := by first | exact Or.inl rfl | exact Or.inr (Or.inl rfl) | exact Or.inr (Or.inr rfl)) (hd : (x == ("__debug__" : Str)) = false := by decide)
    (hcd : (x == ("__classdict__" : Str)) = false := by decide)
    (hbase : attributeBase (.Name x p1) "append" X.env (eval (.Name x p1) X.env) = eval (.Name x p1) X.env := by rfl)
    (hfew : ((backTo cpos (starEach [e] X.env)).all (fun x => !x.1) && (backToKw cpos (keywordEach [] X.env)).all (fun x => x.1.isSome)
      && decide (([e] : List Expr).length + ([] : List Keyword).length + (if ([] : List Keyword).isEmpty then 0 else 1) < 30)) = true := by rfl)
    (hline : (apos.endLine == cpos.line) = true := by rfl) (hst : starEach [e] X.env = (false, eval e X.env) :: starEach [] X.env := by rfl) (hpl : (backTo cpos (starEach [] X.env)).any (·.1) = false := by rfl)
    (hs : swapsWith (.Call (.Attribute (.Name x p1) "append" apos) [e] [] cpos) none pos.line X.env = pure false := by rfl) : ZS X (.Expr (.Call (.Attribute (.Name x p1) "append" apos) [e] [] cpos) pos) (sApp i g1) :=
  ⟨fun b => psOf (ps_expr (pe_bm PySem.F.plainAttrs_list PySem.F.slot_list_append PySem.F.type_list_append mt_append (pe_var hN hv hd hcd) (ha.pa b) hbase hfew hline hst hpl) hs) fun D σ H h => by
    obtain ⟨F, env, o, S, e, k⟩ := zS_un h
    unfold sApp at e
    split at e
    · rename_i ds0 he0
      obtain ⟨⟨d1, e1⟩, h1, h⟩ := Option.bind_eq_some_iff.mp e
      dsimp only at h
      split at h
      · rename_i ds d he1
        split at h
        · rename_i hl
          cases h
          obtain ⟨q, q1, ⟨vs0, q2, _⟩, _⟩ := S.own i _ he0
          refine ⟨.ref q, q1, .inl ⟨rfl, _, SqL.of q2⟩, F, env, _, e1, S, h1, fun v F1 H1 l1 S1 r => ?_⟩
          cases r with
          | cons r1 r2 =>
            cases r2
            obtain ⟨q', g1, ⟨vs, g2, g3⟩, _⟩ := S1.own i _ he1
            rw [q1] at g1; cases g1
            exact ⟨q, vs, _, rfl, rfl, g2, by rw [g3.len]; exact hl, k F1 σ _ l1 (S1.putL he1 q1 (g3.append (.cons r1 .nil)))⟩
        · cases h
      · cases h
    · cases e⟩

/-! ### for -/
def forL (is : List Nat) (ft : D → Option (List D)) (body : SF) : List D → En → Option Out
  | [], e => some (.nx e)
  | d :: ds, e => (ft d).bind fun xs => (body (setAllE e is xs)).bind fun o => match o with
    | .nx e' => forL is ft body ds e'
    | .ct e' => forL is ft body ds e'
    | .bk e' => some (.nx e')
    | .rt r e' => some (.rt r e')
def sFor (fi : AF) (is : List Nat) (ft : D → Option (List D)) (body : SF) : SF := fun env => (fi env).bind fun a => forL is ft body a.1 a.2
theorem zs_forC {b : Bs} {C : St → Prop} {tg iter : Expr} {is : List Nat} {ft : D → Option (List D)} {body : List Stmt} (hp : PassesOwn (model X.prog X.w) X.A X.env X.xe) (hc : X.calm = true) (hi : PI X tg iter (fun σ H R => C σ ∧ zI X.K b g1 σ H R)) (hg : ZG X tg is ft) (hb : ZSs X body f) (h0 : ∀ i ∈ is, i ≠ 0 := by decide)
    (hs : ∀ x, foldedSetIterable iter X.env x = pure x := by intro _; rfl) : PS X (.For tg iter body [] pos) (fun D σ H => C σ ∧ zS X.K b (sFor g1 is ft f) D σ H) := psOf (ps_for hp hc hi hg.pg (hb.ps b) hs) fun D σ H ⟨hC, h⟩ => by
  obtain ⟨F, env, o, S, e, k⟩ := zS_un h
  unfold sFor at e
  obtain ⟨⟨ds, e1⟩, h1, h⟩ := Option.bind_eq_some_iff.mp e
  refine ⟨hC, F, env, ds, e1, S, h1, fun J F1 H1 l1 S1 w => ?_⟩
  refine ⟨fun i m σ H => m = ds.length - i ∧ ∃ F2 env2, Le F1 F2 ∧ SOk X.K b F2 H σ env2 ∧ forL is ft f (ds.drop i) env2 = some o, ⟨ds.length, rfl, F1, e1, .refl, S1, by rw [List.drop_zero]; exact h⟩, ?_⟩
  rintro i m σ2 H2 ⟨hm, F2, env2, l2, S2, hf⟩
  have W := w i F2 H2 l2 S2.sub S2.keep
  cases hd : ds[i]? with
  | none =>
    have hle : ds.length ≤ i := List.getElem?_eq_none_iff.mp hd
    rw [List.drop_eq_nil_of_le hle] at hf
    cases hf
    exact .inl ⟨W.2 hle, k F2 σ2 H2 (l1.trans l2) S2⟩
  | some d =>
    have hlt : i < ds.length := (List.getElem?_eq_some_iff.mp hd).1
    have hdr : ds.drop i = d :: ds.drop (i + 1) := by
      rw [List.drop_eq_getElem_cons hlt]
      congr 1
      exact Option.some.inj ((List.getElem?_eq_getElem hlt).symm.trans hd)
    rw [hdr] at hf
    unfold forL at hf
    obtain ⟨xs, h3, hf⟩ := Option.bind_eq_some_iff.mp hf
    obtain ⟨o2, h4, hf⟩ := Option.bind_eq_some_iff.mp hf
    obtain ⟨go, yl⟩ := W.1 d hd
    refine .inr ⟨go, fun σ' H' => ∃ F3 env3, Le F1 F3 ∧ SOk X.K b F3 H' σ' env3 ∧ forL is ft f (ds.drop (i + 1)) env3 = some o, fun σ' H' ⟨F3, env3, l3, S3, hf3⟩ => ⟨ds.length - (i + 1), by omega, rfl, F3, env3, l3, S3, hf3⟩, fun v H3 hy => ?_⟩
    obtain ⟨F3, l3, s3, kp3, n3, r3⟩ := yl v H3 hy
    have S3 := S2.grow l3 s3 kp3 n3
    refine ⟨F3, d, xs, s3, r3, h3, fun vs rs => zS_mk (S3.setAll h0 rs) h4 ?_⟩
    have l13 : Le F1 F3 := l2.trans l3
    cases o2 with
    | nx e' => exact fun F4 σ4 H4 l4 S4 => ⟨F4, e', l13.trans l4, S4, hf⟩
    | ct e' => exact fun F4 σ4 H4 l4 S4 => ⟨F4, e', l13.trans l4, S4, hf⟩
    | bk e' => cases hf; exact fun F4 σ4 H4 l4 S4 => k F4 σ4 H4 ((l1.trans l13).trans l4) S4
    | rt r e' => cases hf; exact fun v4 F4 σ4 H4 l4 S4 hr => k v4 F4 σ4 H4 ((l1.trans l13).trans l4) S4 hr
theorem zs_for {tg iter : Expr} {is : List Nat} {ft : D → Option (List D)} {body : List Stmt} (hp : PassesOwn (model X.prog X.w) X.A X.env X.xe) (hc : X.calm = true) (hi : ZI X tg iter g1) (hg : ZG X tg is ft) (hb : ZSs X body f) (h0 : ∀ i ∈ is, i ≠ 0 := by decide)
    (hs : ∀ x, foldedSetIterable iter X.env x = pure x := by intro _; rfl) : ZS X (.For tg iter body [] pos) (sFor g1 is ft f) :=
  ⟨fun b => psOf (zs_forC (C := fun _ => True) hp hc (piOf (hi.pi b) fun σ H R h => zIA_of σ H R h.2) hg hb h0 hs) fun D σ H h => ⟨trivial, h⟩⟩
end

/-! ### [e for x in xs] -/
def wipeE (env : En) : List Nat → En
  | [] => env
  | v :: vs => (wipeE env vs).set v none
def compL (is : List Nat) (ft : D → Option (List D)) (tt : BF) (fe : EF) (ws : List Nat) : List D → En → Option (List D × En)
  | [], e => some ([], wipeE e ws)
  | d :: ds, e => (ft d).bind fun xs => (tt (setAllE e is xs)).bind fun k => if k.1 = true then (fe k.2).bind fun a => (compL is ft tt fe ws ds (wipeE a.2 ws)).map fun r => (a.1 :: r.1, r.2)
    else compL is ft tt fe ws ds (wipeE k.2 ws)
def eComp (fi : AF) (is : List Nat) (ft : D → Option (List D)) (tt : BF) (fe : EF) (ws : List Nat) : EF := fun env => (fi env).bind fun a =>
  (compL is ft tt fe ws a.1 (wipeE a.2 ws)).bind fun r => if r.1.length < sizeLine then some (.list r.1, r.2) else none
def bYes : BF := fun env => some (true, env)
structure ZTs (X : Cx) (ifs : List Expr) (f : BF) : Prop where
  pt : ∀ b, PTs X ifs (zT X.K b f)
theorem ztsOf {X : Cx} {e : List Expr} {t t' : TT} (h : PTs X e t) (k : ∀ σ H Q, t' σ H Q → t σ H Q) : PTs X e t' := fun pins s σ H Q I q => h pins s σ H Q I (k _ _ _ q)
theorem zts_nil {X : Cx} : ZTs X [] bYes := ⟨fun b => ztsOf pts_nil fun σ H Q ⟨F, env, d, env', S, e, k⟩ => by cases e; exact k F H .refl S⟩
theorem zts_one {X : Cx} {c : Expr} {t : BF} (h : ZT X c t) : ZTs X [c] t := ⟨fun b => pts_one (h.pt b)⟩
section
variable {K : Frag} {b : Bs} {F H : Hp} {σ : St} {env : En}
theorem SOk.wipe (S : SOk K b F H σ env) : ∀ {ws : List Nat}, (∀ i ∈ ws, i ≠ 0) → SOk K b F H (L2.wipe σ ws) (wipeE env ws)
  | [], _ => S
  | v :: vs, h => (SOk.wipe S (ws := vs) fun i hi => h i (List.mem_cons_of_mem _ hi)).wipe1 (.inr (h v (List.mem_cons_self ..)))
theorem wipeE_get {i : Nat} {x : SV} : ∀ {ws : List Nat}, (wipeE env ws)[i]? = some (some x) → env[i]? = some (some x) ∧ i ∉ ws
  | [], h => ⟨h, by simp⟩
  | v :: vs, h => by
    unfold wipeE at h
    by_cases hi : v = i
    · subst hi
      by_cases hv : v < (wipeE env vs).length
      · rw [List.getElem?_set_self hv] at h; cases h
      · rw [List.getElem?_eq_none (by simpa using hv)] at h; cases h
    · rw [List.getElem?_set_ne hi] at h
      obtain ⟨h1, h2⟩ := wipeE_get h
      exact ⟨h1, by simp only [List.mem_cons, not_or]; exact ⟨fun e => hi e.symm, h2⟩⟩
theorem wipe_get {i : Nat} : ∀ {ws : List Nat}, i ∉ ws → (L2.wipe σ ws)[i]? = σ[i]?
  | [], _ => rfl
  | v :: vs, h => by
    unfold L2.wipe
    rw [List.getElem?_set_ne (fun e => h (by simp [e]))]
    exact wipe_get fun hi => h (List.mem_cons_of_mem _ hi)
/-- the names that were wiped are as they were: nothing is said of them -/
theorem SOk.unwipe {σ' : St} {ws : List Nat} (S : SOk K b F H σ' env) (hw : L2.wipe σ' ws = L2.wipe σ ws) (h0 : ∀ i ∈ ws, i ≠ 0) : SOk K b F H σ (wipeE env ws) where
  tab := S.tab
  sub := S.sub
  keep := S.keep
  newF := S.newF
  le := S.le
  len := by
    have e1 : (wipeE env ws).length = env.length := by
      clear hw h0
      induction ws with
      | nil => rfl
      | cons v vs ih => unfold wipeE; rw [List.length_set, ih]
    rw [e1, ← S.len, ← L2.wipe_length σ' ws, hw, L2.wipe_length]
  val := fun i d e => by
    obtain ⟨h1, h2⟩ := wipeE_get e
    obtain ⟨v, g1, g2⟩ := S.val i d h1
    exact ⟨v, by rw [← wipe_get (σ := σ) h2, ← hw, wipe_get h2]; exact g1, g2⟩
  own := fun i d e => by
    obtain ⟨h1, h2⟩ := wipeE_get e
    obtain ⟨v, g1, g2⟩ := S.own i d h1
    exact ⟨v, by rw [← wipe_get (σ := σ) h2, ← hw, wipe_get h2]; exact g1, g2⟩
  inj := fun i j p d e h1 h2 h3 h4 => by
    obtain ⟨h1, n1⟩ := wipeE_get h1
    obtain ⟨h2, n2⟩ := wipeE_get h2
    rw [← wipe_get (σ := σ) n1, ← hw, wipe_get n1] at h3
    rw [← wipe_get (σ := σ) n2, ← hw, wipe_get n2] at h4
    exact S.inj i j p d e h1 h2 h3 h4
  io := fun p e => by
    have n : 0 ∉ ws := fun h => h0 0 h rfl
    obtain ⟨g1, d, g2⟩ := S.io p e
    refine ⟨by rw [← wipe_get (σ := σ) n, ← hw, wipe_get n]; exact g1, d, ?_⟩
    clear g1 hw h0
    induction ws with
    | nil => exact g2
    | cons v vs ih =>
      unfold wipeE
      rw [List.getElem?_set_ne (fun e => n (by simp [e]))]
      exact ih fun h => n (List.mem_cons_of_mem _ h)
  iom := S.iom
end
theorem wipe_set {σ : St} {i : Nat} {v : Option V} : ∀ {ws : List Nat}, i ∈ ws → L2.wipe (σ.set i v) ws = L2.wipe σ ws
  | w :: ws, h => by
    unfold L2.wipe
    by_cases hi : i ∈ ws
    · rw [wipe_set hi]
    · have e : i = w := by
        rcases List.mem_cons.mp h with z | z
        · exact z
        · exact absurd z hi
      subst e
      have e2 : L2.wipe (σ.set i v) ws = (L2.wipe σ ws).set i v := by
        clear h
        induction ws with
        | nil => rfl
        | cons u us ih =>
          unfold L2.wipe
          rw [ih fun z => hi (List.mem_cons_of_mem _ z), List.set_comm _ _ (fun e => hi (by simp [e]))]
      rw [e2, List.set_set]
theorem wipe_setAll : ∀ {is : List Nat} {vs : List V} {σ : St} {ws : List Nat}, (∀ i ∈ is, i ∈ ws) → L2.wipe (setAll σ is vs) ws = L2.wipe σ ws
  | [], _, _, _, _ => rfl
  | _ :: _, [], _, _, _ => rfl
  | i :: is, v :: vs, σ, ws, h => by
    unfold setAll
    rw [wipe_setAll (is := is) fun j hj => h j (List.mem_cons_of_mem _ hj), wipe_set (h i (List.mem_cons_self ..))]
theorem wipe_wipe {σ : St} : ∀ {ws us : List Nat}, (∀ i ∈ us, i ∈ ws) → L2.wipe (L2.wipe σ us) ws = L2.wipe σ ws
  | ws, [], _ => rfl
  | ws, u :: us, h => by
    show L2.wipe ((L2.wipe σ us).set u none) ws = _
    rw [wipe_set (h u (List.mem_cons_self ..)), wipe_wipe fun i hi => h i (List.mem_cons_of_mem _ hi)]

/-! ### another start: all that no name holds is kept -/
def rb (b : Bs) (F H : Hp) (σ : St) (env : En) : Bs := ⟨H, F, fun a => ¬ Free σ env a, b.io⟩
section
variable {K : Frag} {b : Bs} {F F' H H' : Hp} {σ σ' : St} {env env' : En}
theorem SOk.rebase (S : SOk K b F H σ env) : SOk K (rb b F H σ env) F H σ env where
  tab := S.tab.le S.le
  sub := S.sub
  keep := fun a o e _ => e
  newF := fun a u e => .inl e
  le := .refl
  len := S.len
  val := S.val
  own := fun i d e => by
    obtain ⟨p, h1, h2, h3, _⟩ := S.own i d e
    exact ⟨p, h1, h2, h3, .inr fun f => f i d e h1⟩
  inj := S.inj
  io := S.io
  iom := fun a m => by
    apply Classical.byContradiction
    intro hn
    refine m fun i d e z => ?_
    obtain ⟨p, h1, h2, _⟩ := S.own i d e
    rw [h1] at z; cases z
    exact hn h2.some
theorem SOk.unown (S : SOk K b F H σ env) {a : Addr} (h : ¬ Free σ env a) : b.B a = none ∨ b.mu a := by
  apply Classical.byContradiction
  intro hn
  refine h fun i d e z => ?_
  obtain ⟨p, h1, _, _, h2⟩ := S.own i d e
  rw [h1] at z; cases z
  exact hn h2
theorem SOk.unbase (S : SOk K b F H σ env) (S' : SOk K (rb b F H σ env) F' H' σ' env') : SOk K b F' H' σ' env' where
  tab := S.tab
  sub := S'.sub
  keep := fun a o e m => by
    refine S'.keep a o (S.keep a o e m) fun hf => ?_
    rcases S.unown hf with z | z
    · rw [z] at e; cases e
    · exact m z
  newF := fun a u e => by
    rcases S'.newF a u e with z | z | z | z
    · exact S.newF a u z
    · exact .inr (.inl (S.fB z))
    · exact .inr ((S.unown z).imp id .inl)
    · exact .inr (.inr (.inr z))
  le := S.le.trans S'.le
  len := S'.len
  val := S'.val
  own := fun i d e => by
    obtain ⟨p, h1, h2, h3, h4⟩ := S'.own i d e
    refine ⟨p, h1, h2, h3, ?_⟩
    rcases h4 with z | z
    · exact .inl (S.fB z)
    · exact S.unown z
  inj := S'.inj
  io := S'.io
  iom := fun a m => by
    obtain ⟨o, e⟩ := S.iom a m
    by_cases hf : Free σ env a
    · exact ⟨o, S'.keep a o e fun z => z hf⟩
    · exact S'.iom a hf
/-- what stood free stands as it was -/
theorem SOk.held (S : SOk K b F H σ env) (S' : SOk K (rb b F H σ env) F' H' σ' env') {a : Addr} {o : HO} (ho : ∀ xs, ¬ (o = .tup xs ∨ ∃ w, o = .frz w (.tup xs))) (e : H a = some o) (nF : F a = none) (fr : Free σ env a) : H' a = some o ∧ F' a = none ∧ Free σ' env' a := by
  refine ⟨S'.keep a o e fun z => z fr, ?_, fun i d he z => ?_⟩
  · cases q : F' a with
    | none => rfl
    | some u =>
      rcases S'.newF a u q with z | z | z | ⟨xs, rfl⟩
      · have z : F a = some u := z
        rw [nF] at z; cases z
      · have z : H a = none := z
        rw [e] at z; cases z
      · exact absurd fr z
      · have h' := S'.keep a o e fun z => z fr
        rcases S'.sub.rd q with z | ⟨w, z⟩
        · rw [h'] at z; exact (ho xs (.inl (Option.some.inj z))).elim
        · rw [h'] at z; exact (ho xs (.inr ⟨w, Option.some.inj z⟩)).elim
  · obtain ⟨p, h1, _, _, h4⟩ := S'.own i d he
    rw [h1] at z; cases z
    rcases h4 with z | z
    · have z : H a = none := z
      rw [e] at z; cases z
    · exact z fr
/-- a thing that no name holds is changed -/
theorem SOk.other (S : SOk K b F H σ env) {a : Addr} {o : HO} (nF : F a = none) (nB : b.B a = none ∨ b.mu a) (fr : Free σ env a) : SOk K b F (upd H a o) σ env where
  tab := S.tab
  sub := fun c u e => by
    have hn : c ≠ a := ne_of_none e nF
    rcases S.sub c u e with z | ⟨nt, ob, z⟩
    · exact .inl (by rw [upd_ne hn]; exact z)
    · exact .inr ⟨nt, ob, by rw [upd_ne hn]; exact z⟩
  keep := fun c u e m => by
    have hn : c ≠ a := fun z => by
      subst z
      rcases nB with z | z
      · rw [z] at e; cases e
      · exact m z
    rw [upd_ne hn]; exact S.keep c u e m
  newF := S.newF
  le := S.le
  len := S.len
  val := S.val
  own := fun i d e => by
    obtain ⟨p, h1, h2, h3⟩ := S.own i d e
    exact ⟨p, h1, h2.heap (upd_ne fun z => fr i d e (by rw [← z]; exact h1)), h3⟩
  inj := S.inj
  io := S.io
  iom := fun c m => by
    by_cases q : c = a
    · subst q; exact ⟨_, upd_same⟩
    · obtain ⟨u, e⟩ := S.iom c m
      exact ⟨u, by rw [upd_ne q]; exact e⟩
end
def zEx (K : Frag) (f : EF) : TE := fun σ H Q => ∃ b, zE K b f σ H Q
def zTx (K : Frag) (f : BF) : TT := fun σ H Q => ∃ b, zT K b f σ H Q
section
variable {X : Cx} {elt tg iter : Expr} {ifs : List Expr} {scope : Scope} {own : List (Str × Nat)} {pos : Pos} {g1 : AF} {is : List Nat} {ft : D → Option (List D)} {tt : BF} {fe : EF}
theorem tLc_of {b : Bs} {ws : List Nat} (h0 : ∀ i ∈ ws, i ≠ 0) (hi : ∀ i ∈ is, i ∈ ws) {σ : St} {H : Hp} {Q : VK} (h : zO X.K b (eComp g1 is ft tt fe ws) σ H Q) :
    tLc (zI X.K b g1) (zG X.K is ft) (zTx X.K tt) (zEx X.K fe) ws σ H Q := by
  obtain ⟨F, env, d, env', S, e, k⟩ := h
  unfold eComp at e
  obtain ⟨⟨ds, e1⟩, h1, h⟩ := Option.bind_eq_some_iff.mp e
  obtain ⟨⟨rs, e2⟩, h2, h⟩ := Option.bind_eq_some_iff.mp h
  dsimp only at h
  split at h
  · rename_i hlen
    cases h
    refine ⟨F, env, ds, e1, S, h1, fun J F1 H1 l1 S1 w D hD => ?_⟩
    have hB := S1.fB hD
    have SD := (S1.lay (o := .lst []) hD).wipe h0
    refine ⟨fun i m H2 => m = ds.length - i ∧ ∃ F2 env2 acc accd more, Le F1 F2 ∧ SOk X.K b F2 H2 (L2.wipe σ ws) env2 ∧ H2 D = some (.lst acc) ∧ F2 D = none ∧ Free (L2.wipe σ ws) env2 D ∧ RepAll X.K F2 acc accd ∧
      compL is ft tt fe ws (ds.drop i) env2 = some (more, env') ∧ rs = accd ++ more,
      ⟨ds.length, rfl, F1, wipeE e1 ws, [], [], rs, .refl, SD, upd_same, S1.fF hD, ?_, .nil, by rw [List.drop_zero]; exact h2, rfl⟩, ?_⟩
    · intro i e he z
      obtain ⟨g1, g2⟩ := wipeE_get he
      rw [wipe_get g2] at z
      exact S1.free hD i e g1 z
    rintro i m H2 ⟨hm, F2, env2, acc, accd, more, l2, S2, hH, hF, hfr, ra, hc, hrs⟩
    have W := w i F2 H2 l2 S2.sub S2.keep
    cases hd : ds[i]? with
    | none =>
      have hle : ds.length ≤ i := List.getElem?_eq_none_iff.mp hd
      rw [List.drop_eq_nil_of_le hle] at hc
      cases hc
      rw [List.append_nil] at hrs
      subst hrs
      refine .inl ⟨W.2 hle, k D F2 H2 (l1.trans l2) (S2.unwipe (wipe_wipe fun i hi => hi) h0) ⟨⟨acc, hH, ra⟩, hF, .inl hB, fun i e he z => ?_⟩⟩
      obtain ⟨g1, g2⟩ := wipeE_get he
      rw [← wipe_get g2] at z
      exact hfr i e g1 z
    | some d =>
      have hlt : i < ds.length := (List.getElem?_eq_some_iff.mp hd).1
      have hdr : ds.drop i = d :: ds.drop (i + 1) := by
        rw [List.drop_eq_getElem_cons hlt]
        congr 1
        exact Option.some.inj ((List.getElem?_eq_getElem hlt).symm.trans hd)
      rw [hdr] at hc
      unfold compL at hc
      obtain ⟨xs, h3, hc⟩ := Option.bind_eq_some_iff.mp hc
      obtain ⟨⟨kb, ek⟩, h4, hc⟩ := Option.bind_eq_some_iff.mp hc
      obtain ⟨go, yl⟩ := W.1 d hd
      refine .inr ⟨go, fun H3 => ∃ F3 env3 acc accd more, Le F1 F3 ∧ SOk X.K b F3 H3 (L2.wipe σ ws) env3 ∧ H3 D = some (.lst acc) ∧ F3 D = none ∧ Free (L2.wipe σ ws) env3 D ∧ RepAll X.K F3 acc accd ∧
        compL is ft tt fe ws (ds.drop (i + 1)) env3 = some (more, env') ∧ rs = accd ++ more, fun H' h => ⟨ds.length - (i + 1), by omega, rfl, h⟩, fun v H3 hy => ?_⟩
      obtain ⟨F3, l3, s3, kp3, n3, r3⟩ := yl v H3 hy
      have S3 := S2.grow l3 s3 kp3 n3
      have hF3 : F3 D = none := by
        cases q : F3 D with
        | none => rfl
        | some u =>
          rcases n3 D u q with z | z | ⟨xs, rfl⟩
          · rw [hF] at z; cases z
          · rw [hH] at z; cases z
          · have h' := kp3 D _ hH
            rcases s3.rd q with z | ⟨w, z⟩ <;> rw [h'] at z <;> cases z
      have hH3 := kp3 D _ hH
      refine ⟨F3, d, xs, s3, r3, h3, fun vs rvs => ⟨?_, ?_⟩⟩
      · rw [wipe_setAll hi, wipe_wipe fun i hi => hi]
      have h0' : ∀ i ∈ is, i ≠ 0 := fun i hh => h0 i (hi i hh)
      have S4 := S3.setAll h0' rvs
      have hfr4 : Free (setAll (L2.wipe σ ws) is vs) (setAllE env2 is xs) D := by
        clear S4 h4 W go yl hc
        have gen : ∀ (is : List Nat) (vs : List V) (xs : List PyData) (σ : St) (en : En), vs.length = xs.length → Free σ en D → Free (setAll σ is vs) (setAllE en is xs) D := by
          intro is
          induction is with
          | nil => intro vs xs σ en _ h; exact h
          | cons i is ih =>
            intro vs xs σ en hl h
            match vs, xs, hl with
            | [], [], _ => exact h
            | v :: vs, x :: xs, hl =>
              refine ih vs xs _ _ (by simpa using hl) fun j e he z => ?_
              by_cases q : i = j
              · subst q
                have hlt := (List.getElem?_eq_some_iff.mp he).1
                rw [List.length_set] at hlt
                rw [List.getElem?_set_self hlt] at he
                cases he
              · rw [List.getElem?_set_ne q] at he z
                exact h j e he z
        exact gen is vs xs _ _ rvs.len hfr
      refine ⟨rb b F3 H3 (setAll (L2.wipe σ ws) is vs) (setAllE env2 is xs), F3, _, kb, ek, S4.rebase, h4, fun F5 H5 l5 S5 => ?_⟩
      have l15 : Le F1 F5 := (l2.trans l3).trans l5
      have wEq : L2.wipe (setAll (L2.wipe σ ws) is vs) ws = L2.wipe σ ws := by rw [wipe_setAll hi, wipe_wipe fun i hi => hi]
      cases kb with
      | false =>
        refine iteF ?_
        have hc : compL is ft tt fe ws (ds.drop (i + 1)) (wipeE ek ws) = some (more, env') := hc
        obtain ⟨g1, g2, g3⟩ := S4.held S5 (fun xs z => by rcases z with z | ⟨w, z⟩ <;> cases z) hH3 hF3 hfr4
        have S6 := (S4.unbase S5).wipe h0
        rw [wEq] at S6
        refine ⟨F5, _, acc, accd, more, l15, S6, g1, g2, fun i e he z => ?_, ra.mono (l3.trans l5), hc, hrs⟩
        obtain ⟨m1, m2⟩ := wipeE_get he
        rw [← wEq, wipe_get m2] at z
        exact g3 i e m1 z
      | true =>
        refine iteT ?_
        obtain ⟨⟨y, ey⟩, h5, hc⟩ := Option.bind_eq_some_iff.mp (show ((fe ek).bind fun a => (compL is ft tt fe ws (ds.drop (i + 1)) (wipeE a.2 ws)).map fun r => (a.1 :: r.1, r.2)) = some (more, env') from hc)
        obtain ⟨⟨mr, er⟩, h6, h7⟩ := Option.map_eq_some_iff.mp hc
        cases h7
        refine ⟨_, F5, ek, y, ey, S5, h5, fun u F6 H6 l6 S6 r6 => ?_⟩
        obtain ⟨g1, g2, g3⟩ := S4.held S6 (fun xs z => by rcases z with z | ⟨w, z⟩ <;> cases z) hH3 hF3 hfr4
        have ra6 := ra.mono (l3.trans (l5.trans l6))
        refine ⟨acc, g1, ?_, ?_⟩
        · rw [ra.len]
          rw [hrs, List.length_append, List.length_cons] at hlen
          omega
        have S7 := (S4.unbase S6).wipe h0
        rw [wEq] at S7
        have f7 : Free (L2.wipe σ ws) (wipeE ey ws) D := fun i e he z => by
          obtain ⟨m1, m2⟩ := wipeE_get he
          rw [← wEq, wipe_get m2] at z
          exact g3 i e m1 z
        exact ⟨F6, _, acc ++ [u], accd ++ [y], mr, l15.trans l6, S7.other g2 (.inl hB) f7, upd_same, g2, f7, ra6.append (.cons r6 .nil), h6, by rw [hrs, List.append_assoc]; rfl⟩
  · cases h
theorem zo_comp {ws : List Nat} (hc : X.calm = true) (hN : X.N.Nodup) (hi : ZI X tg iter g1) (ok : BlkOk X.N X.env.scope scope own)
    (hg : ∀ (s : Shared) (H : Hp) (C : Addr) (cl : List (Str × Addr)) (fp : List Addr), ZG (X.blk s H scope (compEnvC scope cl C X.env) fp) tg is ft) (ht : ∀ (s : Shared) (H : Hp) (C : Addr) (cl : List (Str × Addr)) (fp : List Addr), ZTs (X.blk s H scope (compEnvC scope cl C X.env) fp) ifs tt)
    (he : ∀ (s : Shared) (H : Hp) (C : Addr) (cl : List (Str × Addr)) (fp : List Addr), ZE (X.blk s H scope (compEnvC scope cl C X.env) fp) elt fe) (hws : own.map (·.2) = ws := by rfl) (h0 : ∀ i ∈ ws, i ≠ 0 := by decide) (his : ∀ i ∈ is, i ∈ ws := by decide) (hs : ∀ x, foldedSetIterable iter X.env x = pure x := by intro _; rfl) :
    ZO X (.ListComp elt [⟨tg, iter, ifs, 0⟩] scope pos) (eComp g1 is ft tt fe ws) :=
  by
  subst hws
  exact ⟨fun b => peOf (pe_lc (tt := zTx X.K tt) (te := zEx X.K fe) hc hN (piOf (hi.pi b) zIA_of) ok (fun s H C cl fp => (hg s H C cl fp).pg) (fun s H C cl fp pins s' σ H' Q I ⟨b', q⟩ => (ht s H C cl fp).pt b' pins s' σ H' Q I q) (fun s H C cl fp pins s' σ H' Q I ⟨b', q⟩ => (he s H C cl fp).pe b' pins s' σ H' Q I q) hs) fun σ H Q h => tLc_of h0 his h⟩
end
end Z

namespace Z
open PySem PySem.Spec PyProof.Rows L2
section
variable {X : Cx} {a c c' c2 : Expr} {f1 f2 f3 f4 : EF} {pos : Pos} {es : List Expr} {g1 : AF}

/-! ### a < b < c < d -/
def tChain3 (r r' r2 : R2) (ta tb tc td : TE) : TE := fun σ H Q => ta σ H fun x H1 => tb σ H1 fun y H2 => r x y H2 fun z H3 => ∃ k, z = .bl k ∧
  (if k = true then tc σ H3 fun w' H4 => r' y w' H4 fun z2 H5 => ∃ k2, z2 = .bl k2 ∧ (if k2 = true then td σ H5 fun w2 H6 => r2 w' w2 H6 Q else Q (.bl false) H5) else Q (.bl false) H3)
def eChain3 (g g' g2 : D → D → Option D) (f1 f2 f3 f4 : EF) : EF := fun env => (f1 env).bind fun a => (f2 a.2).bind fun c => (g a.1 c.1).bind fun k => match k with
  | .bool true => (f3 c.2).bind fun e => (g' c.1 e.1).bind fun k2 => match k2 with
    | .bool true => (f4 e.2).bind fun h => (g2 e.1 h.1).map fun d => (d, h.2)
    | .bool false => some (.bool false, e.2)
    | _ => none
  | .bool false => some (.bool false, c.2)
  | _ => none
/-! ### x in (a, b) -/
def flatD : D → Bool
  | .none => true
  | .bool _ => true
  | .int _ => true
  | .str _ => true
  | _ => false
def toV : D → V
  | .bool b => .bl b
  | .int i => .int i
  | .str x => .str x
  | _ => .non
theorem Rep.flat {K : Frag} {F : Hp} {v : V} {d : D} (r : Rep K F v d) (h : flatD d = true) : v = toV d ∧ flatV v = true := by
  cases r <;> first | exact ⟨rfl, rfl⟩ | cases h
theorem RepAll.flat {K : Frag} {F : Hp} : ∀ {vs : List V} {ds : List D}, RepAll K F vs ds → ds.all flatD = true → vs = ds.map toV ∧ vs.all flatV = true
  | _, _, .nil, _ => ⟨rfl, rfl⟩
  | _, _, .cons r1 r2, h => by
    rw [List.all_cons, Bool.and_eq_true] at h
    obtain ⟨e1, e2⟩ := r1.flat h.1
    obtain ⟨e3, e4⟩ := r2.flat h.2
    rw [List.map_cons, List.all_cons, e2, e4, ← e1, ← e3]
    exact ⟨rfl, rfl⟩
def gIn : D → D → Option D
  | d, .tuple ds => if flatD d = true ∧ ds.all flatD = true then some (.bool (inV (toV d) (ds.map toV))) else none
  | d, .list ds => if flatD d = true ∧ ds.all flatD = true then some (.bool (inV (toV d) (ds.map toV))) else none
  | _, _ => none
/-! ### isinstance -/
def tyD : D → String
  | .none => "NoneType"
  | .bool _ => "bool"
  | .int _ => "int"
  | .str _ => "str"
  | .list _ => "list"
  | .tuple _ => "tuple"
  | .dict _ => "dict"
def subT (t n : String) : Bool := t == n || (t == "bool" && n == "int")
/-- what isinstance says of the plain kinds -/
structure Kit (n : String) : Prop where
  go : ∀ (K : Frag) (d : D), PySem.W.kitOne K (.type (tyD d)) (.type n) = some (subT (tyD d) n)
theorem kit_int : Kit "int" := ⟨fun K d => by cases d <;> kernel_rfl⟩
theorem kit_bool : Kit "bool" := ⟨fun K d => by cases d <;> kernel_rfl⟩
theorem kit_str : Kit "str" := ⟨fun K d => by cases d <;> kernel_rfl⟩
theorem kit_list : Kit "list" := ⟨fun K d => by cases d <;> kernel_rfl⟩
theorem kit_tuple : Kit "tuple" := ⟨fun K d => by cases d <;> kernel_rfl⟩
theorem kitx_of_rep {pins : List (Addr × Obj)} {σ : St} {F H : Hp} {s : Shared} {v : V} {d : D} {u : Value} (I : Inv X pins σ H s) (sb : Sub F H) (r : Rep X.K F v d) (ru : RelV v u) :
    ∃ P : Heap → Prop, PySem.W.KitX X.K u (.type (tyD d)) P ∧ P s.heap ∧ u ≠ .builtin "__main__.__loader__#opaque" := by
  cases r with
  | non => cases ru; exact ⟨_, PySem.W.kitx_none, trivial, fun z => nomatch z⟩
  | bl b => cases ru; exact ⟨_, PySem.W.kitx_bool, trivial, fun z => nomatch z⟩
  | int i => obtain ⟨t, rfl⟩ := ru; exact ⟨_, PySem.W.kitx_int, trivial, fun z => nomatch z⟩
  | str x => obtain ⟨t, rfl⟩ := ru; exact ⟨_, PySem.W.kitx_str, trivial, fun z => nomatch z⟩
  | lst hs _ =>
    cases ru
    obtain ⟨its, _, ⟨o, n, ho, hc, _, _⟩, _⟩ := I.list (hs.sq sb)
    exact ⟨_, PySem.W.kitx_list, ⟨o, ho, hc⟩, fun z => nomatch z⟩
  | tup hs _ =>
    cases ru
    obtain ⟨its, _, ⟨o, ho, hc, _⟩, _⟩ := I.tuple (hs.sq sb)
    exact ⟨_, PySem.W.kitx_tuple, ⟨o, ho, hc⟩, fun z => nomatch z⟩
  | dct hs _ =>
    cases ru
    obtain ⟨_, _, xs, _, o, es, ep, h1, h2, _⟩ := (show ObjOk X.prog X.w H s.heap _ (.dT _) from (sb.rd hs).ok I.hok)
    exact ⟨_, PySem.W.kitx_dict, ⟨o, h1, h2.1⟩, fun z => nomatch z⟩
def rInst (K : Frag) (n : String) : List V → Hp → VK → Prop := fun xs H Q => ∃ F x d, xs = [x, .ty n] ∧ Sub F H ∧ Rep K F x d ∧ Q (.bl (subT (tyD d) n)) H
theorem cr_inst {n : String} (hk : Kit n) : CallR X (.builtin "isinstance") (rInst X.K n) := by
  intro pins s σ H xs us Q I r h
  obtain ⟨F, x, d, rfl, sb, rx, q⟩ := h
  obtain ⟨u, w', rfl, ru, rw'⟩ := vals2 r
  cases rw'
  obtain ⟨P, kx, hp, hne⟩ := kitx_of_rep I sb rx ru
  exact PySem.W.kia_one kx I.kIn hp (hk.go _ d) hne fun tk => ⟨.bl _, H, I.tok _, rfl, q⟩
def eInst (n : String) (f : EF) : EF := fun env => (f env).map fun a => (.bool (subT (tyD a.1) n), a.2)
theorem ze_inst {n : String} {nm : Str} {p p2 : Pos} (hk : Kit n) (hm : X.mg "isinstance" = none) (hmn : X.mg nm = none) (hbn : bootBuiltins nm = some (.type n)) (ha : ZE X a f1) (hg : Gl X "isinstance" := by rfl) (hgn : Gl X nm := by rfl) (hnn : nm ≠ "__name__" := by decide) (hdn : (nm == ("__debug__" : Str)) = false := by decide)
    (he : starEach [a, .Name nm p2] X.env = (false, eval a X.env) :: starEach [.Name nm p2] X.env := by rfl) (hs2 : starEach [.Name nm p2] X.env = (false, eval (.Name nm p2) X.env) :: starEach [] X.env := by rfl) (hpl : (backTo pos (starEach [.Name nm p2] X.env)).any (·.1) = false := by rfl) :
    ZE X (.Call (.Name "isinstance" p) [a, .Name nm p2] [] pos) (eInst n f1) :=
  ⟨fun b => peOf (pe_callB (cr_inst hk) hg hm (by decide +kernel) (pa_cons (ha.pe b) (pa_cons (pe_bltn (v := .ty n) hgn hmn hbn rfl hnn hdn) pa_nil hs2) he) (by decide) (by decide) he hpl) fun σ H Q ⟨F, env, d, env', S, e, k⟩ => by
    obtain ⟨⟨d1, e1⟩, h1, h2⟩ := Option.map_eq_some_iff.mp e
    cases h2
    exact ⟨F, env, d1, e1, S, h1, fun v F' H' l S' r => ⟨F', v, d1, rfl, S'.sub, r, k _ F' H' l S' (.bl _)⟩⟩⟩
/-- isinstance(x, (A, B)) -/
def rInst2 (K : Frag) (n m : String) : List V → Hp → VK → Prop := fun xs H Q => ∃ F x d p, xs = [x, .ref p] ∧ Sub F H ∧ Rep K F x d ∧ H p = some (.tup [.ty n, .ty m]) ∧ Q (.bl (subT (tyD d) n || subT (tyD d) m)) H
theorem cr_inst2 {n m : String} (hk : Kit n) (hk2 : Kit m) : CallR X (.builtin "isinstance") (rInst2 X.K n m) := by
  intro pins s σ H xs us Q I r h
  obtain ⟨F, x, d, p, rfl, sb, rx, hp, q⟩ := h
  obtain ⟨u, w', rfl, ru, rw'⟩ := vals2 r
  cases rw'
  obtain ⟨P, kx, hP, hne⟩ := kitx_of_rep I sb rx ru
  obtain ⟨its, rv, ⟨⟨cls, dd, data, sl⟩, ho, hc, nn, hd⟩, _⟩ := I.tuple (SqT.of hp)
  simp only at hc hd
  subst hc hd
  obtain ⟨u1, u2, rfl, r1, r2⟩ := vals2 rv
  cases r1
  cases r2
  refine PySem.W.kia_tup (its := [.type n, .type m]) kx I.kIn hP ho ?_ hne fun tk => ⟨.bl _, H, I.tok _, rfl, q⟩
  simp only [PySem.W.kitAny, hk.go _ d, hk2.go _ d]
  cases subT (tyD d) n <;> cases subT (tyD d) m <;> rfl
def eInst2 (n m : String) (f : EF) : EF := fun env => (f env).map fun a => (.bool (subT (tyD a.1) n || subT (tyD a.1) m), a.2)
theorem ze_inst2 {n m : String} {nm mm : Str} {p p2 p3 p4 : Pos} {kk : Nat} (hk : Kit n) (hk2 : Kit m) (hm : X.mg "isinstance" = none) (hmn : X.mg nm = none) (hbn : bootBuiltins nm = some (.type n)) (hmm : X.mg mm = none) (hbm : bootBuiltins mm = some (.type m)) (ha : ZE X a f1)
    (hg : Gl X "isinstance" := by rfl) (hgn : Gl X nm := by rfl) (hnn : nm ≠ "__name__" := by decide) (hdn : (nm == ("__debug__" : Str)) = false := by decide) (hgm : Gl X mm := by rfl) (hnm : mm ≠ "__name__" := by decide) (hdm : (mm == ("__debug__" : Str)) = false := by decide)
    (he : starEach [a, .Tuple [.Name nm p2, .Name mm p3] kk p4] X.env = (false, eval a X.env) :: starEach [.Tuple [.Name nm p2, .Name mm p3] kk p4] X.env := by rfl)
    (hs2 : starEach [.Tuple [.Name nm p2, .Name mm p3] kk p4] X.env = (false, eval (.Tuple [.Name nm p2, .Name mm p3] kk p4) X.env) :: starEach [] X.env := by rfl)
    (hs3 : starEach [.Name nm p2, .Name mm p3] X.env = (false, eval (.Name nm p2) X.env) :: starEach [.Name mm p3] X.env := by rfl) (hs4 : starEach [.Name mm p3] X.env = (false, eval (.Name mm p3) X.env) :: starEach [] X.env := by rfl)
    (hpl : (backTo pos (starEach [.Tuple [.Name nm p2, .Name mm p3] kk p4] X.env)).any (·.1) = false := by rfl) :
    ZE X (.Call (.Name "isinstance" p) [a, .Tuple [.Name nm p2, .Name mm p3] kk p4] [] pos) (eInst2 n m f1) :=
  ⟨fun b => peOf (pe_callB (cr_inst2 hk hk2) hg hm (by decide +kernel) (pa_cons (ha.pe b) (pa_cons (pe_tup (pa_cons (pe_bltn (v := .ty n) hgn hmn hbn rfl hnn hdn) (pa_cons (pe_bltn (v := .ty m) hgm hmm hbm rfl hnm hdm) pa_nil hs4) hs3)) pa_nil hs2) he) (by decide) (by decide) he hpl) fun σ H Q ⟨F, env, d, env', S, e, k⟩ => by
    obtain ⟨⟨d1, e1⟩, h1, h2⟩ := Option.map_eq_some_iff.mp e
    cases h2
    exact ⟨F, env, d1, e1, S, h1, fun v F' H' l S' r => ⟨by show 2 ≤ sizeLine; decide, fun p hp => ⟨F', v, d1, p, rfl, (S'.lay hp).sub, r, upd_same, k _ F' _ l (S'.lay hp) (.bl _)⟩⟩⟩⟩

/-! ### == and != of a thing that a name alone holds -/
def eCmpB (g : D → D → Option D) (i : Nat) (f : EF) : EF := fun env => match env[i]? with
  | some (some (.own _)) => (f env).bind fun a => match a.2[i]? with
    | some (some (.own (.list ds))) => (g (.list ds) a.1).map fun d => (d, a.2)
    | _ => none
  | _ => none
theorem neB_of {b : Bs} {i : Nat} {σ : St} {H : Hp} {Q : VK} (h : zE X.K b (eCmpB gNe i f1) σ H Q) : tOp (rNeD X.K) (tVar i) (zE X.K b f1) σ H Q := by
  obtain ⟨F, env, d, env', S, e, k⟩ := h
  unfold eCmpB at e
  split at e
  · rename_i d0 he0
    obtain ⟨⟨d1, e1⟩, h1, h⟩ := Option.bind_eq_some_iff.mp e
    dsimp only at h
    split at h
    · rename_i ds he1
      obtain ⟨d2, h2, h3⟩ := Option.map_eq_some_iff.mp h
      cases h3
      obtain ⟨q, q1, _⟩ := S.own i _ he0
      refine ⟨.ref q, q1, F, env, d1, _, S, h1, fun v F1 H1 l1 S1 r => ?_⟩
      obtain ⟨q', g1, ⟨vs, g2, g3⟩, _⟩ := S1.own i _ he1
      rw [q1] at g1; cases g1
      unfold gNe at h2
      split at h2
      · rename_i hh
        cases h2
        exact ⟨.list ds, d1, .lst (SqL.of g2) (g3.dp S1.sub (by have := SeqAt.canLay_of_shaped hh.1; simpa [PyData.canLay0] using this)), r.dp S1.sub (SeqAt.canLay_of_shaped hh.2), hh.1, hh.2, k _ F1 H1 l1 S1 (.bl _)⟩
      · cases h2
    · cases h
  · cases e
variable {x : Str} {p2 : Pos}
theorem zt_neB (i : Nat) (hu : X.A.units + 64 < cLine) (hc : ZE X c f1) (hN : X.N[i]? = some x := by rfl) (hv : Vis X.env.scope x := by first | exact Or.inl rfl | exact Or.inr (Or.inl rfl) | exact Or.inr (Or.inr rfl)) (hd : (x == ("__debug__" : Str)) = false := by decide)
    (hcd : (x == ("__classdict__" : Str)) = false := by decide) : ZT X (.Compare (.Name x p2) [.NotEq] [c] pos) (bT (eCmpB gNe i f1)) :=
  ⟨fun b => ptOf (pt_cmpR (op_neD hu) (pe_var hN hv hd hcd) (hc.pe b) (nomark _)) fun σ H Q h => tTest_of (fun Q h => neB_of h) h⟩

end

/-! ### a def's rule -/
def args (n N : Nat) (ds : List D) : En := ds.map (fun d => some (SV.val d)) ++ List.replicate (N - n) none
def endOf : Option Out → Option SV
  | some (.rt r _) => some r
  | some (.nx _) => some (.val .none)
  | _ => none
/-- a def of n parameters, N names in all -/
def runP (n N : Nat) (body : SF) (ds : List D) : Option SV := if ds.length = n then endOf (body (args n N ds)) else none
theorem runP_len {n N : Nat} {body : SF} {ds : List D} {r : SV} (h : runP n N body ds = some r) : ds.length = n := by
  unfold runP at h
  split at h
  · assumption
  · cases h
def endIO : Option Out → Option (SV × D)
  | some (.rt r env) => match (env[0]? : Option (Option SV)) with
    | some (some (.own d)) => some (r, d)
    | _ => none
  | some (.nx env) => match (env[0]? : Option (Option SV)) with
    | some (some (.own d)) => some (.val .none, d)
    | _ => none
  | _ => none
/-- a def whose first argument is changed: n parameters behind it -/
def runIO (n N : Nat) (body : SF) (d0 : D) (ds : List D) : Option (SV × D) := if ds.length = n then endIO (body (some (.own d0) :: args (n + 1) N ds)) else none
theorem runIO_len {n N : Nat} {body : SF} {d0 : D} {ds : List D} {r : SV × D} (h : runIO n N body d0 ds = some r) : ds.length = n := by
  unfold runIO at h
  split at h
  · assumption
  · cases h
section
variable {P : Program} {w : World} {K : PySem.W.Frag} {mg : Str → Option Value} {base : Heap}
theorem args_get {n N : Nat} {ds : List D} {i : Nat} {r : SV} (h : (args n N ds)[i]? = some (some r)) : ∃ d, ds[i]? = some d ∧ r = .val d := by
  unfold args at h
  by_cases hi : i < ds.length
  · rw [List.getElem?_append_left (by simpa using hi), List.getElem?_map] at h
    cases e : ds[i]? with
    | none => rw [e] at h; cases h
    | some d => rw [e] at h; cases h; exact ⟨d, rfl, rfl⟩
  · rw [List.getElem?_append_right (by simpa using hi), List.getElem?_replicate] at h
    split at h <;> cases h
theorem start_get {N : List Str} {vs : List V} {i : Nat} {v : V} (h : vs[i]? = some v) : (L2.start N vs)[i]? = some (some v) := by
  unfold L2.start
  have hi := (List.getElem?_eq_some_iff.mp h).1
  rw [List.getElem?_append_left (by simpa using hi), List.getElem?_map, h]
  rfl
theorem sok_start {F H : Hp} {vs : List V} {ds : List D} {N : List Str} {n : Nat} (s : Sub F H) (ht : TabF K F) (r : RepAll K F vs ds) (hn : vs.length = n) (hN : n ≤ N.length) : SOk K ⟨H, F, fun _ => False, none⟩ F H (L2.start N vs) (args n N.length ds) where
  tab := ht
  sub := s
  keep := fun a o e _ => e
  newF := fun a u e => .inl e
  le := .refl
  len := by
    have := r.len
    unfold L2.start args
    rw [List.length_append, List.length_append, List.length_map, List.length_map, List.length_replicate, List.length_replicate]
    omega
  val := fun i d e => by
    obtain ⟨d', h1, h2⟩ := args_get e
    cases h2
    obtain ⟨v, g1, g2⟩ := r.get h1
    exact ⟨v, start_get g1, g2⟩
  own := fun i d e => by
    obtain ⟨d', h1, h2⟩ := args_get e
    cases h2
  inj := fun i j p d e h1 h2 h3 h4 => by
    obtain ⟨d', h1, h2⟩ := args_get h1
    cases h2
  io := fun p e => by cases e
  iom := fun a m => m.elim
theorem fnP {x qual : Str} {st : Stmt} {f : Addr} {fd : FuncData} {N ps : List Str} {k : Nat} {body : SF} {n : Nat} (hn : ps.length = n) (hNl : n ≤ N.length) (Fn : Fun K x qual st f fd) (Sc : FnScope N ps (defScope st))
    (hb : ∀ (cdv : Value) (A : Around) (outer : List Env) (s : Shared) (H : Hp) (E : XK), Room k (A.deeper (envOfC qual (defScope st) s.heap.objs.size f cdv)) → ZSs (cxOf CX0 P w K mg base N qual (defScope st) f cdv A outer s H E).nox (defBody st) body) :
    FnOk P w K mg base CX0 (k + 1) f fd ps (spP K n (runP n N.length body)) := by
  refine Fn.ok Sc (fun vs H Q E h => ?_) (fun cdv A outer s H vs Q E hr h => ?_)
  · obtain ⟨F, ds, r, _, h, _⟩ := h
    rw [h, hn]
  · obtain ⟨F, ds, r, ⟨sub, ht⟩, hl, rr, hm, k⟩ := h
    refine ⟨_, (hb cdv A outer s H E hr).ps ⟨H, F, fun _ => False, none⟩, ?_⟩
    have S0 := sok_start (N := N) sub ht rr hl hNl
    unfold runP at hm
    rw [if_pos (by rw [← rr.len, hl])] at hm
    unfold endOf at hm
    have fin : ∀ {r : SV} {v : V} {F' H' : Hp} {σ' : St} {env' : En}, (match r with
        | .val d => ∀ v F' H', Le F F' → Sub F' H' → (∀ a o, H a = some o → H' a = some o) → NewF F H F' → Rep K F' v d → Q v H'
        | .own d => ∀ p F' H', Le F F' → Sub F' H' → (∀ a o, H a = some o → H' a = some o) → NewF F H F' → OwnAt K F' H' p d → F' p = none → H p = none → Q (.ref p) H') →
        Le F F' → SOk K ⟨H, F, fun _ => False, none⟩ F' H' σ' env' → HoldsR K ⟨H, F, fun _ => False, none⟩ F' H' σ' env' v r → Q v H' := fun {r v F' H' σ' env'} k l S hr => by
      have kp : ∀ a o, H a = some o → H' a = some o := fun a o e => S.keep a o e id
      have nF : NewF F H F' := fun a u e => by
        rcases S.newF a u e with z | z | z | z
        · exact .inl z
        · exact .inr (.inl z)
        · exact z.elim
        · exact .inr (.inr z)
      cases r with
      | val d => exact k v F' H' l S.sub kp nF hr
      | own d =>
        obtain ⟨p, rfl, fr⟩ := hr
        refine k p F' H' l S.sub kp nF fr.at' fr.nF ?_
        rcases fr.nB with z | z
        · exact z
        · exact z.elim
    split at hm
    · rename_i r' env' hb'
      cases hm
      exact zS_mk S0 hb' fun v F' σ' H' l S hr => fin k l S hr
    · rename_i env' hb'
      cases hm
      exact zS_mk S0 hb' fun F' σ' H' l S => fin (v := .non) (r := .val .none) k l S .non
    · cases hm
theorem fnIO {x qual : Str} {st : Stmt} {f : Addr} {fd : FuncData} {N ps : List Str} {k : Nat} {body : SF} {n : Nat} (hn : ps.length = n + 1) (hNl : n + 1 ≤ N.length) (Fn : Fun K x qual st f fd) (Sc : FnScope N ps (defScope st))
    (hb : ∀ (cdv : Value) (A : Around) (outer : List Env) (s : Shared) (H : Hp) (E : XK), Room k (A.deeper (envOfC qual (defScope st) s.heap.objs.size f cdv)) → ZSs (cxOf CX0 P w K mg base N qual (defScope st) f cdv A outer s H E).nox (defBody st) body) :
    FnOk P w K mg base CX0 (k + 1) f fd ps (spIO K (n + 1) (runIO n N.length body)) := by
  refine Fn.ok Sc (fun vs H Q E h => ?_) (fun cdv A outer s H vs Q E hr h => ?_)
  · obtain ⟨F, q, ws, d0, ds, r, _, _, h, _⟩ := h
    rw [h, hn]
  · obtain ⟨F, q, ws, d0, ds, r, ⟨sub, ht⟩, rfl, hl, ow, nF0, rr, hm, k⟩ := h
    refine ⟨_, (hb cdv A outer s H E hr).ps ⟨H, F, fun a => a = q, some q⟩, ?_⟩
    have hwl : ws.length = n := by simpa using hl
    have S0 : SOk K ⟨H, F, fun a => a = q, some q⟩ F H (L2.start N (.ref q :: ws)) (some (.own d0) :: args (n + 1) N.length ds) := {
      tab := ht
      sub := sub
      keep := fun a o e _ => e
      newF := fun a u e => .inl e
      le := .refl
      len := by
        have := rr.len
        unfold L2.start args
        simp only [List.length_append, List.length_cons, List.length_map, List.length_replicate]
        omega
      val := fun i d e => by
        cases i with
        | zero => cases e
        | succ i =>
          obtain ⟨d', h1, h2⟩ := args_get (by simpa using e)
          cases h2
          obtain ⟨v, g1, g2⟩ := rr.get h1
          exact ⟨v, start_get (by simpa using g1), g2⟩
      own := fun i d e => by
        cases i with
        | zero => cases e; exact ⟨q, start_get rfl, ow, nF0, .inr rfl⟩
        | succ i =>
          obtain ⟨d', h1, h2⟩ := args_get (show (args (n + 1) N.length ds)[i]? = _ by simpa using e)
          cases h2
      inj := fun i j p d e h1 h2 h3 h4 => by
        have z : ∀ {i : Nat} {d : D}, (some (SV.own d0) :: args (n + 1) N.length ds)[i]? = some (some (SV.own d)) → i = 0 := fun {i d} e => by
          cases i with
          | zero => rfl
          | succ i =>
            obtain ⟨d', h1, h2⟩ := args_get (show (args (n + 1) N.length ds)[i]? = _ by simpa using e)
            cases h2
        rw [z h1, z h2]
      io := fun p e => by cases e; exact ⟨start_get rfl, d0, rfl⟩
      iom := fun a m => by cases (show a = q from m); exact ow.some }
    unfold runIO at hm
    rw [if_pos (by rw [← rr.len, hwl])] at hm
    have fin : ∀ {r : SV} {dq : D} {v : V} {F' H' : Hp} {σ' : St} {env' : En}, (match r with
        | .val d => ∀ v F' H', Le F F' → Sub F' H' → (∀ a o, H a = some o → a ≠ q → H' a = some o) → NewF F H F' → OwnAt K F' H' q dq → Rep K F' v d → Q v H'
        | .own d => ∀ p F' H', Le F F' → Sub F' H' → (∀ a o, H a = some o → a ≠ q → H' a = some o) → NewF F H F' → OwnAt K F' H' q dq → OwnAt K F' H' p d → F' p = none → H p = none → Q (.ref p) H') →
        env'[0]? = some (some (.own dq)) → Le F F' → SOk K ⟨H, F, fun a => a = q, some q⟩ F' H' σ' env' → HoldsR K ⟨H, F, fun a => a = q, some q⟩ F' H' σ' env' v r → Q v H' := fun {r dq v F' H' σ' env'} k he l S hr => by
      have kp : ∀ a o, H a = some o → a ≠ q → H' a = some o := fun a o e ne => S.keep a o e ne
      obtain ⟨p0, g1, g2, g3, _⟩ := S.own 0 _ he
      obtain ⟨g4, _⟩ := S.io q rfl
      rw [g1] at g4
      cases g4
      have nF : NewF F H F' := fun a u e => by
        rcases S.newF a u e with z | z | z | z
        · exact .inl z
        · exact .inr (.inl z)
        · have z : a = q := z
          rw [z, g3] at e; cases e
        · exact .inr (.inr z)
      cases r with
      | val d => exact k v F' H' l S.sub kp nF g2 hr
      | own d =>
        obtain ⟨p, rfl, fr⟩ := hr
        refine k p F' H' l S.sub kp nF g2 fr.at' fr.nF ?_
        rcases fr.nB with z | z
        · exact z
        · have z : p = q := z
          exact absurd (by rw [z]; exact g1) (fr.fr 0 _ he)
    unfold endIO at hm
    split at hm
    · rename_i r' env' hb'
      split at hm
      · rename_i dq he
        cases hm
        exact zS_mk S0 hb' fun v F' σ' H' l S hr => fin k he l S hr
      · cases hm
    · rename_i env' hb'
      split at hm
      · rename_i dq he
        cases hm
        exact zS_mk S0 hb' fun F' σ' H' l S => fin (v := .non) (r := .val .none) k he l S .non
      · cases hm
    · cases hm
end
end Z

namespace Z
open PySem PySem.Spec PyProof.Rows L2

/-! ### several values at once, some of them new things -/
abbrev MF := En → Option (List SV × En)
inductive HAll (K : Frag) (b : Bs) (F H : Hp) (σ : St) (env : En) : List V → List SV → Prop
  | nil : HAll K b F H σ env [] []
  | val {v : V} {d : D} {vs : List V} {rs : List SV} : Rep K F v d → HAll K b F H σ env vs rs → HAll K b F H σ env (v :: vs) (.val d :: rs)
  | own {p : Addr} {d : D} {vs : List V} {rs : List SV} : Fresh K b F H σ env p d → (∀ (j : Nat) (d' : D), rs[j]? = some (.own d') → vs[j]? ≠ some (.ref p)) → HAll K b F H σ env vs rs → HAll K b F H σ env (.ref p :: vs) (.own d :: rs)
theorem HAll.len {K : Frag} {b : Bs} {F H : Hp} {σ : St} {env : En} : ∀ {vs : List V} {rs : List SV}, HAll K b F H σ env vs rs → vs.length = rs.length
  | _, _, .nil => rfl
  | _, _, .val _ r => by rw [List.length_cons, List.length_cons, r.len]
  | _, _, .own _ _ r => by rw [List.length_cons, List.length_cons, r.len]
theorem HAll.get {K : Frag} {b : Bs} {F H : Hp} {σ : St} {env : En} : ∀ {vs : List V} {rs : List SV} {j : Nat} {d : D}, HAll K b F H σ env vs rs → rs[j]? = some (.own d) → ∃ p, vs[j]? = some (.ref p) ∧ Fresh K b F H σ env p d
  | _, _, j, _, .nil, e => by simp at e
  | _, _, 0, _, .val _ _, e => by simp at e
  | _, _, j + 1, _, .val _ r, e => by
    obtain ⟨p, h1, h2⟩ := r.get (by simpa using e)
    exact ⟨p, by simpa using h1, h2⟩
  | _, _, 0, _, .own (p := p) f _ _, e => by simp at e; subst e; exact ⟨p, rfl, f⟩
  | _, _, j + 1, _, .own _ _ r, e => by
    obtain ⟨p, h1, h2⟩ := r.get (by simpa using e)
    exact ⟨p, by simpa using h1, h2⟩
def zM (K : Frag) (b : Bs) (f : MF) : TA := fun σ H Q => ∃ F env d env', SOk K b F H σ env ∧ f env = some (d, env') ∧ ∀ v F' H', Le F F' → SOk K b F' H' σ env' → HAll K b F' H' σ env' v d → Q v H'
structure ZM (X : Cx) (es : List Expr) (f : MF) : Prop where
  pa : ∀ b, PA X es (zM X.K b f)
def mNil : MF := fun env => some ([], env)
def mVal (f : EF) (g : MF) : MF := fun env => (f env).bind fun a => (g a.2).map fun c => (.val a.1 :: c.1, c.2)
def mOwn (f : EF) (g : MF) : MF := fun env => (f env).bind fun a => (g a.2).map fun c => (.own a.1 :: c.1, c.2)
def zMx (K : Frag) (f : MF) : TA := fun σ H Q => ∃ b, zM K b f σ H Q
section
variable {X : Cx} {e : Expr} {es : List Expr} {f1 : EF} {m1 : MF} {pos : Pos}
theorem zm_nil : ZM X [] mNil := ⟨fun b => paOf pa_nil fun σ H Q ⟨F, env, d, env', S, e, k⟩ => by cases e; exact k [] F H .refl S .nil⟩
theorem zm_val (ha : ZE X e f1) (hr : ZM X es m1) (hs : starEach (e :: es) X.env = (false, eval e X.env) :: starEach es X.env := by rfl) : ZM X (e :: es) (mVal f1 m1) :=
  ⟨fun b => paOf (pa_cons (ha.pe b) (hr.pa b) hs) fun σ H Q ⟨F, env, d, env', S, e, k⟩ => by
    unfold mVal at e
    obtain ⟨⟨d1, e1⟩, h1, h⟩ := Option.bind_eq_some_iff.mp e
    obtain ⟨⟨d2, e2⟩, h2, h⟩ := Option.map_eq_some_iff.mp h
    cases h
    exact ⟨F, env, d1, e1, S, h1, fun v1 F1 H1 l1 S1 r1 => ⟨F1, e1, d2, _, S1, h2, fun v2 F2 H2 l2 S2 r2 => k _ F2 H2 (l1.trans l2) S2 (.val (r1.mono l2) r2)⟩⟩⟩
theorem Fresh.unbase {K : Frag} {b : Bs} {F F' H H' : Hp} {σ : St} {env env' : En} {p : Addr} {d : D} (S : SOk K b F H σ env) (f : Fresh K (rb b F H σ env) F' H' σ env' p d) : Fresh K b F' H' σ env' p d := by
  obtain ⟨a, nF, nB, fr⟩ := f
  refine ⟨a, nF, ?_, fr⟩
  rcases nB with z | z
  · exact .inl (S.fB z)
  · exact S.unown z
theorem HAll.unbase {K : Frag} {b : Bs} {F F' H H' : Hp} {σ : St} {env env' : En} (S : SOk K b F H σ env) : ∀ {vs : List V} {rs : List SV}, HAll K (rb b F H σ env) F' H' σ env' vs rs → HAll K b F' H' σ env' vs rs
  | _, _, .nil => .nil
  | _, _, .val r t => .val r (t.unbase S)
  | _, _, .own f n t => .own (f.unbase S) n (t.unbase S)
theorem zm_own (ha : ZO X e f1) (hr : ZM X es m1) (hs : starEach (e :: es) X.env = (false, eval e X.env) :: starEach es X.env := by rfl) : ZM X (e :: es) (mOwn f1 m1) :=
  ⟨fun b => paOf (pa_cons (t := zMx X.K m1) (ha.pe b) (fun pos pins s σ H Q I ⟨b', q⟩ => hr.pa b' pos pins s σ H Q I q) hs) fun σ H Q ⟨F, env, d, env', S, e, k⟩ => by
    unfold mOwn at e
    obtain ⟨⟨d1, e1⟩, h1, h⟩ := Option.bind_eq_some_iff.mp e
    obtain ⟨⟨d2, e2⟩, h2, h⟩ := Option.map_eq_some_iff.mp h
    cases h
    refine ⟨F, env, d1, e1, S, h1, fun p F1 H1 l1 S1 f1 => ⟨rb b F1 H1 σ e1, F1, e1, d2, _, S1.rebase, h2, fun v2 F2 H2 l2 S2 r2 => ?_⟩⟩
    obtain ⟨o, ho⟩ := f1.at'.some
    obtain ⟨g1, g2, g3⟩ := S1.held S2 (fun xs z => f1.at'.noTup (xs := xs) (by rcases z with z | ⟨w, z⟩ <;> subst z <;> first | exact .inl ho | exact .inr ⟨_, ho⟩)) ho f1.nF f1.fr
    refine k _ F2 H2 (l1.trans l2) (S1.unbase S2) (.own ⟨(f1.at'.mono l2).heap (g1.trans ho.symm), g2, f1.nB, g3⟩ (fun j d' hj hz => ?_) (r2.unbase S1))
    obtain ⟨p', w1, w2⟩ := r2.get hj
    rw [w1] at hz
    cases hz
    rcases w2.nB with z | z
    · have z : H1 p = none := z
      rw [ho] at z; cases z
    · exact z f1.fr⟩
end

def setAllR (env : En) : List Nat → List SV → En
  | i :: is, d :: ds => setAllR (env.set i (some d)) is ds
  | _, _ => env
section
variable {K : Frag} {b : Bs} {F H : Hp}
theorem free_set {σ : St} {env : En} {i : Nat} {v : V} {r : SV} {p : Addr} (f : Free σ env p) (h : ∀ d, r = .own d → v ≠ .ref p) : Free (σ.set i (some v)) (env.set i (some r)) p := fun j e he z => by
  by_cases q : i = j
  · subst q
    have hl := (List.getElem?_eq_some_iff.mp he).1
    have hl2 := (List.getElem?_eq_some_iff.mp z).1
    rw [List.length_set] at hl hl2
    rw [List.getElem?_set_self hl] at he
    rw [List.getElem?_set_self hl2] at z
    cases he; cases z
    exact h e rfl rfl
  · rw [List.getElem?_set_ne q] at he z
    exact f j e he z
theorem HAll.setH {σ : St} {env : En} {i : Nat} {v : V} {r : SV} : ∀ {vs : List V} {rs : List SV}, HAll K b F H σ env vs rs → (∀ d p, r = .own d → v = .ref p → ∀ (j : Nat) (d' : D), rs[j]? = some (.own d') → vs[j]? ≠ some (.ref p)) → HAll K b F H (σ.set i (some v)) (env.set i (some r)) vs rs
  | _, _, .nil, _ => .nil
  | _, _, .val x t, h => .val x (t.setH fun d p e1 e2 j d' hj => by simpa using h d p e1 e2 (j + 1) d' (by simpa using hj))
  | _, _, .own f n t, h => .own ⟨f.at', f.nF, f.nB, free_set f.fr fun d e z => h d _ e z 0 _ rfl rfl⟩ n (t.setH fun d p e1 e2 j d' hj => by simpa using h d p e1 e2 (j + 1) d' (by simpa using hj))
theorem SOk.setAllR : ∀ {is : List Nat} {vs : List V} {rs : List SV} {σ : St} {env : En}, SOk K b F H σ env → (∀ i ∈ is, i ≠ 0) → HAll K b F H σ env vs rs → SOk K b F H (Z.setAll σ is vs) (Z.setAllR env is rs)
  | [], _, _, _, _, S, _, _ => S
  | _ :: _, _, _, _, _, S, _, .nil => S
  | i :: is, v :: vs, _ :: rs, σ, env, S, h0, .val (d := d) r1 r2 => by
    have S' := S.set (.inr (h0 i (List.mem_cons_self ..))) r1
    exact SOk.setAllR (is := is) (vs := vs) (rs := rs) S' (fun j hj => h0 j (List.mem_cons_of_mem _ hj)) (r2.setH fun d p e _ => nomatch e)
  | i :: is, _ :: vs, _ :: rs, σ, env, S, h0, .own (p := p) (d := d) f n r2 => by
    have S' := S.setOwn (.inr (h0 i (List.mem_cons_self ..))) f.at' f.nF f.nB f.fr
    exact SOk.setAllR (is := is) (vs := vs) (rs := rs) S' (fun j hj => h0 j (List.mem_cons_of_mem _ hj)) (r2.setH fun d p' e1 e2 => by cases e2; exact n)
end
/-- a, b = e1, e2 -/
def sParM (is : List Nat) (f : MF) : SF := fun env => (f env).bind fun a => if a.1.length = is.length then some (.nx (setAllR a.2 is a.1)) else none
section
variable {X : Cx} {m1 : MF} {pos p1 p2 p3 pt : Pos} {x y z : Str} {a c d : Expr} {kt k2 : Nat} {pt2 : Pos}
theorem zs_parM2 (i j : Nat) (hc : X.calm = true) (hN : X.N.Nodup) (ha : ZM X [a, c] m1) (h0 : ∀ k ∈ [i, j], k ≠ 0 := by decide) (hij : i ≠ j := by decide) (hi : X.N[i]? = some x := by rfl) (hj : X.N[j]? = some y := by rfl)
    (hx : X.env.scope.names.lookup x = some .local := by rfl) (hy : X.env.scope.names.lookup y = some .local := by rfl)
    (hw : swappedStores [.Tuple [.Name x p1, .Name y p2] kt pt] (.Tuple [a, c] k2 pt2) X.env = pure (some [x, y]) := by rfl)
    (hs : swapsWithSole [.Tuple [.Name x p1, .Name y p2] kt pt] (.Tuple [a, c] k2 pt2) pos.line X.env = pure false := by rfl) :
    ZS X (.Assign [.Tuple [.Name x p1, .Name y p2] kt pt] (.Tuple [a, c] k2 pt2) pos) (sParM [i, j] m1) := ⟨fun b => psOf (ps_par hc hN hi hj hij hx hy (ha.pa b) hw hs) fun D σ H h => by
  obtain ⟨F, env, o, S, e, k⟩ := zS_un h
  unfold sParM at e
  obtain ⟨⟨d, e1⟩, h1, h⟩ := Option.bind_eq_some_iff.mp e
  split at h
  · rename_i hl
    cases h
    refine ⟨F, env, d, e1, S, h1, fun v F' H' l S' r => ?_⟩
    have S2 := S'.setAllR h0 r
    have rl := r.len
    rw [hl] at rl
    match v, rl with
    | [v, w], _ => exact ⟨v, w, rfl, k F' _ H' l S2⟩
  · cases h⟩
def tPar3 (i j l : Nat) (ta : TA) : TS := fun D σ H => ta σ H fun vs H1 => ∃ v w u, vs = [v, w, u] ∧ D.nx (((σ.set i (some v)).set j (some w)).set l (some u)) H1
end
end Z

namespace Z
open PySem PySem.Spec PyProof.Rows L2
section
variable {X : Cx} {a c : Expr} {f1 f2 : EF} {pos : Pos} {es : List Expr} {g1 : AF}
/-- a + b: ints, or lists -/
def gPlus : D → D → Option D
  | .int i, .int j => some (.int (i + j))
  | .list xs, .list ys => if xs.length + ys.length ≤ sizeLine then some (.list (xs ++ ys)) else none
  | _, _ => none
theorem ze_plus (ha : ZE X a f1) (hc : ZE X c f2) : ZE X (.BinOp a .Add c pos) (eBin gPlus f1 f2) :=
  ⟨fun b => peOf (pe_op (OpR.or op_add op_catS) (ha.pe b) (hc.pe b)) fun σ H Q ⟨F, env, d, env', S, e, k⟩ => by
    obtain ⟨d1, e1, d2, e2, h1, h2, h3, h4⟩ := eBin_some e
    cases h4
    refine ⟨F, env, d1, e1, S, h1, fun v1 F1 H1 l1 S1 r1 => ⟨F1, e1, d2, env', S1, h2, fun v2 F2 H2 l2 S2 r2 => ?_⟩⟩
    unfold gPlus at h3
    split at h3
    · cases h3
      cases r1
      cases r2
      exact .inl ⟨_, _, rfl, rfl, k _ F2 H2 (l1.trans l2) S2 (.int _)⟩
    · split at h3
      · rename_i hl
        cases h3
        cases r1 with
        | lst hs r =>
          cases r2 with
          | lst hs2 r2 =>
            exact .inr ⟨_, _, _, _, rfl, rfl, (hs.mono l2).sq S2.sub, hs2.sq S2.sub, by rw [r.len, r2.len]; exact hl, fun p hp =>
              k _ _ _ ((l1.trans l2).trans (.upd (S2.fF hp))) (S2.new hp) (.lst (.inl upd_same) ((r.mono (l2.trans (.upd (S2.fF hp)))).append (r2.mono (.upd (S2.fF hp)))))⟩
      · cases h3
    · cases h3⟩
end

theorem zss_never {X : Cx} {sts : List Stmt} : ZSs X sts sNone := ⟨fun b => pssOf pss_never fun D σ H h => by
  obtain ⟨F, env, o, S, e, k⟩ := zS_un h
  cases e⟩
/-! ### a def by its name -/
structure Def (P : Program) (w : World) (K : Frag) (mg : Str → Option Value) (base : Heap) (x : Str) (k : Nat) (ps : List Str) (sp : Sp) : Prop where
  ex : ∃ f fd, FnOk P w K mg base CX0 k f fd ps sp ∧ mg x = some (.ref f) ∧ PySem.W.keepIn K (.ref f) = true ∧ L2.Binds K fd ps []
section
variable {X : Cx} {k j : Nat} {ps : List Str} {n : Nat} {m : List D → Option SV} {mi : D → List D → Option (SV × D)} {x : Str} {p pos : Pos} {e : Expr} {es : List Expr} {g1 : AF}
theorem ze_def (G : Def X.prog X.w X.K X.mg X.base x k ps (spP X.K n m)) (hlen : ∀ ds r, m ds = some r → ds.length = n) (hr : Room j X.A) (ha : ZA X (e :: es) g1) (hkj : k ≤ j := by decide)
    (hg : Gl X x := by rfl) (hdb : (x == ("__debug__" : Str)) = false := by decide) (he : starEach (e :: es) X.env = (false, eval e X.env) :: starEach es X.env := by rfl) (hpl : (backTo pos (starEach es X.env)).any (·.1) = false := by rfl) :
    ZE X (.Call (.Name x p) (e :: es) [] pos) (eCall m g1) := by
  obtain ⟨f, fd, G, hm, hk, hb⟩ := G.ex
  exact ze_call G hlen (hr.mono hkj) hm hk hb ha hg hdb he hpl
theorem zo_def (G : Def X.prog X.w X.K X.mg X.base x k ps (spP X.K n m)) (hlen : ∀ ds r, m ds = some r → ds.length = n) (hr : Room j X.A) (ha : ZA X (e :: es) g1) (hkj : k ≤ j := by decide)
    (hg : Gl X x := by rfl) (hdb : (x == ("__debug__" : Str)) = false := by decide) (he : starEach (e :: es) X.env = (false, eval e X.env) :: starEach es X.env := by rfl) (hpl : (backTo pos (starEach es X.env)).any (·.1) = false := by rfl) :
    ZO X (.Call (.Name x p) (e :: es) [] pos) (eCallO m g1) := by
  obtain ⟨f, fd, G, hm, hk, hb⟩ := G.ex
  exact zo_call G hlen (hr.mono hkj) hm hk hb ha hg hdb he hpl
theorem ze_defIO (i : Nat) {y : Str} {p2 : Pos} (G : Def X.prog X.w X.K X.mg X.base x k ps (spIO X.K (n + 1) mi)) (hlen : ∀ d ds r, mi d ds = some r → ds.length = n) (hr : Room j X.A) (ha : ZA X es g1) (hkj : k ≤ j := by decide)
    (hN : X.N[i]? = some y := by rfl) (hv : Vis X.env.scope y := by first | exact Or.inl rfl | exact Or.inr (Or.inl rfl) | exact Or.inr (Or.inr rfl)) (hd : (y == ("__debug__" : Str)) = false := by decide) (hcd : (y == ("__classdict__" : Str)) = false := by decide)
    (hg : Gl X x := by rfl) (hdb : (x == ("__debug__" : Str)) = false := by decide) (he : starEach (.Name y p2 :: es) X.env = (false, eval (.Name y p2) X.env) :: starEach es X.env := by rfl) (hpl : (backTo pos (starEach es X.env)).any (·.1) = false := by rfl) :
    ZE X (.Call (.Name x p) (.Name y p2 :: es) [] pos) (eCallIO i mi g1) := by
  obtain ⟨f, fd, G, hm, hk, hb⟩ := G.ex
  exact ze_callIO i G hlen (hr.mono hkj) hm hk hb ha hN hv hd hcd hg hdb he hpl
end
section
variable {P : Program} {w : World} {K : PySem.W.Frag} {mg : Str → Option Value} {base : Heap}
theorem def_mk {x qual : Str} {st : Stmt} {f : Addr} {fd : FuncData} {ps : List Str} {k : Nat} {sp : Sp} (Fn : Fun K x qual st f fd) (hm : mg x = some (.ref f)) (G : FnOk P w K mg base CX0 k f fd ps sp)
    (h : ∀ (kV doc pm : Value) (an : Option Addr) (cdv ct : Value) (us : List Value), us.length = ps.length → bindArgs (PySem.W.fnOf x qual (defArgs st) (defBody st) (defScope st) .none kV doc pm an cdv ct) ⟨us, []⟩ = pure (ps.zip us)) : Def P w K mg base x k ps sp :=
  ⟨f, fd, G, hm, Fn.kp, Fn.binds h⟩
/-- the text's def as it stands behind the top -/
structure FunIn (K : Frag) (mg : Str → Option Value) (x : Str) (st : Stmt) : Prop where
  ex : ∃ f fd, Fun K x x st f fd ∧ mg x = some (.ref f)
/-- the law's promise, from its data -/
def onlyTab (H : Hp) : Hp := fun b => match H b with
  | some (.tab q) => some (.tab q)
  | _ => none
end
section
variable {X : Cx} {elt tg iter : Expr} {ifs : List Expr} {scope : Scope} {own : List (Str × Nat)} {pos : Pos} {g1 : AF} {is : List Nat} {ft : D → Option (List D)} {tt : BF} {fe : EF}
theorem zs_setCompV {ws : List Nat} (i : Nat) {y : Str} {py spos : Pos} (hc : X.calm = true) (hN : X.N.Nodup) (hsw : swapsWith (.ListComp elt [⟨tg, iter, ifs, 0⟩] scope pos) (some (.Name y py)) spos.line X.env = pure true) (hi : ZI X tg iter g1) (ok : BlkOk X.N X.env.scope scope own)
    (hg : ∀ (s : Shared) (H : Hp) (C : Addr) (cl : List (Str × Addr)) (fp : List Addr), ZG (X.blk s H scope (compEnvC scope cl C X.env) fp) tg is ft) (ht : ∀ (s : Shared) (H : Hp) (C : Addr) (cl : List (Str × Addr)) (fp : List Addr), ZTs (X.blk s H scope (compEnvC scope cl C X.env) fp) ifs tt)
    (he : ∀ (s : Shared) (H : Hp) (C : Addr) (cl : List (Str × Addr)) (fp : List Addr), ZE (X.blk s H scope (compEnvC scope cl C X.env) fp) elt fe) (hws : own.map (·.2) = ws := by rfl) (h0 : ∀ i ∈ ws, i ≠ 0 := by decide) (his : ∀ i ∈ is, i ∈ ws := by decide) (hi0 : i ≠ 0 := by decide)
    (hy : X.N[i]? = some y := by rfl) (hyl : X.env.scope.names.lookup y = some .local := by rfl) (hs : ∀ x, foldedSetIterable iter X.env x = pure x := by intro _; rfl) :
    ZS X (.Assign [.Name y py] (.ListComp elt [⟨tg, iter, ifs, 0⟩] scope pos) spos) (sSet i (eComp g1 is ft tt fe ws)) :=
  by
  subst hws
  exact ⟨fun b => psOf (ps_setLc (tt := zTx X.K tt) (te := zEx X.K fe) hc hN hy hyl hsw (piOf (hi.pi b) zIA_of) ok (fun s H C cl fp => (hg s H C cl fp).pg) (fun s H C cl fp pins s' σ H' Q I ⟨b', q⟩ => (ht s H C cl fp).pt b' pins s' σ H' Q I q) (fun s H C cl fp pins s' σ H' Q I ⟨b', q⟩ => (he s H C cl fp).pe b' pins s' σ H' Q I q) hs) fun D σ H h => by
    obtain ⟨F, env, o, S, e, k⟩ := zS_un h
    obtain ⟨⟨d, e1⟩, h1, h2⟩ := Option.map_eq_some_iff.mp e
    cases h2
    exact tLc_of h0 his ⟨F, env, d, e1, S, h1, fun p F' H' l S' r => by
      obtain ⟨F2, l2, S2, r2⟩ := r.rep S'
      exact k F2 _ H' (l.trans l2) (S2.set (.inr hi0) r2)⟩⟩
end
end Z

/-! What holds behind a piece of a def's function upon data. -/
namespace Z
open PySem L2
structure We (f : EF) (env : En) (R : D → En → Prop) : Prop where
  ex : ∃ d e, f env = some (d, e) ∧ R d e
structure Wb (f : BF) (env : En) (R : Bool → En → Prop) : Prop where
  ex : ∃ d e, f env = some (d, e) ∧ R d e
structure Wa (f : AF) (env : En) (R : List D → En → Prop) : Prop where
  ex : ∃ d e, f env = some (d, e) ∧ R d e
structure Wm (f : MF) (env : En) (R : List SV → En → Prop) : Prop where
  ex : ∃ d e, f env = some (d, e) ∧ R d e
structure Wo (f : OF) (env : En) (R : Option Int → En → Prop) : Prop where
  ex : ∃ d e, f env = some (d, e) ∧ R d e
structure Ws (f : SF) (env : En) (R : Out → Prop) : Prop where
  ex : ∃ o, f env = some o ∧ R o
/-- a call of a def of the text; of one that changes what the name alone holds -/
structure CallP (m : List D → Option SV) (ds : List D) (e : En) (R : D → En → Prop) : Prop where
  ex : ∃ r, m ds = some r ∧ R r.d e
structure CallIO (m : D → List D → Option (SV × D)) (i : Nat) (ds : List D) (e : En) (R : D → En → Prop) : Prop where
  ex : ∃ d0 r d', e[i]? = some (some (.own d0)) ∧ m d0 ds = some (r, d') ∧ R r.d (e.set i (some (.own d')))
/-- a slice of a list -/
structure SlP (d : D) (l u : Option Int) (Q : D → Prop) : Prop where
  ex : ∃ ds, d = .list ds ∧ Q (.list (cutD ds l u))
theorem callP {m : List D → Option SV} {ds : List D} {e : En} {R : D → En → Prop} {r : SV} (h : m ds = some r) (k : R r.d e) : CallP m ds e R := ⟨r, h, k⟩
section
variable {env : En} {R : D → En → Prop} {f f1 f2 f3 f4 : EF} {g : D → D → Option D} {i : Nat} {d : D}
theorem we_var (h : env[i]? = some (some (.val d))) (k : R d env) : We (eVar i) env R := ⟨d, env, by unfold eVar; rw [h], k⟩
theorem we_varF {ds : List D} (h : env[i]? = some (some (.own (.list ds)))) (k : R (.list ds) (env.set i (some (.val (.list ds))))) : We (eVarF i) env R := ⟨_, _, by unfold eVarF; rw [h], k⟩
theorem we_varV (h : env[i]? = some (some (.val d))) (k : R d env) : We (eVarF i) env R := ⟨_, _, by unfold eVarF; rw [h], k⟩
theorem we_c (k : R d env) : We (eC d) env R := ⟨d, env, rfl, k⟩
theorem we_bin (h : We f1 env fun d1 e1 => We f2 e1 fun d2 e2 => ∃ d, g d1 d2 = some d ∧ R d e2) : We (eBin g f1 f2) env R := by
  obtain ⟨d1, e1, h1, d2, e2, h2, d, h3, k⟩ := h
  exact ⟨d, e2, by unfold eBin; rw [h1]; simp only [Option.bind_some]; rw [h2]; simp only [Option.bind_some]; rw [h3]; rfl, k⟩
theorem we_if {t : BF} (h : Wb t env fun k e => (k = true → We f1 e R) ∧ (k = false → We f2 e R)) : We (eIf t f1 f2) env R := by
  obtain ⟨k, e, h1, h2, h3⟩ := h
  cases k with
  | true => obtain ⟨d, e', h4, h5⟩ := h2 rfl; exact ⟨d, e', by unfold eIf; rw [h1]; exact h4, h5⟩
  | false => obtain ⟨d, e', h4, h5⟩ := h3 rfl; exact ⟨d, e', by unfold eIf; rw [h1]; exact h4, h5⟩
theorem we_and (h : We f1 env fun d e => ∃ k, d = .bool k ∧ (k = true → We f2 e R) ∧ (k = false → R (.bool false) e)) : We (eAnd f1 f2) env R := by
  obtain ⟨d, e, h1, k, rfl, h2, h3⟩ := h
  cases k with
  | true => obtain ⟨d, e', h4, h5⟩ := h2 rfl; exact ⟨d, e', by unfold eAnd; rw [h1]; exact h4, h5⟩
  | false => exact ⟨_, _, by unfold eAnd; rw [h1]; rfl, h3 rfl⟩
theorem we_or (h : We f1 env fun d e => ∃ k, d = .bool k ∧ (k = false → We f2 e R) ∧ (k = true → R (.bool true) e)) : We (eOr f1 f2) env R := by
  obtain ⟨d, e, h1, k, rfl, h2, h3⟩ := h
  cases k with
  | false => obtain ⟨d, e', h4, h5⟩ := h2 rfl; exact ⟨d, e', by unfold eOr; rw [h1]; exact h4, h5⟩
  | true => exact ⟨_, _, by unfold eOr; rw [h1]; rfl, h3 rfl⟩
theorem we_not (h : We f1 env fun d e => ∃ k, d = .bool k ∧ R (.bool (!k)) e) : We (eNot f1) env R := by
  obtain ⟨d, e, h1, k, rfl, h2⟩ := h
  exact ⟨_, _, by unfold eNot; rw [h1]; rfl, h2⟩
theorem we_chain {g' : D → D → Option D} (h : We f1 env fun d1 e1 => We f2 e1 fun d2 e2 => ∃ k, g d1 d2 = some (.bool k) ∧ (k = true → We f3 e2 fun d3 e3 => ∃ d, g' d2 d3 = some d ∧ R d e3) ∧ (k = false → R (.bool false) e2)) : We (eChain g g' f1 f2 f3) env R := by
  obtain ⟨d1, e1, h1, d2, e2, h2, k, h3, h4, h5⟩ := h
  cases k with
  | true =>
    obtain ⟨d3, e3, h6, d, h7, h8⟩ := h4 rfl
    exact ⟨d, e3, by unfold eChain; rw [h1]; simp only [Option.bind_some]; rw [h2]; simp only [Option.bind_some]; rw [h3]; simp only [Option.bind_some]; rw [h6]; simp only [Option.bind_some]; rw [h7]; rfl, h8⟩
  | false => exact ⟨_, e2, by unfold eChain; rw [h1]; simp only [Option.bind_some]; rw [h2]; simp only [Option.bind_some]; rw [h3]; rfl, h5 rfl⟩
theorem we_chain3 {g' g2 : D → D → Option D} (h : We f1 env fun d1 e1 => We f2 e1 fun d2 e2 => ∃ k, g d1 d2 = some (.bool k) ∧ (k = true → We f3 e2 fun d3 e3 => ∃ k2, g' d2 d3 = some (.bool k2) ∧ (k2 = true → We f4 e3 fun d4 e4 => ∃ d, g2 d3 d4 = some d ∧ R d e4) ∧ (k2 = false → R (.bool false) e3)) ∧ (k = false → R (.bool false) e2)) : We (eChain3 g g' g2 f1 f2 f3 f4) env R := by
  obtain ⟨d1, e1, h1, d2, e2, h2, k, h3, h4, h5⟩ := h
  cases k with
  | true =>
    obtain ⟨d3, e3, h6, k2, h7, h8, h9⟩ := h4 rfl
    cases k2 with
    | true =>
      obtain ⟨d4, e4, h10, d, h11, h12⟩ := h8 rfl
      exact ⟨d, e4, by unfold eChain3; rw [h1]; simp only [Option.bind_some]; rw [h2]; simp only [Option.bind_some]; rw [h3]; simp only [Option.bind_some]; rw [h6]; simp only [Option.bind_some]; rw [h7]; simp only [Option.bind_some]; rw [h10]; simp only [Option.bind_some]; rw [h11]; rfl, h12⟩
    | false => exact ⟨_, e3, by unfold eChain3; rw [h1]; simp only [Option.bind_some]; rw [h2]; simp only [Option.bind_some]; rw [h3]; simp only [Option.bind_some]; rw [h6]; simp only [Option.bind_some]; rw [h7]; rfl, h9 rfl⟩
  | false => exact ⟨_, e2, by unfold eChain3; rw [h1]; simp only [Option.bind_some]; rw [h2]; simp only [Option.bind_some]; rw [h3]; rfl, h5 rfl⟩
theorem we_tup {a : AF} (h : Wa a env fun ds e => ds.length ≤ sizeLine ∧ R (.tuple ds) e) : We (eTup a) env R := by
  obtain ⟨ds, e, h1, h2, h3⟩ := h
  exact ⟨_, e, by unfold eTup; rw [h1]; simp only [Option.bind_some]; rw [if_pos h2], h3⟩
theorem we_lst {a : AF} (h : Wa a env fun ds e => ds.length ≤ sizeLine ∧ R (.list ds) e) : We (eLst a) env R := by
  obtain ⟨ds, e, h1, h2, h3⟩ := h
  exact ⟨_, e, by unfold eLst; rw [h1]; simp only [Option.bind_some]; rw [if_pos h2], h3⟩
theorem we_cb {a : AF} {gd : List D → Option D} (h : Wa a env fun ds e => ∃ d, gd ds = some d ∧ R d e) : We (eCB gd a) env R := by
  obtain ⟨ds, e, h1, d, h2, h3⟩ := h
  exact ⟨d, e, by unfold eCB; rw [h1]; simp only [Option.bind_some]; rw [h2]; rfl, h3⟩
theorem we_call {a : AF} {m : List D → Option SV} (h : Wa a env fun ds e => CallP m ds e R) : We (eCall m a) env R := by
  obtain ⟨ds, e, h1, d, h2, h3⟩ := h
  exact ⟨_, e, by unfold eCall; rw [h1]; simp only [Option.bind_some]; rw [h2]; rfl, h3⟩
theorem we_callO {a : AF} {m : List D → Option SV} (h : Wa a env fun ds e => ∃ d, m ds = some (.own d) ∧ R d e) : We (eCallO m a) env R := by
  obtain ⟨ds, e, h1, d, h2, h3⟩ := h
  exact ⟨_, e, by unfold eCallO; rw [h1]; simp only [Option.bind_some]; rw [h2]; rfl, h3⟩
theorem we_callIO {a : AF} {m : D → List D → Option (SV × D)} {d00 : D} (h0 : env[i]? = some (some (.own d00))) (h : Wa a env fun ds e => CallIO m i ds e R) : We (eCallIO i m a) env R := by
  obtain ⟨ds, e, h1, d0, r, d', h2, h3, h4⟩ := h
  exact ⟨_, _, by unfold eCallIO; rw [h0]; simp only []; rw [h1]; simp only [Option.bind_some]; rw [h2]; simp only []; rw [h3]; rfl, h4⟩
theorem we_ixB {d00 : D} (h0 : env[i]? = some (some (.own d00))) (h : We f env fun dk e => ∃ ds k d, e[i]? = some (some (.own (.list ds))) ∧ dk = .int k ∧ L2.atI ds k = some d ∧ R d e) : We (eIxB i f) env R := by
  obtain ⟨dk, e, h1, ds, k, d, h2, rfl, h3, h4⟩ := h
  exact ⟨d, e, by unfold eIxB; rw [h0]; simp only []; rw [h1]; simp only [Option.bind_some]; rw [h2]; simp only []; rw [h3]; rfl, h4⟩
theorem we_list {a : AF} (h : Wa a env fun xs e => ∃ ds, (xs = [.list ds] ∨ xs = [.tuple ds]) ∧ R (.list ds) e) : We (eList a) env R := by
  obtain ⟨xs, e, h1, ds, h2, h3⟩ := h
  rcases h2 with rfl | rfl
  · exact ⟨_, e, by unfold eList; rw [h1]; rfl, h3⟩
  · exact ⟨_, e, by unfold eList; rw [h1]; rfl, h3⟩
theorem we_tuple {a : AF} (h : Wa a env fun xs e => ∃ ds, (xs = [.list ds] ∨ xs = [.tuple ds]) ∧ R (.tuple ds) e) : We (eTuple a) env R := by
  obtain ⟨xs, e, h1, ds, h2, h3⟩ := h
  rcases h2 with rfl | rfl
  · exact ⟨_, e, by unfold eTuple; rw [h1]; rfl, h3⟩
  · exact ⟨_, e, by unfold eTuple; rw [h1]; rfl, h3⟩
theorem we_inst {n : String} (h : We f env fun d e => R (.bool (subT (tyD d) n)) e) : We (eInst n f) env R := by
  obtain ⟨d, e, h1, h2⟩ := h
  exact ⟨_, e, by unfold eInst; rw [h1]; rfl, h2⟩
theorem we_inst2 {n m : String} (h : We f env fun d e => R (.bool (subT (tyD d) n || subT (tyD d) m)) e) : We (eInst2 n m f) env R := by
  obtain ⟨d, e, h1, h2⟩ := h
  exact ⟨_, e, by unfold eInst2; rw [h1]; rfl, h2⟩
theorem we_sl {o1 o2 : OF} (h : We f env fun d e => Wo o1 e fun l e1 => Wo o2 e1 fun u e2 => SlP d l u fun x => R x e2) : We (eSl f o1 o2) env R := by
  obtain ⟨d, e, h1, l, e1, h2, u, e2, h3, ds, rfl, h4⟩ := h
  exact ⟨_, e2, by unfold eSl; rw [h1]; simp only [Option.bind_some]; rw [h2]; simp only [Option.bind_some]; rw [h3]; rfl, h4⟩
theorem we_rev (h : We f env fun d e => ∃ ds, d = .list ds ∧ R (.list ds.reverse) e) : We (eRev f) env R := by
  obtain ⟨d, e, h1, ds, rfl, h4⟩ := h
  exact ⟨_, e, by unfold eRev; rw [h1]; rfl, h4⟩
theorem we_neB {d00 : D} (h0 : env[i]? = some (some (.own d00))) (h : We f env fun dk e => ∃ ds d, e[i]? = some (some (.own (.list ds))) ∧ gNe (.list ds) dk = some d ∧ R d e) : We (eCmpB gNe i f) env R := by
  obtain ⟨dk, e, h1, ds, d, h2, h3, h4⟩ := h
  exact ⟨d, e, by unfold eCmpB; rw [h0]; simp only []; rw [h1]; simp only [Option.bind_some]; rw [h2]; simp only []; rw [h3]; rfl, h4⟩
theorem we_comp {fi : AF} {is : List Nat} {ft : D → Option (List D)} {tt : BF} {fe : EF} {ws : List Nat} (h : Wa fi env fun ds e => ∃ rs e2, compL is ft tt fe ws ds (wipeE e ws) = some (rs, e2) ∧ rs.length < sizeLine ∧ R (.list rs) e2) : We (eComp fi is ft tt fe ws) env R := by
  obtain ⟨ds, e, h1, rs, e2, h2, h3, h4⟩ := h
  exact ⟨_, e2, by unfold eComp; rw [h1]; simp only [Option.bind_some]; rw [h2]; simp only [Option.bind_some]; rw [if_pos h3], h4⟩
end
section
variable {env : En} {R : Bool → En → Prop} {f f1 f2 : BF}
theorem wb_t {f : EF} (h : We f env fun d e => ∃ k, d = .bool k ∧ R k e) : Wb (bT f) env R := by
  obtain ⟨d, e, h1, k, rfl, h2⟩ := h
  exact ⟨k, e, by unfold bT; rw [h1]; rfl, h2⟩
theorem wb_and (h : Wb f1 env fun k e => (k = true → Wb f2 e R) ∧ (k = false → R false e)) : Wb (bAnd f1 f2) env R := by
  obtain ⟨k, e, h1, h2, h3⟩ := h
  cases k with
  | true => obtain ⟨d, e', h4, h5⟩ := h2 rfl; exact ⟨d, e', by unfold bAnd; rw [h1]; exact h4, h5⟩
  | false => exact ⟨_, _, by unfold bAnd; rw [h1]; rfl, h3 rfl⟩
theorem wb_or (h : Wb f1 env fun k e => (k = false → Wb f2 e R) ∧ (k = true → R true e)) : Wb (bOr f1 f2) env R := by
  obtain ⟨k, e, h1, h2, h3⟩ := h
  cases k with
  | false => obtain ⟨d, e', h4, h5⟩ := h2 rfl; exact ⟨d, e', by unfold bOr; rw [h1]; exact h4, h5⟩
  | true => exact ⟨_, _, by unfold bOr; rw [h1]; rfl, h3 rfl⟩
theorem wb_not (h : Wb f1 env fun k e => R (!k) e) : Wb (bNot f1) env R := by
  obtain ⟨k, e, h1, h2⟩ := h
  exact ⟨_, e, by unfold bNot; rw [h1]; rfl, h2⟩
theorem wb_yes (h : R true env) : Wb bYes env R := ⟨true, env, rfl, h⟩
end
section
variable {env : En} {R : List D → En → Prop} {f : EF} {a : AF}
theorem wa_nil (h : R [] env) : Wa aNil env R := ⟨[], env, rfl, h⟩
theorem wa_cons (h : We f env fun d e => Wa a e fun ds e2 => R (d :: ds) e2) : Wa (aCons f a) env R := by
  obtain ⟨d, e, h1, ds, e2, h2, h3⟩ := h
  exact ⟨_, e2, by unfold aCons; rw [h1]; simp only [Option.bind_some]; rw [h2]; rfl, h3⟩
theorem wi_l (h : We f env fun d e => ∃ ds, d = .list ds ∧ R ds e) : Wa (iL f) env R := by
  obtain ⟨d, e, h1, ds, rfl, h2⟩ := h
  exact ⟨_, e, by unfold iL; rw [h1]; rfl, h2⟩
theorem wi_t (h : We f env fun d e => ∃ ds, d = .tuple ds ∧ R ds e) : Wa (iT f) env R := by
  obtain ⟨d, e, h1, ds, rfl, h2⟩ := h
  exact ⟨_, e, by unfold iT; rw [h1]; rfl, h2⟩
theorem wi_r1 (h : Wa a env fun ds e => ∃ j, ds = [.int j] ∧ (-(2 ^ 62) ≤ j ∧ j < 2 ^ 62) ∧ R (rngD 0 j.toNat) e) : Wa (iR1 a) env R := by
  obtain ⟨d, e, h1, ds, rfl, h2, h3⟩ := h
  exact ⟨_, e, by unfold iR1; rw [h1]; simp only [Option.bind_some]; rw [if_pos h2], h3⟩
theorem wi_r2 (h : Wa a env fun ds e => ∃ i j, ds = [.int i, .int j] ∧ (-(2 ^ 62) ≤ i ∧ i < 2 ^ 62 ∧ -(2 ^ 62) ≤ j ∧ j < 2 ^ 62) ∧ R (rngD i (j - i).toNat) e) : Wa (iR2 a) env R := by
  obtain ⟨d, e, h1, i, j, rfl, h2, h3⟩ := h
  exact ⟨_, e, by unfold iR2; rw [h1]; simp only [Option.bind_some]; rw [if_pos h2], h3⟩
theorem wi_en (h : Wa a env fun ds e => ∃ xs, ds = [.list xs] ∧ R (enumD 0 xs) e) : Wa (iEn a) env R := by
  obtain ⟨d, e, h1, xs, rfl, h3⟩ := h
  exact ⟨_, e, by unfold iEn; rw [h1]; rfl, h3⟩
theorem wi_z (h : Wa a env fun ds e => ∃ xs ys, ds = [.list xs, .list ys] ∧ R (zipD xs ys) e) : Wa (iZ a) env R := by
  obtain ⟨d, e, h1, xs, ys, rfl, h3⟩ := h
  exact ⟨_, e, by unfold iZ; rw [h1]; rfl, h3⟩
end
section
variable {env : En} {R : Option Int → En → Prop} {f : EF}
theorem wo_none (h : R none env) : Wo oNone env R := ⟨none, env, rfl, h⟩
theorem wo_some (h : We f env fun d e => ∃ i, d = .int i ∧ R (some i) e) : Wo (oSome f) env R := by
  obtain ⟨d, e, h1, i, rfl, h3⟩ := h
  exact ⟨_, e, by unfold oSome; rw [h1]; rfl, h3⟩
end
section
variable {env : En} {R : List SV → En → Prop} {f : EF} {a : MF}
theorem wm_nil (h : R [] env) : Wm mNil env R := ⟨[], env, rfl, h⟩
theorem wm_val (h : We f env fun d e => Wm a e fun ds e2 => R (.val d :: ds) e2) : Wm (mVal f a) env R := by
  obtain ⟨d, e, h1, ds, e2, h2, h3⟩ := h
  exact ⟨_, e2, by unfold mVal; rw [h1]; simp only [Option.bind_some]; rw [h2]; rfl, h3⟩
theorem wm_own (h : We f env fun d e => Wm a e fun ds e2 => R (.own d :: ds) e2) : Wm (mOwn f a) env R := by
  obtain ⟨d, e, h1, ds, e2, h2, h3⟩ := h
  exact ⟨_, e2, by unfold mOwn; rw [h1]; simp only [Option.bind_some]; rw [h2]; rfl, h3⟩
end
section
variable {env : En} {R : Out → Prop} {f g : SF} {fe fv : EF} {a : AF} {i : Nat}
theorem ws_nx (h : R (.nx env)) : Ws sNx env R := ⟨_, rfl, h⟩
theorem ws_bk (h : R (.bk env)) : Ws sBk env R := ⟨_, rfl, h⟩
theorem ws_ct (h : R (.ct env)) : Ws sCt env R := ⟨_, rfl, h⟩
/-- what comes behind a statement -/
def Then (g : SF) (R : Out → Prop) : Out → Prop
  | .nx e => Ws g e R
  | o => R o
theorem ws_seq (h : Ws f env (Then g R)) : Ws (sSeq f g) env R := by
  obtain ⟨o, h1, h2⟩ := h
  cases o with
  | nx e => obtain ⟨o2, h3, h4⟩ := h2; exact ⟨o2, by unfold sSeq; rw [h1]; exact h3, h4⟩
  | rt r e => exact ⟨_, by unfold sSeq; rw [h1]; rfl, h2⟩
  | bk e => exact ⟨_, by unfold sSeq; rw [h1]; rfl, h2⟩
  | ct e => exact ⟨_, by unfold sSeq; rw [h1]; rfl, h2⟩
theorem ws_drop (h : We fe env fun d e => R (.nx e)) : Ws (sDrop fe) env R := by
  obtain ⟨d, e, h1, h2⟩ := h
  exact ⟨_, by unfold sDrop; rw [h1]; rfl, h2⟩
theorem ws_ret (h : We fe env fun d e => R (.rt (.val d) e)) : Ws (sRet fe) env R := by
  obtain ⟨d, e, h1, h2⟩ := h
  exact ⟨_, by unfold sRet; rw [h1]; rfl, h2⟩
theorem ws_retO (h : We fe env fun d e => R (.rt (.own d) e)) : Ws (sRetO fe) env R := by
  obtain ⟨d, e, h1, h2⟩ := h
  exact ⟨_, by unfold sRetO; rw [h1]; rfl, h2⟩
theorem ws_retV {d : D} (h : env[i]? = some (some (.own d))) (k : R (.rt (.own d) (env.set i none))) : Ws (sRetV i) env R := ⟨_, by unfold sRetV; rw [h], k⟩
theorem ws_if {t : BF} (h : Wb t env fun k e => (k = true → Ws f e R) ∧ (k = false → Ws g e R)) : Ws (sIf t f g) env R := by
  obtain ⟨k, e, h1, h2, h3⟩ := h
  cases k with
  | true => obtain ⟨o, h4, h5⟩ := h2 rfl; exact ⟨o, by unfold sIf; rw [h1]; exact h4, h5⟩
  | false => obtain ⟨o, h4, h5⟩ := h3 rfl; exact ⟨o, by unfold sIf; rw [h1]; exact h4, h5⟩
theorem ws_set (h : We fe env fun d e => R (.nx (e.set i (some (.val d))))) : Ws (sSet i fe) env R := by
  obtain ⟨d, e, h1, h2⟩ := h
  exact ⟨_, by unfold sSet; rw [h1]; rfl, h2⟩
theorem ws_setO (h : We fe env fun d e => R (.nx (e.set i (some (.own d))))) : Ws (sSetO i fe) env R := by
  obtain ⟨d, e, h1, h2⟩ := h
  exact ⟨_, by unfold sSetO; rw [h1]; rfl, h2⟩
theorem ws_tgt {is : List Nat} {ft : D → Option (List D)} (h : We fe env fun d e => ∃ ds, ft d = some ds ∧ R (.nx (setAllE e is ds))) : Ws (sTgt is ft fe) env R := by
  obtain ⟨d, e, h1, ds, h2, h3⟩ := h
  exact ⟨_, by unfold sTgt; rw [h1]; simp only [Option.bind_some]; rw [h2]; rfl, h3⟩
theorem ws_par {is : List Nat} {m : MF} (h : Wm m env fun rs e => rs.length = is.length ∧ R (.nx (setAllR e is rs))) : Ws (sParM is m) env R := by
  obtain ⟨rs, e, h1, h2, h3⟩ := h
  exact ⟨_, by unfold sParM; rw [h1]; simp only [Option.bind_some]; rw [if_pos h2], h3⟩
theorem ws_put (h : We fv env fun d e => ∃ d00, e[i]? = some (some (.own d00)) ∧ We fe e fun dk e1 => ∃ ds k j, e1[i]? = some (some (.own (.list ds))) ∧ dk = .int k ∧ ixN ds.length k = some j ∧ R (.nx (e1.set i (some (.own (.list (ds.set j d))))))) : Ws (sPut i fe fv) env R := by
  obtain ⟨d, e, h1, d00, h2, dk, e1, h3, ds, k, j, h4, rfl, h5, h6⟩ := h
  exact ⟨_, by unfold sPut; rw [h1]; simp only [Option.bind_some]; rw [h2]; simp only []; rw [h3]; simp only [Option.bind_some]; rw [h4]; simp only []; rw [h5]; rfl, h6⟩
theorem ws_app {ds0 : List D} (h0 : env[i]? = some (some (.own (.list ds0)))) (h : Wa a env fun xs e => ∃ ds d, e[i]? = some (some (.own (.list ds))) ∧ xs = [d] ∧ ds.length < sizeLine ∧ R (.nx (e.set i (some (.own (.list (ds ++ [d]))))))) : Ws (sApp i a) env R := by
  obtain ⟨xs, e, h1, ds, d, h2, rfl, h3, h4⟩ := h
  exact ⟨_, by unfold sApp; rw [h0]; simp only []; rw [h1]; simp only [Option.bind_some]; rw [h2]; simp only []; rw [if_pos h3], h4⟩
/-- a loop by an invariant of the turn's number -/
theorem ws_for {is : List Nat} {ft : D → Option (List D)} {body : SF} (h : Wa a env fun ds e => ∃ o, forL is ft body ds e = some o ∧ R o) : Ws (sFor a is ft body) env R := by
  obtain ⟨ds, e, h1, o, h2, h3⟩ := h
  exact ⟨o, by unfold sFor; rw [h1]; exact h2, h3⟩
end
theorem Ws.mono {f : SF} {env : En} {P R : Out → Prop} (h : Ws f env P) (k : ∀ o, P o → R o) : Ws f env R := let ⟨o, h1, h2⟩ := h.ex; ⟨o, h1, k o h2⟩
theorem We.mono {f : EF} {env : En} {P R : D → En → Prop} (h : We f env P) (k : ∀ d e, P d e → R d e) : We f env R := let ⟨o, e, h1, h2⟩ := h.ex; ⟨o, e, h1, k o e h2⟩
/-- what a turn's end must be -/
def TurnEnd (P : En → Prop) (R : Out → Prop) : Out → Prop
  | .nx e => P e
  | .ct e => P e
  | .bk e => R (.nx e)
  | .rt r e => R (.rt r e)
theorem forL_by {is : List Nat} {ft : D → Option (List D)} {body : SF} {R : Out → Prop} : ∀ (ds : List D) (P : Nat → En → Prop) (n : Nat) (env : En), P n env →
    (∀ i d env, ds[i]? = some d → P (n + i) env → ∃ xs, ft d = some xs ∧ Ws body (setAllE env is xs) (TurnEnd (P (n + i + 1)) R)) → (∀ env, P (n + ds.length) env → R (.nx env)) → ∃ o, forL is ft body ds env = some o ∧ R o
  | [], P, n, env, h0, hs, hd => ⟨_, rfl, hd env h0⟩
  | d :: ds, P, n, env, h0, hs, hd => by
    obtain ⟨xs, h1, o, h2, h3⟩ := hs 0 d env rfl h0
    have go : ∀ e, P (n + 1) e → ∃ o, forL is ft body ds e = some o ∧ R o := fun e he =>
      forL_by ds P (n + 1) e he (fun i d' env' hi hp => by
        have := hs (i + 1) d' env' (by simpa using hi) (by rw [Nat.add_comm i 1, ← Nat.add_assoc]; exact hp)
        rw [Nat.add_comm i 1, ← Nat.add_assoc] at this
        exact this) (fun env' hp => hd env' (by rw [List.length_cons, Nat.add_comm ds.length 1, ← Nat.add_assoc]; exact hp))
    cases o with
    | nx e =>
      obtain ⟨o, g1, g2⟩ := go e h3
      exact ⟨o, by unfold forL; rw [h1]; simp only [Option.bind_some]; rw [h2]; exact g1, g2⟩
    | ct e =>
      obtain ⟨o, g1, g2⟩ := go e h3
      exact ⟨o, by unfold forL; rw [h1]; simp only [Option.bind_some]; rw [h2]; exact g1, g2⟩
    | bk e => exact ⟨_, by unfold forL; rw [h1]; simp only [Option.bind_some]; rw [h2]; rfl, h3⟩
    | rt r e => exact ⟨_, by unfold forL; rw [h1]; simp only [Option.bind_some]; rw [h2]; rfl, h3⟩
/-- .. from nought -/
theorem forL_inv {is : List Nat} {ft : D → Option (List D)} {body : SF} {R : Out → Prop} {ds : List D} {env : En} (P : Nat → En → Prop) (h0 : P 0 env)
    (hs : ∀ i d env, ds[i]? = some d → P i env → ∃ xs, ft d = some xs ∧ Ws body (setAllE env is xs) (TurnEnd (P (i + 1)) R)) (hd : ∀ env, P ds.length env → R (.nx env)) : ∃ o, forL is ft body ds env = some o ∧ R o :=
  forL_by ds P 0 env h0 (fun i d e hi hp => by rw [Nat.zero_add] at hp ⊢; exact hs i d e hi hp) (fun e hp => hd e (by rw [Nat.zero_add] at hp; exact hp))
section
theorem gMod_eq {i j : Int} (h : 0 < j) : gMod (.int i) (.int j) = some (.int (i % j)) := by show (if 0 < j then _ else _) = _; rw [if_pos h]
theorem gDiv_eq {i j : Int} (h : 0 < j ∧ j < 1073741824) : gDiv (.int i) (.int j) = some (.int (i / j)) := by show (if 0 < j ∧ j < 1073741824 then _ else _) = _; rw [if_pos h]
theorem gMul_eq {i j : Int} (h : (-(2 ^ 64) < i ∧ i < 2 ^ 64) ∨ (-(2 ^ 64) < j ∧ j < 2 ^ 64)) : gMul (.int i) (.int j) = some (.int (i * j)) := by show (if _ then _ else _) = _; rw [if_pos h]
theorem gPlusL {xs ys : List D} (h : xs.length + ys.length ≤ sizeLine) : gPlus (.list xs) (.list ys) = some (.list (xs ++ ys)) := by show (if _ then _ else _) = _; rw [if_pos h]
theorem sz {n : Nat} (h : n ≤ 1000) : n ≤ sizeLine := Nat.le_trans h (by decide)
theorem sz' {n : Nat} (h : n ≤ 1000) : n < sizeLine := Nat.lt_of_le_of_lt h (by decide)
theorem runP_of {n N : Nat} {body : SF} {ds : List D} {r : SV} (hl : ds.length = n) (h : Ws body (args n N ds) fun o => endOf (some o) = some r) : runP n N body ds = some r := by
  obtain ⟨o, h1, h2⟩ := h
  unfold runP
  rw [if_pos hl, h1, h2]
theorem runIO_of {n N : Nat} {body : SF} {d0 : D} {ds : List D} {Q : SV × D → Prop} (hl : ds.length = n) (h : Ws body (some (.own d0) :: args (n + 1) N ds) fun o => ∃ r, endIO (some o) = some r ∧ Q r) : ∃ r, runIO n N body d0 ds = some r ∧ Q r := by
  obtain ⟨o, h1, r, h2, h3⟩ := h
  exact ⟨r, by unfold runIO; rw [if_pos hl, h1, h2], h3⟩
theorem runP_ex {n N : Nat} {body : SF} {ds : List D} {Q : SV → Prop} (hl : ds.length = n) (h : Ws body (args n N ds) fun o => ∃ r, endOf (some o) = some r ∧ Q r) : ∃ r, runP n N body ds = some r ∧ Q r := by
  obtain ⟨o, h1, r, h2, h3⟩ := h
  exact ⟨r, by unfold runP; rw [if_pos hl, h1, h2], h3⟩
end
end Z

namespace Z
open PySem L2
theorem gEq_int {a b : Int} : gEq (.int a) (.int b) = some (.bool (decide (a = b))) := by
  simp [gEq, SeqAt.shaped, PyData.canLay0, PyData.depth, PyData.eqv, BEq.beq]
theorem gNe_int {a b : Int} : gNe (.int a) (.int b) = some (.bool (!decide (a = b))) := by
  simp [gNe, SeqAt.shaped, PyData.canLay0, PyData.depth, PyData.eqv, BEq.beq]
/-- data of at most n levels -/
structure Sh (n : Nat) (d : D) : Prop where
  cl : d.canLay0 = true
  dp : d.depth ≤ n
theorem canAll : ∀ {xs : List D}, (∀ x ∈ xs, x.canLay0 = true) → PyData.canLayAll0 xs = true
  | [], _ => by simp [PyData.canLayAll0]
  | x :: xs, h => by
    rw [PyData.canLayAll0, h x (List.mem_cons_self ..), canAll fun y hy => h y (List.mem_cons_of_mem _ hy)]; rfl
theorem depthAll_le {n : Nat} : ∀ {xs : List D}, (∀ x ∈ xs, x.depth ≤ n) → PyData.depthAll xs ≤ n
  | [], _ => by simp [PyData.depthAll]
  | x :: xs, h => by
    rw [PyData.depthAll]
    exact Nat.max_le.mpr ⟨h x (List.mem_cons_self ..), depthAll_le fun y hy => h y (List.mem_cons_of_mem _ hy)⟩
theorem sh_list {n : Nat} {xs : List D} (h : ∀ x ∈ xs, Sh n x) : Sh (n + 1) (.list xs) := ⟨by rw [PyData.canLay0]; exact canAll fun x hx => (h x hx).cl, by rw [PyData.depth]; have := depthAll_le fun x hx => (h x hx).dp; omega⟩
theorem sh_tup {n : Nat} {xs : List D} (h : ∀ x ∈ xs, Sh n x) : Sh (n + 1) (.tuple xs) := ⟨by rw [PyData.canLay0]; exact canAll fun x hx => (h x hx).cl, by rw [PyData.depth]; have := depthAll_le fun x hx => (h x hx).dp; omega⟩
theorem sh_int {n : Nat} {i : Int} : Sh n (.int i) := ⟨by simp [PyData.canLay0], by simp [PyData.depth]⟩
theorem sh_none {n : Nat} : Sh n .none := ⟨by simp [PyData.canLay0], by simp [PyData.depth]⟩
theorem Sh.up {n m : Nat} {d : D} (h : Sh n d) (l : n ≤ m) : Sh m d := ⟨h.cl, Nat.le_trans h.dp l⟩
theorem Sh.ok {n : Nat} {d : D} (h : Sh n d) (l : n ≤ 64 := by decide) : SeqAt.shaped d = true := by
  unfold SeqAt.shaped
  rw [h.cl]
  have := h.dp
  simp; omega
theorem gNe_nil {ds : List D} (h : Sh 63 (.list ds)) : gNe (.list ds) (.list []) = some (.bool (!ds.isEmpty)) := by
  unfold gNe
  rw [if_pos ⟨h.ok, (sh_list (n := 0) (by simp)).ok⟩]
  cases ds <;> simp [PyData.eqv, PyData.eqvAll]
theorem gNe_refl {d : D} (h : Sh 64 d) : gNe d d = some (.bool false) := by
  unfold gNe
  rw [if_pos ⟨h.ok, h.ok⟩, PySem.SeqAt.eqv_refl d h.cl]; rfl
theorem gEq_refl {d : D} (h : Sh 64 d) : gEq d d = some (.bool true) := by
  unfold gEq
  rw [if_pos ⟨h.ok, h.ok⟩, PySem.SeqAt.eqv_refl d h.cl]
theorem cutD_map {α : Type} {f : α → D} {xs : List α} {lo hi : Option Int} : cutD (xs.map f) lo hi = ((xs.drop (HT.sIx xs.length 0 lo)).take (HT.sIx xs.length xs.length hi - HT.sIx xs.length 0 lo)).map f := by
  unfold cutD
  rw [List.length_map, List.map_take, List.map_drop]
theorem sIx_nat {n d : Nat} {i : Int} (h : 0 ≤ i) : HT.sIx n d (some i) = min i.toNat n := by
  unfold HT.sIx
  simp only []
  split <;> omega
theorem cut_to {α : Type} {f : α → D} {xs : List α} {i : Int} (h : 0 ≤ i) : cutD (xs.map f) none (some i) = (xs.take i.toNat).map f := by
  rw [cutD_map, sIx_nat h]
  have : HT.sIx xs.length 0 none = 0 := rfl
  rw [this, List.drop_zero, Nat.sub_zero]
  congr 1
  by_cases hh : i.toNat ≤ xs.length
  · rw [Nat.min_eq_left hh]
  · rw [Nat.min_eq_right (by omega), List.take_of_length_le (by omega), List.take_of_length_le (by omega)]
theorem cut_from {α : Type} {f : α → D} {xs : List α} {i : Int} (h : 0 ≤ i) : cutD (xs.map f) (some i) none = (xs.drop i.toNat).map f := by
  rw [cutD_map, sIx_nat h]
  have : HT.sIx xs.length xs.length none = xs.length := rfl
  rw [this]
  congr 1
  by_cases hh : i.toNat ≤ xs.length
  · rw [Nat.min_eq_left hh, List.take_of_length_le (by rw [List.length_drop]; omega)]
  · rw [Nat.min_eq_right (by omega), Nat.sub_self, List.take_zero, List.drop_eq_nil_of_le (by omega)]
theorem cut_both {α : Type} {f : α → D} {xs : List α} {i j : Int} (h : 0 ≤ i) (h2 : 0 ≤ j) : cutD (xs.map f) (some i) (some j) = ((xs.drop i.toNat).take (min j.toNat xs.length - min i.toNat xs.length)).map f := by
  rw [cutD_map, sIx_nat h, sIx_nat h2]
  congr 2
  by_cases hh : i.toNat ≤ xs.length
  · rw [Nat.min_eq_left hh]
  · rw [Nat.min_eq_right (by omega), List.drop_eq_nil_of_le (by omega), List.drop_eq_nil_of_le (by omega)]
theorem sl_to {α : Type} {f : α → D} {xs : List α} {i : Int} {Q : D → Prop} (h : 0 ≤ i) (k : Q (.list ((xs.take i.toNat).map f))) : SlP (.list (xs.map f)) none (some i) Q := ⟨_, rfl, by rw [cut_to h]; exact k⟩
theorem sl_from {α : Type} {f : α → D} {xs : List α} {i : Int} {Q : D → Prop} (h : 0 ≤ i) (k : Q (.list ((xs.drop i.toNat).map f))) : SlP (.list (xs.map f)) (some i) none Q := ⟨_, rfl, by rw [cut_from h]; exact k⟩
theorem sl_both {α : Type} {f : α → D} {xs : List α} {i j : Int} {Q : D → Prop} (h : 0 ≤ i) (h2 : 0 ≤ j) (k : Q (.list (((xs.drop i.toNat).take (min j.toNat xs.length - min i.toNat xs.length)).map f))) : SlP (.list (xs.map f)) (some i) (some j) Q := ⟨_, rfl, by rw [cut_both h h2]; exact k⟩
theorem gPlus_map {α : Type} {f : α → D} {xs ys : List α} (h : xs.length + ys.length ≤ 1000) : gPlus (.list (xs.map f)) (.list (ys.map f)) = some (.list ((xs ++ ys).map f)) := by
  rw [gPlusL (sz (by rw [List.length_map, List.length_map]; exact h)), List.map_append]
/-- a comprehension over a mapped list whose turns leave the names as they are -/
theorem compL_mapF {α : Type} {f g : α → D} {is : List Nat} {ft : D → Option (List D)} {fe : EF} {ws : List Nat} {env : En} (h0 : wipeE env ws = env) : ∀ (xs : List α),
    (∀ x ∈ xs, ∃ vs, ft (f x) = some vs ∧ We fe (setAllE env is vs) fun y e => y = g x ∧ wipeE e ws = env) → compL is ft bYes fe ws (xs.map f) env = some (xs.map g, env)
  | [], h => by rw [List.map_nil]; unfold compL; rw [h0]; rfl
  | x :: xs, h => by
    obtain ⟨vs, h1, hw⟩ := h x (List.mem_cons_self ..)
    obtain ⟨y, e, h2, h3, h4⟩ := hw.ex
    have ih := compL_mapF h0 xs fun x' hx' => h x' (List.mem_cons_of_mem _ hx')
    rw [List.map_cons]
    unfold compL
    rw [h1]
    simp only [Option.bind_some, bYes, if_true]
    rw [h2]
    simp only [Option.bind_some]
    rw [h4, ih, h3]
    rfl
end Z

/-! The table of a set: what is found, what is free (no one is ever taken out). -/
namespace Z
open PySem

def Rise (xs : Array Nat) : Prop := ∀ a b (ha : a < xs.size) (hb : b < xs.size), a < b → xs[a] < xs[b]
theorem below_go (xs : Array Nat) (j : Nat) (hr : Rise xs) : ∀ (fuel lo hi : Nat), hi ≤ xs.size → lo ≤ hi → hi - lo ≤ fuel → (∀ i (h : i < xs.size), i < lo → xs[i] < j) → (∀ i (h : i < xs.size), hi ≤ i → j ≤ xs[i]) →
    (SetTable.below.go xs j fuel lo hi) ≤ xs.size ∧ (∀ i (h : i < xs.size), i < SetTable.below.go xs j fuel lo hi → xs[i] < j) ∧ ∀ i (h : i < xs.size), SetTable.below.go xs j fuel lo hi ≤ i → j ≤ xs[i] := by
  intro fuel
  induction fuel with
  | zero =>
    intro lo hi h1 h2 h3 h4 h5
    have e : lo = hi := by omega
    subst e
    exact ⟨h1, h4, h5⟩
  | succ fuel ih =>
    intro lo hi h1 h2 h3 h4 h5
    unfold SetTable.below.go
    split
    · rename_i hlt
      have hm : (lo + hi) / 2 < xs.size := by omega
      have e : xs.getD ((lo + hi) / 2) j = xs[(lo + hi) / 2] := by simp [Array.getD, hm]
      dsimp only
      rw [e]
      split
      · rename_i hx
        refine ih _ _ h1 (by omega) (by omega) (fun i h hi' => ?_) h5
        by_cases q : i = (lo + hi) / 2
        · subst q; exact hx
        · exact Nat.lt_trans (hr i _ h hm (by omega)) hx
      · rename_i hx
        refine ih _ _ (by omega) (by omega) (by omega) h4 (fun i h hi' => ?_)
        by_cases q : i = (lo + hi) / 2
        · subst q; omega
        · have := hr _ i hm h (by omega); omega
    · have e : lo = hi := by omega
      subst e
      exact ⟨h1, h4, h5⟩
theorem below_spec {xs : Array Nat} (hr : Rise xs) (j : Nat) : SetTable.below xs j ≤ xs.size ∧ (∀ i (h : i < xs.size), i < SetTable.below xs j → xs[i] < j) ∧ ∀ i (h : i < xs.size), SetTable.below xs j ≤ i → j ≤ xs[i] := by
  unfold SetTable.below
  exact below_go xs j hr xs.size 0 xs.size (Nat.le_refl _) (Nat.zero_le _) (by omega) (fun i h hi => by omega) (fun i h hi => by omega)
theorem slot_empty {t : SetTable} (hd : t.dummies = #[]) {j : Nat} (h : ∀ i : Nat, t.place[i]? ≠ some j) : t.slot j = .empty := by
  unfold SetTable.slot
  dsimp only
  rw [if_neg (by simpa using h _), hd]
  simp [SetTable.has]

/-! ### the way of a search -/
def tm (mask : Nat) : SetTable := { mask, place := #[], dummies := #[], finger := 0, led := false, moves := 0, plain := true }
def pth (mask : Nat) (h : Int) : Nat → SetTable.Probe
  | 0 => (tm mask).probeStart h
  | k + 1 => (tm mask).advance (pth mask h k)
/-- the runs -/
def rn (mask : Nat) (h : Int) : Nat → Nat × Nat
  | 0 => (SetTable.bits h % (mask + 1), SetTable.bits h)
  | r + 1 => SetTable.leap mask (rn mask h r).1 (rn mask h r).2
def rT (mask : Nat) (h : Int) : Nat → Nat
  | 0 => 0
  | r + 1 => rT mask h r + (SetTable.runEnd mask (rn mask h r).1 - (rn mask h r).1) + 1
theorem rn_le (mask : Nat) (h : Int) : ∀ r, (rn mask h r).1 ≤ mask
  | 0 => by have := Nat.mod_lt (SetTable.bits h) (show 0 < mask + 1 by omega); unfold rn; dsimp only; omega
  | r + 1 => by
    unfold rn SetTable.leap
    dsimp only
    have := Nat.mod_lt ((rn mask h r).1 * 5 + 1 + (rn mask h r).2 / 32) (show 0 < mask + 1 by omega)
    omega
def pat (mask : Nat) (h : Int) (r q : Nat) : SetTable.Probe := { j := (rn mask h r).1 + q, more := SetTable.runEnd mask (rn mask h r).1 - (rn mask h r).1 - q, i := (rn mask h r).1, perturb := (rn mask h r).2, dummy := none }
def lcg (m : Nat) (x : Nat) : Nat := (x * 5 + 1) % m
def itl (m : Nat) : Nat → Nat → Nat
  | 0, x => x
  | n + 1, x => itl m n (lcg m x)
def orb (m : Nat) : Nat → Nat → List Nat
  | 0, _ => []
  | n + 1, x => x :: orb m n (lcg m x)
def full (m : Nat) : Bool := (List.range m).all (fun e => (orb m m 0).contains e) && itl m m 0 == 0
theorem full_8 : full 8 = true := by decide +kernel
theorem full_32 : full 32 = true := by decide +kernel
theorem full_128 : full 128 = true := by decide +kernel
def okMask (mask : Nat) : Prop := mask = 7 ∨ mask = 31 ∨ mask = 127
theorem okMask.full {mask : Nat} (h : okMask mask) : full (mask + 1) = true := by
  rcases h with rfl | rfl | rfl
  · exact full_8
  · exact full_32
  · exact full_128
theorem least {p : Nat → Prop} : ∀ n, p n → ∃ N, N ≤ n ∧ p N ∧ ∀ l, l < N → ¬ p l := by
  intro n
  induction n using Nat.strongRecOn with
  | _ n ih =>
    intro hp
    by_cases q : ∃ m, m < n ∧ p m
    · obtain ⟨m, h1, h2⟩ := q
      obtain ⟨N, a, b, c⟩ := ih m h1 h2
      exact ⟨N, by omega, b, c⟩
    · exact ⟨n, Nat.le_refl _, hp, fun l hl z => q ⟨l, hl, z⟩⟩
theorem pth_le {mask : Nat} (h : Int) : ∀ k, (pth mask h k).j ≤ mask ∧ (pth mask h k).j + (pth mask h k).more ≤ mask
  | 0 => by
    have h1 := rn_le mask h 0
    show (rn mask h 0).1 ≤ mask ∧ (rn mask h 0).1 + (SetTable.runEnd mask (rn mask h 0).1 - (rn mask h 0).1) ≤ mask
    refine ⟨h1, ?_⟩
    unfold SetTable.runEnd; split <;> omega
  | k + 1 => by
    obtain ⟨h1, h2⟩ := pth_le (mask := mask) h k
    show ((tm mask).advance (pth mask h k)).j ≤ mask ∧ ((tm mask).advance (pth mask h k)).j + ((tm mask).advance (pth mask h k)).more ≤ mask
    unfold SetTable.advance
    split
    · dsimp only; omega
    · dsimp only [SetTable.leap]
      have := Nat.mod_lt ((pth mask h k).i * 5 + 1 + (pth mask h k).perturb / 32) (show 0 < mask + 1 by omega)
      have e : (tm mask).mask = mask := rfl
      rw [e]
      generalize ((pth mask h k).i * 5 + 1 + (pth mask h k).perturb / 32) % (mask + 1) = z at *
      refine ⟨by omega, ?_⟩
      unfold SetTable.runEnd; split <;> omega
end Z

namespace Z
open PySem

abbrev Ent := Nat × (Int × Value)
def Reach (mask : Nat) (occ : Nat → Prop) (h : Int) (j : Nat) : Prop := ∃ k, (pth mask h k).j = j ∧ ∀ l, l < k → occ (pth mask h l).j
theorem Reach.mono {mask : Nat} {occ occ' : Nat → Prop} {h : Int} {j : Nat} (r : Reach mask occ h j) (k : ∀ j, occ j → occ' j) : Reach mask occ' h j :=
  let ⟨n, h1, h2⟩ := r; ⟨n, h1, fun l hl => k _ (h2 l hl)⟩
def Occ (L : List Ent) (j : Nat) : Prop := ∃ e ∈ L, e.1 = j
structure Tab (t : SetTable) (L : List Ent) : Prop where
  pl : t.place.toList = L.map (·.1)
  up : L.Pairwise (fun a b => a.1 < b.1)
  le : ∀ e ∈ L, e.1 ≤ t.mask
  du : t.dummies = #[]
  ok : okMask t.mask
  rc : ∀ e ∈ L, Reach t.mask (Occ L) e.2.1 e.1
theorem Tab.rise {t : SetTable} {L : List Ent} (T : Tab t L) : Rise t.place := fun a b ha hb hab => by
  have hl : t.place.size = L.length := by have := congrArg List.length T.pl; simpa using this
  have g : ∀ i (hi : i < t.place.size), t.place[i] = (L[i]'(by omega)).1 := fun i hi => by
    have h1 : t.place.toList[i]? = some t.place[i] := by simp [hi]
    rw [T.pl, List.getElem?_map, List.getElem?_eq_getElem (by omega)] at h1
    exact (Option.some.inj h1).symm
  rw [g a ha, g b hb]
  exact List.pairwise_iff_getElem.mp T.up a b (by omega) (by omega) hab
theorem Tab.get {t : SetTable} {L : List Ent} (T : Tab t L) (i : Nat) : t.place[i]? = (L[i]?).map (·.1) := by
  have h1 : t.place.toList[i]? = t.place[i]? := by simp
  rw [← h1, T.pl, List.getElem?_map]
theorem Tab.size {t : SetTable} {L : List Ent} (T : Tab t L) : t.place.size = L.length := by have := congrArg List.length T.pl; simpa using this
theorem Tab.empty {t : SetTable} {L : List Ent} (T : Tab t L) {j : Nat} (h : ¬ Occ L j) : t.slot j = .empty :=
  slot_empty T.du fun i z => by
    rw [T.get] at z
    obtain ⟨e, h1, h2⟩ := Option.map_eq_some_iff.mp z
    exact h ⟨e, List.mem_of_getElem? h1, h2⟩
theorem Occ.at {L : List Ent} {j : Nat} (h : Occ L j) : ∃ (i : Nat) (e : Ent), L[i]? = some e ∧ e.1 = j := by
  obtain ⟨e, h1, h2⟩ := h
  obtain ⟨i, hi⟩ := List.mem_iff_getElem?.mp h1
  exact ⟨i, e, hi, h2⟩
theorem pigeon : ∀ (m : Nat) (l : List Nat), (∀ e, e < m → e ∈ l) → m ≤ l.length
  | 0, _, _ => Nat.zero_le _
  | m + 1, l, h => by
    have hm := h m (by omega)
    have := pigeon m (l.erase m) fun e he => (List.mem_erase_of_ne (by omega)).mpr (h e (by omega))
    rw [List.length_erase_of_mem hm] at this
    have : 0 < l.length := List.length_pos_of_mem hm
    omega
theorem room {L : List Ent} {mask : Nat} (h : L.length ≤ mask) : ∃ e, e ≤ mask ∧ ¬ Occ L e := by
  apply Classical.byContradiction
  intro hn
  have := pigeon (mask + 1) (L.map (·.1)) fun e he => by
    have z : Occ L e := Classical.byContradiction fun z => hn ⟨e, by omega, z⟩
    obtain ⟨x, h1, h2⟩ := z
    exact List.mem_map.mpr ⟨x, h1, h2⟩
  simp at this
  omega
/-! ### a new element -/
def ins (L : List Ent) (e : Ent) : List Ent := L.takeWhile (fun x => decide (x.1 < e.1)) ++ e :: L.dropWhile (fun x => decide (x.1 < e.1))
theorem mem_ins {L : List Ent} {e x : Ent} : x ∈ ins L e ↔ x = e ∨ x ∈ L := by
  unfold ins
  have : L = L.takeWhile (fun x => decide (x.1 < e.1)) ++ L.dropWhile (fun x => decide (x.1 < e.1)) := List.takeWhile_append_dropWhile.symm
  conv => rhs; rw [this]
  simp only [List.mem_append, List.mem_cons]
  constructor
  · rintro (h | h | h)
    · exact .inr (.inl h)
    · exact .inl h
    · exact .inr (.inr h)
  · rintro (h | h | h)
    · exact .inr (.inl h)
    · exact .inl h
    · exact .inr (.inr h)
theorem up_split : ∀ {L : List Ent} {j : Nat}, L.Pairwise (fun a b => a.1 < b.1) → (∀ x ∈ L.dropWhile (fun x => decide (x.1 < j)), j ≤ x.1)
  | [], _, _, x, hx => by simp at hx
  | a :: L, j, h, x, hx => by
    rw [List.dropWhile_cons] at hx
    have hp := List.pairwise_cons.mp h
    split at hx
    · exact up_split hp.2 x hx
    · rename_i q
      have q : ¬ a.1 < j := by simpa using q
      rcases List.mem_cons.mp hx with z | z
      · rw [z]; omega
      · have := hp.1 x z; omega
theorem ins_up {L : List Ent} {e : Ent} (h : L.Pairwise (fun a b => a.1 < b.1)) (hn : ¬ Occ L e.1) : (ins L e).Pairwise (fun a b => a.1 < b.1) := by
  have hs : L = L.takeWhile (fun x => decide (x.1 < e.1)) ++ L.dropWhile (fun x => decide (x.1 < e.1)) := List.takeWhile_append_dropWhile.symm
  have h' := h
  rw [hs] at h'
  obtain ⟨h1, h2, h3⟩ := List.pairwise_append.mp h'
  have lt : ∀ x ∈ L.takeWhile (fun x => decide (x.1 < e.1)), x.1 < e.1 := fun x hx => by
    have := List.all_takeWhile (l := L) (p := fun x => decide (x.1 < e.1))
    have := List.all_eq_true.mp this x hx
    simpa using this
  have ge : ∀ x ∈ L.dropWhile (fun x => decide (x.1 < e.1)), e.1 < x.1 := fun x hx => by
    have h5 := up_split h x hx
    have : x.1 ≠ e.1 := fun z => hn ⟨x, by rw [hs]; exact List.mem_append_right _ hx, z⟩
    omega
  unfold ins
  refine List.pairwise_append.mpr ⟨h1, List.pairwise_cons.mpr ⟨ge, h2⟩, fun a ha b hb => ?_⟩
  rcases List.mem_cons.mp hb with z | z
  · rw [z]; exact lt a ha
  · exact h3 a ha b z
theorem take_below {t : SetTable} {L : List Ent} (T : Tab t L) (j : Nat) : L.take (SetTable.below t.place j) = L.takeWhile (fun x => decide (x.1 < j)) ∧ L.drop (SetTable.below t.place j) = L.dropWhile (fun x => decide (x.1 < j)) := by
  obtain ⟨b1, b2, b3⟩ := below_spec T.rise j
  have g : ∀ i (hi : i < t.place.size), t.place[i] = (L[i]'(by rw [← T.size]; exact hi)).1 := fun i hi => by
    have h1 := T.get i
    rw [Array.getElem?_eq_getElem hi, List.getElem?_eq_getElem (by rw [← T.size]; exact hi)] at h1
    exact Option.some.inj h1
  generalize SetTable.below t.place j = n at *
  have hsz := T.size
  have key : ∀ (L : List Ent) (n : Nat), n ≤ L.length → (∀ i (h : i < L.length), i < n → (L[i]).1 < j) → (∀ i (h : i < L.length), n ≤ i → j ≤ (L[i]).1) → L.take n = L.takeWhile (fun x => decide (x.1 < j)) ∧ L.drop n = L.dropWhile (fun x => decide (x.1 < j)) := by
    intro L
    induction L with
    | nil => intro n hn _ _; simp at hn; subst hn; simp
    | cons a L ih =>
      intro n hn h1 h2
      cases n with
      | zero =>
        have := h2 0 (by simp) (Nat.le_refl _)
        have hd : decide (a.1 < j) = false := by simpa using this
        rw [List.takeWhile_cons, List.dropWhile_cons, hd]
        simp
      | succ n =>
        have := h1 0 (by simp) (by omega)
        have hd : decide (a.1 < j) = true := by simpa using this
        rw [List.takeWhile_cons, List.dropWhile_cons, hd]
        obtain ⟨e1, e2⟩ := ih n (by simpa using hn) (fun i h hi => h1 (i + 1) (by simpa using h) (by omega)) (fun i h hi => h2 (i + 1) (by simpa using h) (by omega))
        simp [e1, e2]
  exact key L n (by omega) (fun i h hi => by have := b2 i (by omega) hi; rw [g i (by omega)] at this; exact this) (fun i h hi => by have := b3 i (by omega) hi; rw [g i (by omega)] at this; exact this)
/-- an element laid at the first empty place of its way -/
theorem Tab.put {t : SetTable} {L : List Ent} (T : Tab t L) {h : Int} {x : Value} {N : Nat} (hN : ¬ Occ L (pth t.mask h N).j) (hb : ∀ l, l < N → Occ L (pth t.mask h l).j) {es : Array (Int × Value)} (he : es.toList = L.map (·.2)) :
    Tab (t.put (pth t.mask h N).j).1 (ins L ((pth t.mask h N).j, (h, x))) ∧ (SetTable.insertAt es (t.put (pth t.mask h N).j).2 (h, x)).toList = (ins L ((pth t.mask h N).j, (h, x))).map (·.2) ∧ (t.put (pth t.mask h N).j).1.mask = t.mask := by
  generalize hj : (pth t.mask h N).j = j at *
  have hd : SetTable.has t.dummies j = false := by rw [T.du]; simp [SetTable.has]
  have e1 : (t.put j).1 = { t with place := SetTable.insertAt t.place (SetTable.below t.place j) j } := by
    unfold SetTable.put
    dsimp only
    rw [hd]
    simp
  have e2 : (t.put j).2 = SetTable.below t.place j := rfl
  obtain ⟨tk, dr⟩ := take_below T j
  have hup := ins_up (e := (j, (h, x))) T.up hN
  rw [e1, e2]
  refine ⟨⟨?_, hup, ?_, T.du, T.ok, ?_⟩, ?_, rfl⟩
  · show (SetTable.insertAt t.place (SetTable.below t.place j) j).toList = _
    rw [SetTable.toList_insertAt, T.pl, ← List.map_take, ← List.map_drop, tk, dr]
    unfold ins
    simp
  · intro e hm
    rcases mem_ins.mp hm with z | z
    · rw [z]
      have := (pth_le (mask := t.mask) h N).1
      rw [hj] at this
      exact this
    · exact T.le e z
  · intro e hm
    have mono : ∀ i, Occ L i → Occ (ins L (j, (h, x))) i := fun i ⟨y, h1, h2⟩ => ⟨y, mem_ins.mpr (.inr h1), h2⟩
    rcases mem_ins.mp hm with z | z
    · rw [z]
      exact ⟨N, hj, fun l hl => mono _ (hb l hl)⟩
    · exact (T.rc e z).mono mono
  · rw [SetTable.toList_insertAt, he, ← List.map_take, ← List.map_drop, tk, dr]
    unfold ins
    simp
end Z

namespace Z
open PySem

/-! ### all elements laid anew in a greater table -/
def Em (o : Array (Option Nat)) (j : Nat) : Prop := (o.getD j (some 0)).isNone = true
structure LInv (mask : Nat) (o : Array (Option Nat)) (W : List Nat) (hs : List Int) : Prop where
  sz : o.size = mask + 1
  ln : W.length = hs.length
  eq : ∀ j i : Nat, j ≤ mask → (o[j]? = some (some i) ↔ W[i]? = some j)
  le : ∀ j ∈ W, j ≤ mask
  rc : ∀ (i j : Nat) (h : Int), W[i]? = some j → hs[i]? = some h → Reach mask (· ∈ W) h j
theorem LInv.em {mask : Nat} {o : Array (Option Nat)} {W : List Nat} {hs : List Int} (I : LInv mask o W hs) {j : Nat} : Em o j ↔ j ≤ mask ∧ j ∉ W := by
  unfold Em
  constructor
  · intro h
    by_cases hj : j < o.size
    · have hjm : j ≤ mask := by have := I.sz; omega
      refine ⟨hjm, fun hm => ?_⟩
      obtain ⟨i, hi⟩ := List.mem_iff_getElem?.mp hm
      have := (I.eq j i hjm).mpr hi
      rw [Array.getD_eq_getD_getElem?, this] at h
      simp at h
    · rw [Array.getD_eq_getD_getElem?, Array.getElem?_eq_none (by omega)] at h
      simp at h
  · rintro ⟨hj, hm⟩
    have hlt : j < o.size := by have := I.sz; omega
    rw [Array.getD_eq_getD_getElem?, Array.getElem?_eq_getElem hlt]
    cases e : o[j] with
    | none => rfl
    | some i =>
      have := (I.eq j i hj).mp (by rw [Array.getElem?_eq_getElem hlt, e])
      exact absurd (List.mem_of_getElem? this) hm
end Z

namespace Z
open PySem PySem.Spec PyProof.Rows L2

section
variable {prog : Program} {w : World} {K : Type} [DecidableEq K] {knd : PySem.KeyKind prog w K} {A : Around} {E : Value → Shared → Prop} {s : Shared}
def PlainTup (h : Heap) (a : Addr) : Prop := ∃ o items n, h.get? a = some o ∧ o.cls = .type "tuple" ∧ o.data = .seq items n ∧ ∀ v ∈ items.toList, plainKind v = true
/-- the set at a: its members, tuples, in the order of their places -/
structure TSetG (w : World) {α κ : Type} (ent : α → Int × Value) (key : α → κ) (h : Heap) (a : Addr) (o : Obj) (es : Array (Int × Value)) (ep : Nat) (t : SetTable) (L : List Ent) (xs : List α) : Prop where
  get : h.get? a = some o
  ex : o.ExactSet
  dt : o.data = .set es ep t
  tab : Tab t L
  el : es.toList = L.map (·.2)
  mem : L.map (·.2) = xs.map ent
  few : L.length * 5 < t.mask * 3
  pln : t.plain = true
  led : t.led = !(w.params.followText "set-order")
  nd : (xs.map key).Nodup
abbrev TSet (knd : PySem.KeyKind prog w K) (h : Heap) (a : Addr) (o : Obj) (es : Array (Int × Value)) (ep : Nat) (t : SetTable) (L : List Ent) (xs : List (List K × Addr)) : Prop := TSetG w (fun p : List K × Addr => (tupleKeyHash knd p.1, Value.ref p.2)) (·.1) h a o es ep t L xs
theorem TSetG.len {α κ : Type} {ent : α → Int × Value} {key : α → κ} {h : Heap} {a : Addr} {o : Obj} {es : Array (Int × Value)} {ep : Nat} {t : SetTable} {L : List Ent} {xs : List α} (T : TSetG w ent key h a o es ep t L xs) : L.length = xs.length ∧ es.size = xs.length := by
  have h1 := congrArg List.length T.mem
  have h2 := congrArg List.length T.el
  simp at h1 h2
  omega
theorem TSetG.at {α κ : Type} {ent : α → Int × Value} {key : α → κ} {h : Heap} {a : Addr} {o : Obj} {es : Array (Int × Value)} {ep : Nat} {t : SetTable} {L : List Ent} {xs : List α} (T : TSetG w ent key h a o es ep t L xs) {i : Nat} {e : Ent} (he : L[i]? = some e) : ∃ p, xs[i]? = some p ∧ e.2 = ent p ∧ es[i]? = some e.2 := by
  have h1 : (L.map (·.2))[i]? = some e.2 := by rw [List.getElem?_map, he]; rfl
  have h2 := h1
  rw [T.mem, List.getElem?_map] at h1
  obtain ⟨p, h3, h4⟩ := Option.map_eq_some_iff.mp h1
  refine ⟨p, h3, h4.symm, ?_⟩
  rw [← Array.getElem?_toList, T.el]
  exact h2
end
end Z

namespace Z
open PySem PySem.Spec PyProof.Rows L2

theorem Tab.plain {t : SetTable} {L : List Ent} (T : Tab t L) (b : Bool) : Tab { t with plain := b } L := ⟨T.pl, T.up, T.le, T.du, T.ok, T.rc⟩
section
variable {prog : Program} {w : World} {K : Type} [DecidableEq K] {knd : PySem.KeyKind prog w K} {A : Around} {E : Value → Shared → Prop} {s : Shared}
end
end Z

namespace Z
open PySem PySem.Spec PyProof.Rows L2 PySem.W

end Z

namespace Z
open PySem PySem.Spec PyProof.Rows L2 PySem.W

section
variable {prog : Program} {w : World} {K : Type} [DecidableEq K] {knd : PySem.KeyKind prog w K} {A : Around} {E : Value → Shared → Prop} {s : Shared}
/-- the order in which a set is walked -/
def ordS (w : World) (a : Addr) (ep : Nat) (es : Array (Int × Value)) : Array (Int × Value) := if w.params.followText "set-order" = true then pickOrder (w.params.setOrder a ep) es else es
def slotS (w : World) (t : SetTable) : Nat → Nat
  | 0 => 0
  | i + 1 => if w.params.followText "set-order" = true then 0 else t.place.getD i 0 + 1
def IsSetIt (h : Heap) (it a : Addr) (i sl n ep : Nat) : Prop := ∃ o, h.get? it = some o ∧ o.cls = .type "set_iterator" ∧ o.data = .fields #[.int sl 0, .int i 0, .ref a, .int n 0, .int ep 0]
end
end Z

/-! The order in which a list is laid, by its questions alone. -/
namespace Z
open PySem PySem.W PyProof.Rows
section
variable {α β : Type} {n : Nat} {O : KeyOrd} {key : Nat → O.α}
def KOk (n : Nat) (O : KeyOrd) (key : Nat → O.α) : KasT α → (α → Prop) → Prop
  | .ret a, R => R a
  | .ask i j k, R => i < n ∧ j < n ∧ KOk n O key (k (O.blt (key i) (key j))) R
def kp (O : KeyOrd) (key : Nat → O.α) (p : Array Nat) (i : Nat) : O.α := key (p.getD i 0)
/-- the places of n items, in some order -/
def PR (n : Nat) (p : Array Nat) : Prop := p.Perm (List.range n).toArray
theorem PR.size {p : Array Nat} (h : PR n p) : p.size = n := by have := h.size_eq; simpa using this
theorem PR.lt {p : Array Nat} (h : PR n p) {i : Nat} (hi : i < n) : p.getD i 0 < n := by
  have hs : i < p.size := by rw [h.size]; exact hi
  have e : p.getD i 0 = p[i] := by simp [Array.getD, hs]
  rw [e]
  have hm : p[i] ∈ p.toList := by simp
  have := (Array.perm_iff_toList_perm.mp h).mem_iff.mp hm
  simpa using this
def Srt (O : KeyOrd) (key : Nat → O.α) (p : Array Nat) (k : Nat) : Prop := ∀ i j, i ≤ j → j < k → O.kle (kp O key p i) (kp O key p j)
def Fal (O : KeyOrd) (key : Nat → O.α) (p : Array Nat) (k : Nat) : Prop := ∀ i j, i ≤ j → j < k → O.kle (kp O key p j) (kp O key p i)
theorem Srt.snoc {p : Array Nat} {k : Nat} (h : Srt O key p k) (hk : 1 ≤ k) (e : O.kle (kp O key p (k - 1)) (kp O key p k)) : Srt O key p (k + 1) := fun i j hij hj => by
  by_cases q : j < k
  · exact h i j hij q
  · have q' : j = k := by omega
    subst q'
    by_cases q2 : i = j
    · subst q2; exact KeyOrd.kle_refl _
    · exact KeyOrd.kle_trans (h i (j - 1) (by omega) (by omega)) e
theorem Fal.snoc {p : Array Nat} {k : Nat} (h : Fal O key p k) (hk : 1 ≤ k) (e : O.kle (kp O key p k) (kp O key p (k - 1))) : Fal O key p (k + 1) := fun i j hij hj => by
  by_cases q : j < k
  · exact h i j hij q
  · have q' : j = k := by omega
    subst q'
    by_cases q2 : i = j
    · subst q2; exact KeyOrd.kle_refl _
    · exact KeyOrd.kle_trans e (h i (j - 1) (by omega) (by omega))
def EqLast (O : KeyOrd) (key : Nat → O.α) (p : Array Nat) (k q : Nat) : Prop := q + 1 ≤ k ∧ ∀ i, k - (q + 1) ≤ i → i < k → kp O key p i = kp O key p (k - 1)
end
end Z

namespace Z
open PySem PySem.Spec PyProof.Rows L2 PySem.W

/-! ### lists of ints by their order -/
def intsOrd : KeyOrd where
  α := List Int
  blt := fun a b => decide (a < b)
  irrefl := fun a => by simp [List.lt_irrefl]
  trans := fun a b c h1 h2 => by
    simp only [decide_eq_true_eq] at h1 h2 ⊢
    exact List.lt_trans h1 h2
  negTrans := fun a b c h => by
    simp only [decide_eq_true_eq] at h ⊢
    rcases Classical.em (a < b) with q | q
    · exact .inl q
    · exact .inr (List.lt_of_le_of_lt (List.not_lt.mp q) h)
  total := fun a b h1 h2 => by
    simp only [decide_eq_false_iff_not] at h1 h2
    exact List.le_antisymm (List.not_lt.mp h2) (List.not_lt.mp h1)
/-- what a question of two tuples of ints tells -/
def lexB (fin : Bool) : List (Int × Int) → Bool
  | [] => fin
  | (p, q) :: r => if p = q then lexB fin r else decide (p < q)
/-- a tuple of ints -/
def IntTup (h : Heap) (k : List Int) (q : Addr) : Prop := ∃ o items n, h.get? q = some o ∧ o.cls = .type "tuple" ∧ o.data = .seq items n ∧ IntsAre items.toList k
theorem IntTup.keep {h h' : Heap} {k : List Int} {q : Addr} (x : IntTup h k q) (e : ∀ o, h.get? q = some o → h'.get? q = some o) : IntTup h' k q :=
  let ⟨o, items, n, ho, r⟩ := x; ⟨o, items, n, e o ho, r⟩
section
variable {prog : Program} {w : World} {A : Around} {E : Value → Shared → Prop} {s : Shared}
end
end Z

namespace Z
open PySem PySem.Spec PyProof.Rows L2

/-! ### dicts whose keys are tuples -/
def dKey : D → Option Key
  | .int i => some (.inl i)
  | .str x => some (.inr x)
  | .none => some .no
  | _ => none
def keyL : List D → Option (List Key)
  | [] => some []
  | d :: ds => (dKey d).bind fun k => (keyL ds).map (k :: ·)
def keyD : D → Option (List Key)
  | .tuple ds => keyL ds
  | _ => none
theorem dKey_kD (k : Key) : dKey (kD k) = some k := by cases k <;> rfl
theorem dKey_inv {d : D} {k : Key} (h : dKey d = some k) : d = kD k := by cases d <;> cases h <;> rfl
theorem keyL_map : ∀ ks : List Key, keyL (ks.map kD) = some ks
  | [] => rfl
  | k :: ks => by simp [keyL, dKey_kD, keyL_map ks]
theorem keyL_inv : ∀ {ds : List D} {ks : List Key}, keyL ds = some ks → ds = ks.map kD
  | [], _, h => by cases h; rfl
  | d :: ds, ks, h => by
    obtain ⟨k, h1, h⟩ := Option.bind_eq_some_iff.mp h
    obtain ⟨r, h2, h3⟩ := Option.map_eq_some_iff.mp h
    subst h3
    rw [dKey_inv h1, keyL_inv h2]; rfl
theorem keyD_inv {d : D} {ks : List Key} (h : keyD d = some ks) : d = .tuple (ks.map kD) := by
  cases d <;> first | (rw [keyL_inv h]) | cases h
theorem keyD_map (ks : List Key) : keyD (.tuple (ks.map kD)) = some ks := keyL_map ks
def lookE (es : List (D × D)) (k : List Key) : Option D := (es.find? fun e => decide (keyD e.1 = some k)).map (·.2)
def putE (es : List (D × D)) (k : List Key) (d : D) : List (D × D) :=
  if (es.any fun e => decide (keyD e.1 = some k)) = true then es.map (fun e => if keyD e.1 = some k then (e.1, d) else e) else es ++ [(.tuple (k.map kD), d)]
section
variable {K : Frag} {F : Hp}
theorem Rep.key {v : V} {k : Key} (r : Rep K F v (kD k)) : v = kV k := by
  cases k <;> (cases r; rfl)
theorem RepAll.keys : ∀ {vs : List V} {ks : List Key}, RepAll K F vs (ks.map kD) → vs = ks.map kV
  | _, [], .nil => rfl
  | _, k :: ks, .cons r t => by rw [r.key, RepAll.keys t]; rfl
theorem Rep.tkey {v : V} {d : D} {ks : List Key} (r : Rep K F v d) (h : keyD d = some ks) : ∃ b, v = .ref b ∧ F b = some (.tup (ks.map kV)) := by
  have e := keyD_inv h
  subst e
  cases r with
  | tup hs r => rw [r.keys] at hs; exact ⟨_, rfl, hs⟩
theorem RepKV.look : ∀ {kvs : List (List Key × V)} {es : List (D × D)} (k : List Key), RepKV K F kvs es → (∀ d, lookE es k = some d → ∃ v, valV kvs k = some v ∧ Rep K F v d) ∧ (lookE es k = none → valV kvs k = none)
  | _, _, k, .nil => ⟨fun d h => by simp [lookE] at h, fun _ => rfl⟩
  | _, _, k, .cons (k := k') (v := v) r t => by
    have ih := RepKV.look k t
    unfold lookE at ih ⊢
    rw [List.find?_cons]
    by_cases e : k' = k
    · subst e
      rw [valV_pos rfl]
      simp only [keyD_map, decide_true, Option.map_some, Option.some.injEq]
      exact ⟨fun d h => ⟨v, rfl, by subst h; exact r⟩, fun h => nomatch h⟩
    · rw [valV_neg (by simpa using e)]
      have : decide (keyD (PyData.tuple (k'.map kD)) = some k) = false := by rw [keyD_map]; simp [e]
      simp only [this]
      exact ih
theorem RepKV.any : ∀ {kvs : List (List Key × V)} {es : List (D × D)} (k : List Key), RepKV K F kvs es → (kvs.any fun kv => decide (kv.1 = k)) = (es.any fun e => decide (keyD e.1 = some k))
  | _, _, k, .nil => rfl
  | _, _, k, .cons (k := k') r t => by
    rw [List.any_cons, List.any_cons, RepKV.any k t]
    simp only [keyD_map, Option.some.injEq]
theorem RepKV.repl : ∀ {kvs : List (List Key × V)} {es : List (D × D)} (k : List Key) {v : V} {d : D}, RepKV K F kvs es → Rep K F v d → RepKV K F (kvs.map fun kv => if kv.1 = k then (kv.1, v) else kv) (es.map fun e => if keyD e.1 = some k then (e.1, d) else e)
  | _, _, k, _, _, .nil, _ => .nil
  | _, _, k, _, _, .cons (k := k') r t, rv => by
    rw [List.map_cons, List.map_cons]
    simp only [keyD_map, Option.some.injEq]
    by_cases e : k' = k
    · rw [if_pos e, if_pos e]; exact .cons rv (RepKV.repl k t rv)
    · rw [if_neg e, if_neg e]; exact .cons r (RepKV.repl k t rv)
theorem RepKV.snoc : ∀ {kvs : List (List Key × V)} {es : List (D × D)} {k : List Key} {v : V} {d : D}, RepKV K F kvs es → Rep K F v d → RepKV K F (kvs ++ [(k, v)]) (es ++ [(.tuple (k.map kD), d)])
  | _, _, _, _, _, .nil, r => .cons r .nil
  | _, _, _, _, _, .cons r t, rv => .cons r (RepKV.snoc t rv)
theorem RepKV.put {kvs : List (List Key × V)} {es : List (D × D)} (k : List Key) {v : V} {d : D} (r : RepKV K F kvs es) (rv : Rep K F v d) : RepKV K F (putK kvs k v) (putE es k d) := by
  unfold putK putE
  rw [r.any k]
  by_cases e : (es.any fun e => decide (keyD e.1 = some k)) = true
  · rw [if_pos e, if_pos e]; exact r.repl k rv
  · rw [if_neg e, if_neg e]; exact r.snoc rv
theorem RepKV.len : ∀ {kvs : List (List Key × V)} {es : List (D × D)}, RepKV K F kvs es → kvs.length = es.length
  | _, _, .nil => rfl
  | _, _, .cons _ r => by rw [List.length_cons, List.length_cons, RepKV.len r]
theorem RepKV.get : ∀ {kvs : List (List Key × V)} {es : List (D × D)} {i : Nat} {d : D}, RepKV K F kvs es → (es.map (·.1))[i]? = some d → ∃ k v, kvs[i]? = some (k, v) ∧ d = .tuple (k.map kD)
  | _, _, _, _, .nil, e => by simp at e
  | _, _, 0, _, .cons (k := k) (v := v) r t, e => by simp at e; subst e; exact ⟨k, v, rfl, rfl⟩
  | _, _, i + 1, d, .cons _ t, e => by
    obtain ⟨k, v, h1, h2⟩ := RepKV.get (i := i) (d := d) t (by simpa using e)
    exact ⟨k, v, by simpa using h1, h2⟩
end
section
variable {X : Cx} {a c e3 : Expr} {f1 f2 f3 : EF} {pos : Pos} {es : List Expr} {g1 : AF}
/-- d[k] -/
def gDGet : D → D → Option D
  | .dict es, k => (keyD k).bind (lookE es)
  | _, _ => none
/-- k in d -/
def gDIn : D → D → Option D
  | k, .dict es => (keyD k).map fun k => .bool (lookE es k).isSome
  | _, _ => none
/-- d.get(k, x) -/
def gDGet2 : D → D → D → Option D
  | .dict es, k, x => (keyD k).map fun k => (lookE es k).getD x
  | _, _, _ => none
/-- of a dict that a name alone holds -/
def eGet2B (i : Nat) (f g : EF) : EF := fun env => match env[i]? with
  | some (some (.own (.dict _))) => (f env).bind fun a => (g a.2).bind fun c => match c.2[i]? with
    | some (some (.own d)) => (gDGet2 d a.1 c.1).map fun d => (d, c.2)
    | _ => none
  | _ => none
/-- d[k] = v, d a dict that the name alone holds -/
def sDPutB (i : Nat) (fk fv : EF) : SF := fun env => (fv env).bind fun v => match v.2[i]? with
  | some (some (.own (.dict _))) => (fk v.2).bind fun a => match a.2[i]? with
    | some (some (.own (.dict es))) => if es.length < sizeLine then (keyD a.1).map fun k => .nx (a.2.set i (some (.own (.dict (putE es k v.1))))) else none
    | _ => none
  | _ => none
/-! truth -/
theorem d_truthT {pins : List (Addr × Obj)} {σ : St} {H : Hp} {s : Shared} {p : Addr} {kvs : List (List Key × V)} {A : Around} {E : Value → Shared → Prop} {Q : Bool → Shared → Prop} (I : Inv X pins σ H s) (e : Rd H p (.dT kvs)) (h : ∀ s', Inv X pins σ H s' → Q (!kvs.isEmpty) s') : wpAny (model X.prog X.w) A (truthy (.ref p)) Q E s := by
  obtain ⟨z, hd, xs, rel, dd⟩ := dt_rd I.hok e
  have hl : kvs.length = xs.length := Paired.length rel
  obtain ⟨o, es, ep, ho, hc, hdat, hk, hp, hn⟩ := id dd
  have hsz : es.size = kvs.length := by rw [← Array.length_toList, hk, List.length_map, hl]
  have hne : ((kvs.length : Int) != 0) = !kvs.isEmpty := by cases kvs <;> simp <;> omega
  rw [sizeLine_eq] at z
  have hT := dd.typeIs (s := s)
  have key : wpAny (model X.prog X.w) A (runValue (.builtin "len" ⟨[.ref p], []⟩)) (fun r s' => r = .int kvs.length (s.toks + 1) ∧ Q (!kvs.isEmpty) s') E s := by
    refine wpAny_runValue (codeAny_builtin entry_len ?_)
    rw [Around.under_plainId plain_len _]
    refine wpAny_mono (Q := fun fin s' => ∃ r, fin = .done (.ret r) ∧ (r = .int kvs.length (s.toks + 1) ∧ Q (!kvs.isEmpty) s')) ?_ (fun fin s' h' => by obtain ⟨r, rfl, hq⟩ := h'; exact hq) fun _ _ e => e
    unfold Builtin.«len»
    refine wpAny_bind (m := oneArg "len" _) (wpAny_pure ?_)
    refine wpAny_bind (m := callSpecial? (.ref p) (Str.ofString "__len__")) (wpAny_callSpecial?_slot (name := Str.ofString "__len__") hT F.slot_dict_len
      (wpAny_call_entry F.slot_dict_len hT F.entry_dict_len ?_ (F.args_dict_len_1 _)))
    show wpAny _ _ (dictSize p >>= _) _ _ s
    unfold dictSize
    refine wpAny_bind (wpAny_bind (wpAny_dictEntries ho hdat (wpAny_pure ?_)))
    show wpAny _ _ (Builtin.Dict.pendingCount p >>= _) _ _ s
    refine wpAny_bind (wpAny_pendingCount_other hd ?_)
    refine wpAny_ret_mkInt ?_
    rw [hsz]
    have e0 : (((kvs.length : Nat) : Int) + ((0 : Nat) : Int)) = (kvs.length : Int) := by omega
    rw [e0]
    show wpAny _ _ _ _ _ { s with toks := s.toks + 1 }
    refine wpAny_bind (wpAny_holding (wpAny_pure ?_))
    refine wpAny_bind (wpAny_letGo ?_)
    show wpAny _ _ (if ((kvs.length : Nat) : Int) < 0 then _ else _) _ _ _
    rw [if_neg (by omega)]
    show wpAny _ _ (if ((kvs.length : Nat) : Int) ≥ 2 ^ 63 then _ else _) _ _ _
    rw [if_neg (by omega)]
    exact wpAny_bind (wpAny_mkInt (wpAny_pure ⟨_, rfl, rfl, h _ (I.tok _)⟩))
  unfold truthy
  first
    | refine wpAny_bind (wpAny_callSpecial?_none (name := Str.ofString "__bool__") hT noBool_dict ?_)
    | refine wpAny_bind (wpAny_pure (wpAny_bind (wpAny_callSpecial?_none (name := Str.ofString "__bool__") hT noBool_dict ?_)))
  first
    | refine wpAny_bind (wpAny_specialOf (name := Str.ofString "__len__") hT F.slot_dict_len.lookup ?_)
    | refine wpAny_bind (wpAny_pure (wpAny_bind (wpAny_specialOf (name := Str.ofString "__len__") hT F.slot_dict_len.lookup ?_)))
  first
    | exact wpAny_bind (wpAny_mono key (fun r s' h' => by obtain ⟨rfl, hq⟩ := h'; exact wpAny_pure (hne ▸ hq)) fun _ _ e => e)
    | exact wpAny_bind (wpAny_pure (wpAny_bind (wpAny_mono key (fun r s' h' => by obtain ⟨rfl, hq⟩ := h'; exact wpAny_pure (hne ▸ hq)) fun _ _ e => e)))
end
end Z

namespace Z
open PySem PySem.Spec PyProof.Rows L2

section
variable {X : Cx} {a c : Expr} {f1 f2 : EF} {pos : Pos}
/-- the truth of a list, a tuple, a dict, an int, a bool -/
def truD : D → Option Bool
  | .list ds => some (!ds.isEmpty)
  | .tuple ds => some (!ds.isEmpty)
  | .dict es => some (!es.isEmpty)
  | .int i => some (i != 0)
  | .bool k => some k
  | .none => some false
  | _ => none
def bTru (f : EF) : BF := fun env => (f env).bind fun a => (truD a.1).map fun k => (k, a.2)
theorem RepAll.emp {K : Frag} {F : Hp} {vs : List V} {ds : List D} (r : RepAll K F vs ds) : vs.isEmpty = ds.isEmpty := by cases r <;> rfl
theorem RepKV.emp {K : Frag} {F : Hp} {vs : List (List Key × V)} {ds : List (D × D)} (r : RepKV K F vs ds) : vs.isEmpty = ds.isEmpty := by cases r <;> rfl
theorem zt_tru {e : Expr} {f : EF} (h : ZE X e f) (he : ∀ whole, isTrue e X.env whole = (do let v ← whole; standAt e.pos; holding [v] (truthy v)) := by intro _; rfl) : ZT X e (bTru f) :=
  ⟨fun b pins s σ H Q I hz => by
    obtain ⟨F, env, d, env', S, e, k⟩ := hz
    unfold bTru at e
    obtain ⟨⟨d1, e1⟩, h1, h2⟩ := Option.bind_eq_some_iff.mp e
    obtain ⟨kb, h3, h4⟩ := Option.map_eq_some_iff.mp h2
    cases h4
    refine isTrue_plain (thn (h.pe b pins s σ H (fun v H' => ∃ F', Le F F' ∧ SOk X.K b F' H' σ e1 ∧ Rep X.K F' v d1) I ⟨F, env, d1, e1, S, h1, fun v F' H' l S' r => ⟨F', l, S', r⟩⟩) fun v s1 ⟨x, H1, I1, r1, F1, l1, S1, r⟩ => ?_) (he _)
    have kk := k F1 H1 l1 S1
    cases r with
    | dct hF rk =>
      cases h3
      cases r1
      exact d_truthT I1 (S1.sub.rd hF) fun s' I' => ⟨H1, I', by rw [rk.emp]; exact kk⟩
    | lst hs r =>
      cases h3
      exact tru_ok pins s1 σ H1 _ v Q I1 r1 ⟨_, .inl ⟨_, hs.sq S1.sub, by rw [r.emp]⟩, kk⟩
    | tup hs r =>
      cases h3
      exact tru_ok pins s1 σ H1 _ v Q I1 r1 ⟨_, .inr (.inl ⟨_, hs.sq S1.sub, by rw [r.emp]⟩), kk⟩
    | non => cases h3; exact tru_ok pins s1 σ H1 _ v Q I1 r1 ⟨false, rfl, kk⟩
    | bl b => cases h3; exact tru_ok pins s1 σ H1 _ v Q I1 r1 ⟨_, rfl, kk⟩
    | int i => cases h3; exact tru_ok pins s1 σ H1 _ v Q I1 r1 ⟨_, rfl, kk⟩
    | str x => cases h3⟩
end

/-! ### while a dict is walked it is locked -/
def LockAt (i : Nat) (b : Bs) (σ : St) : Prop := ∃ p od kvs, σ[i]? = some (some (.ref p)) ∧ b.B p = some (.frz od (.dT kvs)) ∧ ¬ b.mu p ∧ b.F0 p = some (.dT kvs)
section
variable {K : Frag} {b : Bs} {F F' H H' : Hp} {σ σ' : St} {env env' : En} {p : Addr} {od : Obj} {kvs : List (List Key × V)}
end
section
variable {X : Cx} {st : Stmt} {f : SF}
/-- the keys of the dict that a name holds -/
def iKy (i : Nat) : AF := fun env => match env[i]? with
  | some (some (.val (.dict es))) => some (es.map (·.1), env)
  | _ => none
variable {tg : Expr} {x : Str} {pos : Pos}
/-! reversed -/
def iRv (f : AF) : AF := fun env => (f env).bind fun a => match a.1 with
  | [.list ds] => some (ds.reverse, a.2)
  | _ => none
end
/-! ### {k: v} -/
section
variable {X : Cx}
def DispQ (p : Addr) (Q : VK) (ps : List (V × V)) (H2 : Hp) : Prop := ∃ y v k b, ps = [(y, v)] ∧ H2 p = some (.dT []) ∧ y = .ref b ∧ H2 b = some (.tup (k.map kV)) ∧ Q (.ref p) (upd H2 p (.dT [(k, v)]))
def tDisp1 (tk tv : TE) : TE := fun σ H Q => ∀ p, H p = none → tk σ (upd H p (.dT [])) fun y H1 => tv σ H1 fun v H2 => DispQ p Q [(y, v)] H2
def eDisp1 (fk fv : EF) : EF := fun env => (fk env).bind fun a => (fv a.2).bind fun c => (keyD a.1).map fun _ => (.dict [(a.1, c.1)], c.2)
end
end Z

namespace L2
open PySem PySem.Spec PyProof.Rows
/-- what is laid at the start of a comprehension -/
structure NewC (prog : Program) (w : World) (mk : Sem Value) (o0 : Addr → HO) : Prop where
  go : ∀ (A : Around) (E : Value → Shared → Prop) (s : Shared) (Q : Value → Shared → Prop), sysModules < s.heap.objs.size → (∀ ob : Obj, (∀ H, ObjOk prog w H (s.heap.push ob) s.heap.objs.size (o0 s.heap.objs.size)) → Q (.ref s.heap.objs.size) { s with heap := s.heap.push ob }) → wpAny (model prog w) A mk Q E s
/-- what a turn lays down -/
abbrev TM := Addr → St → Hp → (Hp → Prop) → Prop
def PM (X : Cx) (em : Value → Env → Sem Unit) (t : TM) : Prop := ∀ (pins : List (Addr × Obj)) (s : Shared) (σ : St) (H : Hp) (D : Addr) (Nx : Hp → Prop), Inv X pins σ H s → t D σ H Nx →
  wpAny (model X.prog X.w) X.A (em (.ref D) X.env) (fun _ s' => ∃ H', Inv X pins σ H' s' ∧ Nx H') X.xe s
/-- no generator: its turns are no frames of their own -/
structure NoGen (E : Expr) : Prop where
  loop : ∀ (prog : Program) (w : World) (d : Nat) (it acc : Value) (env : Env), (model prog w).den (.compLoop E d it acc env) = (compTurn E d it acc env).onRaise (fun x => do noteFrame x env; theTreesLotGoes x)
  start : ∀ (prog : Program) (w : World) (d : Nat) (it acc : Value) (env : Env), (model prog w).den (.compStart E d it acc env) = (compStart E d it acc env).onRaise (fun x => do noteFrame x env; standAt theWindowsPlace)
  uL : ∀ (A : Around) (d : Nat) (it acc : Value) (env : Env), A.under (.compLoop E d it acc env) = A
  uS : ∀ (A : Around) (d : Nat) (it acc : Value) (env : Env), A.under (.compStart E d it acc env) = A
/-- the turns of a comprehension with one clause -/
structure Turn1 (E target iter : Expr) (ifs : List Expr) (em : Value → Env → Sem Unit) : Prop where
  ng : NoGen E
  cl : clausesOf E = [⟨target, iter, ifs, 0⟩]
  turn : ∀ (it acc : Value) (env : Env), compTurn E 0 it acc env = (do
      standAt iter.pos
      match ← pyNext it with
      | none => pure (.done .next)
      | some v =>
        letOwnedTupleGo target it v
        assign target env v
        let mut ok := true
        for c in ifs do
          if ok then ok ← isTrue c env (eval c env)
        if ok then em acc env
        again (.compLoop E 0 it acc env))
/-- .. with two -/
structure Turn2 (E t0 i0 t1 i1 : Expr) (ifs0 ifs1 : List Expr) (em : Value → Env → Sem Unit) : Prop where
  ng : NoGen E
  cl : clausesOf E = [⟨t0, i0, ifs0, 0⟩, ⟨t1, i1, ifs1, 0⟩]
  out : ∀ (it acc : Value) (env : Env), compTurn E 0 it acc env = (do
      standAt i0.pos
      match ← pyNext it with
      | none => pure (.done .next)
      | some v =>
        letOwnedTupleGo t0 it v
        assign t0 env v
        let mut ok := true
        for c in ifs0 do
          if ok then ok ← isTrue c env (eval c env)
        if ok then
          let x ← eval i1 env
          standAt i1.pos
          let x ← foldedSetIterable i1 env x
          let _ ← runOwn (.compStart E 1 (← holding [x] (pyIter x)) acc env) env
        again (.compLoop E 0 it acc env))
  inn : ∀ (it acc : Value) (env : Env), compTurn E 1 it acc env = (do
      standAt i1.pos
      match ← pyNext it with
      | none => pure (.done .next)
      | some v =>
        letOwnedTupleGo t1 it v
        assign t1 env v
        let mut ok := true
        for c in ifs1 do
          if ok then ok ← isTrue c env (eval c env)
        if ok then em acc env
        again (.compLoop E 1 it acc env))

section
variable {prog : Program} {w : World} {A : Around} {R : Result → Shared → Prop} {s : Shared} {E t0 i0 t1 i1 : Expr} {ifs0 ifs1 : List Expr} {em : Value → Env → Sem Unit} {it acc : Value} {env : Env}
end

section
variable {X : Cx}
/-- D the new thing; W by the turn and a measure, Nx what a turn is to reach -/
def tCg (o0 : Addr → HO) (wi : TI) (g : TG) (tt : TT) (tm : TM) (vs : List Nat) : TE := fun σ H Q => wi σ H fun J H1 => ∀ D, H1 D = none → ∃ W : Nat → Nat → Hp → Prop, (∃ m, W 0 m (upd H1 D (o0 D))) ∧ ∀ i m H, W i m H →
  (J.stop i H ∧ Q (.ref D) H) ∨ (J.go i H ∧ ∃ Nx : Hp → Prop, (∀ H', Nx H' → ∃ m', m' < m ∧ W (i + 1) m' H') ∧ ∀ x H', J.yld i H x H' → g x (wipe σ vs) H' fun σ2 H2 => wipe σ2 vs = wipe σ vs ∧ tt σ2 H2 fun b H3 =>
    if b = true then tm D σ2 H3 Nx else Nx H3)
def tCg2 (o0 : Addr → HO) (wi : TI) (g : TG) (tt : TT) (wi1 : TI) (g1 : TG) (tt1 : TT) (tm : TM) (vs vs1 : List Nat) : TE := fun σ H Q => wi σ H fun J H1 => ∀ D, H1 D = none → ∃ W : Nat → Nat → Hp → Prop, (∃ m, W 0 m (upd H1 D (o0 D))) ∧ ∀ i m H, W i m H →
  (J.stop i H ∧ Q (.ref D) H) ∨ (J.go i H ∧ ∃ Nx : Hp → Prop, (∀ H', Nx H' → ∃ m', m' < m ∧ W (i + 1) m' H') ∧ ∀ x H', J.yld i H x H' → g x (wipe σ vs) H' fun σ2 H2 => wipe σ2 vs = wipe σ vs ∧ tt σ2 H2 fun b H3 =>
    if b = true then wi1 σ2 H3 fun J1 H4 => ∃ W1 : Nat → Nat → Hp → Prop, (∃ m, W1 0 m H4) ∧ ∀ j k H, W1 j k H →
      (J1.stop j H ∧ Nx H) ∨ (J1.go j H ∧ ∃ Nx1 : Hp → Prop, (∀ H', Nx1 H' → ∃ k', k' < k ∧ W1 (j + 1) k' H') ∧ ∀ x H', J1.yld j H x H' → g1 x (wipe σ2 vs1) H' fun σ3 H5 => wipe σ3 vs1 = wipe σ2 vs1 ∧ tt1 σ3 H5 fun b H6 =>
        if b = true then tm D σ3 H6 Nx1 else Nx1 H6)
    else Nx H3)
/-- how the comprehension is begun -/
def EvC (X : Cx) (E : Expr) (scope : Scope) (iter : Expr) (mk : Sem Value) : Prop := ∃ pos', eval E X.env = comprehension E scope X.env pos' mk false (eval iter X.env) ∧ ∀ use, evalThenUse E X.env use = (do let _ ← comprehension E scope X.env pos' mk false (eval iter X.env) (some use))

end
end L2

namespace L2
open PySem PySem.Spec PyProof.Rows
section
variable {prog : Program} {w : World} {A : Around} {E : Value → Shared → Prop} {s : Shared}
end
end L2

namespace Z
open PySem PySem.Spec PyProof.Rows L2

/-- what a comprehension gathers: where it stands when em has been laid down -/
structure AccK (K : Frag) (o0 : Addr → HO) (step : Hp → Addr → List V → Hp → Prop) (chk : List (List D) → Bool) where
  At : Hp → Hp → Addr → List (List D) → Prop
  start : ∀ F H D, At F (upd H D (o0 D)) D []
  mono : ∀ {F F' H H' D em}, At F H D em → Le F F' → H' D = H D → At F' H' D em
  nt : ∀ {F H D em}, At F H D em → ∃ o, H D = some o ∧ ∀ xs, ¬ (o = .tup xs ∨ ∃ w, o = .frz w (.tup xs))
  go : ∀ {F H D em vs ds}, At F H D em → Sub F H → RepAll K F vs ds → chk (em ++ [ds]) = true → ∃ o', step H D vs (upd H D o') ∧ At F (upd H D o') D (em ++ [ds])
  pre : ∀ {em more}, chk (em ++ more) = true → chk em = true
def compG (is : List Nat) (ft : D → Option (List D)) (tt : BF) (fe : AF) (ws : List Nat) : List D → En → Option (List (List D) × En)
  | [], e => some ([], wipeE e ws)
  | d :: ds, e => (ft d).bind fun xs => (tt (setAllE e is xs)).bind fun k => if k.1 = true then (fe k.2).bind fun a => (compG is ft tt fe ws ds (wipeE a.2 ws)).map fun r => (a.1 :: r.1, r.2)
    else compG is ft tt fe ws ds (wipeE k.2 ws)
def compG2 (is : List Nat) (ft : D → Option (List D)) (tt : BF) (fi1 : AF) (is1 : List Nat) (ft1 : D → Option (List D)) (tt1 : BF) (fe : AF) (ws ws1 : List Nat) : List D → En → Option (List (List D) × En)
  | [], e => some ([], wipeE e ws)
  | d :: ds, e => (ft d).bind fun xs => (tt (setAllE e is xs)).bind fun k => if k.1 = true then (fi1 k.2).bind fun a => (compG is1 ft1 tt1 fe ws1 a.1 (wipeE a.2 ws1)).bind fun r1 => (compG2 is ft tt fi1 is1 ft1 tt1 fe ws ws1 ds (wipeE r1.2 ws)).map fun r => (r1.1 ++ r.1, r.2)
    else compG2 is ft tt fi1 is1 ft1 tt1 fe ws ws1 ds (wipeE k.2 ws)
def zAx (K : Frag) (f : AF) : TA := fun σ H Q => ∃ b, zA K b f σ H Q
def zIx (K : Frag) (f : AF) : TI := fun σ H R => ∃ b, zIA K b f σ H R
/-- what a turn lays down -/
def tmG (K : Frag) (fe : AF) (step : Hp → Addr → List V → Hp → Prop) : TM := fun D σ H Nx => zAx K fe σ H fun vs H' => ∃ H2, step H' D vs H2 ∧ Nx H2
section
variable {K : Frag} {b : Bs} {F F' H H' : Hp} {σ : St} {env : En} {D : Addr}
/-- a yield keeps what is gathered -/
theorem AccK.yield {o0 : Addr → HO} {step : Hp → Addr → List V → Hp → Prop} {chk : List (List PyData) → Bool} (A : AccK K o0 step chk) {em : List (List PyData)} (ha : A.At F H D em) (hF : F D = none) (l : Le F F') (s : Sub F' H') (kp : ∀ a o, H a = some o → H' a = some o) (n : NewF F H F') : A.At F' H' D em ∧ F' D = none := by
  obtain ⟨o, ho, nt⟩ := A.nt ha
  have ho' := kp D o ho
  refine ⟨A.mono ha l (ho'.trans ho.symm), ?_⟩
  cases q : F' D with
  | none => rfl
  | some u =>
    rcases n D u q with z | z | ⟨xs, rfl⟩
    · rw [hF] at z; cases z
    · rw [ho] at z; cases z
    · have z := s.tup q
      rw [ho'] at z
      exact (nt xs (.inl (Option.some.inj z))).elim
end
section
variable {K : Frag} {o0 : Addr → HO} {step : Hp → Addr → List V → Hp → Prop} {chk : List (List PyData) → Bool} (A : AccK K o0 step chk) {g1 : AF} {is : List Nat} {ft : PyData → Option (List PyData)} {tt : BF} {fe : AF} {C : St → Prop}
/-- what stands at a turn's start -/
structure AtTurn (b : Bs) (F1 : Hp) (σ : St) (D : Addr) (rs : List (List PyData)) (F2 H : Hp) (env2 : En) (em more : List (List PyData)) : Prop where
  le : Le F1 F2
  ok : SOk K b F2 H σ env2
  at' : A.At F2 H D em
  nF : F2 D = none
  fr : Free σ env2 D
  all : rs = em ++ more
variable {fi1 : AF} {is1 : List Nat} {ft1 : PyData → Option (List PyData)} {tt1 : BF}
end
end Z

namespace Z
open PySem PySem.Spec PyProof.Rows L2

def eCG (chk : List (List D) → Bool) (fin : List (List D) → D) (fi : AF) (is : List Nat) (ft : D → Option (List D)) (tt : BF) (fe : AF) (ws : List Nat) : EF := fun env => (fi env).bind fun a =>
  (compG is ft tt fe ws a.1 (wipeE a.2 ws)).bind fun r => if chk r.1 = true then some (fin r.1, r.2) else none
def eCG2 (chk : List (List D) → Bool) (fin : List (List D) → D) (fi : AF) (is : List Nat) (ft : D → Option (List D)) (tt : BF) (fi1 : AF) (is1 : List Nat) (ft1 : D → Option (List D)) (tt1 : BF) (fe : AF) (ws ws1 : List Nat) : EF := fun env => (fi env).bind fun a =>
  (compG2 is ft tt fi1 is1 ft1 tt1 fe ws ws1 a.1 (wipeE a.2 ws)).bind fun r => if chk r.1 = true then some (fin r.1, r.2) else none

/-! ### the kinds -/
def stepL (H : Hp) (D : Addr) (vs : List V) (H' : Hp) : Prop := ∃ y acc, vs = [y] ∧ H D = some (.lst acc) ∧ acc.length < sizeLine ∧ H' = upd H D (.lst (acc ++ [y]))
def chkL (em : List (List D)) : Bool := decide (em.length < sizeLine) && em.all fun e => e.length == 1
def finL (em : List (List D)) : D := .list em.flatten
theorem chk_len {em : List (List D)} (h : em.all (fun e => e.length == 1) = true) : em.flatten.length = em.length := by
  induction em with
  | nil => rfl
  | cons e es ih =>
    rw [List.all_cons, Bool.and_eq_true] at h
    rw [List.flatten_cons, List.length_append, ih h.2, List.length_cons]
    have := h.1
    simp at this
    omega
def accL (K : Frag) : AccK K (fun _ => .lst []) stepL chkL where
  At := fun F H D em => ∃ acc, H D = some (.lst acc) ∧ RepAll K F acc em.flatten
  start := fun F H D => ⟨[], upd_same, .nil⟩
  mono := fun ⟨acc, h, r⟩ l e => ⟨acc, e.trans h, r.mono l⟩
  nt := fun ⟨acc, h, r⟩ => ⟨_, h, fun xs z => by rcases z with z | ⟨w, z⟩ <;> cases z⟩
  go := fun {F H D em vs ds} ⟨acc, h, r⟩ s rv hk => by
    simp only [chkL, Bool.and_eq_true, decide_eq_true_eq, List.all_append, List.length_append, List.length_cons, List.length_nil] at hk
    obtain ⟨hl, ha, hd⟩ := hk
    have hd1 : ds.length = 1 := by simpa using hd
    match ds, hd1, vs, rv with
    | [d], _, [v], .cons r1 .nil =>
      refine ⟨_, ⟨v, acc, rfl, h, ?_, rfl⟩, _, upd_same, ?_⟩
      · rw [r.len, chk_len ha]; omega
      · rw [List.flatten_append]; exact r.append (.cons r1 .nil)
  pre := fun {em more} h => by
    simp only [chkL, Bool.and_eq_true, decide_eq_true_eq, List.all_append, List.length_append] at h ⊢
    exact ⟨by omega, h.2.1⟩
def stepD (H : Hp) (D : Addr) (vs : List V) (H' : Hp) : Prop := ∃ k b v kvs, vs = [.ref b, v] ∧ H D = some (.dT kvs) ∧ H b = some (.tup (k.map kV)) ∧ kvs.length < sizeLine ∧ H' = upd H D (.dT (putK kvs k v))
def isKV : List D → Bool
  | [k, _] => (keyD k).isSome
  | _ => false
def chkD (em : List (List D)) : Bool := decide (em.length < sizeLine) && em.all isKV
def addKV (es : List (D × D)) : List D → List (D × D)
  | [k, v] => match keyD k with
    | some kk => putE es kk v
    | none => es
  | _ => es
def foldD (em : List (List D)) : List (D × D) := em.foldl addKV []
def finD (em : List (List D)) : D := .dict (foldD em)
theorem putE_len (es : List (D × D)) (k : List Key) (d : D) : (putE es k d).length ≤ es.length + 1 := by
  unfold putE
  split
  · rw [List.length_map]; omega
  · rw [List.length_append]; simp
theorem addKV_len (es : List (D × D)) (e : List D) : (addKV es e).length ≤ es.length + 1 := by
  unfold addKV
  split
  · split
    · exact putE_len ..
    · omega
  · omega
theorem foldD_len (em : List (List D)) : (foldD em).length ≤ em.length := by
  unfold foldD
  have gen : ∀ (em : List (List D)) (es : List (D × D)), (em.foldl addKV es).length ≤ es.length + em.length := by
    intro em
    induction em with
    | nil => intro es; simp
    | cons e em ih =>
      intro es
      have h1 := ih (addKV es e)
      have h2 := addKV_len es e
      rw [List.foldl_cons, List.length_cons]
      omega
  have := gen em []
  simpa using this
def accD (K : Frag) : AccK K (fun _ => .dT []) stepD chkD where
  At := fun F H D em => ∃ kvs, H D = some (.dT kvs) ∧ RepKV K F kvs (foldD em)
  start := fun F H D => ⟨[], upd_same, .nil⟩
  mono := fun ⟨acc, h, r⟩ l e => ⟨acc, e.trans h, r.mono l⟩
  nt := fun ⟨acc, h, r⟩ => ⟨_, h, fun xs z => by rcases z with z | ⟨w, z⟩ <;> cases z⟩
  go := fun {F H D em vs ds} ⟨kvs, h, r⟩ s rv hk => by
    simp only [chkD, Bool.and_eq_true, decide_eq_true_eq, List.all_append, List.length_append, List.length_cons, List.length_nil, List.all_cons, List.all_nil] at hk
    obtain ⟨hl, ha, hd, _⟩ := hk
    have hle := foldD_len em
    match ds, hd, vs, rv with
    | [k, d], hd, [v1, v2], .cons r1 (.cons r2 .nil) =>
      have hd : (keyD k).isSome = true := hd
      obtain ⟨kk, hkk⟩ := Option.isSome_iff_exists.mp hd
      obtain ⟨bb, rfl, hb⟩ := r1.tkey hkk
      refine ⟨_, ⟨kk, bb, v2, kvs, rfl, h, s.tup hb, by rw [r.len]; omega, rfl⟩, _, upd_same, ?_⟩
      have e : foldD (em ++ [[k, d]]) = putE (foldD em) kk d := by
        unfold foldD
        rw [List.foldl_append]
        simp only [List.foldl_cons, List.foldl_nil, addKV, hkk]
      rw [e]
      exact r.put kk r2
  pre := fun {em more} h => by
    simp only [chkD, Bool.and_eq_true, decide_eq_true_eq, List.all_append, List.length_append] at h ⊢
    exact ⟨by omega, h.2.1⟩
section
variable {prog : Program} {w : World}
end
/-! ### what a turn lays down -/
def emL (elt : Expr) : Value → Env → Sem Unit := fun acc env => do let _ ← call (.builtin "list.append") [acc, ← eval elt env]
def emD (k v : Expr) : Value → Env → Sem Unit := fun acc env => do
        let kv ← eval k env
        let vv ← holding [kv] (eval v env)
        match acc with
        | .ref d => do
          standAt { k.pos with endLine := v.pos.endLine, endCol := v.pos.endCol }
          holding [kv, vv] (dictSet d kv vv)
        | _ => unsupported "internal:dictcomp"
section
variable {X : Cx} {elt k v : Expr} {fe fk fv : EF}
end
/-! ### the rules -/
section
variable {X : Cx} {E tg iter tg1 iter1 : Expr} {ifs ifs1 : List Expr} {scope : Scope} {own : List (Str × Nat)} {g1 : AF} {is : List Nat} {ft : PyData → Option (List PyData)} {tt : BF} {fe : AF} {fi1 : AF} {is1 : List Nat} {ft1 : PyData → Option (List PyData)} {tt1 : BF}
variable {b : Bs} {C : St → Prop} {o0 : Addr → HO} {step : Hp → Addr → List V → Hp → Prop} {chk : List (List PyData) → Bool} {fin : List (List PyData) → PyData} {mk : Sem Value} {em : Value → Env → Sem Unit}
abbrev Blk (X : Cx) (scope : Scope) (P : Cx → Prop) : Prop := ∀ (s : Shared) (H : Hp) (C : Addr) (cl : List (Str × Addr)) (fp : List Addr), P (X.blk s H scope (compEnvC scope cl C X.env) fp)
theorem ZI.any {f : AF} (hi : ZI X tg iter f) (b : Bs) : PI X tg iter (fun σ H R => True ∧ zI X.K b f σ H R) := piOf (hi.pi b) fun σ H R h => zIA_of σ H R h.2
variable {k v elt : Expr} {fk fv f1 : EF} {pos spos py px : Pos} {x y : Str} {ws ws1 : List Nat}
end
end Z

namespace Z
open PySem PySem.Spec PyProof.Rows L2

/-! ### sum(d.values()) -/
/-- a dict's values, seen -/
def ValsO (v d : Addr) : HO := .ext fun h => h.IsValuesView v d
section
variable {prog : Program} {w : World} {A : Around}
end
section
variable {X : Cx}
def rSumV : List V → Hp → VK → Prop := fun vs H Q => ∃ (v d : Addr) (kvs : List (List Key × V)) (ns : List Int), vs = [V.ref v] ∧ H v = some (ValsO v d) ∧ Rd H d (.dT kvs) ∧ kvs.map (·.2) = ns.map V.int ∧ Q (.int ns.sum) H
def tValues (td : TE) : TE := fun σ H Q => td σ H fun x H1 => ∃ d kvs, x = .ref d ∧ Rd H1 d (.dT kvs) ∧ ∀ v, H1 v = none → Q (.ref v) (upd H1 v (ValsO v d))
def intsD : List (D × D) → Option (List Int)
  | [] => some []
  | (_, .int i) :: r => (intsD r).map (i :: ·)
  | _ => none
theorem RepKV.ints {K : Frag} {F : Hp} : ∀ {kvs : List (List Key × V)} {es : List (D × D)} {ns : List Int}, RepKV K F kvs es → intsD es = some ns → kvs.map (·.2) = ns.map V.int
  | _, _, _, .nil, h => by cases h; rfl
  | _, _, ns, .cons r t, h => by
    cases r with
    | int i =>
      obtain ⟨r, h1, h2⟩ := Option.map_eq_some_iff.mp h
      subst h2
      rw [List.map_cons, List.map_cons, RepKV.ints t h1]
    | _ => cases h
def eSumV (f : EF) : EF := fun env => (f env).bind fun a => match a.1 with
  | .dict es => (intsD es).map fun ns => (.int ns.sum, a.2)
  | _ => none
end
end Z

namespace Z
open PySem PySem.Spec PyProof.Rows L2 PySem.W

section
variable {prog : Program} {w : World} {K : Type} [DecidableEq K] {knd : PySem.KeyKind prog w K} {A : Around} {E : Value → Shared → Prop} {s : Shared}
variable {a : Addr} {o : Obj} {es : Array (Int × Value)} {ep : Nat} {t : SetTable} {L : List Ent} {α κ : Type} {ent : α → Int × Value} {key : α → κ} {xs : List α}
theorem TSetG.keep {h h' : Heap} (T : TSetG w ent key h a o es ep t L xs) (e : ∀ o, h.get? a = some o → h'.get? a = some o) : TSetG w ent key h' a o es ep t L xs := { T with get := e _ T.get }
theorem IsSetIt.keep {h h' : Heap} {it : Addr} {i sl n : Nat} (x : IsSetIt h it a i sl n ep) (e : ∀ o, h.get? it = some o → h'.get? it = some o) : IsSetIt h' it a i sl n ep := let ⟨o, ho, r⟩ := x; ⟨o, e _ ho, r⟩
end
end Z

namespace Z
open PySem PySem.Spec PyProof.Rows L2 PySem.W

theorem vals_ints {ks : List Int} {its : List Value} (h : Vals (ks.map V.int) its) : IntsAre its ks := h.ints
section
variable {prog : Program} {w : World} {A : Around} {E : Value → Shared → Prop} {s : Shared}
end
end Z

/-! Rising lists of lists of ints. -/
namespace Z
def insU (k : List Int) : List (List Int) → List (List Int)
  | [] => [k]
  | x :: xs => if k < x then k :: x :: xs else if k = x then x :: xs else x :: insU k xs
def sortU (ks : List (List Int)) : List (List Int) := ks.foldr insU []
theorem mem_insU {k y : List Int} : ∀ {xs : List (List Int)}, y ∈ insU k xs ↔ y = k ∨ y ∈ xs
  | [] => by simp [insU]
  | x :: xs => by
    unfold insU
    split
    · simp
    · split
      · rename_i h; subst h; simp
      · rw [List.mem_cons, mem_insU, List.mem_cons]
        constructor
        · rintro (h | h | h) <;> simp [h]
        · rintro (h | h | h) <;> simp [h]
theorem lt_or {a b : List Int} (h1 : ¬ a < b) (h2 : a ≠ b) : b < a := by
  rcases Classical.em (b < a) with q | q
  · exact q
  · exact absurd (List.le_antisymm (List.not_lt.mp q) (List.not_lt.mp h1)) h2
theorem insU_up {k : List Int} : ∀ {xs : List (List Int)}, xs.Pairwise (· < ·) → (insU k xs).Pairwise (· < ·)
  | [], _ => by simp [insU]
  | x :: xs, h => by
    have hp := List.pairwise_cons.mp h
    unfold insU
    split
    · rename_i q
      exact List.pairwise_cons.mpr ⟨fun y hy => by
        rcases List.mem_cons.mp hy with z | z
        · rw [z]; exact q
        · exact List.lt_trans q (hp.1 y z), h⟩
    · rename_i q
      split
      · exact h
      · rename_i q2
        refine List.pairwise_cons.mpr ⟨fun y hy => ?_, insU_up hp.2⟩
        rcases mem_insU.mp hy with z | z
        · rw [z]; exact lt_or q q2
        · exact hp.1 y z
theorem mem_sortU {y : List Int} : ∀ {ks : List (List Int)}, y ∈ sortU ks ↔ y ∈ ks
  | [] => by simp [sortU]
  | k :: ks => by
    show y ∈ insU k (sortU ks) ↔ _
    rw [mem_insU, mem_sortU, List.mem_cons]
theorem sortU_up : ∀ (ks : List (List Int)), (sortU ks).Pairwise (· < ·)
  | [] => .nil
  | k :: ks => insU_up (sortU_up ks)
theorem up_nodup {a : List (List Int)} (h : a.Pairwise (· < ·)) : a.Nodup := h.imp fun q e => by subst e; exact List.lt_irrefl _ q
theorem nodup_len {α : Type} [DecidableEq α] : ∀ {l m : List α}, l.Nodup → (∀ x ∈ l, x ∈ m) → l.length ≤ m.length
  | [], _, _, _ => Nat.zero_le _
  | x :: l, m, hn, h => by
    have hx := h x (List.mem_cons_self ..)
    have p := List.nodup_cons.mp hn
    have := nodup_len (m := m.erase x) p.2 fun y hy => (List.mem_erase_of_ne fun e => p.1 (by rw [← e]; exact hy)).mpr (h y (List.mem_cons_of_mem _ hy))
    rw [List.length_erase_of_mem hx] at this
    have : 0 < m.length := List.length_pos_of_mem hx
    rw [List.length_cons]
    omega
end Z

namespace Z
open PySem PySem.Spec PyProof.Rows L2 PySem.W

/-- a set of tuples: its members, in some order -/
def SetT (prog : Program) (w : World) (a : Addr) (M : List (List Key × Addr)) : HO := .ext fun h => ∃ o es ep t L xs, TSet (mixKind prog w) h a o es ep t L xs ∧ xs.Perm M
abbrev kz (z : List Int × Addr) : List Key × Addr := (z.1.map Key.inl, z.2)
section
variable {X : Cx}
/-- sorted(s), s a set of tuples of ints -/
def rSortedSet (prog : Program) (w : World) : List V → Hp → VK → Prop := fun vs H Q => ∃ (a : Addr) (zs : List (List Int × Addr)), vs = [V.ref a] ∧ H a = some (SetT prog w a (zs.map kz)) ∧ (∀ z ∈ zs, z.1 ≠ [] ∧ H z.2 = some (.tup (z.1.map V.int))) ∧ zs.length < 64 ∧
  ∀ (ys : List (List Int × Addr)) (p : Addr), ys.Perm zs → ys.Pairwise (fun a b => ¬ b.1 < a.1) → H p = none → Q (.ref p) (upd H p (.lst (ys.map fun z => V.ref z.2)))
/-- sorted(xs), xs a list of tuples of ints -/
def rSortedT (K : PySem.W.Frag) : List V → Hp → VK → Prop := fun vs H Q => ∃ (a : Addr) (zs : List (List Int × Addr)), vs = [V.ref a] ∧ SqL K H a (zs.map fun z => V.ref z.2) ∧ (∀ z ∈ zs, z.1 ≠ [] ∧ H z.2 = some (.tup (z.1.map V.int))) ∧ zs.length < 64 ∧
  ∀ (ys : List (List Int × Addr)) (p : Addr), ys.Perm zs → ys.Pairwise (fun a b => ¬ b.1 < a.1) → H p = none → Q (.ref p) (upd H p (.lst (ys.map fun z => V.ref z.2)))
end
end Z

namespace Z
open PySem PySem.Spec PyProof.Rows L2 PySem.W

def intsL : List D → Option (List Int)
  | [] => some []
  | .int i :: ds => (intsL ds).map (i :: ·)
  | _ => none
def intsT : D → Option (List Int)
  | .tuple ds => intsL ds
  | _ => none
theorem intsL_inv : ∀ {ds : List D} {k : List Int}, intsL ds = some k → ds = k.map PyData.int
  | [], k, h => by cases h; rfl
  | d :: ds, k, h => by
    cases d with
    | int i =>
      obtain ⟨r, h1, h2⟩ := Option.map_eq_some_iff.mp h
      subst h2
      rw [intsL_inv h1]; rfl
    | _ => cases h
theorem intsT_inv {d : D} {k : List Int} (h : intsT d = some k) : d = .tuple (k.map PyData.int) := by
  cases d with
  | tuple ds => rw [intsL_inv h]
  | _ => cases h
theorem RepAll.intsV {K : Frag} {F : Hp} : ∀ {vs : List V} {k : List Int}, RepAll K F vs (k.map PyData.int) → vs = k.map V.int
  | _, [], .nil => rfl
  | _, i :: k, .cons r t => by cases r; rw [RepAll.intsV t]; rfl
theorem Rep.intTup {K : Frag} {F : Hp} {v : V} {k : List Int} (r : Rep K F v (.tuple (k.map PyData.int))) : ∃ q, v = .ref q ∧ F q = some (.tup (k.map V.int)) := by
  cases r with
  | tup h r => exact ⟨_, rfl, by rw [← r.intsV]; exact h⟩
/-- the key of a member -/
def okS : List D → Bool
  | [d] => match intsT d with
    | some (_ :: _) => true
    | _ => false
  | _ => false
def keyS : List D → List Int
  | [d] => (intsT d).getD []
  | _ => []
theorem okS_inv {ds : List D} (h : okS ds = true) : keyS ds ≠ [] ∧ ds = [.tuple ((keyS ds).map PyData.int)] := by
  match ds, h with
  | [d], h =>
    cases e : intsT d with
    | none => simp [okS, e] at h
    | some k =>
      cases k with
      | nil => simp [okS, e] at h
      | cons i k =>
        have := intsT_inv e
        simp only [keyS, e, Option.getD_some]
        exact ⟨by simp, by rw [this]⟩
def chkS (em : List (List D)) : Bool := em.all okS && decide ((sortU (em.map keyS)).length ≤ 62)
def finS (em : List (List D)) : D := .list ((sortU (em.map keyS)).map fun k => .tuple (k.map PyData.int))
section
variable (prog : Program) (w : World)
def addZ (zs : List (List Int × Addr)) (k : List Int) (q : Addr) : List (List Int × Addr) := if k ∈ zs.map (·.1) then zs else (k, q) :: zs
def stepS (H : Hp) (D : Addr) (vs : List V) (H2 : Hp) : Prop := ∃ (q : Addr) (k : List Int) (zs : List (List Int × Addr)), vs = [.ref q] ∧ H D = some (SetT prog w D (zs.map kz)) ∧ (∀ z ∈ zs, H z.2 = some (.tup (z.1.map V.int))) ∧ H q = some (.tup (k.map V.int)) ∧ zs.length < 63 ∧ H2 = upd H D (SetT prog w D ((addZ zs k q).map kz))
/-- what stands in the set -/
def SetAt (F H : Hp) (D : Addr) (em : List (List PyData)) : Prop := ∃ zs : List (List Int × Addr), H D = some (SetT prog w D (zs.map kz)) ∧ (∀ z ∈ zs, z.1 ≠ [] ∧ F z.2 = some (.tup (z.1.map V.int))) ∧ (zs.map (·.1)).Nodup ∧ ∀ k, k ∈ zs.map (·.1) ↔ k ∈ em.map keyS
theorem pre_len {a b : List (List Int)} (h : ∀ x ∈ a, x ∈ b) : (sortU a).length ≤ (sortU b).length := nodup_len (up_nodup (sortU_up a)) fun x hx => mem_sortU.mpr (h x (mem_sortU.mp hx))
def accS (K : Frag) : AccK K (fun a => SetT prog w a []) (stepS prog w) chkS where
  At := SetAt prog w
  start := fun F H D => ⟨[], upd_same, fun z hz => (nomatch hz), .nil, fun k => by simp⟩
  mono := fun ⟨zs, h1, h2, h3, h4⟩ l e => ⟨zs, e.trans h1, fun z hz => ⟨(h2 z hz).1, l _ _ (h2 z hz).2⟩, h3, h4⟩
  nt := fun ⟨zs, h1, _⟩ => ⟨_, h1, fun xs z => by rcases z with z | ⟨w, z⟩ <;> cases z⟩
  go := fun {F H D em vs ds} ⟨zs, h1, h2, h3, h4⟩ s rv hk => by
    simp only [chkS, Bool.and_eq_true, decide_eq_true_eq, List.all_append, List.map_append, List.all_cons, List.all_nil, Bool.and_true] at hk
    obtain ⟨⟨_, ho⟩, hl⟩ := hk
    obtain ⟨hne, hds⟩ := okS_inv ho
    generalize hkk : keyS ds = k at *
    have hz : zs.length < 63 := by
      have q1 : (zs.map (·.1)).length ≤ (sortU (em.map keyS ++ List.map keyS [ds])).length := nodup_len h3 fun x hx => mem_sortU.mpr (List.mem_append_left _ ((h4 x).mp hx))
      rw [List.length_map] at q1
      omega
    subst hds
    match vs, rv with
    | [v], .cons r .nil =>
      obtain ⟨q, rfl, hq⟩ := r.intTup
      have hHq := s.tup hq
      refine ⟨_, ⟨q, k, zs, rfl, h1, fun z hz => s.tup (h2 z hz).2, hHq, hz, rfl⟩, addZ zs k q, upd_same, ?_, ?_, fun x => ?_⟩
      · intro z hz
        unfold addZ at hz
        split at hz
        · exact h2 z hz
        · rcases List.mem_cons.mp hz with e | hz
          · subst e; exact ⟨hne, hq⟩
          · exact h2 z hz
      · unfold addZ
        split
        · exact h3
        · rename_i hn; exact List.nodup_cons.mpr ⟨hn, h3⟩
      · rw [List.map_append, List.mem_append, ← h4 x]
        simp only [List.map_cons, List.map_nil, List.mem_singleton]
        unfold addZ
        split
        · rename_i hin
          rw [hkk]
          constructor
          · exact .inl
          · rintro (z | z)
            · exact z
            · rw [z]; exact hin
        · simp only [List.map_cons, List.mem_cons, hkk]
          exact or_comm
  pre := fun {em more} h => by
    simp only [chkS, Bool.and_eq_true, decide_eq_true_eq, List.all_append, List.map_append] at h ⊢
    exact ⟨h.1.1, Nat.le_trans (pre_len fun x hx => List.mem_append_left _ hx) h.2⟩
end
def emS (elt : Expr) : Value → Env → Sem Unit := fun acc env => do let v ← eval elt env; standAt elt.pos; let _ ← call (.builtin "set.add") [acc, v]
section
variable {X : Cx} {elt : Expr} {fe : EF}
end
end Z

namespace Z
open PySem PySem.Spec PyProof.Rows L2 PySem.W

section
variable {K : Frag} {b : Bs} {F H : Hp} {σ : St} {env : En}
end
section
variable {X : Cx} {tg tg1 iter1 elt : Expr} {ifs ifs1 : List Expr} {scope : Scope} {own : List (Str × Nat)} {is : List Nat} {ft : PyData → Option (List PyData)} {tt : BF} {fe : EF} {fi1 : AF} {is1 : List Nat} {ft1 : PyData → Option (List PyData)} {tt1 : BF}
variable {pos spos cpos px p : Pos} {x : Str} {ws ws1 : List Nat}
end
end Z

namespace Z
open PySem PySem.Spec PyProof.Rows L2 PySem.W

/-! ### x in xs, xs a list of data -/
def inD (d : D) (ds : List D) : Bool := ds.any fun y => PyData.eqv y d
def gInD : D → D → Option D
  | d, .list ds => if SeqAt.shaped d = true ∧ SeqAt.shaped (.list ds) = true then some (.bool (inD d ds)) else none
  | _, _ => none
def gNotInD : D → D → Option D
  | d, .list ds => if SeqAt.shaped d = true ∧ SeqAt.shaped (.list ds) = true then some (.bool (!inD d ds)) else none
  | _, _ => none
def rInD (K : PySem.W.Frag) (neg : Bool) : R2 := fun x y H Q => ∃ d ds, Dp K H x d ∧ Dp K H y (.list ds) ∧ SeqAt.shaped d = true ∧ SeqAt.shaped (.list ds) = true ∧ Q (.bl (if neg then !inD d ds else inD d ds)) H
section
variable {X : Cx}
end
end Z

/-! What holds behind dicts, sets and comprehensions of any kind. -/
namespace Z
open PySem L2
section
variable {env : En} {R : D → En → Prop} {f g : EF} {fi : AF} {is ws is1 ws1 : List Nat} {ft ft1 : D → Option (List D)} {tt tt1 : BF} {fe fi1 : AF} {chk : List (List D) → Bool} {fin : List (List D) → D} {i : Nat}
theorem we_cg (h : Wa fi env fun ds e => ∃ rs e2, compG is ft tt fe ws ds (wipeE e ws) = some (rs, e2) ∧ chk rs = true ∧ R (fin rs) e2) : We (eCG chk fin fi is ft tt fe ws) env R := by
  obtain ⟨ds, e, h1, rs, e2, h2, h3, h4⟩ := h.ex
  exact ⟨fin rs, e2, by unfold eCG; rw [h1]; simp only [Option.bind_some]; rw [h2]; simp only [Option.bind_some]; rw [if_pos h3], h4⟩
theorem we_cg2 (h : Wa fi env fun ds e => ∃ rs e2, compG2 is ft tt fi1 is1 ft1 tt1 fe ws ws1 ds (wipeE e ws) = some (rs, e2) ∧ chk rs = true ∧ R (fin rs) e2) : We (eCG2 chk fin fi is ft tt fi1 is1 ft1 tt1 fe ws ws1) env R := by
  obtain ⟨ds, e, h1, rs, e2, h2, h3, h4⟩ := h.ex
  exact ⟨fin rs, e2, by unfold eCG2; rw [h1]; simp only [Option.bind_some]; rw [h2]; simp only [Option.bind_some]; rw [if_pos h3], h4⟩
theorem we_disp1 (h : We f env fun a e => We g e fun c e2 => ∃ k, keyD a = some k ∧ R (.dict [(a, c)]) e2) : We (eDisp1 f g) env R := by
  obtain ⟨a, e, h1, hw⟩ := h.ex
  obtain ⟨c, e2, h2, k, h3, h4⟩ := hw.ex
  exact ⟨_, e2, by unfold eDisp1; rw [h1]; simp only [Option.bind_some]; rw [h2]; simp only [Option.bind_some]; rw [h3]; rfl, h4⟩
theorem we_get2B {es0 : List (D × D)} (h0 : env[i]? = some (some (.own (.dict es0)))) (h : We f env fun a e => We g e fun c e2 => ∃ d r, e2[i]? = some (some (.own d)) ∧ gDGet2 d a c = some r ∧ R r e2) : We (eGet2B i f g) env R := by
  obtain ⟨a, e, h1, hw⟩ := h.ex
  obtain ⟨c, e2, h2, d, r, h3, h4, h5⟩ := hw.ex
  exact ⟨r, e2, by unfold eGet2B; rw [h0]; simp only; rw [h1]; simp only [Option.bind_some]; rw [h2]; simp only [Option.bind_some]; rw [h3]; simp only; rw [h4]; rfl, h5⟩
theorem we_sumV (h : We f env fun d e => ∃ es ns, d = .dict es ∧ intsD es = some ns ∧ R (.int ns.sum) e) : We (eSumV f) env R := by
  obtain ⟨d, e, h1, es, ns, rfl, h2, h3⟩ := h.ex
  exact ⟨_, e, by unfold eSumV; rw [h1]; simp only [Option.bind_some]; rw [h2]; rfl, h3⟩
theorem wb_tru {R : Bool → En → Prop} (h : We f env fun d e => ∃ k, truD d = some k ∧ R k e) : Wb (bTru f) env R := by
  obtain ⟨d, e, h1, k, h2, h3⟩ := h.ex
  exact ⟨k, e, by unfold bTru; rw [h1]; simp only [Option.bind_some]; rw [h2]; rfl, h3⟩
end
section
variable {env : En} {R : List D → En → Prop} {a : AF} {i : Nat}
theorem wi_ky {es : List (D × D)} (h : env[i]? = some (some (.val (.dict es)))) (k : R (es.map (·.1)) env) : Wa (iKy i) env R := ⟨_, env, by unfold iKy; rw [h], k⟩
theorem wi_rv (h : Wa a env fun ds e => ∃ xs, ds = [.list xs] ∧ R xs.reverse e) : Wa (iRv a) env R := by
  obtain ⟨ds, e, h1, xs, rfl, h2⟩ := h.ex
  exact ⟨_, e, by unfold iRv; rw [h1]; rfl, h2⟩
end
theorem ws_dput {env : En} {R : Out → Prop} {fk fv : EF} {i : Nat} (h : We fv env fun v e => ∃ es0, e[i]? = some (some (.own (.dict es0))) ∧ We fk e fun a e1 => ∃ es k, e1[i]? = some (some (.own (.dict es))) ∧ es.length < sizeLine ∧ keyD a = some k ∧ R (.nx (e1.set i (some (.own (.dict (putE es k v))))))) : Ws (sDPutB i fk fv) env R := by
  obtain ⟨v, e, h1, es0, h2, hw⟩ := h.ex
  obtain ⟨a, e1, h3, es, k, h4, h5, h6, h7⟩ := hw.ex
  exact ⟨_, by unfold sDPutB; rw [h1]; simp only [Option.bind_some]; rw [h2]; simp only; rw [h3]; simp only [Option.bind_some]; rw [h4]; simp only; rw [if_pos h5, h6]; rfl, h7⟩
/-! comprehensions whose turns leave the names as they are -/
section
variable {α β : Type} {f : α → D} {is ws is1 ws1 : List Nat} {ft ft1 : D → Option (List D)} {fe fi1 : AF} {env : En}
theorem compL_filter {tt : BF} {fe : EF} {p : α → Bool} {g : α → D} (h0 : wipeE env ws = env) : ∀ (xs : List α), (∀ x ∈ xs, ∃ vs, ft (f x) = some vs ∧ Wb tt (setAllE env is vs) fun k e => k = p x ∧ (p x = true → We fe e fun y e' => y = g x ∧ wipeE e' ws = env) ∧ (p x = false → wipeE e ws = env)) →
    compL is ft tt fe ws (xs.map f) env = some ((xs.filter p).map g, env)
  | [], _ => by unfold compL; rw [List.map_nil]; simp only [h0]; rfl
  | x :: xs, h => by
    obtain ⟨vs, h1, hw⟩ := h x (List.mem_cons_self ..)
    obtain ⟨k, e, h2, h3, h4, h5⟩ := hw.ex
    have ih := compL_filter h0 xs fun x' hx' => h x' (List.mem_cons_of_mem _ hx')
    rw [List.map_cons]
    unfold compL
    rw [h1]
    simp only [Option.bind_some]
    rw [h2]
    simp only [Option.bind_some]
    subst h3
    cases hp : p x with
    | true =>
      obtain ⟨y, e', g1, g2, g3⟩ := (h4 hp).ex
      simp only [if_true]
      rw [g1]
      simp only [Option.bind_some]
      rw [g3, ih, g2, List.filter_cons_of_pos hp]
      rfl
    | false =>
      simp only [Bool.false_eq_true, if_false]
      rw [h5 hp, ih, List.filter_cons_of_neg (by rw [hp]; exact Bool.false_ne_true)]
end
end Z

/-! Lending what a name alone holds; results as they come; len(set(xs)). -/
namespace Z
open PySem PySem.Spec PyProof.Rows L2

/-- what a name alone holds, as data that stands still -/
def lend1 : Option SV → Option SV
  | some (.own d) => some (.val d)
  | x => x
def lendE (env : En) : En := env.map lend1
open Classical in
/-- what stands still while all is lent -/
noncomputable def lendF (F H : Hp) (σ : St) (env : En) : Hp := fun a => if F a = none ∧ ¬ Free σ env a then H a else F a
section
variable {K : Frag} {b : Bs} {F H : Hp} {σ : St} {env : En}
theorem lendF_le : Le F (lendF F H σ env) := fun a u e => by
  unfold lendF
  rw [if_neg (by rintro ⟨z, _⟩; rw [e] at z; cases z)]
  exact e
/-- a base of its own: nothing of it is changed -/
noncomputable def lendB (F H : Hp) (σ : St) (env : En) : Bs := ⟨H, lendF F H σ env, fun _ => False, none⟩
def scalD : D → Bool
  | .int _ => true
  | .bool _ => true
  | .none => true
  | .str _ => true
  | _ => false
/-- what of a lent block's names stays: plain data, own lists of plain data -/
def keepS : Option SV → Option SV
  | some (.val d) => if scalD d = true then some (.val d) else none
  | some (.own (.list ds)) => if ds.all scalD = true then some (.own (.list ds)) else none
  | _ => none
def backE (c : Nat) (env env' : En) : En := env.take c ++ (env'.drop c).map keepS
theorem Rep.scal {F' : Hp} {v : V} {d : D} (h : scalD d = true) (r : Rep K F v d) : Rep K F' v d := by
  cases r with
  | non => exact .non
  | bl b => exact .bl b
  | int i => exact .int i
  | str x => exact .str x
  | _ => cases h
theorem RepAll.scal {F' : Hp} : ∀ {vs : List V} {ds : List D}, ds.all scalD = true → RepAll K F vs ds → RepAll K F' vs ds
  | _, _, _, .nil => .nil
  | _, _, h, .cons a r => by
    rw [List.all_cons, Bool.and_eq_true] at h
    exact .cons (a.scal h.1) (RepAll.scal h.2 r)
theorem keepS_val {x : Option SV} {d : D} (h : keepS x = some (.val d)) : x = some (.val d) ∧ scalD d = true := by
  cases x with
  | none => cases h
  | some y =>
    cases y with
    | val e =>
      unfold keepS at h
      dsimp only at h
      split at h
      · rename_i q; cases h; exact ⟨rfl, q⟩
      · cases h
    | own e =>
      unfold keepS at h
      cases e <;> dsimp only at h <;> try cases h
      split at h <;> cases h
theorem keepS_own {x : Option SV} {d : D} (h : keepS x = some (.own d)) : ∃ ds, d = .list ds ∧ x = some (.own (.list ds)) ∧ ds.all scalD = true := by
  cases x with
  | none => cases h
  | some y =>
    cases y with
    | val e =>
      unfold keepS at h
      dsimp only at h
      split at h <;> cases h
    | own e =>
      unfold keepS at h
      cases e <;> dsimp only at h <;> try cases h
      split at h
      · rename_i ds q; cases h; exact ⟨ds, rfl, rfl, q⟩
      · cases h
theorem backE_get {c i : Nat} {env env' : En} {x : SV} (hl : env'.length = env.length) (h : (backE c env env')[i]? = some (some x)) : (i < c ∧ env[i]? = some (some x)) ∨ (c ≤ i ∧ ∃ y, env'[i]? = some y ∧ keepS y = some x) := by
  unfold backE at h
  by_cases hi : i < (env.take c).length
  · rw [List.getElem?_append_left hi] at h
    rw [List.length_take] at hi
    rw [List.getElem?_take_of_lt (by omega)] at h
    exact .inl ⟨by omega, h⟩
  · rw [List.getElem?_append_right (by omega), List.getElem?_map, List.getElem?_drop] at h
    obtain ⟨y, h1, h2⟩ := Option.map_eq_some_iff.mp h
    have hlt := (List.getElem?_eq_some_iff.mp h1).1
    rw [List.length_take] at hi h1 hlt
    have hc : c ≤ env.length := by omega
    rw [Nat.min_eq_left hc] at h1 hi hlt
    have e : c + (i - c) = i := by omega
    rw [e] at h1
    exact .inr ⟨by omega, y, h1, h2⟩
theorem pin_get {c i : Nat} {σ σ' : St} (h : σ'.take c = σ.take c) (hi : i < c) : σ'[i]? = σ[i]? := by
  have : (σ'.take c)[i]? = (σ.take c)[i]? := by rw [h]
  rw [List.getElem?_take_of_lt hi, List.getElem?_take_of_lt hi] at this
  exact this
/-- behind a lent block -/
theorem SOk.back {F' H' : Hp} {σ' : St} {env' : En} {c : Nat} (S : SOk K b F H σ env) (S' : SOk K (lendB F H σ env) F' H' σ' env') (hl : σ'.length = σ.length) (hc : σ'.take c = σ.take c) (h0 : 0 < c) : SOk K b F H' σ' (backE c env env') := by
  have kp : ∀ a o, H a = some o → H' a = some o := fun a o e => S'.keep a o e fun z => z
  have hle : env'.length = env.length := by rw [← S'.len, hl, S.len]
  have lF : Le F F' := lendF_le.trans S'.le
  have own2 : ∀ {i : Nat} {d : D}, (backE c env env')[i]? = some (some (.own d)) → ∃ p, σ'[i]? = some (some (.ref p)) ∧ OwnAt K F H' p d ∧ F p = none ∧ (b.B p = none ∨ b.mu p) ∧ ((i < c ∧ env[i]? = some (some (.own d)) ∧ σ[i]? = some (some (.ref p)) ∧ ∃ o, H p = some o) ∨ (c ≤ i ∧ env'[i]? = some (some (.own d)) ∧ H p = none)) := by
    intro i d e
    rcases backE_get hle e with ⟨hi, h⟩ | ⟨hi, y, h, hk⟩
    · obtain ⟨p, h1, h2, h3, h4⟩ := S.own i d h
      obtain ⟨o, ho⟩ := h2.some
      exact ⟨p, (pin_get hc hi).trans h1, h2.heap ((kp p o ho).trans ho.symm), h3, h4, .inl ⟨hi, h, h1, o, ho⟩⟩
    · obtain ⟨ds, rfl, rfl, hs⟩ := keepS_own hk
      obtain ⟨p, h1, ⟨vs, g1, g2⟩, h3, h4⟩ := S'.own i _ h
      have hn : H p = none := by
        rcases h4 with z | z
        · exact z
        · exact z.elim
      refine ⟨p, h1, ⟨vs, g1, g2.scal hs⟩, ?_, .inl (S.fB hn), .inr ⟨hi, h, hn⟩⟩
      cases e : F p with
      | none => rfl
      | some u => have := lF p u e; rw [h3] at this; cases this
  refine ⟨fun a u e => S'.sub a u (lF a u e), fun a o e m => kp a o (S.keep a o e m), S.newF, S.le, ?_, ?_, ?_, ?_, ?_, ?_, S.tab⟩
  · rw [hl, S.len]
    unfold backE
    rw [List.length_append, List.length_take, List.length_map, List.length_drop, hle]
    omega
  · intro i d e
    rcases backE_get hle e with ⟨hi, h⟩ | ⟨hi, y, h, hk⟩
    · obtain ⟨v, h1, h2⟩ := S.val i d h
      exact ⟨v, (pin_get hc hi).trans h1, h2⟩
    · obtain ⟨rfl, hs⟩ := keepS_val hk
      obtain ⟨v, h1, h2⟩ := S'.val i d h
      exact ⟨v, h1, h2.scal hs⟩
  · intro i d e
    obtain ⟨p, h1, h2, h3, h4, _⟩ := own2 e
    exact ⟨p, h1, h2, h3, h4⟩
  · intro i j p d e h1 h2 h3 h4
    obtain ⟨p1, g1, _, _, _, g5⟩ := own2 h1
    obtain ⟨p2, k1, _, _, _, k5⟩ := own2 h2
    rw [h3] at g1; cases g1
    rw [h4] at k1; cases k1
    rcases g5 with ⟨a1, a2, a3, o, a4⟩ | ⟨a1, a2, a3⟩
    · rcases k5 with ⟨c1, c2, c3, o', c4⟩ | ⟨c1, c2, c3⟩
      · exact S.inj i j p d e a2 c2 a3 c3
      · rw [c3] at a4; cases a4
    · rcases k5 with ⟨c1, c2, c3, o', c4⟩ | ⟨c1, c2, c3⟩
      · rw [a3] at c4; cases c4
      · exact S'.inj i j p d e a2 c2 h3 h4
  · intro p e
    obtain ⟨g1, d, g2⟩ := S.io p e
    refine ⟨(pin_get hc h0).trans g1, d, ?_⟩
    have hl0 := (List.getElem?_eq_some_iff.mp g2).1
    unfold backE
    rw [List.getElem?_append_left (by rw [List.length_take]; omega), List.getElem?_take_of_lt h0]
    exact g2
  · intro a m
    obtain ⟨o, e⟩ := S.iom a m
    exact ⟨o, kp a o e⟩
end
def bLend (f : BF) : BF := fun env => (f (lendE env)).map fun r => (r.1, env)
/-- the same for a value that is plain -/
def eLend (f : EF) : EF := fun env => (f (lendE env)).bind fun r => if scalD r.1 = true then some (r.1, env) else none
section
variable {X : Cx} {e : Expr} {t : BF} {f : EF}
end
end Z

/-! A block over what is lent: its outer names stay as they are. -/
namespace Z
open PySem PySem.Spec PyProof.Rows L2

/-- an end that may count on C -/
def impE (C : St → Prop) (D : Ends) : Ends := { nx := fun σ H => C σ → D.nx σ H, rt := D.rt, bk := fun σ H => C σ → D.bk σ H, ct := fun σ H => C σ → D.ct σ H }
def zSp (K : Frag) (b : Bs) (C : St → Prop) (f : SF) : TS := fun D σ H => C σ ∧ zS K b f (impE C D) σ H
def Pin (c : Nat) (pv : St) : St → Prop := fun σ => σ.take c = pv
structure ZSp (X : Cx) (c : Nat) (st : Stmt) (f : SF) : Prop where
  ps : ∀ b pv, PS X st (zSp X.K b (Pin c pv) f)
structure ZSps (X : Cx) (c : Nat) (st : List Stmt) (f : SF) : Prop where
  ps : ∀ b pv, PSs X st (zSp X.K b (Pin c pv) f)
section
variable {X : Cx} {c : Nat} {st : Stmt} {rest sts sts2 : List Stmt} {f g : SF} {e : Expr} {f1 : EF} {t1' : BF} {g1 : AF} {pos : Pos}
variable {x y z : Str} {p1 p2 p3 : Pos}
end
/-- a statement over what is lent: behind it the names ahead of c are as they were, of the others plain data stays; it may return plain data -/
def sLend (c : Nat) (f : SF) : SF := fun env => (f (lendE env)).bind fun o => match o with
  | .nx e' => if e'.length = env.length then some (.nx (backE c env e')) else none
  | .rt (.val d) e' => if scalD d = true then some (.rt (.val d) env) else none
  | _ => none
end Z

/-! Results as they come; len(set(xs)). -/
namespace Z
open PySem PySem.Spec PyProof.Rows L2

/-! ### a call's result as it comes: data, or a new thing -/
abbrev RFn := En → Option (SV × En)
def zR (K : Frag) (b : Bs) (f : RFn) : TE := fun σ H Q => ∃ F env r env', SOk K b F H σ env ∧ f env = some (r, env') ∧ ∀ v F' H', Le F F' → SOk K b F' H' σ env' → HoldsR K b F' H' σ env' v r → Q v H'
structure ZR (X : Cx) (e : Expr) (f : RFn) : Prop where
  pe : ∀ b, PE X e (zR X.K b f)
def rCall (m : List D → Option SV) (f : AF) : RFn := fun env => (f env).bind fun a => (m a.1).map fun r => (r, a.2)
section
variable {X : Cx} {CX : CXT} {k j : Nat} {f : Addr} {fd : FuncData} {ps : List Str} {n : Nat} {m : List D → Option SV} {x : Str} {p pos : Pos} {e : Expr} {es : List Expr} {g1 : AF}
variable {r1 : RFn} {m1 : MF}
def mAny (f : RFn) (g : MF) : MF := fun env => (f env).bind fun a => (g a.2).map fun c => (a.1 :: c.1, c.2)
/-- x = f(..), as it comes -/
def sSetR (i : Nat) (f : RFn) : SF := fun env => (f env).map fun a => .nx (a.2.set i (some a.1))
end

/-! ### len(set(xs)), xs a list of ints -/
section
variable {X : Cx}
/-- how many different numbers there are -/
def nDif (ns : List Int) : Nat := (firstMet (fun i => ns.getD i 0) ns.length).length
def rSetI (K : Frag) : List V → Hp → VK → Prop := fun vs H Q => ∃ (p : Addr) (ns : List Int), vs = [V.ref p] ∧ SqL K H p (ns.map V.int) ∧ ns.length + 1 < scanBound ∧ ∀ l S, H l = none → Q (.ref l) (upd H l (.set S (nDif ns)))
def rLenS : List V → Hp → VK → Prop := fun vs H Q => ∃ (p : Addr) (S : Int → Bool) (n : Nat), vs = [V.ref p] ∧ H p = some (.set S n) ∧ Q (.int n) H
def eLenSet (f : EF) : EF := fun env => (f env).bind fun a => match a.1 with
  | .list ds => (intsL ds).bind fun ns => if ns.length + 1 < scanBound then some (.int (nDif ns), a.2) else none
  | _ => none
end
end Z

/-! What holds behind lending, results as they come, len(set(..)). -/
namespace Z
open PySem L2 PyProof.Rows
structure Wr (f : RFn) (env : En) (R : SV → En → Prop) : Prop where
  ex : ∃ d e, f env = some (d, e) ∧ R d e
structure CallS (m : List D → Option SV) (ds : List D) (e : En) (R : SV → En → Prop) : Prop where
  ex : ∃ r, m ds = some r ∧ R r e
section
variable {env : En} {a : AF} {m : List D → Option SV} {t : BF} {f : EF} {g : SF} {mf : MF} {r : RFn} {c i : Nat}
theorem wr_call {R : SV → En → Prop} (h : Wa a env fun ds e => CallS m ds e R) : Wr (rCall m a) env R := by
  obtain ⟨ds, e, h1, d, h2, h3⟩ := h
  exact ⟨_, e, by unfold rCall; rw [h1]; simp only [Option.bind_some]; rw [h2]; rfl, h3⟩
theorem wm_any {R : List SV → En → Prop} (h : Wr r env fun d e => Wm mf e fun ds e2 => R (d :: ds) e2) : Wm (mAny r mf) env R := by
  obtain ⟨d, e, h1, ds, e2, h2, h3⟩ := h
  exact ⟨_, e2, by unfold mAny; rw [h1]; simp only [Option.bind_some]; rw [h2]; rfl, h3⟩
theorem ws_setR {R : Out → Prop} (h : Wr r env fun d e => R (.nx (e.set i (some d)))) : Ws (sSetR i r) env R := by
  obtain ⟨d, e, h1, h2⟩ := h
  exact ⟨_, by unfold sSetR; rw [h1]; rfl, h2⟩
theorem wb_lend {R : Bool → En → Prop} (h : Wb t (lendE env) fun k _ => R k env) : Wb (bLend t) env R := by
  obtain ⟨k, e, h1, h2⟩ := h
  exact ⟨k, env, by unfold bLend; rw [h1]; rfl, h2⟩
/-- what a lent block's end must be -/
def LendEnd (c : Nat) (env : En) (R : Out → Prop) : Out → Prop
  | .nx e' => e'.length = env.length ∧ R (.nx (backE c env e'))
  | .rt (.val d) _ => scalD d = true ∧ R (.rt (.val d) env)
  | _ => False
theorem ws_lend {R : Out → Prop} (h : Ws g (lendE env) (LendEnd c env R)) : Ws (sLend c g) env R := by
  obtain ⟨o, h1, h2⟩ := h
  cases o with
  | nx e => exact ⟨_, by unfold sLend; rw [h1]; simp only [Option.bind_some]; rw [if_pos h2.1], h2.2⟩
  | rt d e =>
    cases d with
    | val d => exact ⟨_, by unfold sLend; rw [h1]; simp only [Option.bind_some]; rw [if_pos h2.1], h2.2⟩
    | own d => exact h2.elim
  | bk e => exact h2.elim
  | ct e => exact h2.elim
theorem intsL_ints : ∀ (ns : List Int), intsL (ns.map PyData.int) = some ns
  | [] => rfl
  | n :: ns => by
    show (intsL (ns.map PyData.int)).map (n :: ·) = _
    rw [intsL_ints ns]; rfl
theorem we_lenSet {R : D → En → Prop} (h : We f env fun d e => ∃ ns : List Int, d = .list (ns.map PyData.int) ∧ ns.length ≤ 4000 ∧ R (.int (nDif ns)) e) : We (eLenSet f) env R := by
  obtain ⟨d, e, h1, ns, rfl, h2, h3⟩ := h
  exact ⟨_, e, by unfold eLenSet; rw [h1]; simp only [Option.bind_some]; rw [intsL_ints]; simp only [Option.bind_some]; rw [if_pos (show ns.length + 1 < scanBound from by have : scanBound = 4096 := rfl; omega)], h3⟩
end
/-! how many different numbers -/
theorem gNe_bool {a b : Bool} : gNe (.bool a) (.bool b) = some (.bool (!decide (a = b))) := by cases a <;> cases b <;> rfl
theorem gEq_bool {a b : Bool} : gEq (.bool a) (.bool b) = some (.bool (decide (a = b))) := by cases a <;> cases b <;> rfl
end Z

/-! Lists compared, min of lists. -/
namespace Z
open PySem PySem.Spec PyProof.Rows
open PySem.SeqAt
open PySem.AutoSeq1 (wpAny_loadPart')
open PySem.MeetsSeq PySem.MeetsSeq2 PySem.MeetsSeq3
def LtAt (A : Around) (s : Shared) (y x : Value) (b : Bool) : Prop := ∀ (prog : Program) (w : World) (E : Value → Shared → Prop) (Q : Value → Shared → Prop), Q (.bool b) s → wpAny (model prog w) A (richCompare .Lt y x) Q E s
/-- lists compared by their places -/
def lexAt (n m : Nat) (e lt : Nat → Bool) : Nat → Nat → Bool
  | 0, _ => decide (n < m)
  | f + 1, i => if i < n ∧ i < m then (if e i = true then lexAt n m e lt f (i + 1) else lt i) else decide (n < m)
structure LtIn (s : Shared) (items items2 : Array Value) (e lt : Nat → Bool) (u : Nat) : Prop where
  eq : ∀ (A' : Around) (j : Nat) (h1 : j < items.size) (h2 : j < items2.size), A'.units ≤ u → EqAt A' s items[j] items2[j] (e j)
  lt : ∀ (A' : Around) (j : Nat) (h1 : j < items.size) (h2 : j < items2.size), A'.units ≤ u → e j = false → LtAt A' s items[j] items2[j] (lt j)
end Z

/-! min of a list whose items can be compared while the heap stays good. -/
namespace Z
open PySem PySem.Spec PyProof.Rows
open PySem.SeqAt
open PySem.AutoSeq1 (wpAny_loadPart')
end Z

/-! Lists of pairs of ints: compared, the least. -/
namespace Z
open PySem PySem.Spec PyProof.Rows L2
open PySem.SeqAt
abbrev Pr := Int × Int
def ltPB (p q : Pr) : Bool := decide (p.1 < q.1 ∨ (p.1 = q.1 ∧ p.2 < q.2))
def ltRB : List Pr → List Pr → Bool
  | [], [] => false
  | [], _ :: _ => true
  | _ :: _, [] => false
  | p :: R, q :: T => if p = q then ltRB R T else ltPB p q
def prD (p : Pr) : D := .tuple [.int p.1, .int p.2]
def prOf : D → Option Pr
  | .tuple [.int a, .int b] => some (a, b)
  | _ => none
def prsOf : List D → Option (List Pr)
  | [] => some []
  | d :: ds => (prOf d).bind fun p => (prsOf ds).map (p :: ·)
def rowD (R : List Pr) : D := .list (R.map prD)
section
variable {prog : Program} {w : World} {A : Around} {E : Value → Shared → Prop} {s : Shared}
mutual
theorem reads_mono {h h' : Heap} (k : ∀ b o, h.get? b = some o → h'.get? b = some o) : ∀ {v : Value} {d : PyData} {as : List Addr}, Reads h v d as → Reads h' v d as
  | _, _, _, .none => .none
  | _, _, _, .bool b => .bool b
  | _, _, _, .int i t => .int i t
  | _, _, _, .str x t => .str x t
  | _, _, _, .list a b c d => .list (k _ _ a) b c (readsAll_mono k d)
  | _, _, _, .tuple a b c d => .tuple (k _ _ a) b c (readsAll_mono k d)
  | _, _, _, .dict a b c d e => .dict (k _ _ a) b c (readsAll_mono k d) (readsAll_mono k e)
theorem readsAll_mono {h h' : Heap} (k : ∀ b o, h.get? b = some o → h'.get? b = some o) : ∀ {v : List Value} {d : List PyData} {as : List Addr}, ReadsAll h v d as → ReadsAll h' v d as
  | _, _, _, .nil => .nil
  | _, _, _, .cons a b => .cons (reads_mono k a) (readsAll_mono k b)
end
end
end Z

/-! min of a list of lists of pairs, as a rule. -/
namespace Z
open PySem PySem.Spec PyProof.Rows L2
/-- the place of the first least -/
def leastAt (rows : List (List Pr)) : Nat := argBest (fun i j => ltRB (rows.getD i []) (rows.getD j [])) (rows.length - 1)
def rMinR (K : Frag) : List V → Hp → VK → Prop := fun vs H Q => ∃ (a : Addr) (xs : List V) (rows : List (List Pr)), vs = [V.ref a] ∧ SqL K H a xs ∧ DpAll K H xs (rows.map rowD) ∧ 0 < rows.length ∧ ∀ v, xs[leastAt rows]? = some v → Q v H
section
variable {X : Cx}
def rowsOf : List D → Option (List (List Pr))
  | [] => some []
  | .list ds :: rs => (prsOf ds).bind fun R => (rowsOf rs).map (R :: ·)
  | _ => none
def gMinR : List D → Option D
  | [.list ds] => (rowsOf ds).bind fun rows => ds[leastAt rows]?
  | _ => none
end
end Z

/-! sorted(set(xs)), xs a list of tuples of ints. -/
namespace Z
open PySem PySem.Spec PyProof.Rows L2

section
variable {prog : Program} {w : World} {K : Type} [DecidableEq K] {knd : PySem.KeyKind prog w K} {A : Around} {E : Value → Shared → Prop} {s : Shared}
/-- the items stand: tuples -/
def TupsIn (knd : PySem.KeyKind prog w K) (h : Heap) (zs : List (List K × Addr)) : Prop := ∀ z ∈ zs, IsTupleKey knd h z.1 z.2 ∧ PlainTup h z.2
end
end Z

/-! set(xs), xs a list of tuples of ints. -/
namespace Z
open PySem PySem.Spec PyProof.Rows L2
open PySem.AutoSeq1 (wpAny_loadPart')
section
variable {prog : Program} {w : World} {K : Type} [DecidableEq K] {knd : PySem.KeyKind prog w K} {A : Around} {E : Value → Shared → Prop} {s : Shared}
end
end Z

/-! sorted(set(xs)), list(range(..)), as rules. -/
namespace Z
open PySem PySem.Spec PyProof.Rows L2 PySem.W
section
variable {X : Cx}
def rSetT (K : Frag) (prog : Program) (w : World) : List V → Hp → VK → Prop := fun vs H Q => ∃ (p : Addr) (zs : List (List Int × Addr)), vs = [V.ref p] ∧ SqL K H p (zs.map fun z => V.ref z.2) ∧ (∀ z ∈ zs, H z.2 = some (.tup (z.1.map V.int))) ∧ (∀ l : List (List Int), l.Nodup → (∀ x ∈ l, x ∈ zs.map (·.1)) → l.length ≤ 62) ∧
  ∀ (l : Addr) (ys : List (List Int × Addr)), H l = none → (∀ y ∈ ys, y ∈ zs) → (ys.map (·.1)).Nodup → (∀ k, k ∈ ys.map (·.1) ↔ k ∈ zs.map (·.1)) → Q (.ref l) (upd H l (SetT prog w l (ys.map kz)))
def eSortSet (f : EF) : EF := fun env => (f env).bind fun a => match a.1 with
  | .list ds => if chkS (ds.map fun d => [d]) = true then some (finS (ds.map fun d => [d]), a.2) else none
  | _ => none
end
end Z

/-! list(range(..)). -/
namespace Z
open PySem PySem.Spec PyProof.Rows L2 PySem.W
section
variable {X : Cx}
def rRng1 : List V → Hp → VK → Prop := fun vs H Q => ∃ j : Int, vs = [.int j] ∧ (-(2 ^ 62) ≤ j ∧ j < 2 ^ 62) ∧ ∀ l, H l = none → Q (.ref l) (upd H l (.rng 0 j))
def rRng2 : List V → Hp → VK → Prop := fun vs H Q => ∃ i j : Int, vs = [.int i, .int j] ∧ (-(2 ^ 62) ≤ i ∧ i < 2 ^ 62 ∧ -(2 ^ 62) ≤ j ∧ j < 2 ^ 62) ∧ ∀ l, H l = none → Q (.ref l) (upd H l (.rng i j))
def rListR : List V → Hp → VK → Prop := fun vs H Q => ∃ (p : Addr) (i j : Int), vs = [.ref p] ∧ H p = some (.rng i j) ∧ (-(2 ^ 62) ≤ i ∧ i < 2 ^ 62 ∧ -(2 ^ 62) ≤ j ∧ j < 2 ^ 62) ∧ j - i ≤ 1000000 ∧ ∀ l, H l = none → Q (.ref l) (upd H l (.lst ((List.range (j - i).toNat).map fun k => V.int (i + (k : Nat)))))
def eLR1 (g : AF) : EF := fun env => (g env).bind fun a => match a.1 with
  | [.int j] => if (-(2 ^ 62) ≤ j ∧ j < 2 ^ 62) ∧ j ≤ 1000000 then some (.list (rngD 0 j.toNat), a.2) else none
  | _ => none
def eLR2 (g : AF) : EF := fun env => (g env).bind fun a => match a.1 with
  | [.int i, .int j] => if (-(2 ^ 62) ≤ i ∧ i < 2 ^ 62 ∧ -(2 ^ 62) ≤ j ∧ j < 2 ^ 62) ∧ j - i ≤ 1000000 then some (.list (rngD i (j - i).toNat), a.2) else none
  | _ => none
variable {e e2 : Expr} {g1 : AF} {p1 p2 pos pos2 : Pos}
end
/-! what holds behind -/
section
variable {env : En} {R : D → En → Prop} {f : EF} {g : AF}
end
end Z

/-! A dict that any expression tells, walked: locked behind its reading, unlocked at the end. -/
namespace Z
open PySem PySem.Spec PyProof.Rows L2
def NoFrz (X : Cx) (d : Addr) : Prop := ∀ o' u', X.H_0 d ≠ some (.frz o' u')
def tPost (X : Cx) (te : TE) : TE := fun σ H Q => te σ H fun v H1 => Q v H1 ∨ ∃ p u, v = .ref p ∧ H1 p = some u ∧ Mut (some u) ∧ ∀ od, NoFrz X p → Q v (upd H1 p (.frz od u))
def endU (X : Cx) (P : Hp → Prop) : Hp → Prop := fun H' => P H' ∨ ∃ d od u, H' d = some (.frz od u) ∧ Mut (some u) ∧ NoFrz X d ∧ P (upd H' d u)
def endsU (X : Cx) (D : Ends) : Ends := ⟨fun σ => endU X (D.nx σ), fun v => endU X (D.rt v), fun σ => endU X (D.bk σ), fun σ => endU X (D.ct σ)⟩
section
variable {X : Cx} {e : Expr} {st : Stmt}
end
/-- the keys of a dict that an expression tells -/
def iKE (f : EF) : AF := fun env => (f env).bind fun a => match a.1 with
  | .dict es => some (es.map (·.1), a.2)
  | _ => none
def zSx (K : Frag) (f : SF) : TS := fun D σ H => ∃ b, zS K b f D σ H
section
variable {X : Cx} {f : SF}
end
section
variable {X : Cx} {elt tg iter : Expr} {ifs : List Expr} {scope : Scope} {own : List (Str × Nat)} {pos : Pos} {is : List Nat} {ft : D → Option (List D)} {tt : BF} {fe fi : EF}
end
/-! what holds behind -/
end Z

/-! dict(xs), xs a list of pairs (tuple, value). -/
namespace Z
open PySem PySem.Spec PyProof.Rows L2 PySem.W
def mergedH : List (List Key × Addr × Value) → List (List Key × Addr × Value) → List (List Key × Addr × Value)
  | acc, [] => acc
  | acc, q :: r => mergedH (storedH acc q.1 q.2.1 q.2.2) r
def mergeT : List (List Key × V) → List (List Key × V) → List (List Key × V)
  | acc, [] => acc
  | acc, q :: r => mergeT (putK acc q.1 q.2) r
def mergeE : List (D × D) → List (List Key × D) → List (D × D)
  | acc, [] => acc
  | acc, q :: r => mergeE (putE acc q.1 q.2) r
section
variable {prog : Program} {w : World} {A : Around} {E : Value → Shared → Prop} {s : Shared}
end
section
variable {X : Cx}
def rDictT (K : Frag) : List V → Hp → VK → Prop := fun xs H Q => ∃ (a : Addr) (ps : List Addr) (kvs : List (List Key × V)), xs = [.ref a] ∧ SqL K H a (ps.map V.ref) ∧ Paired (fun p kv => ∃ b, H p = some (.tup [.ref b, kv.2]) ∧ H b = some (.tup (kv.1.map kV))) ps kvs ∧
    ∀ p, H p = none → Q (.ref p) (upd H p (.dT (mergeT [] kvs)))
/-! upon data -/
def pairOf : D → Option (List Key × D)
  | .tuple [a, b] => (keyD a).map fun k => (k, b)
  | _ => none
def pairsOf : List D → Option (List (List Key × D))
  | [] => some []
  | d :: ds => (pairOf d).bind fun p => (pairsOf ds).map (p :: ·)
def eDictT (f : AF) : EF := fun env => (f env).bind fun a => match a.1 with
  | [.list ds] => (pairsOf ds).map fun ps => (.dict (mergeE [] ps), a.2)
  | _ => none
end
end Z

/-! Lists of pairs of ints compared by >. -/
namespace Z
open PySem PySem.Spec PyProof.Rows
open PySem.SeqAt HT
open PySem.AutoSeq1 (wpAny_loadPart')
open PySem.MeetsSeq PySem.MeetsSeq2 PySem.MeetsSeq3
def GtAt (A : Around) (s : Shared) (y x : Value) (b : Bool) : Prop := ∀ (prog : Program) (w : World) (E : Value → Shared → Prop) (Q : Value → Shared → Prop), Q (.bool b) s → wpAny (model prog w) A (richCompare .Gt y x) Q E s
/-- lists compared by their places -/
def lexAtG (n m : Nat) (e lt : Nat → Bool) : Nat → Nat → Bool
  | 0, _ => decide (m < n)
  | f + 1, i => if i < n ∧ i < m then (if e i = true then lexAtG n m e lt f (i + 1) else lt i) else decide (m < n)
structure GtIn (s : Shared) (items items2 : Array Value) (e lt : Nat → Bool) (u : Nat) : Prop where
  eq : ∀ (A' : Around) (j : Nat) (h1 : j < items.size) (h2 : j < items2.size), A'.units ≤ u → EqAt A' s items[j] items2[j] (e j)
  lt : ∀ (A' : Around) (j : Nat) (h1 : j < items.size) (h2 : j < items2.size), A'.units ≤ u → e j = false → GtAt A' s items[j] items2[j] (lt j)
def lexGt : List Int → List Int → Bool
  | [], [] => false
  | [], _ :: _ => false
  | _ :: _, [] => true
  | x :: xs, y :: ys => if x = y then lexGt xs ys else decide (x > y)
section
variable {prog : Program} {w : World} {A : Around} {E : Value → Shared → Prop} {s : Shared}
def gtPB (p q : Pr) : Bool := decide (p.1 > q.1 ∨ (p.1 = q.1 ∧ p.2 > q.2))
def gtRB : List Pr → List Pr → Bool
  | [], [] => false
  | [], _ :: _ => false
  | _ :: _, [] => true
  | p :: R, q :: T => if p = q then gtRB R T else gtPB p q
end
end Z

/-! -1, tuples joined, cut and compared, lists by >, range downward, sum. -/
namespace Z
open PySem PySem.Spec PyProof.Rows L2 PySem.W
section
variable {X : Cx} {a c e e2 e3 : Expr} {f1 f2 : EF} {g1 : AF} {p p2 pos : Pos} {tg : Expr} {lo hi : Option Expr} {ol oh : OF} {K : Frag}
def gCatT : D → D → Option D
  | .tuple xs, .tuple ys => if xs ≠ [] ∧ ys ≠ [] ∧ xs.length + ys.length ≤ sizeLine then some (.tuple (xs ++ ys)) else none
  | _, _ => none
def eSlT (f : EF) (g h : OF) : EF := fun env => (f env).bind fun a => (g a.2).bind fun l => (h l.2).bind fun u => match a.1 with
  | .tuple ds => if HT.sIx ds.length 0 l.1 = 0 ∧ HT.sIx ds.length ds.length u.1 = ds.length then none else some (.tuple (cutD ds l.1 u.1), u.2)
  | _ => none
/-! pairs by <, rows by > -/
def gLtP : D → D → Option D := fun x y => (prOf x).bind fun p => (prOf y).map fun q => .bool (ltPB p q)
def rGtR (K : Frag) : R2 := fun x y H Q => ∃ R T, Dp K H x (rowD R) ∧ Dp K H y (rowD T) ∧ Q (.bl (gtRB R T)) H
def gGtR : D → D → Option D
  | .list xs, .list ys => (prsOf xs).bind fun R => (prsOf ys).map fun T => .bool (ltRB T R)
  | _, _ => none
/-! sum -/
def gSum : List D → Option D
  | [.list ds] => (intsL ds).map fun ns => .int ns.sum
  | _ => none
theorem RepAll.intsL {F : Hp} : ∀ {vs : List V} {ds : List D} {ns : List Int}, RepAll K F vs ds → intsL ds = some ns → vs = ns.map V.int
  | _, _, _, .nil, h => by cases h; rfl
  | _, _, _, .cons (d := d) r t, h => by
    cases d with
    | int i =>
      cases r
      obtain ⟨ns, h1, h2⟩ := Option.map_eq_some_iff.mp h
      subst h2
      rw [RepAll.intsL t h1]
      rfl
    | _ => cases h
/-! range(i, j, -1) -/
def dnD (lo : Int) (n : Nat) : List D := (List.range n).map fun i => .int (lo - (i : Nat))
def iR3 (f : AF) : AF := fun env => (f env).bind fun a => match a.1 with
  | [.int i, .int j, .int k] => if -(2 ^ 62) ≤ i ∧ i < 2 ^ 62 ∧ -(2 ^ 62) ≤ j ∧ j < 2 ^ 62 ∧ k = -1 then some (dnD i (i - j).toNat, a.2) else none
  | _ => none
end
end Z
namespace Z
open PySem L2
end Z

/-! what holds behind the rules of Z22 -/
namespace Z
open PySem L2
section
variable {env : En} {R : D → En → Prop} {f : EF} {g : AF} {i : Nat}
end
end Z

/-! A lambda is made: a function object and its code object, both of which stand; the table of the def around it grows. -/
namespace Z
open PySem PySem.Spec PyProof.Rows L2 PySem.W
/-- the code object at c is K's own, its table lies at P -/
def CodeK (K : Frag) (c P : Addr) : Prop := ∃ o, K.lookup c = some o ∧ ∀ h : Heap, h.get? c = some o → CodeHd h c P
/-- the builtins of the module -/
def Blt (mg : Str → Option Value) (base : Heap) : Prop := ∃ bm ob, mg "__builtins__" = some (.ref bm) ∧ bm ≠ builtinsNs ∧ base.get? bm = some ob ∧ ob.cls = .type "module" ∧ ob.dict = some builtinsNs ∧ ob.data = .plain
def lamObj (q : Str) (params : Arguments) (body : Expr) (scope : Scope) (clos : List (Str × Addr)) (pm : Value) (c' : Addr) (ct : Value) : Obj :=
  { cls := .type "function", data := .func (kla_fn "<lambda>" q params body scope clos pm (.ref c') ct) }
/-- a code object that tells q -/
def IsRec (oc : Obj) (q : Str) : Prop := ∃ vs t, oc.data = .fields vs ∧ vs[1]? = some (.str q t)
def tLam (P : Addr) (q : Str) (params : Arguments) (body : Expr) (scope : Scope) (clos : List (Str × Addr)) : TE := fun σ H Q => H P = some (.tab q) ∧
  ∀ (f c' : Addr) (oc : Obj) (pm ct : Value), H f = none → (H c' = none ∨ H c' = some (.frz oc (.own c'))) → f ≠ c' → IsRec oc q →
    Q (.ref f) (upd (upd H c' (.frz oc (.own c'))) f (.frz (lamObj q params body scope clos pm c' ct) (.own f)))
section
variable {X : Cx} {pins : List (Addr × Obj)} {σ : St} {H : Hp} {s : Shared}
end
end Z

/-! A lambda that keeps no names is called. -/
namespace Z
open PySem PySem.Spec PyProof.Rows L2 PySem.W
/-- the function object of this lambda stands at f -/
def LamAt (q : Str) (params : Arguments) (body : Expr) (scope : Scope) (H : Hp) (f : Addr) : Prop :=
  ∃ c' oc pm ct, H f = some (.frz (lamObj q params body scope [] pm c' ct) (.own f)) ∧ H c' = some (.frz oc (.own c')) ∧ IsRec oc q
section
variable {X : Cx} {pins : List (Addr × Obj)} {σ : St} {H : Hp} {s : Shared} {k : Nat} {N ps : List Str} {q : Str} {params : Arguments} {body : Expr} {scope : Scope} {f : Addr}
end
end Z

/-! Bodies of defs that get a function: its name keeps what it holds. -/
namespace Z
open PySem PySem.Spec PyProof.Rows L2 PySem.W
/-- the i-th name holds v -/
def Hold (i : Nat) (v : V) : St → Prop := fun σ => σ[i]? = some (some v)
theorem hold_set {i j : Nat} {v : V} {x : Option V} {σ : St} (h : Hold i v σ) (ne : j ≠ i) : Hold i v (σ.set j x) := by
  unfold Hold at *
  rw [List.getElem?_set_ne ne]
  exact h
structure ZSC (X : Cx) (n : Nat) (v : V) (st : Stmt) (f : SF) : Prop where
  ps : ∀ b, PS X st (zSp X.K b (Hold n v) f)
structure ZSCs (X : Cx) (n : Nat) (v : V) (st : List Stmt) (f : SF) : Prop where
  ps : ∀ b, PSs X st (zSp X.K b (Hold n v) f)
structure ZEC (X : Cx) (n : Nat) (v : V) (e : Expr) (f : EF) : Prop where
  pe : ∀ b, PE X e (fun σ H Q => Hold n v σ ∧ zE X.K b f σ H Q)
structure ZTC (X : Cx) (n : Nat) (v : V) (e : Expr) (f : BF) : Prop where
  pt : ∀ b, PT X e (fun σ H Q => Hold n v σ ∧ zT X.K b f σ H Q)
structure ZWC (X : Cx) (n : Nat) (v : V) (e : Expr) (f : BF) : Prop where
  pw : ∀ b, PW X e (fun σ H Q => Hold n v σ ∧ zT X.K b f σ H Q)
section
variable {X : Cx} {n : Nat} {v : V} {st : Stmt} {rest sts sts2 : List Stmt} {f g : SF} {e a c : Expr} {es : List Expr} {f1 f2 : EF} {t1 t2 : BF} {g1 : AF} {pos : Pos}
theorem ZEC.t (h : ZEC X n v e f1) (he : ∀ whole, isTrue e X.env whole = (do let v ← whole; standAt e.pos; holding [v] (truthy v)) := by intro _; rfl) : ZTC X n v e (bT f1) :=
  ⟨fun b => ptOf (pt_val (h.pe b) he) fun σ H Q ⟨hC, h⟩ => by
    obtain ⟨F, env, d, env', S, e, k⟩ := h
    unfold bT at e
    obtain ⟨⟨d1, e1⟩, h1, h⟩ := Option.bind_eq_some_iff.mp e
    refine ⟨hC, F, env, d1, e1, S, h1, fun v F1 H1 l1 S1 r => ?_⟩
    dsimp only at h
    split at h
    · cases h
      cases r
      exact ⟨_, rfl, k F1 H1 l1 S1⟩
    · cases h⟩
theorem ZWC.t (h : ZWC X n v e t1) : ZTC X n v e t1 := ⟨fun b => PW.pt (h.pw b)⟩
variable {x y z : Str} {p1 p2 p3 : Pos}
/-- whether a list that a name alone holds has items -/
def bTruB (i : Nat) : BF := fun env => match env[i]? with
  | some (some (.own (.list ds))) => some (!ds.isEmpty, env)
  | _ => none
end
end Z

/-! A def that gets a function: its promise, by what the function reckons; the call that hands it a lambda. -/
namespace Z
open PySem PySem.Spec PyProof.Rows L2 PySem.W
/-- what a lambda reckons -/
def runE (n N : Nat) (body : EF) (ds : List D) : Option SV := if ds.length = n then (body (args n N ds)).map fun a => .val a.1 else none
theorem LamAt.keep {q : Str} {params : Arguments} {body : Expr} {scope : Scope} {H H' : Hp} {f : Addr} (h : LamAt q params body scope H f) (k : ∀ a o u, H a = some (.frz o u) → H' a = some (.frz o u)) : LamAt q params body scope H' f := by
  obtain ⟨c', oc, pm, ct, h1, h2, h3⟩ := h
  exact ⟨c', oc, pm, ct, k _ _ _ h1, k _ _ _ h2, h3⟩
section
variable {X : Cx} {pins : List (Addr × Obj)} {σ : St} {H : Hp} {s : Shared} {k : Nat} {N ps : List Str} {q : Str} {params : Arguments} {body : Expr} {scope : Scope} {f : Addr} {n : Nat} {fb : EF}
/-- what the rule for a lambda's body wants -/
structure LamOk (X : Cx) (k : Nat) (N ps : List Str) (q : Str) (params : Arguments) (body : Expr) (scope : Scope) (n : Nat) (fb : EF) : Prop where
  sc : FnScope N ps scope
  hn : ps.length = n
  hNl : n ≤ N.length
  bind : ∀ (pm : Value) (c' : Addr) (ct : Value) (us : List Value), us.length = ps.length → bindArgs (kla_fn "<lambda>" q params body scope [] pm (.ref c') ct) ⟨us, []⟩ = pure (ps.zip us)
  body : ∀ (f : Addr) (cdv : Value) (A : Around) (outer : List Env) (s : Shared) (H : Hp), Room k (A.deeper (envOfC q scope s.heap.objs.size f cdv)) → ZE (cxOf CX0 X.prog X.w X.K X.mg X.base N q scope f cdv A outer s H E0).nox body fb
variable {i : Nat} {x : Str} {p pos : Pos} {e : Expr} {es : List Expr} {g1 : AF}
end
/-! ### the promise -/
def spL (K : Frag) (n : Nat) (lam : Hp → Addr → Prop) (m : List D → Option SV) : Sp := fun vs H Q E => ∃ ws fl, vs = ws ++ [.ref fl] ∧ lam H fl ∧ spP K n m ws H Q E
section
variable {P : Program} {w : World} {K : PySem.W.Frag} {mg : Str → Option Value} {base : Heap}
end
/-! ### f(e, lambda ..: ..) -/
section
variable {X : Cx} {CX : CXT} {k : Nat} {f : Addr} {fd : FuncData} {ps : List Str} {m : List D → Option SV} {x : Str} {p pos lpos : Pos} {e : Expr} {f1 : EF} {q : Str} {params : Arguments} {body : Expr} {scope : Scope} {c P : Addr}
end
end Z

/-! The head, with the tables of the defs in which lambdas stand. -/
namespace Z
open PySem PySem.Spec PyProof.Rows L2 PySem.W
open Classical in
/-- the script and the tables -/
noncomputable def headH (K : Frag) (sc : Option (Addr × Obj × HO)) : Hp := fun b => match sc with
  | some (a, o, u) => if b = a then some (.frz o u) else if h : ∃ q, TabK K b q then some (.tab h.choose) else none
  | none => if h : ∃ q, TabK K b q then some (.tab h.choose) else none
section
variable {K : Frag} {sc : Option (Addr × Obj × HO)} {b P : Addr} {q : Str}
/-- no two of the defs share a table -/
def TabU (K : Frag) : Prop := ∀ P q q', TabK K P q → TabK K P q' → q = q'
theorem headH_tab (hU : TabU K) (h : TabK K P q) (hn : ∀ x, sc = some x → P ≠ x.1) : headH K sc P = some (.tab q) := by
  have hx : ∃ q, TabK K P q := ⟨q, h⟩
  have hc : hx.choose = q := hU P _ _ hx.choose_spec h
  unfold headH
  cases sc with
  | none => dsimp only; rw [dif_pos hx, hc]
  | some x => dsimp only; rw [if_neg (hn x rfl), dif_pos hx, hc]
theorem headH_some {u : HO} (h : headH K sc b = some u) : (∃ x, sc = some x ∧ b = x.1 ∧ u = .frz x.2.1 x.2.2) ∨ ∃ q, u = .tab q ∧ TabK K b q := by
  unfold headH at h
  cases sc with
  | none =>
    dsimp only at h
    split at h
    · rename_i hx; cases h; exact .inr ⟨_, rfl, hx.choose_spec⟩
    · cases h
  | some x =>
    dsimp only at h
    split at h
    · rename_i hb; cases h; exact .inl ⟨x, rfl, hb, rfl⟩
    · split at h
      · rename_i hx; cases h; exact .inr ⟨_, rfl, hx.choose_spec⟩
      · cases h
end
theorem law_callT {P : Program} {w : World} {K : PySem.W.Frag} {mg mb : Str → Option Value} {CX : CXT} {k : Nat} {fa a : Addr} {fd : FuncData} {x : Str} {sp : Sp} {s₁ : Shared} {vs : List Value} {ns : List Int}
    (KX : K.In s₁.heap) (hns : s₁.heap.Ns mainGlobals mg) (hb : s₁.heap.Ns builtinsNs mb) (hbb : ∀ x : Str, x ≠ "__name__" → mb x = bootBuiltins x) (hlim : s₁.heap.NoLimit) (hblt : Blt mg s₁.heap) (hg : s₁.gens = #[])
    (hU : TabU K) (hT : ∀ Pt q, TabK K Pt q → s₁.heap.get? Pt = some (tabObj #[]) ∧ isCodeTable s₁.heap Pt ∧ K.lookup Pt = none)
    (ha : s₁.heap.get? a = some { cls := .type "list", data := .seq vs.toArray }) (hi : IntsAre vs ns) (hl : ns.length ≤ sizeLine) (hr : Room k callerA)
    (F : ∀ base : Heap, K.In base → base.Ns mainGlobals mg → Blt mg base → FnOk P w K mg base CX k fa fd [x] sp) (hbind : ∀ (s : Shared) (u : Value), BindsTo s fd ⟨[u], []⟩ [(x, u)])
    (hsp : ∀ H : Hp, TabF K H → SqL K H a (ns.map V.int) → sp [.ref a] H (fun v H' => v = .bl true ∧ TabF K H') fun _ _ _ => False)
    (hCX : ∀ H e s', CX [] H s₁ (fun _ _ _ => False) e s' → False) :
    codeAny (model P w) callerA (.call (.ref fa) ⟨[.ref a], []⟩) (fun r s' => r = .ok (.ret (.bool true)) ∧ OldK s₁.heap s'.heap ∧ s'.os = s₁.os ∧ AllBare s'.gens) s₁ := by
  have rv := L2.vals_ints hi
  have lenV := hi.length
  have core : ∀ sc : Option (Addr × Obj × HO), (∀ x, sc = some x → x = (a, { cls := .type "list", data := .seq vs.toArray }, .lst (ns.map V.int)) ∧ K.lookup a = none) → SqL K (headH K sc) a (ns.map V.int) → 
      codeAny (model P w) callerA (.call (.ref fa) ⟨[.ref a], []⟩) (fun r s' => r = .ok (.ret (.bool true)) ∧ OldK s₁.heap s'.heap ∧ s'.os = s₁.os ∧ AllBare s'.gens) s₁ := by
    intro sc hsc hS
    generalize hH : headH K sc = H at hS
    have some_of : ∀ {b : Addr} {u : HO}, H b = some u → (b = a ∧ u = .frz { cls := .type "list", data := .seq vs.toArray } (.lst (ns.map V.int)) ∧ K.lookup a = none) ∨ ∃ q, u = .tab q ∧ TabK K b q := fun {b u} e => by
      rw [← hH] at e
      rcases headH_some e with ⟨x, e1, e2, e3⟩ | z
      · obtain ⟨rfl, hk⟩ := hsc x e1
        exact .inl ⟨e2, e3, hk⟩
      · exact .inr z
    have hTH : TabF K H := fun Pt q t => by
      rw [← hH]
      refine headH_tab hU t fun x e z => ?_
      obtain ⟨rfl, _⟩ := hsc x e
      have := (hT Pt q t).1
      rw [z, ha] at this
      cases this
    have hok : HOk P w H s₁.heap := fun b u e => by
      rcases some_of e with ⟨rfl, rfl, _⟩ | ⟨q, rfl, t⟩
      · exact ⟨ha, by rw [List.length_map]; exact hl, vs, _, rv, ha⟩
      · refine ⟨#[], (hT b q t).1, trivial, fun pos cv z => ?_⟩
        rw [codeAmong.eq_2 pos _ (by intros; contradiction)] at z
        cases z
    have base_of : ∀ {b : Addr} {o : Obj}, s₁.heap.get? b = some o → H b = none → (hidT s₁.heap H).get? b = some o := fun e n => hidT_get e n
    have noD : ∀ {b : Addr} {o : Obj}, s₁.heap.get? b = some o → (∀ xs, o.data ≠ .seq xs) → (∀ xs, o.data ≠ .fields xs) → H b = none := fun {b o} e d1 d2 => by
      cases q : H b with
      | none => rfl
      | some u =>
        rcases some_of q with ⟨rfl, _⟩ | ⟨q, _, t⟩
        · rw [ha] at e; cases e; exact absurd rfl (d1 _)
        · rw [(hT b q t).1] at e; cases e; exact absurd rfl (d2 _)
    have nsK : ∀ {b : Addr} {m : Str → Option Value}, s₁.heap.Ns b m → (hidT s₁.heap H).Ns b m := fun {b m} ⟨o, es, ep, e, d, r⟩ => ⟨o, es, ep, base_of e (noD e (fun xs z => by rw [d] at z; cases z) fun xs z => by rw [d] at z; cases z), d, r⟩
    have hKb : K.In (hidT s₁.heap H) := fun b o e => base_of (KX b o e) (by
      cases q : H b with
      | none => rfl
      | some u =>
        rcases some_of q with ⟨rfl, _, hk⟩ | ⟨q, _, t⟩
        · rw [hk] at e; cases e
        · rw [(hT b q t).2.2] at e; cases e)
    have hM : Mod K mg (hidT s₁.heap H) := ⟨hKb, nsK hns, ⟨mb, nsK hb, hbb⟩, let ⟨mc, h1, h2⟩ := hlim; ⟨mc, nsK h1, h2⟩⟩
    have hB : Blt mg (hidT s₁.heap H) := by
      obtain ⟨bm, ob, h1, h2, h3, h4, h5, h6⟩ := hblt
      exact ⟨bm, ob, h1, h2, base_of h3 (noD h3 (fun xs z => by rw [h6] at z; cases z) fun xs z => by rw [h6] at z; cases z), h4, h5, h6⟩
    have e0 : Env0 P w K mg (hidT s₁.heap H) callerA [] s₁ H := ⟨rfl, hM, fun b o e => of_hidT e, Nat.le_of_eq (hidT_size _ _), trivial, fun b hb => absurd (show b ∈ ([] : List Addr) from hb) (by simp), hok, .of_eq hg⟩
    refine codeAny_mono ((F _ hKb (nsK hns) hB).run callerA [] s₁ H ⟨[.ref a], []⟩ [.ref a] [.ref a] _ _ hr e0 (hbind s₁ (.ref a)) (.cons rfl .nil) (hsp H hTH hS)) fun r s' h => ?_
    cases r with
    | error e => exact (hCX H e s' h).elim
    | ok fl =>
      cases fl with
      | next => exact False.elim h
      | brk => exact False.elim h
      | cont => exact False.elim h
      | ret u =>
        obtain ⟨v, H', os, bare, un, hok', r', qq⟩ := h
        obtain ⟨q', hTH'⟩ : v = .bl true ∧ TabF K H' := qq
        subst q'
        obtain rfl : u = Value.bool true := r'
        have nof : ∀ (b : Addr), b ∉ frs ([] : List Env) := fun b z => absurd (show b ∈ ([] : List Addr) from z) (by simp)
        refine ⟨rfl, ⟨fun b o e => ?_, fun b o e => ?_⟩, os, bare⟩
        · cases q : H b with
          | none => exact .inl (un.keep b o e q (nof b) (by simp))
          | some u =>
            rcases some_of q with ⟨rfl, rfl, _⟩ | ⟨y, rfl, t⟩
            · have z2 := un.frzs b _ _ q
              obtain ⟨e1, _⟩ := hok b _ q
              obtain ⟨e2, _⟩ := hok' b _ z2
              rw [e] at e1; cases e1
              exact .inl e2
            · obtain ⟨g1, g2, _⟩ := hT b y t
              rw [g1] at e; cases e
              obtain ⟨ps, e2, _⟩ := hok' b _ (hTH' b y t)
              exact .inr (.inl ⟨g2, rfl, #[], ps, rfl, by rw [e2]; simp⟩)
        · exact un.there b o e (by simp)
  cases hk : K.lookup a with
  | some o =>
    have e := KX a o hk
    rw [ha] at e
    cases e
    exact core none (fun x z => nomatch z) (.inr ⟨_, vs.toArray, _, hk, rfl, rfl, rfl, by rw [List.size_toArray, lenV]; exact hl, by simpa using rv⟩)
  | none =>
    refine core (some (a, { cls := .type "list", data := .seq vs.toArray }, .lst (ns.map V.int))) (fun x z => by cases z; exact ⟨rfl, hk⟩) (.inl (.inr ⟨{ cls := .type "list", data := .seq vs.toArray }, ?_⟩))
    unfold headH
    exact if_pos rfl
end Z

/-! The walk, with tables; defs that know their code object. -/
namespace Z
open PySem PySem.Spec PyProof.Rows L2 PySem.W
section
variable {K : Frag} {x : Str} {c P f : Addr} {oc : Value} {od : Option Addr} {fd : FuncData} {sl : Array (Option Value)}
end
section
variable {P : Program} {w : World} {K : PySem.W.Frag} {mg : Str → Option Value} {base : Heap}
end
/-- the law's promise, from its data; the tables stand behind it -/
theorem law_spT {K : Frag} {H : Hp} {a : Addr} {ns : List Int} {m : List D → Option SV} {E : XK} (hT : TabF K H) (hS : SqL K H a (ns.map V.int)) (hm : m [.list (ns.map PyData.int)] = some (.val (.bool true))) : spP K 1 m [.ref a] H (fun v H' => v = .bl true ∧ TabF K H') E := by
  have tabOf : ∀ {P : Addr} {q : Str}, H P = some (.tab q) → onlyTab H P = some (.tab q) := fun {P q} h => by unfold onlyTab; rw [h]
  have tabSub : ∀ {P : Addr} {u : HO}, onlyTab H P = some u → H P = some u := fun {P u} h => by
    unfold onlyTab at h
    split at h
    · rename_i q e; cases h; exact e
    · cases h
  rcases hS with h | h
  · have ne : ∀ {P : Addr} {q : Str}, H P = some (.tab q) → P ≠ a := fun {P q} z e => by
      subst e
      rcases h with h | ⟨o, h⟩ <;> rw [h] at z <;> cases z
    refine ⟨fun b => if b = a then some (.lst (ns.map V.int)) else onlyTab H b, _, _, ⟨fun b u e => ?_, fun P q t => ?_⟩, rfl, .cons (.lst (.inl ?_) (RepAll.ints ns)) .nil, hm, fun v F' H' _ _ kp _ r => ?_⟩
    · by_cases q : b = a
      · subst q; simp at e; subst e; exact h.imp id fun z => ⟨⟨fun xs q => (nomatch q), fun y q => (nomatch q)⟩, z⟩
      · simp only [if_neg q] at e; exact .inl (tabSub e)
    · show (if P = a then _ else _) = _
      rw [if_neg (ne (hT P q t))]; exact tabOf (hT P q t)
    · simp
    · cases r; exact ⟨rfl, fun P q t => kp _ _ (hT P q t)⟩
  · refine ⟨onlyTab H, _, _, ⟨fun b u e => .inl (tabSub e), fun P q t => tabOf (hT P q t)⟩, rfl, .cons (.lst (.inr (.inr h)) (RepAll.ints ns)) .nil, hm, fun v F' H' _ _ kp _ r => ?_⟩
    cases r; exact ⟨rfl, fun P q t => kp _ _ (hT P q t)⟩
/-- what the tables want of K -/
structure TabsOk (K : Frag) (q : Program) : Prop where
  u : TabU K
  out : ∀ Pt y, TabK K Pt y → K.lookup Pt = none
  recs : ∀ x ∈ lamNames, ∀ c Pt, tabIn K x = some (c, Pt) → ∃ d, (recsOf q).find? (fun e => e.name == x) = some d
theorem walk_ofT {l : PySem.W.OpenLaw} {n k : Nat} {q : Program} {loose : List Str} {XP : (Str → Option Value) → Heap → Prop} {YP : World → Heap → Prop} {d : DefRec} {K : Params → PySem.W.Frag} {sp : World → Sp} {x : Str}
    (hn : l.most = some n) (hn2 : n ≤ sizeLine) (hdf : d.params.defaults = []) (hr : Room k callerA)
    (hY : ∀ (w : World) (h : Heap), YP w h → (K w.params).In h) (hT : ∀ P : Params, TabsOk (K P) q)
    (F : ∀ (w : World) (mg : Str → Option Value) (fa : Addr) (h : Heap), (K w.params).In h → h.Ns mainGlobals mg → (∀ x ∈ lamNames, ∀ c Pt, tabIn (K w.params) x = some (c, Pt) → CodeHd h c Pt) → mg d.name = some (.ref fa) →
      ∃ fd : FuncData, (∀ (s : Shared) (u : Value), BindsTo s fd ⟨[u], []⟩ [(x, u)]) ∧
        ∀ base : Heap, (K w.params).In base → base.Ns mainGlobals mg → Blt mg base → FnOk l.prog w (K w.params) mg base CX0 k fa fd [x] (sp w))
    (hsp : ∀ (w : World) (H : Hp) (a : Addr) (ns : List Int), ns.length ≤ n → TabF (K w.params) H → SqL (K w.params) H a (ns.map V.int) → sp w [.ref a] H (fun v H' => v = .bl true ∧ TabF (K w.params) H') fun _ _ _ => False) :
    PySem.W.WalkO q loose XP YP l.row.toRowW d [] (fun f vs => PySem.call f vs) := by
  refine Att.attach_call hn hdf fun w s₀ s₁ mg mb fa o pm cd doc a vs ns G Y ho hd hcd hmg hobj hints hlen hg => ?_
  have KX := hY w _ Y
  have tb : ∀ x ∈ lamNames, ∀ c Pt, tabIn (K w.params) x = some (c, Pt) → CodeHd s₁.heap c Pt ∧ s₁.heap.get? Pt = some (tabObj #[]) := fun x hx c Pt t => by
    obtain ⟨d, hd⟩ := (hT w.params).recs x hx c Pt t
    exact tab_of G.T KX hd t
  obtain ⟨fd, hb, hF⟩ := F w mg fa _ KX G.T.g (fun x hx c Pt t => (tb x hx c Pt t).1) hmg
  refine law_callT KX G.T.g G.T.b G.T.builtins G.T.nolimit G.T.bmain hg (hT w.params).u (fun Pt y t => ?_) hobj hints (Nat.le_trans hlen hn2) hr hF hb (fun H hO hS => hsp w H a ns hlen hO hS) fun H e s' z => z.elim
  obtain ⟨x, hx, c, e, _⟩ := id t
  obtain ⟨g1, g2⟩ := tb x hx c Pt e
  refine ⟨g2, ?_, (hT w.params).out Pt y t⟩
  obtain ⟨o, vs, _, _, _, _, _, _, _, h1, h2, h3, h4, _⟩ := g1
  exact ⟨c, o, vs, h1, h2, h3, h4⟩
end Z

/-! A list of lists, made here, whose inner lists grow: one name alone holds it. -/
namespace Z
open PySem PySem.Spec PyProof.Rows L2 PySem.W
/-- the i-th name alone holds a list of lists, and these nobody else -/
def Nest (K : Frag) (b : Bs) (F H : Hp) (σ : St) (env : En) (p : Addr) (qs : List Addr) (rows : List (List D)) : Prop :=
  H p = some (.lst (qs.map V.ref)) ∧ Paired (fun q ds => ∃ vs, H q = some (.lst vs) ∧ RepAll K F vs ds) qs rows ∧ (p :: qs).Nodup ∧ ∀ a ∈ p :: qs, F a = none ∧ Free σ env a ∧ (b.B a = none ∨ b.mu a)
section
variable {K : Frag} {b : Bs} {F F' H H' : Hp} {σ σ' : St} {env env' : En} {p : Addr} {qs : List Addr} {rows : List (List D)}
theorem Paired.mapM {α β : Type} {R T : α → β → Prop} : ∀ {l : List α} {m : List β}, Paired R l m → (∀ a ∈ l, ∀ b, R a b → T a b) → Paired T l m
  | _, _, .nil, _ => .nil
  | _, _, .cons r t, f => .cons (f _ (List.mem_cons_self ..) _ r) (Paired.mapM t fun a ha b h => f a (List.mem_cons_of_mem _ ha) b h)
theorem Nest.lst (N : Nest K b F H σ env p qs rows) : ∀ a ∈ p :: qs, ∃ vs, H a = some (.lst vs) := fun a ha => by
  rcases List.mem_cons.mp ha with rfl | ha
  · exact ⟨_, N.1⟩
  · have : ∀ {qs : List Addr} {rows : List (List D)}, Paired (fun q ds => ∃ vs, H q = some (.lst vs) ∧ RepAll K F vs ds) qs rows → a ∈ qs → ∃ vs, H a = some (.lst vs) := by
      intro qs rows r
      induction r with
      | nil => intro h; cases h
      | cons h t ih =>
        intro hm
        rcases List.mem_cons.mp hm with rfl | hm
        · obtain ⟨vs, h, _⟩ := h; exact ⟨vs, h⟩
        · exact ih hm
    exact this N.2.1 ha
/-- behind what changes only what its names hold -/
theorem Nest.held (N : Nest K b F H σ env p qs rows) (S : SOk K b F H σ env) (S' : SOk K (rb b F H σ env) F' H' σ' env') : Nest K b F' H' σ' env' p qs rows := by
  have all : ∀ a ∈ p :: qs, ∀ o, H a = some o → H' a = some o ∧ F' a = none ∧ Free σ' env' a := fun a ha o e => by
    obtain ⟨vs, hv⟩ := N.lst a ha
    rw [hv] at e; cases e
    obtain ⟨n1, n2, _⟩ := N.2.2.2 a ha
    exact S.held S' (fun xs z => by rcases z with z | ⟨w, z⟩ <;> cases z) hv n1 n2
  refine ⟨(all p (List.mem_cons_self ..) _ N.1).1, Paired.mapM N.2.1 fun q hq ds ⟨vs, h, r⟩ => ⟨vs, (all q (List.mem_cons_of_mem _ hq) _ h).1, r.mono S'.le⟩, N.2.2.1, fun a ha => ?_⟩
  obtain ⟨vs, hv⟩ := N.lst a ha
  obtain ⟨_, g2, g3⟩ := all a ha _ hv
  exact ⟨g2, g3, (N.2.2.2 a ha).2.2⟩
theorem Nest.free (N : Nest K b F H σ env p qs rows) (h : ∀ a ∈ p :: qs, Free σ env a → Free σ' env' a) : Nest K b F H σ' env' p qs rows := ⟨N.1, N.2.1, N.2.2.1, fun a ha => ⟨(N.2.2.2 a ha).1, h a ha (N.2.2.2 a ha).2.1, (N.2.2.2 a ha).2.2⟩⟩
theorem free_setAllN {a : Addr} : ∀ {is : List Nat} {vs : List V} {xs : List D} {σ : St} {en : En}, vs.length = xs.length → Free σ en a → Free (setAll σ is vs) (setAllE en is xs) a
  | [], _, _, _, _, _, h => h
  | _ :: _, [], [], _, _, _, h => h
  | _ :: _, [], _ :: _, _, _, hl, _ => by cases hl
  | _ :: _, _ :: _, [], _, _, hl, _ => by cases hl
  | i :: is, v :: vs, x :: xs, σ, en, hl, h => free_setAllN (is := is) (vs := vs) (xs := xs) (by simpa using hl) fun j e he z => by
    by_cases q : i = j
    · subst q
      have hlt := (List.getElem?_eq_some_iff.mp he).1
      rw [List.length_set] at hlt
      rw [List.getElem?_set_self hlt] at he
      cases he
    · rw [List.getElem?_set_ne q] at he z
      exact h j e he z
end
/-! ### statements beside it -/
abbrev SFN := En → List (List D) → Option (Out × List (List D))
def NEnd (K : Frag) (b : Bs) (F : Hp) (i : Nat) (p : Addr) (qs : List Addr) (rows : List (List D)) (D : Ends) : Out → Prop
  | .nx e' => ∀ F' σ' H', Le F F' → SOk K b F' H' σ' e' → Hold i (.ref p) σ' → Nest K b F' H' σ' e' p qs rows → D.nx σ' H'
  | .bk e' => ∀ F' σ' H', Le F F' → SOk K b F' H' σ' e' → Hold i (.ref p) σ' → Nest K b F' H' σ' e' p qs rows → D.bk σ' H'
  | .ct e' => ∀ F' σ' H', Le F F' → SOk K b F' H' σ' e' → Hold i (.ref p) σ' → Nest K b F' H' σ' e' p qs rows → D.ct σ' H'
  | .rt r e' => ∀ v F' σ' H', Le F F' → SOk K b F' H' σ' e' → HoldsR K b F' H' σ' e' v r → D.rt v H'
theorem NEnd.mono {K : Frag} {b : Bs} {F F' : Hp} {i : Nat} {p : Addr} {qs : List Addr} {rows : List (List D)} {D : Ends} {o : Out} (l : Le F F') (k : NEnd K b F i p qs rows D o) : NEnd K b F' i p qs rows D o := by
  cases o with
  | nx _ => exact fun F2 σ2 H2 l2 => k F2 σ2 H2 (l.trans l2)
  | bk _ => exact fun F2 σ2 H2 l2 => k F2 σ2 H2 (l.trans l2)
  | ct _ => exact fun F2 σ2 H2 l2 => k F2 σ2 H2 (l.trans l2)
  | rt _ _ => exact fun v F2 σ2 H2 l2 => k v F2 σ2 H2 (l.trans l2)
def zSN (K : Frag) (i : Nat) (f : SFN) : TS := fun D σ H => ∃ b F env p qs rows o rows', SOk K b F H σ env ∧ Hold i (.ref p) σ ∧ Nest K b F H σ env p qs rows ∧ f env rows = some (o, rows') ∧ NEnd K b F i p qs rows' D o
structure ZSN (X : Cx) (i : Nat) (st : Stmt) (f : SFN) : Prop where
  ps : PS X st (zSN X.K i f)
structure ZSNs (X : Cx) (i : Nat) (st : List Stmt) (f : SFN) : Prop where
  ps : PSs X st (zSN X.K i f)
def nNx : SFN := fun env rows => some (.nx env, rows)
def nSeq (f g : SFN) : SFN := fun env rows => (f env rows).bind fun a => match a.1 with
  | .nx e' => g e' a.2
  | o => some (o, a.2)
def nIf (t : BF) (f g : SFN) : SFN := fun env rows => (t env).bind fun a => if a.1 = true then f a.2 rows else g a.2 rows
def forN (is : List Nat) (ft : D → Option (List D)) (body : SFN) : List D → En → List (List D) → Option (Out × List (List D))
  | [], e, rows => some (.nx e, rows)
  | d :: ds, e, rows => (ft d).bind fun xs => (body (setAllE e is xs) rows).bind fun a => match a.1 with
    | .nx e' => forN is ft body ds e' a.2
    | .ct e' => forN is ft body ds e' a.2
    | .bk e' => some (.nx e', a.2)
    | .rt r e' => some (.rt r e', a.2)
def nFor (fi : AF) (is : List Nat) (ft : D → Option (List D)) (body : SFN) : SFN := fun env rows => (fi env).bind fun a => forN is ft body a.1 a.2 rows
section
variable {X : Cx} {i : Nat} {st : Stmt} {rest sts sts2 : List Stmt} {f g : SFN} {e a c : Expr} {t1 : BF} {g1 : AF} {f1 f2 : EF} {pos : Pos}
end
end Z

/-! Lists of lists: made, walked beside, grown, told. -/
namespace Z
open PySem PySem.Spec PyProof.Rows L2 PySem.W
section
variable {α β : Type} {R T : α → β → Prop}
theorem paired_len : ∀ {l : List α} {m : List β}, Paired R l m → l.length = m.length
  | _, _, .nil => rfl
  | _, _, .cons _ t => by rw [List.length_cons, List.length_cons, paired_len t]
theorem paired_get : ∀ {l : List α} {m : List β} {j : Nat} {a : α}, Paired R l m → l[j]? = some a → ∃ b, m[j]? = some b ∧ R a b
  | _, _, _, _, .nil, e => by simp at e
  | _, _, 0, _, .cons r _, e => by simp at e; subst e; exact ⟨_, rfl, r⟩
  | _, _, j + 1, a, .cons _ t, e => by
    obtain ⟨b, h1, h2⟩ := paired_get (j := j) (a := a) t (by simpa using e)
    exact ⟨b, by simpa using h1, h2⟩
theorem paired_set : ∀ {l : List α} {m : List β} {j : Nat} {q : α} {c : β}, Paired R l m → l.Nodup → l[j]? = some q → (∀ a ∈ l, ∀ b, a ≠ q → R a b → T a b) → T q c → Paired T l (m.set j c)
  | _, _, _, _, _, .nil, _, e, _, _ => by simp at e
  | x :: l, y :: m, 0, q, c, .cons r t, nd, e, k, h => by
    simp at e; subst e
    have nx := (List.nodup_cons.mp nd).1
    exact .cons h (Paired.mapM t fun a ha b hb => k a (List.mem_cons_of_mem _ ha) b (fun z => nx (z ▸ ha)) hb)
  | x :: l, y :: m, j + 1, q, c, .cons r t, nd, e, k, h => by
    have nx := (List.nodup_cons.mp nd).1
    have e' : l[j]? = some q := by simpa using e
    have hm : q ∈ l := List.mem_of_getElem? e'
    exact .cons (k x (List.mem_cons_self ..) y (fun z => nx (z ▸ hm)) r) (paired_set t (List.nodup_cons.mp nd).2 e' (fun a ha b ne hb => k a (List.mem_cons_of_mem _ ha) b ne hb) h)
theorem paired_snoc : ∀ {l : List α} {m : List β} {a : α} {c : β}, Paired R l m → R a c → Paired R (l ++ [a]) (m ++ [c])
  | _, _, _, _, .nil, h => .cons h .nil
  | _, _, _, _, .cons r t, h => .cons r (paired_snoc t h)
end
section
variable {K : Frag} {b : Bs} {F F' H H' : Hp} {σ σ' : St} {env env' : En} {p : Addr} {qs : List Addr} {rows : List (List D)}
theorem Nest.grow (N : Nest K b F H σ env p qs rows) (l : Le F F') (s : Sub F' H') (kp : ∀ a o, H a = some o → H' a = some o) (n : NewF F H F') : Nest K b F' H' σ env p qs rows := by
  refine ⟨kp _ _ N.1, Paired.mapM N.2.1 fun q hq ds ⟨vs, h, r⟩ => ⟨vs, kp _ _ h, r.mono l⟩, N.2.2.1, fun a ha => ⟨?_, (N.2.2.2 a ha).2⟩⟩
  obtain ⟨vs, hv⟩ := N.lst a ha
  cases q : F' a with
  | none => rfl
  | some u =>
    rcases n a u q with z | z | ⟨xs, rfl⟩
    · rw [(N.2.2.2 a ha).1] at z; cases z
    · rw [hv] at z; cases z
    · have h' := kp a _ hv
      rcases s.rd q with z | ⟨w, z⟩ <;> rw [h'] at z <;> cases z
theorem Nest.put (N : Nest K b F H σ env p qs rows) {j : Nat} {q : Addr} {vs : List V} {ds : List D} (hq : qs[j]? = some q) (r : RepAll K F vs ds) : Nest K b F (upd H q (.lst vs)) σ env p qs (rows.set j ds) := by
  have hm : q ∈ qs := List.mem_of_getElem? hq
  have np : p ≠ q := fun z => (List.nodup_cons.mp N.2.2.1).1 (z ▸ hm)
  refine ⟨by rw [upd_ne np]; exact N.1, paired_set N.2.1 (List.nodup_cons.mp N.2.2.1).2 hq (fun a _ ds ne ⟨vs, h, r⟩ => ⟨vs, by rw [upd_ne ne]; exact h, r⟩) ⟨vs, upd_same, r⟩, N.2.2⟩
theorem SOk.setAny (S : SOk K b F H σ env) {i : Nat} {x : Option V} (hi : i ≠ 0) : SOk K b F H (σ.set i x) (env.set i none) :=
  S.unwipe (σ := σ.set i x) (ws := [i]) (wipe_set (List.mem_singleton.mpr rfl)).symm (fun j hj => by rw [List.mem_singleton.mp hj]; exact hi)
end
def nApp (fi : EF) (fa : AF) : SFN := fun env rows => (fi env).bind fun a => match a.1 with
  | .int k => (ixN rows.length k).bind fun j => (fa a.2).bind fun c => match rows[j]?, c.1 with
    | some ds, [d] => if ds.length < sizeLine then some (.nx c.2, rows.set j (ds ++ [d])) else none
    | _, _ => none
  | _ => none
def nRet : SFN := fun env rows => some (.rt (.own (.list (rows.map PyData.list))) env, rows)
section
variable {X : Cx} {i : Nat} {st : Stmt} {rest sts sts2 : List Stmt} {f g : SFN} {e a c : Expr} {t1 : BF} {g1 g2 : AF} {f1 f2 : EF} {pos : Pos} {x : Str} {p1 p2 p3 : Pos}
/-- what is behind the making: only a told worth ends it -/
def sNest (i : Nat) (mk : EF) (f : SFN) : SF := fun env => (mk env).bind fun a => match a.1 with
  | .list rs => if i < a.2.length then (f (a.2.set i none) (rs.map fun _ => [])).bind fun r => match r.1 with
    | .rt v e' => some (.rt v e')
    | _ => none
    else none
  | _ => none
end
end Z

/-! Lists of lists: the making. -/
namespace Z
open PySem PySem.Spec PyProof.Rows L2 PySem.W
section
variable {K : Frag} {b : Bs} {F F' H H' : Hp} {σ σ' : St} {env env' : En} {p q : Addr} {qs : List Addr} {rows : List (List D)}
theorem Nest.more (N : Nest K b F H σ env p qs rows) (S : SOk K b F H σ env) (h : H q = none) : Nest K b F (upd (upd H q (.lst [])) p (.lst (qs.map V.ref ++ [.ref q]))) σ env p (qs ++ [q]) (rows ++ [[]]) := by
  have ne : ∀ a ∈ p :: qs, a ≠ q := fun a ha z => by
    obtain ⟨vs, hv⟩ := N.lst a ha
    rw [z, h] at hv; cases hv
  obtain ⟨nx, nd⟩ := List.nodup_cons.mp N.2.2.1
  have npq := ne p (List.mem_cons_self ..)
  refine ⟨by rw [upd_same, List.map_append]; rfl, paired_snoc (Paired.mapM N.2.1 fun a ha ds ⟨vs, e, r⟩ => ⟨vs, ?_, r⟩) ⟨[], ?_, .nil⟩, ?_, fun a ha => ?_⟩
  · have n2 : a ≠ p := fun z => nx (z ▸ ha)
    rw [upd_ne n2, upd_ne (ne a (List.mem_cons_of_mem _ ha))]; exact e
  · rw [upd_ne (Ne.symm npq)]; exact upd_same
  · refine List.nodup_cons.mpr ⟨fun z => ?_, ?_⟩
    · rcases List.mem_append.mp z with z | z
      · exact nx z
      · exact npq (List.mem_singleton.mp z)
    · refine List.nodup_append.mpr ⟨nd, (List.nodup_cons.mpr ⟨by simp, List.nodup_nil⟩), fun a ha c hc z => ?_⟩
      rw [List.mem_singleton.mp hc] at z
      exact ne a (List.mem_cons_of_mem _ ha) z
  · rcases List.mem_cons.mp ha with rfl | ha
    · exact N.2.2.2 _ (List.mem_cons_self ..)
    · rcases List.mem_append.mp ha with ha | ha
      · exact N.2.2.2 a (List.mem_cons_of_mem _ ha)
      · rw [List.mem_singleton.mp ha]
        exact ⟨S.fF h, S.free h, .inl (S.fB h)⟩
end
section
variable {X : Cx} {elt tg iter : Expr} {ifs : List Expr} {scope : Scope} {own : List (Str × Nat)} {pos : Pos} {g1 : AF} {is : List Nat} {ft : D → Option (List D)}
/-- the function that makes the rows -/
def eMk (g1 : AF) (is : List Nat) (ft : D → Option (List D)) (ws : List Nat) : EF := eComp g1 is ft bYes (eC (.list [])) ws
end
end Z

/-! sorted(xs), xs a list of tuples of ints, all different. -/
namespace Z
open PySem PySem.Spec PyProof.Rows L2 PySem.W
def eSortL (f : EF) : EF := fun env => (f env).bind fun a => match a.1 with
  | .list ds => if chkS (ds.map fun d => [d]) = true ∧ ((ds.map fun d => [d]).map keyS).Nodup then some (finS (ds.map fun d => [d]), a.2) else none
  | _ => none
section
variable {X : Cx}
end
end Z

/-! Defs in which a lambda stands. -/
namespace Z
open PySem PySem.Spec PyProof.Rows L2 PySem.W
/-- what a def in which a lambda stands must know -/
structure LamIn (K : Frag) (mg : Str → Option Value) (base : Heap) (x : Str) (st : Stmt) (c P : Addr) : Prop where
  cd : ∀ f fd, Fun K x x st f fd → mg x = some (.ref f) → fd.code = .ref c
  ck : CodeK K c P
  tk : TabK K P (x ++ ".<locals>.<lambda>")
  bl : Blt mg base
section
variable {X : Cx} {k j : Nat} {ps : List Str} {m : List D → Option SV} {x y : Str} {st : Stmt} {p pos lpos : Pos} {e : Expr} {f1 : EF} {q : Str} {params : Arguments} {body : Expr} {scope : Scope} {c P : Addr}
end
/-! the parts of a lambda that is the last argument of what a def tells -/
def lamLast : List Stmt → Expr
  | [.Return (some (.Call _ as _ _)) _] => as.getLastD (.Name "" ⟨0, 0, 0, 0⟩)
  | _ :: s :: ss => lamLast (s :: ss)
  | _ => .Name "" ⟨0, 0, 0, 0⟩
def lamP : Expr → Arguments
  | .Lambda a _ _ _ => a
  | _ => ⟨[], [], none, [], [], none, []⟩
def lamB : Expr → Expr
  | .Lambda _ b _ _ => b
  | e => e
def lamS : Expr → Scope
  | .Lambda _ _ s _ => s
  | _ => { kind := .function, names := [], isGenerator := false, isCoroutine := false }
/-! the tables of K -/
def okPs : List (Option (Addr × Addr)) → Bool
  | [] => true
  | o :: os => (match o with
    | none => true
    | some x => os.all fun y => match y with
      | none => true
      | some z => x.2 != z.2) && okPs os
theorem okPs_inj : ∀ {os : List (Option (Addr × Addr))} {i j : Nat} {x z : Addr × Addr}, okPs os = true → os[i]? = some (some x) → os[j]? = some (some z) → x.2 = z.2 → i = j := by
  intro os
  induction os with
  | nil => intro i j x z _ h; simp at h
  | cons o os ih =>
    intro i j x z h hi hj e
    unfold okPs at h
    rw [Bool.and_eq_true] at h
    have far : ∀ {a b : Addr × Addr} {n : Nat}, o = some a → os[n]? = some (some b) → a.2 ≠ b.2 := fun {a b n} ho hn => by
      rw [ho] at h
      have := List.all_eq_true.mp h.1 _ (List.mem_of_getElem? hn)
      simpa using this
    cases i with
    | zero =>
      cases j with
      | zero => rfl
      | succ j =>
        rw [List.getElem?_cons_zero] at hi
        rw [List.getElem?_cons_succ] at hj
        exact absurd e (far (Option.some.inj hi) hj)
    | succ i =>
      cases j with
      | zero =>
        rw [List.getElem?_cons_zero] at hj
        rw [List.getElem?_cons_succ] at hi
        exact absurd e.symm (far (Option.some.inj hj) hi)
      | succ j =>
        rw [List.getElem?_cons_succ] at hi hj
        rw [ih h.2 hi hj e]
theorem tabs_mk {K : Frag} {q : Program} {os : List (Option (Addr × Addr))} (h : lamNames.map (tabIn K) = os) (hu : okPs os = true) (ho : (os.all fun o => match o with
    | none => true
    | some x => (K.lookup x.2).isNone) = true) (hr : ((lamNames.zip os).all fun x => x.2.isNone || ((recsOf q).find? (fun e => e.name == x.1)).isSome) = true) : TabsOk K q := by
  have at' : ∀ {x : Str} {cp : Addr × Addr}, x ∈ lamNames → tabIn K x = some cp → ∃ i, lamNames[i]? = some x ∧ os[i]? = some (some cp) := fun {x cp} hx e => by
    obtain ⟨i, hi⟩ := List.mem_iff_getElem?.mp hx
    refine ⟨i, hi, ?_⟩
    rw [← h, List.getElem?_map, hi]
    show some (tabIn K x) = _
    rw [e]
  refine ⟨fun P y y' ⟨x, hx, c, e, ey⟩ ⟨x', hx', c', e', ey'⟩ => ?_, fun P y ⟨x, hx, c, e, _⟩ => ?_, fun x hx c P e => ?_⟩
  · obtain ⟨i, h1, h2⟩ := at' hx e
    obtain ⟨j, h3, h4⟩ := at' hx' e'
    have := okPs_inj hu h2 h4 rfl
    subst this
    rw [h1] at h3
    cases h3
    rw [ey, ey']
  · obtain ⟨i, h1, h2⟩ := at' hx e
    have := List.all_eq_true.mp ho _ (List.mem_of_getElem? h2)
    simpa using this
  · obtain ⟨i, h1, h2⟩ := at' hx e
    have hm : (x, some (c, P)) ∈ lamNames.zip os := List.mem_iff_getElem?.mpr ⟨i, by rw [List.getElem?_zip_eq_some]; exact ⟨h1, h2⟩⟩
    have := List.all_eq_true.mp hr _ hm
    simp only [Option.isNone_some, Bool.false_or] at this
    exact Option.isSome_iff_exists.mp this
end Z

/-! a, b = e1, e2 by a tuple, new things among them. -/
namespace Z
open PySem PySem.Spec PyProof.Rows L2 PySem.W
theorem HAll.lay {K : Frag} {b : Bs} {F H : Hp} {σ : St} {env : En} {p : Addr} {o : HO} (h : H p = none) : ∀ {vs : List V} {rs : List SV}, HAll K b F H σ env vs rs → HAll K b F (upd H p o) σ env vs rs
  | _, _, .nil => .nil
  | _, _, .val r t => .val r (t.lay h)
  | _, _, .own f n t => .own ⟨f.at'.heap (upd_ne (by obtain ⟨u, q⟩ := f.at'.some; exact ne_of_none q h)), f.nF, f.nB, f.fr⟩ n (t.lay h)
section
variable {X : Cx} {m1 : MF} {pos p1 p2 p3 pt : Pos} {x y z : Str} {a c d : Expr} {kt k2 : Nat} {pt2 : Pos}
end
end Z

/-! What holds behind a piece, for functions handed in, lists of lists, sorted. -/
namespace Z
open PySem L2
section
variable {env : En} {i : Nat}
end
/-- behind a statement beside a list of lists -/
structure Wn (f : SFN) (env : En) (rows : List (List D)) (R : Out → List (List D) → Prop) : Prop where
  ex : ∃ o rows', f env rows = some (o, rows') ∧ R o rows'
section
variable {env : En} {rows : List (List D)} {R : Out → List (List D) → Prop} {f g : SFN}
end
end Z

/-! A lambda that keeps names of the def around it: its cells are part of the base while it may be called. -/
namespace Z
open PySem PySem.Spec PyProof.Rows L2 PySem.W
section
variable {X : Cx} {pins : List (Addr × Obj)} {σ : St} {H : Hp} {s : Shared} {base' : Heap}
/-- the base, and the cell -/
def withC (base h : Heap) (c : Addr) : Heap := hidT h fun b => if base.get? b = none ∧ b ≠ c then some (.tup []) else none
end
/-! ### the lambda's own frame -/
def envL (q : Str) (scope : Scope) (L f : Addr) (cd : Value) (cl : List (Str × Addr)) : Env :=
  { scope := scope, locals := L, globals := mainGlobals, cells := cl, qual := q ++ ".<locals>.", func := some f, code := cd, frame := some L, builtins := builtinsNs }
def cxL (P : Program) (w : World) (K : PySem.W.Frag) (mg : Str → Option Value) (base : Heap) (N : List Str) (q : Str) (scope : Scope) (f : Addr) (cd : Value) (cl : List (Str × Addr)) (A : Around) (outer : List Env) (s : Shared) (H : Hp) : Cx where
  prog := P
  w := w
  K := K
  mg := mg
  base := base
  A := A.deeper (envL q scope s.heap.objs.size f cd cl)
  N := N
  s_0 := s
  H_0 := H
  env := envL q scope s.heap.objs.size f cd cl
  outer := outer
  stack := envL q scope s.heap.objs.size f cd cl :: outer
  ex := []
  calm := true
  fn := fun _ => false
  pn := []
  xe := fun _ _ => False
structure LamScope (N ps fs : List Str) (sc : Scope) : Prop where
  kind : sc.kind = .function
  co : sc.isCoroutine = false
  gen : sc.isGenerator = false
  nd : N.Nodup
  pre : N = ps ++ fs
  par : ∀ x ∈ ps, sc.names.lookup x = some .local
  fre : ∀ x ∈ fs, sc.names.lookup x = some .free
  nocell : ∀ y ∈ sc.names, y.2 ≠ .cell
  only : ∀ y ∈ sc.names, y.2 = .free → y.1 ∈ fs
/-- the function object of this lambda stands at f -/
def LamAtC (q : Str) (params : Arguments) (body : Expr) (scope : Scope) (cl : List (Str × Addr)) (H : Hp) (f : Addr) : Prop :=
  ∃ c' oc pm ct, H f = some (.frz (lamObj q params body scope cl pm c' ct) (.own f)) ∧ H c' = some (.frz oc (.own c')) ∧ IsRec oc q
section
variable {X : Cx} {pins : List (Addr × Obj)} {σ : St} {H : Hp} {s : Shared} {k : Nat} {N ps fs : List Str} {q : Str} {params : Arguments} {body : Expr} {scope : Scope} {cl : List (Str × Addr)} {f : Addr}
/-- each cell is in the base -/
structure ClosOk (base : Heap) (fs : List Str) (cl : List (Str × Addr)) (ws : List V) : Prop where
  inj : ∀ x y c, cl.lookup x = some c → cl.lookup y = some c → x = y
  has : ∀ x ∈ fs, ∃ c, cl.lookup x = some c
  at' : ∀ x c, cl.lookup x = some c → ∃ v, base.IsCell c v
  val : ∀ (i : Nat) (x : Str) (v : V), fs[i]? = some x → ws[i]? = some v → ∃ c u, cl.lookup x = some c ∧ base.IsCell c (some u) ∧ RelV v u
  len : ws.length = fs.length
end
end Z

/-! A def that gets a lambda which keeps a name: its call. -/
namespace Z
open PySem PySem.Spec PyProof.Rows L2 PySem.W
theorem LamAtC.keep {q : Str} {params : Arguments} {body : Expr} {scope : Scope} {cl : List (Str × Addr)} {H H' : Hp} {f : Addr} (h : LamAtC q params body scope cl H f) (k : ∀ a o u, H a = some (.frz o u) → H' a = some (.frz o u)) : LamAtC q params body scope cl H' f := by
  obtain ⟨c', oc, pm, ct, h1, h2, h3⟩ := h
  exact ⟨c', oc, pm, ct, k _ _ _ h1, k _ _ _ h2, h3⟩
section
variable {X : Cx} {pins : List (Addr × Obj)} {σ : St} {H : Hp} {s : Shared} {k : Nat} {N ps fs : List Str} {q : Str} {params : Arguments} {body : Expr} {scope : Scope} {cl : List (Str × Addr)} {f : Addr} {n m : Nat} {fb : EF} {dws : List D}
/-- what the rule for such a lambda's body wants -/
structure LamOkC (X : Cx) (k : Nat) (N ps fs : List Str) (q : Str) (params : Arguments) (body : Expr) (scope : Scope) (cl : List (Str × Addr)) (n m : Nat) (fb : EF) : Prop where
  sc : LamScope N ps fs scope
  hn : ps.length = n
  hm : fs.length = m
  bind : ∀ (pm : Value) (c' : Addr) (ct : Value) (us : List Value), us.length = ps.length → bindArgs (kla_fn "<lambda>" q params body scope cl pm (.ref c') ct) ⟨us, []⟩ = pure (ps.zip us)
  body : ∀ (f : Addr) (cdv : Value) (A : Around) (outer : List Env) (s : Shared) (H : Hp), Room k (A.deeper (envL q scope s.heap.objs.size f cdv cl)) → ZE (cxL X.prog X.w X.K X.mg X.base N q scope f cdv cl A outer s H) body fb
/-- what it keeps: plain numbers and the like -/
structure KeepOk (X : Cx) (fs : List Str) (cl : List (Str × Addr)) (dws : List D) : Prop where
  ex : ∃ ws, ClosOk X.base fs cl ws ∧ ∀ F, RepAll X.K F ws dws
def runEC (n m : Nat) (fb : EF) (dws ds : List D) : Option SV := if ds.length = n then runE (n + m) (n + m) fb (ds ++ dws) else none
variable {i : Nat} {x : Str} {p pos : Pos} {e : Expr} {es : List Expr} {g1 : AF}
end
/-- a def's promise, whatever the base, by the number that a cell in it holds -/
structure DefZ (P : Program) (w : World) (K : Frag) (mg : Str → Option Value) (x : Str) (k : Nat) (ps : List Str) (sp : Int → Addr → Sp) : Prop where
  ex : ∃ f fd, (∀ (base : Heap) (z : Int) (cc : Addr) (t : Tok), base.IsCell cc (some (.int z t)) → FnOk P w K mg base CX0 k f fd ps (sp z cc)) ∧ mg x = some (.ref f) ∧ PySem.W.keepIn K (.ref f) = true ∧ L2.Binds K fd ps []
/-! ### the call f(e, lambda ..), the lambda keeping the name in the slot i -/
def eCallZ (i : Nat) (m : Int → List D → Option SV) (f1 : EF) : EF := fun env => (f1 env).bind fun a => match a.2[i]? with
  | some (some (.val (.int z))) => match m z [a.1] with
    | some (.own d) => some (d, a.2)
    | _ => none
  | _ => none
section
variable {X : Cx} {k j : Nat} {ps : List Str} {m : Int → List D → Option SV} {x y z0 : Str} {st : Stmt} {p pos lpos : Pos} {e : Expr} {f1 : EF} {q : Str} {params : Arguments} {body : Expr} {scope : Scope} {c P : Addr}
end
end Z

/-! sorted(set(xs)), xs a list of ints. -/
namespace Z
open PySem PySem.Spec PyProof.Rows L2
open PySem.AutoSeq1 (wpAny_loadPart')
abbrev entI (p : Int × Tok) : Int × Value := (hashInt p.1, Value.int p.1 p.2)
abbrev ISet (w : World) (h : Heap) (a : Addr) (o : Obj) (es : Array (Int × Value)) (ep : Nat) (t : SetTable) (L : List Ent) (xs : List (Int × Tok)) : Prop := TSetG w entI (·.1) h a o es ep t L xs
section
variable {prog : Program} {w : World} {A : Around} {E : Value → Shared → Prop} {s : Shared}
end
end Z

namespace Z
open PySem PySem.Spec PyProof.Rows L2
open PySem.AutoSeq1 (wpAny_loadPart')
section
variable {prog : Program} {w : World} {A : Around} {E : Value → Shared → Prop} {s : Shared}
end
end Z

/-! sorted(set(xs)), xs a list of ints: the rule. -/
namespace Z
open PySem PySem.Spec PyProof.Rows L2 PySem.W
/-- a set of ints: its members, in some order -/
def SetI (w : World) (a : Addr) (M : List Int) : HO := .ext fun h => ∃ o es ep t L xs, ISet w h a o es ep t L xs ∧ (xs.map (·.1)).Perm M
section
variable {prog : Program} {w : World} {A : Around} {E : Value → Shared → Prop} {s : Shared}
end
section
variable {X : Cx}
def rSetZ (K : Frag) (w : World) : List V → Hp → VK → Prop := fun vs H Q => ∃ (p : Addr) (ns : List Int), vs = [V.ref p] ∧ SqL K H p (ns.map V.int) ∧ (∀ l : List Int, l.Nodup → (∀ x ∈ l, x ∈ ns) → l.length ≤ 62) ∧
  ∀ (l : Addr) (M : List Int), H l = none → M.Nodup → (∀ k, k ∈ M ↔ k ∈ ns) → Q (.ref l) (upd H l (SetI w l M))
def rSortedZ (w : World) : List V → Hp → VK → Prop := fun vs H Q => ∃ (a : Addr) (M : List Int), vs = [V.ref a] ∧ H a = some (SetI w a M) ∧ M.length < 64 ∧ ∀ (ys : List Int) (p : Addr), ys.Perm M → ys.Pairwise (· ≤ ·) → H p = none → Q (.ref p) (upd H p (.lst (ys.map V.int)))
/-- the numbers, each once, in order -/
def isortU (ns : List Int) : List Int := ((ns.foldl step_dedup []).mergeSort (· ≤ ·))
end
end Z

/-! sorted(set(xs)) of ints; [x] * n; a comprehension's list set where outer names stay. -/
namespace Z
open PySem PySem.Spec PyProof.Rows L2 PySem.W
def insZ (k : Int) : List Int → List Int
  | [] => [k]
  | x :: xs => if k < x then k :: x :: xs else if k = x then x :: xs else x :: insZ k xs
def sortZ (ns : List Int) : List Int := ns.foldr insZ []
def eSortSetI (f : EF) : EF := fun env => (f env).bind fun a => match a.1 with
  | .list ds => (intsL ds).bind fun ns => if (sortZ ns).length ≤ 62 then some (.list ((sortZ ns).map PyData.int), a.2) else none
  | _ => none
section
variable {X : Cx}
/-! [x] * n -/
def eRep (f1 f2 : EF) : EF := fun env => (f1 env).bind fun a => (f2 a.2).bind fun c => match a.1, c.1 with
  | .list ds, .int k => if -(2 ^ 63) ≤ k ∧ k < 2 ^ 63 ∧ ds.length * k.toNat ≤ sizeLine then some (.list (List.replicate k.toNat ds).flatten, c.2) else none
  | _, _ => none
end
section
variable {X : Cx} {c : Nat} {elt tg iter : Expr} {ifs : List Expr} {scope : Scope} {own : List (Str × Nat)} {pos : Pos} {g1 : AF} {is : List Nat} {ft : D → Option (List D)} {tt : BF} {fe : EF}
end
end Z

namespace Z
open PySem L2
section
variable {env : En} {R : D → En → Prop} {f f1 f2 : EF}
end
end Z

/-! for .. in x, x a list that the name alone holds, and goes on holding. -/
namespace Z
open PySem PySem.Spec PyProof.Rows L2 PySem.W
theorem set_same {α : Type} {i : Nat} {x : α} {l : List α} (h : l[i]? = some x) : l.set i x = l := by
  apply List.ext_getElem?
  intro j
  by_cases q : i = j
  · subst q; rw [List.getElem?_set_self (List.getElem?_eq_some_iff.mp h).1, h]
  · rw [List.getElem?_set_ne q]
def sForO (i : Nat) (is : List Nat) (ft : D → Option (List D)) (body : SF) : SF := fun env => match env[i]? with
  | some (some (.own (.list ds))) => (forL is ft body ds (env.set i none)).bind fun o => match o with
    | .nx e' => some (.nx (e'.set i (some (.own (.list ds)))))
    | .rt r e' => some (.rt r e')
    | _ => none
  | _ => none
section
variable {X : Cx} {n : Nat} {v : V} {f : SF} {f1 : EF} {e : Expr} {pos p1 p2 : Pos} {x : Str}
section
variable {elt tg iter : Expr} {ifs : List Expr} {scope : Scope} {own : List (Str × Nat)} {g1 : AF} {is : List Nat} {ft : D → Option (List D)} {tt : BF} {fe : EF}
end
end
section
variable {env : En} {R : Out → Prop}
end
end Z

/-! Texts. -/
namespace Z
open PySem PySem.Spec PyProof.Rows L2 PySem.W
section
variable {K : Frag}
theorem RepAll.strV {F : Hp} : ∀ {vs : List V} {ys : List Str}, RepAll K F vs (ys.map PyData.str) → vs = ys.map V.str
  | _, [], .nil => rfl
  | _, y :: ys, .cons r t => by cases r; rw [RepAll.strV t]; rfl
theorem RepAll.strs {F : Hp} : ∀ (ys : List Str), RepAll K F (ys.map V.str) (ys.map PyData.str)
  | [] => .nil
  | y :: ys => .cons (.str y) (RepAll.strs ys)
def strsL : List D → Option (List Str)
  | [] => some []
  | .str x :: ds => (strsL ds).map (x :: ·)
  | _ => none
theorem strsL_inv : ∀ {ds : List D} {ys : List Str}, strsL ds = some ys → ds = ys.map PyData.str
  | [], ys, h => by cases h; rfl
  | .str x :: ds, ys, h => by
    unfold strsL at h
    obtain ⟨zs, h1, rfl⟩ := Option.map_eq_some_iff.mp h
    rw [strsL_inv h1]; rfl
  | .none :: _, _, h => by cases h
  | .bool _ :: _, _, h => by cases h
  | .int _ :: _, _, h => by cases h
  | .list _ :: _, _, h => by cases h
  | .tuple _ :: _, _, h => by cases h
  | .dict _ :: _, _, h => by cases h
theorem strsL_strs : ∀ (ys : List Str), strsL (ys.map PyData.str) = some ys
  | [] => rfl
  | y :: ys => by rw [List.map_cons]; unfold strsL; rw [strsL_strs ys]; rfl
def gAddS : D → D → Option D
  | .str a, .str b => if a.length + b.length ≤ sizeLine then some (.str (a ++ b)) else none
  | _, _ => none
theorem rf_addS : RF K (fun x y H Q => ∃ i j, x = .str i ∧ y = .str j ∧ i.length + j.length ≤ sizeLine ∧ Q (.str (i ++ j)) H) gAddS := ⟨fun F H x y dx dy d Q s rx ry e k => by
  unfold gAddS at e
  split at e
  · split at e
    · rename_i h
      cases e; cases rx; cases ry
      exact ⟨_, _, rfl, rfl, h, k _ (.str _)⟩
    · cases e
  · cases e⟩
def gStrI : List D → Option D
  | [.int i] => if i.natAbs.log2 < 1920 then some (.str (Str.ofString (toString i))) else none
  | _ => none
theorem cf_strI : CF K (fun xs H Q => ∃ i, xs = [V.int i] ∧ i.natAbs.log2 < 1920 ∧ Q (V.str (Str.ofString (toString i))) H) gStrI := ⟨fun F H vs ds d Q s r e k => by
  unfold gStrI at e
  split at e
  · split at e
    · rename_i h
      cases e
      cases r with
      | cons r1 r2 => cases r2; cases r1; exact ⟨_, rfl, h, k _ (.str _)⟩
    · cases e
  · cases e⟩
def gIntS : List D → Option D
  | [.str a] => if a.length ≤ 640 then (PySem.intText? a).map PyData.int else none
  | _ => none
theorem cf_intS : CF K (fun xs H Q => ∃ a n, xs = [V.str a] ∧ PySem.intText? a = some n ∧ a.length ≤ 640 ∧ Q (V.int n) H) gIntS := ⟨fun F H vs ds d Q s r e k => by
  unfold gIntS at e
  split at e
  · split at e
    · rename_i h
      obtain ⟨n, h1, rfl⟩ := Option.map_eq_some_iff.mp e
      cases r with
      | cons r1 r2 => cases r2; cases r1; exact ⟨_, n, rfl, h1, h, k _ (.int _)⟩
    · cases e
  · cases e⟩
def gLenS : List D → Option D
  | [.str z] => if z.length ≤ sizeLine then some (.int z.length) else none
  | _ => none
theorem cf_lenS : CF K (fun xs H Q => ∃ z, xs = [V.str z] ∧ z.length ≤ sizeLine ∧ Q (V.int z.length) H) gLenS := ⟨fun F H vs ds d Q s r e k => by
  unfold gLenS at e
  split at e
  · split at e
    · rename_i h
      cases e
      cases r with
      | cons r1 r2 => cases r2; cases r1; exact ⟨_, rfl, h, k _ (.int _)⟩
    · cases e
  · cases e⟩
def sign1 (x : Str) : Option Nat := match x.cps.toList with
  | [c] => some c
  | _ => none
theorem sign1_inv {x : Str} {c : Nat} (h : sign1 x = some c) : x = ⟨#[c]⟩ := by
  obtain ⟨⟨l⟩⟩ := x
  match l, h with
  | [c'], h => cases h; rfl
  | [], h => cases h
  | _ :: _ :: _, h => cases h
def gInSign : D → D → Option D
  | .str x, .str z => (sign1 x).map fun c => .bool (decide (c ∈ z.cps.toList))
  | _, _ => none
theorem rf_inSign : RF K (fun x y H Q => ∃ (c : Nat) (z : Str), x = .str ⟨#[c]⟩ ∧ y = .str z ∧ Q (.bl (decide (c ∈ z.cps.toList))) H) gInSign := ⟨fun F H x y dx dy d Q s rx ry e k => by
  unfold gInSign at e
  split at e
  · obtain ⟨c, h1, rfl⟩ := Option.map_eq_some_iff.mp e
    cases rx; cases ry
    exact ⟨c, _, by rw [sign1_inv h1], rfl, k _ (.bl _)⟩
  · cases e⟩
def gIxS : D → D → Option D
  | .str z, .int i => if z.length ≤ sizeLine then (L2.atI z.cps.toList i).map fun c => .str ⟨#[c]⟩ else none
  | _, _ => none
theorem rf_ixS : RF K (rIx K) gIxS := ⟨fun F H x y dx dy d Q s rx ry e k => by
  unfold gIxS at e
  split at e
  · split at e
    · rename_i h
      obtain ⟨c, h1, rfl⟩ := Option.map_eq_some_iff.mp e
      cases rx; cases ry
      exact .inr (.inr ⟨_, _, c, rfl, rfl, h, h1, k _ (.str _)⟩)
    · cases e
  · cases e⟩
end
section
variable {X : Cx} {a c e : Expr} {f1 f2 : EF} {g1 : AF} {pos p apos : Pos}
theorem ze_gstr {x : Str} {i : Str} {t : Tok} {pos : Pos} (hm : X.mg x = some (.str i t)) (hg : Gl X x := by rfl) (hd : (x == ("__debug__" : Str)) = false := by decide) : ZE X (.Name x pos) (eC (.str i)) := ⟨fun b => peOf (pe_glob (v := .str i) hg hm ⟨t, rfl⟩ hd) fun σ H Q ⟨F, env, d, env', S, e, k⟩ => by cases e; exact k _ F H .refl S (.str i)⟩
theorem ze_addS (ha : ZE X a f1) (hc : ZE X c f2) : ZE X (.BinOp a .Add c pos) (eBin gAddS f1 f2) := ze_op op_add_str rf_addS ha hc
theorem ze_ixS (ha : ZE X a f1) (hc : ZE X c f2) (hs : PlainIx c) : ZE X (.Subscript a c pos) (eBin gIxS f1 f2) := ⟨fun b => peOf (pe_ix ix_seq (ha.pe b) (hc.pe b) hs) fun σ H Q h => tOp_of rf_ixS h⟩
def eJoin (f1 f2 : EF) : EF := fun env => (f1 env).bind fun a => (f2 a.2).bind fun c => match a.1, c.1 with
  | .str y, .list ds => (strsL ds).bind fun ys => if (ys.map (·.length)).sum + ys.length * y.length ≤ 16777216 then some (.str (Txt.join y ys), c.2) else none
  | _, _ => none
theorem ze_join (ho : ZE X a f1) (he : ZE X e f2) (hs : starEach [e] X.env = [(false, eval e X.env)] := by rfl) (hbase : attributeBase a "join" X.env (eval a X.env) = eval a X.env := by rfl) (hline : (apos.endLine == pos.line) = true := by rfl) :
    ZE X (.Call (.Attribute a "join" apos) [e] [] pos) (eJoin f1 f2) := ⟨fun b => peOf (pe_join (ho.pe b) (he.pe b) hs hbase hline) fun σ H Q ⟨F, env, d, env', S, e, k⟩ => by
  unfold eJoin at e
  obtain ⟨⟨d1, e1⟩, h1, h⟩ := Option.bind_eq_some_iff.mp e
  obtain ⟨⟨d2, e2⟩, h2, h⟩ := Option.bind_eq_some_iff.mp h
  dsimp only at h
  split at h
  · rename_i y ds _
    obtain ⟨ys, h3, h⟩ := Option.bind_eq_some_iff.mp h
    split at h
    · rename_i hb
      cases h
      refine ⟨F, env, _, e1, S, h1, fun v1 F1 H1 l1 S1 r1 => ?_⟩
      cases r1
      refine ⟨⟨_, rfl⟩, F1, e1, _, _, S1, h2, fun v2 F2 H2 l2 S2 r2 => ?_⟩
      cases r2 with
      | lst hs ra =>
        rw [strsL_inv h3] at ra
        rw [ra.strV] at hs
        exact ⟨y, _, ys, rfl, rfl, .inl (hs.sq S2.sub), hb, k _ F2 H2 (l1.trans l2) S2 (.str _)⟩
    · cases h
  · cases h⟩
def eSplit (f1 f2 : EF) : EF := fun env => (f1 env).bind fun a => (f2 a.2).bind fun c => match a.1, c.1 with
  | .str x, .str y => if (y.length == 0) = false ∧ x.length + 2 ≤ sizeLine then some (.list ((Txt.split x y).map PyData.str), c.2) else none
  | _, _ => none
theorem zo_split (ho : ZE X a f1) (he : ZE X e f2) (hs : starEach [e] X.env = [(false, eval e X.env)] := by rfl) (hbase : attributeBase a "split" X.env (eval a X.env) = eval a X.env := by rfl) (hline : (apos.endLine == pos.line) = true := by rfl) :
    ZO X (.Call (.Attribute a "split" apos) [e] [] pos) (eSplit f1 f2) := ⟨fun b => peOf (pe_split (ho.pe b) (he.pe b) hs hbase hline) fun σ H Q ⟨F, env, d, env', S, e, k⟩ => by
  unfold eSplit at e
  obtain ⟨⟨d1, e1⟩, h1, h⟩ := Option.bind_eq_some_iff.mp e
  obtain ⟨⟨d2, e2⟩, h2, h⟩ := Option.bind_eq_some_iff.mp h
  dsimp only at h
  split at h
  · rename_i x y _
    split at h
    · rename_i hb
      cases h
      refine ⟨F, env, _, e1, S, h1, fun v1 F1 H1 l1 S1 r1 => ?_⟩
      cases r1
      refine ⟨⟨_, rfl⟩, F1, e1, _, _, S1, h2, fun v2 F2 H2 l2 S2 r2 => ?_⟩
      cases r2
      refine ⟨x, y, rfl, rfl, hb.1, hb.2, fun q hq => ?_⟩
      exact k q F2 _ (l1.trans l2) (S2.lay hq) ⟨⟨_, upd_same, RepAll.strs _⟩, S2.fF hq, .inl (S2.fB hq), S2.free hq⟩
    · cases h
  · cases h⟩
/-- whether a text has signs -/
def bTruS (f : EF) : BF := fun env => (f env).bind fun a => match a.1 with
  | .str x => if x.length ≤ sizeLine then some ((x.length : Int) != 0, a.2) else none
  | _ => none
def iS (f : EF) : AF := fun env => (f env).bind fun a => match a.1 with
  | .str x => some (x.cps.toList.map fun c => .str ⟨#[c]⟩, a.2)
  | _ => none
theorem zt_truS (h : ZE X e f1) (he : ∀ whole, isTrue e X.env whole = (do let v ← whole; standAt e.pos; holding [v] (truthy v)) := by intro _; rfl) : ZT X e (bTruS f1) :=
  ⟨fun b pins s σ H Q I hz => by
    obtain ⟨F, env, d, env', S, e, k⟩ := hz
    unfold bTruS at e
    obtain ⟨⟨d1, e1⟩, h1, h2⟩ := Option.bind_eq_some_iff.mp e
    dsimp only at h2
    split at h2
    · rename_i x
      split at h2
      rotate_left
      · cases h2
      rename_i hx
      cases h2
      refine isTrue_plain (thn (h.pe b pins s σ H (fun v H' => ∃ F', Le F F' ∧ SOk X.K b F' H' σ env' ∧ Rep X.K F' v (.str x)) I ⟨F, env, _, _, S, h1, fun v F' H' l S' r => ⟨F', l, S', r⟩⟩) fun v s1 ⟨y, H1, I1, r1, F1, l1, S1, r⟩ => ?_) (he _)
      cases r
      exact tru_ok pins s1 σ H1 _ v Q I1 r1 ⟨_, ⟨hx, rfl⟩, k F1 H1 l1 S1⟩
    · cases h2⟩
theorem walks_str {K : Frag} {b : Bs} {F : Hp} (x : Str) : Walks K b F (Its x) (x.cps.toList.map fun c => .str ⟨#[c]⟩) := fun i F' H' l s _ => by
  refine ⟨fun d h => ?_, fun h => by rw [List.length_map] at h; exact h⟩
  rw [List.getElem?_map] at h
  obtain ⟨c, hc, rfl⟩ := Option.map_eq_some_iff.mp h
  rw [Array.getElem?_toList] at hc
  refine ⟨(Array.getElem?_eq_some_iff.mp hc).1, fun v H2 ⟨e1, c2, h2, e2⟩ => ?_⟩
  subst e1 e2
  rw [hc] at h2
  cases h2
  exact ⟨F', .refl, s, fun _ _ e => e, .refl, .str _⟩
theorem zi_str {tg : Expr} (h : ZE X e f1) : ZI X tg e (iS f1) := ⟨fun b => piOf (pi_str (h.pe b)) fun σ H R ⟨F, env, d, env', S, e, k⟩ => by
  unfold iS at e
  obtain ⟨⟨d1, e1⟩, h1, h⟩ := Option.bind_eq_some_iff.mp e
  dsimp only at h
  split at h
  · rename_i x
    cases h
    refine ⟨F, env, _, _, S, h1, fun v F1 H1 l1 S1 r => ?_⟩
    cases r
    exact ⟨x, rfl, k _ F1 H1 l1 S1 fun _ => walks_str x⟩
  · cases h⟩
end
end Z

/-! a, b = a list of two. -/
namespace Z
open PySem PySem.Spec PyProof.Rows L2 PySem.W
section
variable {prog : Program} {w : World} {A : Around} {E : Value → Shared → Prop}
theorem draw_list {I ax : Addr} {items : Array Value} (W : PySem.Walks prog w A I [I, ax] [I] items.size (fun i v => items[i]? = some v) fun i h => h.IsListIter I ax i ∧ h.IsList ax items) :
    ∀ (k i : Nat) (s : Shared) (Q : List Value → Shared → Prop), i + k ≤ items.size → (s.heap.IsListIter I ax i ∧ s.heap.IsList ax items) →
      (∀ h' tk, (h'.IsListIter I ax (i + k) ∧ h'.IsList ax items) → (∀ b o, b ≠ I → s.heap.get? b = some o → h'.get? b = some o) → Q ((items.toList.drop i).take k) { s with heap := h', toks := tk }) → wpAny (model prog w) A (draw (.ref I) k) Q E s
  | 0, i, s, Q, hk, st, h => wpAny_pure (h s.heap s.toks st fun b o _ e => e)
  | k + 1, i, s, Q, hk, st, h => by
    unfold draw
    refine wpAny_bind (W.item i s _ _ (by omega) st fun v h' tk hv st' kp => ?_)
    refine wpAny_bind (wpAny_holding (draw_list W k (i + 1) { s with heap := h', toks := tk } _ (by omega) st' fun h2 tk2 st2 kp2 => wpAny_pure ?_))
    have hlt : i < items.toList.length := by simp; omega
    have e : (items.toList.drop i).take (k + 1) = v :: (items.toList.drop (i + 1)).take k := by
      rw [List.drop_eq_getElem_cons hlt, List.take_succ_cons]
      congr 1
      have : items.toList[i]? = some v := by rw [Array.getElem?_toList]; exact hv
      exact Option.some.inj ((List.getElem?_eq_getElem hlt).symm.trans this)
    have := h h2 tk2 (by rw [show i + (k + 1) = i + 1 + k by omega]; exact st2) fun b o hb e => kp2 b o hb (kp b o (by simpa using hb) e)
    rw [e] at this
    exact this
theorem unpack_list {s : Shared} {l : Addr} {items : Array Value} {Q : List Value → Shared → Prop} (hh : A.handled = none) (hl : s.heap.IsList l items)
    (h : ∀ h' tk, (∀ b o, s.heap.get? b = some o → h'.get? b = some o) → Q items.toList { s with heap := h', toks := tk }) : wpAny (model prog w) A (unpackItems (.ref l) items.size none) Q E s := by
  obtain ⟨ol, hol, hcl, n0, hdl⟩ := id hl
  have hT : s.TypeIs (.ref l) "list" := ⟨ol, hol, hcl⟩
  have hne : l ≠ s.heap.objs.size := Nat.ne_of_lt (Heap.lt_size hol)
  have W := PySem.Walks.list (prog := prog) (w := w) (A := A) hh s.heap.objs.size l hne items
  have kp : ∀ b o, s.heap.get? b = some o → (s.heap.push { cls := Value.type "list_iterator", data := Data.fields #[Value.ref l, Value.int 0 0] }).get? b = some o := fun b o e => Heap.get?_push_of_some _ e
  unfold unpackItems notIterableAtAll
  refine wpAny_bind (wpAny_bind (wpAny_specialOf hT F.slot_list_iter.lookup ?_))
  refine wpAny_ite_split (fun _ => wpAny_pure ?_) (fun z => absurd rfl z)
  dsimp only
  refine wpAny_ite_split (fun z => absurd z (by decide)) (fun _ => ?_)
  refine wpAny_bind (wpAny_holding (wpAny_pyIter_list hl ?_))
  refine wpAny_bind (wpAny_holding (draw_list W items.size 0 _ _ (by omega) ⟨⟨_, Heap.get?_push_size _ rfl, rfl, rfl⟩, by obtain ⟨o, ho, r⟩ := hl; exact ⟨o, kp _ _ ho, r⟩⟩ fun h1 tk1 st1 kp1 => ?_))
  rw [Nat.zero_add] at st1
  have e : (items.toList.drop 0).take items.size = items.toList := by rw [List.drop_zero]; exact List.take_of_length_le (by simp)
  rw [e]
  refine wpAny_ite_split (fun z => absurd z (by simp)) (fun _ => ?_)
  refine wpAny_bind (wpAny_holding (W.done _ _ _ st1 fun h2 tk2 kp2 => ?_))
  refine wpAny_ite_split (fun z => absurd z (by simp)) (fun _ => ?_)
  refine wpAny_pure (h h2 tk2 fun b o eb => ?_)
  have hb : b ≠ s.heap.objs.size := Nat.ne_of_lt (Heap.lt_size eb)
  exact kp2 b o (by simpa using hb) (kp1 b o hb (kp b o eb))
end
section
variable {X : Cx}
def gLstU (K : PySem.W.Frag) (n : Nat) (t : TGs) : TG := fun v σ H Q => ∃ a xs, v = .ref a ∧ SqL K H a xs ∧ xs.length = n ∧ t xs σ H Q
theorem pg_lstU {es : List Expr} {k : Nat} {t : TGs} {n : Nat} {pos : Pos} (hc : X.calm = true) (h : PGs X es t)
    (hn : (assignEach es X.env).length = n := by rfl) (hst : (assignEach es X.env).findIdx? (·.1) = none := by rfl) : PG X (.Tuple es k pos) (gLstU X.K n t) := by
  intro pins s σ H v u Q I r hw
  obtain ⟨a, xs, e1, hq, hl, hw⟩ := hw
  subst e1
  cases r
  obtain ⟨its, rv, ht, hz⟩ := I.list hq
  unfold assign
  refine wpAny_bind (wpAny_standAt ?_)
  unfold unpack
  rw [hst]
  have hsz : (assignEach es X.env).length = its.toArray.size := by rw [List.size_toArray, hn, ← hl]; exact rv.length
  rw [hsz]
  refine wpAny_bind (wpAny_holding (unpack_list (I.ok.hd hc) ht.isList fun h' tk kp => ?_))
  have I1 : Inv X pins σ H { s with heap := h', toks := tk } := I.kept kp
  exact h pins _ σ H xs _ Q I1 (by simpa using rv) hw
def tL (n : Nat) : D → Option (List D)
  | .list ds => if ds.length = n then some ds else none
  | _ => none
variable {x y : Str} {p1 p2 pos : Pos}
theorem zg_lst2 (i j : Nat) {kk : Nat} (hc : X.calm = true) (hN : X.N.Nodup) (hi : X.N[i]? = some x := by rfl) (hx : Loc X.env.scope x := by first | exact Or.inl rfl | exact Or.inr rfl) (hf : X.fn x = true ∨ X.env.scope.names.lookup x = some .local := by first | exact .inl rfl | exact .inr rfl | assumption)
    (hj : X.N[j]? = some y := by rfl) (hy : Loc X.env.scope y := by first | exact Or.inl rfl | exact Or.inr rfl) (hfy : X.fn y = true ∨ X.env.scope.names.lookup y = some .local := by first | exact .inl rfl | exact .inr rfl | assumption) : ZG X (.Tuple [.Name x p1, .Name y p2] kk pos) [i, j] (tL 2) :=
  ⟨pgOf (pg_lstU (n := 2) hc (pgs_cons (pg_name hN hi hx hf) (pgs_cons (pg_name hN hj hy hfy) pgs_nil))) fun v σ H Q ⟨F, d, ds, s, r, e, k⟩ => by
    cases r with
    | lst hs r =>
      simp only [tL] at e
      split at e
      · rename_i hl
        cases e
        have rl := r.len
        rw [hl] at rl
        refine ⟨_, _, rfl, hs.sq s, rl, ?_⟩
        cases r with
        | nil => simp at hl
        | cons r1 r2 =>
          cases r2 with
          | nil => simp at hl
          | cons r2 r3 =>
            cases r3 with
            | cons _ _ => simp at hl
            | nil => exact ⟨_, _, rfl, _, _, rfl, rfl, k _ (.cons r1 (.cons r2 .nil))⟩
      · cases e
    | _ => cases e⟩
end
end Z

/-! A def that tells a fresh list of fresh lists. -/
namespace Z
open PySem PySem.Spec PyProof.Rows L2 PySem.W
def zOx (K : Frag) (f : EF) : TE := fun σ H Q => ∃ b, zO K b f σ H Q
section
variable {K : Frag} {b : Bs} {F F' H H' : Hp} {σ σ' : St} {env env' : En} {p q : Addr} {qs : List Addr} {rows : List (List D)}
theorem Nest.add (N : Nest K b F H σ env p qs rows) {vs : List V} {ds : List D} (hn : q ∉ p :: qs) (h : H q = some (.lst vs)) (r : RepAll K F vs ds) (hF : F q = none) (fr : Free σ env q) (nB : b.B q = none ∨ b.mu q) :
    Nest K b F (upd H p (.lst (qs.map V.ref ++ [.ref q]))) σ env p (qs ++ [q]) (rows ++ [ds]) := by
  have ne : ∀ a ∈ p :: qs, a ≠ q := fun a ha z => hn (z ▸ ha)
  obtain ⟨nx, nd⟩ := List.nodup_cons.mp N.2.2.1
  have npq := ne p (List.mem_cons_self ..)
  refine ⟨by rw [upd_same, List.map_append]; rfl, paired_snoc (Paired.mapM N.2.1 fun a ha ds ⟨vs, e, r⟩ => ⟨vs, ?_, r⟩) ⟨vs, ?_, r⟩, ?_, fun a ha => ?_⟩
  · have n2 : a ≠ p := fun z => nx (z ▸ ha)
    rw [upd_ne n2]; exact e
  · rw [upd_ne (Ne.symm npq)]; exact h
  · refine List.nodup_cons.mpr ⟨fun z => ?_, ?_⟩
    · rcases List.mem_append.mp z with z | z
      · exact nx z
      · exact npq (List.mem_singleton.mp z)
    · refine List.nodup_append.mpr ⟨nd, (List.nodup_cons.mpr ⟨by simp, List.nodup_nil⟩), fun a ha c hc z => ?_⟩
      rw [List.mem_singleton.mp hc] at z
      exact ne a (List.mem_cons_of_mem _ ha) z
  · rcases List.mem_cons.mp ha with rfl | ha
    · exact N.2.2.2 _ (List.mem_cons_self ..)
    · rcases List.mem_append.mp ha with ha | ha
      · exact N.2.2.2 a (List.mem_cons_of_mem _ ha)
      · rw [List.mem_singleton.mp ha]
        exact ⟨hF, fr, nB⟩
theorem not_free {a : Addr} (h : ¬ Free σ env a) : ∃ (i : Nat) (d : D), env[i]? = some (some (SV.own d)) ∧ σ[i]? = some (some (V.ref a)) := by
  by_cases q : ∃ (i : Nat) (d : D), env[i]? = some (some (SV.own d)) ∧ σ[i]? = some (some (V.ref a))
  · exact q
  · exact absurd (fun i d he z => q ⟨i, d, he, z⟩) h
theorem rows_cons {rows : List (List D)} {y : D} {mr : List D} (h : y :: mr = rows.map PyData.list) : ∃ ds rs, rows = ds :: rs ∧ y = .list ds ∧ mr = rs.map PyData.list := by
  cases rows with
  | nil => cases h
  | cons ds rs => obtain ⟨h1, h2⟩ := List.cons.inj h; exact ⟨ds, rs, rfl, h1, h2⟩
end
section
variable {X : Cx} {elt tg iter : Expr} {ifs : List Expr} {scope : Scope} {own : List (Str × Nat)} {pos : Pos} {g1 : AF} {is : List Nat} {ft : D → Option (List D)} {fe : EF}
theorem tLcX_of {b : Bs} {ws : List Nat} (h0 : ∀ i ∈ ws, i ≠ 0) (hi : ∀ i ∈ is, i ∈ ws) {σ : St} {H F : Hp} {Q : VK} {env env' : En} {rows : List (List D)} (S : SOk X.K b F H σ env) (h : eComp g1 is ft bYes fe ws env = some (.list (rows.map PyData.list), env'))
    (k : ∀ p qs F' H', Le F F' → SOk X.K b F' H' σ env' → Nest X.K b F' H' σ env' p qs rows → Q (.ref p) H') :
    tLc (zI X.K b g1) (zG X.K is ft) tYes (zOx X.K fe) ws σ H Q := by
  unfold eComp at h
  obtain ⟨⟨ds, e1⟩, h1, h⟩ := Option.bind_eq_some_iff.mp h
  obtain ⟨⟨rs', e2⟩, h2, h⟩ := Option.bind_eq_some_iff.mp h
  dsimp only at h
  split at h
  · rename_i hlen
    obtain ⟨ha, hb⟩ := Prod.mk.inj (Option.some.inj h)
    have ha := PyData.list.inj ha
    subst ha
    subst hb
    refine ⟨F, env, ds, e1, S, h1, fun J F1 H1 l1 S1 w D hD => ?_⟩
    have hB := S1.fB hD
    have SD := (S1.lay (o := .lst []) hD).wipe h0
    have hfr : Free (L2.wipe σ ws) (wipeE e1 ws) D := by
      intro i e he z
      obtain ⟨g1, g2⟩ := wipeE_get he
      rw [wipe_get g2] at z
      exact S1.free hD i e g1 z
    refine ⟨fun i m H2 => m = ds.length - i ∧ ∃ F2 env2 qs rw2 more, Le F1 F2 ∧ SOk X.K b F2 H2 (L2.wipe σ ws) env2 ∧ Nest X.K b F2 H2 (L2.wipe σ ws) env2 D qs rw2 ∧
      compL is ft bYes fe ws (ds.drop i) env2 = some (more.map PyData.list, e2) ∧ rows = rw2 ++ more,
      ⟨ds.length, rfl, F1, wipeE e1 ws, [], [], rows, .refl, SD, ⟨upd_same, .nil, (List.nodup_cons.mpr ⟨by simp, List.nodup_nil⟩), fun a ha => ?_⟩, by rw [List.drop_zero]; exact h2, rfl⟩, ?_⟩
    · rw [List.mem_singleton.mp ha]
      exact ⟨S1.fF hD, hfr, .inl hB⟩
    rintro i m H2 ⟨hm, F2, env2, qs, rw2, more, l2, S2, N2, hc, hrs⟩
    have W := w i F2 H2 l2 S2.sub S2.keep
    cases hd : ds[i]? with
    | none =>
      have hle : ds.length ≤ i := List.getElem?_eq_none_iff.mp hd
      rw [List.drop_eq_nil_of_le hle] at hc
      obtain ⟨q1, q2⟩ := Prod.mk.inj (Option.some.inj hc)
      have q1 : more = [] := List.map_eq_nil_iff.mp q1.symm
      subst q1
      subst q2
      rw [List.append_nil] at hrs
      subst hrs
      refine .inl ⟨W.2 hle, k D qs F2 H2 (l1.trans l2) (S2.unwipe (wipe_wipe fun i hi => hi) h0) ?_⟩
      exact N2.free fun a _ fr i e he z => by
        obtain ⟨g1, g2⟩ := wipeE_get he
        rw [← wipe_get g2] at z
        exact fr i e g1 z
    | some d =>
      have hlt : i < ds.length := (List.getElem?_eq_some_iff.mp hd).1
      have hdr : ds.drop i = d :: ds.drop (i + 1) := by
        rw [List.drop_eq_getElem_cons hlt]
        congr 1
        exact Option.some.inj ((List.getElem?_eq_getElem hlt).symm.trans hd)
      rw [hdr] at hc
      unfold compL at hc
      obtain ⟨xs, h3, hc⟩ := Option.bind_eq_some_iff.mp hc
      obtain ⟨⟨kb, ek⟩, h4, hc⟩ := Option.bind_eq_some_iff.mp hc
      cases h4
      obtain ⟨⟨y, ey⟩, h5, hc⟩ := Option.bind_eq_some_iff.mp (show ((fe (setAllE env2 is xs)).bind fun a => (compL is ft bYes fe ws (ds.drop (i + 1)) (wipeE a.2 ws)).map fun r => (a.1 :: r.1, r.2)) = some (more.map PyData.list, e2) from hc)
      obtain ⟨⟨mr, er⟩, h6, h7⟩ := Option.map_eq_some_iff.mp hc
      obtain ⟨q7, q8⟩ := Prod.mk.inj h7
      have q8 : er = e2 := q8
      obtain ⟨dy, more', e9, e10, e11⟩ := rows_cons q7
      have e10 : y = .list dy := e10
      have e11 : mr = more'.map PyData.list := e11
      subst e9
      subst e10
      subst e11
      replace h6 : compL is ft bYes fe ws (ds.drop (i + 1)) (wipeE ey ws) = some (more'.map PyData.list, e2) := by rw [← q8]; exact h6
      obtain ⟨go, yl⟩ := W.1 d hd
      refine .inr ⟨go, fun H3 => ∃ F3 env3 qs rw2 more, Le F1 F3 ∧ SOk X.K b F3 H3 (L2.wipe σ ws) env3 ∧ Nest X.K b F3 H3 (L2.wipe σ ws) env3 D qs rw2 ∧
        compL is ft bYes fe ws (ds.drop (i + 1)) env3 = some (more.map PyData.list, e2) ∧ rows = rw2 ++ more, fun H' h => ⟨ds.length - (i + 1), by omega, rfl, h⟩, fun v H3 hy => ?_⟩
      obtain ⟨F3, l3, s3, kp3, n3, r3⟩ := yl v H3 hy
      have S3 := S2.grow l3 s3 kp3 n3
      have N3 := N2.grow l3 s3 kp3 n3
      refine ⟨F3, d, xs, s3, r3, h3, fun vs rvs => ⟨?_, ?_⟩⟩
      · rw [wipe_setAll hi, wipe_wipe fun i hi => hi]
      unfold tYes
      simp only [↓reduceIte]
      have h0' : ∀ i ∈ is, i ≠ 0 := fun i hh => h0 i (hi i hh)
      have S4 := S3.setAll h0' rvs
      have N4 : Nest X.K b F3 H3 (setAll (L2.wipe σ ws) is vs) (setAllE env2 is xs) D qs rw2 := N3.free fun a _ fr => free_setAllN rvs.len fr
      refine ⟨rb b F3 H3 (setAll (L2.wipe σ ws) is vs) (setAllE env2 is xs), F3, _, .list dy, ey, S4.rebase, h5, fun q F5 H5 l5 S5 fr => ?_⟩
      have N5 := N4.held S4 S5
      have S6 := (S4.unbase S5).wipe h0
      have wEq : L2.wipe (setAll (L2.wipe σ ws) is vs) ws = L2.wipe σ ws := by rw [wipe_setAll hi, wipe_wipe fun i hi => hi]
      rw [wEq] at S6
      have wf : ∀ {a : Addr}, Free (setAll (L2.wipe σ ws) is vs) ey a → Free (L2.wipe σ ws) (wipeE ey ws) a := fun {a} fr i e he z => by
        obtain ⟨m1, m2⟩ := wipeE_get he
        rw [← wEq, wipe_get m2] at z
        exact fr i e m1 z
      have N6 : Nest X.K b F5 H5 (L2.wipe σ ws) (wipeE ey ws) D qs rw2 := N5.free fun a _ fr => wf fr
      have hn : q ∉ D :: qs := fun ha => by
        rcases fr.nB with z | z
        · obtain ⟨vs, hv⟩ := N4.lst q ha
          rw [show H3 q = none from z] at hv; cases hv
        · exact z (N4.2.2.2 q ha).2.1
      have nB : b.B q = none ∨ b.mu q := by
        rcases fr.nB with z | z
        · exact .inl (S4.fB z)
        · obtain ⟨i, d, g1, g2⟩ := not_free z
          obtain ⟨p', g3, _, _, g4⟩ := S4.own i d g1
          rw [g3] at g2; cases g2
          exact g4
      obtain ⟨us, u1, u2⟩ := fr.at'
      obtain ⟨n1, n2, n3'⟩ := N6.2.2.2 D (List.mem_cons_self ..)
      refine ⟨qs.map V.ref, N6.1, ?_, F5, _, qs ++ [q], rw2 ++ [dy], more', (l2.trans l3).trans l5, S6.other n1 n3' n2, N6.add hn u1 u2 fr.nF (wf fr.fr) nB, h6, by rw [hrs, List.append_assoc]; rfl⟩
      rw [List.length_map, paired_len N6.2.1]
      rw [List.length_map, hrs, List.length_append, List.length_cons] at hlen
      omega
  · cases h
/-! ### blocks that end so -/
def zX (K : Frag) (b : Bs) (f : SF) : TS := fun D σ H => ∃ F env rows env', SOk K b F H σ env ∧ f env = some (.rt (.own (.list (rows.map PyData.list))) env') ∧ ∀ p qs F' σ' H', Le F F' → SOk K b F' H' σ' env' → Nest K b F' H' σ' env' p qs rows → D.rt (.ref p) H'
structure ZXs (X : Cx) (sts : List Stmt) (f : SF) : Prop where
  ps : ∀ b, PSs X sts (zX X.K b f)
def NoRt (f : SF) : Prop := ∀ env r e', f env ≠ some (.rt r e')
theorem nr_set {i : Nat} {f : EF} : NoRt (sSet i f) := fun env r e' h => by
  obtain ⟨a, _, h2⟩ := Option.map_eq_some_iff.mp h
  cases h2
theorem zxs_cons {st : Stmt} {rest : List Stmt} {f g : SF} (n : NoRt f) (h1 : ZS X st f) (h2 : ZXs X rest g) : ZXs X (st :: rest) (sSeq f g) := ⟨fun b => pssOf (pss_cons (h1.ps b) (h2.ps b)) fun D σ H h => by
  obtain ⟨F, env, rows, env', S, e, k⟩ := h
  unfold sSeq at e
  obtain ⟨o, h1, h⟩ := Option.bind_eq_some_iff.mp e
  refine zS_mk S h1 ?_
  cases o with
  | nx e1 => exact fun F1 σ1 H1 l1 S1 => ⟨F1, e1, rows, env', S1, h, fun p qs F2 σ2 H2 l2 => k p qs F2 σ2 H2 (l1.trans l2)⟩
  | rt r e1 => exact absurd h1 (n _ _ _)
  | bk e1 => cases h
  | ct e1 => cases h⟩
theorem zxs_retComp {ws : List Nat} {rp : Pos} (hc : X.calm = true) (hN : X.N.Nodup) (hi : ZI X tg iter g1) (ok : BlkOk X.N X.env.scope scope own)
    (hg : ∀ (s : Shared) (H : Hp) (C : Addr) (cl : List (Str × Addr)) (fp : List Addr), ZG (X.blk s H scope (compEnvC scope cl C X.env) fp) tg is ft)
    (he : ∀ (s : Shared) (H : Hp) (C : Addr) (cl : List (Str × Addr)) (fp : List Addr), ZO (X.blk s H scope (compEnvC scope cl C X.env) fp) elt fe) (hws : own.map (·.2) = ws := by rfl) (h0 : ∀ i ∈ ws, i ≠ 0 := by decide) (his : ∀ i ∈ is, i ∈ ws := by decide) (hs : ∀ x, foldedSetIterable iter X.env x = pure x := by intro _; rfl) :
    ZXs X [.Return (some (.ListComp elt [⟨tg, iter, [], 0⟩] scope pos)) rp] (sRetO (eComp g1 is ft bYes fe ws)) := by
  subst hws
  exact ⟨fun b => pssOf (pss_one (ps_ret (pe_lc (g := zG X.K is ft) (tt := tYes) (te := zOx X.K fe) hc hN (piOf (hi.pi b) zIA_of) ok (fun s H C cl fp => (hg s H C cl fp).pg) (fun s H C cl fp => pts_nil) (fun s H C cl fp pins s' σ H' Q I ⟨b', q⟩ => (he s H C cl fp).pe b' pins s' σ H' Q I q) hs))) fun D σ H h => by
    obtain ⟨F, env, rows, env', S, e, k⟩ := h
    obtain ⟨⟨d, e1⟩, h1, h2⟩ := Option.map_eq_some_iff.mp e
    cases h2
    exact tLcX_of h0 his S h1 fun p qs F' H' l S' N => k p qs F' σ H' l S' N⟩
end
/-! ### the promise -/
def spX (K : Frag) (n : Nat) (m : List D → Option SV) : Sp := fun vs H Q _ => ∃ F ds rows, (Sub F H ∧ TabF K F) ∧ vs.length = n ∧ RepAll K F vs ds ∧ m ds = some (.own (.list (rows.map PyData.list))) ∧
  ∀ p qs F' H', Le F F' → Sub F' H' → (∀ a o, H a = some o → H' a = some o) → NewF F H F' → H' p = some (.lst (qs.map V.ref)) → Paired (fun q ds => ∃ vs, H' q = some (.lst vs) ∧ RepAll K F' vs ds) qs rows → (p :: qs).Nodup → (∀ a ∈ p :: qs, F' a = none ∧ H a = none) → Q (.ref p) H'
/-- either promise, as the caller likes -/
def spB (s t : Sp) : Sp := fun vs H Q E => s vs H Q E ∨ t vs H Q E
section
variable {P : Program} {w : World} {K : PySem.W.Frag} {mg : Str → Option Value} {base : Heap}
theorem fnOk_or {CX : CXT} {k : Nat} {f : Addr} {fd : FuncData} {ps : List Str} {s t : Sp} (F : FnOk P w K mg base CX k f fd ps s) (G : FnOk P w K mg base CX k f fd ps t) : FnOk P w K mg base CX k f fd ps (spB s t) :=
  ⟨fun vs H Q E q => q.elim (F.len vs H Q E) (G.len vs H Q E), fun A outer s H args us vs Q E hr he hb hv hs => hs.elim (F.run A outer s H args us vs Q E hr he hb hv) (G.run A outer s H args us vs Q E hr he hb hv)⟩
theorem Def.fst {x : Str} {k : Nat} {ps : List Str} {s t : Sp} (G : Def P w K mg base x k ps (spB s t)) : Def P w K mg base x k ps s := by
  obtain ⟨f, fd, G, h⟩ := G.ex
  exact ⟨f, fd, G.imp fun vs H Q E q => .inl q, h⟩
theorem Def.snd {x : Str} {k : Nat} {ps : List Str} {s t : Sp} (G : Def P w K mg base x k ps (spB s t)) : Def P w K mg base x k ps t := by
  obtain ⟨f, fd, G, h⟩ := G.ex
  exact ⟨f, fd, G.imp fun vs H Q E q => .inr q, h⟩
theorem fnX {x qual : Str} {st : Stmt} {f : Addr} {fd : FuncData} {N ps : List Str} {k : Nat} {body : SF} {n : Nat} (hn : ps.length = n) (hNl : n ≤ N.length) (Fn : Fun K x qual st f fd) (Sc : FnScope N ps (defScope st))
    (hb : ∀ (cdv : Value) (A : Around) (outer : List Env) (s : Shared) (H : Hp) (E : XK), Room k (A.deeper (envOfC qual (defScope st) s.heap.objs.size f cdv)) → ZXs (cxOf CX0 P w K mg base N qual (defScope st) f cdv A outer s H E).nox (defBody st) body) :
    FnOk P w K mg base CX0 (k + 1) f fd ps (spX K n (runP n N.length body)) := by
  refine Fn.ok Sc (fun vs H Q E h => ?_) (fun cdv A outer s H vs Q E hr h => ?_)
  · obtain ⟨F, ds, r, _, h, _⟩ := h
    rw [h, hn]
  · obtain ⟨F, ds, rows, ⟨sub, ht⟩, hl, rr, hm, k⟩ := h
    refine ⟨_, (hb cdv A outer s H E hr).ps ⟨H, F, fun _ => False, none⟩, ?_⟩
    have S0 := sok_start (N := N) sub ht rr hl hNl
    unfold runP at hm
    rw [if_pos (by rw [← rr.len, hl])] at hm
    unfold endOf at hm
    split at hm
    · rename_i r' env' hb'
      obtain rfl := Option.some.inj hm
      refine ⟨F, _, rows, env', S0, hb', fun p qs F' σ' H' l S N => ?_⟩
      refine k p qs F' H' l S.sub (fun a o e => S.keep a o e id) (fun a u e => ?_) N.1 N.2.1 N.2.2.1 fun a ha => ?_
      · rcases S.newF a u e with z | z | z | z
        · exact .inl z
        · exact .inr (.inl z)
        · exact z.elim
        · exact .inr (.inr z)
      · obtain ⟨n1, _, n3⟩ := N.2.2.2 a ha
        rcases n3 with z | z
        · exact ⟨n1, z⟩
        · exact z.elim
    · cases hm
    · cases hm
end
end Z

/-! A fresh list of fresh lists, spoilt: each grows by a number, and it itself too. -/
namespace Z
open PySem PySem.Spec PyProof.Rows L2 PySem.W
theorem zo_if {X : Cx} {c e1 e2 : Expr} {t1 : BF} {f1 f2 : EF} {pos : Pos} (hc : ZT X c t1) (ha : ZO X e1 f1) (hb : ZO X e2 f2) : ZO X (.IfExp c e1 e2 pos) (eIf t1 f1 f2) :=
  ⟨fun b => peOf (pe_ifExp (hc.pt b) (ha.pe b) (hb.pe b)) fun σ H Q ⟨F, env, d, env', S, e, k⟩ => by
    unfold eIf at e
    obtain ⟨⟨d1, e1⟩, h1, h⟩ := Option.bind_eq_some_iff.mp e
    refine ⟨F, env, d1, e1, S, h1, fun F1 H1 l1 S1 => ?_⟩
    cases d1 with
    | true => exact iteT ⟨F1, e1, d, env', S1, h, fun v F2 H2 l2 S2 r2 => k v F2 H2 (l1.trans l2) S2 r2⟩
    | false => exact iteF ⟨F1, e1, d, env', S1, h, fun v F2 H2 l2 S2 r2 => k v F2 H2 (l1.trans l2) S2 r2⟩⟩
theorem nr_ifNone {t : BF} : NoRt (sIf t sNone sNx) := fun env r e' h => by
  unfold sIf at h
  obtain ⟨a, _, h2⟩ := Option.bind_eq_some_iff.mp h
  split at h2 <;> cases h2
/-- a list with room for one more -/
def shortList : D → Bool
  | .list ds => decide (ds.length < sizeLine)
  | _ => false
theorem short_rows : ∀ {rs : List D}, rs.all shortList = true → ∃ rows : List (List D), rs = rows.map PyData.list ∧ ∀ ds ∈ rows, ds.length < sizeLine
  | [], _ => ⟨[], rfl, fun _ h => by cases h⟩
  | r :: rs, h => by
    rw [List.all_cons, Bool.and_eq_true] at h
    obtain ⟨rows, h1, h2⟩ := short_rows h.2
    cases r <;> simp only [shortList, Bool.false_eq_true, false_and, decide_eq_true_eq] at h
    rename_i ds
    refine ⟨ds :: rows, by rw [h1]; rfl, fun d hd => ?_⟩
    rcases List.mem_cons.mp hd with rfl | hd
    · exact h.1
    · exact h2 d hd
def sSpoil (i j : Nat) (m : List D → Option SV) (g : AF) (f : SF) : SF := fun env => (g env).bind fun a => match m a.1 with
  | some (.own (.list rs)) => if i < a.2.length ∧ j < a.2.length ∧ rs.length < sizeLine ∧ rs.all shortList = true then f ((a.2.set i none).set j none) else none
  | _ => none
section
variable {K : Frag} {b : Bs} {F F' H H' : Hp} {σ σ' : St} {env env' : En} {p q : Addr} {qs : List Addr} {rows : List (List D)}
theorem free_setNone {a : Addr} {i : Nat} {x : Option V} (h : Free σ env a) : Free (σ.set i x) (env.set i none) a := fun j d he z => by
  by_cases q : i = j
  · subst q
    have hlt := (List.getElem?_eq_some_iff.mp he).1
    rw [List.length_set] at hlt
    rw [List.getElem?_set_self hlt] at he
    cases he
  · rw [List.getElem?_set_ne q] at he z
    exact h j d he z
theorem free_none {a : Addr} {i : Nat} (h : Free σ env a) : Free σ (env.set i none) a := fun j d he z => by
  by_cases q : i = j
  · subst q
    have hlt := (List.getElem?_eq_some_iff.mp he).1
    rw [List.length_set] at hlt
    rw [List.getElem?_set_self hlt] at he
    cases he
  · rw [List.getElem?_set_ne q] at he
    exact h j d he z
theorem SOk.forget (S : SOk K b F H σ env) {i : Nat} (hi : i ≠ 0) (hl : i < σ.length) : SOk K b F H σ (env.set i none) := by
  have := S.setAny (i := i) (x := σ[i]) hi
  rwa [set_same (List.getElem?_eq_getElem hl)] at this
end
section
variable {X : Cx} {i j k0 kj : Nat} {e : Expr} {es : List Expr} {g1 : AF} {f : SF} {rest : List Stmt} {x y z : Str} {n : Nat} {m : List D → Option SV} {ps : List Str} {c c' : Int}
theorem zss_spoil (i j : Nat) {p1 p2 p3 p4 p5 pz cpos spos fpos apos apos' cp cp' mpos mpos' epos epos' : Pos} {u u' : Nat} (hN : X.N.Nodup) (hp : PassesOwn (model X.prog X.w) X.A X.env X.xe) (hc : X.calm = true)
    (G : Def X.prog X.w X.K X.mg X.base x k0 ps (spX X.K n m)) (hlen : ∀ ds r, m ds = some r → ds.length = n) (hr : Room kj X.A) (ha : ZA X (e :: es) g1) (hR : ZSs X rest f) (hkj : k0 ≤ kj := by decide) (hi0 : i ≠ 0 := by decide) (hj0 : j ≠ 0 := by decide) (hij : j ≠ i := by decide)
    (hg : Gl X x := by rfl) (hdb : (x == ("__debug__" : Str)) = false := by decide) (he : starEach (e :: es) X.env = (false, eval e X.env) :: starEach es X.env := by rfl) (hpl : (backTo cpos (starEach es X.env)).any (·.1) = false := by rfl)
    (hy : X.N[i]? = some y := by rfl) (hyl : Loc X.env.scope y := by first | exact Or.inl rfl | exact Or.inr rfl) (hsw : swapsWith (.Call (.Name x p1) (e :: es) [] cpos) (some (.Name y p2)) spos.line X.env = pure false := by rfl)
    (hyf : X.fn y = true ∨ X.env.scope.names.lookup y = some .local := by first | exact .inl rfl | exact .inr rfl | assumption)
    (hyv : Vis X.env.scope y := by first | exact Or.inl rfl | exact Or.inr (Or.inl rfl) | exact Or.inr (Or.inr rfl)) (hyd : (y == ("__debug__" : Str)) = false := by decide) (hycd : (y == ("__classdict__" : Str)) = false := by decide)
    (hz : X.N[j]? = some z := by rfl) (hzl : Loc X.env.scope z := by first | exact Or.inl rfl | exact Or.inr rfl)
    (hzf : X.fn z = true ∨ X.env.scope.names.lookup z = some .local := by first | exact .inl rfl | exact .inr rfl | assumption)
    (hzv : Vis X.env.scope z := by first | exact Or.inl rfl | exact Or.inr (Or.inl rfl) | exact Or.inr (Or.inr rfl)) (hzd : (z == ("__debug__" : Str)) = false := by decide) (hzcd : (z == ("__classdict__" : Str)) = false := by decide)
    (hsi : ∀ v, foldedSetIterable (.Name y p3) X.env v = pure v := by intro _; rfl)
    (hbase : attributeBase (.Name z p4) "append" X.env (eval (.Name z p4) X.env) = eval (.Name z p4) X.env := by rfl)
    (hfew : ((backTo mpos (starEach [.Constant (.int c) u cp] X.env)).all (fun x => !x.1) && (backToKw mpos (keywordEach [] X.env)).all (fun x => x.1.isSome)
      && decide (([.Constant (.int c) u cp] : List Expr).length + ([] : List Keyword).length + (if ([] : List Keyword).isEmpty then 0 else 1) < 30)) = true := by rfl)
    (hline : (apos.endLine == mpos.line) = true := by rfl) (hst : starEach [.Constant (.int c) u cp] X.env = (false, eval (.Constant (.int c) u cp) X.env) :: starEach [] X.env := by rfl) (hpl2 : (backTo mpos (starEach [] X.env)).any (·.1) = false := by rfl)
    (hs : swapsWith (.Call (.Attribute (.Name z p4) "append" apos) [.Constant (.int c) u cp] [] mpos) none epos.line X.env = pure false := by rfl)
    (hbase' : attributeBase (.Name y p5) "append" X.env (eval (.Name y p5) X.env) = eval (.Name y p5) X.env := by rfl)
    (hfew' : ((backTo mpos' (starEach [.Constant (.int c') u' cp'] X.env)).all (fun x => !x.1) && (backToKw mpos' (keywordEach [] X.env)).all (fun x => x.1.isSome)
      && decide (([.Constant (.int c') u' cp'] : List Expr).length + ([] : List Keyword).length + (if ([] : List Keyword).isEmpty then 0 else 1) < 30)) = true := by rfl)
    (hline' : (apos'.endLine == mpos'.line) = true := by rfl) (hst' : starEach [.Constant (.int c') u' cp'] X.env = (false, eval (.Constant (.int c') u' cp') X.env) :: starEach [] X.env := by rfl) (hpl2' : (backTo mpos' (starEach [] X.env)).any (·.1) = false := by rfl)
    (hs' : swapsWith (.Call (.Attribute (.Name y p5) "append" apos') [.Constant (.int c') u' cp'] [] mpos') none epos'.line X.env = pure false := by rfl) :
    ZSs X (.Assign [.Name y p2] (.Call (.Name x p1) (e :: es) [] cpos) spos :: .For (.Name z pz) (.Name y p3) [.Expr (.Call (.Attribute (.Name z p4) "append" apos) [.Constant (.int c) u cp] [] mpos) epos] [] fpos ::
      .Expr (.Call (.Attribute (.Name y p5) "append" apos') [.Constant (.int c') u' cp'] [] mpos') epos' :: rest) (sSpoil i j m g1 f) := by
  obtain ⟨fa, fd, G, hm, hk, hb⟩ := G.ex
  exact ⟨fun b => pssOf (pss_cons (ps_set hN hy hyl (pe_call (E := E0) G (hr.mono hkj) hg hm hk hb .nil pass0 (ha.pa b) hdb he hpl) hsw hyf)
    (pss_cons (ps_for hp hc (pi_list (pe_var hy hyv hyd hycd)) (pg_name hN hz hzl hzf) (pss_one (ps_expr (pe_bm PySem.F.plainAttrs_list PySem.F.slot_list_append PySem.F.type_list_append mt_append (pe_var hz hzv hzd hzcd) (pa_cons pe_int pa_nil hst) hbase hfew hline hst hpl2) hs)) hsi)
    (pss_cons (ps_expr (pe_bm PySem.F.plainAttrs_list PySem.F.slot_list_append PySem.F.type_list_append mt_append (pe_var hy hyv hyd hycd) (pa_cons pe_int pa_nil hst') hbase' hfew' hline' hst' hpl2') hs') (hR.ps b)))) fun D σ H h => by
    obtain ⟨F, env, o, S, e, k⟩ := zS_un h
    unfold sSpoil at e
    obtain ⟨⟨d1, e1⟩, h1, h⟩ := Option.bind_eq_some_iff.mp e
    dsimp only at h
    split at h
    · rename_i rs hmm
      split at h
      · rename_i hall
        obtain ⟨hil, hjl, hrl, hsh⟩ := hall
        obtain ⟨rows, hrows, hshort⟩ := short_rows hsh
        subst hrows
        refine ⟨F, env, d1, e1, S, h1, fun v F1 H1 l1 S1 r1 => ?_⟩
        show spX X.K n m (v ++ []) H1 _ E0
        rw [List.append_nil]
        refine ⟨F1, d1, rows, ⟨S1.sub, S1.tab.le S1.le⟩, by rw [r1.len]; exact hlen _ _ hmm, r1, hmm, fun p qs F2 H2 l2 sub kp nF hp2 pr nd hf => ?_⟩
        have hil' : i < σ.length := by rw [S1.len]; exact hil
        have hjl' : j < σ.length := by rw [S1.len]; exact hjl
        have S2 := ((S1.grow l2 sub kp nF).setAny (i := i) (x := some (.ref p)) hi0).forget hj0 (by rw [List.length_set]; exact hjl')
        have N2 : Nest X.K b F2 H2 (σ.set i (some (.ref p))) ((e1.set i none).set j none) p qs rows := ⟨hp2, pr, nd, fun a ha => ⟨(hf a ha).1, free_none (free_setNone (S1.free (hf a ha).2)), .inl (S1.fB (hf a ha).2)⟩⟩
        have hlen2 := paired_len pr
        refine ⟨.ref p, List.getElem?_set_self hil', p, rfl, ⟨_, SqL.of hp2⟩, fun t w σ3 H3 => w = qs.length - t ∧ Hold i (.ref p) σ3 ∧ j < σ3.length ∧ ∃ rows3, SOk X.K b F2 H3 σ3 ((e1.set i none).set j none) ∧ Nest X.K b F2 H3 σ3 ((e1.set i none).set j none) p qs rows3 ∧ ∀ t', t ≤ t' → ∀ ds, rows3[t']? = some ds → ds.length < sizeLine,
          ⟨qs.length, rfl, List.getElem?_set_self hil', by rw [List.length_set]; exact hjl', rows, S2, N2, fun t' _ ds hd => hshort ds (List.mem_of_getElem? hd)⟩, ?_⟩
        rintro t w σ3 H3 ⟨hw, hC, hjl3, rows3, S3, N3, hsh3⟩
        cases hq : qs[t]? with
        | none =>
          have hle : qs.length ≤ t := List.getElem?_eq_none_iff.mp hq
          obtain ⟨n1, n2, n3⟩ := N3.2.2.2 p (List.mem_cons_self ..)
          refine .inl ⟨⟨_, SqL.of N3.1, by rw [List.length_map]; exact hle⟩, .ref p, hC, .inl ⟨rfl, _, SqL.of N3.1⟩, ?_⟩
          refine ⟨p, _, .int c', rfl, rfl, N3.1, ?_, zS_mk (S3.other n1 n3 n2) h (k.mono (l1.trans l2))⟩
          rw [List.length_map] at hrl ⊢
          rw [hlen2]
          exact hrl
        | some q =>
          have hlt : t < qs.length := (List.getElem?_eq_some_iff.mp hq).1
          have hmem : q ∈ p :: qs := List.mem_cons_of_mem _ (List.mem_of_getElem? hq)
          have hat : (qs.map V.ref)[t]? = some (.ref q) := by rw [List.getElem?_map, hq]; rfl
          refine .inr ⟨⟨_, _, SqL.of N3.1, hat⟩, fun σ4 H4 => Hold i (.ref p) σ4 ∧ j < σ4.length ∧ ∃ rows3, SOk X.K b F2 H4 σ4 ((e1.set i none).set j none) ∧ Nest X.K b F2 H4 σ4 ((e1.set i none).set j none) p qs rows3 ∧ ∀ t', t + 1 ≤ t' → ∀ ds, rows3[t']? = some ds → ds.length < sizeLine,
            fun σ4 H4 h4 => ⟨qs.length - (t + 1), by omega, rfl, h4⟩, fun v3 H4 hyl => ?_⟩
          obtain ⟨e1', e2'⟩ := hyl
          subst e1'
          have := e2' _ (SqL.of N3.1)
          rw [hat] at this
          cases this
          have S4 : SOk X.K b F2 H4 (σ3.set j (some (.ref q))) ((e1.set i none).set j none) := by
            have := S3.setAny (i := j) (x := some (.ref q)) hj0
            rwa [List.set_set] at this
          have N4 : Nest X.K b F2 H4 (σ3.set j (some (.ref q))) ((e1.set i none).set j none) p qs rows3 := N3.free fun a _ fr => by
            have := free_setNone (i := j) (x := some (.ref q)) fr
            rwa [List.set_set] at this
          obtain ⟨ds, g1, vs, g2, g3⟩ := paired_get N4.2.1 hq
          obtain ⟨n1, n2, n3⟩ := N4.2.2.2 q hmem
          refine ⟨.ref q, List.getElem?_set_self hjl3, .inl ⟨rfl, _, SqL.of g2⟩, ?_⟩
          refine ⟨q, vs, .int c, rfl, rfl, g2, by rw [g3.len]; exact hsh3 t (Nat.le_refl _) ds g1, hold_set hC hij, by rw [List.length_set]; exact hjl3, rows3.set t (ds ++ [.int c]), S4.other n1 n3 n2, N4.put hq (g3.append (.cons (.int c) .nil)), fun t' ht ds' hd => ?_⟩
          rw [List.getElem?_set_ne (by omega)] at hd
          exact hsh3 t' (by omega) ds' hd
      · cases h
    · cases h⟩
end
end Z

namespace K13
open PySem L2 Z
def b__law_start : SF := (sSeq (sSet 1 (eC (.int 1))) (sSeq (sFor (iL (eVar 0)) [2] t1 (sSet 1 (eBin gMod (eBin gPlus (eBin gPlus (eBin gMul (eVar 1) (eC (.int 48271))) (eVar 2)) (eC (.int 7))) (eC (.int 2147483647))))) (sRetO (eLst (aCons (eVar 0) (aCons (eC (.int 0)) (aCons (eVar 1) (aCons (eC (.int 0)) aNil))))))))
def m__law_start : List D → Option SV := runP 1 3 b__law_start
def b_is_number : SF := (sSeq (sIf (bNot (bT (eCB gAll (aCons (eComp (iS (eVar 0)) [1] t1 bYes (eBin gInSign (eVar 1) (eC (.str "0123456789"))) [1]) aNil)))) (sRet (eC (.bool false))) sNx) (sRet (eOr (eBin gEq (eCB gLenS (aCons (eVar 0) aNil)) (eC (.int 1))) (eAnd (eBin gEq (eCB gLenS (aCons (eVar 0) aNil)) (eC (.int 2))) (eBin gNe (eBin gIxS (eVar 0) (eC (.int 0))) (eC (.str "0")))))))
def m_is_number : List D → Option SV := runP 1 2 b_is_number
def b_is_written_scan : SF := (sSeq (sSet 1 (eSplit (eVar 0) (eC (.str "/")))) (sRet (eAnd (eBin gEq (eCB gLen (aCons (eVar 1) aNil)) (eC (.int 2))) (eCB gAll (aCons (eComp (iL (eVar 1)) [2] t1 bYes (eOr (eBin gEq (eVar 2) (eC (.str "-"))) (eCall m_is_number (aCons (eVar 2) aNil))) [2]) aNil)))))
def m_is_written_scan : List D → Option SV := runP 1 3 b_is_written_scan
def b_is_written_run : SF := (sSeq (sIf (bT (eBin gEq (eVar 0) (eC (.str ".")))) (sRet (eC (.bool true))) sNx) (sSeq (sSet 1 (eSplit (eVar 0) (eC (.str " ")))) (sRet (eAnd (eBin gLe (eCB gLen (aCons (eVar 1) aNil)) (eC (.int 20))) (eCB gAll (aCons (eComp (iL (eVar 1)) [2] t1 bYes (eCall m_is_written_scan (aCons (eVar 2) aNil)) [2]) aNil))))))
def m_is_written_run : List D → Option SV := runP 1 3 b_is_written_run
def b_first_wrong : SF := (sSeq (sFor (iEn (aCons (eVar 0) aNil)) [1, 2] (tN 2) (sIf (bOr (bT (eBin gEq (eVar 1) (eC (.int 12)))) (bNot (bT (eCall m_is_written_run (aCons (eVar 2) aNil))))) (sRet (eVar 1)) sNx)) (sRet (eC .none)))
def m_first_wrong : List D → Option SV := runP 1 3 b_first_wrong
def b_read_page : SF := (sRet (eIf (bT (eBin gEq (eVar 0) (eC (.str "-")))) (eC .none) (eCB gIntS (aCons (eVar 0) aNil))))
def m_read_page : List D → Option SV := runP 1 1 b_read_page
def b_read_scan : SF := (sSeq (sTgt [1, 2] (tL 2) (eSplit (eVar 0) (eC (.str "/")))) (sRet (eTup (aCons (eCall m_read_page (aCons (eVar 1) aNil)) (aCons (eCall m_read_page (aCons (eVar 2) aNil)) aNil)))))
def m_read_scan : List D → Option SV := runP 1 3 b_read_scan
def b_read_run : SF := (sRetO (eIf (bT (eBin gEq (eVar 0) (eC (.str ".")))) (eLst aNil) (eComp (iL (eSplit (eVar 0) (eC (.str " ")))) [1] t1 bYes (eCall m_read_scan (aCons (eVar 1) aNil)) [1])))
def m_read_run : List D → Option SV := runP 1 2 b_read_run
def b_read : SF := (sSeq (sSet 1 (eIf (bTruS (eVar 0)) (eSplit (eVar 0) (eC (.str "\n"))) (eLst aNil))) (sSeq (sSet 2 (eCall m_first_wrong (aCons (eVar 1) aNil))) (sSeq (sIf (bT (eBin gIsNot (eVar 2) (eC .none))) sNone sNx) (sRetO (eComp (iL (eVar 1)) [3] t1 bYes (eCallO m_read_run (aCons (eVar 3) aNil)) [3])))))
def m_read : List D → Option SV := runP 1 4 b_read
def b__law_drawn : SF := (sSeq (sIf (bT (eBin gGt (eIxB 0 (eC (.int 3))) (eC (.int 0)))) (sSeq (sSet 2 (eBin gMod (eIxB 0 (eC (.int 3))) (eVar 1))) (sSeq (sPut 0 (eC (.int 3)) (eBin gDiv (eIxB 0 (eC (.int 3))) (eVar 1))) (sRet (eVar 2)))) sNx) (sSeq (sPut 0 (eC (.int 1)) (eBin gPlus (eIxB 0 (eC (.int 1))) (eC (.int 1)))) (sSeq (sIf (bT (eBin gLe (eIxB 0 (eC (.int 1))) (eCB gLen (aCons (eIxB 0 (eC (.int 0))) aNil)))) (sSeq (sSet 3 (eBin gIx (eIxB 0 (eC (.int 0))) (eBin gSub (eIxB 0 (eC (.int 1))) (eC (.int 1))))) (sSeq (sPut 0 (eC (.int 3)) (eIf (bT (eBin gGe (eVar 3) (eBin gPow (eC (.int 10)) (eC (.int 18))))) (eBin gDiv (eVar 3) (eVar 1)) (eC (.int 0)))) (sRet (eBin gMod (eVar 3) (eVar 1))))) sNx) (sSeq (sPut 0 (eC (.int 2)) (eBin gMod (eBin gPlus (eBin gMul (eIxB 0 (eC (.int 2))) (eC (.int 48271))) (eC (.int 11))) (eC (.int 2147483647)))) (sRet (eBin gMod (eBin gDiv (eIxB 0 (eC (.int 2))) (eC (.int 7))) (eVar 1)))))))
def m__law_drawn : D → List D → Option (SV × D) := runIO 1 4 b__law_drawn
def b__law_any : SF := (sSeq (sSetO 1 (eLst aNil)) (sSeq (sFor (iR1 (aCons (eCallIO 0 m__law_drawn (aCons (eBin gIx (eLst (aCons (eC (.int 4)) (aCons (eC (.int 13)) aNil))) (eCallIO 0 m__law_drawn (aCons (eC (.int 2)) aNil))) aNil)) aNil)) [2] t1 (sSeq (sSetO 3 (eLst aNil)) (sSeq (sFor (iR1 (aCons (eCallIO 0 m__law_drawn (aCons (eBin gIx (eLst (aCons (eC (.int 4)) (aCons (eC (.int 21)) aNil))) (eCallIO 0 m__law_drawn (aCons (eC (.int 2)) aNil))) aNil)) aNil)) [4] t1 (sSeq (sSetO 5 (eLst aNil)) (sSeq (sFor (iT (eTup (aCons (eC (.int 0)) (aCons (eC (.int 1)) aNil)))) [6] t1 (sApp 5 (aCons (eBin gIx (eLst (aCons (eC .none) (aCons (eCallIO 0 m__law_drawn (aCons (eC (.int 10)) aNil)) (aCons (eCallIO 0 m__law_drawn (aCons (eC (.int 100)) aNil)) aNil)))) (eCallIO 0 m__law_drawn (aCons (eC (.int 3)) aNil))) aNil))) (sApp 3 (aCons (eTuple (aCons (eVarF 5) aNil)) aNil))))) (sApp 1 (aCons (eVarF 3) aNil))))) (sRetV 1)))
def m__law_any : D → List D → Option (SV × D) := runIO 0 7 b__law_any
def b__law_same_lv0 : SF := sNone
def m__law_same_lv0 : List D → Option SV := runP 2 3 b__law_same_lv0
def b__law_same_lv1 : SF := (sSeq (sIf (bT (eInst2 "tuple" "list" (eVar 1))) (sSeq (sIf (bOr (bNot (bT (eInst2 "tuple" "list" (eVar 0)))) (bT (eBin gNe (eInst "list" (eVar 0)) (eInst "list" (eVar 1))))) (sRet (eC (.bool false))) sNx) (sSeq (sIf (bT (eBin gNe (eCB gLen (aCons (eVar 0) aNil)) (eCB gLen (aCons (eVar 1) aNil)))) (sRet (eC (.bool false))) sNx) (sRet (eBin gEq (eComp (iR1 (aCons (eCB gLen (aCons (eVar 1) aNil)) aNil)) [2] t1 (bNot (bT (eCall m__law_same_lv0 (aCons (eBin gIx (eVar 0) (eVar 2)) (aCons (eBin gIx (eVar 1) (eVar 2)) aNil))))) (eVar 2) [2]) (eLst aNil))))) sNx) (sSeq (sIf (bT (eBin gIs (eVar 1) (eC .none))) (sRet (eBin gIs (eVar 0) (eC .none))) sNx) (sSeq (sIf (bT (eInst "str" (eVar 1))) (sRet (eAnd (eInst "str" (eVar 0)) (eBin gEq (eVar 0) (eVar 1)))) sNx) (sSeq (sIf (bOr (bT (eInst "bool" (eVar 1))) (bT (eInst "bool" (eVar 0)))) (sRet (eAnd (eInst "bool" (eVar 1)) (eAnd (eInst "bool" (eVar 0)) (eBin gEq (eVar 0) (eVar 1))))) sNx) (sRet (eAnd (eInst "int" (eVar 0)) (eBin gEq (eVar 0) (eVar 1))))))))
def m__law_same_lv1 : List D → Option SV := runP 2 3 b__law_same_lv1
def b__law_same_lv2 : SF := (sSeq (sIf (bT (eInst2 "tuple" "list" (eVar 1))) (sSeq (sIf (bOr (bNot (bT (eInst2 "tuple" "list" (eVar 0)))) (bT (eBin gNe (eInst "list" (eVar 0)) (eInst "list" (eVar 1))))) (sRet (eC (.bool false))) sNx) (sSeq (sIf (bT (eBin gNe (eCB gLen (aCons (eVar 0) aNil)) (eCB gLen (aCons (eVar 1) aNil)))) (sRet (eC (.bool false))) sNx) (sRet (eBin gEq (eComp (iR1 (aCons (eCB gLen (aCons (eVar 1) aNil)) aNil)) [2] t1 (bNot (bT (eCall m__law_same_lv1 (aCons (eBin gIx (eVar 0) (eVar 2)) (aCons (eBin gIx (eVar 1) (eVar 2)) aNil))))) (eVar 2) [2]) (eLst aNil))))) sNx) (sSeq (sIf (bT (eBin gIs (eVar 1) (eC .none))) (sRet (eBin gIs (eVar 0) (eC .none))) sNx) (sSeq (sIf (bT (eInst "str" (eVar 1))) (sRet (eAnd (eInst "str" (eVar 0)) (eBin gEq (eVar 0) (eVar 1)))) sNx) (sSeq (sIf (bOr (bT (eInst "bool" (eVar 1))) (bT (eInst "bool" (eVar 0)))) (sRet (eAnd (eInst "bool" (eVar 1)) (eAnd (eInst "bool" (eVar 0)) (eBin gEq (eVar 0) (eVar 1))))) sNx) (sRet (eAnd (eInst "int" (eVar 0)) (eBin gEq (eVar 0) (eVar 1))))))))
def m__law_same_lv2 : List D → Option SV := runP 2 3 b__law_same_lv2
def b__law_same_lv3 : SF := (sSeq (sIf (bT (eInst2 "tuple" "list" (eVar 1))) (sSeq (sIf (bOr (bNot (bT (eInst2 "tuple" "list" (eVar 0)))) (bT (eBin gNe (eInst "list" (eVar 0)) (eInst "list" (eVar 1))))) (sRet (eC (.bool false))) sNx) (sSeq (sIf (bT (eBin gNe (eCB gLen (aCons (eVar 0) aNil)) (eCB gLen (aCons (eVar 1) aNil)))) (sRet (eC (.bool false))) sNx) (sRet (eBin gEq (eComp (iR1 (aCons (eCB gLen (aCons (eVar 1) aNil)) aNil)) [2] t1 (bNot (bT (eCall m__law_same_lv2 (aCons (eBin gIx (eVar 0) (eVar 2)) (aCons (eBin gIx (eVar 1) (eVar 2)) aNil))))) (eVar 2) [2]) (eLst aNil))))) sNx) (sSeq (sIf (bT (eBin gIs (eVar 1) (eC .none))) (sRet (eBin gIs (eVar 0) (eC .none))) sNx) (sSeq (sIf (bT (eInst "str" (eVar 1))) (sRet (eAnd (eInst "str" (eVar 0)) (eBin gEq (eVar 0) (eVar 1)))) sNx) (sSeq (sIf (bOr (bT (eInst "bool" (eVar 1))) (bT (eInst "bool" (eVar 0)))) (sRet (eAnd (eInst "bool" (eVar 1)) (eAnd (eInst "bool" (eVar 0)) (eBin gEq (eVar 0) (eVar 1))))) sNx) (sRet (eAnd (eInst "int" (eVar 0)) (eBin gEq (eVar 0) (eVar 1))))))))
def m__law_same_lv3 : List D → Option SV := runP 2 3 b__law_same_lv3
def b__law_same_lv4 : SF := (sSeq (sIf (bT (eInst2 "tuple" "list" (eVar 1))) (sSeq (sIf (bOr (bNot (bT (eInst2 "tuple" "list" (eVar 0)))) (bT (eBin gNe (eInst "list" (eVar 0)) (eInst "list" (eVar 1))))) (sRet (eC (.bool false))) sNx) (sSeq (sIf (bT (eBin gNe (eCB gLen (aCons (eVar 0) aNil)) (eCB gLen (aCons (eVar 1) aNil)))) (sRet (eC (.bool false))) sNx) (sRet (eBin gEq (eComp (iR1 (aCons (eCB gLen (aCons (eVar 1) aNil)) aNil)) [2] t1 (bNot (bT (eCall m__law_same_lv3 (aCons (eBin gIx (eVar 0) (eVar 2)) (aCons (eBin gIx (eVar 1) (eVar 2)) aNil))))) (eVar 2) [2]) (eLst aNil))))) sNx) (sSeq (sIf (bT (eBin gIs (eVar 1) (eC .none))) (sRet (eBin gIs (eVar 0) (eC .none))) sNx) (sSeq (sIf (bT (eInst "str" (eVar 1))) (sRet (eAnd (eInst "str" (eVar 0)) (eBin gEq (eVar 0) (eVar 1)))) sNx) (sSeq (sIf (bOr (bT (eInst "bool" (eVar 1))) (bT (eInst "bool" (eVar 0)))) (sRet (eAnd (eInst "bool" (eVar 1)) (eAnd (eInst "bool" (eVar 0)) (eBin gEq (eVar 0) (eVar 1))))) sNx) (sRet (eAnd (eInst "int" (eVar 0)) (eBin gEq (eVar 0) (eVar 1))))))))
def m__law_same_lv4 : List D → Option SV := runP 2 3 b__law_same_lv4
def b__law_same_lv5 : SF := (sSeq (sIf (bT (eInst2 "tuple" "list" (eVar 1))) (sSeq (sIf (bOr (bNot (bT (eInst2 "tuple" "list" (eVar 0)))) (bT (eBin gNe (eInst "list" (eVar 0)) (eInst "list" (eVar 1))))) (sRet (eC (.bool false))) sNx) (sSeq (sIf (bT (eBin gNe (eCB gLen (aCons (eVar 0) aNil)) (eCB gLen (aCons (eVar 1) aNil)))) (sRet (eC (.bool false))) sNx) (sRet (eBin gEq (eComp (iR1 (aCons (eCB gLen (aCons (eVar 1) aNil)) aNil)) [2] t1 (bNot (bT (eCall m__law_same_lv4 (aCons (eBin gIx (eVar 0) (eVar 2)) (aCons (eBin gIx (eVar 1) (eVar 2)) aNil))))) (eVar 2) [2]) (eLst aNil))))) sNx) (sSeq (sIf (bT (eBin gIs (eVar 1) (eC .none))) (sRet (eBin gIs (eVar 0) (eC .none))) sNx) (sSeq (sIf (bT (eInst "str" (eVar 1))) (sRet (eAnd (eInst "str" (eVar 0)) (eBin gEq (eVar 0) (eVar 1)))) sNx) (sSeq (sIf (bOr (bT (eInst "bool" (eVar 1))) (bT (eInst "bool" (eVar 0)))) (sRet (eAnd (eInst "bool" (eVar 1)) (eAnd (eInst "bool" (eVar 0)) (eBin gEq (eVar 0) (eVar 1))))) sNx) (sRet (eAnd (eInst "int" (eVar 0)) (eBin gEq (eVar 0) (eVar 1))))))))
def m__law_same_lv5 : List D → Option SV := runP 2 3 b__law_same_lv5
def b_written_page : SF := (sRet (eIf (bT (eBin gIs (eVar 0) (eC .none))) (eC (.str "-")) (eCB gStrI (aCons (eVar 0) aNil))))
def m_written_page : List D → Option SV := runP 1 1 b_written_page
def b_written_scan : SF := (sRet (eJoin (eC (.str "/")) (eComp (iT (eVar 0)) [1] t1 bYes (eCall m_written_page (aCons (eVar 1) aNil)) [1])))
def m_written_scan : List D → Option SV := runP 1 2 b_written_scan
def b_written_run : SF := (sRet (eIf (bTru (eVar 0)) (eJoin (eC (.str " ")) (eComp (iL (eVar 0)) [1] t1 bYes (eCall m_written_scan (aCons (eVar 1) aNil)) [1])) (eC (.str "."))))
def m_written_run : List D → Option SV := runP 1 2 b_written_run
def b_written : SF := (sSeq (sSet 1 (eComp (iL (eVar 0)) [3] t1 bYes (eCall m_written_run (aCons (eVar 3) aNil)) [3])) (sSeq (sSet 2 (eCall m_first_wrong (aCons (eVar 1) aNil))) (sSeq (sIf (bT (eBin gIsNot (eVar 2) (eC .none))) sNone sNx) (sRet (eJoin (eC (.str "\n")) (eVar 1))))))
def m_written : List D → Option SV := runP 1 4 b_written
def b_law : SF := (sSeq (sSetO 1 (eCallO m__law_start (aCons (eVar 0) aNil))) (sSeq (sFor (iR1 (aCons (eC (.int 4)) aNil)) [2] t1 (sSeq (sParM [3, 4] (mVal (eCallIO 1 m__law_any aNil) (mOwn (eLst aNil) mNil))) (sSeq (sFor (iL (eVar 3)) [5] t1 (sSeq (sSetO 6 (eLst aNil)) (sSeq (sFor (iL (eVar 5)) [7, 8] (tN 2) (sApp 6 (aCons (eBin gAddS (eBin gAddS (eIf (bT (eBin gIs (eVar 7) (eC .none))) (eC (.str "-")) (eCB gStrI (aCons (eVar 7) aNil))) (eC (.str "/"))) (eIf (bT (eBin gIs (eVar 8) (eC .none))) (eC (.str "-")) (eCB gStrI (aCons (eVar 8) aNil)))) aNil))) (sApp 4 (aCons (eIf (bT (eCmpB gNe 6 (eLst aNil))) (eJoin (eC (.str " ")) (eVarF 6)) (eC (.str "."))) aNil))))) (sSeq (sParM [9, 10] (mVal (eJoin (eC (.str "\n")) (eVarF 4)) (mVal (eComp (iL (eVar 3)) [5] t1 bYes (eList (aCons (eVar 5) aNil)) [5]) mNil))) (sSeq (sIf (bOr (bNot (bT (eCall m__law_same_lv5 (aCons (eCall m_written (aCons (eVar 10) aNil)) (aCons (eVar 9) aNil))))) (bOr (bT (eBin gNe (eVar 10) (eVar 3))) (bNot (bT (eCall m__law_same_lv5 (aCons (eCall m_read (aCons (eVar 9) aNil)) (aCons (eVar 3) aNil))))))) (sRet (eC (.bool false))) sNx) (sSpoil 11 5 m_read (aCons (eVar 9) aNil) (sIf (bNot (bT (eCall m__law_same_lv5 (aCons (eCall m_read (aCons (eVar 9) aNil)) (aCons (eVar 3) aNil))))) (sRet (eC (.bool false))) sNx))))))) (sRet (eAnd (eBin gEq (eCall m_read (aCons (eC (.str "")) aNil)) (eLst aNil)) (eBin gEq (eCall m_written (aCons (eLst aNil) aNil)) (eC (.str "")))))))
def m_law : List D → Option SV := runP 1 12 b_law
end K13

/-! What holds behind texts. -/
namespace Z
open PySem L2 TL
section
variable {env : En} {R : D → En → Prop} {f f1 f2 : EF}
theorem we_join (h : We f1 env fun a e => We f2 e fun c e2 => ∃ (y : Str) (ys : List Str), a = .str y ∧ c = .list (ys.map PyData.str) ∧ (ys.map (·.length)).sum + ys.length * y.length ≤ 16777216 ∧ R (.str (Txt.join y ys)) e2) : We (eJoin f1 f2) env R := by
  obtain ⟨a, e, h1, hw⟩ := h.ex
  obtain ⟨c, e2, h2, y, ys, rfl, rfl, h3, h4⟩ := hw.ex
  exact ⟨_, e2, by unfold eJoin; rw [h1]; simp only [Option.bind_some]; rw [h2]; simp only [Option.bind_some]; rw [strsL_strs]; simp only [Option.bind_some]; rw [if_pos h3], h4⟩
theorem we_split (h : We f1 env fun a e => We f2 e fun c e2 => ∃ x y : Str, a = .str x ∧ c = .str y ∧ ((y.length == 0) = false ∧ x.length + 2 ≤ sizeLine) ∧ R (.list ((Txt.split x y).map PyData.str)) e2) : We (eSplit f1 f2) env R := by
  obtain ⟨a, e, h1, hw⟩ := h.ex
  obtain ⟨c, e2, h2, x, y, rfl, rfl, h3, h4⟩ := hw.ex
  exact ⟨_, e2, by unfold eSplit; rw [h1]; simp only [Option.bind_some]; rw [h2]; simp only [Option.bind_some]; rw [if_pos h3], h4⟩
theorem wb_truS {R : Bool → En → Prop} (h : We f env fun a e => ∃ x : Str, a = .str x ∧ x.length ≤ sizeLine ∧ R ((x.length : Int) != 0) e) : Wb (bTruS f) env R := by
  obtain ⟨a, e, h1, x, rfl, h2, h3⟩ := h.ex
  exact ⟨_, e, by unfold bTruS; rw [h1]; simp only [Option.bind_some]; rw [if_pos h2], h3⟩
theorem ws_spoil {R : Out → Prop} {i j : Nat} {m : List D → Option SV} {g : AF} {s : SF} (h : Wa g env fun ds e => ∃ rs : List D, m ds = some (.own (.list rs)) ∧ (i < e.length ∧ j < e.length ∧ rs.length < sizeLine ∧ rs.all shortList = true) ∧ Ws s ((e.set i none).set j none) R) : Ws (sSpoil i j m g s) env R := by
  obtain ⟨ds, e, h1, rs, h2, h3, hw⟩ := h.ex
  obtain ⟨o, h4, h5⟩ := hw.ex
  exact ⟨o, by unfold sSpoil; rw [h1]; simp only [Option.bind_some]; rw [h2]; simp only; rw [if_pos h3]; exact h4, h5⟩
end
theorem str_ok {x : Str} (h : ∀ c ∈ tl x, c < 128) : PyData.strOk x = true := by
  unfold PyData.strOk
  rw [Array.all_eq_true']
  intro c hc
  have := h c (by simpa [tl] using hc)
  exact decide_eq_true (by omega)
theorem gEq_str {a b : Str} (ha : ∀ c ∈ tl a, c < 128) (hb : ∀ c ∈ tl b, c < 128) : gEq (.str a) (.str b) = some (.bool (decide (a = b))) := by
  simp [gEq, SeqAt.shaped, PyData.canLay0, PyData.depth, PyData.eqv, BEq.beq, str_ok ha, str_ok hb]
theorem sh_str {n : Nat} {x : Str} (h : ∀ c ∈ tl x, c < 128) : Sh n (.str x) := ⟨by simp [PyData.canLay0, str_ok h], by simp [PyData.depth]⟩
theorem bools_true {α : Type} : ∀ (l : List α), bools (l.map fun _ => PyData.bool true) = some (l.map fun _ => true)
  | [] => rfl
  | x :: l => by rw [List.map_cons]; unfold bools; rw [bools_true l]; rfl
theorem gAll_true {α : Type} (l : List α) : gAll [.list (l.map fun _ => PyData.bool true)] = some (.bool true) := by
  show (bools (l.map fun _ => PyData.bool true)).map _ = _
  rw [bools_true]
  show some (PyData.bool ((l.map fun _ => true).all _root_.id)) = _
  have : (l.map fun _ => true).all _root_.id = true := by
    rw [List.all_eq_true]
    intro x hx
    obtain ⟨_, _, rfl⟩ := List.mem_map.mp hx
    rfl
  rw [this]
end Z

/-! Runs as texts. -/
namespace RD
open PySem L2 TL Z
abbrev Pg := Option Nat
abbrev Sc := Pg × Pg
def pgD : Pg → D
  | none => .none
  | some n => .int (n : Int)
def pgT : Pg → Str
  | none => "-"
  | some n => Str.ofString (toString (n : Int))
def scD (s : Sc) : D := .tuple [pgD s.1, pgD s.2]
def scT (s : Sc) : Str := Txt.join "/" [pgT s.1, pgT s.2]
def rnD (r : List Sc) : D := .list (r.map scD)
def rnT (r : List Sc) : Str := if r.isEmpty = true then "." else Txt.join " " (r.map scT)
def rsD (rs : List (List Sc)) : D := .list (rs.map rnD)
def rsT (rs : List (List Sc)) : Str := Txt.join "\n" (rs.map rnT)
def gPg (p : Pg) : Prop := ∀ n, p = some n → n < 100
def gSc (s : Sc) : Prop := gPg s.1 ∧ gPg s.2
structure gRn (r : List Sc) : Prop where
  len : r.length ≤ 20
  pg : ∀ s ∈ r, gSc s
structure gRs (rs : List (List Sc)) : Prop where
  len : rs.length ≤ 12
  run : ∀ r ∈ rs, gRn r
/-- what holds of every page, seen page by page -/
theorem by_page {P : Pg → Bool} (h : (none :: (List.range 100).map some).all P = true) {p : Pg} (g : gPg p) : P p = true := by
  refine List.all_eq_true.mp h p ?_
  cases p with
  | none => exact List.mem_cons_self ..
  | some n => exact List.mem_cons_of_mem _ (List.mem_map.mpr ⟨n, List.mem_range.mpr (g n rfl), rfl⟩)
theorem pg_signs {p : Pg} (g : gPg p) : 47 ∉ tl (pgT p) ∧ 32 ∉ tl (pgT p) ∧ 10 ∉ tl (pgT p) ∧ 1 ≤ (tl (pgT p)).length ∧ (tl (pgT p)).length ≤ 2 := by
  have := by_page (P := fun p => decide (47 ∉ tl (pgT p) ∧ 32 ∉ tl (pgT p) ∧ 10 ∉ tl (pgT p) ∧ 1 ≤ (tl (pgT p)).length ∧ (tl (pgT p)).length ≤ 2)) (by decide +kernel) g
  exact of_decide_eq_true this
theorem tl_slash : tl "/" = [47] := by decide +kernel
theorem tl_blank : tl " " = [32] := by decide +kernel
theorem tl_row : tl "\n" = [10] := by decide +kernel
theorem tl_dot : tl "." = [46] := by decide +kernel
theorem tl_dash : tl "-" = [45] := by decide +kernel
theorem tl_inj {x y : Str} (h : tl x = tl y) : x = y := by rw [← mk_tl x, ← mk_tl y, h]
theorem tl_sc (s : Sc) : tl (scT s) = tl (pgT s.1) ++ (47 :: tl (pgT s.2)) := by
  unfold scT
  rw [join_eq, tl_join, tl_slash]
  rfl
theorem sc_add (s : Sc) : pgT s.1 ++ "/" ++ pgT s.2 = scT s := tl_inj (by rw [tl_append, tl_append, tl_sc, tl_slash, List.append_assoc]; rfl)
theorem sc_signs {s : Sc} (g : gSc s) : 32 ∉ tl (scT s) ∧ 10 ∉ tl (scT s) ∧ 47 ∈ tl (scT s) ∧ 3 ≤ (tl (scT s)).length ∧ (tl (scT s)).length ≤ 5 := by
  obtain ⟨a1, a2, a3, a4, a5⟩ := pg_signs g.1
  obtain ⟨b1, b2, b3, b4, b5⟩ := pg_signs g.2
  rw [tl_sc]
  refine ⟨?_, ?_, ?_, ?_, ?_⟩
  · simp only [List.mem_append, List.mem_cons, not_or]; exact ⟨a2, by decide, b2⟩
  · simp only [List.mem_append, List.mem_cons, not_or]; exact ⟨a3, by decide, b3⟩
  · simp
  · rw [List.length_append, List.length_cons]; omega
  · rw [List.length_append, List.length_cons]; omega
theorem sc_split {s : Sc} (g : gSc s) : Txt.split (scT s) "/" = [pgT s.1, pgT s.2] := by
  refine split_join tl_slash (by decide +kernel) (by simp) fun p hp => ?_
  rcases List.mem_cons.mp hp with rfl | hp
  · exact (pg_signs g.1).1
  · rw [List.mem_singleton.mp hp]; exact (pg_signs g.2).1
theorem joinL_len {S : List Nat} {k : Nat} : ∀ {ps : List (List Nat)}, (∀ p ∈ ps, p.length ≤ k) → (joinL S ps).length ≤ ps.length * (k + S.length)
  | [], _ => Nat.zero_le _
  | [p], h => by
    show p.length ≤ 1 * (k + S.length)
    have := h p (List.mem_singleton.mpr rfl)
    omega
  | p :: q :: r, h => by
    show (p ++ (S ++ joinL S (q :: r))).length ≤ _
    have h1 := h p (List.mem_cons_self ..)
    have h2 := joinL_len (S := S) (ps := q :: r) fun x hx => h x (List.mem_cons_of_mem _ hx)
    rw [List.length_append, List.length_append, List.length_cons, Nat.succ_mul]
    omega
theorem joinL_not {S : List Nat} {c : Nat} (hS : c ∉ S) : ∀ {ps : List (List Nat)}, (∀ p ∈ ps, c ∉ p) → c ∉ joinL S ps
  | [], _ => List.not_mem_nil
  | [p], h => h p (List.mem_singleton.mpr rfl)
  | p :: q :: r, h => by
    show c ∉ p ++ (S ++ joinL S (q :: r))
    simp only [List.mem_append, not_or]
    exact ⟨h p (List.mem_cons_self ..), hS, joinL_not hS fun x hx => h x (List.mem_cons_of_mem _ hx)⟩
theorem joinL_head {S p : List Nat} {ps : List (List Nat)} : ∃ t, joinL S (p :: ps) = p ++ t := by
  cases ps with
  | nil => exact ⟨[], (List.append_nil p).symm⟩
  | cons q r => exact ⟨S ++ joinL S (q :: r), rfl⟩
theorem sum_le {α : Type} {f : α → Nat} {k : Nat} : ∀ {l : List α}, (∀ x ∈ l, f x ≤ k) → (l.map f).sum ≤ l.length * k
  | [], _ => Nat.zero_le _
  | x :: l, h => by
    rw [List.map_cons, List.sum_cons, List.length_cons, Nat.succ_mul]
    have := h x (List.mem_cons_self ..)
    have := sum_le (l := l) fun y hy => h y (List.mem_cons_of_mem _ hy)
    omega
theorem rn_cons {s : Sc} {r : List Sc} : rnT (s :: r) = Txt.join " " ((s :: r).map scT) := rfl
theorem tl_rn {s : Sc} {r : List Sc} : tl (rnT (s :: r)) = joinL [32] (((s :: r).map scT).map tl) := by rw [rn_cons, join_eq, tl_join, tl_blank]
theorem rn_split {s : Sc} {r : List Sc} (g : gRn (s :: r)) : Txt.split (rnT (s :: r)) " " = (s :: r).map scT := by
  rw [rn_cons]
  refine split_join tl_blank (by decide +kernel) (by simp) fun p hp => ?_
  obtain ⟨x, hx, rfl⟩ := List.mem_map.mp hp
  exact (sc_signs (g.pg x hx)).1
theorem rn_ne {s : Sc} {r : List Sc} (g : gRn (s :: r)) : rnT (s :: r) ≠ "." := fun e => by
  have h := tl_rn (s := s) (r := r)
  rw [e, tl_dot, List.map_cons, List.map_cons] at h
  obtain ⟨t, ht⟩ := joinL_head (S := [32]) (p := tl (scT s)) (ps := (r.map scT).map tl)
  rw [ht] at h
  have h3 := (sc_signs (g.pg s (List.mem_cons_self ..))).2.2.2.1
  have h4 := congrArg List.length h
  rw [List.length_append] at h4
  simp only [List.length_cons, List.length_nil] at h4
  omega
theorem rn_signs {r : List Sc} (g : gRn r) : 10 ∉ tl (rnT r) ∧ 1 ≤ (tl (rnT r)).length ∧ (tl (rnT r)).length ≤ 120 := by
  cases r with
  | nil =>
    show 10 ∉ tl "." ∧ 1 ≤ (tl ".").length ∧ (tl ".").length ≤ 120
    rw [tl_dot]; decide
  | cons s r =>
    rw [tl_rn]
    refine ⟨joinL_not (by decide) fun p hp => ?_, ?_, ?_⟩
    · obtain ⟨y, hy, rfl⟩ := List.mem_map.mp hp
      obtain ⟨x, hx, rfl⟩ := List.mem_map.mp hy
      exact (sc_signs (g.pg x hx)).2.1
    · rw [List.map_cons, List.map_cons]
      obtain ⟨t, ht⟩ := joinL_head (S := [32]) (p := tl (scT s)) (ps := (r.map scT).map tl)
      rw [ht, List.length_append]
      have h3 := (sc_signs (g.pg s (List.mem_cons_self ..))).2.2.2.1
      omega
    · have := joinL_len (S := [32]) (k := 5) (ps := ((s :: r).map scT).map tl) fun p hp => by
        obtain ⟨y, hy, rfl⟩ := List.mem_map.mp hp
        obtain ⟨x, hx, rfl⟩ := List.mem_map.mp hy
        exact (sc_signs (g.pg x hx)).2.2.2.2
      have hl := g.len
      rw [List.length_map, List.length_map] at this
      simp only [List.length_cons, List.length_nil] at this hl ⊢
      omega
theorem rs_tl (rs : List (List Sc)) : tl (rsT rs) = joinL [10] ((rs.map rnT).map tl) := by unfold rsT; rw [join_eq, tl_join, tl_row]
theorem rs_split {rs : List (List Sc)} (g : gRs rs) (hne : rs ≠ []) : Txt.split (rsT rs) "\n" = rs.map rnT := by
  unfold rsT
  refine split_join tl_row (by decide +kernel) (by simpa using hne) fun p hp => ?_
  obtain ⟨x, hx, rfl⟩ := List.mem_map.mp hp
  exact (rn_signs (g.run x hx)).1
theorem rs_len {rs : List (List Sc)} (g : gRs rs) : (rsT rs).length ≤ 1452 ∧ (rs ≠ [] → 1 ≤ (rsT rs).length) := by
  rw [len_tl, rs_tl]
  constructor
  · have := joinL_len (S := [10]) (k := 120) (ps := (rs.map rnT).map tl) fun p hp => by
      obtain ⟨y, hy, rfl⟩ := List.mem_map.mp hp
      obtain ⟨x, hx, rfl⟩ := List.mem_map.mp hy
      exact (rn_signs (g.run x hx)).2.2
    have hl := g.len
    rw [List.length_map, List.length_map] at this
    simp only [List.length_cons, List.length_nil] at this
    omega
  · intro hne
    cases rs with
    | nil => exact absurd rfl hne
    | cons r rs =>
      rw [List.map_cons, List.map_cons]
      obtain ⟨t, ht⟩ := joinL_head (S := [10]) (p := tl (rnT r)) (ps := (rs.map rnT).map tl)
      rw [ht, List.length_append]
      have h3 := (rn_signs (g.run r (List.mem_cons_self ..))).2.1
      omega
theorem rs_nil : rsT [] = "" := by
  refine tl_inj ?_
  rw [rs_tl]
  decide +kernel
/-- how long what is joined is -/
theorem join_room {k : Nat} {y : Str} {ys : List Str} (h : ∀ x ∈ ys, (tl x).length ≤ k) (hy : y.length ≤ 1) (hl : ys.length * (k + 1) ≤ 100000) : (ys.map (·.length)).sum + ys.length * y.length ≤ 16777216 := by
  have h1 := sum_le (f := fun x : Str => x.length) (k := k) (l := ys) fun x hx => by show x.length ≤ k; rw [len_tl]; exact h x hx
  have h2 : ys.length * y.length ≤ ys.length * 1 := Nat.mul_le_mul_left _ hy
  rw [Nat.mul_add] at hl
  omega
theorem joinL_all {S : List Nat} {k : Nat} (hS : ∀ c ∈ S, c < k) : ∀ {ps : List (List Nat)}, (∀ p ∈ ps, ∀ c ∈ p, c < k) → ∀ c ∈ joinL S ps, c < k
  | [], _, c, h => by cases h
  | [p], h, c, hc => h p (List.mem_singleton.mpr rfl) c hc
  | p :: q :: r, h, c, hc => by
    have hc : c ∈ p ++ (S ++ joinL S (q :: r)) := hc
    rcases List.mem_append.mp hc with z | z
    · exact h p (List.mem_cons_self ..) c z
    · rcases List.mem_append.mp z with z | z
      · exact hS c z
      · exact joinL_all hS (fun x hx => h x (List.mem_cons_of_mem _ hx)) c z
theorem pg_lo {p : Pg} (g : gPg p) : ∀ c ∈ tl (pgT p), c < 128 := by
  have := by_page (P := fun p => decide (∀ c ∈ tl (pgT p), c < 128)) (by decide +kernel) g
  exact of_decide_eq_true this
theorem sc_lo {s : Sc} (g : gSc s) : ∀ c ∈ tl (scT s), c < 128 := fun c hc => by
  rw [tl_sc] at hc
  rcases List.mem_append.mp hc with z | z
  · exact pg_lo g.1 c z
  · rcases List.mem_cons.mp z with rfl | z
    · decide
    · exact pg_lo g.2 c z
theorem rn_lo {r : List Sc} (g : gRn r) : ∀ c ∈ tl (rnT r), c < 128 := by
  cases r with
  | nil => show ∀ c ∈ tl ".", c < 128; rw [tl_dot]; decide
  | cons s r =>
    rw [tl_rn]
    refine joinL_all (by decide) fun p hp => ?_
    obtain ⟨y, hy, rfl⟩ := List.mem_map.mp hp
    obtain ⟨x, hx, rfl⟩ := List.mem_map.mp hy
    exact sc_lo (g.pg x hx)
theorem rs_lo {rs : List (List Sc)} (g : gRs rs) : ∀ c ∈ tl (rsT rs), c < 128 := by
  rw [rs_tl]
  refine joinL_all (by decide) fun p hp => ?_
  obtain ⟨y, hy, rfl⟩ := List.mem_map.mp hp
  obtain ⟨x, hx, rfl⟩ := List.mem_map.mp hy
  exact rn_lo (g.run x hx)
end RD

namespace K13
open PySem L2 Z
def top (i : Nat) : Stmt := PySem.Challenge.pw_pagefeeder_k13_written_and_read.main.body.getD i (.Pass ⟨0, 0, 0, 0⟩)
abbrev s__law_start : Stmt := top 23
abbrev s_is_number : Stmt := top 13
abbrev s_is_written_scan : Stmt := top 14
abbrev s_is_written_run : Stmt := top 15
abbrev s_first_wrong : Stmt := top 16
abbrev s_read_page : Stmt := top 18
abbrev s_read_scan : Stmt := top 19
abbrev s_read_run : Stmt := top 20
abbrev s_read : Stmt := top 21
abbrev s__law_drawn : Stmt := top 24
abbrev s__law_any : Stmt := top 26
abbrev s__law_same : Stmt := top 25
abbrev s_written_page : Stmt := top 10
abbrev s_written_scan : Stmt := top 11
abbrev s_written_run : Stmt := top 12
abbrev s_written : Stmt := top 17
abbrev s_law : Stmt := top 27
structure Tx (K : PySem.W.Frag) (mg : Str → Option Value) : Prop where
  b_all : mg "all" = none
  b_bool : mg "bool" = none
  b_enumerate : mg "enumerate" = none
  b_int : mg "int" = none
  b_isinstance : mg "isinstance" = none
  b_len : mg "len" = none
  b_list : mg "list" = none
  b_range : mg "range" = none
  b_str : mg "str" = none
  b_tuple : mg "tuple" = none
  c_FIGURES : ∃ t, mg "FIGURES" = some (.str "0123456789" t)
  c_MOST_RUNS : ∃ t, mg "MOST_RUNS" = some (.int 12 t)
  c_MOST_SCANS : ∃ t, mg "MOST_SCANS" = some (.int 20 t)
  c_NO_SCANS : ∃ t, mg "NO_SCANS" = some (.str "." t)
  c_UNREAD : ∃ t, mg "UNREAD" = some (.str "-" t)
section
variable {P : Program} {w : World} {K : PySem.W.Frag} {mg : Str → Option Value} {base : Heap}
theorem sc__law_start : FnScope ["_law_script", "_law_mixed", "_law_cell"] ["_law_script"] (defScope s__law_start) := ⟨rfl, rfl, rfl, by decide +kernel, rfl, by decide +kernel, by decide +kernel⟩
theorem ok__law_start (T : Tx K mg)  (Fn : FunIn K mg "_law_start" s__law_start) : Def P w K mg base "_law_start" 1 ["_law_script"] (spP K 1 m__law_start) := by
  obtain ⟨f, fd, Fn, hm⟩ := Fn.ex
  refine def_mk Fn hm (fnP rfl (by decide) Fn sc__law_start fun cdv A outer s H E hr => ?_) fun _ _ _ _ _ _ us hl => match us, hl with | [_], _ => rfl
  exact (zss_cons (zs_set 1 sc__law_start.nd ze_int) (zss_cons (zs_for PassesOwn.never rfl (zi_list (ze_var 0)) (zg_name 2 sc__law_start.nd) (zss_one (zs_set 1 sc__law_start.nd (ze_op op_mod rf_mod (ze_plus (ze_plus (ze_op op_mul rf_mul (ze_var 1) ze_int) (ze_var 2)) ze_int) ze_int)))) (zss_one (zs_retO (zo_lst (za_cons (ze_var 0) (za_cons ze_int (za_cons (ze_var 1) (za_cons ze_int za_nil)))))))))
theorem sc_is_number : FnScope ["text", "sign"] ["text"] (defScope s_is_number) := ⟨rfl, rfl, rfl, by decide +kernel, rfl, by decide +kernel, by decide +kernel⟩
theorem ok_is_number (T : Tx K mg)  (Fn : FunIn K mg "is_number" s_is_number) : Def P w K mg base "is_number" 1 ["text"] (spP K 1 m_is_number) := by
  obtain ⟨f, fd, Fn, hm⟩ := Fn.ex
  obtain ⟨t_FIGURES, c_FIGURES⟩ := T.c_FIGURES
  refine def_mk Fn hm (fnP rfl (by decide) Fn sc_is_number fun cdv A outer s H E hr => ?_) fun _ _ _ _ _ _ us hl => match us, hl with | [_], _ => rfl
  exact (zss_cons (zs_if (zt_not (zt_val (ze_callB (cr_all rfl) cf_all T.b_all (by decide +kernel) (za_cons (ZO.ze (zo_comp rfl sc_is_number.nd (zi_str (ze_var 0)) (blkOk_by (own := [("sign", 1)]) (N := ["text", "sign"]) (sc := defScope s_is_number) (by decide +kernel)) (fun _ _ _ _ _ => (zg_name 1 sc_is_number.nd)) (fun _ _ _ _ _ => zts_nil) (fun _ _ _ _ _ => (ze_cmp op_in_sign rf_inSign (ze_var 1) (ze_gstr c_FIGURES) (by rfl))))) za_nil)))) (zss_one (zs_ret ze_bl)) zss_nil) (zss_one (zs_ret (ze_or (ze_cmp (op_eqD hr.units) rf_eq (ze_callB call_len_str cf_lenS T.b_len (by decide +kernel) (za_cons (ze_var 0) za_nil)) ze_int (nomark _)) (ze_one (ze_and (ze_cmp (op_eqD hr.units) rf_eq (ze_callB call_len_str cf_lenS T.b_len (by decide +kernel) (za_cons (ze_var 0) za_nil)) ze_int (nomark _)) (ze_one (ze_cmp (op_neD hr.units) rf_ne (ze_ixS (ze_var 0) ze_int (fun _ _ => rfl)) ze_str (nomark _)))))))))
theorem sc_is_written_scan : FnScope ["text", "pages", "page"] ["text"] (defScope s_is_written_scan) := ⟨rfl, rfl, rfl, by decide +kernel, rfl, by decide +kernel, by decide +kernel⟩
theorem ok_is_written_scan (T : Tx K mg) (D_is_number : Def P w K mg base "is_number" 1 ["text"] (spP K 1 m_is_number)) (Fn : FunIn K mg "is_written_scan" s_is_written_scan) : Def P w K mg base "is_written_scan" 2 ["text"] (spP K 1 m_is_written_scan) := by
  obtain ⟨f, fd, Fn, hm⟩ := Fn.ex
  obtain ⟨t_UNREAD, c_UNREAD⟩ := T.c_UNREAD
  refine def_mk Fn hm (fnP rfl (by decide) Fn sc_is_written_scan fun cdv A outer s H E hr => ?_) fun _ _ _ _ _ _ us hl => match us, hl with | [_], _ => rfl
  exact (zss_cons (zs_set 1 sc_is_written_scan.nd (ZO.ze (zo_split (ze_var 0) ze_str))) (zss_one (zs_ret (ze_and (ze_cmp (op_eqD hr.units) rf_eq (ze_callB call_len_seq cf_len T.b_len (by decide +kernel) (za_cons (ze_var 1) za_nil)) ze_int (nomark _)) (ze_one (ze_callB (cr_all rfl) cf_all T.b_all (by decide +kernel) (za_cons (ZO.ze (zo_comp rfl sc_is_written_scan.nd (zi_list (ze_var 1)) (blkOk_by (own := [("page", 2)]) (N := ["text", "pages", "page"]) (sc := defScope s_is_written_scan) (by decide +kernel)) (fun _ _ _ _ _ => (zg_name 2 sc_is_written_scan.nd)) (fun _ _ _ _ _ => zts_nil) (fun _ _ _ _ _ => (ze_or (ze_cmp (op_eqD hr.units) rf_eq (ze_var 2) (ze_gstr c_UNREAD) (nomark _)) (ze_one (ze_def D_is_number (fun _ _ => runP_len) hr (za_cons (ze_var 2) za_nil))))))) za_nil)))))))
theorem sc_is_written_run : FnScope ["row", "scans", "scan"] ["row"] (defScope s_is_written_run) := ⟨rfl, rfl, rfl, by decide +kernel, rfl, by decide +kernel, by decide +kernel⟩
theorem ok_is_written_run (T : Tx K mg) (D_is_written_scan : Def P w K mg base "is_written_scan" 2 ["text"] (spP K 1 m_is_written_scan)) (Fn : FunIn K mg "is_written_run" s_is_written_run) : Def P w K mg base "is_written_run" 3 ["row"] (spP K 1 m_is_written_run) := by
  obtain ⟨f, fd, Fn, hm⟩ := Fn.ex
  obtain ⟨t_MOST_SCANS, c_MOST_SCANS⟩ := T.c_MOST_SCANS
  obtain ⟨t_NO_SCANS, c_NO_SCANS⟩ := T.c_NO_SCANS
  refine def_mk Fn hm (fnP rfl (by decide) Fn sc_is_written_run fun cdv A outer s H E hr => ?_) fun _ _ _ _ _ _ us hl => match us, hl with | [_], _ => rfl
  exact (zss_cons (zs_if (zt_cmp (op_eqD hr.units) rf_eq (ze_var 0) (ze_gstr c_NO_SCANS) (nomark _)) (zss_one (zs_ret ze_bl)) zss_nil) (zss_cons (zs_set 1 sc_is_written_run.nd (ZO.ze (zo_split (ze_var 0) ze_str))) (zss_one (zs_ret (ze_and (ze_cmp op_le rf_le (ze_callB call_len_seq cf_len T.b_len (by decide +kernel) (za_cons (ze_var 1) za_nil)) (ze_gint c_MOST_SCANS) (nomark _)) (ze_one (ze_callB (cr_all rfl) cf_all T.b_all (by decide +kernel) (za_cons (ZO.ze (zo_comp rfl sc_is_written_run.nd (zi_list (ze_var 1)) (blkOk_by (own := [("scan", 2)]) (N := ["row", "scans", "scan"]) (sc := defScope s_is_written_run) (by decide +kernel)) (fun _ _ _ _ _ => (zg_name 2 sc_is_written_run.nd)) (fun _ _ _ _ _ => zts_nil) (fun _ _ _ _ _ => (ze_def D_is_written_scan (fun _ _ => runP_len) hr (za_cons (ze_var 2) za_nil))))) za_nil))))))))
theorem sc_first_wrong : FnScope ["rows", "number", "row"] ["rows"] (defScope s_first_wrong) := ⟨rfl, rfl, rfl, by decide +kernel, rfl, by decide +kernel, by decide +kernel⟩
theorem ok_first_wrong (T : Tx K mg) (D_is_written_run : Def P w K mg base "is_written_run" 3 ["row"] (spP K 1 m_is_written_run)) (Fn : FunIn K mg "first_wrong" s_first_wrong) : Def P w K mg base "first_wrong" 4 ["rows"] (spP K 1 m_first_wrong) := by
  obtain ⟨f, fd, Fn, hm⟩ := Fn.ex
  obtain ⟨t_MOST_RUNS, c_MOST_RUNS⟩ := T.c_MOST_RUNS
  refine def_mk Fn hm (fnP rfl (by decide) Fn sc_first_wrong fun cdv A outer s H E hr => ?_) fun _ _ _ _ _ _ us hl => match us, hl with | [_], _ => rfl
  exact (zss_cons (zs_for PassesOwn.never rfl (zi_enum T.b_enumerate (za_cons (ze_var 0) za_nil)) (zg_tup2 1 2 rfl sc_first_wrong.nd) (zss_one (zs_if (ZW.zt (zw_or (zt_cmp (op_eqD hr.units) rf_eq (ze_var 1) (ze_gint c_MOST_RUNS) (nomark _)) (zw_or1 (zt_not (zt_val (ze_def D_is_written_run (fun _ _ => runP_len) hr (za_cons (ze_var 2) za_nil))))))) (zss_one (zs_ret (ze_var 1))) zss_nil))) (zss_one (zs_ret ze_non)))
theorem sc_read_page : FnScope ["text"] ["text"] (defScope s_read_page) := ⟨rfl, rfl, rfl, by decide +kernel, rfl, by decide +kernel, by decide +kernel⟩
theorem ok_read_page (T : Tx K mg)  (Fn : FunIn K mg "read_page" s_read_page) : Def P w K mg base "read_page" 1 ["text"] (spP K 1 m_read_page) := by
  obtain ⟨f, fd, Fn, hm⟩ := Fn.ex
  obtain ⟨t_UNREAD, c_UNREAD⟩ := T.c_UNREAD
  refine def_mk Fn hm (fnP rfl (by decide) Fn sc_read_page fun cdv A outer s H E hr => ?_) fun _ _ _ _ _ _ us hl => match us, hl with | [_], _ => rfl
  exact (zss_one (zs_ret (ze_if (zt_cmp (op_eqD hr.units) rf_eq (ze_var 0) (ze_gstr c_UNREAD) (nomark _)) ze_non (ze_callTy call_int_str cf_intS T.b_int (by decide +kernel) (za_cons (ze_var 0) za_nil)))))
theorem sc_read_scan : FnScope ["text", "front", "back"] ["text"] (defScope s_read_scan) := ⟨rfl, rfl, rfl, by decide +kernel, rfl, by decide +kernel, by decide +kernel⟩
theorem ok_read_scan (T : Tx K mg) (D_read_page : Def P w K mg base "read_page" 1 ["text"] (spP K 1 m_read_page)) (Fn : FunIn K mg "read_scan" s_read_scan) : Def P w K mg base "read_scan" 2 ["text"] (spP K 1 m_read_scan) := by
  obtain ⟨f, fd, Fn, hm⟩ := Fn.ex
  refine def_mk Fn hm (fnP rfl (by decide) Fn sc_read_scan fun cdv A outer s H E hr => ?_) fun _ _ _ _ _ _ us hl => match us, hl with | [_], _ => rfl
  exact (zss_cons (zs_tgt (ZO.ze (zo_split (ze_var 0) ze_str)) (zg_lst2 1 2 rfl sc_read_scan.nd)) (zss_one (zs_ret (ze_tup (za_cons (ze_def D_read_page (fun _ _ => runP_len) hr (za_cons (ze_var 1) za_nil)) (za_cons (ze_def D_read_page (fun _ _ => runP_len) hr (za_cons (ze_var 2) za_nil)) za_nil))))))
theorem sc_read_run : FnScope ["row", "scan"] ["row"] (defScope s_read_run) := ⟨rfl, rfl, rfl, by decide +kernel, rfl, by decide +kernel, by decide +kernel⟩
theorem ok_read_run (T : Tx K mg) (D_read_scan : Def P w K mg base "read_scan" 2 ["text"] (spP K 1 m_read_scan)) (Fn : FunIn K mg "read_run" s_read_run) : Def P w K mg base "read_run" 3 ["row"] (spP K 1 m_read_run) := by
  obtain ⟨f, fd, Fn, hm⟩ := Fn.ex
  obtain ⟨t_NO_SCANS, c_NO_SCANS⟩ := T.c_NO_SCANS
  refine def_mk Fn hm (fnP rfl (by decide) Fn sc_read_run fun cdv A outer s H E hr => ?_) fun _ _ _ _ _ _ us hl => match us, hl with | [_], _ => rfl
  exact (zss_one (zs_retO (zo_if (zt_cmp (op_eqD hr.units) rf_eq (ze_var 0) (ze_gstr c_NO_SCANS) (nomark _)) (zo_lst za_nil) (zo_comp rfl sc_read_run.nd (zi_list (ZO.ze (zo_split (ze_var 0) ze_str))) (blkOk_by (own := [("scan", 1)]) (N := ["row", "scan"]) (sc := defScope s_read_run) (by decide +kernel)) (fun _ _ _ _ _ => (zg_name 1 sc_read_run.nd)) (fun _ _ _ _ _ => zts_nil) (fun _ _ _ _ _ => (ze_def D_read_scan (fun _ _ => runP_len) hr (za_cons (ze_var 1) za_nil)))))))
theorem sc_read : FnScope ["text", "rows", "wrong", "row"] ["text"] (defScope s_read) := ⟨rfl, rfl, rfl, by decide +kernel, rfl, by decide +kernel, by decide +kernel⟩
theorem ok_read (T : Tx K mg) (D_first_wrong : Def P w K mg base "first_wrong" 4 ["rows"] (spP K 1 m_first_wrong)) (D_read_run : Def P w K mg base "read_run" 3 ["row"] (spP K 1 m_read_run)) (Fn : FunIn K mg "read" s_read) : Def P w K mg base "read" 5 ["text"] (spB (spP K 1 m_read) (spX K 1 m_read)) := by
  obtain ⟨f, fd, Fn, hm⟩ := Fn.ex
  refine def_mk Fn hm (fnOk_or (fnP rfl (by decide) Fn sc_read fun cdv A outer s H E hr => ?_) (fnX rfl (by decide) Fn sc_read fun cdv A outer s H E hr => ?_)) fun _ _ _ _ _ _ us hl => match us, hl with | [_], _ => rfl
  · exact (zss_cons (zs_set 1 sc_read.nd (ze_if (zt_truS (ze_var 0)) (ZO.ze (zo_split (ze_var 0) ze_str)) (ZO.ze (zo_lst za_nil)))) (zss_cons (zs_set 2 sc_read.nd (ze_def D_first_wrong (fun _ _ => runP_len) hr (za_cons (ze_var 1) za_nil))) (zss_cons (zs_if (zt_cmp op_notN rf_isNot (ze_var 2) ze_non (nomark _)) (zss_one zs_never) zss_nil) (zss_one (zs_retO (zo_comp rfl sc_read.nd (zi_list (ze_var 1)) (blkOk_by (own := [("row", 3)]) (N := ["text", "rows", "wrong", "row"]) (sc := defScope s_read) (by decide +kernel)) (fun _ _ _ _ _ => (zg_name 3 sc_read.nd)) (fun _ _ _ _ _ => zts_nil) (fun _ _ _ _ _ => (ZO.ze (zo_def D_read_run (fun _ _ => runP_len) hr (za_cons (ze_var 3) za_nil))))))))))
  · exact (zxs_cons nr_set (zs_set 1 sc_read.nd (ze_if (zt_truS (ze_var 0)) (ZO.ze (zo_split (ze_var 0) ze_str)) (ZO.ze (zo_lst za_nil)))) (zxs_cons nr_set (zs_set 2 sc_read.nd (ze_def D_first_wrong (fun _ _ => runP_len) hr (za_cons (ze_var 1) za_nil))) (zxs_cons nr_ifNone (zs_if (zt_cmp op_notN rf_isNot (ze_var 2) ze_non (nomark _)) (zss_one zs_never) zss_nil) (zxs_retComp rfl sc_read.nd (zi_list (ze_var 1)) (blkOk_by (own := [("row", 3)]) (N := ["text", "rows", "wrong", "row"]) (sc := defScope s_read) (by decide +kernel)) (fun _ _ _ _ _ => (zg_name 3 sc_read.nd)) (fun _ _ _ _ _ => (zo_def D_read_run (fun _ _ => runP_len) hr (za_cons (ze_var 3) za_nil)))))))
theorem sc__law_drawn : FnScope ["_law_state", "_law_many", "_law_found", "_law_cell"] ["_law_state", "_law_many"] (defScope s__law_drawn) := ⟨rfl, rfl, rfl, by decide +kernel, rfl, by decide +kernel, by decide +kernel⟩
theorem ok__law_drawn (T : Tx K mg)  (Fn : FunIn K mg "_law_drawn" s__law_drawn) : Def P w K mg base "_law_drawn" 1 ["_law_state", "_law_many"] (spIO K 2 m__law_drawn) := by
  obtain ⟨f, fd, Fn, hm⟩ := Fn.ex
  refine def_mk Fn hm (fnIO (n := 1) rfl (by decide) Fn sc__law_drawn fun cdv A outer s H E hr => ?_) fun _ _ _ _ _ _ us hl => match us, hl with | [_, _], _ => rfl
  exact (zss_cons (zs_if (zt_cmp op_gt rf_gt (ze_ixB 0 ze_int (fun _ _ => rfl)) ze_int (nomark _)) (zss_cons (zs_set 2 sc__law_drawn.nd (ze_op op_mod rf_mod (ze_ixB 0 ze_int (fun _ _ => rfl)) (ze_var 1))) (zss_cons (zs_put 0 (ze_op op_fdiv rf_div (ze_ixB 0 ze_int (fun _ _ => rfl)) (ze_var 1)) ze_int) (zss_one (zs_ret (ze_var 2))))) zss_nil) (zss_cons (zs_put 0 (ze_plus (ze_ixB 0 ze_int (fun _ _ => rfl)) ze_int) ze_int) (zss_cons (zs_if (zt_cmp op_le rf_le (ze_ixB 0 ze_int (fun _ _ => rfl)) (ze_callB call_len_seq cf_len T.b_len (by decide +kernel) (za_cons (ze_ixB 0 ze_int (fun _ _ => rfl)) za_nil)) (nomark _)) (zss_cons (zs_set 3 sc__law_drawn.nd (ze_ix (ze_ixB 0 ze_int (fun _ _ => rfl)) (ze_op op_sub rf_sub (ze_ixB 0 ze_int (fun _ _ => rfl)) ze_int) (fun _ _ => rfl))) (zss_cons (zs_put 0 (ze_if (zt_cmp op_ge rf_ge (ze_var 3) (ze_op op_pow rf_pow ze_int ze_int) (nomark _)) (ze_op op_fdiv rf_div (ze_var 3) (ze_var 1)) ze_int) ze_int) (zss_one (zs_ret (ze_op op_mod rf_mod (ze_var 3) (ze_var 1)))))) zss_nil) (zss_cons (zs_put 0 (ze_op op_mod rf_mod (ze_plus (ze_op op_mul rf_mul (ze_ixB 0 ze_int (fun _ _ => rfl)) ze_int) ze_int) ze_int) ze_int) (zss_one (zs_ret (ze_op op_mod rf_mod (ze_op op_fdiv rf_div (ze_ixB 0 ze_int (fun _ _ => rfl)) ze_int) (ze_var 1))))))))
theorem sc__law_any : FnScope ["_law_state", "_law_runs", "_law_k", "_law_run", "_law_n", "_law_sides", "_law_side"] ["_law_state"] (defScope s__law_any) := ⟨rfl, rfl, rfl, by decide +kernel, rfl, by decide +kernel, by decide +kernel⟩
theorem ok__law_any (T : Tx K mg) (D__law_drawn : Def P w K mg base "_law_drawn" 1 ["_law_state", "_law_many"] (spIO K 2 m__law_drawn)) (Fn : FunIn K mg "_law_any" s__law_any) : Def P w K mg base "_law_any" 2 ["_law_state"] (spIO K 1 m__law_any) := by
  obtain ⟨f, fd, Fn, hm⟩ := Fn.ex
  refine def_mk Fn hm (fnIO (n := 0) rfl (by decide) Fn sc__law_any fun cdv A outer s H E hr => ?_) fun _ _ _ _ _ _ us hl => match us, hl with | [_], _ => rfl
  exact (zss_cons (zs_setO 1 sc__law_any.nd (zo_lst za_nil)) (zss_cons (zs_for PassesOwn.never rfl (zi_range1 T.b_range (za_cons (ze_defIO 0 D__law_drawn (fun _ _ _ => runIO_len) hr (za_cons (ze_ix (ZO.ze (zo_lst (za_cons ze_int (za_cons ze_int za_nil)))) (ze_defIO 0 D__law_drawn (fun _ _ _ => runIO_len) hr (za_cons ze_int za_nil)) (fun _ _ => rfl)) za_nil)) za_nil)) (zg_name 2 sc__law_any.nd) (zss_cons (zs_setO 3 sc__law_any.nd (zo_lst za_nil)) (zss_cons (zs_for PassesOwn.never rfl (zi_range1 T.b_range (za_cons (ze_defIO 0 D__law_drawn (fun _ _ _ => runIO_len) hr (za_cons (ze_ix (ZO.ze (zo_lst (za_cons ze_int (za_cons ze_int za_nil)))) (ze_defIO 0 D__law_drawn (fun _ _ _ => runIO_len) hr (za_cons ze_int za_nil)) (fun _ _ => rfl)) za_nil)) za_nil)) (zg_name 4 sc__law_any.nd) (zss_cons (zs_setO 5 sc__law_any.nd (zo_lst za_nil)) (zss_cons (zs_for PassesOwn.never rfl (zi_tup (ze_tup (za_cons ze_int (za_cons ze_int za_nil)))) (zg_name 6 sc__law_any.nd) (zss_one (zs_app 5 (za_cons (ze_ix (ZO.ze (zo_lst (za_cons ze_non (za_cons (ze_defIO 0 D__law_drawn (fun _ _ _ => runIO_len) hr (za_cons ze_int za_nil)) (za_cons (ze_defIO 0 D__law_drawn (fun _ _ _ => runIO_len) hr (za_cons ze_int za_nil)) za_nil))))) (ze_defIO 0 D__law_drawn (fun _ _ _ => runIO_len) hr (za_cons ze_int za_nil)) (fun _ _ => rfl)) za_nil)))) (zss_one (zs_app 3 (za_cons (ze_tuple T.b_tuple (za_cons (ze_varF 5) za_nil)) za_nil)))))) (zss_one (zs_app 1 (za_cons (ze_varF 3) za_nil)))))) (zss_one (zs_retV 1))))
theorem sc__law_same : FnScope ["_law_found", "_law_due", "_law_k"] ["_law_found", "_law_due"] (defScope s__law_same) := ⟨rfl, rfl, rfl, by decide +kernel, rfl, by decide +kernel, by decide +kernel⟩
theorem ok__law_same_lv0 (T : Tx K mg)  (Fn : FunIn K mg "_law_same" s__law_same) : Def P w K mg base "_law_same" 1 ["_law_found", "_law_due"] (spP K 2 m__law_same_lv0) := by
  obtain ⟨f, fd, Fn, hm⟩ := Fn.ex
  refine def_mk Fn hm (fnP rfl (by decide) Fn sc__law_same fun cdv A outer s H E hr => ?_) fun _ _ _ _ _ _ us hl => match us, hl with | [_, _], _ => rfl
  exact zss_never
theorem ok__law_same_lv1 (T : Tx K mg) (D__law_same_lv0 : Def P w K mg base "_law_same" 1 ["_law_found", "_law_due"] (spP K 2 m__law_same_lv0)) (Fn : FunIn K mg "_law_same" s__law_same) : Def P w K mg base "_law_same" 2 ["_law_found", "_law_due"] (spP K 2 m__law_same_lv1) := by
  obtain ⟨f, fd, Fn, hm⟩ := Fn.ex
  refine def_mk Fn hm (fnP rfl (by decide) Fn sc__law_same fun cdv A outer s H E hr => ?_) fun _ _ _ _ _ _ us hl => match us, hl with | [_, _], _ => rfl
  exact (zss_cons (zs_if (zt_val (ze_inst2 kit_tuple kit_list T.b_isinstance T.b_tuple (by decide +kernel) T.b_list (by decide +kernel) (ze_var 1))) (zss_cons (zs_if (ZW.zt (zw_or (zt_not (zt_val (ze_inst2 kit_tuple kit_list T.b_isinstance T.b_tuple (by decide +kernel) T.b_list (by decide +kernel) (ze_var 0)))) (zw_or1 (zt_cmp (op_neD hr.units) rf_ne (ze_inst kit_list T.b_isinstance T.b_list (by decide +kernel) (ze_var 0)) (ze_inst kit_list T.b_isinstance T.b_list (by decide +kernel) (ze_var 1)) (nomark _))))) (zss_one (zs_ret ze_bl)) zss_nil) (zss_cons (zs_if (zt_cmp (op_neD hr.units) rf_ne (ze_callB call_len_seq cf_len T.b_len (by decide +kernel) (za_cons (ze_var 0) za_nil)) (ze_callB call_len_seq cf_len T.b_len (by decide +kernel) (za_cons (ze_var 1) za_nil)) (nomark _)) (zss_one (zs_ret ze_bl)) zss_nil) (zss_one (zs_ret (ze_cmp (op_eqD hr.units) rf_eq (ZO.ze (zo_comp rfl sc__law_same.nd (zi_range1 T.b_range (za_cons (ze_callB call_len_seq cf_len T.b_len (by decide +kernel) (za_cons (ze_var 1) za_nil)) za_nil)) (blkOk_by (own := [("_law_k", 2)]) (N := ["_law_found", "_law_due", "_law_k"]) (sc := defScope s__law_same) (by decide +kernel)) (fun _ _ _ _ _ => (zg_name 2 sc__law_same.nd)) (fun _ _ _ _ _ => (zts_one (zt_not (zt_val (ze_def D__law_same_lv0 (fun _ _ => runP_len) hr (za_cons (ze_ix (ze_var 0) (ze_var 2) (fun _ _ => rfl)) (za_cons (ze_ix (ze_var 1) (ze_var 2) (fun _ _ => rfl)) za_nil))))))) (fun _ _ _ _ _ => (ze_var 2)))) (ZO.ze (zo_lst za_nil)) (nomark _)))))) zss_nil) (zss_cons (zs_if (zt_cmp op_isN rf_is (ze_var 1) ze_non (nomark _)) (zss_one (zs_ret (ze_cmp op_isN rf_is (ze_var 0) ze_non (nomark _)))) zss_nil) (zss_cons (zs_if (zt_val (ze_inst kit_str T.b_isinstance T.b_str (by decide +kernel) (ze_var 1))) (zss_one (zs_ret (ze_and (ze_inst kit_str T.b_isinstance T.b_str (by decide +kernel) (ze_var 0)) (ze_one (ze_cmp (op_eqD hr.units) rf_eq (ze_var 0) (ze_var 1) (nomark _)))))) zss_nil) (zss_cons (zs_if (ZW.zt (zw_or (zt_val (ze_inst kit_bool T.b_isinstance T.b_bool (by decide +kernel) (ze_var 1))) (zw_or1 (zt_val (ze_inst kit_bool T.b_isinstance T.b_bool (by decide +kernel) (ze_var 0)))))) (zss_one (zs_ret (ze_and (ze_inst kit_bool T.b_isinstance T.b_bool (by decide +kernel) (ze_var 1)) (ze_and (ze_inst kit_bool T.b_isinstance T.b_bool (by decide +kernel) (ze_var 0)) (ze_one (ze_cmp (op_eqD hr.units) rf_eq (ze_var 0) (ze_var 1) (nomark _))))))) zss_nil) (zss_one (zs_ret (ze_and (ze_inst kit_int T.b_isinstance T.b_int (by decide +kernel) (ze_var 0)) (ze_one (ze_cmp (op_eqD hr.units) rf_eq (ze_var 0) (ze_var 1) (nomark _))))))))))
theorem ok__law_same_lv2 (T : Tx K mg) (D__law_same_lv1 : Def P w K mg base "_law_same" 2 ["_law_found", "_law_due"] (spP K 2 m__law_same_lv1)) (Fn : FunIn K mg "_law_same" s__law_same) : Def P w K mg base "_law_same" 3 ["_law_found", "_law_due"] (spP K 2 m__law_same_lv2) := by
  obtain ⟨f, fd, Fn, hm⟩ := Fn.ex
  refine def_mk Fn hm (fnP rfl (by decide) Fn sc__law_same fun cdv A outer s H E hr => ?_) fun _ _ _ _ _ _ us hl => match us, hl with | [_, _], _ => rfl
  exact (zss_cons (zs_if (zt_val (ze_inst2 kit_tuple kit_list T.b_isinstance T.b_tuple (by decide +kernel) T.b_list (by decide +kernel) (ze_var 1))) (zss_cons (zs_if (ZW.zt (zw_or (zt_not (zt_val (ze_inst2 kit_tuple kit_list T.b_isinstance T.b_tuple (by decide +kernel) T.b_list (by decide +kernel) (ze_var 0)))) (zw_or1 (zt_cmp (op_neD hr.units) rf_ne (ze_inst kit_list T.b_isinstance T.b_list (by decide +kernel) (ze_var 0)) (ze_inst kit_list T.b_isinstance T.b_list (by decide +kernel) (ze_var 1)) (nomark _))))) (zss_one (zs_ret ze_bl)) zss_nil) (zss_cons (zs_if (zt_cmp (op_neD hr.units) rf_ne (ze_callB call_len_seq cf_len T.b_len (by decide +kernel) (za_cons (ze_var 0) za_nil)) (ze_callB call_len_seq cf_len T.b_len (by decide +kernel) (za_cons (ze_var 1) za_nil)) (nomark _)) (zss_one (zs_ret ze_bl)) zss_nil) (zss_one (zs_ret (ze_cmp (op_eqD hr.units) rf_eq (ZO.ze (zo_comp rfl sc__law_same.nd (zi_range1 T.b_range (za_cons (ze_callB call_len_seq cf_len T.b_len (by decide +kernel) (za_cons (ze_var 1) za_nil)) za_nil)) (blkOk_by (own := [("_law_k", 2)]) (N := ["_law_found", "_law_due", "_law_k"]) (sc := defScope s__law_same) (by decide +kernel)) (fun _ _ _ _ _ => (zg_name 2 sc__law_same.nd)) (fun _ _ _ _ _ => (zts_one (zt_not (zt_val (ze_def D__law_same_lv1 (fun _ _ => runP_len) hr (za_cons (ze_ix (ze_var 0) (ze_var 2) (fun _ _ => rfl)) (za_cons (ze_ix (ze_var 1) (ze_var 2) (fun _ _ => rfl)) za_nil))))))) (fun _ _ _ _ _ => (ze_var 2)))) (ZO.ze (zo_lst za_nil)) (nomark _)))))) zss_nil) (zss_cons (zs_if (zt_cmp op_isN rf_is (ze_var 1) ze_non (nomark _)) (zss_one (zs_ret (ze_cmp op_isN rf_is (ze_var 0) ze_non (nomark _)))) zss_nil) (zss_cons (zs_if (zt_val (ze_inst kit_str T.b_isinstance T.b_str (by decide +kernel) (ze_var 1))) (zss_one (zs_ret (ze_and (ze_inst kit_str T.b_isinstance T.b_str (by decide +kernel) (ze_var 0)) (ze_one (ze_cmp (op_eqD hr.units) rf_eq (ze_var 0) (ze_var 1) (nomark _)))))) zss_nil) (zss_cons (zs_if (ZW.zt (zw_or (zt_val (ze_inst kit_bool T.b_isinstance T.b_bool (by decide +kernel) (ze_var 1))) (zw_or1 (zt_val (ze_inst kit_bool T.b_isinstance T.b_bool (by decide +kernel) (ze_var 0)))))) (zss_one (zs_ret (ze_and (ze_inst kit_bool T.b_isinstance T.b_bool (by decide +kernel) (ze_var 1)) (ze_and (ze_inst kit_bool T.b_isinstance T.b_bool (by decide +kernel) (ze_var 0)) (ze_one (ze_cmp (op_eqD hr.units) rf_eq (ze_var 0) (ze_var 1) (nomark _))))))) zss_nil) (zss_one (zs_ret (ze_and (ze_inst kit_int T.b_isinstance T.b_int (by decide +kernel) (ze_var 0)) (ze_one (ze_cmp (op_eqD hr.units) rf_eq (ze_var 0) (ze_var 1) (nomark _))))))))))
theorem ok__law_same_lv3 (T : Tx K mg) (D__law_same_lv2 : Def P w K mg base "_law_same" 3 ["_law_found", "_law_due"] (spP K 2 m__law_same_lv2)) (Fn : FunIn K mg "_law_same" s__law_same) : Def P w K mg base "_law_same" 4 ["_law_found", "_law_due"] (spP K 2 m__law_same_lv3) := by
  obtain ⟨f, fd, Fn, hm⟩ := Fn.ex
  refine def_mk Fn hm (fnP rfl (by decide) Fn sc__law_same fun cdv A outer s H E hr => ?_) fun _ _ _ _ _ _ us hl => match us, hl with | [_, _], _ => rfl
  exact (zss_cons (zs_if (zt_val (ze_inst2 kit_tuple kit_list T.b_isinstance T.b_tuple (by decide +kernel) T.b_list (by decide +kernel) (ze_var 1))) (zss_cons (zs_if (ZW.zt (zw_or (zt_not (zt_val (ze_inst2 kit_tuple kit_list T.b_isinstance T.b_tuple (by decide +kernel) T.b_list (by decide +kernel) (ze_var 0)))) (zw_or1 (zt_cmp (op_neD hr.units) rf_ne (ze_inst kit_list T.b_isinstance T.b_list (by decide +kernel) (ze_var 0)) (ze_inst kit_list T.b_isinstance T.b_list (by decide +kernel) (ze_var 1)) (nomark _))))) (zss_one (zs_ret ze_bl)) zss_nil) (zss_cons (zs_if (zt_cmp (op_neD hr.units) rf_ne (ze_callB call_len_seq cf_len T.b_len (by decide +kernel) (za_cons (ze_var 0) za_nil)) (ze_callB call_len_seq cf_len T.b_len (by decide +kernel) (za_cons (ze_var 1) za_nil)) (nomark _)) (zss_one (zs_ret ze_bl)) zss_nil) (zss_one (zs_ret (ze_cmp (op_eqD hr.units) rf_eq (ZO.ze (zo_comp rfl sc__law_same.nd (zi_range1 T.b_range (za_cons (ze_callB call_len_seq cf_len T.b_len (by decide +kernel) (za_cons (ze_var 1) za_nil)) za_nil)) (blkOk_by (own := [("_law_k", 2)]) (N := ["_law_found", "_law_due", "_law_k"]) (sc := defScope s__law_same) (by decide +kernel)) (fun _ _ _ _ _ => (zg_name 2 sc__law_same.nd)) (fun _ _ _ _ _ => (zts_one (zt_not (zt_val (ze_def D__law_same_lv2 (fun _ _ => runP_len) hr (za_cons (ze_ix (ze_var 0) (ze_var 2) (fun _ _ => rfl)) (za_cons (ze_ix (ze_var 1) (ze_var 2) (fun _ _ => rfl)) za_nil))))))) (fun _ _ _ _ _ => (ze_var 2)))) (ZO.ze (zo_lst za_nil)) (nomark _)))))) zss_nil) (zss_cons (zs_if (zt_cmp op_isN rf_is (ze_var 1) ze_non (nomark _)) (zss_one (zs_ret (ze_cmp op_isN rf_is (ze_var 0) ze_non (nomark _)))) zss_nil) (zss_cons (zs_if (zt_val (ze_inst kit_str T.b_isinstance T.b_str (by decide +kernel) (ze_var 1))) (zss_one (zs_ret (ze_and (ze_inst kit_str T.b_isinstance T.b_str (by decide +kernel) (ze_var 0)) (ze_one (ze_cmp (op_eqD hr.units) rf_eq (ze_var 0) (ze_var 1) (nomark _)))))) zss_nil) (zss_cons (zs_if (ZW.zt (zw_or (zt_val (ze_inst kit_bool T.b_isinstance T.b_bool (by decide +kernel) (ze_var 1))) (zw_or1 (zt_val (ze_inst kit_bool T.b_isinstance T.b_bool (by decide +kernel) (ze_var 0)))))) (zss_one (zs_ret (ze_and (ze_inst kit_bool T.b_isinstance T.b_bool (by decide +kernel) (ze_var 1)) (ze_and (ze_inst kit_bool T.b_isinstance T.b_bool (by decide +kernel) (ze_var 0)) (ze_one (ze_cmp (op_eqD hr.units) rf_eq (ze_var 0) (ze_var 1) (nomark _))))))) zss_nil) (zss_one (zs_ret (ze_and (ze_inst kit_int T.b_isinstance T.b_int (by decide +kernel) (ze_var 0)) (ze_one (ze_cmp (op_eqD hr.units) rf_eq (ze_var 0) (ze_var 1) (nomark _))))))))))
theorem ok__law_same_lv4 (T : Tx K mg) (D__law_same_lv3 : Def P w K mg base "_law_same" 4 ["_law_found", "_law_due"] (spP K 2 m__law_same_lv3)) (Fn : FunIn K mg "_law_same" s__law_same) : Def P w K mg base "_law_same" 5 ["_law_found", "_law_due"] (spP K 2 m__law_same_lv4) := by
  obtain ⟨f, fd, Fn, hm⟩ := Fn.ex
  refine def_mk Fn hm (fnP rfl (by decide) Fn sc__law_same fun cdv A outer s H E hr => ?_) fun _ _ _ _ _ _ us hl => match us, hl with | [_, _], _ => rfl
  exact (zss_cons (zs_if (zt_val (ze_inst2 kit_tuple kit_list T.b_isinstance T.b_tuple (by decide +kernel) T.b_list (by decide +kernel) (ze_var 1))) (zss_cons (zs_if (ZW.zt (zw_or (zt_not (zt_val (ze_inst2 kit_tuple kit_list T.b_isinstance T.b_tuple (by decide +kernel) T.b_list (by decide +kernel) (ze_var 0)))) (zw_or1 (zt_cmp (op_neD hr.units) rf_ne (ze_inst kit_list T.b_isinstance T.b_list (by decide +kernel) (ze_var 0)) (ze_inst kit_list T.b_isinstance T.b_list (by decide +kernel) (ze_var 1)) (nomark _))))) (zss_one (zs_ret ze_bl)) zss_nil) (zss_cons (zs_if (zt_cmp (op_neD hr.units) rf_ne (ze_callB call_len_seq cf_len T.b_len (by decide +kernel) (za_cons (ze_var 0) za_nil)) (ze_callB call_len_seq cf_len T.b_len (by decide +kernel) (za_cons (ze_var 1) za_nil)) (nomark _)) (zss_one (zs_ret ze_bl)) zss_nil) (zss_one (zs_ret (ze_cmp (op_eqD hr.units) rf_eq (ZO.ze (zo_comp rfl sc__law_same.nd (zi_range1 T.b_range (za_cons (ze_callB call_len_seq cf_len T.b_len (by decide +kernel) (za_cons (ze_var 1) za_nil)) za_nil)) (blkOk_by (own := [("_law_k", 2)]) (N := ["_law_found", "_law_due", "_law_k"]) (sc := defScope s__law_same) (by decide +kernel)) (fun _ _ _ _ _ => (zg_name 2 sc__law_same.nd)) (fun _ _ _ _ _ => (zts_one (zt_not (zt_val (ze_def D__law_same_lv3 (fun _ _ => runP_len) hr (za_cons (ze_ix (ze_var 0) (ze_var 2) (fun _ _ => rfl)) (za_cons (ze_ix (ze_var 1) (ze_var 2) (fun _ _ => rfl)) za_nil))))))) (fun _ _ _ _ _ => (ze_var 2)))) (ZO.ze (zo_lst za_nil)) (nomark _)))))) zss_nil) (zss_cons (zs_if (zt_cmp op_isN rf_is (ze_var 1) ze_non (nomark _)) (zss_one (zs_ret (ze_cmp op_isN rf_is (ze_var 0) ze_non (nomark _)))) zss_nil) (zss_cons (zs_if (zt_val (ze_inst kit_str T.b_isinstance T.b_str (by decide +kernel) (ze_var 1))) (zss_one (zs_ret (ze_and (ze_inst kit_str T.b_isinstance T.b_str (by decide +kernel) (ze_var 0)) (ze_one (ze_cmp (op_eqD hr.units) rf_eq (ze_var 0) (ze_var 1) (nomark _)))))) zss_nil) (zss_cons (zs_if (ZW.zt (zw_or (zt_val (ze_inst kit_bool T.b_isinstance T.b_bool (by decide +kernel) (ze_var 1))) (zw_or1 (zt_val (ze_inst kit_bool T.b_isinstance T.b_bool (by decide +kernel) (ze_var 0)))))) (zss_one (zs_ret (ze_and (ze_inst kit_bool T.b_isinstance T.b_bool (by decide +kernel) (ze_var 1)) (ze_and (ze_inst kit_bool T.b_isinstance T.b_bool (by decide +kernel) (ze_var 0)) (ze_one (ze_cmp (op_eqD hr.units) rf_eq (ze_var 0) (ze_var 1) (nomark _))))))) zss_nil) (zss_one (zs_ret (ze_and (ze_inst kit_int T.b_isinstance T.b_int (by decide +kernel) (ze_var 0)) (ze_one (ze_cmp (op_eqD hr.units) rf_eq (ze_var 0) (ze_var 1) (nomark _))))))))))
theorem ok__law_same_lv5 (T : Tx K mg) (D__law_same_lv4 : Def P w K mg base "_law_same" 5 ["_law_found", "_law_due"] (spP K 2 m__law_same_lv4)) (Fn : FunIn K mg "_law_same" s__law_same) : Def P w K mg base "_law_same" 6 ["_law_found", "_law_due"] (spP K 2 m__law_same_lv5) := by
  obtain ⟨f, fd, Fn, hm⟩ := Fn.ex
  refine def_mk Fn hm (fnP rfl (by decide) Fn sc__law_same fun cdv A outer s H E hr => ?_) fun _ _ _ _ _ _ us hl => match us, hl with | [_, _], _ => rfl
  exact (zss_cons (zs_if (zt_val (ze_inst2 kit_tuple kit_list T.b_isinstance T.b_tuple (by decide +kernel) T.b_list (by decide +kernel) (ze_var 1))) (zss_cons (zs_if (ZW.zt (zw_or (zt_not (zt_val (ze_inst2 kit_tuple kit_list T.b_isinstance T.b_tuple (by decide +kernel) T.b_list (by decide +kernel) (ze_var 0)))) (zw_or1 (zt_cmp (op_neD hr.units) rf_ne (ze_inst kit_list T.b_isinstance T.b_list (by decide +kernel) (ze_var 0)) (ze_inst kit_list T.b_isinstance T.b_list (by decide +kernel) (ze_var 1)) (nomark _))))) (zss_one (zs_ret ze_bl)) zss_nil) (zss_cons (zs_if (zt_cmp (op_neD hr.units) rf_ne (ze_callB call_len_seq cf_len T.b_len (by decide +kernel) (za_cons (ze_var 0) za_nil)) (ze_callB call_len_seq cf_len T.b_len (by decide +kernel) (za_cons (ze_var 1) za_nil)) (nomark _)) (zss_one (zs_ret ze_bl)) zss_nil) (zss_one (zs_ret (ze_cmp (op_eqD hr.units) rf_eq (ZO.ze (zo_comp rfl sc__law_same.nd (zi_range1 T.b_range (za_cons (ze_callB call_len_seq cf_len T.b_len (by decide +kernel) (za_cons (ze_var 1) za_nil)) za_nil)) (blkOk_by (own := [("_law_k", 2)]) (N := ["_law_found", "_law_due", "_law_k"]) (sc := defScope s__law_same) (by decide +kernel)) (fun _ _ _ _ _ => (zg_name 2 sc__law_same.nd)) (fun _ _ _ _ _ => (zts_one (zt_not (zt_val (ze_def D__law_same_lv4 (fun _ _ => runP_len) hr (za_cons (ze_ix (ze_var 0) (ze_var 2) (fun _ _ => rfl)) (za_cons (ze_ix (ze_var 1) (ze_var 2) (fun _ _ => rfl)) za_nil))))))) (fun _ _ _ _ _ => (ze_var 2)))) (ZO.ze (zo_lst za_nil)) (nomark _)))))) zss_nil) (zss_cons (zs_if (zt_cmp op_isN rf_is (ze_var 1) ze_non (nomark _)) (zss_one (zs_ret (ze_cmp op_isN rf_is (ze_var 0) ze_non (nomark _)))) zss_nil) (zss_cons (zs_if (zt_val (ze_inst kit_str T.b_isinstance T.b_str (by decide +kernel) (ze_var 1))) (zss_one (zs_ret (ze_and (ze_inst kit_str T.b_isinstance T.b_str (by decide +kernel) (ze_var 0)) (ze_one (ze_cmp (op_eqD hr.units) rf_eq (ze_var 0) (ze_var 1) (nomark _)))))) zss_nil) (zss_cons (zs_if (ZW.zt (zw_or (zt_val (ze_inst kit_bool T.b_isinstance T.b_bool (by decide +kernel) (ze_var 1))) (zw_or1 (zt_val (ze_inst kit_bool T.b_isinstance T.b_bool (by decide +kernel) (ze_var 0)))))) (zss_one (zs_ret (ze_and (ze_inst kit_bool T.b_isinstance T.b_bool (by decide +kernel) (ze_var 1)) (ze_and (ze_inst kit_bool T.b_isinstance T.b_bool (by decide +kernel) (ze_var 0)) (ze_one (ze_cmp (op_eqD hr.units) rf_eq (ze_var 0) (ze_var 1) (nomark _))))))) zss_nil) (zss_one (zs_ret (ze_and (ze_inst kit_int T.b_isinstance T.b_int (by decide +kernel) (ze_var 0)) (ze_one (ze_cmp (op_eqD hr.units) rf_eq (ze_var 0) (ze_var 1) (nomark _))))))))))
theorem sc_written_page : FnScope ["page"] ["page"] (defScope s_written_page) := ⟨rfl, rfl, rfl, by decide +kernel, rfl, by decide +kernel, by decide +kernel⟩
theorem ok_written_page (T : Tx K mg)  (Fn : FunIn K mg "written_page" s_written_page) : Def P w K mg base "written_page" 1 ["page"] (spP K 1 m_written_page) := by
  obtain ⟨f, fd, Fn, hm⟩ := Fn.ex
  obtain ⟨t_UNREAD, c_UNREAD⟩ := T.c_UNREAD
  refine def_mk Fn hm (fnP rfl (by decide) Fn sc_written_page fun cdv A outer s H E hr => ?_) fun _ _ _ _ _ _ us hl => match us, hl with | [_], _ => rfl
  exact (zss_one (zs_ret (ze_if (zt_cmp op_isN rf_is (ze_var 0) ze_non (nomark _)) (ze_gstr c_UNREAD) (ze_callTy call_str_int cf_strI T.b_str (by decide +kernel) (za_cons (ze_var 0) za_nil)))))
theorem sc_written_scan : FnScope ["scan", "page"] ["scan"] (defScope s_written_scan) := ⟨rfl, rfl, rfl, by decide +kernel, rfl, by decide +kernel, by decide +kernel⟩
theorem ok_written_scan (T : Tx K mg) (D_written_page : Def P w K mg base "written_page" 1 ["page"] (spP K 1 m_written_page)) (Fn : FunIn K mg "written_scan" s_written_scan) : Def P w K mg base "written_scan" 2 ["scan"] (spP K 1 m_written_scan) := by
  obtain ⟨f, fd, Fn, hm⟩ := Fn.ex
  refine def_mk Fn hm (fnP rfl (by decide) Fn sc_written_scan fun cdv A outer s H E hr => ?_) fun _ _ _ _ _ _ us hl => match us, hl with | [_], _ => rfl
  exact (zss_one (zs_ret (ze_join ze_str (ZO.ze (zo_comp rfl sc_written_scan.nd (zi_tup (ze_var 0)) (blkOk_by (own := [("page", 1)]) (N := ["scan", "page"]) (sc := defScope s_written_scan) (by decide +kernel)) (fun _ _ _ _ _ => (zg_name 1 sc_written_scan.nd)) (fun _ _ _ _ _ => zts_nil) (fun _ _ _ _ _ => (ze_def D_written_page (fun _ _ => runP_len) hr (za_cons (ze_var 1) za_nil))))))))
theorem sc_written_run : FnScope ["run", "scan"] ["run"] (defScope s_written_run) := ⟨rfl, rfl, rfl, by decide +kernel, rfl, by decide +kernel, by decide +kernel⟩
theorem ok_written_run (T : Tx K mg) (D_written_scan : Def P w K mg base "written_scan" 2 ["scan"] (spP K 1 m_written_scan)) (Fn : FunIn K mg "written_run" s_written_run) : Def P w K mg base "written_run" 3 ["run"] (spP K 1 m_written_run) := by
  obtain ⟨f, fd, Fn, hm⟩ := Fn.ex
  obtain ⟨t_NO_SCANS, c_NO_SCANS⟩ := T.c_NO_SCANS
  refine def_mk Fn hm (fnP rfl (by decide) Fn sc_written_run fun cdv A outer s H E hr => ?_) fun _ _ _ _ _ _ us hl => match us, hl with | [_], _ => rfl
  exact (zss_one (zs_ret (ze_if (zt_tru (ze_var 0)) (ze_join ze_str (ZO.ze (zo_comp rfl sc_written_run.nd (zi_list (ze_var 0)) (blkOk_by (own := [("scan", 1)]) (N := ["run", "scan"]) (sc := defScope s_written_run) (by decide +kernel)) (fun _ _ _ _ _ => (zg_name 1 sc_written_run.nd)) (fun _ _ _ _ _ => zts_nil) (fun _ _ _ _ _ => (ze_def D_written_scan (fun _ _ => runP_len) hr (za_cons (ze_var 1) za_nil)))))) (ze_gstr c_NO_SCANS))))
theorem sc_written : FnScope ["runs", "rows", "wrong", "run"] ["runs"] (defScope s_written) := ⟨rfl, rfl, rfl, by decide +kernel, rfl, by decide +kernel, by decide +kernel⟩
theorem ok_written (T : Tx K mg) (D_written_run : Def P w K mg base "written_run" 3 ["run"] (spP K 1 m_written_run)) (D_first_wrong : Def P w K mg base "first_wrong" 4 ["rows"] (spP K 1 m_first_wrong)) (Fn : FunIn K mg "written" s_written) : Def P w K mg base "written" 5 ["runs"] (spP K 1 m_written) := by
  obtain ⟨f, fd, Fn, hm⟩ := Fn.ex
  refine def_mk Fn hm (fnP rfl (by decide) Fn sc_written fun cdv A outer s H E hr => ?_) fun _ _ _ _ _ _ us hl => match us, hl with | [_], _ => rfl
  exact (zss_cons (zs_setCompV 1 rfl sc_written.nd (sw_true rfl rfl rfl (by decide +kernel)) (zi_list (ze_var 0)) (blkOk_by (own := [("run", 3)]) (N := ["runs", "rows", "wrong", "run"]) (sc := defScope s_written) (by decide +kernel)) (fun _ _ _ _ _ => (zg_name 3 sc_written.nd)) (fun _ _ _ _ _ => zts_nil) (fun _ _ _ _ _ => (ze_def D_written_run (fun _ _ => runP_len) hr (za_cons (ze_var 3) za_nil)))) (zss_cons (zs_set 2 sc_written.nd (ze_def D_first_wrong (fun _ _ => runP_len) hr (za_cons (ze_var 1) za_nil))) (zss_cons (zs_if (zt_cmp op_notN rf_isNot (ze_var 2) ze_non (nomark _)) (zss_one zs_never) zss_nil) (zss_one (zs_ret (ze_join ze_str (ze_var 1)))))))
theorem sc_law : FnScope ["_law_script", "_law_state", "_law_turn", "_law_runs", "_law_rows", "_law_run", "_law_words", "_law_front", "_law_back", "_law_text", "_law_handed", "_law_found"] ["_law_script"] (defScope s_law) := ⟨rfl, rfl, rfl, by decide +kernel, rfl, by decide +kernel, by decide +kernel⟩
end
section
variable {P : Program} {w : World} {K : PySem.W.Frag} {mg : Str → Option Value} {base : Heap}
theorem fn_law (T : Tx K mg) (D__law_start : Def P w K mg base "_law_start" 1 ["_law_script"] (spP K 1 m__law_start)) (D__law_any : Def P w K mg base "_law_any" 2 ["_law_state"] (spIO K 1 m__law_any)) (D__law_same_lv5 : Def P w K mg base "_law_same" 6 ["_law_found", "_law_due"] (spP K 2 m__law_same_lv5)) (D_read : Def P w K mg base "read" 5 ["text"] (spB (spP K 1 m_read) (spX K 1 m_read))) (D_written : Def P w K mg base "written" 5 ["runs"] (spP K 1 m_written)) {f : Addr} {fd : FuncData} (Fn : Fun K "law" "law" s_law f fd) : FnOk P w K mg base CX0 7 f fd ["_law_script"] (spP K 1 m_law) := by
  refine fnP rfl (by decide) Fn sc_law fun cdv A outer s H E hr => ?_
  exact (zss_cons (zs_setO 1 sc_law.nd (zo_def D__law_start (fun _ _ => runP_len) hr (za_cons (ze_var 0) za_nil))) (zss_cons (zs_for PassesOwn.never rfl (zi_range1 T.b_range (za_cons ze_int za_nil)) (zg_name 2 sc_law.nd) (zss_cons (zs_parM2 3 4 rfl sc_law.nd (zm_val (ze_defIO 1 D__law_any (fun _ _ _ => runIO_len) hr za_nil) (zm_own (zo_lst za_nil) zm_nil))) (zss_cons (zs_for PassesOwn.never rfl (zi_list (ze_var 3)) (zg_name 5 sc_law.nd) (zss_cons (zs_setO 6 sc_law.nd (zo_lst za_nil)) (zss_cons (zs_for PassesOwn.never rfl (zi_list (ze_var 5)) (zg_tup2 7 8 rfl sc_law.nd) (zss_one (zs_app 6 (za_cons (ze_addS (ze_addS (ze_if (zt_cmp op_isN rf_is (ze_var 7) ze_non (nomark _)) ze_str (ze_callTy call_str_int cf_strI T.b_str (by decide +kernel) (za_cons (ze_var 7) za_nil))) ze_str) (ze_if (zt_cmp op_isN rf_is (ze_var 8) ze_non (nomark _)) ze_str (ze_callTy call_str_int cf_strI T.b_str (by decide +kernel) (za_cons (ze_var 8) za_nil)))) za_nil)))) (zss_one (zs_app 4 (za_cons (ze_if (zt_neB 6 hr.units (ZO.ze (zo_lst za_nil))) (ze_join ze_str (ze_varF 6)) ze_str) za_nil)))))) (zss_cons (zs_parM2 9 10 rfl sc_law.nd (zm_val (ze_join ze_str (ze_varF 4)) (zm_val (ZO.ze (zo_comp rfl sc_law.nd (zi_list (ze_var 3)) (blkOk_by (own := [("_law_run", 5)]) (N := ["_law_script", "_law_state", "_law_turn", "_law_runs", "_law_rows", "_law_run", "_law_words", "_law_front", "_law_back", "_law_text", "_law_handed", "_law_found"]) (sc := defScope s_law) (by decide +kernel)) (fun _ _ _ _ _ => (zg_name 5 sc_law.nd)) (fun _ _ _ _ _ => zts_nil) (fun _ _ _ _ _ => (ZO.ze (zo_list T.b_list (za_cons (ze_var 5) za_nil)))))) zm_nil))) (zss_cons (zs_if (ZW.zt (zw_or (zt_not (zt_val (ze_def D__law_same_lv5 (fun _ _ => runP_len) hr (za_cons (ze_def D_written (fun _ _ => runP_len) hr (za_cons (ze_var 10) za_nil)) (za_cons (ze_var 9) za_nil))))) (zw_or (zt_cmp (op_neD hr.units) rf_ne (ze_var 10) (ze_var 3) (nomark _)) (zw_or1 (zt_not (zt_val (ze_def D__law_same_lv5 (fun _ _ => runP_len) hr (za_cons (ze_def D_read.fst (fun _ _ => runP_len) hr (za_cons (ze_var 9) za_nil)) (za_cons (ze_var 3) za_nil))))))))) (zss_one (zs_ret ze_bl)) zss_nil) (zss_spoil 11 5 sc_law.nd PassesOwn.never rfl D_read.snd (fun _ _ => runP_len) hr (za_cons (ze_var 9) za_nil) (zss_one (zs_if (zt_not (zt_val (ze_def D__law_same_lv5 (fun _ _ => runP_len) hr (za_cons (ze_def D_read.fst (fun _ _ => runP_len) hr (za_cons (ze_var 9) za_nil)) (za_cons (ze_var 3) za_nil))))) (zss_one (zs_ret ze_bl)) zss_nil)))))))) (zss_one (zs_ret (ze_and (ze_cmp (op_eqD hr.units) rf_eq (ze_def D_read.fst (fun _ _ => runP_len) hr (za_cons ze_str za_nil)) (ZO.ze (zo_lst za_nil)) (nomark _)) (ze_one (ze_cmp (op_eqD hr.units) rf_eq (ze_def D_written (fun _ _ => runP_len) hr (za_cons (ZO.ze (zo_lst za_nil)) za_nil)) ze_str (nomark _))))))))
theorem fn_all (T : Tx K mg)  (F__law_start : FunIn K mg "_law_start" s__law_start) (F_is_number : FunIn K mg "is_number" s_is_number) (F_is_written_scan : FunIn K mg "is_written_scan" s_is_written_scan) (F_is_written_run : FunIn K mg "is_written_run" s_is_written_run) (F_first_wrong : FunIn K mg "first_wrong" s_first_wrong) (F_read_page : FunIn K mg "read_page" s_read_page) (F_read_scan : FunIn K mg "read_scan" s_read_scan) (F_read_run : FunIn K mg "read_run" s_read_run) (F_read : FunIn K mg "read" s_read) (F__law_drawn : FunIn K mg "_law_drawn" s__law_drawn) (F__law_any : FunIn K mg "_law_any" s__law_any) (F__law_same : FunIn K mg "_law_same" s__law_same) (F_written_page : FunIn K mg "written_page" s_written_page) (F_written_scan : FunIn K mg "written_scan" s_written_scan) (F_written_run : FunIn K mg "written_run" s_written_run) (F_written : FunIn K mg "written" s_written) {f : Addr} {fd : FuncData} (Fn : Fun K "law" "law" s_law f fd) : FnOk P w K mg base CX0 7 f fd ["_law_script"] (spP K 1 m_law) := by
  have D__law_start : Def P w K mg base "_law_start" 1 ["_law_script"] (spP K 1 m__law_start) := ok__law_start T  F__law_start
  have D_is_number : Def P w K mg base "is_number" 1 ["text"] (spP K 1 m_is_number) := ok_is_number T  F_is_number
  have D_is_written_scan : Def P w K mg base "is_written_scan" 2 ["text"] (spP K 1 m_is_written_scan) := ok_is_written_scan T D_is_number F_is_written_scan
  have D_is_written_run : Def P w K mg base "is_written_run" 3 ["row"] (spP K 1 m_is_written_run) := ok_is_written_run T D_is_written_scan F_is_written_run
  have D_first_wrong : Def P w K mg base "first_wrong" 4 ["rows"] (spP K 1 m_first_wrong) := ok_first_wrong T D_is_written_run F_first_wrong
  have D_read_page : Def P w K mg base "read_page" 1 ["text"] (spP K 1 m_read_page) := ok_read_page T  F_read_page
  have D_read_scan : Def P w K mg base "read_scan" 2 ["text"] (spP K 1 m_read_scan) := ok_read_scan T D_read_page F_read_scan
  have D_read_run : Def P w K mg base "read_run" 3 ["row"] (spP K 1 m_read_run) := ok_read_run T D_read_scan F_read_run
  have D_read : Def P w K mg base "read" 5 ["text"] (spB (spP K 1 m_read) (spX K 1 m_read)) := ok_read T D_first_wrong D_read_run F_read
  have D__law_drawn : Def P w K mg base "_law_drawn" 1 ["_law_state", "_law_many"] (spIO K 2 m__law_drawn) := ok__law_drawn T  F__law_drawn
  have D__law_any : Def P w K mg base "_law_any" 2 ["_law_state"] (spIO K 1 m__law_any) := ok__law_any T D__law_drawn F__law_any
  have D__law_same_lv0 : Def P w K mg base "_law_same" 1 ["_law_found", "_law_due"] (spP K 2 m__law_same_lv0) := ok__law_same_lv0 T  F__law_same
  have D__law_same_lv1 : Def P w K mg base "_law_same" 2 ["_law_found", "_law_due"] (spP K 2 m__law_same_lv1) := ok__law_same_lv1 T D__law_same_lv0 F__law_same
  have D__law_same_lv2 : Def P w K mg base "_law_same" 3 ["_law_found", "_law_due"] (spP K 2 m__law_same_lv2) := ok__law_same_lv2 T D__law_same_lv1 F__law_same
  have D__law_same_lv3 : Def P w K mg base "_law_same" 4 ["_law_found", "_law_due"] (spP K 2 m__law_same_lv3) := ok__law_same_lv3 T D__law_same_lv2 F__law_same
  have D__law_same_lv4 : Def P w K mg base "_law_same" 5 ["_law_found", "_law_due"] (spP K 2 m__law_same_lv4) := ok__law_same_lv4 T D__law_same_lv3 F__law_same
  have D__law_same_lv5 : Def P w K mg base "_law_same" 6 ["_law_found", "_law_due"] (spP K 2 m__law_same_lv5) := ok__law_same_lv5 T D__law_same_lv4 F__law_same
  have D_written_page : Def P w K mg base "written_page" 1 ["page"] (spP K 1 m_written_page) := ok_written_page T  F_written_page
  have D_written_scan : Def P w K mg base "written_scan" 2 ["scan"] (spP K 1 m_written_scan) := ok_written_scan T D_written_page F_written_scan
  have D_written_run : Def P w K mg base "written_run" 3 ["run"] (spP K 1 m_written_run) := ok_written_run T D_written_scan F_written_run
  have D_written : Def P w K mg base "written" 5 ["runs"] (spP K 1 m_written) := ok_written T D_written_run D_first_wrong F_written
  exact fn_law T D__law_start D__law_any D__law_same_lv5 D_read D_written Fn
end
theorem all_mk {l : PySem.W.OpenLaw} {w : World} {K : PySem.W.Frag} {h : Heap} {mg : Str → Option Value} {fa : Addr} (X : K.In h) (G : h.Ns mainGlobals mg) (tb : ∀ x ∈ lamNames, ∀ c Pt, PySem.W.tabIn K x = some (c, Pt) → PySem.W.CodeHd h c Pt) (hfa : mg "law" = some (.ref fa))
    {f0 : Addr} {od0 an0 : Option Addr} {sl0 : Array (Option Value)} {oc0 kV0 dc0 pm0 cd0 ct0 : Value}
    {f1 : Addr} {od1 an1 : Option Addr} {sl1 : Array (Option Value)} {oc1 kV1 dc1 pm1 cd1 ct1 : Value}
    {f2 : Addr} {od2 an2 : Option Addr} {sl2 : Array (Option Value)} {oc2 kV2 dc2 pm2 cd2 ct2 : Value}
    {f3 : Addr} {od3 an3 : Option Addr} {sl3 : Array (Option Value)} {oc3 kV3 dc3 pm3 cd3 ct3 : Value}
    {f4 : Addr} {od4 an4 : Option Addr} {sl4 : Array (Option Value)} {oc4 kV4 dc4 pm4 cd4 ct4 : Value}
    {f5 : Addr} {od5 an5 : Option Addr} {sl5 : Array (Option Value)} {oc5 kV5 dc5 pm5 cd5 ct5 : Value}
    {f6 : Addr} {od6 an6 : Option Addr} {sl6 : Array (Option Value)} {oc6 kV6 dc6 pm6 cd6 ct6 : Value}
    {f7 : Addr} {od7 an7 : Option Addr} {sl7 : Array (Option Value)} {oc7 kV7 dc7 pm7 cd7 ct7 : Value}
    {f8 : Addr} {od8 an8 : Option Addr} {sl8 : Array (Option Value)} {oc8 kV8 dc8 pm8 cd8 ct8 : Value}
    {f9 : Addr} {od9 an9 : Option Addr} {sl9 : Array (Option Value)} {oc9 kV9 dc9 pm9 cd9 ct9 : Value}
    {f10 : Addr} {od10 an10 : Option Addr} {sl10 : Array (Option Value)} {oc10 kV10 dc10 pm10 cd10 ct10 : Value}
    {f11 : Addr} {od11 an11 : Option Addr} {sl11 : Array (Option Value)} {oc11 kV11 dc11 pm11 cd11 ct11 : Value}
    {f12 : Addr} {od12 an12 : Option Addr} {sl12 : Array (Option Value)} {oc12 kV12 dc12 pm12 cd12 ct12 : Value}
    {f13 : Addr} {od13 an13 : Option Addr} {sl13 : Array (Option Value)} {oc13 kV13 dc13 pm13 cd13 ct13 : Value}
    {f14 : Addr} {od14 an14 : Option Addr} {sl14 : Array (Option Value)} {oc14 kV14 dc14 pm14 cd14 ct14 : Value}
    {f15 : Addr} {od15 an15 : Option Addr} {sl15 : Array (Option Value)} {oc15 kV15 dc15 pm15 cd15 ct15 : Value}
    {f16 : Addr} {od16 an16 : Option Addr} {sl16 : Array (Option Value)} {oc16 kV16 dc16 pm16 cd16 ct16 : Value}
    {t_FIGURES : Tok}
    {t_MOST_RUNS : Tok}
    {t_MOST_SCANS : Tok}
    {t_NO_SCANS : Tok}
    {t_UNREAD : Tok}
    (a0 : PySem.W.nsIn K mainGlobals "_law_start" = some (some (.ref f0)))
    (l0 : K.lookup f0 = some ⟨oc0, od0, .func (PySem.W.fnOf "_law_start" "_law_start" (defArgs s__law_start) (defBody s__law_start) (defScope s__law_start) .none kV0 dc0 pm0 an0 cd0 ct0), sl0⟩)
    (c0 : PySem.W.codeIn K cd0 "_law_start" = true)
    (k0 : PySem.W.keepIn K (.ref f0) = true)
    (a1 : PySem.W.nsIn K mainGlobals "is_number" = some (some (.ref f1)))
    (l1 : K.lookup f1 = some ⟨oc1, od1, .func (PySem.W.fnOf "is_number" "is_number" (defArgs s_is_number) (defBody s_is_number) (defScope s_is_number) .none kV1 dc1 pm1 an1 cd1 ct1), sl1⟩)
    (c1 : PySem.W.codeIn K cd1 "is_number" = true)
    (k1 : PySem.W.keepIn K (.ref f1) = true)
    (a2 : PySem.W.nsIn K mainGlobals "is_written_scan" = some (some (.ref f2)))
    (l2 : K.lookup f2 = some ⟨oc2, od2, .func (PySem.W.fnOf "is_written_scan" "is_written_scan" (defArgs s_is_written_scan) (defBody s_is_written_scan) (defScope s_is_written_scan) .none kV2 dc2 pm2 an2 cd2 ct2), sl2⟩)
    (c2 : PySem.W.codeIn K cd2 "is_written_scan" = true)
    (k2 : PySem.W.keepIn K (.ref f2) = true)
    (a3 : PySem.W.nsIn K mainGlobals "is_written_run" = some (some (.ref f3)))
    (l3 : K.lookup f3 = some ⟨oc3, od3, .func (PySem.W.fnOf "is_written_run" "is_written_run" (defArgs s_is_written_run) (defBody s_is_written_run) (defScope s_is_written_run) .none kV3 dc3 pm3 an3 cd3 ct3), sl3⟩)
    (c3 : PySem.W.codeIn K cd3 "is_written_run" = true)
    (k3 : PySem.W.keepIn K (.ref f3) = true)
    (a4 : PySem.W.nsIn K mainGlobals "first_wrong" = some (some (.ref f4)))
    (l4 : K.lookup f4 = some ⟨oc4, od4, .func (PySem.W.fnOf "first_wrong" "first_wrong" (defArgs s_first_wrong) (defBody s_first_wrong) (defScope s_first_wrong) .none kV4 dc4 pm4 an4 cd4 ct4), sl4⟩)
    (c4 : PySem.W.codeIn K cd4 "first_wrong" = true)
    (k4 : PySem.W.keepIn K (.ref f4) = true)
    (a5 : PySem.W.nsIn K mainGlobals "read_page" = some (some (.ref f5)))
    (l5 : K.lookup f5 = some ⟨oc5, od5, .func (PySem.W.fnOf "read_page" "read_page" (defArgs s_read_page) (defBody s_read_page) (defScope s_read_page) .none kV5 dc5 pm5 an5 cd5 ct5), sl5⟩)
    (c5 : PySem.W.codeIn K cd5 "read_page" = true)
    (k5 : PySem.W.keepIn K (.ref f5) = true)
    (a6 : PySem.W.nsIn K mainGlobals "read_scan" = some (some (.ref f6)))
    (l6 : K.lookup f6 = some ⟨oc6, od6, .func (PySem.W.fnOf "read_scan" "read_scan" (defArgs s_read_scan) (defBody s_read_scan) (defScope s_read_scan) .none kV6 dc6 pm6 an6 cd6 ct6), sl6⟩)
    (c6 : PySem.W.codeIn K cd6 "read_scan" = true)
    (k6 : PySem.W.keepIn K (.ref f6) = true)
    (a7 : PySem.W.nsIn K mainGlobals "read_run" = some (some (.ref f7)))
    (l7 : K.lookup f7 = some ⟨oc7, od7, .func (PySem.W.fnOf "read_run" "read_run" (defArgs s_read_run) (defBody s_read_run) (defScope s_read_run) .none kV7 dc7 pm7 an7 cd7 ct7), sl7⟩)
    (c7 : PySem.W.codeIn K cd7 "read_run" = true)
    (k7 : PySem.W.keepIn K (.ref f7) = true)
    (a8 : PySem.W.nsIn K mainGlobals "read" = some (some (.ref f8)))
    (l8 : K.lookup f8 = some ⟨oc8, od8, .func (PySem.W.fnOf "read" "read" (defArgs s_read) (defBody s_read) (defScope s_read) .none kV8 dc8 pm8 an8 cd8 ct8), sl8⟩)
    (c8 : PySem.W.codeIn K cd8 "read" = true)
    (k8 : PySem.W.keepIn K (.ref f8) = true)
    (a9 : PySem.W.nsIn K mainGlobals "_law_drawn" = some (some (.ref f9)))
    (l9 : K.lookup f9 = some ⟨oc9, od9, .func (PySem.W.fnOf "_law_drawn" "_law_drawn" (defArgs s__law_drawn) (defBody s__law_drawn) (defScope s__law_drawn) .none kV9 dc9 pm9 an9 cd9 ct9), sl9⟩)
    (c9 : PySem.W.codeIn K cd9 "_law_drawn" = true)
    (k9 : PySem.W.keepIn K (.ref f9) = true)
    (a10 : PySem.W.nsIn K mainGlobals "_law_any" = some (some (.ref f10)))
    (l10 : K.lookup f10 = some ⟨oc10, od10, .func (PySem.W.fnOf "_law_any" "_law_any" (defArgs s__law_any) (defBody s__law_any) (defScope s__law_any) .none kV10 dc10 pm10 an10 cd10 ct10), sl10⟩)
    (c10 : PySem.W.codeIn K cd10 "_law_any" = true)
    (k10 : PySem.W.keepIn K (.ref f10) = true)
    (a11 : PySem.W.nsIn K mainGlobals "_law_same" = some (some (.ref f11)))
    (l11 : K.lookup f11 = some ⟨oc11, od11, .func (PySem.W.fnOf "_law_same" "_law_same" (defArgs s__law_same) (defBody s__law_same) (defScope s__law_same) .none kV11 dc11 pm11 an11 cd11 ct11), sl11⟩)
    (c11 : PySem.W.codeIn K cd11 "_law_same" = true)
    (k11 : PySem.W.keepIn K (.ref f11) = true)
    (a12 : PySem.W.nsIn K mainGlobals "written_page" = some (some (.ref f12)))
    (l12 : K.lookup f12 = some ⟨oc12, od12, .func (PySem.W.fnOf "written_page" "written_page" (defArgs s_written_page) (defBody s_written_page) (defScope s_written_page) .none kV12 dc12 pm12 an12 cd12 ct12), sl12⟩)
    (c12 : PySem.W.codeIn K cd12 "written_page" = true)
    (k12 : PySem.W.keepIn K (.ref f12) = true)
    (a13 : PySem.W.nsIn K mainGlobals "written_scan" = some (some (.ref f13)))
    (l13 : K.lookup f13 = some ⟨oc13, od13, .func (PySem.W.fnOf "written_scan" "written_scan" (defArgs s_written_scan) (defBody s_written_scan) (defScope s_written_scan) .none kV13 dc13 pm13 an13 cd13 ct13), sl13⟩)
    (c13 : PySem.W.codeIn K cd13 "written_scan" = true)
    (k13 : PySem.W.keepIn K (.ref f13) = true)
    (a14 : PySem.W.nsIn K mainGlobals "written_run" = some (some (.ref f14)))
    (l14 : K.lookup f14 = some ⟨oc14, od14, .func (PySem.W.fnOf "written_run" "written_run" (defArgs s_written_run) (defBody s_written_run) (defScope s_written_run) .none kV14 dc14 pm14 an14 cd14 ct14), sl14⟩)
    (c14 : PySem.W.codeIn K cd14 "written_run" = true)
    (k14 : PySem.W.keepIn K (.ref f14) = true)
    (a15 : PySem.W.nsIn K mainGlobals "written" = some (some (.ref f15)))
    (l15 : K.lookup f15 = some ⟨oc15, od15, .func (PySem.W.fnOf "written" "written" (defArgs s_written) (defBody s_written) (defScope s_written) .none kV15 dc15 pm15 an15 cd15 ct15), sl15⟩)
    (c15 : PySem.W.codeIn K cd15 "written" = true)
    (k15 : PySem.W.keepIn K (.ref f15) = true)
    (a16 : PySem.W.nsIn K mainGlobals "law" = some (some (.ref f16)))
    (l16 : K.lookup f16 = some ⟨oc16, od16, .func (PySem.W.fnOf "law" "law" (defArgs s_law) (defBody s_law) (defScope s_law) .none kV16 dc16 pm16 an16 cd16 ct16), sl16⟩)
    (c16 : PySem.W.codeIn K cd16 "law" = true)
    (k16 : PySem.W.keepIn K (.ref f16) = true)
    (z_all : PySem.W.nsIn K mainGlobals "all" = some none)
    (z_bool : PySem.W.nsIn K mainGlobals "bool" = some none)
    (z_enumerate : PySem.W.nsIn K mainGlobals "enumerate" = some none)
    (z_int : PySem.W.nsIn K mainGlobals "int" = some none)
    (z_isinstance : PySem.W.nsIn K mainGlobals "isinstance" = some none)
    (z_len : PySem.W.nsIn K mainGlobals "len" = some none)
    (z_list : PySem.W.nsIn K mainGlobals "list" = some none)
    (z_range : PySem.W.nsIn K mainGlobals "range" = some none)
    (z_str : PySem.W.nsIn K mainGlobals "str" = some none)
    (z_tuple : PySem.W.nsIn K mainGlobals "tuple" = some none)
    (z_FIGURES : PySem.W.nsIn K mainGlobals "FIGURES" = some (some (.str "0123456789" t_FIGURES)))
    (z_MOST_RUNS : PySem.W.nsIn K mainGlobals "MOST_RUNS" = some (some (.int 12 t_MOST_RUNS)))
    (z_MOST_SCANS : PySem.W.nsIn K mainGlobals "MOST_SCANS" = some (some (.int 20 t_MOST_SCANS)))
    (z_NO_SCANS : PySem.W.nsIn K mainGlobals "NO_SCANS" = some (some (.str "." t_NO_SCANS)))
    (z_UNREAD : PySem.W.nsIn K mainGlobals "UNREAD" = some (some (.str "-" t_UNREAD))) :
    ∃ fd : FuncData, (∀ (s : Shared) (v : Value), BindsTo s fd ⟨[v], []⟩ [("_law_script", v)]) ∧ ∀ base : Heap, K.In base → base.Ns mainGlobals mg → Blt mg base → FnOk l.prog w K mg base CX0 7 fa fd ["_law_script"] (spP K 1 m_law) := by
  have e := hfa.symm.trans (PySem.W.mg_of X G a16)
  cases e
  have T : Tx K mg := ⟨PySem.W.mg_none_of X G z_all, PySem.W.mg_none_of X G z_bool, PySem.W.mg_none_of X G z_enumerate, PySem.W.mg_none_of X G z_int, PySem.W.mg_none_of X G z_isinstance, PySem.W.mg_none_of X G z_len, PySem.W.mg_none_of X G z_list, PySem.W.mg_none_of X G z_range, PySem.W.mg_none_of X G z_str, PySem.W.mg_none_of X G z_tuple, ⟨_, PySem.W.mg_of X G z_FIGURES⟩, ⟨_, PySem.W.mg_of X G z_MOST_RUNS⟩, ⟨_, PySem.W.mg_of X G z_MOST_SCANS⟩, ⟨_, PySem.W.mg_of X G z_NO_SCANS⟩, ⟨_, PySem.W.mg_of X G z_UNREAD⟩⟩
  have F0 : FunIn K mg "_law_start" s__law_start := ⟨_, _, fun_mk (st := s__law_start) l0 c0 k0, PySem.W.mg_of X G a0⟩
  have F1 : FunIn K mg "is_number" s_is_number := ⟨_, _, fun_mk (st := s_is_number) l1 c1 k1, PySem.W.mg_of X G a1⟩
  have F2 : FunIn K mg "is_written_scan" s_is_written_scan := ⟨_, _, fun_mk (st := s_is_written_scan) l2 c2 k2, PySem.W.mg_of X G a2⟩
  have F3 : FunIn K mg "is_written_run" s_is_written_run := ⟨_, _, fun_mk (st := s_is_written_run) l3 c3 k3, PySem.W.mg_of X G a3⟩
  have F4 : FunIn K mg "first_wrong" s_first_wrong := ⟨_, _, fun_mk (st := s_first_wrong) l4 c4 k4, PySem.W.mg_of X G a4⟩
  have F5 : FunIn K mg "read_page" s_read_page := ⟨_, _, fun_mk (st := s_read_page) l5 c5 k5, PySem.W.mg_of X G a5⟩
  have F6 : FunIn K mg "read_scan" s_read_scan := ⟨_, _, fun_mk (st := s_read_scan) l6 c6 k6, PySem.W.mg_of X G a6⟩
  have F7 : FunIn K mg "read_run" s_read_run := ⟨_, _, fun_mk (st := s_read_run) l7 c7 k7, PySem.W.mg_of X G a7⟩
  have F8 : FunIn K mg "read" s_read := ⟨_, _, fun_mk (st := s_read) l8 c8 k8, PySem.W.mg_of X G a8⟩
  have F9 : FunIn K mg "_law_drawn" s__law_drawn := ⟨_, _, fun_mk (st := s__law_drawn) l9 c9 k9, PySem.W.mg_of X G a9⟩
  have F10 : FunIn K mg "_law_any" s__law_any := ⟨_, _, fun_mk (st := s__law_any) l10 c10 k10, PySem.W.mg_of X G a10⟩
  have F11 : FunIn K mg "_law_same" s__law_same := ⟨_, _, fun_mk (st := s__law_same) l11 c11 k11, PySem.W.mg_of X G a11⟩
  have F12 : FunIn K mg "written_page" s_written_page := ⟨_, _, fun_mk (st := s_written_page) l12 c12 k12, PySem.W.mg_of X G a12⟩
  have F13 : FunIn K mg "written_scan" s_written_scan := ⟨_, _, fun_mk (st := s_written_scan) l13 c13 k13, PySem.W.mg_of X G a13⟩
  have F14 : FunIn K mg "written_run" s_written_run := ⟨_, _, fun_mk (st := s_written_run) l14 c14 k14, PySem.W.mg_of X G a14⟩
  have F15 : FunIn K mg "written" s_written := ⟨_, _, fun_mk (st := s_written) l15 c15 k15, PySem.W.mg_of X G a15⟩
  exact ⟨PySem.W.fnOf "law" "law" (defArgs s_law) (defBody s_law) (defScope s_law) .none kV16 dc16 pm16 an16 cd16 ct16, fun s v => .of_eq rfl, fun base _ _ hB => fn_all T  F0 F1 F2 F3 F4 F5 F6 F7 F8 F9 F10 F11 F12 F13 F14 F15 (fun_mk (st := s_law) l16 c16 k16)⟩
theorem walk {l : PySem.W.OpenLaw} {q : Program} {loose : List Str} {XP : (Str → Option Value) → Heap → Prop} {YP : World → Heap → Prop} {d : DefRec} {K : Params → PySem.W.Frag} (hn : l.most = some 63) (hdf : d.params.defaults = [])
    (hY : ∀ (w : World) (h : Heap), YP w h → (K w.params).In h) (hlaw : ∀ ns : List Int, ns.length ≤ 63 → m_law [.list (ns.map PyData.int)] = some (.val (.bool true)))
    (hT : ∀ P : Params, TabsOk (K P) q) (F : ∀ (w : World) (mg : Str → Option Value) (fa : Addr) (h : Heap), (K w.params).In h → h.Ns mainGlobals mg → (∀ x ∈ lamNames, ∀ c Pt, PySem.W.tabIn (K w.params) x = some (c, Pt) → PySem.W.CodeHd h c Pt) → mg d.name = some (.ref fa) →
      ∃ fd : FuncData, (∀ (s : Shared) (u : Value), BindsTo s fd ⟨[u], []⟩ [("_law_script", u)]) ∧ ∀ base : Heap, (K w.params).In base → base.Ns mainGlobals mg → Blt mg base → FnOk l.prog w (K w.params) mg base CX0 7 fa fd ["_law_script"] (spP (K w.params) 1 m_law)) :
    PySem.W.WalkO q loose XP YP l.row.toRowW d [] (fun f vs => PySem.call f vs) :=
  walk_ofT (n := 63) (k := 7) (x := "_law_script") (sp := fun w => spP (K w.params) 1 m_law) hn (by decide) hdf ⟨rfl, by decide, by decide⟩ hY hT F (fun _ _ a ns hl hO hS => law_spT hO hS (hlaw ns hl))
end K13

namespace K13
open PySem L2 Z RD
local macro_rules | `(tactic| walk_at "w") => `(tactic| first
  | with_reducible refine ws_seq ?_ | with_reducible refine we_bin ?_ | with_reducible refine we_c ?_ | ((with_reducible refine' we_var ?hv ?_); (case hv => rfl)) | with_reducible refine wa_cons ?_ | with_reducible refine wa_nil ?_ | with_reducible refine wb_t ?_
  | with_reducible refine ws_set ?_ | with_reducible refine ws_if ?_ | with_reducible refine we_if ?_ | with_reducible refine we_call ?_ | with_reducible refine we_cb ?_ | ((with_reducible refine' we_callIO ?hv ?_); (case hv => rfl)) | with_reducible refine we_tup ?_ | with_reducible refine we_lst ?_
  | with_reducible refine ws_ret ?_ | with_reducible refine ws_nx ?_ | with_reducible refine wb_and ?_ | with_reducible refine wb_or ?_ | with_reducible refine wb_not ?_ | with_reducible refine we_and ?_ | with_reducible refine we_or ?_ | with_reducible refine we_not ?_
  | with_reducible refine ws_setO ?_ | with_reducible refine ws_retO ?_ | ((with_reducible refine' ws_retV ?hv ?_); (case hv => rfl)) | with_reducible refine ws_tgt ?_ | with_reducible refine ws_par ?_ | with_reducible refine ws_put ?_ | ((with_reducible refine' ws_app ?hv ?_); (case hv => rfl)) | with_reducible refine ws_for ?_ | with_reducible refine ws_drop ?_ | with_reducible refine ws_bk ?_ | with_reducible refine ws_ct ?_
  | with_reducible refine we_chain ?_ | with_reducible refine we_chain3 ?_ | with_reducible refine we_callO ?_ | ((with_reducible refine' we_ixB ?hv ?_); (case hv => rfl))
  | with_reducible refine we_list ?_ | with_reducible refine we_tuple ?_ | with_reducible refine we_inst ?_ | with_reducible refine we_inst2 ?_ | with_reducible refine we_sl ?_ | with_reducible refine we_rev ?_ | ((with_reducible refine' we_neB ?hv ?_); (case hv => rfl)) | with_reducible refine we_comp ?_ | ((with_reducible refine' we_varF ?hv ?_); (case hv => rfl)) | ((with_reducible refine' we_varV ?hv ?_); (case hv => rfl))
  | with_reducible refine we_cg ?_ | with_reducible refine we_cg2 ?_ | with_reducible refine we_disp1 ?_ | ((with_reducible refine' we_get2B ?hv ?_); (case hv => rfl)) | with_reducible refine we_sumV ?_ | with_reducible refine wb_tru ?_ | with_reducible refine ws_dput ?_ | ((with_reducible refine' wi_ky ?hv ?_); (case hv => rfl)) | with_reducible refine wi_rv ?_
  | with_reducible refine wb_yes ?_ | with_reducible refine wi_l ?_ | with_reducible refine wi_t ?_ | with_reducible refine wi_r1 ?_ | with_reducible refine wi_r2 ?_ | with_reducible refine wi_en ?_ | with_reducible refine wi_z ?_ | with_reducible refine wo_none ?_ | with_reducible refine wo_some ?_ | with_reducible refine wm_nil ?_ | with_reducible refine wm_val ?_ | with_reducible refine wm_own ?_
  | ((with_reducible show Then _ _ (Out.nx _)); (show Ws _ _ _))
  | ((with_reducible show Then _ _ (Out.rt _ _)); dsimp only [Then])
  | ((with_reducible show (_ = true → _) ∧ (_ = false → _)); refine ⟨fun hk => ?_, fun hk => ?_⟩ <;> (try simp only [decide_eq_true_eq, decide_eq_false_iff_not, Bool.not_eq_true', Bool.not_eq_false', Bool.not_true, Bool.not_false, Bool.true_eq_false, Bool.false_eq_true, reduceCtorEq] at hk))
  | ((with_reducible show (_ = false → _) ∧ (_ = true → _)); refine ⟨fun hk => ?_, fun hk => ?_⟩ <;> (try simp only [decide_eq_true_eq, decide_eq_false_iff_not, Bool.not_eq_true', Bool.not_eq_false', Bool.not_true, Bool.not_false, Bool.true_eq_false, Bool.false_eq_true, reduceCtorEq] at hk))
  | ((with_reducible show List.length _ ≤ sizeLine ∧ _); refine ⟨Nat.le_of_ble_eq_true rfl, ?_⟩)
  | ((with_reducible show List.length _ = List.length _ ∧ _); refine ⟨rfl, ?_⟩)
  | ((with_reducible show ∃ _, gEq _ _ = some _ ∧ _); refine ⟨_, gEq_int, ?_⟩) | ((with_reducible show ∃ _, gNe _ _ = some _ ∧ _); refine ⟨_, gNe_int, ?_⟩)
  | ((with_reducible show ∃ _, gMod _ _ = some _ ∧ _); refine ⟨_, gMod_eq (by omega), ?_⟩) | ((with_reducible show ∃ _, gDiv _ _ = some _ ∧ _); refine ⟨_, gDiv_eq (by omega), ?_⟩) | ((with_reducible show ∃ _, gMul _ _ = some _ ∧ _); refine ⟨_, gMul_eq (by omega), ?_⟩)
  | ((with_reducible show SlP _ none (some _) _); refine sl_to (by omega) ?_) | ((with_reducible show SlP _ (some _) none _); refine sl_from (by omega) ?_) | ((with_reducible show SlP _ (some _) (some _) _); refine sl_both (by omega) (by omega) ?_)
  | ((with_reducible show ∃ _, gPlus (PyData.list (List.map _ _)) (PyData.list (List.map _ _)) = some _ ∧ _); refine ⟨_, gPlus_map (by simp only [List.length_append, List.length_take, List.length_drop, List.length_reverse, List.length_cons, List.length_nil]; omega), ?_⟩)
  | ((with_reducible show ∃ _, _); first | refine ⟨_, rfl, ?_⟩ | refine ⟨_, _, rfl, ?_⟩ | refine ⟨_, _, rfl, rfl, ?_⟩ | refine ⟨_, _, _, rfl, rfl, rfl, ?_⟩ | refine ⟨_, .inl rfl, ?_⟩ | refine ⟨_, .inr rfl, ?_⟩))
/-- where drawing stands -/
structure GoodSt (d : D) : Prop where
  ex : ∃ (ns : List Int) (a b c : Int), d = .list [.list (ns.map PyData.int), .int a, .int b, .int c] ∧ 0 ≤ a
/-- what a def that draws hands back -/
structure Post (Q : D → Prop) (r : SV × D) : Prop where
  ex : Q r.1.d
  st : GoodSt r.2
theorem io_post {m : D → List D → Option (SV × D)} {Q : D → Prop} {e : En} {i : Nat} {d : D} {ds : List D} {R : D → En → Prop} (he : e[i]? = some (some (.own d))) (hm : ∃ r, m d ds = some r ∧ Post Q r) (h : ∀ (x d' : D), Q x → GoodSt d' → R x (e.set i (some (.own d')))) : CallIO m i ds e R := by
  obtain ⟨⟨r, d'⟩, h2, h4, h5⟩ := hm
  exact ⟨d, _, d', he, h2, h _ d' h4 h5⟩
theorem drawn {d : D} {k : Int} (hd : GoodSt d) (h0 : 0 < k) (h1 : k < 1073741824) : ∃ r : SV × D, m__law_drawn d [.int k] = some r ∧ ∃ n : Int, r.1 = .val (.int n) ∧ 0 ≤ n ∧ n < k ∧ GoodSt r.2 := by
  obtain ⟨ns, a, b, c, rfl, ha⟩ := hd.ex
  refine runIO_of rfl ?_
  unfold b__law_drawn
  show Ws _ [some (SV.own (.list [.list (ns.map PyData.int), .int a, .int b, .int c])), some (.val (.int k)), none, none] _
  repeat' walk_at "w"
  · refine ⟨Int.emod_nonneg _ (by omega), Int.emod_lt_of_pos _ h0, ⟨ns, a, b, c / k, rfl, ha⟩⟩
  · rename_i hc hl
    have hi : L2.atI (ns.map PyData.int) (a + 1 - 1) = some (.int (ns.getD a.toNat 0)) := by
      have hlt : a.toNat < ns.length := by rw [List.length_map] at hl; omega
      have e : a + 1 - 1 = ((a.toNat : Nat) : Int) := by omega
      rw [e]
      refine atI_nat ?_
      rw [List.getElem?_map, List.getD_eq_getElem?_getD, List.getElem?_eq_getElem hlt]
      rfl
    refine ⟨_, hi, ?_⟩
    generalize ns.getD a.toNat 0 = cell
    repeat' walk_at "w"
    · exact ⟨Int.emod_nonneg _ (by omega), Int.emod_lt_of_pos _ h0, ⟨ns, a + 1, b, cell / k, rfl, by omega⟩⟩
    · exact ⟨Int.emod_nonneg _ (by omega), Int.emod_lt_of_pos _ h0, ⟨ns, a + 1, b, 0, rfl, by omega⟩⟩
  · exact ⟨Int.emod_nonneg _ (by omega), Int.emod_lt_of_pos _ h0, ⟨ns, a + 1, (b * 48271 + 11) % 2147483647, c, rfl, by omega⟩⟩
theorem io_drawn {e : En} {i : Nat} {d : D} {k : Int} {R : D → En → Prop} (he : e[i]? = some (some (.own d))) (hd : GoodSt d) (h0 : 0 < k) (h1 : k < 1073741824) (h : ∀ (n : Int) (d' : D), 0 ≤ n → n < k → GoodSt d' → R (.int n) (e.set i (some (.own d')))) :
    CallIO m__law_drawn i [.int k] e R := by
  obtain ⟨⟨r, d'⟩, h2, n, h3, h4, h5, h6⟩ := drawn hd h0 h1
  cases h3
  exact ⟨d, _, d', he, h2, h n d' h4 h5 h6⟩
local macro_rules | `(tactic| walk_at "w") => `(tactic| ((with_reducible show CallIO m__law_drawn _ _ _ _); refine io_drawn rfl (by assumption) (by omega) (by omega) ?_; intro n' d' hn0 hn1 hd'))
theorem start (ns : List Int) : ∃ r, m__law_start [.list (ns.map PyData.int)] = some r ∧ ∃ d, r = .own d ∧ GoodSt d := by
  refine runP_ex rfl ?_
  unfold b__law_start
  show Ws _ [some (SV.val (.list (ns.map PyData.int))), none, none] _
  repeat' walk_at "w"
  refine forL_inv (fun i env => ∃ (b : Int) (x : Option SV), env = [some (SV.val (.list (ns.map PyData.int))), some (.val (.int b)), x]) ⟨1, none, rfl⟩ ?_ ?_
  · rintro i d env hi ⟨b, x, rfl⟩
    rw [List.getElem?_map] at hi
    obtain ⟨c, _, hc⟩ := Option.map_eq_some_iff.mp hi
    subst hc
    refine ⟨_, rfl, ?_⟩
    repeat' walk_at "w"
    exact ⟨_, _, rfl⟩
  · rintro env ⟨b, x, rfl⟩
    repeat' walk_at "w"
    exact ⟨ns, 0, b, 0, rfl, by omega⟩
local macro_rules | `(tactic| walk_at "w") => `(tactic| ((with_reducible show CallIO m__law_drawn _ _ _ _); refine io_drawn rfl (by assumption) (by omega) (by omega) ?_; intro n' d' hn0 hn1 hd'))
local macro_rules | `(tactic| walk_at "w") => `(tactic| first | ((with_reducible refine wb_lend ?_); dsimp only [lendE, List.map_cons, List.map_nil, lend1]) | ((with_reducible refine ws_lend ?_); dsimp only [lendE, List.map_cons, List.map_nil, lend1]) | with_reducible refine wm_any ?_ | with_reducible refine wr_call ?_ | with_reducible refine ws_setR ?_ | with_reducible refine we_lenSet ?_ | ((with_reducible show ∃ _, gNe (PyData.bool _) (PyData.bool _) = some _ ∧ _); refine ⟨_, gNe_bool, ?_⟩) | ((with_reducible show ∃ _, gEq (PyData.bool _) (PyData.bool _) = some _ ∧ _); refine ⟨_, gEq_bool, ?_⟩))
theorem end_b {p q : Bool} {e : En} (h : p = q) : endOf (some (.rt (.val (.bool p)) e)) = some (.val (.bool q)) := by subst h; rfl
/-- _law_same, by what it calls for the parts -/
def sameB (m : List D → Option SV) : SF := (sSeq (sIf (bT (eInst2 "tuple" "list" (eVar 1))) (sSeq (sIf (bOr (bNot (bT (eInst2 "tuple" "list" (eVar 0)))) (bT (eBin gNe (eInst "list" (eVar 0)) (eInst "list" (eVar 1))))) (sRet (eC (.bool false))) sNx) (sSeq (sIf (bT (eBin gNe (eCB gLen (aCons (eVar 0) aNil)) (eCB gLen (aCons (eVar 1) aNil)))) (sRet (eC (.bool false))) sNx) (sRet (eBin gEq (eComp (iR1 (aCons (eCB gLen (aCons (eVar 1) aNil)) aNil)) [2] t1 (bNot (bT (eCall m (aCons (eBin gIx (eVar 0) (eVar 2)) (aCons (eBin gIx (eVar 1) (eVar 2)) aNil))))) (eVar 2) [2]) (eLst aNil))))) sNx) (sSeq (sIf (bT (eBin gIs (eVar 1) (eC .none))) (sRet (eBin gIs (eVar 0) (eC .none))) sNx) (sSeq (sIf (bT (eInst "str" (eVar 1))) (sRet (eAnd (eInst "str" (eVar 0)) (eBin gEq (eVar 0) (eVar 1)))) sNx) (sSeq (sIf (bOr (bT (eInst "bool" (eVar 1))) (bT (eInst "bool" (eVar 0)))) (sRet (eAnd (eInst "bool" (eVar 1)) (eAnd (eInst "bool" (eVar 0)) (eBin gEq (eVar 0) (eVar 1))))) sNx) (sRet (eAnd (eInst "int" (eVar 0)) (eBin gEq (eVar 0) (eVar 1))))))))
def sameS : Nat → List D → Option SV
  | 0 => runP 2 3 sNone
  | n + 1 => runP 2 3 (sameB (sameS n))
theorem same_top : m__law_same_lv5 = sameS 5 := rfl
/-- data that _law_same reads in n steps -/
inductive Pl : Nat → D → Prop
  | int {n : Nat} (i : Int) : Pl (n + 1) (.int i)
  | non {n : Nat} : Pl (n + 1) .none
  | lst {n : Nat} {xs : List D} : xs.length ≤ 1000 → (∀ x ∈ xs, Pl n x) → Pl (n + 1) (.list xs)
  | tup {n : Nat} {xs : List D} : xs.length ≤ 1000 → (∀ x ∈ xs, Pl n x) → Pl (n + 1) (.tuple xs)
theorem same_comp {m : List D → Option SV} {g : D} {xs : List D} (hg : g = .list xs ∨ g = .tuple xs) (h : ∀ x ∈ xs, m [x, x] = some (.val (.bool true))) :
    compL [2] t1 (bNot (bT (eCall m (aCons (eBin gIx (eVar 0) (eVar 2)) (aCons (eBin gIx (eVar 1) (eVar 2)) aNil))))) (eVar 2) [2] (rngD 0 xs.length) [some (.val g), some (.val g), none] = some ([], [some (.val g), some (.val g), none]) := by
  have := compL_filter (f := fun i : Nat => PyData.int (0 + (i : Nat))) (g := fun i : Nat => PyData.int (0 + (i : Nat))) (p := fun _ => false) (is := [2]) (ft := t1) (tt := bNot (bT (eCall m (aCons (eBin gIx (eVar 0) (eVar 2)) (aCons (eBin gIx (eVar 1) (eVar 2)) aNil))))) (fe := eVar 2) (ws := [2])
    (env := [some (SV.val g), some (.val g), none]) rfl (List.range xs.length) (fun i hi => by
      refine ⟨_, rfl, ?_⟩
      have hlt : i < xs.length := by simpa using hi
      have hx : xs[i]? = some xs[i] := List.getElem?_eq_getElem hlt
      have e : gIx g (.int (0 + (i : Nat))) = some xs[i] := by
        rw [Int.zero_add]
        rcases hg with rfl | rfl
        · exact atI_nat hx
        · exact atI_nat hx
      refine wb_not (wb_t (we_call (wa_cons (we_bin (we_var rfl (we_var rfl ⟨_, e, wa_cons (we_bin (we_var rfl (we_var rfl ⟨_, e, wa_nil (callP (h _ (List.getElem_mem hlt)) ⟨true, rfl, rfl, (fun z => nomatch z), fun _ => rfl⟩)⟩)))⟩)))))))
  rw [List.filter_eq_nil_iff.mpr (by simp)] at this
  exact this
theorem ws_ifT {t : BF} {f g : SF} {env : En} {R : Out → Prop} (h : Wb t env fun k e => k = true ∧ Ws f e R) : Ws (sIf t f g) env R := by
  refine ws_if ?_
  obtain ⟨k, e, h1, rfl, h2⟩ := h
  exact ⟨_, e, h1, fun _ => h2, fun z => nomatch z⟩
theorem ws_ifF {t : BF} {f g : SF} {env : En} {R : Out → Prop} (h : Wb t env fun k e => k = false ∧ Ws g e R) : Ws (sIf t f g) env R := by
  refine ws_if ?_
  obtain ⟨k, e, h1, rfl, h2⟩ := h
  exact ⟨_, e, h1, (fun z => nomatch z), fun _ => h2⟩
theorem same_sz {n : Nat} (h : n ≤ 1000) : -(2 ^ 62) ≤ (n : Int) ∧ (n : Int) < 2 ^ 62 := by constructor <;> omega
theorem same_refl : ∀ {n : Nat} {d : D}, Pl n d → sameS n [d, d] = some (.val (.bool true))
  | 0, _, h => by cases h
  | n + 1, _, .int i => by
    show runP 2 3 (sameB (sameS n)) _ = _
    refine runP_of rfl ?_
    unfold sameB
    show Ws _ [some (.val (.int i)), some (.val (.int i)), none] _
    refine ws_seq (ws_ifF (wb_t (we_inst2 (we_var rfl ⟨_, rfl, by simp [subT, tyD], ws_nx ?_⟩))))
    refine ws_seq (ws_ifF (wb_t (we_bin (we_var rfl (we_c ⟨_, rfl, _, rfl, by simp [isNone], ws_nx ?_⟩)))))
    refine ws_seq (ws_ifF (wb_t (we_inst (we_var rfl ⟨_, rfl, by simp [subT, tyD], ws_nx ?_⟩))))
    refine ws_seq (ws_ifF (wb_or (wb_t (we_inst (we_var rfl ⟨_, rfl, (fun _ => wb_t (we_inst (we_var rfl ⟨_, rfl, by simp [subT, tyD], ws_nx ?_⟩))), (fun z => by simp [subT, tyD] at z)⟩)))))
    refine ws_ret (we_and (we_inst (we_var rfl ⟨_, rfl, (fun _ => we_bin (we_var rfl (we_var rfl ⟨_, gEq_int, ?_⟩))), (fun z => by simp [subT, tyD] at z)⟩)))
    exact end_b (by simp)
  | n + 1, _, .non => by
    show runP 2 3 (sameB (sameS n)) _ = _
    refine runP_of rfl ?_
    unfold sameB
    show Ws _ [some (.val .none), some (.val .none), none] _
    refine ws_seq (ws_ifF (wb_t (we_inst2 (we_var rfl ⟨_, rfl, by simp [subT, tyD], ws_nx ?_⟩))))
    refine ws_seq (ws_ifT (wb_t (we_bin (we_var rfl (we_c ⟨_, rfl, _, rfl, by simp [isNone], ?_⟩)))))
    exact ws_ret (we_bin (we_var rfl (we_c ⟨_, rfl, rfl⟩)))
  | n + 1, .list xs, .lst hl h => by
    show runP 2 3 (sameB (sameS n)) _ = _
    have hc := same_comp (m := sameS n) (g := .list xs) (.inl rfl) fun x hx => same_refl (h x hx)
    refine runP_of rfl ?_
    unfold sameB
    show Ws _ [some (.val (.list xs)), some (.val (.list xs)), none] _
    refine ws_seq (ws_ifT (wb_t (we_inst2 (we_var rfl ⟨_, rfl, by simp [subT, tyD], ?_⟩))))
    refine ws_seq (ws_ifF (wb_or (wb_not (wb_t (we_inst2 (we_var rfl ⟨_, rfl, (fun _ => wb_t (we_bin (we_inst (we_var rfl (we_inst (we_var rfl ⟨_, gNe_bool, _, rfl, by simp, ws_nx ?_⟩)))))), (fun z => by simp [subT, tyD] at z)⟩))))))
    refine ws_seq (ws_ifF (wb_t (we_bin (we_cb (wa_cons (we_var rfl (wa_nil ⟨_, rfl, we_cb (wa_cons (we_var rfl (wa_nil ⟨_, rfl, _, gNe_int, _, rfl, by simp, ws_nx ?_⟩)))⟩)))))))
    refine ws_ret (we_bin (we_comp (wi_r1 (wa_cons (we_cb (wa_cons (we_var rfl (wa_nil ⟨_, rfl, wa_nil ⟨_, rfl, same_sz hl, _, _, hc, by decide, ?_⟩⟩))))))))
    exact we_lst (wa_nil ⟨Nat.le_of_ble_eq_true rfl, _, gEq_refl (sh_list (n := 63) (xs := []) (by simp)), rfl⟩)
  | n + 1, .tuple xs, .tup hl h => by
    show runP 2 3 (sameB (sameS n)) _ = _
    have hc := same_comp (m := sameS n) (g := .tuple xs) (.inr rfl) fun x hx => same_refl (h x hx)
    refine runP_of rfl ?_
    unfold sameB
    show Ws _ [some (.val (.tuple xs)), some (.val (.tuple xs)), none] _
    refine ws_seq (ws_ifT (wb_t (we_inst2 (we_var rfl ⟨_, rfl, by simp [subT, tyD], ?_⟩))))
    refine ws_seq (ws_ifF (wb_or (wb_not (wb_t (we_inst2 (we_var rfl ⟨_, rfl, (fun _ => wb_t (we_bin (we_inst (we_var rfl (we_inst (we_var rfl ⟨_, gNe_bool, _, rfl, by simp, ws_nx ?_⟩)))))), (fun z => by simp [subT, tyD] at z)⟩))))))
    refine ws_seq (ws_ifF (wb_t (we_bin (we_cb (wa_cons (we_var rfl (wa_nil ⟨_, rfl, we_cb (wa_cons (we_var rfl (wa_nil ⟨_, rfl, _, gNe_int, _, rfl, by simp, ws_nx ?_⟩)))⟩)))))))
    refine ws_ret (we_bin (we_comp (wi_r1 (wa_cons (we_cb (wa_cons (we_var rfl (wa_nil ⟨_, rfl, wa_nil ⟨_, rfl, same_sz hl, _, _, hc, by decide, ?_⟩⟩))))))))
    exact we_lst (wa_nil ⟨Nat.le_of_ble_eq_true rfl, _, gEq_refl (sh_list (n := 63) (xs := []) (by simp)), rfl⟩)
theorem same_call {d : D} {e : En} {R : D → En → Prop} (h : Pl 5 d) (k : R (.bool true) e) : CallP m__law_same_lv5 [d, d] e R := callP (r := .val (.bool true)) (by rw [same_top]; exact same_refl h) k
theorem Pl.up : ∀ {n : Nat} {d : D}, Pl n d → Pl (n + 1) d
  | _, _, .int i => .int i
  | _, _, .non => .non
  | _, _, .lst hl h => .lst hl fun x hx => (h x hx).up
  | _, _, .tup hl h => .tup hl fun x hx => (h x hx).up
theorem snoc_map {α : Type} {f : α → D} {L : List α} {x : α} : L.map f ++ [f x] = (L ++ [x]).map f := by rw [List.map_append]; rfl
theorem ok_snoc {α : Type} {P : α → Prop} {L : List α} {x : α} (h : ∀ y ∈ L, P y) (hx : P x) : ∀ y ∈ L ++ [x], P y := fun y hy => by
  rcases List.mem_append.mp hy with z | z
  · exact h y z
  · rw [List.mem_singleton.mp z]; exact hx
theorem we_pick {a b : Int} {t : En} {d : D} {R : D → En → Prop} (hd : GoodSt d) (ha : 0 < a ∧ a ≤ b ∧ b < 1000) (k : ∀ (n : Int) (d' : D), 0 ≤ n → n < b → GoodSt d' → R (.int n) (some (.own d') :: t)) :
    We (eCallIO 0 m__law_drawn (aCons (eBin gIx (eLst (aCons (eC (.int a)) (aCons (eC (.int b)) aNil))) (eCallIO 0 m__law_drawn (aCons (eC (.int 2)) aNil))) aNil)) (some (.own d) :: t) R := by
  refine we_callIO rfl (wa_cons (we_bin (we_lst (wa_cons (we_c (wa_cons (we_c (wa_nil ⟨sz (by simp), ?_⟩))))))))
  refine we_callIO rfl (wa_cons (we_c (wa_nil (io_drawn rfl hd (by omega) (by omega) fun n d1 h0 h1 hd1 => ?_))))
  have hn : n = 0 ∨ n = 1 := by omega
  rcases hn with rfl | rfl
  · exact ⟨.int a, rfl, wa_nil (io_drawn rfl hd1 (by omega) (by omega) fun n2 d2 g0 g1 hd2 => k n2 d2 g0 (by omega) hd2)⟩
  · exact ⟨.int b, rfl, wa_nil (io_drawn rfl hd1 (by omega) (by omega) fun n2 d2 g0 g1 hd2 => k n2 d2 g0 (by omega) hd2)⟩
theorem we_side {t : En} {d : D} {R : D → En → Prop} (hd : GoodSt d) (k : ∀ (p : Pg) (d' : D), gPg p → GoodSt d' → R (pgD p) (some (.own d') :: t)) :
    We (eBin gIx (eLst (aCons (eC .none) (aCons (eCallIO 0 m__law_drawn (aCons (eC (.int 10)) aNil)) (aCons (eCallIO 0 m__law_drawn (aCons (eC (.int 100)) aNil)) aNil)))) (eCallIO 0 m__law_drawn (aCons (eC (.int 3)) aNil))) (some (.own d) :: t) R := by
  refine we_bin (we_lst (wa_cons (we_c (wa_cons (we_callIO rfl (wa_cons (we_c (wa_nil (io_drawn rfl hd (by omega) (by omega) fun n d1 h0 h1 hd1 => ?_)))))))))
  refine wa_cons (we_callIO rfl (wa_cons (we_c (wa_nil (io_drawn rfl hd1 (by omega) (by omega) fun n2 d2 g0 g1 hd2 => wa_nil ⟨sz (by simp), ?_⟩)))))
  refine we_callIO rfl (wa_cons (we_c (wa_nil (io_drawn rfl hd2 (by omega) (by omega) fun n3 d3 f0 f1 hd3 => ?_))))
  have hn : n3 = 0 ∨ n3 = 1 ∨ n3 = 2 := by omega
  rcases hn with rfl | rfl | rfl
  · exact ⟨.none, rfl, k none d3 (fun n z => by cases z) hd3⟩
  · refine ⟨.int n, rfl, ?_⟩
    have := k (some n.toNat) d3 (fun m z => by cases z; omega) hd3
    have e : pgD (some n.toNat) = .int n := by show PyData.int ((n.toNat : Nat) : Int) = _; rw [Int.toNat_of_nonneg h0]
    rw [e] at this
    exact this
  · refine ⟨.int n2, rfl, ?_⟩
    have := k (some n2.toNat) d3 (fun m z => by cases z; omega) hd3
    have e : pgD (some n2.toNat) = .int n2 := by show PyData.int ((n2.toNat : Nat) : Int) = _; rw [Int.toNat_of_nonneg g0]
    rw [e] at this
    exact this
structure IsRuns (d : D) : Prop where
  ex : ∃ rs : List (List Sc), d = rsD rs ∧ gRs rs
theorem rng_len {lo : Int} {n : Nat} : (rngD lo n).length = n := by unfold rngD; rw [List.length_map, List.length_range]
theorem any {d : D} (hd : GoodSt d) : ∃ r : SV × D, m__law_any d [] = some r ∧ Post IsRuns r := by
  refine runIO_of rfl ?_
  unfold b__law_any
  show Ws _ [some (SV.own d), none, none, none, none, none, none] _
  refine ws_seq (ws_setO (we_lst (wa_nil ⟨sz (by simp), ?_⟩)))
  show Ws _ [some (SV.own d), some (.own (.list [])), none, none, none, none, none] _
  refine ws_seq (ws_for (wi_r1 (wa_cons (we_pick hd (by omega) fun many d1 h0 h1 hd1 => wa_nil ⟨many, rfl, by constructor <;> omega, ?_⟩))))
  refine forL_inv (fun i env => ∃ (d : D) (rs : List (List Sc)) (x2 x3 x4 x5 x6 : Option SV), env = [some (SV.own d), some (.own (.list (rs.map rnD))), x2, x3, x4, x5, x6] ∧ GoodSt d ∧ rs.length ≤ i ∧ ∀ r ∈ rs, gRn r) ⟨d1, [], none, none, none, none, none, rfl, hd1, by simp, by simp⟩ ?_ ?_
  · rintro i x env hi ⟨d, rs, x2, x3, x4, x5, x6, rfl, hd, hl, hg⟩
    have hin : i < many.toNat := by have := (List.getElem?_eq_some_iff.mp hi).1; rw [rng_len] at this; exact this
    refine ⟨_, rfl, ?_⟩
    show Ws _ [some (SV.own d), some (.own (.list (rs.map rnD))), some (.val x), x3, x4, x5, x6] _
    refine ws_seq (ws_setO (we_lst (wa_nil ⟨sz (by simp), ?_⟩)))
    show Ws _ [some (SV.own d), some (.own (.list (rs.map rnD))), some (.val x), some (.own (.list [])), x4, x5, x6] _
    refine ws_seq (ws_for (wi_r1 (wa_cons (we_pick hd (by omega) fun many2 d2 k0 k1 hd2 => wa_nil ⟨many2, rfl, by constructor <;> omega, ?_⟩))))
    refine forL_inv (fun i env => ∃ (d : D) (r : List Sc) (x4 x5 x6 : Option SV), env = [some (SV.own d), some (.own (.list (rs.map rnD))), some (.val x), some (.own (.list (r.map scD))), x4, x5, x6] ∧ GoodSt d ∧ r.length ≤ i ∧ ∀ s ∈ r, gSc s) ⟨d2, [], x4, x5, x6, rfl, hd2, by simp, by simp⟩ ?_ ?_
    · rintro i2 x' env hi2 ⟨d, r, x4, x5, x6, rfl, hd, hl2, hg2⟩
      have hin2 : i2 < many2.toNat := by have := (List.getElem?_eq_some_iff.mp hi2).1; rw [rng_len] at this; exact this
      refine ⟨_, rfl, ?_⟩
      show Ws _ [some (SV.own d), some (.own (.list (rs.map rnD))), some (.val x), some (.own (.list (r.map scD))), some (.val x'), x5, x6] _
      refine ws_seq (ws_setO (we_lst (wa_nil ⟨sz (by simp), ?_⟩)))
      show Ws _ [some (SV.own d), some (.own (.list (rs.map rnD))), some (.val x), some (.own (.list (r.map scD))), some (.val x'), some (.own (.list [])), x6] _
      refine ws_seq (ws_for (wi_t (we_tup (wa_cons (we_c (wa_cons (we_c (wa_nil ⟨sz (by simp), _, rfl, ?_⟩))))))))
      refine forL_inv (fun i env => ∃ (d : D) (ps : List Pg) (x6 : Option SV), env = [some (SV.own d), some (.own (.list (rs.map rnD))), some (.val x), some (.own (.list (r.map scD))), some (.val x'), some (.own (.list (ps.map pgD))), x6] ∧ GoodSt d ∧ ps.length = i ∧ ∀ p ∈ ps, gPg p) ⟨d, [], x6, rfl, hd, rfl, by simp⟩ ?_ ?_
      · rintro i3 x3 env hi3 ⟨d, ps, x6, rfl, hd, hl3, hg3⟩
        have hin3 : i3 < 2 := (List.getElem?_eq_some_iff.mp hi3).1
        refine ⟨_, rfl, ?_⟩
        show Ws _ [some (SV.own d), some (.own (.list (rs.map rnD))), some (.val x), some (.own (.list (r.map scD))), some (.val x'), some (.own (.list (ps.map pgD))), some (.val x3)] _
        refine ws_app rfl (wa_cons (we_side hd fun p d' hp hd' => wa_nil ⟨_, _, rfl, rfl, by rw [List.length_map]; exact sz' (by omega), ?_⟩))
        refine ⟨d', ps ++ [p], some (.val x3), ?_, hd', by rw [List.length_append, List.length_singleton]; omega, ok_snoc hg3 hp⟩
        rw [← snoc_map]; rfl
      · rintro env ⟨d, ps, x6, rfl, hd, hl3, hg3⟩
        have hl3 : ps.length = 2 := hl3
        match ps, hl3 with
        | [a, b], _ =>
          show Ws _ _ _
          refine ws_app rfl (wa_cons (we_tuple (wa_cons (we_varF rfl (wa_nil ⟨_, .inl rfl, wa_nil ⟨_, _, rfl, rfl, by rw [List.length_map]; exact sz' (by omega), ?_⟩⟩)))))
          refine ⟨d, r ++ [(a, b)], some (.val x'), some (.val (.list [pgD a, pgD b])), x6, ?_, hd, by rw [List.length_append, List.length_singleton]; omega, ok_snoc hg2 ⟨hg3 a (by simp), hg3 b (by simp)⟩⟩
          rw [← snoc_map]; rfl
    · rintro env ⟨d, r, x4, x5, x6, rfl, hd, hl2, hg2⟩
      rw [rng_len] at hl2
      show Ws _ _ _
      refine ws_app rfl (wa_cons (we_varF rfl (wa_nil ⟨_, _, rfl, rfl, by rw [List.length_map]; exact sz' (by omega), ?_⟩)))
      refine ⟨d, rs ++ [r], some (.val x), some (.val (.list (r.map scD))), x4, x5, x6, ?_, hd, by rw [List.length_append, List.length_singleton]; omega, ok_snoc hg ⟨by omega, hg2⟩⟩
      rw [← snoc_map]; rfl
  · rintro env ⟨d, rs, x2, x3, x4, x5, x6, rfl, hd, hl, hg⟩
    rw [rng_len] at hl
    show Ws _ _ _
    refine ws_retV rfl ⟨_, rfl, ?_⟩
    exact ⟨⟨rs, rfl, by omega, hg⟩, hd⟩
open TL
def strOf : Option SV → Option (List Nat)
  | some (.val (.str x)) => some (tl x)
  | _ => none
theorem strOf_inv {o : Option SV} {x : Str} (h : strOf o = some (tl x)) : o = some (.val (.str x)) := by
  unfold strOf at h
  split at h
  · rename_i y
    rw [tl_inj (Option.some.inj h)]
  · cases h
def pgOf : Option SV → Option Pg
  | some (.val .none) => some none
  | some (.val (.int k)) => if 0 ≤ k then some (some k.toNat) else none
  | _ => none
theorem pgOf_inv {o : Option SV} {p : Pg} (h : pgOf o = some p) : o = some (.val (pgD p)) := by
  unfold pgOf at h
  split at h
  · cases h; rfl
  · rename_i k
    split at h
    · rename_i hk
      cases h
      show _ = some (SV.val (.int ((k.toNat : Nat) : Int)))
      rw [Int.toNat_of_nonneg hk]
    · cases h
  · cases h
def isT : Option SV → Bool
  | some (.val (.bool true)) => true
  | _ => false
theorem isT_inv {o : Option SV} (h : isT o = true) : o = some (.val (.bool true)) := by
  unfold isT at h
  split at h
  · rfl
  · cases h
theorem wpage {p : Pg} (g : gPg p) : m_written_page [pgD p] = some (.val (.str (pgT p))) :=
  strOf_inv (of_decide_eq_true (by_page (P := fun p => decide (strOf (m_written_page [pgD p]) = some (tl (pgT p)))) (by decide +kernel) g))
theorem rpage {p : Pg} (g : gPg p) : m_read_page [.str (pgT p)] = some (.val (pgD p)) :=
  pgOf_inv (of_decide_eq_true (by_page (P := fun p => decide (pgOf (m_read_page [.str (pgT p)]) = some p)) (by decide +kernel) g))
theorem is_num {p : Pg} (g : gPg p) : p = none ∨ m_is_number [.str (pgT p)] = some (.val (.bool true)) := by
  have := by_page (P := fun p => match p with | none => true | some n => isT (m_is_number [.str (pgT (some n))])) (by decide +kernel) g
  cases p with
  | none => exact .inl rfl
  | some n => exact .inr (isT_inv this)
theorem lo_dash : ∀ c ∈ tl "-", c < 128 := by rw [tl_dash]; decide
theorem lo_dot : ∀ c ∈ tl ".", c < 128 := by rw [tl_dot]; decide
theorem page_ok {p : Pg} {e : En} {R : D → En → Prop} (g : gPg p) (he : e[2]? = some (some (.val (.str (pgT p))))) (k : R (.bool true) e) : We (eOr (eBin gEq (eVar 2) (eC (.str "-"))) (eCall m_is_number (aCons (eVar 2) aNil))) e R := by
  refine we_or (we_bin (we_var he (we_c ⟨_, gEq_str (pg_lo g) lo_dash, _, rfl, fun hk => ?_, fun hk => k⟩)))
  rcases is_num g with rfl | h
  · exact absurd rfl (of_decide_eq_false hk)
  · exact we_call (wa_cons (we_var he (wa_nil (callP h k))))
theorem sz_lt {x : Str} {k : Nat} (h : (tl x).length ≤ k) (hk : k ≤ 10000) : x.length + 2 ≤ sizeLine := by
  rw [len_tl]
  have : 10002 ≤ sizeLine := by decide
  omega
theorem wr_scan {s : Sc} (g : gSc s) : m_is_written_scan [.str (scT s)] = some (.val (.bool true)) := by
  refine runP_of rfl ?_
  unfold b_is_written_scan
  show Ws _ [some (.val (.str (scT s))), none, none] _
  refine ws_seq (ws_set (we_split (we_var rfl (we_c ⟨_, _, rfl, rfl, ⟨by decide +kernel, sz_lt (sc_signs g).2.2.2.2 (by omega)⟩, ?_⟩))))
  rw [sc_split g]
  show Ws _ [some (.val (.str (scT s))), some (.val (.list ([s.1, s.2].map fun p => PyData.str (pgT p)))), none] _
  have hc := compL_mapF (f := fun p : Pg => PyData.str (pgT p)) (g := fun _ => PyData.bool true) (is := [2]) (ft := t1) (fe := eOr (eBin gEq (eVar 2) (eC (.str "-"))) (eCall m_is_number (aCons (eVar 2) aNil))) (ws := [2])
    (env := [some (SV.val (.str (scT s))), some (.val (.list ([s.1, s.2].map fun p => PyData.str (pgT p)))), none]) rfl [s.1, s.2] (fun p hp => by
      have gp : gPg p := by
        rcases List.mem_cons.mp hp with rfl | hp
        · exact g.1
        · rw [List.mem_singleton.mp hp]; exact g.2
      exact ⟨_, rfl, page_ok gp rfl ⟨rfl, rfl⟩⟩)
  refine ws_ret (we_and (we_bin (we_cb (wa_cons (we_var rfl (wa_nil ⟨_, rfl, we_c ⟨_, gEq_int, _, rfl, fun _ => ?_, fun hk => absurd rfl (of_decide_eq_false hk)⟩⟩))))))
  exact we_cb (wa_cons (we_comp (wi_l (we_var rfl ⟨_, rfl, _, _, hc, sz' (by simp), wa_nil ⟨_, gAll_true _, rfl⟩⟩))))
theorem strs_map {α : Type} {f : α → Str} {l : List α} : (l.map f).map PyData.str = l.map fun x => PyData.str (f x) := by rw [List.map_map]; rfl
theorem wr_run {r : List Sc} (g : gRn r) : m_is_written_run [.str (rnT r)] = some (.val (.bool true)) := by
  refine runP_of rfl ?_
  unfold b_is_written_run
  show Ws _ [some (.val (.str (rnT r))), none, none] _
  refine ws_seq (ws_if (wb_t (we_bin (we_var rfl (we_c ⟨_, gEq_str (rn_lo g) lo_dot, _, rfl, fun hk => ws_ret (we_c rfl), fun hk => ws_nx ?_⟩)))))
  have hne := of_decide_eq_false hk
  cases r with
  | nil => exact absurd rfl hne
  | cons s r =>
    refine ws_seq (ws_set (we_split (we_var rfl (we_c ⟨_, _, rfl, rfl, ⟨by decide +kernel, sz_lt (rn_signs g).2.2 (by omega)⟩, ?_⟩))))
    rw [rn_split g, strs_map]
    show Ws _ [some (.val (.str (rnT (s :: r)))), some (.val (.list ((s :: r).map fun x => PyData.str (scT x)))), none] _
    have hc := compL_mapF (f := fun x : Sc => PyData.str (scT x)) (g := fun _ => PyData.bool true) (is := [2]) (ft := t1) (fe := eCall m_is_written_scan (aCons (eVar 2) aNil)) (ws := [2])
      (env := [some (SV.val (.str (rnT (s :: r)))), some (.val (.list ((s :: r).map fun x => PyData.str (scT x)))), none]) rfl (s :: r) (fun x hx => ⟨_, rfl, we_call (wa_cons (we_var rfl (wa_nil (callP (wr_scan (g.pg x hx)) ⟨rfl, rfl⟩))))⟩)
    have hl : (((s :: r).map fun x => PyData.str (scT x)).length : Int) ≤ 20 := by rw [List.length_map]; have := g.len; omega
    refine ws_ret (we_and (we_bin (we_cb (wa_cons (we_var rfl (wa_nil ⟨_, rfl, we_c ⟨_, rfl, _, rfl, fun _ => ?_, fun hk => absurd hl (of_decide_eq_false hk)⟩⟩))))))
    have g2 := g.len
    exact we_cb (wa_cons (we_comp (wi_l (we_var rfl ⟨_, rfl, _, _, hc, by rw [List.length_map]; exact sz' (by omega), wa_nil ⟨_, gAll_true _, rfl⟩⟩))))
theorem no_wrong {rs : List (List Sc)} (g : gRs rs) : m_first_wrong [.list (rs.map fun r => PyData.str (rnT r))] = some (.val .none) := by
  refine runP_of rfl ?_
  unfold b_first_wrong
  show Ws _ [some (.val (.list (rs.map fun r => PyData.str (rnT r)))), none, none] _
  refine ws_seq (ws_for (wi_en (wa_cons (we_var rfl (wa_nil ⟨_, rfl, ?_⟩)))))
  refine forL_inv (fun i env => ∃ x y : Option SV, env = [some (SV.val (.list (rs.map fun r => PyData.str (rnT r)))), x, y]) ⟨none, none, rfl⟩ ?_ ?_
  · rintro i d env hi ⟨x, y, rfl⟩
    obtain ⟨d', h1, rfl⟩ := enumD_get _ _ _ _ hi
    rw [List.getElem?_map] at h1
    obtain ⟨r, h2, rfl⟩ := Option.map_eq_some_iff.mp h1
    have hr := g.run r (List.mem_of_getElem? h2)
    have hlt : i < rs.length := (List.getElem?_eq_some_iff.mp h2).1
    have hl := g.len
    refine ⟨_, rfl, ?_⟩
    show Ws _ [some (SV.val (.list (rs.map fun r => PyData.str (rnT r)))), some (.val (.int ((0 + i : Nat) : Int))), some (.val (.str (rnT r)))] _
    refine ws_if (wb_or (wb_t (we_bin (we_var rfl (we_c ⟨_, gEq_int, _, rfl, fun _ => ?_, fun hk => ?_⟩)))))
    · refine wb_not (wb_t (we_call (wa_cons (we_var rfl (wa_nil (callP (wr_run hr) ⟨true, rfl, (fun z => nomatch z), fun _ => ws_nx ⟨_, _, rfl⟩⟩))))))
    · have := of_decide_eq_true hk
      omega
  · rintro env ⟨x, y, rfl⟩
    exact ws_ret (we_c rfl)
open TL
theorem w_scan {s : Sc} (g : gSc s) : m_written_scan [scD s] = some (.val (.str (scT s))) := by
  refine runP_of rfl ?_
  unfold b_written_scan
  show Ws _ [some (.val (.tuple ([s.1, s.2].map pgD))), none] _
  have hc := compL_mapF (f := pgD) (g := fun p : Pg => PyData.str (pgT p)) (is := [1]) (ft := t1) (fe := eCall m_written_page (aCons (eVar 1) aNil)) (ws := [1])
    (env := [some (SV.val (.tuple ([s.1, s.2].map pgD))), none]) rfl [s.1, s.2] (fun p hp => by
      have gp : gPg p := by
        rcases List.mem_cons.mp hp with rfl | hp
        · exact g.1
        · rw [List.mem_singleton.mp hp]; exact g.2
      exact ⟨_, rfl, we_call (wa_cons (we_var rfl (wa_nil (callP (wpage gp) ⟨rfl, rfl⟩))))⟩)
  refine ws_ret (we_join (we_c (we_comp (wi_t (we_var rfl ⟨_, rfl, _, _, hc, sz' (by simp), "/", [pgT s.1, pgT s.2], rfl, rfl, ?_, rfl⟩)))))
  refine join_room (k := 2) (fun x hx => ?_) (by decide +kernel) (by simp)
  rcases List.mem_cons.mp hx with rfl | hx
  · exact (pg_signs g.1).2.2.2.2
  · rw [List.mem_singleton.mp hx]; exact (pg_signs g.2).2.2.2.2
theorem w_run {r : List Sc} (g : gRn r) : m_written_run [rnD r] = some (.val (.str (rnT r))) := by
  refine runP_of rfl ?_
  unfold b_written_run
  show Ws _ [some (.val (.list (r.map scD))), none] _
  have hl := g.len
  refine ws_ret (we_if (wb_tru (we_var rfl ⟨_, rfl, fun hk => ?_, fun hk => ?_⟩)))
  · have hc := compL_mapF (f := scD) (g := fun s : Sc => PyData.str (scT s)) (is := [1]) (ft := t1) (fe := eCall m_written_scan (aCons (eVar 1) aNil)) (ws := [1])
      (env := [some (SV.val (.list (r.map scD))), none]) rfl r (fun s hs => ⟨_, rfl, we_call (wa_cons (we_var rfl (wa_nil (callP (w_scan (g.pg s hs)) ⟨rfl, rfl⟩))))⟩)
    cases r with
    | nil => cases hk
    | cons s r =>
      refine we_join (we_c (we_comp (wi_l (we_var rfl ⟨_, rfl, _, _, hc, by rw [List.length_map]; exact sz' (by omega), " ", (s :: r).map scT, rfl, by rw [strs_map], ?_, rfl⟩))))
      refine join_room (k := 5) (fun x hx => ?_) (by decide +kernel) (by rw [List.length_map]; omega)
      obtain ⟨y, hy, rfl⟩ := List.mem_map.mp hx
      exact (sc_signs (g.pg y hy)).2.2.2.2
  · cases r with
    | nil => exact we_c rfl
    | cons s r => cases hk
theorem w_all {rs : List (List Sc)} (g : gRs rs) : m_written [rsD rs] = some (.val (.str (rsT rs))) := by
  refine runP_of rfl ?_
  unfold b_written
  show Ws _ [some (.val (.list (rs.map rnD))), none, none, none] _
  have hl := g.len
  have hc := compL_mapF (f := rnD) (g := fun r : List Sc => PyData.str (rnT r)) (is := [3]) (ft := t1) (fe := eCall m_written_run (aCons (eVar 3) aNil)) (ws := [3])
    (env := [some (SV.val (.list (rs.map rnD))), none, none, none]) rfl rs (fun r hr => ⟨_, rfl, we_call (wa_cons (we_var rfl (wa_nil (callP (w_run (g.run r hr)) ⟨rfl, rfl⟩))))⟩)
  refine ws_seq (ws_set (we_comp (wi_l (we_var rfl ⟨_, rfl, _, _, hc, by rw [List.length_map]; exact sz' (by omega), ?_⟩))))
  show Ws _ [some (.val (.list (rs.map rnD))), some (.val (.list (rs.map fun r => PyData.str (rnT r)))), none, none] _
  refine ws_seq (ws_set (we_call (wa_cons (we_var rfl (wa_nil (callP (no_wrong g) ?_))))))
  show Ws _ [some (.val (.list (rs.map rnD))), some (.val (.list (rs.map fun r => PyData.str (rnT r)))), some (.val .none), none] _
  refine ws_seq (ws_if (wb_t (we_bin (we_var rfl (we_c ⟨_, rfl, _, rfl, (fun z => nomatch z), fun _ => ws_nx ?_⟩)))))
  refine ws_ret (we_join (we_c (we_var rfl ⟨"\n", rs.map rnT, rfl, by rw [strs_map], ?_, rfl⟩)))
  refine join_room (k := 120) (fun x hx => ?_) (by decide +kernel) (by rw [List.length_map]; omega)
  obtain ⟨y, hy, rfl⟩ := List.mem_map.mp hx
  exact (rn_signs (g.run y hy)).2.2
theorem r_scan {s : Sc} (g : gSc s) : m_read_scan [.str (scT s)] = some (.val (scD s)) := by
  refine runP_of rfl ?_
  unfold b_read_scan
  show Ws _ [some (.val (.str (scT s))), none, none] _
  refine ws_seq (ws_tgt (we_split (we_var rfl (we_c ⟨_, _, rfl, rfl, ⟨by decide +kernel, sz_lt (sc_signs g).2.2.2.2 (by omega)⟩, ?_⟩))))
  rw [sc_split g]
  refine ⟨[.str (pgT s.1), .str (pgT s.2)], rfl, ?_⟩
  show Ws _ [some (.val (.str (scT s))), some (.val (.str (pgT s.1))), some (.val (.str (pgT s.2)))] _
  exact ws_ret (we_tup (wa_cons (we_call (wa_cons (we_var rfl (wa_nil (callP (rpage g.1) (wa_cons (we_call (wa_cons (we_var rfl (wa_nil (callP (rpage g.2) (wa_nil ⟨sz (by simp), rfl⟩))))))))))))))
theorem r_run {r : List Sc} (g : gRn r) : m_read_run [.str (rnT r)] = some (.own (rnD r)) := by
  refine runP_of rfl ?_
  unfold b_read_run
  show Ws _ [some (.val (.str (rnT r))), none] _
  have hl := g.len
  refine ws_retO (we_if (wb_t (we_bin (we_var rfl (we_c ⟨_, gEq_str (rn_lo g) lo_dot, _, rfl, fun hk => ?_, fun hk => ?_⟩)))))
  · cases r with
    | nil => exact we_lst (wa_nil ⟨sz (by simp), rfl⟩)
    | cons s r => exact absurd (of_decide_eq_true hk) (rn_ne g)
  · cases r with
    | nil => exact absurd rfl (of_decide_eq_false hk)
    | cons s r =>
      have hc := compL_mapF (f := fun s : Sc => PyData.str (scT s)) (g := scD) (is := [1]) (ft := t1) (fe := eCall m_read_scan (aCons (eVar 1) aNil)) (ws := [1])
        (env := [some (SV.val (.str (rnT (s :: r)))), none]) rfl (s :: r) (fun s hs => ⟨_, rfl, we_call (wa_cons (we_var rfl (wa_nil (callP (r_scan (g.pg s hs)) ⟨rfl, rfl⟩))))⟩)
      rw [← strs_map, ← rn_split g] at hc
      exact we_comp (wi_l (we_split (we_var rfl (we_c ⟨_, _, rfl, rfl, ⟨by decide +kernel, sz_lt (rn_signs g).2.2 (by omega)⟩, _, rfl, _, _, hc, by rw [List.length_map]; exact sz' (by omega), rfl⟩))))
theorem sz_tx {x : Str} {k : Nat} (h : x.length ≤ k) (hk : k ≤ 10000) : x.length + 2 ≤ sizeLine ∧ x.length ≤ sizeLine := by
  have : 10002 ≤ sizeLine := by decide
  omega
theorem r_all {rs : List (List Sc)} (g : gRs rs) : m_read [.str (rsT rs)] = some (.own (rsD rs)) := by
  refine runP_of rfl ?_
  unfold b_read
  show Ws _ [some (.val (.str (rsT rs))), none, none, none] _
  have hl := g.len
  obtain ⟨t1', t2⟩ := rs_len g
  have hz := sz_tx t1' (by omega)
  refine ws_seq (ws_set (We.mono (P := fun d e => d = .list (rs.map fun r => PyData.str (rnT r)) ∧ e = [some (.val (.str (rsT rs))), none, none, none]) ?_ ?_))
  · refine we_if (wb_truS (we_var rfl ⟨_, rfl, hz.2, fun hk => ?_, fun hk => ?_⟩))
    · have hne : rs ≠ [] := fun z => by
        subst z
        rw [rs_nil] at hk
        exact absurd hk (by decide +kernel)
      refine we_split (we_var rfl (we_c ⟨_, _, rfl, rfl, ⟨by decide +kernel, hz.1⟩, ?_, rfl⟩))
      rw [rs_split g hne, strs_map]
    · have hne : rs = [] := by
        cases rs with
        | nil => rfl
        | cons r rs =>
          have := t2 (by simp)
          have h0 : ((rsT (r :: rs)).length : Int) = 0 := by simpa using hk
          omega
      subst hne
      exact we_lst (wa_nil ⟨sz (by simp), rfl, rfl⟩)
  · rintro d e ⟨rfl, rfl⟩
    show Ws _ [some (.val (.str (rsT rs))), some (.val (.list (rs.map fun r => PyData.str (rnT r)))), none, none] _
    refine ws_seq (ws_set (we_call (wa_cons (we_var rfl (wa_nil (callP (no_wrong g) ?_))))))
    show Ws _ [some (.val (.str (rsT rs))), some (.val (.list (rs.map fun r => PyData.str (rnT r)))), some (.val .none), none] _
    refine ws_seq (ws_if (wb_t (we_bin (we_var rfl (we_c ⟨_, rfl, _, rfl, (fun z => nomatch z), fun _ => ws_nx ?_⟩)))))
    have hc := compL_mapF (f := fun r : List Sc => PyData.str (rnT r)) (g := rnD) (is := [3]) (ft := t1) (fe := eCallO m_read_run (aCons (eVar 3) aNil)) (ws := [3])
      (env := [some (SV.val (.str (rsT rs))), some (.val (.list (rs.map fun r => PyData.str (rnT r)))), some (.val .none), none]) rfl rs (fun r hr => ⟨_, rfl, we_callO (wa_cons (we_var rfl (wa_nil ⟨_, r_run (g.run r hr), rfl, rfl⟩)))⟩)
    exact ws_retO (we_comp (wi_l (we_var rfl ⟨_, rfl, _, _, hc, by rw [List.length_map]; exact sz' (by omega), rfl⟩)))
open TL
theorem same_str {x : Str} (lo : ∀ c ∈ tl x, c < 128) : m__law_same_lv5 [.str x, .str x] = some (.val (.bool true)) := by
  rw [same_top]
  show runP 2 3 (sameB (sameS 4)) _ = _
  refine runP_of rfl ?_
  unfold sameB
  show Ws _ [some (.val (.str x)), some (.val (.str x)), none] _
  refine ws_seq (ws_ifF (wb_t (we_inst2 (we_var rfl ⟨_, rfl, by simp [subT, tyD], ws_nx ?_⟩))))
  refine ws_seq (ws_ifF (wb_t (we_bin (we_var rfl (we_c ⟨_, rfl, _, rfl, by simp [isNone], ws_nx ?_⟩)))))
  refine ws_seq (ws_ifT (wb_t (we_inst (we_var rfl ⟨_, rfl, by simp [subT, tyD], ?_⟩))))
  exact ws_ret (we_and (we_inst (we_var rfl ⟨_, rfl, (fun _ => we_bin (we_var rfl (we_var rfl ⟨_, gEq_refl (sh_str lo), rfl⟩))), (fun z => by simp [subT, tyD] at z)⟩)))
theorem pl_pg {n : Nat} {p : Pg} : Pl (n + 1) (pgD p) := by cases p <;> first | exact .non | exact .int _
theorem pl_sc {n : Nat} {s : Sc} : Pl (n + 2) (scD s) := .tup (by show 2 ≤ 1000; omega) fun y hy => by
  rcases List.mem_cons.mp hy with rfl | hy
  · exact pl_pg
  · rw [List.mem_singleton.mp hy]; exact pl_pg
theorem pl_rs {rs : List (List Sc)} (g : gRs rs) : Pl 5 (rsD rs) := .lst (by rw [List.length_map]; have := g.len; omega) fun y hy => by
  obtain ⟨r, hr, rfl⟩ := List.mem_map.mp hy
  refine .lst (by rw [List.length_map]; have := (g.run r hr).len; omega) fun z hz => ?_
  obtain ⟨s, hs, rfl⟩ := List.mem_map.mp hz
  exact pl_sc
theorem sh_pg {n : Nat} {p : Pg} : Sh n (pgD p) := by cases p <;> first | exact sh_none | exact sh_int
theorem sh_rs {rs : List (List Sc)} : Sh 64 (rsD rs) := Sh.up (n := 3) (sh_list fun y hy => by
  obtain ⟨r, hr, rfl⟩ := List.mem_map.mp hy
  refine sh_list fun z hz => ?_
  obtain ⟨s, hs, rfl⟩ := List.mem_map.mp hz
  refine sh_tup (n := 0) fun y hy => ?_
  rcases List.mem_cons.mp hy with rfl | hy
  · exact sh_pg
  · rw [List.mem_singleton.mp hy]; exact sh_pg) (by decide)
theorem strI {n : Nat} (h : n < 100) : gStrI [.int (n : Int)] = some (.str (pgT (some n))) := by
  have := by_page (P := fun p => match p with | none => true | some n => decide (((n : Int)).natAbs.log2 < 1920)) (by decide +kernel) (p := some n) (fun m z => by cases z; exact h)
  show (if ((n : Int)).natAbs.log2 < 1920 then _ else _) = _
  rw [if_pos (of_decide_eq_true this)]
  rfl
theorem we_page {i : Nat} {p : Pg} {e : En} {R : D → En → Prop} (g : gPg p) (he : e[i]? = some (some (.val (pgD p)))) (k : R (.str (pgT p)) e) : We (eIf (bT (eBin gIs (eVar i) (eC .none))) (eC (.str "-")) (eCB gStrI (aCons (eVar i) aNil))) e R := by
  refine we_if (wb_t (we_bin (we_var he (we_c ⟨_, rfl, _, rfl, fun hk => ?_, fun hk => ?_⟩))))
  · cases p with
    | none => exact we_c k
    | some n => cases hk
  · cases p with
    | none => cases hk
    | some n => exact we_cb (wa_cons (we_var he (wa_nil ⟨_, strI (g n rfl), k⟩)))
theorem addS {a b : Str} (h : a.length + b.length ≤ 1000) : gAddS (.str a) (.str b) = some (.str (a ++ b)) := by
  show (if a.length + b.length ≤ sizeLine then _ else _) = _
  rw [if_pos (sz h)]
theorem we_word {s : Sc} {e : En} {R : D → En → Prop} (g : gSc s) (h7 : e[7]? = some (some (.val (pgD s.1)))) (h8 : e[8]? = some (some (.val (pgD s.2)))) (k : R (.str (scT s)) e) :
    We (eBin gAddS (eBin gAddS (eIf (bT (eBin gIs (eVar 7) (eC .none))) (eC (.str "-")) (eCB gStrI (aCons (eVar 7) aNil))) (eC (.str "/"))) (eIf (bT (eBin gIs (eVar 8) (eC .none))) (eC (.str "-")) (eCB gStrI (aCons (eVar 8) aNil)))) e R := by
  have l1 : (pgT s.1).length ≤ 2 := by rw [len_tl]; exact (pg_signs g.1).2.2.2.2
  have l2 : (pgT s.2).length ≤ 2 := by rw [len_tl]; exact (pg_signs g.2).2.2.2.2
  have l3 : (("/" : Str)).length = 1 := by rw [len_tl, tl_slash]; rfl
  have l4 : (pgT s.1 ++ "/").length ≤ 3 := by rw [len_tl, tl_append, List.length_append, ← len_tl, ← len_tl]; omega
  refine we_bin (we_bin (we_page g.1 h7 (we_c ⟨_, addS (by omega), ?_⟩)))
  refine we_page g.2 h8 ⟨_, addS (by omega), ?_⟩
  rw [sc_add]
  exact k
theorem take_snoc {α β : Type} {f : α → β} {l : List α} {i : Nat} {x : α} (h : l[i]? = some x) : (l.take i).map f ++ [f x] = (l.take (i + 1)).map f := by
  rw [List.take_succ, h, List.map_append]
  rfl
/-- a row of the law's own text -/
theorem row {r : List Sc} {x0 x1 x2 x3 x6 x7 x8 x9 x10 x11 : Option SV} {T : List D} {R : Out → Prop} (g : gRn r) (hT : T.length ≤ 100)
    (k : ∀ x6 x7 x8 : Option SV, R (.nx [x0, x1, x2, x3, some (.own (.list (T ++ [.str (rnT r)]))), some (.val (rnD r)), x6, x7, x8, x9, x10, x11])) :
    Ws (sSeq (sSetO 6 (eLst aNil)) (sSeq (sFor (iL (eVar 5)) [7, 8] (tN 2) (sApp 6 (aCons (eBin gAddS (eBin gAddS (eIf (bT (eBin gIs (eVar 7) (eC .none))) (eC (.str "-")) (eCB gStrI (aCons (eVar 7) aNil))) (eC (.str "/"))) (eIf (bT (eBin gIs (eVar 8) (eC .none))) (eC (.str "-")) (eCB gStrI (aCons (eVar 8) aNil)))) aNil))) (sApp 4 (aCons (eIf (bT (eCmpB gNe 6 (eLst aNil))) (eJoin (eC (.str " ")) (eVarF 6)) (eC (.str "."))) aNil))))
      [x0, x1, x2, x3, some (.own (.list T)), some (.val (rnD r)), x6, x7, x8, x9, x10, x11] R := by
  have hl := g.len
  refine ws_seq (ws_setO (we_lst (wa_nil ⟨sz (by simp), ?_⟩)))
  show Ws _ [x0, x1, x2, x3, some (.own (.list T)), some (.val (rnD r)), some (.own (.list [])), x7, x8, x9, x10, x11] _
  refine ws_seq (ws_for (wi_l (we_var rfl ⟨_, rfl, ?_⟩)))
  refine forL_inv (fun i env => ∃ x7 x8 : Option SV, env = [x0, x1, x2, x3, some (.own (.list T)), some (.val (rnD r)), some (.own (.list ((r.take i).map fun s => PyData.str (scT s)))), x7, x8, x9, x10, x11]) ⟨x7, x8, rfl⟩ ?_ ?_
  · rintro i d env hi ⟨x7, x8, rfl⟩
    rw [List.getElem?_map] at hi
    obtain ⟨s, h2, rfl⟩ := Option.map_eq_some_iff.mp hi
    have hs := g.pg s (List.mem_of_getElem? h2)
    refine ⟨[pgD s.1, pgD s.2], rfl, ?_⟩
    show Ws _ [x0, x1, x2, x3, some (.own (.list T)), some (.val (rnD r)), some (.own (.list ((r.take i).map fun s => PyData.str (scT s)))), some (.val (pgD s.1)), some (.val (pgD s.2)), x9, x10, x11] _
    refine ws_app rfl (wa_cons (we_word hs rfl rfl (wa_nil ⟨_, _, rfl, rfl, ?_, some (.val (pgD s.1)), some (.val (pgD s.2)), ?_⟩)))
    · rw [List.length_map, List.length_take]; exact sz' (by omega)
    · rw [take_snoc (f := fun s => PyData.str (scT s)) h2]; rfl
  · rintro env ⟨x7, x8, rfl⟩
    rw [List.length_map, List.take_length]
    show Ws _ _ _
    have shw : Sh 63 (.list (r.map fun s => PyData.str (scT s))) := Sh.up (n := 1) (sh_list fun y hy => by
      obtain ⟨s, hs, rfl⟩ := List.mem_map.mp hy
      exact sh_str (sc_lo (g.pg s hs))) (by decide)
    refine ws_app rfl (wa_cons (we_if (wb_t (we_neB rfl (we_lst (wa_nil ⟨sz (by simp), _, _, rfl, gNe_nil shw, _, rfl, fun hk => ?_, fun hk => ?_⟩))))))
    · cases r with
      | nil => cases hk
      | cons s r =>
        refine we_join (we_c (we_varF rfl ⟨" ", (s :: r).map scT, rfl, by rw [strs_map], ?_, wa_nil ⟨_, _, rfl, rfl, sz' (by omega), k _ _ _⟩⟩))
        refine join_room (k := 5) (fun x hx => ?_) (by decide +kernel) (by rw [List.length_map]; omega)
        obtain ⟨y, hy, rfl⟩ := List.mem_map.mp hx
        exact (sc_signs (g.pg y hy)).2.2.2.2
    · cases r with
      | nil => exact we_c (wa_nil ⟨_, _, rfl, rfl, sz' (by omega), k _ _ _⟩)
      | cons s r => cases hk
theorem law_true : ∀ ns : List Int, ns.length ≤ 63 → m_law [.list (ns.map PyData.int)] = some (.val (.bool true)) := by
  intro ns _
  refine runP_of rfl ?_
  unfold b_law
  show Ws _ [some (.val (.list (ns.map PyData.int))), none, none, none, none, none, none, none, none, none, none, none] _
  obtain ⟨r0, hr0, d0, rfl, hd0⟩ := start ns
  refine ws_seq (ws_setO (we_callO (wa_cons (we_var rfl (wa_nil ⟨_, hr0, ?_⟩)))))
  show Ws _ [some (.val (.list (ns.map PyData.int))), some (.own d0), none, none, none, none, none, none, none, none, none, none] _
  refine ws_seq (ws_for (wi_r1 (wa_cons (we_c (wa_nil ⟨_, rfl, by constructor <;> omega, ?_⟩)))))
  refine forL_inv (fun i env => ∃ (d : D) (x2 x3 x4 x5 x6 x7 x8 x9 x10 x11 : Option SV), env = [some (.val (.list (ns.map PyData.int))), some (.own d), x2, x3, x4, x5, x6, x7, x8, x9, x10, x11] ∧ GoodSt d) ⟨d0, none, none, none, none, none, none, none, none, none, none, rfl, hd0⟩ ?_ ?_
  · rintro i y env hi ⟨d, x2, x3, x4, x5, x6, x7, x8, x9, x10, x11, rfl, hd⟩
    refine ⟨_, rfl, ?_⟩
    show Ws _ [some (.val (.list (ns.map PyData.int))), some (.own d), some (.val y), x3, x4, x5, x6, x7, x8, x9, x10, x11] _
    refine ws_seq (ws_par (wm_val (we_callIO rfl (wa_nil (io_post rfl (any hd) fun x d' hx hd' => ?_)))))
    obtain ⟨rs, rfl, g⟩ := hx.ex
    have hl := g.len
    refine wm_own (we_lst (wa_nil ⟨sz (by simp), wm_nil ⟨rfl, ?_⟩⟩))
    show Ws _ [some (.val (.list (ns.map PyData.int))), some (.own d'), some (.val y), some (.val (rsD rs)), some (.own (.list [])), x5, x6, x7, x8, x9, x10, x11] _
    refine ws_seq (ws_for (wi_l (we_var rfl ⟨_, rfl, ?_⟩)))
    refine forL_inv (fun i env => ∃ x5 x6 x7 x8 : Option SV, env = [some (.val (.list (ns.map PyData.int))), some (.own d'), some (.val y), some (.val (rsD rs)), some (.own (.list ((rs.take i).map fun r => PyData.str (rnT r)))), x5, x6, x7, x8, x9, x10, x11]) ⟨x5, x6, x7, x8, rfl⟩ ?_ ?_
    · rintro i2 y2 env hi2 ⟨x5, x6, x7, x8, rfl⟩
      rw [List.getElem?_map] at hi2
      obtain ⟨r, h2, rfl⟩ := Option.map_eq_some_iff.mp hi2
      refine ⟨_, rfl, ?_⟩
      refine row (g.run r (List.mem_of_getElem? h2)) (by rw [List.length_map, List.length_take]; omega) fun z6 z7 z8 => ?_
      refine ⟨some (.val (rnD r)), z6, z7, z8, ?_⟩
      rw [take_snoc (f := fun r => PyData.str (rnT r)) h2]
    · rintro env ⟨x5, x6, x7, x8, rfl⟩
      rw [List.length_map, List.take_length]
      show Ws _ _ _
      refine ws_seq (ws_par (wm_val (we_join (we_c (we_varF rfl ⟨"\n", rs.map rnT, rfl, by rw [strs_map], ?_, ?_⟩)))))
      · refine join_room (k := 120) (fun x hx => ?_) (by decide +kernel) (by rw [List.length_map]; omega)
        obtain ⟨y, hy, rfl⟩ := List.mem_map.mp hx
        exact (rn_signs (g.run y hy)).2.2
      have hc := compL_mapF (f := rnD) (g := rnD) (is := [5]) (ft := t1) (fe := eList (aCons (eVar 5) aNil)) (ws := [5])
        (env := [some (SV.val (.list (ns.map PyData.int))), some (.own d'), some (.val y), some (.val (rsD rs)), some (.val (.list (rs.map fun r => PyData.str (rnT r)))), none, x6, x7, x8, x9, x10, x11]) rfl rs (fun r hr => ⟨_, rfl, we_list (wa_cons (we_var rfl (wa_nil ⟨_, .inl rfl, rfl, rfl⟩)))⟩)
      refine wm_val (we_comp (wi_l (we_var rfl ⟨_, rfl, _, _, hc, by rw [List.length_map]; exact sz' (by omega), wm_nil ⟨rfl, ?_⟩⟩)))
      show Ws _ [some (.val (.list (ns.map PyData.int))), some (.own d'), some (.val y), some (.val (rsD rs)), some (.val (.list (rs.map fun r => PyData.str (rnT r)))), none, x6, x7, x8, some (.val (.str (rsT rs))), some (.val (rsD rs)), x11] _
      refine ws_seq (ws_ifF (wb_or (wb_not (wb_t (we_call (wa_cons (we_call (wa_cons (we_var rfl (wa_nil (callP (w_all g) (wa_cons (we_var rfl (wa_nil (callP (same_str (rs_lo g)) ⟨_, rfl, fun _ => ?_, (fun z => nomatch z)⟩)))))))))))))))
      refine wb_or (wb_t (we_bin (we_var rfl (we_var rfl ⟨_, gNe_refl sh_rs, _, rfl, fun _ => ?_, (fun z => nomatch z)⟩))))
      refine wb_not (wb_t (we_call (wa_cons (we_call (wa_cons (we_var rfl (wa_nil (callP (r_all g) (wa_cons (we_var rfl (wa_nil (same_call (pl_rs g) ⟨_, rfl, rfl, ws_nx ?_⟩))))))))))))
      show Ws _ _ _
      refine ws_spoil (wa_cons (we_var rfl (wa_nil ⟨_, r_all g, ⟨by show 11 < 12; omega, by show 5 < 12; omega, by rw [List.length_map]; exact sz' (by omega), ?_⟩, ?_⟩)))
      · rw [List.all_eq_true]
        intro z hz
        obtain ⟨r, hr, rfl⟩ := List.mem_map.mp hz
        refine decide_eq_true ?_
        rw [List.length_map]
        have := (g.run r hr).len
        exact sz' (by omega)
      show Ws _ [some (.val (.list (ns.map PyData.int))), some (.own d'), some (.val y), some (.val (rsD rs)), some (.val (.list (rs.map fun r => PyData.str (rnT r)))), none, x6, x7, x8, some (.val (.str (rsT rs))), some (.val (rsD rs)), none] _
      refine ws_ifF (wb_not (wb_t (we_call (wa_cons (we_call (wa_cons (we_var rfl (wa_nil (callP (r_all g) (wa_cons (we_var rfl (wa_nil (same_call (pl_rs g) ⟨_, rfl, rfl, ws_nx ?_⟩)))))))))))))
      exact ⟨d', _, _, _, _, _, _, _, _, _, _, rfl, hd'⟩
  · rintro env ⟨d, x2, x3, x4, x5, x6, x7, x8, x9, x10, x11, rfl, hd⟩
    have g0 : gRs [] := ⟨by simp, by simp⟩
    have r0 := r_all g0
    have w0 := w_all g0
    rw [rs_nil] at r0 w0
    refine ws_ret (we_and (we_bin (we_call (wa_cons (we_c (wa_nil (callP r0 (we_lst (wa_nil ⟨sz (by simp), _, gEq_refl (sh_rs (rs := [])), _, rfl, fun _ => ?_, (fun z => nomatch z)⟩)))))))))
    exact we_bin (we_call (wa_cons (we_lst (wa_nil ⟨sz (by simp), wa_nil (callP w0 (we_c ⟨_, gEq_refl (sh_str (by decide +kernel)), rfl⟩))⟩))))
end K13

open PySem PySem.W PyProof.Rows
set_option maxRecDepth 100000 in
set_option maxHeartbeats 0 in
theorem PySem.Challenge.cw_pagefeeder_k13_written_and_read_holds : PySem.Challenge.rw_pagefeeder_k13_written_and_read.Holds := by
  w_on; o_law; k_head; (case hw => w_witness2)
  k_fill
  refine K13.walk (l := PySem.Challenge.rw_pagefeeder_k13_written_and_read) rfl rfl (fun w h Y => PySem.W.kIn_of Y) K13.law_true ?TT ?F
  case TT =>
    intro P
    refine' Z.tabs_mk rfl ?h2 ?h3 ?h4
    (case h2 => kernel_rfl)
    (case h3 => kernel_rfl)
    (case h4 => kernel_rfl)
  case F =>
    intro w mg fa h KX G tb hmg
    refine' K13.all_mk KX G tb hmg ?a0 ?l0 ?c0 ?k0 ?a1 ?l1 ?c1 ?k1 ?a2 ?l2 ?c2 ?k2 ?a3 ?l3 ?c3 ?k3 ?a4 ?l4 ?c4 ?k4 ?a5 ?l5 ?c5 ?k5 ?a6 ?l6 ?c6 ?k6 ?a7 ?l7 ?c7 ?k7 ?a8 ?l8 ?c8 ?k8 ?a9 ?l9 ?c9 ?k9 ?a10 ?l10 ?c10 ?k10 ?a11 ?l11 ?c11 ?k11 ?a12 ?l12 ?c12 ?k12 ?a13 ?l13 ?c13 ?k13 ?a14 ?l14 ?c14 ?k14 ?a15 ?l15 ?c15 ?k15 ?a16 ?l16 ?c16 ?k16 ?z_all ?z_bool ?z_enumerate ?z_int ?z_isinstance ?z_len ?z_list ?z_range ?z_str ?z_tuple ?z_FIGURES ?z_MOST_RUNS ?z_MOST_SCANS ?z_NO_SCANS ?z_UNREAD
    (case a0 => k_is)
    (case l0 => k_is)
    (case c0 => k_is)
    (case k0 => k_is)
    (case a1 => k_is)
    (case l1 => k_is)
    (case c1 => k_is)
    (case k1 => k_is)
    (case a2 => k_is)
    (case l2 => k_is)
    (case c2 => k_is)
    (case k2 => k_is)
    (case a3 => k_is)
    (case l3 => k_is)
    (case c3 => k_is)
    (case k3 => k_is)
    (case a4 => k_is)
    (case l4 => k_is)
    (case c4 => k_is)
    (case k4 => k_is)
    (case a5 => k_is)
    (case l5 => k_is)
    (case c5 => k_is)
    (case k5 => k_is)
    (case a6 => k_is)
    (case l6 => k_is)
    (case c6 => k_is)
    (case k6 => k_is)
    (case a7 => k_is)
    (case l7 => k_is)
    (case c7 => k_is)
    (case k7 => k_is)
    (case a8 => k_is)
    (case l8 => k_is)
    (case c8 => k_is)
    (case k8 => k_is)
    (case a9 => k_is)
    (case l9 => k_is)
    (case c9 => k_is)
    (case k9 => k_is)
    (case a10 => k_is)
    (case l10 => k_is)
    (case c10 => k_is)
    (case k10 => k_is)
    (case a11 => k_is)
    (case l11 => k_is)
    (case c11 => k_is)
    (case k11 => k_is)
    (case a12 => k_is)
    (case l12 => k_is)
    (case c12 => k_is)
    (case k12 => k_is)
    (case a13 => k_is)
    (case l13 => k_is)
    (case c13 => k_is)
    (case k13 => k_is)
    (case a14 => k_is)
    (case l14 => k_is)
    (case c14 => k_is)
    (case k14 => k_is)
    (case a15 => k_is)
    (case l15 => k_is)
    (case c15 => k_is)
    (case k15 => k_is)
    (case a16 => k_is)
    (case l16 => k_is)
    (case c16 => k_is)
    (case k16 => k_is)
    (case z_all => k_is)
    (case z_bool => k_is)
    (case z_enumerate => k_is)
    (case z_int => k_is)
    (case z_isinstance => k_is)
    (case z_len => k_is)
    (case z_list => k_is)
    (case z_range => k_is)
    (case z_str => k_is)
    (case z_tuple => k_is)
    (case z_FIGURES => k_is)
    (case z_MOST_RUNS => k_is)
    (case z_MOST_SCANS => k_is)
    (case z_NO_SCANS => k_is)
    (case z_UNREAD => k_is)
#print axioms PySem.Challenge.cw_pagefeeder_k13_written_and_read_holds
