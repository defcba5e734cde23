import PyProof.Rows.All
import Wide.All
import OpenK.AllK
import Wide.FinOn
import PyProof.EqAt
import PyProof.EqKinds
import PyProof.TupleCall
import KE.BitLaws
import PyProof.ReprLen
import PyProof.IsiPairs
import PyProof.IsiHeapPairs
import PyProof.IsiNone
import KE.KPar
import Wide.Seal
import PyProof.P3Eq
import KE.KRevSl
import PyProof.Rows.ListMulArg
import PyProof.NeKinds
import PyProof.FactsAll.tuple
import KE.KSortTupG
import KE.KItemsList
import KE.KParD
import PySem.Challenge.RW_numberedlines_k29_states_behind_faults
set_option Elab.async false
set_option linter.all false
set_option maxRecDepth 100000
set_option maxHeartbeats 4000000
/-! THE HAND LAYER, for ints, bools, texts, own classes, lists, tuples, dicts, comprehensions, walks over dicts, enumerate, zip, reversed, texts, calls, loops. Paste it whole ahead of your own text; what your proof does not reach may be deleted. -/
namespace L2
open PySem PySem.Spec PyProof.Rows

def isStar : Expr → Bool
  | .Starred _ _ => true
  | _ => false
theorem stE (e : Expr) (es : List Expr) (env : Env) (h : isStar e = false) : starEach (e :: es) env = (false, eval e env) :: starEach es env := by
  cases e <;> first | rfl | (simp [isStar] at h)
theorem stE1 (e : Expr) (env : Env) (h : isStar e = false) : starEach [e] env = [(false, eval e env)] := stE e [] env h

/-- a key: an int or a str -/
abbrev Key := Sum Int Str
def keyIs : Key → Value → Bool
  | .inl k, v => Value.isInt k v
  | .inr x, v => Value.isStrOf x v
def keyH (w : World) : Key → Int
  | .inl k => hashInt k
  | .inr x => hashStr w x
theorem keyIs_shape : ∀ {k : Key} {v : Value}, keyIs k v = true → (∃ i t, k = Sum.inl i ∧ v = Value.int i t) ∨ (∃ x t, k = Sum.inr x ∧ v = Value.str x t)
  | .inl i, v, h => by
    obtain ⟨t, e⟩ := Value.isInt_shape (k := i) (v := v) h
    exact .inl ⟨i, t, rfl, e⟩
  | .inr x, v, h => by
    obtain ⟨t, e⟩ := Value.isStrOf_shape (x := x) (v := v) h
    exact .inr ⟨x, t, rfl, e⟩
theorem keyIs_int (i : Int) (t : Tok) : keyIs (.inl i) (.int i t) = true := by simp [keyIs, Value.isInt]
theorem keyIs_str (x : Str) (t : Tok) : keyIs (.inr x) (.str x t) = true := by simp [keyIs, Value.isStrOf]
theorem key_ll (a b : Int) : decide ((Sum.inl a : Key) = Sum.inl b) = (a == b) := by
  by_cases e : a = b
  · subst e; simp
  · have h : ¬ (Sum.inl a : Key) = Sum.inl b := fun q => e (Sum.inl.inj q)
    rw [decide_eq_false h]
    exact (beq_eq_false_iff_ne.mpr e).symm
theorem key_rr (a b : Str) : decide ((Sum.inr a : Key) = Sum.inr b) = decide (a = b) := by
  by_cases e : a = b
  · subst e; simp
  · have h : ¬ (Sum.inr a : Key) = Sum.inr b := fun q => e (Sum.inr.inj q)
    rw [decide_eq_false h, decide_eq_false e]
theorem key_lr (a : Int) (b : Str) : decide ((Sum.inl a : Key) = Sum.inr b) = false := decide_eq_false (fun q => nomatch q)
theorem key_rl (a : Str) (b : Int) : decide ((Sum.inr a : Key) = Sum.inl b) = false := decide_eq_false (fun q => nomatch q)

def mixKind (prog : Program) (w : World) : PySem.KeyKind prog w Key where
  is := keyIs
  hash := keyH w
  inj := fun v a b ha hb => by
    rcases keyIs_shape ha with ⟨i, t, rfl, rfl⟩ | ⟨x, t, rfl, rfl⟩
    · rcases keyIs_shape hb with ⟨j, u, rfl, e⟩ | ⟨y, u, rfl, e⟩
      · injection e with e1 _; rw [e1]
      · exact nomatch e
    · rcases keyIs_shape hb with ⟨j, u, rfl, e⟩ | ⟨y, u, rfl, e⟩
      · exact nomatch e
      · injection e with e1 _; rw [e1]
  byValue := fun k v h => by
    rcases keyIs_shape h with ⟨i, t, rfl, rfl⟩ | ⟨x, t, rfl, rfl⟩ <;> rfl
  pyHash := fun hv h => by
    rcases keyIs_shape hv with ⟨i, t, rfl, rfl⟩ | ⟨x, t, rfl, rfl⟩
    · exact wpAny_pyHash_int h
    · exact wpAny_pyHash_str h
  eqBool := fun hu hv h => by
    rcases keyIs_shape hu with ⟨i, t, rfl, rfl⟩ | ⟨x, t, rfl, rfl⟩
    · rcases keyIs_shape hv with ⟨j, u, rfl, rfl⟩ | ⟨y, u, rfl, rfl⟩
      · rw [key_ll] at h; exact wpAny_eqBool_int h
      · rw [key_lr] at h; exact SeqAt.EqAt.int_str i t y u _ _ _ _ h
    · rcases keyIs_shape hv with ⟨j, u, rfl, rfl⟩ | ⟨y, u, rfl, rfl⟩
      · rw [key_rl] at h; exact SeqAt.EqAt.str_int x t j u _ _ _ _ h
      · rw [key_rr] at h; exact wpAny_eqBool_str h
  «strs» := fun k x t v h => by
    rcases keyIs_shape h with ⟨i, u, rfl, e⟩ | ⟨y, u, rfl, e⟩
    · exact nomatch e
    · injection e with e1 _
      subst e1
      cases v <;> rfl

theorem mixKind_int (prog : Program) (w : World) (i : Int) (t : Tok) : (mixKind prog w).is (.inl i) (.int i t) = true := keyIs_int i t
theorem mixKind_str (prog : Program) (w : World) (x : Str) (t : Tok) : (mixKind prog w).is (.inr x) (.str x t) = true := keyIs_str x t
end L2

namespace L2
open PySem PySem.Spec PyProof.Rows

/-- a value, without the heap -/
inductive V where
  | non | bl (b : Bool) | int (i : Int) | str (x : Str) | byt (b : Array UInt8) | flt (b : UInt64) | ref (a : Addr) | ty (n : String)
  deriving DecidableEq

def RelV : V → Value → Prop
  | .non, u => u = Value.none
  | .bl b, u => u = Value.bool b
  | .int i, u => ∃ t, u = Value.int i t
  | .str x, u => ∃ t, u = Value.str x t
  | .byt b, u => ∃ t, u = Value.bytes b t
  | .flt b, u => ∃ t, u = Value.float b t
  | .ref a, u => u = Value.ref a
  | .ty n, u => u = Value.type n

abbrev Vals : List V → List Value → Prop := Paired RelV
theorem Vals.length {xs : List V} {us : List Value} (r : Vals xs us) : xs.length = us.length := Paired.length r
theorem Vals.get : ∀ {xs : List V} {us : List Value} {i : Nat} {x : V}, Vals xs us → xs[i]? = some x → ∃ u, us[i]? = some u ∧ RelV x u
  | _, _, _, _, .nil, e => by simp at e
  | _, _, 0, _, .cons r _, e => by simp at e; subst e; exact ⟨_, rfl, r⟩
  | _, _, i + 1, x, .cons _ t, e => by
    obtain ⟨u, h1, h2⟩ := Vals.get (i := i) (x := x) t (by simpa using e)
    exact ⟨u, by simpa using h1, h2⟩
theorem Vals.append : ∀ {xs ys : List V} {us ws : List Value}, Vals xs us → Vals ys ws → Vals (xs ++ ys) (us ++ ws)
  | _, _, _, _, .nil, s => s
  | _, _, _, _, .cons r t, s => .cons r (Vals.append t s)
theorem Vals.take : ∀ {xs : List V} {us : List Value} (n : Nat), Vals xs us → Vals (xs.take n) (us.take n)
  | _, _, 0, _ => .nil
  | _, _, _ + 1, .nil => .nil
  | _, _, n + 1, .cons r t => .cons r (Vals.take n t)
theorem Vals.drop : ∀ {xs : List V} {us : List Value} (n : Nat), Vals xs us → Vals (xs.drop n) (us.drop n)
  | _, _, 0, r => r
  | _, _, _ + 1, .nil => .nil
  | _, _, n + 1, .cons _ t => Vals.drop n t
def RelO : Option V → Option Value → Prop
  | some v, some u => RelV v u
  | none, none => True
  | _, _ => False
def KV {κ : Type} : List (κ × V) → List (κ × Value) → Prop := Paired fun (p : κ × V) (q : κ × Value) => p.1 = q.1 ∧ RelV p.2 q.2

/-- a key of a dict (00_mix): an int or a text -/
def kV : Key → V
  | .inl i => .int i
  | .inr x => .str x

/-- what stands at a tracked address -/
inductive HO where
  /-- a list -/
  | lst (xs : List V)
  /-- a tuple (never changes) -/
  | tup (xs : List V)
  /-- a dict whose keys are ints and texts; one whose keys are tuples of ints and texts (the empty one is both) -/
  | dK (kvs : List (Key × V)) | dT (kvs : List (List Key × V))
  /-- a set of ints: its members, its size -/
  | set (S : Int → Bool) (n : Nat)
  /-- an instance of the class at C, its dict at dx, its attributes -/
  | ins (C dx : Addr) (fs : List (Str × V))
  /-- the dict of the instance at x -/
  | own (x : Addr)
  /-- the dict of an exception -/
  | xd (fs : List (Str × V))
  /-- a bound method, f of x -/
  | met (f x : Addr)
  /-- a range object lo, lo + 1, .. below hi -/
  | rng (lo hi : Int)
  /-- a thing that is known to the object (the script; a dict while a loop walks it): read, never written while it is so -/
  | frz (o : Obj) (u : HO)
  /-- a code object's table -/
  | tbl (ps : Array Value)
  /-- any other thing, by what is true of its one object (a def of one's own: SetO a S n := HO.ext fun h => ..) -/
  | ext (φ : Heap → Prop)

abbrev Hp := Addr → Option HO
def upd (H : Hp) (a : Addr) (o : HO) : Hp := fun b => if b = a then some o else H b
theorem upd_same {H : Hp} {a : Addr} {o : HO} : upd H a o a = some o := by unfold upd; rw [if_pos rfl]
theorem upd_ne {H : Hp} {a b : Addr} {o : HO} (h : b ≠ a) : upd H a o b = H b := by unfold upd; rw [if_neg h]
/-- two objects of different content stand apart -/
theorem ne_of {H : Hp} {a b : Addr} {o u : HO} (h : H a = some o) (h' : H b = some u) (d : o ≠ u) : a ≠ b := by
  intro e; subst e; rw [h] at h'; exact d (Option.some.inj h')
theorem ne_of_none {H : Hp} {a b : Addr} {o : HO} (h : H a = some o) (h' : H b = none) : a ≠ b := by
  intro e; subst e; rw [h] at h'; cases h'

section
variable (P : Program) (w : World)
def ObjOk (H : Hp) (h : Heap) (a : Addr) : HO → Prop
  | .lst xs => xs.length ≤ sizeLine ∧ ∃ (its : List Value) (n : Nat), Vals xs its ∧ h.get? a = some { cls := .type "list", data := .seq its.toArray n }
  | .tup xs => xs.length ≤ sizeLine ∧ ∃ its : List Value, Vals xs its ∧ IsTup h a its.toArray
  | .dK kvs => kvs.length ≤ sizeLine ∧ (a == sysModules) = false ∧ ∃ vs, KV kvs vs ∧ h.DictOf (mixKind P w) a vs
  | .dT kvs => kvs.length ≤ sizeLine ∧ (a == sysModules) = false ∧ ∃ xs : List (List Key × Addr × Value),
      Paired (fun (p : List Key × V) (q : List Key × Addr × Value) => p.1 = q.1 ∧ H q.2.1 = some (.tup (p.1.map kV)) ∧ RelV p.2 q.2.2) kvs xs ∧
      ∃ o es ep, h.get? a = some o ∧ o.ExactDict ∧ o.data = .dict es ep ∧ es.toList = xs.map (entryOfKey (tupleKind (mixKind P w))) ∧ (xs.map (·.1)).Nodup
  | .set S n => h.SetOf (intKind P w) a S n
  | .ins C dx fs => H dx = some (.own a) ∧ fs.length ≤ 1000 ∧ dx ≠ a ∧ h.get? a = some (PySem.W.instObj C dx) ∧
      ∃ mA, h.Ns1 dx mA ∧ (∀ f, RelO (fs.lookup f) (mA f)) ∧ PySem.Within mA (fs.map (·.1))
  | .own _ => ∃ o, h.get? a = some o
  | .xd fs => ∃ mA, h.Ns1 a mA ∧ ∀ f, RelO (fs.lookup f) (mA f)
  | .rng lo hi => ∃ t u v, h.get? a = some { cls := .type "range", data := .fields #[.int lo t, .int hi u, .int 1 v] }
  | .frz o u => h.get? a = some o ∧ ObjOk H h a u
  | .tbl ps => h.get? a = some { cls := .none, data := .fields ps }
  | .met f x => h.get? a = some (PySem.W.methodObj (.ref f) (.ref x))
  | .ext φ => φ h ∧ (∃ o, h.get? a = some o) ∧ ∀ h1 h2 : Heap, φ h1 → (∀ o, h1.get? a = some o → h2.get? a = some o) → φ h2
/-- the abstract heap is held -/
def HOk (H : Hp) (h : Heap) : Prop := ∀ a o, H a = some o → ObjOk P w H h a o
end

section
variable {P : Program} {w : World} {H H' : Hp} {h h' : Heap} {a : Addr} {o : HO}
theorem ObjOk.lt (x : ObjOk P w H h a o) : a < h.objs.size := by
  cases o with
  | lst xs => obtain ⟨_, _, _, _, e⟩ := x; exact Heap.lt_size e
  | tup xs => obtain ⟨_, _, _, p⟩ := x; exact p.lt
  | dK kvs => obtain ⟨_, _, _, _, o, _, _, e, _⟩ := x; exact Heap.lt_size e
  | dT kvs => obtain ⟨_, _, _, _, o, _, _, e, _⟩ := x; exact Heap.lt_size e
  | set S n => obtain ⟨o, _, _, _, e, _⟩ := x; exact Heap.lt_size e
  | ins C dx fs => obtain ⟨_, _, _, e, _⟩ := x; exact Heap.lt_size e
  | own y => obtain ⟨_, e⟩ := x; exact Heap.lt_size e
  | xd fs => obtain ⟨_, ⟨_, _, _, e, _⟩, _⟩ := x; exact Heap.lt_size e
  | rng lo hi => obtain ⟨_, _, _, e⟩ := x; exact Heap.lt_size e
  | frz ob u => obtain ⟨e, _⟩ := x; exact Heap.lt_size e
  | tbl ps => exact Heap.lt_size (show h.get? a = some _ from x)
  | met f y => exact Heap.lt_size (show h.get? a = some _ from x)
  | ext φ => obtain ⟨_, ⟨_, e⟩, _⟩ := x; exact Heap.lt_size e
theorem Paired.mapP {α β : Type} {F G : α → β → Prop} : ∀ {l₁ : List α} {l₂ : List β}, Paired F l₁ l₂ → (∀ a b, F a b → G a b) → Paired G l₁ l₂
  | _, _, .nil, _ => .nil
  | _, _, .cons r t, f => .cons (f _ _ r) (Paired.mapP t f)
/-- what an object's description leans on: its own object, its own dict, the tuples -/
theorem ObjOk.stay (x : ObjOk P w H h a o) (k : ∀ b u, (b = a ∨ H b = some (.own a)) → h.get? b = some u → h'.get? b = some u)
    (ho : ∀ b, H b = some (.own a) → H' b = some (.own a)) (ht : ∀ b xs, H b = some (.tup xs) → H' b = some (.tup xs)) : ObjOk P w H' h' a o := by
  induction o with
  | lst xs => obtain ⟨z, its, n, r, e⟩ := x; exact ⟨z, its, n, r, k _ _ (.inl rfl) e⟩
  | tup xs => obtain ⟨z, its, r, ob, e, c⟩ := x; exact ⟨z, its, r, ob, k _ _ (.inl rfl) e, c⟩
  | dK kvs => obtain ⟨z, y, vs, r, ob, es, ep, e, c⟩ := x; exact ⟨z, y, vs, r, ob, es, ep, k _ _ (.inl rfl) e, c⟩
  | dT kvs =>
    obtain ⟨z, y, xs, r, ob, es, ep, e, c⟩ := x
    exact ⟨z, y, xs, Paired.mapP r fun p q z => ⟨z.1, ht _ _ z.2.1, z.2.2⟩, ob, es, ep, k _ _ (.inl rfl) e, c⟩
  | set S n => obtain ⟨ob, es, ep, t, e, c⟩ := x; exact ⟨ob, es, ep, t, k _ _ (.inl rfl) e, c⟩
  | ins C dx fs =>
    obtain ⟨d, z, ne, e, mA, ⟨od, es, ep, e2, c⟩, r⟩ := x
    exact ⟨ho _ d, z, ne, k _ _ (.inl rfl) e, mA, ⟨od, es, ep, k _ _ (.inr d) e2, c⟩, r⟩
  | own y => obtain ⟨ob, e⟩ := x; exact ⟨ob, k _ _ (.inl rfl) e⟩
  | xd fs => obtain ⟨mA, ⟨od, es, ep, e, c⟩, r⟩ := x; exact ⟨mA, ⟨od, es, ep, k _ _ (.inl rfl) e, c⟩, r⟩
  | rng lo hi => obtain ⟨t, u, v, e⟩ := x; exact ⟨t, u, v, k _ _ (.inl rfl) e⟩
  | frz ob u ih => obtain ⟨e, q⟩ := x; exact ⟨k _ _ (.inl rfl) e, ih q⟩
  | tbl ps =>
    have e : h.get? a = some { cls := .none, data := .fields ps } := x
    show h'.get? a = some { cls := .none, data := .fields ps }
    exact k a _ (.inl rfl) e
  | met f y =>
    have e : h.get? a = some (PySem.W.methodObj (.ref f) (.ref y)) := x
    show h'.get? a = some (PySem.W.methodObj (.ref f) (.ref y))
    exact k a _ (.inl rfl) e
  | ext φ => obtain ⟨p, ⟨o, e⟩, st⟩ := x; exact ⟨st _ _ p fun o q => k _ _ (.inl rfl) q, ⟨o, k _ _ (.inl rfl) e⟩, st⟩
theorem HOk.lt (x : HOk P w H h) (e : H a = some o) : a < h.objs.size := (x a o e).lt
theorem HOk.fresh (x : HOk P w H h) (e : h.objs.size ≤ a) : H a = none := by
  cases q : H a with
  | none => rfl
  | some u => exact absurd (Nat.lt_of_lt_of_le (x.lt q) e) (Nat.lt_irrefl _)
/-- every object of the heap is kept -/
theorem HOk.kept (x : HOk P w H h) (k : ∀ b u, h.get? b = some u → h'.get? b = some u) : HOk P w H h' := fun a o e =>
  (x a o e).stay (fun b u _ q => k b u q) (fun _ q => q) fun _ _ q => q
/-- a new object is laid and tracked -/
theorem HOk.laid (x : HOk P w H h) (k : ∀ b u, h.get? b = some u → h'.get? b = some u) (hp : h.objs.size ≤ a) (new : ObjOk P w (upd H a o) h' a o) : HOk P w (upd H a o) h' := fun b u e => by
  have hn := x.fresh hp
  by_cases hb : b = a
  · subst hb; rw [upd_same] at e; cases e; exact new
  · rw [upd_ne hb] at e
    exact (x b u e).stay (fun c v _ q => k c v q) (fun c q => by rw [upd_ne (ne_of_none q hn)]; exact q) fun c xs q => by rw [upd_ne (ne_of_none q hn)]; exact q
end

/-- what may be read as u: it is u, or a known u -/
def Rd (H : Hp) (a : Addr) (u : HO) : Prop := H a = some u ∨ ∃ o, H a = some (.frz o u)
theorem Rd.ok {P : Program} {w : World} {H : Hp} {h : Heap} {a : Addr} {u : HO} (r : Rd H a u) (x : HOk P w H h) : ObjOk P w H h a u := by
  rcases r with r | ⟨o, r⟩
  · exact x a u r
  · obtain ⟨_, q⟩ := x a _ r
    exact q
/-- what may be written -/
def Mut : Option HO → Prop
  | some (.lst _) => True
  | some (.dK _) => True
  | some (.dT _) => True
  | some (.set _ _) => True
  | some (.ins _ _ _) => True
  | some (.ext _) => True
  | _ => False
section
variable {P : Program} {w : World} {H : Hp} {h h' : Heap} {x e : Addr} {o' : HO}
/-- the object at e is changed: x itself, or the dict of the instance x -/
theorem HOk.write (ok : HOk P w H h) (mu : Mut (H x)) (he : e = x ∨ H e = some (.own x)) (k : ∀ b u, b ≠ e → h.get? b = some u → h'.get? b = some u) (heo : ∃ u, h'.get? e = some u)
    (new : ObjOk P w (upd H x o') h' x o') : HOk P w (upd H x o') h' := fun b u q => by
  have nown : ∀ c y, H c = some (.own y) → c ≠ x := fun c y r z => by subst z; rw [r] at mu; exact mu
  have ntup : ∀ c xs, H c = some (.tup xs) → c ≠ x := fun c xs r z => by subst z; rw [r] at mu; exact mu
  by_cases hb : b = x
  · subst hb; rw [upd_same] at q; cases q; exact new
  · rw [upd_ne hb] at q
    by_cases hbe : b = e
    · have q' : H b = some (.own x) := by
        rcases he with z | z
        · exact absurd (hbe.trans z) hb
        · rw [hbe]; exact z
      rw [q] at q'; cases q'
      obtain ⟨v, hv⟩ := heo
      exact ⟨v, by rw [hbe]; exact hv⟩
    · refine (ok b u q).stay (fun c v hc r => k c v ?_ r) (fun c r => by rw [upd_ne (nown c b r)]; exact r) fun c xs r => by rw [upd_ne (ntup c xs r)]; exact r
      rcases hc with rfl | hc
      · exact hbe
      · rintro rfl
        rcases he with z | z
        · exact nown c b hc z
        · rw [hc] at z; cases z; exact hb rfl
end

/-! ### kept unless tracked; of the frames at fs (the callers') the slots may change (an exception that passes writes there); of the records at ex (iterators) nothing is said -/
structure Un (fs ex : List Addr) (H H' : Hp) (h h' : Heap) : Prop where
  keep : ∀ b o, h.get? b = some o → H b = none → b ∉ fs → b ∉ ex → h'.get? b = some o
  slot : ∀ b o, h.get? b = some o → H b = none → b ∈ fs → b ∉ ex → ∃ sl, h'.get? b = some { o with slots := sl }
  free : ∀ b o, h.get? b = some o → H b = none → b ∉ ex → H' b = none
  there : ∀ b o, h.get? b = some o → b ∉ ex → ∃ o', h'.get? b = some o'
  tups : ∀ b xs, H b = some (.tup xs) → H' b = some (.tup xs)
  frzs : ∀ b o u, H b = some (.frz o u) → H' b = some (.frz o u)
  tbls : ∀ b ps, H b = some (.tbl ps) → ∃ more, H' b = some (.tbl (ps ++ more))
section
variable {fs fs' ex ex' : List Addr} {H H1 H2 : Hp} {h h1 h2 h' : Heap} {a x e : Addr} {o : HO}
theorem Un.any (u : Un fs ex H H1 h h1) {b : Addr} {ob : Obj} (q : h.get? b = some ob) (n : H b = none) (hx : b ∉ ex) : ∃ sl, h1.get? b = some { ob with slots := sl } := by
  by_cases hb : b ∈ fs
  · exact u.slot b ob q n hb hx
  · exact ⟨ob.slots, u.keep b ob q n hb hx⟩
theorem Un.trans (a : Un fs ex H H1 h h1) (b : Un fs ex H1 H2 h1 h2) : Un fs ex H H2 h h2 where
  keep := fun c ob q n hc hx => b.keep c ob (a.keep c ob q n hc hx) (a.free c ob q n hx) hc hx
  slot := fun c ob q n hc hx => by
    obtain ⟨sl, e1⟩ := a.slot c ob q n hc hx
    obtain ⟨sl', e2⟩ := b.slot c _ e1 (a.free c ob q n hx) hc hx
    exact ⟨sl', e2⟩
  free := fun c ob q n hx => by
    obtain ⟨o', e1⟩ := a.there c ob q hx
    exact b.free c o' e1 (a.free c ob q n hx) hx
  there := fun c ob q hx => by
    obtain ⟨o', e1⟩ := a.there c ob q hx
    exact b.there c o' e1 hx
  tups := fun c xs q => b.tups c xs (a.tups c xs q)
  frzs := fun c ob xs q => b.frzs c ob xs (a.frzs c ob xs q)
  tbls := fun c ps q => by
    obtain ⟨m1, e1⟩ := a.tbls c ps q
    obtain ⟨m2, e2⟩ := b.tbls c _ e1
    exact ⟨m1 ++ m2, by rw [e2, Array.append_assoc]⟩
theorem Un.kept (k : ∀ b u, h.get? b = some u → h'.get? b = some u) : Un fs ex H H h h' :=
  ⟨fun b ob q _ _ _ => k b ob q, fun b ob q _ _ _ => ⟨ob.slots, k b ob q⟩, fun _ _ _ n _ => n, fun b ob q _ => ⟨ob, k b ob q⟩, fun _ _ q => q, fun _ _ _ q => q, fun _ ps q => ⟨#[], by rw [q]; simp⟩⟩
theorem Un.refl : Un fs ex H H h h := Un.kept fun _ _ q => q
theorem Un.laid (k : ∀ b u, h.get? b = some u → h'.get? b = some u) (hp : h.objs.size ≤ a) (hn : H a = none) : Un fs ex H (upd H a o) h h' where
  keep := fun b u q _ _ _ => k b u q
  slot := fun b u q _ _ _ => ⟨u.slots, k b u q⟩
  free := fun b u q n _ => by rw [upd_ne (Nat.ne_of_lt (Nat.lt_of_lt_of_le (Heap.lt_size q) hp))]; exact n
  there := fun b u q _ => ⟨u, k b u q⟩
  tups := fun b xs q => by rw [upd_ne (ne_of_none q hn)]; exact q
  frzs := fun b u xs q => by rw [upd_ne (ne_of_none q hn)]; exact q
  tbls := fun b ps q => ⟨#[], by rw [upd_ne (ne_of_none q hn), q]; simp⟩
theorem Un.write (mu : Mut (H x)) (he : e = x ∨ H e = some (.own x)) (k : ∀ b u, b ≠ e → h.get? b = some u → h'.get? b = some u) (heo : ∃ u, h'.get? e = some u) : Un fs ex H (upd H x o) h h' := by
  have hx : ∀ b, H b = none → b ≠ x := fun b n z => by subst z; rw [n] at mu; exact mu
  have hb : ∀ b, H b = none → b ≠ e := fun b n z => by
    subst z
    rcases he with r | r
    · exact hx b n r
    · rw [n] at r; cases r
  have hm : ∀ b u, H b = some u → ¬ Mut (some u) → b ≠ x := fun b u q nm z => by subst z; rw [q] at mu; exact nm mu
  refine ⟨fun b u q n _ _ => k b u (hb b n) q, fun b u q n _ _ => ⟨u.slots, k b u (hb b n) q⟩, fun b u q n _ => by rw [upd_ne (hx b n)]; exact n, fun b u q _ => ?_,
    fun b xs q => by rw [upd_ne (hm b _ q fun z => z)]; exact q, fun b u xs q => by rw [upd_ne (hm b _ q fun z => z)]; exact q, fun b ps q => ⟨#[], by rw [upd_ne (hm b _ q fun z => z), q]; simp⟩⟩
  by_cases hbe : b = e
  · subst hbe; exact heo
  · exact ⟨u, k b u hbe q⟩
end

/-! ### the heap without what is tracked -/
def trk (h : Heap) (H : Hp) : List Addr := (List.range h.objs.size).filter fun a => (H a).isSome
def hidT (h : Heap) (H : Hp) : Heap := PySem.W.hideAll h (trk h H)
theorem hidT_size (h : Heap) (H : Hp) : (hidT h H).objs.size = h.objs.size := PySem.W.hideAll_size _ _
theorem hidT_get {h : Heap} {H : Hp} {b : Addr} {o : Obj} (e : h.get? b = some o) (n : H b = none) : (hidT h H).get? b = some o :=
  PySem.W.hideAll_get _ e fun hm => by
    have q : (H b).isSome = true := (List.mem_filter.mp hm).2
    rw [n] at q; simp at q
theorem of_hidT {h : Heap} {H : Hp} {b : Addr} {o : Obj} (e : (hidT h H).get? b = some o) : h.get? b = some o ∧ H b = none := by
  have e' : h.get? b = some o := PySem.W.of_hideAll (trk h H) e
  refine ⟨e', ?_⟩
  cases q : H b with
  | none => rfl
  | some x =>
    have hm : b ∈ trk h H := List.mem_filter.mpr ⟨List.mem_range.mpr (Heap.lt_size e'), by simp [q]⟩
    have z : (hidT h H).get? b = none := PySem.W.hideAll_none (trk h H) hm
    rw [z] at e; cases e

/-! ### OpenK's ledger, filled with every new object but one -/
def allNews (g h : Heap) (L : Addr) : List (Addr × Obj) := (List.range h.objs.size).filterMap fun a => if a = L ∨ (g.get? a).isSome = true then none else (h.get? a).map fun o => (a, o)
def rest (g h : Heap) (L d : Addr) : List (Addr × Obj) := (allNews g h L).filter fun p => decide (p.1 ≠ d)
end L2

namespace L2
open PySem PySem.Spec PyProof.Rows

/-- the module's facts, over the base: the heap at the law's entry without what is tracked there -/
structure Mod (K : PySem.W.Frag) (mg : Str → Option Value) (base : Heap) : Prop where
  kin : K.In base
  glob : base.Ns mainGlobals mg
  blt : ∃ mb, base.Ns builtinsNs mb ∧ ∀ x : Str, x ≠ "__name__" → mb x = bootBuiltins x
  nolimit : base.NoLimit

/-- the context: a def's body (or a comprehension's block) running. base: fixed through the whole law; s₀, H₀: the entry; outer: the frames whose slots others may change (a def's callers); stack: all frames that run;
   ex: iterators that were made ahead of the entry and are walked here (a comprehension's); fn: the names whose cells were made at the entry (a def: all; a comprehension's block: its own); calm: not within an except suite; pn: pins that every state bears; xe: what is wanted of an exception that leaves the code -/
structure Cx where
  prog : Program
  w : World
  K : PySem.W.Frag
  mg : Str → Option Value
  base : Heap
  A : Around
  N : List Str
  s_0 : Shared
  H_0 : Hp
  env : Env
  outer : List Env
  stack : List Env
  ex : List Addr
  fn : Str → Bool
  calm : Bool
  pn : List (Addr × Obj)
  xe : Value → Shared → Prop
/-- the callers' frames -/
def frs (l : List Env) : List Addr := l.filterMap (·.frame)
abbrev Cx.fs (X : Cx) : List Addr := frs X.outer

def Vis (sc : Scope) (x : Str) : Prop := sc.names.lookup x = some .local ∨ sc.names.lookup x = some .cell ∨ sc.names.lookup x = some .free
def Loc (sc : Scope) (x : Str) : Prop := sc.names.lookup x = some .local ∨ sc.names.lookup x = some .cell
def Look (env : Env) (h : Heap) (m : Str → Option Value) (x : Str) (u : Value) : Prop :=
  (env.kindOf x = some .local ∧ m x = some u) ∨ ((env.kindOf x = some .cell ∨ env.kindOf x = some .free) ∧ ∃ c, env.cells.lookup x = some c ∧ h.IsCell c (some u))

structure Cx.Ok (X : Cx) : Prop where
  mod : Mod X.K X.mg X.base
  kind : X.env.scope.kind = .function
  glob : X.env.globals = mainGlobals
  blt : X.env.builtins = builtinsNs
  above : X.s_0.heap.objs.size ≤ X.env.locals
  inj : ∀ x y c, X.env.cells.lookup x = some c → X.env.cells.lookup y = some c → x = y
  has : ∀ x, (X.env.kindOf x = some .cell ∨ X.env.kindOf x = some .free) → ∃ c, X.env.cells.lookup x = some c
  cab : ∀ x c, X.fn x = true → X.env.cells.lookup x = some c → X.s_0.heap.objs.size ≤ c
  hd : X.calm = true → X.A.handled = none
  frames : X.A.frames = some X.stack
  stk : X.stack = X.outer ∨ (X.stack = X.env :: X.outer ∧ X.env.frame = some X.env.locals)
  exf : ∀ b ∈ X.ex, b ≠ X.env.locals ∧ ∀ x c, X.env.cells.lookup x = some c → c ≠ b
  bs : ∀ b o, X.base.get? b = some o → X.s_0.heap.get? b = some o ∧ X.H_0 b = none
  bsz : X.base.objs.size ≤ X.s_0.heap.objs.size
  noex : ∀ b o, X.base.get? b = some o → b ∉ X.ex
  exfs : ∀ b ∈ X.ex, b ∉ X.fs
  funs : X.s_0.heap.FunFrames X.base X.outer
  frf : ∀ b ∈ X.fs, X.H_0 b = none

structure Inv (X : Cx) (pins : List (Addr × Obj)) (σ : List (Option V)) (H : Hp) (s : Shared) : Prop where
  ok : X.Ok
  os : s.os = X.s_0.os
  bare : AllBare s.gens
  base : Un X.fs X.ex X.H_0 H X.s_0.heap s.heap
  loc : ∃ m, s.heap.Ns X.env.locals m ∧ ∀ (i : Nat) (x : Str) (v : V), X.N[i]? = some x → σ[i]? = some (some v) → Vis X.env.scope x → ∃ u, RelV v u ∧ Look X.env s.heap m x u
  cell : ∀ x c, X.env.cells.lookup x = some c → ∃ v, s.heap.IsCell c v
  free : H X.env.locals = none
  freeC : ∀ x c, X.env.cells.lookup x = some c → H c = none
  pin : ∀ p ∈ X.pn ++ pins, s.heap.get? p.1 = some p.2 ∧ H p.1 = none ∧ p.1 ≠ X.env.locals ∧ p.1 ∉ X.fs ∧ ∀ v, p.2.data ≠ .cell v
  hok : HOk X.prog X.w H s.heap
  len : σ.length = X.N.length

section
variable {X : Cx} {pins : List (Addr × Obj)} {σ : List (Option V)} {H H' : Hp} {s : Shared} {h' : Heap}

theorem Cx.Ok.nofr (ok : X.Ok) {b : Addr} {o : Obj} (e : X.base.get? b = some o) : b ∉ X.fs := fun hb => by
  have := (ok.funs.mem hb).1
  rw [e] at this; cases this
theorem Inv.bs (I : Inv X pins σ H s) : ∀ b o, X.base.get? b = some o → s.heap.get? b = some o ∧ H b = none := fun b o e =>
  ⟨I.base.keep b o (I.ok.bs b o e).1 (I.ok.bs b o e).2 (I.ok.nofr e) (I.ok.noex b o e), I.base.free b o (I.ok.bs b o e).1 (I.ok.bs b o e).2 (I.ok.noex b o e)⟩
theorem Inv.bk (I : Inv X pins σ H s) : ∀ b o, X.base.get? b = some o → s.heap.get? b = some o := fun b o e => (I.bs b o e).1
theorem Inv.mod (I : Inv X pins σ H s) : Mod X.K X.mg X.base := I.ok.mod
theorem Inv.kIn (I : Inv X pins σ H s) : X.K.In s.heap := I.ok.mod.kin.keeps I.bk
theorem Inv.lt (I : Inv X pins σ H s) : X.env.locals < s.heap.objs.size := let ⟨_, hn, _⟩ := I.loc; hn.lt
theorem Inv.sz (I : Inv X pins σ H s) : X.s_0.heap.objs.size ≤ s.heap.objs.size := Nat.le_trans I.ok.above (Nat.le_of_lt I.lt)
theorem Inv.nofs (I : Inv X pins σ H s) {a : Addr} (h : s.heap.objs.size ≤ a) : a ∉ X.fs := fun hb => by
  obtain ⟨_, o, ho, _⟩ := I.ok.funs.mem hb
  exact absurd (Nat.lt_of_lt_of_le (Heap.lt_size ho) (Nat.le_trans I.sz h)) (Nat.lt_irrefl _)
theorem Inv.cne (I : Inv X pins σ H s) : ∀ x c, X.env.cells.lookup x = some c → c ≠ X.env.locals := fun x c e z => by
  obtain ⟨v, o, ho, hd⟩ := I.cell x c e
  obtain ⟨m, ⟨o', es, ep, ho', hd', _⟩, _⟩ := I.loc
  rw [z, ho'] at ho; cases ho; rw [hd'] at hd; cases hd
theorem Inv.funs (I : Inv X pins σ H s) : s.heap.FunFrames X.base X.outer := by
  have all : ∀ (l : List Env), (∀ b ∈ frs l, b ∈ X.fs) → X.s_0.heap.FunFrames X.base l → s.heap.FunFrames X.base l := by
    intro l
    induction l with
    | nil => intro _ _; trivial
    | cons env r ih =>
      intro hs hl
      obtain ⟨hk, ⟨L, o, hf, hn, ho, hd⟩, hr⟩ := hl
      have hL : L ∈ X.fs := hs L (by unfold frs; rw [List.filterMap_cons, hf]; exact List.mem_cons_self)
      obtain ⟨sl, e⟩ := I.base.slot L o ho (I.ok.frf L hL) hL fun z => I.ok.exfs L z hL
      exact ⟨hk, ⟨L, _, hf, hn, e, hd⟩, ih (fun b hb => hs b (by unfold frs; rw [List.filterMap_cons, hf]; exact List.mem_cons_of_mem _ hb)) hr⟩
  exact all X.outer (fun _ hb => hb) I.ok.funs

/-- the frames that run, for a call -/
theorem Inv.stack (I : Inv X pins σ H s) : s.heap.FunFrames X.base X.stack := by
  rcases I.ok.stk with e | ⟨e, hf⟩
  · rw [e]; exact I.funs
  · rw [e]
    obtain ⟨m, hn, _⟩ := I.loc
    refine .cons (by rw [I.ok.kind]; decide) hf hn ?_ I.funs
    exact Heap.get?_none_of_le (Nat.le_trans I.ok.bsz I.ok.above)
theorem Inv.stkSub (I : Inv X pins σ H s) : ∀ b ∈ frs X.stack, b ∈ X.env.locals :: X.fs := fun b hb => by
  rcases I.ok.stk with e | ⟨e, hf⟩
  · rw [e] at hb; exact List.mem_cons_of_mem _ hb
  · rw [e] at hb
    unfold frs at hb
    rw [List.filterMap_cons, hf] at hb
    exact hb
theorem Inv.stkFree (I : Inv X pins σ H s) : ∀ b ∈ frs X.stack, H b = none := fun b hb => by
  rcases List.mem_cons.mp (I.stkSub b hb) with e | hb
  · rw [e]; exact I.free
  · obtain ⟨_, o, ho, _⟩ := I.ok.funs.mem hb
    exact I.base.free b o ho (I.ok.frf b hb) fun z => I.ok.exfs b z hb

/-- THE STEP: the untracked objects but the frame and the records at ch are kept (the callers' frames up to slots), the frame's map is kept, the new abstract heap is held -/
theorem Inv.step {g' : Array GenState} {t' : Nat} {d' : Drawn} {ch : List Addr} (I : Inv X pins σ H s)
    (hch : ∀ b ∈ ch, (b ∈ X.ex ∨ X.s_0.heap.objs.size ≤ b) ∧ b ≠ X.env.locals ∧ (∀ x c, X.env.cells.lookup x = some c → c ≠ b) ∧ ∀ p ∈ X.pn ++ pins, p.1 ≠ b)
    (keep : ∀ b o, b ≠ X.env.locals → b ∉ X.fs → b ∉ ch → s.heap.get? b = some o → H b = none → h'.get? b = some o)
    (slot : ∀ b o, b ≠ X.env.locals → b ∈ X.fs → b ∉ ch → s.heap.get? b = some o → H b = none → ∃ sl, h'.get? b = some { o with slots := sl }) (free : ∀ b o, b ∉ ch → s.heap.get? b = some o → H b = none → H' b = none)
    (there : ∀ b o, b ∉ ch → s.heap.get? b = some o → ∃ o', h'.get? b = some o')
    (tups : ∀ b xs, H b = some (.tup xs) → H' b = some (.tup xs)) (frzs : ∀ b o u, H b = some (.frz o u) → H' b = some (.frz o u)) (tbls : ∀ b ps, H b = some (.tbl ps) → ∃ more, H' b = some (.tbl (ps ++ more)))
    (ns : ∀ m, s.heap.Ns X.env.locals m → h'.Ns X.env.locals m) (hok : HOk X.prog X.w H' h') (hg : AllBare g') :
    Inv X pins σ H' { s with heap := h', gens := g', drawn := d', toks := t' } := by
  have neL : ∀ b o, X.s_0.heap.get? b = some o → b ≠ X.env.locals := fun b o e => Nat.ne_of_lt (Nat.lt_of_lt_of_le (Heap.lt_size e) I.ok.above)
  have neC : ∀ b o, X.s_0.heap.get? b = some o → b ∉ X.ex → b ∉ ch := fun b o e hx hb => by
    rcases (hch b hb).1 with z | z
    · exact hx z
    · exact absurd (Nat.lt_of_lt_of_le (Heap.lt_size e) z) (Nat.lt_irrefl _)
  have cellK : ∀ x c, X.env.cells.lookup x = some c → ∀ v, s.heap.IsCell c v → h'.IsCell c v := fun x c e v ⟨o, ho, hd⟩ => by
    have nch : c ∉ ch := fun z => (hch c z).2.2.1 x c e rfl
    by_cases hc : c ∈ X.fs
    · obtain ⟨sl, q⟩ := slot c o (I.cne x c e) hc nch ho (I.freeC x c e)
      exact ⟨_, q, hd⟩
    · exact ⟨o, keep c o (I.cne x c e) hc nch ho (I.freeC x c e), hd⟩
  refine ⟨I.ok, I.os, hg, ⟨fun b o e n hb hx => ?_, fun b o e n hb hx => ?_, fun b o e n hx => ?_, fun b o e hx => ?_, fun b xs e => tups b xs (I.base.tups b xs e), fun b o xs e => frzs b o xs (I.base.frzs b o xs e), fun b ps e => ?_⟩, ?_, fun x c e => ?_, ?_, fun x c e => ?_, fun p hp => ?_, hok, I.len⟩
  · exact keep b o (neL b o e) hb (neC b o e hx) (I.base.keep b o e n hb hx) (I.base.free b o e n hx)
  · obtain ⟨sl, e1⟩ := I.base.slot b o e n hb hx
    obtain ⟨sl', e2⟩ := slot b _ (neL b o e) hb (neC b o e hx) e1 (I.base.free b o e n hx)
    exact ⟨sl', e2⟩
  · obtain ⟨o', e1⟩ := I.base.there b o e hx
    exact free b o' (neC b o e hx) e1 (I.base.free b o e n hx)
  · obtain ⟨o', e1⟩ := I.base.there b o e hx
    exact there b o' (neC b o e hx) e1
  · obtain ⟨m1, e1⟩ := I.base.tbls b ps e
    obtain ⟨m2, e2⟩ := tbls b _ e1
    exact ⟨m1 ++ m2, by rw [e2, Array.append_assoc]⟩
  · obtain ⟨m, hn, hl⟩ := I.loc
    refine ⟨m, ns m hn, fun i x v e1 e2 e3 => ?_⟩
    obtain ⟨u, r, l⟩ := hl i x v e1 e2 e3
    refine ⟨u, r, ?_⟩
    rcases l with l | ⟨k, c, e, z⟩
    · exact .inl l
    · exact .inr ⟨k, c, e, cellK x c e _ z⟩
  · obtain ⟨v, z⟩ := I.cell x c e
    exact ⟨v, cellK x c e v z⟩
  · obtain ⟨m, ⟨o, _, _, ho, _⟩, _⟩ := I.loc
    exact free _ o (fun z => (hch _ z).2.1 rfl) ho I.free
  · obtain ⟨v, o, ho, hd⟩ := I.cell x c e
    exact free c o (fun z => (hch c z).2.2.1 x c e rfl) ho (I.freeC x c e)
  · obtain ⟨e, n, ne, nf, d⟩ := I.pin p hp
    have nch : p.1 ∉ ch := fun z => (hch p.1 z).2.2.2 p hp rfl
    exact ⟨keep p.1 p.2 ne nf nch e n, free p.1 p.2 nch e n, ne, nf, d⟩
/-- .. where the frame's own object is kept too -/
theorem Inv.un {t' : Nat} (I : Inv X pins σ H s) (u : Un X.fs [] H H' s.heap h') (hok : HOk X.prog X.w H' h') : Inv X pins σ H' { s with heap := h', toks := t' } := by
  obtain ⟨m, ⟨o, es, ep, ho, r⟩, _⟩ := id I.loc
  obtain ⟨sl, hL⟩ := u.any ho I.free (by simp)
  exact I.step (g' := s.gens) (d' := s.drawn) (ch := []) (fun _ z => nomatch z) (fun b o _ hb _ e n => u.keep b o e n hb (by simp)) (fun b o _ hb _ e n => u.slot b o e n hb (by simp)) (fun b o _ e n => u.free b o e n (by simp)) (fun b o _ e => u.there b o e (by simp)) u.tups u.frzs u.tbls (fun m' hm => by
    obtain ⟨o', es', ep', ho', r'⟩ := hm
    rw [ho] at ho'; cases ho'
    exact ⟨_, es', ep', hL, r'⟩) hok I.bare
/-- behind a call (or a comprehension's block): the slots of this frame may have changed too, the records at ch may have turned -/
theorem Inv.call {g' : Array GenState} {t' : Nat} {d' : Drawn} {ch : List Addr} (I : Inv X pins σ H s) (u : Un (frs X.stack) ch H H' s.heap h') (hok : HOk X.prog X.w H' h') (hg : AllBare g')
    (hch : ∀ b ∈ ch, (b ∈ X.ex ∨ X.s_0.heap.objs.size ≤ b) ∧ b ≠ X.env.locals ∧ (∀ x c, X.env.cells.lookup x = some c → c ≠ b) ∧ ∀ p ∈ X.pn ++ pins, p.1 ≠ b) :
    Inv X pins σ H' { s with heap := h', gens := g', drawn := d', toks := t' } := by
  obtain ⟨m, ⟨o, es, ep, ho, r⟩, _⟩ := id I.loc
  obtain ⟨sl, hL⟩ := u.any ho I.free fun z => (hch _ z).2.1 rfl
  exact I.step (ch := ch) hch (fun b o hL hb hc e n => u.keep b o e n (fun z => (List.mem_cons.mp (I.stkSub b z)).elim hL hb) hc) (fun b o _ _ hc e n => u.any e n hc) (fun b o hc e n => u.free b o e n hc) (fun b o hc e => u.there b o e hc) u.tups u.frzs u.tbls (fun m' hm => by
    obtain ⟨o', es', ep', ho', r'⟩ := hm
    rw [ho] at ho'; cases ho'
    exact ⟨_, es', ep', hL, r'⟩) hok hg
/-- an untracked record of ours (an iterator) has turned -/
theorem Inv.turned {t' : Nat} {it : Addr} (I : Inv X pins σ H s) (k : ∀ b o, b ≠ it → s.heap.get? b = some o → h'.get? b = some o) (hn : H it = none) (hL : it ≠ X.env.locals)
    (h1 : it ∈ X.ex ∨ X.s_0.heap.objs.size ≤ it) (h2 : ∀ x c, X.env.cells.lookup x = some c → c ≠ it) (h3 : ∀ p ∈ X.pn ++ pins, p.1 ≠ it) : Inv X pins σ H { s with heap := h', toks := t' } := by
  have nit : ∀ b u, H b = some u → b ≠ it := fun b u e z => by rw [z, hn] at e; cases e
  refine I.step (g' := s.gens) (d' := s.drawn) (ch := [it]) (fun b hb => ?_) (fun b o _ _ hc e _ => k b o (fun z => hc (by simp [z])) e) (fun b o _ _ hc e _ => ⟨o.slots, k b o (fun z => hc (by simp [z])) e⟩) (fun _ _ _ _ n => n)
    (fun b o hc e => ⟨o, k b o (fun z => hc (by simp [z])) e⟩) (fun _ _ e => e) (fun _ _ _ e => e) (fun b ps e => ⟨#[], by rw [e]; simp⟩) (fun m hm => ?_) (fun b u e => ?_) I.bare
  · have e : b = it := by simpa using hb
    subst e
    exact ⟨h1, hL, h2, h3⟩
  · obtain ⟨o, es, ep, ho, r⟩ := hm
    exact ⟨o, es, ep, k _ o (Ne.symm hL) ho, r⟩
  · refine (I.hok b u e).stay (fun c v hc q => k c v ?_ q) (fun _ q => q) fun _ _ q => q
    rcases hc with z | z
    · rw [z]; exact nit b u e
    · exact nit c _ z
theorem Inv.tok (I : Inv X pins σ H s) (t : Nat) : Inv X pins σ H { s with toks := t } := I.un (h' := s.heap) (t' := t) Un.refl I.hok
/-- all objects kept -/
theorem Inv.kept {t' : Nat} (I : Inv X pins σ H s) (k : ∀ b u, s.heap.get? b = some u → h'.get? b = some u) : Inv X pins σ H { s with heap := h', toks := t' } := I.un (Un.kept k) (I.hok.kept k)
/-- a new object laid and tracked -/
theorem Inv.laid {a : Addr} {o : HO} {t' : Nat} (I : Inv X pins σ H s) (k : ∀ b u, s.heap.get? b = some u → h'.get? b = some u) (hp : s.heap.objs.size ≤ a) (new : ObjOk X.prog X.w (upd H a o) h' a o) :
    Inv X pins σ (upd H a o) { s with heap := h', toks := t' } := I.un (Un.laid k hp (I.hok.fresh hp)) (I.hok.laid k hp new)
/-- an object written -/
theorem Inv.write {x e : Addr} {o : HO} {t' : Nat} (I : Inv X pins σ H s) (mu : Mut (H x)) (he : e = x ∨ H e = some (.own x)) (k : ∀ b u, b ≠ e → s.heap.get? b = some u → h'.get? b = some u) (heo : ∃ u, h'.get? e = some u)
    (new : ObjOk X.prog X.w (upd H x o) h' x o) : Inv X pins σ (upd H x o) { s with heap := h', toks := t' } := I.un (Un.write mu he k heo) (I.hok.write mu he k heo new)
/-- forgetting slots, pins -/
theorem Inv.weak {σ' : List (Option V)} (I : Inv X pins σ H s) (hl : σ'.length = σ.length) (w : ∀ (i : Nat) v, σ'[i]? = some (some v) → σ[i]? = some (some v)) : Inv X pins σ' H s :=
  ⟨I.ok, I.os, I.bare, I.base, let ⟨m, hn, hl'⟩ := I.loc; ⟨m, hn, fun i x v e1 e2 e3 => hl' i x v e1 (w i v e2) e3⟩, I.cell, I.free, I.freeC, I.pin, I.hok, hl.trans I.len⟩
theorem Inv.pins_of {pins' : List (Addr × Obj)} (I : Inv X pins σ H s) (h : ∀ p ∈ pins', s.heap.get? p.1 = some p.2 ∧ H p.1 = none ∧ p.1 ≠ X.env.locals ∧ p.1 ∉ X.fs ∧ ∀ v, p.2.data ≠ .cell v) : Inv X pins' σ H s :=
  ⟨I.ok, I.os, I.bare, I.base, I.loc, I.cell, I.free, I.freeC, fun p hp => (List.mem_append.mp hp).elim (fun z => I.pin p (List.mem_append_left _ z)) (h p), I.hok, I.len⟩

theorem nodup_ix {N : List Str} (hN : N.Nodup) {i j : Nat} {x : Str} (a : N[i]? = some x) (b : N[j]? = some x) : i = j := by
  obtain ⟨h1, e1⟩ := List.getElem?_eq_some_iff.mp a
  obtain ⟨h2, e2⟩ := List.getElem?_eq_some_iff.mp b
  exact (List.getElem_inj hN).mp (e1.trans e2.symm)

/-- a name is stored; what changed -/
theorem store_ok2 {M : Model} {A : Around} {E : Value → Shared → Prop} {i : Nat} {x : Str} {v : V} {u : Value} {Q : Unit → Shared → Prop} (I : Inv X pins σ H s) (hN : X.N.Nodup) (hi : X.N[i]? = some x) (hx : Loc X.env.scope x) (r : RelV v u)
    (h : ∀ s', Inv X pins (σ.set i (some v)) H s' → (∃ a, Heap.SameBut a s.heap s'.heap ∧ (a = X.env.locals ∨ X.env.cells.lookup x = some a)) → Q () s') (hf : X.fn x = true ∨ X.env.scope.names.lookup x = some .local := by first | exact .inl rfl | exact .inr rfl | assumption) : wpAny M A (storeName X.env x u) Q E s := by
  obtain ⟨m, hn, hl⟩ := id I.loc
  have hcls : (X.env.scope.kind == .class || (X.env.scope.kind == .module && X.env.locals != X.env.globals)) = false := by rw [I.ok.kind]; rfl
  have hiσ : i < σ.length := by rw [I.len]; exact (List.getElem?_eq_some_iff.mp hi).1
  have cne := I.cne
  have tracked : ∀ {a : Addr} {h' : Heap}, (∃ o, s.heap.get? a = some o ∧ H a = none) → Heap.SameBut a s.heap h' → HOk X.prog X.w H h' := fun {a h'} ha hs b ob e => by
    obtain ⟨_, _, hfree⟩ := ha
    refine (I.hok b ob e).stay (fun c w' hc q => (hs.2 c ?_).trans q) (fun _ q => q) fun _ _ q => q
    rintro rfl
    rcases hc with rfl | hc
    · rw [hfree] at e; cases e
    · rw [hfree] at hc; cases hc
  rcases hx with hk | hk
  · refine wpAny_storeName_local hk hn (fun h' hn' hs => ?_) hcls
    obtain ⟨oL, _, _, hoL, _⟩ := id hn
    refine h _ ⟨I.ok, I.os, I.bare, ⟨fun b o e n hb hx => ?_, fun b o e n hb hx => ?_, I.base.free, fun b o e hx => ?_, I.base.tups, I.base.frzs, I.base.tbls⟩, ⟨_, hn', fun j y v' e1 e2 e3 => ?_⟩, fun y c e => ?_, I.free, I.freeC, fun p hp => ?_, tracked ⟨oL, hoL, I.free⟩ hs, by simpa using I.len⟩ ⟨_, hs, .inl rfl⟩
    · exact (hs.2 b (Nat.ne_of_lt (Nat.lt_of_lt_of_le (Heap.lt_size e) I.ok.above))).trans (I.base.keep b o e n hb hx)
    · obtain ⟨sl, e1⟩ := I.base.slot b o e n hb hx
      exact ⟨sl, (hs.2 b (Nat.ne_of_lt (Nat.lt_of_lt_of_le (Heap.lt_size e) I.ok.above))).trans e1⟩
    · obtain ⟨o', e1⟩ := I.base.there b o e hx
      exact ⟨o', (hs.2 b (Nat.ne_of_lt (Nat.lt_of_lt_of_le (Heap.lt_size e) I.ok.above))).trans e1⟩
    · by_cases hj : j = i
      · subst hj
        rw [hi] at e1; cases e1
        rw [List.getElem?_set_self hiσ] at e2
        cases e2
        exact ⟨u, r, .inl ⟨hk, by simp⟩⟩
      · rw [List.getElem?_set_ne (Ne.symm hj)] at e2
        obtain ⟨u', r', q⟩ := hl j y v' e1 e2 e3
        refine ⟨u', r', ?_⟩
        rcases q with ⟨k, e⟩ | ⟨k, c, e, z⟩
        · refine .inl ⟨k, ?_⟩
          have : y ≠ x := fun e => hj (nodup_ix hN e1 (e ▸ hi))
          simp [this, e]
        · exact .inr ⟨k, c, e, z.sameBut hs (cne y c e)⟩
    · obtain ⟨w', z⟩ := I.cell y c e
      exact ⟨w', z.sameBut hs (cne y c e)⟩
    · obtain ⟨e, n, ne, nf, d⟩ := I.pin p hp
      exact ⟨(hs.2 p.1 ne).trans e, n, ne, nf, d⟩
  · have hfn : X.fn x = true := by
      rcases hf with z | z
      · exact z
      · rw [z] at hk; cases hk
    obtain ⟨c, hc⟩ := I.ok.has x (.inl hk)
    obtain ⟨w', z⟩ := I.cell x c hc
    refine wpAny_storeName_cell I.ok.kind hk hc z (fun h' hc' hs => ?_)
    obtain ⟨oc, hoc, hocd⟩ := id z
    refine h { s with heap := h' } ⟨I.ok, I.os, I.bare, ⟨fun b o e n hb hx => ?_, fun b o e n hb hx => ?_, I.base.free, fun b o e hx => ?_, I.base.tups, I.base.frzs, I.base.tbls⟩, ⟨m, hn.sameBut hs (Ne.symm (cne x c hc)), fun j y v' e1 e2 e3 => ?_⟩, fun y c' e => ?_, I.free, I.freeC, fun p hp => ?_, tracked ⟨oc, hoc, I.freeC x c hc⟩ hs, by simpa using I.len⟩ ⟨c, hs, .inr hc⟩
    · exact (hs.2 b (Nat.ne_of_lt (Nat.lt_of_lt_of_le (Heap.lt_size e) (I.ok.cab x c hfn hc)))).trans (I.base.keep b o e n hb hx)
    · obtain ⟨sl, e1⟩ := I.base.slot b o e n hb hx
      exact ⟨sl, (hs.2 b (Nat.ne_of_lt (Nat.lt_of_lt_of_le (Heap.lt_size e) (I.ok.cab x c hfn hc)))).trans e1⟩
    · obtain ⟨o', e1⟩ := I.base.there b o e hx
      exact ⟨o', (hs.2 b (Nat.ne_of_lt (Nat.lt_of_lt_of_le (Heap.lt_size e) (I.ok.cab x c hfn hc)))).trans e1⟩
    · by_cases hj : j = i
      · subst hj
        rw [hi] at e1; cases e1
        rw [List.getElem?_set_self hiσ] at e2
        cases e2
        exact ⟨u, r, .inr ⟨.inl hk, c, hc, hc'⟩⟩
      · rw [List.getElem?_set_ne (Ne.symm hj)] at e2
        obtain ⟨u', r', q⟩ := hl j y v' e1 e2 e3
        refine ⟨u', r', ?_⟩
        rcases q with q | ⟨k, c', e, z'⟩
        · exact .inl q
        · refine .inr ⟨k, c', e, z'.sameBut hs ?_⟩
          rintro rfl
          exact hj (nodup_ix hN e1 (I.ok.inj _ _ _ e hc ▸ hi))
    · by_cases hcc : c' = c
      · subst hcc; exact ⟨_, hc'⟩
      · obtain ⟨w2, z2⟩ := I.cell y c' e
        exact ⟨w2, z2.sameBut hs hcc⟩
    · obtain ⟨e, n, ne, nf, d⟩ := I.pin p hp
      refine ⟨(hs.2 p.1 ?_).trans e, n, ne, nf, d⟩
      intro q
      rw [q, hoc] at e
      have q' : oc = p.2 := Option.some.inj e
      exact d w' (by rw [← q']; exact hocd)
theorem store_ok {M : Model} {A : Around} {E : Value → Shared → Prop} {i : Nat} {x : Str} {v : V} {u : Value} {Q : Unit → Shared → Prop} (I : Inv X pins σ H s) (hN : X.N.Nodup) (hi : X.N[i]? = some x) (hx : Loc X.env.scope x) (r : RelV v u)
    (h : ∀ s', Inv X pins (σ.set i (some v)) H s' → Q () s') (hf : X.fn x = true ∨ X.env.scope.names.lookup x = some .local := by first | exact .inl rfl | exact .inr rfl | assumption) : wpAny M A (storeName X.env x u) Q E s :=
  store_ok2 I hN hi hx r (fun s' I' _ => h s' I') hf
/-- behind a call or a block, the state as it is -/
theorem Inv.call' {s' : Shared} {ch : List Addr} (I : Inv X pins σ H s) (ho : s'.os = s.os) (u : Un (frs X.stack) ch H H' s.heap s'.heap) (hok : HOk X.prog X.w H' s'.heap) (hg : AllBare s'.gens)
    (hch : ∀ b ∈ ch, (b ∈ X.ex ∨ X.s_0.heap.objs.size ≤ b) ∧ b ≠ X.env.locals ∧ (∀ x c, X.env.cells.lookup x = some c → c ≠ b) ∧ ∀ p ∈ X.pn ++ pins, p.1 ≠ b) : Inv X pins σ H' s' := by
  obtain ⟨h', g', d', t', o'⟩ := s'
  have e : o' = s.os := ho
  subst e
  exact I.call (g' := g') (t' := t') (d' := d') u hok hg hch
end

/-! ### the judgements -/
/-- an exception: its class, its own dict's address (where it has one), the abstract heap behind it -/
abbrev XK := Value → Option Addr → Hp → Prop
abbrev St := List (Option V)
abbrev VK := V → Hp → Prop
/-- an expression's reading; a test's; an argument list's -/
abbrev TE := St → Hp → VK → Prop
abbrev TT := St → Hp → (Bool → Hp → Prop) → Prop
abbrev TA := St → Hp → (List V → Hp → Prop) → Prop
/-- what is wanted behind a statement -/
structure Ends where
  nx : St → Hp → Prop
  rt : VK
  bk : St → Hp → Prop := fun _ _ => False
  ct : St → Hp → Prop := fun _ _ => False
abbrev TS := Ends → St → Hp → Prop

def EP (X : Cx) (pins : List (Addr × Obj)) (σ : St) (Q : VK) (u : Value) (s' : Shared) : Prop := ∃ v H', Inv X pins σ H' s' ∧ RelV v u ∧ Q v H'
def TP (X : Cx) (pins : List (Addr × Obj)) (σ : St) (Q : Bool → Hp → Prop) (b : Bool) (s' : Shared) : Prop := ∃ H', Inv X pins σ H' s' ∧ Q b H'
def AP (X : Cx) (pins : List (Addr × Obj)) (σ : St) (Q : List V → Hp → Prop) (us : List Value) (s' : Shared) : Prop := ∃ vs H', Inv X pins σ H' s' ∧ Vals vs us ∧ Q vs H'
def SP (X : Cx) (pins : List (Addr × Obj)) (D : Ends) (f : Flow) (s' : Shared) : Prop :=
  match f with
  | .next => ∃ σ' H', Inv X pins σ' H' s' ∧ D.nx σ' H'
  | .brk => ∃ σ' H', Inv X pins σ' H' s' ∧ D.bk σ' H'
  | .cont => ∃ σ' H', Inv X pins σ' H' s' ∧ D.ct σ' H'
  | .ret u => ∃ v σ' H', Inv X pins σ' H' s' ∧ RelV v u ∧ D.rt v H'

def PE (X : Cx) (e : Expr) (t : TE) : Prop :=
  ∀ (pins : List (Addr × Obj)) (s : Shared) (σ : St) (H : Hp) (Q : VK), Inv X pins σ H s → t σ H Q → wpAny (model X.prog X.w) X.A (eval e X.env) (EP X pins σ Q) X.xe s
def PT (X : Cx) (e : Expr) (t : TT) : Prop :=
  ∀ (pins : List (Addr × Obj)) (s : Shared) (σ : St) (H : Hp) (Q : Bool → Hp → Prop), Inv X pins σ H s → t σ H Q → wpAny (model X.prog X.w) X.A (isTrue e X.env (eval e X.env)) (TP X pins σ Q) X.xe s
/-- a test whatever its 'whole' is (and, or) -/
def PW (X : Cx) (e : Expr) (t : TT) : Prop :=
  ∀ (whole : Sem Value) (pins : List (Addr × Obj)) (s : Shared) (σ : St) (H : Hp) (Q : Bool → Hp → Prop), Inv X pins σ H s → t σ H Q → wpAny (model X.prog X.w) X.A (isTrue e X.env whole) (TP X pins σ Q) X.xe s
theorem PW.pt {X : Cx} {e : Expr} {t : TT} (h : PW X e t) : PT X e t := h _
/-- an argument list (no star), from the left -/
def PA (X : Cx) (es : List Expr) (t : TA) : Prop :=
  ∀ (pos : Pos) (pins : List (Addr × Obj)) (s : Shared) (σ : St) (H : Hp) (Q : List V → Hp → Prop), Inv X pins σ H s → t σ H Q → wpAny (model X.prog X.w) X.A (spliced (backTo pos (starEach es X.env))) (AP X pins σ Q) X.xe s
def PS (X : Cx) (st : Stmt) (t : TS) : Prop :=
  ∀ (pins : List (Addr × Obj)) (s : Shared) (σ : St) (H : Hp) (D : Ends), Inv X pins σ H s → t D σ H → wpAny (model X.prog X.w) X.A (exec st X.env) (SP X pins D) X.xe s
def PSs (X : Cx) (st : List Stmt) (t : TS) : Prop :=
  ∀ (pins : List (Addr × Obj)) (s : Shared) (σ : St) (H : Hp) (D : Ends), Inv X pins σ H s → t D σ H → wpAny (model X.prog X.w) X.A (execs st X.env) (SP X pins D) X.xe s
/-- weaken the end -/
theorem thn {α : Type} {t : Sem α} {Q Q' : α → Shared → Prop} {M : Model} {A : Around} {E : Value → Shared → Prop} {s : Shared} (h : wpAny M A t Q E s) (hQ : ∀ a s, Q a s → Q' a s) : wpAny M A t Q' E s := wpAny_mono h hQ fun _ _ x => x
end L2

namespace L2
open PySem PySem.Spec PyProof.Rows
section
variable {X : Cx}

/-! ### names and constants -/
def tVar (i : Nat) : TE := fun σ H Q => ∃ v, σ[i]? = some (some v) ∧ Q v H
def tC (v : V) : TE := fun _ H Q => Q v H
theorem pe_var {i : Nat} {x : Str} {pos : Pos} (hN : X.N[i]? = some x) (hv : Vis X.env.scope x) (hd : (x == ("__debug__" : Str)) = false := by decide) (hcd : (x == ("__classdict__" : Str)) = false := by decide) : PE X (.Name x pos) (tVar i) := by
  intro pins s σ H Q I h
  obtain ⟨v, e, h⟩ := h
  obtain ⟨m, hn, hl⟩ := I.loc
  obtain ⟨u, r, l⟩ := hl i x v hN e hv
  have fin : EP X pins σ Q u s := ⟨v, H, I, r, h⟩
  rcases l with ⟨hk, hm⟩ | ⟨hk, c, hc, hcell⟩
  · exact wpAny_Name (wpAny_loadName_local I.ok.kind hk hn hm fin) hd
  · rcases hk with hk | hk
    · exact wpAny_Name (wpAny_loadName_cell I.ok.kind hk hc hcell fin) hd
    · exact wpAny_Name (wpAny_loadName_free I.ok.kind hk hc hcell fin hcd) hd
theorem pe_int {i j pos} : PE X (.Constant (.int i) j pos) (tC (.int i)) := fun _ _ _ H _ I h => wpAny_Constant_int ⟨.int i, H, I.tok _, ⟨_, rfl⟩, h⟩
theorem pe_bl {b j pos} : PE X (.Constant (.bool b) j pos) (tC (.bl b)) := fun _ _ _ H _ I h => Constant_bool ⟨.bl b, H, I, rfl, h⟩
theorem pe_non {j pos} : PE X (.Constant .none j pos) (tC .non) := fun _ _ _ H _ I h => Constant_none ⟨.non, H, I, rfl, h⟩
theorem pe_str {x j pos} : PE X (.Constant (.str x) j pos) (tC (.str x)) := fun _ _ _ H _ I h => Calls.Constant_str ⟨.str x, H, I.tok _, ⟨_, rfl⟩, h⟩

/-- a global name of the def -/
def Gl (X : Cx) (x : Str) : Prop := X.env.kindOf x = some .globalImplicit
theorem ld_glob {E : Value → Shared → Prop} {pins : List (Addr × Obj)} {s : Shared} {σ : St} {H : Hp} {x : Str} {u : Value} {pos : Pos} {Q : Value → Shared → Prop} (I : Inv X pins σ H s) (hg : Gl X x) (hm : X.mg x = some u) (h : Q u s)
    (hd : (x == ("__debug__" : Str)) = false := by decide) : wpAny (model X.prog X.w) X.A (eval (.Name x pos) X.env) Q E s :=
  Calls.Name_function_global I.ok.kind hg (Calls.loadGlobal_global (by rw [I.ok.glob]; exact I.mod.glob.keeps I.bk) hm h) hd
theorem ld_blt {E : Value → Shared → Prop} {pins : List (Addr × Obj)} {s : Shared} {σ : St} {H : Hp} {x : Str} {u : Value} {pos : Pos} {Q : Value → Shared → Prop} (I : Inv X pins σ H s) (hg : Gl X x) (hm : X.mg x = none) (hv : bootBuiltins x = some u) (h : Q u s)
    (hn : x ≠ "__name__" := by decide) (hd : (x == ("__debug__" : Str)) = false := by decide) : wpAny (model X.prog X.w) X.A (eval (.Name x pos) X.env) Q E s := by
  obtain ⟨mb, h1, h2⟩ := I.mod.blt
  exact Calls.Name_function_global I.ok.kind hg (Calls.loadGlobal_builtin (by rw [I.ok.glob]; exact I.mod.glob.keeps I.bk) hm (by rw [I.ok.blt]; exact h1.keeps I.bk) ((h2 x hn).trans hv) h) hd
/-- a module's constant, a class, a function, as a value -/
theorem pe_glob {x : Str} {v : V} {u : Value} {pos : Pos} (hg : Gl X x) (hm : X.mg x = some u) (r : RelV v u) (hd : (x == ("__debug__" : Str)) = false := by decide) : PE X (.Name x pos) (tC v) :=
  fun _ _ _ H _ I h => ld_glob I hg hm ⟨v, H, I, r, h⟩ hd
theorem pe_bltn {x : Str} {v : V} {u : Value} {pos : Pos} (hg : Gl X x) (hm : X.mg x = none) (hv : bootBuiltins x = some u) (r : RelV v u) (hn : x ≠ "__name__" := by decide) (hd : (x == ("__debug__" : Str)) = false := by decide) : PE X (.Name x pos) (tC v) :=
  fun _ _ _ H _ I h => ld_blt I hg hm hv ⟨v, H, I, r, h⟩ hn hd

/-! ### arithmetic -/
variable {a b : Expr} {ta tb : TE} {pos : Pos}
/-! ### comparisons -/
/-! ### and, or, not -/
variable {tA tB' : TT} {rest : List Expr}
def tAnd (t u : TT) : TT := fun σ H Q => t σ H fun c H1 => if c = true then u σ H1 Q else Q false H1
def tOr (t u : TT) : TT := fun σ H Q => t σ H fun c H1 => if c = true then Q true H1 else u σ H1 Q
def tNot (t : TT) : TT := fun σ H Q => t σ H fun c H1 => Q (!c) H1
theorem pw_and1 (ha : PT X a tA) : PW X (.BoolOp .And [a] pos) tA := by
  intro wh pins s σ H Q I h
  refine isTrue_and (thn (ha pins s σ H Q I h) fun c s1 e => ?_)
  cases c with
  | true => exact isTrue_and_nil e
  | false => exact e
theorem pw_or1 (ha : PT X a tA) : PW X (.BoolOp .Or [a] pos) tA := by
  intro wh pins s σ H Q I h
  refine isTrue_or (thn (ha pins s σ H Q I h) fun c s1 e => ?_)
  cases c with
  | false => exact isTrue_or_nil e
  | true => exact e
theorem pw_and (ha : PT X a tA) (hb : PW X (.BoolOp .And (b :: rest) pos) tB') : PW X (.BoolOp .And (a :: b :: rest) pos) (tAnd tA tB') := by
  intro wh pins s σ H Q I h
  refine isTrue_and (thn (ha pins s σ H _ I h) fun c s1 ⟨H1, I1, q1⟩ => ?_)
  cases c with
  | true => exact hb wh pins s1 σ H1 Q I1 q1
  | false => exact ⟨H1, I1, q1⟩
theorem pw_or (ha : PT X a tA) (hb : PW X (.BoolOp .Or (b :: rest) pos) tB') : PW X (.BoolOp .Or (a :: b :: rest) pos) (tOr tA tB') := by
  intro wh pins s σ H Q I h
  refine isTrue_or (thn (ha pins s σ H _ I h) fun c s1 ⟨H1, I1, q1⟩ => ?_)
  cases c with
  | true => exact ⟨H1, I1, q1⟩
  | false => exact hb wh pins s1 σ H1 Q I1 q1
theorem pt_not (ha : PT X a tA) : PT X (.UnaryOp .Not a pos) (tNot tA) := by
  intro pins s σ H Q I h
  exact isTrue_not (ha pins s σ H (fun c H1 => Q (!c) H1) I h)
/-- .. as values (bools) -/
def tAndV (ta tb : TE) : TE := fun σ H Q => ta σ H fun x H1 => ∃ c, x = .bl c ∧ if c = true then tb σ H1 Q else Q (.bl false) H1
def tNotV (ta : TE) : TE := fun σ H Q => ta σ H fun x H1 => ∃ c, x = .bl c ∧ Q (.bl (!c)) H1
theorem pe_one {op} {t : TE} (h : PE X a t) : PE X (.BoolOp op [a] pos) t := fun pins s σ H Q I hw => BoolOp_one (h pins s σ H Q I hw)
theorem pe_and (ha : PE X a ta) (hb : PE X (.BoolOp .And (b :: rest) pos) tb) : PE X (.BoolOp .And (a :: b :: rest) pos) (tAndV ta tb) := by
  intro pins s σ H Q I h
  refine BoolOp_and (thn (ha pins s σ H _ I h) fun v s1 ⟨x, H1, I1, r1, q1⟩ => ?_)
  obtain ⟨c, rfl, q1⟩ := q1
  cases r1
  refine wpAny_truthy_bool ?_
  cases c with
  | true => exact hb pins s1 σ H1 Q I1 q1
  | false => exact ⟨.bl false, H1, I1, rfl, q1⟩
theorem pe_not (ha : PE X a ta) : PE X (.UnaryOp .Not a pos) (tNotV ta) := by
  intro pins s σ H Q I h
  refine UnaryOp_ (thn (ha pins s σ H _ I h) fun v s1 ⟨x, H1, I1, r1, q1⟩ => ?_)
  obtain ⟨c, rfl, q1⟩ := q1
  cases r1
  exact not_of (wpAny_truthy_bool ⟨.bl (!c), H1, I1, rfl, q1⟩)
end
end L2

namespace L2
open PySem PySem.Spec PyProof.Rows

/-! ### a list, a tuple that is read: tracked, frozen, or an object of the module -/
def SqL (K : PySem.W.Frag) (H : Hp) (a : Addr) (xs : List V) : Prop :=
  Rd H a (.lst xs) ∨
    ∃ (o : Obj) (its : Array Value) (n : Nat), K.lookup a = some o ∧ o.cls = .type "list" ∧ o.dict = none ∧ o.data = .seq its n ∧ its.size ≤ sizeLine ∧ Vals xs its.toList
def SqT (K : PySem.W.Frag) (H : Hp) (a : Addr) (xs : List V) : Prop :=
  Rd H a (.tup xs) ∨
    ∃ (o : Obj) (its : Array Value) (n : Nat), K.lookup a = some o ∧ o.cls = .type "tuple" ∧ o.data = .seq its n ∧ its.size ≤ sizeLine ∧ Vals xs its.toList
def absV : Value → Option V
  | .none => some .non
  | .bool b => some (.bl b)
  | .int i _ => some (.int i)
  | .str x _ => some (.str x)
  | .bytes b _ => some (.byt b)
  | .float b _ => some (.flt b)
  | .ref a => some (.ref a)
  | .type n => some (.ty n)
  | _ => none
theorem RelV.abs {x : V} {u : Value} (r : RelV x u) : absV u = some x := by
  cases x with
  | non => cases r; rfl
  | bl _ => cases r; rfl
  | int _ => obtain ⟨t, rfl⟩ := r; rfl
  | str _ => obtain ⟨t, rfl⟩ := r; rfl
  | byt _ => obtain ⟨t, rfl⟩ := r; rfl
  | flt _ => obtain ⟨t, rfl⟩ := r; rfl
  | ref _ => cases r; rfl
  | ty _ => cases r; rfl
theorem RelV.inj {x y : V} {u : Value} (r : RelV x u) (q : RelV y u) : x = y := Option.some.inj (r.abs.symm.trans q.abs)
theorem Vals.inj : ∀ {xs ys : List V} {us : List Value}, Vals xs us → Vals ys us → xs = ys
  | _, _, _, .nil, .nil => rfl
  | _, _, _, .cons r t, .cons r' t' => by rw [r.inj r', Vals.inj t t']
section
variable {X : Cx} {pins : List (Addr × Obj)} {σ : St} {H : Hp} {s : Shared} {a : Addr} {xs ys : List V}
theorem SqL.of {K : PySem.W.Frag} (h : H a = some (.lst xs)) : SqL K H a xs := .inl (.inl h)
theorem SqT.of {K : PySem.W.Frag} (h : H a = some (.tup xs)) : SqT K H a xs := .inl (.inl h)
theorem Inv.list (I : Inv X pins σ H s) (h : SqL X.K H a xs) : ∃ its : List Value, Vals xs its ∧ PlainL s.heap a its.toArray ∧ xs.length ≤ sizeLine := by
  rcases h with h | ⟨o, its, n, hk, hc, hd, hs, hz, r⟩
  · obtain ⟨z, its, n, r, e⟩ := h.ok I.hok
    exact ⟨its, r, ⟨_, n, e, rfl, rfl, rfl⟩, z⟩
  · refine ⟨its.toList, r, ⟨o, n, I.kIn a o hk, hc, hd, by simpa using hs⟩, ?_⟩
    have e := r.length
    simp only [Array.length_toList] at e
    omega
theorem Inv.tuple (I : Inv X pins σ H s) (h : SqT X.K H a xs) : ∃ its : List Value, Vals xs its ∧ IsTup s.heap a its.toArray ∧ xs.length ≤ sizeLine := by
  rcases h with h | ⟨o, its, n, hk, hc, hs, hz, r⟩
  · obtain ⟨z, its, r, p⟩ := h.ok I.hok
    exact ⟨its, r, p, z⟩
  · refine ⟨its.toList, r, ⟨o, I.kIn a o hk, hc, n, by simpa using hs⟩, ?_⟩
    have e := r.length
    simp only [Array.length_toList] at e
    omega
theorem Inv.list_inj (I : Inv X pins σ H s) (h : SqL X.K H a xs) (h' : SqL X.K H a ys) : xs = ys := by
  obtain ⟨its, r, ⟨o, n, e, _, _, d⟩, _⟩ := I.list h
  obtain ⟨its', r', ⟨o', n', e', _, _, d'⟩, _⟩ := I.list h'
  rw [e] at e'; cases e'
  rw [d] at d'
  injection d' with d1 _
  have : its = its' := by simpa using congrArg Array.toList d1
  subst this
  exact r.inj r'
theorem Inv.tuple_inj (I : Inv X pins σ H s) (h : SqT X.K H a xs) (h' : SqT X.K H a ys) : xs = ys := by
  obtain ⟨its, r, ⟨o, e, _, n, d⟩, _⟩ := I.tuple h
  obtain ⟨its', r', ⟨o', e', _, n', d'⟩, _⟩ := I.tuple h'
  rw [e] at e'; cases e'
  rw [d] at d'
  injection d' with d1 _
  have : its = its' := by simpa using congrArg Array.toList d1
  subst this
  exact r.inj r'
end

/-! ### another wish about exceptions -/
abbrev Cx.wish (X : Cx) (E : Value → Shared → Prop) : Cx := { X with xe := E }
/-- no exception leaves -/
abbrev Cx.nox (X : Cx) : Cx := X.wish fun _ _ => False
theorem Cx.Ok.wish {X : Cx} (ok : X.Ok) (E : Value → Shared → Prop) : (X.wish E).Ok :=
  ⟨ok.mod, ok.kind, ok.glob, ok.blt, ok.above, ok.inj, ok.has, ok.cab, ok.hd, ok.frames, ok.stk, ok.exf, ok.bs, ok.bsz, ok.noex, ok.exfs, ok.funs, ok.frf⟩
theorem Cx.Ok.unwish {X : Cx} {E : Value → Shared → Prop} (ok : (X.wish E).Ok) : X.Ok :=
  ⟨ok.mod, ok.kind, ok.glob, ok.blt, ok.above, ok.inj, ok.has, ok.cab, ok.hd, ok.frames, ok.stk, ok.exf, ok.bs, ok.bsz, ok.noex, ok.exfs, ok.funs, ok.frf⟩
section
variable {X : Cx} {pins : List (Addr × Obj)} {σ : St} {H : Hp} {s : Shared} {E : Value → Shared → Prop}
theorem Inv.wish (I : Inv X pins σ H s) (E : Value → Shared → Prop) : Inv (X.wish E) pins σ H s := ⟨I.ok.wish E, I.os, I.bare, I.base, I.loc, I.cell, I.free, I.freeC, I.pin, I.hok, I.len⟩
theorem Inv.unwish (I : Inv (X.wish E) pins σ H s) : Inv X pins σ H s := ⟨I.ok.unwish, I.os, I.bare, I.base, I.loc, I.cell, I.free, I.freeC, I.pin, I.hok, I.len⟩
theorem SP.unwish {D : Ends} {f : Flow} {s' : Shared} (h : SP (X.wish E) pins D f s') : SP X pins D f s' := by
  cases f with
  | next => obtain ⟨σ', H', I, q⟩ := h; exact ⟨σ', H', I.unwish, q⟩
  | brk => obtain ⟨σ', H', I, q⟩ := h; exact ⟨σ', H', I.unwish, q⟩
  | cont => obtain ⟨σ', H', I, q⟩ := h; exact ⟨σ', H', I.unwish, q⟩
  | ret u => obtain ⟨v, σ', H', I, r, q⟩ := h; exact ⟨v, σ', H', I.unwish, r, q⟩
theorem PSs.nox {st : List Stmt} {t : TS} (h : PSs X.nox st t) : PSs X st t := fun pins s σ H D I hw =>
  wpAny_mono (h pins s σ H D (I.wish _) hw) (fun _ _ q => q.unwish) fun _ _ z => False.elim z
end

/-! ### blocks and small statements -/
section
variable {X : Cx} {st : Stmt} {rest : List Stmt} {t u : TS} {e : Expr} {te : TE} {pos : Pos}
def tNext : TS := fun D σ H => D.nx σ H
def tSeq (t u : TS) : TS := fun D σ H => t { D with nx := u D } σ H
theorem pss_nil : PSs X [] tNext := fun _ _ σ H _ I h => wpAny_execs_nil ⟨σ, H, I, h⟩
theorem pss_cons (h1 : PS X st t) (h2 : PSs X rest u) : PSs X (st :: rest) (tSeq t u) := by
  intro pins s σ H D I h
  refine wpAny_execs_cons (thn (h1 pins s σ H { D with nx := u D } I h) fun f s1 q => ?_)
  cases f with
  | next =>
    obtain ⟨σ', H', I', q⟩ := q
    exact h2 pins s1 σ' H' D I' q
  | ret v => exact q
  | brk => exact q
  | cont => exact q
theorem pss_one (h1 : PS X st t) : PSs X [st] t := by
  intro pins s σ H D I h
  refine wpAny_execs_cons (thn (h1 pins s σ H D I h) fun f s1 q => ?_)
  cases f with
  | next => exact wpAny_execs_nil q
  | ret v => exact q
  | brk => exact q
  | cont => exact q
/-- in a def's body nothing is shown -/
theorem Inv.quiet {pins : List (Addr × Obj)} {σ : St} {H : Hp} {s : Shared} (I : Inv X pins σ H s) : interactive X.env = false := by simp [interactive, I.ok.kind]
/-- an expression whose value is dropped -/
def tDrop (te : TE) : TS := fun D σ H => te σ H fun _ H1 => D.nx σ H1
theorem ps_expr (he : PE X e te) (hs : swapsWith e none pos.line X.env = pure false := by rfl) : PS X (.Expr e pos) (tDrop te) := by
  intro pins s σ H D I h
  exact wpAny_Expr_any (thn (he pins s σ H _ I h) fun v s1 ⟨x, H1, I1, r1, q1⟩ => ⟨σ, H1, I1, q1⟩) I.quiet hs
def tRet (te : TE) : TS := fun D σ H => te σ H D.rt
theorem ps_ret (he : PE X e te) : PS X (.Return (some e) pos) (tRet te) := by
  intro pins s σ H D I h
  exact wpAny_Return_some (thn (he pins s σ H _ I h) fun v s1 ⟨x, H1, I1, r1, q1⟩ => ⟨x, σ, H1, I1, r1, q1⟩)
def tIfS (c : TT) (t u : TS) : TS := fun D σ H => c σ H fun b H1 => if b = true then t D σ H1 else u D σ H1
theorem ps_if {c : Expr} {a b : List Stmt} {tc : TT} (hc : PT X c tc) (ha : PSs X a t) (hb : PSs X b u) : PS X (.If c a b pos) (tIfS tc t u) := by
  intro pins s σ H D I h
  refine wpAny_If (thn (hc pins s σ H _ I h) fun d s1 ⟨H1, I1, q1⟩ => ?_)
  cases d with
  | true => exact ha pins s1 σ H1 D I1 q1
  | false => exact hb pins s1 σ H1 D I1 q1
end

/-! ### targets -/
abbrev TG := V → St → Hp → (St → Hp → Prop) → Prop
abbrev TGs := List V → St → Hp → (St → Hp → Prop) → Prop
def PG (X : Cx) (target : Expr) (t : TG) : Prop :=
  ∀ (pins : List (Addr × Obj)) (s : Shared) (σ : St) (H : Hp) (v : V) (u : Value) (Q : St → Hp → Prop), Inv X pins σ H s → RelV v u → t v σ H Q →
    wpAny (model X.prog X.w) X.A (assign target X.env u) (fun _ s' => ∃ σ' H', Inv X pins σ' H' s' ∧ Q σ' H') X.xe s
/-- several targets, one after another -/
def PGs (X : Cx) (ts : List Expr) (t : TGs) : Prop :=
  ∀ (pins : List (Addr × Obj)) (s : Shared) (σ : St) (H : Hp) (vs : List V) (us : List Value) (Q : St → Hp → Prop), Inv X pins σ H s → Vals vs us → t vs σ H Q →
    wpAny (model X.prog X.w) X.A (assignInOrder ((assignEach ts X.env).map (·.2)) us) (fun _ s' => ∃ σ' H', Inv X pins σ' H' s' ∧ Q σ' H') X.xe s
section
variable {X : Cx} {pos : Pos}
def gName (i : Nat) : TG := fun v σ H Q => Q (σ.set i (some v)) H
theorem pg_name {i : Nat} {x : Str} (hN : X.N.Nodup) (hi : X.N[i]? = some x) (hx : Loc X.env.scope x) (hf : X.fn x = true ∨ X.env.scope.names.lookup x = some .local := by first | exact .inl rfl | exact .inr rfl | assumption) : PG X (.Name x pos) (gName i) := by
  intro pins s σ H v u Q I r h
  exact wpAny_assign_Name (store_ok I hN hi hx r (fun s' I' => ⟨_, H, I', h⟩) hf)
def gNil : TGs := fun vs σ H Q => vs = [] ∧ Q σ H
def gCons (t : TG) (u : TGs) : TGs := fun vs σ H Q => ∃ v r, vs = v :: r ∧ t v σ H fun σ' H' => u r σ' H' Q
theorem pgs_nil : PGs X [] gNil := by
  intro pins s σ H vs us Q I r h
  obtain ⟨e, h⟩ := h
  subst e
  cases r
  exact assignInOrder_nil ⟨σ, H, I, h⟩
theorem pgs_cons {e : Expr} {es : List Expr} {t : TG} {u : TGs} (h1 : PG X e t) (h2 : PGs X es u)
    (hs : (assignEach (e :: es) X.env).map (·.2) = assign e X.env :: (assignEach es X.env).map (·.2) := by rfl) : PGs X (e :: es) (gCons t u) := by
  intro pins s σ H vs us Q I r h
  obtain ⟨v, vr, e1, h⟩ := h
  subst e1
  cases r with
  | cons r rr =>
    rw [hs]
    refine assignInOrder_cons (thn (h1 pins s σ H _ _ _ I r h) fun _ s1 ⟨σ1, H1, I1, q1⟩ => ?_)
    exact h2 pins s1 σ1 H1 _ _ Q I1 rr q1
/-- (a, b, ..) = a tuple of that length -/
def gTup (K : PySem.W.Frag) (n : Nat) (t : TGs) : TG := fun v σ H Q => ∃ a xs, v = .ref a ∧ SqT K H a xs ∧ xs.length = n ∧ t xs σ H Q
theorem pg_tup {es : List Expr} {k : Nat} {t : TGs} {n : Nat} (hc : X.calm = true) (h : PGs X es t)
    (hn : (assignEach es X.env).length = n := by rfl) (hst : (assignEach es X.env).findIdx? (·.1) = none := by rfl) : PG X (.Tuple es k pos) (gTup X.K n t) := by
  intro pins s σ H v u Q I r hw
  obtain ⟨a, xs, e1, hq, hl, hw⟩ := hw
  subst e1
  cases r
  obtain ⟨its, rv, ht, hz⟩ := I.tuple hq
  refine assign_Tuple_tuple (I.ok.hd hc) ht (by simp [hn, ← hl, rv.length]) hst fun h' hx => ?_
  have I1 : Inv X pins σ H { s with heap := h' } := I.kept (t' := s.toks) fun b o e => hx b o (Nat.ne_of_lt (Heap.lt_size e)) e
  exact h pins _ σ H xs _ Q I1 (by simpa using rv) hw
/-- target = value -/
def tAsg (te : TE) (g : TG) : TS := fun D σ H => te σ H fun x H1 => g x σ H1 D.nx
/-- name = value -/
theorem ps_set {i : Nat} {x : Str} {e : Expr} {te : TE} {pos' : Pos} (hN : X.N.Nodup) (hi : X.N[i]? = some x) (hx : Loc X.env.scope x) (he : PE X e te) (hs : swapsWith e (some (.Name x pos')) pos.line X.env = pure false := by rfl) (hf : X.fn x = true ∨ X.env.scope.names.lookup x = some .local := by first | exact .inl rfl | exact .inr rfl | assumption) :
    PS X (.Assign [.Name x pos'] e pos) (tAsg te (gName i)) := by
  intro pins s σ H D I h
  refine wpAny_Assign_Name (thn (he pins s σ H _ I h) fun v s1 ⟨y, H1, I1, r1, q1⟩ => ?_) hs
  exact store_ok I1 hN hi hx r1 (fun s2 I2 => ⟨_, H1, I2, q1⟩) hf
end

/-! ### while -/
section
variable {X : Cx} {pos : Pos}
end

/-! ### what a loop or a comprehension walks -/
/-- at turn i: it yields x (the heap may grow), or it stops -/
structure It where
  go : Nat → Hp → Prop
  yld : Nat → Hp → V → Hp → Prop
  stop : Nat → Hp → Prop
/-- the iterator's own objects may turn: they are not the frame's, not pinned, younger than the entry (or a comprehension's own) -/
def FpOk (X : Cx) (pins : List (Addr × Obj)) (H : Hp) (b : Addr) : Prop :=
  H b = none ∧ b ≠ X.env.locals ∧ b ∉ X.fs ∧ (b ∈ X.ex ∨ X.s_0.heap.objs.size ≤ b) ∧ (∀ x c, X.env.cells.lookup x = some c → c ≠ b) ∧ ∀ p ∈ X.pn ++ pins, p.1 ≠ b
theorem Inv.fpOk {X : Cx} {pins : List (Addr × Obj)} {σ : St} {H H' : Hp} {s : Shared} {b : Addr} (I : Inv X pins σ H s) (hb : s.heap.objs.size ≤ b) (hn : H' b = none) : FpOk X pins H' b := by
  refine ⟨hn, Nat.ne_of_gt (Nat.lt_of_lt_of_le I.lt hb), I.nofs hb, .inr (Nat.le_trans I.sz hb), fun x c e z => ?_, fun p hp z => ?_⟩
  · obtain ⟨v, q⟩ := I.cell x c e
    exact absurd (Nat.lt_of_lt_of_le q.lt (by rw [z]; exact hb)) (Nat.lt_irrefl _)
  · exact absurd (Nat.lt_of_lt_of_le (Heap.lt_size (I.pin p hp).1) (by rw [z]; exact hb)) (Nat.lt_irrefl _)
structure Turn (P : Program) (w : World) (K : PySem.W.Frag) (tg : Expr) (J : It) (fp : List Addr) (it : Addr) (tn : Nat → Heap → Prop) : Prop where
  mem : it ∈ fp
  obj : ∀ i h, tn i h → ∀ b ∈ fp, ∃ o, h.get? b = some o ∧ ∀ v, o.data ≠ .cell v
  keep : ∀ i h h', tn i h → (∀ b ∈ fp, ∀ o, h.get? b = some o → h'.get? b = some o) → tn i h'
  item : ∀ (X : Cx), X.prog = P → X.w = w → X.K = K → X.calm = true → ∀ (i : Nat) (pins : List (Addr × Obj)) (s : Shared) (σ : St) (H : Hp) (E : Value → Shared → Prop), Inv X pins σ H s → (∀ b ∈ fp, FpOk X pins H b) → tn i s.heap → J.go i H →
    wpAny (model P w) X.A (pyNext (.ref it)) (fun r s1 => ∃ u, r = some u ∧
      wpAny (model P w) X.A (letOwnedTupleGo tg (.ref it) u) (fun _ s2 => ∃ x H', Inv X pins σ H' s2 ∧ RelV x u ∧ J.yld i H x H' ∧ tn (i + 1) s2.heap ∧ ∀ b ∈ fp, H' b = none) E s1) E s
  done : ∀ (X : Cx), X.prog = P → X.w = w → X.K = K → X.calm = true → ∀ (i : Nat) (pins : List (Addr × Obj)) (s : Shared) (σ : St) (H : Hp) (E : Value → Shared → Prop), Inv X pins σ H s → (∀ b ∈ fp, FpOk X pins H b) → tn i s.heap → J.stop i H →
    wpAny (model P w) X.A (pyNext (.ref it)) (fun r s1 => r = none ∧ Inv X pins σ H s1) E s
  self : ∀ (A : Around) (i : Nat) (s : Shared) (Q : Value → Shared → Prop) (E : Value → Shared → Prop), tn i s.heap → Q (.ref it) s → wpAny (model P w) A (pyIter (.ref it)) Q E s
abbrev TI := St → Hp → (It → Hp → Prop) → Prop
/-- an iterator has come -/
def PIE (X : Cx) (pins : List (Addr × Obj)) (σ : St) (tg : Expr) (R : It → Hp → Prop) (itv : Value) (s2 : Shared) : Prop :=
  ∃ (it : Addr) (fp : List Addr) (tn : Nat → Heap → Prop) (J : It) (H' : Hp), itv = .ref it ∧ Inv X pins σ H' s2 ∧ Turn X.prog X.w X.K tg J fp it tn ∧ tn 0 s2.heap ∧ (∀ b ∈ fp, FpOk X pins H' b) ∧ R J H'
def PI (X : Cx) (tg iter : Expr) (wi : TI) : Prop :=
  ∀ (pins : List (Addr × Obj)) (s : Shared) (σ : St) (H : Hp) (R : It → Hp → Prop), Inv X pins σ H s → wi σ H R →
    wpAny (model X.prog X.w) X.A (eval iter X.env) (fun v s1 => wpAny (model X.prog X.w) X.A (pyIter v) (PIE X pins σ tg R) X.xe s1) X.xe s

/-- the step ahead of the store is nothing for an iterator that keeps no tuple -/
theorem go_of {M : Model} {A : Around} {E : Value → Shared → Prop} {s : Shared} {tg : Expr} {it : Addr} {u : Value} {o : Obj} {n : String} {vs : Array Value} {Q : Unit → Shared → Prop} (ho : s.heap.get? it = some o) (hc : o.cls = .type n) (hd : o.data = .fields vs)
    (hn : ["enumerate", "zip", "dict_itemiterator", "dict_reverseitemiterator", "odict_iterator", "itertools.zip_longest", "itertools.pairwise"].contains n = false) (hQ : Q () s) : wpAny M A (letOwnedTupleGo tg (.ref it) u) Q E s := by
  unfold letOwnedTupleGo
  cases tg <;> first
    | exact wpAny_pure hQ
    | (cases u <;> first
        | exact wpAny_pure hQ
        | (refine wpAny_bind (wpAny_load ho ?_)
           rw [hc, hd]
           show wpAny M A (if (["enumerate", "zip", "dict_itemiterator", "dict_reverseitemiterator", "odict_iterator", "itertools.zip_longest", "itertools.pairwise"].contains n && vs[0]? == some (rawInt _)) = true then _ else _) Q E s
           rw [if_neg (by intro h; rw [hn, Bool.false_and] at h; cases h)]
           exact wpAny_pure hQ))

/-- the list at a, as it stands at each turn (a loop may append to it) -/
def Itl (K : PySem.W.Frag) (a : Addr) : It :=
  ⟨fun i H => ∃ xs x, SqL K H a xs ∧ xs[i]? = some x, fun i H x H' => H' = H ∧ ∀ xs, SqL K H a xs → xs[i]? = some x, fun i H => ∃ xs, SqL K H a xs ∧ xs.length ≤ i⟩
def Itt (K : PySem.W.Frag) (a : Addr) : It :=
  ⟨fun i H => ∃ xs x, SqT K H a xs ∧ xs[i]? = some x, fun i H x H' => H' = H ∧ ∀ xs, SqT K H a xs → xs[i]? = some x, fun i H => ∃ xs, SqT K H a xs ∧ xs.length ≤ i⟩
/-- lo, lo + 1, .. (n of them) -/
def Itr (lo : Int) (n : Nat) : It := ⟨fun i _ => i < n, fun i H x H' => H' = H ∧ x = .int (lo + i), fun i _ => n ≤ i⟩
theorem turn_list {P : Program} {w : World} {K : PySem.W.Frag} {tg : Expr} (a it : Addr) : Turn P w K tg (Itl K a) [it] it (fun i h => h.IsListIter it a i) where
  mem := by simp
  obj := fun i h st b hb => by
    have e : b = it := by simpa using hb
    subst e
    obtain ⟨o, e, c, d⟩ := st
    exact ⟨o, e, fun v z => by rw [d] at z; cases z⟩
  keep := fun i h h' st k => st.at fun o e => k it (by simp) o e
  item := by
    intro X hP hw hK hc i pins s σ H E I hf st hg
    subst hP hw hK
    obtain ⟨xs, x, hq, hx⟩ := hg
    obtain ⟨its, rv, p, hz⟩ := I.list hq
    obtain ⟨u, hu, ru⟩ := rv.get hx
    obtain ⟨f0, f1, f2, f3, f4, f5⟩ := hf it (by simp)
    refine wpAny_pyNext_list_item st p.isList (x := u) (by simpa using hu) fun h' st' sb => ?_
    have I1 : Inv X pins σ H { s with heap := h' } := I.turned (t' := s.toks) (fun b o hb e => (sb.2 b hb).trans e) f0 f1 f3 f4 f5
    obtain ⟨o, e, c, d⟩ := id st'
    exact ⟨u, rfl, go_of (s := { s with heap := h' }) e c d (by decide) ⟨x, H, I1, ru, ⟨rfl, fun ys hy => by rw [I.list_inj hy hq]; exact hx⟩, st', fun b hb => (hf b hb).1⟩⟩
  done := by
    intro X hP hw hK hc i pins s σ H E I hf st hg
    subst hP hw hK
    obtain ⟨xs, hq, hx⟩ := hg
    obtain ⟨its, rv, p, hz⟩ := I.list hq
    obtain ⟨f0, f1, f2, f3, f4, f5⟩ := hf it (by simp)
    have hl := rv.length
    exact wpAny_pyNext_list_end (I.ok.hd hc) st p.isList (by simp; omega) fun h' eb => ⟨rfl, I.turned (t' := s.toks) (fun b o hb e => eb b o hb e) f0 f1 f3 f4 f5⟩
  self := fun _ _ _ _ _ st h => wpAny_pyIter_listiter st h
theorem turn_tuple {P : Program} {w : World} {K : PySem.W.Frag} {tg : Expr} (a it : Addr) : Turn P w K tg (Itt K a) [it] it (fun i h => h.IsTupleIter it a i) where
  mem := by simp
  obj := fun i h st b hb => by
    have e : b = it := by simpa using hb
    subst e
    obtain ⟨o, e, c, d⟩ := st
    exact ⟨o, e, fun v z => by rw [d] at z; cases z⟩
  keep := fun i h h' st k => st.at fun o e => k it (by simp) o e
  item := by
    intro X hP hw hK hc i pins s σ H E I hf st hg
    subst hP hw hK
    obtain ⟨xs, x, hq, hx⟩ := hg
    obtain ⟨its, rv, p, hz⟩ := I.tuple hq
    obtain ⟨u, hu, ru⟩ := rv.get hx
    obtain ⟨f0, f1, f2, f3, f4, f5⟩ := hf it (by simp)
    refine wpAny_pyNext_tuple_item st (show s.heap.IsTuple a its.toArray from p) (x := u) (by simpa using hu) fun h' st' sb => ?_
    have I1 : Inv X pins σ H { s with heap := h' } := I.turned (t' := s.toks) (fun b o hb e => (sb.2 b hb).trans e) f0 f1 f3 f4 f5
    obtain ⟨o, e, c, d⟩ := id st'
    exact ⟨u, rfl, go_of (s := { s with heap := h' }) e c d (by decide) ⟨x, H, I1, ru, ⟨rfl, fun ys hy => by rw [I.tuple_inj hy hq]; exact hx⟩, st', fun b hb => (hf b hb).1⟩⟩
  done := by
    intro X hP hw hK hc i pins s σ H E I hf st hg
    subst hP hw hK
    obtain ⟨xs, hq, hx⟩ := hg
    obtain ⟨its, rv, p, hz⟩ := I.tuple hq
    obtain ⟨f0, f1, f2, f3, f4, f5⟩ := hf it (by simp)
    have hl := rv.length
    exact wpAny_pyNext_tuple_end (I.ok.hd hc) st (show s.heap.IsTuple a its.toArray from p) (by simp; omega) fun h' eb => ⟨rfl, I.turned (t' := s.toks) (fun b o hb e => eb b o hb e) f0 f1 f3 f4 f5⟩
  self := fun _ _ _ _ _ st h => wpAny_pyIter_tupleiter st h
theorem turn_range {P : Program} {w : World} {K : PySem.W.Frag} {tg : Expr} (it : Addr) (lo : Int) (n : Nat) : Turn P w K tg (Itr lo n) [it] it (fun i h => IsRangeIter h it (lo + (i : Nat) * 1) ((n : Int) - (i : Nat)) 1) where
  mem := by simp
  obj := fun i h st b hb => by
    have e : b = it := by simpa using hb
    subst e
    exact ⟨_, st, fun v z => by
      have z' : Data.fields _ = Data.cell v := z
      cases z'⟩
  keep := fun i h h' st k => k it (by simp) _ st
  item := by
    intro X hP hw hK hc i pins s σ H E I hf st hg
    subst hP hw hK
    obtain ⟨f0, f1, f2, f3, f4, f5⟩ := hf it (by simp)
    have W := Walks.range (prog := X.prog) (w := X.w) (I.ok.hd hc) it lo 1 n
    refine W.item i s _ _ hg st fun v h' tk hv st' kk => ?_
    obtain ⟨t, rfl⟩ := hv
    have I1 : Inv X pins σ H { s with heap := h', toks := tk } := I.turned (fun b o hb e => kk b o (by simpa using hb) e) f0 f1 f3 f4 f5
    refine ⟨_, rfl, go_of (s := { s with heap := h', toks := tk }) (n := "range_iterator") st' rfl rfl (by decide) ⟨.int (lo + i), H, I1, ⟨t, ?_⟩, ⟨rfl, rfl⟩, st', fun b hb => (hf b hb).1⟩⟩
    rw [Int.mul_one]
  done := by
    intro X hP hw hK hc i pins s σ H E I hf st hg
    subst hP hw hK
    obtain ⟨f0, f1, f2, f3, f4, f5⟩ := hf it (by simp)
    exact wpAny_pyNext_range_end (I.ok.hd hc) st (by have : n ≤ i := hg; omega) fun h' eb => ⟨rfl, I.turned (t' := s.toks) (fun b o hb e => eb b o hb e) f0 f1 f3 f4 f5⟩
  self := fun _ _ _ _ _ st h => wpAny_pyIter_rangeiter st h
end L2

namespace L2
open PySem PySem.Spec PyProof.Rows
section
variable {X : Cx} {tg : Expr}
def iList (K : PySem.W.Frag) (tl : TE) : TI := fun σ H R => tl σ H fun x H1 => ∃ a, x = .ref a ∧ (∃ xs, SqL K H1 a xs) ∧ R (Itl K a) H1
def iTup (K : PySem.W.Frag) (tl : TE) : TI := fun σ H R => tl σ H fun x H1 => ∃ a, x = .ref a ∧ (∃ xs, SqT K H1 a xs) ∧ R (Itt K a) H1
theorem pi_list {l : Expr} {tl : TE} (hl : PE X l tl) : PI X tg l (iList X.K tl) := by
  intro pins s σ H R I h
  refine thn (hl pins s σ H _ I h) fun v s1 ⟨x, H1, I1, r1, q1⟩ => ?_
  obtain ⟨a, e, ⟨xs, hq⟩, q⟩ := q1
  subst e
  cases r1
  obtain ⟨its, rv, p, hz⟩ := I1.list hq
  refine wpAny_pyIter_list p.isList ?_
  refine ⟨s1.heap.objs.size, [s1.heap.objs.size], _, _, H1, rfl, I1.kept (t' := s1.toks) fun b o e => Heap.get?_push_of_some _ e, turn_list a _, ⟨_, Heap.get?_push_size _ rfl, rfl, rfl⟩, fun b hb => ?_, q⟩
  have e : b = s1.heap.objs.size := by simpa using hb
  subst e
  exact I1.fpOk (Nat.le_refl _) (I1.hok.fresh (Nat.le_refl _))
theorem pi_tup {l : Expr} {tl : TE} (hl : PE X l tl) : PI X tg l (iTup X.K tl) := by
  intro pins s σ H R I h
  refine thn (hl pins s σ H _ I h) fun v s1 ⟨x, H1, I1, r1, q1⟩ => ?_
  obtain ⟨a, e, ⟨xs, hq⟩, q⟩ := q1
  subst e
  cases r1
  obtain ⟨its, rv, p, hz⟩ := I1.tuple hq
  refine wpAny_pyIter_tuple (show s1.heap.IsTuple a its.toArray from p) ?_
  refine ⟨s1.heap.objs.size, [s1.heap.objs.size], _, _, H1, rfl, I1.kept (t' := s1.toks) fun b o e => Heap.get?_push_of_some _ e, turn_tuple a _, ⟨_, Heap.get?_push_size _ rfl, rfl, rfl⟩, fun b hb => ?_, q⟩
  have e : b = s1.heap.objs.size := by simpa using hb
  subst e
  exact I1.fpOk (Nat.le_refl _) (I1.hok.fresh (Nat.le_refl _))
/-- a range object just made, walked -/
theorem range_it {pins : List (Addr × Obj)} {σ : St} {H : Hp} {s : Shared} {R : It → Hp → Prop} {E : Value → Shared → Prop} {lo hi : Int} {t u v : Tok} {tk : Nat} (I : Inv X pins σ H s) (h1 : -(2 ^ 62) ≤ lo) (h2 : lo < 2 ^ 62) (h3 : -(2 ^ 62) ≤ hi) (h4 : hi < 2 ^ 62)
    (q : R (Itr lo (hi - lo).toNat) H) : wpAny (model X.prog X.w) X.A (pyIter (.ref s.heap.objs.size)) (PIE X pins σ tg R) E { s with heap := s.heap.push { cls := .type "range", data := .fields #[.int lo t, .int hi u, .int 1 v] }, toks := tk } := by
  refine wpAny_pyIter_range (IsRange.new ..) (small_one h1 h2 h3 h4) ?_
  have I1 : Inv X pins σ H { s with heap := s.heap.push { cls := .type "range", data := .fields #[.int lo t, .int hi u, .int 1 v] }, toks := tk } := I.kept fun b o e => Heap.get?_push_of_some _ e
  refine ⟨(s.heap.push { cls := .type "range", data := .fields #[.int lo t, .int hi u, .int 1 v] }).objs.size, [(s.heap.push { cls := .type "range", data := .fields #[.int lo t, .int hi u, .int 1 v] }).objs.size], _, _, H, rfl,
    I1.kept (t' := tk) fun b o e => Heap.get?_push_of_some _ e, turn_range _ lo (hi - lo).toNat, ?_, fun b hb => ?_, q⟩
  · have e1 : lo + ((0 : Nat) : Int) * 1 = lo := by simp
    have e2 : (((hi - lo).toNat : Nat) : Int) - ((0 : Nat) : Int) = Builtin.Range.rangeSize lo hi 1 := by rw [rangeSize_one]; split <;> omega
    show IsRangeIter _ _ (lo + ((0 : Nat) : Int) * 1) ((((hi - lo).toNat : Nat) : Int) - ((0 : Nat) : Int)) 1
    rw [e1, e2]
    exact Heap.get?_push_size _ rfl
  · have e : b = (s.heap.push { cls := .type "range", data := .fields #[.int lo t, .int hi u, .int 1 v] }).objs.size := by simpa using hb
    subst e
    exact I1.fpOk (Nat.le_refl _) (I1.hok.fresh (Nat.le_refl _))
def iRng1 (ta : TA) : TI := fun σ H R => ta σ H fun vs H1 => ∃ j : Int, vs = [.int j] ∧ -(2 ^ 62) ≤ j ∧ j < 2 ^ 62 ∧ R (Itr 0 j.toNat) H1
theorem pi_range1 {a : Expr} {ta : TA} {p pos : Pos} (hg : Gl X "range") (hm : X.mg "range" = none) (ha : PA X [a] ta) (hs : starEach [a] X.env = [(false, eval a X.env)] := by exact stE1 _ _ rfl) : PI X tg (.Call (.Name "range" p) [a] [] pos) (iRng1 ta) := by
  intro pins s σ H R I h
  refine Call_ (ld_blt I hg hm boot_range (PyProof.Rows.callWith_type1 (thn (ha pos pins s σ H _ I h) fun us s1 ⟨vs, H1, I1, r1, q1⟩ => ?_) hs rfl))
  obtain ⟨j, e, q1, q2, q⟩ := q1
  subst e
  cases r1 with
  | cons r rr =>
    cases rr
    obtain ⟨t, rfl⟩ := r
    exact call_range_1 (range_it I1 (by omega) (by omega) q1 q2 (by simpa using q))
/-! ### for -/
/-- W: the invariant by the turn and a measure; N: what the body is to reach -/
def tFor (wi : TI) (g : TG) (tb : TS) : TS := fun D σ H => wi σ H fun J H1 => ∃ W : Nat → Nat → St → Hp → Prop, (∃ m, W 0 m σ H1) ∧ ∀ i m σ H, W i m σ H →
  (J.stop i H ∧ D.nx σ H) ∨ (J.go i H ∧ ∃ N : St → Hp → Prop, (∀ σ' H', N σ' H' → ∃ m', m' < m ∧ W (i + 1) m' σ' H') ∧ ∀ x H', J.yld i H x H' → g x σ H' fun σ2 H2 => tb { D with nx := N, ct := N, bk := D.nx } σ2 H2)
/-- the records at fp as they stand -/
def pinsAt (fp : List Addr) (h : Heap) : List (Addr × Obj) := fp.filterMap fun b => (h.get? b).map fun o => (b, o)
theorem mem_pinsAt {fp : List Addr} {h : Heap} {b : Addr} {o : Obj} (hb : b ∈ fp) (e : h.get? b = some o) : (b, o) ∈ pinsAt fp h := List.mem_filterMap.mpr ⟨b, hb, by rw [e]; rfl⟩
theorem of_pinsAt {fp : List Addr} {h : Heap} {p : Addr × Obj} (hp : p ∈ pinsAt fp h) : p.1 ∈ fp ∧ h.get? p.1 = some p.2 := by
  obtain ⟨b, hb, e⟩ := List.mem_filterMap.mp hp
  cases q : h.get? b with
  | none => rw [q] at e; cases e
  | some o =>
    rw [q] at e
    have e' : (b, o) = p := Option.some.inj e
    subst e'
    exact ⟨hb, q⟩
theorem Inv.pinned {pins : List (Addr × Obj)} {σ : St} {H : Hp} {s : Shared} {fp : List Addr} (I : Inv X pins σ H s) (hf : ∀ b ∈ fp, FpOk X pins H b) (ho : ∀ b ∈ fp, ∃ o, s.heap.get? b = some o ∧ ∀ v, o.data ≠ .cell v) : Inv X (pins ++ pinsAt fp s.heap) σ H s :=
  I.pins_of fun p hp => (List.mem_append.mp hp).elim (fun z => I.pin p (List.mem_append_right _ z)) fun z => by
    obtain ⟨hb, e⟩ := of_pinsAt z
    obtain ⟨f0, f1, f2, _⟩ := hf p.1 hb
    obtain ⟨o, e', d⟩ := ho p.1 hb
    rw [e] at e'; cases e'
    exact ⟨e, f0, f1, f2, d⟩
theorem Inv.unpinned {pins pl : List (Addr × Obj)} {σ : St} {H : Hp} {s : Shared} (I : Inv X (pins ++ pl) σ H s) : Inv X pins σ H s := I.pins_of fun p hp => I.pin p (List.mem_append_right _ (List.mem_append_left _ hp))
theorem ps_for {iter : Expr} {body : List Stmt} {wi : TI} {g : TG} {tb : TS} {pos : Pos} (hp : PassesOwn (model X.prog X.w) X.A X.env X.xe) (hc : X.calm = true) (hi : PI X tg iter wi) (hg : PG X tg g) (hb : PSs X body tb)
    (hs : ∀ x, foldedSetIterable iter X.env x = pure x := by intro _; rfl) : PS X (.For tg iter body [] pos) (tFor wi g tb) := by
  intro pins s σ H D I h
  refine wpAny_For (thn (hi pins s σ H _ I h) fun v s1 h1 => thn h1 fun itv s2 h2 => ?_) hs
  obtain ⟨it, fp, tn, J, H2, e, I2, T, st2, f2, W, ⟨m0, w0⟩, turn⟩ := h2
  subst e
  -- what stays true of the iterator's objects through the loop
  have stat : ∀ {H' : Hp}, (∀ b ∈ fp, H' b = none) → ∀ b ∈ fp, FpOk X pins H' b := fun hn b hb => ⟨hn b hb, (f2 b hb).2⟩
  refine codeAny_forLoop_any (fun n s' => ∃ i σ' H', Inv X pins σ' H' s' ∧ tn i s'.heap ∧ (∀ b ∈ fp, H' b = none) ∧ W i n σ' H') ?_ m0 ⟨0, σ, H2, I2, st2, fun b hb => (f2 b hb).1, w0⟩
  rintro n s3 ⟨i, σ3, H3, I3, st3, fr3, w3⟩
  rcases turn i n σ3 H3 w3 with ⟨stop, qn⟩ | ⟨go, N, hN, step⟩
  · refine wpAny_passesOwn hp (thn (T.done X rfl rfl rfl hc i pins s3 σ3 H3 X.xe I3 (stat fr3) st3 stop) fun r s4 ⟨hr, I4⟩ => ?_)
    subst hr
    exact wpAny_execs_nil ⟨σ3, H3, I4, qn⟩
  · refine wpAny_passesOwn hp (thn (T.item X rfl rfl rfl hc i pins s3 σ3 H3 X.xe I3 (stat fr3) st3 go) fun r s4 ⟨u, hr, h4⟩ => ?_)
    subst hr
    refine wpAny_passesOwn hp (thn h4 fun _ s5 ⟨x, H5, I5, r5, y5, st5, fr5⟩ => ?_)
    have I5' := I5.pinned (stat fr5) (T.obj _ _ st5)
    refine wpAny_passesOwn hp (thn (hg _ s5 σ3 H5 x u _ I5' r5 (step x H5 y5)) fun _ s6 ⟨σ6, H6, I6, q6⟩ => ?_)
    refine wpAny_passesOwn hp (thn (hb _ s6 σ6 H6 _ I6 q6) fun f s7 q7 => ?_)
    have again : ∀ {σ7 : St} {H7 : Hp}, Inv X (pins ++ pinsAt fp s5.heap) σ7 H7 s7 → N σ7 H7 → ∃ m, m < n ∧ ∃ i σ' H', Inv X pins σ' H' s7 ∧ tn i s7.heap ∧ (∀ b ∈ fp, H' b = none) ∧ W i m σ' H' := fun {σ7 H7} I7 n7 => by
      obtain ⟨m', hm, w7⟩ := hN σ7 H7 n7
      refine ⟨m', hm, i + 1, σ7, H7, I7.unpinned, T.keep _ _ _ st5 fun b hb o e => (I7.pin (b, o) (List.mem_append_right _ (List.mem_append_right _ (mem_pinsAt hb e)))).1, fun b hb => ?_, w7⟩
      obtain ⟨o, e, d⟩ := T.obj _ _ st5 b hb
      exact (I7.pin (b, o) (List.mem_append_right _ (List.mem_append_right _ (mem_pinsAt hb e)))).2.1
    cases f with
    | next => obtain ⟨σ7, H7, I7, n7⟩ := q7; exact again I7 n7
    | cont => obtain ⟨σ7, H7, I7, n7⟩ := q7; exact again I7 n7
    | brk => obtain ⟨σ7, H7, I7, q7⟩ := q7; exact ⟨σ7, H7, I7.unpinned, q7⟩
    | ret v => obtain ⟨x7, σ7, H7, I7, r7, q7⟩ := q7; exact ⟨x7, σ7, H7, I7.unpinned, r7, q7⟩
end

/-! ### the forms one uses -/
end L2

namespace L2
open PySem PySem.Spec PyProof.Rows

abbrev R2 := V → V → Hp → VK → Prop
/-- a two-place operation on values: f is binaryOp op, inplaceOp op or compareOp op -/
def OpR (X : Cx) (f : Value → Value → Sem Value) (r : R2) : Prop :=
  ∀ (pins : List (Addr × Obj)) (s : Shared) (σ : St) (H : Hp) (x y : V) (v u : Value) (Q : VK), Inv X pins σ H s → RelV x v → RelV y u → r x y H Q →
    wpAny (model X.prog X.w) X.A (f v u) (EP X pins σ Q) X.xe s
/-- a one-place operation -/
def UnR (X : Cx) (f : Value → Sem Value) (r : V → Hp → VK → Prop) : Prop :=
  ∀ (pins : List (Addr × Obj)) (s : Shared) (σ : St) (H : Hp) (x : V) (v : Value) (Q : VK), Inv X pins σ H s → RelV x v → r x H Q →
    wpAny (model X.prog X.w) X.A (f v) (EP X pins σ Q) X.xe s
/-- a call of a value that is known (a builtin, a type) with values -/
def CallR (X : Cx) (f : Value) (r : List V → Hp → VK → Prop) : Prop :=
  ∀ (pins : List (Addr × Obj)) (s : Shared) (σ : St) (H : Hp) (xs : List V) (us : List Value) (Q : VK), Inv X pins σ H s → Vals xs us → r xs H Q →
    wpAny (model X.prog X.w) X.A (call f us) (EP X pins σ Q) X.xe s
/-- a value's truth -/
def TruR (X : Cx) (r : V → Hp → (Bool → Hp → Prop) → Prop) : Prop :=
  ∀ (pins : List (Addr × Obj)) (s : Shared) (σ : St) (H : Hp) (x : V) (v : Value) (Q : Bool → Hp → Prop), Inv X pins σ H s → RelV x v → r x H Q →
    wpAny (model X.prog X.w) X.A (truthy v) (TP X pins σ Q) X.xe s

def tOp (r : R2) (ta tb : TE) : TE := fun σ H Q => ta σ H fun x H1 => tb σ H1 fun y H2 => r x y H2 Q
def tUn (r : V → Hp → VK → Prop) (ta : TE) : TE := fun σ H Q => ta σ H fun x H1 => r x H1 Q
/-- ints in, under C, and a value out -/
def rI (C : Int → Int → Prop) (g : Int → Int → V) : R2 := fun x y H Q => ∃ i j, x = .int i ∧ y = .int j ∧ C i j ∧ Q (g i j) H
def rI0 (g : Int → Int → V) : R2 := fun x y H Q => ∃ i j, x = .int i ∧ y = .int j ∧ Q (g i j) H
def rU (g : Int → V) : V → Hp → VK → Prop := fun x H Q => ∃ i, x = .int i ∧ Q (g i) H

section
variable {X : Cx} {a b c : Expr} {ta tb tc : TE} {pos : Pos}

theorem binT (ha : PE X a ta) (hb : PE X b tb) {pins : List (Addr × Obj)} {s : Shared} {σ : St} {H : Hp} {R : V → V → Hp → Prop} (I : Inv X pins σ H s)
    (h : ta σ H fun x H1 => tb σ H1 fun y H2 => R x y H2) {Q : Value → Shared → Prop} {f : Value → Value → Sem Value}
    (hf : ∀ v u s2 x y H2, Inv X pins σ H2 s2 → RelV x v → RelV y u → R x y H2 → wpAny (model X.prog X.w) X.A (f v u) Q X.xe s2) :
    wpAny (model X.prog X.w) X.A (eval a X.env) (fun v s₁ => wpAny (model X.prog X.w) X.A (eval b X.env) (fun u s₂ => wpAny (model X.prog X.w) X.A (f v u) Q X.xe s₂) X.xe s₁) X.xe s := by
  refine thn (ha pins s σ H _ I h) fun v s1 ⟨x, H1, I1, r1, q1⟩ => ?_
  refine thn (hb pins s1 σ H1 _ I1 q1) fun u s2 ⟨y, H2, I2, r2, q2⟩ => ?_
  exact hf v u s2 x y H2 I2 r1 r2 q2

theorem pe_op {op : Operator} {r : R2} (ho : OpR X (binaryOp op) r) (ha : PE X a ta) (hb : PE X b tb) : PE X (.BinOp a op b pos) (tOp r ta tb) := by
  intro pins s σ H Q I h
  exact wpAny_BinOp (binT ha hb I h fun v u s2 x y H2 I2 rx ry q => ho pins s2 σ H2 x y v u Q I2 rx ry q)
theorem pe_un {op : UnaryOp} {r : V → Hp → VK → Prop} (ho : UnR X (unaryOp op) r) (ha : PE X a ta) : PE X (.UnaryOp op a pos) (tUn r ta) := by
  intro pins s σ H Q I h
  exact UnaryOp_ (thn (ha pins s σ H _ I h) fun v s1 ⟨x, H1, I1, r1, q1⟩ => ho pins s1 σ H1 x v Q I1 r1 q1)
/-! ### ints -/
theorem opI {f : Value → Value → Sem Value} {C : Int → Int → Prop} {g : Int → Int → Int}
    (rule : ∀ (i j : Int) (t u : Tok) (s : Shared) (Q : Value → Shared → Prop) (E : Value → Shared → Prop), C i j → Q (.int (g i j) s.toks) { s with toks := s.toks + 1 } → wpAny (model X.prog X.w) X.A (f (.int i t) (.int j u)) Q E s) :
    OpR X f (rI C fun i j => .int (g i j)) := by
  intro pins s σ H x y v u Q I rx ry h
  obtain ⟨i, j, rfl, rfl, hc, q⟩ := h
  obtain ⟨t, rfl⟩ := rx
  obtain ⟨t', rfl⟩ := ry
  exact rule i j t t' s _ _ hc ⟨.int (g i j), H, I.tok _, ⟨_, rfl⟩, q⟩
theorem opI0 {f : Value → Value → Sem Value} {g : Int → Int → Int}
    (rule : ∀ (i j : Int) (t u : Tok) (s : Shared) (Q : Value → Shared → Prop) (E : Value → Shared → Prop), Q (.int (g i j) s.toks) { s with toks := s.toks + 1 } → wpAny (model X.prog X.w) X.A (f (.int i t) (.int j u)) Q E s) :
    OpR X f (rI0 fun i j => .int (g i j)) := by
  intro pins s σ H x y v u Q I rx ry h
  obtain ⟨i, j, rfl, rfl, q⟩ := h
  obtain ⟨t, rfl⟩ := rx
  obtain ⟨t', rfl⟩ := ry
  exact rule i j t t' s _ _ ⟨.int (g i j), H, I.tok _, ⟨_, rfl⟩, q⟩
theorem opB0 {f : Value → Value → Sem Value} {g : Int → Int → Bool}
    (rule : ∀ (i j : Int) (t u : Tok) (s : Shared) (Q : Value → Shared → Prop) (E : Value → Shared → Prop), Q (.bool (g i j)) s → wpAny (model X.prog X.w) X.A (f (.int i t) (.int j u)) Q E s) :
    OpR X f (rI0 fun i j => .bl (g i j)) := by
  intro pins s σ H x y v u Q I rx ry h
  obtain ⟨i, j, rfl, rfl, q⟩ := h
  obtain ⟨t, rfl⟩ := rx
  obtain ⟨t', rfl⟩ := ry
  exact rule i j t t' s _ _ ⟨.bl (g i j), H, I, rfl, q⟩

def CDiv (i j : Int) : Prop := 0 < j ∧ j < 1073741824
def CPow (i j : Int) : Prop := 0 ≤ j ∧ j ≤ 1000000 ∧ i.natAbs < 2 ^ 64
def CMul (i j : Int) : Prop := (-(2 ^ 64) < i ∧ i < 2 ^ 64) ∨ (-(2 ^ 64) < j ∧ j < 2 ^ 64)
theorem CMul.ok {i j : Int} (h : CMul i j) : IntMulOk i j := by
  rcases h with ⟨h1, h2⟩ | ⟨h1, h2⟩
  · exact .of_left (intBits_le_64 h1 h2)
  · exact .of_right (intBits_le_64 h1 h2)
theorem op_add : OpR X (binaryOp .Add) (rI0 fun i j => .int (i + j)) := opI0 fun _ _ _ _ _ _ _ q => add_int q
theorem op_sub : OpR X (binaryOp .Sub) (rI0 fun i j => .int (i - j)) := opI0 fun _ _ _ _ _ _ _ q => sub_int q
theorem op_mul : OpR X (binaryOp .Mult) (rI CMul fun i j => .int (i * j)) := opI fun _ _ _ _ _ _ _ hc q => mul_int q hc.ok
/-- // by a positive divisor -/
theorem op_fdiv : OpR X (binaryOp .FloorDiv) (rI CDiv fun i j => .int (i / j)) := opI fun i j _ _ _ _ _ hc q => by
  have h1 : (0 : Int) < j := hc.1
  have h2 : j < 1073741824 := hc.2
  exact floordiv_int (by omega) (by rw [Int.fdiv_eq_ediv_of_nonneg i (by omega)]; exact q) (.inl (PyProof.noPylong_small (by omega)))
/-- % by a positive divisor of any size -/
theorem op_mod : OpR X (binaryOp .Mod) (rI (fun _ j => 0 < j) fun i j => .int (i % j)) := opI fun i j _ _ _ _ _ hc q => by
  have h1 : (0 : Int) < j := hc
  exact mod_int' (by omega) (by rw [Int.fmod_eq_emod_of_nonneg i (by omega)]; exact q)
theorem op_pow : OpR X (binaryOp .Pow) (rI CPow fun i j => .int (i ^ j.toNat)) := opI fun _ _ _ _ _ _ _ hc q => pow_int_small hc.1 hc.2.1 hc.2.2 q
theorem unI {f : Value → Sem Value} {g : Int → Int}
    (rule : ∀ (i : Int) (t : Tok) (s : Shared) (Q : Value → Shared → Prop) (E : Value → Shared → Prop), Q (.int (g i) s.toks) { s with toks := s.toks + 1 } → wpAny (model X.prog X.w) X.A (f (.int i t)) Q E s) :
    UnR X f (rU fun i => .int (g i)) := by
  intro pins s σ H x v Q I rx h
  obtain ⟨i, rfl, q⟩ := h
  obtain ⟨t, rfl⟩ := rx
  exact rule i t s _ _ ⟨.int (g i), H, I.tok _, ⟨_, rfl⟩, q⟩
theorem un_neg : UnR X (unaryOp .USub) (rU fun i => .int (-i)) := unI fun _ _ _ _ _ q => neg_int q
/-! ### bools among ints: n += (a < b) -/
end

/-! ### comparisons -/
/-- the scalars that == tells apart as data does -/
def scal : V → V → Bool
  | .non, .non => true | .non, .int _ => true | .int _, .non => true | .non, .bl _ => true | .bl _, .non => true | .non, .str _ => true | .str _, .non => true
  | .int _, .int _ => true | .bl _, .bl _ => true | .str _, .str _ => true | .byt _, .byt _ => true
  | .int _, .str _ => true | .str _, .int _ => true | .bl _, .str _ => true | .str _, .bl _ => true
  | _, _ => false
def rEq : R2 := fun x y H Q => scal x y = true ∧ Q (.bl (decide (x = y))) H
def rNe : R2 := fun x y H Q => scal x y = true ∧ Q (.bl (!decide (x = y))) H

theorem dec_int {i j : Int} : decide (V.int i = V.int j) = (i == j) := by
  rw [Bool.eq_iff_iff]
  simp
theorem dec_bl {i j : Bool} : decide (V.bl i = V.bl j) = (i == j) := by
  rw [Bool.eq_iff_iff]
  simp
theorem dec_str {i j : Str} : decide (V.str i = V.str j) = (i == j) := by
  rw [Bool.eq_iff_iff]
  simp
theorem dec_byt {i j : Array UInt8} : decide (V.byt i = V.byt j) = (i.toList == j.toList) := by
  rw [Bool.eq_iff_iff]
  cases i
  cases j
  simp

section
variable {X : Cx} {a b c : Expr} {ta tb tc : TE} {pos : Pos}
theorem fin_bl {pins : List (Addr × Obj)} {σ : St} {H : Hp} {s : Shared} {Q : VK} {k k' : Bool} (I : Inv X pins σ H s) (q : Q (.bl k) H) (e : k = k') : EP X pins σ Q (.bool k') s := by
  subst e
  exact ⟨.bl k, H, I, rfl, q⟩
theorem op_eq : OpR X (compareOp .Eq) rEq := by
  intro pins s σ H x y v u Q I rx ry h
  obtain ⟨hs, q⟩ := h
  cases x with
  | non =>
    cases rx
    cases y with
    | non => cases ry; exact PySem.EqNone.eq_none_none (fin_bl I q (by simp))
    | bl j => cases ry; exact PySem.EqNone.eq_none_bool (fin_bl I q (by simp))
    | int j => obtain ⟨t', rfl⟩ := ry; exact PySem.EqNone.eq_none_int (fin_bl I q (by simp))
    | str j => obtain ⟨t', rfl⟩ := ry; exact PySem.EqNone.eq_none_str (fin_bl I q (by simp))
    | _ => exact absurd (show false = true from hs) Bool.false_ne_true
  | bl i =>
    cases rx
    cases y with
    | non => cases ry; exact PySem.EqNone.eq_bool_none (fin_bl I q (by simp))
    | bl j => cases ry; exact eq_bool (fin_bl I q dec_bl)
    | str j => obtain ⟨t', rfl⟩ := ry; exact PySem.EqMixed.eq_bool_str (fin_bl I q (by simp))
    | _ => exact absurd (show false = true from hs) Bool.false_ne_true
  | int i =>
    obtain ⟨t, rfl⟩ := rx
    cases y with
    | non => cases ry; exact PySem.EqNone.eq_int_none (fin_bl I q (by simp))
    | int j => obtain ⟨t', rfl⟩ := ry; exact eq_int (fin_bl I q dec_int)
    | str j => obtain ⟨t', rfl⟩ := ry; exact PySem.EqMixed.eq_int_str (fin_bl I q (by simp))
    | _ => exact absurd (show false = true from hs) Bool.false_ne_true
  | str i =>
    obtain ⟨t, rfl⟩ := rx
    cases y with
    | non => cases ry; exact PySem.EqNone.eq_str_none (fin_bl I q (by simp))
    | bl j => cases ry; exact PySem.EqMixed.eq_str_bool (fin_bl I q (by simp))
    | int j => obtain ⟨t', rfl⟩ := ry; exact PySem.EqMixed.eq_str_int (fin_bl I q (by simp))
    | str j => obtain ⟨t', rfl⟩ := ry; exact eq_str (fin_bl I q dec_str)
    | _ => exact absurd (show false = true from hs) Bool.false_ne_true
  | byt i =>
    obtain ⟨t, rfl⟩ := rx
    cases y with
    | byt j => obtain ⟨t', rfl⟩ := ry; exact PySem.W.eq_bytes (fin_bl I q dec_byt)
    | _ => exact absurd (show false = true from hs) Bool.false_ne_true
  | _ => cases y <;> exact absurd (show false = true from hs) Bool.false_ne_true
theorem op_ne : OpR X (compareOp .NotEq) rNe := by
  intro pins s σ H x y v u Q I rx ry h
  obtain ⟨hs, q⟩ := h
  cases x with
  | non =>
    cases rx
    cases y with
    | non => cases ry; exact PySem.EqNone.ne_none_none (fin_bl I q (by simp))
    | bl j => cases ry; exact PySem.EqNone.ne_none_bool (fin_bl I q (by simp))
    | int j => obtain ⟨t', rfl⟩ := ry; exact PySem.EqNone.ne_none_int (fin_bl I q (by simp))
    | str j => obtain ⟨t', rfl⟩ := ry; exact PySem.EqNone.ne_none_str (fin_bl I q (by simp))
    | _ => exact absurd (show false = true from hs) Bool.false_ne_true
  | bl i =>
    cases rx
    cases y with
    | non => cases ry; exact PySem.EqNone.ne_bool_none (fin_bl I q (by simp))
    | bl j => cases ry; exact ne_bool (fin_bl I q (congrArg not dec_bl))
    | str j => obtain ⟨t', rfl⟩ := ry; exact PySem.EqMixed.ne_bool_str (fin_bl I q (by simp))
    | _ => exact absurd (show false = true from hs) Bool.false_ne_true
  | int i =>
    obtain ⟨t, rfl⟩ := rx
    cases y with
    | non => cases ry; exact PySem.EqNone.ne_int_none (fin_bl I q (by simp))
    | int j => obtain ⟨t', rfl⟩ := ry; exact ne_int (fin_bl I q (congrArg not dec_int))
    | str j => obtain ⟨t', rfl⟩ := ry; exact PySem.EqMixed.ne_int_str (fin_bl I q (by simp))
    | _ => exact absurd (show false = true from hs) Bool.false_ne_true
  | str i =>
    obtain ⟨t, rfl⟩ := rx
    cases y with
    | non => cases ry; exact PySem.EqNone.ne_str_none (fin_bl I q (by simp))
    | bl j => cases ry; exact PySem.EqMixed.ne_str_bool (fin_bl I q (by simp))
    | int j => obtain ⟨t', rfl⟩ := ry; exact PySem.EqMixed.ne_str_int (fin_bl I q (by simp))
    | str j => obtain ⟨t', rfl⟩ := ry; exact ne_str (fin_bl I q (congrArg not dec_str))
    | _ => exact absurd (show false = true from hs) Bool.false_ne_true
  | byt i =>
    obtain ⟨t, rfl⟩ := rx
    cases y with
    | byt j => obtain ⟨t', rfl⟩ := ry; exact PySem.W.ne_bytes (fin_bl I q (congrArg not dec_byt))
    | _ => exact absurd (show false = true from hs) Bool.false_ne_true
  | _ => cases y <;> exact absurd (show false = true from hs) Bool.false_ne_true

theorem op_lt : OpR X (compareOp .Lt) (rI0 fun i j => .bl (decide (i < j))) := opB0 fun _ _ _ _ _ _ _ q => lt_int q
theorem op_gt : OpR X (compareOp .Gt) (rI0 fun i j => .bl (decide (j < i))) := opB0 fun _ _ _ _ _ _ _ q => gt_int q
theorem op_ge : OpR X (compareOp .GtE) (rI0 fun i j => .bl (decide (j ≤ i))) := opB0 fun _ _ _ _ _ _ _ q => ge_int q
theorem op_lt_str : OpR X (compareOp .Lt) (fun x y H Q => ∃ i j, x = .str i ∧ y = .str j ∧ Q (.bl (decide (i.cps.toList < j.cps.toList))) H) := by
  intro pins s σ H x y v u Q I rx ry h
  obtain ⟨i, j, rfl, rfl, q⟩ := h
  obtain ⟨t, rfl⟩ := rx
  obtain ⟨t', rfl⟩ := ry
  exact lt_str (fin_bl I q rfl)
/-- the one string within the other -/
theorem op_in_str : OpR X (compareOp .In) (fun x y H Q => ∃ i j, x = .str i ∧ y = .str j ∧ Q (.bl (!(Builtin.Str.occurrences j i 0 j.length 1).isEmpty)) H) := by
  intro pins s σ H x y v u Q I rx ry h
  obtain ⟨i, j, rfl, rfl, q⟩ := h
  obtain ⟨t, rfl⟩ := rx
  obtain ⟨t', rfl⟩ := ry
  exact in_str (fin_bl I q rfl)

theorem op_notN : OpR X (compareOp .IsNot) (fun x y H Q => y = .non ∧ Q (.bl (!decide (x = .non))) H) := by
  intro pins s σ H x y v u Q I rx ry h
  obtain ⟨rfl, q⟩ := h
  cases ry
  refine isnot_none_gen (fin_bl I q ?_)
  cases x <;> first
    | (cases rx; rfl)
    | (obtain ⟨t, rfl⟩ := rx; rfl)

/-- a comparison as a value; hm: nomark b, or (for in, not in) by with_unfolding_all rfl -/
theorem pe_cmpR {op : CmpOp} {r : R2} (ho : OpR X (compareOp op) r) (ha : PE X a ta) (hb : PE X b tb) (hm : behindInMarks op b = false) : PE X (.Compare a [op] [b] pos) (tOp r ta tb) := by
  intro pins s σ H Q I h
  exact wpAny_Compare1 (binT ha hb I h fun v u s2 x y H2 I2 rx ry q => ho pins s2 σ H2 x y v u Q I2 rx ry q) hm
/-- a reading of a value as a test -/
def tTest (t : TE) : TT := fun σ H Q => t σ H fun x H' => ∃ k, x = .bl k ∧ Q k H'
theorem pt_cmpR {op : CmpOp} {r : R2} (ho : OpR X (compareOp op) r) (ha : PE X a ta) (hb : PE X b tb) (hm : behindInMarks op b = false) : PT X (.Compare a [op] [b] pos) (tTest (tOp r ta tb)) := by
  intro pins s σ H Q I h
  refine wpAny_isTrue_Compare1 (thn (ha pins s σ H _ I h) fun v s1 ⟨x, H1, I1, r1, q1⟩ => thn (hb pins s1 σ H1 _ I1 q1) fun u s2 ⟨y, H2, I2, r2, q2⟩ =>
    thn (ho pins s2 σ H2 x y v u _ I2 r1 r2 q2) fun c s3 ⟨z, H3, I3, r3, k, e, q3⟩ => ?_) hm
  subst e
  cases r3
  exact wpAny_truthy_bool ⟨H3, I3, q3⟩
/-! ### truth -/
/-- a value's truth by the abstract heap -/
def TruV (K : PySem.W.Frag) (x : V) (H : Hp) (k : Bool) : Prop :=
  match x with
  | .non => k = false
  | .bl b => k = b
  | .int i => k = (i != 0)
  | .str y => y.length ≤ sizeLine ∧ k = ((y.length : Int) != 0)
  | .byt y => y.size ≤ sizeLine ∧ k = ((y.size : Int) != 0)
  | .ref p => (∃ xs, SqL K H p xs ∧ k = !xs.isEmpty) ∨ (∃ xs, SqT K H p xs ∧ k = !xs.isEmpty) ∨ ∃ kvs, Rd H p (.dK kvs) ∧ k = !kvs.isEmpty
  | _ => False
theorem isEmpty_kv {κ : Type} {kvs : List (κ × V)} {vs : List (κ × Value)} (r : KV kvs vs) : (!vs.isEmpty) = !kvs.isEmpty := by
  cases r <;> rfl
theorem isEmpty_of {xs : List V} {its : List Value} (r : Vals xs its) : (!its.toArray.isEmpty) = !xs.isEmpty := by
  cases r <;> simp
theorem line63 : (sizeLine : Nat) < 2 ^ 63 := by rw [sizeLine_eq]; decide
theorem tru_ok : TruR X (fun x H Q => ∃ k, TruV X.K x H k ∧ Q k H) := by
  intro pins s σ H x v Q I rx h
  obtain ⟨k, e, q⟩ := h
  have hl := line63
  have hs : sizeLine = 16777216 := sizeLine_eq
  cases x with
  | non =>
    cases rx
    have e' : k = false := e
    subst e'
    exact truthy_none ⟨H, I, q⟩
  | bl b =>
    cases rx
    have e' : k = b := e
    subst e'
    exact wpAny_truthy_bool ⟨H, I, q⟩
  | int i =>
    obtain ⟨t, rfl⟩ := rx
    have e' : k = (i != 0) := e
    subst e'
    exact PySem.P.truthy_int ⟨H, I, q⟩
  | str y =>
    obtain ⟨t, rfl⟩ := rx
    obtain ⟨hy, e'⟩ : y.length ≤ sizeLine ∧ k = ((y.length : Int) != 0) := e
    subst e'
    exact PySem.P.truthy_str (by omega) ⟨H, I.tok _, q⟩
  | byt y =>
    obtain ⟨t, rfl⟩ := rx
    obtain ⟨hy, e'⟩ : y.size ≤ sizeLine ∧ k = ((y.size : Int) != 0) := e
    subst e'
    exact PySem.W.truthy_bytes (by omega) ⟨H, I.tok _, q⟩
  | ref p =>
    cases rx
    have e' : (∃ xs, SqL X.K H p xs ∧ k = !xs.isEmpty) ∨ (∃ xs, SqT X.K H p xs ∧ k = !xs.isEmpty) ∨ ∃ kvs, Rd H p (.dK kvs) ∧ k = !kvs.isEmpty := e
    rcases e' with ⟨xs, hx, e'⟩ | ⟨xs, hx, e'⟩ | ⟨kvs, hx, e'⟩
    · subst e'
      obtain ⟨its, r, pl, hz⟩ := I.list hx
      have hlen := r.length
      exact wpAny_truthy_list pl.isList (by simp only [List.size_toArray]; omega) ⟨H, I.tok _, by rw [isEmpty_of r]; exact q⟩
    · subst e'
      obtain ⟨its, r, pl, hz⟩ := I.tuple hx
      have hlen := r.length
      exact truthy_tuple pl (by simp only [List.size_toArray]; omega) ⟨H, I.tok _, by rw [isEmpty_of r]; exact q⟩
    · subst e'
      obtain ⟨hz, hS, vs, r, m⟩ : kvs.length ≤ sizeLine ∧ (p == sysModules) = false ∧ ∃ vs, KV kvs vs ∧ s.heap.DictOf (mixKind X.prog X.w) p vs := (show ObjOk X.prog X.w H s.heap p (.dK kvs) from hx.ok I.hok)
      have hlen : kvs.length = vs.length := Paired.length r
      exact wpAny_truthy_dict hS m (by omega) ⟨H, I.tok _, by rw [isEmpty_kv r]; exact q⟩
  | _ => exact (show False from e).elim
/-- any expression whose test is its value's truth (a name, a call, a subscript, a field ..: he by fun _ => rfl) -/
theorem pt_truth (ha : PE X a ta) (he : ∀ whole, isTrue a X.env whole = (do let v ← whole; standAt a.pos; holding [v] (truthy v))) :
    PT X a (fun σ H Q => ta σ H fun x H' => ∃ k, TruV X.K x H' k ∧ Q k H') := by
  intro pins s σ H Q I h
  exact isTrue_plain (thn (ha pins s σ H _ I h) fun v s1 ⟨x, H1, I1, r1, q1⟩ => tru_ok pins s1 σ H1 x v Q I1 r1 q1) (he _)

/-! ### strs and bytes -/
theorem op_add_str : OpR X (binaryOp .Add) (fun x y H Q => ∃ i j, x = .str i ∧ y = .str j ∧ i.length + j.length ≤ sizeLine ∧ Q (.str (i ++ j)) H) := by
  intro pins s σ H x y v u Q I rx ry h
  obtain ⟨i, j, rfl, rfl, hz, q⟩ := h
  obtain ⟨t, rfl⟩ := rx
  obtain ⟨t', rfl⟩ := ry
  exact add_str (fun t' tk => ⟨.str (i ++ j), H, I.tok _, ⟨_, rfl⟩, q⟩) hz
/-! ### scalar builtins, by CallR -/
theorem vals1 {x : V} {us : List Value} (r : Vals [x] us) : ∃ u, us = [u] ∧ RelV x u := by
  cases r with
  | cons r1 r2 => cases r2; exact ⟨_, rfl, r1⟩
theorem vals2 {x y : V} {us : List Value} (r : Vals [x, y] us) : ∃ u w', us = [u, w'] ∧ RelV x u ∧ RelV y w' := by
  cases r with
  | cons r1 r2 =>
    cases r2 with
    | cons r3 r4 => cases r4; exact ⟨_, _, rfl, r1, r3⟩
theorem call_abs : CallR X (.builtin "abs") (fun xs H Q => ∃ i, xs = [.int i] ∧ Q (.int (if i < 0 then -i else i)) H) := by
  intro pins s σ H xs us Q I r h
  obtain ⟨i, rfl, q⟩ := h
  obtain ⟨u, rfl, t, rfl⟩ := vals1 r
  exact call_abs_int fun u tk => ⟨.int (if i < 0 then -i else i), H, I.tok _, ⟨_, rfl⟩, q⟩
theorem call_int1 : CallR X (.type "int") (fun xs H Q => (∃ i, xs = [.int i] ∧ Q (.int i) H) ∨ ∃ k, xs = [.bl k] ∧ Q (.int (if k then 1 else 0)) H) := by
  intro pins s σ H xs us Q I r h
  rcases h with ⟨i, rfl, q⟩ | ⟨k, rfl, q⟩
  · obtain ⟨u, rfl, t, rfl⟩ := vals1 r
    exact call_int_int ⟨.int i, H, I, ⟨_, rfl⟩, q⟩
  · obtain ⟨u, rfl, r1⟩ := vals1 r
    cases r1
    exact call_int_bool ⟨.int (if k then 1 else 0), H, I.tok _, ⟨_, rfl⟩, q⟩
end
end L2

namespace L2
open PySem PySem.Spec PyProof.Rows

/-! ### an instance, its attributes a map -/
structure ObjM (h : Heap) (x dx C : Addr) (mA : Str → Option Value) : Prop where
  obj : h.get? x = some (PySem.W.instObj C dx)
  ns : h.Ns1 dx mA
  ne : dx ≠ x

section
variable {prog : Program} {w : World} {A : Around} {E : Value → Shared → Prop} {s : Shared} {K : PySem.W.Frag} {x dx C f : Addr} {mA : Str → Option Value} {name : Str} {v : Value}

end

/-! ### the attributes as a list of pairs -/
theorem RelO.some_of {v : V} {o : Option Value} (r : RelO (some v) o) : ∃ u, o = some u ∧ RelV v u := by
  cases o with
  | none => exact (show False from r).elim
  | some u => exact ⟨u, rfl, r⟩
section
variable {P : Program} {w : World} {H H' : Hp} {h h' : Heap} {a C dx : Addr} {fs fs' : List (Str × V)}
end

/-! ### what of the text a class must have -/
structure Cls (K : PySem.W.Frag) (C : Addr) : Prop where
  pg : PySem.W.plainGet K C Str.empty = true
  hd : PySem.W.hasDictIn K C = true
  po : PySem.W.plainOver K C = true
  sa : PySem.W.findIn K (.ref C) "__setattr__" = some (some (.builtin "object.__setattr__"))
/-- a constant of the class -/
structure Con (K : PySem.W.Frag) (C : Addr) (f : Str) (v : V) (u : Value) : Prop where
  at_ : PySem.W.findIn K (.ref C) f = some (some u)
  rel : RelV v u
  get : PySem.W.specialIn K u "__get__" = some none
  cp : PySem.W.copiedNames.contains f = false
/-- a method: a plain def of the class or of one above it -/
structure Meth (K : PySem.W.Frag) (C : Addr) (m : Str) (f : Addr) : Prop where
  at_ : PySem.W.findIn K (.ref C) m = some (some (.ref f))
  fn : PySem.W.isFn K (.ref f) = true
  kp : PySem.W.keepIn K (.ref f) = true

section
variable {X : Cx} {pins : List (Addr × Obj)} {σ : St} {H : Hp} {s : Shared} {a C dx : Addr} {fs : List (Str × V)} {f : Str} {v : V} {A : Around} {E : Value → Shared → Prop}

end

/-! ### readings and rules -/
section
variable {X : Cx} {o e value : Expr} {f : Str} {pos pos' tpos : Pos} {ta tv : TE}
end

/-! ### isinstance -/
section
variable {X : Cx} {pins : List (Addr × Obj)} {σ : St} {H : Hp} {s : Shared} {A : Around} {E : Value → Shared → Prop} {Q : Value → Shared → Prop} {c : Value} {b : Bool}
/-- the type of a value, as the fragment's deciders take it; for an instance its class -/
inductive TyOf (K : PySem.W.Frag) (H : Hp) : V → Value → Prop where
  | non : TyOf K H .non (.type "NoneType")
  | bl (x : Bool) : TyOf K H (.bl x) (.type "bool")
  | int (i : Int) : TyOf K H (.int i) (.type "int")
  | str (x : Str) : TyOf K H (.str x) (.type "str")
  | flt (x : UInt64) : TyOf K H (.flt x) (.type "float")
  | lst {a : Addr} {xs : List V} (e : H a = some (.lst xs)) : TyOf K H (.ref a) (.type "list")
  | frz {a : Addr} {o : Obj} {xs : List V} (e : H a = some (.frz o (.lst xs))) : TyOf K H (.ref a) (.type "list")
  | tup {a : Addr} {xs : List V} (e : H a = some (.tup xs)) : TyOf K H (.ref a) (.type "tuple")
  | dK {a : Addr} {kvs : List (Key × V)} (e : H a = some (.dK kvs)) : TyOf K H (.ref a) (.type "dict")
  | dT {a : Addr} {kvs : List (List Key × V)} (e : H a = some (.dT kvs)) : TyOf K H (.ref a) (.type "dict")
  | ins {a C dx : Addr} {fs : List (Str × V)} (e : H a = some (.ins C dx fs)) (cl : Cls K C) (ha : PySem.W.findIn K (.ref C) "__class__" = some (some (.builtin "object.__class__")))
      (hn : PySem.W.specialIn K (.builtin "object.__class__") "__get__" = some (some (.builtin "getset_descriptor.__get__"))) (htk : PySem.W.takesIn K (.builtin "object.__class__") = some true)
      (hm : PySem.W.mroIn K C (.type "object") = some true) : TyOf K H (.ref a) (.ref C)
end
end L2

namespace L2
open PySem PySem.Spec PyProof.Rows

/-! ### room -/
structure Room (k : Nat) (A : Around) : Prop where
  hd : A.handled = none
  dp : A.depth + 3 * k + 5 < recursionLimit
  un : A.units + 16 * k + 200 < cLine
  gd : A.guards = some []
theorem Room.mono {j k : Nat} {A : Around} (r : Room k A) (h : j ≤ k) : Room j A := ⟨r.hd, by have := r.dp; omega, by have := r.un; omega, r.gd⟩
theorem Room.deeper {k : Nat} {A : Around} (r : Room (k + 1) A) (env : Env) : Room k (A.deeper env) :=
  ⟨r.hd, by have := r.dp; show A.depth + 1 + 3 * k + 5 < _; omega, by have := r.un; show A.units + 3 + 16 * k + 200 < _; omega, r.gd⟩
theorem Room.depth {k : Nat} {A : Around} (r : Room k A) : A.depth < recursionLimit := by have := r.dp; omega
theorem Room.units {k : Nat} {A : Around} (r : Room k A) : A.units + 64 < cLine := by have := r.un; omega
/-! ### argument lists and displays -/
def tNil : TA := fun _ H Q => Q [] H
def tCons (ta : TE) (tr : TA) : TA := fun σ H Q => ta σ H fun x H1 => tr σ H1 fun xs H2 => Q (x :: xs) H2
section
variable {X : Cx} {e : Expr} {es : List Expr} {te : TE} {t : TA} {pos : Pos}
theorem pa_nil : PA X [] tNil := fun _ _ _ _ H Q I h => Calls.spliced_nil ⟨[], H, I, .nil, h⟩
theorem pa_cons (ha : PE X e te) (hr : PA X es t) (hs : isStar e = false := by rfl) : PA X (e :: es) (tCons te t) := by
  intro pos pins s σ H Q I h
  rw [stE e es X.env hs]
  show wpAny _ _ (spliced ((false, eval e X.env) :: backTo pos (starEach es X.env))) _ _ s
  refine Calls.spliced_cons (thn (ha pins s σ H _ I h) fun u s1 ⟨x, H1, I1, r1, q1⟩ => ?_)
  exact thn (hr pos pins s1 σ H1 _ I1 q1) fun us s2 ⟨xs, H2, I2, r2, q2⟩ => ⟨x :: xs, H2, I2, .cons r1 r2, q2⟩

/-- a tuple, a list of written items -/
def tTup (t : TA) : TE := fun σ H Q => t σ H fun xs H1 => xs.length ≤ sizeLine ∧ ∀ p, H1 p = none → Q (.ref p) (upd H1 p (.tup xs))
def tLst (t : TA) : TE := fun σ H Q => t σ H fun xs H1 => xs.length ≤ sizeLine ∧ ∀ p, H1 p = none → Q (.ref p) (upd H1 p (.lst xs))
theorem pe_tup {x1} (h : PA X es t) : PE X (.Tuple es x1 pos) (tTup t) := by
  intro pins s σ H Q I hq
  refine wpAny_Tuple_spliced (thn (h pos pins s σ H _ I hq) fun us s1 ⟨xs, H1, I1, r, z, q⟩ => ⟨by rw [← r.length]; exact z, ?_⟩)
  have hf : H1 s1.heap.objs.size = none := I1.hok.fresh (Nat.le_refl _)
  refine ⟨.ref s1.heap.objs.size, upd H1 s1.heap.objs.size (.tup xs), I1.laid (t' := s1.toks) (fun b u e => Heap.get?_push_of_some _ e) (Nat.le_refl _) ?_, rfl, q _ hf⟩
  exact ⟨z, us, r, ⟨_, Heap.get?_push_size _ rfl, rfl, _, rfl⟩⟩
theorem pe_lst (h : PA X es t) : PE X (.List es pos) (tLst t) := by
  intro pins s σ H Q I hq
  refine wpAny_List_spliced (thn (h pos pins s σ H _ I hq) fun us s1 ⟨xs, H1, I1, r, z, q⟩ => ⟨by rw [← r.length]; exact z, ?_⟩)
  have hf : H1 s1.heap.objs.size = none := I1.hok.fresh (Nat.le_refl _)
  refine ⟨.ref s1.heap.objs.size, upd H1 s1.heap.objs.size (.lst xs), I1.laid (t' := s1.toks) (fun b u e => Heap.get?_push_of_some _ e) (Nat.le_refl _) ?_, rfl, q _ hf⟩
  exact ⟨z, us, 0, r, Heap.get?_push_size _ rfl⟩
end

/-! ### what a def promises -/
/-- a def's promise: the bound arguments in the parameters' order, the heap, the wanted end, the wanted exception -/
abbrev Sp := List V → Hp → VK → XK → Prop
/-- how an exception lies behind a call (file 08 gives it): the callers' frames, abstract heap and state ahead of the call, the wish, the exception, the state -/
abbrev CXT := List Env → Hp → Shared → XK → Value → Shared → Prop

/-- the state at a call -/
structure Env0 (P : Program) (w : World) (K : PySem.W.Frag) (mg : Str → Option Value) (base : Heap) (A : Around) (outer : List Env) (s : Shared) (H : Hp) : Prop where
  frames : A.frames = some outer
  mod : Mod K mg base
  bs : ∀ b o, base.get? b = some o → s.heap.get? b = some o ∧ H b = none
  bsz : base.objs.size ≤ s.heap.objs.size
  funs : s.heap.FunFrames base outer
  frf : ∀ b ∈ frs outer, H b = none
  hok : HOk P w H s.heap
  bare : AllBare s.gens
/-- a call's end -/
def CE (outer : List Env) (P : Program) (w : World) (H : Hp) (s : Shared) (Q : VK) (u : Value) (s' : Shared) : Prop :=
  ∃ v H', s'.os = s.os ∧ AllBare s'.gens ∧ Un (frs outer) [] H H' s.heap s'.heap ∧ HOk P w H' s'.heap ∧ RelV v u ∧ Q v H'
def CR (CX : CXT) (outer : List Env) (P : Program) (w : World) (H : Hp) (s : Shared) (Q : VK) (E : XK) (r : Result) (s' : Shared) : Prop :=
  match r with
  | .ok (.ret u) => CE outer P w H s Q u s'
  | .ok _ => False
  | .error e => CX outer H s E e s'
structure FnOk (P : Program) (w : World) (K : PySem.W.Frag) (mg : Str → Option Value) (base : Heap) (CX : CXT) (k : Nat) (f : Addr) (fd : FuncData) (ps : List Str) (sp : Sp) : Prop where
  len : ∀ vs H Q E, sp vs H Q E → vs.length = ps.length
  run : ∀ (A : Around) (outer : List Env) (s : Shared) (H : Hp) (args : Args) (us : List Value) (vs : List V) (Q : VK) (E : XK), Room k A → Env0 P w K mg base A outer s H → BindsTo s fd args (ps.zip us) → Vals vs us → sp vs H Q E →
    codeAny (model P w) A (.call (.ref f) args) (CR CX outer P w H s Q E) s
/-- a weaker promise -/
theorem FnOk.imp {P : Program} {w : World} {K : PySem.W.Frag} {mg : Str → Option Value} {base : Heap} {CX : CXT} {k : Nat} {f : Addr} {fd : FuncData} {ps : List Str} {sp sp' : Sp} (F : FnOk P w K mg base CX k f fd ps sp)
    (h : ∀ vs H Q E, sp' vs H Q E → sp vs H Q E) : FnOk P w K mg base CX k f fd ps sp' :=
  ⟨fun vs H Q E q => F.len vs H Q E (h _ _ _ _ q), fun A outer s H args us vs Q E hr he hb hv hs => F.run A outer s H args us vs Q E hr he hb hv (h _ _ _ _ hs)⟩

section
variable {X : Cx} {pins : List (Addr × Obj)} {σ : St} {H : Hp} {s s' : Shared}
/-- from a body: what a callee wants -/
theorem Inv.env0 (I : Inv X pins σ H s) : Env0 X.prog X.w X.K X.mg X.base X.A X.stack s H :=
  ⟨I.ok.frames, I.ok.mod, I.bs, Nat.le_trans I.ok.bsz I.sz, I.stack, I.stkFree, I.hok, I.bare⟩
/-- behind a call -/
theorem Inv.after {Q : VK} {u : Value} (I : Inv X pins σ H s) (h : CE X.stack X.prog X.w H s Q u s') : EP X pins σ Q u s' := by
  obtain ⟨v, H', os, bare, un, hok, r, q⟩ := h
  obtain ⟨hh, g, d, t, os'⟩ := s'
  obtain rfl : os' = s.os := os
  exact ⟨v, H', I.call (h' := hh) (g' := g) (d' := d) (t' := t) (ch := []) un hok bare (fun b z => absurd z (by simp)), r, q⟩
end

/-! ### calls -/
/-- f(..): the written arguments, then the defaults dvs; E: what is wanted of an exception -/
def tCall (sp : Sp) (dvs : List V) (E : XK) (t : TA) : TE := fun σ H Q => t σ H fun vs H1 => sp (vs ++ dvs) H1 Q E
/-- how the parameters are bound: us the positional arguments, kw the keywords' values by name, ds the defaults that fill up -/
def Binds (K : PySem.W.Frag) (fd : FuncData) (ps : List Str) (ds : List Value) : Prop :=
  ∀ (s : Shared) (us : List Value), K.In s.heap → (us ++ ds).length = ps.length → BindsTo s fd ⟨us, []⟩ (ps.zip (us ++ ds))
/-- every parameter is given -/
theorem Binds.all {K : PySem.W.Frag} {fd : FuncData} {ps : List Str} (h : ∀ us : List Value, us.length = ps.length → bindArgs fd ⟨us, []⟩ = pure (ps.zip us)) : Binds K fd ps [] := fun s us _ hl => by
  rw [List.append_nil] at hl ⊢
  exact .of_eq (h us hl)

/-- an exception of a callee reaches what this body wants of exceptions -/
def Passes (CX : CXT) (X : Cx) (E : XK) : Prop := ∀ (pins : List (Addr × Obj)) (σ : St) (H : Hp) (s : Shared) (e : Value) (s' : Shared), Inv X pins σ H s → CX X.stack H s E e s' → X.xe e s'

section
variable {X : Cx} {CX : CXT} {k : Nat} {f C : Addr} {fd : FuncData} {ps : List Str} {sp : Sp} {dvs : List V} {ds : List Value} {E : XK} {x m : Str} {p pos apos : Pos} {e o : Expr} {es : List Expr} {ta : TE} {t : TA}

/-- the callee runs -/
theorem run_fn {pins : List (Addr × Obj)} {σ : St} {H : Hp} {s : Shared} {Q : VK} {us : List Value} {vs : List V} (F : FnOk X.prog X.w X.K X.mg X.base CX k f fd ps sp) (hr : Room k X.A) (hb : Binds X.K fd ps ds) (hd : Vals dvs ds) (hx : Passes CX X E)
    (I : Inv X pins σ H s) (r : Vals vs us) (h : sp (vs ++ dvs) H Q E) : wpAny (model X.prog X.w) X.A (call (.ref f) us) (EP X pins σ Q) X.xe s := by
  have r2 : Vals (vs ++ dvs) (us ++ ds) := r.append hd
  have hl : (us ++ ds).length = ps.length := by rw [← r2.length]; exact F.len _ _ _ _ h
  refine wpAny_call (codeAny_mono (F.run X.A X.stack s H ⟨us, []⟩ (us ++ ds) (vs ++ dvs) Q E hr I.env0 (hb s us I.kIn hl) r2 h) fun r s' hq => ?_)
  cases r with
  | error e => exact hx pins σ H s e s' I hq
  | ok fl =>
    cases fl with
    | ret u => exact I.after hq
    | next => exact False.elim hq
    | brk => exact False.elim hq
    | cont => exact False.elim hq

theorem pe_call (F : FnOk X.prog X.w X.K X.mg X.base CX k f fd ps sp) (hr : Room k X.A) (hg : Gl X x) (hm : X.mg x = some (.ref f)) (hk : PySem.W.keepIn X.K (.ref f) = true) (hb : Binds X.K fd ps ds) (hd : Vals dvs ds) (hx : Passes CX X E)
    (ha : PA X (e :: es) t) (hdb : (x == ("__debug__" : Str)) = false := by decide) (he : starEach (e :: es) X.env = (false, eval e X.env) :: starEach es X.env := by exact stE _ _ _ rfl) (hpl : (backTo pos (starEach es X.env)).any (·.1) = false := by rfl) :
    PE X (.Call (.Name x p) (e :: es) [] pos) (tCall sp dvs E t) := by
  intro pins s σ H Q I h
  refine wpAny_Call_Name_kw (ld_glob I hg hm ?_ hdb)
  refine PySem.W.callWith_K (h₀ := X.base) I.ok.mod.kin hk (thn (ha pos pins s σ H _ I h) fun us s1 ⟨vs, H1, I1, r, q⟩ => ⟨I1.kIn, ?_⟩) he hpl
  exact run_fn F hr hb hd hx I1 r q
/-- what a class must have to be made -/
structure Mk (K : PySem.W.Frag) (C f : Addr) : Prop where
  makes : PySem.W.makesIn K C = true
  init : PySem.W.findIn K (.ref C) "__init__" = some (some (.ref f))
  fn : PySem.W.isFn K (.ref f) = true
  kp : PySem.W.keepIn K (.ref C) = true

end

/-! ### keywords -/
/-- the values of the keywords, from the left -/
def PK (X : Cx) (kws : List Keyword) (t : TA) : Prop :=
  ∀ (pos : Pos) (pins : List (Addr × Obj)) (s : Shared) (σ : St) (H : Hp) (Q : List V → Hp → Prop), Inv X pins σ H s → t σ H Q → wpAny (model X.prog X.w) X.A (evalAll ((backToKw pos (keywordEach kws X.env)).map (·.2))) (AP X pins σ Q) X.xe s
section
variable {X : Cx} {CX : CXT} {k : Nat} {f C : Addr} {fd : FuncData} {ps ks : List Str} {sp : Sp} {E : XK} {x m : Str} {p pos apos kpos : Pos} {e o : Expr} {es : List Expr} {kws : List Keyword} {te ta : TE} {t tk : TA} {nm : Option Str}
theorem pk_nil : PK X [] tNil := fun _ _ _ _ H Q I h => wpAny_evalAll_nil ⟨[], H, I, .nil, h⟩
theorem pk_cons (ha : PE X e te) (hr : PK X kws t) : PK X (⟨nm, e, kpos⟩ :: kws) (tCons te t) := by
  intro pos pins s σ H Q I h
  show wpAny _ _ (evalAll ((do let v ← eval e X.env; standAt pos; pure v) :: (backToKw pos (keywordEach kws X.env)).map (·.2))) _ _ s
  refine wpAny_evalAll_cons (wpAny_bind (thn (ha pins s σ H _ I h) fun u s1 ⟨x, H1, I1, r1, q1⟩ => wpAny_bind (wpAny_standAt (wpAny_pure ?_))))
  exact thn (hr pos pins s1 σ H1 _ I1 q1) fun us s2 ⟨xs, H2, I2, r2, q2⟩ => ⟨x :: xs, H2, I2, .cons r1 r2, q2⟩

/-- how a call with keywords binds: g puts the positional values us and the keywords' values ws (names ks) in the parameters' order, defaults among them -/
structure KBinds (K : PySem.W.Frag) (fd : FuncData) (ps ks : List Str) (g : List Value → List Value → List Value) (gV : List V → List V → List V) : Prop where
  to : ∀ (s : Shared) (us ws : List Value), K.In s.heap → (g us ws).length = ps.length → BindsTo s fd ⟨us, ks.zip ws⟩ (ps.zip (g us ws))
  rel : ∀ {vs : List V} {us : List Value} {zs : List V} {ws : List Value}, Vals vs us → Vals zs ws → Vals (gV vs zs) (g us ws)
def tCallK (sp : Sp) (gV : List V → List V → List V) (E : XK) (t tk : TA) : TE := fun σ H Q => t σ H fun vs H1 => tk σ H1 fun zs H2 => sp (gV vs zs) H2 Q E
variable {g : List Value → List Value → List Value} {gV : List V → List V → List V}
end

/-! ### a def's body keeps its promise -/
/-- names: the parameters first -/
structure FnScope (N P : List Str) (sc : Scope) : Prop where
  kind : sc.kind = .function
  co : sc.isCoroutine = false
  gen : sc.isGenerator = false
  nd : N.Nodup
  pre : N.take P.length = P
  par : ∀ x ∈ P, sc.names.lookup x = some .local ∨ sc.names.lookup x = some .cell
  nofree : ∀ y ∈ sc.names, y.2 ≠ .free

theorem bindL_out {kindOf : Str → Option NameKind} {x : Str} : ∀ {binds : List (Str × Value)} {m : Str → Option Value}, (∀ v, (x, v) ∉ binds) → bindL kindOf binds m x = m x
  | [], _, _ => rfl
  | (n, v) :: r, m, h => by
    unfold bindL
    rw [bindL_out fun w hw => h w (List.mem_cons_of_mem _ hw)]
    split
    · have : x ≠ n := by rintro rfl; exact h v List.mem_cons_self
      simp [this]
    · rfl
theorem bindC_out {kindOf : Str → Option NameKind} {x : Str} : ∀ {binds : List (Str × Value)} {m : Str → Option Value}, (∀ v, (x, v) ∉ binds) → bindC kindOf binds m x = m x
  | [], _, _ => rfl
  | (n, v) :: r, m, h => by
    unfold bindC
    rw [bindC_out fun w hw => h w (List.mem_cons_of_mem _ hw)]
    split
    · rfl
    · have : x ≠ n := by rintro rfl; exact h v List.mem_cons_self
      simp [this]
theorem bindL_get {kindOf : Str → Option NameKind} {x : Str} {v : Value} : ∀ {P : List Str} {vs : List Value} {i : Nat} {m : Str → Option Value}, P.Nodup → P[i]? = some x → vs[i]? = some v → kindOf x = some .local →
    bindL kindOf (P.zip vs) m x = some v
  | [], _, _, _, _, h, _, _ => by simp at h
  | _ :: _, [], _, _, _, _, h, _ => by simp at h
  | p :: P, w :: vs, 0, m, nd, h1, h2, hk => by
    simp at h1 h2; subst h1; subst h2
    show bindL kindOf ((p, w) :: P.zip vs) m p = _
    unfold bindL
    rw [bindL_out fun v hv => (List.nodup_cons.mp nd).1 (List.of_mem_zip hv).1, if_pos hk]
    simp
  | p :: P, w :: vs, i + 1, m, nd, h1, h2, hk => by
    show bindL kindOf ((p, w) :: P.zip vs) m x = _
    unfold bindL
    exact bindL_get (i := i) (List.nodup_cons.mp nd).2 (by simpa using h1) (by simpa using h2) hk
theorem bindC_get {kindOf : Str → Option NameKind} {x : Str} {v : Value} : ∀ {P : List Str} {vs : List Value} {i : Nat} {m : Str → Option Value}, P.Nodup → P[i]? = some x → vs[i]? = some v → kindOf x ≠ some .local →
    bindC kindOf (P.zip vs) m x = some v
  | [], _, _, _, _, h, _, _ => by simp at h
  | _ :: _, [], _, _, _, _, h, _ => by simp at h
  | p :: P, w :: vs, 0, m, nd, h1, h2, hk => by
    simp at h1 h2; subst h1; subst h2
    show bindC kindOf ((p, w) :: P.zip vs) m p = _
    unfold bindC
    rw [bindC_out fun v hv => (List.nodup_cons.mp nd).1 (List.of_mem_zip hv).1, if_neg hk]
    simp
  | p :: P, w :: vs, i + 1, m, nd, h1, h2, hk => by
    show bindC kindOf ((p, w) :: P.zip vs) m x = _
    unfold bindC
    exact bindC_get (i := i) (List.nodup_cons.mp nd).2 (by simpa using h1) (by simpa using h2) hk

/-- the names' values at the entry -/
def start (N : List Str) (vs : List V) : St := vs.map some ++ List.replicate (N.length - vs.length) none

/-- the context of a def's body, at its entry; an exception leaves the frame, then lies as CX says -/
def cxOf (CX : CXT) (P : Program) (w : World) (K : PySem.W.Frag) (mg : Str → Option Value) (base : Heap) (N : List Str) (qual : Str) (scope : Scope) (f : Addr) (cd : Value) (A : Around) (outer : List Env) (s : Shared) (H : Hp) (E : XK) : Cx where
  prog := P
  w := w
  K := K
  mg := mg
  base := base
  A := A.deeper (envOfC qual scope s.heap.objs.size f cd)
  N := N
  s_0 := s
  H_0 := H
  env := envOfC qual scope s.heap.objs.size f cd
  outer := outer
  stack := envOfC qual scope s.heap.objs.size f cd :: outer
  ex := []
  calm := true
  fn := fun _ => true
  pn := []
  xe := fun e s' => wpAny (model P w) (A.deeper (envOfC qual scope s.heap.objs.size f cd)) (leaving (envOfC qual scope s.heap.objs.size f cd) e) (fun _ s'' => CX outer H s E e s'') (fun e' s'' => CX outer H s E e' s'') s'

theorem cell_has {sc : Scope} {n : Nat} {x : Str} (h : sc.names.lookup x = some .cell) : ∃ c, (cellsFrom n sc.names []).lookup x = some c := by
  have q := PySem.W.cellsFrom_some sc.names n [] (.inl h)
  exact Option.isSome_iff_exists.mp q

theorem inv_start {CX : CXT} {P : Program} {w : World} {K : PySem.W.Frag} {mg : Str → Option Value} {base : Heap} {N ps : List Str} {qual : Str} {scope : Scope} {f : Addr} {cd : Value} {A : Around} {outer : List Env} {s s1 : Shared} {H : Hp} {E : XK} {us : List Value} {vs : List V}
    (S : FnScope N ps scope) (hd : A.handled = none) (e0 : Env0 P w K mg base A outer s H) (hl : vs.length = ps.length) (r : Vals vs us)
    (x : InCallC s s.heap.objs.size (bindL (envOfC qual scope s.heap.objs.size f cd).kindOf (ps.zip us) fun _ => none) (cellsFrom (s.heap.objs.size + 1) scope.names []) (bindC (envOfC qual scope s.heap.objs.size f cd).kindOf (ps.zip us) fun _ => none) s1) :
    Inv (cxOf CX P w K mg base N qual scope f cd A outer s H E) [] (start N vs) H s1 := by
  have hpl : ps.length ≤ N.length := by have := congrArg List.length S.pre; rw [List.length_take] at this; omega
  obtain ⟨h1, tk, rfl, hk⟩ := x.done
  have noA : ∀ b : Addr, b ∉ (cxOf CX P w K mg base N qual scope f cd A outer s H E).ex := fun b z => absurd (show b ∈ ([] : List Addr) from z) (by simp)
  refine ⟨⟨e0.mod, S.kind, rfl, rfl, Nat.le_refl _, fun y z c h1 h2 => ?_, fun y hy => ?_, fun y c _ h => ?_, fun _ => hd, Around.frames_deeper e0.frames, .inr ⟨rfl, rfl⟩, fun b z => absurd z (noA b), e0.bs, e0.bsz, fun b _ _ => noA b, fun b z => absurd z (noA b), e0.funs, e0.frf⟩,
    rfl, e0.bare, Un.kept hk, ⟨_, x.toInCall.ns, fun i y v h1 h2 h3 => ?_⟩, fun y c h => ⟨_, x.cell y c h⟩, e0.hok.fresh (Nat.le_refl _), fun y c h => ?_, fun p hp => absurd (show p ∈ ([] : List (Addr × Obj)) from hp) (by simp), e0.hok.kept hk, ?_⟩
  · exact name_of_addr x.apart (PySem.mem_of_lookup h1) (PySem.mem_of_lookup h2)
  · have hy : scope.names.lookup y = some .cell ∨ scope.names.lookup y = some .free := hy
    rcases hy with hy | hy
    · exact cell_has hy
    · exact absurd rfl (S.nofree _ (PySem.mem_of_lookup hy))
  · exact Nat.le_of_lt (x.above y c (PySem.mem_of_lookup h))
  · have hi : i < vs.length := by
      unfold start at h2
      by_cases hi : i < vs.length
      · exact hi
      · rw [List.getElem?_append_right (by simpa using hi)] at h2
        rw [List.getElem?_replicate] at h2
        split at h2 <;> cases h2
    have ha : vs[i]? = some v := by
      unfold start at h2
      rw [List.getElem?_append_left (by simpa using hi), List.getElem?_map] at h2
      cases e : vs[i]? with
      | none => rw [e] at h2; cases h2
      | some a => rw [e] at h2; cases h2; rfl
    obtain ⟨u, hu, rv⟩ := r.get ha
    have hp : ps[i]? = some y := by
      rw [← S.pre, List.getElem?_take_of_lt (by omega)]; exact h1
    have ndP : ps.Nodup := by rw [← S.pre]; exact S.nd.sublist (List.take_sublist _ _)
    refine ⟨u, rv, ?_⟩
    rcases S.par y (List.mem_of_getElem? hp) with k | k
    · exact .inl ⟨k, bindL_get ndP hp hu k⟩
    · obtain ⟨c, e⟩ := cell_has (n := s.heap.objs.size + 1) k
      refine .inr ⟨.inl k, c, e, ?_⟩
      have q := x.cell y c e
      rw [bindC_get ndP hp hu (by show scope.names.lookup y ≠ _; rw [k]; decide)] at q
      exact q
  · exact e0.hok.fresh (Nat.le_of_lt (x.above y c (PySem.mem_of_lookup h)))
  · unfold start
    show _ = N.length
    rw [List.length_append, List.length_map, List.length_replicate]
    omega

/-- THE RULE: a def (or a method) of the text, by its body. The body's reading t is chosen for each entry; it is run at the parameters' values -/
theorem fn_of {CX : CXT} {P : Program} {w : World} {K : PySem.W.Frag} {mg : Str → Option Value} {base : Heap} {k : Nat} {f : Addr} {name qual : Str} {params : Arguments} {body : List Stmt} {scope : Scope} {dV kV doc pm cdv ct oc : Value} {an od : Option Addr}
    {osl : Array (Option Value)} {N ps : List Str} {sp : Sp} (lk : K.lookup f = some ⟨oc, od, .func (PySem.W.fnOf name qual params body scope dV kV doc pm an cdv ct), osl⟩) (hcd : PySem.W.codeIn K cdv qual = true) (S : FnScope N ps scope)
    (len : ∀ vs H Q E, sp vs H Q E → vs.length = ps.length)
    (hbody : ∀ (A : Around) (outer : List Env) (s : Shared) (H : Hp) (vs : List V) (Q : VK) (E : XK), Room k (A.deeper (envOfC qual scope s.heap.objs.size f cdv)) → sp vs H Q E →
      ∃ t, PSs (cxOf CX P w K mg base N qual scope f cdv A outer s H E) body t ∧ t { nx := fun _ H' => Q .non H', rt := Q } (start N vs) H) :
    FnOk P w K mg base CX (k + 1) f (PySem.W.fnOf name qual params body scope dV kV doc pm an cdv ct) ps sp := by
  refine ⟨len, fun A outer s H args us vs Q E hr e0 hb r hsp => ?_⟩
  have hl := len _ _ _ _ hsp
  have KX : K.In s.heap := e0.mod.kin.keeps fun b o e => (e0.bs b o e).1
  have lim : s.heap.NoLimit := e0.mod.nolimit.keeps fun b o e => (e0.bs b o e).1
  have hkind : ∀ y ∈ ps.zip us, scope.names.lookup y.1 = some .local ∨ (scope.names.lookup y.1 = some .cell ∧ ((cellsFrom (s.heap.objs.size + 1) scope.names []).lookup y.1).isSome = true) := fun ⟨n, v⟩ hy => by
    rcases S.par n (List.of_mem_zip hy).1 with q | q
    · exact .inl q
    · exact .inr ⟨q, PySem.W.cellsFrom_some _ _ _ (.inl q)⟩
  refine codeAny_call_function hr.depth (KX _ _ lk) rfl S.co S.gen rfl (PySem.W.codeRec_of KX hcd) (hb _ _ _ _ ?_)
  refine wpAny_newFunctionEnv_cells S.kind hkind fun env he s1 x => ?_
  subst he
  refine ⟨lim.keeps x.toInCall.keep, codeAny_func ?_⟩
  obtain ⟨t, ht, hq⟩ := hbody A outer s H vs Q E (hr.deeper _) hsp
  have I : Inv (cxOf CX P w K mg base N qual scope f cdv A outer s H E) [] (start N vs) H s1 := inv_start S hr.hd e0 hl r x
  refine wpAny_mono (ht [] s1 (start N vs) H _ I hq) (fun fl s' hs => ?_) fun e s' hs => hs
  have fin : ∀ {σ' : St} {H' : Hp} {v : V} {u : Value}, Inv (cxOf CX P w K mg base N qual scope f cdv A outer s H E) [] σ' H' s' → RelV v u → Q v H' → CE outer P w H s Q u s' :=
    fun {σ' H' v u} J rv q => ⟨v, H', J.os, J.bare, J.base, J.hok, rv, q⟩
  cases fl with
  | ret u =>
    obtain ⟨v, σ', H', J, rv, q⟩ := hs
    exact fin J rv q
  | next =>
    obtain ⟨σ', H', J, q⟩ := hs
    exact fin (v := V.non) (u := Value.none) J rfl q
  | brk =>
    obtain ⟨_, _, _, q⟩ := hs
    exact False.elim q
  | cont =>
    obtain ⟨_, _, _, q⟩ := hs
    exact False.elim q
end L2

namespace L2
open PySem PySem.Spec PyProof.Rows
section
variable {X : Cx} {x : Str} {p pos : Pos} {e : Expr} {es : List Expr} {t : TA} {id T : String} {r : List V → Hp → VK → Prop}

def tCB (r : List V → Hp → VK → Prop) (t : TA) : TE := fun σ H Q => t σ H fun vs H1 => r vs H1 Q
/-- f(e, ..), f a built-in function -/
theorem pe_callB (hc : CallR X (.builtin id) r) (hg : Gl X x) (hm : X.mg x = none) (hv : bootBuiltins x = some (.builtin id)) (ha : PA X (e :: es) t) (hn : x ≠ "__name__" := by decide) (hdb : (x == ("__debug__" : Str)) = false := by decide)
    (he : starEach (e :: es) X.env = (false, eval e X.env) :: starEach es X.env := by exact stE _ _ _ rfl) (hpl : (backTo pos (starEach es X.env)).any (·.1) = false := by rfl) : PE X (.Call (.Name x p) (e :: es) [] pos) (tCB r t) := by
  intro pins s σ H Q I h
  refine wpAny_Call_Name_kw (ld_blt I hg hm hv ?_ hn hdb)
  exact PyProof.Rows.callWith_builtin1 (thn (ha pos pins s σ H _ I h) fun us s1 ⟨vs, H1, I1, r1, q1⟩ => hc pins s1 σ H1 vs us Q I1 r1 q1) he hpl
/-- T(e, ..), T a built-in type -/
theorem pe_callTy (hc : CallR X (.type T) r) (hg : Gl X x) (hm : X.mg x = none) (hv : bootBuiltins x = some (.type T)) (ha : PA X (e :: es) t) (hn : x ≠ "__name__" := by decide) (hdb : (x == ("__debug__" : Str)) = false := by decide)
    (he : starEach (e :: es) X.env = (false, eval e X.env) :: starEach es X.env := by exact stE _ _ _ rfl) (hpl : (backTo pos (starEach es X.env)).any (·.1) = false := by rfl) : PE X (.Call (.Name x p) (e :: es) [] pos) (tCB r t) := by
  intro pins s σ H Q I h
  refine wpAny_Call_Name_kw (ld_blt I hg hm hv ?_ hn hdb)
  exact PyProof.Rows.callWith_type1 (thn (ha pos pins s σ H _ I h) fun us s1 ⟨vs, H1, I1, r1, q1⟩ => hc pins s1 σ H1 vs us Q I1 r1 q1) he hpl
end
end L2

namespace HT
open PySem PyProof.Rows

section
open PySem.SeqAt
open PySem.AutoSeq1 (wpAny_loadPart')
open PySem.MeetsSeq PySem.MeetsSeq2 PySem.MeetsSeq3

end

section
variable {prog : Program} {w : World} {A : Around} {E : Value → Shared → Prop} {s : Shared}

/-- t + u, t not empty -/
theorem cat_tup {t b : Addr} {vs ws : List Value} {Q : Value → Shared → Prop} (ht : IsTup s.heap t vs.toArray) (hb : IsTup s.heap b ws.toArray) (hv : vs ≠ [])
    (h1 : ws = [] → Q (.ref t) s) (h2 : ws ≠ [] → Q (.ref s.heap.objs.size) { s with heap := s.heap.push { cls := .type "tuple", data := .seq (vs ++ ws).toArray } })
    (hsz : vs.length + ws.length ≤ sizeLine) : wpAny (model prog w) A (binaryOp .Add (.ref t) (.ref b)) Q E s := by
  obtain ⟨⟨cls, dd, data, sl⟩, ho, hc, n, hd⟩ := id ht
  obtain ⟨⟨cls2, dd2, data2, sl2⟩, ho2, hc2, n2, hd2⟩ := id hb
  simp only at hc hd hc2 hd2
  subst hc hd hc2 hd2
  have e : vs.toArray ++ ws.toArray = (vs ++ ws).toArray := by simp
  by_cases hw : ws = []
  · exact concat_meets ⟨_, ho, rfl⟩ ⟨_, ho2, rfl⟩ noFill_tuple_add seq_tuple_add PySem.F.slot_tuple_add PySem.F.entry_tuple_add (PySem.F.args_tuple_add_2 _ _)
      (tuple_addW1 t b vs.toArray ws.toArray n n2 dd dd2 sl sl2 (by simpa using hv) (by simp [hw])) ⟨ho, ho2, h1 hw⟩
  · refine concat_meets ⟨_, ho, rfl⟩ ⟨_, ho2, rfl⟩ noFill_tuple_add seq_tuple_add PySem.F.slot_tuple_add PySem.F.entry_tuple_add (PySem.F.args_tuple_add_2 _ _)
      (tuple_addW2 t b vs.toArray ws.toArray n n2 dd dd2 sl sl2 (by simpa using hv) (by simpa using hw) (by rw [List.size_toArray, List.size_toArray]; exact hsz)) ⟨ho, ho2, ?_⟩
    rw [e]
    exact h2 hw

/-! ### t[a:b], not the whole -/
/-- a slice's bound as a place among n (d where it is left out) -/
def sIx (n d : Nat) : Option Int → Nat
  | none => d
  | some v => if v < 0 then (v + (n : Int)).toNat else min v.toNat n
theorem sIx_none (n d : Nat) : sIx n d none = d := rfl
theorem sIx_nat (n d k : Nat) : sIx n d (some (k : Int)) = min k n := by
  show (if (k : Int) < 0 then ((k : Int) + (n : Int)).toNat else min (k : Int).toNat n) = min k n
  rw [if_neg (by omega), Int.toNat_natCast]
theorem sIx_le (n d : Nat) (hd : d ≤ n) (o : Option Int) : sIx n d o ≤ n := by
  cases o with
  | none => exact hd
  | some v =>
    show (if v < 0 then (v + (n : Int)).toNat else min v.toNat n) ≤ n
    by_cases hv : v < 0
    · rw [if_pos hv]; omega
    · rw [if_neg hv]; exact Nat.min_le_right _ _
theorem clip_eq (v : Int) (n d : Nat) : (if v < 0 then max (v + (n : Int)) 0 else min v (n : Int)) = ((sIx n d (some v) : Nat) : Int) := by
  show (if v < 0 then max (v + (n : Int)) 0 else min v (n : Int)) = (((if v < 0 then (v + (n : Int)).toNat else min v.toNat n) : Nat) : Int)
  by_cases hv : v < 0
  · simp only [if_pos hv]; omega
  · simp only [if_neg hv]; omega
theorem adjust_gen (lo hi : Option Int) (n : Nat) : Builtin.Slice.sliceAdjust lo hi 1 (n : Int) = (((sIx n 0 lo : Nat) : Int), ((sIx n n hi : Nat) : Int)) := by
  have h1 : ¬ ((1 : Int) < 0) := by omega
  unfold Builtin.Slice.sliceAdjust
  simp only [h1, if_false]
  refine Prod.ext ?_ ?_
  · cases lo with
    | none => rfl
    | some v => exact clip_eq v n 0
  · cases hi with
    | none => rfl
    | some v => exact clip_eq v n n
theorem places_gen (i j : Nat) : Builtin.Slice.slicePlaces (i : Int) (j : Int) 1 = j - i := by
  unfold Builtin.Slice.slicePlaces
  have h1 : (1 : Int) > 0 := by omega
  simp only [h1, if_true, Int.ediv_one]
  split <;> omega
theorem slicePart_ {v : Value} {o : Option Int} {Q : Option Int → Shared → Prop} (p : IsPart v o) (h : Q o s) : wpAny (model prog w) A (Builtin.Slice.slicePartIndex v) Q E s := by
  cases p with
  | none => exact slicePart_none h
  | int i t => exact slicePart_int h
theorem sliceApplied_gen {sl : Addr} {vl vu : Value} {lo hi : Option Int} {n : Nat} {Q : Int × Int × Nat → Shared → Prop} (hs : s.heap.IsSliceOf sl vl vu .none) (pl : IsPart vl lo) (pu : IsPart vu hi)
    (h : Q (((sIx n 0 lo : Nat) : Int), 1, sIx n n hi - sIx n 0 lo) s) : wpAny (model prog w) A (Builtin.Slice.sliceApplied (.ref sl) (pure (n : Int))) Q E s := by
  obtain ⟨os, hos, hcs, hds⟩ := id hs
  unfold Builtin.Slice.sliceApplied Builtin.Slice.sliceFields
  refine wpAny_bind (wpAny_bind (wpAny_field hos hds (x := vl) rfl (wpAny_bind (wpAny_field hos hds (x := vu) rfl (wpAny_bind (wpAny_field hos hds (x := .none) rfl (wpAny_pure ?_)))))))
  refine wpAny_bind (slicePart_none ?_)
  show wpAny _ _ (if ((1 : Int) == 0) = true then _ else _) _ _ s
  rw [if_neg (by decide)]
  refine wpAny_bind (slicePart_ pl (wpAny_bind (slicePart_ pu (wpAny_bind (wpAny_pure ?_)))))
  show wpAny _ _ (match Builtin.Slice.sliceAdjust lo hi 1 (n : Int) with | (lo, hi) => pure (lo, (1 : Int), Builtin.Slice.slicePlaces lo hi 1)) _ _ s
  rw [adjust_gen lo hi n]
  show wpAny _ _ (pure (((sIx n 0 lo : Nat) : Int), (1 : Int), Builtin.Slice.slicePlaces ((sIx n 0 lo : Nat) : Int) ((sIx n n hi : Nat) : Int) 1)) _ _ s
  rw [places_gen]
  exact wpAny_pure h
theorem pick_gen (xs : Array Value) (i k : Nat) : ((List.range k).filterMap fun (m : Nat) => xs[((i : Int) + (m : Int) * 1).toNat]?).toArray = ((xs.toList.drop i).take k).toArray := by
  have e : (fun (m : Nat) => xs[((i : Int) + (m : Int) * 1).toNat]?) = fun m => xs[i + m]? := by
    funext m
    have : ((i : Int) + (m : Int) * 1).toNat = i + m := by omega
    rw [this]
  rw [e]
  have := pick_run xs i k
  rw [List.filterMap_map] at this
  have e2 : ((fun x => xs[x]?) ∘ fun x => i + x) = fun m => xs[i + m]? := rfl
  rw [e2] at this
  rw [this]

theorem getItem_tuple_cut {t sl : Addr} {items : Array Value} {vl vu : Value} {lo hi : Option Int} {Q : Value → Shared → Prop} (ht : IsTup s.heap t items) (hs : s.heap.IsSliceOf sl vl vu .none) (pl : IsPart vl lo) (pu : IsPart vu hi)
    (hw : ¬ (sIx items.size 0 lo = 0 ∧ sIx items.size items.size hi = items.size))
    (h : Q (.ref s.heap.objs.size) { s with heap := s.heap.push { cls := .type "tuple", data := .seq ((items.toList.drop (sIx items.size 0 lo)).take (sIx items.size items.size hi - sIx items.size 0 lo)).toArray } })
    (hsz : items.size ≤ sizeLine) : wpAny (model prog w) A (getItem (.ref t) (.ref sl)) Q E s := by
  have htake : sizeOk (.seq ((items.toList.drop (sIx items.size 0 lo)).take (sIx items.size items.size hi - sIx items.size 0 lo)).toArray) := by
    show ((items.toList.drop (sIx items.size 0 lo)).take (sIx items.size items.size hi - sIx items.size 0 lo)).toArray.size ≤ sizeLine
    rw [List.size_toArray, List.length_take, List.length_drop, Array.length_toList]
    omega
  have hj : sIx items.size items.size hi ≤ items.size := sIx_le _ _ (Nat.le_refl _) hi
  obtain ⟨os, hos, hcs, hds⟩ := id hs
  have hTs : s.TypeIs (.ref sl) "slice" := ⟨os, hos, hcs⟩
  unfold getItem
  try with_reducible refine wpAny_holding ?_
  first | refine wpAny_bind (wpAny_pure ?_) | skip
  refine wpAny_bind (wpAny_sequenceKey ht.typeIs (by decide) ?_)
  refine wpAny_bind (wpAny_callSpecial?_slot (name := Str.ofString "__getitem__") ht.typeIs PyProof.Rows.slot_tuple_getitem
    (wpAny_call_entry PyProof.Rows.slot_tuple_getitem ht.typeIs entry_tuple_getitem ?_ (args_tuple_getitem _ _)))
  show wpAny _ _ (Builtin.Tuple.tupleItemsOf (.ref t) >>= _) _ _ s
  refine wpAny_bind (tupleItemsOf_ ht ?_)
  refine wpAny_bind (wpAny_typeOf hTs ?_)
  rw [if_pos (by decide)]
  refine wpAny_bind (sliceApplied_gen hs pl pu ?_)
  have hno : ¬ ((((sIx items.size 0 lo : Nat) : Int) == 0 && (1 : Int) == 1 && (sIx items.size items.size hi - sIx items.size 0 lo) == items.size) = true) := by
    intro q
    rw [Bool.and_eq_true, Bool.and_eq_true] at q
    have q1 : ((sIx items.size 0 lo : Nat) : Int) = 0 := eq_of_beq q.1.1
    have q2 : sIx items.size items.size hi - sIx items.size 0 lo = items.size := eq_of_beq q.2
    exact hw ⟨by omega, by omega⟩
  show wpAny _ _ (if (((sIx items.size 0 lo : Nat) : Int) == 0 && (1 : Int) == 1 && (sIx items.size items.size hi - sIx items.size 0 lo) == items.size) = true then _ else _) _ _ s
  rw [if_neg hno, pick_gen]
  first
    | exact wpAny_bind (m := Builtin.Tuple.tupleExact _) (wpAny_newObj_type (wpAny_pure ⟨_, rfl, wpAny_pure h⟩) htake)
    | exact wpAny_bind (m := Builtin.Tuple.tupleExact _) (wpAny_newObj_type (wpAny_bind (wpAny_pure (wpAny_pure ⟨_, rfl, wpAny_pure h⟩))) htake)
    | exact wpAny_bind (wpAny_bind (m := Builtin.Tuple.tupleExact _) (wpAny_newObj_type (wpAny_pure (wpAny_pure ⟨_, rfl, wpAny_pure h⟩)) htake))
    | exact wpAny_bind (wpAny_bind (m := Builtin.Tuple.tupleExact _) (wpAny_newObj_type (wpAny_pure ⟨_, rfl, wpAny_pure h⟩) htake))
end
end HT

namespace L2
open PySem PySem.Spec PyProof.Rows

/-! ### the parts of a slice -/
abbrev TO := St → Hp → (Option Int → Hp → Prop) → Prop
/-- a slice's part (left out, or an int) -/
def PO (X : Cx) (e : Option Expr) (t : TO) : Prop :=
  ∀ (pins : List (Addr × Obj)) (s : Shared) (σ : St) (H : Hp) (Q : Option Int → Hp → Prop), Inv X pins σ H s → t σ H Q →
    wpAny (model X.prog X.w) X.A (evalPart e X.env) (fun u s' => ∃ o H', Inv X pins σ H' s' ∧ IsPart u o ∧ Q o H') X.xe s
def tNoPart : TO := fun _ H Q => Q none H
def tPart (t : TE) : TO := fun σ H Q => t σ H fun x H1 => ∃ i, x = .int i ∧ Q (some i) H1

section
variable {X : Cx} {e : Expr} {te : TE} {lo hi : Option Expr} {tl th : TO} {pos p2 : Pos}

theorem po_none : PO X none tNoPart := by
  intro pins s σ H Q I h
  rw [evalPart_none]
  exact wpAny_pure ⟨none, H, I, .none, h⟩
theorem po_some (h : PE X e te) : PO X (some e) (tPart te) := by
  intro pins s σ H Q I hw
  rw [evalPart_some]
  refine thn (h pins s σ H _ I hw) fun u s1 ⟨x, H1, I1, r1, q1⟩ => ?_
  obtain ⟨i, rfl, q⟩ := q1
  obtain ⟨t, rfl⟩ := r1
  exact ⟨some i, H1, I1, .int i t, q⟩

/-- what a slice of a value is, by values: the slice object stands at sl -/
def SlR (X : Cx) (r : V → Option Int → Option Int → Hp → VK → Prop) : Prop :=
  ∀ (pins : List (Addr × Obj)) (s : Shared) (σ : St) (H : Hp) (x : V) (v vl vu : Value) (lo hi : Option Int) (sl : Addr) (Q : VK), Inv X pins σ H s → RelV x v → s.heap.IsSliceOf sl vl vu .none → IsPart vl lo → IsPart vu hi → r x lo hi H Q →
    ∃ T id, typeLookup (.type T) "__getitem__" = pure (some (.builtin id)) ∧ s.TypeIs v T ∧ wpAny (model X.prog X.w) X.A (getItem v (.ref sl)) (EP X pins σ Q) X.xe s
def tSl (r : V → Option Int → Option Int → Hp → VK → Prop) (te : TE) (tl th : TO) : TE := fun σ H Q => te σ H fun x H1 => tl σ H1 fun l H2 => th σ H2 fun u H3 => r x l u H3 Q
/-- a[lo:hi], any a -/
theorem pe_slice {r : V → Option Int → Option Int → Hp → VK → Prop} (hr : SlR X r) (he : PE X e te) (hl : PO X lo tl) (hu : PO X hi th) : PE X (.Subscript e (.Slice lo hi none p2) pos) (tSl r te tl th) := by
  intro pins s σ H Q I h
  refine Subscript_ (thn (he pins s σ H _ I h) fun v s1 ⟨x, H1, I1, r1, q1⟩ => ?_)
  refine wpAny_Slice (thn (hl pins s1 σ H1 _ I1 q1) fun vl s2 ⟨l, H2, I2, pl, q2⟩ => thn (hu pins s2 σ H2 _ I2 q2) fun vu s3 ⟨u, H3, I3, pu, q3⟩ => ?_)
  rw [evalPart_none]
  refine wpAny_pure ?_
  have I4 : Inv X pins σ H3 { s3 with heap := s3.heap.push { cls := .type "slice", data := .fields #[vl, vu, .none] } } := I3.kept (t' := s3.toks) fun b ob q => Heap.get?_push_of_some _ q
  obtain ⟨T, id, hT, ht, hg⟩ := hr pins { s3 with heap := s3.heap.push { cls := .type "slice", data := .fields #[vl, vu, .none] } } σ H3 x v vl vu l u s3.heap.objs.size Q I4 r1 (Heap.IsSliceOf.new ..) pl pu q3
  show wpAny (model X.prog X.w) X.A (subscriptTail e (.Slice lo hi none p2) v (.ref s3.heap.objs.size)) (EP X pins σ Q) X.xe { s3 with heap := s3.heap.push { cls := .type "slice", data := .fields #[vl, vu, .none] } }
  exact tail_any (ops := [.ref s3.heap.objs.size, v]) ht hT hg (by with_unfolding_all rfl)

/-- the items of xs[lo:hi] -/
def cutV (xs : List V) (lo hi : Option Int) : List V := (xs.drop (HT.sIx xs.length 0 lo)).take (HT.sIx xs.length xs.length hi - HT.sIx xs.length 0 lo)
theorem cutV_length (xs : List V) (lo hi : Option Int) : (cutV xs lo hi).length ≤ xs.length := by
  unfold cutV
  rw [List.length_take, List.length_drop]
  omega
/-- t[lo:hi], not the whole of it (the whole would be t itself) -/
def rSlT (K : PySem.W.Frag) : V → Option Int → Option Int → Hp → VK → Prop := fun x lo hi H Q => ∃ a xs, x = .ref a ∧ SqT K H a xs ∧
  ¬ (HT.sIx xs.length 0 lo = 0 ∧ HT.sIx xs.length xs.length hi = xs.length) ∧ ∀ p, H p = none → Q (.ref p) (upd H p (.tup (cutV xs lo hi)))
theorem sl_tup : SlR X (rSlT X.K) := by
  intro pins s σ H x v vl vu lo hi sl Q I rx hs pl pu h
  obtain ⟨a, xs, rfl, hx, hw, q⟩ := h
  cases rx
  obtain ⟨its, r, ht, hz⟩ := I.tuple hx
  have hlen : its.toArray.size = xs.length := by rw [List.size_toArray]; exact r.length.symm
  refine ⟨"tuple", _, PyProof.Rows.slot_tuple_getitem.lookup, ht.typeIs, ?_⟩
  refine HT.getItem_tuple_cut ht hs pl pu (by rw [hlen]; exact hw) ?_ (by rw [hlen]; exact hz)
  rw [hlen]
  refine ⟨.ref s.heap.objs.size, _, I.laid (t' := s.toks) (o := .tup (cutV xs lo hi)) (fun b ob q => Heap.get?_push_of_some _ q) (Nat.le_refl _) ?_, rfl, q _ (I.hok.fresh (Nat.le_refl _))⟩
  exact ⟨Nat.le_trans (cutV_length xs lo hi) hz, _, (r.drop (HT.sIx xs.length 0 lo)).take (HT.sIx xs.length xs.length hi - HT.sIx xs.length 0 lo), IsTup.new _ _⟩

/-! ### t < u, t + u -/
/-- t + u, t not empty: u empty gives t itself -/
def rCatT (K : PySem.W.Frag) : R2 := fun x y H Q => ∃ a b xs ys, x = .ref a ∧ y = .ref b ∧ SqT K H a xs ∧ SqT K H b ys ∧ xs ≠ [] ∧ xs.length + ys.length ≤ sizeLine ∧
  (ys = [] → Q (.ref a) H) ∧ (ys ≠ [] → ∀ p, H p = none → Q (.ref p) (upd H p (.tup (xs ++ ys))))
theorem Vals.nil_iff {xs : List V} {us : List Value} (r : Vals xs us) : us = [] ↔ xs = [] := by
  cases r with
  | nil => simp
  | cons _ _ => simp
theorem op_catT : OpR X (binaryOp .Add) (rCatT X.K) := by
  intro pins s σ H x y v u Q I rx ry h
  obtain ⟨a, b, xs, ys, rfl, rfl, ha, hb, hx, hz, q1, q2⟩ := h
  cases rx
  cases ry
  obtain ⟨its, r1, p1, _⟩ := I.tuple ha
  obtain ⟨its2, r2, p2, _⟩ := I.tuple hb
  refine HT.cat_tup p1 p2 (fun z => hx (r1.nil_iff.mp z)) (fun z => ⟨.ref a, H, I, rfl, q1 (r2.nil_iff.mp z)⟩) (fun z => ?_) (by rw [← r1.length, ← r2.length]; exact hz)
  refine ⟨.ref s.heap.objs.size, _, I.laid (t' := s.toks) (o := .tup (xs ++ ys)) (fun b ob q => Heap.get?_push_of_some _ q) (Nat.le_refl _) ?_, rfl, q2 (fun w => z (r2.nil_iff.mpr w)) _ (I.hok.fresh (Nat.le_refl _))⟩
  exact ⟨by rw [List.length_append]; exact hz, _, r1.append r2, IsTup.new _ _⟩
end
end L2

namespace L2
open PySem PySem.Spec PyProof.Rows

/-! ### places -/
/-- the place that an index of any sign means -/
def ixN (n : Nat) (i : Int) : Option Nat := if 0 ≤ i then (if i < n then some i.toNat else none) else if -(n : Int) ≤ i then some (i + n).toNat else none
def atI {α : Type} (xs : List α) (i : Int) : Option α := (ixN xs.length i).bind fun j => xs[j]?
theorem ixN_seq {n : Nat} {i : Int} {j : Nat} (h : ixN n i = some j) : seqIndex? i n = some j ∧ j < n ∧ -(n : Int) ≤ i ∧ i < n := by
  unfold ixN at h
  by_cases h0 : 0 ≤ i
  · rw [if_pos h0] at h
    by_cases h1 : i < n
    · rw [if_pos h1] at h
      have e : i.toNat = j := Option.some.inj h
      exact ⟨by rw [seqIndex_of h0 h1, e], by omega, by omega, h1⟩
    · rw [if_neg h1] at h; cases h
  · rw [if_neg h0] at h
    by_cases h1 : -(n : Int) ≤ i
    · rw [if_pos h1] at h
      have e : (i + n).toNat = j := Option.some.inj h
      exact ⟨by rw [seqIndex_neg (by omega) h1, e], by omega, h1, by omega⟩
    · rw [if_neg h1] at h; cases h
theorem atI_get {α : Type} {xs : List α} {i : Int} {v : α} (h : atI xs i = some v) : ∃ j, seqIndex? i xs.length = some j ∧ xs[j]? = some v ∧ j < xs.length ∧ -(xs.length : Int) ≤ i ∧ i < xs.length := by
  unfold atI at h
  cases e : ixN xs.length i with
  | none => rw [e] at h; cases h
  | some j =>
    rw [e] at h
    obtain ⟨h1, h2, h3, h4⟩ := ixN_seq e
    exact ⟨j, h1, h, h2, h3, h4⟩
theorem atI_nat {α : Type} {xs : List α} {j : Nat} {v : α} (h : xs[j]? = some v) : atI xs (j : Int) = some v := by
  have hj : j < xs.length := (List.getElem?_eq_some_iff.mp h).1
  have e : ixN xs.length (j : Int) = some j := by
    unfold ixN
    rw [if_pos (by omega), if_pos (by omega)]; simp
  unfold atI; rw [e]; exact h
/-! ### what may be subscripted -/
/-- what stands as an index of a plain subscript -/
def PlainIx (b : Expr) : Prop := ∀ o i, subscripted b false o i = operate [o, i] (getItem o i)
/-- a subscript by values -/
def IxR (X : Cx) (r : R2) : Prop :=
  ∀ (value slice : Expr) (pins : List (Addr × Obj)) (s : Shared) (σ : St) (H : Hp) (x y : V) (v u : Value) (Q : VK), Inv X pins σ H s → RelV x v → RelV y u → r x y H Q →
    subscripted slice false v u = operate [v, u] (getItem v u) → wpAny (model X.prog X.w) X.A (subscriptTail value slice v u) (EP X pins σ Q) X.xe s
/-- a call of a builtin's method by values: the receiver, the arguments -/
def MtR (X : Cx) (id : String) (r : V → List V → Hp → VK → Prop) : Prop :=
  ∀ (pins : List (Addr × Obj)) (s : Shared) (σ : St) (H : Hp) (x : V) (xs : List V) (v : Value) (us : List Value) (Q : VK), Inv X pins σ H s → RelV x v → Vals xs us → r x xs H Q →
    wpAny (model X.prog X.w) X.A (call (.builtin id) (v :: us)) (EP X pins σ Q) X.xe s
section
variable {X : Cx} {a b : Expr} {ta tb : TE} {pos : Pos}
theorem IxR.or {r r' : R2} (h : IxR X r) (h' : IxR X r') : IxR X (fun x y H Q => r x y H Q ∨ r' x y H Q) := by
  intro value slice pins s σ H x y v u Q I rx ry q hs
  rcases q with q | q
  · exact h value slice pins s σ H x y v u Q I rx ry q hs
  · exact h' value slice pins s σ H x y v u Q I rx ry q hs
/-- a[b] -/
theorem pe_ix {r : R2} (hr : IxR X r) (ha : PE X a ta) (hb : PE X b tb) (hs : PlainIx b) : PE X (.Subscript a b pos) (tOp r ta tb) := by
  intro pins s σ H Q I h
  exact Subscript_ (binT ha hb I h fun v u s2 x y H2 I2 rx ry q => hr a b pins s2 σ H2 x y v u Q I2 rx ry q (hs _ _))

def rIxL (K : PySem.W.Frag) : R2 := fun x y H Q => ∃ p xs i v, x = .ref p ∧ y = .int i ∧ SqL K H p xs ∧ atI xs i = some v ∧ Q v H
def rIxT (K : PySem.W.Frag) : R2 := fun x y H Q => ∃ p xs i v, x = .ref p ∧ y = .int i ∧ SqT K H p xs ∧ atI xs i = some v ∧ Q v H
def rIxS : R2 := fun x y H Q => ∃ z i c, x = .str z ∧ y = .int i ∧ z.length ≤ sizeLine ∧ atI z.cps.toList i = some c ∧ Q (.str ⟨#[c]⟩) H
theorem ix_list : IxR X (rIxL X.K) := by
  intro value slice pins s σ H x y v u Q I rx ry h hs
  obtain ⟨p, xs, i, z, rfl, rfl, hq, he, q⟩ := h
  cases rx
  obtain ⟨t, rfl⟩ := ry
  obtain ⟨its, r, pl, hz⟩ := I.list hq
  obtain ⟨j, h1, h2, h3, h4, h5⟩ := atI_get he
  obtain ⟨w, ew, rw'⟩ := r.get h2
  have hl := r.length
  have hn := line63
  have fin : EP X pins σ Q w s := ⟨z, H, I, rw', q⟩
  by_cases h0 : 0 ≤ i
  · have hj : i.toNat = j := by
      rw [seqIndex_of h0 h5] at h1
      exact Option.some.inj h1
    exact item_listR pl.isList h0 (by omega) (by rw [hj]; simpa using ew) fin hs
  · have hj : (i + (its.toArray.size : Int)).toNat = j := by
      rw [seqIndex_neg (by omega) h4] at h1
      rw [List.size_toArray, ← hl]
      exact Option.some.inj h1
    exact subscriptTail_builtinR (x := w) pl.isList.typeIs slot_list_getitem.lookup
      (wpAny_getItem_list_neg (Q := fun r s' => r = w ∧ EP X pins σ Q r s') pl.isList (by omega) (by rw [List.size_toArray] <;> omega) (by omega) (by rw [hj]; simpa using ew) ⟨rfl, fin⟩) hs
theorem ix_tup : IxR X (rIxT X.K) := by
  intro value slice pins s σ H x y v u Q I rx ry h hs
  obtain ⟨p, xs, i, z, rfl, rfl, hq, he, q⟩ := h
  cases rx
  obtain ⟨t, rfl⟩ := ry
  obtain ⟨its, r, pl, hz⟩ := I.tuple hq
  obtain ⟨j, h1, h2, h3, h4, h5⟩ := atI_get he
  obtain ⟨w, ew, rw'⟩ := r.get h2
  have hl := r.length
  have hn := line63
  have fin : EP X pins σ Q w s := ⟨z, H, I, rw', q⟩
  exact subscriptTail_builtinR (x := w) pl.typeIs slot_tuple_getitem.lookup
    (getItem_tuple (j := j) (Q := fun r s' => r = w ∧ EP X pins σ Q r s') pl (by omega) (by omega) (by rw [List.size_toArray, ← hl]; exact h1) (by simpa using ew) ⟨rfl, fin⟩) hs
theorem ix_str : IxR X rIxS := by
  intro value slice pins s σ H x y v u Q I rx ry h hs
  obtain ⟨z, i, c, rfl, rfl, hz, he, q⟩ := h
  obtain ⟨t, rfl⟩ := rx
  obtain ⟨t', rfl⟩ := ry
  obtain ⟨j, h1, h2, h3, h4, h5⟩ := atI_get he
  have hl : z.cps.toList.length = z.length := by simp [Str.length]
  rw [hl] at h1 h4 h5
  have hn := line63
  exact tail_any (typeIs_str s z t) slot_str_getitem.lookup (getItem_str (c := c) (by
    have e1 : decide (i < -(2 ^ 63 : Int)) = false := decide_eq_false (by omega)
    have e2 : decide (i ≥ 2 ^ 63) = false := decide_eq_false (by omega)
    rw [e1, e2, Bool.or_false]) (by rw [h1]; simpa using h2) ⟨.str ⟨#[c]⟩, H, I.tok _, ⟨_, rfl⟩, q⟩) hs
/-- list, tuple or str -/
def rIx (K : PySem.W.Frag) : R2 := fun x y H Q => rIxL K x y H Q ∨ rIxT K x y H Q ∨ rIxS x y H Q
theorem ix_seq : IxR X (rIx X.K) := ix_list.or (ix_tup.or ix_str)

/-! ### xs[i] = v, any sign -/
/-! ### slices -/
theorem slice_bounds (lo hi : Option Int) (n : Nat) : (sliceBounds lo hi none n).1 = ((HT.sIx n 0 lo : Nat) : Int) ∧ (sliceBounds lo hi none n).2.1 = ((HT.sIx n n hi : Nat) : Int) ∧ (sliceBounds lo hi none n).2.2 = 1 := by
  refine ⟨?_, ?_, rfl⟩
  · cases lo with
    | none => simp [sliceBounds, HT.sIx]
    | some i =>
      simp only [sliceBounds, HT.sIx, Option.getD_none, show (1 : Int) > 0 by decide, if_true]
      by_cases h : i < 0
      · simp only [h, if_true] <;> omega
      · simp only [h, if_false] <;> omega
  · cases hi with
    | none => simp [sliceBounds, HT.sIx]
    | some i =>
      simp only [sliceBounds, HT.sIx, Option.getD_none, show (1 : Int) > 0 by decide, if_true]
      by_cases h : i < 0
      · simp only [h, if_true] <;> omega
      · simp only [h, if_false] <;> omega
theorem slicePick_cut (its : List Value) (lo hi : Option Int) : slicePick its.toArray lo hi none = ((its.drop (HT.sIx its.length 0 lo)).take (HT.sIx its.length its.length hi - HT.sIx its.length 0 lo)).toArray := by
  obtain ⟨h1, h2, h3⟩ := slice_bounds lo hi its.toArray.size
  unfold slicePick
  rw [h1, h2, h3]
  simp only [sliceRange_one, pick_run, List.size_toArray] <;> rfl
/-- xs[lo:hi] of a list: a new list -/
def rSlL (K : PySem.W.Frag) : V → Option Int → Option Int → Hp → VK → Prop := fun x lo hi H Q => ∃ a xs, x = .ref a ∧ SqL K H a xs ∧ ∀ p, H p = none → Q (.ref p) (upd H p (.lst (cutV xs lo hi)))
theorem sl_list : SlR X (rSlL X.K) := by
  intro pins s σ H x v vl vu lo hi sl Q I rx hs pl pu h
  obtain ⟨a, xs, rfl, hx, q⟩ := h
  cases rx
  obtain ⟨its, r, ht, hz⟩ := I.list hx
  have hlen := r.length
  refine ⟨"list", _, slot_list_getitem.lookup, ht.isList.typeIs, ?_⟩
  refine wpAny_getItem_list_slice ht.isList hs pl pu .none (by simp) ?_ (by rw [List.size_toArray] <;> omega)
  rw [slicePick_cut, ← hlen]
  refine ⟨.ref s.heap.objs.size, _, I.laid (t' := s.toks) (o := .lst (cutV xs lo hi)) (fun b ob q => Heap.get?_push_of_some _ q) (Nat.le_refl _) ?_, rfl, q _ (I.hok.fresh (Nat.le_refl _))⟩
  exact ⟨Nat.le_trans (cutV_length xs lo hi) hz, _, 0, (r.drop (HT.sIx xs.length 0 lo)).take (HT.sIx xs.length xs.length hi - HT.sIx xs.length 0 lo), Heap.get?_push_size _ rfl⟩

/-! ### in, not in: flat items -/
def flatV : V → Bool
  | .non => true
  | .bl _ => true
  | .int _ => true
  | .str _ => true
  | _ => false
/-- == of flat values -/
def eqV : V → V → Bool
  | .non, .non => true
  | .bl a, .bl b => a == b
  | .bl a, .int b => (if a then 1 else 0) == b
  | .int a, .bl b => a == (if b then 1 else 0)
  | .int a, .int b => a == b
  | .str a, .str b => a == b
  | _, _ => false
theorem eqAt_V {A : Around} {s : Shared} {y x : V} {u v : Value} (ry : RelV y u) (rx : RelV x v) (fy : flatV y = true) (fx : flatV x = true) : SeqAt.EqAt A s u v (eqV y x) := by
  cases y with
  | non =>
    cases ry
    cases x with
    | non => cases rx; exact SeqAt.EqAt.same _
    | bl b => cases rx; exact SeqAt.EqAt.none_bool b
    | int b => obtain ⟨t, rfl⟩ := rx; exact SeqAt.EqAt.none_int b t
    | str b => obtain ⟨t, rfl⟩ := rx; exact SeqAt.EqAt.none_str b t
    | _ => exact absurd (show false = true from fx) Bool.false_ne_true
  | bl a =>
    cases ry
    cases x with
    | non => cases rx; exact SeqAt.EqAt.bool_none a
    | bl b => cases rx; exact SeqAt.EqAt.bool_bool a b
    | int b => obtain ⟨t, rfl⟩ := rx; exact SeqAt.EqAt.bool_int a b t
    | str b => obtain ⟨t, rfl⟩ := rx; exact SeqAt.EqAt.bool_str a b t
    | _ => exact absurd (show false = true from fx) Bool.false_ne_true
  | int a =>
    obtain ⟨t', rfl⟩ := ry
    cases x with
    | non => cases rx; exact SeqAt.EqAt.int_none a t'
    | bl b => cases rx; exact SeqAt.EqAt.int_bool a t' b
    | int b => obtain ⟨t, rfl⟩ := rx; exact SeqAt.EqAt.int_int a t' b t
    | str b => obtain ⟨t, rfl⟩ := rx; exact SeqAt.EqAt.int_str a t' b t
    | _ => exact absurd (show false = true from fx) Bool.false_ne_true
  | str a =>
    obtain ⟨t', rfl⟩ := ry
    cases x with
    | non => cases rx; exact SeqAt.EqAt.str_none a t'
    | bl b => cases rx; exact SeqAt.EqAt.str_bool a t' b
    | int b => obtain ⟨t, rfl⟩ := rx; exact SeqAt.EqAt.str_int a t' b t
    | str b => obtain ⟨t, rfl⟩ := rx; exact SeqAt.EqAt.str_str a t' b t
    | _ => exact absurd (show false = true from fx) Bool.false_ne_true
  | _ => exact absurd (show false = true from fy) Bool.false_ne_true
/-- the items' answers, read off the values (a value's own answer does not lean on its token) -/
def eqU (x : V) (u : Value) : Bool := match u with
  | .none => eqV .non x
  | .bool b => eqV (.bl b) x
  | .int i _ => eqV (.int i) x
  | .str z _ => eqV (.str z) x
  | _ => false
theorem eqU_of {x y : V} {u : Value} (r : RelV y u) (f : flatV y = true) : eqU x u = eqV y x := by
  cases y with
  | non => cases r; rfl
  | bl b => cases r; rfl
  | int i => obtain ⟨t, rfl⟩ := r; rfl
  | str z => obtain ⟨t, rfl⟩ := r; rfl
  | _ => exact absurd (show false = true from f) Bool.false_ne_true
theorem any_eqU {x : V} : ∀ {xs : List V} {us : List Value}, Vals xs us → xs.all flatV = true → us.any (eqU x) = xs.any fun y => eqV y x
  | _, _, .nil, _ => rfl
  | y :: xs, u :: us, .cons r t, f => by
    rw [List.all_cons, Bool.and_eq_true] at f
    rw [List.any_cons, List.any_cons, eqU_of r f.1, any_eqU t f.2]
theorem mem_eqAt {A : Around} {s : Shared} {x : V} {v : Value} (rx : RelV x v) (fx : flatV x = true) : ∀ {xs : List V} {us : List Value}, Vals xs us → xs.all flatV = true → ∀ u ∈ us, SeqAt.EqAt A s u v (eqU x u)
  | _, _, .nil, _ => fun u hu => by cases hu
  | y :: xs, u :: us, .cons r t, f => fun u' hu => by
    rw [List.all_cons, Bool.and_eq_true] at f
    rcases List.mem_cons.mp hu with rfl | hu
    · rw [eqU_of r f.1]; exact eqAt_V r rx f.1 fx
    · exact mem_eqAt rx fx t f.2 u' hu
def inV (x : V) (xs : List V) : Bool := xs.any fun y => eqV y x
/-- x in a list or tuple of flat items -/
def rIn (K : PySem.W.Frag) (neg : Bool) : R2 := fun x y H Q => ∃ p xs, y = .ref p ∧ (SqL K H p xs ∨ SqT K H p xs) ∧ flatV x = true ∧ xs.all flatV = true ∧ Q (.bl (if neg then !inV x xs else inV x xs)) H
theorem op_in_seq : OpR X (compareOp .In) (rIn X.K false) := by
  intro pins s σ H x y v u Q I rx ry h
  obtain ⟨p, xs, rfl, hq, fx, fs, q⟩ := h
  cases ry
  rcases hq with hq | hq
  · obtain ⟨its, r, pl, hz⟩ := I.list hq
    refine SeqAt.in_listAt (eqU x) pl.isList (fun w hw => mem_eqAt rx fx r fs w (by simpa using hw)) ⟨.bl _, H, I, rfl, ?_⟩
    rw [show its.toArray.any (eqU x) = its.any (eqU x) by simp, any_eqU r fs]
    exact q
  · obtain ⟨its, r, pl, hz⟩ := I.tuple hq
    refine SeqAt.in_tupleAt (eqU x) pl (fun w hw => mem_eqAt rx fx r fs w (by simpa using hw)) ⟨.bl _, H, I, rfl, ?_⟩
    rw [show its.toArray.any (eqU x) = its.any (eqU x) by simp, any_eqU r fs]
    exact q
/-! ### len, list(x), tuple(x) of any list or tuple that is read -/
theorem call_len_seq : CallR X (.builtin "len") (fun xs H Q => ∃ p ys, xs = [.ref p] ∧ (SqL X.K H p ys ∨ SqT X.K H p ys) ∧ Q (.int ys.length) H) := by
  intro pins s σ H xs us Q I r h
  obtain ⟨p, ys, rfl, hq, q⟩ := h
  obtain ⟨u, rfl, rx⟩ := vals1 r
  cases rx
  have hn := line63
  rcases hq with hq | hq
  · obtain ⟨its, r', pl, hz⟩ := I.list hq
    have hlen := r'.length
    exact Calls.call_len_list pl.isList (by simp only [List.size_toArray] <;> omega) ⟨.int ys.length, H, I.tok _, ⟨s.toks + 1, by rw [List.size_toArray, hlen]⟩, q⟩
  · obtain ⟨its, r', pl, hz⟩ := I.tuple hq
    have hlen := r'.length
    exact len_tuple pl (by simp only [List.size_toArray] <;> omega) ⟨.int ys.length, H, I.tok _, ⟨s.toks + 1, by rw [List.size_toArray, hlen]⟩, q⟩
theorem call_len_str : CallR X (.builtin "len") (fun xs H Q => ∃ z, xs = [.str z] ∧ z.length ≤ sizeLine ∧ Q (.int z.length) H) := by
  intro pins s σ H xs us Q I r h
  obtain ⟨z, rfl, hz, q⟩ := h
  obtain ⟨u, rfl, t, rfl⟩ := vals1 r
  have hn := line63
  exact len_str (by omega) ⟨.int z.length, H, I.tok _, ⟨_, rfl⟩, q⟩
theorem call_list_of : CallR X (.type "list") (fun xs H Q => ∃ p ys, xs = [.ref p] ∧ (SqL X.K H p ys ∨ SqT X.K H p ys) ∧ ∀ l, H l = none → Q (.ref l) (upd H l (.lst ys))) := by
  intro pins s σ H xs us Q I r h
  obtain ⟨p, ys, rfl, hq, q⟩ := h
  obtain ⟨u, rfl, rx⟩ := vals1 r
  cases rx
  have fin : ∀ (its : List Value), Vals ys its → ys.length ≤ sizeLine → ∀ (h' : Heap) (c' : Nat), (∀ b o', s.heap.get? b = some o' → h'.get? b = some o') →
      h'.get? s.heap.objs.size = some { cls := .type "list", dict := none, data := .seq its.toArray c', slots := #[] } → EP X pins σ Q (.ref s.heap.objs.size) { s with heap := h' } := fun its r' hz h' c' kp e =>
    ⟨.ref s.heap.objs.size, _, I.laid (t' := s.toks) kp (Nat.le_refl _) (show ObjOk X.prog X.w _ h' _ (.lst ys) from ⟨hz, its, c', r', e⟩), rfl, q _ (I.hok.fresh (Nat.le_refl _))⟩
  rcases hq with hq | hq
  · obtain ⟨its, r', pl, hz⟩ := I.list hq
    have hlen := r'.length
    obtain ⟨o, ho, hc, n, hd⟩ := pl.isList
    exact call_list_seq p (.inl rfl) ho hc hd (fun h' c' kp e => fin its r' hz h' c' kp e) (by simp only [List.size_toArray] <;> omega)
  · obtain ⟨its, r', pl, hz⟩ := I.tuple hq
    have hlen := r'.length
    obtain ⟨o, ho, hc, n, hd⟩ := pl
    exact call_list_seq p (.inr rfl) ho hc hd (fun h' c' kp e => fin its r' hz h' c' kp e) (by simp only [List.size_toArray] <;> omega)
theorem call_tuple_of : CallR X (.type "tuple") (fun xs H Q => ∃ p ys, xs = [.ref p] ∧ ((SqL X.K H p ys ∧ ∀ l, H l = none → Q (.ref l) (upd H l (.tup ys))) ∨ (SqT X.K H p ys ∧ Q (.ref p) H))) := by
  intro pins s σ H xs us Q I r h
  obtain ⟨p, ys, rfl, h⟩ := h
  obtain ⟨u, rfl, rx⟩ := vals1 r
  cases rx
  rcases h with ⟨hq, q⟩ | ⟨hq, q⟩
  · obtain ⟨its, r', pl, hz⟩ := I.list hq
    have hlen := r'.length
    refine call_tuple_list pl.isList (fun h' kp => ?_) (by simp only [List.size_toArray] <;> omega)
    have I1 : Inv X pins σ H { s with heap := h' } := I.kept (t' := s.toks) kp
    have I2 : Inv X pins σ (upd H h'.objs.size (.tup ys)) { s with heap := h'.push { cls := .type "tuple", data := .seq its.toArray } } :=
      I1.laid (t' := s.toks) (fun b o e => Heap.get?_push_of_some _ e) (Nat.le_refl _) (show ObjOk X.prog X.w _ _ _ (.tup ys) from ⟨hz, its, r', IsTup.new _ _⟩)
    exact ⟨.ref h'.objs.size, _, I2, rfl, q _ (I1.hok.fresh (Nat.le_refl _))⟩
  · obtain ⟨its, r', pl, hz⟩ := I.tuple hq
    exact call_tuple_same pl ⟨.ref p, H, I, rfl, q⟩

/-! ### the call of a builtin's method: o.m(..) -/
/-- the value is of that builtin type -/
def tyV (K : PySem.W.Frag) (T : String) (x : V) (H : Hp) : Prop := match x with
  | .str _ => T = "str"
  | .int _ => T = "int"
  | .ref p => (T = "list" ∧ ∃ xs, SqL K H p xs) ∨ (T = "tuple" ∧ ∃ o, K.lookup p = some o ∧ o.cls = .type "tuple" ∧ o.dict = none) ∨
      (T = "dict" ∧ ((∃ kvs, H p = some (.dK kvs)) ∨ ∃ kvs, H p = some (.dT kvs))) ∨ (T = "set" ∧ ∃ S n, H p = some (.set S n))
  | _ => False
theorem tyV_is {pins : List (Addr × Obj)} {σ : St} {H : Hp} {s : Shared} {T : String} {x : V} {v : Value} (I : Inv X pins σ H s) (r : RelV x v) (ty : tyV X.K T x H) :
    s.TypeIs v T ∧ ∀ a, v = .ref a → ∃ ob, s.heap.get? a = some ob ∧ ob.dict = none := by
  cases x with
  | str z =>
    obtain ⟨t, rfl⟩ := r
    cases (show T = "str" from ty)
    exact ⟨typeIs_str s z t, fun _ e => nomatch e⟩
  | int i =>
    obtain ⟨t, rfl⟩ := r
    cases (show T = "int" from ty)
    exact ⟨typeIs_int s i t, fun _ e => nomatch e⟩
  | ref p =>
    cases r
    rcases ty with ⟨rfl, xs, hq⟩ | ⟨rfl, o, hk, hc, hd⟩ | ⟨rfl, hk⟩ | ⟨rfl, S, n, hk⟩
    · obtain ⟨its, _, pl, _⟩ := I.list hq
      refine ⟨pl.isList.typeIs, fun a e => ?_⟩
      cases e
      obtain ⟨o, n, e, c, hd, _⟩ := pl
      exact ⟨o, e, hd⟩
    · refine ⟨⟨o, I.kIn p o hk, hc⟩, fun a e => ?_⟩
      cases e
      exact ⟨o, I.kIn _ o hk, hd⟩
    · have z : ∃ o, s.heap.get? p = some o ∧ o.ExactDict := by
        rcases hk with ⟨kvs, hk⟩ | ⟨kvs, hk⟩
        · obtain ⟨_, _, _, _, o, _, _, e, ex, _⟩ := I.hok p _ hk
          exact ⟨o, e, ex⟩
        · obtain ⟨_, _, _, _, o, _, _, e, ex, _⟩ := I.hok p _ hk
          exact ⟨o, e, ex⟩
      obtain ⟨o, e, ex⟩ := z
      refine ⟨⟨o, e, ex.1⟩, fun a e2 => ?_⟩
      cases e2
      exact ⟨o, e, ex.2.1⟩
    · obtain ⟨o, _, _, _, e, ex, _⟩ := I.hok p _ hk
      refine ⟨⟨o, e, ex.1⟩, fun a e2 => ?_⟩
      cases e2
      exact ⟨o, e, ex.2.1⟩
  | _ => exact False.elim ty
def tBM (K : PySem.W.Frag) (T : String) (r : V → List V → Hp → VK → Prop) (to : TE) (t : TA) : TE := fun σ H Q => to σ H fun x H1 => tyV K T x H1 ∧ t σ H1 fun xs H2 => r x xs H2 Q
variable {o e : Expr} {es : List Expr} {to : TE} {t : TA} {name : Str} {apos cpos : Pos} {T id : String} {r : V → List V → Hp → VK → Prop}
theorem pe_bm (pa : PlainAttrs T) (slot : Slot T name id) (hty : typeOf (.builtin id) = pure (.type "method_descriptor")) (hm : MtR X id r) (ho : PE X o to) (ha : PA X (e :: es) t)
    (hbase : attributeBase o name X.env (eval o X.env) = eval o X.env := by rfl)
    (hfew : ((backTo cpos (starEach (e :: es) X.env)).all (fun x => !x.1) && (backToKw cpos (keywordEach [] X.env)).all (fun x => x.1.isSome)
      && decide ((e :: es).length + ([] : List Keyword).length + (if ([] : List Keyword).isEmpty then 0 else 1) < 30)) = true := by rfl)
    (hline : (apos.endLine == cpos.line) = true := by rfl) (hs : starEach (e :: es) X.env = (false, eval e X.env) :: starEach es X.env := by exact stE _ _ _ rfl) (hplain : (backTo cpos (starEach es X.env)).any (·.1) = false := by rfl) :
    PE X (.Call (.Attribute o name apos) (e :: es) [] cpos) (tBM X.K T r to t) := by
  intro pins s σ H Q I h
  refine wpAny_Call_method_late hbase hfew hline rfl (thn (ho pins s σ H _ I h) fun v s1 ⟨x, H1, I1, r1, ty, q1⟩ => ?_)
  obtain ⟨h1, h2⟩ := tyV_is I1 r1 ty
  refine ⟨T, id, pa, slot, hty, h1, h2, ?_⟩
  have hA := ha cpos pins s1 σ H1 _ I1 q1
  rw [hs] at hA ⊢
  refine Calls.callWith_builtin (by show (false || (backTo cpos (starEach es X.env)).any (·.1)) = false; rw [hplain] <;> rfl) (Calls.evalArgs_plain ?_)
  exact thn hA fun us s2 ⟨vs, H2, I2, r2, q2⟩ => hm pins s2 σ H2 x vs v us Q I2 r1 r2 q2
/- xs.append(e), list.index on a module's tuple .. are MtR facts of 06m -/
end
end L2

namespace L2
open PySem PySem.Spec PyProof.Rows

def MtM (X : Cx) (id : String) (r : V → List V → Hp → VK → Prop) : Prop :=
  ∀ (pins : List (Addr × Obj)) (s : Shared) (σ : St) (H : Hp) (x : V) (xs : List V) (v : Value) (us : List Value) (Q : VK), Inv X pins σ H s → RelV x v → Vals xs us → r x xs H Q →
    wpAny (model X.prog X.w) X.A (call (.builtin id) (v :: us)) (EP X pins σ Q) X.xe s

/-! ### lists of values -/
theorem Vals.one : ∀ {x : V} {us : List Value}, Vals [x] us → ∃ u, us = [u] ∧ RelV x u
  | _, _, .cons r .nil => ⟨_, rfl, r⟩
section
variable {X : Cx} {pins : List (Addr × Obj)} {σ : St} {H : Hp} {s : Shared} {l b : Addr} {xs ys zs : List V}

/-! ### the two steps: a tracked list is rewritten, a new list is laid -/
theorem Inv.lset {its its' : List Value} {n : Nat} {f : Array Value → Array Value} {t' : Nat} (I : Inv X pins σ H s) (hH : H l = some (.lst xs))
    (e : s.heap.get? l = some { cls := .type "list", data := .seq its.toArray n }) (hf : f its.toArray = its'.toArray) (hv : Vals ys its') (hz : ys.length ≤ sizeLine) :
    Inv X pins σ (upd H l (.lst ys)) { s with heap := s.heap.update l (Obj.mapSeq f), toks := t' } := by
  have q := PySem.IsL.update e f
  rw [hf] at q
  refine I.write (x := l) (e := l) (by rw [hH]; exact trivial) (.inl rfl) (fun b' u hb hu => (Heap.get?_update_other s.heap (Obj.mapSeq f) (Ne.symm hb)).trans hu) ⟨_, q⟩ ?_
  exact ⟨hz, its', _, hv, q⟩
theorem Inv.lstM (I : Inv X pins σ H s) (hH : H l = some (.lst xs)) : xs.length ≤ sizeLine ∧ ∃ (its : List Value) (n : Nat), Vals xs its ∧ xs.length = its.length ∧ s.heap.get? l = some { cls := .type "list", data := .seq its.toArray n } := by
  obtain ⟨z, its, n, r, e⟩ := I.hok l _ hH
  exact ⟨z, its, n, r, r.length, e⟩

end

section
variable {X : Cx}

/-! ### methods -/
def rAppend : V → List V → Hp → VK → Prop := fun x vs H Q => ∃ l xs y, x = .ref l ∧ vs = [y] ∧ H l = some (.lst xs) ∧ xs.length < sizeLine ∧ Q .non (upd H l (.lst (xs ++ [y])))
theorem mt_append : MtM X "list.append" rAppend := by
  intro pins s σ H x vs v us Q I rx rv h
  obtain ⟨l, xs, y, rfl, rfl, hH, hz, q⟩ := h
  cases rx
  obtain ⟨u, rfl, ru⟩ := rv.one
  obtain ⟨z, its, n, r, hl, e⟩ := I.lstM hH
  refine call_meets F.slot_list_append ⟨_, e, rfl⟩ F.entry_list_append (F.args_list_append_2 _ _) (PySem.list_append l its.toArray n u (by rw [List.size_toArray]; omega)) ⟨e, ?_⟩
  refine ⟨.non, _, I.lset (its' := its ++ [u]) hH e (by simp) (r.append (.cons ru .nil)) ?_, rfl, q⟩
  rw [List.length_append, List.length_singleton]
  omega

/-! ### list + list, list += list, list * int -/
/-! ### del xs[i] -/
end

/-! ### xs[a:b] = ys -/
section
variable {prog : Program} {w : World} {A : Around} {E : Value → Shared → Prop} {s : Shared}
end

section
variable {X : Cx}
end
end L2

namespace L2
open PySem PySem.Spec PyProof.Rows

theorem vals_of_strs : ∀ {us : List Value} {xs : List Str}, StrsAre us xs → Vals (xs.map V.str) us
  | _, _, .nil => by rw [List.map_nil]; exact Paired.nil
  | _, _, .cons x t h => by rw [List.map_cons]; exact Paired.cons (show RelV (V.str x) (Value.str x t) from ⟨t, rfl⟩) (vals_of_strs h)
theorem Vals.ref1 {a : Addr} {us : List Value} (r : Vals [V.ref a] us) : us = [Value.ref a] := by
  cases r with
  | cons r t =>
    cases t
    cases r
    rfl
/-! ### the library's walks over a list of ints, kept objects alone -/
section
variable {prog : Program} {w : World} {A : Around} {E : Value → Shared → Prop} {s : Shared} {l : Addr} {its : List Value} {ns : List Int} {Q : Value → Shared → Prop}
end

/-! ### the calls, by values (CallR of 03t; MtR of 06l) -/
section
variable {X : Cx}
/-! sorted, sort (fewer than 64 items: the library's own bound) -/
end

/-! ### list.index, flat items -/
section
variable {X : Cx}
theorem flat_at {ys : List V} (f : ys.all flatV = true) {j : Nat} {z : V} (h : ys[j]? = some z) : flatV z = true := List.all_eq_true.mp f z (List.mem_of_getElem? h)
end

/-! ### type(x) of an own instance; is, is not of a module's class -/
section
variable {X : Cx}
end

/-! ### any(xs), all(xs) of a list of bools -/
section
variable {X : Cx}
end

/-! ### == and != of data at any depth: none, bools, ints, texts, lists, tuples -/
mutual
inductive Dp (K : PySem.W.Frag) (H : Hp) : V → PyData → Prop
  | non : Dp K H .non .none
  | bl (b : Bool) : Dp K H (.bl b) (.bool b)
  | int (i : Int) : Dp K H (.int i) (.int i)
  | str (x : Str) : Dp K H (.str x) (.str x)
  | lst {a : Addr} {xs : List V} {ds : List PyData} : SqL K H a xs → DpAll K H xs ds → Dp K H (.ref a) (.list ds)
  | tup {a : Addr} {xs : List V} {ds : List PyData} : SqT K H a xs → DpAll K H xs ds → Dp K H (.ref a) (.tuple ds)
inductive DpAll (K : PySem.W.Frag) (H : Hp) : List V → List PyData → Prop
  | nil : DpAll K H [] []
  | cons {v : V} {vs : List V} {d : PyData} {ds : List PyData} : Dp K H v d → DpAll K H vs ds → DpAll K H (v :: vs) (d :: ds)
end
section
variable {X : Cx} {pins : List (Addr × Obj)} {σ : St} {H : Hp} {s : Shared}
mutual
theorem Dp.reads (I : Inv X pins σ H s) : ∀ (d : PyData) (v : V) (u : Value), Dp X.K H v d → RelV v u → ∃ as, Reads s.heap u d as
  | .none, _, _, h, r => by
    cases h
    cases r
    exact ⟨_, Reads.none⟩
  | .bool b, _, _, h, r => by
    cases h
    cases r
    exact ⟨_, Reads.bool b⟩
  | .int i, _, _, h, r => by
    cases h
    obtain ⟨t, rfl⟩ := r
    exact ⟨_, Reads.int i t⟩
  | .str x, _, _, h, r => by
    cases h
    obtain ⟨t, rfl⟩ := r
    exact ⟨_, Reads.str x t⟩
  | .list ds, _, _, h, r => by
    cases h with
    | lst hs ha =>
      cases r
      obtain ⟨its, rv, ⟨o, n, ho, hc, _, hd⟩, _⟩ := I.list hs
      obtain ⟨as, hr⟩ := Dp.readsAll I ds _ its ha rv
      exact ⟨_, Reads.list ho hc hd hr⟩
  | .tuple ds, _, _, h, r => by
    cases h with
    | tup hs ha =>
      cases r
      obtain ⟨its, rv, ⟨o, ho, hc, n, hd⟩, _⟩ := I.tuple hs
      obtain ⟨as, hr⟩ := Dp.readsAll I ds _ its ha rv
      exact ⟨_, Reads.tuple ho hc hd hr⟩
  | .dict _, _, _, h, _ => by cases h
theorem Dp.readsAll (I : Inv X pins σ H s) : ∀ (ds : List PyData) (vs : List V) (us : List Value), DpAll X.K H vs ds → Vals vs us → ∃ as, ReadsAll s.heap us ds as
  | [], _, _, h, r => by
    cases h
    cases r
    exact ⟨_, ReadsAll.nil⟩
  | d :: ds, _, _, h, r => by
    cases h with
    | cons h1 h2 =>
      cases r with
      | cons r1 r2 =>
        obtain ⟨as, q1⟩ := Dp.reads I d _ _ h1 r1
        obtain ⟨bs, q2⟩ := Dp.readsAll I ds _ _ h2 r2
        exact ⟨_, ReadsAll.cons q1 q2⟩
end
end
section
variable {X : Cx}
def rEqD (K : PySem.W.Frag) : R2 := fun x y H Q => ∃ d e, Dp K H x d ∧ Dp K H y e ∧ SeqAt.shaped d = true ∧ SeqAt.shaped e = true ∧ Q (.bl (PyData.eqv d e)) H
def rNeD (K : PySem.W.Frag) : R2 := fun x y H Q => ∃ d e, Dp K H x d ∧ Dp K H y e ∧ SeqAt.shaped d = true ∧ SeqAt.shaped e = true ∧ Q (.bl (!PyData.eqv d e)) H
theorem op_eqD (hu : X.A.units + 64 < cLine) : OpR X (compareOp .Eq) (rEqD X.K) := by
  intro pins s σ H x y v u Q I rx ry h
  obtain ⟨d, e, hd, he, sd, se, q⟩ := h
  obtain ⟨as, r1⟩ := Dp.reads I d x v hd rx
  obtain ⟨bs, r2⟩ := Dp.reads I e y u he ry
  exact SeqAt.compareEq_shaped r1 r2 sd se hu ⟨.bl _, H, I, rfl, q⟩
theorem op_neD (hu : X.A.units + 64 < cLine) : OpR X (compareOp .NotEq) (rNeD X.K) := by
  intro pins s σ H x y v u Q I rx ry h
  obtain ⟨d, e, hd, he, sd, se, q⟩ := h
  obtain ⟨as, r1⟩ := Dp.reads I d x v hd rx
  obtain ⟨bs, r2⟩ := Dp.reads I e y u he ry
  exact SeqAt.compareNe_shaped r1 r2 sd se hu ⟨.bl _, H, I, rfl, q⟩
end
end L2

namespace L2
open PySem PySem.Spec PyProof.Rows
abbrev CellAt (h : Heap) (c : Addr) (v : Option Value) : Prop := h.IsCell c v
def relS (scope sc : Scope) : Scope :=
  { scope with names := scope.names.map fun (n, k) => if (k == .free && sc.kind == .function && sc.names.lookup n == some .cell) then (n, .cell) else (n, k) }

def cloFrom (cells : List (Str × Addr)) : List (Str × NameKind) → List (Str × Addr) → List (Str × Addr)
  | [], acc => acc
  | (n, k) :: r, acc => if k == .free then cloFrom cells r ((n, (cells.lookup n).getD 0) :: acc) else cloFrom cells r acc

theorem closure_loop (env : Env) (f : Str × NameKind → List (Str × Addr) → Sem (ForInStep (List (Str × Addr))))
    (hf : ∀ n k c, f (n, k) c = if k == .free then (do let a ← cellOf env n; pure (.yield ((n, a) :: c))) else pure (.yield c)) :
    ∀ (names : List (Str × NameKind)) (acc : List (Str × Addr)), (∀ y ∈ names, y.2 = .free → ∃ c, env.cells.lookup y.1 = some c) → forIn names acc f = pure (cloFrom env.cells names acc)
  | [], acc, _ => by rw [List.forIn_nil]; rfl
  | (n, k) :: r, acc, h => by
    rw [List.forIn_cons, hf]
    have ih := fun acc => closure_loop env f hf r acc fun y hy => h y (List.mem_cons_of_mem _ hy)
    unfold cloFrom
    by_cases hk : (k == NameKind.free) = true
    · rw [if_pos hk, if_pos hk]
      obtain ⟨c, hc⟩ := h (n, k) List.mem_cons_self (by simpa using hk)
      have e : cellOf env n = pure c := by unfold cellOf; rw [hc]
      rw [e]
      have e2 : (env.cells.lookup n).getD 0 = c := by rw [hc]; rfl
      rw [e2]
      exact ih _
    · rw [if_neg hk, if_neg hk]
      exact ih _
theorem closure_ok {scope : Scope} {env : Env} (h : ∀ y ∈ scope.names, y.2 = .free → ∃ c, env.cells.lookup y.1 = some c) : closureFor scope env = pure (cloFrom env.cells scope.names []) := by
  simp only [closureFor]
  rw [closure_loop env _ (fun n k c => rfl) scope.names [] h]
  rfl

theorem mem_lookup {α : Type} : ∀ {l : List (Str × α)} {n : Str} {c : α}, (n, c) ∈ l → ∃ c', l.lookup n = some c'
  | (k, v) :: r, n, c, h => by
    rw [List.lookup_cons]
    cases hb : n == k with
    | true => exact ⟨_, rfl⟩
    | false =>
      rcases List.mem_cons.mp h with e | h
      · cases e; simp at hb
      · exact mem_lookup h

theorem cloFrom_mem {cells : List (Str × Addr)} : ∀ {names : List (Str × NameKind)} {acc : List (Str × Addr)} {n : Str} {c : Addr}, (n, c) ∈ cloFrom cells names acc → (n, c) ∈ acc ∨ ((n, .free) ∈ names ∧ c = (cells.lookup n).getD 0)
  | [], _, _, _, h => .inl h
  | (m, k) :: r, acc, n, c, h => by
    unfold cloFrom at h
    split at h
    · rename_i hk
      have hk : k = .free := by simpa using hk
      rcases cloFrom_mem h with h | ⟨h1, h2⟩
      · rcases List.mem_cons.mp h with e | h
        · cases e; exact .inr ⟨hk ▸ List.mem_cons_self, rfl⟩
        · exact .inl h
      · exact .inr ⟨List.mem_cons_of_mem _ h1, h2⟩
    · rcases cloFrom_mem h with h | ⟨h1, h2⟩
      · exact .inl h
      · exact .inr ⟨List.mem_cons_of_mem _ h1, h2⟩
theorem cloFrom_acc {cells : List (Str × Addr)} : ∀ {names : List (Str × NameKind)} {acc : List (Str × Addr)} {p : Str × Addr}, p ∈ acc → p ∈ cloFrom cells names acc
  | [], _, _, h => h
  | (m, k) :: r, acc, p, h => by
    unfold cloFrom
    split
    · exact cloFrom_acc (List.mem_cons_of_mem _ h)
    · exact cloFrom_acc h
theorem cloFrom_has {cells : List (Str × Addr)} : ∀ {names : List (Str × NameKind)} {acc : List (Str × Addr)} {n : Str}, (n, .free) ∈ names → (n, (cells.lookup n).getD 0) ∈ cloFrom cells names acc
  | (m, k) :: r, acc, n, h => by
    unfold cloFrom
    rcases List.mem_cons.mp h with e | h
    · cases e
      exact cloFrom_acc List.mem_cons_self
    · split
      · exact cloFrom_has h
      · exact cloFrom_has h

theorem cells_mem : ∀ {names : List (Str × NameKind)} {h : Heap} {acc : List (Str × Addr)} {x : Str} {c : Addr}, (x, c) ∈ cellsFrom h.objs.size names acc →
    (x, c) ∈ acc ∨ ((x, .cell) ∈ names ∧ h.objs.size ≤ c ∧ CellAt (pushCells h names) c none)
  | [], _, _, _, _, h => .inl h
  | (n, k) :: r, h, acc, x, c, hm => by
    unfold cellsFrom at hm
    unfold pushCells
    split at hm
    · rename_i hk
      rw [if_pos hk]
      have hk : k = .cell := by simpa using hk
      rw [← Heap.size_push h { cls := .type "cell", data := .cell none }] at hm
      rcases cells_mem hm with hm | ⟨h1, h2, h3⟩
      · rcases List.mem_cons.mp hm with e | hm
        · cases e
          exact .inr ⟨hk ▸ List.mem_cons_self, Nat.le_refl _, _, pushCells_keeps r _ _ _ (Heap.get?_push_size _ rfl), rfl⟩
        · exact .inl hm
      · rw [Heap.size_push] at h2
        exact .inr ⟨List.mem_cons_of_mem _ h1, Nat.le_of_succ_le h2, h3⟩
    · rename_i hk
      rw [if_neg hk]
      rcases cells_mem hm with hm | ⟨h1, h2, h3⟩
      · exact .inl hm
      · exact .inr ⟨List.mem_cons_of_mem _ h1, h2, h3⟩
theorem cells_acc : ∀ {names : List (Str × NameKind)} {n : Nat} {acc : List (Str × Addr)} {p : Str × Addr}, p ∈ acc → p ∈ cellsFrom n names acc
  | [], _, _, _, h => h
  | (m, k) :: r, n, acc, p, h => by
    unfold cellsFrom
    split
    · exact cells_acc (List.mem_cons_of_mem _ h)
    · exact cells_acc h
theorem cells_has : ∀ {names : List (Str × NameKind)} {n : Nat} {acc : List (Str × Addr)} {x : Str}, (x, .cell) ∈ names → ∃ c, (x, c) ∈ cellsFrom n names acc
  | (m, k) :: r, n, acc, x, h => by
    unfold cellsFrom
    rcases List.mem_cons.mp h with e | h
    · cases e
      exact ⟨n, cells_acc List.mem_cons_self⟩
    · split
      · exact cells_has h
      · exact cells_has h
theorem cells_inj : ∀ {names : List (Str × NameKind)} {h : Heap} {acc : List (Str × Addr)} {x y : Str} {c : Addr}, (∀ p ∈ acc, p.2 < h.objs.size) → (∀ x y c, (x, c) ∈ acc → (y, c) ∈ acc → x = y) →
    (x, c) ∈ cellsFrom h.objs.size names acc → (y, c) ∈ cellsFrom h.objs.size names acc → x = y
  | [], _, _, _, _, _, _, hi, h1, h2 => hi _ _ _ h1 h2
  | (n, k) :: r, h, acc, x, y, c, hl, hi, h1, h2 => by
    unfold cellsFrom at h1 h2
    split at h1
    · rename_i hk
      rw [if_pos hk] at h2
      rw [← Heap.size_push h { cls := .type "cell", data := .cell none }] at h1 h2
      refine cells_inj (h := h.push _) (fun p hp => ?_) (fun x y c a b => ?_) h1 h2
      · rw [Heap.size_push]
        rcases List.mem_cons.mp hp with rfl | hp
        · exact Nat.lt_succ_self _
        · exact Nat.lt_succ_of_lt (hl p hp)
      · rcases List.mem_cons.mp a with e | a <;> rcases List.mem_cons.mp b with e' | b
        · cases e; cases e'; rfl
        · cases e; exact absurd (hl _ b) (Nat.lt_irrefl _)
        · cases e'; exact absurd (hl _ a) (Nat.lt_irrefl _)
        · exact hi _ _ _ a b
    · rename_i hk
      rw [if_neg hk] at h2
      exact cells_inj hl hi h1 h2

theorem newEnv_comp {M : Model} {A : Around} {E : Value → Shared → Prop} {s : Shared} {scope : Scope} {globals : Addr} {closure : List (Str × Addr)} {qual : Str} {func : Option Addr} {code : Value} {around : Env} {builtins : Addr} {Q : Env → Shared → Prop}
    (h : Q (newEnv scope s.heap.objs.size globals (cellsFrom (s.heap.objs.size + 1) scope.names closure) qual func code (some around) builtins)
      { s with heap := pushCells (s.heap.push { cls := .type "dict", data := .dict #[] }) scope.names }) :
    wpAny M A (newFunctionEnv scope globals closure [] qual func code (some around) builtins) Q E s := by
  simp only [newFunctionEnv, Option.isSome_some, if_true]
  refine wpAny_bind (wpAny_alloc ?_)
  refine wpAny_bind (wpAny_layCells _ (fun n k c => rfl) scope.names closure _ _ ?_)
  rw [show ({ s with heap := s.heap.push { cls := .type "dict", data := .dict #[] } } : Shared).heap.objs.size = s.heap.objs.size + 1 from Heap.size_push ..]
  rw [List.forIn_nil]
  exact wpAny_bind (wpAny_pure (wpAny_pure h))

/-- every name of the written scope, in the scope that runs -/
theorem lookup_relS {sc : Scope} : ∀ {names : List (Str × NameKind)} {x : Str} {k : NameKind},
    (names.map fun (n, k) => if (k == NameKind.free && sc.kind == .function && sc.names.lookup n == some .cell) then (n, NameKind.cell) else (n, k)).lookup x = some k →
    ∃ k', names.lookup x = some k' ∧ (k = k' ∨ (k' = .free ∧ k = .cell))
  | [], _, _, h => by simp at h
  | (n, k₀) :: r, x, k, h => by
    have ih := @lookup_relS sc r x k
    have h' : List.lookup x ((if (k₀ == NameKind.free && sc.kind == .function && sc.names.lookup n == some .cell) = true then (n, NameKind.cell) else (n, k₀)) :: (r.map _)) = some k := h
    cases hx : x == n with
    | true =>
      simp only [List.lookup_cons, hx]
      by_cases hc : (k₀ == NameKind.free && sc.kind == .function && sc.names.lookup n == some .cell) = true
      · rw [if_pos hc] at h'
        simp only [List.lookup_cons, hx] at h'
        cases h'
        simp only [Bool.and_eq_true, beq_iff_eq] at hc
        exact ⟨k₀, rfl, .inr ⟨hc.1.1, rfl⟩⟩
      · rw [if_neg hc] at h'
        simp only [List.lookup_cons, hx] at h'
        cases h'
        exact ⟨_, rfl, .inl rfl⟩
    | false =>
      simp only [List.lookup_cons, hx]
      by_cases hc : (k₀ == NameKind.free && sc.kind == .function && sc.names.lookup n == some .cell) = true
      · rw [if_pos hc] at h'
        simp only [List.lookup_cons, hx] at h'
        exact ih h'
      · rw [if_neg hc] at h'
        simp only [List.lookup_cons, hx] at h'
        exact ih h'
/-- the names of a comprehension's block: its own (with their places in N), or captured -/
structure BlkOk (N : List Str) (sc scope : Scope) (own : List (Str × Nat)) : Prop where
  kind : scope.kind = .function
  uniq : ∀ y ∈ scope.names, scope.names.lookup y.1 = some y.2
  ix : ∀ p ∈ own, N[p.2]? = some p.1
  free : ∀ y ∈ scope.names, y.2 = .free → sc.names.lookup y.1 = some .cell ∨ sc.names.lookup y.1 = some .free
  own : ∀ y ∈ scope.names, y.2 = .local ∨ y.2 = .cell → y.1 ∈ own.map (·.1) ∨ y.1 ∉ N
/-- the slots of the block's own names forgotten -/
def wipe (σ : St) : List Nat → St
  | [] => σ
  | v :: vs => (wipe σ vs).set v none
theorem wipe_length (σ : St) : ∀ vs : List Nat, (wipe σ vs).length = σ.length
  | [] => rfl
  | v :: vs => by unfold wipe; rw [List.length_set, wipe_length σ vs]
theorem wipe_some {σ : St} {i : Nat} {x : V} : ∀ {vs : List Nat}, (wipe σ vs)[i]? = some (some x) → σ[i]? = some (some x) ∧ i ∉ vs
  | [], h => ⟨h, by simp⟩
  | v :: vs, h => by
    unfold wipe at h
    by_cases hi : v = i
    · subst hi
      by_cases hv : v < (wipe σ vs).length
      · rw [List.getElem?_set_self hv] at h; cases h
      · rw [List.getElem?_eq_none (by simpa using hv)] at h; cases h
    · rw [List.getElem?_set_ne hi] at h
      obtain ⟨h1, h2⟩ := wipe_some h
      exact ⟨h1, by simp only [List.mem_cons, not_or]; exact ⟨fun e => hi e.symm, h2⟩⟩

/-- the context of a block that starts at s, its iterator's objects at fp -/
abbrev Cx.blk (X : Cx) (s : Shared) (H : Hp) (scope : Scope) (cenv : Env) (fp : List Addr) : Cx := { X with s_0 := s, H_0 := H, env := cenv, outer := X.stack, ex := fp, fn := fun x => scope.names.lookup x == some .cell, pn := [], xe := fun _ _ => False }
section
variable {X : Cx} {pins : List (Addr × Obj)} {σ : St} {H : Hp} {s : Shared}
theorem block_start {scope : Scope} {own : List (Str × Nat)} {fp : List Addr} (I : Inv X pins σ H s) (ok : BlkOk X.N X.env.scope scope own) (hN : X.N.Nodup) (hfp : ∀ b ∈ fp, FpOk X pins H b ∧ b < s.heap.objs.size) :
    Inv (X.blk s H scope (compEnvC scope (cellsFrom (s.heap.objs.size + 1) scope.names (cloFrom X.env.cells scope.names [])) s.heap.objs.size X.env) fp) [] (wipe σ (own.map (·.2))) H { s with heap := pushCells (s.heap.push { cls := .type "dict", data := .dict #[] }) scope.names } := by
  have hfree : ∀ y ∈ scope.names, y.2 = .free → ∃ c, X.env.cells.lookup y.1 = some c := fun y hy e => by
    rcases ok.free y hy e with k | k
    · exact I.ok.has _ (.inl k)
    · exact I.ok.has _ (.inr k)
  generalize hcenv : compEnvC scope (cellsFrom (s.heap.objs.size + 1) scope.names (cloFrom X.env.cells scope.names [])) s.heap.objs.size X.env = cenv
  have kp : ∀ b o, s.heap.get? b = some o → (pushCells (s.heap.push { cls := .type "dict", data := .dict #[] }) scope.names).get? b = some o := fun b o e => pushCells_keeps _ _ _ _ (Heap.get?_push_of_some _ e)
  have hL : cenv.locals = s.heap.objs.size := by rw [← hcenv]; rfl
  have hcl : cenv.cells = cellsFrom (s.heap.objs.size + 1) scope.names (cloFrom X.env.cells scope.names []) := by rw [← hcenv]; rfl
  have hsc : cenv.scope = relS scope X.env.scope := by rw [← hcenv]; rfl
  rw [← Heap.size_push s.heap { cls := .type "dict", data := .dict #[] }] at hcl
  have cm : ∀ {y c}, (y, c) ∈ cloFrom X.env.cells scope.names [] → X.env.cells.lookup y = some c ∧ c < s.heap.objs.size := fun {y c} hm => by
    rcases cloFrom_mem hm with hm | ⟨h1, rfl⟩
    · cases hm
    · obtain ⟨c, hc⟩ := hfree _ h1 rfl
      rw [hc]
      obtain ⟨w, z⟩ := I.cell _ _ hc
      exact ⟨rfl, z.lt⟩
  have mem : ∀ {y c}, cenv.cells.lookup y = some c → (X.env.cells.lookup y = some c ∧ c < s.heap.objs.size) ∨ (s.heap.objs.size + 1 ≤ c ∧ CellAt (pushCells (s.heap.push { cls := .type "dict", data := .dict #[] }) scope.names) c none) := fun {y c} e => by
    rw [hcl] at e
    rcases cells_mem (PySem.mem_of_lookup e) with hm | ⟨_, h2, h3⟩
    · exact .inl (cm hm)
    · rw [Heap.size_push] at h2; exact .inr ⟨h2, h3⟩
  have look : ∀ {y}, scope.names.lookup y = some .free → ∃ c, cenv.cells.lookup y = some c ∧ X.env.cells.lookup y = some c := fun {y} hl => by
    have hy : (y, NameKind.free) ∈ scope.names := PySem.mem_of_lookup hl
    obtain ⟨c', e'⟩ := mem_lookup (cells_acc (names := scope.names) (n := (s.heap.push { cls := .type "dict", data := .dict #[] }).objs.size) (cloFrom_has (cells := X.env.cells) (acc := []) hy))
    rw [← hcl] at e'
    refine ⟨c', e', ?_⟩
    rw [hcl] at e'
    rcases cells_mem (PySem.mem_of_lookup e') with hm | ⟨h1, _, _⟩
    · exact (cm hm).1
    · have := ok.uniq _ h1
      rw [hl] at this; cases this
  have okB : (X.blk s H scope cenv fp).Ok := by
    refine ⟨I.ok.mod, by show cenv.scope.kind = _; rw [hsc]; exact ok.kind, by show cenv.globals = _; rw [← hcenv]; exact I.ok.glob, by show cenv.builtins = _; rw [← hcenv]; exact I.ok.blt, by show s.heap.objs.size ≤ cenv.locals; rw [hL]; exact Nat.le_refl _,
      fun y z c e1 e2 => ?_, fun y hy => ?_, fun y c z e => ?_, I.ok.hd, I.ok.frames, .inl rfl, fun b hb => ⟨?_, fun y c e z => ?_⟩, I.bs, Nat.le_trans I.ok.bsz I.sz, fun b o e hb => ?_, fun b hb z => ?_, I.stack, I.stkFree⟩
    · have e1 : cenv.cells.lookup y = some c := e1
      have e2 : cenv.cells.lookup z = some c := e2
      rw [hcl] at e1 e2
      refine cells_inj (fun p hp => ?_) (fun y z c a b => I.ok.inj y z c (cm a).1 (cm b).1) (PySem.mem_of_lookup e1) (PySem.mem_of_lookup e2)
      rw [Heap.size_push]
      exact Nat.lt_succ_of_lt (cm (y := p.1) (c := p.2) hp).2
    · show ∃ c, cenv.cells.lookup y = some c
      have key : ∀ k, cenv.kindOf y = some k → (k = .cell ∨ k = .free) → ∃ c, cenv.cells.lookup y = some c := fun k hk hk' => by
        unfold Env.kindOf at hk
        rw [hsc] at hk
        obtain ⟨k', e, r⟩ := lookup_relS hk
        have : k' = .cell ∨ k' = .free := by
          rcases r with rfl | ⟨rfl, _⟩
          · exact hk'
          · exact .inr rfl
        rcases this with rfl | rfl
        · obtain ⟨c, hm⟩ := cells_has (n := (s.heap.push { cls := .type "dict", data := .dict #[] }).objs.size) (acc := cloFrom X.env.cells scope.names []) (PySem.mem_of_lookup e)
          obtain ⟨c', e'⟩ := mem_lookup hm
          exact ⟨c', by rw [hcl]; exact e'⟩
        · obtain ⟨c, h1, _⟩ := look e
          exact ⟨c, h1⟩
      rcases hy with hy | hy
      · exact key _ hy (.inl rfl)
      · exact key _ hy (.inr rfl)
    · have z : (scope.names.lookup y == some NameKind.cell) = true := z
      have z : scope.names.lookup y = some .cell := by simpa using z
      have e : cenv.cells.lookup y = some c := e
      rw [hcl] at e
      rcases cells_mem (PySem.mem_of_lookup e) with hm | ⟨_, h2, _⟩
      · rcases cloFrom_mem hm with hm | ⟨h1, _⟩
        · cases hm
        · have q := ok.uniq _ h1
          rw [z] at q; cases q
      · rw [Heap.size_push] at h2
        exact Nat.le_of_succ_le h2
    · show b ≠ cenv.locals
      rw [hL]; exact Nat.ne_of_lt (hfp b hb).2
    · have e : cenv.cells.lookup y = some c := e
      rcases mem e with ⟨h1, _⟩ | ⟨h1, _⟩
      · exact (hfp b hb).1.2.2.2.2.1 y c h1 z
      · have h2 : s.heap.objs.size + 1 ≤ b := by rw [← z]; exact h1
        exact absurd (Nat.lt_of_lt_of_le (hfp b hb).2 (Nat.le_of_succ_le h2)) (Nat.lt_irrefl _)
    · rcases (hfp b hb).1.2.2.2.1 with z | z
      · exact I.ok.noex b o e z
      · exact absurd (Nat.lt_of_lt_of_le (Heap.lt_size e) (Nat.le_trans I.ok.bsz z)) (Nat.lt_irrefl _)
    · rcases List.mem_cons.mp (I.stkSub b z) with z | z
      · exact (hfp b hb).1.2.1 z
      · exact (hfp b hb).1.2.2.1 z
  refine ⟨okB, rfl, I.bare, Un.kept kp, ⟨fun _ => none, ?_, fun i y av e1 e2 e3 => ?_⟩, fun y c e => ?_, ?_, fun y c e => ?_, fun p hp => ?_, I.hok.kept kp, by rw [wipe_length]; exact I.len⟩
  · show Heap.Ns _ cenv.locals _
    rw [hL]
    exact Heap.Ns.keeps (Heap.Ns.new ..) fun b o e => pushCells_keeps _ _ _ _ e
  · obtain ⟨e2, hne⟩ := wipe_some e2
    have hfr : scope.names.lookup y = some .free ∧ (cenv.kindOf y = some .cell ∨ cenv.kindOf y = some .free) := by
      have key : ∀ k, cenv.scope.names.lookup y = some k → k = .local ∨ k = .cell ∨ k = .free → scope.names.lookup y = some .free ∧ (cenv.kindOf y = some .cell ∨ cenv.kindOf y = some .free) := fun k hk hk' => by
        have hk0 := hk
        rw [hsc] at hk
        obtain ⟨k', e, r⟩ := lookup_relS hk
        have no : ¬ (k' = .local ∨ k' = .cell) := fun hh => by
          rcases ok.own _ (PySem.mem_of_lookup e) hh with e' | e'
          · obtain ⟨p, hp, hpy⟩ := List.mem_map.mp e'
            have e3 := ok.ix p hp
            have : p.1 = y := hpy
            rw [this] at e3
            exact hne (List.mem_map.mpr ⟨p, hp, nodup_ix hN e3 e1⟩)
          · exact e' (List.mem_of_getElem? e1)
        rcases r with rfl | ⟨rfl, rfl⟩
        · rcases hk' with rfl | rfl | rfl
          · exact absurd (.inl rfl) no
          · exact absurd (.inr rfl) no
          · exact ⟨e, .inr hk0⟩
        · exact ⟨e, .inl hk0⟩
      have e3 : Vis cenv.scope y := e3
      rcases e3 with e3 | e3 | e3
      · exact key _ e3 (.inl rfl)
      · exact key _ e3 (.inr (.inl rfl))
      · exact key _ e3 (.inr (.inr rfl))
    obtain ⟨m, hn, hl⟩ := I.loc
    have hvis : Vis X.env.scope y := (ok.free _ (PySem.mem_of_lookup hfr.1) rfl).elim (fun k => .inr (.inl k)) (fun k => .inr (.inr k))
    obtain ⟨w, r, q⟩ := hl i y av e1 e2 hvis
    refine ⟨w, r, .inr ⟨hfr.2, ?_⟩⟩
    obtain ⟨c, h1, h2⟩ := look hfr.1
    rcases q with ⟨k, _⟩ | ⟨_, c', e', z⟩
    · have k : X.env.scope.names.lookup y = some .local := k
      rcases ok.free _ (PySem.mem_of_lookup hfr.1) rfl with k' | k' <;> rw [show X.env.scope.names.lookup y = _ from k'] at k <;> cases k
    · rw [h2] at e'; cases e'
      exact ⟨c, h1, z.keeps kp⟩
  · have e : cenv.cells.lookup y = some c := e
    rcases mem e with ⟨h1, _⟩ | ⟨_, z⟩
    · obtain ⟨w, z⟩ := I.cell y c h1
      exact ⟨w, z.keeps kp⟩
    · exact ⟨_, z⟩
  · show H cenv.locals = none
    rw [hL]; exact I.hok.fresh (Nat.le_refl _)
  · have e : cenv.cells.lookup y = some c := e
    rcases mem e with ⟨h1, _⟩ | ⟨h1, _⟩
    · exact I.freeC y c h1
    · exact I.hok.fresh (Nat.le_of_succ_le h1)
  · exact absurd (show p ∈ ([] : List (Addr × Obj)) ++ [] from hp) (by simp)

/-- an item appended to a tracked list -/
theorem app_ok {E : Value → Shared → Prop} {D : Addr} {xs : List V} {y : V} {v : Value} {Q : Value → Shared → Prop} (I : Inv X pins σ H s) (hD : H D = some (.lst xs)) (hz : xs.length < sizeLine) (r : RelV y v)
    (h : ∀ s', Inv X pins σ (upd H D (.lst (xs ++ [y]))) s' → Q .none s') : wpAny (model X.prog X.w) X.A (call (.builtin "list.append") [.ref D, v]) Q E s := by
  obtain ⟨hz', its, n, ri, e⟩ := I.hok D _ hD
  have hl := ri.length
  refine append_at (hsz := by rw [List.size_toArray]; omega) e fun h' sb ho' => ?_
  refine h { s with heap := h' } (I.write (t' := s.toks) (by rw [hD]; trivial) (.inl rfl) (fun b u hb q => (sb.2 b hb).trans q) ⟨_, ho'⟩ ⟨by rw [List.length_append]; exact hz, its ++ [v], n + 1, ri.append (.cons r .nil), ?_⟩)
  rw [ho']
  simp

/-- a clause's tests -/
def PTs (X : Cx) (ifs : List Expr) (t : TT) : Prop :=
  ∀ (pins : List (Addr × Obj)) (s : Shared) (σ : St) (H : Hp) (Q : Bool → Hp → Prop), Inv X pins σ H s → t σ H Q →
    wpAny (model X.prog X.w) X.A (forIn ifs true fun c r => if r = true then do let ok ← isTrue c X.env (eval c X.env); pure (ForInStep.yield ok) else pure (ForInStep.yield r)) (TP X pins σ Q) X.xe s
def tYes : TT := fun _ H Q => Q true H
theorem pts_nil : PTs X [] tYes := fun _ _ _ H _ I h => wpAny_tests_nil ⟨H, I, h⟩
end

theorem thnF {α : Type} {t : Sem α} {Q Q' : α → Shared → Prop} {M : Model} {A : Around} {E : Value → Shared → Prop} {s : Shared} (h : wpAny M A t Q (fun _ _ => False) s) (hQ : ∀ a s, Q a s → Q' a s) : wpAny M A t Q' E s := wpAny_mono h hQ fun _ _ z => False.elim z

/-- the loop of a list comprehension's block, the target of any form (codeAny_compLoop_tests asks a target that no tuple goes to; statement and proof follow it, PyProof/CompMap.lean:41-61, with the step letOwnedTupleGo kept) -/
theorem compLoop_any {prog : Program} {w : World} {A : Around} {R : Result → Shared → Prop} {s : Shared} {elt target iter : Expr} {ifs : List Expr} {scope : Scope} {pos : Pos} {it acc : Value} {env : Env} (I : Nat → Shared → Prop)
    (turn : ∀ n s, I n s → wpAny (model prog w) A (pyNext it) (fun r s₁ => match r with
      | none => R (.ok .next) s₁
      | some v => wpAny (model prog w) A (letOwnedTupleGo target it v) (fun _ s₁' => wpAny (model prog w) A (assign target env v) (fun _ s₂ =>
          wpAny (model prog w) A (forIn ifs true fun c r => if r = true then do let ok ← isTrue c env (eval c env); pure (ForInStep.yield ok) else pure (ForInStep.yield r)) (fun ok s₃ =>
            if ok = true then wpAny (model prog w) A (eval elt env) (fun x s₄ =>
              wpAny (model prog w) A (call (.builtin "list.append") [acc, x]) (fun _ s₅ => ∃ m, m < n ∧ I m s₅) (notedBy (model prog w) A env fun e s' => R (.error e) s') s₄) (notedBy (model prog w) A env fun e s' => R (.error e) s') s₃
            else ∃ m, m < n ∧ I m s₃) (notedBy (model prog w) A env fun e s' => R (.error e) s') s₂) (notedBy (model prog w) A env fun e s' => R (.error e) s') s₁') (notedBy (model prog w) A env fun e s' => R (.error e) s') s₁) (notedBy (model prog w) A env fun e s' => R (.error e) s') s)
    (n : Nat) (h : I n s) :
    codeAny (model prog w) A (.compLoop (.ListComp elt [⟨target, iter, ifs, 0⟩] scope pos) 0 it acc env) R s := by
  refine codeAny_loop rfl I (fun n s hI => ?_) n h
  show wpAny _ A ((compTurn (.ListComp elt [⟨target, iter, ifs, 0⟩] scope pos) 0 it acc env).onRaise (fun x => do noteFrame x env; theTreesLotGoes x)) _ _ s
  refine wpAny_noted ?_
  rw [compTurn_list]
  refine wpAny_bind (wpAny_standAt (wpAny_bind (wpAny_mono (turn n s hI) (fun r s₁ h₁ => ?_) fun _ _ h' => h')))
  cases r with
  | none => exact wpAny_pure h₁
  | some v =>
    refine wpAny_bind (wpAny_mono h₁ (fun _ s₁' h₁' => ?_) fun _ _ h' => h')
    refine wpAny_bind (wpAny_mono h₁' (fun _ s₂ h₂ => wpAny_bind (wpAny_mono h₂ (fun ok s₃ h₃ => ?_) fun _ _ h' => h')) fun _ _ h' => h')
    cases ok with
    | false => exact wpAny_pure ⟨rfl, h₃⟩
    | true =>
      exact wpAny_bind (wpAny_bind (wpAny_mono h₃ (fun x s₄ h₄ => wpAny_bind (wpAny_mono h₄ (fun _ s₅ h₅ => wpAny_pure (wpAny_pure ⟨rfl, h₅⟩)) fun _ _ h' => h')) fun _ _ h' => h'))

section
variable {X : Cx}
/-- [elt for target in iter if ..]: D the new list; W by the turn and a measure, Nx what a turn is to reach -/
def tLc (wi : TI) (g : TG) (tt : TT) (te : TE) (vs : List Nat) : TE := fun σ H Q => wi σ H fun J H1 => ∀ D, H1 D = none → ∃ W : Nat → Nat → Hp → Prop, (∃ m, W 0 m (upd H1 D (.lst []))) ∧ ∀ i m H, W i m H →
  (J.stop i H ∧ Q (.ref D) H) ∨ (J.go i H ∧ ∃ Nx : Hp → Prop, (∀ H', Nx H' → ∃ m', m' < m ∧ W (i + 1) m' H') ∧ ∀ x H', J.yld i H x H' → g x (wipe σ vs) H' fun σ2 H2 => wipe σ2 vs = wipe σ vs ∧ tt σ2 H2 fun b H3 =>
    if b = true then te σ2 H3 fun y H4 => ∃ acc, H4 D = some (.lst acc) ∧ acc.length < sizeLine ∧ Nx (upd H4 D (.lst (acc ++ [y]))) else Nx H3)
theorem lc_core {pins : List (Addr × Obj)} {s : Shared} {σ : St} {H : Hp} {Q : VK} {elt tg iter : Expr} {ifs : List Expr} {scope : Scope} {own : List (Str × Nat)} {pos pos' : Pos} {wi : TI} {g : TG} {tt : TT} {te : TE} {use : Option (Value → Sem Unit)} {Qf : Value → Shared → Prop}
    (hc : X.calm = true) (hN : X.N.Nodup) (I : Inv X pins σ H s) (hi : PI X tg iter wi) (ok : BlkOk X.N X.env.scope scope own)
    (hg : ∀ (s : Shared) (H : Hp) (C : Addr) (cl : List (Str × Addr)) (fp : List Addr), PG (X.blk s H scope (compEnvC scope cl C X.env) fp) tg g) (ht : ∀ (s : Shared) (H : Hp) (C : Addr) (cl : List (Str × Addr)) (fp : List Addr), PTs (X.blk s H scope (compEnvC scope cl C X.env) fp) ifs tt)
    (he : ∀ (s : Shared) (H : Hp) (C : Addr) (cl : List (Str × Addr)) (fp : List Addr), PE (X.blk s H scope (compEnvC scope cl C X.env) fp) elt te) (hs : ∀ x, foldedSetIterable iter X.env x = pure x)
    (h : tLc wi g tt te (own.map (·.2)) σ H Q)
    (hRR : ∀ D C s' m H', Inv X pins σ H' s' → Q (.ref D) H' → s'.heap.Ns C m → FpOk X pins H' C → compPost (model X.prog X.w) X.A X.xe use Qf (.ref D) C (.ok .next) s') :
    wpAny (model X.prog X.w) X.A (comprehension (.ListComp elt [⟨tg, iter, ifs, 0⟩] scope pos) scope X.env pos' (newList []) false (eval iter X.env) use) Qf X.xe s := by
  have hfree : ∀ y ∈ scope.names, y.2 = .free → ∃ c, X.env.cells.lookup y.1 = some c := fun y hy e => by
    rcases ok.free y hy e with k | k
    · exact I.ok.has _ (.inl k)
    · exact I.ok.has _ (.inr k)
  refine wpAny_comprehension_free (use := use) rfl hs (closure_ok hfree) ok.kind (fun y hy e => by rw [ok.uniq y hy, e])
    (thn (hi pins s σ H _ I h) fun xv s1 hx => thn hx fun itv s2 h2 => ?_)
  obtain ⟨it, fp, tn, J, H2, e, I2, T, st2, f2, q⟩ := h2
  subst e
  refine wpAny_newObj_type (newEnv_comp ?_) (by show 0 ≤ sizeLine; decide)
  generalize hD : s2.heap.objs.size = D
  have hDn : H2 D = none := I2.hok.fresh (Nat.le_of_eq hD)
  obtain ⟨W, ⟨m0, w0⟩, turn⟩ := q D hDn
  -- the new list
  generalize hs3 : ({ s2 with heap := s2.heap.push { cls := .type "list", data := .seq ([] : List Value).toArray } } : Shared) = s3
  have I3 : Inv X pins σ (upd H2 D (.lst [])) s3 := by
    rw [← hs3]
    refine I2.laid (t' := s2.toks) (fun b o e => Heap.get?_push_of_some _ e) (Nat.le_of_eq hD) ⟨Nat.zero_le _, [], 0, .nil, ?_⟩
    rw [← hD]
    exact Heap.get?_push_size _ rfl
  have h3 : s3.heap = s2.heap.push { cls := .type "list", data := .seq ([] : List Value).toArray } := by rw [← hs3]
  have sz : ∀ b ∈ fp, b < s2.heap.objs.size := fun b hb => by
    obtain ⟨o, e, _⟩ := T.obj _ _ st2 b hb
    exact Heap.lt_size e
  have f3 : ∀ b ∈ fp, FpOk X pins (upd H2 D (.lst [])) b ∧ b < s3.heap.objs.size := fun b hb => by
    have hlt := sz b hb
    refine ⟨⟨?_, (f2 b hb).2⟩, by rw [h3, Heap.size_push]; exact Nat.lt_succ_of_lt hlt⟩
    rw [upd_ne (by rw [← hD]; exact Nat.ne_of_lt hlt)]
    exact (f2 b hb).1
  have st3 : tn 0 s3.heap := T.keep _ _ _ st2 fun b _ o e => by rw [h3]; exact Heap.get?_push_of_some _ e
  have I4 := block_start I3 ok hN f3
  have pg := hg s3 (upd H2 D (.lst [])) s3.heap.objs.size (cellsFrom (s3.heap.objs.size + 1) scope.names (cloFrom X.env.cells scope.names [])) fp
  have pt := ht s3 (upd H2 D (.lst [])) s3.heap.objs.size (cellsFrom (s3.heap.objs.size + 1) scope.names (cloFrom X.env.cells scope.names [])) fp
  have pe := he s3 (upd H2 D (.lst [])) s3.heap.objs.size (cellsFrom (s3.heap.objs.size + 1) scope.names (cloFrom X.env.cells scope.names [])) fp
  show codeAny _ _ (.compStart (.ListComp elt [⟨tg, iter, ifs, 0⟩] scope pos) 0 (.ref it) (.ref D) (compEnvC scope (cellsFrom (s3.heap.objs.size + 1) scope.names (cloFrom X.env.cells scope.names [])) s3.heap.objs.size X.env)) (compPost (model X.prog X.w) X.A X.xe use Qf (.ref D) s3.heap.objs.size) { s3 with heap := pushCells (s3.heap.push { cls := .type "dict", data := .dict #[] }) scope.names }
  have nfp : ∀ b ∈ fp, (upd H2 D (.lst [])) b = none := fun b hb => (f3 b hb).1.1
  generalize hce : compEnvC scope (cellsFrom (s3.heap.objs.size + 1) scope.names (cloFrom X.env.cells scope.names [])) s3.heap.objs.size X.env = ce at I4 pg pt pe ⊢
  have cL : ce.locals = s3.heap.objs.size := by subst hce; rfl
  generalize hH3 : upd H2 D (.lst []) = H3 at I3 I4 pg pt pe w0 nfp f3
  generalize hs4 : ({ s3 with heap := pushCells (s3.heap.push { cls := .type "dict", data := .dict #[] }) scope.names } : Shared) = s4 at I4 ⊢
  have st4 : tn 0 s4.heap := T.keep _ _ _ st3 fun b _ o e => by rw [← hs4]; exact pushCells_keeps _ _ _ _ (Heap.get?_push_of_some _ e)
  have stat : ∀ {σ' : St} {H' : Hp} {s' : Shared}, Inv (X.blk s3 H3 scope ce fp) [] σ' H' s' → (∀ b ∈ fp, H' b = none) → ∀ b ∈ fp, FpOk (X.blk s3 H3 scope ce fp) [] H' b := fun {σ' H' s'} I' hn b hb =>
    ⟨hn b hb, (I'.ok.exf b hb).1, I'.ok.exfs b hb, .inl hb, fun x c e => (I'.ok.exf b hb).2 x c e, fun p hp => absurd (show p ∈ ([] : List (Addr × Obj)) ++ [] from hp) (by simp)⟩
  have loop : codeAny (model X.prog X.w) X.A (.compLoop (.ListComp elt [⟨tg, iter, ifs, 0⟩] scope pos) 0 (.ref it) (.ref D) ce) (compPost (model X.prog X.w) X.A X.xe use Qf (.ref D) s3.heap.objs.size) s4 := by
    refine compLoop_any (fun n s' => ∃ i H', Inv (X.blk s3 H3 scope ce fp) [] (wipe σ (own.map (·.2))) H' s' ∧ tn i s'.heap ∧ (∀ b ∈ fp, H' b = none) ∧ W i n H') ?_ m0 ⟨0, H3, I4, st4, nfp, w0⟩
    rintro n s5 ⟨i, H5, I5, st5, n5, w5⟩
    rcases turn i n H5 w5 with ⟨stop, qq⟩ | ⟨go, Nx, hNx, step⟩
    · have td := T.done (X.blk s3 H3 scope ce fp) rfl rfl rfl hc i [] s5 _ H5 (fun _ _ => False) I5 (stat I5 n5) st5 stop
      refine thnF td fun r s6 ⟨hr, I6⟩ => ?_
      subst hr
      -- back in the def's context
      have I7 : Inv X pins σ H5 s6 := I3.call' (ch := fp) I6.os I6.base I6.hok I6.bare fun b hb => ⟨(f3 b hb).1.2.2.2.1, (f3 b hb).1.2.1, (f3 b hb).1.2.2.2.2.1, (f3 b hb).1.2.2.2.2.2⟩
      have nC : H5 s3.heap.objs.size = none := by
        have z : H5 ce.locals = none := I6.free
        rw [cL] at z
        exact z
      obtain ⟨m, hn, _⟩ := I6.loc
      have hn : s6.heap.Ns ce.locals m := hn
      rw [cL] at hn
      exact hRR D s3.heap.objs.size s6 m H5 I7 qq hn (I3.fpOk (Nat.le_refl _) nC)
    · have ti := T.item (X.blk s3 H3 scope ce fp) rfl rfl rfl hc i [] s5 _ H5 (fun _ _ => False) I5 (stat I5 n5) st5 go
      refine thnF ti fun r s6 ⟨u, hr, h6⟩ => ?_
      subst hr
      refine thnF h6 fun _ s7 ⟨x, H7, I7, r7, y7, st7, n7⟩ => ?_
      have I7' := I7.pinned (stat I7 n7) (T.obj _ _ st7)
      refine thnF (pg _ s7 _ H7 x u _ I7' r7 (step x H7 y7)) fun _ s8 ⟨σ8, H8, I8, hw8, q8⟩ => ?_
      refine thnF (pt _ s8 σ8 H8 _ I8 q8) fun b s9 ⟨H9, I9, q9⟩ => ?_
      -- the turn's end
      have fin : ∀ {s' : Shared} {H' : Hp}, Inv (X.blk s3 H3 scope ce fp) ([] ++ pinsAt fp s7.heap) σ8 H' s' → Nx H' → ∃ m, m < n ∧ ∃ i H', Inv (X.blk s3 H3 scope ce fp) [] (wipe σ (own.map (·.2))) H' s' ∧ tn i s'.heap ∧ (∀ b ∈ fp, H' b = none) ∧ W i m H' := fun {s' H'} I' nx => by
        obtain ⟨m', hm, w'⟩ := hNx H' nx
        have pin' : ∀ b ∈ fp, ∀ o, s7.heap.get? b = some o → s'.heap.get? b = some o ∧ H' b = none := fun b hb o e =>
          let z := I'.pin (b, o) (List.mem_append_right _ (List.mem_append_right _ (mem_pinsAt hb e)))
          ⟨z.1, z.2.1⟩
        have hl : (wipe σ (own.map (·.2))).length = σ8.length := by rw [← hw8, wipe_length]
        refine ⟨m', hm, i + 1, H', (I'.unpinned (pins := [])).weak hl (fun j v e => ?_), T.keep _ _ _ st7 fun b hb o e => (pin' b hb o e).1, fun b hb => ?_, w'⟩
        · rw [← hw8] at e
          exact (wipe_some e).1
        · obtain ⟨o, e, _⟩ := T.obj _ _ st7 b hb
          exact (pin' b hb o e).2
      cases b with
      | false =>
        simp only [Bool.false_eq_true, if_false] at q9 ⊢
        exact fin I9 q9
      | true =>
        simp only [if_true] at q9 ⊢
        refine thnF (pe _ s9 σ8 H9 _ I9 q9) fun z s10 ⟨yv, H10, I10, r10, acc, hD10, hz10, nx⟩ => ?_
        exact app_ok (X := X.blk s3 H3 scope ce fp) I10 hD10 hz10 r10 fun s11 I11 => fin I11 nx
  exact codeAny_compStart_list loop (T.self X.A 0 _ _ _ st4 loop)
/-- as a value -/
theorem pe_lc {elt tg iter : Expr} {ifs : List Expr} {scope : Scope} {own : List (Str × Nat)} {pos : Pos} {wi : TI} {g : TG} {tt : TT} {te : TE} (hc : X.calm = true) (hN : X.N.Nodup) (hi : PI X tg iter wi) (ok : BlkOk X.N X.env.scope scope own)
    (hg : ∀ (s : Shared) (H : Hp) (C : Addr) (cl : List (Str × Addr)) (fp : List Addr), PG (X.blk s H scope (compEnvC scope cl C X.env) fp) tg g) (ht : ∀ (s : Shared) (H : Hp) (C : Addr) (cl : List (Str × Addr)) (fp : List Addr), PTs (X.blk s H scope (compEnvC scope cl C X.env) fp) ifs tt)
    (he : ∀ (s : Shared) (H : Hp) (C : Addr) (cl : List (Str × Addr)) (fp : List Addr), PE (X.blk s H scope (compEnvC scope cl C X.env) fp) elt te) (hs : ∀ x, foldedSetIterable iter X.env x = pure x := by intro _; rfl) :
    PE X (.ListComp elt [⟨tg, iter, ifs, 0⟩] scope pos) (tLc wi g tt te (own.map (·.2))) := by
  intro pins s σ H Q I h
  rw [eval_ListComp]
  refine lc_core hc hN I hi ok hg ht he hs h fun D C s' m H' I' q hn f => ⟨m, hn, fun h'' sb => ?_⟩
  obtain ⟨f0, f1, f2, f3, f4, f5⟩ := f
  exact ⟨.ref D, H', I'.turned (t' := s'.toks) (fun b o hb e => (sb.2 b hb).trans e) f0 f1 f3 f4 f5, rfl, q⟩
end

/-! ### the forms one uses -/
def blkC (N : List Str) (sc scope : Scope) (own : List (Str × Nat)) : Bool :=
  (match scope.kind with | .function => true | _ => false) && (scope.names.all fun y => decide (scope.names.lookup y.1 = some y.2)) && (own.all fun p => decide (N[p.2]? = some p.1)) &&
    (scope.names.all fun y => match y.2 with
      | .free => (match sc.names.lookup y.1 with | some .cell => true | some .free => true | _ => false)
      | .local => decide (y.1 ∈ own.map (·.1)) || decide (y.1 ∉ N)
      | .cell => decide (y.1 ∈ own.map (·.1)) || decide (y.1 ∉ N)
      | _ => true)
theorem blkOk_by {N : List Str} {sc scope : Scope} {own : List (Str × Nat)} (h : blkC N sc scope own = true) : BlkOk N sc scope own := by
  unfold blkC at h
  simp only [Bool.and_eq_true, List.all_eq_true, decide_eq_true_eq] at h
  obtain ⟨⟨⟨h1, h2⟩, h3⟩, h4⟩ := h
  refine ⟨?_, h2, h3, fun y hy e => ?_, fun y hy e => ?_⟩
  · split at h1
    · assumption
    · cases h1
  · have q := h4 y hy
    simp only [e] at q
    split at q <;> first | exact .inl (by assumption) | exact .inr (by assumption) | cases q
  · have q := h4 y hy
    rcases e with e | e <;> (simp only [e, Bool.or_eq_true, decide_eq_true_eq] at q; exact q)
end L2

namespace L2
open PySem PySem.Spec PyProof.Rows

section
variable {prog : Program} {w : World} {A : Around} {R : Result → Shared → Prop} {s : Shared} {elt t0 i0 t1 i1 : Expr} {ifs0 ifs1 : List Expr} {scope : Scope} {pos : Pos} {it acc : Value} {env : Env}
end

section
variable {X : Cx}
end
end L2

namespace L2
open PySem PySem.Spec PyProof.Rows

/-! ### lists of pairs as tables -/
section
variable {κ : Type} [DecidableEq κ]
def valV (kvs : List (κ × V)) (k : κ) : Option V := (kvs.find? fun kv => decide (kv.1 = k)).map (·.2)
/-- in its place, or at the end -/
def putK (kvs : List (κ × V)) (k : κ) (v : V) : List (κ × V) :=
  if (kvs.any fun kv => decide (kv.1 = k)) = true then kvs.map (fun kv => if kv.1 = k then (kv.1, v) else kv) else kvs ++ [(k, v)]
theorem valV_pos {p : κ × V} {r : List (κ × V)} {k : κ} (e : p.1 = k) : valV (p :: r) k = some p.2 := by simp [valV, List.find?_cons, e]
theorem valV_neg {p : κ × V} {r : List (κ × V)} {k : κ} (e : ¬ p.1 = k) : valV (p :: r) k = valV r k := by simp [valV, List.find?_cons, e]
theorem valV_any (k : κ) : ∀ kvs : List (κ × V), (kvs.any fun kv => decide (kv.1 = k)) = (valV kvs k).isSome
  | [] => rfl
  | p :: r => by
    rw [List.any_cons]
    by_cases e : p.1 = k
    · simp only [valV_pos e, decide_eq_true e, Bool.true_or, Option.isSome_some]
    · rw [valV_neg e, decide_eq_false e, Bool.false_or]; exact valV_any k r
theorem length_putK (kvs : List (κ × V)) (k : κ) (v : V) : (putK kvs k v).length ≤ kvs.length + 1 := by
  unfold putK
  split
  · rw [List.length_map]; omega
  · rw [List.length_append, List.length_cons, List.length_nil]; omega
theorem RelO.isSome_eq {o : Option V} {u : Option Value} (r : RelO o u) : o.isSome = u.isSome := by
  cases o with
  | none => cases u with
    | none => rfl
    | some _ => exact (show False from r).elim
  | some _ => cases u with
    | none => exact (show False from r).elim
    | some _ => rfl
theorem RelO.getD {o : Option V} {u : Option Value} {d : V} {d' : Value} (r : RelO o u) (rd : RelV d d') : RelV (o.getD d) (u.getD d') := by
  cases o with
  | none => cases u with
    | none => exact rd
    | some _ => exact (show False from r).elim
  | some _ => cases u with
    | none => exact (show False from r).elim
    | some _ => exact r

/-- raw tables of the same keys -/
theorem KV.val {kvs : List (κ × V)} {vs : List (κ × Value)} (r : KV kvs vs) (k : κ) : RelO (valV kvs k) (valueAt vs k) := by
  unfold KV at r
  induction r with
  | nil => exact True.intro
  | @cons p q ps qs h t ih =>
    obtain ⟨h1, h2⟩ := h
    by_cases e : p.1 = k
    · have e' : q.1 = k := h1.symm.trans e
      have b : valueAt (q :: qs) k = some q.2 := by simp [valueAt, List.find?_cons, e']
      rw [valV_pos e, b]; exact h2
    · have e' : ¬ q.1 = k := fun z => e (h1.trans z)
      have b : valueAt (q :: qs) k = valueAt qs k := by simp [valueAt, List.find?_cons, e']
      rw [valV_neg e, b]; exact ih
theorem KV.any {kvs : List (κ × V)} {vs : List (κ × Value)} (r : KV kvs vs) (k : κ) : (kvs.any fun kv => decide (kv.1 = k)) = vs.any fun kv => decide (kv.1 = k) := by
  unfold KV at r
  induction r with
  | nil => rfl
  | cons h t ih => rw [List.any_cons, List.any_cons, ih, h.1]
theorem KV.repl {kvs : List (κ × V)} {vs : List (κ × Value)} (r : KV kvs vs) (k : κ) {y : V} {u : Value} (ry : RelV y u) :
    KV (kvs.map fun kv => if kv.1 = k then (kv.1, y) else kv) (vs.map fun kv => if kv.1 = k then (kv.1, u) else kv) := by
  unfold KV at r ⊢
  induction r with
  | nil => exact .nil
  | @cons p q ps qs h t ih =>
    rw [List.map_cons, List.map_cons]
    refine .cons ?_ ih
    obtain ⟨h1, h2⟩ := h
    by_cases e : p.1 = k
    · rw [if_pos e, if_pos (h1.symm.trans e)]; exact ⟨h1, ry⟩
    · rw [if_neg e, if_neg (fun z => e (h1.trans z))]; exact ⟨h1, h2⟩
theorem KV.put {kvs : List (κ × V)} {vs : List (κ × Value)} (r : KV kvs vs) (k : κ) {y : V} {u : Value} (ry : RelV y u) : KV (putK kvs k y) (stored vs k u) := by
  unfold putK stored
  rw [r.any k]
  by_cases e : (vs.any fun kv => decide (kv.1 = k)) = true
  · rw [if_pos e, if_pos e]; exact r.repl k ry
  · rw [if_neg e, if_neg e]; exact Paired.snoc r ⟨rfl, ry⟩
theorem KV.length {kvs : List (κ × V)} {vs : List (κ × Value)} (r : KV kvs vs) : kvs.length = vs.length := Paired.length r
end


/-! ### a tracked dict, its keys ints and texts or tuples of these -/
theorem kV_is {P : Program} {w : World} {k : Key} {u : Value} (r : RelV (kV k) u) : (mixKind P w).is k u = true := by
  cases k with
  | inl i => obtain ⟨t, e⟩ := (show ∃ t, u = Value.int i t from r); subst e; exact mixKind_int P w i t
  | inr x => obtain ⟨t, e⟩ := (show ∃ t, u = Value.str x t from r); subst e; exact mixKind_str P w x t
theorem items_are {P : Program} {w : World} : ∀ {ks : List Key} {us : List Value}, Vals (ks.map kV) us → ItemsAre (mixKind P w) ks us
  | [], _, r => by rw [List.map_nil] at r; cases r; exact .nil
  | k :: ks, _, r => by
    rw [List.map_cons] at r
    cases r with
    | cons h t => exact .cons (kV_is h) (items_are t)

/-- raw entries of a dict with tuple keys -/
abbrev KT (H : Hp) : List (List Key × V) → List (List Key × Addr × Value) → Prop := Paired fun p q => p.1 = q.1 ∧ H q.2.1 = some (.tup (p.1.map kV)) ∧ RelV p.2 q.2.2
theorem KT.val {H : Hp} {kvs : List (List Key × V)} {xs : List (List Key × Addr × Value)} (r : KT H kvs xs) (k : List Key) : RelO (valV kvs k) ((atKey xs k).map (·.2)) := by
  induction r with
  | nil => exact True.intro
  | @cons p q ps qs h t ih =>
    obtain ⟨h1, _, h2⟩ := h
    by_cases e : p.1 = k
    · have e' : q.1 = k := h1.symm.trans e
      have b : atKey (q :: qs) k = some q.2 := by simp [atKey, List.find?_cons, e']
      rw [valV_pos e, b]; exact h2
    · have e' : ¬ q.1 = k := fun z => e (h1.trans z)
      have b : atKey (q :: qs) k = atKey qs k := by simp [atKey, List.find?_cons, e']
      rw [valV_neg e, b]; exact ih
theorem KT.repl {H : Hp} {kvs : List (List Key × V)} {xs : List (List Key × Addr × Value)} (r : KT H kvs xs) (k : List Key) {y : V} {u : Value} (ry : RelV y u) :
    KT H (kvs.map fun kv => if kv.1 = k then (kv.1, y) else kv) (xs.map (putAt k u)) := by
  induction r with
  | nil => exact .nil
  | @cons p q ps qs h t ih =>
    rw [List.map_cons, List.map_cons]
    refine .cons ?_ ih
    obtain ⟨h1, h2, h3⟩ := h
    unfold putAt
    by_cases e : p.1 = k
    · rw [if_pos e, if_pos (h1.symm.trans e)]; exact ⟨h1, h2, ry⟩
    · rw [if_neg e, if_neg (fun z => e (h1.trans z))]; exact ⟨h1, h2, h3⟩
theorem KT.put {H : Hp} {kvs : List (List Key × V)} {xs : List (List Key × Addr × Value)} (r : KT H kvs xs) (k : List Key) {b : Addr} {y : V} {u : Value} (hb : H b = some (.tup (k.map kV))) (ry : RelV y u) :
    KT H (putK kvs k y) (storedH xs k b u) := by
  have e : (kvs.any fun kv => decide (kv.1 = k)) = (atKey xs k).isSome := by
    rw [valV_any, (r.val k).isSome_eq, Option.isSome_map]
  unfold putK storedH
  rw [e]
  by_cases q : (atKey xs k).isSome = true
  · rw [if_pos q, if_pos q]; exact r.repl k ry
  · rw [if_neg q, if_neg q]; exact Paired.snoc r ⟨rfl, hb, ry⟩
theorem KT.keeps {H H' : Hp} {kvs : List (List Key × V)} {xs : List (List Key × Addr × Value)} (r : KT H kvs xs) (ht : ∀ b ys, H b = some (.tup ys) → H' b = some (.tup ys)) : KT H' kvs xs :=
  Paired.mapP r fun _ _ z => ⟨z.1, ht _ _ z.2.1, z.2.2⟩

section
variable {P : Program} {w : World} {H : Hp} {h : Heap} {a : Addr}
theorem rd_of {u : HO} (ok : HOk P w H h) (e : Rd H a u) : ObjOk P w H h a u := e.ok ok
theorem dk_rd {kvs : List (Key × V)} (ok : HOk P w H h) (e : Rd H a (.dK kvs)) : kvs.length ≤ sizeLine ∧ (a == sysModules) = false ∧ ∃ vs, KV kvs vs ∧ h.DictOf (mixKind P w) a vs :=
  show ObjOk P w H h a (.dK kvs) from rd_of ok e
theorem dk_of {kvs : List (Key × V)} (ok : HOk P w H h) (e : H a = some (.dK kvs)) : kvs.length ≤ sizeLine ∧ (a == sysModules) = false ∧ ∃ vs, KV kvs vs ∧ h.DictOf (mixKind P w) a vs := dk_rd ok (.inl e)
/-- a tracked tuple of ints and texts is a key -/
theorem key_of {ks : List Key} (ok : HOk P w H h) (e : H a = some (.tup (ks.map kV))) : (tupleKind (mixKind P w)).is h ks a := by
  obtain ⟨_, its, r, o, h1, h2, n, h3⟩ := (show ObjOk P w H h a (.tup (ks.map kV)) from ok a _ e)
  exact ⟨o, its.toArray, n, h1, h2, h3, by simpa using items_are r⟩
theorem dt_rd {kvs : List (List Key × V)} (ok : HOk P w H h) (e : Rd H a (.dT kvs)) : kvs.length ≤ sizeLine ∧ (a == sysModules) = false ∧
    ∃ xs, KT H kvs xs ∧ h.DictOfH (tupleKind (mixKind P w)) a xs := by
  obtain ⟨z, y, xs, r, o, es, ep, h1, h2, h3, h4, h5⟩ := (show ObjOk P w H h a (.dT kvs) from rd_of ok e)
  refine ⟨z, y, xs, r, o, es, ep, h1, h2, h3, h4, fun x hx => ?_, h5⟩
  have all : ∀ {l : List (List Key × V)} {m : List (List Key × Addr × Value)}, KT H l m → ∀ x ∈ m, (tupleKind (mixKind P w)).is h x.1 x.2.1 := by
    intro l m q
    induction q with
    | nil => intro x hx; exact nomatch hx
    | @cons p q ps qs hq t ih =>
      intro x hx
      rcases List.mem_cons.mp hx with e | hx
      · subst e
        exact key_of ok (by rw [← hq.1]; exact hq.2.1)
      · exact ih x hx
  exact all r x hx
theorem dt_of {kvs : List (List Key × V)} (ok : HOk P w H h) (e : H a = some (.dT kvs)) : kvs.length ≤ sizeLine ∧ (a == sysModules) = false ∧
    ∃ xs, KT H kvs xs ∧ h.DictOfH (tupleKind (mixKind P w)) a xs := dt_rd ok (.inl e)
end

/-- what the dict at a holds at the key y -/
def DGet (H : Hp) (a : Addr) (y : V) (r : Option V) : Prop :=
  (∃ kvs k, Rd H a (.dK kvs) ∧ y = kV k ∧ r = valV kvs k) ∨ ∃ kvs k b, Rd H a (.dT kvs) ∧ y = .ref b ∧ H b = some (.tup (k.map kV)) ∧ r = valV kvs k
/-- the heap behind a[y] = v -/
def DPut (H : Hp) (a : Addr) (y v : V) (H' : Hp) : Prop :=
  (∃ kvs k, H a = some (.dK kvs) ∧ y = kV k ∧ kvs.length < sizeLine ∧ H' = upd H a (.dK (putK kvs k v))) ∨
  ∃ kvs k b, H a = some (.dT kvs) ∧ y = .ref b ∧ H b = some (.tup (k.map kV)) ∧ kvs.length < sizeLine ∧ H' = upd H a (.dT (putK kvs k v))
theorem DGet.k {H : Hp} {a : Addr} {kvs : List (Key × V)} {k : Key} (e : H a = some (.dK kvs)) : DGet H a (kV k) (valV kvs k) := .inl ⟨kvs, k, .inl e, rfl, rfl⟩
theorem DPut.k {H : Hp} {a : Addr} {kvs : List (Key × V)} {k : Key} {v : V} (e : H a = some (.dK kvs)) (hl : kvs.length < sizeLine) : DPut H a (kV k) v (upd H a (.dK (putK kvs k v))) := .inl ⟨kvs, k, e, rfl, hl, rfl⟩
section
variable {X : Cx} {pins : List (Addr × Obj)} {σ : St} {H : Hp} {s : Shared} {a : Addr} {y v : V} {u r : Value} {o : Option V} {A : Around} {E : Value → Shared → Prop}

theorem Inv.big (I : Inv X pins σ H s) : sysModules < s.heap.objs.size := by
  have h : mainGlobals < s.heap.objs.size := (I.mod.glob.keeps I.bk).lt
  exact Nat.lt_trans (by decide) h

/-- d[y], there -/
theorem d_getItem {Q : Value → Shared → Prop} (hu : A.units + 1 < cLine) (I : Inv X pins σ H s) (g : DGet H a y (some v)) (ry : RelV y u) (h : ∀ w' s', Inv X pins σ H s' → RelV v w' → Q w' s') :
    wpAny (model X.prog X.w) A (getItem (.ref a) u) Q E s := by
  rcases g with ⟨kvs, k, e, ey, l⟩ | ⟨kvs, k, b, e, ey, eb, l⟩
  · subst ey
    obtain ⟨z, hd, vs, rel, dd⟩ := dk_rd I.hok e
    obtain ⟨w', hw, rw'⟩ := RelO.some_of (v := v) (o := valueAt vs k) (by rw [l]; exact rel.val k)
    exact wpAny_getItem_of (kV_is ry) dd.mapOf hw (h w' _ (I.tok _) rw')
  · subst ey
    cases (show u = Value.ref b from ry)
    obtain ⟨z, hd, xs, rel, dd⟩ := dt_rd I.hok e
    obtain ⟨w', hw, rw'⟩ := RelO.some_of (v := v) (o := (atKey xs k).map (·.2)) (by rw [l]; exact rel.val k)
    obtain ⟨p, hp, hp2⟩ := Option.map_eq_some_iff.mp hw
    refine wpAny_getItem_heap (tupleKind_room_in1 hu) (key_of I.hok eb) dd hp ?_
    rw [hp2]
    exact h w' _ (I.tok _) rw'
/-- y in d -/
theorem d_in {Q : Value → Shared → Prop} (hu : A.units + 1 < cLine) (I : Inv X pins σ H s) (g : DGet H a y o) (ry : RelV y u) (h : ∀ s', Inv X pins σ H s' → Q (.bool o.isSome) s') :
    wpAny (model X.prog X.w) A (compareOp .In u (.ref a)) Q E s := by
  rcases g with ⟨kvs, k, e, ey, l⟩ | ⟨kvs, k, b, e, ey, eb, l⟩
  · subst ey
    obtain ⟨z, hd, vs, rel, dd⟩ := dk_rd I.hok e
    refine wpAny_in_of (kV_is ry) hd dd.mapOf ?_
    rw [← (rel.val k).isSome_eq, ← l]
    exact h _ (I.tok _)
  · subst ey
    cases (show u = Value.ref b from ry)
    obtain ⟨z, hd, xs, rel, dd⟩ := dt_rd I.hok e
    refine wpAny_in_heap (tupleKind_room_in1 hu) (key_of I.hok eb) hd dd ?_
    have q := (rel.val k).isSome_eq
    rw [Option.isSome_map] at q
    rw [← q, ← l]
    exact h _ (I.tok _)
/-- a dict's object is replaced -/
theorem d_write {h' : Heap} {t' : Nat} {ob : HO} (I : Inv X pins σ H s) (mu : Mut (H a)) (hs : Heap.SameBut a s.heap h') (he : ∃ q, h'.get? a = some q) (new : ObjOk X.prog X.w (upd H a ob) h' a ob) :
    Inv X pins σ (upd H a ob) { s with heap := h', toks := t' } :=
  I.write (x := a) (e := a) mu (.inl rfl) (fun b q hb z => (hs.2 b hb).trans z) he new
theorem dk_new {P : Program} {w : World} {H' : Hp} {h' : Heap} {kvs : List (Key × V)} {vs : List (Key × Value)} (z : kvs.length ≤ sizeLine) (hd : (a == sysModules) = false) (rel : KV kvs vs) (dd : h'.DictOf (mixKind P w) a vs) :
    ObjOk P w H' h' a (.dK kvs) := ⟨z, hd, vs, rel, dd⟩
/-- d[y] = v -/
theorem d_setItem {H' : Hp} {Q : Unit → Shared → Prop} (hu : A.units + 1 < cLine) (I : Inv X pins σ H s) (g : DPut H a y v H') (ry : RelV y u) (rv : RelV v r) (h : ∀ s', Inv X pins σ H' s' → Q () s') :
    wpAny (model X.prog X.w) A (setItem (.ref a) u r) Q E s := by
  rcases g with ⟨kvs, k, e, ey, l, eH⟩ | ⟨kvs, k, b, e, ey, eb, l, eH⟩
  · subst ey eH
    obtain ⟨z, hd, vs, rel, dd⟩ := dk_of I.hok e
    have hz : vs.length ≤ sizeLine := by rw [← rel.length]; exact z
    have hl : (putK kvs k v).length ≤ sizeLine := by have := length_putK kvs k v; omega
    refine wpAny_setItem_pairs (hsz := hz) (kV_is ry) dd fun h' dd' hs => h _ ?_
    have he : ∃ q, h'.get? a = some q := let ⟨q, _, _, hq, _⟩ := dd'; ⟨q, hq⟩
    exact d_write I (by rw [e]; exact True.intro) hs he (dk_new hl hd (rel.put k rv) dd')
  · subst ey eH
    cases (show u = Value.ref b from ry)
    obtain ⟨z, hd, xs, rel, dd⟩ := dt_of I.hok e
    have hz : xs.length ≤ sizeLine := by rw [← Paired.length rel]; exact z
    have hl : (putK kvs k v).length ≤ sizeLine := by have := length_putK kvs k v; omega
    refine wpAny_setItem_heap (hsz := hz) (tupleKind_room_in1 hu) (key_of I.hok eb) dd fun h' dd' hs => h _ ?_
    obtain ⟨q, es, ep, hq, h2, h3, h4, _, h5⟩ := dd'
    refine d_write I (by rw [e]; exact True.intro) hs ⟨q, hq⟩ ⟨hl, hd, _, (rel.put k eb rv).keeps fun c ys ec => ?_, q, es, ep, hq, h2, h3, h4, h5⟩
    rw [upd_ne (ne_of ec e (fun z => nomatch z))]
    exact ec
end

section
variable {X : Cx} {pins : List (Addr × Obj)} {σ : St} {H : Hp} {s : Shared} {a : Addr} {kvs : List (Key × V)} {k : Key} {u : Value} {A : Around} {E : Value → Shared → Prop}
/-- len(d) -/
theorem d_len {Q : Value → Shared → Prop} (I : Inv X pins σ H s) (e : Rd H a (.dK kvs)) (h : ∀ t s', Inv X pins σ H s' → Q (.int kvs.length t) s') : wpAny (model X.prog X.w) A (call (.builtin "len") [.ref a]) Q E s := by
  obtain ⟨z, hd, vs, rel, dd⟩ := dk_rd I.hok e
  refine call_len_dict hd dd (by rw [← rel.length]; rw [sizeLine_eq] at z; omega) ?_
  rw [← rel.length]
  exact h _ _ (I.tok _)
end


/-! ### readings and rules -/
theorem dict_typeIs {X : Cx} {pins : List (Addr × Obj)} {σ : St} {H : Hp} {s : Shared} {a : Addr} {y : V} {o : Option V} (I : Inv X pins σ H s) (g : DGet H a y o) : s.TypeIs (.ref a) "dict" := by
  rcases g with ⟨kvs, k, e, _, _⟩ | ⟨kvs, k, b, e, _, _, _⟩
  · obtain ⟨_, _, vs, _, dd⟩ := dk_rd I.hok e
    exact dd.typeIs
  · obtain ⟨_, _, xs, _, dd⟩ := dt_rd I.hok e
    exact dd.typeIs
/-- d[y] = v -/
def sDPut (td ty tv : TE) : TS := fun D σ H => tv σ H fun v H1 => td σ H1 fun x H2 => ty σ H2 fun y H3 => ∃ a H4, x = .ref a ∧ DPut H3 a y v H4 ∧ D.nx σ H4
section
variable {X : Cx} {o i e value : Expr} {pos pos' tpos : Pos} {td ty tv : TE}
theorem ps_dput (hu : X.A.units + 1 < cLine) (ho : PE X o td) (hi : PE X i ty) (hv : PE X value tv) (hs : swapsWith value (some (.Subscript o i pos')) pos.line X.env = pure false) :
    PS X (.Assign [.Subscript o i pos'] value pos) (sDPut td ty tv) := by
  intro pins s σ H D I h
  refine wpAny_Assign_Subscript (thn (hv pins s σ H _ I h) fun r s1 ⟨v, H1, I1, rv, q1⟩ => thn (ho pins s1 σ H1 _ I1 q1) fun u s2 ⟨x, H2, I2, rx, q2⟩ => thn (hi pins s2 σ H2 _ I2 q2) fun iv s3 ⟨y, H3, I3, ry, a, H4, ex, g, q3⟩ => ?_) hs
  subst ex
  obtain rfl : u = Value.ref a := rx
  exact d_setItem hu I3 g ry rv fun s4 I4 => ⟨σ, H4, I4, q3⟩
end


/-! ### displays -/
theorem dk_empty {P : Program} {w : World} {H : Hp} (h : Heap) (hb : sysModules < h.objs.size) : ObjOk P w H (h.push { cls := .type "dict", data := .dict #[] }) h.objs.size (.dK []) :=
  ⟨Nat.zero_le _, beq_eq_false_iff_ne.mpr (Ne.symm (Nat.ne_of_lt hb)), [], .nil, Heap.DictOf.new h⟩
/-- {}, to be a dict of the kind that is wanted -/
def tDNewK : TE := fun _ H Q => ∀ p, H p = none → Q (.ref p) (upd H p (.dK []))
section
variable {X : Cx} {pos : Pos}
theorem pe_dnewK : PE X (.Dict [] [] pos) tDNewK := fun pins s σ H Q I h =>
  wpAny_Dict_empty ⟨.ref s.heap.objs.size, _, I.laid (a := s.heap.objs.size) (o := .dK []) (t' := s.toks) (fun _ _ q => Heap.get?_push_of_some _ q) (Nat.le_refl _) (dk_empty s.heap I.big), rfl, h _ (I.hok.fresh (Nat.le_refl _))⟩
end

/-- the pairs of a display, from the left -/
def tPairs : List (TE × TE) → St → Hp → (List (V × V) → Hp → Prop) → Prop
  | [], _, H, Q => Q [] H
  | (tk, tv) :: r, σ, H, Q => tk σ H fun x H1 => tv σ H1 fun y H2 => tPairs r σ H2 fun ps H3 => Q ((x, y) :: ps) H3
abbrev VV : List (V × V) → List (Value × Value) → Prop := Paired fun p q => RelV p.1 q.1 ∧ RelV p.2 q.2
def PPs (X : Cx) (pos : Pos) (keys : List (Option Expr)) (values : List Expr) (trs : List (TE × TE)) : Prop :=
  ∀ (pins : List (Addr × Obj)) (s : Shared) (σ : St) (H : Hp) (Q : List (V × V) → Hp → Prop), Inv X pins σ H s → tPairs trs σ H Q →
    wpAny (model X.prog X.w) X.A (evalPairs (pairTrees keys values X.env pos)) (fun vs s' => ∃ ps H', Inv X pins σ H' s' ∧ VV ps vs ∧ Q ps H') X.xe s
theorem pps_nil {X : Cx} {pos : Pos} : PPs X pos [] [] [] := fun pins s σ H Q I h => pairTrees_nil_walk ⟨[], H, I, .nil, h⟩
theorem pps_cons {X : Cx} {pos : Pos} {k v : Expr} {ks : List (Option Expr)} {vs : List Expr} {tk tv : TE} {trs : List (TE × TE)} (hk : PE X k tk) (hv : PE X v tv) (hr : PPs X pos ks vs trs) :
    PPs X pos (some k :: ks) (v :: vs) ((tk, tv) :: trs) := fun pins s σ H Q I h =>
  pairTrees_cons_walk (thn (hk pins s σ H _ I h) fun u s1 ⟨x, H1, I1, rx, q1⟩ => thn (hv pins s1 σ H1 _ I1 q1) fun w2 s2 ⟨y, H2, I2, ry, q2⟩ =>
    thn (hr pins s2 σ H2 _ I2 q2) fun ws s3 ⟨ps, H3, I3, rel, q3⟩ => ⟨(x, y) :: ps, H3, I3, .cons ⟨rx, ry⟩ rel, q3⟩)

def mergeK (kvs more : List (Key × V)) : List (Key × V) := more.foldl (fun acc kv => putK acc kv.1 kv.2) kvs
theorem KV.merge : ∀ {more : List (Key × V)} {rs : List (Key × Value)} {kvs : List (Key × V)} {vs : List (Key × Value)}, KV more rs → KV kvs vs → KV (mergeK kvs more) (merged vs rs) := by
  intro more rs kvs vs r
  unfold KV at r
  induction r generalizing kvs vs with
  | nil => intro q; exact q
  | @cons p q ps qs h t ih =>
    intro r0
    have e : KV (putK kvs p.1 p.2) (stored vs q.1 q.2) := by
      have := r0.put p.1 h.2
      rw [← h.1]; exact this
    exact ih e
theorem length_mergeK : ∀ (more kvs : List (Key × V)), (mergeK kvs more).length ≤ kvs.length + more.length
  | [], kvs => by show kvs.length ≤ kvs.length + 0; omega
  | p :: r, kvs => by
    have h1 := length_mergeK r (putK kvs p.1 p.2)
    have h2 := length_putK kvs p.1 p.2
    show (mergeK (putK kvs p.1 p.2) r).length ≤ _
    rw [List.length_cons]; omega
theorem carries_of {P : Program} {w : World} : ∀ {kvs : List (Key × V)} {ws : List (Value × Value)}, VV (kvs.map fun kv => (kV kv.1, kv.2)) ws → ∃ rs, Carries (mixKind P w) ws rs ∧ KV kvs rs
  | [], _, r => by rw [List.map_nil] at r; cases r; exact ⟨[], True.intro, .nil⟩
  | p :: kvs, _, r => by
    rw [List.map_cons] at r
    cases r with
    | @cons a b as bs h t =>
      obtain ⟨rs, c, q⟩ := carries_of (P := P) (w := w) t
      obtain ⟨b1, b2⟩ := b
      exact ⟨(p.1, b2) :: rs, ⟨kV_is h.1, rfl, c⟩, .cons ⟨rfl, h.2⟩ q⟩
/-- {k: v, ..} with keys ints and texts; the new dict stands empty while the pairs are made -/
def tDisp (trs : List (TE × TE)) : TE := fun σ H Q => ∀ p, H p = none → tPairs trs σ (upd H p (.dK [])) fun ps H2 => H2 p = some (.dK []) ∧ ∃ kvs : List (Key × V), ps = kvs.map (fun kv => (kV kv.1, kv.2)) ∧ kvs.length ≤ 15 ∧ Q (.ref p) (upd H2 p (.dK (mergeK [] kvs)))
theorem pe_disp {X : Cx} {pos : Pos} {keys : List (Option Expr)} {values : List Expr} {trs : List (TE × TE)} (h : PPs X pos keys values trs) (hall : keys.all (·.isSome) = true) (hl : keys.length = values.length) (h0 : keys ≠ [])
    (h15 : keys.length ≤ 15) : PE X (.Dict keys values pos) (tDisp trs) := by
  intro pins s σ H Q I q
  have hn := I.hok.fresh (Nat.le_refl s.heap.objs.size)
  have I1 := I.laid (a := s.heap.objs.size) (o := .dK []) (h' := s.heap.push { cls := .type "dict", data := .dict #[] }) (t' := s.toks) (fun _ _ q => Heap.get?_push_of_some _ q) (Nat.le_refl _) (dk_empty s.heap I.big)
  refine wpAny_Dict_walk (knd := mixKind X.prog X.w) hall hl h0 h15 (thn (h pins _ σ _ _ I1 (q _ hn)) fun ws s2 ⟨ps, H2, I2, rel, e, kvs, ep, lk, q2⟩ => ?_)
  subst ep
  obtain ⟨rs, c, rk⟩ := carries_of (P := X.prog) (w := X.w) rel
  obtain ⟨z, hd, vs0, r0, dd⟩ := dk_of I2.hok e
  cases r0
  refine ⟨rs, c, dd, fun h' dd' hs => ⟨.ref s.heap.objs.size, _, ?_, rfl, q2⟩⟩
  have hz : (mergeK [] kvs).length ≤ sizeLine := by
    have h1 := length_mergeK kvs []
    rw [List.length_nil] at h1
    rw [sizeLine_eq]; omega
  have he : ∃ q, h'.get? s.heap.objs.size = some q := let ⟨q, _, _, hq, _⟩ := dd'; ⟨q, hq⟩
  exact d_write I2 (by rw [e]; exact True.intro) hs he (dk_new hz hd (rk.merge .nil) dd')


/-! ### methods -/
/-- a method call o.m(e) of a built-in, with one argument: what must be seen of the text -/
structure M1 (X : Cx) (o : Expr) (m : Str) (apos : Pos) (e : Expr) (cpos : Pos) : Prop where
  base : attributeBase o m X.env (eval o X.env) = eval o X.env
  few : ((backTo cpos (starEach [e] X.env)).all (fun x => !x.1) && (backToKw cpos (keywordEach [] X.env)).all (fun x => x.1.isSome)
    && decide (([e] : List Expr).length + ([] : List Keyword).length + (if ([] : List Keyword).isEmpty then 0 else 1) < 30)) = true
  line : (apos.endLine == cpos.line) = true
  trees : backTo cpos (starEach [e] X.env) = [(false, eval e X.env)]
structure M2 (X : Cx) (o : Expr) (m : Str) (apos : Pos) (e f : Expr) (cpos : Pos) : Prop where
  base : attributeBase o m X.env (eval o X.env) = eval o X.env
  few : ((backTo cpos (starEach [e, f] X.env)).all (fun x => !x.1) && (backToKw cpos (keywordEach [] X.env)).all (fun x => x.1.isSome)
    && decide (([e, f] : List Expr).length + ([] : List Keyword).length + (if ([] : List Keyword).isEmpty then 0 else 1) < 30)) = true
  line : (apos.endLine == cpos.line) = true
  trees : backTo cpos (starEach [e, f] X.env) = [(false, eval e X.env), (false, eval f X.env)]

/-- a is a dict, whatever its keys -/
def IsD (H : Hp) (a : Addr) : Prop := (∃ kvs, Rd H a (.dK kvs)) ∨ ∃ kvs, Rd H a (.dT kvs)
theorem isD_at {X : Cx} {pins : List (Addr × Obj)} {σ : St} {H : Hp} {s : Shared} {a : Addr} (I : Inv X pins σ H s) (d : IsD H a) :
    s.TypeIs (.ref a) "dict" ∧ (∀ b, Value.ref a = .ref b → ∃ ob, s.heap.get? b = some ob ∧ ob.dict = none) ∧ (a == sysModules) = false := by
  rcases d with ⟨kvs, e⟩ | ⟨kvs, e⟩
  · obtain ⟨_, hd, vs, _, dd⟩ := dk_rd I.hok e
    refine ⟨dd.typeIs, fun b q => ?_, hd⟩
    cases q
    obtain ⟨ob, _, _, h1, h2, _⟩ := dd
    exact ⟨ob, h1, h2.2.1⟩
  · obtain ⟨_, hd, xs, _, dd⟩ := dt_rd I.hok e
    refine ⟨dd.typeIs, fun b q => ?_, hd⟩
    cases q
    obtain ⟨ob, _, _, h1, h2, _⟩ := dd
    exact ⟨ob, h1, h2.2.1⟩

section
variable {X : Cx} {pins : List (Addr × Obj)} {σ : St} {H : Hp} {s : Shared} {a : Addr} {y d : V} {u r : Value} {o : Option V} {A : Around} {E : Value → Shared → Prop}
/-- d.get(y, x) -/
theorem d_get2 {Q : Value → Shared → Prop} (hu : A.units + 1 < cLine) (I : Inv X pins σ H s) (g : DGet H a y o) (ry : RelV y u) (rd : RelV d r) (h : ∀ w' s', Inv X pins σ H s' → RelV (o.getD d) w' → Q w' s') :
    wpAny (model X.prog X.w) A (call (.builtin "dict.get") [.ref a, u, r]) Q E s := by
  rcases g with ⟨kvs, k, e, ey, l⟩ | ⟨kvs, k, b, e, ey, eb, l⟩
  · subst ey
    obtain ⟨z, hd, vs, rel, dd⟩ := dk_rd I.hok e
    refine call_meetsIn PySem.F.slot_dict_get dd.typeIs PySem.F.entry_dict_get (PySem.F.args_dict_get_3 _ _ _) (meets_dict_get_default (mixKind X.prog X.w) a (kV_is ry) hd r) ⟨_, dd.mapOf, h _ _ (I.tok _) ?_⟩
    rw [l]
    exact (rel.val k).getD rd
  · subst ey
    cases (show u = Value.ref b from ry)
    obtain ⟨z, hd, xs, rel, dd⟩ := dt_rd I.hok e
    refine call_meetsIn PySem.F.slot_dict_get dd.typeIs PySem.F.entry_dict_get (PySem.F.args_dict_get_3 _ _ _) (meetsH_dict_get_default (tupleKind (mixKind X.prog X.w)) a b hd r) ⟨tupleKind_room_in1 hu, k, xs, key_of I.hok eb, dd, h _ _ (I.tok _) ?_⟩
    rw [l]
    exact (rel.val k).getD rd
end

def tDGet2 (td ty tx : TE) : TE := fun σ H Q => td σ H fun x H1 => ∃ a, x = .ref a ∧ IsD H1 a ∧ ty σ H1 fun y H2 => tx σ H2 fun z H3 => ∃ o, DGet H3 a y o ∧ Q (o.getD z) H3
section
variable {X : Cx} {o e f : Expr} {apos cpos : Pos} {td ty tx : TE}
theorem pe_dget2 (hu : X.A.units + 1 < cLine) (ho : PE X o td) (he : PE X e ty) (hf : PE X f tx) (m : M2 X o "get" apos e f cpos) : PE X (.Call (.Attribute o "get" apos) [e, f] [] cpos) (tDGet2 td ty tx) := by
  intro pins s σ H Q I h
  refine wpAny_Call_method m.base m.few m.line PySem.F.plainAttrs_dict PySem.F.slot_dict_get PySem.F.type_dict_get (thn (ho pins s σ H _ I h) fun u s1 ⟨x, H1, I1, rx, a, ex, d, q1⟩ => ?_)
  subst ex
  obtain rfl : u = Value.ref a := rx
  obtain ⟨t1, t2, _⟩ := isD_at I1 d
  refine ⟨t1, t2, ?_⟩
  rw [m.trees]
  refine Calls.callWith_builtin rfl (Calls.evalArgs_plain (Calls.spliced_cons (thn (he pins s1 σ H1 _ I1 q1) fun iv s2 ⟨y, H2, I2, ry, q2⟩ =>
    Calls.spliced_cons (thn (hf pins s2 σ H2 _ I2 q2) fun fv s3 ⟨z, H3, I3, rz, ov, g, q3⟩ => Calls.spliced_nil ?_))))
  exact d_get2 hu I3 g ry rz fun w' s4 I4 rw' => ⟨_, H3, I4, rw', q3⟩
end

/-! ### dict(d): a copy -/
section
variable {X : Cx} {pins : List (Addr × Obj)} {σ : St} {H : Hp} {s : Shared} {a : Addr} {kvs : List (Key × V)} {A : Around} {E : Value → Shared → Prop}
end


section
variable {X : Cx} {pins : List (Addr × Obj)} {σ : St} {H : Hp} {s : Shared} {a : Addr} {y : V} {u : Value} {A : Around} {E : Value → Shared → Prop}
end
end L2

namespace L2
open PySem PySem.Spec PyProof.Rows

section
variable {prog : Program} {w : World} {A : Around} {E : Value → Shared → Prop}
end

section
variable {X : Cx}
end
end L2

namespace L2
open PySem PySem.Spec PyProof.Rows

section
variable {X : Cx} {pins : List (Addr × Obj)} {σ : St} {H : Hp} {s : Shared} {h' : Heap}
/-- several records of ours have turned -/
theorem Inv.turnedL {t' : Nat} {ch : List Addr} (I : Inv X pins σ H s) (k : ∀ b o, b ∉ ch → s.heap.get? b = some o → h'.get? b = some o) (hf : ∀ b ∈ ch, FpOk X pins H b) : Inv X pins σ H { s with heap := h', toks := t' } := by
  have nit : ∀ b u, H b = some u → b ∉ ch := fun b u e z => by
    have q := (hf b z).1
    rw [q] at e; cases e
  refine I.step (g' := s.gens) (d' := s.drawn) (ch := ch) (fun b hb => ⟨(hf b hb).2.2.2.1, (hf b hb).2.1, (hf b hb).2.2.2.2.1, (hf b hb).2.2.2.2.2⟩) (fun b o _ _ hc e _ => k b o hc e) (fun b o _ _ hc e _ => ⟨o.slots, k b o hc e⟩)
    (fun _ _ _ _ n => n) (fun b o hc e => ⟨o, k b o hc e⟩) (fun _ _ e => e) (fun _ _ _ e => e) (fun b ps e => ⟨#[], by rw [e]; simp⟩) (fun m hm => ?_) (fun b u e => ?_) I.bare
  · obtain ⟨o, es, ep, ho, r⟩ := hm
    exact ⟨o, es, ep, k _ o (fun z => (hf _ z).2.1 rfl) ho, r⟩
  · refine (I.hok b u e).stay (fun c v hc q => k c v ?_ q) (fun _ q => q) fun _ _ q => q
    rcases hc with z | z
    · rw [z]; exact nit b u e
    · exact nit c _ z
/-- .. and one new object is laid -/
theorem Inv.turnedNew {t' : Nat} {ch : List Addr} {T : Addr} {ob : HO} (I : Inv X pins σ H s) (k : ∀ b o, b ∉ ch → s.heap.get? b = some o → h'.get? b = some o) (hf : ∀ b ∈ ch, FpOk X pins H b) (hT : s.heap.objs.size ≤ T)
    (new : ObjOk X.prog X.w (upd H T ob) h' T ob) : Inv X pins σ (upd H T ob) { s with heap := h', toks := t' } := by
  have hn : H T = none := I.hok.fresh hT
  have nit : ∀ b u, H b = some u → b ∉ ch := fun b u e z => by
    have q := (hf b z).1
    rw [q] at e; cases e
  refine I.step (g' := s.gens) (d' := s.drawn) (ch := ch) (fun b hb => ⟨(hf b hb).2.2.2.1, (hf b hb).2.1, (hf b hb).2.2.2.2.1, (hf b hb).2.2.2.2.2⟩) (fun b o _ _ hc e _ => k b o hc e) (fun b o _ _ hc e _ => ⟨o.slots, k b o hc e⟩)
    (fun b o _ e n => ?_) (fun b o hc e => ⟨o, k b o hc e⟩) (fun b xs e => ?_) (fun b o u e => ?_) (fun b ps e => ⟨#[], ?_⟩) (fun m hm => ?_) (fun b u e => ?_) I.bare
  · rw [upd_ne (Nat.ne_of_lt (Nat.lt_of_lt_of_le (Heap.lt_size e) hT))]; exact n
  · rw [upd_ne (ne_of_none e hn)]; exact e
  · rw [upd_ne (ne_of_none e hn)]; exact e
  · rw [upd_ne (ne_of_none e hn), e]; simp
  · obtain ⟨o, es, ep, ho, r⟩ := hm
    exact ⟨o, es, ep, k _ o (fun z => (hf _ z).2.1 rfl) ho, r⟩
  · by_cases hb : b = T
    · subst hb
      rw [upd_same] at e
      cases e
      exact new
    · rw [upd_ne hb] at e
      refine (I.hok b u e).stay (fun c v hc q => k c v ?_ q) (fun c q => by rw [upd_ne (ne_of_none q hn)]; exact q) fun c xs q => by rw [upd_ne (ne_of_none q hn)]; exact q
      rcases hc with z | z
      · rw [z]; exact nit b u e
      · exact nit c _ z

/-! ### locking a thing while a statement runs -/
end
section
variable {X : Cx}
/-! ### one iterator just laid -/
theorem pi_one {tg : Expr} {pins : List (Addr × Obj)} {σ : St} {H : Hp} {s : Shared} {R : It → Hp → Prop} {J : It} {tn : Nat → Heap → Prop} {tk : Nat} (I : Inv X pins σ H s) (o : Obj)
    (T : Turn X.prog X.w X.K tg J [s.heap.objs.size] s.heap.objs.size tn) (st : tn 0 (s.heap.push o)) (q : R J H) : PIE X pins σ tg R (.ref s.heap.objs.size) { s with heap := s.heap.push o, toks := tk } := by
  refine ⟨s.heap.objs.size, [s.heap.objs.size], tn, J, H, rfl, I.kept fun b ob e => Heap.get?_push_of_some _ e, T, st, fun b hb => ?_, q⟩
  have e : b = s.heap.objs.size := by simpa using hb
  subst e
  exact I.fpOk (Nat.le_refl _) (I.hok.fresh (Nat.le_refl _))
end

/-! ### range with a step -/
section
variable {X : Cx} {tg : Expr}
end
/-! ### reversed(list) -/
section
variable {X : Cx} {tg : Expr}
end

/-! ### a str -/
def Its (x : Str) : It := ⟨fun i _ => i < x.cps.size, fun i H v H' => H' = H ∧ ∃ c, x.cps[i]? = some c ∧ v = .str ⟨#[c]⟩, fun i _ => x.cps.size ≤ i⟩
theorem turn_str {P : Program} {w : World} {K : PySem.W.Frag} {tg : Expr} (it : Addr) (x : Str) (t : Tok) (ty : String) (hty : ty = "str_ascii_iterator" ∨ ty = "str_iterator") :
    Turn P w K tg (Its x) [it] it (fun i h => h.IsStrIter it ty x t i) where
  mem := by simp
  obj := fun i h st b hb => by
    have e : b = it := by simpa using hb
    subst e
    obtain ⟨o, e, c, d⟩ := st
    exact ⟨o, e, fun v z => by rw [d] at z; cases z⟩
  keep := fun i h h' st k => let ⟨o, ho, r⟩ := st; ⟨o, k it (by simp) o ho, r⟩
  item := by
    intro X hP hw hK hc i pins s σ H E I hf st hg
    subst hP hw hK
    obtain ⟨f0, f1, f2, f3, f4, f5⟩ := hf it (by simp)
    have W : Walks X.prog X.w X.A it [it] [it] x.cps.size (SignAt x) (fun i h => h.IsStrIter it ty x t i) := by
      rcases hty with e | e
      · rw [e]; exact Walks.strAscii (I.ok.hd hc) it x t
      · rw [e]; exact Walks.strWide (I.ok.hd hc) it x t
    have hno : ["enumerate", "zip", "dict_itemiterator", "dict_reverseitemiterator", "odict_iterator", "itertools.zip_longest", "itertools.pairwise"].contains ty = false := by
      rcases hty with e | e
      · rw [e]; decide
      · rw [e]; decide
    refine W.item i s _ _ hg st fun v h' tk hv st' kk => ?_
    obtain ⟨c, u, hcx, rfl⟩ := hv
    have I1 : Inv X pins σ H { s with heap := h', toks := tk } := I.turned (fun b o hb e => kk b o (by simpa using hb) e) f0 f1 f3 f4 f5
    obtain ⟨oi, e, cc, dd⟩ := id st'
    exact ⟨_, rfl, go_of (s := { s with heap := h', toks := tk }) e cc dd hno ⟨.str ⟨#[c]⟩, H, I1, ⟨u, rfl⟩, ⟨rfl, c, hcx, rfl⟩, st', fun b hb => (hf b hb).1⟩⟩
  done := by
    intro X hP hw hK hc i pins s σ H E I hf st hg
    subst hP hw hK
    obtain ⟨f0, f1, f2, f3, f4, f5⟩ := hf it (by simp)
    have hx : x.cps[i]? = none := Array.getElem?_eq_none hg
    rcases hty with e | e
    · rw [e] at st
      exact wpAny_pyNext_ascii_end (I.ok.hd hc) st hx fun h' eb => ⟨rfl, I.turned (t' := s.toks) (fun b o hb e => eb b o hb e) f0 f1 f3 f4 f5⟩
    · rw [e] at st
      exact wpAny_pyNext_wide_end (I.ok.hd hc) st hx fun h' eb => ⟨rfl, I.turned (t' := s.toks) (fun b o hb e => eb b o hb e) f0 f1 f3 f4 f5⟩
  self := fun A i s Q E st h => by
    rcases hty with e | e
    · rw [e] at st; exact wpAny_pyIter_striter_ascii st h
    · rw [e] at st; exact wpAny_pyIter_striter_wide st h
def iStr (te : TE) : TI := fun σ H R => te σ H fun v H1 => ∃ x, v = .str x ∧ R (Its x) H1
theorem pi_str {X : Cx} {tg e : Expr} {te : TE} (he : PE X e te) : PI X tg e (iStr te) := by
  intro pins s σ H R I h
  refine thn (he pins s σ H _ I h) fun v s1 ⟨y, H1, I1, r1, x, ex, q⟩ => ?_
  subst ex
  obtain ⟨t, rfl⟩ := r1
  cases ha : x.cps.all (· < 128)
  · exact wpAny_pyIter_wide ha (pi_one (tk := s1.toks) I1 _ (turn_str _ x t "str_iterator" (.inr rfl)) ⟨_, Heap.get?_push_size _ rfl, rfl, rfl⟩ q)
  · exact wpAny_pyIter_ascii ha (pi_one (tk := s1.toks) I1 _ (turn_str _ x t "str_ascii_iterator" (.inl rfl)) ⟨_, Heap.get?_push_size _ rfl, rfl, rfl⟩ q)

/-! ### a dict's keys: any dict's entries -/
section
variable {prog : Program} {w : World} {A : Around} {E : Value → Shared → Prop} {s : Shared}
end

/-! ### a locked dict -/
section
variable {X : Cx} {pins : List (Addr × Obj)} {σ : St} {H : Hp} {s : Shared} {d : Addr} {o : Obj}
end

/-- the values -/
def Itd (d : Addr) (o : Obj) (kvs : List (Key × V)) : It :=
  ⟨fun i H => H d = some (.frz o (.dK kvs)) ∧ i < kvs.length, fun i H x H' => H' = H ∧ ∃ k, kvs[i]? = some (k, x), fun i H => H d = some (.frz o (.dK kvs)) ∧ kvs.length ≤ i⟩
section
variable {P : Program} {w : World} {K : PySem.W.Frag} {tg : Expr} {d : Addr} {o : Obj} {es : Array DictEntry} {ep : Nat}
end

/-! ### for k in d, d.keys(), d.values(), d.items() -/
section
variable {X : Cx} {tg e : Expr} {td : TE} {apos cpos : Pos}
end

/-! ### enumerate(list) -/
/-! ### zip(list, list) -/
theorem boot_zip5 : bootBuiltins "zip" = some (.type "zip") := by decide +kernel
end L2

section 
namespace Bits
open PySem PyProof.Rows

end Bits
end 

section 
namespace TL
open PySem PySem.Builtin PySem.Builtin.Str PySem.StrLaws

abbrev tl (x : Str) : List Nat := x.cps.toList
/-! ### the list functions -/
/-- S stands at the head of l -/
def pre (S l : List Nat) : Bool := l.take S.length == S
/-- l cut at each S from the left; k signs are still to be passed over -/
def spl (S : List Nat) : Nat → List Nat → List Nat → List (List Nat)
  | _, acc, [] => [acc]
  | 0, acc, c :: r => if pre S (c :: r) = true then acc :: spl S (S.length - 1) [] r else spl S 0 (acc ++ [c]) r
  | k + 1, acc, _ :: r => spl S k acc r
/-- what stands before the first S, and behind it -/
def par (S : List Nat) : List Nat → List Nat → Option (List Nat × List Nat)
  | _, [] => none
  | acc, c :: r => if pre S (c :: r) = true then some (acc, (c :: r).drop S.length) else par S (acc ++ [c]) r

/-! ### the model's split and partition are these -/
/-! ### computing spl and par -/
/-! ### digits -/
/-! ### words: x.split() -/
end TL
end 

namespace L2
open PySem PySem.Spec PyProof.Rows

section
variable {X : Cx} {pins : List (Addr × Obj)} {σ : St} {H : Hp} {s : Shared} {Q : VK}
end

section
variable {X : Cx}

/-! ### of a text alone -/
/-! ### of a text and a text -/
end

section
variable {X : Cx} {o e : Expr} {to te : TE}
end
end L2

namespace L2
open PySem PySem.Spec PyProof.Rows

section
variable {X : Cx}
theorem op_gt_str : OpR X (compareOp .Gt) (fun x y H Q => ∃ i j, x = .str i ∧ y = .str j ∧ Q (.bl (decide (j.cps.toList < i.cps.toList))) H) := by
  intro pins s σ H x y v u Q I rx ry h
  obtain ⟨i, j, rfl, rfl, q⟩ := h
  obtain ⟨t, rfl⟩ := rx
  obtain ⟨t', rfl⟩ := ry
  exact PySem.P.gt_str (fin_bl I q rfl)
theorem op_ge_str : OpR X (compareOp .GtE) (fun x y H Q => ∃ i j, x = .str i ∧ y = .str j ∧ Q (.bl (!decide (i.cps.toList < j.cps.toList))) H) := by
  intro pins s σ H x y v u Q I rx ry h
  obtain ⟨i, j, rfl, rfl, q⟩ := h
  obtain ⟨t, rfl⟩ := rx
  obtain ⟨t', rfl⟩ := ry
  exact PySem.P.ge_str (fin_bl I q rfl)
end

/-! ### slices of a text -/
theorem IsPart.raw {v : Value} {o : Option Int} (p : IsPart v o) : ∃ l : Option (Int × Tok), v = partValue l ∧ l.map (·.1) = o := by
  cases p with
  | none => exact ⟨none, rfl, rfl⟩
  | int i t => exact ⟨some (i, t), rfl, rfl⟩

/-- a part, clipped, as the text's slice reckons it -/
def clipS (n d : Nat) : Option Int → Int
  | none => (d : Int)
  | some i => max 0 (min (if i < 0 then i + (n : Int) else i) (n : Int))
theorem clipS_eq (n d : Nat) (o : Option Int) : clipS n d o = ((HT.sIx n d o : Nat) : Int) := by
  cases o with
  | none => rfl
  | some v =>
    show max (0 : Int) (min (if v < 0 then v + (n : Int) else v) (n : Int)) = (((if v < 0 then (v + (n : Int)).toNat else min v.toNat n) : Nat) : Int)
    by_cases hv : v < 0
    · simp only [if_pos hv]
      omega
    · simp only [if_neg hv]
      omega
theorem sidx_clip (a b : Option Int) (n : Nat) : Builtin.Str.strSliceIndices a b 1 n = sliceRange (clipS n 0 a) (clipS n n b) 1 := by
  have h1 : ((1 : Int) > 0) = True := by simp
  cases a <;> cases b <;> first
    | rfl
    | (simp only [Builtin.Str.strSliceIndices, clipS, h1, if_true]; rfl)
    | simp [Builtin.Str.strSliceIndices, clipS]
theorem sidx (a b : Option Int) (n : Nat) : Builtin.Str.strSliceIndices a b 1 n = (List.range (HT.sIx n n b - HT.sIx n 0 a)).map (fun k => HT.sIx n 0 a + k) := by
  rw [sidx_clip, clipS_eq, clipS_eq]
  generalize HT.sIx n 0 a = p
  generalize HT.sIx n n b = q
  simp only [sliceRange, show ((1 : Int) > 0) = True from by simp, if_true]
  by_cases hlt : (p : Int) < q
  · have e3 : (((q : Int) - p + 1 - 1) / 1).toNat = q - p := by first | omega | (simp; done) | (simp; omega)
    simp only [hlt, if_true, e3]
    refine List.map_congr_left fun k _ => ?_
    omega
  · have : q - p = 0 := by omega
    simp [hlt, this]

/-- z[lo:hi] -/
def cutS (z : Str) (lo hi : Option Int) : Str :=
  ⟨((z.cps.toList.drop (HT.sIx z.length 0 lo)).take (HT.sIx z.length z.length hi - HT.sIx z.length 0 lo)).toArray⟩
theorem sliceText_cut (z : Str) (lo hi : Option Int) : PySem.StrLaws.sliceText z lo hi = cutS z lo hi := by
  have h1 : HT.sIx z.length 0 lo ≤ z.length := HT.sIx_le _ _ (Nat.zero_le _) _
  have h2 : HT.sIx z.length z.length hi ≤ z.length := HT.sIx_le _ _ (Nat.le_refl _) _
  have hp : HT.sIx z.length 0 lo ≤ max (HT.sIx z.length 0 lo) (HT.sIx z.length z.length hi) := Nat.le_max_left _ _
  have hq : max (HT.sIx z.length 0 lo) (HT.sIx z.length z.length hi) ≤ z.length := Nat.max_le.mpr ⟨h1, h2⟩
  have hd : max (HT.sIx z.length 0 lo) (HT.sIx z.length z.length hi) - HT.sIx z.length 0 lo = HT.sIx z.length z.length hi - HT.sIx z.length 0 lo := by omega
  have e : Builtin.Str.strSliceIndices lo hi 1 z.length =
      Builtin.Str.strSliceIndices (some ((HT.sIx z.length 0 lo : Nat) : Int)) (some ((max (HT.sIx z.length 0 lo) (HT.sIx z.length z.length hi) : Nat) : Int)) 1 z.length := by
    rw [PySem.StrLaws.strSliceIndices_plain hp hq, hd, sidx]
  have e2 : PySem.StrLaws.sliceText z lo hi =
      PySem.StrLaws.sliceText z (some ((HT.sIx z.length 0 lo : Nat) : Int)) (some ((max (HT.sIx z.length 0 lo) (HT.sIx z.length z.length hi) : Nat) : Int)) := by
    unfold PySem.StrLaws.sliceText
    rw [e]
  rw [e2, PySem.StrLaws.sliceText_nat z hp hq, hd]
  rfl
theorem cutS_length (z : Str) (lo hi : Option Int) : (cutS z lo hi).length ≤ z.length := by
  show (((z.cps.toList.drop (HT.sIx z.length 0 lo)).take (HT.sIx z.length z.length hi - HT.sIx z.length 0 lo)).toArray).size ≤ z.cps.size
  rw [List.size_toArray, List.length_take, List.length_drop, Array.length_toList]
  omega
def rSlS : V → Option Int → Option Int → Hp → VK → Prop := fun x lo hi H Q => ∃ z, x = .str z ∧ z.length ≤ sizeLine ∧ Q (.str (cutS z lo hi)) H
theorem sl_str {X : Cx} : SlR X rSlS := by
  intro pins s σ H x v vl vu lo hi sl Q I rx hs pl pu h
  obtain ⟨z, rfl, hz, q⟩ := h
  obtain ⟨t, rfl⟩ := rx
  obtain ⟨os, hos, hcs, hds⟩ := hs
  obtain ⟨l, rfl, rfl⟩ := IsPart.raw pl
  obtain ⟨u, rfl, rfl⟩ := IsPart.raw pu
  refine ⟨"str", _, F.slot_str_getitem.lookup, typeIs_str _ _ _, ?_⟩
  refine wpAny_getItem_str_slice (l := l) (u := u) (st := none) ⟨os, hos, hcs, hds⟩ rfl ?_
  have hl : (PySem.StrLaws.sliceText z (l.map (·.1)) (u.map (·.1))).length ≤ sizeLine := by
    rw [sliceText_cut]
    exact Nat.le_trans (cutS_length z _ _) hz
  rw [← sliceText_cut] at q
  unfold PySem.StrLaws.sliceText at q hl
  show Made.post (if ((1 : Int) == 1 && (Builtin.Str.strSliceIndices (l.map (·.1)) (u.map (·.1)) 1 z.length).length == z.length) = true then Made.val (.str z t)
    else Made.str ⟨((Builtin.Str.strSliceIndices (l.map (·.1)) (u.map (·.1)) 1 z.length).filterMap (z.cps[·]?)).toArray⟩) (EP X pins σ Q) s
  by_cases c : ((1 : Int) == 1 && (Builtin.Str.strSliceIndices (l.map (·.1)) (u.map (·.1)) 1 z.length).length == z.length) = true
  · rw [if_pos c] at q ⊢
    exact ⟨.str z, H, I, ⟨t, rfl⟩, q⟩
  · rw [if_neg c] at q hl ⊢
    exact ⟨hl, .str _, H, I.tok _, ⟨_, rfl⟩, q⟩
end L2

namespace Att
open PySem PySem.W PySem.Calls PyProof.Rows

/-! ### the script -/
theorem ints_of_wellAll {P : Params} {h : Heap} : ∀ (ns : List Int) (vs : List Value), WellAll P h vs (ns.map WData.int) → IntsAre vs ns := by
  intro ns
  induction ns with
  | nil =>
    intro vs w
    rw [List.map_nil] at w
    cases w
    exact .nil
  | cons n ns ih =>
    intro vs w
    rw [List.map_cons] at w
    cases w with
    | cons a b =>
      cases a
      exact .cons _ _ (ih _ b)

theorem script_of {l : OpenLaw} {n : Nat} (hn : l.most = some n) {P : Params} {h : Heap} {args : List WData} {vals : List Value}
    (hpre : l.row.toRowW.claim.pre args = true) (hwl : WellAll P h vals args) :
    ∃ a vs ns, vals = [Value.ref a] ∧ args = [WData.list (ns.map WData.int)] ∧ h.get? a = some { cls := .type "list", data := .seq vs.toArray } ∧ IntsAre vs ns ∧ ns.length ≤ n := by
  have hsh : WShape.hasAll [] args [.list .int] = true := (pre_splitW hpre).1
  have hc : l.pre.holds [] { args := args } = true := (pre_splitW hpre).2
  obtain ⟨d, r, rfl, h1, h2⟩ := hasAllW_cons hsh
  obtain rfl := hasAllW_nil h2
  obtain ⟨xs, rfl, h3⟩ := hasW_list h1
  obtain ⟨ns, rfl⟩ := items_int h3
  have hlen : ns.length ≤ n := by
    unfold OpenLaw.pre at hc
    have h4 : (WTm.not (.lt (.lit (.int (n : Int))) (.len (.arg 0)))).holds [] { args := [.list (ns.map .int)] } = true := by
      have h4 := (holds_andW hc).1
      rw [hn] at h4
      exact h4
    have h5 := condW_of h4 (w_not (w_lt w_lit (w_len_list (w_arg rfl))))
    rw [List.length_map] at h5
    refine Nat.le_of_not_lt fun q => ?_
    have q' : (n : Int) < ((ns.length : Nat) : Int) := by omega
    first
      | (rw [decide_eq_true q'] at h5; exact absurd h5 (by decide))
      | (simp at h5; omega)
  cases hwl with
  | cons w1 w2 =>
    cases w2
    cases w1 with
    | list ho hall => exact ⟨_, _, ns, rfl, rfl, ho, ints_of_wellAll ns _ hall, hlen⟩

theorem post_true (l : OpenLaw) (args : List WData) : l.row.toRowW.claim.post args (.bool true) args = true :=
  postW_of (r := l.row.toRowW) (X := (true == true))
    (show WShape.has [] (.bool true) .bool = true by first | rfl | decide | simp [WShape.has, WShape.arms, WShape.armsAll])
    (show (WTm.eq .res (.lit (.bool true))).value [] { args := args, res := some (.bool true), after := args } = some (.bool (true == true)) from w_eq_bool (w_res rfl) w_lit) rfl

/-! ### the attachment: holds_open's last premise (the goal 'hc' behind k_head) from a wpAny of the law's body -/
/-- the same from a codeAny of the CALL (for a layer whose function contracts speak of calls) -/
theorem attach_call {l : OpenLaw} {n : Nat} {q : Program} {loose : List Str} {XP : (Str → Option Value) → Heap → Prop} {YP : World → Heap → Prop} {d : DefRec}
    (hn : l.most = some n) (hdf : d.params.defaults = [])
    (call : ∀ (w : World) (s₀ s₁ : Shared) (mg mb : Str → Option Value) (fa : Addr) (o : Obj) (pm cd doc : Value) (a : Addr) (vs : List Value) (ns : List Int),
      Ground q loose [] XP w s₀ mg mb s₁.heap → YP w s₁.heap →
      s₁.heap.get? fa = some o → o.data = .func (docDef d.name d.params d.body d.scope pm cd doc) → s₁.heap.CodeRec cd d.name → mg d.name = some (.ref fa) →
      s₁.heap.get? a = some { cls := .type "list", data := .seq vs.toArray } → IntsAre vs ns → ns.length ≤ n → s₁.gens = #[] →
      codeAny (model l.prog w) callerA (.call (.ref fa) ⟨[.ref a], []⟩) (fun r s' => r = .ok (.ret (.bool true)) ∧ OldK s₁.heap s'.heap ∧ s'.os = s₁.os ∧ AllBare s'.gens) s₁) :
    WalkO q loose XP YP l.row.toRowW d [] (fun f vs => PySem.call f vs) := by
  intro w s₀ s₁ mg mb G Y fa o pm cd doc dV kV ho hd hcd hD hmg hg args vals as hpre hlay hrd hwl hlo
  obtain rfl : dV = .none := Dflts.none hD hdf
  obtain rfl : kV = .none := Dflts.noKw hD
  obtain ⟨a, vs, ns, rfl, rfl, hobj, hints, hlen⟩ := script_of hn hpre hwl
  refine enter_call (codeAny_mono (call w s₀ s₁ mg mb fa o pm cd doc a vs ns G Y ho (fd_plain hd) hcd hmg hobj hints hlen hg) fun r s' hq => ?_)
  obtain ⟨rfl, h2, h3, h4⟩ := hq
  exact ⟨.inl ⟨.bool true, .bool true, [], rfl, fun _ => rfl, .bool true, post_true l _, fun _ => ⟨List.Pairwise.nil, fun _ hm => (nomatch hm)⟩⟩, h2, h3, h4⟩

/-! ### rules over ANY heap (no ledger) from facts about the written part K: the library's own take a ledger (News) for what they write -/
section
variable {prog : Program} {w : World} {A : Around} {E : Value → Shared → Prop} {s : Shared} {K : Frag}

/-! the whole heap as the ledger: makes every rule that writes through a ledger a rule over any heap -/
def ledger (h : Heap) (L d : Addr) : List (Addr × Obj) := (List.range h.objs.size).filterMap fun a => if a = L ∨ a = d then none else (h.get? a).map fun o => (a, o)
end
end Att

namespace L2
open PySem PySem.Spec PyProof.Rows

theorem vals_ints : ∀ {vs : List Value} {ns : List Int}, IntsAre vs ns → Vals (ns.map V.int) vs
  | _, _, .nil => .nil
  | _, _, .cons n t h => .cons ⟨t, rfl⟩ (vals_ints h)

/-- nothing is tracked but the script, known to the object (or it is an object of the module) -/
def Only (H : Hp) : Prop := ∀ b, H b = none ∨ ∃ o xs, H b = some (.frz o (.lst xs))

/-- THE HEAD: the law's promise, at the heap behind the top. F, the promise of the law's def, may use that base is part of the heap (so K.In base, base.Ns mainGlobals mg stand in Mod) -/
theorem law_call {P : Program} {w : World} {K : PySem.W.Frag} {mg mb : Str → Option Value} {CX : CXT} {k : Nat} {fa a : Addr} {fd : FuncData} {x : Str} {sp : Sp} {s₁ : Shared} {vs : List Value} {ns : List Int}
    (KX : K.In s₁.heap) (hns : s₁.heap.Ns mainGlobals mg) (hb : s₁.heap.Ns builtinsNs mb) (hbb : ∀ x : Str, x ≠ "__name__" → mb x = bootBuiltins x) (hlim : s₁.heap.NoLimit) (hg : s₁.gens = #[])
    (ha : s₁.heap.get? a = some { cls := .type "list", data := .seq vs.toArray }) (hi : IntsAre vs ns) (hl : ns.length ≤ sizeLine) (hr : Room k callerA)
    (F : ∀ base : Heap, K.In base → base.Ns mainGlobals mg → FnOk P w K mg base CX k fa fd [x] sp) (hbind : ∀ (s : Shared) (u : Value), BindsTo s fd ⟨[u], []⟩ [(x, u)])
    (hsp : ∀ H : Hp, Only H → SqL K H a (ns.map V.int) → sp [.ref a] H (fun v _ => v = .bl true) fun _ _ _ => False)
    (hCX : ∀ H e s', CX [] H s₁ (fun _ _ _ => False) e s' → False) :
    codeAny (model P w) callerA (.call (.ref fa) ⟨[.ref a], []⟩) (fun r s' => r = .ok (.ret (.bool true)) ∧ OldK s₁.heap s'.heap ∧ s'.os = s₁.os ∧ AllBare s'.gens) s₁ := by
  have rv := vals_ints hi
  have lenV := hi.length
  -- from an abstract heap in which nothing but the script may be tracked
  have core : ∀ H : Hp, Only H → SqL K H a (ns.map V.int) → HOk P w H s₁.heap → (∀ b, H b ≠ none → b = a) → (H a ≠ none → K.lookup a = none) →
      codeAny (model P w) callerA (.call (.ref fa) ⟨[.ref a], []⟩) (fun r s' => r = .ok (.ret (.bool true)) ∧ OldK s₁.heap s'.heap ∧ s'.os = s₁.os ∧ AllBare s'.gens) s₁ := by
    intro H hO hS hok hA hK
    have base_of : ∀ {b : Addr} {o : Obj}, s₁.heap.get? b = some o → H b = none → (hidT s₁.heap H).get? b = some o := fun e n => hidT_get e n
    have noA : ∀ {b : Addr} {o : Obj} {es : Array DictEntry} {ep : Nat}, s₁.heap.get? b = some o → o.data = .dict es ep → H b = none := fun {b o es ep} e d => by
      cases q : H b with
      | none => rfl
      | some u =>
        have e' : b = a := hA b (by rw [q]; simp)
        subst e'
        rw [ha] at e; cases e
        have d' : Data.seq vs.toArray _ = Data.dict es ep := d
        cases d'
    have nsK : ∀ {b : Addr} {m : Str → Option Value}, s₁.heap.Ns b m → (hidT s₁.heap H).Ns b m := fun {b m} ⟨o, es, ep, e, d, r⟩ => ⟨o, es, ep, base_of e (noA e d), d, r⟩
    have hKb : K.In (hidT s₁.heap H) := fun b o e => base_of (KX b o e) (by
      cases q : H b with
      | none => rfl
      | some u =>
        have e' : b = a := hA b (by rw [q]; simp)
        subst e'
        rw [hK (by rw [q]; simp)] at e; cases e)
    have hM : Mod K mg (hidT s₁.heap H) := ⟨hKb, nsK hns, ⟨mb, nsK hb, hbb⟩, let ⟨mc, h1, h2⟩ := hlim; ⟨mc, nsK h1, h2⟩⟩
    have e0 : Env0 P w K mg (hidT s₁.heap H) callerA [] s₁ H := ⟨rfl, hM, fun b o e => of_hidT e, Nat.le_of_eq (hidT_size _ _), trivial, fun b hb => absurd (show b ∈ ([] : List Addr) from hb) (by simp), hok, .of_eq hg⟩
    refine codeAny_mono ((F _ hKb (nsK hns)).run callerA [] s₁ H ⟨[.ref a], []⟩ [.ref a] [.ref a] _ _ hr e0 (hbind s₁ (.ref a)) (.cons rfl .nil) (hsp H hO hS)) fun r s' h => ?_
    cases r with
    | error e => exact (hCX H e s' h).elim
    | ok fl =>
      cases fl with
      | next => exact False.elim h
      | brk => exact False.elim h
      | cont => exact False.elim h
      | ret u =>
        obtain ⟨v, H', os, bare, un, hok', r', q⟩ := h
        have q' : v = .bl true := q
        subst q'
        obtain rfl : u = Value.bool true := r'
        refine ⟨rfl, OldK.of_keep fun b o e => ?_, os, bare⟩
        cases q : H b with
        | none => exact un.keep b o e q (by intro z; exact absurd (show b ∈ ([] : List Addr) from z) (by simp)) (by simp)
        | some u =>
          rcases hO b with z | ⟨ob, xs, z⟩
          · rw [q] at z; cases z
          · have z2 := un.frzs b ob _ z
            obtain ⟨e1, _⟩ := hok b _ z
            obtain ⟨e2, _⟩ := hok' b _ z2
            rw [e] at e1; cases e1
            exact e2
  cases hk : K.lookup a with
  | some o =>
    -- the script is one of the module's own objects
    have e := KX a o hk
    rw [ha] at e
    cases e
    refine core (fun _ => none) (fun _ => .inl rfl) (.inr ⟨_, vs.toArray, _, hk, rfl, rfl, rfl, by rw [List.size_toArray, lenV]; exact hl, by simpa using rv⟩) (fun b u z => by have z' : (none : Option HO) = some u := z; cases z') (fun b z => absurd rfl z) fun z => absurd rfl z
  | none =>
    refine core (fun b => if b = a then some (.frz { cls := .type "list", data := .seq vs.toArray } (.lst (ns.map V.int))) else none) (fun b => ?_) (.inl (.inr ⟨{ cls := .type "list", data := .seq vs.toArray }, if_pos rfl⟩)) (fun b u z => ?_) (fun b z => ?_) fun _ => hk
    · by_cases hb : b = a
      · exact .inr ⟨_, _, if_pos hb⟩
      · exact .inl (if_neg hb)
    · by_cases hb : b = a
      · have z' := (if_pos hb).symm.trans z
        cases z'
        subst hb
        exact ⟨ha, by rw [List.length_map]; exact hl, vs, _, rv, ha⟩
      · have z' := (if_neg hb).symm.trans z
        cases z'
    · by_cases hb : b = a
      · exact hb
      · exact absurd (if_neg hb) z
end L2

namespace L2
open PySem PySem.Spec PyProof.Rows

/-- the goal that k_head leaves (case hc), from the law's promise. F gives the function object fd (K's own) once, then the promise over every base -/
theorem walk_of {l : PySem.W.OpenLaw} {n k : Nat} {q : Program} {loose : List Str} {XP : (Str → Option Value) → Heap → Prop} {YP : World → Heap → Prop} {d : DefRec} {K : Params → PySem.W.Frag} {CX : World → CXT} {sp : World → Sp} {x : Str}
    (hn : l.most = some n) (hn2 : n ≤ sizeLine) (hdf : d.params.defaults = []) (hr : Room k callerA)
    (hY : ∀ (w : World) (h : Heap), YP w h → (K w.params).In h)
    (F : ∀ (w : World) (mg : Str → Option Value) (fa : Addr) (h : Heap), (K w.params).In h → h.Ns mainGlobals mg → mg d.name = some (.ref fa) →
      ∃ fd : FuncData, (∀ (s : Shared) (u : Value), BindsTo s fd ⟨[u], []⟩ [(x, u)]) ∧
        ∀ base : Heap, (K w.params).In base → base.Ns mainGlobals mg → FnOk l.prog w (K w.params) mg base (CX w) k fa fd [x] (sp w))
    (hsp : ∀ (w : World) (H : Hp) (a : Addr) (ns : List Int), ns.length ≤ n → Only H → SqL (K w.params) H a (ns.map V.int) → sp w [.ref a] H (fun v _ => v = .bl true) fun _ _ _ => False)
    (hCX : ∀ (w : World) (H : Hp) (s : Shared) (e : Value) (s' : Shared), CX w [] H s (fun _ _ _ => False) e s' → False) :
    PySem.W.WalkO q loose XP YP l.row.toRowW d [] (fun f vs => PySem.call f vs) := by
  refine Att.attach_call hn hdf fun w s₀ s₁ mg mb fa o pm cd doc a vs ns G Y ho hd hcd hmg hobj hints hlen hg => ?_
  have KX := hY w _ Y
  obtain ⟨fd, hb, hF⟩ := F w mg fa _ KX G.T.g hmg
  exact law_call KX G.T.g G.T.b G.T.builtins G.T.nolimit hg hobj hints (Nat.le_trans hlen hn2) hr hF hb (fun H hO hS => hsp w H a ns hlen hO hS) fun H e s' => hCX w H s₁ e s'
end L2

/- THE LAST THEOREM (shape; LID, My.* are yours):
   My.Adr: a structure of the addresses that your layer names (classes, functions); My.Txt K t: a structure (Prop) of the equations over K;
   My.txt_mk : {K} {implicit addresses ..} (e1 : nsIn K mainGlobals "law" = some (some (.ref f))) (e2 : K.lookup f = some ⟨oc, od, .func (fnOf "law" "law" params body scope dV kV doc pm an cdv ct), sl⟩) (e3 : codeIn K cdv "law" = true) .. : ∃ t, My.Txt K t

(the tactic k_is has no namespace: write k_is) -/

/-! SHORT WORDS over the layer: a def of the text, its body, what a loop and a test want. -/
namespace L2
open PySem PySem.Spec PyProof.Rows

/-! ### the text by places -/
def defArgs (s : Stmt) : Arguments := match s with
  | .FunctionDef _ a _ _ _ _ _ _ _ _ => a
  | _ => { posonlyargs := [], args := [], vararg := none, kwonlyargs := [], kw_defaults := [], kwarg := none, defaults := [] }
def defBody (s : Stmt) : List Stmt := match s with
  | .FunctionDef _ _ b _ _ _ _ _ _ _ => b
  | _ => []
def defScope (s : Stmt) : Scope := match s with
  | .FunctionDef _ _ _ _ _ _ sc _ _ _ => sc
  | _ => { kind := .function, names := [], isGenerator := false, isCoroutine := false }

/-! ### no exception leaves a def -/
abbrev CX0 : CXT := fun _ _ _ _ _ _ => False
abbrev E0 : XK := fun _ _ _ => False
theorem pass0 {X : Cx} : Passes CX0 X E0 := fun _ _ _ _ _ _ _ h => h.elim

/-! ### a def (or method) of the text as it stands behind the top -/
structure Fun (K : PySem.W.Frag) (x qual : Str) (st : Stmt) (f : Addr) (fd : FuncData) : Prop where
  ex : ∃ (oc : Value) (od : Option Addr) (kV doc pm : Value) (an : Option Addr) (cdv ct : Value) (osl : Array (Option Value)),
    fd = PySem.W.fnOf x qual (defArgs st) (defBody st) (defScope st) .none kV doc pm an cdv ct ∧ K.lookup f = some ⟨oc, od, .func fd, osl⟩ ∧ PySem.W.codeIn K cdv qual = true
  kp : PySem.W.keepIn K (.ref f) = true
section
variable {P : Program} {w : World} {K : PySem.W.Frag} {mg : Str → Option Value} {base : Heap}
/-- THE RULE for a def: its body as a term of rules, and the reading of that term -/
theorem Fun.ok {x qual : Str} {st : Stmt} {f : Addr} {fd : FuncData} {N ps : List Str} {k : Nat} {sp : Sp} (F : Fun K x qual st f fd) (S : FnScope N ps (defScope st)) (len : ∀ vs H Q E, sp vs H Q E → vs.length = ps.length)
    (hbody : ∀ (cdv : Value) (A : Around) (outer : List Env) (s : Shared) (H : Hp) (vs : List V) (Q : VK) (E : XK), Room k (A.deeper (envOfC qual (defScope st) s.heap.objs.size f cdv)) → sp vs H Q E →
      ∃ t, PSs (cxOf CX0 P w K mg base N qual (defScope st) f cdv A outer s H E).nox (defBody st) t ∧ t { nx := fun _ H' => Q .non H', rt := Q } (start N vs) H) : FnOk P w K mg base CX0 (k + 1) f fd ps sp := by
  obtain ⟨oc, od, kV, doc, pm, an, cdv, ct, osl, rfl, lk, hcd⟩ := F.ex
  refine fn_of lk hcd S len fun A outer s H vs Q E hr hsp => ?_
  obtain ⟨t, h, q⟩ := hbody cdv A outer s H vs Q E hr hsp
  exact ⟨t, h.nox, q⟩
/-- how its arguments bind (no defaults): h is «fun _ _ _ _ _ _ us hl => match us, hl with | [_, _], _ => rfl», one _ a parameter -/
theorem Fun.binds {x qual : Str} {st : Stmt} {f : Addr} {fd : FuncData} {ps : List Str} (F : Fun K x qual st f fd)
    (h : ∀ (kV doc pm : Value) (an : Option Addr) (cdv ct : Value) (us : List Value), us.length = ps.length → bindArgs (PySem.W.fnOf x qual (defArgs st) (defBody st) (defScope st) .none kV doc pm an cdv ct) ⟨us, []⟩ = pure (ps.zip us)) : Binds K fd ps [] := by
  obtain ⟨oc, od, kV, doc, pm, an, cdv, ct, osl, rfl, lk, hcd⟩ := F.ex
  exact .all (h kV doc pm an cdv ct)
theorem fun_mk {x qual : Str} {st : Stmt} {f : Addr} {oc : Value} {od an : Option Addr} {osl : Array (Option Value)} {kV doc pm cdv ct : Value} (l : K.lookup f = some ⟨oc, od, .func (PySem.W.fnOf x qual (defArgs st) (defBody st) (defScope st) .none kV doc pm an cdv ct), osl⟩)
    (c : PySem.W.codeIn K cdv qual = true) (k : PySem.W.keepIn K (.ref f) = true) : Fun K x qual st f (PySem.W.fnOf x qual (defArgs st) (defBody st) (defScope st) .none kV doc pm an cdv ct) := ⟨⟨oc, od, kV, doc, pm, an, cdv, ct, osl, rfl, l, c⟩, k⟩
end
theorem hu_of {A : Around} {k : Nat} (hr : Room k A) : A.units + 1 < cLine := Nat.lt_of_le_of_lt (Nat.add_le_add_left (by decide : 1 ≤ 64) _) hr.units
/-! ### expressions in short: the name that stands in the i-th slot -/
section
variable {X : Cx}
theorem pv (i : Nat) {x : Str} {pos : Pos} (hN : X.N[i]? = some x := by rfl) (hv : Vis X.env.scope x := by first | exact Or.inl rfl | exact Or.inr (Or.inl rfl) | exact Or.inr (Or.inr rfl)) (hd : (x == ("__debug__" : Str)) = false := by decide)
    (hcd : (x == ("__classdict__" : Str)) = false := by decide) : PE X (.Name x pos) (tVar i) := pe_var hN hv hd hcd
end

/-! ### tests -/
theorem iteF {A B : Prop} (h : B) : if false = true then A else B := by
  rw [if_neg Bool.false_ne_true]
  exact h
theorem iteT {A B : Prop} (h : A) : if true = true then A else B := by
  rw [if_pos rfl]
  exact h
theorem ite2 {c A B : Prop} [Decidable c] (h1 : c → A) (h2 : ¬ c → B) : if c then A else B := by
  by_cases h : c
  · rw [if_pos h]
    exact h1 h
  · rw [if_neg h]
    exact h2 h
/-! ### heaps -/
/-- all that was tracked is as it was -/
def Same (H H' : Hp) : Prop := ∀ b o, H b = some o → H' b = some o
theorem Same.refl (H : Hp) : Same H H := fun _ _ h => h
theorem Same.trans {H H1 H2 : Hp} (a : Same H H1) (b : Same H1 H2) : Same H H2 := fun c o h => b c o (a c o h)
theorem Same.free {H H' : Hp} (e : Same H H') {l : Addr} (h : H' l = Option.none) : H l = Option.none := by
  cases q : H l with
  | none => rfl
  | some o =>
    rw [e l o q] at h
    cases h
theorem Same.seq {K : PySem.W.Frag} {H H' : Hp} {a : Addr} {xs : List V} (e : Same H H') (h : SqL K H a xs) : SqL K H' a xs := by
  rcases h with (h | ⟨o, h⟩) | h
  · exact .inl (.inl (e _ _ h))
  · exact .inl (.inr ⟨o, e _ _ h⟩)
  · exact .inr h

/-! ### a dict's pairs: keys that differ -/
section
variable {κ : Type} [DecidableEq κ]
end
/-! ### lists -/
end L2

/-! ### more rules over the layer: repr of data, a list turned about, what is kept, the pen -/
namespace L2
open PySem PySem.Spec PyProof.Rows
section
variable {X : Cx} {pins : List (Addr × Obj)} {σ : St} {H : Hp} {s : Shared}
mutual
theorem Dp.noDict {K : PySem.W.Frag} : ∀ (d : PyData) (v : V), Dp K H v d → d.hasDict = false
  | .none, _, _ => by simp only [PyData.hasDict]
  | .bool _, _, _ => by simp only [PyData.hasDict]
  | .int _, _, _ => by simp only [PyData.hasDict]
  | .str _, _, _ => by simp only [PyData.hasDict]
  | .list ds, _, h => by
    cases h with
    | lst hs ha => simp only [PyData.hasDict]; exact DpAll.noDict ds _ ha
  | .tuple ds, _, h => by
    cases h with
    | tup hs ha => simp only [PyData.hasDict]; exact DpAll.noDict ds _ ha
  | .dict _, _, h => by cases h
theorem DpAll.noDict {K : PySem.W.Frag} : ∀ (ds : List PyData) (vs : List V), DpAll K H vs ds → PyData.hasDictAll ds = false
  | [], _, _ => by simp only [PyData.hasDictAll]
  | d :: ds, _, h => by
    cases h with
    | cons h1 h2 => simp only [PyData.hasDictAll, Dp.noDict d _ h1, DpAll.noDict ds _ h2, Bool.or_self]
end
/-- repr(x) of data -/
def rRepr (K : PySem.W.Frag) : List V → Hp → VK → Prop := fun xs H Q => ∃ x d, xs = [x] ∧ Dp K H x d ∧ d.showable = true ∧ d.depth ≤ 64 ∧ d.shown.length ≤ sizeLine ∧ Q (.str d.shown) H
theorem call_repr (hg : X.A.guards = some []) (hu : X.A.units + 128 < cLine) : CallR X (.builtin "repr") (rRepr X.K) := by
  intro pins s σ H xs us Q I r h
  obtain ⟨x, d, rfl, hd, hs, hdp, hz, q⟩ := h
  obtain ⟨u, rfl, rx⟩ := vals1 r
  have nd := Dp.noDict d x hd
  obtain ⟨as, hr⟩ := Dp.reads I d x u hd rx
  cases hd with
  | non => cases rx; exact PySem.P.repr_of_none ⟨.str "None", H, I.tok _, ⟨_, rfl⟩, q⟩
  | bl b => cases rx; exact PySem.P.repr_of_bool ⟨.str (if b then "True" else "False"), H, I.tok _, ⟨_, rfl⟩, by
      simpa only [PyData.shown] using q⟩
  | int i =>
    obtain ⟨t, rfl⟩ := rx
    exact PySem.P.repr_of_int (by simpa [PyData.showable] using hs) ⟨.str (toString i), H, I.tok _, ⟨_, rfl⟩, by simpa only [PyData.shown] using q⟩
  | str z =>
    obtain ⟨t, rfl⟩ := rx
    exact PySem.P.repr_of_str ⟨.str (reprText z), H, I.tok _, ⟨_, rfl⟩, by simpa only [PyData.shown] using q⟩ (by simpa only [PyData.shown] using hz)
  | lst h1 h2 =>
    cases rx
    exact repr_of_reads' hr hs (PyData.noDict_hsm nd) hg (by omega) (fun _ _ e => e) (fun h' u tk kp => ⟨.str _, H, I.kept kp, ⟨u, rfl⟩, q⟩) hz
  | tup h1 h2 =>
    cases rx
    exact repr_of_reads' hr hs (PyData.noDict_hsm nd) hg (by omega) (fun _ _ e => e) (fun h' u tk kp => ⟨.str _, H, I.kept kp, ⟨u, rfl⟩, q⟩) hz

end
end L2

namespace L2
open PySem PySem.Spec PyProof.Rows
/-! ### what stays -/
theorem Same.new {H : Hp} {p : Addr} {o : HO} (h : H p = none) : Same H (upd H p o) := fun b u e => by
  rw [upd_ne (ne_of_none e h)]
  exact e
/-- all but what stands at p stays -/
structure Keep (p : Addr) (H H' : Hp) : Prop where
  k : ∀ b o, H b = some o → b ≠ p → H' b = some o
  f : ∀ b, H' b = none → H b = none
section
variable {p l a q : Addr} {H H0 H1 H2 H' : Hp} {o : HO} {K : PySem.W.Frag} {xs : List V}
theorem Same.sqT (e : Same H H') (h : SqT K H a xs) : SqT K H' a xs := by
  rcases h with (h | ⟨o, h⟩) | h
  · exact .inl (.inl (e _ _ h))
  · exact .inl (.inr ⟨o, e _ _ h⟩)
  · exact .inr h
variable {kvs : List (Key × V)}
end
mutual
/-- data is read the same where the lists and tuples that are read stay -/
theorem Dp.move {K : PySem.W.Frag} {H H' : Hp} (hl : ∀ a xs, SqL K H a xs → SqL K H' a xs) (ht : ∀ a xs, SqT K H a xs → SqT K H' a xs) : ∀ (d : PyData) (v : V), Dp K H v d → Dp K H' v d
  | .none, _, h => by cases h; exact .non
  | .bool _, _, h => by cases h; exact .bl _
  | .int _, _, h => by cases h; exact .int _
  | .str _, _, h => by cases h; exact .str _
  | .list ds, _, h => by
    cases h with
    | lst hs ha => exact .lst (hl _ _ hs) (DpAll.move hl ht ds _ ha)
  | .tuple ds, _, h => by
    cases h with
    | tup hs ha => exact .tup (ht _ _ hs) (DpAll.move hl ht ds _ ha)
  | .dict _, _, h => by cases h
theorem DpAll.move {K : PySem.W.Frag} {H H' : Hp} (hl : ∀ a xs, SqL K H a xs → SqL K H' a xs) (ht : ∀ a xs, SqT K H a xs → SqT K H' a xs) : ∀ (ds : List PyData) (vs : List V), DpAll K H vs ds → DpAll K H' vs ds
  | [], _, h => by cases h; exact .nil
  | d :: ds, _, h => by
    cases h with
    | cons h1 h2 => exact .cons (Dp.move hl ht d _ h1) (DpAll.move hl ht ds _ h2)
end
section
variable {K : PySem.W.Frag} {H H' : Hp} {p : Addr} {v : V} {vs ws : List V} {d : PyData} {ds es : List PyData} {kvs : List (Key × V)}
end

/-! ### the pen -/
def penO (c : Addr) (a l : Int) : HO := .dK [(Sum.inr "cells", .ref c), (Sum.inr "at", .int a), (Sum.inr "left", .int l)]
/-- at p stands the pen over the ints ns of the list at c; at most n of them were taken -/
def Pen (K : PySem.W.Frag) (H : Hp) (p c : Addr) (ns : List Int) (n : Nat) : Prop := ∃ (a l : Int), H p = some (penO c a l) ∧ SqL K H c (ns.map V.int) ∧ ns.length ≤ 63 ∧ 0 ≤ a ∧ a ≤ (n : Int) ∧ 0 ≤ l
section
variable {K : PySem.W.Frag} {H H0 H' : Hp} {p c q l : Addr} {ns : List Int} {n m : Nat} {a z : Int} {o : HO}
theorem ca : ¬ (("cells" : Str) = "at") := by decide +kernel
theorem cl : ¬ (("cells" : Str) = "left") := by decide +kernel
theorem al : ¬ (("at" : Str) = "left") := by decide +kernel
/-- a list of ints against the empty one -/
theorem eqv_nil {ns : List Int} : PyData.eqv (.list (ns.map .int)) (.list []) = ns.isEmpty := by
  cases ns with
  | nil => rfl
  | cons a r => rfl
theorem canLay_ints : ∀ (ns : List Int), PyData.canLayAll0 (ns.map .int) = true
  | [] => by simp [PyData.canLayAll0]
  | i :: r => by
    simp only [List.map_cons, PyData.canLayAll0, PyData.canLay0, canLay_ints r, Bool.and_self, Bool.true_and]
theorem depth_ints : ∀ (ns : List Int), PyData.depthAll (ns.map .int) ≤ 1
  | [] => by simp [PyData.depthAll]
  | i :: r => by
    have h := depth_ints r
    simp only [List.map_cons, PyData.depthAll, PyData.depth]
    omega
theorem shaped_ints (ns : List Int) : SeqAt.shaped (.list (ns.map .int)) = true := by
  have h := depth_ints ns
  refine Bool.and_eq_true_iff.mpr ⟨by simp only [PyData.canLay0, canLay_ints], decide_eq_true ?_⟩
  simp only [PyData.depth]
  omega
end
end L2
namespace L2
open PySem PySem.Spec PyProof.Rows
/-- a def that may be called -/
structure Cal (P : Program) (w : World) (K : PySem.W.Frag) (mg : Str → Option Value) (base : Heap) (k : Nat) (x : Str) (ps : List Str) (sp : Sp) (f : Addr) (fd : FuncData) : Prop where
  ok : FnOk P w K mg base CX0 k f fd ps sp
  mg : mg x = some (.ref f)
  kp : PySem.W.keepIn K (.ref f) = true
  bd : Binds K fd ps []
theorem mulB {x y A B : Int} (h0 : 0 ≤ x) (h1 : x ≤ A) (h2 : 0 ≤ y) (h3 : y ≤ B) : 0 ≤ x * y ∧ x * y ≤ A * B :=
  ⟨Int.mul_nonneg h0 h2, Int.le_trans (Int.mul_le_mul_of_nonneg_right h1 h2) (Int.mul_le_mul_of_nonneg_left h3 (Int.le_trans h0 h1))⟩
end L2

namespace L2
open PySem PySem.Spec PyProof.Rows
/-! ### how much a datum's repr is -/
/-- d can be shown, in at most B signs, at most D deep -/
structure Sm (B D : Nat) (d : PyData) : Prop where
  s : d.showable = true
  b : d.shown.length ≤ B
  d : d.depth ≤ D
theorem Sm.mono {B B' D D' : Nat} {d : PyData} (h : Sm B D d) (h1 : B ≤ B') (h2 : D ≤ D') : Sm B' D' d := ⟨h.s, Nat.le_trans h.b h1, Nat.le_trans h.d h2⟩
theorem shownAll_len : ∀ ds : List PyData, (PyData.shownAll ds).length = ds.length
  | [] => rfl
  | d :: ds => by simp only [PyData.shownAll, List.length_cons, shownAll_len ds]
theorem showAll_of : ∀ ds : List PyData, (∀ d ∈ ds, d.showable = true) → PyData.showableAll ds = true
  | [], _ => by simp [PyData.showableAll]
  | d :: ds, h => by
    simp only [PyData.showableAll, h d (List.mem_cons_self ..), showAll_of ds fun e he => h e (List.mem_cons_of_mem _ he), Bool.and_self]
theorem depthAll_of {D : Nat} : ∀ ds : List PyData, (∀ d ∈ ds, d.depth ≤ D) → PyData.depthAll ds ≤ D
  | [], _ => by simp [PyData.depthAll]
  | d :: ds, h => by
    have h1 := h d (List.mem_cons_self ..)
    have h2 := depthAll_of ds fun e he => h e (List.mem_cons_of_mem _ he)
    simp only [PyData.depthAll]
    omega
theorem Sm.int {i : Int} (h : -18446744073709551616 < i) (h' : i < 18446744073709551616) : Sm 100 1 (.int i) := by
  have hl : i.natAbs.log2 < 65 := by
    by_cases h0 : i.natAbs = 0
    · rw [h0]; decide
    · exact (Nat.log2_lt h0).mpr (by omega)
  refine ⟨by simp only [PyData.showable]; exact decide_eq_true (by omega), ?_, by simp [PyData.depth]⟩
  have e := int_text_length_le (a := i) (k := 65) (by decide) hl
  simp only [PyData.shown]
  rw [PySem.ofString_length]
  omega
theorem Sm.str {x : Str} {n : Nat} (h : ∀ c ∈ x.cps.toList, c < 16 ^ 8) (hn : x.length ≤ n) : Sm (10 * n + 2) 1 (.str x) := by
  refine ⟨by simp [PyData.showable], ?_, by simp [PyData.depth]⟩
  have := StrLaws.reprText_len x h
  simp only [PyData.shown]
  omega
/-! ### a heap without one address -/
def rm (l : Addr) (H : Hp) : Hp := fun b => if b = l then none else H b
section
variable {l p q : Addr} {H H' : Hp} {o : HO}
theorem rm_ne {b : Addr} (h : b ≠ l) : rm l H b = H b := if_neg h
end
/-! ### an item of a written list -/
theorem atMem {α : Type} {xs : List α} {i : Int} (h0 : 0 ≤ i) (h1 : i < xs.length) : ∃ v, atI xs i = some v ∧ v ∈ xs := by
  have hj : i.toNat < xs.length := by omega
  refine ⟨xs[i.toNat], ?_, List.getElem_mem hj⟩
  have e := atI_nat (xs := xs) (List.getElem?_eq_getElem hj)
  rw [Int.toNat_of_nonneg h0] at e
  exact e
theorem at0 {α : Type} {x : α} {xs : List α} : atI (x :: xs) 0 = some x := atI_nat (j := 0) rfl
end L2

namespace L2
open PySem PySem.Spec PyProof.Rows
section
variable {K : PySem.W.Frag} {H H0 Hi Hj : Hp} {p c q l a : Addr} {ns : List Int} {n m : Nat} {xs : List V} {ds : List PyData} {o : HO} {v : V} {d : PyData}
/-- amid the making of a list at l, which holds xs, the data ds; H: at the entry -/
structure Lc (K : PySem.W.Frag) (H : Hp) (p c : Addr) (ns : List Int) (l : Addr) (xs : List V) (ds : List PyData) (n : Nat) (Hi : Hp) : Prop where
  k : Keep p H Hi
  pn : Pen K Hi p c ns n
  at_ : Hi l = some (.lst xs)
  da : DpAll K (rm l Hi) xs ds
end
mutual
/-- no list is in it -/
def noList : PyData → Bool
  | .list _ => false
  | .tuple ds => noListAll ds
  | .dict _ => false
  | _ => true
def noListAll : List PyData → Bool
  | [] => true
  | d :: ds => noList d && noListAll ds
end
mutual
/-- what has no list stands without the list at l -/
theorem Dp.rmT {K : PySem.W.Frag} {H : Hp} {l : Addr} {xs : List V} (hl : H l = some (.lst xs)) : ∀ (d : PyData) (v : V), noList d = true → Dp K H v d → Dp K (rm l H) v d
  | .none, _, _, h => by cases h; exact .non
  | .bool _, _, _, h => by cases h; exact .bl _
  | .int _, _, _, h => by cases h; exact .int _
  | .str _, _, _, h => by cases h; exact .str _
  | .list ds, _, n, h => by simp [noList] at n
  | .tuple ds, _, n, h => by
    cases h with
    | tup hs ha =>
      refine .tup ?_ (DpAll.rmT hl ds _ (by simpa [noList] using n) ha)
      rcases hs with (hs | ⟨o, hs⟩) | hs
      · exact .inl (.inl (by rw [rm_ne (ne_of hs hl (by intro z; cases z))]; exact hs))
      · exact .inl (.inr ⟨o, by rw [rm_ne (ne_of hs hl (by intro z; cases z))]; exact hs⟩)
      · exact .inr hs
  | .dict _, _, _, h => by cases h
theorem DpAll.rmT {K : PySem.W.Frag} {H : Hp} {l : Addr} {xs : List V} (hl : H l = some (.lst xs)) : ∀ (ds : List PyData) (vs : List V), noListAll ds = true → DpAll K H vs ds → DpAll K (rm l H) vs ds
  | [], _, _, h => by cases h; exact .nil
  | d :: ds, _, n, h => by
    have n' : noList d = true ∧ noListAll ds = true := by simpa [noListAll] using n
    cases h with
    | cons h1 h2 => exact .cons (Dp.rmT hl d _ n'.1 h1) (DpAll.rmT hl ds _ n'.2 h2)
end
end L2

namespace L2
open PySem PySem.Spec PyProof.Rows
theorem Room.u128 {k : Nat} {A : Around} (r : Room k A) : A.units + 128 < cLine := by have := r.un; omega
/-! ### written data: constants, negative numbers, tuples of these -/
section
variable {X : Cx}
end
end L2

/-! ### an enumerate over a tuple -/
namespace En
open PySem PyProof.Rows
open PySem.AutoSeq1 (wpAny_loadPart')
section
variable {prog : Program} {w : World} {A : Around} {E : Value → Shared → Prop} {s : Shared}
end
section
variable {prog : Program} {w : World} {A : Around} {E : Value → Shared → Prop} {s : Shared}
end
end En

namespace L2
open PySem PySem.Spec PyProof.Rows
/-- a text so many times -/
theorem op_mulS {X : Cx} : OpR X (binaryOp .Mult) (fun x y H Q => ∃ (z : Str) (n : Int), x = .str z ∧ y = .int n ∧ 2 ≤ n ∧ n ≤ 1000 ∧ 0 < z.length ∧ z.length ≤ 1000 ∧ (⟨(List.replicate n.toNat z.cps).foldl (· ++ ·) #[]⟩ : Str).length ≤ sizeLine ∧ Q (.str ⟨(List.replicate n.toNat z.cps).foldl (· ++ ·) #[]⟩) H) := by
  intro pins s σ H x y v u Q I rx ry h
  obtain ⟨z, n, rfl, rfl, h1, h2, h3, h4, h5, q⟩ := h
  obtain ⟨t, rfl⟩ := rx
  obtain ⟨t', rfl⟩ := ry
  have hc : (n == 1 || z.length == 0) = false := by
    have e1 : (n == 1) = false := by simp; omega
    have e2 : (z.length == 0) = false := by simp; omega
    rw [e1, e2]; rfl
  refine PySem.P.mul_str (by rw [decide_eq_false (by omega), decide_eq_false (by omega)]; rfl) (fun _ _ => ?_) (fun _ _ => ?_) ?_
  · have : (2 ^ 63 - 1) / n ≥ (2 ^ 63 - 1) / 1000 := by
      refine Int.le_ediv_of_mul_le (by omega) ?_
      calc (2 ^ 63 - 1 : Int) / 1000 * n ≤ (2 ^ 63 - 1) / 1000 * 1000 := Int.mul_le_mul_of_nonneg_left h2 (by decide)
        _ ≤ 2 ^ 63 - 1 := by decide
    have e : ((2 ^ 63 - 1) / 1000 : Int) = 9223372036854775 := by decide
    omega
  · have e : z.length * n.toNat ≤ 1000 * 1000 := Nat.mul_le_mul h4 (by omega)
    exact decide_eq_false (fun g => absurd (Nat.lt_of_lt_of_le g e) (by decide))
  · rw [if_neg (by omega), hc, if_neg Bool.false_ne_true]
    exact ⟨h5, .str _, H, I.tok _, ⟨_, rfl⟩, q⟩
end L2
/-! ### t >= u of tuples of ints -/
namespace HT
open PySem PyProof.Rows
section
open PySem.SeqAt
open PySem.AutoSeq1 (wpAny_loadPart')
open PySem.MeetsSeq PySem.MeetsSeq2 PySem.MeetsSeq3
end
section
variable {prog : Program} {w : World} {A : Around} {E : Value → Shared → Prop} {s : Shared}
end
end HT
namespace L2
open PySem PySem.Spec PyProof.Rows
end L2

namespace L2
open PySem PySem.Spec PyProof.Rows
/-- what kind of thing a value is -/
inductive Kd (K : PySem.W.Frag) (H : Hp) : V → String → Prop
  | non : Kd K H .non "NoneType"
  | bl (b : Bool) : Kd K H (.bl b) "bool"
  | int (i : Int) : Kd K H (.int i) "int"
  | str (x : Str) : Kd K H (.str x) "str"
  | lst {a : Addr} {xs : List V} : SqL K H a xs → Kd K H (.ref a) "list"
  | tup {a : Addr} {xs : List V} : SqT K H a xs → Kd K H (.ref a) "tuple"
  | dic {a : Addr} {kvs : List (Key × V)} : Rd H a (.dK kvs) → Kd K H (.ref a) "dict"
def isiB (k T : String) : Bool := k == T || (k == "bool" && T == "int")
def rIsi (K : PySem.W.Frag) : List V → Hp → VK → Prop := fun xs H Q => ∃ x T k, xs = [x, .ty T] ∧ (T = "int" ∨ T = "str" ∨ T = "bool" ∨ T = "tuple") ∧ Kd K H x k ∧ Q (.bl (isiB k T)) H
theorem call_isi {X : Cx} : CallR X (.builtin "isinstance") (rIsi X.K) := by
  intro pins s σ H xs us Q I r h
  obtain ⟨x, T, kd, rfl, hT, hk, q⟩ := h
  obtain ⟨u, w', rfl, ru, rw'⟩ := vals2 r
  obtain rfl : w' = Value.type T := rw'
  cases hk with
  | non =>
    cases ru
    rcases hT with rfl | rfl | rfl | rfl
    · exact IsiPair.NoneType_int ⟨.bl false, H, I.tok _, rfl, q⟩
    · exact IsiPair.NoneType_str ⟨.bl false, H, I.tok _, rfl, q⟩
    · exact IsiPair.NoneType_bool ⟨.bl false, H, I.tok _, rfl, q⟩
    · exact IsiPair.NoneType_tuple ⟨.bl false, H, I.tok _, rfl, q⟩
  | bl b =>
    cases ru
    rcases hT with rfl | rfl | rfl | rfl
    · exact IsiPair.bool_int ⟨.bl true, H, I, rfl, q⟩
    · exact IsiPair.bool_str ⟨.bl false, H, I.tok _, rfl, q⟩
    · exact IsiPair.bool_bool ⟨.bl true, H, I, rfl, q⟩
    · exact IsiPair.bool_tuple ⟨.bl false, H, I.tok _, rfl, q⟩
  | int i =>
    obtain ⟨t, rfl⟩ := ru
    rcases hT with rfl | rfl | rfl | rfl
    · exact IsiPair.int_int ⟨.bl true, H, I, rfl, q⟩
    · exact IsiPair.int_str ⟨.bl false, H, I.tok _, rfl, q⟩
    · exact IsiPair.int_bool ⟨.bl false, H, I.tok _, rfl, q⟩
    · exact IsiPair.int_tuple ⟨.bl false, H, I.tok _, rfl, q⟩
  | str z =>
    obtain ⟨t, rfl⟩ := ru
    rcases hT with rfl | rfl | rfl | rfl
    · exact IsiPair.str_int ⟨.bl false, H, I.tok _, rfl, q⟩
    · exact IsiPair.str_str ⟨.bl true, H, I, rfl, q⟩
    · exact IsiPair.str_bool ⟨.bl false, H, I.tok _, rfl, q⟩
    · exact IsiPair.str_tuple ⟨.bl false, H, I.tok _, rfl, q⟩
  | lst hs =>
    cases ru
    obtain ⟨its, rv, ⟨o, n, ho, hc, _, hd⟩, _⟩ := I.list hs
    rcases hT with rfl | rfl | rfl | rfl
    · exact IsiPair.list_int ho hc ⟨.bl false, H, I.tok _, rfl, q⟩
    · exact IsiPair.list_str ho hc ⟨.bl false, H, I.tok _, rfl, q⟩
    · exact IsiPair.list_bool ho hc ⟨.bl false, H, I.tok _, rfl, q⟩
    · exact IsiPair.list_tuple ho hc ⟨.bl false, H, I.tok _, rfl, q⟩
  | tup hs =>
    cases ru
    obtain ⟨its, rv, ⟨o, ho, hc, n, hd⟩, _⟩ := I.tuple hs
    rcases hT with rfl | rfl | rfl | rfl
    · exact IsiPair.tuple_int ho hc ⟨.bl false, H, I.tok _, rfl, q⟩
    · exact IsiPair.tuple_str ho hc ⟨.bl false, H, I.tok _, rfl, q⟩
    · exact IsiPair.tuple_bool ho hc ⟨.bl false, H, I.tok _, rfl, q⟩
    · exact IsiPair.tuple_tuple ho hc ⟨.bl true, H, I, rfl, q⟩
  | dic he =>
    cases ru
    obtain ⟨_, _, vs0, _, dd⟩ := dk_rd I.hok he
    obtain ⟨o, es, ep, ho, hx, hdt, _⟩ := dd
    have hc : o.cls = .type "dict" := hx.1
    rcases hT with rfl | rfl | rfl | rfl
    · exact IsiPair.dict_int ho hc ⟨.bl false, H, I.tok _, rfl, q⟩
    · exact IsiPair.dict_str ho hc ⟨.bl false, H, I.tok _, rfl, q⟩
    · exact IsiPair.dict_bool ho hc ⟨.bl false, H, I.tok _, rfl, q⟩
    · exact IsiPair.dict_tuple ho hc ⟨.bl false, H, I.tok _, rfl, q⟩
/-- a thing: data, or an empty dict -/
inductive Tg (K : PySem.W.Frag) (H : Hp) : V → PyData → Prop
  | dat {v : V} {d : PyData} : Dp K H v d → Tg K H v d
  | emp {a : Addr} : Rd H a (.dK []) → Tg K H (.ref a) (.dict [])
theorem reads_emp {X : Cx} {pins : List (Addr × Obj)} {σ : L2.St} {H : Hp} {s : Shared} {a : Addr} (I : Inv X pins σ H s) (e : Rd H a (.dK [])) : ∃ as, Reads s.heap (.ref a) (.dict []) as ∧ sysModules ∉ as := by
  obtain ⟨_, hsys, vs0, r0, dd⟩ := dk_rd I.hok e
  cases r0
  obtain ⟨o, es, ep, ho, hx, hdt, hk, hp, _⟩ := dd
  have hes : es.toList = [] := by
    cases h : es.toList with
    | nil => rfl
    | cons x r => rw [h] at hp; cases hp
  refine ⟨_, Reads.dict (kvs := []) (as := []) (bs := []) ho hx.1 hdt (by rw [hes]; exact .nil) (by rw [hes]; exact .nil), ?_⟩
  intro m
  simp only [List.append_nil, List.mem_singleton] at m
  rw [← m] at hsys
  simp at hsys
/-- repr(x) of a thing -/
def rReprT (K : PySem.W.Frag) : List V → Hp → VK → Prop := fun xs H Q => ∃ x d, xs = [x] ∧ Tg K H x d ∧ d.showable = true ∧ d.depth ≤ 64 ∧ d.shown.length ≤ sizeLine ∧ Q (.str d.shown) H
theorem call_reprT {X : Cx} (hg : X.A.guards = some []) (hu : X.A.units + 128 < cLine) : CallR X (.builtin "repr") (rReprT X.K) := by
  intro pins s σ H xs us Q I r h
  obtain ⟨x, d, rfl, hd, hs, hdp, hz, q⟩ := h
  cases hd with
  | dat hd => exact call_repr hg hu pins s σ H _ us Q I r ⟨x, d, rfl, hd, hs, hdp, hz, q⟩
  | emp he =>
    obtain ⟨u, rfl, rx⟩ := vals1 r
    cases rx
    obtain ⟨as, hr, hsm⟩ := reads_emp I he
    exact repr_of_reads' hr hs (fun _ => hsm) hg (by omega) (fun _ _ e => e) (fun h' u tk kp => ⟨.str _, H, I.kept kp, ⟨u, rfl⟩, q⟩) hz
/-! ### a list of written scalars -/
section
variable {X : Cx}
end
end L2

/-! ### programs over data: what an expression, a statement, a def comes to, as a function over data and a small store of what may change -/
namespace DL
open PySem PySem.Spec PyProof.Rows L2
inductive All2 {α β : Type} (R : α → β → Prop) : List α → List β → Prop
  | nil : All2 R [] []
  | cons {a b as bs} : R a b → All2 R as bs → All2 R (a :: as) (b :: bs)
section
variable {α β : Type} {R S : α → β → Prop}
theorem All2.mono (h : ∀ a b, R a b → S a b) : ∀ {as : List α} {bs : List β}, All2 R as bs → All2 S as bs
  | _, _, .nil => .nil
  | _, _, .cons a t => .cons (h _ _ a) (All2.mono h t)
theorem All2.length : ∀ {as : List α} {bs : List β}, All2 R as bs → as.length = bs.length
  | _, _, .nil => rfl
  | _, _, .cons _ t => by rw [List.length_cons, List.length_cons, All2.length t]
theorem All2.at : ∀ {as : List α} {bs : List β} {i : Nat} {b : β}, All2 R as bs → bs[i]? = some b → ∃ a, as[i]? = some a ∧ R a b
  | _, _, _, _, .nil, e => by simp at e
  | _, _, 0, _, .cons h _, e => by simp at e; subst e; exact ⟨_, rfl, h⟩
  | _, _, i + 1, d, .cons _ t, e => by
    obtain ⟨v, h1, h2⟩ := All2.at (i := i) (b := d) t (by simpa using e)
    exact ⟨v, by simpa using h1, h2⟩
theorem All2.append : ∀ {vs ws : List α} {ds es : List β}, All2 R vs ds → All2 R ws es → All2 R (vs ++ ws) (ds ++ es)
  | _, _, _, _, .nil, h => h
  | _, _, _, _, .cons h t, g => .cons h (All2.append t g)
theorem All2.take : ∀ {vs : List α} {ds : List β} (n : Nat), All2 R vs ds → All2 R (vs.take n) (ds.take n)
  | _, _, 0, _ => .nil
  | _, _, _ + 1, .nil => .nil
  | _, _, n + 1, .cons h t => .cons h (All2.take n t)
theorem All2.drop : ∀ {vs : List α} {ds : List β} (n : Nat), All2 R vs ds → All2 R (vs.drop n) (ds.drop n)
  | _, _, 0, h => h
  | _, _, _ + 1, .nil => .nil
  | _, _, n + 1, .cons _ t => All2.drop n t
end
def keyD : Key → PyData
  | .inl i => .int i
  | .inr x => .str x
mutual
/-- the value v stands for the data d in the heap G -/
inductive Rp (K : PySem.W.Frag) (G : Hp) : V → PyData → Prop
  | non : Rp K G .non .none
  | bl (b : Bool) : Rp K G (.bl b) (.bool b)
  | int (i : Int) : Rp K G (.int i) (.int i)
  | str (x : Str) : Rp K G (.str x) (.str x)
  | lst {a : Addr} {xs : List V} {ds : List PyData} : SqL K G a xs → RpAll K G xs ds → Rp K G (.ref a) (.list ds)
  | tup {a : Addr} {xs : List V} {ds : List PyData} : SqT K G a xs → RpAll K G xs ds → Rp K G (.ref a) (.tuple ds)
  | dic {a : Addr} {kvs : List (Key × V)} {ds : List (PyData × PyData)} : Rd G a (.dK kvs) → RpKV K G kvs ds → Rp K G (.ref a) (.dict ds)
inductive RpAll (K : PySem.W.Frag) (G : Hp) : List V → List PyData → Prop
  | nil : RpAll K G [] []
  | cons {v : V} {vs : List V} {d : PyData} {ds : List PyData} : Rp K G v d → RpAll K G vs ds → RpAll K G (v :: vs) (d :: ds)
inductive RpKV (K : PySem.W.Frag) (G : Hp) : List (Key × V) → List (PyData × PyData) → Prop
  | nil : RpKV K G [] []
  | cons {k : Key} {v : V} {kvs : List (Key × V)} {d : PyData} {ds : List (PyData × PyData)} : Rp K G v d → RpKV K G kvs ds → RpKV K G ((k, v) :: kvs) ((keyD k, d) :: ds)
end
theorem _root_.L2.DGet.kr {H : Hp} {a : Addr} {kvs : List (Key × V)} {k : Key} (e : Rd H a (.dK kvs)) : DGet H a (kV k) (valV kvs k) := .inl ⟨kvs, k, e, rfl, rfl⟩
theorem _root_.L2.Same.rd {G H : Hp} {a : Addr} {u : HO} (e : Same G H) (r : Rd G a u) : Rd H a u := by
  rcases r with r | ⟨o, r⟩
  · exact .inl (e _ _ r)
  · exact .inr ⟨o, e _ _ r⟩
section
variable {K : PySem.W.Frag} {G G' H : Hp}
mutual
theorem Rp.mono (e : Same G G') : ∀ {v : V} {d : PyData}, Rp K G v d → Rp K G' v d
  | _, _, .non => .non
  | _, _, .bl b => .bl b
  | _, _, .int i => .int i
  | _, _, .str x => .str x
  | _, _, .lst h a => .lst (e.seq h) (RpAll.mono e a)
  | _, _, .tup h a => .tup (e.sqT h) (RpAll.mono e a)
  | _, _, .dic h a => .dic (e.rd h) (RpKV.mono e a)
theorem RpAll.mono (e : Same G G') : ∀ {vs : List V} {ds : List PyData}, RpAll K G vs ds → RpAll K G' vs ds
  | _, _, .nil => .nil
  | _, _, .cons h t => .cons (Rp.mono e h) (RpAll.mono e t)
theorem RpKV.mono (e : Same G G') : ∀ {vs : List (Key × V)} {ds : List (PyData × PyData)}, RpKV K G vs ds → RpKV K G' vs ds
  | _, _, .nil => .nil
  | _, _, .cons h t => .cons (Rp.mono e h) (RpKV.mono e t)
end
theorem RpAll.all2 : ∀ {vs : List V} {ds : List PyData}, RpAll K G vs ds → All2 (Rp K G) vs ds
  | _, _, .nil => .nil
  | _, _, .cons h t => .cons h (RpAll.all2 t)
theorem RpAll.of2 : ∀ {vs : List V} {ds : List PyData}, All2 (Rp K G) vs ds → RpAll K G vs ds
  | _, _, .nil => .nil
  | _, _, .cons h t => .cons h (RpAll.of2 t)
theorem RpAll.length {vs : List V} {ds : List PyData} (h : RpAll K G vs ds) : vs.length = ds.length := h.all2.length
theorem RpAll.at {vs : List V} {ds : List PyData} {i : Nat} {d : PyData} (h : RpAll K G vs ds) (e : ds[i]? = some d) : ∃ v, vs[i]? = some v ∧ Rp K G v d := h.all2.at e
theorem RpAll.append {vs ws : List V} {ds es : List PyData} (h : RpAll K G vs ds) (g : RpAll K G ws es) : RpAll K G (vs ++ ws) (ds ++ es) := .of2 (h.all2.append g.all2)
theorem RpAll.take {vs : List V} {ds : List PyData} (n : Nat) (h : RpAll K G vs ds) : RpAll K G (vs.take n) (ds.take n) := .of2 (h.all2.take n)
theorem RpAll.drop {vs : List V} {ds : List PyData} (n : Nat) (h : RpAll K G vs ds) : RpAll K G (vs.drop n) (ds.drop n) := .of2 (h.all2.drop n)
mutual
theorem Rp.dp : ∀ {v : V} {d : PyData}, Rp K G v d → d.hasDict = false → Dp K G v d
  | _, _, .non, _ => .non
  | _, _, .bl b, _ => .bl b
  | _, _, .int i, _ => .int i
  | _, _, .str x, _ => .str x
  | _, _, .lst h a, e => .lst h (RpAll.dp a (by simpa only [PyData.hasDict] using e))
  | _, _, .tup h a, e => .tup h (RpAll.dp a (by simpa only [PyData.hasDict] using e))
  | _, _, .dic h a, e => by simp [PyData.hasDict] at e
theorem RpAll.dp : ∀ {vs : List V} {ds : List PyData}, RpAll K G vs ds → PyData.hasDictAll ds = false → DpAll K G vs ds
  | _, _, .nil, _ => .nil
  | _, _, .cons h t, e => by
    simp only [PyData.hasDictAll, Bool.or_eq_false_iff] at e
    exact .cons (Rp.dp h e.1) (RpAll.dp t e.2)
end
mutual
theorem Dp.rp : ∀ {v : V} {d : PyData}, Dp K G v d → Rp K G v d
  | _, _, .non => .non
  | _, _, .bl b => .bl b
  | _, _, .int i => .int i
  | _, _, .str x => .str x
  | _, _, .lst h a => .lst h (DpAll.rp a)
  | _, _, .tup h a => .tup h (DpAll.rp a)
theorem DpAll.rp : ∀ {vs : List V} {ds : List PyData}, DpAll K G vs ds → RpAll K G vs ds
  | _, _, .nil => .nil
  | _, _, .cons h t => .cons (Dp.rp h) (DpAll.rp t)
end
end
/-! ### values and the store -/
inductive DV where
  | dat (d : PyData)
  | ref (k : Nat)
  | fn (x : Str)
inductive Nd where
  | lst (cs : List DV)
  | dic (kvs : List (Key × DV))
  | fz (d : PyData)
abbrev Sr := List Nd
abbrev En := List (Option DV)
def Vr (K : PySem.W.Frag) (G : Hp) (as : List Addr) (v : V) : DV → Prop
  | .dat d => Rp K G v d
  | .ref k => ∃ a, as[k]? = some a ∧ v = .ref a
  | .fn x => ∃ a, PySem.W.nsIn K mainGlobals x = some (some (.ref a)) ∧ v = .ref a
def NdOk (K : PySem.W.Frag) (G H : Hp) (as : List Addr) (a : Addr) : Nd → Prop
  | .lst cs => ∃ vs, H a = some (.lst vs) ∧ All2 (Vr K G as) vs cs ∧ G a = none
  | .dic kvs => ∃ us, H a = some (.dK us) ∧ All2 (fun p q => p.1 = q.1 ∧ Vr K G as p.2 q.2) us kvs ∧ G a = none
  | .fz d => Rp K G (.ref a) d
structure Sto (K : PySem.W.Frag) (G H : Hp) (as : List Addr) (w : Sr) : Prop where
  gh : Same G H
  ln : as.length = w.length
  nd : as.Nodup
  al : ∀ a ∈ as, H a ≠ none
  ok : ∀ (k : Nat) (a : Addr) (n : Nd), as[k]? = some a → w[k]? = some n → NdOk K G H as a n
/-- what a step leaves -/
structure Stp (as : List Addr) (G H : Hp) (as' : List Addr) (G' H' : Hp) : Prop where
  gg : Same G G'
  ax : ∃ l, as' = as ++ l
  an : ∀ a ∈ as', a ∉ as → H a = none
  fr : ∀ b, G' b ≠ none → G b ≠ none ∨ H b = none ∨ b ∈ as
  kp : ∀ b o, H b = some o → b ∉ as → H' b = some o
  fn : ∀ b, H' b = none → H b = none
section
variable {K : PySem.W.Frag} {G H G' H' G1 H1 G2 H2 : Hp} {as as' as1 as2 : List Addr} {w w' : Sr} {σ : L2.St} {δ : En}
theorem Stp.refl : Stp as G H as G H := ⟨Same.refl _, ⟨[], by simp⟩, fun a h n => absurd h n, fun _ h => .inl h, fun _ _ h _ => h, fun _ h => h⟩
theorem Stp.at (s : Stp as G H as' G' H') {k : Nat} {a : Addr} (h : as[k]? = some a) : as'[k]? = some a := by
  obtain ⟨l, rfl⟩ := s.ax
  rw [List.getElem?_append_left]
  · exact h
  · exact (List.getElem?_eq_some_iff.mp h).1
theorem Stp.trans (a : Stp as G H as1 G1 H1) (b : Stp as1 G1 H1 as2 G2 H2) : Stp as G H as2 G2 H2 where
  gg := a.gg.trans b.gg
  ax := by
    obtain ⟨l, e⟩ := a.ax
    obtain ⟨m, f⟩ := b.ax
    exact ⟨l ++ m, by rw [f, e, List.append_assoc]⟩
  an := fun c h n => by
    by_cases z : c ∈ as1
    · exact a.an c z n
    · exact a.fn c (b.an c h z)
  fr := fun c h => by
    rcases b.fr c h with h | h | h
    · exact a.fr c h
    · exact .inr (.inl (a.fn c h))
    · by_cases z : c ∈ as
      · exact .inr (.inr z)
      · exact .inr (.inl (a.an c h z))
  kp := fun c o h n => b.kp c o (a.kp c o h n) fun z => by
    have := a.an c z n
    rw [h] at this; cases this
  fn := fun c h => a.fn c (b.fn c h)
theorem Vr.mono {v : V} {d : DV} (h : Vr K G as v d) (s : Stp as G H as' G' H') : Vr K G' as' v d := by
  cases d with
  | dat d => exact Rp.mono s.gg h
  | ref k =>
    obtain ⟨a, h1, h2⟩ := h
    exact ⟨a, s.at h1, h2⟩
  | fn x => exact h
structure Rel (K : PySem.W.Frag) (σ : L2.St) (δ : En) (as : List Addr) (w : Sr) (G H : Hp) : Prop where
  st : Sto K G H as w
  sl : ∀ (i : Nat) (x : DV), δ[i]? = some (some x) → ∃ v, σ[i]? = some (some v) ∧ Vr K G as v x
  ln : δ.length = σ.length
theorem Rel.stp (r : Rel K σ δ as w G H) (s : Stp as G H as' G' H') (t : Sto K G' H' as' w') : Rel K σ δ as' w' G' H' where
  st := t
  sl := fun i x h => by
    obtain ⟨v, h1, h2⟩ := r.sl i x h
    exact ⟨v, h1, h2.mono s⟩
  ln := r.ln
/-- new data is laid -/
theorem Sto.new {p : Addr} {o : HO} (t : Sto K G H as w) (hp : H p = none) : Sto K (upd G p o) (upd H p o) as w ∧ Stp as G H as (upd G p o) (upd H p o) := by
  have hg : G p = none := t.gh.free hp
  have sg : Same G (upd G p o) := Same.new hg
  have s : Stp as G H as (upd G p o) (upd H p o) := ⟨sg, ⟨[], by simp⟩, fun a h n => absurd h n, fun b h => by
    by_cases e : b = p
    · subst e; exact .inr (.inl hp)
    · rw [upd_ne e] at h; exact .inl h, fun b u h _ => by rw [upd_ne (ne_of_none h hp)]; exact h, fun b h => (Same.new hp).free h⟩
  refine ⟨⟨fun b u e => ?_, t.ln, t.nd, fun a h e => t.al a h ((Same.new hp).free e), fun k a n h1 h2 => ?_⟩, s⟩
  · by_cases hb : b = p
    · subst hb; rw [upd_same] at e ⊢; exact e
    · rw [upd_ne hb] at e ⊢; exact t.gh b u e
  · have hap : a ≠ p := fun e => t.al a (List.mem_of_getElem? h1) (e ▸ hp)
    have g := t.ok k a n h1 h2
    cases n with
    | lst cs =>
      obtain ⟨vs, g1, g2, g3⟩ := g
      exact ⟨vs, by rw [upd_ne hap]; exact g1, g2.mono fun _ _ z => z.mono s, by rw [upd_ne hap]; exact g3⟩
    | dic cs =>
      obtain ⟨vs, g1, g2, g3⟩ := g
      exact ⟨vs, by rw [upd_ne hap]; exact g1, g2.mono fun _ _ z => ⟨z.1, z.2.mono s⟩, by rw [upd_ne hap]; exact g3⟩
    | fz d => exact Rp.mono sg g
/-- a new node -/
theorem Sto.node {p : Addr} {o : HO} {n : Nd} (t : Sto K G H as w) (hp : H p = none) (hn : ∀ (s : Stp as G H (as ++ [p]) G (upd H p o)), NdOk K G (upd H p o) (as ++ [p]) p n) : Sto K G (upd H p o) (as ++ [p]) (w ++ [n]) ∧ Stp as G H (as ++ [p]) G (upd H p o) := by
  have hg : G p = none := t.gh.free hp
  have s : Stp as G H (as ++ [p]) G (upd H p o) := ⟨Same.refl _, ⟨[p], rfl⟩, fun a h m => by
    rcases List.mem_append.mp h with h | h
    · exact absurd h m
    · rw [List.mem_singleton.mp h]; exact hp, fun b h => .inl h, fun b u h _ => by rw [upd_ne (ne_of_none h hp)]; exact h, fun b h => (Same.new hp).free h⟩
  refine ⟨⟨fun b u e => ?_, by rw [List.length_append, List.length_append, t.ln]; rfl, ?_, fun a h e => ?_, fun k a m h1 h2 => ?_⟩, s⟩
  · rw [upd_ne (ne_of_none (t.gh b u e) hp)]; exact t.gh b u e
  · refine List.nodup_append.mpr ⟨t.nd, by simp, fun a ha b hb e => ?_⟩
    rw [List.mem_singleton.mp hb] at e
    exact t.al a ha (e ▸ hp)
  · rcases List.mem_append.mp h with h | h
    · exact t.al a h ((Same.new hp).free e)
    · rw [List.mem_singleton.mp h, upd_same] at e; cases e
  · by_cases hk : k < as.length
    · rw [List.getElem?_append_left hk] at h1
      rw [List.getElem?_append_left (by rw [← t.ln]; exact hk)] at h2
      have hap : a ≠ p := fun e => t.al a (List.mem_of_getElem? h1) (e ▸ hp)
      have g := t.ok k a m h1 h2
      cases m with
      | lst cs =>
        obtain ⟨vs, g1, g2, g3⟩ := g
        exact ⟨vs, by rw [upd_ne hap]; exact g1, g2.mono fun _ _ z => z.mono s, g3⟩
      | dic cs =>
        obtain ⟨vs, g1, g2, g3⟩ := g
        exact ⟨vs, by rw [upd_ne hap]; exact g1, g2.mono fun _ _ z => ⟨z.1, z.2.mono s⟩, g3⟩
      | fz d => exact g
    · have hk' : as.length ≤ k := Nat.le_of_not_lt hk
      rw [List.getElem?_append_right hk'] at h1
      rw [List.getElem?_append_right (by rw [← t.ln]; exact hk'), ← t.ln] at h2
      have : k - as.length = 0 := by
        have := (List.getElem?_eq_some_iff.mp h1).1
        simp at this; omega
      rw [this] at h1 h2
      simp at h1 h2
      subst h1; subst h2
      exact hn s
/-- a node changed -/
theorem Sto.put {p : Addr} {o : HO} {n m : Nd} {k : Nat} (t : Sto K G H as w) (hk : as[k]? = some p) (hm : w[k]? = some m) (hg : G p = none) (hn : ∀ (s : Stp as G H as G (upd H p o)), NdOk K G (upd H p o) as p n) : Sto K G (upd H p o) as (w.set k n) ∧ Stp as G H as G (upd H p o) := by
  have hpm : p ∈ as := List.mem_of_getElem? hk
  have s : Stp as G H as G (upd H p o) := ⟨Same.refl _, ⟨[], by simp⟩, fun a h z => absurd h z, fun b h => .inl h, fun b u h z => by
    rw [upd_ne (fun e : b = p => z (by rw [e]; exact hpm))]; exact h, fun b h => by
    by_cases e : b = p
    · subst e; rw [upd_same] at h; cases h
    · rw [upd_ne e] at h; exact h⟩
  refine ⟨⟨fun b u e => ?_, by rw [List.length_set]; exact t.ln, t.nd, fun a h e => ?_, fun j a q h1 h2 => ?_⟩, s⟩
  · rw [upd_ne (ne_of_none e hg)]; exact t.gh b u e
  · by_cases z : a = p
    · subst z; rw [upd_same] at e; cases e
    · rw [upd_ne z] at e; exact t.al a h e
  · by_cases e : k = j
    · subst e
      rw [hk] at h1; cases h1
      rw [List.getElem?_set_self (List.getElem?_eq_some_iff.mp hm).1] at h2
      cases h2
      exact hn s
    · rw [List.getElem?_set_ne e] at h2
      have hap : a ≠ p := fun z => by
        subst z
        have h3 := (List.getElem?_eq_some_iff.mp hk)
        have h4 := (List.getElem?_eq_some_iff.mp h1)
        obtain ⟨x3, y3⟩ := h3
        obtain ⟨x4, y4⟩ := h4
        exact e ((List.getElem_inj t.nd).mp (y3.trans y4.symm))
      have g := t.ok j a q h1 h2
      cases q with
      | lst cs =>
        obtain ⟨vs, g1, g2, g3⟩ := g
        exact ⟨vs, by rw [upd_ne hap]; exact g1, g2, g3⟩
      | dic cs =>
        obtain ⟨vs, g1, g2, g3⟩ := g
        exact ⟨vs, by rw [upd_ne hap]; exact g1, g2, g3⟩
      | fz d => exact g
end
/-! ### data out of cells -/
def datAll : List DV → Option (List PyData)
  | [] => some []
  | .dat d :: cs => (datAll cs).map (d :: ·)
  | .ref _ :: _ => none
  | .fn _ :: _ => none
def datKV : List (Key × DV) → Option (List (PyData × PyData))
  | [] => some []
  | (k, .dat d) :: cs => (datKV cs).map ((keyD k, d) :: ·)
  | (_, .ref _) :: _ => none
  | (_, .fn _) :: _ => none
theorem datAll_ok {K : PySem.W.Frag} {G : Hp} {as : List Addr} : ∀ {vs : List V} {cs : List DV} {ds : List PyData}, All2 (Vr K G as) vs cs → datAll cs = some ds → RpAll K G vs ds
  | _, _, _, .nil, e => by cases e; exact .nil
  | _, _, _, .cons (b := .dat d) (bs := bs) h t, e => by
    unfold datAll at e
    cases q : datAll bs with
    | none => rw [q] at e; cases e
    | some r => rw [q] at e; cases e; exact .cons h (datAll_ok t q)
  | _, _, _, .cons (b := .ref d) h t, e => by cases e
  | _, _, _, .cons (b := .fn d) h t, e => by cases e
theorem datKV_ok {K : PySem.W.Frag} {G : Hp} {as : List Addr} : ∀ {vs : List (Key × V)} {cs : List (Key × DV)} {ds : List (PyData × PyData)}, All2 (fun p q => p.1 = q.1 ∧ Vr K G as p.2 q.2) vs cs → datKV cs = some ds → RpKV K G vs ds
  | _, _, _, .nil, e => by cases e; exact .nil
  | _, _, _, .cons (a := (k', v)) (b := (k, .dat d)) (bs := bs) h t, e => by
    unfold datKV at e
    cases q : datKV bs with
    | none => rw [q] at e; cases e
    | some r => rw [q] at e; cases e; obtain ⟨h1, h2⟩ := h; dsimp only at h1 h2; subst h1; exact .cons h2 (datKV_ok t q)
  | _, _, _, .cons (b := (k, .ref d)) h t, e => by cases e
  | _, _, _, .cons (b := (k, .fn d)) h t, e => by cases e
/-- what stands there now, one layer deep -/
inductive Sv (K : PySem.W.Frag) (G H : Hp) : V → PyData → Prop
  | rp {v d} : Rp K G v d → Sv K G H v d
  | lst {a vs ds} : H a = some (.lst vs) → RpAll K G vs ds → Sv K G H (.ref a) (.list ds)
  | dic {a us ds} : H a = some (.dK us) → RpKV K G us ds → Sv K G H (.ref a) (.dict ds)
def view (w : Sr) : DV → Option PyData
  | .dat d => some d
  | .ref k => match w[k]? with
    | some (.lst cs) => (datAll cs).map .list
    | some (.dic cs) => (datKV cs).map .dict
    | some (.fz d) => some d
    | none => none
  | .fn _ => none
theorem Sto.sv {K : PySem.W.Frag} {G H : Hp} {as : List Addr} {w : Sr} (t : Sto K G H as w) {v : V} {x : DV} {d : PyData} (h : Vr K G as v x) (e : view w x = some d) : Sv K G H v d := by
  cases x with
  | dat d' => cases e; exact .rp h
  | ref k =>
    obtain ⟨a, h1, rfl⟩ := h
    unfold view at e
    dsimp only at e
    split at e
    · next cs q =>
      obtain ⟨vs, g1, g2, g3⟩ := t.ok k a _ h1 q
      obtain ⟨ds, q2, rfl⟩ := Option.map_eq_some_iff.mp e
      exact .lst g1 (datAll_ok g2 q2)
    · next cs q =>
      obtain ⟨vs, g1, g2, g3⟩ := t.ok k a _ h1 q
      obtain ⟨ds, q2, rfl⟩ := Option.map_eq_some_iff.mp e
      exact .dic g1 (datKV_ok g2 q2)
    · next d' q =>
      cases e
      exact .rp (t.ok k a _ h1 q)
    · cases e
  | fn _ => cases e
/-- from here on it is data -/
def frz (x : DV) (w : Sr) : Option (PyData × Sr) := match x with
  | .dat d => some (d, w)
  | .ref k => match w[k]? with
    | some (.lst cs) => (datAll cs).map fun ds => (.list ds, w.set k (.fz (.list ds)))
    | some (.dic cs) => (datKV cs).map fun ds => (.dict ds, w.set k (.fz (.dict ds)))
    | some (.fz d) => some (d, w)
    | none => none
  | .fn _ => none
section
variable {K : PySem.W.Frag} {G H : Hp} {as : List Addr} {w w' : Sr}
theorem Sto.freeze {p : Addr} {o : HO} {m : Nd} {k : Nat} {d : PyData} (t : Sto K G H as w) (hk : as[k]? = some p) (hm : w[k]? = some m) (hg : G p = none) (ho : H p = some o) (hd : Rp K (upd G p o) (.ref p) d) : Sto K (upd G p o) H as (w.set k (.fz d)) ∧ Stp as G H as (upd G p o) H := by
  have hpm : p ∈ as := List.mem_of_getElem? hk
  have sg : Same G (upd G p o) := Same.new hg
  have s : Stp as G H as (upd G p o) H := ⟨sg, ⟨[], by simp⟩, fun a h z => absurd h z, fun b h => by
    by_cases e : b = p
    · subst e; exact .inr (.inr hpm)
    · rw [upd_ne e] at h; exact .inl h, fun _ _ h _ => h, fun _ h => h⟩
  refine ⟨⟨fun b u e => ?_, by rw [List.length_set]; exact t.ln, t.nd, t.al, fun j a q h1 h2 => ?_⟩, s⟩
  · by_cases z : b = p
    · subst z; rw [upd_same] at e; rw [ho]; exact e
    · rw [upd_ne z] at e; exact t.gh b u e
  · by_cases e : k = j
    · subst e
      rw [hk] at h1; cases h1
      rw [List.getElem?_set_self (List.getElem?_eq_some_iff.mp hm).1] at h2
      cases h2
      exact hd
    · rw [List.getElem?_set_ne e] at h2
      have hap : a ≠ p := fun z => by
        subst z
        obtain ⟨x3, y3⟩ := (List.getElem?_eq_some_iff.mp hk)
        obtain ⟨x4, y4⟩ := (List.getElem?_eq_some_iff.mp h1)
        exact e ((List.getElem_inj t.nd).mp (y3.trans y4.symm))
      have g := t.ok j a q h1 h2
      cases q with
      | lst cs =>
        obtain ⟨vs, g1, g2, g3⟩ := g
        exact ⟨vs, g1, g2.mono fun _ _ z => z.mono s, by rw [upd_ne hap]; exact g3⟩
      | dic cs =>
        obtain ⟨vs, g1, g2, g3⟩ := g
        exact ⟨vs, g1, g2.mono fun _ _ z => ⟨z.1, z.2.mono s⟩, by rw [upd_ne hap]; exact g3⟩
      | fz d => exact Rp.mono sg g
theorem frz_ok {x : DV} {v : V} {d : PyData} (t : Sto K G H as w) (hv : Vr K G as v x) (e : frz x w = some (d, w')) : ∃ G', Sto K G' H as w' ∧ Stp as G H as G' H ∧ Rp K G' v d := by
  cases x with
  | dat d' => cases e; exact ⟨G, t, .refl, hv⟩
  | ref k =>
    obtain ⟨a, h1, rfl⟩ := hv
    unfold frz at e
    dsimp only at e
    split at e
    · next cs q =>
      obtain ⟨vs, g1, g2, g3⟩ := t.ok k a _ h1 q
      obtain ⟨ds, q2, e⟩ := Option.map_eq_some_iff.mp e
      cases e
      have r := datAll_ok g2 q2
      have hd : Rp K (upd G a (.lst vs)) (.ref a) (.list ds) := .lst (SqL.of upd_same) (r.mono (Same.new g3))
      obtain ⟨t', s⟩ := t.freeze h1 q g3 g1 hd
      exact ⟨_, t', s, hd⟩
    · next cs q =>
      obtain ⟨vs, g1, g2, g3⟩ := t.ok k a _ h1 q
      obtain ⟨ds, q2, e⟩ := Option.map_eq_some_iff.mp e
      cases e
      have r := datKV_ok g2 q2
      have hd : Rp K (upd G a (.dK vs)) (.ref a) (.dict ds) := .dic (.inl upd_same) (r.mono (Same.new g3))
      obtain ⟨t', s⟩ := t.freeze h1 q g3 g1 hd
      exact ⟨_, t', s, hd⟩
    · next d' q =>
      cases e
      exact ⟨G, t, .refl, t.ok k a _ h1 q⟩
    · cases e
  | fn _ => cases e
end
/-! ### the monad -/
abbrev MM (α : Type) := Sr → Option (α × Sr)
def ret {α : Type} (a : α) : MM α := fun w => some (a, w)
def fail {α : Type} : MM α := fun _ => none
def bnd {α β : Type} (f : MM α) (g : α → MM β) : MM β := fun w => match f w with
  | none => none
  | some (a, w') => g a w'
def opt {α : Type} (o : Option α) : MM α := fun w => match o with
  | none => none
  | some a => some (a, w)
theorem bnd_some {α β : Type} {f : MM α} {g : α → MM β} {w w2 : Sr} {b : β} (h : bnd f g w = some (b, w2)) : ∃ a w1, f w = some (a, w1) ∧ g a w1 = some (b, w2) := by
  unfold bnd at h
  split at h
  · cases h
  · next a w1 e => exact ⟨a, w1, e, h⟩
theorem opt_some {α : Type} {o : Option α} {w w2 : Sr} {a : α} (h : opt o w = some (a, w2)) : o = some a ∧ w = w2 := by
  unfold opt at h
  split at h
  · cases h
  · cases h; exact ⟨rfl, rfl⟩
theorem ret_some {α : Type} {b : α} {w w2 : Sr} {a : α} (h : ret b w = some (a, w2)) : b = a ∧ w = w2 := by
  unfold ret at h
  cases h; exact ⟨rfl, rfl⟩
/-! ### the judgements -/
abbrev FE := En → MM DV
abbrev FT := En → MM Bool
abbrev FA := En → MM (List DV)
inductive Res where
  | nx (δ : En) | rt (d : DV) | bk (δ : En) | ct (δ : En)
abbrev FS := En → MM Res
section
variable (X : Cx)
structure ED (e : Expr) (f : FE) : Prop where
  ex : ∃ t, PE X e t ∧ ∀ {σ : L2.St} {δ : En} {as : List Addr} {w : Sr} {G H : Hp} {d : DV} {w' : Sr} (Q : VK), Rel X.K σ δ as w G H → f δ w = some (d, w') →
    (∀ v as' G' H', Rel X.K σ δ as' w' G' H' → Stp as G H as' G' H' → Vr X.K G' as' v d → Q v H') → t σ H Q
structure TD (e : Expr) (f : FT) : Prop where
  ex : ∃ t, PT X e t ∧ ∀ {σ : L2.St} {δ : En} {as : List Addr} {w : Sr} {G H : Hp} {b : Bool} {w' : Sr} (Q : Bool → Hp → Prop), Rel X.K σ δ as w G H → f δ w = some (b, w') →
    (∀ as' G' H', Rel X.K σ δ as' w' G' H' → Stp as G H as' G' H' → Q b H') → t σ H Q
structure WD (e : Expr) (f : FT) : Prop where
  ex : ∃ t, PW X e t ∧ ∀ {σ : L2.St} {δ : En} {as : List Addr} {w : Sr} {G H : Hp} {b : Bool} {w' : Sr} (Q : Bool → Hp → Prop), Rel X.K σ δ as w G H → f δ w = some (b, w') →
    (∀ as' G' H', Rel X.K σ δ as' w' G' H' → Stp as G H as' G' H' → Q b H') → t σ H Q
structure AD (es : List Expr) (f : FA) : Prop where
  ex : ∃ t, PA X es t ∧ ∀ {σ : L2.St} {δ : En} {as : List Addr} {w : Sr} {G H : Hp} {ds : List DV} {w' : Sr} (Q : List V → Hp → Prop), Rel X.K σ δ as w G H → f δ w = some (ds, w') →
    (∀ vs as' G' H', Rel X.K σ δ as' w' G' H' → Stp as G H as' G' H' → All2 (Vr X.K G' as') vs ds → Q vs H') → t σ H Q
/-- what is wanted behind a statement, by data -/
def Aft (K : PySem.W.Frag) (D : Ends) (w' : Sr) (as : List Addr) (G H : Hp) : Res → Prop
  | .nx δ' => ∀ σ' as' G' H', Rel K σ' δ' as' w' G' H' → Stp as G H as' G' H' → D.nx σ' H'
  | .bk δ' => ∀ σ' as' G' H', Rel K σ' δ' as' w' G' H' → Stp as G H as' G' H' → D.bk σ' H'
  | .ct δ' => ∀ σ' as' G' H', Rel K σ' δ' as' w' G' H' → Stp as G H as' G' H' → D.ct σ' H'
  | .rt d => ∀ v as' G' H', Sto K G' H' as' w' → Stp as G H as' G' H' → Vr K G' as' v d → D.rt v H'
structure SD (st : Stmt) (f : FS) : Prop where
  ex : ∃ t, PS X st t ∧ ∀ {σ : L2.St} {δ : En} {as : List Addr} {w : Sr} {G H : Hp} {r : Res} {w' : Sr} (D : Ends), Rel X.K σ δ as w G H → f δ w = some (r, w') → Aft X.K D w' as G H r → t D σ H
structure SsD (st : List Stmt) (f : FS) : Prop where
  ex : ∃ t, PSs X st t ∧ ∀ {σ : L2.St} {δ : En} {as : List Addr} {w : Sr} {G H : Hp} {r : Res} {w' : Sr} (D : Ends), Rel X.K σ δ as w G H → f δ w = some (r, w') → Aft X.K D w' as G H r → t D σ H
end
theorem Aft.mono {K : PySem.W.Frag} {D : Ends} {w' : Sr} {as as1 : List Addr} {G H G1 H1 : Hp} (e : Stp as G H as1 G1 H1) : ∀ {r : Res}, Aft K D w' as G H r → Aft K D w' as1 G1 H1 r
  | .nx _, h => fun σ' as' G' H' r s => h σ' as' G' H' r (e.trans s)
  | .bk _, h => fun σ' as' G' H' r s => h σ' as' G' H' r (e.trans s)
  | .ct _, h => fun σ' as' G' H' r s => h σ' as' G' H' r (e.trans s)
  | .rt _, h => fun v as' G' H' r s => h v as' G' H' r (e.trans s)
end DL

namespace DL
open PySem PySem.Spec PyProof.Rows L2
/-! ### what is asked of a value now -/
def vw (x : DV) : MM PyData := fun w => match view w x with
  | some d => some (d, w)
  | none => none
theorem vw_ok {K : PySem.W.Frag} {G H : Hp} {as : List Addr} {w w' : Sr} {x : DV} {v : V} {d : PyData} (t : Sto K G H as w) (hv : Vr K G as v x) (e : vw x w = some (d, w')) : w = w' ∧ Sv K G H v d := by
  unfold vw at e
  split at e
  · next q => cases e; exact ⟨rfl, t.sv hv q⟩
  · cases e
def vws : List DV → MM (List PyData)
  | [] => ret []
  | x :: xs => bnd (vw x) fun d => bnd (vws xs) fun ds => ret (d :: ds)
theorem vws_ok {K : PySem.W.Frag} {G H : Hp} {as : List Addr} {w : Sr} (t : Sto K G H as w) : ∀ {xs : List DV} {vs : List V} {ds : List PyData} {w' : Sr}, All2 (Vr K G as) vs xs → vws xs w = some (ds, w') → w = w' ∧ All2 (Sv K G H) vs ds
  | _, _, _, _, .nil, e => by
    obtain ⟨rfl, rfl⟩ := ret_some e
    exact ⟨rfl, .nil⟩
  | _, _, _, _, .cons h r, e => by
    obtain ⟨d, w1, e1, e⟩ := bnd_some e
    obtain ⟨rfl, s1⟩ := vw_ok t h e1
    obtain ⟨ds, w2, e2, e⟩ := bnd_some e
    obtain ⟨rfl, s2⟩ := vws_ok t r e2
    obtain ⟨rfl, rfl⟩ := ret_some e
    exact ⟨rfl, .cons s1 s2⟩
section
variable {K : PySem.W.Frag} {G H : Hp} {v : V}
theorem Sv.lstOf {ds : List PyData} (gh : Same G H) (s : Sv K G H v (.list ds)) : ∃ a xs, v = .ref a ∧ SqL K H a xs ∧ RpAll K G xs ds := by
  cases s with
  | rp h =>
    cases h with
    | lst h1 h2 => exact ⟨_, _, rfl, gh.seq h1, h2⟩
  | lst h1 h2 => exact ⟨_, _, rfl, SqL.of h1, h2⟩
theorem Sv.tupOf {ds : List PyData} (gh : Same G H) (s : Sv K G H v (.tuple ds)) : ∃ a xs, v = .ref a ∧ SqT K H a xs ∧ RpAll K G xs ds := by
  cases s with
  | rp h =>
    cases h with
    | tup h1 h2 => exact ⟨_, _, rfl, gh.sqT h1, h2⟩
theorem Sv.dicOf {ds : List (PyData × PyData)} (gh : Same G H) (s : Sv K G H v (.dict ds)) : ∃ a us, v = .ref a ∧ Rd H a (.dK us) ∧ RpKV K G us ds := by
  cases s with
  | rp h =>
    cases h with
    | dic h1 h2 => exact ⟨_, _, rfl, gh.rd h1, h2⟩
  | dic h1 h2 => exact ⟨_, _, rfl, .inl h1, h2⟩
theorem Sv.intOf {i : Int} (s : Sv K G H v (.int i)) : v = .int i := by cases s with | rp h => cases h; rfl
theorem Sv.strOf {i : Str} (s : Sv K G H v (.str i)) : v = .str i := by cases s with | rp h => cases h; rfl
theorem Sv.blOf {i : Bool} (s : Sv K G H v (.bool i)) : v = .bl i := by cases s with | rp h => cases h; rfl
theorem Sv.nonOf (s : Sv K G H v .none) : v = .non := by cases s with | rp h => cases h; rfl
theorem Sv.dp {d : PyData} (gh : Same G H) (s : Sv K G H v d) (e : d.hasDict = false) : Dp K H v d := by
  cases s with
  | rp h => exact Rp.dp (Rp.mono gh h) e
  | lst h1 h2 => exact .lst (SqL.of h1) (RpAll.dp (RpAll.mono gh h2) (by simpa only [PyData.hasDict] using e))
  | dic h1 h2 => simp [PyData.hasDict] at e
end
section
variable {X : Cx} {e a b c : Expr} {pos : Pos}
/-! ### names and constants -/
def eC (d : PyData) : FE := fun _ => ret (.dat d)
theorem ed_C {v : V} {d : PyData} (h : PE X e (tC v)) (r : ∀ G, Rp X.K G v d) : ED X e (eC d) :=
  ⟨_, h, fun Q hR he k => by
    obtain ⟨rfl, rfl⟩ := ret_some he
    exact k _ _ _ _ hR .refl (r _)⟩
theorem ed_int {i j} : ED X (.Constant (.int i) j pos) (eC (.int i)) := ed_C pe_int fun _ => .int i
theorem ed_bl {i j} : ED X (.Constant (.bool i) j pos) (eC (.bool i)) := ed_C pe_bl fun _ => .bl i
theorem ed_non {j} : ED X (.Constant .none j pos) (eC .none) := ed_C pe_non fun _ => .non
theorem ed_str {i j} : ED X (.Constant (.str i) j pos) (eC (.str i)) := ed_C pe_str fun _ => .str i
theorem ed_glob {x : Str} {v : V} {u : Value} {d : PyData} (hg : Gl X x) (hm : X.mg x = some u) (rv : RelV v u) (r : ∀ G, Rp X.K G v d) (hd : (x == ("__debug__" : Str)) = false := by decide) : ED X (.Name x pos) (eC d) := ed_C (pe_glob hg hm rv hd) r
def eV (i : Nat) : FE := fun δ w => match δ[i]? with
  | some (some x) => some (x, w)
  | _ => none
theorem eV_some {i : Nat} {δ : En} {w w' : Sr} {d : DV} (h : eV i δ w = some (d, w')) : δ[i]? = some (some d) ∧ w = w' := by
  unfold eV at h
  split at h
  · next d' e =>
    cases h
    exact ⟨e, rfl⟩
  · cases h
theorem ed_var {i : Nat} (h : PE X e (tVar i)) : ED X e (eV i) :=
  ⟨_, h, fun Q hR he k => by
    obtain ⟨h1, rfl⟩ := eV_some he
    obtain ⟨v, h2, h3⟩ := hR.sl _ _ h1
    exact ⟨v, h2, k _ _ _ _ hR .refl h3⟩⟩
/-- what may change is data from here on -/
def eF (f : FE) : FE := fun δ => bnd (f δ) fun x w => match frz x w with
  | some (d, w') => some (.dat d, w')
  | none => none
theorem ed_frz {f : FE} (h : ED X e f) : ED X e (eF f) := by
  obtain ⟨t, p, k0⟩ := h.ex
  refine ⟨t, p, fun Q hR he k => ?_⟩
  obtain ⟨x, w1, e1, he⟩ := bnd_some he
  refine k0 _ hR e1 fun v as1 G1 H1 R1 S1 r1 => ?_
  split at he
  · next d w2 q =>
    cases he
    obtain ⟨G', t', s', rp⟩ := frz_ok R1.st r1 q
    exact k _ _ _ _ (R1.stp s' t') (S1.trans s') rp
  · cases he
/-! ### operators -/
structure OpD (X : Cx) (f : Value → Value → Sem Value) (g : PyData → PyData → Option PyData) : Prop where
  ex : ∃ r, OpR X f r ∧ ∀ {as : List Addr} {w : Sr} {G H : Hp} {x y : V} {d e z : PyData} (Q : VK), Sto X.K G H as w → Sv X.K G H x d → Sv X.K G H y e → g d e = some z →
    (∀ v G' H', Sto X.K G' H' as w → Stp as G H as G' H' → Rp X.K G' v z → Q v H') → r x y H Q
def eOp (g : PyData → PyData → Option PyData) (fa fb : FE) : FE := fun δ => bnd (fa δ) fun x => bnd (fb δ) fun y => bnd (vw x) fun d => bnd (vw y) fun e => bnd (opt (g d e)) fun z => ret (.dat z)
theorem ed_op {op : Operator} {g : PyData → PyData → Option PyData} {fa fb : FE} (ho : OpD X (binaryOp op) g) (ha : ED X a fa) (hb : ED X b fb) : ED X (.BinOp a op b pos) (eOp g fa fb) := by
  obtain ⟨r, hr, kr⟩ := ho.ex
  obtain ⟨ta, pa, ka⟩ := ha.ex
  obtain ⟨tb, pb, kb⟩ := hb.ex
  refine ⟨_, pe_op hr pa pb, fun Q hR he k => ?_⟩
  obtain ⟨x, w1, e1, he⟩ := bnd_some he
  obtain ⟨y, w2, e2, he⟩ := bnd_some he
  obtain ⟨d, w3, e3, he⟩ := bnd_some he
  obtain ⟨e, w4, e4, he⟩ := bnd_some he
  obtain ⟨z, w5, e5, he⟩ := bnd_some he
  obtain ⟨o5, rfl⟩ := opt_some e5
  obtain ⟨rfl, rfl⟩ := ret_some he
  refine ka _ hR e1 fun v1 as1 G1 H1 R1 S1 r1 => kb _ R1 e2 fun v2 as2 G2 H2 R2 S2 r2 => ?_
  obtain ⟨rfl, s1⟩ := vw_ok R2.st (r1.mono S2) e3
  obtain ⟨rfl, s2⟩ := vw_ok R2.st r2 e4
  exact kr _ R2.st s1 s2 o5 fun v G' H' T S r => k v _ G' H' (R2.stp S T) ((S1.trans S2).trans S) r
theorem ed_cmp {op : CmpOp} {g : PyData → PyData → Option PyData} {fa fb : FE} (ho : OpD X (compareOp op) g) (ha : ED X a fa) (hb : ED X b fb) (hm : behindInMarks op b = false := by with_unfolding_all rfl) : ED X (.Compare a [op] [b] pos) (eOp g fa fb) := by
  obtain ⟨r, hr, kr⟩ := ho.ex
  obtain ⟨ta, pa, ka⟩ := ha.ex
  obtain ⟨tb, pb, kb⟩ := hb.ex
  refine ⟨_, pe_cmpR hr pa pb hm, fun Q hR he k => ?_⟩
  obtain ⟨x, w1, e1, he⟩ := bnd_some he
  obtain ⟨y, w2, e2, he⟩ := bnd_some he
  obtain ⟨d, w3, e3, he⟩ := bnd_some he
  obtain ⟨e, w4, e4, he⟩ := bnd_some he
  obtain ⟨z, w5, e5, he⟩ := bnd_some he
  obtain ⟨o5, rfl⟩ := opt_some e5
  obtain ⟨rfl, rfl⟩ := ret_some he
  refine ka _ hR e1 fun v1 as1 G1 H1 R1 S1 r1 => kb _ R1 e2 fun v2 as2 G2 H2 R2 S2 r2 => ?_
  obtain ⟨rfl, s1⟩ := vw_ok R2.st (r1.mono S2) e3
  obtain ⟨rfl, s2⟩ := vw_ok R2.st r2 e4
  exact kr _ R2.st s1 s2 o5 fun v G' H' T S r => k v _ G' H' (R2.stp S T) ((S1.trans S2).trans S) r
def asB : Option PyData → Option Bool
  | some (.bool b) => some b
  | _ => none
theorem asB_some {o : Option PyData} {b : Bool} (h : asB o = some b) : o = some (.bool b) := by
  unfold asB at h
  split at h
  · cases h; rfl
  · cases h
def eOpB (g : PyData → PyData → Option PyData) (fa fb : FE) : FT := fun δ => bnd (fa δ) fun x => bnd (fb δ) fun y => bnd (vw x) fun d => bnd (vw y) fun e => opt (asB (g d e))
theorem td_cmp {op : CmpOp} {g : PyData → PyData → Option PyData} {fa fb : FE} (ho : OpD X (compareOp op) g) (ha : ED X a fa) (hb : ED X b fb) (hm : behindInMarks op b = false := by with_unfolding_all rfl) : TD X (.Compare a [op] [b] pos) (eOpB g fa fb) := by
  obtain ⟨r, hr, kr⟩ := ho.ex
  obtain ⟨ta, pa, ka⟩ := ha.ex
  obtain ⟨tb, pb, kb⟩ := hb.ex
  refine ⟨_, pt_cmpR hr pa pb hm, fun Q hR he k => ?_⟩
  obtain ⟨x, w1, e1, he⟩ := bnd_some he
  obtain ⟨y, w2, e2, he⟩ := bnd_some he
  obtain ⟨d, w3, e3, he⟩ := bnd_some he
  obtain ⟨e, w4, e4, he⟩ := bnd_some he
  obtain ⟨e5, rfl⟩ := opt_some he
  refine ka _ hR e1 fun v1 as1 G1 H1 R1 S1 r1 => kb _ R1 e2 fun v2 as2 G2 H2 R2 S2 r2 => ?_
  obtain ⟨rfl, s1⟩ := vw_ok R2.st (r1.mono S2) e3
  obtain ⟨rfl, s2⟩ := vw_ok R2.st r2 e4
  refine kr _ R2.st s1 s2 (asB_some e5) fun v G' H' T S r => ?_
  cases r
  exact ⟨_, rfl, k _ G' H' (R2.stp S T) ((S1.trans S2).trans S)⟩
/-! ### tests -/
def truD : PyData → Option Bool
  | .none => some false
  | .bool b => some b
  | .int i => some (i != 0)
  | .str x => if x.length ≤ sizeLine then some ((x.length : Int) != 0) else none
  | .list xs => some (!xs.isEmpty)
  | .tuple xs => some (!xs.isEmpty)
  | .dict kvs => some (!kvs.isEmpty)
theorem RpAll.isEmpty {K : PySem.W.Frag} {G : Hp} {vs : List V} {ds : List PyData} (r : RpAll K G vs ds) : vs.isEmpty = ds.isEmpty := by cases r <;> rfl
theorem RpKV.isEmpty {K : PySem.W.Frag} {G : Hp} {vs : List (Key × V)} {ds : List (PyData × PyData)} (r : RpKV K G vs ds) : vs.isEmpty = ds.isEmpty := by cases r <;> rfl
theorem truD_ok {K : PySem.W.Frag} {G H : Hp} {v : V} {d : PyData} {k : Bool} (gh : Same G H) (r : Sv K G H v d) (h : truD d = some k) : TruV K v H k := by
  cases d with
  | none => cases r.nonOf; cases h; rfl
  | bool b => cases r.blOf; cases h; rfl
  | int i => cases r.intOf; cases h; rfl
  | str x =>
    cases r.strOf
    have h : (if x.length ≤ sizeLine then some ((x.length : Int) != 0) else none) = some k := h
    by_cases hz : x.length ≤ sizeLine
    · rw [if_pos hz] at h; cases h; exact ⟨hz, rfl⟩
    · rw [if_neg hz] at h; cases h
  | list ds =>
    obtain ⟨a, xs, rfl, hs, ha⟩ := r.lstOf gh
    cases h; exact .inl ⟨_, hs, by rw [ha.isEmpty]⟩
  | tuple ds =>
    obtain ⟨a, xs, rfl, hs, ha⟩ := r.tupOf gh
    cases h; exact .inr (.inl ⟨_, hs, by rw [ha.isEmpty]⟩)
  | dict ds =>
    obtain ⟨a, xs, rfl, hs, ha⟩ := r.dicOf gh
    cases h; exact .inr (.inr ⟨_, hs, by rw [ha.isEmpty]⟩)
def tV (fa : FE) : FT := fun δ => bnd (fa δ) fun x => bnd (vw x) fun d => opt (truD d)
theorem td_val {fa : FE} (ha : ED X a fa) (he : ∀ whole, isTrue a X.env whole = (do let v ← whole; standAt a.pos; holding [v] (truthy v)) := by intro _; rfl) : TD X a (tV fa) := by
  obtain ⟨ta, pa, ka⟩ := ha.ex
  refine ⟨_, pt_truth pa he, fun Q hR he k => ?_⟩
  obtain ⟨x, w1, e1, he⟩ := bnd_some he
  obtain ⟨d, w2, e2, he⟩ := bnd_some he
  obtain ⟨e3, rfl⟩ := opt_some he
  refine ka _ hR e1 fun v1 as1 G1 H1 R1 S1 r1 => ?_
  obtain ⟨rfl, s1⟩ := vw_ok R1.st r1 e2
  exact ⟨_, truD_ok R1.st.gh s1 e3, k _ _ _ R1 S1⟩
def tNo (fa : FT) : FT := fun δ => bnd (fa δ) fun x => ret (!x)
theorem td_not {fa : FT} (ha : TD X a fa) : TD X (.UnaryOp .Not a pos) (tNo fa) := by
  obtain ⟨ta, pa, ka⟩ := ha.ex
  refine ⟨_, pt_not pa, fun Q hR he k => ?_⟩
  obtain ⟨x, w1, e1, he⟩ := bnd_some he
  obtain ⟨rfl, rfl⟩ := ret_some he
  exact ka _ hR e1 fun as1 G1 H1 R1 S1 => k _ _ _ R1 S1
def tAn (fa fb : FT) : FT := fun δ => bnd (fa δ) fun x => match x with | true => fb δ | false => ret false
def tOu (fa fb : FT) : FT := fun δ => bnd (fa δ) fun x => match x with | true => ret true | false => fb δ
theorem wd_and1 {fa : FT} (ha : TD X a fa) : WD X (.BoolOp .And [a] pos) fa := by
  obtain ⟨ta, pa, ka⟩ := ha.ex
  exact ⟨_, pw_and1 pa, fun Q hR he k => ka _ hR he k⟩
theorem wd_or1 {fa : FT} (ha : TD X a fa) : WD X (.BoolOp .Or [a] pos) fa := by
  obtain ⟨ta, pa, ka⟩ := ha.ex
  exact ⟨_, pw_or1 pa, fun Q hR he k => ka _ hR he k⟩
theorem wd_and {rest : List Expr} {fa fb : FT} (ha : TD X a fa) (hb : WD X (.BoolOp .And (b :: rest) pos) fb) : WD X (.BoolOp .And (a :: b :: rest) pos) (tAn fa fb) := by
  obtain ⟨ta, pa, ka⟩ := ha.ex
  obtain ⟨tb, pb, kb⟩ := hb.ex
  refine ⟨_, pw_and pa pb, fun Q hR he k => ?_⟩
  obtain ⟨x, w1, e1, he⟩ := bnd_some he
  refine ka _ hR e1 fun as1 G1 H1 R1 S1 => ?_
  cases x with
  | true => exact iteT (kb _ R1 he fun as2 G2 H2 R2 S2 => k _ _ _ R2 (S1.trans S2))
  | false =>
    obtain ⟨rfl, rfl⟩ := ret_some he
    exact iteF (k _ _ _ R1 S1)
theorem wd_or {rest : List Expr} {fa fb : FT} (ha : TD X a fa) (hb : WD X (.BoolOp .Or (b :: rest) pos) fb) : WD X (.BoolOp .Or (a :: b :: rest) pos) (tOu fa fb) := by
  obtain ⟨ta, pa, ka⟩ := ha.ex
  obtain ⟨tb, pb, kb⟩ := hb.ex
  refine ⟨_, pw_or pa pb, fun Q hR he k => ?_⟩
  obtain ⟨x, w1, e1, he⟩ := bnd_some he
  refine ka _ hR e1 fun as1 G1 H1 R1 S1 => ?_
  cases x with
  | false => exact iteF (kb _ R1 he fun as2 G2 H2 R2 S2 => k _ _ _ R2 (S1.trans S2))
  | true =>
    obtain ⟨rfl, rfl⟩ := ret_some he
    exact iteT (k _ _ _ R1 S1)
theorem td_w {fa : FT} (ha : WD X a fa) : TD X a fa := by
  obtain ⟨ta, pa, ka⟩ := ha.ex
  exact ⟨_, PW.pt pa, fun Q hR he k => ka _ hR he k⟩
/-! ### and, or, not as values -/
theorem ed_one {op : BoolOp} {fa : FE} (ha : ED X a fa) : ED X (.BoolOp op [a] pos) fa := by
  obtain ⟨ta, pa, ka⟩ := ha.ex
  exact ⟨_, pe_one pa, fun Q hR he k => ka _ hR he k⟩
def eAn (fa fb : FE) : FE := fun δ => bnd (fa δ) fun x => match x with | .dat (.bool true) => fb δ | .dat (.bool false) => ret (.dat (.bool false)) | _ => fail
theorem ed_and {rest : List Expr} {fa fb : FE} (ha : ED X a fa) (hb : ED X (.BoolOp .And (b :: rest) pos) fb) : ED X (.BoolOp .And (a :: b :: rest) pos) (eAn fa fb) := by
  obtain ⟨ta, pa, ka⟩ := ha.ex
  obtain ⟨tb, pb, kb⟩ := hb.ex
  refine ⟨_, pe_and pa pb, fun Q hR he k => ?_⟩
  obtain ⟨x, w1, e1, he⟩ := bnd_some he
  refine ka _ hR e1 fun v as1 G1 H1 R1 S1 r1 => ?_
  split at he
  · cases r1
    exact ⟨_, rfl, iteT (kb _ R1 he fun v as2 G2 H2 R2 S2 => k _ _ _ _ R2 (S1.trans S2))⟩
  · cases r1
    obtain ⟨rfl, rfl⟩ := ret_some he
    exact ⟨_, rfl, iteF (k _ _ _ _ R1 S1 (.bl false))⟩
  · cases he
def eNot (fa : FE) : FE := fun δ => bnd (fa δ) fun x => match x with | .dat (.bool c) => ret (.dat (.bool (!c))) | _ => fail
theorem ed_not {fa : FE} (ha : ED X a fa) : ED X (.UnaryOp .Not a pos) (eNot fa) := by
  obtain ⟨ta, pa, ka⟩ := ha.ex
  refine ⟨_, pe_not pa, fun Q hR he k => ?_⟩
  obtain ⟨x, w1, e1, he⟩ := bnd_some he
  refine ka _ hR e1 fun v as1 G1 H1 R1 S1 r1 => ?_
  split at he
  · cases r1
    obtain ⟨rfl, rfl⟩ := ret_some he
    exact ⟨_, rfl, k _ _ _ _ R1 S1 (.bl _)⟩
  · cases he
def eNeg (fa : FE) : FE := fun δ => bnd (fa δ) fun x => match x with | .dat (.int i) => ret (.dat (.int (-i))) | _ => fail
theorem ed_neg {fa : FE} (ha : ED X a fa) : ED X (.UnaryOp .USub a pos) (eNeg fa) := by
  obtain ⟨ta, pa, ka⟩ := ha.ex
  refine ⟨_, pe_un un_neg pa, fun Q hR he k => ?_⟩
  obtain ⟨x, w1, e1, he⟩ := bnd_some he
  refine ka _ hR e1 fun v as1 G1 H1 R1 S1 r1 => ?_
  split at he
  · cases r1
    obtain ⟨rfl, rfl⟩ := ret_some he
    exact ⟨_, rfl, k _ _ _ _ R1 S1 (.int _)⟩
  · cases he
/-! ### arguments, displays -/
def aN : FA := fun _ => ret []
def aC (fa : FE) (fr : FA) : FA := fun δ => bnd (fa δ) fun x => bnd (fr δ) fun xs => ret (x :: xs)
theorem ad_nil : AD X [] aN := ⟨_, pa_nil, fun Q hR he k => by
  obtain ⟨rfl, rfl⟩ := ret_some he
  exact k _ _ _ _ hR .refl .nil⟩
theorem ad_cons {es : List Expr} {fa : FE} {fr : FA} (ha : ED X a fa) (hr : AD X es fr) (hs : isStar a = false := by rfl) : AD X (a :: es) (aC fa fr) := by
  obtain ⟨ta, pa, ka⟩ := ha.ex
  obtain ⟨tr, pr, kr⟩ := hr.ex
  refine ⟨_, pa_cons pa pr hs, fun Q hR he k => ?_⟩
  obtain ⟨x, w1, e1, he⟩ := bnd_some he
  obtain ⟨y, w2, e2, he⟩ := bnd_some he
  obtain ⟨rfl, rfl⟩ := ret_some he
  exact ka _ hR e1 fun v1 as1 G1 H1 R1 S1 r1 => kr _ R1 e2 fun v2 as2 G2 H2 R2 S2 r2 => k _ _ _ _ R2 (S1.trans S2) (.cons (r1.mono S2) r2)
def lenOk {α : Type} (ds : List α) : Bool := decide (ds.length ≤ 1000000)
theorem lenOk_le {α : Type} {n : Nat} {ds : List α} (h : lenOk ds = true) (e : n = ds.length) : n ≤ sizeLine := by
  have : ds.length ≤ 1000000 := of_decide_eq_true h
  exact Nat.le_trans (by omega) (show 1000000 ≤ sizeLine by decide)
theorem lenOk_lt {α : Type} {n : Nat} {ds : List α} (h : lenOk ds = true) (e : n = ds.length) : n < sizeLine := by
  have : ds.length ≤ 1000000 := of_decide_eq_true h
  exact Nat.lt_of_le_of_lt (by omega) (show 1000000 < sizeLine by decide)
/-- (..), [..] as data -/
def eTup (fr : FA) : FE := fun δ => bnd (fr δ) fun xs => opt (match datAll xs with | some ds => (if lenOk ds = true then some (.dat (.tuple ds)) else none) | none => none)
def eLst (fr : FA) : FE := fun δ => bnd (fr δ) fun xs => opt (match datAll xs with | some ds => (if lenOk ds = true then some (.dat (.list ds)) else none) | none => none)
/-- [..] that may change -/
def eLstN (fr : FA) : FE := fun δ => bnd (fr δ) fun xs w => if lenOk xs = true then some (.ref w.length, w ++ [.lst xs]) else none
theorem ed_tup {es : List Expr} {fr : FA} {x1} (hr : AD X es fr) : ED X (.Tuple es x1 pos) (eTup fr) := by
  obtain ⟨tr, pr, kr⟩ := hr.ex
  refine ⟨_, pe_tup pr, fun Q hR he k => ?_⟩
  obtain ⟨y, w2, e2, he⟩ := bnd_some he
  obtain ⟨he, rfl⟩ := opt_some he
  split at he
  · next ds q =>
    split at he
    · next hz =>
      cases he
      refine kr _ hR e2 fun vs as2 G2 H2 R2 S2 r2 => ?_
      have rr := datAll_ok r2 q
      refine ⟨lenOk_le hz rr.length, fun p hp => ?_⟩
      obtain ⟨T, S⟩ := R2.st.new (o := .tup vs) hp
      exact k _ _ _ _ (R2.stp S T) (S2.trans S) (.tup (SqT.of upd_same) (rr.mono S.gg))
    · cases he
  · cases he
theorem ed_lst {es : List Expr} {fr : FA} (hr : AD X es fr) : ED X (.List es pos) (eLst fr) := by
  obtain ⟨tr, pr, kr⟩ := hr.ex
  refine ⟨_, pe_lst pr, fun Q hR he k => ?_⟩
  obtain ⟨y, w2, e2, he⟩ := bnd_some he
  obtain ⟨he, rfl⟩ := opt_some he
  split at he
  · next ds q =>
    split at he
    · next hz =>
      cases he
      refine kr _ hR e2 fun vs as2 G2 H2 R2 S2 r2 => ?_
      have rr := datAll_ok r2 q
      refine ⟨lenOk_le hz rr.length, fun p hp => ?_⟩
      obtain ⟨T, S⟩ := R2.st.new (o := .lst vs) hp
      exact k _ _ _ _ (R2.stp S T) (S2.trans S) (.lst (SqL.of upd_same) (rr.mono S.gg))
    · cases he
  · cases he
theorem ed_lstN {es : List Expr} {fr : FA} (hr : AD X es fr) : ED X (.List es pos) (eLstN fr) := by
  obtain ⟨tr, pr, kr⟩ := hr.ex
  refine ⟨_, pe_lst pr, fun Q hR he k => ?_⟩
  obtain ⟨y, w2, e2, he⟩ := bnd_some he
  split at he
  · next hz =>
    cases he
    refine kr _ hR e2 fun vs as2 G2 H2 R2 S2 r2 => ⟨lenOk_le hz r2.length, fun p hp => ?_⟩
    obtain ⟨T, S⟩ := R2.st.node (o := .lst vs) (n := .lst y) hp fun S => ⟨vs, upd_same, r2.mono fun _ _ z => z.mono S, R2.st.gh.free hp⟩
    exact k _ _ _ _ (R2.stp S T) (S2.trans S) ⟨p, by rw [← R2.st.ln]; simp, rfl⟩
  · cases he
/-! ### calls of built-ins -/
structure CallD (X : Cx) (f : Value) (g : List PyData → Option PyData) : Prop where
  ex : ∃ r, CallR X f r ∧ ∀ {as : List Addr} {w : Sr} {G H : Hp} {xs : List V} {ds : List PyData} {z : PyData} (Q : VK), Sto X.K G H as w → All2 (Sv X.K G H) xs ds → g ds = some z →
    (∀ v G' H', Sto X.K G' H' as w → Stp as G H as G' H' → Rp X.K G' v z → Q v H') → r xs H Q
def eCB (g : List PyData → Option PyData) (fr : FA) : FE := fun δ => bnd (fr δ) fun xs => bnd (vws xs) fun ds => bnd (opt (g ds)) fun z => ret (.dat z)
theorem ed_callB {es : List Expr} {x : Str} {id : String} {p : Pos} {g : List PyData → Option PyData} {fr : FA} (hc : CallD X (.builtin id) g) (hg : Gl X x) (hm : X.mg x = none) (hv : bootBuiltins x = some (.builtin id)) (ha : AD X (a :: es) fr) (hn : x ≠ "__name__" := by decide) (hdb : (x == ("__debug__" : Str)) = false := by decide)
    (he : starEach (a :: es) X.env = (false, eval a X.env) :: starEach es X.env := by exact stE _ _ _ rfl) (hpl : (backTo pos (starEach es X.env)).any (·.1) = false := by rfl) : ED X (.Call (.Name x p) (a :: es) [] pos) (eCB g fr) := by
  obtain ⟨r, hr, kr⟩ := hc.ex
  obtain ⟨ta, pa, ka⟩ := ha.ex
  refine ⟨_, pe_callB hr hg hm hv pa hn hdb he hpl, fun Q hR he k => ?_⟩
  obtain ⟨y, w2, e2, he⟩ := bnd_some he
  obtain ⟨ds, w3, e3, he⟩ := bnd_some he
  obtain ⟨z, w4, e4, he⟩ := bnd_some he
  obtain ⟨o4, rfl⟩ := opt_some e4
  obtain ⟨rfl, rfl⟩ := ret_some he
  refine ka _ hR e2 fun vs as2 G2 H2 R2 S2 r2 => ?_
  obtain ⟨rfl, s2⟩ := vws_ok R2.st r2 e3
  exact kr _ R2.st s2 o4 fun v G' H' T S r => k _ _ _ _ (R2.stp S T) (S2.trans S) r
theorem ed_callTy {es : List Expr} {x : Str} {T : String} {p : Pos} {g : List PyData → Option PyData} {fr : FA} (hc : CallD X (.type T) g) (hg : Gl X x) (hm : X.mg x = none) (hv : bootBuiltins x = some (.type T)) (ha : AD X (a :: es) fr) (hn : x ≠ "__name__" := by decide) (hdb : (x == ("__debug__" : Str)) = false := by decide)
    (he : starEach (a :: es) X.env = (false, eval a X.env) :: starEach es X.env := by exact stE _ _ _ rfl) (hpl : (backTo pos (starEach es X.env)).any (·.1) = false := by rfl) : ED X (.Call (.Name x p) (a :: es) [] pos) (eCB g fr) := by
  obtain ⟨r, hr, kr⟩ := hc.ex
  obtain ⟨ta, pa, ka⟩ := ha.ex
  refine ⟨_, pe_callTy hr hg hm hv pa hn hdb he hpl, fun Q hR he k => ?_⟩
  obtain ⟨y, w2, e2, he⟩ := bnd_some he
  obtain ⟨ds, w3, e3, he⟩ := bnd_some he
  obtain ⟨z, w4, e4, he⟩ := bnd_some he
  obtain ⟨o4, rfl⟩ := opt_some e4
  obtain ⟨rfl, rfl⟩ := ret_some he
  refine ka _ hR e2 fun vs as2 G2 H2 R2 S2 r2 => ?_
  obtain ⟨rfl, s2⟩ := vws_ok R2.st r2 e3
  exact kr _ R2.st s2 o4 fun v G' H' T S r => k _ _ _ _ (R2.stp S T) (S2.trans S) r
/-- isinstance(e, T) -/
def kindD : PyData → String
  | .none => "NoneType"
  | .bool _ => "bool"
  | .int _ => "int"
  | .str _ => "str"
  | .list _ => "list"
  | .tuple _ => "tuple"
  | .dict _ => "dict"
theorem Sv.kd {K : PySem.W.Frag} {G H : Hp} {v : V} {d : PyData} (gh : Same G H) (r : Sv K G H v d) : Kd K H v (kindD d) := by
  cases d with
  | none => cases r.nonOf; exact .non
  | bool b => cases r.blOf; exact .bl b
  | int i => cases r.intOf; exact .int i
  | str x => cases r.strOf; exact .str x
  | list ds =>
    obtain ⟨a, xs, rfl, hs, ha⟩ := r.lstOf gh
    exact .lst hs
  | tuple ds =>
    obtain ⟨a, xs, rfl, hs, ha⟩ := r.tupOf gh
    exact .tup hs
  | dict ds =>
    obtain ⟨a, xs, rfl, hs, ha⟩ := r.dicOf gh
    exact .dic hs
def eIsi (T : String) (fa : FE) : FE := fun δ => bnd (fa δ) fun x => bnd (vw x) fun d => ret (.dat (.bool (isiB (kindD d) T)))
theorem ed_isi {p : Pos} {fa : FE} {t : String} (hT : t = "int" ∨ t = "str" ∨ t = "bool" ∨ t = "tuple") (hg : Gl X "isinstance") (hm : X.mg "isinstance" = none) (ha : ED X a fa) (hb : PE X b (tC (.ty t))) (hs : isStar a = false := by rfl) (hs2 : isStar b = false := by rfl)
    (he : starEach (a :: [b]) X.env = (false, eval a X.env) :: starEach [b] X.env := by exact stE _ _ _ rfl) (hpl : (backTo pos (starEach [b] X.env)).any (·.1) = false := by rfl) : ED X (.Call (.Name "isinstance" p) [a, b] [] pos) (eIsi t fa) := by
  obtain ⟨ta, pa, ka⟩ := ha.ex
  refine ⟨_, pe_callB call_isi hg hm (by decide +kernel) (pa_cons pa (pa_cons hb pa_nil hs2) hs) (by decide) (by decide) he hpl, fun Q hR he k => ?_⟩
  obtain ⟨y, w2, e2, he⟩ := bnd_some he
  obtain ⟨d, w3, e3, he⟩ := bnd_some he
  obtain ⟨rfl, rfl⟩ := ret_some he
  refine ka _ hR e2 fun v as2 G2 H2 R2 S2 r2 => ?_
  obtain ⟨rfl, s2⟩ := vw_ok R2.st r2 e3
  exact ⟨v, t, _, rfl, hT, s2.kd R2.st.gh, k _ _ _ _ R2 S2 (.bl _)⟩
end
end DL

namespace DL
open PySem PySem.Spec PyProof.Rows L2
section
variable {X : Cx} {K : PySem.W.Frag} {G H G' H' G0 H0 : Hp} {σ σ' : L2.St} {δ : En} {as as' as0 : List Addr} {w w' : Sr} {e a b c : Expr} {pos : Pos}
/-! ### an object beside: neither data nor of the store yet -/
structure Side (p : Addr) (as : List Addr) (G H : Hp) : Prop where
  na : p ∉ as
  ng : G p = none
  nh : H p ≠ none
theorem Side.stp {p : Addr} (d : Side p as G H) (s : Stp as G H as' G' H') : Side p as' G' H' ∧ H' p = H p := by
  cases q : H p with
  | none => exact absurd q d.nh
  | some o =>
    have h := s.kp p o q d.na
    refine ⟨⟨fun z => ?_, ?_, by rw [h]; intro z; cases z⟩, h⟩
    · have := s.an p z d.na
      rw [q] at this; cases this
    · cases g : G' p with
      | none => rfl
      | some u =>
        rcases s.fr p (by rw [g]; intro z; cases z) with z | z | z
        · exact absurd d.ng z
        · rw [q] at z; cases z
        · exact absurd z d.na
theorem Sto.poke {p : Addr} {o : HO} (t : Sto K G H as w) (na : p ∉ as) (ng : G p = none) : Sto K G (upd H p o) as w := by
  refine ⟨fun b u e => by rw [upd_ne (ne_of_none e ng)]; exact t.gh b u e, t.ln, t.nd, fun a h e => ?_, fun k a n h1 h2 => ?_⟩
  · rw [upd_ne (fun z : a = p => na (by rw [← z]; exact h))] at e; exact t.al a h e
  · have hap : a ≠ p := fun z => na (z ▸ List.mem_of_getElem? h1)
    have g := t.ok k a n h1 h2
    cases n with
    | lst cs =>
      obtain ⟨vs, g1, g2, g3⟩ := g
      exact ⟨vs, by rw [upd_ne hap]; exact g1, g2, g3⟩
    | dic cs =>
      obtain ⟨vs, g1, g2, g3⟩ := g
      exact ⟨vs, by rw [upd_ne hap]; exact g1, g2, g3⟩
    | fz d => exact g
theorem Stp.poke {p : Addr} {o : HO} (s : Stp as0 G0 H0 as G H) (h0 : H0 p = none) : Stp as0 G0 H0 as G (upd H p o) :=
  ⟨s.gg, s.ax, s.an, s.fr, fun b u h n => by rw [upd_ne (ne_of_none h h0)]; exact s.kp b u h n, fun b h => by
    by_cases e : b = p
    · rw [e]; exact h0
    · rw [upd_ne e] at h; exact s.fn b h⟩
/-- what was beside becomes data -/
theorem Sto.adopt {p : Addr} {o : HO} (t : Sto K G H as w) (na : p ∉ as) (ng : G p = none) (ho : H p = some o) (s : Stp as0 G0 H0 as G H) (h0 : H0 p = none) : Sto K (upd G p o) H as w ∧ Stp as0 G0 H0 as (upd G p o) H := by
  have sg : Same G (upd G p o) := Same.new ng
  have ss : Stp as G (fun b => if b = p then none else H b) as (upd G p o) H := ⟨sg, ⟨[], by simp⟩, fun a h n => absurd h n, fun b h => by
    by_cases e : b = p
    · exact .inr (.inl (by simp [e]))
    · rw [upd_ne e] at h; exact .inl h, fun b u h n => by
    by_cases e : b = p
    · simp [e] at h
    · simpa [e] using h, fun b h => by
    by_cases e : b = p
    · simp [e]
    · simpa [e] using h⟩
  refine ⟨⟨fun b u e => ?_, t.ln, t.nd, t.al, fun k a n h1 h2 => ?_⟩, ⟨s.gg.trans sg, s.ax, s.an, fun b h => ?_, s.kp, s.fn⟩⟩
  · by_cases z : b = p
    · subst z; rw [upd_same] at e; rw [ho]; exact e
    · rw [upd_ne z] at e; exact t.gh b u e
  · have hap : a ≠ p := fun z => na (z ▸ List.mem_of_getElem? h1)
    have g := t.ok k a n h1 h2
    cases n with
    | lst cs =>
      obtain ⟨vs, g1, g2, g3⟩ := g
      exact ⟨vs, g1, g2.mono fun _ _ z => z.mono ss, by rw [upd_ne hap]; exact g3⟩
    | dic cs =>
      obtain ⟨vs, g1, g2, g3⟩ := g
      exact ⟨vs, g1, g2.mono fun _ _ z => ⟨z.1, z.2.mono ss⟩, by rw [upd_ne hap]; exact g3⟩
    | fz d => exact Rp.mono sg g
  · by_cases z : b = p
    · rw [z]; exact .inr (.inl h0)
    · rw [upd_ne z] at h; exact s.fr b h
/-- .. becomes a node -/
theorem Sto.adoptN {p : Addr} {n : Nd} (t : Sto K G H as w) (na : p ∉ as) (ng : G p = none) (nh : H p ≠ none) (s : Stp as0 G0 H0 as G H) (h0 : H0 p = none) (hn : (∀ v d, Vr K G as v d → Vr K G (as ++ [p]) v d) → NdOk K G H (as ++ [p]) p n) : Sto K G H (as ++ [p]) (w ++ [n]) ∧ Stp as0 G0 H0 (as ++ [p]) G H := by
  have mo : ∀ v d, Vr K G as v d → Vr K G (as ++ [p]) v d := fun v d h => by
    cases d with
    | dat d => exact h
    | ref k =>
      obtain ⟨a, h1, h2⟩ := h
      exact ⟨a, by rw [List.getElem?_append_left (List.getElem?_eq_some_iff.mp h1).1]; exact h1, h2⟩
    | fn x => exact h
  refine ⟨⟨t.gh, by rw [List.length_append, List.length_append, t.ln]; rfl, ?_, fun a h e => ?_, fun k a m h1 h2 => ?_⟩, ⟨s.gg, ?_, fun a h z => ?_, s.fr, s.kp, s.fn⟩⟩
  · refine List.nodup_append.mpr ⟨t.nd, by simp, fun a ha b hb e => ?_⟩
    rw [List.mem_singleton.mp hb] at e
    exact na (e ▸ ha)
  · rcases List.mem_append.mp h with h | h
    · exact t.al a h e
    · rw [List.mem_singleton.mp h] at e; exact nh e
  · by_cases hk : k < as.length
    · rw [List.getElem?_append_left hk] at h1
      rw [List.getElem?_append_left (by rw [← t.ln]; exact hk)] at h2
      have g := t.ok k a m h1 h2
      cases m with
      | lst cs =>
        obtain ⟨vs, g1, g2, g3⟩ := g
        exact ⟨vs, g1, g2.mono mo, g3⟩
      | dic cs =>
        obtain ⟨vs, g1, g2, g3⟩ := g
        exact ⟨vs, g1, g2.mono fun _ _ z => ⟨z.1, mo _ _ z.2⟩, g3⟩
      | fz d => exact g
    · have hk' : as.length ≤ k := Nat.le_of_not_lt hk
      rw [List.getElem?_append_right hk'] at h1
      rw [List.getElem?_append_right (by rw [← t.ln]; exact hk'), ← t.ln] at h2
      have : k - as.length = 0 := by
        have := (List.getElem?_eq_some_iff.mp h1).1
        simp at this; omega
      rw [this] at h1 h2
      simp at h1 h2
      subst h1; subst h2
      exact hn mo
  · obtain ⟨l, e⟩ := s.ax
    exact ⟨l ++ [p], by rw [e, List.append_assoc]⟩
  · rcases List.mem_append.mp h with h | h
    · exact s.an a h z
    · rw [List.mem_singleton.mp h]; exact h0
theorem Side.new {p : Addr} {o : HO} (t : Sto K G H as w) (hp : H p = none) : Side p as G (upd H p o) :=
  ⟨fun z => t.al p z hp, t.gh.free hp, by rw [upd_same]; intro z; cases z⟩
/-! ### the names -/
theorem En.at_set {δ : En} {i j : Nat} {o x} (h : (δ.set i o)[j]? = some x) : (i = j ∧ x = o ∧ i < δ.length) ∨ (i ≠ j ∧ δ[j]? = some x) := by
  by_cases e : i = j
  · subst e
    by_cases hl : i < δ.length
    · rw [List.getElem?_set_self hl] at h
      exact .inl ⟨rfl, (Option.some.inj h).symm, hl⟩
    · rw [List.getElem?_eq_none (by simpa using hl)] at h
      cases h
  · rw [List.getElem?_set_ne e] at h
    exact .inr ⟨e, h⟩
theorem Rel.set {i : Nat} {v : V} {d : DV} (r : Rel K σ δ as w G H) (h : Vr K G as v d) : Rel K (σ.set i (some v)) (δ.set i (some d)) as w G H where
  st := r.st
  sl := fun j x hx => by
    rcases En.at_set hx with ⟨rfl, e, hl⟩ | ⟨hne, hx⟩
    · cases e
      exact ⟨v, by rw [List.getElem?_set_self (by rw [← r.ln]; exact hl)], h⟩
    · obtain ⟨u, h1, h2⟩ := r.sl j x hx
      exact ⟨u, by rw [List.getElem?_set_ne hne]; exact h1, h2⟩
  ln := by rw [List.length_set, List.length_set]; exact r.ln
/-! ### blocks -/
def sNil : FS := fun δ => ret (.nx δ)
def sSeq (f g : FS) : FS := fun δ => bnd (f δ) fun r => match r with
  | .nx δ' => g δ'
  | r => ret r
theorem ss_nil : SsD X [] sNil := ⟨_, pss_nil, fun D hR he k => by
  obtain ⟨rfl, rfl⟩ := ret_some he
  exact k _ _ _ _ hR .refl⟩
theorem ss_cons {st : Stmt} {rest : List Stmt} {f g : FS} (h1 : SD X st f) (h2 : SsD X rest g) : SsD X (st :: rest) (sSeq f g) := by
  obtain ⟨t1, p1, k1⟩ := h1.ex
  obtain ⟨t2, p2, k2⟩ := h2.ex
  refine ⟨_, pss_cons p1 p2, fun D hR he k => ?_⟩
  obtain ⟨x, w1, e1, he⟩ := bnd_some he
  refine k1 _ hR e1 ?_
  cases x with
  | nx δ' => exact fun σ' as' G' H' R' S' => k2 _ R' he (k.mono S')
  | rt d =>
    obtain ⟨rfl, rfl⟩ := ret_some he
    exact k
  | bk d =>
    obtain ⟨rfl, rfl⟩ := ret_some he
    exact k
  | ct d =>
    obtain ⟨rfl, rfl⟩ := ret_some he
    exact k
theorem ss_one {st : Stmt} {f : FS} (h1 : SD X st f) : SsD X [st] f := by
  obtain ⟨t1, p1, k1⟩ := h1.ex
  refine ⟨_, pss_one p1, fun D hR he k => k1 _ hR he k⟩
/-! ### what is left behind: only what was there -/
def cutV (n : Nat) : Option DV → Option DV
  | some (.ref k) => if k < n then some (.ref k) else none
  | x => x
def insD (n : Nat) : DV → Bool
  | .dat _ => true
  | .ref k => decide (k < n)
  | .fn _ => true
def insN (n : Nat) : Nd → Bool
  | .lst cs => cs.all (insD n)
  | .dic cs => cs.all fun p => insD n p.2
  | .fz _ => true
def clo (n : Nat) (w : Sr) : Bool := (w.take n).all (insN n)
theorem insAll {n : Nat} {R S : V → DV → Prop} (mo : ∀ v d, insD n d = true → R v d → S v d) : ∀ {vs : List V} {cs : List DV}, All2 R vs cs → cs.all (insD n) = true → All2 S vs cs
  | _, _, .nil, _ => .nil
  | _, _, .cons h t, e => by
    rw [List.all_cons, Bool.and_eq_true] at e
    exact .cons (mo _ _ e.1 h) (insAll mo t e.2)
theorem insKV {n : Nat} {R S : V → DV → Prop} (mo : ∀ v d, insD n d = true → R v d → S v d) : ∀ {vs : List (Key × V)} {cs : List (Key × DV)}, All2 (fun p q => p.1 = q.1 ∧ R p.2 q.2) vs cs → cs.all (fun p => insD n p.2) = true → All2 (fun p q => p.1 = q.1 ∧ S p.2 q.2) vs cs
  | _, _, .nil, _ => .nil
  | _, _, .cons h t, e => by
    rw [List.all_cons, Bool.and_eq_true] at e
    exact .cons ⟨h.1, mo _ _ e.1 h.2⟩ (insKV mo t e.2)
theorem Sto.cut {n : Nat} (t : Sto K G H as w) (h : clo n w = true) : Sto K G H (as.take n) (w.take n) := by
  refine ⟨t.gh, by rw [List.length_take, List.length_take, t.ln], (List.take_sublist _ _).nodup t.nd, fun a ha => t.al a (List.mem_of_mem_take ha), fun k a m h1 h2 => ?_⟩
  have hkn : k < n := by
    have := (List.getElem?_eq_some_iff.mp h1).1
    rw [List.length_take] at this; omega
  have hin : insN n m = true := (List.all_eq_true.mp h) m (List.mem_of_getElem? h2)
  rw [List.getElem?_take_of_lt hkn] at h1 h2
  have mo : ∀ v d, insD n d = true → Vr K G as v d → Vr K G (as.take n) v d := fun v d i z => by
    cases d with
    | dat d => exact z
    | ref j =>
      obtain ⟨b, z1, z2⟩ := z
      exact ⟨b, by rw [List.getElem?_take_of_lt (of_decide_eq_true i)]; exact z1, z2⟩
    | fn x => exact z
  have g := t.ok k a m h1 h2
  cases m with
  | lst cs =>
    obtain ⟨vs, g1, g2, g3⟩ := g
    refine ⟨vs, g1, ?_, g3⟩
    exact insAll mo g2 hin
  | dic cs =>
    obtain ⟨vs, g1, g2, g3⟩ := g
    refine ⟨vs, g1, ?_, g3⟩
    exact insKV mo g2 hin
  | fz d => exact g
theorem Stp.cut (s : Stp as G H as' G' H') : as'.take as.length = as ∧ Stp as G H (as'.take as.length) G' H' := by
  obtain ⟨l, rfl⟩ := s.ax
  have e : (as ++ l).take as.length = as := by simp
  refine ⟨e, ?_⟩
  rw [e]
  exact ⟨s.gg, ⟨[], by simp⟩, fun a h n => absurd h n, s.fr, s.kp, s.fn⟩
def trimR (n : Nat) (r : Res) (w : Sr) : Res × Sr := match clo n w with
  | false => (r, w)
  | true => match r with
    | .nx δ => (.nx (δ.map (cutV n)), w.take n)
    | .bk δ => (.bk (δ.map (cutV n)), w.take n)
    | .ct δ => (.ct (δ.map (cutV n)), w.take n)
    | .rt (.dat d) => (.rt (.dat d), w.take n)
    | .rt (.ref k) => (.rt (.ref k), w)
    | .rt (.fn x) => (.rt (.fn x), w.take n)
theorem Rel.cut {n : Nat} (r : Rel K σ δ as w G H) (h : clo n w = true) : Rel K σ (δ.map (cutV n)) (as.take n) (w.take n) G H := by
  refine ⟨r.st.cut h, fun i x hx => ?_, by rw [List.length_map]; exact r.ln⟩
  rw [List.getElem?_map] at hx
  obtain ⟨y, h1, h2⟩ := Option.map_eq_some_iff.mp hx
  cases y with
  | none => cases h2
  | some y =>
    cases y with
    | dat d =>
      cases h2
      exact r.sl i _ h1
    | ref k =>
      have h2 : (if k < n then some (DV.ref k) else none) = some x := h2
      split at h2
      · next hk =>
        cases h2
        obtain ⟨v, z1, b, z2, z3⟩ := r.sl i _ h1
        exact ⟨v, z1, b, by rw [List.getElem?_take_of_lt hk]; exact z2, z3⟩
      · cases h2
    | fn x =>
      cases h2
      exact r.sl i _ h1
def sT (f : FS) : FS := fun δ w => match f δ w with
  | some (r, w') => some (trimR w.length r w')
  | none => none
theorem Aft.trim {D : Ends} {r : Res} (ln : as.length = w.length) (h : Aft K D (trimR w.length r w').2 as G H (trimR w.length r w').1) : Aft K D w' as G H r := by
  cases q : clo w.length w' with
  | false => unfold trimR at h; rw [q] at h; exact h
  | true =>
    unfold trimR at h
    rw [q] at h
    cases r with
    | nx δ => exact fun σ' as' G' H' R S => h σ' _ G' H' (R.cut q) (ln ▸ S.cut.2)
    | bk δ => exact fun σ' as' G' H' R S => h σ' _ G' H' (R.cut q) (ln ▸ S.cut.2)
    | ct δ => exact fun σ' as' G' H' R S => h σ' _ G' H' (R.cut q) (ln ▸ S.cut.2)
    | rt d =>
      cases d with
      | dat d => exact fun v as' G' H' T S rv => h v _ G' H' (T.cut q) (ln ▸ S.cut.2) rv
      | ref k => exact h
      | fn x => exact fun v as' G' H' T S rv => h v _ G' H' (T.cut q) (ln ▸ S.cut.2) rv
theorem ss_trim {st : List Stmt} {f : FS} (h1 : SsD X st f) : SsD X st (sT f) := by
  obtain ⟨t1, p1, k1⟩ := h1.ex
  refine ⟨_, p1, fun {σ δ as w G H r w'} D hR he k => ?_⟩
  unfold sT at he
  split at he
  · next r1 w1 q =>
    have hh := Option.some.inj he
    have e1 : r = (trimR w.length r1 w1).1 := (congrArg Prod.fst hh).symm
    have e2 : w' = (trimR w.length r1 w1).2 := (congrArg Prod.snd hh).symm
    rw [e1, e2] at k
    exact k1 _ hR q (Aft.trim hR.st.ln k)
  · cases he
/-! ### targets -/
structure GD (X : Cx) (tg : Expr) (vs : List Nat) (f : DV → En → Option En) : Prop where
  ex : ∃ g, PG X tg g ∧ ∀ {σ : L2.St} {δ δ' : En} {as : List Addr} {w : Sr} {G H : Hp} {v : V} {d : DV} (Q : L2.St → Hp → Prop), Rel X.K σ δ as w G H → Vr X.K G as v d → f d δ = some δ' →
    (∀ σ', Rel X.K σ' δ' as w G H → σ'.length = σ.length → (∀ j, j ∉ vs → σ'[j]? = σ[j]?) → Q σ' H) → g v σ H Q
def gN (i : Nat) : DV → En → Option En := fun d δ => some (δ.set i (some d))
theorem gd_name {i : Nat} (h : PG X a (gName i)) : GD X a [i] (gN i) := ⟨_, h, fun Q hR hv he k => by
  cases he
  exact k _ (hR.set hv) (by rw [List.length_set]) fun j hj => List.getElem?_set_ne (fun z => hj (by rw [z]; exact List.mem_singleton.mpr rfl))⟩
structure GsD (X : Cx) (tg : List Expr) (vs : List Nat) (f : List PyData → En → Option En) : Prop where
  ex : ∃ g, PGs X tg g ∧ ∀ {σ : L2.St} {δ δ' : En} {as : List Addr} {w : Sr} {G H : Hp} {us : List V} {ds : List PyData} (Q : L2.St → Hp → Prop), Rel X.K σ δ as w G H → RpAll X.K G us ds → f ds δ = some δ' →
    (∀ σ', Rel X.K σ' δ' as w G H → σ'.length = σ.length → (∀ j, j ∉ vs → σ'[j]? = σ[j]?) → Q σ' H) → g us σ H Q
def gsN : List PyData → En → Option En
  | [], δ => some δ
  | _ :: _, _ => none
def gsC (f : DV → En → Option En) (g : List PyData → En → Option En) : List PyData → En → Option En
  | [], _ => none
  | d :: ds, δ => match f (.dat d) δ with
    | some δ' => g ds δ'
    | none => none
theorem gs_nil : GsD X [] [] gsN := ⟨_, pgs_nil, fun Q hR hv he k => by
  cases hv with
  | nil => cases he; exact ⟨rfl, k _ hR rfl fun _ _ => rfl⟩
  | cons _ _ => cases he⟩
theorem gs_cons {es : List Expr} {vs us : List Nat} {f : DV → En → Option En} {g : List PyData → En → Option En} (h1 : GD X a vs f) (h2 : GsD X es us g)
    (hs : (assignEach (a :: es) X.env).map (·.2) = assign a X.env :: (assignEach es X.env).map (·.2) := by rfl) : GsD X (a :: es) (vs ++ us) (gsC f g) := by
  obtain ⟨t1, p1, k1⟩ := h1.ex
  obtain ⟨t2, p2, k2⟩ := h2.ex
  refine ⟨_, pgs_cons p1 p2 hs, fun Q hR hv he k => ?_⟩
  cases hv with
  | nil => cases he
  | cons hv hr =>
    simp only [gsC] at he
    split at he
    · next δ1 q =>
      refine ⟨_, _, rfl, k1 (d := .dat _) _ hR hv q fun σ1 R1 L1 N1 => k2 _ R1 hr he fun σ2 R2 L2 N2 => ?_⟩
      exact k σ2 R2 (L2.trans L1) fun j hj => (N2 j fun z => hj (List.mem_append_right _ z)).trans (N1 j fun z => hj (List.mem_append_left _ z))
    · cases he
def gT (n : Nat) (f : List PyData → En → Option En) : DV → En → Option En
  | .dat (.tuple ds), δ => if ds.length = n then f ds δ else none
  | _, _ => none
theorem gd_tup {es : List Expr} {kk n : Nat} {vs : List Nat} {f : List PyData → En → Option En} (hc : X.calm = true) (h : GsD X es vs f)
    (hn : (assignEach es X.env).length = n := by rfl) (hst : (assignEach es X.env).findIdx? (·.1) = none := by rfl) : GD X (.Tuple es kk pos) vs (gT n f) := by
  obtain ⟨t, p, k⟩ := h.ex
  refine ⟨_, pg_tup hc p hn hst, fun Q hR hv he kk => ?_⟩
  unfold gT at he
  split at he
  · next ds =>
    split at he
    · next hl =>
      cases hv with
      | tup hs ha => exact ⟨_, _, rfl, hR.st.gh.sqT hs, by rw [ha.length]; exact hl, k _ hR ha he kk⟩
    · cases he
  · cases he
/-! ### small statements -/
def sExp (f : FE) : FS := fun δ => bnd (f δ) fun _ => ret (.nx δ)
theorem sd_expr {f : FE} (h : ED X e f) (hs : swapsWith e none pos.line X.env = pure false := by rfl) : SD X (.Expr e pos) (sExp f) := by
  obtain ⟨t, p, k⟩ := h.ex
  refine ⟨_, ps_expr p hs, fun D hR he kk => ?_⟩
  obtain ⟨x, w1, e1, he⟩ := bnd_some he
  obtain ⟨rfl, rfl⟩ := ret_some he
  exact k _ hR e1 fun v as1 G1 H1 R1 S1 r1 => kk _ _ _ _ R1 S1
def sRet (f : FE) : FS := fun δ => bnd (f δ) fun d => ret (.rt d)
theorem sd_ret {f : FE} (h : ED X e f) : SD X (.Return (some e) pos) (sRet f) := by
  obtain ⟨t, p, k⟩ := h.ex
  refine ⟨_, ps_ret p, fun D hR he kk => ?_⟩
  obtain ⟨x, w1, e1, he⟩ := bnd_some he
  obtain ⟨rfl, rfl⟩ := ret_some he
  exact k _ hR e1 fun v as1 G1 H1 R1 S1 r1 => kk _ _ _ _ R1.st S1 r1
def sIf (ft : FT) (f g : FS) : FS := fun δ => bnd (ft δ) fun x => match x with | true => f δ | false => g δ
theorem sd_if {sa sb : List Stmt} {ft : FT} {f g : FS} (ht : TD X c ft) (h1 : SsD X sa f) (h2 : SsD X sb g) : SD X (.If c sa sb pos) (sIf ft f g) := by
  obtain ⟨tt, pt, kt⟩ := ht.ex
  obtain ⟨t1, p1, k1⟩ := h1.ex
  obtain ⟨t2, p2, k2⟩ := h2.ex
  refine ⟨_, ps_if pt p1 p2, fun D hR he kk => ?_⟩
  obtain ⟨x, w1, e1, he⟩ := bnd_some he
  refine kt _ hR e1 fun as1 G1 H1 R1 S1 => ?_
  cases x with
  | true => exact iteT (k1 _ R1 he (kk.mono S1))
  | false => exact iteF (k2 _ R1 he (kk.mono S1))
def sSet (f : FE) (g : DV → En → Option En) : FS := fun δ => bnd (f δ) fun d => opt (match g d δ with | some δ' => some (.nx δ') | none => none)
theorem sd_set {i : Nat} {x : Str} {f : FE} {pos' : Pos} (hN : X.N.Nodup) (hi : X.N[i]? = some x) (hx : Loc X.env.scope x) (h : ED X e f) (hs : swapsWith e (some (.Name x pos')) pos.line X.env = pure false := by rfl) (hf : X.fn x = true ∨ X.env.scope.names.lookup x = some .local := by first | exact .inl rfl | exact .inr rfl | assumption) :
    SD X (.Assign [.Name x pos'] e pos) (sSet f (gN i)) := by
  obtain ⟨t, p, k⟩ := h.ex
  refine ⟨_, ps_set hN hi hx p hs hf, fun D hR he kk => ?_⟩
  obtain ⟨d, w1, e1, he⟩ := bnd_some he
  obtain ⟨e2, rfl⟩ := opt_some he
  cases e2
  exact k _ hR e1 fun v as1 G1 H1 R1 S1 r1 => kk _ _ _ _ (R1.set r1) S1
/-! ### x.append(e), x a list that may change -/
def isL (x : DV) : MM Unit := fun w => match x with
  | .ref k => match w[k]? with
    | some (.lst _) => some ((), w)
    | _ => none
  | _ => none
def nApp (x y : DV) : MM DV := fun w => match x with
  | .ref k => match w[k]? with
    | some (.lst cs) => if lenOk cs = true then some (.dat .none, w.set k (.lst (cs ++ [y]))) else none
    | _ => none
  | _ => none
def eApp (fo fe : FE) : FE := fun δ => bnd (fo δ) fun x => bnd (isL x) fun _ => bnd (fe δ) fun y => nApp x y
theorem ed_append {fo fe : FE} {apos cpos : Pos} (ho : ED X a fo) (h : ED X e fe) (hs : isStar e = false := by rfl) (hbase : attributeBase a "append" X.env (eval a X.env) = eval a X.env := by rfl)
    (hfew : ((backTo cpos (starEach [e] X.env)).all (fun x => !x.1) && (backToKw cpos (keywordEach [] X.env)).all (fun x => x.1.isSome)
      && decide ([e].length + ([] : List Keyword).length + (if ([] : List Keyword).isEmpty then 0 else 1) < 30)) = true := by rfl)
    (hline : (apos.endLine == cpos.line) = true := by rfl) (hst : starEach [e] X.env = (false, eval e X.env) :: starEach [] X.env := by exact stE _ _ _ rfl) (hplain : (backTo cpos (starEach [] X.env)).any (·.1) = false := by rfl) :
    ED X (.Call (.Attribute a "append" apos) [e] [] cpos) (eApp fo fe) := by
  obtain ⟨to, po, ko⟩ := ho.ex
  obtain ⟨t, p, k⟩ := h.ex
  refine ⟨_, pe_bm PySem.F.plainAttrs_list PySem.F.slot_list_append PySem.F.type_list_append mt_append po (pa_cons p pa_nil hs) hbase hfew hline hst hplain, fun Q hR he kk => ?_⟩
  obtain ⟨x, w1, e1, he1⟩ := bnd_some he
  obtain ⟨u, w0, e0, he2⟩ := bnd_some he1
  obtain ⟨y, w2, e2, he3⟩ := bnd_some he2
  refine ko _ hR e1 fun v1 as1 G1 H1 R1 S1 r1 => ?_
  cases x with
  | dat d => cases e0
  | ref kx =>
    obtain ⟨l, h1, rfl⟩ := r1
    unfold isL at e0
    dsimp only at e0
    split at e0
    · next cs0 q0 =>
      cases e0
      obtain ⟨vs0, f1, f2, f3⟩ := R1.st.ok kx l _ h1 q0
      refine ⟨.inl ⟨rfl, _, SqL.of f1⟩, k _ R1 e2 fun v2 as2 G2 H2 R2 S2 r2 => ?_⟩
      unfold nApp at he3
      dsimp only at he3
      split at he3
      · next cs q =>
        split at he3
        · next hz =>
          cases he3
          obtain ⟨vs, g1, g2, g3⟩ := R2.st.ok kx l _ (S2.at h1) q
          obtain ⟨T, S⟩ := R2.st.put (o := .lst (vs ++ [v2])) (n := .lst (cs ++ [y])) (S2.at h1) q g3 fun S => ⟨_, upd_same, (g2.append (.cons r2 .nil)), g3⟩
          exact ⟨_, _, _, rfl, rfl, g1, lenOk_lt hz g2.length, kk _ _ _ _ (R2.stp S T) ((S1.trans S2).trans S) .non⟩
        · cases he3
      · cases he3
    · cases e0
  | fn _ => cases e0
end
end DL

namespace DL
open PySem PySem.Spec PyProof.Rows L2
/-! ### the transformer that hangs on the function alone -/
def tE (K : PySem.W.Frag) (f : FE) : TE := fun σ H Q => ∃ δ as w G d w', Rel K σ δ as w G H ∧ f δ w = some (d, w') ∧ ∀ v as' G' H', Rel K σ δ as' w' G' H' → Stp as G H as' G' H' → Vr K G' as' v d → Q v H'
def tB' (K : PySem.W.Frag) (f : FT) : TT := fun σ H Q => ∃ δ as w G b w', Rel K σ δ as w G H ∧ f δ w = some (b, w') ∧ ∀ as' G' H', Rel K σ δ as' w' G' H' → Stp as G H as' G' H' → Q b H'
def tG (K : PySem.W.Frag) (vs : List Nat) (f : DV → En → Option En) : TG := fun v σ H Q => ∃ δ δ' as w G d, Rel K σ δ as w G H ∧ Vr K G as v d ∧ f d δ = some δ' ∧ ∀ σ', Rel K σ' δ' as w G H → σ'.length = σ.length → (∀ j, j ∉ vs → σ'[j]? = σ[j]?) → Q σ' H
section
variable {X : Cx} {e a b c tg : Expr} {pos : Pos}
theorem ED.pe {f : FE} (h : ED X e f) : PE X e (tE X.K f) := by
  obtain ⟨t, p, k⟩ := h.ex
  exact fun pins s σ H Q I ⟨δ, as, w, G, d, w', R, e, q⟩ => p pins s σ H Q I (k Q R e q)
theorem GD.pg {vs : List Nat} {f : DV → En → Option En} (h : GD X e vs f) : PG X e (tG X.K vs f) := by
  obtain ⟨t, p, k⟩ := h.ex
  exact fun pins s σ H v u Q I rv ⟨δ, δ', as, w, G, d, R, hv, e, q⟩ => p pins s σ H v u Q I rv (k Q R hv e q)
/-! ### x[i] -/
theorem All2.atI {α β : Type} {R : α → β → Prop} {vs : List α} {ds : List β} {i : Int} {d : β} (h : All2 R vs ds) (e : L2.atI ds i = some d) : ∃ v, L2.atI vs i = some v ∧ R v d := by
  unfold L2.atI at e ⊢
  rw [h.length]
  cases q : ixN ds.length i with
  | none => rw [q] at e; cases e
  | some j =>
    rw [q] at e
    obtain ⟨v, h1, h2⟩ := h.at (show ds[j]? = some d from e)
    exact ⟨v, h1, h2⟩
def unK : PyData → Option Key
  | .int i => some (.inl i)
  | .str x => some (.inr x)
  | _ => none
theorem unK_key {k : Key} : unK (keyD k) = some k := by cases k <;> rfl
def valA {α : Type} (kvs : List (Key × α)) (k : Key) : Option α := (kvs.find? fun kv => decide (kv.1 = k)).map (·.2)
def valP (kvs : List (PyData × PyData)) (k : Key) : Option PyData := (kvs.find? fun kv => decide (unK kv.1 = some k)).map (·.2)
theorem valA_ok {α : Type} {R : V → α → Prop} {k : Key} : ∀ {us : List (Key × V)} {kvs : List (Key × α)}, All2 (fun p q => p.1 = q.1 ∧ R p.2 q.2) us kvs → (∀ d, valA kvs k = some d → ∃ v, valV us k = some v ∧ R v d) ∧ (valA kvs k = none → valV us k = none)
  | _, _, .nil => ⟨fun d e => (by cases e), fun _ => rfl⟩
  | _, _, .cons (a := (k1, v1)) (b := (k2, d2)) h t => by
    obtain ⟨h1, h2⟩ := h
    dsimp only at h1 h2
    subst h1
    obtain ⟨i1, i2⟩ := valA_ok (k := k) t
    by_cases q : k1 = k
    · subst q
      refine ⟨fun d e => ?_, fun e => ?_⟩
      · simp [valA, List.find?_cons] at e
        subst e
        exact ⟨v1, valV_pos rfl, h2⟩
      · simp [valA, List.find?_cons] at e
    · refine ⟨fun d e => ?_, fun e => ?_⟩
      · rw [valV_neg q]; exact i1 d (by simpa [valA, List.find?_cons, q] using e)
      · rw [valV_neg q]; exact i2 (by simpa [valA, List.find?_cons, q] using e)
theorem valP_ok {K : PySem.W.Frag} {G : Hp} {k : Key} : ∀ {us : List (Key × V)} {kvs : List (PyData × PyData)}, RpKV K G us kvs → (∀ d, valP kvs k = some d → ∃ v, valV us k = some v ∧ Rp K G v d) ∧ (valP kvs k = none → valV us k = none)
  | _, _, .nil => ⟨fun d e => (by cases e), fun _ => rfl⟩
  | _, _, .cons (k := k1) (v := v1) (d := d1) (ds := ds) h t => by
    obtain ⟨i1, i2⟩ := valP_ok (k := k) t
    by_cases q : k1 = k
    · subst q
      refine ⟨fun d e => ?_, fun e => ?_⟩
      · simp [valP, List.find?_cons, unK_key] at e
        subst e
        exact ⟨v1, valV_pos rfl, h⟩
      · simp [valP, List.find?_cons, unK_key] at e
    · refine ⟨fun d e => ?_, fun e => ?_⟩
      · rw [valV_neg q]; exact i1 d (by simpa [valP, List.find?_cons, unK_key, q] using e)
      · rw [valV_neg q]; exact i2 (by simpa [valP, List.find?_cons, unK_key, q] using e)
def ixP (d i : PyData) : Option PyData := match d with
  | .list ds => match i with | .int j => atI ds j | _ => none
  | .tuple ds => match i with | .int j => atI ds j | _ => none
  | .str x => match i with | .int j => if x.length ≤ sizeLine then (atI x.cps.toList j).map fun c => .str ⟨#[c]⟩ else none | _ => none
  | .dict kvs => match unK i with | some k => valP kvs k | none => none
  | _ => none
def nIx (x y : DV) : MM DV := fun w => match y with
  | .dat i => match x with
    | .dat d => (ixP d i).map fun z => (.dat z, w)
    | .ref k => match w[k]? with
      | some (.lst cs) => match i with | .int j => (atI cs j).map fun z => (z, w) | _ => none
      | some (.dic kvs) => match unK i with | some key => (valA kvs key).map fun z => (z, w) | none => none
      | some (.fz d) => (ixP d i).map fun z => (.dat z, w)
      | none => none
    | .fn _ => none
  | _ => none
def eIx (fa fb : FE) : FE := fun δ => bnd (fa δ) fun x => bnd (fb δ) fun y => nIx x y
theorem keyV {K : PySem.W.Frag} {G H : Hp} {v : V} {i : PyData} {k : Key} (h : Rp K G v i) (e : unK i = some k) : v = kV k := by
  cases h <;> first | (cases e; rfl) | cases e
theorem ixP_ok {K : PySem.W.Frag} {G H : Hp} {v u : V} {d i z : PyData} {Q : VK} (gh : Same G H) (hv : Rp K G v d) (hu : Rp K G u i) (e : ixP d i = some z) (k : ∀ v, Rp K G v z → Q v H) : rIx K v u H Q ∨ ∃ a v', v = .ref a ∧ DGet H a u (some v') ∧ Q v' H := by
  cases d with
  | none => cases e
  | bool b => cases e
  | int j => cases e
  | list ds =>
    cases i with
    | int j =>
      cases hu
      cases hv with
      | lst h1 h2 =>
        obtain ⟨v', g1, g2⟩ := h2.all2.atI (show atI ds j = some z from e)
        exact .inl (.inl ⟨_, _, _, _, rfl, rfl, gh.seq h1, g1, k _ g2⟩)
    | _ => cases e
  | tuple ds =>
    cases i with
    | int j =>
      cases hu
      cases hv with
      | tup h1 h2 =>
        obtain ⟨v', g1, g2⟩ := h2.all2.atI (show atI ds j = some z from e)
        exact .inl (.inr (.inl ⟨_, _, _, _, rfl, rfl, gh.sqT h1, g1, k _ g2⟩))
    | _ => cases e
  | str x =>
    cases i with
    | int j =>
      cases hu
      cases hv
      have e : (if x.length ≤ sizeLine then (atI x.cps.toList j).map (fun c => PyData.str ⟨#[c]⟩) else none) = some z := e
      split at e
      · next hz =>
        obtain ⟨c, g1, rfl⟩ := Option.map_eq_some_iff.mp e
        exact .inl (.inr (.inr ⟨_, _, _, rfl, rfl, hz, g1, k _ (.str _)⟩))
      · cases e
    | _ => cases e
  | dict kvs =>
    have e : (match unK i with | some k => valP kvs k | none => none) = some z := e
    split at e
    · next key q =>
      cases hv with
      | dic h1 h2 =>
        obtain ⟨v', g1, g2⟩ := (valP_ok h2).1 _ e
        obtain rfl := keyV (H := H) hu q
        refine .inr ⟨_, v', rfl, ?_, k _ g2⟩
        have g := DGet.kr (k := key) (gh.rd h1)
        rw [g1] at g
        exact g
    · cases e
theorem nIx_ok {K : PySem.W.Frag} {G H : Hp} {as : List Addr} {w w' : Sr} {v u : V} {x y z : DV} {Q : VK} (t : Sto K G H as w) (hv : Vr K G as v x) (hu : Vr K G as u y) (e : nIx x y w = some (z, w')) (k : w = w' → ∀ v, Vr K G as v z → Q v H) : rIx K v u H Q ∨ ∃ a v', v = .ref a ∧ DGet H a u (some v') ∧ Q v' H := by
  cases y with
  | ref j => cases e
  | fn j => cases e
  | dat i =>
    cases x with
    | dat d =>
      obtain ⟨r, e1, e2⟩ := Option.map_eq_some_iff.mp (show (ixP d i).map (fun z => (DV.dat z, w)) = some (z, w') from e)
      cases e2
      exact ixP_ok t.gh hv hu e1 fun v h => k rfl v h
    | ref j =>
      obtain ⟨a, h1, rfl⟩ := hv
      unfold nIx at e
      dsimp only at e
      split at e
      · next cs q =>
        obtain ⟨vs, g1, g2, g3⟩ := t.ok j a _ h1 q
        split at e
        · next ii =>
          obtain ⟨r, e1, e2⟩ := Option.map_eq_some_iff.mp e
          cases e2
          cases hu
          obtain ⟨v', f1, f2⟩ := g2.atI e1
          exact .inl (.inl ⟨_, _, _, _, rfl, rfl, SqL.of g1, f1, k rfl _ f2⟩)
        · cases e
      · next cs q =>
        obtain ⟨vs, g1, g2, g3⟩ := t.ok j a _ h1 q
        split at e
        · next key q2 =>
          obtain ⟨r, e1, e2⟩ := Option.map_eq_some_iff.mp e
          cases e2
          obtain rfl := keyV (H := H) hu q2
          obtain ⟨v', f1, f2⟩ := (valA_ok g2).1 _ e1
          refine .inr ⟨_, v', rfl, ?_, k rfl _ f2⟩
          have g := DGet.k (k := key) g1
          rw [f1] at g
          exact g
        · cases e
      · next d q =>
        obtain ⟨r, e1, e2⟩ := Option.map_eq_some_iff.mp e
        cases e2
        exact ixP_ok t.gh (t.ok j a _ h1 q) hu e1 fun v h => k rfl v h
      · cases e
    | fn j => cases e
def rIxD : R2 := fun x y H Q => ∃ a v, x = .ref a ∧ DGet H a y (some v) ∧ Q v H
theorem ix_dict (hu : X.A.units + 1 < cLine) : IxR X rIxD := by
  intro value slice pins s σ H x y v u Q I rx ry h hs
  obtain ⟨a, z, ex, g, q⟩ := h
  subst ex
  obtain rfl : v = Value.ref a := rx
  have hT := dict_typeIs I g
  have h₂ := d_getItem (E := X.xe) (Q := EP X pins σ Q) hu I g ry fun w' s3 I3 rw' => ⟨z, H, I3, rw', q⟩
  unfold subscriptTail
  refine wpAny_bind ?_
  rw [getitemInPython_of_ne hT.not_modules]
  refine wpAny_bind (wpAny_specialOf hT PySem.F.slot_dict_getitem.lookup ?_)
  have fin : wpAny (model X.prog X.w) X.A (subscripted slice false (Value.ref a) u) (fun r s₃ => wpAny (model X.prog X.w) X.A (letTemporaryGo value (Value.ref a) r >>= fun _ => pure r) (EP X pins σ Q) X.xe s₃) X.xe s := by
    rw [hs]
    exact wpAny_operating (wpAny_mono h₂ (fun r s₃ h₃ => wpAny_bind (wpAny_letTemporaryGo (wpAny_pure h₃))) fun _ _ x => x)
  first
    | exact wpAny_pure (wpAny_bind fin)
    | exact wpAny_bind (wpAny_pure (wpAny_bind fin))
    | exact wpAny_bind fin
theorem ed_ix {fa fb : FE} (hu : X.A.units + 1 < cLine) (ha : ED X a fa) (hb : ED X b fb) (hs : PlainIx b := by exact fun _ _ => rfl) : ED X (.Subscript a b pos) (eIx fa fb) := by
  obtain ⟨ta, pa, ka⟩ := ha.ex
  obtain ⟨tb, pb, kb⟩ := hb.ex
  refine ⟨_, pe_ix (IxR.or ix_seq (ix_dict hu)) pa pb hs, fun Q hR he k => ?_⟩
  obtain ⟨x, w1, e1, he⟩ := bnd_some he
  obtain ⟨y, w2, e2, he⟩ := bnd_some he
  refine ka _ hR e1 fun v1 as1 G1 H1 R1 S1 r1 => kb _ R1 e2 fun v2 as2 G2 H2 R2 S2 r2 => ?_
  exact nIx_ok R2.st (r1.mono S2) r2 he fun hw v h => k _ _ _ _ (hw ▸ R2) (S1.trans S2) h
/-! ### dicts: {..}, d[k] = v -/
def putA {α : Type} (kvs : List (Key × α)) (k : Key) (v : α) : List (Key × α) :=
  if (kvs.any fun kv => decide (kv.1 = k)) = true then kvs.map (fun kv => if kv.1 = k then (kv.1, v) else kv) else kvs ++ [(k, v)]
def mergeA {α : Type} (kvs more : List (Key × α)) : List (Key × α) := more.foldl (fun acc kv => putA acc kv.1 kv.2) kvs
theorem any_ok {α β : Type} {R : α → β → Prop} {k : Key} : ∀ {us : List (Key × α)} {kvs : List (Key × β)}, All2 (fun p q => p.1 = q.1 ∧ R p.2 q.2) us kvs → (us.any fun kv => decide (kv.1 = k)) = (kvs.any fun kv => decide (kv.1 = k))
  | _, _, .nil => rfl
  | _, _, .cons h t => by rw [List.any_cons, List.any_cons, any_ok t, h.1]
theorem mapPut_ok {R : V → DV → Prop} {k : Key} {v : V} {d : DV} (hv : R v d) : ∀ {us : List (Key × V)} {kvs : List (Key × DV)}, All2 (fun p q => p.1 = q.1 ∧ R p.2 q.2) us kvs → All2 (fun p q => p.1 = q.1 ∧ R p.2 q.2) (us.map fun kv => if kv.1 = k then (kv.1, v) else kv) (kvs.map fun kv => if kv.1 = k then (kv.1, d) else kv)
  | _, _, .nil => .nil
  | _, _, .cons (a := p) (b := q) h t => by
    refine .cons ?_ (mapPut_ok hv t)
    dsimp only
    by_cases e : p.1 = k
    · rw [if_pos e, if_pos (h.1 ▸ e)]; exact ⟨h.1, hv⟩
    · rw [if_neg e, if_neg (h.1 ▸ e)]; exact h
theorem putA_ok {R : V → DV → Prop} {k : Key} {v : V} {d : DV} (hv : R v d) {us : List (Key × V)} {kvs : List (Key × DV)} (h : All2 (fun p q => p.1 = q.1 ∧ R p.2 q.2) us kvs) : All2 (fun p q => p.1 = q.1 ∧ R p.2 q.2) (putK us k v) (putA kvs k d) := by
  unfold putK putA
  rw [any_ok h]
  split
  · exact mapPut_ok hv h
  · exact h.append (.cons ⟨rfl, hv⟩ .nil)
theorem mergeA_ok {R : V → DV → Prop} : ∀ {more : List (Key × V)} {mkvs : List (Key × DV)}, All2 (fun p q => p.1 = q.1 ∧ R p.2 q.2) more mkvs → ∀ {us : List (Key × V)} {kvs : List (Key × DV)}, All2 (fun p q => p.1 = q.1 ∧ R p.2 q.2) us kvs → All2 (fun p q => p.1 = q.1 ∧ R p.2 q.2) (mergeK us more) (mergeA kvs mkvs)
  | _, _, .nil, _, _, h => h
  | _, _, .cons (a := (k1, v1)) (b := (k2, d2)) (as := as1) (bs := bs1) h t, us, kvs, g => by
    obtain ⟨h1, h2⟩ := h
    dsimp only at h1 h2
    subst h1
    exact mergeA_ok t (putA_ok h2 g)
/-- the pairs of a display -/
abbrev FP := En → MM (List (PyData × DV))
structure PD (X : Cx) (pos : Pos) (keys : List (Option Expr)) (values : List Expr) (f : FP) : Prop where
  ex : ∃ trs, PPs X pos keys values trs ∧ ∀ {σ : L2.St} {δ : En} {as : List Addr} {w : Sr} {G H : Hp} {ds : List (PyData × DV)} {w' : Sr} (Q : List (V × V) → Hp → Prop), Rel X.K σ δ as w G H → f δ w = some (ds, w') →
    (∀ vs as' G' H', Rel X.K σ δ as' w' G' H' → Stp as G H as' G' H' → All2 (fun p q => Rp X.K G' p.1 q.1 ∧ Vr X.K G' as' p.2 q.2) vs ds → Q vs H') → tPairs trs σ H Q
def pN : FP := fun _ => ret []
def pC (fk fv : FE) (fr : FP) : FP := fun δ => bnd (fk δ) fun x => bnd (fv δ) fun y => bnd (fr δ) fun r => match x with
  | .dat d => ret ((d, y) :: r)
  | _ => fail
theorem pd_nil {pos : Pos} : PD X pos [] [] pN := ⟨_, pps_nil, fun Q hR he k => by
  obtain ⟨rfl, rfl⟩ := ret_some he
  exact k _ _ _ _ hR .refl .nil⟩
theorem pd_cons {pos : Pos} {ke ve : Expr} {ks : List (Option Expr)} {vs : List Expr} {fk fv : FE} {fr : FP} (hk : ED X ke fk) (hv : ED X ve fv) (hr : PD X pos ks vs fr) : PD X pos (some ke :: ks) (ve :: vs) (pC fk fv fr) := by
  obtain ⟨tk, pk, kk⟩ := hk.ex
  obtain ⟨tv, pv, kv⟩ := hv.ex
  obtain ⟨tr, pr, kr⟩ := hr.ex
  refine ⟨_, pps_cons pk pv pr, fun Q hR he k => ?_⟩
  obtain ⟨x, w1, e1, he1⟩ := bnd_some he
  obtain ⟨y, w2, e2, he2⟩ := bnd_some he1
  obtain ⟨r, w3, e3, he3⟩ := bnd_some he2
  cases x with
  | ref _ => cases he3
  | fn _ => cases he3
  | dat d =>
    obtain ⟨rfl, rfl⟩ := ret_some he3
    exact kk _ hR e1 fun v1 as1 G1 H1 R1 S1 r1 => kv _ R1 e2 fun v2 as2 G2 H2 R2 S2 r2 => kr _ R2 e3 fun v3 as3 G3 H3 R3 S3 r3 =>
      k _ _ _ _ R3 ((S1.trans S2).trans S3) (.cons ⟨Rp.mono (S2.trans S3).gg r1, r2.mono S3⟩ r3)
def keysOf : List (PyData × DV) → Option (List (Key × DV))
  | [] => some []
  | (d, x) :: r => match unK d, keysOf r with
    | some k, some l => some ((k, x) :: l)
    | _, _ => none
theorem keysOf_ok {K : PySem.W.Frag} {G : Hp} {as : List Addr} : ∀ {ps : List (V × V)} {ds : List (PyData × DV)} {kvs : List (Key × DV)}, All2 (fun p q => Rp K G p.1 q.1 ∧ Vr K G as p.2 q.2) ps ds → keysOf ds = some kvs →
    ∃ us : List (Key × V), ps = us.map (fun kv => (kV kv.1, kv.2)) ∧ All2 (fun p q => p.1 = q.1 ∧ Vr K G as p.2 q.2) us kvs
  | _, _, _, .nil, e => by cases e; exact ⟨[], rfl, .nil⟩
  | _, _, _, .cons (a := (v, u)) (b := (d, x)) (bs := bs) h t, e => by
    simp only [keysOf] at e
    split at e
    · next k l q1 q2 =>
      cases e
      obtain ⟨us, g1, g2⟩ := keysOf_ok t q2
      obtain rfl := keyV (H := G) h.1 q1
      exact ⟨(k, u) :: us, by rw [g1]; rfl, .cons ⟨rfl, h.2⟩ g2⟩
    · cases e
def eDicN (fp : FP) : FE := fun δ => bnd (fp δ) fun ps w => match keysOf ps with
  | some kvs => if kvs.length ≤ 15 then some (.ref w.length, w ++ [.dic (mergeA [] kvs)]) else none
  | none => none
theorem ed_dicN {keys : List (Option Expr)} {values : List Expr} {fp : FP} (h : PD X pos keys values fp) (hall : keys.all (·.isSome) = true := by rfl) (hl : keys.length = values.length := by rfl) (h0 : keys ≠ [] := by intro z; cases z)
    (h15 : keys.length ≤ 15 := by decide) : ED X (.Dict keys values pos) (eDicN fp) := by
  obtain ⟨tr, pr, kr⟩ := h.ex
  refine ⟨_, pe_disp pr hall hl h0 h15, fun Q hR he k => ?_⟩
  obtain ⟨ps, w1, e1, he⟩ := bnd_some he
  intro p hp
  have T0 := hR.st.poke (o := .dK []) (fun z => hR.st.al p z hp) (hR.st.gh.free hp)
  have D0 := Side.new (o := .dK []) hR.st hp
  refine kr _ (hR.stp ((Stp.refl).poke hp) T0) e1 fun vs as1 G1 H1 R1 S1 r1 => ?_
  obtain ⟨D1, q1⟩ := D0.stp S1
  rw [upd_same] at q1
  refine ⟨q1, ?_⟩
  split at he
  · next kvs q =>
    split at he
    · next hz =>
      cases he
      obtain ⟨us, g1, g2⟩ := keysOf_ok r1 q
      refine ⟨us, g1, by rw [g2.length]; exact hz, ?_⟩
      have S0 : Stp _ _ _ _ _ _ := ((Stp.refl).poke hp).trans S1
      have T1 := R1.st.poke (o := .dK (mergeK [] us)) D1.na D1.ng
      have S2 := S0.poke (o := .dK (mergeK [] us)) hp
      obtain ⟨T3, S3⟩ := T1.adoptN (n := .dic (mergeA [] kvs)) D1.na D1.ng (by rw [upd_same]; intro z; cases z) S2 hp fun mo => ⟨_, upd_same, (mergeA_ok g2 .nil).mono fun _ _ z => ⟨z.1, mo _ _ z.2⟩, D1.ng⟩
      exact k _ _ _ _ (hR.stp S3 T3) S3 ⟨p, by rw [← T1.ln]; simp, rfl⟩
    · cases he
  · cases he
def eDic0 : FE := fun δ w => some (.ref w.length, w ++ [.dic []])
theorem ed_dic0 : ED X (.Dict [] [] pos) eDic0 := ⟨_, pe_dnewK, fun Q hR he k => by
  cases he
  intro p hp
  obtain ⟨T, S⟩ := hR.st.node (o := .dK []) (n := .dic []) hp fun S => ⟨_, upd_same, .nil, hR.st.gh.free hp⟩
  exact k _ _ _ _ (hR.stp S T) S ⟨p, by rw [← hR.st.ln]; simp, rfl⟩⟩
def nPut (x y z : DV) : MM Unit := fun w => match x with
  | .ref k => match w[k]? with
    | some (.dic kvs) => match y with
      | .dat i => match unK i with
        | some key => if lenOk kvs = true then some ((), w.set k (.dic (putA kvs key z))) else none
        | none => none
      | _ => none
    | _ => none
  | _ => none
/-- d[i] = v -/
def sPut (fo fi fv : FE) : FS := fun δ => bnd (fv δ) fun z => bnd (fo δ) fun x => bnd (fi δ) fun y => bnd (nPut x y z) fun _ => ret (.nx δ)
theorem sd_put {o i value : Expr} {pos' : Pos} {fo fi fv : FE} (hu : X.A.units + 1 < cLine) (ho : ED X o fo) (hi : ED X i fi) (hv : ED X value fv) (hs : swapsWith value (some (.Subscript o i pos')) pos.line X.env = pure false := by rfl) : SD X (.Assign [.Subscript o i pos'] value pos) (sPut fo fi fv) := by
  obtain ⟨to, po, ko⟩ := ho.ex
  obtain ⟨ti, pi, ki⟩ := hi.ex
  obtain ⟨tv, pv, kv⟩ := hv.ex
  refine ⟨_, ps_dput hu po pi pv hs, fun D hR he k => ?_⟩
  obtain ⟨z, w1, e1, he⟩ := bnd_some he
  obtain ⟨x, w2, e2, he⟩ := bnd_some he
  obtain ⟨y, w3, e3, he⟩ := bnd_some he
  obtain ⟨u, w4, e4, he⟩ := bnd_some he
  obtain ⟨rfl, rfl⟩ := ret_some he
  refine kv _ hR e1 fun v1 as1 G1 H1 R1 S1 r1 => ko _ R1 e2 fun v2 as2 G2 H2 R2 S2 r2 => ki _ R2 e3 fun v3 as3 G3 H3 R3 S3 r3 => ?_
  cases x with
  | dat d => cases e4
  | fn d => cases e4
  | ref kx =>
    obtain ⟨l, h1, rfl⟩ := r2
    unfold nPut at e4
    dsimp only at e4
    split at e4
    · next kvs q =>
      cases y with
      | ref _ => cases e4
      | fn _ => cases e4
      | dat i =>
        dsimp only at e4
        split at e4
        · next key qk =>
          split at e4
          · next hz =>
            cases e4
            obtain ⟨us, g1, g2, g3⟩ := R3.st.ok kx l _ (S3.at h1) q
            obtain rfl := keyV (H := G3) r3 qk
            have r1' := (r1.mono S2).mono S3
            obtain ⟨T, S⟩ := R3.st.put (o := .dK (putK us key v1)) (n := .dic (putA kvs key z)) (S3.at h1) q g3 fun S => ⟨_, upd_same, putA_ok r1' g2, g3⟩
            exact ⟨l, _, rfl, DPut.k g1 (lenOk_lt hz g2.length), k _ _ _ _ (R3.stp S T) (((S1.trans S2).trans S3).trans S)⟩
          · cases e4
        · cases e4
    · cases e4
end
end DL

namespace DL
open PySem PySem.Spec PyProof.Rows L2
/-! ### what is walked -/
structure Itd (K : PySem.W.Frag) (J : It) (G0 : Hp) (xs : List PyData) : Prop where
  go : ∀ i G H, Same G0 G → Same G H → i < xs.length → J.go i H
  stop : ∀ i G H, Same G0 G → Same G H → xs.length ≤ i → J.stop i H
  yld : ∀ (i : Nat) {as : List Addr} {w : Sr} {G H : Hp} {x : V} {H' : Hp}, Same G0 G → Sto K G H as w → J.yld i H x H' → i < xs.length → ∃ d G', xs[i]? = some d ∧ Sto K G' H' as w ∧ Stp as G H as G' H' ∧ Rp K G' x d
abbrev FI := En → MM (List PyData)
structure ID (X : Cx) (tg iter : Expr) (f : FI) : Prop where
  ex : ∃ wi, PI X tg iter wi ∧ ∀ {σ : L2.St} {δ : En} {as : List Addr} {w : Sr} {G H : Hp} {ds : List PyData} {w' : Sr} (R : It → Hp → Prop), Rel X.K σ δ as w G H → f δ w = some (ds, w') →
    (∀ J as' G' H', Rel X.K σ δ as' w' G' H' → Stp as G H as' G' H' → Itd X.K J G' ds → R J H') → wi σ H R
section
variable {X : Cx} {K : PySem.W.Frag} {e a b c tg : Expr} {pos : Pos}
theorem itd_list {G0 : Hp} {p : Addr} {vs : List V} {ds : List PyData} (h : SqL K G0 p vs) (r : RpAll K G0 vs ds) : Itd K (Itl K p) G0 ds where
  go := fun i G H s t hi => by
    have q := t.seq (s.seq h)
    obtain ⟨v, g1, g2⟩ := r.at (List.getElem?_eq_getElem hi)
    exact ⟨vs, v, q, g1⟩
  stop := fun i G H s t hi => ⟨vs, t.seq (s.seq h), by rw [r.length]; exact hi⟩
  yld := fun i {as w G H x H'} s t y hi => by
    obtain ⟨rfl, y⟩ := y
    obtain ⟨v, g1, g2⟩ := r.at (List.getElem?_eq_getElem hi)
    have := y vs (t.gh.seq (s.seq h))
    rw [g1] at this
    cases this
    exact ⟨_, G, List.getElem?_eq_getElem hi, t, .refl, Rp.mono s g2⟩
theorem itd_tup {G0 : Hp} {p : Addr} {vs : List V} {ds : List PyData} (h : SqT K G0 p vs) (r : RpAll K G0 vs ds) : Itd K (Itt K p) G0 ds where
  go := fun i G H s t hi => by
    have q := t.sqT (s.sqT h)
    obtain ⟨v, g1, g2⟩ := r.at (List.getElem?_eq_getElem hi)
    exact ⟨vs, v, q, g1⟩
  stop := fun i G H s t hi => ⟨vs, t.sqT (s.sqT h), by rw [r.length]; exact hi⟩
  yld := fun i {as w G H x H'} s t y hi => by
    obtain ⟨rfl, y⟩ := y
    obtain ⟨v, g1, g2⟩ := r.at (List.getElem?_eq_getElem hi)
    have := y vs (t.gh.sqT (s.sqT h))
    rw [g1] at this
    cases this
    exact ⟨_, G, List.getElem?_eq_getElem hi, t, .refl, Rp.mono s g2⟩
def signs (x : Str) : List PyData := x.cps.toList.map fun c => .str ⟨#[c]⟩
theorem signs_length (x : Str) : (signs x).length = x.cps.size := by unfold signs; rw [List.length_map, Array.length_toList]
theorem itd_str {G0 : Hp} {x : Str} : Itd K (Its x) G0 (signs x) where
  go := fun i G H s t hi => by rw [signs_length] at hi; exact hi
  stop := fun i G H s t hi => by rw [signs_length] at hi; exact hi
  yld := fun i {as w G H v H'} s t y hi => by
    obtain ⟨rfl, c, h1, rfl⟩ := y
    refine ⟨.str ⟨#[c]⟩, G, ?_, t, .refl, .str _⟩
    unfold signs
    rw [List.getElem?_map, Array.getElem?_toList, h1]; rfl
def rgD (lo : Int) (n : Nat) : List PyData := (List.range n).map fun i => .int (lo + (i : Nat))
theorem itd_rng {G0 : Hp} {lo : Int} {n : Nat} : Itd K (Itr lo n) G0 (rgD lo n) where
  go := fun i G H s t hi => by unfold rgD at hi; show i < n; simpa using hi
  stop := fun i G H s t hi => by unfold rgD at hi; show n ≤ i; simpa using hi
  yld := fun i {as w G H v H'} s t y hi => by
    obtain ⟨rfl, rfl⟩ := y
    refine ⟨.int (lo + (i : Nat)), G, ?_, t, .refl, .int _⟩
    unfold rgD at hi ⊢
    rw [List.getElem?_map, List.getElem?_range (by simpa using hi)]; rfl
theorem PI.or {wi wi' : TI} (h : PI X tg e wi) (h' : PI X tg e wi') : PI X tg e (fun σ H R => wi σ H R ∨ wi' σ H R) := fun pins s σ H R I q => by
  rcases q with q | q
  · exact h pins s σ H R I q
  · exact h' pins s σ H R I q
def itemsD : PyData → Option (List PyData)
  | .list ds => some ds
  | .tuple ds => some ds
  | .str x => some (signs x)
  | _ => none
def frzM (x : DV) : MM PyData := fun w => frz x w
def iE (f : FE) : FI := fun δ => bnd (f δ) fun x => bnd (frzM x) fun d => opt (itemsD d)
theorem id_expr {f : FE} (h : ED X e f) : ID X tg e (iE f) := by
  obtain ⟨t, p, k⟩ := h.ex
  refine ⟨_, PI.or (pi_list p) (PI.or (pi_tup p) (pi_str p)), fun R hR he kk => ?_⟩
  obtain ⟨x, w1, e1, he⟩ := bnd_some he
  obtain ⟨d, w2, e2, he⟩ := bnd_some he
  obtain ⟨e3, rfl⟩ := opt_some he
  cases d with
  | list ds =>
    cases e3
    refine .inl (k _ hR e1 fun v as1 G1 H1 R1 S1 r1 => ?_)
    obtain ⟨G', t', s', rp⟩ := frz_ok R1.st r1 e2
    cases rp with
    | lst h1 h2 => exact ⟨_, rfl, ⟨_, t'.gh.seq h1⟩, kk _ _ _ _ (R1.stp s' t') (S1.trans s') (itd_list h1 h2)⟩
  | tuple ds =>
    cases e3
    refine .inr (.inl (k _ hR e1 fun v as1 G1 H1 R1 S1 r1 => ?_))
    obtain ⟨G', t', s', rp⟩ := frz_ok R1.st r1 e2
    cases rp with
    | tup h1 h2 => exact ⟨_, rfl, ⟨_, t'.gh.sqT h1⟩, kk _ _ _ _ (R1.stp s' t') (S1.trans s') (itd_tup h1 h2)⟩
  | str x =>
    cases e3
    refine .inr (.inr (k _ hR e1 fun v as1 G1 H1 R1 S1 r1 => ?_))
    obtain ⟨G', t', s', rp⟩ := frz_ok R1.st r1 e2
    cases rp
    exact ⟨_, rfl, kk _ _ _ _ (R1.stp s' t') (S1.trans s') itd_str⟩
  | _ => cases e3
def rng1 : List DV → Option (List PyData)
  | [.dat (.int j)] => if -(2 ^ 62) ≤ j ∧ j < 2 ^ 62 then some (rgD 0 j.toNat) else none
  | _ => none
def iR1 (fr : FA) : FI := fun δ => bnd (fr δ) fun xs => opt (rng1 xs)
theorem id_range1 {p : Pos} {fr : FA} (hg : Gl X "range") (hm : X.mg "range" = none) (ha : AD X [a] fr) (hs : isStar a = false := by rfl) : ID X tg (.Call (.Name "range" p) [a] [] pos) (iR1 fr) := by
  obtain ⟨t, pa, k⟩ := ha.ex
  refine ⟨_, pi_range1 hg hm pa (stE1 _ _ hs), fun R hR he kk => ?_⟩
  obtain ⟨xs, w1, e1, he⟩ := bnd_some he
  obtain ⟨e3, rfl⟩ := opt_some he
  refine k _ hR e1 fun vs as1 G1 H1 R1 S1 r1 => ?_
  unfold rng1 at e3
  split at e3
  · next j =>
    split at e3
    · next hz =>
      cases e3
      cases r1 with
      | cons h1 t1 =>
        cases t1
        cases h1
        exact ⟨j, rfl, hz.1, hz.2, kk _ _ _ _ R1 S1 itd_rng⟩
    · cases e3
  · cases e3
/-! ### for -/
def forD (body : PyData → En → MM Res) : List PyData → En → MM Res
  | [], δ => ret (.nx δ)
  | x :: xs, δ => bnd (body x δ) fun r => match r with
    | .nx δ' => forD body xs δ'
    | .ct δ' => forD body xs δ'
    | .bk δ' => ret (.nx δ')
    | .rt d => ret (.rt d)
def turnD (g : DV → En → Option En) (fb : FS) : PyData → En → MM Res := fun d δ => bnd (opt (g (.dat d) δ)) fun δ1 => fb δ1
def sFor (fi : FI) (g : DV → En → Option En) (fb : FS) : FS := fun δ => bnd (fi δ) fun ds => forD (turnD g fb) ds δ
theorem sd_for {iter : Expr} {body : List Stmt} {fi : FI} {vs : List Nat} {g : DV → En → Option En} {fb : FS} (hp : PassesOwn (model X.prog X.w) X.A X.env X.xe) (hc : X.calm = true) (hi : ID X tg iter fi) (hg : GD X tg vs g) (hb : SsD X body fb)
    (hs : ∀ x, foldedSetIterable iter X.env x = pure x := by intro _; rfl) : SD X (.For tg iter body [] pos) (sFor fi g fb) := by
  obtain ⟨wi, pi, ki⟩ := hi.ex
  obtain ⟨tg', pg, kg⟩ := hg.ex
  obtain ⟨tb, pb, kb⟩ := hb.ex
  refine ⟨_, ps_for hp hc pi pg pb hs, fun {σ δ as w G H r w'} D hR he k => ?_⟩
  obtain ⟨ds, w1, e1, he⟩ := bnd_some he
  refine ki _ hR e1 fun J as1 G1 H1 R1 S1 T1 => ?_
  refine ⟨fun i m σ H2 => m = ds.length - i ∧ i ≤ ds.length ∧ ∃ δ2 as2 w2 G2, Rel X.K σ δ2 as2 w2 G2 H2 ∧ Stp as1 G1 H1 as2 G2 H2 ∧ forD (turnD g fb) (ds.drop i) δ2 w2 = some (r, w'), ⟨_, rfl, Nat.zero_le _, δ, as1, w1, G1, R1, .refl, he⟩, ?_⟩
  rintro i m σ2 H2 ⟨hm, hil, δ2, as2, w2, G2, R2, S2, e2⟩
  by_cases hlt : i < ds.length
  · refine .inr ⟨T1.go i G2 H2 S2.gg R2.st.gh hlt, fun σ' H' => ∃ δ3 as3 w3 G3, Rel X.K σ' δ3 as3 w3 G3 H' ∧ Stp as1 G1 H1 as3 G3 H' ∧ forD (turnD g fb) (ds.drop (i + 1)) δ3 w3 = some (r, w'), fun σ' H' ⟨δ3, as3, w3, G3, R3, S3, e3⟩ => ⟨ds.length - (i + 1), by omega, rfl, by omega, δ3, as3, w3, G3, R3, S3, e3⟩, fun x H' y => ?_⟩
    obtain ⟨d, G3, q1, t3, s3, rp⟩ := T1.yld i S2.gg R2.st y hlt
    have hd : ds.drop i = d :: ds.drop (i + 1) := by
      rw [List.drop_eq_getElem_cons hlt]
      congr 1
      rw [List.getElem?_eq_getElem hlt] at q1
      exact Option.some.inj q1
    rw [hd] at e2
    obtain ⟨r2, w3, e3, e4⟩ := bnd_some e2
    obtain ⟨δ3, w4, e5, e6⟩ := bnd_some e3
    obtain ⟨e5', rfl⟩ := opt_some e5
    refine kg _ (R2.stp s3 t3) (d := .dat d) rp e5' fun σ3 R3 _ _ => kb _ R3 e6 ?_
    have SS := (S2.trans s3)
    cases r2 with
    | nx δ4 => exact fun σ' as' G' H' R' S' => ⟨δ4, as', w3, G', R', SS.trans S', e4⟩
    | ct δ4 => exact fun σ' as' G' H' R' S' => ⟨δ4, as', w3, G', R', SS.trans S', e4⟩
    | bk δ4 =>
      obtain ⟨rfl, rfl⟩ := ret_some e4
      exact fun σ' as' G' H' R' S' => k _ _ _ _ R' (S1.trans (SS.trans S'))
    | rt d4 =>
      obtain ⟨rfl, rfl⟩ := ret_some e4
      exact fun v as' G' H' T' S' rv => k _ _ _ _ T' (S1.trans (SS.trans S')) rv
  · have hd : ds.drop i = [] := List.drop_eq_nil_of_le (by omega)
    rw [hd] at e2
    obtain ⟨rfl, rfl⟩ := ret_some e2
    exact .inl ⟨T1.stop i G2 H2 S2.gg R2.st.gh (by omega), k _ _ _ _ R2 (S1.trans S2)⟩
/-! ### comprehensions -/
def wipeD (δ : En) : List Nat → En
  | [] => δ
  | v :: vs => (wipeD δ vs).set v none
theorem wipeD_length (δ : En) : ∀ vs : List Nat, (wipeD δ vs).length = δ.length
  | [] => rfl
  | v :: vs => by unfold wipeD; rw [List.length_set, wipeD_length]
theorem wipeD_at {δ : En} {i : Nat} {x : DV} : ∀ {vs : List Nat}, (wipeD δ vs)[i]? = some (some x) → i ∉ vs ∧ δ[i]? = some (some x)
  | [], h => ⟨by simp, h⟩
  | v :: vs, h => by
    rcases En.at_set h with ⟨_, e, _⟩ | ⟨hne, h⟩
    · cases e
    · obtain ⟨h1, h2⟩ := wipeD_at h
      exact ⟨fun z => by
        rcases List.mem_cons.mp z with z | z
        · exact hne z.symm
        · exact h1 z, h2⟩
theorem wipe_at {σ : L2.St} {i : Nat} : ∀ {vs : List Nat}, i ∉ vs → (wipe σ vs)[i]? = σ[i]?
  | [], _ => rfl
  | v :: vs, h => by
    show ((wipe σ vs).set v none)[i]? = _
    rw [List.getElem?_set_ne (fun z => h (by rw [z]; exact List.mem_cons_self))]
    exact wipe_at fun z => h (List.mem_cons_of_mem _ z)
theorem wipe_in {σ : L2.St} {i : Nat} : ∀ {vs : List Nat}, i ∈ vs → i < σ.length → (wipe σ vs)[i]? = some none
  | v :: vs, h, hl => by
    show ((wipe σ vs).set v none)[i]? = _
    by_cases e : v = i
    · subst e; rw [List.getElem?_set_self (by rw [wipe_length]; exact hl)]
    · rw [List.getElem?_set_ne e]
      refine wipe_in ?_ hl
      rcases List.mem_cons.mp h with h | h
      · exact absurd h.symm e
      · exact h
theorem wipe_eq {σ τ : L2.St} {vs : List Nat} (hl : τ.length = σ.length) (h : ∀ j, j ∉ vs → τ[j]? = (wipe σ vs)[j]?) : wipe τ vs = wipe σ vs := by
  apply List.ext_getElem?
  intro i
  by_cases hi : i ∈ vs
  · by_cases hb : i < σ.length
    · rw [wipe_in hi hb, wipe_in hi (by rw [hl]; exact hb)]
    · rw [List.getElem?_eq_none (by rw [wipe_length]; omega), List.getElem?_eq_none (by rw [wipe_length]; omega)]
  · rw [wipe_at hi, h i hi, ]
theorem Rel.wipe {σ : L2.St} {δ : En} {as : List Addr} {w : Sr} {G H : Hp} (r : Rel K σ δ as w G H) (vs : List Nat) : Rel K (L2.wipe σ vs) (wipeD δ vs) as w G H where
  st := r.st
  sl := fun i x h => by
    obtain ⟨h1, h2⟩ := wipeD_at h
    obtain ⟨v, g1, g2⟩ := r.sl i x h2
    exact ⟨v, by rw [wipe_at h1]; exact g1, g2⟩
  ln := by rw [wipeD_length, wipe_length]; exact r.ln
structure TsD (X : Cx) (ifs : List Expr) (f : FT) : Prop where
  ex : ∃ t, PTs X ifs t ∧ ∀ {σ : L2.St} {δ : En} {as : List Addr} {w : Sr} {G H : Hp} {b : Bool} {w' : Sr} (Q : Bool → Hp → Prop), Rel X.K σ δ as w G H → f δ w = some (b, w') →
    (∀ as' G' H', Rel X.K σ δ as' w' G' H' → Stp as G H as' G' H' → Q b H') → t σ H Q
def tY : FT := fun _ => ret true
theorem ts_nil : TsD X [] tY := ⟨_, pts_nil, fun Q hR he k => by
  obtain ⟨rfl, rfl⟩ := ret_some he
  exact k _ _ _ hR .refl⟩
theorem TsD.pts {ifs : List Expr} {f : FT} (h : TsD X ifs f) : PTs X ifs (tB' X.K f) := by
  obtain ⟨t, p, k⟩ := h.ex
  exact fun pins s σ H Q I ⟨δ, as, w, G, d, w', R, e, q⟩ => p pins s σ H Q I (k Q R e q)
/-- the items, one behind another -/
def lcD (g : DV → En → Option En) (ft : FT) (fe : FE) (δ : En) : List PyData → MM (List DV)
  | [] => ret []
  | d :: ds => bnd (opt (g (.dat d) δ)) fun δ1 => bnd (ft δ1) fun b => match b with
    | true => bnd (fe δ1) fun x => bnd (lcD g ft fe δ ds) fun xs => ret (x :: xs)
    | false => lcD g ft fe δ ds
def mLc (fi : FI) (vs : List Nat) (g : DV → En → Option En) (ft : FT) (fe : FE) : FA := fun δ => bnd (fi δ) fun ds => bnd (lcD g ft fe (wipeD δ vs) ds) fun xs => opt (if lenOk ds = true then some xs else none)
/-- the reading of a comprehension: at D, beside, the list of what came -/
theorem lc_ok {wi : TI} {fi : FI} {vs : List Nat} {g : DV → En → Option En} {ft : FT} {fe : FE} {σ : L2.St} {δ : En} {as : List Addr} {w w' : Sr} {G H : Hp} {xs : List DV} {Q : VK}
    (ki : ∀ {σ : L2.St} {δ : En} {as : List Addr} {w : Sr} {G H : Hp} {ds : List PyData} {w' : Sr} (R : It → Hp → Prop), Rel K σ δ as w G H → fi δ w = some (ds, w') → (∀ J as' G' H', Rel K σ δ as' w' G' H' → Stp as G H as' G' H' → Itd K J G' ds → R J H') → wi σ H R)
    (hR : Rel K σ δ as w G H) (he : mLc fi vs g ft fe δ w = some (xs, w'))
    (k : ∀ D as' G' H' us, Rel K σ δ as' w' G' H' → Stp as G H as' G' H' → H D = none → Side D as' G' H' → H' D = some (.lst us) → All2 (Vr K G' as') us xs → Q (.ref D) H') : tLc wi (tG K vs g) (tB' K ft) (tE K fe) vs σ H Q := by
  obtain ⟨ds, w1, e1, he⟩ := bnd_some he
  obtain ⟨ys, w2, e2, he⟩ := bnd_some he
  obtain ⟨e3, rfl⟩ := opt_some he
  split at e3
  · next hz =>
    cases e3
    refine ki _ hR e1 fun J as1 G1 H1 R1 S1 T1 => ?_
    intro D hD
    have hDH : H D = none := S1.fn D hD
    have S1' : Stp as G H as1 G1 (upd H1 D (.lst [])) := S1.poke hDH
    have T0 := R1.st.poke (o := .lst []) (fun z => R1.st.al D z hD) (R1.st.gh.free hD)
    have D0 := Side.new (o := .lst []) R1.st hD
    refine ⟨fun i m H2 => m = ds.length - i ∧ i ≤ ds.length ∧ ∃ as2 w3 G2 acc us zs, Rel K (L2.wipe σ vs) (wipeD δ vs) as2 w3 G2 H2 ∧ Rel K σ δ as2 w3 G2 H2 ∧ Stp as G H as2 G2 H2 ∧ Same G1 G2 ∧ Side D as2 G2 H2 ∧ H2 D = some (.lst us) ∧ All2 (Vr K G2 as2) us acc ∧ acc.length ≤ i ∧ xs = acc ++ zs ∧ lcD g ft fe (wipeD δ vs) (ds.drop i) w3 = some (zs, w2),
      ⟨_, rfl, Nat.zero_le _, as1, w1, G1, [], [], xs, (hR.wipe vs).stp S1' T0, hR.stp S1' T0, S1', Same.refl _, D0, upd_same, .nil, Nat.le_refl _, rfl, e2⟩, ?_⟩
    rintro i m H2 ⟨hm, hil, as2, w3, G2, acc, us, zs, R2, R2', S2, g12, D2, q2, a2, hal, hy, e4⟩
    by_cases hlt : i < ds.length
    · refine .inr ⟨T1.go i G2 H2 g12 R2.st.gh hlt, fun H' => ∃ as3 w4 G3 acc us zs, Rel K (L2.wipe σ vs) (wipeD δ vs) as3 w4 G3 H' ∧ Rel K σ δ as3 w4 G3 H' ∧ Stp as G H as3 G3 H' ∧ Same G1 G3 ∧ Side D as3 G3 H' ∧ H' D = some (.lst us) ∧ All2 (Vr K G3 as3) us acc ∧ acc.length ≤ i + 1 ∧ xs = acc ++ zs ∧ lcD g ft fe (wipeD δ vs) (ds.drop (i + 1)) w4 = some (zs, w2), fun H' z => ⟨ds.length - (i + 1), by omega, rfl, by omega, z⟩, fun x H' y => ?_⟩
      obtain ⟨d, G3, q1, t3, s3, rp⟩ := T1.yld i g12 R2.st y hlt
      have hd : ds.drop i = d :: ds.drop (i + 1) := by
        rw [List.drop_eq_getElem_cons hlt]
        congr 1
        rw [List.getElem?_eq_getElem hlt] at q1
        exact Option.some.inj q1
      rw [hd] at e4
      obtain ⟨δ1, w5, e5, e6⟩ := bnd_some e4
      obtain ⟨e5', rfl⟩ := opt_some e5
      obtain ⟨b, w6, e7, e8⟩ := bnd_some e6
      obtain ⟨D3, q3⟩ := D2.stp s3
      refine ⟨wipeD δ vs, δ1, as2, w3, G3, .dat d, R2.stp s3 t3, rp, e5', fun σ3 R3 hl3 hn3 => ?_⟩
      refine ⟨wipe_eq (hl3.trans (wipe_length _ _)) hn3, δ1, as2, w3, G3, b, w6, R3, e7, fun as4 G4 H4 R4 S4 => ?_⟩
      obtain ⟨D4, q4⟩ := D3.stp S4
      have SS4 := (S2.trans s3).trans S4
      have gg4 : Same G1 G4 := (g12.trans s3.gg).trans S4.gg
      cases b with
      | false =>
        refine iteF ⟨as4, w6, G4, acc, us, zs, (hR.wipe vs).stp SS4 R4.st, hR.stp SS4 R4.st, SS4, gg4, D4, by rw [q4, q3, q2], a2.mono fun _ _ z => (z.mono s3).mono S4, by omega, hy, e8⟩
      | true =>
        obtain ⟨xv, w7, e9, e10⟩ := bnd_some e8
        obtain ⟨zs', w8, e11, e12⟩ := bnd_some e10
        obtain ⟨rfl, rfl⟩ := ret_some e12
        refine iteT ⟨δ1, as4, w6, G4, xv, w7, R4, e9, fun v as5 G5 H5 R5 S5 r5 => ?_⟩
        obtain ⟨D5, q5⟩ := D4.stp S5
        have SS5 := SS4.trans S5
        have T6 := R5.st.poke (o := .lst (us ++ [v])) D5.na D5.ng
        have SS6 := SS5.poke (o := .lst (us ++ [v])) hDH
        have hus : us.length = acc.length := a2.length
        have hzl : ds.length ≤ 1000000 := of_decide_eq_true hz
        refine ⟨us, by rw [q5, q4, q3, q2], ?_, as5, w7, G5, acc ++ [xv], us ++ [v], zs', (hR.wipe vs).stp SS6 T6, hR.stp SS6 T6, SS6, gg4.trans S5.gg, ⟨D5.na, D5.ng, by rw [upd_same]; intro z; cases z⟩, upd_same, ?_, by rw [List.length_append]; simp; omega, by rw [hy, List.append_assoc]; rfl, e11⟩
        · rw [hus]
          exact Nat.lt_of_le_of_lt (show acc.length ≤ 1000000 by omega) (by decide)
        · exact (a2.mono fun _ _ z => ((z.mono s3).mono S4).mono S5).append (.cons r5 .nil)
    · have hd : ds.drop i = [] := List.drop_eq_nil_of_le (by omega)
      rw [hd] at e4
      obtain ⟨rfl, rfl⟩ := ret_some e4
      rw [List.append_nil] at hy
      subst hy
      exact .inl ⟨T1.stop i G2 H2 g12 R2.st.gh (by omega), k D as2 G2 H2 us R2' S2 hDH D2 q2 a2⟩
  · cases e3
abbrev Blk (X : Cx) (scope : Scope) (P : Cx → Prop) : Prop := ∀ (s : Shared) (H : Hp) (C : Addr) (cl : List (Str × Addr)) (fp : List Addr), P (X.blk s H scope (compEnvC scope cl C X.env) fp)
/-- as data -/
def eLc (fi : FI) (vs : List Nat) (g : DV → En → Option En) (ft : FT) (fe : FE) : FE := fun δ => bnd (mLc fi vs g ft fe δ) fun xs => opt ((datAll xs).map fun ds => .dat (.list ds))
theorem lcE {wi : TI} {fi : FI} {vs : List Nat} {g : DV → En → Option En} {ft : FT} {fe : FE} {σ : L2.St} {δ : En} {as : List Addr} {w w' : Sr} {G H : Hp} {d : DV} {Q : VK}
    (ki : ∀ {σ : L2.St} {δ : En} {as : List Addr} {w : Sr} {G H : Hp} {ds : List PyData} {w' : Sr} (R : It → Hp → Prop), Rel K σ δ as w G H → fi δ w = some (ds, w') → (∀ J as' G' H', Rel K σ δ as' w' G' H' → Stp as G H as' G' H' → Itd K J G' ds → R J H') → wi σ H R)
    (hR : Rel K σ δ as w G H) (he : eLc fi vs g ft fe δ w = some (d, w')) (k : ∀ v as' G' H', Rel K σ δ as' w' G' H' → Stp as G H as' G' H' → Vr K G' as' v d → Q v H') : tLc wi (tG K vs g) (tB' K ft) (tE K fe) vs σ H Q := by
  obtain ⟨xs, w1, e1, he⟩ := bnd_some he
  obtain ⟨e2, rfl⟩ := opt_some he
  obtain ⟨ds, q, rfl⟩ := Option.map_eq_some_iff.mp e2
  refine lc_ok ki hR e1 fun D as' G' H' us R S hD SD hl ha => ?_
  have rr := datAll_ok ha q
  obtain ⟨T, S'⟩ := R.st.adopt SD.na SD.ng hl S hD
  exact k _ _ _ _ (hR.stp S' T) S' (.lst (SqL.of upd_same) (rr.mono (Same.new SD.ng)))
section
variable {elt iter : Expr} {ifs : List Expr} {scope : Scope} {own : List (Str × Nat)} {fi : FI} {g : DV → En → Option En} {ft : FT} {fe : FE}
theorem ed_lc (hc : X.calm = true) (hN : X.N.Nodup) (hi : ID X tg iter fi) (ok : BlkOk X.N X.env.scope scope own) (hg : Blk X scope fun Y => GD Y tg (own.map (·.2)) g) (ht : Blk X scope fun Y => TsD Y ifs ft) (he : Blk X scope fun Y => ED Y elt fe)
    (hs : ∀ x, foldedSetIterable iter X.env x = pure x := by intro _; rfl) : ED X (.ListComp elt [⟨tg, iter, ifs, 0⟩] scope pos) (eLc fi (own.map (·.2)) g ft fe) := by
  obtain ⟨wi, pi, ki⟩ := hi.ex
  exact ⟨_, pe_lc (g := tG X.K (own.map (·.2)) g) (tt := tB' X.K ft) (te := tE X.K fe) hc hN pi ok (fun s H C cl fp => (hg s H C cl fp).pg) (fun s H C cl fp => (ht s H C cl fp).pts) (fun s H C cl fp => (he s H C cl fp).pe) hs, fun Q hR he k => lcE ki hR he k⟩
end
end
end DL

namespace DL
open PySem PySem.Spec PyProof.Rows L2
/-! ### defs -/
abbrev FN := List DV → MM DV
def spD (K : PySem.W.Frag) (n : Nat) (F : FN) : Sp := fun vs H Q _ => ∃ dvs as w G r w', dvs.length = n ∧ Sto K G H as w ∧ All2 (Vr K G as) vs dvs ∧ F dvs w = some (r, w') ∧ ∀ v as' G' H', Sto K G' H' as' w' → Stp as G H as' G' H' → Vr K G' as' v r → Q v H'
def fnF (n : Nat) (f : FS) : FN := fun dvs => bnd (sT f (dvs.map some ++ List.replicate (n - dvs.length) none)) fun r => match r with
  | .rt d => ret d
  | .nx _ => ret (.dat .none)
  | _ => fail
theorem rel_start {K : PySem.W.Frag} {G H : Hp} {as : List Addr} {w : Sr} {N : List Str} {vs : List V} {dvs : List DV} (t : Sto K G H as w) (h : All2 (Vr K G as) vs dvs) : Rel K (L2.start N vs) (dvs.map some ++ List.replicate (N.length - dvs.length) none) as w G H := by
  refine ⟨t, fun i x hx => ?_, by unfold L2.start; rw [List.length_append, List.length_append, List.length_map, List.length_map, List.length_replicate, List.length_replicate, h.length]⟩
  by_cases hi : i < dvs.length
  · rw [List.getElem?_append_left (by rw [List.length_map]; exact hi), List.getElem?_map] at hx
    obtain ⟨y, h1, h2⟩ := Option.map_eq_some_iff.mp hx
    cases h2
    obtain ⟨v, g1, g2⟩ := h.at h1
    refine ⟨v, ?_, g2⟩
    unfold L2.start
    rw [List.getElem?_append_left (by rw [List.length_map, h.length]; exact hi), List.getElem?_map, g1]; rfl
  · rw [List.getElem?_append_right (by rw [List.length_map]; omega)] at hx
    have := List.mem_of_getElem? hx
    rw [List.mem_replicate] at this
    cases this.2
section
variable {P : Program} {w : World} {K : PySem.W.Frag} {mg : Str → Option Value} {base : Heap}
theorem okD {x qual : Str} {st : Stmt} {f : Addr} {fd : FuncData} {N ps : List Str} {k : Nat} {fs : FS} (F : Fun K x qual st f fd) (S : FnScope N ps (defScope st))
    (hbody : ∀ (cdv : Value) (A : Around) (outer : List Env) (s : Shared) (H : Hp) (E : XK), Room k (A.deeper (envOfC qual (defScope st) s.heap.objs.size f cdv)) → SsD (cxOf CX0 P w K mg base N qual (defScope st) f cdv A outer s H E).nox (defBody st) fs) :
    FnOk P w K mg base CX0 (k + 1) f fd ps (spD K ps.length (fnF N.length fs)) := by
  refine F.ok S (fun vs H Q E h => ?_) (fun cdv A outer s H vs Q E hr h => ?_)
  · obtain ⟨dvs, as, w, G, r, w', h1, h2, h3, _⟩ := h
    rw [h3.length, h1]
  · obtain ⟨dvs, as, w1, G, r, w', h1, h2, h3, h4, h5⟩ := h
    obtain ⟨t, p, kk⟩ := (ss_trim (hbody cdv A outer s H E hr)).ex
    refine ⟨t, p, ?_⟩
    obtain ⟨rr, w2, e1, e2⟩ := bnd_some h4
    refine kk _ (rel_start h2 h3) e1 ?_
    cases rr with
    | rt d =>
      obtain ⟨rfl, rfl⟩ := ret_some e2
      exact fun v as' G' H' T S rv => h5 v as' G' H' T S rv
    | nx δ =>
      obtain ⟨rfl, rfl⟩ := ret_some e2
      exact fun σ' as' G' H' R S => h5 .non as' G' H' R.st S .non
    | bk _ => cases e2
    | ct _ => cases e2
end
section
variable {X : Cx} {e a b c : Expr} {pos : Pos}
def Ar (fr : FA) (n : Nat) : Prop := ∀ δ w r w', fr δ w = some (r, w') → r.length = n
theorem ar_nil : Ar aN 0 := fun δ w r w' h => by
  obtain ⟨rfl, rfl⟩ := ret_some h
  rfl
theorem ar_cons {fa : FE} {fr : FA} {n : Nat} (h : Ar fr n) : Ar (aC fa fr) (n + 1) := fun δ w r w' he => by
  obtain ⟨x, w1, e1, he⟩ := bnd_some he
  obtain ⟨y, w2, e2, he⟩ := bnd_some he
  obtain ⟨rfl, rfl⟩ := ret_some he
  rw [List.length_cons, h _ _ _ _ e2]
def eCall (F : FN) (fr : FA) : FE := fun δ => bnd (fr δ) fun dvs => F dvs
theorem ed_call {es : List Expr} {x : Str} {p : Pos} {k n : Nat} {ps : List Str} {F : FN} {f : Addr} {fd : FuncData} {fr : FA} (C : Cal X.prog X.w X.K X.mg X.base k x ps (spD X.K n F) f fd) (hr : Room k X.A) (hg : Gl X x) (ha : AD X (a :: es) fr) (hn : (a :: es).length = n := by rfl)
    (hdb : (x == ("__debug__" : Str)) = false := by decide) (he : isStar a = false := by rfl) (hpl : (backTo pos (starEach es X.env)).any (·.1) = false := by rfl) (hln : Ar fr n := by repeat (first | exact ar_nil | apply ar_cons)) :
    ED X (.Call (.Name x p) (a :: es) [] pos) (eCall F fr) := by
  obtain ⟨t, pa, ka⟩ := ha.ex
  refine ⟨_, pe_call C.ok hr hg C.mg C.kp C.bd .nil pass0 pa hdb (stE _ _ _ he) hpl, fun {σ δ as w G H d w'} Q hR he k => ?_⟩
  obtain ⟨dvs, w1, e1, he⟩ := bnd_some he
  refine ka _ hR e1 fun vs as1 G1 H1 R1 S1 r1 => ?_
  refine ⟨dvs, as1, w1, G1, d, w', hln _ _ _ _ e1, R1.st, ?_, he, fun v as' G' H' T S rv => k v as' G' H' (R1.stp S T) (S1.trans S) rv⟩
  rw [List.append_nil]
  exact r1
end
/-! ### a call over its own small store -/
def refsD : List DV → List Nat
  | [] => []
  | .ref k :: r => k :: refsD r
  | .dat _ :: r => refsD r
  | .fn _ :: r => refsD r
def refsN : Nd → List Nat
  | .lst cs => refsD cs
  | .dic cs => refsD (cs.map (·.2))
  | .fz _ => []
def addAll : List Nat → List Nat → List Nat
  | acc, [] => acc
  | acc, k :: r => if acc.elem k = true then addAll acc r else addAll (acc ++ [k]) r
def more (w : Sr) (s : List Nat) : List Nat := addAll s (s.flatMap fun k => match w[k]? with | some n => refsN n | none => [])
def reach (w : Sr) (dvs : List DV) : List Nat := more w (more w (addAll [] (refsD dvs)))
def inv (sel : List Nat) (k : Nat) : Option Nat := sel.findIdx? fun j => j == k
def renD (ρ : Nat → Option Nat) : DV → Option DV
  | .dat d => some (.dat d)
  | .ref k => (ρ k).map .ref
  | .fn x => some (.fn x)
def renL (ρ : Nat → Option Nat) : List DV → Option (List DV)
  | [] => some []
  | x :: r => match renD ρ x, renL ρ r with
    | some y, some s => some (y :: s)
    | _, _ => none
def renKV (ρ : Nat → Option Nat) : List (Key × DV) → Option (List (Key × DV))
  | [] => some []
  | (k, x) :: r => match renD ρ x, renKV ρ r with
    | some y, some s => some ((k, y) :: s)
    | _, _ => none
def renN (ρ : Nat → Option Nat) : Nd → Option Nd
  | .lst cs => (renL ρ cs).map .lst
  | .dic cs => (renKV ρ cs).map .dic
  | .fz d => some (.fz d)
def pickS (w : Sr) (ρ : Nat → Option Nat) : List Nat → Option Sr
  | [] => some []
  | k :: ks => match w[k]? with
    | some n => match renN ρ n, pickS w ρ ks with
      | some m, some r => some (m :: r)
      | _, _ => none
    | none => none
def mapD (ρ : Nat → Nat) : DV → DV
  | .dat d => .dat d
  | .ref k => .ref (ρ k)
  | .fn x => .fn x
def mapN (ρ : Nat → Nat) : Nd → Nd
  | .lst cs => .lst (cs.map (mapD ρ))
  | .dic cs => .dic (cs.map fun p => (p.1, mapD ρ p.2))
  | .fz d => .fz d
def putSel : Sr → List Nat → Sr → Sr
  | w, k :: ks, n :: ns => putSel (w.set k n) ks ns
  | w, _, _ => w
def rho (n : Nat) (sel : List Nat) (j : Nat) : Nat := match sel[j]? with
  | some k => k
  | none => n + (j - sel.length)
def small (F : FN) : FN := fun dvs w =>
  match decide ((reach w dvs).Nodup), renL (inv (reach w dvs)) dvs, pickS w (inv (reach w dvs)) (reach w dvs) with
  | true, some dvs', some w0 => match F dvs' w0 with
    | some (r, w1) => some (mapD (rho w.length (reach w dvs)) r, putSel w (reach w dvs) ((w1.take (reach w dvs).length).map (mapN (rho w.length (reach w dvs)))) ++ (w1.drop (reach w dvs).length).map (mapN (rho w.length (reach w dvs))))
    | none => none
  | _, _, _ => none
theorem inv_at {sel : List Nat} {k j : Nat} (h : inv sel k = some j) : sel[j]? = some k := by
  unfold inv at h
  obtain ⟨h1, h2, _⟩ := List.findIdx?_eq_some_iff_getElem.mp h
  rw [List.getElem?_eq_getElem h1]
  exact congrArg some (by simpa using h2)
theorem putSel_length : ∀ (w : Sr) (sel : List Nat) (ns : Sr), (putSel w sel ns).length = w.length
  | w, [], _ => by unfold putSel; rfl
  | w, _ :: _, [] => by unfold putSel; rfl
  | w, k :: ks, n :: ns => by unfold putSel; rw [putSel_length, List.length_set]
theorem putSel_out : ∀ {w : Sr} {sel : List Nat} {ns : Sr} {k : Nat}, k ∉ sel → (putSel w sel ns)[k]? = w[k]?
  | w, [], _, _, _ => by unfold putSel; rfl
  | w, _ :: _, [], _, _ => by unfold putSel; rfl
  | w, j :: ks, n :: ns, k, h => by
    unfold putSel
    rw [putSel_out fun z => h (List.mem_cons_of_mem _ z), List.getElem?_set_ne (fun z => h (by rw [z]; exact List.mem_cons_self))]
theorem putSel_in : ∀ {w : Sr} {sel : List Nat} {ns : Sr} {j k : Nat} {n : Nd}, sel.Nodup → sel[j]? = some k → ns[j]? = some n → k < w.length → (putSel w sel ns)[k]? = some n
  | w, [], _, _, _, _, _, h, _, _ => by simp at h
  | w, _ :: _, [], _, _, _, _, _, h, _ => by simp at h
  | w, i :: ks, m :: ns, 0, k, n, nd, h1, h2, hl => by
    simp at h1 h2
    subst h1; subst h2
    unfold putSel
    rw [putSel_out (List.nodup_cons.mp nd).1, List.getElem?_set_self hl]
  | w, i :: ks, m :: ns, j + 1, k, n, nd, h1, h2, hl => by
    unfold putSel
    exact putSel_in (List.nodup_cons.mp nd).2 (by simpa using h1) (by simpa using h2) (by rw [List.length_set]; exact hl)
section
variable {K : PySem.W.Frag} {G H : Hp} {as as0 : List Addr} {ρ : Nat → Option Nat}
theorem renD_ok (hρ : ∀ k j a, ρ k = some j → as[k]? = some a → as0[j]? = some a) {v : V} {x y : DV} (h : Vr K G as v x) (e : renD ρ x = some y) : Vr K G as0 v y := by
  cases x with
  | dat d => cases e; exact h
  | fn x => cases e; exact h
  | ref k =>
    obtain ⟨a, h1, h2⟩ := h
    obtain ⟨j, q, rfl⟩ := Option.map_eq_some_iff.mp e
    exact ⟨a, hρ k j a q h1, h2⟩
theorem renL_ok (hρ : ∀ k j a, ρ k = some j → as[k]? = some a → as0[j]? = some a) : ∀ {vs : List V} {xs ys : List DV}, All2 (Vr K G as) vs xs → renL ρ xs = some ys → All2 (Vr K G as0) vs ys
  | _, _, _, .nil, e => by cases e; exact .nil
  | _, _, _, .cons h t, e => by
    simp only [renL] at e
    split at e
    · next q1 q2 => cases e; exact .cons (renD_ok hρ h q1) (renL_ok hρ t q2)
    · cases e
theorem renKV_ok (hρ : ∀ k j a, ρ k = some j → as[k]? = some a → as0[j]? = some a) : ∀ {vs : List (Key × V)} {xs ys : List (Key × DV)}, All2 (fun p q => p.1 = q.1 ∧ Vr K G as p.2 q.2) vs xs → renKV ρ xs = some ys → All2 (fun p q => p.1 = q.1 ∧ Vr K G as0 p.2 q.2) vs ys
  | _, _, _, .nil, e => by cases e; exact .nil
  | _, _, _, .cons (b := (k, x)) h t, e => by
    simp only [renKV] at e
    split at e
    · next q1 q2 => cases e; exact .cons ⟨h.1, renD_ok hρ h.2 q1⟩ (renKV_ok hρ t q2)
    · cases e
theorem renN_ok (hρ : ∀ k j a, ρ k = some j → as[k]? = some a → as0[j]? = some a) {a : Addr} {n m : Nd} (h : NdOk K G H as a n) (e : renN ρ n = some m) : NdOk K G H as0 a m := by
  cases n with
  | lst cs =>
    obtain ⟨ys, q, rfl⟩ := Option.map_eq_some_iff.mp e
    obtain ⟨vs, h1, h2, h3⟩ := h
    exact ⟨vs, h1, renL_ok hρ h2 q, h3⟩
  | dic cs =>
    obtain ⟨ys, q, rfl⟩ := Option.map_eq_some_iff.mp e
    obtain ⟨vs, h1, h2, h3⟩ := h
    exact ⟨vs, h1, renKV_ok hρ h2 q, h3⟩
  | fz d => cases e; exact h
theorem pickS_at {w : Sr} : ∀ {sel : List Nat} {w0 : Sr}, pickS w ρ sel = some w0 → w0.length = sel.length ∧ ∀ (j k : Nat), sel[j]? = some k → ∃ n m, w[k]? = some n ∧ renN ρ n = some m ∧ w0[j]? = some m
  | [], w0, e => by cases e; exact ⟨rfl, fun j k h => by simp at h⟩
  | s :: sel, w0, e => by
    unfold pickS at e
    split at e
    · next n q =>
      split at e
      · next m r q1 q2 =>
        cases e
        obtain ⟨h1, h2⟩ := pickS_at q2
        refine ⟨by rw [List.length_cons, List.length_cons, h1], fun j k h => ?_⟩
        cases j with
        | zero => simp at h; subst h; exact ⟨n, m, q, q1, rfl⟩
        | succ j =>
          obtain ⟨n', m', g1, g2, g3⟩ := h2 j k (by simpa using h)
          exact ⟨n', m', g1, g2, by simpa using g3⟩
      · cases e
    · cases e
theorem mapD_ok {τ : Nat → Nat} (hτ : ∀ j a, as[j]? = some a → as0[τ j]? = some a) {v : V} {x : DV} (h : Vr K G as v x) : Vr K G as0 v (mapD τ x) := by
  cases x with
  | dat d => exact h
  | fn x => exact h
  | ref k =>
    obtain ⟨a, h1, h2⟩ := h
    exact ⟨a, hτ k a h1, h2⟩
theorem mapL_ok {τ : Nat → Nat} (hτ : ∀ j a, as[j]? = some a → as0[τ j]? = some a) : ∀ {vs : List V} {xs : List DV}, All2 (Vr K G as) vs xs → All2 (Vr K G as0) vs (xs.map (mapD τ))
  | _, _, .nil => .nil
  | _, _, .cons h t => .cons (mapD_ok hτ h) (mapL_ok hτ t)
theorem mapKV_ok {τ : Nat → Nat} (hτ : ∀ j a, as[j]? = some a → as0[τ j]? = some a) : ∀ {vs : List (Key × V)} {xs : List (Key × DV)}, All2 (fun p q => p.1 = q.1 ∧ Vr K G as p.2 q.2) vs xs → All2 (fun p q => p.1 = q.1 ∧ Vr K G as0 p.2 q.2) vs (xs.map fun p => (p.1, mapD τ p.2))
  | _, _, .nil => .nil
  | _, _, .cons h t => .cons ⟨h.1, mapD_ok hτ h.2⟩ (mapKV_ok hτ t)
theorem mapN_ok {τ : Nat → Nat} (hτ : ∀ j a, as[j]? = some a → as0[τ j]? = some a) {a : Addr} {n : Nd} (h : NdOk K G H as a n) : NdOk K G H as0 a (mapN τ n) := by
  cases n with
  | lst cs =>
    obtain ⟨vs, h1, h2, h3⟩ := h
    exact ⟨vs, h1, mapL_ok hτ h2, h3⟩
  | dic cs =>
    obtain ⟨vs, h1, h2, h3⟩ := h
    exact ⟨vs, h1, mapKV_ok hτ h2, h3⟩
  | fz d => exact h
theorem spD_small {n : Nat} {F : FN} (vs : List V) (H : Hp) (Q : VK) (E : XK) (h : spD K n (small F) vs H Q E) : spD K n F vs H Q E := by
  obtain ⟨dvs, as, w, G, r, w', h1, t, hv, he, k⟩ := h
  unfold small at he
  generalize hsel : reach w dvs = sel at he
  split at he
  · next dvs' w0 hnd hd hp =>
    split at he
    · next r0 w1 hF =>
      have hnd := of_decide_eq_true hnd
      obtain ⟨hl0, hp⟩ := pickS_at hp
      have hsl : ∀ k ∈ sel, k < as.length := fun k hk => by
        obtain ⟨j, hj, e⟩ := List.getElem_of_mem hk
        obtain ⟨n, m, g1, _⟩ := hp j k (by rw [List.getElem?_eq_getElem hj, e])
        rw [t.ln]; exact (List.getElem?_eq_some_iff.mp g1).1
      obtain ⟨as0, has0⟩ : ∃ as0, as0 = sel.map fun k => as.getD k 0 := ⟨_, rfl⟩
      have hat : ∀ j k, sel[j]? = some k → as0[j]? = as[k]? := fun j k h => by
        have hk := hsl k (List.mem_of_getElem? h)
        rw [has0, List.getElem?_map, h, List.getElem?_eq_getElem hk]
        simp [List.getD, List.getElem?_eq_getElem hk]
      have hal : as0.length = sel.length := by rw [has0, List.length_map]
      have hρ : ∀ k j a, inv sel k = some j → as[k]? = some a → as0[j]? = some a := fun k j a h1 h2 => by rw [hat j k (inv_at h1)]; exact h2
      have hsub : ∀ a ∈ as0, ∃ k ∈ sel, as[k]? = some a := fun a ha => by
        rw [has0] at ha
        obtain ⟨k, hk, e⟩ := List.mem_map.mp ha
        have hl := hsl k hk
        refine ⟨k, hk, ?_⟩
        rw [List.getElem?_eq_getElem hl]
        simp [List.getD, List.getElem?_eq_getElem hl] at e
        rw [e]
      have hmem : ∀ a ∈ as0, a ∈ as := fun a ha => by
        obtain ⟨k, _, e⟩ := hsub a ha
        exact List.mem_of_getElem? e
      have hnd0 : as0.Nodup := by
        rw [has0]
        refine List.pairwise_map.mpr (List.Pairwise.imp_of_mem (fun {x y} hx hy hne e => ?_) hnd)
        have lx := hsl x hx
        have ly := hsl y hy
        simp [List.getD, List.getElem?_eq_getElem lx, List.getElem?_eq_getElem ly] at e
        exact hne ((List.getElem_inj t.nd).mp e)
      have t0 : Sto K G H as0 w0 := ⟨t.gh, by rw [hal, hl0], hnd0, fun a ha => t.al a (hmem a ha), fun j a m h1 h2 => by
        have hj : j < sel.length := by rw [← hal]; exact (List.getElem?_eq_some_iff.mp h1).1
        obtain ⟨n', m', g1, g2, g3⟩ := hp j sel[j] (List.getElem?_eq_getElem hj)
        rw [h2] at g3; cases g3
        rw [hat j _ (List.getElem?_eq_getElem hj)] at h1
        exact renN_ok hρ (t.ok _ a _ h1 g1) g2⟩
      refine ⟨dvs', as0, w0, G, r0, w1, ?_, t0, renL_ok hρ hv hd, hF, fun v as1 G' H' T S rv => ?_⟩
      · have a1 := (renL_ok hρ hv hd).length
        rw [← a1, hv.length, h1]
      · obtain ⟨l, hax⟩ := S.ax
        have hlen1 : as1.length = w1.length := T.ln
        have hlw : w1.length = sel.length + l.length := by rw [← hlen1, hax, List.length_append, hal]
        have hnl : (as0 ++ l).Nodup := hax ▸ T.nd
        have hlnew : ∀ a ∈ l, H a = none := fun a ha => S.an a (by rw [hax]; exact List.mem_append_right _ ha) fun z => (List.nodup_append.mp hnl).2.2 a z a ha rfl
        have hτ : ∀ j a, as1[j]? = some a → (as ++ l)[rho w.length sel j]? = some a := fun j a h => by
          by_cases hj : j < sel.length
          · have e : rho w.length sel j = sel[j] := by unfold rho; rw [List.getElem?_eq_getElem hj]
            rw [e, List.getElem?_append_left (hsl _ (List.getElem_mem hj)), ← hat j _ (List.getElem?_eq_getElem hj)]
            rw [hax, List.getElem?_append_left (by rw [hal]; exact hj)] at h
            exact h
          · have e : rho w.length sel j = w.length + (j - sel.length) := by unfold rho; rw [List.getElem?_eq_none (by omega)]
            rw [e, List.getElem?_append_right (by rw [t.ln]; omega), t.ln]
            rw [hax, List.getElem?_append_right (by rw [hal]; omega), hal] at h
            rw [show w.length + (j - sel.length) - w.length = j - sel.length by omega]
            exact h
        have hw' : w' = putSel w sel ((w1.take sel.length).map (mapN (rho w.length sel))) ++ (w1.drop sel.length).map (mapN (rho w.length sel)) := by
          have := congrArg Prod.snd (Option.some.inj he); exact this.symm
        have hr' : r = mapD (rho w.length sel) r0 := by
          have := congrArg Prod.fst (Option.some.inj he); exact this.symm
        have hgk : ∀ a ∈ as, a ∉ as0 → ∀ o, H a = some o → H' a = some o := fun a _ hn o ho => S.kp a o ho hn
        have mo : ∀ v d, Vr K G as v d → Vr K G' (as ++ l) v d := fun v d h => by
          cases d with
          | dat d => exact Rp.mono S.gg h
          | fn x => exact h
          | ref k =>
            obtain ⟨a, z1, z2⟩ := h
            exact ⟨a, by rw [List.getElem?_append_left (List.getElem?_eq_some_iff.mp z1).1]; exact z1, z2⟩
        refine k v (as ++ l) G' H' ⟨T.gh, ?_, ?_, ?_, ?_⟩ ⟨S.gg, ⟨l, rfl⟩, ?_, ?_, ?_, S.fn⟩ (by rw [hr']; exact mapD_ok hτ rv)
        · rw [hw', List.length_append, List.length_append, putSel_length, List.length_map, List.length_drop, t.ln, hlw]; omega
        · refine List.nodup_append.mpr ⟨t.nd, (List.nodup_append.mp hnl).2.1, fun a ha b hb e => ?_⟩
          subst e
          exact t.al a ha (hlnew a hb)
        · intro a ha e
          rcases List.mem_append.mp ha with ha | ha
          · exact t.al a ha (S.fn a e)
          · exact T.al a (by rw [hax]; exact List.mem_append_right _ ha) e
        · intro k a n h1 h2
          rw [hw'] at h2
          by_cases hk : k < w.length
          · rw [List.getElem?_append_left (by rw [t.ln]; exact hk)] at h1
            rw [List.getElem?_append_left (by rw [putSel_length]; exact hk)] at h2
            by_cases hks : k ∈ sel
            · obtain ⟨j, hj, e⟩ := List.getElem_of_mem hks
              have hsj : sel[j]? = some k := by rw [List.getElem?_eq_getElem hj, e]
              have hjw : j < w1.length := by omega
              rw [putSel_in (n := mapN (rho w.length sel) w1[j]) hnd hsj (by rw [List.getElem?_map, List.getElem?_take_of_lt hj, List.getElem?_eq_getElem hjw]; rfl) hk] at h2
              cases h2
              refine mapN_ok hτ (T.ok j a _ ?_ (List.getElem?_eq_getElem hjw))
              rw [hax, List.getElem?_append_left (by rw [hal]; exact hj), hat j k hsj]
              exact h1
            · rw [putSel_out hks] at h2
              have g := t.ok k a n h1 h2
              have hna : a ∉ as0 := fun z => by
                obtain ⟨k', hk', e'⟩ := hsub a z
                obtain ⟨x3, y3⟩ := (List.getElem?_eq_some_iff.mp e')
                obtain ⟨x4, y4⟩ := (List.getElem?_eq_some_iff.mp h1)
                have := (List.getElem_inj t.nd).mp (y3.trans y4.symm)
                exact hks (this ▸ hk')
              have hng : ∀ o, H a = some o → G a = none → G' a = none := fun o ho hg => by
                cases q : G' a with
                | none => rfl
                | some u =>
                  rcases S.fr a (by rw [q]; intro z; cases z) with z | z | z
                  · exact absurd hg z
                  · rw [ho] at z; cases z
                  · exact absurd z hna
              cases n with
              | lst cs =>
                obtain ⟨us, g1, g2, g3⟩ := g
                exact ⟨us, S.kp a _ g1 hna, g2.mono mo, hng _ g1 g3⟩
              | dic cs =>
                obtain ⟨us, g1, g2, g3⟩ := g
                exact ⟨us, S.kp a _ g1 hna, g2.mono fun _ _ z => ⟨z.1, mo _ _ z.2⟩, hng _ g1 g3⟩
              | fz d => exact Rp.mono S.gg g
          · rw [List.getElem?_append_right (by rw [t.ln]; omega), t.ln] at h1
            rw [List.getElem?_append_right (by rw [putSel_length]; omega), putSel_length, List.getElem?_map] at h2
            obtain ⟨m, g1, rfl⟩ := Option.map_eq_some_iff.mp h2
            rw [List.getElem?_drop] at g1
            refine mapN_ok hτ (T.ok (sel.length + (k - w.length)) a m ?_ g1)
            rw [hax, List.getElem?_append_right (by rw [hal]; omega), hal, show sel.length + (k - w.length) - sel.length = k - w.length by omega]
            exact h1
        · intro a ha hn
          rcases List.mem_append.mp ha with ha | ha
          · exact absurd ha hn
          · exact hlnew a ha
        · intro b hb
          rcases S.fr b hb with z | z | z
          · exact .inl z
          · exact .inr (.inl z)
          · exact .inr (.inr (hmem b z))
        · exact fun b o ho hn => S.kp b o ho fun z => hn (hmem b z)
    · cases he
  · cases he
end
end DL

namespace DL
open PySem PySem.Spec PyProof.Rows L2
section
variable {X : Cx} {K : PySem.W.Frag}
theorem OpR.or {f : Value → Value → Sem Value} {r r' : R2} (h : OpR X f r) (h' : OpR X f r') : OpR X f (fun x y H Q => r x y H Q ∨ r' x y H Q) := by
  intro pins s σ H x y v u Q I rx ry q
  rcases q with q | q
  · exact h pins s σ H x y v u Q I rx ry q
  · exact h' pins s σ H x y v u Q I rx ry q
theorem CallR.or {f : Value} {r r' : List V → Hp → VK → Prop} (h : CallR X f r) (h' : CallR X f r') : CallR X f (fun xs H Q => r xs H Q ∨ r' xs H Q) := by
  intro pins s σ H xs us Q I rs q
  rcases q with q | q
  · exact h pins s σ H xs us Q I rs q
  · exact h' pins s σ H xs us Q I rs q
theorem SlR.or {r r' : V → Option Int → Option Int → Hp → VK → Prop} (h : SlR X r) (h' : SlR X r') : SlR X (fun x l u H Q => r x l u H Q ∨ r' x l u H Q) := by
  intro pins s σ H x v vl vu lo hi sl Q I rx hs pl pu q
  rcases q with q | q
  · exact h pins s σ H x v vl vu lo hi sl Q I rx hs pl pu q
  · exact h' pins s σ H x v vl vu lo hi sl Q I rx hs pl pu q
def rCatL (K : PySem.W.Frag) : R2 := fun x y H Q => ∃ l b xs zs, x = .ref l ∧ y = .ref b ∧ SqL K H l xs ∧ SqL K H b zs ∧ xs.length + zs.length ≤ sizeLine ∧ ∀ p, H p = none → Q (.ref p) (upd H p (.lst (xs ++ zs)))
theorem op_catL : OpR X (binaryOp .Add) (rCatL X.K) := by
  intro pins s σ H x y v u Q I rx ry h
  obtain ⟨l, b, xs, zs, rfl, rfl, hH, hB, hz, q⟩ := h
  cases rx
  cases ry
  obtain ⟨its, r, pl, hzl⟩ := I.list hH
  obtain ⟨its2, r2, pl2, hzl2⟩ := I.list hB
  obtain ⟨⟨cls, dd, data, sl⟩, ho, hc, n, hd⟩ := pl.isList
  obtain ⟨⟨cls2, dd2, data2, sl2⟩, ho2, hc2, n2, hd2⟩ := pl2.isList
  simp only at hc hd hc2 hd2
  subst hc hd hc2 hd2
  have e : its.toArray ++ its2.toArray = (its ++ its2).toArray := by simp
  have hl1 := r.length
  have hl2 := r2.length
  refine concat_meets ⟨_, ho, rfl⟩ ⟨_, ho2, rfl⟩ noFill_list_add seq_list_add PySem.F.slot_list_add PySem.F.entry_list_add (PySem.F.args_list_add_2 _ _) (list_addW l b its.toArray its2.toArray n n2 dd dd2 sl sl2 (by simp only [List.size_toArray]; omega)) ⟨ho, ho2, ?_⟩
  rw [e]
  refine ⟨.ref _, _, I.laid (t' := s.toks) (o := .lst (xs ++ zs)) (fun b ob q => Heap.get?_push_of_some _ q) (Nat.le_refl _) ?_, rfl, q _ (I.hok.fresh (Nat.le_refl _))⟩
  exact ⟨by rw [List.length_append]; exact hz, _, 0, r.append r2, Heap.get?_push_size _ rfl⟩
/-! ### + - * // % ** -/
def addP : PyData → PyData → Option PyData
  | .int i, .int j => some (.int (i + j))
  | .str a, .str b => if a.length + b.length ≤ 1000000 then some (.str (a ++ b)) else none
  | .list xs, .list ys => if xs.length + ys.length ≤ 1000000 then some (.list (xs ++ ys)) else none
  | .tuple (x :: xs), .tuple ys => if xs.length + 1 + ys.length ≤ 1000000 then some (.tuple (x :: xs ++ ys)) else none
  | _, _ => none
theorem big6 {n : Nat} (h : n ≤ 1000000) : n ≤ sizeLine := Nat.le_trans h (by decide)
theorem od_add : OpD X (binaryOp .Add) addP := by
  refine ⟨_, OpR.or op_add (OpR.or op_add_str (OpR.or op_catL op_catT)), fun {as w G H x y d e z} Q t hx hy he k => ?_⟩
  unfold addP at he
  split at he
  · cases he
    cases hx.intOf; cases hy.intOf
    exact .inl ⟨_, _, rfl, rfl, k _ _ _ t .refl (.int _)⟩
  · split at he
    · next hz =>
      cases he
      cases hx.strOf; cases hy.strOf
      exact .inr (.inl ⟨_, _, rfl, rfl, big6 hz, k _ _ _ t .refl (.str _)⟩)
    · cases he
  · next xs ys =>
    split at he
    · next hz =>
      cases he
      obtain ⟨a, vs, rfl, h1, h2⟩ := hx.lstOf t.gh
      obtain ⟨b, us, rfl, g1, g2⟩ := hy.lstOf t.gh
      refine .inr (.inr (.inl ⟨_, _, _, _, rfl, rfl, h1, g1, by rw [h2.length, g2.length]; exact big6 hz, fun p hp => ?_⟩))
      obtain ⟨T, S⟩ := t.new (o := .lst (vs ++ us)) hp
      exact k _ _ _ T S (.lst (SqL.of upd_same) ((h2.append g2).mono S.gg))
    · cases he
  · next x0 xs ys =>
    split at he
    · next hz =>
      cases he
      obtain ⟨a, vs, rfl, h1, h2⟩ := hx.tupOf t.gh
      obtain ⟨b, us, rfl, g1, g2⟩ := hy.tupOf t.gh
      have hvl := h2.length
      have hul := g2.length
      rw [List.length_cons] at hvl
      refine .inr (.inr (.inr ⟨_, _, _, _, rfl, rfl, h1, g1, fun z => by rw [z] at hvl; simp at hvl, big6 (by omega), fun z => ?_, fun _ p hp => ?_⟩))
      · rw [z] at g2
        cases g2
        cases hx with
        | rp h => exact k _ _ _ t .refl (by rw [List.append_nil]; exact h)
      · obtain ⟨T, S⟩ := t.new (o := .tup (vs ++ us)) hp
        exact k _ _ _ T S (.tup (SqT.of upd_same) ((h2.append g2).mono S.gg))
    · cases he
  · cases he
def subP : PyData → PyData → Option PyData
  | .int i, .int j => some (.int (i - j))
  | _, _ => none
theorem od_sub : OpD X (binaryOp .Sub) subP := by
  refine ⟨_, op_sub, fun {as w G H x y d e z} Q t hx hy he k => ?_⟩
  unfold subP at he
  split at he
  · cases he
    cases hx.intOf; cases hy.intOf
    exact ⟨_, _, rfl, rfl, k _ _ _ t .refl (.int _)⟩
  · cases he
def repS (z : Str) (n : Int) : Str := ⟨(List.replicate n.toNat z.cps).foldl (· ++ ·) #[]⟩
def smallI (i : Int) : Bool := decide (-(2 ^ 64) < i) && decide (i < 2 ^ 64)
def mulP : PyData → PyData → Option PyData
  | .int i, .int j => if smallI i || smallI j then some (.int (i * j)) else none
  | .str z, .int n => if 2 ≤ n ∧ n ≤ 1000 ∧ 0 < z.length ∧ z.length ≤ 1000 ∧ (repS z n).length ≤ sizeLine then some (.str (repS z n)) else none
  | _, _ => none
theorem smallI_ok {i : Int} (h : smallI i = true) : -(2 ^ 64) < i ∧ i < 2 ^ 64 := by
  unfold smallI at h
  rw [Bool.and_eq_true] at h
  exact ⟨of_decide_eq_true h.1, of_decide_eq_true h.2⟩
theorem od_mul : OpD X (binaryOp .Mult) mulP := by
  refine ⟨_, OpR.or op_mul op_mulS, fun {as w G H x y d e z} Q t hx hy he k => ?_⟩
  unfold mulP at he
  split at he
  · split at he
    · next hz =>
      cases he
      cases hx.intOf; cases hy.intOf
      refine .inl ⟨_, _, rfl, rfl, ?_, k _ _ _ t .refl (.int _)⟩
      rcases Bool.or_eq_true_iff.mp hz with hz | hz
      · exact .inl (smallI_ok hz)
      · exact .inr (smallI_ok hz)
    · cases he
  · split at he
    · next hz =>
      cases he
      cases hx.strOf; cases hy.intOf
      exact .inr ⟨_, _, rfl, rfl, hz.1, hz.2.1, hz.2.2.1, hz.2.2.2.1, hz.2.2.2.2, k _ _ _ t .refl (.str _)⟩
    · cases he
  · cases he
def fdivP : PyData → PyData → Option PyData
  | .int i, .int j => if 0 < j ∧ j < 1073741824 then some (.int (i / j)) else none
  | _, _ => none
theorem od_fdiv : OpD X (binaryOp .FloorDiv) fdivP := by
  refine ⟨_, op_fdiv, fun {as w G H x y d e z} Q t hx hy he k => ?_⟩
  unfold fdivP at he
  split at he
  · split at he
    · next hz =>
      cases he
      cases hx.intOf; cases hy.intOf
      exact ⟨_, _, rfl, rfl, hz, k _ _ _ t .refl (.int _)⟩
    · cases he
  · cases he
def modP : PyData → PyData → Option PyData
  | .int i, .int j => if 0 < j then some (.int (i % j)) else none
  | _, _ => none
theorem od_mod : OpD X (binaryOp .Mod) modP := by
  refine ⟨_, op_mod, fun {as w G H x y d e z} Q t hx hy he k => ?_⟩
  unfold modP at he
  split at he
  · split at he
    · next hz =>
      cases he
      cases hx.intOf; cases hy.intOf
      exact ⟨_, _, rfl, rfl, hz, k _ _ _ t .refl (.int _)⟩
    · cases he
  · cases he
def powP : PyData → PyData → Option PyData
  | .int i, .int j => if 0 ≤ j ∧ j ≤ 1000000 ∧ i.natAbs < 2 ^ 64 then some (.int (i ^ j.toNat)) else none
  | _, _ => none
theorem od_pow : OpD X (binaryOp .Pow) powP := by
  refine ⟨_, op_pow, fun {as w G H x y d e z} Q t hx hy he k => ?_⟩
  unfold powP at he
  split at he
  · split at he
    · next hz =>
      cases he
      cases hx.intOf; cases hy.intOf
      exact ⟨_, _, rfl, rfl, hz, k _ _ _ t .refl (.int _)⟩
    · cases he
  · cases he
/-! ### comparisons -/
mutual
theorem noDict_of : ∀ (d : PyData), d.canLay0 = true → d.hasDict = false
  | .none, _ => by simp only [PyData.hasDict]
  | .bool _, _ => by simp only [PyData.hasDict]
  | .int _, _ => by simp only [PyData.hasDict]
  | .str _, _ => by simp only [PyData.hasDict]
  | .list xs, h => by
    simp only [PyData.canLay0] at h
    simp only [PyData.hasDict]; exact noDictAll_of xs h
  | .tuple xs, h => by
    simp only [PyData.canLay0] at h
    simp only [PyData.hasDict]; exact noDictAll_of xs h
  | .dict _, h => by simp [PyData.canLay0] at h
theorem noDictAll_of : ∀ (ds : List PyData), PyData.canLayAll0 ds = true → PyData.hasDictAll ds = false
  | [], _ => by simp only [PyData.hasDictAll]
  | d :: ds, h => by
    simp only [PyData.canLayAll0, Bool.and_eq_true] at h
    simp only [PyData.hasDictAll, noDict_of d h.1, noDictAll_of ds h.2, Bool.or_self]
end
def eqP : PyData → PyData → Option PyData
  | .str x, .str y => some (.bool (x == y))
  | d, e => if SeqAt.shaped d = true ∧ SeqAt.shaped e = true then some (.bool (PyData.eqv d e)) else none
def neP : PyData → PyData → Option PyData
  | .str x, .str y => some (.bool (!(x == y)))
  | d, e => if SeqAt.shaped d = true ∧ SeqAt.shaped e = true then some (.bool (!PyData.eqv d e)) else none
theorem str_dec (x y : Str) : decide (V.str x = V.str y) = (x == y) := by
  by_cases h : x = y
  · subst h; simp
  · rw [decide_eq_false (fun e => h (V.str.inj e))]
    cases q : (x == y) with
    | false => rfl
    | true => exact absurd (eq_of_beq q) h
theorem shaped_dp {G H : Hp} {v : V} {d : PyData} (gh : Same G H) (s : Sv K G H v d) (h : SeqAt.shaped d = true) : Dp K H v d := s.dp gh (noDict_of d (SeqAt.canLay_of_shaped h))
theorem od_eq (hu : X.A.units + 64 < cLine) : OpD X (compareOp .Eq) eqP := by
  refine ⟨_, OpR.or op_eq (op_eqD hu), fun {as w G H x y d e z} Q t hx hy he k => ?_⟩
  unfold eqP at he
  split at he
  · cases he
    cases hx.strOf; cases hy.strOf
    exact .inl ⟨rfl, by rw [str_dec]; exact k _ _ _ t .refl (.bl _)⟩
  · split at he
    · next hz =>
      cases he
      exact .inr ⟨_, _, shaped_dp t.gh hx hz.1, shaped_dp t.gh hy hz.2, hz.1, hz.2, k _ _ _ t .refl (.bl _)⟩
    · cases he
theorem od_ne (hu : X.A.units + 64 < cLine) : OpD X (compareOp .NotEq) neP := by
  refine ⟨_, OpR.or op_ne (op_neD hu), fun {as w G H x y d e z} Q t hx hy he k => ?_⟩
  unfold neP at he
  split at he
  · cases he
    cases hx.strOf; cases hy.strOf
    exact .inl ⟨rfl, by rw [str_dec]; exact k _ _ _ t .refl (.bl _)⟩
  · split at he
    · next hz =>
      cases he
      exact .inr ⟨_, _, shaped_dp t.gh hx hz.1, shaped_dp t.gh hy hz.2, hz.1, hz.2, k _ _ _ t .refl (.bl _)⟩
    · cases he
def ltP : PyData → PyData → Option PyData
  | .int i, .int j => some (.bool (decide (i < j)))
  | .str a, .str b => some (.bool (decide (a.cps.toList < b.cps.toList)))
  | _, _ => none
def gtP : PyData → PyData → Option PyData
  | .int i, .int j => some (.bool (decide (j < i)))
  | .str a, .str b => some (.bool (decide (b.cps.toList < a.cps.toList)))
  | _, _ => none
def geP : PyData → PyData → Option PyData
  | .int i, .int j => some (.bool (decide (j ≤ i)))
  | .str a, .str b => some (.bool (!decide (a.cps.toList < b.cps.toList)))
  | _, _ => none
theorem od_lt : OpD X (compareOp .Lt) ltP := by
  refine ⟨_, OpR.or op_lt op_lt_str, fun {as w G H x y d e z} Q t hx hy he k => ?_⟩
  unfold ltP at he
  split at he
  · cases he; cases hx.intOf; cases hy.intOf
    exact .inl ⟨_, _, rfl, rfl, k _ _ _ t .refl (.bl _)⟩
  · cases he; cases hx.strOf; cases hy.strOf
    exact .inr ⟨_, _, rfl, rfl, k _ _ _ t .refl (.bl _)⟩
  · cases he
theorem od_gt : OpD X (compareOp .Gt) gtP := by
  refine ⟨_, OpR.or op_gt op_gt_str, fun {as w G H x y d e z} Q t hx hy he k => ?_⟩
  unfold gtP at he
  split at he
  · cases he; cases hx.intOf; cases hy.intOf
    exact .inl ⟨_, _, rfl, rfl, k _ _ _ t .refl (.bl _)⟩
  · cases he; cases hx.strOf; cases hy.strOf
    exact .inr ⟨_, _, rfl, rfl, k _ _ _ t .refl (.bl _)⟩
  · cases he
theorem od_ge : OpD X (compareOp .GtE) geP := by
  refine ⟨_, OpR.or op_ge op_ge_str, fun {as w G H x y d e z} Q t hx hy he k => ?_⟩
  unfold geP at he
  split at he
  · cases he; cases hx.intOf; cases hy.intOf
    exact .inl ⟨_, _, rfl, rfl, k _ _ _ t .refl (.bl _)⟩
  · cases he; cases hx.strOf; cases hy.strOf
    exact .inr ⟨_, _, rfl, rfl, k _ _ _ t .refl (.bl _)⟩
  · cases he
def isNoneD : PyData → Bool
  | .none => true
  | _ => false
def isNotP (d : PyData) : PyData → Option PyData
  | .none => some (.bool (!isNoneD d))
  | _ => none
theorem Sv.isN {G H : Hp} {v : V} {d : PyData} (h : Sv K G H v d) : decide (v = .non) = isNoneD d := by
  cases h with
  | rp h => cases h <;> rfl
  | lst _ _ => rfl
  | dic _ _ => rfl
theorem od_isNot : OpD X (compareOp .IsNot) isNotP := by
  refine ⟨_, op_notN, fun {as w G H x y d e z} Q t hx hy he k => ?_⟩
  unfold isNotP at he
  split at he
  · cases he; cases hy.nonOf
    exact ⟨rfl, by rw [hx.isN]; exact k _ _ _ t .refl (.bl _)⟩
  · cases he
/-! ### in -/
def flatD : PyData → Bool
  | .none => true
  | .bool _ => true
  | .int _ => true
  | .str _ => true
  | _ => false
theorem Sv.flat {G H : Hp} {v : V} {d : PyData} (h : Sv K G H v d) (e : flatD d = true) : flatV v = true := by
  cases h with
  | rp h => cases h <;> first | rfl | cases e
  | lst _ _ => cases e
  | dic _ _ => cases e
theorem flat_eq {G H G' H' : Hp} {v u : V} {d e : PyData} (h : Sv K G H v d) (g : Sv K G' H' u e) (fd : flatD d = true) (fe : flatD e = true) : eqV v u = PyData.eqv d e := by
  cases h with
  | rp h =>
    cases g with
    | rp g => cases h <;> cases g <;> first | cases fd; done | cases fe; done | (simp only [eqV, PyData.eqv])
    | lst _ _ => cases fe
    | dic _ _ => cases fe
  | lst _ _ => cases fd
  | dic _ _ => cases fd
theorem flats {G : Hp} : ∀ {vs : List V} {ds : List PyData}, RpAll K G vs ds → ds.all flatD = true → vs.all flatV = true
  | _, _, .nil, _ => rfl
  | _, _, .cons h t, e => by
    rw [List.all_cons, Bool.and_eq_true] at e
    rw [List.all_cons, (Sv.rp (H := G) h).flat e.1, flats t e.2]; rfl
theorem inV_eq {G H : Hp} {v : V} {d : PyData} (h : Sv K G H v d) (fd : flatD d = true) : ∀ {vs : List V} {ds : List PyData}, RpAll K G vs ds → ds.all flatD = true → inV v vs = ds.any fun y => PyData.eqv y d
  | _, _, .nil, _ => rfl
  | _, _, .cons g t, e => by
    rw [List.all_cons, Bool.and_eq_true] at e
    have ih := inV_eq h fd t e.2
    unfold inV at ih ⊢
    rw [List.any_cons, List.any_cons, ih, flat_eq (.rp g (H := H)) h e.1 fd]
def occ (x y : Str) : Bool := !(Builtin.Str.occurrences y x 0 y.length 1).isEmpty
def inB (d : PyData) : PyData → Option Bool
  | .list ds => if flatD d = true ∧ ds.all flatD = true then some (ds.any fun y => PyData.eqv y d) else none
  | .tuple ds => if flatD d = true ∧ ds.all flatD = true then some (ds.any fun y => PyData.eqv y d) else none
  | .str y => match d with
    | .str x => some (occ x y)
    | _ => none
  | .dict kvs => match unK d with
    | some k => some (valP kvs k).isSome
    | none => none
  | _ => none
def inP (d e : PyData) : Option PyData := (inB d e).map .bool
def rInD (neg : Bool) : R2 := fun y x H Q => ∃ a o, x = .ref a ∧ DGet H a y o ∧ Q (.bl (if neg then !o.isSome else o.isSome)) H
theorem op_inD (hu : X.A.units + 1 < cLine) : OpR X (compareOp .In) (rInD false) := by
  intro pins s σ H x y v u Q I rx ry h
  obtain ⟨a, o, ex, g, q⟩ := h
  subst ex
  obtain rfl : u = Value.ref a := ry
  exact d_in hu I g rx fun s' I' => ⟨.bl o.isSome, H, I', rfl, q⟩
theorem valP_some {G : Hp} {us : List (Key × V)} {kvs : List (PyData × PyData)} {k : Key} (h : RpKV K G us kvs) : (valV us k).isSome = (valP kvs k).isSome := by
  obtain ⟨h1, h2⟩ := valP_ok (k := k) h
  cases q : valP kvs k with
  | none => rw [h2 q]; rfl
  | some d =>
    obtain ⟨v, e, _⟩ := h1 d q
    rw [e]; rfl
theorem inCore {as : List Addr} {w : Sr} {G H : Hp} {x y : V} {d e : PyData} {b neg : Bool} {Q : VK} (t : Sto K G H as w) (hx : Sv K G H x d) (hy : Sv K G H y e) (he : inB d e = some b) (k : Q (.bl (if neg then !b else b)) H) :
    rIn K neg x y H Q ∨ (∃ i j, x = .str i ∧ y = .str j ∧ Q (.bl (if neg then !(!(Builtin.Str.occurrences j i 0 j.length 1).isEmpty) else !(Builtin.Str.occurrences j i 0 j.length 1).isEmpty)) H) ∨ rInD neg x y H Q := by
  unfold inB at he
  split at he
  · next ds =>
    split at he
    · next hz =>
      cases he
      obtain ⟨a, vs, rfl, h1, h2⟩ := hy.lstOf t.gh
      refine .inl ⟨a, vs, rfl, .inl h1, hx.flat hz.1, flats h2 hz.2, ?_⟩
      rw [inV_eq hx hz.1 h2 hz.2]; exact k
    · cases he
  · next ds =>
    split at he
    · next hz =>
      cases he
      obtain ⟨a, vs, rfl, h1, h2⟩ := hy.tupOf t.gh
      refine .inl ⟨a, vs, rfl, .inr h1, hx.flat hz.1, flats h2 hz.2, ?_⟩
      rw [inV_eq hx hz.1 h2 hz.2]; exact k
    · cases he
  · next y' =>
    split at he
    · next x' =>
      cases he
      cases hx.strOf; cases hy.strOf
      exact .inr (.inl ⟨_, _, rfl, rfl, k⟩)
    · cases he
  · next kvs =>
    split at he
    · next key q =>
      cases he
      obtain ⟨a, us, rfl, h1, h2⟩ := hy.dicOf t.gh
      have hxk : x = kV key := by
        cases hx with
        | rp h => exact keyV (H := H) h q
        | lst _ _ => cases q
        | dic _ _ => cases q
      subst hxk
      refine .inr (.inr ⟨a, _, rfl, DGet.kr h1, ?_⟩)
      rw [valP_some h2]; exact k
    · cases he
  · cases he
theorem od_in (hu : X.A.units + 1 < cLine) : OpD X (compareOp .In) inP := by
  refine ⟨_, OpR.or op_in_seq (OpR.or op_in_str (op_inD hu)), fun {as w G H x y d e z} Q t hx hy he k => ?_⟩
  obtain ⟨b, h1, rfl⟩ := Option.map_eq_some_iff.mp he
  exact inCore (neg := false) t hx hy h1 (k _ _ _ t .refl (.bl _))
end
end DL

namespace DL
open PySem PySem.Spec PyProof.Rows L2
section
variable {X : Cx} {K : PySem.W.Frag} {e a b c : Expr} {pos : Pos}
theorem all1 {R : V → PyData → Prop} {xs : List V} {d : PyData} (h : All2 R xs [d]) : ∃ x, xs = [x] ∧ R x d := by
  cases h with
  | cons h t => cases t; exact ⟨_, rfl, h⟩
theorem call_lenR {X : Cx} : CallR X (.builtin "len") (fun xs H Q => ∃ a kvs, xs = [V.ref a] ∧ Rd H a (.dK kvs) ∧ Q (.int kvs.length) H) := by
  intro pins s σ H xs us Q I r h
  obtain ⟨a, kvs, rfl, e, q⟩ := h
  rw [Vals.ref1 r]
  exact d_len I e fun t s' I' => ⟨.int kvs.length, H, I', ⟨t, rfl⟩, q⟩
def lenP : List PyData → Option PyData
  | [.str x] => if x.length ≤ 1000000 then some (.int x.length) else none
  | [.list ds] => some (.int ds.length)
  | [.tuple ds] => some (.int ds.length)
  | [.dict kvs] => some (.int kvs.length)
  | _ => none
theorem RpKV.length {G : Hp} : ∀ {us : List (Key × V)} {kvs : List (PyData × PyData)}, RpKV K G us kvs → us.length = kvs.length
  | _, _, .nil => rfl
  | _, _, .cons _ t => by rw [List.length_cons, List.length_cons, RpKV.length t]
theorem cd_len : CallD X (.builtin "len") lenP := by
  refine ⟨_, CallR.or call_len_str (CallR.or call_len_seq call_lenR), fun {as w G H xs ds z} Q t hx he k => ?_⟩
  unfold lenP at he
  split at he
  · obtain ⟨x, rfl, h⟩ := all1 hx
    split at he
    · next hz =>
      cases he
      cases h.strOf
      exact .inl ⟨_, rfl, big6 hz, k _ _ _ t .refl (.int _)⟩
    · cases he
  · cases he
    obtain ⟨x, rfl, h⟩ := all1 hx
    obtain ⟨a, vs, rfl, h1, h2⟩ := h.lstOf t.gh
    exact .inr (.inl ⟨_, _, rfl, .inl h1, by rw [h2.length]; exact k _ _ _ t .refl (.int _)⟩)
  · cases he
    obtain ⟨x, rfl, h⟩ := all1 hx
    obtain ⟨a, vs, rfl, h1, h2⟩ := h.tupOf t.gh
    exact .inr (.inl ⟨_, _, rfl, .inr h1, by rw [h2.length]; exact k _ _ _ t .refl (.int _)⟩)
  · cases he
    obtain ⟨x, rfl, h⟩ := all1 hx
    obtain ⟨a, vs, rfl, h1, h2⟩ := h.dicOf t.gh
    exact .inr (.inr ⟨_, _, rfl, h1, by rw [h2.length]; exact k _ _ _ t .refl (.int _)⟩)
  · cases he
def absP : List PyData → Option PyData
  | [.int i] => some (.int (if i < 0 then -i else i))
  | _ => none
theorem cd_abs : CallD X (.builtin "abs") absP := by
  refine ⟨_, call_abs, fun {as w G H xs ds z} Q t hx he k => ?_⟩
  unfold absP at he
  split at he
  · cases he
    obtain ⟨x, rfl, h⟩ := all1 hx
    cases h.intOf
    exact ⟨_, rfl, k _ _ _ t .refl (.int _)⟩
  · cases he
def intP : List PyData → Option PyData
  | [.int i] => some (.int i)
  | [.bool b] => some (.int (if b then 1 else 0))
  | _ => none
theorem cd_int : CallD X (.type "int") intP := by
  refine ⟨_, call_int1, fun {as w G H xs ds z} Q t hx he k => ?_⟩
  unfold intP at he
  split at he
  · cases he
    obtain ⟨x, rfl, h⟩ := all1 hx
    cases h.intOf
    exact .inl ⟨_, rfl, k _ _ _ t .refl (.int _)⟩
  · cases he
    obtain ⟨x, rfl, h⟩ := all1 hx
    cases h.blOf
    exact .inr ⟨_, rfl, k _ _ _ t .refl (.int _)⟩
  · cases he
def listP : List PyData → Option PyData
  | [.list ds] => some (.list ds)
  | [.tuple ds] => some (.list ds)
  | _ => none
theorem cd_list : CallD X (.type "list") listP := by
  refine ⟨_, call_list_of, fun {as w G H xs ds z} Q t hx he k => ?_⟩
  unfold listP at he
  split at he
  · cases he
    obtain ⟨x, rfl, h⟩ := all1 hx
    obtain ⟨a, vs, rfl, h1, h2⟩ := h.lstOf t.gh
    refine ⟨_, _, rfl, .inl h1, fun p hp => ?_⟩
    obtain ⟨T, S⟩ := t.new (o := .lst vs) hp
    exact k _ _ _ T S (.lst (SqL.of upd_same) (h2.mono S.gg))
  · cases he
    obtain ⟨x, rfl, h⟩ := all1 hx
    obtain ⟨a, vs, rfl, h1, h2⟩ := h.tupOf t.gh
    refine ⟨_, _, rfl, .inr h1, fun p hp => ?_⟩
    obtain ⟨T, S⟩ := t.new (o := .lst vs) hp
    exact k _ _ _ T S (.lst (SqL.of upd_same) (h2.mono S.gg))
  · cases he
def tupleP : List PyData → Option PyData
  | [.list ds] => some (.tuple ds)
  | [.tuple ds] => some (.tuple ds)
  | _ => none
theorem cd_tuple : CallD X (.type "tuple") tupleP := by
  refine ⟨_, call_tuple_of, fun {as w G H xs ds z} Q t hx he k => ?_⟩
  unfold tupleP at he
  split at he
  · cases he
    obtain ⟨x, rfl, h⟩ := all1 hx
    obtain ⟨a, vs, rfl, h1, h2⟩ := h.lstOf t.gh
    refine ⟨_, _, rfl, .inl ⟨h1, fun p hp => ?_⟩⟩
    obtain ⟨T, S⟩ := t.new (o := .tup vs) hp
    exact k _ _ _ T S (.tup (SqT.of upd_same) (h2.mono S.gg))
  · cases he
    obtain ⟨x, rfl, h⟩ := all1 hx
    have h' := h
    obtain ⟨a, vs, rfl, h1, h2⟩ := h.tupOf t.gh
    cases h' with
    | rp h' => exact ⟨_, _, rfl, .inr ⟨h1, k _ _ _ t .refl h'⟩⟩
  · cases he
/-! ### lists of truths, of numbers, of texts -/
/-! ### slices -/
abbrev FO := En → MM (Option Int)
structure OD (X : Cx) (e : Option Expr) (f : FO) : Prop where
  ex : ∃ t, PO X e t ∧ ∀ {σ : L2.St} {δ : En} {as : List Addr} {w : Sr} {G H : Hp} {d : Option Int} {w' : Sr} (Q : Option Int → Hp → Prop), Rel X.K σ δ as w G H → f δ w = some (d, w') →
    (∀ as' G' H', Rel X.K σ δ as' w' G' H' → Stp as G H as' G' H' → Q d H') → t σ H Q
def oN : FO := fun _ => ret none
def oS (f : FE) : FO := fun δ => bnd (f δ) fun x => match x with | .dat (.int i) => ret (some i) | _ => fail
theorem od_none : OD X none oN := ⟨_, po_none, fun Q hR he k => by
  obtain ⟨rfl, rfl⟩ := ret_some he
  exact k _ _ _ hR .refl⟩
theorem od_some {f : FE} (h : ED X e f) : OD X (some e) (oS f) := by
  obtain ⟨t, p, kk⟩ := h.ex
  refine ⟨_, po_some p, fun Q hR he k => ?_⟩
  obtain ⟨x, w1, e1, he⟩ := bnd_some he
  refine kk _ hR e1 fun v as1 G1 H1 R1 S1 r1 => ?_
  split at he
  · obtain ⟨rfl, rfl⟩ := ret_some he
    cases r1
    exact ⟨_, rfl, k _ _ _ R1 S1⟩
  · cases he
def cutL {α : Type} (xs : List α) (lo hi : Option Int) : List α := (xs.drop (HT.sIx xs.length 0 lo)).take (HT.sIx xs.length xs.length hi - HT.sIx xs.length 0 lo)
theorem cutL_ok {G : Hp} {vs : List V} {ds : List PyData} {lo hi : Option Int} (h : RpAll K G vs ds) : RpAll K G (L2.cutV vs lo hi) (cutL ds lo hi) := by
  unfold L2.cutV cutL
  rw [h.length]
  exact (h.drop _).take _
def wholeT (n : Nat) (lo hi : Option Int) : Bool := decide (HT.sIx n 0 lo = 0) && decide (HT.sIx n n hi = n)
def slP (d : PyData) (lo hi : Option Int) : Option PyData := match d with
  | .list ds => some (.list (cutL ds lo hi))
  | .tuple ds => if wholeT ds.length lo hi = true then none else some (.tuple (cutL ds lo hi))
  | .str x => if x.length ≤ 1000000 then some (.str (cutS x lo hi)) else none
  | _ => none
def eSl (fa : FE) (fl fh : FO) : FE := fun δ => bnd (fa δ) fun x => bnd (fl δ) fun lo => bnd (fh δ) fun hi => bnd (vw x) fun d => bnd (opt (slP d lo hi)) fun z => ret (.dat z)
theorem ed_slice {lo hi : Option Expr} {p2 : Pos} {fa : FE} {fl fh : FO} (ha : ED X a fa) (hl : OD X lo fl) (hh : OD X hi fh) : ED X (.Subscript a (.Slice lo hi none p2) pos) (eSl fa fl fh) := by
  obtain ⟨ta, pa, ka⟩ := ha.ex
  obtain ⟨tl, pl, kl⟩ := hl.ex
  obtain ⟨th, ph, kh⟩ := hh.ex
  refine ⟨_, pe_slice (SlR.or sl_list (SlR.or sl_tup sl_str)) pa pl ph, fun Q hR he k => ?_⟩
  obtain ⟨x, w1, e1, he⟩ := bnd_some he
  obtain ⟨l, w2, e2, he⟩ := bnd_some he
  obtain ⟨u, w3, e3, he⟩ := bnd_some he
  obtain ⟨d, w4, e4, he⟩ := bnd_some he
  obtain ⟨z, w5, e5, he⟩ := bnd_some he
  obtain ⟨o5, rfl⟩ := opt_some e5
  obtain ⟨rfl, rfl⟩ := ret_some he
  refine ka _ hR e1 fun v1 as1 G1 H1 R1 S1 r1 => kl _ R1 e2 fun as2 G2 H2 R2 S2 => kh _ R2 e3 fun as3 G3 H3 R3 S3 => ?_
  obtain ⟨rfl, s1⟩ := vw_ok R3.st ((r1.mono S2).mono S3) e4
  have SS := (S1.trans S2).trans S3
  cases d with
  | list ds =>
    cases o5
    obtain ⟨a, vs, rfl, h1, h2⟩ := s1.lstOf R3.st.gh
    refine .inl ⟨_, _, rfl, h1, fun p hp => ?_⟩
    obtain ⟨T, S⟩ := R3.st.new (o := .lst (L2.cutV vs l u)) hp
    exact k _ _ _ _ (R3.stp S T) (SS.trans S) (.lst (SqL.of upd_same) ((cutL_ok h2).mono S.gg))
  | tuple ds =>
    have o5 : (if wholeT ds.length l u = true then none else some (PyData.tuple (cutL ds l u))) = some z := o5
    split at o5
    · cases o5
    · next hz =>
      cases o5
      obtain ⟨a, vs, rfl, h1, h2⟩ := s1.tupOf R3.st.gh
      refine .inr (.inl ⟨_, _, rfl, h1, fun z => hz ?_, fun p hp => ?_⟩)
      · rw [h2.length] at z
        unfold wholeT
        rw [decide_eq_true z.1, decide_eq_true z.2]; rfl
      · obtain ⟨T, S⟩ := R3.st.new (o := .tup (L2.cutV vs l u)) hp
        exact k _ _ _ _ (R3.stp S T) (SS.trans S) (.tup (SqT.of upd_same) ((cutL_ok h2).mono S.gg))
  | str x =>
    have o5 : (if x.length ≤ 1000000 then some (PyData.str (cutS x l u)) else none) = some z := o5
    split at o5
    · next hz =>
      cases o5
      cases s1.strOf
      exact .inr (.inr ⟨_, rfl, big6 hz, k _ _ _ _ R3 SS (.str _)⟩)
    · cases o5
  | _ => cases o5
/-! ### methods of texts -/
end
end DL

namespace DL
open PySem PySem.Spec PyProof.Rows L2
section
variable {X : Cx} {K : PySem.W.Frag} {e a b c : Expr} {pos : Pos}
theorem ed_gdat {x : Str} {d : PyData} (hg : Gl X x) (h : ∃ p, X.mg x = some (.ref p) ∧ ∀ G, Rp X.K G (.ref p) d) (hd : (x == ("__debug__" : Str)) = false := by decide) : ED X (.Name x pos) (eC d) := by
  obtain ⟨p, h, r⟩ := h
  exact ed_glob hg h (v := .ref p) rfl r hd
theorem RpAll.strs' {G : Hp} : ∀ (xs : List Str), RpAll K G (xs.map V.str) (xs.map .str)
  | [] => .nil
  | x :: r => .cons (.str x) (RpAll.strs' r)
theorem RpAll.ints' {G : Hp} : ∀ (xs : List Int), RpAll K G (xs.map V.int) (xs.map .int)
  | [] => .nil
  | x :: r => .cons (.int x) (RpAll.ints' r)
/-- the law's own call -/
theorem spD_law {F : FN} {H : Hp} {p : Addr} {ns : List Int} {E : XK} (h : SqL K H p (ns.map V.int)) (hF : ∃ w', F [.dat (.list (ns.map .int))] [] = some (.dat (.bool true), w')) : spD K 1 F [.ref p] H (fun v _ => v = .bl true) E := by
  obtain ⟨w', hF⟩ := hF
  obtain ⟨G, hG⟩ : ∃ G : Hp, G = fun b => if b = p then H p else none := ⟨_, rfl⟩
  have sg : Same G H := fun b u e => by
    rw [hG] at e
    dsimp only at e
    split at e
    · next hb => subst hb; exact e
    · cases e
  have hGp : G p = H p := by rw [hG]; simp
  have sto : Sto K G H [] [] := ⟨sg, rfl, .nil, fun a h => (by cases h), fun k a n h => by simp at h⟩
  refine ⟨[.dat (.list (ns.map .int))], [], [], G, .dat (.bool true), w', rfl, sto, .cons ?_ .nil, hF, fun v as' G' H' _ _ rv => by cases rv; rfl⟩
  refine .lst (xs := ns.map V.int) ?_ (RpAll.ints' ns)
  rcases h with (h | ⟨o, h⟩) | h
  · exact .inl (.inl (hGp.trans h))
  · exact .inl (.inr ⟨o, hGp.trans h⟩)
  · exact .inr h
end
/-! ### calls, by value -/
theorem Cal.small {P : Program} {w : World} {K : PySem.W.Frag} {mg : Str → Option Value} {base : Heap} {k n : Nat} {x : Str} {ps : List Str} {F : FN} {f : Addr} {fd : FuncData} (C : Cal P w K mg base k x ps (spD K n F) f fd) : Cal P w K mg base k x ps (spD K n (DL.small F)) f fd :=
  ⟨C.ok.imp fun vs H Q E h => spD_small vs H Q E h, C.mg, C.kp, C.bd⟩
theorem small_pure {F : FN} {ds : List PyData} {w : Sr} {r : PyData} (h : F (ds.map .dat) [] = some (.dat r, [])) : small F (ds.map .dat) w = some (.dat r, w) := by
  have e1 : ∀ ds : List PyData, refsD (ds.map .dat) = [] := fun ds => by induction ds with | nil => rfl | cons d ds ih => exact ih
  have e2 : ∀ (ρ : Nat → Option Nat) (ds : List PyData), renL ρ (ds.map .dat) = some (ds.map .dat) := fun ρ ds => by
    induction ds with
    | nil => rfl
    | cons d ds ih => simp [renL, renD, ih]
  have e3 : reach w (ds.map .dat) = [] := by unfold reach; rw [e1]; rfl
  unfold small
  rw [e3, e2]
  simp [pickS, h, mapD, putSel]
/-- the pen, and data -/
theorem small_pen {F : FN} {ds : List PyData} {w : Sr} {r : PyData} {p : Nat} {kvs kvs' : List (Key × PyData)} (hp : w[p]? = some (.dic (kvs.map fun q => (q.1, .dat q.2)))) (h : F (.ref 0 :: ds.map .dat) [.dic (kvs.map fun q => (q.1, .dat q.2))] = some (.dat r, [.dic (kvs'.map fun q => (q.1, .dat q.2))])) :
    small F (.ref p :: ds.map .dat) w = some (.dat r, w.set p (.dic (kvs'.map fun q => (q.1, .dat q.2)))) := by
  have e1 : ∀ ds : List PyData, refsD (ds.map .dat) = [] := fun ds => by induction ds with | nil => rfl | cons d ds ih => exact ih
  have e0 : ∀ kvs : List (Key × PyData), refsN (.dic (kvs.map fun q => (q.1, .dat q.2))) = [] := fun kvs => by
    show refsD ((kvs.map fun q => (q.1, DV.dat q.2)).map (·.2)) = []
    rw [List.map_map]
    have := e1 (kvs.map (·.2))
    rw [List.map_map] at this
    exact this
  have e2 : ∀ (ρ : Nat → Option Nat) (ds : List PyData), renL ρ (ds.map .dat) = some (ds.map .dat) := fun ρ ds => by
    induction ds with
    | nil => rfl
    | cons d ds ih => simp [renL, renD, ih]
  have e4 : ∀ (ρ : Nat → Option Nat) (kvs : List (Key × PyData)), renKV ρ (kvs.map fun q => (q.1, .dat q.2)) = some (kvs.map fun q => (q.1, .dat q.2)) := fun ρ kvs => by
    induction kvs with
    | nil => rfl
    | cons d ds ih => simp [renKV, renD, ih]
  have e5 : more w [p] = [p] := by unfold more; simp [hp, e0, addAll]
  have e3 : reach w (.ref p :: ds.map .dat) = [p] := by unfold reach; simp [refsD, e1, addAll, e5]
  have e6 : ∀ (τ : Nat → Nat) (kvs : List (Key × PyData)), mapN τ (.dic (kvs.map fun q => (q.1, .dat q.2))) = .dic (kvs.map fun q => (q.1, .dat q.2)) := fun τ kvs => by
    simp [mapN, List.map_map, Function.comp_def, mapD]
  have e7 : inv [p] p = some 0 := by simp [inv]
  have e8 : renL (inv [p]) (.ref p :: ds.map .dat) = some (.ref 0 :: ds.map .dat) := by simp [renL, renD, e7, e2]
  have e9 : pickS w (inv [p]) [p] = some [.dic (kvs.map fun q => (q.1, .dat q.2))] := by simp [pickS, hp, renN, e4]
  unfold small
  rw [e3, e8, e9]
  simp [h, mapD, putSel, e6]
end DL

namespace DL
open PySem PySem.Spec PyProof.Rows L2
/-! ### reckoning over data -/
def Wp {α : Type} (m : MM α) (w : Sr) (Q : α → Sr → Prop) : Prop := ∃ a w', m w = some (a, w') ∧ Q a w'
section
variable {α β : Type} {w : Sr}
theorem wp_bnd {f : MM α} {g : α → MM β} {Q : β → Sr → Prop} : Wp (bnd f g) w Q ↔ Wp f w fun a w' => Wp (g a) w' Q := by
  constructor
  · rintro ⟨b, w2, h, q⟩
    obtain ⟨a, w1, h1, h2⟩ := bnd_some h
    exact ⟨a, w1, h1, b, w2, h2, q⟩
  · rintro ⟨a, w1, h1, b, w2, h2, q⟩
    exact ⟨b, w2, by unfold bnd; rw [h1]; exact h2, q⟩
theorem wp_ret {a : α} {Q : α → Sr → Prop} : Wp (ret a) w Q ↔ Q a w := by
  constructor
  · rintro ⟨b, w2, h, q⟩
    obtain ⟨rfl, rfl⟩ := ret_some h
    exact q
  · exact fun q => ⟨a, w, rfl, q⟩
theorem wp_opt {o : Option α} {Q : α → Sr → Prop} : Wp (opt o) w Q ↔ ∃ a, o = some a ∧ Q a w := by
  constructor
  · rintro ⟨b, w2, h, q⟩
    obtain ⟨h', rfl⟩ := opt_some h
    exact ⟨b, h', q⟩
  · rintro ⟨a, rfl, q⟩
    exact ⟨a, w, rfl, q⟩
theorem wp_mono {m : MM α} {Q Q' : α → Sr → Prop} (h : Wp m w Q) (k : ∀ a w', Q a w' → Q' a w') : Wp m w Q' := by
  obtain ⟨a, w', e, q⟩ := h
  exact ⟨a, w', e, k _ _ q⟩
theorem wp_vw {x : DV} {Q : PyData → Sr → Prop} : Wp (vw x) w Q ↔ ∃ d, view w x = some d ∧ Q d w := by
  constructor
  · rintro ⟨b, w2, h, q⟩
    unfold vw at h
    split at h
    · next e => cases h; exact ⟨_, e, q⟩
    · cases h
  · rintro ⟨a, e, q⟩
    exact ⟨a, w, by unfold vw; rw [e], q⟩
end
section
variable {w : Sr} {δ : En}
theorem wp_eC {d : PyData} {Q : DV → Sr → Prop} : Wp (eC d δ) w Q ↔ Q (.dat d) w := wp_ret
theorem wp_eV {i : Nat} {Q : DV → Sr → Prop} : Wp (eV i δ) w Q ↔ ∃ x, δ[i]? = some (some x) ∧ Q x w := by
  constructor
  · rintro ⟨b, w2, h, q⟩
    obtain ⟨h', rfl⟩ := eV_some h
    exact ⟨b, h', q⟩
  · rintro ⟨a, e, q⟩
    exact ⟨a, w, by unfold eV; rw [e], q⟩
theorem wp_eF {f : FE} {Q : DV → Sr → Prop} : Wp (eF f δ) w Q ↔ Wp (f δ) w fun x w' => ∃ d w2, frz x w' = some (d, w2) ∧ Q (.dat d) w2 := by
  unfold eF
  rw [wp_bnd]
  constructor
  · refine fun h => wp_mono h fun x w' h => ?_
    obtain ⟨d, w2, e, q⟩ := h
    dsimp only at e
    split at e
    · next d' w3 q' => cases e; exact ⟨_, _, q', q⟩
    · cases e
  · refine fun h => wp_mono h fun x w' h => ?_
    obtain ⟨d, w2, e, q⟩ := h
    exact ⟨.dat d, w2, by dsimp only; rw [e], q⟩
theorem wp_eOp {g : PyData → PyData → Option PyData} {fa fb : FE} {Q : DV → Sr → Prop} : Wp (eOp g fa fb δ) w Q ↔ Wp (fa δ) w fun x w1 => Wp (fb δ) w1 fun y w2 => ∃ d, view w2 x = some d ∧ ∃ e, view w2 y = some e ∧ ∃ z, g d e = some z ∧ Q (.dat z) w2 := by
  unfold eOp
  simp only [wp_bnd, wp_vw, wp_opt, wp_ret]
theorem wp_eOpB {g : PyData → PyData → Option PyData} {fa fb : FE} {Q : Bool → Sr → Prop} : Wp (eOpB g fa fb δ) w Q ↔ Wp (fa δ) w fun x w1 => Wp (fb δ) w1 fun y w2 => ∃ d, view w2 x = some d ∧ ∃ e, view w2 y = some e ∧ ∃ z, asB (g d e) = some z ∧ Q z w2 := by
  unfold eOpB
  simp only [wp_bnd, wp_vw, wp_opt, wp_ret]
theorem wp_eCB {g : List PyData → Option PyData} {fr : FA} {Q : DV → Sr → Prop} : Wp (eCB g fr δ) w Q ↔ Wp (fr δ) w fun xs w1 => Wp (vws xs) w1 fun ds w2 => ∃ z, g ds = some z ∧ Q (.dat z) w2 := by
  unfold eCB
  simp only [wp_bnd, wp_opt, wp_ret]
theorem wp_vws_nil {Q : List PyData → Sr → Prop} : Wp (vws []) w Q ↔ Q [] w := wp_ret
theorem wp_vws_cons {x : DV} {xs : List DV} {Q : List PyData → Sr → Prop} : Wp (vws (x :: xs)) w Q ↔ ∃ d, view w x = some d ∧ Wp (vws xs) w fun ds w2 => Q (d :: ds) w2 := by
  rw [show vws (x :: xs) = bnd (vw x) fun d => bnd (vws xs) fun ds => ret (d :: ds) from rfl]
  simp only [wp_bnd, wp_vw, wp_ret]
theorem wp_aN {Q : List DV → Sr → Prop} : Wp (aN δ) w Q ↔ Q [] w := wp_ret
theorem wp_aC {fa : FE} {fr : FA} {Q : List DV → Sr → Prop} : Wp (aC fa fr δ) w Q ↔ Wp (fa δ) w fun x w1 => Wp (fr δ) w1 fun xs w2 => Q (x :: xs) w2 := by
  unfold aC
  simp only [wp_bnd, wp_ret]
theorem wp_eCall {F : FN} {fr : FA} {Q : DV → Sr → Prop} : Wp (eCall F fr δ) w Q ↔ Wp (fr δ) w fun dvs w1 => Wp (F dvs) w1 Q := by
  unfold eCall
  simp only [wp_bnd]
theorem wp_eTup {fr : FA} {Q : DV → Sr → Prop} : Wp (eTup fr δ) w Q ↔ Wp (fr δ) w fun xs w1 => ∃ ds, datAll xs = some ds ∧ lenOk ds = true ∧ Q (.dat (.tuple ds)) w1 := by
  unfold eTup
  simp only [wp_bnd, wp_opt]
  constructor
  · refine fun h => wp_mono h fun xs w1 ⟨a, e, q⟩ => ?_
    split at e
    · next ds e' =>
      split at e
      · next hz => cases e; exact ⟨_, e', hz, q⟩
      · cases e
    · cases e
  · refine fun h => wp_mono h fun xs w1 ⟨ds, e, hz, q⟩ => ⟨_, ?_, q⟩
    rw [e]
    dsimp only
    rw [if_pos hz]
theorem wp_eLst {fr : FA} {Q : DV → Sr → Prop} : Wp (eLst fr δ) w Q ↔ Wp (fr δ) w fun xs w1 => ∃ ds, datAll xs = some ds ∧ lenOk ds = true ∧ Q (.dat (.list ds)) w1 := by
  unfold eLst
  simp only [wp_bnd, wp_opt]
  constructor
  · refine fun h => wp_mono h fun xs w1 ⟨a, e, q⟩ => ?_
    split at e
    · next ds e' =>
      split at e
      · next hz => cases e; exact ⟨_, e', hz, q⟩
      · cases e
    · cases e
  · refine fun h => wp_mono h fun xs w1 ⟨ds, e, hz, q⟩ => ⟨_, ?_, q⟩
    rw [e]
    dsimp only
    rw [if_pos hz]
theorem wp_eIx {fa fb : FE} {Q : DV → Sr → Prop} : Wp (eIx fa fb δ) w Q ↔ Wp (fa δ) w fun x w1 => Wp (fb δ) w1 fun y w2 => Wp (nIx x y) w2 Q := by
  unfold eIx
  simp only [wp_bnd]
theorem wp_nIx {d i : PyData} {Q : DV → Sr → Prop} : Wp (nIx (.dat d) (.dat i)) w Q ↔ ∃ z, ixP d i = some z ∧ Q (.dat z) w := by
  constructor
  · rintro ⟨b, w2, h, q⟩
    obtain ⟨z, h1, h2⟩ := Option.map_eq_some_iff.mp (show (ixP d i).map (fun z => (DV.dat z, w)) = some (b, w2) from h)
    cases h2
    exact ⟨z, h1, q⟩
  · rintro ⟨z, h, q⟩
    exact ⟨.dat z, w, show (ixP d i).map (fun z => (DV.dat z, w)) = _ by rw [h]; rfl, q⟩
theorem wp_nIxD {k : Nat} {kvs : List (Key × DV)} {i : PyData} {key : Key} {Q : DV → Sr → Prop} (h : w[k]? = some (.dic kvs)) (hk : unK i = some key) : Wp (nIx (.ref k) (.dat i)) w Q ↔ ∃ z, valA kvs key = some z ∧ Q z w := by
  have e : nIx (.ref k) (.dat i) w = (valA kvs key).map fun z => (z, w) := by unfold nIx; simp only [h, hk]
  constructor
  · rintro ⟨b, w2, h, q⟩
    rw [e] at h
    obtain ⟨z, h1, h2⟩ := Option.map_eq_some_iff.mp h
    cases h2
    exact ⟨_, h1, q⟩
  · rintro ⟨z, h, q⟩
    exact ⟨z, w, by rw [e, h]; rfl, q⟩
/-! statements -/
theorem wp_sSeq {f g : FS} {Q : Res → Sr → Prop} : Wp (sSeq f g δ) w Q ↔ Wp (f δ) w fun r w' => match r with | .nx δ' => Wp (g δ') w' Q | r => Q r w' := by
  unfold sSeq
  rw [wp_bnd]
  constructor
  · refine fun h => wp_mono h fun r w' h => ?_
    cases r with
    | nx δ' => exact h
    | rt d => exact wp_ret.mp h
    | bk d => exact wp_ret.mp h
    | ct d => exact wp_ret.mp h
  · refine fun h => wp_mono h fun r w' h => ?_
    cases r with
    | nx δ' => exact h
    | rt d => exact wp_ret.mpr h
    | bk d => exact wp_ret.mpr h
    | ct d => exact wp_ret.mpr h
theorem wp_sNil {Q : Res → Sr → Prop} : Wp (sNil δ) w Q ↔ Q (.nx δ) w := wp_ret
theorem wp_sRet {f : FE} {Q : Res → Sr → Prop} : Wp (sRet f δ) w Q ↔ Wp (f δ) w fun d w' => Q (.rt d) w' := by
  unfold sRet
  simp only [wp_bnd, wp_ret]
theorem wp_sExp {f : FE} {Q : Res → Sr → Prop} : Wp (sExp f δ) w Q ↔ Wp (f δ) w fun _ w' => Q (.nx δ) w' := by
  unfold sExp
  simp only [wp_bnd, wp_ret]
theorem wp_sSet {f : FE} {i : Nat} {Q : Res → Sr → Prop} : Wp (sSet f (gN i) δ) w Q ↔ Wp (f δ) w fun d w' => Q (.nx (δ.set i (some d))) w' := by
  unfold sSet gN
  simp only [wp_bnd, wp_opt]
  constructor
  · refine fun h => wp_mono h fun d w' ⟨a, e, q⟩ => ?_
    cases e; exact q
  · exact fun h => wp_mono h fun d w' q => ⟨_, rfl, q⟩
theorem wp_sIf {ft : FT} {f g : FS} {Q : Res → Sr → Prop} : Wp (sIf ft f g δ) w Q ↔ Wp (ft δ) w fun b w' => if b = true then Wp (f δ) w' Q else Wp (g δ) w' Q := by
  unfold sIf
  rw [wp_bnd]
  constructor
  · refine fun h => wp_mono h fun b w' h => ?_
    cases b with
    | true => exact h
    | false => exact h
  · refine fun h => wp_mono h fun b w' h => ?_
    cases b with
    | true => exact h
    | false => exact h
theorem wp_sPut {fo fi fv : FE} {Q : Res → Sr → Prop} : Wp (sPut fo fi fv δ) w Q ↔ Wp (fv δ) w fun z w1 => Wp (fo δ) w1 fun x w2 => Wp (fi δ) w2 fun y w3 => Wp (nPut x y z) w3 fun _ w4 => Q (.nx δ) w4 := by
  unfold sPut
  simp only [wp_bnd, wp_ret]
theorem wp_nPut {k : Nat} {kvs : List (Key × DV)} {i : PyData} {key : Key} {z : DV} {Q : Unit → Sr → Prop} (h : w[k]? = some (.dic kvs)) (hk : unK i = some key) (hl : lenOk kvs = true) : Wp (nPut (.ref k) (.dat i) z) w Q ↔ Q () (w.set k (.dic (putA kvs key z))) := by
  have e : nPut (.ref k) (.dat i) z w = some ((), w.set k (.dic (putA kvs key z))) := by unfold nPut; simp only [h, hk, hl, if_true]
  constructor
  · rintro ⟨b, w2, h, q⟩
    rw [e] at h
    cases h
    exact q
  · exact fun q => ⟨(), _, e, q⟩
/-! tests -/
theorem wp_tV {fa : FE} {Q : Bool → Sr → Prop} : Wp (tV fa δ) w Q ↔ Wp (fa δ) w fun x w1 => ∃ d, view w1 x = some d ∧ ∃ b, truD d = some b ∧ Q b w1 := by
  unfold tV
  simp only [wp_bnd, wp_vw, wp_opt]
theorem wp_tNo {fa : FT} {Q : Bool → Sr → Prop} : Wp (tNo fa δ) w Q ↔ Wp (fa δ) w fun x w1 => Q (!x) w1 := by
  unfold tNo
  simp only [wp_bnd, wp_ret]
theorem wp_tAn {fa fb : FT} {Q : Bool → Sr → Prop} : Wp (tAn fa fb δ) w Q ↔ Wp (fa δ) w fun x w1 => if x = true then Wp (fb δ) w1 Q else Q false w1 := by
  unfold tAn
  rw [wp_bnd]
  constructor
  · refine fun h => wp_mono h fun b w' h => ?_
    cases b with
    | true => exact h
    | false => exact wp_ret.mp h
  · refine fun h => wp_mono h fun b w' h => ?_
    cases b with
    | true => exact h
    | false => exact wp_ret.mpr h
theorem wp_tOu {fa fb : FT} {Q : Bool → Sr → Prop} : Wp (tOu fa fb δ) w Q ↔ Wp (fa δ) w fun x w1 => if x = true then Q true w1 else Wp (fb δ) w1 Q := by
  unfold tOu
  rw [wp_bnd]
  constructor
  · refine fun h => wp_mono h fun b w' h => ?_
    cases b with
    | true => exact wp_ret.mp h
    | false => exact h
  · refine fun h => wp_mono h fun b w' h => ?_
    cases b with
    | true => exact wp_ret.mpr h
    | false => exact h
/-! a def -/
theorem wp_fn {n : Nat} {f : FS} {dvs : List DV} {Q : DV → Sr → Prop} (h : Wp (f (dvs.map some ++ List.replicate (n - dvs.length) none)) w fun r w' => match (trimR w.length r w').1 with | .rt d => Q d (trimR w.length r w').2 | .nx _ => Q (.dat .none) (trimR w.length r w').2 | _ => False) : Wp (fnF n f dvs) w Q := by
  unfold fnF
  rw [wp_bnd]
  obtain ⟨r, w', e, q⟩ := h
  refine ⟨(trimR w.length r w').1, (trimR w.length r w').2, by unfold sT; rw [e], ?_⟩
  split at q
  · next d e2 => rw [e2]; exact wp_ret.mpr q
  · next d e2 => rw [e2]; exact wp_ret.mpr q
  · exact q.elim
end
/-! ### the pen -/
abbrev penL (ns : List Int) (a l : Int) : List (Key × DV) := [(.inr "cells", .dat (.list (ns.map .int))), (.inr "at", .dat (.int a)), (.inr "left", .dat (.int l))]
def pen (ns : List Int) (a l : Int) : Nd := .dic (penL ns a l)
def PenAt (n : Nat) (x : Nd) : Prop := ∃ ns a l, x = pen ns a l ∧ ns.length ≤ 63 ∧ 0 ≤ a ∧ a ≤ (n : Int) ∧ 0 ≤ l
theorem PenAt.mono {n m : Nat} {x : Nd} (h : PenAt n x) (e : n ≤ m) : PenAt m x := by
  obtain ⟨ns, a, l, h1, h2, h3, h4, h5⟩ := h
  exact ⟨ns, a, l, h1, h2, h3, by omega, h5⟩
theorem val_cells {ns : List Int} {a l : Int} : valA (penL ns a l) (.inr "cells") = some (.dat (.list (ns.map .int))) := by
  simp [valA, List.find?_cons]
theorem val_at {ns : List Int} {a l : Int} : valA (penL ns a l) (.inr "at") = some (.dat (.int a)) := by
  simp [valA, List.find?_cons, ca]
theorem val_left {ns : List Int} {a l : Int} : valA (penL ns a l) (.inr "left") = some (.dat (.int l)) := by
  simp [valA, List.find?_cons, cl, al]
theorem put_left {ns : List Int} {a l b : Int} : putA (penL ns a l) (.inr "left") (.dat (.int b)) = penL ns a b := by
  simp [putA, cl, al]
section
variable {ns : List Int} {a l b : Int} {rest : Sr} {Q : DV → Sr → Prop} {U : Unit → Sr → Prop}
theorem wp_penCells : Wp (nIx (.ref 0) (.dat (.str "cells"))) (pen ns a l :: rest) Q ↔ Q (.dat (.list (ns.map .int))) (pen ns a l :: rest) := by
  rw [wp_nIxD (kvs := penL ns a l) (key := .inr "cells") rfl rfl, val_cells]; simp
theorem wp_penAt : Wp (nIx (.ref 0) (.dat (.str "at"))) (pen ns a l :: rest) Q ↔ Q (.dat (.int a)) (pen ns a l :: rest) := by
  rw [wp_nIxD (kvs := penL ns a l) (key := .inr "at") rfl rfl, val_at]; simp
theorem wp_penLeft : Wp (nIx (.ref 0) (.dat (.str "left"))) (pen ns a l :: rest) Q ↔ Q (.dat (.int l)) (pen ns a l :: rest) := by
  rw [wp_nIxD (kvs := penL ns a l) (key := .inr "left") rfl rfl, val_left]; simp
theorem wp_putLeft : Wp (nPut (.ref 0) (.dat (.str "left")) (.dat (.int b))) (pen ns a l :: rest) U ↔ U () (pen ns a b :: rest) := by
  rw [wp_nPut (kvs := penL ns a l) (key := .inr "left") rfl rfl rfl, put_left]; rfl
end
def drawS : FS :=
  (sSeq (sIf (eOpB gtP (eIx (eV 0) (eC (.str "left"))) (eC (.int 0)))
   (sSeq (sSet (eOp modP (eIx (eV 0) (eC (.str "left"))) (eV 1)) (gN 2))
  (sSeq (sPut (eV 0) (eC (.str "left")) (eOp fdivP (eIx (eV 0) (eC (.str "left"))) (eV 1)))
  (sRet (eV 2))))
   sNil)
  (sSeq (sSet (eIx (eV 0) (eC (.str "at"))) (gN 3))
  (sSeq (sPut (eV 0) (eC (.str "at")) (eOp addP (eV 3) (eC (.int 1))))
  (sSeq (sSet (eOp addP (eOp mulP (eC (.int 1861)) (eV 3)) (eC (.int 809))) (gN 4))
  (sSeq (sIf (eOpB neP (eIx (eV 0) (eC (.str "cells"))) (eLst aN))
   (sSet (eIx (eIx (eV 0) (eC (.str "cells"))) (eOp modP (eV 3) (eCB lenP (aC (eIx (eV 0) (eC (.str "cells"))) aN)))) (gN 4))
   sNil)
  (sSeq (sIf (tAn (eOpB ltP (eV 3) (eCB lenP (aC (eIx (eV 0) (eC (.str "cells"))) aN))) (eOpB geP (eCB absP (aC (eV 4) aN)) (eOp powP (eC (.int 10)) (eC (.int 18)))))
   (sSeq (sSet (eOp addP (eOp mulP (eC (.int 2)) (eCB absP (aC (eV 4) aN))) (eCB intP (aC (eOp ltP (eV 4) (eC (.int 0))) aN))) (gN 5))
  (sSeq (sPut (eV 0) (eC (.str "left")) (eOp fdivP (eV 5) (eV 1)))
  (sRet (eOp modP (eV 5) (eV 1)))))
   sNil)
  (sSeq (sSet (eOp modP (eOp powP (eOp addP (eOp addP (eOp modP (eV 4) (eC (.int 2147483543))) (eOp mulP (eC (.int 69001)) (eV 3))) (eC (.int 83))) (eC (.int 5))) (eC (.int 2147483647))) (gN 6))
  (sSeq (sSet (eOp modP (eOp powP (eOp addP (eOp mulP (eV 6) (eOp addP (eV 3) (eC (.int 65551)))) (eOp mulP (eOp mulP (eC (.int 86011)) (eV 3)) (eV 3))) (eC (.int 3))) (eC (.int 2147483353))) (gN 7))
  (sRet (eOp modP (eOp fdivP (eV 7) (eC (.int 32))) (eV 1)))))))))))
theorem ne_nil (ns : List Int) : asB (neP (.list (ns.map .int)) (.list [])) = some (!ns.isEmpty) := by
  show asB (if SeqAt.shaped (.list (ns.map .int)) = true ∧ SeqAt.shaped (.list []) = true then some (.bool (!PyData.eqv (.list (ns.map .int)) (.list []))) else none) = _
  rw [if_pos ⟨shaped_ints ns, by decide⟩, eqv_nil]; rfl
theorem ix_ints {ns : List Int} {a : Int} (h : 0 < ns.length) : ∃ z, ixP (.list (ns.map .int)) (.int (a % ((ns.map PyData.int).length : Int))) = some (.int z) := by
  rw [List.length_map]
  have h0 : 0 ≤ a % (ns.length : Int) := Int.emod_nonneg _ (by omega)
  have h1 : a % (ns.length : Int) < ns.length := Int.emod_lt_of_pos _ (by omega)
  have hj : (a % (ns.length : Int)).toNat < ns.length := by omega
  refine ⟨ns[(a % (ns.length : Int)).toNat], ?_⟩
  have e := atI_nat (xs := ns.map PyData.int) (j := (a % (ns.length : Int)).toNat) (v := .int ns[(a % (ns.length : Int)).toNat]) (by rw [List.getElem?_map, List.getElem?_eq_getElem hj]; rfl)
  rw [show (((a % (ns.length : Int)).toNat : Nat) : Int) = a % (ns.length : Int) by omega] at e
  exact e
theorem draw_ok {ns : List Int} {a l m : Int} (h1 : ns.length ≤ 63) (ha : 0 ≤ a) (hb : a ≤ 1000000) (hl : 0 ≤ l) (hm : 0 < m) (hm2 : m ≤ 1000000) :
    ∃ r a' l' : Int, fnF 8 drawS [.ref 0, .dat (.int m)] [pen ns a l] = some (.dat (.int r), [pen ns a' l']) ∧ 0 ≤ r ∧ r < m ∧ a ≤ a' ∧ a' ≤ a + 1 ∧ 0 ≤ l' := by
  suffices h : Wp (fnF 8 drawS [.ref 0, .dat (.int m)]) [pen ns a l] fun r w' => ∃ r' a' l' : Int, r = .dat (.int r') ∧ w' = [pen ns a' l'] ∧ 0 ≤ r' ∧ r' < m ∧ a ≤ a' ∧ a' ≤ a + 1 ∧ 0 ≤ l' by
    obtain ⟨r, w', e, r', a', l', rfl, rfl, q⟩ := h
    exact ⟨r', a', l', e, q⟩
  apply wp_fn
  show Wp (drawS [some (.ref 0), some (.dat (.int m)), none, none, none, none, none, none]) _ _
  unfold drawS
  repeat (first | refine wp_sSeq.mpr ?_ | refine wp_sSet.mpr ?_ | refine wp_eOp.mpr ?_ | refine wp_eOpB.mpr ?_ | refine wp_eV.mpr ⟨_, rfl, ?_⟩ | refine wp_eC.mpr ?_ | refine wp_eIx.mpr ?_ | refine wp_sIf.mpr ?_ | refine wp_tAn.mpr ?_ | refine wp_tOu.mpr ?_ | refine wp_tNo.mpr ?_ | refine wp_tV.mpr ?_ | refine wp_eCB.mpr ?_ | refine wp_aC.mpr ?_ | refine wp_aN.mpr ?_ | refine wp_vws_cons.mpr ?_ | refine wp_vws_nil.mpr ?_ | refine wp_eLst.mpr ?_ | refine wp_eTup.mpr ?_ | refine wp_eCall.mpr ?_ | refine wp_sRet.mpr ?_ | refine wp_sNil.mpr ?_ | refine wp_sExp.mpr ?_ | refine wp_sPut.mpr ?_ | refine wp_nIx.mpr ?_ | refine wp_penLeft.mpr ?_ | refine wp_penAt.mpr ?_ | refine wp_penCells.mpr ?_ | refine wp_putAt.mpr ?_ | refine wp_putLeft.mpr ?_ | refine ⟨_, rfl, ?_⟩ | refine ⟨rfl, ?_⟩)
  refine ite2 (fun hl0 => ?_) (fun hl0 => ?_)
  · repeat (first | refine wp_sSeq.mpr ?_ | refine wp_sSet.mpr ?_ | refine wp_eOp.mpr ?_ | refine wp_eOpB.mpr ?_ | refine wp_eV.mpr ⟨_, rfl, ?_⟩ | refine wp_eC.mpr ?_ | refine wp_eIx.mpr ?_ | refine wp_sIf.mpr ?_ | refine wp_tAn.mpr ?_ | refine wp_tOu.mpr ?_ | refine wp_tNo.mpr ?_ | refine wp_tV.mpr ?_ | refine wp_eCB.mpr ?_ | refine wp_aC.mpr ?_ | refine wp_aN.mpr ?_ | refine wp_vws_cons.mpr ?_ | refine wp_vws_nil.mpr ?_ | refine wp_eLst.mpr ?_ | refine wp_eTup.mpr ?_ | refine wp_eCall.mpr ?_ | refine wp_sRet.mpr ?_ | refine wp_sNil.mpr ?_ | refine wp_sExp.mpr ?_ | refine wp_sPut.mpr ?_ | refine wp_nIx.mpr ?_ | refine wp_penLeft.mpr ?_ | refine wp_penAt.mpr ?_ | refine wp_penCells.mpr ?_ | refine wp_putAt.mpr ?_ | refine wp_putLeft.mpr ?_ | refine ⟨_, rfl, ?_⟩ | refine ⟨rfl, ?_⟩)
    refine ⟨_, if_pos hm, ?_⟩
    repeat (first | refine wp_sSeq.mpr ?_ | refine wp_sSet.mpr ?_ | refine wp_eOp.mpr ?_ | refine wp_eOpB.mpr ?_ | refine wp_eV.mpr ⟨_, rfl, ?_⟩ | refine wp_eC.mpr ?_ | refine wp_eIx.mpr ?_ | refine wp_sIf.mpr ?_ | refine wp_tAn.mpr ?_ | refine wp_tOu.mpr ?_ | refine wp_tNo.mpr ?_ | refine wp_tV.mpr ?_ | refine wp_eCB.mpr ?_ | refine wp_aC.mpr ?_ | refine wp_aN.mpr ?_ | refine wp_vws_cons.mpr ?_ | refine wp_vws_nil.mpr ?_ | refine wp_eLst.mpr ?_ | refine wp_eTup.mpr ?_ | refine wp_eCall.mpr ?_ | refine wp_sRet.mpr ?_ | refine wp_sNil.mpr ?_ | refine wp_sExp.mpr ?_ | refine wp_sPut.mpr ?_ | refine wp_nIx.mpr ?_ | refine wp_penLeft.mpr ?_ | refine wp_penAt.mpr ?_ | refine wp_penCells.mpr ?_ | refine wp_putAt.mpr ?_ | refine wp_putLeft.mpr ?_ | refine ⟨_, rfl, ?_⟩ | refine ⟨rfl, ?_⟩)
    refine ⟨_, if_pos ⟨hm, by omega⟩, ?_⟩
    repeat (first | refine wp_sSeq.mpr ?_ | refine wp_sSet.mpr ?_ | refine wp_eOp.mpr ?_ | refine wp_eOpB.mpr ?_ | refine wp_eV.mpr ⟨_, rfl, ?_⟩ | refine wp_eC.mpr ?_ | refine wp_eIx.mpr ?_ | refine wp_sIf.mpr ?_ | refine wp_tAn.mpr ?_ | refine wp_tOu.mpr ?_ | refine wp_tNo.mpr ?_ | refine wp_tV.mpr ?_ | refine wp_eCB.mpr ?_ | refine wp_aC.mpr ?_ | refine wp_aN.mpr ?_ | refine wp_vws_cons.mpr ?_ | refine wp_vws_nil.mpr ?_ | refine wp_eLst.mpr ?_ | refine wp_eTup.mpr ?_ | refine wp_eCall.mpr ?_ | refine wp_sRet.mpr ?_ | refine wp_sNil.mpr ?_ | refine wp_sExp.mpr ?_ | refine wp_sPut.mpr ?_ | refine wp_nIx.mpr ?_ | refine wp_penLeft.mpr ?_ | refine wp_penAt.mpr ?_ | refine wp_penCells.mpr ?_ | refine wp_putAt.mpr ?_ | refine wp_putLeft.mpr ?_ | refine ⟨_, rfl, ?_⟩ | refine ⟨rfl, ?_⟩)
    exact ⟨_, a, _, rfl, rfl, Int.emod_nonneg _ (by omega), Int.emod_lt_of_pos _ hm, by omega, by omega, Int.ediv_nonneg hl (by omega)⟩
  · repeat (first | refine wp_sSeq.mpr ?_ | refine wp_sSet.mpr ?_ | refine wp_eOp.mpr ?_ | refine wp_eOpB.mpr ?_ | refine wp_eV.mpr ⟨_, rfl, ?_⟩ | refine wp_eC.mpr ?_ | refine wp_eIx.mpr ?_ | refine wp_sIf.mpr ?_ | refine wp_tAn.mpr ?_ | refine wp_tOu.mpr ?_ | refine wp_tNo.mpr ?_ | refine wp_tV.mpr ?_ | refine wp_eCB.mpr ?_ | refine wp_aC.mpr ?_ | refine wp_aN.mpr ?_ | refine wp_vws_cons.mpr ?_ | refine wp_vws_nil.mpr ?_ | refine wp_eLst.mpr ?_ | refine wp_eTup.mpr ?_ | refine wp_eCall.mpr ?_ | refine wp_sRet.mpr ?_ | refine wp_sNil.mpr ?_ | refine wp_sExp.mpr ?_ | refine wp_sPut.mpr ?_ | refine wp_nIx.mpr ?_ | refine wp_penLeft.mpr ?_ | refine wp_penAt.mpr ?_ | refine wp_penCells.mpr ?_ | refine wp_putAt.mpr ?_ | refine wp_putLeft.mpr ?_ | refine ⟨_, rfl, ?_⟩ | refine ⟨rfl, ?_⟩)
    refine ⟨_, ne_nil ns, ?_⟩
    refine ite2 (fun hns => ?_) (fun hns => ?_)
    · have hpos : 0 < ns.length := by rcases ns with _ | ⟨_, _⟩ <;> simp_all
      repeat (first | refine wp_sSeq.mpr ?_ | refine wp_sSet.mpr ?_ | refine wp_eOp.mpr ?_ | refine wp_eOpB.mpr ?_ | refine wp_eV.mpr ⟨_, rfl, ?_⟩ | refine wp_eC.mpr ?_ | refine wp_eIx.mpr ?_ | refine wp_sIf.mpr ?_ | refine wp_tAn.mpr ?_ | refine wp_tOu.mpr ?_ | refine wp_tNo.mpr ?_ | refine wp_tV.mpr ?_ | refine wp_eCB.mpr ?_ | refine wp_aC.mpr ?_ | refine wp_aN.mpr ?_ | refine wp_vws_cons.mpr ?_ | refine wp_vws_nil.mpr ?_ | refine wp_eLst.mpr ?_ | refine wp_eTup.mpr ?_ | refine wp_eCall.mpr ?_ | refine wp_sRet.mpr ?_ | refine wp_sNil.mpr ?_ | refine wp_sExp.mpr ?_ | refine wp_sPut.mpr ?_ | refine wp_nIx.mpr ?_ | refine wp_penLeft.mpr ?_ | refine wp_penAt.mpr ?_ | refine wp_penCells.mpr ?_ | refine wp_putAt.mpr ?_ | refine wp_putLeft.mpr ?_ | refine ⟨_, rfl, ?_⟩ | refine ⟨rfl, ?_⟩)
      refine ⟨_, if_pos (by rw [List.length_map]; omega), ?_⟩
      repeat (first | refine wp_sSeq.mpr ?_ | refine wp_sSet.mpr ?_ | refine wp_eOp.mpr ?_ | refine wp_eOpB.mpr ?_ | refine wp_eV.mpr ⟨_, rfl, ?_⟩ | refine wp_eC.mpr ?_ | refine wp_eIx.mpr ?_ | refine wp_sIf.mpr ?_ | refine wp_tAn.mpr ?_ | refine wp_tOu.mpr ?_ | refine wp_tNo.mpr ?_ | refine wp_tV.mpr ?_ | refine wp_eCB.mpr ?_ | refine wp_aC.mpr ?_ | refine wp_aN.mpr ?_ | refine wp_vws_cons.mpr ?_ | refine wp_vws_nil.mpr ?_ | refine wp_eLst.mpr ?_ | refine wp_eTup.mpr ?_ | refine wp_eCall.mpr ?_ | refine wp_sRet.mpr ?_ | refine wp_sNil.mpr ?_ | refine wp_sExp.mpr ?_ | refine wp_sPut.mpr ?_ | refine wp_nIx.mpr ?_ | refine wp_penLeft.mpr ?_ | refine wp_penAt.mpr ?_ | refine wp_penCells.mpr ?_ | refine wp_putAt.mpr ?_ | refine wp_putLeft.mpr ?_ | refine ⟨_, rfl, ?_⟩ | refine ⟨rfl, ?_⟩)
      obtain ⟨z, hz⟩ := ix_ints (a := a) hpos
      refine ⟨_, hz, ?_⟩
      repeat (first | refine wp_sSeq.mpr ?_ | refine wp_sSet.mpr ?_ | refine wp_eOp.mpr ?_ | refine wp_eOpB.mpr ?_ | refine wp_eV.mpr ⟨_, rfl, ?_⟩ | refine wp_eC.mpr ?_ | refine wp_eIx.mpr ?_ | refine wp_sIf.mpr ?_ | refine wp_tAn.mpr ?_ | refine wp_tOu.mpr ?_ | refine wp_tNo.mpr ?_ | refine wp_tV.mpr ?_ | refine wp_eCB.mpr ?_ | refine wp_aC.mpr ?_ | refine wp_aN.mpr ?_ | refine wp_vws_cons.mpr ?_ | refine wp_vws_nil.mpr ?_ | refine wp_eLst.mpr ?_ | refine wp_eTup.mpr ?_ | refine wp_eCall.mpr ?_ | refine wp_sRet.mpr ?_ | refine wp_sNil.mpr ?_ | refine wp_sExp.mpr ?_ | refine wp_sPut.mpr ?_ | refine wp_nIx.mpr ?_ | refine wp_penLeft.mpr ?_ | refine wp_penAt.mpr ?_ | refine wp_penCells.mpr ?_ | refine wp_putAt.mpr ?_ | refine wp_putLeft.mpr ?_ | refine ⟨_, rfl, ?_⟩ | refine ⟨rfl, ?_⟩)
      refine ite2 (fun hb1 => ?_) (fun hb1 => ?_)
      · repeat (first | refine wp_sSeq.mpr ?_ | refine wp_sSet.mpr ?_ | refine wp_eOp.mpr ?_ | refine wp_eOpB.mpr ?_ | refine wp_eV.mpr ⟨_, rfl, ?_⟩ | refine wp_eC.mpr ?_ | refine wp_eIx.mpr ?_ | refine wp_sIf.mpr ?_ | refine wp_tAn.mpr ?_ | refine wp_tOu.mpr ?_ | refine wp_tNo.mpr ?_ | refine wp_tV.mpr ?_ | refine wp_eCB.mpr ?_ | refine wp_aC.mpr ?_ | refine wp_aN.mpr ?_ | refine wp_vws_cons.mpr ?_ | refine wp_vws_nil.mpr ?_ | refine wp_eLst.mpr ?_ | refine wp_eTup.mpr ?_ | refine wp_eCall.mpr ?_ | refine wp_sRet.mpr ?_ | refine wp_sNil.mpr ?_ | refine wp_sExp.mpr ?_ | refine wp_sPut.mpr ?_ | refine wp_nIx.mpr ?_ | refine wp_penLeft.mpr ?_ | refine wp_penAt.mpr ?_ | refine wp_penCells.mpr ?_ | refine wp_putAt.mpr ?_ | refine wp_putLeft.mpr ?_ | refine ⟨_, rfl, ?_⟩ | refine ⟨rfl, ?_⟩)
        refine ite2 (fun hc => ?_) (fun hc => ?_)
        · repeat (first | refine wp_sSeq.mpr ?_ | refine wp_sSet.mpr ?_ | refine wp_eOp.mpr ?_ | refine wp_eOpB.mpr ?_ | refine wp_eV.mpr ⟨_, rfl, ?_⟩ | refine wp_eC.mpr ?_ | refine wp_eIx.mpr ?_ | refine wp_sIf.mpr ?_ | refine wp_tAn.mpr ?_ | refine wp_tOu.mpr ?_ | refine wp_tNo.mpr ?_ | refine wp_tV.mpr ?_ | refine wp_eCB.mpr ?_ | refine wp_aC.mpr ?_ | refine wp_aN.mpr ?_ | refine wp_vws_cons.mpr ?_ | refine wp_vws_nil.mpr ?_ | refine wp_eLst.mpr ?_ | refine wp_eTup.mpr ?_ | refine wp_eCall.mpr ?_ | refine wp_sRet.mpr ?_ | refine wp_sNil.mpr ?_ | refine wp_sExp.mpr ?_ | refine wp_sPut.mpr ?_ | refine wp_nIx.mpr ?_ | refine wp_penLeft.mpr ?_ | refine wp_penAt.mpr ?_ | refine wp_penCells.mpr ?_ | refine wp_putAt.mpr ?_ | refine wp_putLeft.mpr ?_ | refine ⟨_, rfl, ?_⟩ | refine ⟨rfl, ?_⟩)
          refine ⟨_, if_pos ⟨hm, by omega⟩, ?_⟩
          repeat (first | refine wp_sSeq.mpr ?_ | refine wp_sSet.mpr ?_ | refine wp_eOp.mpr ?_ | refine wp_eOpB.mpr ?_ | refine wp_eV.mpr ⟨_, rfl, ?_⟩ | refine wp_eC.mpr ?_ | refine wp_eIx.mpr ?_ | refine wp_sIf.mpr ?_ | refine wp_tAn.mpr ?_ | refine wp_tOu.mpr ?_ | refine wp_tNo.mpr ?_ | refine wp_tV.mpr ?_ | refine wp_eCB.mpr ?_ | refine wp_aC.mpr ?_ | refine wp_aN.mpr ?_ | refine wp_vws_cons.mpr ?_ | refine wp_vws_nil.mpr ?_ | refine wp_eLst.mpr ?_ | refine wp_eTup.mpr ?_ | refine wp_eCall.mpr ?_ | refine wp_sRet.mpr ?_ | refine wp_sNil.mpr ?_ | refine wp_sExp.mpr ?_ | refine wp_sPut.mpr ?_ | refine wp_nIx.mpr ?_ | refine wp_penLeft.mpr ?_ | refine wp_penAt.mpr ?_ | refine wp_penCells.mpr ?_ | refine wp_putAt.mpr ?_ | refine wp_putLeft.mpr ?_ | refine ⟨_, rfl, ?_⟩ | refine ⟨rfl, ?_⟩)
          refine ⟨_, if_pos hm, ?_⟩
          have hz : 0 ≤ 2 * (if z < 0 then -z else z) + (if decide (z < 0) = true then 1 else 0) := by
            split <;> split <;> omega
          exact ⟨_, a + 1, _, rfl, rfl, Int.emod_nonneg _ (by omega), Int.emod_lt_of_pos _ hm, by omega, by omega, Int.ediv_nonneg hz (by omega)⟩
        · repeat (first | refine wp_sSeq.mpr ?_ | refine wp_sSet.mpr ?_ | refine wp_eOp.mpr ?_ | refine wp_eOpB.mpr ?_ | refine wp_eV.mpr ⟨_, rfl, ?_⟩ | refine wp_eC.mpr ?_ | refine wp_eIx.mpr ?_ | refine wp_sIf.mpr ?_ | refine wp_tAn.mpr ?_ | refine wp_tOu.mpr ?_ | refine wp_tNo.mpr ?_ | refine wp_tV.mpr ?_ | refine wp_eCB.mpr ?_ | refine wp_aC.mpr ?_ | refine wp_aN.mpr ?_ | refine wp_vws_cons.mpr ?_ | refine wp_vws_nil.mpr ?_ | refine wp_eLst.mpr ?_ | refine wp_eTup.mpr ?_ | refine wp_eCall.mpr ?_ | refine wp_sRet.mpr ?_ | refine wp_sNil.mpr ?_ | refine wp_sExp.mpr ?_ | refine wp_sPut.mpr ?_ | refine wp_nIx.mpr ?_ | refine wp_penLeft.mpr ?_ | refine wp_penAt.mpr ?_ | refine wp_penCells.mpr ?_ | refine wp_putAt.mpr ?_ | refine wp_putLeft.mpr ?_ | refine ⟨_, rfl, ?_⟩ | refine ⟨rfl, ?_⟩)
          have hx0 : 0 ≤ z % 2147483543 := Int.emod_nonneg _ (by decide)
          have hx1 : z % 2147483543 < 2147483543 := Int.emod_lt_of_pos _ (by decide)
          refine ⟨_, if_pos ⟨by decide, by decide, by omega⟩, ?_⟩
          repeat (first | refine wp_sSeq.mpr ?_ | refine wp_sSet.mpr ?_ | refine wp_eOp.mpr ?_ | refine wp_eOpB.mpr ?_ | refine wp_eV.mpr ⟨_, rfl, ?_⟩ | refine wp_eC.mpr ?_ | refine wp_eIx.mpr ?_ | refine wp_sIf.mpr ?_ | refine wp_tAn.mpr ?_ | refine wp_tOu.mpr ?_ | refine wp_tNo.mpr ?_ | refine wp_tV.mpr ?_ | refine wp_eCB.mpr ?_ | refine wp_aC.mpr ?_ | refine wp_aN.mpr ?_ | refine wp_vws_cons.mpr ?_ | refine wp_vws_nil.mpr ?_ | refine wp_eLst.mpr ?_ | refine wp_eTup.mpr ?_ | refine wp_eCall.mpr ?_ | refine wp_sRet.mpr ?_ | refine wp_sNil.mpr ?_ | refine wp_sExp.mpr ?_ | refine wp_sPut.mpr ?_ | refine wp_nIx.mpr ?_ | refine wp_penLeft.mpr ?_ | refine wp_penAt.mpr ?_ | refine wp_penCells.mpr ?_ | refine wp_putAt.mpr ?_ | refine wp_putLeft.mpr ?_ | refine ⟨_, rfl, ?_⟩ | refine ⟨rfl, ?_⟩)
          have ho0 : 0 ≤ (z % 2147483543 + 69001 * a + 83) ^ (Int.toNat 5) % 2147483647 := Int.emod_nonneg _ (by decide)
          have ho1 : (z % 2147483543 + 69001 * a + 83) ^ (Int.toNat 5) % 2147483647 < 2147483647 := Int.emod_lt_of_pos _ (by decide)
          generalize (z % 2147483543 + 69001 * a + 83) ^ (Int.toNat 5) % 2147483647 = one at ho0 ho1 ⊢
          have hm1 := mulB ho0 (show one ≤ 2147483647 by omega) (show 0 ≤ a + 65551 by omega) (show a + 65551 ≤ 1100000 by omega)
          have hm3 := mulB (show 0 ≤ 86011 * a by omega) (show 86011 * a ≤ 86011000000 by omega) ha hb
          refine ⟨_, if_pos (by unfold smallI; simp only [Bool.or_eq_true, Bool.and_eq_true, decide_eq_true_eq]; left; omega), ?_⟩
          repeat (first | refine wp_sSeq.mpr ?_ | refine wp_sSet.mpr ?_ | refine wp_eOp.mpr ?_ | refine wp_eOpB.mpr ?_ | refine wp_eV.mpr ⟨_, rfl, ?_⟩ | refine wp_eC.mpr ?_ | refine wp_eIx.mpr ?_ | refine wp_sIf.mpr ?_ | refine wp_tAn.mpr ?_ | refine wp_tOu.mpr ?_ | refine wp_tNo.mpr ?_ | refine wp_tV.mpr ?_ | refine wp_eCB.mpr ?_ | refine wp_aC.mpr ?_ | refine wp_aN.mpr ?_ | refine wp_vws_cons.mpr ?_ | refine wp_vws_nil.mpr ?_ | refine wp_eLst.mpr ?_ | refine wp_eTup.mpr ?_ | refine wp_eCall.mpr ?_ | refine wp_sRet.mpr ?_ | refine wp_sNil.mpr ?_ | refine wp_sExp.mpr ?_ | refine wp_sPut.mpr ?_ | refine wp_nIx.mpr ?_ | refine wp_penLeft.mpr ?_ | refine wp_penAt.mpr ?_ | refine wp_penCells.mpr ?_ | refine wp_putAt.mpr ?_ | refine wp_putLeft.mpr ?_ | refine ⟨_, rfl, ?_⟩ | refine ⟨rfl, ?_⟩)
          refine ⟨_, if_pos (by unfold smallI; simp only [Bool.or_eq_true, Bool.and_eq_true, decide_eq_true_eq]; left; omega), ?_⟩
          repeat (first | refine wp_sSeq.mpr ?_ | refine wp_sSet.mpr ?_ | refine wp_eOp.mpr ?_ | refine wp_eOpB.mpr ?_ | refine wp_eV.mpr ⟨_, rfl, ?_⟩ | refine wp_eC.mpr ?_ | refine wp_eIx.mpr ?_ | refine wp_sIf.mpr ?_ | refine wp_tAn.mpr ?_ | refine wp_tOu.mpr ?_ | refine wp_tNo.mpr ?_ | refine wp_tV.mpr ?_ | refine wp_eCB.mpr ?_ | refine wp_aC.mpr ?_ | refine wp_aN.mpr ?_ | refine wp_vws_cons.mpr ?_ | refine wp_vws_nil.mpr ?_ | refine wp_eLst.mpr ?_ | refine wp_eTup.mpr ?_ | refine wp_eCall.mpr ?_ | refine wp_sRet.mpr ?_ | refine wp_sNil.mpr ?_ | refine wp_sExp.mpr ?_ | refine wp_sPut.mpr ?_ | refine wp_nIx.mpr ?_ | refine wp_penLeft.mpr ?_ | refine wp_penAt.mpr ?_ | refine wp_penCells.mpr ?_ | refine wp_putAt.mpr ?_ | refine wp_putLeft.mpr ?_ | refine ⟨_, rfl, ?_⟩ | refine ⟨rfl, ?_⟩)
          refine ⟨_, if_pos ⟨by decide, by decide, by omega⟩, ?_⟩
          repeat (first | refine wp_sSeq.mpr ?_ | refine wp_sSet.mpr ?_ | refine wp_eOp.mpr ?_ | refine wp_eOpB.mpr ?_ | refine wp_eV.mpr ⟨_, rfl, ?_⟩ | refine wp_eC.mpr ?_ | refine wp_eIx.mpr ?_ | refine wp_sIf.mpr ?_ | refine wp_tAn.mpr ?_ | refine wp_tOu.mpr ?_ | refine wp_tNo.mpr ?_ | refine wp_tV.mpr ?_ | refine wp_eCB.mpr ?_ | refine wp_aC.mpr ?_ | refine wp_aN.mpr ?_ | refine wp_vws_cons.mpr ?_ | refine wp_vws_nil.mpr ?_ | refine wp_eLst.mpr ?_ | refine wp_eTup.mpr ?_ | refine wp_eCall.mpr ?_ | refine wp_sRet.mpr ?_ | refine wp_sNil.mpr ?_ | refine wp_sExp.mpr ?_ | refine wp_sPut.mpr ?_ | refine wp_nIx.mpr ?_ | refine wp_penLeft.mpr ?_ | refine wp_penAt.mpr ?_ | refine wp_penCells.mpr ?_ | refine wp_putAt.mpr ?_ | refine wp_putLeft.mpr ?_ | refine ⟨_, rfl, ?_⟩ | refine ⟨rfl, ?_⟩)
          refine ⟨_, if_pos hm, ?_⟩
          exact ⟨_, a + 1, l, rfl, rfl, Int.emod_nonneg _ (by omega), Int.emod_lt_of_pos _ hm, by omega, by omega, hl⟩
      · repeat (first | refine wp_sSeq.mpr ?_ | refine wp_sSet.mpr ?_ | refine wp_eOp.mpr ?_ | refine wp_eOpB.mpr ?_ | refine wp_eV.mpr ⟨_, rfl, ?_⟩ | refine wp_eC.mpr ?_ | refine wp_eIx.mpr ?_ | refine wp_sIf.mpr ?_ | refine wp_tAn.mpr ?_ | refine wp_tOu.mpr ?_ | refine wp_tNo.mpr ?_ | refine wp_tV.mpr ?_ | refine wp_eCB.mpr ?_ | refine wp_aC.mpr ?_ | refine wp_aN.mpr ?_ | refine wp_vws_cons.mpr ?_ | refine wp_vws_nil.mpr ?_ | refine wp_eLst.mpr ?_ | refine wp_eTup.mpr ?_ | refine wp_eCall.mpr ?_ | refine wp_sRet.mpr ?_ | refine wp_sNil.mpr ?_ | refine wp_sExp.mpr ?_ | refine wp_sPut.mpr ?_ | refine wp_nIx.mpr ?_ | refine wp_penLeft.mpr ?_ | refine wp_penAt.mpr ?_ | refine wp_penCells.mpr ?_ | refine wp_putAt.mpr ?_ | refine wp_putLeft.mpr ?_ | refine ⟨_, rfl, ?_⟩ | refine ⟨rfl, ?_⟩)
        have hx0 : 0 ≤ z % 2147483543 := Int.emod_nonneg _ (by decide)
        have hx1 : z % 2147483543 < 2147483543 := Int.emod_lt_of_pos _ (by decide)
        refine ⟨_, if_pos ⟨by decide, by decide, by omega⟩, ?_⟩
        repeat (first | refine wp_sSeq.mpr ?_ | refine wp_sSet.mpr ?_ | refine wp_eOp.mpr ?_ | refine wp_eOpB.mpr ?_ | refine wp_eV.mpr ⟨_, rfl, ?_⟩ | refine wp_eC.mpr ?_ | refine wp_eIx.mpr ?_ | refine wp_sIf.mpr ?_ | refine wp_tAn.mpr ?_ | refine wp_tOu.mpr ?_ | refine wp_tNo.mpr ?_ | refine wp_tV.mpr ?_ | refine wp_eCB.mpr ?_ | refine wp_aC.mpr ?_ | refine wp_aN.mpr ?_ | refine wp_vws_cons.mpr ?_ | refine wp_vws_nil.mpr ?_ | refine wp_eLst.mpr ?_ | refine wp_eTup.mpr ?_ | refine wp_eCall.mpr ?_ | refine wp_sRet.mpr ?_ | refine wp_sNil.mpr ?_ | refine wp_sExp.mpr ?_ | refine wp_sPut.mpr ?_ | refine wp_nIx.mpr ?_ | refine wp_penLeft.mpr ?_ | refine wp_penAt.mpr ?_ | refine wp_penCells.mpr ?_ | refine wp_putAt.mpr ?_ | refine wp_putLeft.mpr ?_ | refine ⟨_, rfl, ?_⟩ | refine ⟨rfl, ?_⟩)
        have ho0 : 0 ≤ (z % 2147483543 + 69001 * a + 83) ^ (Int.toNat 5) % 2147483647 := Int.emod_nonneg _ (by decide)
        have ho1 : (z % 2147483543 + 69001 * a + 83) ^ (Int.toNat 5) % 2147483647 < 2147483647 := Int.emod_lt_of_pos _ (by decide)
        generalize (z % 2147483543 + 69001 * a + 83) ^ (Int.toNat 5) % 2147483647 = one at ho0 ho1 ⊢
        have hm1 := mulB ho0 (show one ≤ 2147483647 by omega) (show 0 ≤ a + 65551 by omega) (show a + 65551 ≤ 1100000 by omega)
        have hm3 := mulB (show 0 ≤ 86011 * a by omega) (show 86011 * a ≤ 86011000000 by omega) ha hb
        refine ⟨_, if_pos (by unfold smallI; simp only [Bool.or_eq_true, Bool.and_eq_true, decide_eq_true_eq]; left; omega), ?_⟩
        repeat (first | refine wp_sSeq.mpr ?_ | refine wp_sSet.mpr ?_ | refine wp_eOp.mpr ?_ | refine wp_eOpB.mpr ?_ | refine wp_eV.mpr ⟨_, rfl, ?_⟩ | refine wp_eC.mpr ?_ | refine wp_eIx.mpr ?_ | refine wp_sIf.mpr ?_ | refine wp_tAn.mpr ?_ | refine wp_tOu.mpr ?_ | refine wp_tNo.mpr ?_ | refine wp_tV.mpr ?_ | refine wp_eCB.mpr ?_ | refine wp_aC.mpr ?_ | refine wp_aN.mpr ?_ | refine wp_vws_cons.mpr ?_ | refine wp_vws_nil.mpr ?_ | refine wp_eLst.mpr ?_ | refine wp_eTup.mpr ?_ | refine wp_eCall.mpr ?_ | refine wp_sRet.mpr ?_ | refine wp_sNil.mpr ?_ | refine wp_sExp.mpr ?_ | refine wp_sPut.mpr ?_ | refine wp_nIx.mpr ?_ | refine wp_penLeft.mpr ?_ | refine wp_penAt.mpr ?_ | refine wp_penCells.mpr ?_ | refine wp_putAt.mpr ?_ | refine wp_putLeft.mpr ?_ | refine ⟨_, rfl, ?_⟩ | refine ⟨rfl, ?_⟩)
        refine ⟨_, if_pos (by unfold smallI; simp only [Bool.or_eq_true, Bool.and_eq_true, decide_eq_true_eq]; left; omega), ?_⟩
        repeat (first | refine wp_sSeq.mpr ?_ | refine wp_sSet.mpr ?_ | refine wp_eOp.mpr ?_ | refine wp_eOpB.mpr ?_ | refine wp_eV.mpr ⟨_, rfl, ?_⟩ | refine wp_eC.mpr ?_ | refine wp_eIx.mpr ?_ | refine wp_sIf.mpr ?_ | refine wp_tAn.mpr ?_ | refine wp_tOu.mpr ?_ | refine wp_tNo.mpr ?_ | refine wp_tV.mpr ?_ | refine wp_eCB.mpr ?_ | refine wp_aC.mpr ?_ | refine wp_aN.mpr ?_ | refine wp_vws_cons.mpr ?_ | refine wp_vws_nil.mpr ?_ | refine wp_eLst.mpr ?_ | refine wp_eTup.mpr ?_ | refine wp_eCall.mpr ?_ | refine wp_sRet.mpr ?_ | refine wp_sNil.mpr ?_ | refine wp_sExp.mpr ?_ | refine wp_sPut.mpr ?_ | refine wp_nIx.mpr ?_ | refine wp_penLeft.mpr ?_ | refine wp_penAt.mpr ?_ | refine wp_penCells.mpr ?_ | refine wp_putAt.mpr ?_ | refine wp_putLeft.mpr ?_ | refine ⟨_, rfl, ?_⟩ | refine ⟨rfl, ?_⟩)
        refine ⟨_, if_pos ⟨by decide, by decide, by omega⟩, ?_⟩
        repeat (first | refine wp_sSeq.mpr ?_ | refine wp_sSet.mpr ?_ | refine wp_eOp.mpr ?_ | refine wp_eOpB.mpr ?_ | refine wp_eV.mpr ⟨_, rfl, ?_⟩ | refine wp_eC.mpr ?_ | refine wp_eIx.mpr ?_ | refine wp_sIf.mpr ?_ | refine wp_tAn.mpr ?_ | refine wp_tOu.mpr ?_ | refine wp_tNo.mpr ?_ | refine wp_tV.mpr ?_ | refine wp_eCB.mpr ?_ | refine wp_aC.mpr ?_ | refine wp_aN.mpr ?_ | refine wp_vws_cons.mpr ?_ | refine wp_vws_nil.mpr ?_ | refine wp_eLst.mpr ?_ | refine wp_eTup.mpr ?_ | refine wp_eCall.mpr ?_ | refine wp_sRet.mpr ?_ | refine wp_sNil.mpr ?_ | refine wp_sExp.mpr ?_ | refine wp_sPut.mpr ?_ | refine wp_nIx.mpr ?_ | refine wp_penLeft.mpr ?_ | refine wp_penAt.mpr ?_ | refine wp_penCells.mpr ?_ | refine wp_putAt.mpr ?_ | refine wp_putLeft.mpr ?_ | refine ⟨_, rfl, ?_⟩ | refine ⟨rfl, ?_⟩)
        refine ⟨_, if_pos hm, ?_⟩
        exact ⟨_, a + 1, l, rfl, rfl, Int.emod_nonneg _ (by omega), Int.emod_lt_of_pos _ hm, by omega, by omega, hl⟩
    · repeat (first | refine wp_sSeq.mpr ?_ | refine wp_sSet.mpr ?_ | refine wp_eOp.mpr ?_ | refine wp_eOpB.mpr ?_ | refine wp_eV.mpr ⟨_, rfl, ?_⟩ | refine wp_eC.mpr ?_ | refine wp_eIx.mpr ?_ | refine wp_sIf.mpr ?_ | refine wp_tAn.mpr ?_ | refine wp_tOu.mpr ?_ | refine wp_tNo.mpr ?_ | refine wp_tV.mpr ?_ | refine wp_eCB.mpr ?_ | refine wp_aC.mpr ?_ | refine wp_aN.mpr ?_ | refine wp_vws_cons.mpr ?_ | refine wp_vws_nil.mpr ?_ | refine wp_eLst.mpr ?_ | refine wp_eTup.mpr ?_ | refine wp_eCall.mpr ?_ | refine wp_sRet.mpr ?_ | refine wp_sNil.mpr ?_ | refine wp_sExp.mpr ?_ | refine wp_sPut.mpr ?_ | refine wp_nIx.mpr ?_ | refine wp_penLeft.mpr ?_ | refine wp_penAt.mpr ?_ | refine wp_penCells.mpr ?_ | refine wp_putAt.mpr ?_ | refine wp_putLeft.mpr ?_ | refine ⟨_, rfl, ?_⟩ | refine ⟨rfl, ?_⟩)
      refine ite2 (fun hb1 => ?_) (fun hb1 => ?_)
      · repeat (first | refine wp_sSeq.mpr ?_ | refine wp_sSet.mpr ?_ | refine wp_eOp.mpr ?_ | refine wp_eOpB.mpr ?_ | refine wp_eV.mpr ⟨_, rfl, ?_⟩ | refine wp_eC.mpr ?_ | refine wp_eIx.mpr ?_ | refine wp_sIf.mpr ?_ | refine wp_tAn.mpr ?_ | refine wp_tOu.mpr ?_ | refine wp_tNo.mpr ?_ | refine wp_tV.mpr ?_ | refine wp_eCB.mpr ?_ | refine wp_aC.mpr ?_ | refine wp_aN.mpr ?_ | refine wp_vws_cons.mpr ?_ | refine wp_vws_nil.mpr ?_ | refine wp_eLst.mpr ?_ | refine wp_eTup.mpr ?_ | refine wp_eCall.mpr ?_ | refine wp_sRet.mpr ?_ | refine wp_sNil.mpr ?_ | refine wp_sExp.mpr ?_ | refine wp_sPut.mpr ?_ | refine wp_nIx.mpr ?_ | refine wp_penLeft.mpr ?_ | refine wp_penAt.mpr ?_ | refine wp_penCells.mpr ?_ | refine wp_putAt.mpr ?_ | refine wp_putLeft.mpr ?_ | refine ⟨_, rfl, ?_⟩ | refine ⟨rfl, ?_⟩)
        refine ite2 (fun hc => ?_) (fun hc => ?_)
        · repeat (first | refine wp_sSeq.mpr ?_ | refine wp_sSet.mpr ?_ | refine wp_eOp.mpr ?_ | refine wp_eOpB.mpr ?_ | refine wp_eV.mpr ⟨_, rfl, ?_⟩ | refine wp_eC.mpr ?_ | refine wp_eIx.mpr ?_ | refine wp_sIf.mpr ?_ | refine wp_tAn.mpr ?_ | refine wp_tOu.mpr ?_ | refine wp_tNo.mpr ?_ | refine wp_tV.mpr ?_ | refine wp_eCB.mpr ?_ | refine wp_aC.mpr ?_ | refine wp_aN.mpr ?_ | refine wp_vws_cons.mpr ?_ | refine wp_vws_nil.mpr ?_ | refine wp_eLst.mpr ?_ | refine wp_eTup.mpr ?_ | refine wp_eCall.mpr ?_ | refine wp_sRet.mpr ?_ | refine wp_sNil.mpr ?_ | refine wp_sExp.mpr ?_ | refine wp_sPut.mpr ?_ | refine wp_nIx.mpr ?_ | refine wp_penLeft.mpr ?_ | refine wp_penAt.mpr ?_ | refine wp_penCells.mpr ?_ | refine wp_putAt.mpr ?_ | refine wp_putLeft.mpr ?_ | refine ⟨_, rfl, ?_⟩ | refine ⟨rfl, ?_⟩)
          refine ⟨_, if_pos ⟨hm, by omega⟩, ?_⟩
          repeat (first | refine wp_sSeq.mpr ?_ | refine wp_sSet.mpr ?_ | refine wp_eOp.mpr ?_ | refine wp_eOpB.mpr ?_ | refine wp_eV.mpr ⟨_, rfl, ?_⟩ | refine wp_eC.mpr ?_ | refine wp_eIx.mpr ?_ | refine wp_sIf.mpr ?_ | refine wp_tAn.mpr ?_ | refine wp_tOu.mpr ?_ | refine wp_tNo.mpr ?_ | refine wp_tV.mpr ?_ | refine wp_eCB.mpr ?_ | refine wp_aC.mpr ?_ | refine wp_aN.mpr ?_ | refine wp_vws_cons.mpr ?_ | refine wp_vws_nil.mpr ?_ | refine wp_eLst.mpr ?_ | refine wp_eTup.mpr ?_ | refine wp_eCall.mpr ?_ | refine wp_sRet.mpr ?_ | refine wp_sNil.mpr ?_ | refine wp_sExp.mpr ?_ | refine wp_sPut.mpr ?_ | refine wp_nIx.mpr ?_ | refine wp_penLeft.mpr ?_ | refine wp_penAt.mpr ?_ | refine wp_penCells.mpr ?_ | refine wp_putAt.mpr ?_ | refine wp_putLeft.mpr ?_ | refine ⟨_, rfl, ?_⟩ | refine ⟨rfl, ?_⟩)
          refine ⟨_, if_pos hm, ?_⟩
          have hz : 0 ≤ 2 * (if (1861 * a + 809) < 0 then -(1861 * a + 809) else (1861 * a + 809)) + (if decide ((1861 * a + 809) < 0) = true then 1 else 0) := by
            split <;> split <;> omega
          exact ⟨_, a + 1, _, rfl, rfl, Int.emod_nonneg _ (by omega), Int.emod_lt_of_pos _ hm, by omega, by omega, Int.ediv_nonneg hz (by omega)⟩
        · repeat (first | refine wp_sSeq.mpr ?_ | refine wp_sSet.mpr ?_ | refine wp_eOp.mpr ?_ | refine wp_eOpB.mpr ?_ | refine wp_eV.mpr ⟨_, rfl, ?_⟩ | refine wp_eC.mpr ?_ | refine wp_eIx.mpr ?_ | refine wp_sIf.mpr ?_ | refine wp_tAn.mpr ?_ | refine wp_tOu.mpr ?_ | refine wp_tNo.mpr ?_ | refine wp_tV.mpr ?_ | refine wp_eCB.mpr ?_ | refine wp_aC.mpr ?_ | refine wp_aN.mpr ?_ | refine wp_vws_cons.mpr ?_ | refine wp_vws_nil.mpr ?_ | refine wp_eLst.mpr ?_ | refine wp_eTup.mpr ?_ | refine wp_eCall.mpr ?_ | refine wp_sRet.mpr ?_ | refine wp_sNil.mpr ?_ | refine wp_sExp.mpr ?_ | refine wp_sPut.mpr ?_ | refine wp_nIx.mpr ?_ | refine wp_penLeft.mpr ?_ | refine wp_penAt.mpr ?_ | refine wp_penCells.mpr ?_ | refine wp_putAt.mpr ?_ | refine wp_putLeft.mpr ?_ | refine ⟨_, rfl, ?_⟩ | refine ⟨rfl, ?_⟩)
          have hx0 : 0 ≤ (1861 * a + 809) % 2147483543 := Int.emod_nonneg _ (by decide)
          have hx1 : (1861 * a + 809) % 2147483543 < 2147483543 := Int.emod_lt_of_pos _ (by decide)
          refine ⟨_, if_pos ⟨by decide, by decide, by omega⟩, ?_⟩
          repeat (first | refine wp_sSeq.mpr ?_ | refine wp_sSet.mpr ?_ | refine wp_eOp.mpr ?_ | refine wp_eOpB.mpr ?_ | refine wp_eV.mpr ⟨_, rfl, ?_⟩ | refine wp_eC.mpr ?_ | refine wp_eIx.mpr ?_ | refine wp_sIf.mpr ?_ | refine wp_tAn.mpr ?_ | refine wp_tOu.mpr ?_ | refine wp_tNo.mpr ?_ | refine wp_tV.mpr ?_ | refine wp_eCB.mpr ?_ | refine wp_aC.mpr ?_ | refine wp_aN.mpr ?_ | refine wp_vws_cons.mpr ?_ | refine wp_vws_nil.mpr ?_ | refine wp_eLst.mpr ?_ | refine wp_eTup.mpr ?_ | refine wp_eCall.mpr ?_ | refine wp_sRet.mpr ?_ | refine wp_sNil.mpr ?_ | refine wp_sExp.mpr ?_ | refine wp_sPut.mpr ?_ | refine wp_nIx.mpr ?_ | refine wp_penLeft.mpr ?_ | refine wp_penAt.mpr ?_ | refine wp_penCells.mpr ?_ | refine wp_putAt.mpr ?_ | refine wp_putLeft.mpr ?_ | refine ⟨_, rfl, ?_⟩ | refine ⟨rfl, ?_⟩)
          have ho0 : 0 ≤ ((1861 * a + 809) % 2147483543 + 69001 * a + 83) ^ (Int.toNat 5) % 2147483647 := Int.emod_nonneg _ (by decide)
          have ho1 : ((1861 * a + 809) % 2147483543 + 69001 * a + 83) ^ (Int.toNat 5) % 2147483647 < 2147483647 := Int.emod_lt_of_pos _ (by decide)
          generalize ((1861 * a + 809) % 2147483543 + 69001 * a + 83) ^ (Int.toNat 5) % 2147483647 = one at ho0 ho1 ⊢
          have hm1 := mulB ho0 (show one ≤ 2147483647 by omega) (show 0 ≤ a + 65551 by omega) (show a + 65551 ≤ 1100000 by omega)
          have hm3 := mulB (show 0 ≤ 86011 * a by omega) (show 86011 * a ≤ 86011000000 by omega) ha hb
          refine ⟨_, if_pos (by unfold smallI; simp only [Bool.or_eq_true, Bool.and_eq_true, decide_eq_true_eq]; left; omega), ?_⟩
          repeat (first | refine wp_sSeq.mpr ?_ | refine wp_sSet.mpr ?_ | refine wp_eOp.mpr ?_ | refine wp_eOpB.mpr ?_ | refine wp_eV.mpr ⟨_, rfl, ?_⟩ | refine wp_eC.mpr ?_ | refine wp_eIx.mpr ?_ | refine wp_sIf.mpr ?_ | refine wp_tAn.mpr ?_ | refine wp_tOu.mpr ?_ | refine wp_tNo.mpr ?_ | refine wp_tV.mpr ?_ | refine wp_eCB.mpr ?_ | refine wp_aC.mpr ?_ | refine wp_aN.mpr ?_ | refine wp_vws_cons.mpr ?_ | refine wp_vws_nil.mpr ?_ | refine wp_eLst.mpr ?_ | refine wp_eTup.mpr ?_ | refine wp_eCall.mpr ?_ | refine wp_sRet.mpr ?_ | refine wp_sNil.mpr ?_ | refine wp_sExp.mpr ?_ | refine wp_sPut.mpr ?_ | refine wp_nIx.mpr ?_ | refine wp_penLeft.mpr ?_ | refine wp_penAt.mpr ?_ | refine wp_penCells.mpr ?_ | refine wp_putAt.mpr ?_ | refine wp_putLeft.mpr ?_ | refine ⟨_, rfl, ?_⟩ | refine ⟨rfl, ?_⟩)
          refine ⟨_, if_pos (by unfold smallI; simp only [Bool.or_eq_true, Bool.and_eq_true, decide_eq_true_eq]; left; omega), ?_⟩
          repeat (first | refine wp_sSeq.mpr ?_ | refine wp_sSet.mpr ?_ | refine wp_eOp.mpr ?_ | refine wp_eOpB.mpr ?_ | refine wp_eV.mpr ⟨_, rfl, ?_⟩ | refine wp_eC.mpr ?_ | refine wp_eIx.mpr ?_ | refine wp_sIf.mpr ?_ | refine wp_tAn.mpr ?_ | refine wp_tOu.mpr ?_ | refine wp_tNo.mpr ?_ | refine wp_tV.mpr ?_ | refine wp_eCB.mpr ?_ | refine wp_aC.mpr ?_ | refine wp_aN.mpr ?_ | refine wp_vws_cons.mpr ?_ | refine wp_vws_nil.mpr ?_ | refine wp_eLst.mpr ?_ | refine wp_eTup.mpr ?_ | refine wp_eCall.mpr ?_ | refine wp_sRet.mpr ?_ | refine wp_sNil.mpr ?_ | refine wp_sExp.mpr ?_ | refine wp_sPut.mpr ?_ | refine wp_nIx.mpr ?_ | refine wp_penLeft.mpr ?_ | refine wp_penAt.mpr ?_ | refine wp_penCells.mpr ?_ | refine wp_putAt.mpr ?_ | refine wp_putLeft.mpr ?_ | refine ⟨_, rfl, ?_⟩ | refine ⟨rfl, ?_⟩)
          refine ⟨_, if_pos ⟨by decide, by decide, by omega⟩, ?_⟩
          repeat (first | refine wp_sSeq.mpr ?_ | refine wp_sSet.mpr ?_ | refine wp_eOp.mpr ?_ | refine wp_eOpB.mpr ?_ | refine wp_eV.mpr ⟨_, rfl, ?_⟩ | refine wp_eC.mpr ?_ | refine wp_eIx.mpr ?_ | refine wp_sIf.mpr ?_ | refine wp_tAn.mpr ?_ | refine wp_tOu.mpr ?_ | refine wp_tNo.mpr ?_ | refine wp_tV.mpr ?_ | refine wp_eCB.mpr ?_ | refine wp_aC.mpr ?_ | refine wp_aN.mpr ?_ | refine wp_vws_cons.mpr ?_ | refine wp_vws_nil.mpr ?_ | refine wp_eLst.mpr ?_ | refine wp_eTup.mpr ?_ | refine wp_eCall.mpr ?_ | refine wp_sRet.mpr ?_ | refine wp_sNil.mpr ?_ | refine wp_sExp.mpr ?_ | refine wp_sPut.mpr ?_ | refine wp_nIx.mpr ?_ | refine wp_penLeft.mpr ?_ | refine wp_penAt.mpr ?_ | refine wp_penCells.mpr ?_ | refine wp_putAt.mpr ?_ | refine wp_putLeft.mpr ?_ | refine ⟨_, rfl, ?_⟩ | refine ⟨rfl, ?_⟩)
          refine ⟨_, if_pos hm, ?_⟩
          exact ⟨_, a + 1, l, rfl, rfl, Int.emod_nonneg _ (by omega), Int.emod_lt_of_pos _ hm, by omega, by omega, hl⟩
      · repeat (first | refine wp_sSeq.mpr ?_ | refine wp_sSet.mpr ?_ | refine wp_eOp.mpr ?_ | refine wp_eOpB.mpr ?_ | refine wp_eV.mpr ⟨_, rfl, ?_⟩ | refine wp_eC.mpr ?_ | refine wp_eIx.mpr ?_ | refine wp_sIf.mpr ?_ | refine wp_tAn.mpr ?_ | refine wp_tOu.mpr ?_ | refine wp_tNo.mpr ?_ | refine wp_tV.mpr ?_ | refine wp_eCB.mpr ?_ | refine wp_aC.mpr ?_ | refine wp_aN.mpr ?_ | refine wp_vws_cons.mpr ?_ | refine wp_vws_nil.mpr ?_ | refine wp_eLst.mpr ?_ | refine wp_eTup.mpr ?_ | refine wp_eCall.mpr ?_ | refine wp_sRet.mpr ?_ | refine wp_sNil.mpr ?_ | refine wp_sExp.mpr ?_ | refine wp_sPut.mpr ?_ | refine wp_nIx.mpr ?_ | refine wp_penLeft.mpr ?_ | refine wp_penAt.mpr ?_ | refine wp_penCells.mpr ?_ | refine wp_putAt.mpr ?_ | refine wp_putLeft.mpr ?_ | refine ⟨_, rfl, ?_⟩ | refine ⟨rfl, ?_⟩)
        have hx0 : 0 ≤ (1861 * a + 809) % 2147483543 := Int.emod_nonneg _ (by decide)
        have hx1 : (1861 * a + 809) % 2147483543 < 2147483543 := Int.emod_lt_of_pos _ (by decide)
        refine ⟨_, if_pos ⟨by decide, by decide, by omega⟩, ?_⟩
        repeat (first | refine wp_sSeq.mpr ?_ | refine wp_sSet.mpr ?_ | refine wp_eOp.mpr ?_ | refine wp_eOpB.mpr ?_ | refine wp_eV.mpr ⟨_, rfl, ?_⟩ | refine wp_eC.mpr ?_ | refine wp_eIx.mpr ?_ | refine wp_sIf.mpr ?_ | refine wp_tAn.mpr ?_ | refine wp_tOu.mpr ?_ | refine wp_tNo.mpr ?_ | refine wp_tV.mpr ?_ | refine wp_eCB.mpr ?_ | refine wp_aC.mpr ?_ | refine wp_aN.mpr ?_ | refine wp_vws_cons.mpr ?_ | refine wp_vws_nil.mpr ?_ | refine wp_eLst.mpr ?_ | refine wp_eTup.mpr ?_ | refine wp_eCall.mpr ?_ | refine wp_sRet.mpr ?_ | refine wp_sNil.mpr ?_ | refine wp_sExp.mpr ?_ | refine wp_sPut.mpr ?_ | refine wp_nIx.mpr ?_ | refine wp_penLeft.mpr ?_ | refine wp_penAt.mpr ?_ | refine wp_penCells.mpr ?_ | refine wp_putAt.mpr ?_ | refine wp_putLeft.mpr ?_ | refine ⟨_, rfl, ?_⟩ | refine ⟨rfl, ?_⟩)
        have ho0 : 0 ≤ ((1861 * a + 809) % 2147483543 + 69001 * a + 83) ^ (Int.toNat 5) % 2147483647 := Int.emod_nonneg _ (by decide)
        have ho1 : ((1861 * a + 809) % 2147483543 + 69001 * a + 83) ^ (Int.toNat 5) % 2147483647 < 2147483647 := Int.emod_lt_of_pos _ (by decide)
        generalize ((1861 * a + 809) % 2147483543 + 69001 * a + 83) ^ (Int.toNat 5) % 2147483647 = one at ho0 ho1 ⊢
        have hm1 := mulB ho0 (show one ≤ 2147483647 by omega) (show 0 ≤ a + 65551 by omega) (show a + 65551 ≤ 1100000 by omega)
        have hm3 := mulB (show 0 ≤ 86011 * a by omega) (show 86011 * a ≤ 86011000000 by omega) ha hb
        refine ⟨_, if_pos (by unfold smallI; simp only [Bool.or_eq_true, Bool.and_eq_true, decide_eq_true_eq]; left; omega), ?_⟩
        repeat (first | refine wp_sSeq.mpr ?_ | refine wp_sSet.mpr ?_ | refine wp_eOp.mpr ?_ | refine wp_eOpB.mpr ?_ | refine wp_eV.mpr ⟨_, rfl, ?_⟩ | refine wp_eC.mpr ?_ | refine wp_eIx.mpr ?_ | refine wp_sIf.mpr ?_ | refine wp_tAn.mpr ?_ | refine wp_tOu.mpr ?_ | refine wp_tNo.mpr ?_ | refine wp_tV.mpr ?_ | refine wp_eCB.mpr ?_ | refine wp_aC.mpr ?_ | refine wp_aN.mpr ?_ | refine wp_vws_cons.mpr ?_ | refine wp_vws_nil.mpr ?_ | refine wp_eLst.mpr ?_ | refine wp_eTup.mpr ?_ | refine wp_eCall.mpr ?_ | refine wp_sRet.mpr ?_ | refine wp_sNil.mpr ?_ | refine wp_sExp.mpr ?_ | refine wp_sPut.mpr ?_ | refine wp_nIx.mpr ?_ | refine wp_penLeft.mpr ?_ | refine wp_penAt.mpr ?_ | refine wp_penCells.mpr ?_ | refine wp_putAt.mpr ?_ | refine wp_putLeft.mpr ?_ | refine ⟨_, rfl, ?_⟩ | refine ⟨rfl, ?_⟩)
        refine ⟨_, if_pos (by unfold smallI; simp only [Bool.or_eq_true, Bool.and_eq_true, decide_eq_true_eq]; left; omega), ?_⟩
        repeat (first | refine wp_sSeq.mpr ?_ | refine wp_sSet.mpr ?_ | refine wp_eOp.mpr ?_ | refine wp_eOpB.mpr ?_ | refine wp_eV.mpr ⟨_, rfl, ?_⟩ | refine wp_eC.mpr ?_ | refine wp_eIx.mpr ?_ | refine wp_sIf.mpr ?_ | refine wp_tAn.mpr ?_ | refine wp_tOu.mpr ?_ | refine wp_tNo.mpr ?_ | refine wp_tV.mpr ?_ | refine wp_eCB.mpr ?_ | refine wp_aC.mpr ?_ | refine wp_aN.mpr ?_ | refine wp_vws_cons.mpr ?_ | refine wp_vws_nil.mpr ?_ | refine wp_eLst.mpr ?_ | refine wp_eTup.mpr ?_ | refine wp_eCall.mpr ?_ | refine wp_sRet.mpr ?_ | refine wp_sNil.mpr ?_ | refine wp_sExp.mpr ?_ | refine wp_sPut.mpr ?_ | refine wp_nIx.mpr ?_ | refine wp_penLeft.mpr ?_ | refine wp_penAt.mpr ?_ | refine wp_penCells.mpr ?_ | refine wp_putAt.mpr ?_ | refine wp_putLeft.mpr ?_ | refine ⟨_, rfl, ?_⟩ | refine ⟨rfl, ?_⟩)
        refine ⟨_, if_pos ⟨by decide, by decide, by omega⟩, ?_⟩
        repeat (first | refine wp_sSeq.mpr ?_ | refine wp_sSet.mpr ?_ | refine wp_eOp.mpr ?_ | refine wp_eOpB.mpr ?_ | refine wp_eV.mpr ⟨_, rfl, ?_⟩ | refine wp_eC.mpr ?_ | refine wp_eIx.mpr ?_ | refine wp_sIf.mpr ?_ | refine wp_tAn.mpr ?_ | refine wp_tOu.mpr ?_ | refine wp_tNo.mpr ?_ | refine wp_tV.mpr ?_ | refine wp_eCB.mpr ?_ | refine wp_aC.mpr ?_ | refine wp_aN.mpr ?_ | refine wp_vws_cons.mpr ?_ | refine wp_vws_nil.mpr ?_ | refine wp_eLst.mpr ?_ | refine wp_eTup.mpr ?_ | refine wp_eCall.mpr ?_ | refine wp_sRet.mpr ?_ | refine wp_sNil.mpr ?_ | refine wp_sExp.mpr ?_ | refine wp_sPut.mpr ?_ | refine wp_nIx.mpr ?_ | refine wp_penLeft.mpr ?_ | refine wp_penAt.mpr ?_ | refine wp_penCells.mpr ?_ | refine wp_putAt.mpr ?_ | refine wp_putLeft.mpr ?_ | refine ⟨_, rfl, ?_⟩ | refine ⟨rfl, ?_⟩)
        refine ⟨_, if_pos hm, ?_⟩
        exact ⟨_, a + 1, l, rfl, rfl, Int.emod_nonneg _ (by omega), Int.emod_lt_of_pos _ hm, by omega, by omega, hl⟩
end DL

namespace DL
open PySem PySem.Spec PyProof.Rows L2
section
variable {rest : Sr} {x : Nd} {n n' : Nat} {Q : DV → Sr → Prop}
theorem PenAt.node (h : PenAt n x) : ∃ kvs : List (Key × PyData), x = .dic (kvs.map fun q => (q.1, .dat q.2)) := by
  obtain ⟨ns, a, l, rfl, _⟩ := h
  exact ⟨[(.inr "cells", .list (ns.map .int)), (.inr "at", .int a), (.inr "left", .int l)], rfl⟩
theorem wp_penF {F : FN} {ds : List PyData} {P : PyData → Prop} (hF : Wp (F (.ref 0 :: ds.map .dat)) [x] fun r w' => ∃ d x', r = .dat d ∧ w' = [x'] ∧ PenAt n' x' ∧ P d) (hp : PenAt n x) (k : ∀ d x', PenAt n' x' → P d → Q (.dat d) (x' :: rest)) : Wp (small F (.ref 0 :: ds.map .dat)) (x :: rest) Q := by
  obtain ⟨r, w', e, d, x', rfl, rfl, hp', hd⟩ := hF
  obtain ⟨kvs, rfl⟩ := hp.node
  obtain ⟨kvs', rfl⟩ := hp'.node
  exact ⟨_, _, small_pen rfl e, k d _ hp' hd⟩
theorem wp_pureF {F : FN} {ds : List PyData} {r : PyData} {w : Sr} (h : F (ds.map .dat) [] = some (.dat r, [])) (k : Q (.dat r) w) : Wp (small F (ds.map .dat)) w Q := ⟨_, _, small_pure h, k⟩
theorem wp_draw {m : Int} (hp : PenAt n x) (hn : n ≤ 1000000) (hm : 0 < m) (hm2 : m ≤ 1000000) (k : ∀ r x', 0 ≤ r → r < m → PenAt (n + 1) x' → Q (.dat (.int r)) (x' :: rest)) : Wp (small (fnF 8 drawS) [.ref 0, .dat (.int m)]) (x :: rest) Q := by
  refine wp_penF (ds := [.int m]) (n' := n + 1) (P := fun d => ∃ r, d = .int r ∧ 0 ≤ r ∧ r < m) ?_ hp fun d x' h ⟨r, e, h0, h1⟩ => ?_
  · obtain ⟨ns, a, l, rfl, h2, h3, h4, h5⟩ := hp
    obtain ⟨r, a', l', e, q0, q1, q2, q3, q4⟩ := draw_ok h2 h3 (by omega) h5 hm hm2
    exact ⟨_, _, e, .int r, pen ns a' l', rfl, rfl, ⟨ns, a', l', rfl, h2, by omega, by omega, q4⟩, r, rfl, q0, q1⟩
  · subst e
    exact k r x' h0 h1 h
end
/-! ### loops -/
theorem wp_forD {body : PyData → En → MM Res} {Q : Res → Sr → Prop} : ∀ {ds : List PyData} {I : Nat → En → Sr → Prop} {δ : En} {w : Sr}, I 0 δ w →
    (∀ i d δ w, ds[i]? = some d → I i δ w → Wp (body d δ) w fun r w' => match r with | .nx δ' => I (i + 1) δ' w' | .ct δ' => I (i + 1) δ' w' | .bk δ' => Q (.nx δ') w' | .rt v => Q (.rt v) w') →
    (∀ δ w, I ds.length δ w → Q (.nx δ) w) → Wp (forD body ds δ) w Q
  | [], I, δ, w, h0, _, hd => wp_ret.mpr (hd δ w h0)
  | d :: ds, I, δ, w, h0, hs, hd => by
    unfold forD
    refine wp_bnd.mpr (wp_mono (hs 0 d δ w rfl h0) fun r w' h => ?_)
    cases r with
    | nx δ' => exact wp_forD (I := fun i => I (i + 1)) h (fun i d' δ w e q => hs (i + 1) d' δ w (by simpa using e) q) (fun δ w q => hd δ w q)
    | ct δ' => exact wp_forD (I := fun i => I (i + 1)) h (fun i d' δ w e q => hs (i + 1) d' δ w (by simpa using e) q) (fun δ w q => hd δ w q)
    | bk δ' => exact wp_ret.mpr h
    | rt v => exact wp_ret.mpr h
theorem wp_sFor {fi : FI} {g : DV → En → Option En} {fb : FS} {δ : En} {w : Sr} {Q : Res → Sr → Prop} : Wp (sFor fi g fb δ) w Q ↔ Wp (fi δ) w fun ds w' => Wp (forD (turnD g fb) ds δ) w' Q := by
  unfold sFor
  rw [wp_bnd]
theorem wp_turn {g : DV → En → Option En} {fb : FS} {d : PyData} {δ δ1 : En} {w : Sr} {Q : Res → Sr → Prop} (h : g (.dat d) δ = some δ1) (k : Wp (fb δ1) w Q) : Wp (turnD g fb d δ) w Q := by
  unfold turnD
  exact wp_bnd.mpr (wp_opt.mpr ⟨_, h, k⟩)
theorem wp_sT {f : FS} {δ : En} {w : Sr} {Q : Res → Sr → Prop} (h : Wp (f δ) w fun r w' => Q (trimR w.length r w').1 (trimR w.length r w').2) : Wp (sT f δ) w Q := by
  obtain ⟨r, w', e, q⟩ := h
  exact ⟨_, _, by unfold sT; rw [e], q⟩
theorem wp_iE {f : FE} {δ : En} {w : Sr} {Q : List PyData → Sr → Prop} : Wp (iE f δ) w Q ↔ Wp (f δ) w fun x w' => ∃ d w2, frz x w' = some (d, w2) ∧ ∃ ds, itemsD d = some ds ∧ Q ds w2 := by
  unfold iE
  simp only [wp_bnd, wp_opt]
  rfl
theorem wp_iR1 {fr : FA} {δ : En} {w : Sr} {Q : List PyData → Sr → Prop} : Wp (iR1 fr δ) w Q ↔ Wp (fr δ) w fun xs w' => ∃ ds, rng1 xs = some ds ∧ Q ds w' := by
  unfold iR1
  simp only [wp_bnd, wp_opt]
theorem rgD_at {lo : Int} {n i : Nat} {d : PyData} (h : (rgD lo n)[i]? = some d) : d = .int (lo + (i : Nat)) ∧ i < n := by
  unfold rgD at h
  rw [List.getElem?_map] at h
  obtain ⟨j, h1, h2⟩ := Option.map_eq_some_iff.mp h
  have hi : i < n := by
    have := (List.getElem?_eq_some_iff.mp h1).1
    simpa using this
  rw [List.getElem?_range hi] at h1
  cases h1
  exact ⟨h2.symm, hi⟩
theorem rgD_length (lo : Int) (n : Nat) : (rgD lo n).length = n := by unfold rgD; simp
/-! ### comprehensions -/
theorem wp_mLc {fi : FI} {vs : List Nat} {g : DV → En → Option En} {ft : FT} {fe : FE} {δ : En} {w : Sr} {Q : List DV → Sr → Prop} : Wp (mLc fi vs g ft fe δ) w Q ↔ Wp (fi δ) w fun ds w' => Wp (lcD g ft fe (wipeD δ vs) ds) w' fun xs w2 => lenOk ds = true ∧ Q xs w2 := by
  unfold mLc
  simp only [wp_bnd, wp_opt]
  constructor
  · refine fun h => wp_mono h fun ds w' h => wp_mono h fun xs w2 ⟨a, e, q⟩ => ?_
    split at e
    · next hz => cases e; exact ⟨hz, q⟩
    · cases e
  · exact fun h => wp_mono h fun ds w' h => wp_mono h fun xs w2 ⟨hz, q⟩ => ⟨xs, by rw [if_pos hz], q⟩
theorem wp_eLc {fi : FI} {vs : List Nat} {g : DV → En → Option En} {ft : FT} {fe : FE} {δ : En} {w : Sr} {Q : DV → Sr → Prop} : Wp (eLc fi vs g ft fe δ) w Q ↔ Wp (fi δ) w fun ds w' => Wp (lcD g ft fe (wipeD δ vs) ds) w' fun xs w2 => lenOk ds = true ∧ ∃ es, datAll xs = some es ∧ Q (.dat (.list es)) w2 := by
  unfold eLc
  simp only [wp_bnd, wp_opt, wp_mLc]
  constructor
  · refine fun h => wp_mono h fun ds w' h => wp_mono h fun xs w2 ⟨hz, a, e, q⟩ => ?_
    obtain ⟨es, h1, rfl⟩ := Option.map_eq_some_iff.mp e
    exact ⟨hz, es, h1, q⟩
  · exact fun h => wp_mono h fun ds w' h => wp_mono h fun xs w2 ⟨hz, es, e, q⟩ => ⟨hz, _, by rw [e]; rfl, q⟩
theorem datAll_map : ∀ (ds : List PyData), datAll (ds.map .dat) = some ds
  | [] => rfl
  | d :: ds => by show (datAll (ds.map .dat)).map (d :: ·) = _; rw [datAll_map ds]; rfl
/-! ### chains, appends -/
section
variable {w : Sr} {δ : En}
theorem wp_eAn {fa fb : FE} {Q : DV → Sr → Prop} (h : Wp (fa δ) w fun x w1 => ∃ c, x = .dat (.bool c) ∧ if c = true then Wp (fb δ) w1 Q else Q (.dat (.bool false)) w1) : Wp (eAn fa fb δ) w Q := by
  unfold eAn
  refine wp_bnd.mpr (wp_mono h fun x w1 ⟨c, e, q⟩ => ?_)
  subst e
  cases c with
  | true => exact q
  | false => exact wp_ret.mpr q
theorem wp_eNeg {fa : FE} {Q : DV → Sr → Prop} (h : Wp (fa δ) w fun x w1 => ∃ i, x = .dat (.int i) ∧ Q (.dat (.int (-i))) w1) : Wp (eNeg fa δ) w Q := by
  unfold eNeg
  refine wp_bnd.mpr (wp_mono h fun x w1 ⟨c, e, q⟩ => ?_)
  subst e
  exact wp_ret.mpr q
theorem wp_eLstN {fr : FA} {Q : DV → Sr → Prop} : Wp (eLstN fr δ) w Q ↔ Wp (fr δ) w fun xs w1 => lenOk xs = true ∧ Q (.ref w1.length) (w1 ++ [.lst xs]) := by
  unfold eLstN
  rw [wp_bnd]
  constructor
  · refine fun h => wp_mono h fun xs w1 ⟨a, w2, e, q⟩ => ?_
    dsimp only at e
    split at e
    · next hz => cases e; exact ⟨hz, q⟩
    · cases e
  · exact fun h => wp_mono h fun xs w1 ⟨hz, q⟩ => ⟨_, _, by dsimp only; rw [if_pos hz], q⟩
theorem wp_eApp {fo fe : FE} {Q : DV → Sr → Prop} : Wp (eApp fo fe δ) w Q ↔ Wp (fo δ) w fun x w1 => Wp (isL x) w1 fun _ w2 => Wp (fe δ) w2 fun y w3 => Wp (nApp x y) w3 Q := by
  unfold eApp
  simp only [wp_bnd]
theorem wp_isL {k : Nat} {cs : List DV} {Q : Unit → Sr → Prop} (h : w[k]? = some (.lst cs)) (q : Q () w) : Wp (isL (.ref k)) w Q := ⟨(), w, by unfold isL; simp only [h], q⟩
theorem wp_nApp {k : Nat} {cs : List DV} {y : DV} {Q : DV → Sr → Prop} (h : w[k]? = some (.lst cs)) (hl : lenOk cs = true) (q : Q (.dat .none) (w.set k (.lst (cs ++ [y])))) : Wp (nApp (.ref k) y) w Q := ⟨.dat .none, _, by unfold nApp; simp only [h, hl, if_true], q⟩
theorem wp_eSl {fa : FE} {fl fh : FO} {Q : DV → Sr → Prop} : Wp (eSl fa fl fh δ) w Q ↔ Wp (fa δ) w fun x w1 => Wp (fl δ) w1 fun lo w2 => Wp (fh δ) w2 fun hi w3 => ∃ d, view w3 x = some d ∧ ∃ z, slP d lo hi = some z ∧ Q (.dat z) w3 := by
  unfold eSl
  simp only [wp_bnd, wp_vw, wp_opt, wp_ret]
theorem wp_oN {Q : Option Int → Sr → Prop} : Wp (oN δ) w Q ↔ Q none w := wp_ret
theorem wp_oS {f : FE} {Q : Option Int → Sr → Prop} (h : Wp (f δ) w fun x w1 => ∃ i, x = .dat (.int i) ∧ Q (some i) w1) : Wp (oS f δ) w Q := by
  unfold oS
  refine wp_bnd.mpr (wp_mono h fun x w1 ⟨c, e, q⟩ => ?_)
  subst e
  exact wp_ret.mpr q
end
end DL

namespace DL
open PySem L2
/-! ### texts of plain signs -/
structure Asc (n : Nat) (x : Str) : Prop where
  l : x.length ≤ n
  c : ∀ c ∈ x.cps.toList, c < 128
theorem Asc.mono {n m : Nat} {x : Str} (h : Asc n x) (e : n ≤ m) : Asc m x := ⟨Nat.le_trans h.l e, h.c⟩
theorem Asc.sm {n : Nat} {x : Str} (h : Asc n x) : Sm (10 * n + 2) 1 (.str x) := Sm.str (fun c hc => by have := h.c c hc; omega) h.l

theorem Asc.str {n : Nat} {x : Str} (h1 : x.length ≤ n) (h2 : (x.cps.toList.all fun c => decide (c < 128)) = true) : Asc n x := ⟨h1, fun c hc => of_decide_eq_true (List.all_eq_true.mp h2 c hc)⟩
/-! ### an item drawn -/
theorem atAll {α : Type} {P : α → Prop} {xs : List α} {i : Int} (h : ∀ v ∈ xs, P v) (h0 : 0 ≤ i) (h1 : i < xs.length) : ∃ v, atI xs i = some v ∧ P v := by
  obtain ⟨v, e, hv⟩ := atMem h0 h1
  exact ⟨v, e, h v hv⟩
section
variable {w : Sr} {Q : DV → Sr → Prop}
theorem wp_ixL {ds : List PyData} {i : Int} {P : PyData → Prop} (h : ∀ v ∈ ds, P v) (h0 : 0 ≤ i) (h1 : i < ds.length) (k : ∀ d, P d → Q (.dat d) w) : Wp (nIx (.dat (.list ds)) (.dat (.int i))) w Q := by
  obtain ⟨v, e, hv⟩ := atAll h h0 h1
  exact wp_nIx.mpr ⟨v, e, k v hv⟩
end
/-! ### repr -/
end DL

/-! ### steps of reckoning, each by the shape of what stands there -/
namespace DL
open PySem L2
section
variable {w : Sr} {δ : En}
theorem ex_view {d : PyData} {R : PyData → Prop} (k : R d) : ∃ e, view w (.dat d) = some e ∧ R e := ⟨d, rfl, k⟩
theorem ex_mk {α : Type} {o : Option α} {a : α} {R : α → Prop} (h : o = some a) (k : R a) : ∃ e, o = some e ∧ R e := ⟨a, h, k⟩
theorem st_tup {xs : List DV} {ds : List PyData} {R : List PyData → Prop} (h : datAll xs = some ds) (hl : lenOk ds = true) (k : R ds) : ∃ ds, datAll xs = some ds ∧ lenOk ds = true ∧ R ds := ⟨ds, h, hl, k⟩
theorem dat_nil : datAll [] = some [] := rfl
theorem dat_cons {d : PyData} {xs : List DV} {ds : List PyData} (h : datAll xs = some ds) : datAll (.dat d :: xs) = some (d :: ds) := by
  show (datAll xs).map (d :: ·) = _
  rw [h]; rfl
theorem frz_dat {d : PyData} {R : PyData → Sr → Prop} (k : R d w) : ∃ e w2, frz (.dat d) w = some (e, w2) ∧ R e w2 := ⟨d, w, rfl, k⟩
theorem ex_dbool {b : Bool} {R : Bool → Prop} (k : R b) : ∃ c, DV.dat (.bool b) = DV.dat (.bool c) ∧ R c := ⟨b, rfl, k⟩
theorem ex_dint {b : Int} {R : Int → Prop} (k : R b) : ∃ c, DV.dat (.int b) = DV.dat (.int c) ∧ R c := ⟨b, rfl, k⟩
theorem ex_ddat {b : PyData} {R : PyData → Prop} (k : R b) : ∃ c, DV.dat b = DV.dat c ∧ R c := ⟨b, rfl, k⟩
theorem tru_b {b : Bool} : truD (.bool b) = some b := rfl
theorem add_ii {i j : Int} : addP (.int i) (.int j) = some (.int (i + j)) := rfl
theorem sub_ii {i j : Int} : subP (.int i) (.int j) = some (.int (i - j)) := rfl
theorem gt_ii {i j : Int} : gtP (.int i) (.int j) = some (.bool (decide (j < i))) := rfl
theorem eq_ii {i j : Int} : eqP (.int i) (.int j) = some (.bool (decide (i = j))) := by
  show (if SeqAt.shaped (.int i) = true ∧ SeqAt.shaped (.int j) = true then some (PyData.bool (PyData.eqv (.int i) (.int j))) else none) = _
  rw [if_pos ⟨by simp [SeqAt.shaped, PyData.canLay0, PyData.depth], by simp [SeqAt.shaped, PyData.canLay0, PyData.depth]⟩]
  rfl
theorem ne_ss {x y : Str} : neP (.str x) (.str y) = some (.bool (!(x == y))) := rfl
theorem isn_nn {d : PyData} : isNotP d .none = some (.bool (!isNoneD d)) := rfl
theorem len_l {xs : List PyData} : lenP [.list xs] = some (.int xs.length) := rfl
theorem list_l {xs : List PyData} : listP [.list xs] = some (.list xs) := rfl
theorem list_t {xs : List PyData} : listP [.tuple xs] = some (.list xs) := rfl
theorem tuple_l {xs : List PyData} : tupleP [.list xs] = some (.tuple xs) := rfl
theorem asb {o : Option PyData} {b : Bool} (h : o = some (.bool b)) : asB o = some b := by rw [h]; rfl
theorem sl_l {ds : List PyData} {lo hi : Option Int} : slP (.list ds) lo hi = some (.list (cutL ds lo hi)) := rfl
theorem it_l {ds : List PyData} : itemsD (.list ds) = some ds := rfl
theorem it_t {ds : List PyData} : itemsD (.tuple ds) = some ds := rfl
theorem rng_1 {j : Int} (h : -(2 ^ 62) ≤ j) (h' : j < 2 ^ 62) : rng1 [.dat (.int j)] = some (rgD 0 j.toNat) := if_pos ⟨h, h'⟩
theorem pow_c {i j k : Int} (h0 : 0 ≤ j) (h : j ≤ 1000000) (h1 : i.natAbs < 2 ^ 64) (h2 : i ^ j.toNat = k) : powP (.int i) (.int j) = some (.int k) := by
  show (if _ then _ else _ : Option PyData) = _
  rw [if_pos ⟨h0, h, h1⟩, h2]
theorem mul_c {i j : Int} (h : smallI j = true) : mulP (.int i) (.int j) = some (.int (i * j)) := by
  show (if _ then _ else _ : Option PyData) = _
  rw [h, Bool.or_true, if_pos rfl]
theorem add_ll {xs ys : List PyData} (h : xs.length + ys.length ≤ 1000000) : addP (.list xs) (.list ys) = some (.list (xs ++ ys)) := if_pos h
theorem ex_at {i : Nat} {x : DV} {R : DV → Prop} (h : δ[i]? = some (some x)) (k : R x) : ∃ x, δ[i]? = some (some x) ∧ R x := ⟨x, h, k⟩
theorem p12 : powP (.int 10) (.int 12) = some (.int 1000000000000) := pow_c (by decide) (by decide) (by decide) (by decide)
theorem st_dic0F {Q : DV → Sr → Prop} (k : Q (.dat (.dict [])) (w ++ [.fz (.dict [])])) : Wp (eF eDic0 δ) w Q := by
  refine wp_eF.mpr ⟨.ref w.length, w ++ [.dic []], rfl, .dict [], _, ?_, k⟩
  unfold frz
  dsimp only
  rw [List.getElem?_append_right (Nat.le_refl _), Nat.sub_self]
  simp [datKV]
theorem ex_addll {xs ys : List PyData} {R : PyData → Prop} (h : xs.length + ys.length ≤ 1000000) (k : R (.list (xs ++ ys))) : ∃ z, addP (.list xs) (.list ys) = some z ∧ R z := ⟨_, add_ll h, k⟩
theorem nle {n m : Nat} (h : Nat.ble n m = true) : n ≤ m := Nat.le_of_ble_eq_true h
/-! ### written data, looked at -/
def ascB (n : Nat) : PyData → Bool
  | .str y => decide (y.length ≤ n) && y.cps.toList.all fun c => decide (c < 128)
  | _ => false
theorem ascB_ok {n : Nat} {d : PyData} (h : ascB n d = true) : ∃ y, d = .str y ∧ Asc n y := by
  cases d with
  | str y =>
    have h : (decide (y.length ≤ n) && y.cps.toList.all fun c => decide (c < 128)) = true := h
    rw [Bool.and_eq_true] at h
    exact ⟨y, rfl, Asc.str (of_decide_eq_true h.1) h.2⟩
  | _ => cases h
theorem ascs {n : Nat} {ds : List PyData} (h : ds.all (ascB n) = true) : ∀ d ∈ ds, ∃ y, d = .str y ∧ Asc n y := fun d hd => ascB_ok (List.all_eq_true.mp h d hd)
/-! ### a def that draws by the pen -/
theorem PenAt.ins {n : Nat} {x : Nd} (h : PenAt n x) : insN 1 x = true := by
  obtain ⟨ns, a, l, rfl, _⟩ := h
  rfl
theorem fn_pen {n' m : Nat} {f : FS} {ds : List PyData} {x : Nd} {P : PyData → Prop} (h : Wp (f ((.ref 0 :: ds.map .dat).map some ++ List.replicate (m - (ds.length + 1)) none)) [x] fun r w2 => ∃ d x' t, r = .rt (.dat d) ∧ w2 = x' :: t ∧ PenAt n' x' ∧ P d) :
    Wp (fnF m f (.ref 0 :: ds.map .dat)) [x] fun r w' => ∃ d x', r = .dat d ∧ w' = [x'] ∧ PenAt n' x' ∧ P d := by
  refine wp_fn ?_
  rw [List.length_cons, List.length_map]
  refine wp_mono h fun r w2 ⟨d, x', t, e1, e2, hp, hd⟩ => ?_
  subst e1; subst e2
  have e : trimR [x].length (.rt (.dat d)) (x' :: t) = (.rt (.dat d), [x']) := by
    have q : clo [x].length (x' :: t) = true := by simp [clo, hp.ins]
    unfold trimR
    rw [q]
    rfl
  rw [e]
  exact ⟨d, x', rfl, rfl, hp, hd⟩
/-- a def by the pen, called -/
theorem wp_pf {n n' m : Nat} {f : FS} {ds : List PyData} {x : Nd} {rest : Sr} {P : PyData → Prop} {Q : DV → Sr → Prop} (hp : PenAt n x) (h : Wp (f ((.ref 0 :: ds.map .dat).map some ++ List.replicate (m - (ds.length + 1)) none)) [x] fun r w2 => ∃ d x' t, r = .rt (.dat d) ∧ w2 = x' :: t ∧ PenAt n' x' ∧ P d)
    (k : ∀ d x', PenAt n' x' → P d → Q (.dat d) (x' :: rest)) : Wp (small (fnF m f) (.ref 0 :: ds.map .dat)) (x :: rest) Q := wp_penF (fn_pen h) hp k
end
end DL

local macro_rules | `(tactic| walk_at "v") => `(tactic| repeat (first | ((with_reducible apply DL.st_isT); (· rfl); (· rfl)) | ((with_reducible apply DL.st_isF); (· rfl); (· rfl)) | (with_reducible first | refine DL.wp_sSeq.mpr ?_ | refine DL.wp_sSet.mpr ?_ | refine DL.wp_eOp.mpr ?_ | refine DL.wp_eOpB.mpr ?_ | refine DL.wp_eC.mpr ?_ | refine DL.wp_eV.mpr ?_ | refine DL.wp_eIx.mpr ?_ | refine DL.wp_sIf.mpr ?_ | refine DL.wp_tAn.mpr ?_ | refine DL.wp_tOu.mpr ?_ | refine DL.wp_tNo.mpr ?_ | refine DL.wp_tV.mpr ?_ | refine DL.wp_eCB.mpr ?_ | refine DL.wp_aC.mpr ?_ | refine DL.wp_aN.mpr ?_ | refine DL.wp_vws_cons.mpr ?_ | refine DL.wp_vws_nil.mpr ?_ | refine DL.wp_eLst.mpr ?_ | refine DL.wp_eTup.mpr ?_ | refine DL.wp_eCall.mpr ?_ | refine DL.wp_sRet.mpr ?_ | refine DL.wp_sNil.mpr ?_ | refine DL.wp_sExp.mpr ?_ | refine DL.wp_sPut.mpr ?_ | refine DL.wp_eChain.mpr ?_ | refine DL.wp_eChainB.mpr ?_ | refine DL.wp_eIf.mpr ?_ | refine DL.wp_eLc.mpr ?_ | refine DL.wp_eLstN.mpr ?_ | refine DL.wp_eApp.mpr ?_ | refine DL.wp_eSl.mpr ?_ | refine DL.wp_oN.mpr ?_ | refine DL.wp_sFor.mpr ?_ | refine DL.wp_iE.mpr ?_ | refine DL.wp_iR1.mpr ?_ | refine DL.st_dic0F ?_ | refine DL.wp_eF.mpr ?_ | refine DL.wp_eAn ?_ | refine DL.wp_eOu ?_ | refine DL.wp_eNot ?_ | refine DL.wp_eNeg ?_ | refine DL.wp_eAddN ?_ | refine DL.wp_oS ?_ | refine DL.wp_eRev ?_ | refine DL.wp_eUp ?_ | refine DL.wp_eJoin ?_ | refine DL.ex_view ?_ | refine DL.frz_dat ?_ | refine DL.ex_dbool ?_ | refine DL.ex_dint ?_ | refine DL.ex_dstr ?_ | refine DL.ex_vlist ?_ | refine DL.ex_ddat ?_ | refine DL.ite_nt ?_ | refine DL.ite_nf ?_ | refine L2.iteT ?_ | refine L2.iteF ?_ | refine DL.ex_mk DL.tru_b ?_ | refine DL.ex_mk DL.add_ii ?_ | refine DL.ex_mk DL.sub_ii ?_ | refine DL.ex_mk DL.lt_ii ?_ | refine DL.ex_mk DL.le_ii ?_ | refine DL.ex_mk DL.gt_ii ?_ | refine DL.ex_mk DL.ge_ii ?_ | refine DL.ex_mk DL.eq_ii ?_ | refine DL.ex_mk DL.ne_ii ?_ | refine DL.ex_mk DL.eq_ss ?_ | refine DL.ex_mk DL.ne_ss ?_ | refine DL.ex_mk DL.is_nn ?_ | refine DL.ex_mk DL.isn_nn ?_ | refine DL.ex_mk DL.len_l ?_ | refine DL.ex_mk DL.len_t ?_ | refine DL.ex_mk DL.abs_i ?_ | refine DL.ex_mk DL.int_i ?_ | refine DL.ex_mk DL.list_l ?_ | refine DL.ex_mk DL.list_t ?_ | refine DL.ex_mk DL.tuple_l ?_ | refine DL.ex_mk DL.tuple_t ?_ | refine DL.ex_mk DL.sl_l ?_ | refine DL.ex_mk DL.it_l ?_ | refine DL.ex_mk DL.it_t ?_ | refine DL.ex_mk DL.it_s ?_ | refine DL.ex_mk DL.p12 ?_ | refine DL.ex_mk DL.lt_ss ?_ | refine DL.ex_mk DL.le_ss ?_ | refine DL.ex_mk DL.gt_ss ?_ | refine DL.ex_mk (DL.asb DL.lt_ii) ?_ | refine DL.ex_mk (DL.asb DL.le_ii) ?_ | refine DL.ex_mk (DL.asb DL.gt_ii) ?_ | refine DL.ex_mk (DL.asb DL.ge_ii) ?_ | refine DL.ex_mk (DL.asb DL.eq_ii) ?_ | refine DL.ex_mk (DL.asb DL.ne_ii) ?_ | refine DL.ex_mk (DL.asb DL.eq_ss) ?_ | refine DL.ex_mk (DL.asb DL.ne_ss) ?_ | refine DL.ex_mk (DL.asb DL.is_nn) ?_ | refine DL.ex_mk (DL.asb DL.isn_nn) ?_ | refine DL.ex_mk (DL.asb DL.lt_ss) ?_ | refine DL.ex_mk (DL.asb DL.le_ss) ?_ | refine DL.ex_mk (DL.asb DL.gt_ss) ?_) | ((with_reducible apply DL.ex_at); (· rfl)) | ((with_reducible apply DL.ex_addll); (· exact DL.nle rfl)) | ((with_reducible apply DL.st_tup); (· (with_reducible ((repeat apply DL.dat_cons); exact DL.dat_nil))); (· rfl))))
namespace DL
open PySem L2
theorem run_of {n : Nat} {f : FS} {dvs : List DV} {w : Sr} {r : DV} {w' : Sr} (h : Wp (f (dvs.map some ++ List.replicate (n - dvs.length) none)) w fun r' w2 => (match (trimR w.length r' w2).1 with | .rt d => d = r ∧ (trimR w.length r' w2).2 = w' | .nx _ => DV.dat .none = r ∧ (trimR w.length r' w2).2 = w' | _ => False)) : fnF n f dvs w = some (r, w') := by
  obtain ⟨a, w2, e, rfl, rfl⟩ := wp_fn (Q := fun d w3 => d = r ∧ w3 = w') h
  exact e
theorem cut63 {α : Type} {xs : List α} (h : xs.length ≤ 63) : cutL xs none (some 63) = xs := by
  unfold cutL
  rw [HT.sIx_none]
  have e : HT.sIx xs.length xs.length (some ((63 : Nat) : Int)) = min 63 xs.length := HT.sIx_nat ..
  have e : HT.sIx xs.length xs.length (some 63) = xs.length := by rw [show (63 : Int) = ((63 : Nat) : Int) from rfl, e]; omega
  rw [e, List.drop_zero, Nat.sub_zero, List.take_length]
def penS : FS :=
  (sRet (eDicN (pC (eC (.str "cells")) (eCB listP (aC (eSl (eV 0) oN (oS (eC (.int 63)))) aN)) (pC (eC (.str "at")) (eC (.int 0)) (pC (eC (.str "left")) (eC (.int 0)) pN)))))
theorem pen_run {ns : List Int} (h : ns.length ≤ 63) : fnF 1 penS [.dat (.list (ns.map .int))] [] = some (.ref 0, [pen ns 0 0]) := by
  refine run_of ?_
  show Wp (penS [some (.dat (.list (ns.map .int)))]) _ _
  unfold penS
  refine wp_sRet.mpr ?_
  unfold eDicN pC pN
  simp only [wp_bnd, wp_eC]
  walk_at "v"
  simp only [wp_bnd, wp_eC, wp_ret]
  rw [cut63 (by rw [List.length_map]; exact h)]
  have e : mergeA [] [((.inr "cells" : Key), DV.dat (.list (ns.map .int))), (.inr "at", .dat (.int 0)), (.inr "left", .dat (.int 0))] = penL ns 0 0 := by
    simp [mergeA, putA, ca, cl, al]
  refine ⟨.ref 0, [pen ns 0 0], ?_, ?_⟩
  · show (if _ then some (DV.ref 0, [Nd.dic (mergeA [] [((.inr "cells" : Key), DV.dat (.list (ns.map .int))), (.inr "at", .dat (.int 0)), (.inr "left", .dat (.int 0))])]) else none) = _
    rw [e]; exact if_pos (nle rfl)
  · exact ⟨rfl, rfl⟩
theorem wp_mkpen {ns : List Int} {Q : DV → Sr → Prop} (h : ns.length ≤ 63) (k : ∀ x, PenAt 0 x → Q (.ref 0) [x]) : Wp (small (fnF 1 penS) [.dat (.list (ns.map .int))]) [] Q := by
  refine ⟨.ref 0, [pen ns 0 0], ?_, k _ ⟨ns, 0, 0, rfl, h, Int.le_refl _, Int.le_refl _, Int.le_refl _⟩⟩
  unfold small
  have hd : decide (([] : List Nat).Nodup) = true := by decide
  simp only [show reach [] [DV.dat (.list (ns.map .int))] = [] from rfl, show renL (inv []) [DV.dat (.list (ns.map .int))] = some [.dat (.list (ns.map .int))] from rfl, show pickS [] (inv []) [] = some [] from rfl, hd]
  rw [pen_run h]
  rfl
end DL

/-! ### zip of two sequences, each a list or a tuple -/
namespace DL
open PySem PySem.Spec PyProof.Rows L2
/-- a cursor j at the k-th item of the sequence l; t: of a tuple -/
def Cu (t : Bool) (h : Heap) (j l : Addr) (k : Nat) : Prop := match t with
  | true => h.IsTupleIter j l k
  | false => h.IsListIter j l k
def Sq (t : Bool) (h : Heap) (l : Addr) (zs : Array Value) : Prop := match t with
  | true => h.IsTuple l zs
  | false => h.IsList l zs
theorem Cu.go {t : Bool} {h h' : Heap} {j l : Addr} {k : Nat} (c : Cu t h j l k) (e : ∀ o, h.get? j = some o → h'.get? j = some o) : Cu t h' j l k := by
  cases t <;> (obtain ⟨o, g, r⟩ := c; exact ⟨o, e o g, r⟩)
theorem Sq.go {t : Bool} {h h' : Heap} {l : Addr} {zs : Array Value} (c : Sq t h l zs) (e : ∀ o, h.get? l = some o → h'.get? l = some o) : Sq t h' l zs := by
  cases t <;> (obtain ⟨o, g, r⟩ := c; exact ⟨o, e o g, r⟩)
theorem Cu.is {t : Bool} {h : Heap} {j l : Addr} {k : Nat} (c : Cu t h j l k) : ∃ o, h.get? j = some o ∧ ∀ v, o.data ≠ .cell v := by
  cases t <;> (obtain ⟨o, g, _, d⟩ := c; exact ⟨o, g, fun v z => by rw [d] at z; cases z⟩)
theorem Cu.lt {t : Bool} {h : Heap} {j l : Addr} {k : Nat} (c : Cu t h j l k) : j < h.objs.size := by
  obtain ⟨o, g, _⟩ := c.is
  exact Heap.lt_size g
theorem Sq.lt {t : Bool} {h : Heap} {l : Addr} {zs : Array Value} (c : Sq t h l zs) : l < h.objs.size := by
  cases t <;> (obtain ⟨o, g, _⟩ := c; exact Heap.lt_size g)
section
variable {prog : Program} {w : World} {A : Around} {E : Value → Shared → Prop} {s : Shared} {j l : Addr} {k : Nat} {zs : Array Value} {x : Value}
theorem tupNext {Q : Value → Shared → Prop} (c : s.heap.IsTupleIter j l k) (d : s.heap.IsTuple l zs) (e : zs[k]? = some x)
    (q : ∀ h', h'.IsTupleIter j l (k + 1) → Heap.SameBut j s.heap h' → Q x { s with heap := h' }) : wpAny (model prog w) A (Builtin.SmallTypes.nextOf (.ref j)) Q E s := by
  obtain ⟨oj, c1, c2, c3⟩ := id c
  obtain ⟨ol, d1, _, m, d3⟩ := d
  unfold Builtin.SmallTypes.nextOf
  refine wpAny_bind (wpAny_callSpecial?_slot (name := Str.ofString "__next__") c.typeIs F.slot_tuple_iterator_next (wpAny_call_entry F.slot_tuple_iterator_next c.typeIs F.entry_tuple_iterator_next ?_ (F.args_tuple_iterator_next_1 _)))
  show wpAny _ _ (field (.ref j) 0 >>= _) _ _ s
  refine wpAny_bind (wpAny_field c1 c3 (x := .ref l) rfl ?_)
  show wpAny _ _ (if (Value.ref l == .none) = true then _ else _) _ _ s
  rw [if_neg (by intro z; cases z)]
  show wpAny _ _ (field (.ref j) 1 >>= _) _ _ s
  refine wpAny_bind (wpAny_field c1 c3 (x := .int k 0) rfl ?_)
  refine wpAny_bind (wpAny_seqItems d1 d3 ?_)
  simp only [Int.toNat_natCast, e]
  refine wpAny_bind (wpAny_setField c1 c3 (by simp) (wpAny_pure ⟨x, rfl, wpAny_pure (q _ ⟨_, Heap.get?_update_self _ c1 (Obj.isFreed_of_fields (Obj.data_mapFields c3 _)), (Obj.cls_mapFields ..).trans c2, ?_⟩ (Heap.SameBut.update ..))⟩))
  rw [Obj.data_mapFields c3]; simp [rawInt]
theorem tupLast {Q : Value → Shared → Prop} (hd : A.handled = none) (c : s.heap.IsTupleIter j l k) (d : s.heap.IsTuple l zs) (e : zs[k]? = none)
    (q : ∀ h' a, Heap.ExtBut j s.heap h' → (∃ o, h'.get? a = some o ∧ o.cls = .type "StopIteration") → E (.ref a) { s with heap := h' }) : wpAny (model prog w) A (Builtin.SmallTypes.nextOf (.ref j)) Q E s := by
  obtain ⟨oj, c1, c2, c3⟩ := id c
  obtain ⟨ol, d1, _, m, d3⟩ := d
  unfold Builtin.SmallTypes.nextOf
  refine wpAny_bind (wpAny_callSpecial?_slot (name := Str.ofString "__next__") c.typeIs F.slot_tuple_iterator_next (wpAny_call_entry F.slot_tuple_iterator_next c.typeIs F.entry_tuple_iterator_next ?_ (F.args_tuple_iterator_next_1 _)))
  show wpAny _ _ (field (.ref j) 0 >>= _) _ _ s
  refine wpAny_bind (wpAny_field c1 c3 (x := .ref l) rfl ?_)
  show wpAny _ _ (if (Value.ref l == .none) = true then _ else _) _ _ s
  rw [if_neg (by intro z; cases z)]
  show wpAny _ _ (field (.ref j) 1 >>= _) _ _ s
  refine wpAny_bind (wpAny_field c1 c3 (x := .int k 0) rfl ?_)
  refine wpAny_bind (wpAny_seqItems d1 d3 ?_)
  simp only [Int.toNat_natCast, e]
  refine wpAny_bind (wpAny_rule (wpAny_bind (wpAny_setField c1 c3 (by simp) (wpAny_bind (m := newExc (.type "StopIteration") []) ?_))))
  simp only [newExc, newTuple]
  refine wpAny_bind (wpAny_newObj_type (wpAny_bind (m := firstArgMember _ _) (wpAny_of_eq (a := Value.none) (by first | rfl | (simp only [firstArgMember]; rfl)) (wpAny_newObj_type ?_ (by size_fits)))) (by size_fits))
  simp only [raiseNew]
  refine wpAny_bind (wpAny_handled ?_)
  first | rw [show A.in1.handled = none from hd] | rw [hd]
  exact wpAny_bind (wpAny_pure (wpAny_throw (q _ _ (((Heap.SameBut.update ..).extBut.push _).push _) ⟨_, Heap.get?_push_size _ rfl, rfl⟩)))
theorem curNext {t : Bool} {Q : Value → Shared → Prop} (c : Cu t s.heap j l k) (d : Sq t s.heap l zs) (e : zs[k]? = some x)
    (q : ∀ h', Cu t h' j l (k + 1) → Heap.SameBut j s.heap h' → Q x { s with heap := h' }) : wpAny (model prog w) A (Builtin.SmallTypes.nextOf (.ref j)) Q E s := by
  cases t
  · exact wpAny_nextOf_list_item c d e q
  · exact tupNext c d e q
theorem curLast {t : Bool} {Q : Value → Shared → Prop} (hd : A.handled = none) (c : Cu t s.heap j l k) (d : Sq t s.heap l zs) (e : zs[k]? = none)
    (q : ∀ h' a, Heap.ExtBut j s.heap h' → (∃ o, h'.get? a = some o ∧ o.cls = .type "StopIteration") → E (.ref a) { s with heap := h' }) : wpAny (model prog w) A (Builtin.SmallTypes.nextOf (.ref j)) Q E s := by
  cases t
  · exact wpAny_nextOf_list_end hd c d e q
  · exact tupLast hd c d e q
end
end DL

namespace DL
open PySem PySem.Spec PyProof.Rows L2
section
variable {prog : Program} {w : World} {A : Around} {E : Value → Shared → Prop} {s : Shared} {z TI TO i1 i2 l1 l2 : Addr} {k : Nat} {xs ys : Array Value} {x y a b : Value} {t1 t2 : Bool}
/-- a zip as it stands between two turns -/
structure Zp (t1 t2 : Bool) (h : Heap) (z TI TO i1 i2 l1 l2 : Addr) (k : Nat) : Prop where
  z : IsZip h z TI TO .none
  i : IsPair h TI (.ref i1) (.ref i2)
  o : ∃ a b, IsPair h TO a b
  c1 : Cu t1 h i1 l1 k
  c2 : Cu t2 h i2 l2 k
theorem zipNext {Q : Value → Shared → Prop} (D : ZipApart z TI TO i1 i2 l1 l2) (Z : Zp t1 t2 s.heap z TI TO i1 i2 l1 l2 k) (q1 : Sq t1 s.heap l1 xs) (q2 : Sq t2 s.heap l2 ys) (e1 : xs[k]? = some x) (e2 : ys[k]? = some y)
    (q : ∀ h', IsZip h' z TI TO (rawInt s.heap.objs.size) → IsPair h' TO x y → Cu t1 h' i1 l1 (k + 1) → Cu t2 h' i2 l2 (k + 1) → IsPair h' s.heap.objs.size x y → h'.objs.size = s.heap.objs.size + 1 →
      (∀ c o, c ≠ z → c ≠ TO → c ≠ i1 → c ≠ i2 → s.heap.get? c = some o → h'.get? c = some o) → Q (.ref s.heap.objs.size) { s with heap := h' }) :
    wpAny (model prog w) A (Builtin.«zip.__next__» ⟨[.ref z], []⟩) (fun f s' => ∃ v, f = .done (.ret v) ∧ Q v s') E s := by
  obtain ⟨hz, hI, ⟨a, b, hO⟩, c1, c2⟩ := Z
  show wpAny _ _ (field (.ref z) 2 >>= _) _ _ _
  refine wpAny_bind (wpAny_field hz rfl (x := .bool false) rfl (show wpAny _ _ (field (.ref z) 3 >>= _) _ _ _ from wpAny_bind (wpAny_field hz rfl (x := .ref TI) rfl (wpAny_bind (wpAny_seqItems hI rfl ?_)))))
  show wpAny _ _ (Builtin.SmallTypes.ownedTupleIsFree (.ref z) >>= _) _ _ _
  refine wpAny_bind ?_
  unfold Builtin.SmallTypes.ownedTupleIsFree
  refine wpAny_bind (wpAny_field hz rfl (x := .none) rfl (wpAny_pure ?_))
  simp only [if_true]
  refine wpAny_bind (wpAny_rule (wpAny_bind (wpAny_field hz rfl (x := .ref TO) rfl (wpAny_bind (wpAny_setField_rec hz (by simp) fun g1 z1 s1 => ?_)))))
  replace z1 : IsZip g1 z TI TO .ellipsis := z1
  refine wpAny_bind ?_
  simp only [List.zipIdx_cons, List.zipIdx_nil, List.forIn_cons, List.forIn_nil]
  refine wpAny_bind (wpAny_bind (wpAny_onRaise ?_))
  show wpAny _ _ (Builtin.SmallTypes.nextOf (.ref i1) >>= _) _ _ _
  refine wpAny_bind (curNext (s := { s with heap := g1 }) (c1.go fun o => s1.extBut _ o D.i1z) (q1.go fun o => s1.extBut _ o D.l1z) e1 fun g2 u2 s2 => wpAny_pure ?_)
  have O2 : IsPair g2 TO a b := s2.extBut _ _ D.TOi1 (s1.extBut _ _ D.TOz hO)
  refine wpAny_bind (wpAny_seqItems O2 rfl (wpAny_bind (wpAny_updateSeq_pair O2 fun g3 O3 s3 => ?_)))
  replace O3 : IsPair g3 TO x b := O3
  refine wpAny_bind (wpAny_letGo (wpAny_pure (wpAny_bind (wpAny_bind (wpAny_onRaise ?_)))))
  show wpAny _ _ (Builtin.SmallTypes.nextOf (.ref i2) >>= _) _ _ _
  refine wpAny_bind (curNext (s := { s with heap := g3 }) (c2.go fun o g => s3.extBut _ o D.TOi2.symm (s2.extBut _ o D.i12.symm (s1.extBut _ o D.i2z g))) (q2.go fun o g => s3.extBut _ o D.l2TO (s2.extBut _ o D.l2i1 (s1.extBut _ o D.l2z g))) e2 fun g4 u4 s4 => wpAny_pure ?_)
  have O4 : IsPair g4 TO x b := s4.extBut _ _ D.TOi2 O3
  refine wpAny_bind (wpAny_seqItems O4 rfl (wpAny_bind (wpAny_updateSeq_pair O4 fun g5 O5 s5 => ?_)))
  replace O5 : IsPair g5 TO x y := O5
  refine wpAny_bind (wpAny_letGo (wpAny_pure (wpAny_pure (wpAny_bind (wpAny_seqItems O5 rfl (wpAny_bind (wpAny_newTuple ?_)))))))
  have sz : g5.objs.size = s.heap.objs.size := by rw [s5.1, s4.1, s3.1, s2.1, s1.1]
  have z5 : IsZip g5 z TI TO .ellipsis := s5.extBut _ _ D.TOz.symm (s4.extBut _ _ D.i2z.symm (s3.extBut _ _ D.TOz.symm (s2.extBut _ _ D.i1z.symm z1)))
  have kp : ∀ c o, c ≠ z → c ≠ TO → c ≠ i1 → c ≠ i2 → s.heap.get? c = some o → g5.get? c = some o := fun c o n1 n2 n3 n4 g => s5.extBut _ _ n2 (s4.extBut _ _ n4 (s3.extBut _ _ n2 (s2.extBut _ _ n3 (s1.extBut _ _ n1 g))))
  have v1 : Cu t1 g5 i1 l1 (k + 1) := u2.go fun o g => s5.extBut _ o D.TOi1.symm (s4.extBut _ o D.i12 (s3.extBut _ o D.TOi1.symm g))
  have v2 : Cu t2 g5 i2 l2 (k + 1) := u4.go fun o g => s5.extBut _ o D.TOi2.symm g
  have zl : z < g5.objs.size := Heap.lt_size z5
  show wpAny _ _ (Builtin.SmallTypes.ownedTupleHandOut (.ref z) (.ref g5.objs.size) >>= _) _ _ _
  refine wpAny_bind ?_
  unfold Builtin.SmallTypes.ownedTupleHandOut
  have z6 : IsZip (g5.push { cls := .type "tuple", data := .seq #[x, y] }) z TI TO .ellipsis := Heap.get?_push_of_some _ z5
  refine wpAny_bind (wpAny_setField_rec z6 (by simp) fun g7 z7 s7 => ?_)
  replace z7 : IsZip g7 z TI TO (rawInt g5.objs.size) := z7
  refine wpAny_setField_rec z7 (by simp) fun g8 z8 s8 => ?_
  replace z8 : IsZip g8 z TI TO (rawInt g5.objs.size) := z8
  have up : ∀ c o, c ≠ z → g5.get? c = some o → g8.get? c = some o := fun c o n g => s8.extBut _ _ n (s7.extBut _ _ n (Heap.get?_push_of_some _ g))
  have T8 : IsPair g8 g5.objs.size x y := s8.extBut _ _ (Nat.ne_of_gt zl) (s7.extBut _ _ (Nat.ne_of_gt zl) (Heap.get?_push_size _ rfl))
  have n8 : g8.objs.size = g5.objs.size + 1 := by rw [s8.1, s7.1, Heap.size_push]
  rw [sz] at z8 T8 n8
  refine wpAny_pure ⟨_, rfl, ?_⟩
  show Q (.ref g5.objs.size) _
  rw [sz]
  exact q g8 z8 (up _ _ D.TOz O5) (v1.go fun o => up _ o D.i1z) (v2.go fun o => up _ o D.i2z) T8 n8 fun c o n1 n2 n3 n4 g => up c o n1 (kp c o n1 n2 n3 n4 g)
theorem zipLast {Q : Fin → Shared → Prop} (hd : A.handled = none) (D : ZipApart z TI TO i1 i2 l1 l2) (Z : Zp t1 t2 s.heap z TI TO i1 i2 l1 l2 k) (q1 : Sq t1 s.heap l1 xs) (q2 : Sq t2 s.heap l2 ys) (e : xs[k]? = none ∨ ys[k]? = none)
    (q : ∀ h' r, (∀ c o, c ≠ z → c ≠ TO → c ≠ i1 → c ≠ i2 → s.heap.get? c = some o → h'.get? c = some o) → (∃ o, h'.get? r = some o ∧ o.cls = .type "StopIteration") → E (.ref r) { s with heap := h' }) :
    wpAny (model prog w) A (Builtin.«zip.__next__» ⟨[.ref z], []⟩) Q E s := by
  obtain ⟨hz, hI, ⟨a, b, hO⟩, c1, c2⟩ := Z
  show wpAny _ _ (field (.ref z) 2 >>= _) _ _ _
  refine wpAny_bind (wpAny_field hz rfl (x := .bool false) rfl (show wpAny _ _ (field (.ref z) 3 >>= _) _ _ _ from wpAny_bind (wpAny_field hz rfl (x := .ref TI) rfl (wpAny_bind (wpAny_seqItems hI rfl ?_)))))
  show wpAny _ _ (Builtin.SmallTypes.ownedTupleIsFree (.ref z) >>= _) _ _ _
  refine wpAny_bind ?_
  unfold Builtin.SmallTypes.ownedTupleIsFree
  refine wpAny_bind (wpAny_field hz rfl (x := .none) rfl (wpAny_pure ?_))
  simp only [if_true]
  refine wpAny_bind (wpAny_rule (wpAny_bind (wpAny_field hz rfl (x := .ref TO) rfl (wpAny_bind (wpAny_setField_rec hz (by simp) fun g1 z1 s1 => ?_)))))
  replace z1 : IsZip g1 z TI TO .ellipsis := z1
  refine wpAny_bind ?_
  simp only [List.zipIdx_cons, List.zipIdx_nil, List.forIn_cons, List.forIn_nil]
  refine wpAny_bind (wpAny_bind (wpAny_onRaise ?_))
  show wpAny _ _ (Builtin.SmallTypes.nextOf (.ref i1) >>= _) _ _ _
  cases e1 : xs[k]? with
  | none =>
    refine wpAny_bind (curLast (s := { s with heap := g1 }) hd (c1.go fun o => s1.extBut _ o D.i1z) (q1.go fun o => s1.extBut _ o D.l1z) e1 fun g2 r s2 hr => ?_)
    obtain ⟨ro, r1, r2⟩ := hr
    have z2 : IsZip g2 z TI TO .ellipsis := s2 _ _ D.i1z.symm z1
    have rz : r ≠ z := fun v => by subst v; rw [z2] at r1; cases r1; simp at r2
    exact wpAny_setField_rec z2 (by simp) fun g3 _ s3 => q g3 r (fun c o n1 _ n3 _ v => s3.extBut _ _ n1 (s2 _ _ n3 (s1.extBut _ _ n1 v))) ⟨ro, s3.extBut _ _ rz r1, r2⟩
  | some x =>
    have e2 : ys[k]? = none := by rcases e with v | v; rw [e1] at v; cases v; exact v
    refine wpAny_bind (curNext (s := { s with heap := g1 }) (c1.go fun o => s1.extBut _ o D.i1z) (q1.go fun o => s1.extBut _ o D.l1z) e1 fun g2 u2 s2 => wpAny_pure ?_)
    have O2 : IsPair g2 TO a b := s2.extBut _ _ D.TOi1 (s1.extBut _ _ D.TOz hO)
    refine wpAny_bind (wpAny_seqItems O2 rfl (wpAny_bind (wpAny_updateSeq_pair O2 fun g3 O3 s3 => ?_)))
    refine wpAny_bind (wpAny_letGo (wpAny_pure (wpAny_bind (wpAny_bind (wpAny_onRaise ?_)))))
    show wpAny _ _ (Builtin.SmallTypes.nextOf (.ref i2) >>= _) _ _ _
    refine wpAny_bind (curLast (s := { s with heap := g3 }) hd (c2.go fun o g => s3.extBut _ o D.TOi2.symm (s2.extBut _ o D.i12.symm (s1.extBut _ o D.i2z g))) (q2.go fun o g => s3.extBut _ o D.l2TO (s2.extBut _ o D.l2i1 (s1.extBut _ o D.l2z g))) e2 fun g4 r s4 hr => ?_)
    obtain ⟨ro, r1, r2⟩ := hr
    have z4 : IsZip g4 z TI TO .ellipsis := s4 _ _ D.i2z.symm (s3.extBut _ _ D.TOz.symm (s2.extBut _ _ D.i1z.symm z1))
    have rz : r ≠ z := fun v => by subst v; rw [z4] at r1; cases r1; simp at r2
    exact wpAny_setField_rec z4 (by simp) fun g5 _ s5 => q g5 r (fun c o n1 n2 n3 n4 v => s5.extBut _ _ n1 (s4 _ _ n4 (s3.extBut _ _ n2 (s2.extBut _ _ n3 (s1.extBut _ _ n1 v))))) ⟨ro, s5.extBut _ _ rz r1, r2⟩
theorem zipItem {Q : Option Value → Shared → Prop} (D : ZipApart z TI TO i1 i2 l1 l2) (Z : Zp t1 t2 s.heap z TI TO i1 i2 l1 l2 k) (q1 : Sq t1 s.heap l1 xs) (q2 : Sq t2 s.heap l2 ys) (e1 : xs[k]? = some x) (e2 : ys[k]? = some y)
    (q : ∀ h', IsZip h' z TI TO (rawInt s.heap.objs.size) → IsPair h' TO x y → Cu t1 h' i1 l1 (k + 1) → Cu t2 h' i2 l2 (k + 1) → IsPair h' s.heap.objs.size x y → h'.objs.size = s.heap.objs.size + 1 →
      (∀ c o, c ≠ z → c ≠ TO → c ≠ i1 → c ≠ i2 → s.heap.get? c = some o → h'.get? c = some o) → Q (some (.ref s.heap.objs.size)) { s with heap := h' }) :
    wpAny (model prog w) A (pyNext (.ref z)) Q E s := by
  have ty : s.TypeIs (.ref z) "zip" := ⟨_, Z.z, rfl⟩
  unfold pyNext
  refine wpAny_bind (wpAny_attempt (wpAny_callSpecial?_slot (name := Str.ofString "__next__") ty F.slot_zip_next (wpAny_call_entry F.slot_zip_next ty F.entry_zip_next (zipNext D Z q1 q2 e1 e2 fun h' a1 a2 a3 a4 a5 a6 a7 => ?_) (F.args_zip_next_1 _))))
  exact wpAny_pure (q h' a1 a2 a3 a4 a5 a6 a7)
theorem zipEnd {Q : Option Value → Shared → Prop} (hd : A.handled = none) (D : ZipApart z TI TO i1 i2 l1 l2) (Z : Zp t1 t2 s.heap z TI TO i1 i2 l1 l2 k) (q1 : Sq t1 s.heap l1 xs) (q2 : Sq t2 s.heap l2 ys) (e : xs[k]? = none ∨ ys[k]? = none)
    (q : ∀ h', (∀ c o, c ≠ z → c ≠ TO → c ≠ i1 → c ≠ i2 → s.heap.get? c = some o → h'.get? c = some o) → Q none { s with heap := h' }) : wpAny (model prog w) A (pyNext (.ref z)) Q E s := by
  have ty : s.TypeIs (.ref z) "zip" := ⟨_, Z.z, rfl⟩
  unfold pyNext
  refine wpAny_bind (wpAny_attempt (wpAny_callSpecial?_slot (name := Str.ofString "__next__") ty F.slot_zip_next (wpAny_call_entry F.slot_zip_next ty F.entry_zip_next (zipLast hd D Z q1 q2 e fun h' r kp hr => ?_) (F.args_zip_next_1 _))))
  obtain ⟨o, r1, r2⟩ := hr
  exact wpAny_bind (wpAny_isInstance (T := "StopIteration") (b := true) ⟨o, r1, r2⟩ isSubtype_stop (wpAny_pure (q _ kp)))
end
end DL

namespace DL
open PySem PySem.Spec PyProof.Rows L2
abbrev itn (t : Bool) : String := if t = true then "tuple_iterator" else "list_iterator"
abbrev itO (t : Bool) (l : Addr) : Obj := { cls := .type (itn t), data := .fields #[.ref l, .int 0 0] }
theorem curIter {prog : Program} {w : World} {A : Around} {E : Value → Shared → Prop} {s : Shared} {t : Bool} {l : Addr} {zs : Array Value} {Q : Value → Shared → Prop} (c : Sq t s.heap l zs)
    (q : Q (.ref s.heap.objs.size) { s with heap := s.heap.push (itO t l) }) : wpAny (model prog w) A (pyIter (.ref l)) Q E s := by
  cases t
  · exact wpAny_pyIter_list c q
  · exact wpAny_pyIter_tuple c q
abbrev zA (t : Bool) (h : Heap) (l : Addr) : Heap := h.push (itO t l)
abbrev zB (t u : Bool) (h : Heap) (l m : Addr) : Heap := (zA t h l).push (itO u m)
abbrev zC (t u : Bool) (h : Heap) (l m : Addr) : Heap := (zB t u h l m).push { cls := .type "tuple", data := .seq #[.ref h.objs.size, .ref (zA t h l).objs.size] }
abbrev zD (t u : Bool) (h : Heap) (l m : Addr) : Heap := (zC t u h l m).push { cls := .type "tuple", data := .seq #[.none, .none] }
abbrev zE (t u : Bool) (h : Heap) (l m : Addr) : Heap := (zD t u h l m).push { cls := .type "zip", data := .fields #[.none, .bool false, .bool false, .ref (zB t u h l m).objs.size, .ref (zC t u h l m).objs.size] }
theorem zipNew (t u : Bool) (l m : Addr) (xs ys : Array Value) : Meets (Builtin.«zip.__new__» ⟨[.type "zip", .ref l, .ref m], []⟩) (fun _ R s => Sq t s.heap l xs ∧ Sq u s.heap m ys ∧
      R (.ok (.ret (.ref (zD t u s.heap l m).objs.size))) { s with heap := zE t u s.heap l m }) :=
  .of_wp fun prog w A R s h => by
    obtain ⟨hp, g, d, tk, os⟩ := s; obtain ⟨a1, a2, h⟩ := h
    have hsub := sub_zip
    have b1 : Sq t (Shared.heap ⟨hp, g, d, tk, os⟩) l xs := a1
    have b2 : Sq u (Shared.heap ⟨hp.push (itO t l), g, d, tk, os⟩) m ys := a2.go fun o e => Heap.get?_push_of_some _ e
    wp_walk using curIter b1, curIter b2
    exact ⟨_, rfl, h⟩
section
variable {prog : Program} {w : World} {A : Around} {E : Value → Shared → Prop} {s : Shared} {t u : Bool} {l m : Addr} {xs ys : Array Value}
theorem zipCall {Q : Value → Shared → Prop} (a1 : Sq t s.heap l xs) (a2 : Sq u s.heap m ys)
    (q : ∀ h', Zp t u h' (s.heap.objs.size + 4) (s.heap.objs.size + 2) (s.heap.objs.size + 3) s.heap.objs.size (s.heap.objs.size + 1) l m 0 → (∀ c o, s.heap.get? c = some o → h'.get? c = some o) → Q (.ref (s.heap.objs.size + 4)) { s with heap := h' }) :
    wpAny (model prog w) A (call (.type "zip") [.ref l, .ref m]) Q E s := by
  refine callType_new F.called_zip (by decide) (F.typeCall_zip_2 _ _) (F.newCall_zip_2 _ _) (fun obj => F.args_object_init_3 obj _ _) F.entry_zip_new (zipNew t u l m xs ys) ⟨a1, a2, ?_⟩
  have n1 : (zA t s.heap l).objs.size = s.heap.objs.size + 1 := Heap.size_push ..
  have n2 : (zB t u s.heap l m).objs.size = s.heap.objs.size + 2 := by rw [Heap.size_push, n1]
  have n3 : (zC t u s.heap l m).objs.size = s.heap.objs.size + 3 := by rw [Heap.size_push, n2]
  have n4 : (zD t u s.heap l m).objs.size = s.heap.objs.size + 4 := by rw [Heap.size_push, n3]
  have p5 : (zE t u s.heap l m).get? (zD t u s.heap l m).objs.size = some _ := Heap.get?_push_size _ rfl
  have p4 : (zE t u s.heap l m).get? (zC t u s.heap l m).objs.size = some _ := Heap.get?_push_of_some _ (Heap.get?_push_size _ rfl)
  have p3 : (zE t u s.heap l m).get? (zB t u s.heap l m).objs.size = some _ := Heap.get?_push_of_some _ (Heap.get?_push_of_some _ (Heap.get?_push_size _ rfl))
  have p2 : (zE t u s.heap l m).get? (zA t s.heap l).objs.size = some _ := Heap.get?_push_of_some _ (Heap.get?_push_of_some _ (Heap.get?_push_of_some _ (Heap.get?_push_size _ rfl)))
  have p1 : (zE t u s.heap l m).get? s.heap.objs.size = some _ := Heap.get?_push_of_some _ (Heap.get?_push_of_some _ (Heap.get?_push_of_some _ (Heap.get?_push_of_some _ (Heap.get?_push_size _ rfl))))
  show _ ∧ _
  rw [n2, n3, n4] at p5
  rw [n1, n2] at p3
  rw [n3] at p4
  rw [n1] at p2
  rw [n4]
  refine ⟨⟨_, p5, rfl⟩, q _ ⟨p5, p3, ⟨_, _, p4⟩, ?_, ?_⟩ fun c o v => Heap.get?_push_of_some _ (Heap.get?_push_of_some _ (Heap.get?_push_of_some _ (Heap.get?_push_of_some _ (Heap.get?_push_of_some _ v))))⟩
  · cases t <;> exact ⟨_, p1, rfl, rfl⟩
  · cases u <;> exact ⟨_, p2, rfl, rfl⟩
end
/-- a sequence in the heap of values -/
def SqB (t : Bool) (K : PySem.W.Frag) (H : Hp) (a : Addr) (xs : List V) : Prop := match t with
  | true => SqT K H a xs
  | false => SqL K H a xs
section
variable {X : Cx} {pins : List (Addr × Obj)} {σ : L2.St} {H : Hp} {s : Shared} {a : Addr} {xs ys : List V} {t : Bool}
theorem sqB_at (I : Inv X pins σ H s) (h : SqB t X.K H a xs) : ∃ its : List Value, Vals xs its ∧ Sq t s.heap a its.toArray := by
  cases t
  · obtain ⟨its, r, p, _⟩ := I.list h
    exact ⟨its, r, p.isList⟩
  · obtain ⟨its, r, p, _⟩ := I.tuple h
    exact ⟨its, r, p⟩
theorem sqB_inj (I : Inv X pins σ H s) (h : SqB t X.K H a xs) (h' : SqB t X.K H a ys) : xs = ys := by
  cases t
  · exact I.list_inj h h'
  · exact I.tuple_inj h h'
end
/-- the sequences at a and b, the items in new pairs -/
def Izz (t u : Bool) (K : PySem.W.Frag) (a b : Addr) : It :=
  ⟨fun i H => ∃ (xs ys : List V) (x y : V), SqB t K H a xs ∧ SqB u K H b ys ∧ xs[i]? = some x ∧ ys[i]? = some y,
    fun i H v H' => ∃ T x y, v = .ref T ∧ H T = none ∧ H' = upd H T (.tup [x, y]) ∧ (∀ xs, SqB t K H a xs → xs[i]? = some x) ∧ ∀ ys, SqB u K H b ys → ys[i]? = some y,
    fun i H => ∃ xs ys : List V, SqB t K H a xs ∧ SqB u K H b ys ∧ (xs.length ≤ i ∨ ys.length ≤ i)⟩
theorem turnZip {P : Program} {w : World} {K : PySem.W.Frag} {elts : List Expr} {kk : Nat} {tpos : Pos} {t u : Bool} {a b z TI TO i1 i2 : Addr} (D : ZipApart z TI TO i1 i2 a b) :
    Turn P w K (.Tuple elts kk tpos) (Izz t u K a b) [z, TI, TO, i1, i2] z (fun i h => Zp t u h z TI TO i1 i2 a b i) where
  mem := by simp
  obj := fun i h st c hc => by
    obtain ⟨hz, hI, ⟨x, y, hO⟩, c1, c2⟩ := st
    have v : c = z ∨ c = TI ∨ c = TO ∨ c = i1 ∨ c = i2 := by simpa using hc
    rcases v with v | v | v | v | v
    · rw [v]; exact ⟨_, hz, fun _ q => nomatch q⟩
    · rw [v]; exact ⟨_, hI, fun _ q => nomatch q⟩
    · rw [v]; exact ⟨_, hO, fun _ q => nomatch q⟩
    · rw [v]; exact c1.is
    · rw [v]; exact c2.is
  keep := fun i h h' st k => by
    obtain ⟨hz, hI, ⟨x, y, hO⟩, c1, c2⟩ := st
    exact ⟨k z (by simp) _ hz, k TI (by simp) _ hI, ⟨x, y, k TO (by simp) _ hO⟩, c1.go fun o => k i1 (by simp) o, c2.go fun o => k i2 (by simp) o⟩
  item := by
    intro X hP hw hK hc i pins s σ H E I hf st hg
    subst hP hw hK
    obtain ⟨xs, ys, x, y, hx, hy, ex, ey⟩ := hg
    obtain ⟨its, rv, p⟩ := sqB_at I hx
    obtain ⟨its2, rv2, p2⟩ := sqB_at I hy
    obtain ⟨v, hv, r1⟩ := rv.get ex
    obtain ⟨v2, hv2, r2⟩ := rv2.get ey
    have zl : z < s.heap.objs.size := Heap.lt_size st.z
    refine zipItem D st p p2 (x := v) (y := v2) (by simpa using hv) (by simpa using hv2) fun h' z' TO' u1 u2 hT hsz hk => ?_
    refine ⟨_, rfl, wpAny_letOwnedTupleGo_zip (s := { s with heap := h' }) z' fun g zg sb => ?_⟩
    have T2 : g.get? s.heap.objs.size = some { cls := .type "tuple", data := .seq #[v, v2] } := (sb.2 _ (Nat.ne_of_gt zl)).trans hT
    have new : ObjOk X.prog X.w (upd H s.heap.objs.size (.tup [x, y])) g s.heap.objs.size (.tup [x, y]) := ⟨by show 2 ≤ sizeLine; decide, [v, v2], .cons r1 (.cons r2 .nil), ⟨_, T2, rfl, _, rfl⟩⟩
    have I1 : Inv X pins σ (upd H s.heap.objs.size (.tup [x, y])) { s with heap := g } := by
      refine I.turnedNew (t' := s.toks) (ch := [z, TI, TO, i1, i2]) (fun c o hb q => (sb.2 c ?_).trans (hk c o ?_ ?_ ?_ ?_ q)) hf (Nat.le_refl _) new <;> (intro q'; exact hb (by simp [q']))
    refine ⟨.ref s.heap.objs.size, _, I1, rfl, ⟨_, x, y, rfl, I.hok.fresh (Nat.le_refl _), rfl, fun l hl => by rw [sqB_inj I hl hx]; exact ex, fun l hl => by rw [sqB_inj I hl hy]; exact ey⟩, ⟨zg, ?_, ⟨v, v2, ?_⟩, ?_, ?_⟩, fun c hcm => ?_⟩
    · exact (sb.2 _ D.TIz).trans (hk _ _ D.TIz D.TITO D.TIi1 D.TIi2 st.i)
    · exact (sb.2 _ D.TOz).trans TO'
    · exact u1.go fun o q => (sb.2 _ D.i1z).trans q
    · exact u2.go fun o q => (sb.2 _ D.i2z).trans q
    · have lt : c < s.heap.objs.size := by
        obtain ⟨hz, hI, ⟨x, y, hO⟩, c1, c2⟩ := st
        have v : c = z ∨ c = TI ∨ c = TO ∨ c = i1 ∨ c = i2 := by simpa using hcm
        rcases v with v | v | v | v | v
        · rw [v]; exact zl
        · rw [v]; exact Heap.lt_size hI
        · rw [v]; exact Heap.lt_size hO
        · rw [v]; exact c1.lt
        · rw [v]; exact c2.lt
      rw [upd_ne (Nat.ne_of_lt lt)]
      exact (hf c hcm).1
  done := by
    intro X hP hw hK hc i pins s σ H E I hf st hg
    subst hP hw hK
    obtain ⟨xs, ys, hx, hy, hend⟩ := hg
    obtain ⟨its, rv, p⟩ := sqB_at I hx
    obtain ⟨its2, rv2, p2⟩ := sqB_at I hy
    have l1 := rv.length
    have l2 := rv2.length
    have he : its.toArray[i]? = none ∨ its2.toArray[i]? = none := by
      rcases hend with q | q
      · exact .inl (by simp; omega)
      · exact .inr (by simp; omega)
    refine zipEnd (I.ok.hd hc) D st p p2 he fun h' hk => ⟨rfl, I.turnedL (t' := s.toks) (ch := [z, TI, TO, i1, i2]) (fun c o hb q => hk c o ?_ ?_ ?_ ?_ q) hf⟩ <;> (intro q'; exact hb (by simp [q']))
  self := fun A i s Q E st h => wpAny_pyIter_zip st.z h
/-- zip(e, e2) of two sequences -/
def iZz (t u : Bool) (K : PySem.W.Frag) (ta : TA) : TI := fun σ H R => ta σ H fun vs H1 => ∃ a b xs ys, vs = [.ref a, .ref b] ∧ SqB t K H1 a xs ∧ SqB u K H1 b ys ∧ R (Izz t u K a b) H1
theorem pi_zz {X : Cx} {t u : Bool} {e e2 : Expr} {ta : TA} {p pos tpos : Pos} {elts : List Expr} {kk : Nat} (hg : Gl X "zip") (hm : X.mg "zip" = none) (ha : PA X [e, e2] ta)
    (hs : starEach [e, e2] X.env = (false, eval e X.env) :: starEach [e2] X.env) (hpl : (backTo pos (starEach [e2] X.env)).any (·.1) = false) :
    PI X (.Tuple elts kk tpos) (.Call (.Name "zip" p) [e, e2] [] pos) (iZz t u X.K ta) := by
  intro pins s σ H R I h
  refine Call_ (ld_blt I hg hm boot_zip5 (PyProof.Rows.callWith_type1 (thn (ha pos pins s σ H _ I h) fun us s1 ⟨vs, H1, I1, r1, q1⟩ => ?_) hs hpl))
  obtain ⟨a, b, xs, ys, ex, hx, hy, q⟩ := q1
  subst ex
  cases r1 with
  | cons r rr =>
    cases rr with
    | cons r' rr =>
      cases rr
      cases r
      cases r'
      obtain ⟨its, rv, p1⟩ := sqB_at I1 hx
      obtain ⟨its2, rv2, p2⟩ := sqB_at I1 hy
      have la : a < s1.heap.objs.size := p1.lt
      have lb : b < s1.heap.objs.size := p2.lt
      refine zipCall p1 p2 fun h' Z hk => wpAny_pyIter_zip Z.z ?_
      have I2 : Inv X pins σ H1 { s1 with heap := h' } := I1.kept (t' := s1.toks) hk
      refine ⟨s1.heap.objs.size + 4, [s1.heap.objs.size + 4, s1.heap.objs.size + 2, s1.heap.objs.size + 3, s1.heap.objs.size, s1.heap.objs.size + 1], _, _, H1, rfl, I2, turnZip (PySem.W.ktu_apart s1.heap.objs.size a b la lb), Z, fun c hcm => ?_, q⟩
      have le : s1.heap.objs.size ≤ c := by
        have v : c = s1.heap.objs.size + 4 ∨ c = s1.heap.objs.size + 2 ∨ c = s1.heap.objs.size + 3 ∨ c = s1.heap.objs.size ∨ c = s1.heap.objs.size + 1 := by simpa using hcm
        rcases v with v | v | v | v | v <;> rw [v] <;> first | exact Nat.le_add_right _ _ | exact Nat.le_refl _
      exact I1.fpOk le (I1.hok.fresh le)
end DL

namespace DL
open PySem PySem.Spec PyProof.Rows L2
section
variable {X : Cx} {K : PySem.W.Frag} {e a b c tg : Expr} {pos : Pos}
theorem SqB.same {t : Bool} {G H : Hp} {p : Addr} {vs : List V} (s : Same G H) (h : SqB t K G p vs) : SqB t K H p vs := by
  cases t
  · exact s.seq h
  · exact s.sqT h
def pairD (d e : PyData) : PyData := .tuple [d, e]
theorem itd_zip {t u : Bool} {G0 : Hp} {p q : Addr} {vs us : List V} {ds es : List PyData} (h1 : SqB t K G0 p vs) (r1 : RpAll K G0 vs ds) (h2 : SqB u K G0 q us) (r2 : RpAll K G0 us es) : Itd K (Izz t u K p q) G0 (List.zipWith pairD ds es) where
  go := fun i G H s t hi => by
    rw [List.length_zipWith] at hi
    obtain ⟨v, g1, _⟩ := r1.at (List.getElem?_eq_getElem (show i < ds.length by omega))
    obtain ⟨v', g2, _⟩ := r2.at (List.getElem?_eq_getElem (show i < es.length by omega))
    exact ⟨vs, us, v, v', (h1.same s).same t, (h2.same s).same t, g1, g2⟩
  stop := fun i G H s t hi => by
    rw [List.length_zipWith] at hi
    refine ⟨vs, us, (h1.same s).same t, (h2.same s).same t, ?_⟩
    rw [r1.length, r2.length]; omega
  yld := fun i {as w G H x H'} s t y hi => by
    rw [List.length_zipWith] at hi
    obtain ⟨T, x1, x2, rfl, hT, rfl, y1, y2⟩ := y
    have l1 : i < ds.length := by omega
    have l2 : i < es.length := by omega
    obtain ⟨v, g1, g3⟩ := r1.at (List.getElem?_eq_getElem l1)
    obtain ⟨v', g2, g4⟩ := r2.at (List.getElem?_eq_getElem l2)
    have a1 := y1 vs ((h1.same s).same t.gh)
    have a2 := y2 us ((h2.same s).same t.gh)
    rw [g1] at a1; rw [g2] at a2
    have b1 : v = x1 := Option.some.inj a1
    have b2 : v' = x2 := Option.some.inj a2
    subst b1 b2
    obtain ⟨n1, n2⟩ := t.new (o := .tup [v, v']) hT
    refine ⟨pairD ds[i] es[i], _, ?_, n1, n2, .tup (xs := [v, v']) (.of (by rw [upd_same])) (.cons (Rp.mono n2.gg (Rp.mono s g3)) (.cons (Rp.mono n2.gg (Rp.mono s g4)) .nil))⟩
    rw [List.getElem?_zipWith, List.getElem?_eq_getElem l1, List.getElem?_eq_getElem l2]
def seqD : PyData → Option (List PyData)
  | .list ds => some ds
  | .tuple ds => some ds
  | _ => none
def zzD (d e : PyData) : Option (List PyData) := match seqD d, seqD e with
  | some ds, some es => some (List.zipWith pairD ds es)
  | _, _ => none
def zz : List DV → MM (List PyData)
  | [x, y] => bnd (frzM x) fun d => bnd (frzM y) fun e => opt (zzD d e)
  | _ => fail
def iZ (fr : FA) : FI := fun δ => bnd (fr δ) zz
def SqOf (t : Bool) (K : PySem.W.Frag) (d : PyData) (ds : List PyData) : Prop := ∀ (G : Hp) (v : V), Rp K G v d → ∃ p vs, v = .ref p ∧ SqB t K G p vs ∧ RpAll K G vs ds
theorem sqOf_list {ds : List PyData} : SqOf false K (.list ds) ds := fun G v h => by
  cases h with
  | lst h1 h2 => exact ⟨_, _, rfl, h1, h2⟩
theorem sqOf_tup {ds : List PyData} : SqOf true K (.tuple ds) ds := fun G v h => by
  cases h with
  | tup h1 h2 => exact ⟨_, _, rfl, h1, h2⟩
theorem zipKey {t u : Bool} {σ : L2.St} {δ : En} {as : List Addr} {w1 w2 w3 : Sr} {G1 H1 : Hp} {v1 v2 : V} {x y : DV} {d d' : PyData} {ds es : List PyData} {R : It → Hp → Prop} (o1 : SqOf t X.K d ds) (o2 : SqOf u X.K d' es) (R1 : Rel X.K σ δ as w1 G1 H1)
    (r1 : Vr X.K G1 as v1 x) (r2 : Vr X.K G1 as v2 y) (e2 : frz x w1 = some (d, w2)) (e3 : frz y w2 = some (d', w3))
    (kk : ∀ J G', Rel X.K σ δ as w3 G' H1 → Stp as G1 H1 as G' H1 → Itd X.K J G' (List.zipWith pairD ds es) → R J H1) :
    ∃ p q vs us, [v1, v2] = [.ref p, .ref q] ∧ SqB t X.K H1 p vs ∧ SqB u X.K H1 q us ∧ R (Izz t u X.K p q) H1 := by
  obtain ⟨G2, t2, S2, p2⟩ := frz_ok R1.st r1 e2
  obtain ⟨G3, t3, S3, p3⟩ := frz_ok t2 (r2.mono S2) e3
  obtain ⟨p, vs, rfl, q1, q2⟩ := o1 _ _ (Rp.mono S3.gg p2)
  obtain ⟨q, us, rfl, q3, q4⟩ := o2 _ _ p3
  exact ⟨p, q, vs, us, rfl, q1.same t3.gh, q3.same t3.gh, kk _ _ (R1.stp (S2.trans S3) t3) (S2.trans S3) (itd_zip q1 q2 q3 q4)⟩
theorem id_zip {elts : List Expr} {kk : Nat} {tpos p : Pos} {fr : FA} (hg : Gl X "zip") (hm : X.mg "zip" = none) (ha : AD X [a, b] fr) (hs : isStar a = false := by rfl) (hs2 : isStar b = false := by rfl) :
    ID X (.Tuple elts kk tpos) (.Call (.Name "zip" p) [a, b] [] pos) (iZ fr) := by
  obtain ⟨t, pa, k⟩ := ha.ex
  have st : starEach [a, b] X.env = (false, eval a X.env) :: starEach [b] X.env := stE _ _ _ hs
  have pl : (backTo pos (starEach [b] X.env)).any (·.1) = false := by rw [stE1 _ _ hs2]; rfl
  refine ⟨_, PI.or (PI.or (pi_zz (t := false) (u := false) hg hm pa st pl) (pi_zz (t := false) (u := true) hg hm pa st pl)) (PI.or (pi_zz (t := true) (u := false) hg hm pa st pl) (pi_zz (t := true) (u := true) hg hm pa st pl)), fun {σ δ as w G H ds w'} R hR he kk => ?_⟩
  obtain ⟨xs, w1, e1, he⟩ := bnd_some he
  unfold zz at he
  split at he
  · next x y =>
    obtain ⟨d, w2, e2, he⟩ := bnd_some he
    obtain ⟨d', w3, e3, he⟩ := bnd_some he
    obtain ⟨e4, rfl⟩ := opt_some he
    have key : ∀ {t' u' : Bool} {zs zs' : List PyData}, SqOf t' X.K d zs → SqOf u' X.K d' zs' → List.zipWith pairD zs zs' = ds → iZz t' u' X.K t σ H R := fun {t' u' zs zs'} o1 o2 hz => k _ hR e1 fun vs as1 G1 H1 R1 S1 r1 => by
      cases r1 with
      | cons h1 t1 =>
        cases t1 with
        | cons h2 t2 =>
          cases t2
          subst hz
          exact zipKey o1 o2 R1 h1 h2 e2 e3 fun J G' R3 S3 it => kk _ _ _ _ R3 (S1.trans S3) it
    cases d with
    | list zs =>
      cases d' with
      | list zs' => cases e4; exact .inl (.inl (key sqOf_list sqOf_list rfl))
      | tuple zs' => cases e4; exact .inl (.inr (key sqOf_list sqOf_tup rfl))
      | _ => cases e4
    | tuple zs =>
      cases d' with
      | list zs' => cases e4; exact .inr (.inl (key sqOf_tup sqOf_list rfl))
      | tuple zs' => cases e4; exact .inr (.inr (key sqOf_tup sqOf_tup rfl))
      | _ => cases e4
    | _ => cases e4
  · cases he
end
end DL

namespace DL
open PySem PySem.Spec PyProof.Rows L2
def idxF (items : Array Value) (x : Value) : Nat → Option Fin × Unit → Sem (ForInStep (Option Fin × Unit)) := fun i _ =>
  match items[i]? with
  | some y => do
    let b ← eqBool y x
    if b = true then do
      let r ← retInt (i : Nat)
      pure (ForInStep.done (some r, ()))
    else pure (ForInStep.yield (none, ()))
  | _ => pure (ForInStep.yield (none, ()))
theorem idx_steps {prog : Program} {w : World} {A : Around} {E : Value → Shared → Prop} {items : Array Value} {x : Value} {e : Value → Bool} {j : Nat} {s : Shared} {Q : Option Fin × Unit → Shared → Prop} (hj : j < items.size) (hit : e items[j] = true) (hno : ∀ m (hm : m < items.size), m < j → e items[m] = false)
    (he : ∀ y, y ∈ items → SeqAt.EqAt A s y x (e y)) (h : Q (some (.done (.ret (.int j s.toks))), ()) { s with toks := s.toks + 1 }) : ∀ (k i : Nat), i + k = j → ∀ c, i + c = items.size → wpAny (model prog w) A (forIn (List.range' i c) (none, ()) (idxF items x)) Q E s
  | 0, i, hi, c, hc => by
    obtain ⟨c', rfl⟩ : ∃ c', c = c' + 1 := ⟨c - 1, by omega⟩
    have hij : i = j := by omega
    subst hij
    rw [List.range'_succ, List.forIn_cons]
    refine wpAny_bind ?_
    unfold idxF
    rw [Array.getElem?_eq_getElem hj]
    refine wpAny_bind (he _ (Array.getElem_mem hj) prog w _ _ ?_)
    rw [hit]
    obtain ⟨hp, g, d, tk, os⟩ := s
    wp_walk
    exact h
  | k + 1, i, hi, c, hc => by
    obtain ⟨c', rfl⟩ : ∃ c', c = c' + 1 := ⟨c - 1, by omega⟩
    have hlt : i < items.size := by omega
    rw [List.range'_succ, List.forIn_cons]
    refine wpAny_bind ?_
    unfold idxF
    rw [Array.getElem?_eq_getElem hlt]
    refine wpAny_bind (he _ (Array.getElem_mem hlt) prog w _ _ ?_)
    rw [hno i hlt (by omega)]
    simp only [Bool.false_eq_true, if_false]
    refine wpAny_pure ?_
    exact idx_steps hj hit hno he h k (i + 1) (by omega) c' (by omega)
theorem tupIdx (l : Addr) (items : Array Value) (n : Nat) (dd : Option Addr) (sl : Array (Option Value)) (x : Value) (e : Value → Bool) (j : Nat) (hj : j < items.size) (hit : e items[j] = true) (hno : ∀ m (hm : m < items.size), m < j → e items[m] = false) :
    Meets (Builtin.«tuple.index» ⟨[.ref l, x], []⟩)
      (fun A R s => s.heap.get? l = some { cls := .type "tuple", dict := dd, data := .seq items n, slots := sl } ∧ (∀ y, y ∈ items → SeqAt.EqAt A.in1 s y x (e y)) ∧ R (.ok (.ret (.int j s.toks))) { s with toks := s.toks + 1 }) := by
  intro prog w A R s h
  obtain ⟨hp, g, d, tk, os⟩ := s; obtain ⟨hl, he, h⟩ := h
  wp_walk using wpAny_loadPart' hl
  change wpAny (model prog w) A.in1 (forIn [:min items.size items.size] (none, ()) (idxF items x)) _ _ _
  rw [Std.Legacy.Range.forIn_eq_forIn_range']
  refine idx_steps hj hit hno he ?_ j 0 (Nat.zero_add j) _ ?_
  · exact wpAny_pure h
  · simp [Std.Legacy.Range.size]
end DL

namespace DL
open PySem PySem.Spec PyProof.Rows L2
section
variable {X : Cx} {K : PySem.W.Frag} {a b c e f : Expr} {pos apos cpos : Pos}
/-! ### t.index(y), t a tuple of the module, texts -/
def rTix (K : PySem.W.Frag) : V → List V → Hp → VK → Prop := fun x xs H Q => ∃ (a : Addr) (ys : List V) (y : V) (j : Nat) (z : V), x = V.ref a ∧ xs = [y] ∧ SqT K H a ys ∧ flatV y = true ∧ ys.all flatV = true ∧ ys[j]? = some z ∧ eqV z y = true ∧
  (∀ (m : Nat) (z' : V), m < j → ys[m]? = some z' → eqV z' y = false) ∧ Q (.int (j : Nat)) H
theorem mt_tix : MtR X "tuple.index" (rTix X.K) := by
  intro pins s σ H x xs v us Q I rx rxs h
  obtain ⟨a, ys, y, j, z, rfl, rfl, hs, fy, fys, hz, hzj, hno, q⟩ := h
  cases rx
  cases rxs with
  | cons ry rt =>
    rename_i uy ut
    cases rt
    obtain ⟨its, rv, ⟨⟨cls, dd, data, sl⟩, ho, hc, n, hd⟩, hlen⟩ := I.tuple hs
    simp only at hc hd
    subst hc hd
    obtain ⟨u, hu, ru⟩ := rv.get hz
    obtain ⟨hjl, hje⟩ := List.getElem?_eq_some_iff.mp hu
    have hvl := rv.length
    have hj : j < its.toArray.size := by simpa using hjl
    refine call_meets PySem.F.slot_tuple_index ⟨_, ho, rfl⟩ PySem.F.entry_tuple_index (PySem.F.args_tuple_index_2 _ _) (tupIdx a its.toArray n dd sl uy (eqU y) j hj ?_ ?_) ⟨ho, fun u' hu' => mem_eqAt ry fy rv fys u' (by simpa using hu'), ?_⟩
    · have e1 : its.toArray[j] = u := by simpa using hje
      rw [e1, eqU_of ru (flat_at fys hz)]
      exact hzj
    · intro m hm hmj
      have hml : m < its.length := by simpa using hm
      have hmy : m < ys.length := by omega
      have hy' : ys[m]? = some ys[m] := List.getElem?_eq_getElem hmy
      obtain ⟨u2, hu2, ru2⟩ := rv.get hy'
      obtain ⟨_, hme⟩ := List.getElem?_eq_some_iff.mp hu2
      have e1 : its.toArray[m] = u2 := by simpa using hme
      rw [e1, eqU_of ru2 (flat_at fys hy')]
      exact hno m _ hmj hy'
    · exact ⟨.int (j : Nat), H, I.tok _, ⟨_, rfl⟩, q⟩
/-- a tuple of texts of the module -/
structure KTup (K : PySem.W.Frag) (mg : Str → Option Value) (x : Str) (l : List Str) : Prop where
  ex : ∃ (p : Addr) (o : Obj) (its : Array Value) (n : Nat), mg x = some (.ref p) ∧ K.lookup p = some o ∧ o.cls = .type "tuple" ∧ o.dict = none ∧ o.data = .seq its n ∧ its.size ≤ sizeLine ∧ Vals (l.map V.str) its.toList
def tixP (l : List Str) : PyData → Option PyData
  | .str z => (l.findIdx? fun y => y == z).map fun j => .int (j : Nat)
  | _ => none
def eTix (l : List Str) (fe : FE) : FE := fun δ => bnd (fe δ) fun y => match y with
  | .dat d => bnd (opt (tixP l d)) fun r => ret (.dat r)
  | _ => fail
theorem ed_tix {x : Str} {l : List Str} {p : Pos} {fe : FE} (hg : Gl X x) (h : KTup X.K X.mg x l) (he : ED X e fe) (hs : isStar e = false := by rfl) (hd : (x == ("__debug__" : Str)) = false := by decide)
    (hbase : attributeBase (.Name x p) "index" X.env (eval (.Name x p) X.env) = eval (.Name x p) X.env := by rfl)
    (hfew : ((backTo cpos (starEach [e] X.env)).all (fun x => !x.1) && (backToKw cpos (keywordEach [] X.env)).all (fun x => x.1.isSome)
      && decide ([e].length + ([] : List Keyword).length + (if ([] : List Keyword).isEmpty then 0 else 1) < 30)) = true := by rfl)
    (hline : (apos.endLine == cpos.line) = true := by rfl) (hst : starEach [e] X.env = (false, eval e X.env) :: starEach [] X.env := by exact stE _ _ _ rfl) (hplain : (backTo cpos (starEach [] X.env)).any (·.1) = false := by rfl) :
    ED X (.Call (.Attribute (.Name x p) "index" apos) [e] [] cpos) (eTix l fe) := by
  obtain ⟨pa, o, its, n, h1, h2, h3, h4, h5, h6, h7⟩ := h.ex
  obtain ⟨t, pe, k⟩ := he.ex
  refine ⟨_, pe_bm PySem.F.plainAttrs_tuple PySem.F.slot_tuple_index PySem.F.type_tuple_index mt_tix (pe_glob (v := .ref pa) hg h1 rfl hd) (pa_cons pe pa_nil hs) hbase hfew hline hst hplain, fun Q hR he kk => ?_⟩
  obtain ⟨y, w1, e1, he1⟩ := bnd_some he
  cases y with
  | ref _ => cases he1
  | fn _ => cases he1
  | dat d =>
    obtain ⟨r, w2, e2, he2⟩ := bnd_some he1
    obtain ⟨e3, rfl⟩ := opt_some e2
    obtain ⟨rfl, rfl⟩ := ret_some he2
    refine ⟨.inr (.inl ⟨rfl, o, h2, h3, h4⟩), k _ hR e1 fun v2 as2 G2 H2 R2 S2 r2 => ?_⟩
    cases d with
    | str z =>
      cases r2
      obtain ⟨j, j1, j2⟩ := Option.map_eq_some_iff.mp e3
      cases j2
      obtain ⟨jl, j3, j4⟩ := List.findIdx?_eq_some_iff_getElem.mp j1
      refine ⟨pa, l.map V.str, .str z, j, .str l[j], rfl, rfl, .inr ⟨o, its, n, h2, h3, h5, h6, h7⟩, rfl, ?_, ?_, j3, fun m z' hm hz' => ?_, kk _ _ _ _ R2 S2 (.int _)⟩
      · rw [List.all_eq_true]
        intro v hv
        obtain ⟨q, _, rfl⟩ := List.mem_map.mp hv
        rfl
      · rw [List.getElem?_map, List.getElem?_eq_getElem jl]; rfl
      · rw [List.getElem?_map] at hz'
        obtain ⟨q, q1, rfl⟩ := Option.map_eq_some_iff.mp hz'
        obtain ⟨ml, rfl⟩ := List.getElem?_eq_some_iff.mp q1
        have := j4 m hm
        simpa [eqV] using this
    | _ => cases e3
/-! ### d.get(k, x), d.update({..}), dict(d): d a dict that may change -/
def isD (x : DV) : MM Unit := fun w => match x with
  | .ref k => match w[k]? with
    | some (.dic _) => some ((), w)
    | _ => none
  | _ => none
def rUpd : V → List V → Hp → VK → Prop := fun x xs H Q => ∃ (p q : Addr) (kvs more : List (Key × V)), x = V.ref p ∧ xs = [.ref q] ∧ p ≠ q ∧ H p = some (.dK kvs) ∧ H q = some (.dK more) ∧ kvs.length + more.length ≤ 1000000 ∧ Q .non (upd H p (.dK (mergeK kvs more)))
theorem mt_upd : MtR X "dict.update" rUpd := by
  intro pins s σ H x xs v us Q I rx rxs h
  obtain ⟨p, q, kvs, more, rfl, rfl, ne, hp, hq, hl, k⟩ := h
  cases rx
  cases rxs with
  | cons ry rt =>
    cases rt
    cases ry
    obtain ⟨z1, n1, vs1, rel1, d1⟩ := dk_of I.hok hp
    obtain ⟨z2, n2, vs2, rel2, d2⟩ := dk_of I.hok hq
    have l1 := rel1.length
    have l2 := rel2.length
    refine call_meetsIn PySem.F.slot_dict_update d1.typeIs PySem.F.entry_dict_update (PySem.F.args_dict_update_2 _ _) (meets_dict_update (mixKind X.prog X.w) p q ne n2) ⟨vs1, vs2, d1, d2, by rw [← l1, ← l2]; exact big6 hl, fun h' a1 a2 sb => ?_⟩
    have hz : (mergeK kvs more).length ≤ sizeLine := Nat.le_trans (length_mergeK more kvs) (big6 hl)
    have he : ∃ o, h'.get? p = some o := let ⟨o, _, _, ho, _⟩ := a1; ⟨o, ho⟩
    exact ⟨.non, _, d_write (t' := s.toks) I (by rw [hp]; exact True.intro) sb he (dk_new hz n1 (rel2.merge rel1) a1), rfl, k⟩
end
end DL

namespace DL
open PySem PySem.Spec PyProof.Rows L2
section
variable {X : Cx} {K : PySem.W.Frag} {a b c e f : Expr} {pos apos cpos : Pos}
def nUpd (x y : DV) : MM DV := fun w => match x, y with
  | .ref k, .ref j => if k = j then none else match w[k]?, w[j]? with
    | some (.dic kvs), some (.dic more) => if kvs.length + more.length ≤ 1000000 then some (.dat .none, w.set k (.dic (mergeA kvs more))) else none
    | _, _ => none
  | _, _ => none
def eUpd (fo fe : FE) : FE := fun δ => bnd (fo δ) fun x => bnd (isD x) fun _ => bnd (fe δ) fun y => nUpd x y
theorem ed_upd {fo fe : FE} (ho : ED X a fo) (h : ED X e fe) (hs : isStar e = false := by rfl) (hbase : attributeBase a "update" X.env (eval a X.env) = eval a X.env := by rfl)
    (hfew : ((backTo cpos (starEach [e] X.env)).all (fun x => !x.1) && (backToKw cpos (keywordEach [] X.env)).all (fun x => x.1.isSome)
      && decide ([e].length + ([] : List Keyword).length + (if ([] : List Keyword).isEmpty then 0 else 1) < 30)) = true := by rfl)
    (hline : (apos.endLine == cpos.line) = true := by rfl) (hst : starEach [e] X.env = (false, eval e X.env) :: starEach [] X.env := by exact stE _ _ _ rfl) (hplain : (backTo cpos (starEach [] X.env)).any (·.1) = false := by rfl) :
    ED X (.Call (.Attribute a "update" apos) [e] [] cpos) (eUpd fo fe) := by
  obtain ⟨to, po, ko⟩ := ho.ex
  obtain ⟨t, p, k⟩ := h.ex
  refine ⟨_, pe_bm PySem.F.plainAttrs_dict PySem.F.slot_dict_update PySem.F.type_dict_update mt_upd po (pa_cons p pa_nil hs) hbase hfew hline hst hplain, fun Q hR he kk => ?_⟩
  obtain ⟨x, w1, e1, he1⟩ := bnd_some he
  obtain ⟨u, w0, e0, he2⟩ := bnd_some he1
  obtain ⟨y, w2, e2, he3⟩ := bnd_some he2
  refine ko _ hR e1 fun v1 as1 G1 H1 R1 S1 r1 => ?_
  cases x with
  | dat d => cases e0
  | fn d => cases e0
  | ref kx =>
    obtain ⟨l, h1, rfl⟩ := r1
    unfold isD at e0
    dsimp only at e0
    split at e0
    · next cs0 q0 =>
      cases e0
      obtain ⟨vs0, f1, f2, f3⟩ := R1.st.ok kx l _ h1 q0
      refine ⟨.inr (.inr (.inl ⟨rfl, .inl ⟨_, f1⟩⟩)), k _ R1 e2 fun v2 as2 G2 H2 R2 S2 r2 => ?_⟩
      unfold nUpd at he3
      cases y with
      | dat d => cases he3
      | fn d => cases he3
      | ref ky =>
        obtain ⟨l2, h2, rfl⟩ := r2
        dsimp only at he3
        split at he3
        · cases he3
        · next hne =>
          split at he3
          · next kvs more q1 q2 =>
            split at he3
            · next hz =>
              cases he3
              have h1' := S2.at h1
              obtain ⟨us, g1, g2, g3⟩ := R2.st.ok kx l _ h1' q1
              obtain ⟨us2, g4, g5, g6⟩ := R2.st.ok ky l2 _ h2 q2
              have ne : l ≠ l2 := fun z => by
                subst z
                obtain ⟨i1, i2⟩ := List.getElem?_eq_some_iff.mp h1'
                obtain ⟨i3, i4⟩ := List.getElem?_eq_some_iff.mp h2
                exact hne ((List.getElem_inj R2.st.nd).mp (i2.trans i4.symm))
              obtain ⟨T, S⟩ := R2.st.put (o := .dK (mergeK us us2)) (n := .dic (mergeA kvs more)) h1' q1 g3 fun S => ⟨_, upd_same, mergeA_ok g5 g2, g3⟩
              exact ⟨l, l2, us, us2, rfl, rfl, ne, g1, g4, by rw [g2.length, g5.length]; exact hz, kk _ _ _ _ (R2.stp S T) ((S1.trans S2).trans S) .non⟩
            · cases he3
          · cases he3
    · cases e0
theorem cr_dictD : CallR X (.type "dict") (fun xs H Q => ∃ (p : Addr) (kvs : List (Key × V)), xs = [.ref p] ∧ Rd H p (.dK kvs) ∧ ∀ q, H q = none → Q (.ref q) (upd H q (.dK kvs))) := by
  intro pins s σ H xs us Q I r h
  obtain ⟨p, kvs, rfl, hp, q⟩ := h
  rw [Vals.ref1 r]
  obtain ⟨z1, n1, vs1, rel1, d1⟩ := dk_rd I.hok hp
  refine PySem.kt_call_dict (knd := mixKind X.prog X.w) n1 d1 (by rw [← rel1.length]; exact z1) fun h' d2 sb => ?_
  have hm : (s.heap.objs.size == sysModules) = false := beq_eq_false_iff_ne.mpr (Nat.ne_of_gt I.big)
  refine ⟨.ref s.heap.objs.size, upd H s.heap.objs.size (.dK kvs), I.laid (t' := s.toks) (fun c o g => ?_) (Nat.le_refl _) (show ObjOk X.prog X.w _ _ _ (.dK kvs) from ⟨z1, hm, vs1, rel1, d2⟩), rfl, q _ (I.hok.fresh (Nat.le_refl _))⟩
  exact (sb.2 c (Nat.ne_of_lt (Heap.lt_size g))).trans (Heap.get?_push_of_some _ g)
end
end DL

namespace DL
open PySem PySem.Spec PyProof.Rows L2
/-! ### sorted(d), d a dict whose keys are texts -/
theorem strs_at : ∀ {vs : List Value} {ks : List (Key × Value)} {ss : List Str}, vs.length = ks.length → (∀ (j : Nat) (v : Value), vs[j]? = some v → ∃ k x, ks[j]? = some (k, x) ∧ keyIs k v = true) → ks.map (·.1) = ss.map .inr → StrsAre vs ss
  | [], [], [], _, _, _ => .nil
  | [], [], _ :: _, _, _, h => by cases h
  | [], _ :: _, _, h, _, _ => by cases h
  | _ :: _, [], _, h, _, _ => by cases h
  | _ :: _, _ :: _, [], _, _, h => by cases h
  | v :: vs, (k, x) :: ks, s :: ss, hl, hp, hk => by
    obtain ⟨k', x', e1, e2⟩ := hp 0 v rfl
    have e1' : (k, x) = (k', x') := Option.some.inj e1
    cases e1'
    have hk1 : k = .inr s := (List.cons.inj hk).1
    subst hk1
    have hk2 : ks.map (·.1) = ss.map .inr := (List.cons.inj hk).2
    rcases keyIs_shape e2 with ⟨i, t, z, _⟩ | ⟨y, t, z, rfl⟩
    · cases z
    · cases z
      exact .cons s t (strs_at (by simpa using hl) (fun j u hu => hp (j + 1) u hu) hk2)
open PySem.W in
/-- what a dict is gone through to; the heap behind is larger -/
theorem collD {prog : Program} {w : World} {A : Around} {E : Value → Shared → Prop} {s : Shared} {T : String} {r d : Addr} {n : Nat} {P : Nat → Value → Prop} {OK : Heap → Prop} {R : List Value → Shared → Prop} (S : KdlSrc prog w T r d n P OK) (hd : A.handled = none) (o : OK s.heap) (z : n ≤ sizeLine)
    (q : ∀ (g : Heap) (tk : Nat) (out : Array Value), (∀ b o, s.heap.get? b = some o → g.get? b = some o) → s.heap.objs.size < g.objs.size → ItemsOf P out n → R out.toList { s with heap := g, toks := tk }) : wpAny (model prog w) A (collect (.ref r)) R E s := by
  have th := S.there _ o
  unfold collect
  refine wpAny_bind (wpAny_runValue (codeAny_builtin entry_proto_collect' ?_))
  rw [Around.under_plainId PySem.F.plain_proto_collect _]
  show wpAny _ A.in1 (newList [] >>= fun l => again (.builtin "list.__iadd__" ⟨[l, .ref r], []⟩)) _ _ s
  refine wpAny_bind (wpAny_newObj_type (wpAny_pure ⟨plainId_quiet PySem.F.plain_list_iadd _, codeAny_builtin entry_list_iadd' ?_⟩))
  rw [Around.under_plainId PySem.F.plain_list_iadd _]
  have new : (s.heap.push { cls := .type "list", data := .seq ([] : List Value).toArray }).get? s.heap.objs.size = some { cls := .type "list", data := .seq #[] } := Heap.get?_push_size _ rfl
  show wpAny _ A.in1 (Builtin.List.listExtendWith (.ref s.heap.objs.size) (.ref r) (.ref s.heap.objs.size)) _ _ _
  have ext := kdl_extend (A := A) (s := { s with heap := s.heap.push { cls := .type "list", data := .seq ([] : List Value).toArray } })
    (R := fun (v : Result) (s' : Shared) => ∃ (g : Heap) (tk : Nat) (out : Array Value) (c : Nat), v = .ok (.ret (.ref s.heap.objs.size)) ∧ s' = { s with heap := g, toks := tk } ∧
      (∀ b o, s.heap.get? b = some o → g.get? b = some o) ∧ g.get? s.heap.objs.size = some { cls := .type "list", dict := none, data := .seq out c, slots := #[] } ∧ ItemsOf P out n)
    S hd (S.keep _ _ o fun b _ o e => Heap.get?_push_of_some _ e) s.heap.objs.size (Nat.ne_of_gt th.1) (Nat.ne_of_gt th.2) (.ref s.heap.objs.size) 0 new
    (fun g tk out c kp hg it => ⟨g, tk, out, c, rfl, rfl, fun b o e => kp b o (Nat.ne_of_lt (Heap.lt_size e)) (Heap.get?_push_of_some _ e), hg, it⟩) z
  have fin : ∀ (g : Heap) (tk : Nat) (out : Array Value) (c : Nat), (∀ b o, s.heap.get? b = some o → g.get? b = some o) → g.get? s.heap.objs.size = some { cls := .type "list", dict := none, data := .seq out c, slots := #[] } → ItemsOf P out n → R out.toList { s with heap := g, toks := tk } :=
    fun g tk out c kp hg it => q g tk out kp (Heap.lt_size hg) it
  refine wpAny_mono ext (fun v s' x => ?_) fun e s' x => ?_
  · cases v with
    | done f =>
      obtain ⟨g, tk, out, c, e, rfl, kp, hg, it⟩ := x
      cases e
      show wpAny _ A (load s.heap.objs.size >>= _) _ _ _
      exact wpAny_bind (wpAny_load hg (wpAny_pure (fin g tk out c kp hg it)))
    | again c₁ =>
      refine ⟨x.1, codeAny_mono x.2 fun v s₂ y => ?_⟩
      obtain ⟨g, tk, out, c, rfl, rfl, kp, hg, it⟩ := y
      show wpAny _ A (load s.heap.objs.size >>= _) _ _ _
      exact wpAny_bind (wpAny_load hg (wpAny_pure (fin g tk out c kp hg it)))
  · obtain ⟨_, _, _, _, e', _⟩ := x
    cases e'
section
variable {X : Cx} {K : PySem.W.Frag} {a b c e f : Expr} {pos apos cpos : Pos}
theorem kv_keys {kvs : List (Key × V)} {vs : List (Key × Value)} (r : KV kvs vs) : kvs.map (·.1) = vs.map (·.1) := by
  induction r with
  | nil => rfl
  | cons h t ih => rw [List.map_cons, List.map_cons, ih, h.1]
end
end DL

namespace DL
open PySem PySem.Spec PyProof.Rows L2
def leS (a b : Str) : Prop := ltCps b.cps.toList a.cps.toList = false
theorem leS_le {a b : Str} : leS a b ↔ a.cps.toList ≤ b.cps.toList := by
  unfold leS
  rw [ltCps_eq, decide_eq_false_iff_not]
  exact List.not_lt
theorem leS_trans {a b c : Str} (h : leS a b) (g : leS b c) : leS a c := leS_le.mpr (List.le_trans (leS_le.mp h) (leS_le.mp g))
theorem leS_anti {a b : Str} (h : leS a b) (g : leS b a) : a = b := by
  have e := List.le_antisymm (leS_le.mp h) (leS_le.mp g)
  cases a; cases b
  congr 1
  exact Array.toList_inj.mp e
theorem rising_all : ∀ {l : List Str} {p : Str}, risingS p l = true → l.Pairwise leS ∧ ∀ x ∈ l, leS p x
  | [], _, _ => ⟨.nil, fun _ h => by cases h⟩
  | x :: r, p, h => by
    unfold risingS at h
    rw [Bool.and_eq_true] at h
    have hp : leS p x := by
      unfold leS
      simpa using h.1
    obtain ⟨g1, g2⟩ := rising_all h.2
    refine ⟨.cons g2 g1, fun y hy => ?_⟩
    rcases List.mem_cons.mp hy with rfl | hy
    · exact hp
    · exact leS_trans hp (g2 y hy)
theorem sorted_pw : ∀ {l : List Str}, sortedS l = true → l.Pairwise leS
  | [], _ => .nil
  | x :: r, h => by
    obtain ⟨g1, g2⟩ := rising_all (show risingS x r = true from h)
    exact .cons g2 g1
theorem sorted_one {l m : List Str} (hp : l.Perm m) (h : sortedS l = true) (g : sortedS m = true) : l = m :=
  hp.eq_of_pairwise (fun _ _ _ _ h1 h2 => leS_anti h1 h2) (sorted_pw h) (sorted_pw g)
def insS (x : Str) : List Str → List Str
  | [] => [x]
  | y :: r => if ltCps y.cps.toList x.cps.toList = true then y :: insS x r else x :: y :: r
def srtS : List Str → List Str
  | [] => []
  | x :: r => insS x (srtS r)
theorem insS_perm (x : Str) : ∀ l, (insS x l).Perm (x :: l)
  | [] => .refl _
  | y :: r => by
    unfold insS
    split
    · exact ((insS_perm x r).cons y).trans (.swap x y r)
    · exact .refl _
theorem srtS_perm : ∀ l, (srtS l).Perm l
  | [] => .nil
  | x :: r => (insS_perm x _).trans ((srtS_perm r).cons x)
def strKeys {α : Type} : List (Key × α) → Option (List Str)
  | [] => some []
  | (.inr x, _) :: r => (strKeys r).map fun l => x :: l
  | _ :: _ => none
theorem strKeys_ok {α : Type} : ∀ {kvs : List (Key × α)} {ss : List Str}, strKeys kvs = some ss → kvs.map (·.1) = ss.map .inr
  | [], _, h => by cases h; rfl
  | (.inr x, _) :: r, ss, h => by
    obtain ⟨l, h1, rfl⟩ := Option.map_eq_some_iff.mp h
    rw [List.map_cons, List.map_cons, strKeys_ok h1]
  | (.inl _, _) :: _, _, h => by cases h
theorem keys2 {α β : Type} {R : α → β → Prop} : ∀ {us : List (Key × α)} {kvs : List (Key × β)}, All2 (fun p q => p.1 = q.1 ∧ R p.2 q.2) us kvs → us.map (·.1) = kvs.map (·.1)
  | _, _, .nil => rfl
  | _, _, .cons h t => by rw [List.map_cons, List.map_cons, keys2 t, h.1]
section
variable {X : Cx} {K : PySem.W.Frag} {a b c e f : Expr} {pos apos cpos : Pos}
end
end DL

namespace DL
open PySem PySem.Spec PyProof.Rows L2
section
variable {prog : Program} {w : World} {A : Around} {E : Value → Shared → Prop} {s : Shared}
end
end DL

namespace DL
open PySem PySem.Spec PyProof.Rows L2
/-! ### dicts written at the top: d[k] by a text -/
def KdVals (K : PySem.W.Frag) : List DictEntry → List (Str × PyData) → Prop
  | [], [] => True
  | e :: es, (k, d) :: r => (∃ t, e.key = .str k t) ∧ (∃ v, RelV v e.val ∧ ∀ G, Rp K G v d) ∧ KdVals K es r
  | _, _ => False
structure KDic (K : PySem.W.Frag) (P : Params) (mg : Str → Option Value) (x : Str) (kvs : List (Str × PyData)) : Prop where
  ex : ∃ (p : Addr) (es : Array DictEntry) (n : Nat), mg x = some (.ref p) ∧ (p == sysModules) = false ∧ K.lookup p = some ⟨.type "dict", none, .dict es n, #[]⟩ ∧ PySem.W.KeysLit P es.toList ∧ KdVals K es.toList kvs
section
variable {X : Cx} {e a i : Expr} {pos : Pos}
/-! ### // and % by any number but 0 -/
/-! ### what is never come to -/
end
end DL

namespace DL
open PySem PySem.Spec PyProof.Rows L2
/-! ### calls of a def with parameters by keyword alone, each of them None if it isn't given -/
def ordU (tm : List (Option Nat)) (us ws : List Value) : List Value := us ++ tm.map fun o => match o with | some j => ws.getD j .none | none => .none
structure KBd (K : PySem.W.Frag) (fd : FuncData) (ps ks : List Str) (tm : List (Option Nat)) : Prop where
  to : ∀ (s : Shared) (us ws : List Value), K.In s.heap → us.length = 1 → ws.length = ks.length → BindsTo s fd ⟨us, ks.zip ws⟩ (ps.zip (ordU tm us ws))
section
variable {X : Cx} {k : Nat} {f : Addr} {fd : FuncData} {ps ks : List Str} {sp : Sp} {x : Str} {p pos kpos : Pos} {a e : Expr} {kws : List Keyword} {t tk : TA} {tm : List (Option Nat)}
structure KD (X : Cx) (es : List Keyword) (f : FA) : Prop where
  ex : ∃ t, PK X es t ∧ ∀ {σ : L2.St} {δ : En} {as : List Addr} {w : Sr} {G H : Hp} {ds : List DV} {w' : Sr} (Q : List V → Hp → Prop), Rel X.K σ δ as w G H → f δ w = some (ds, w') →
    (∀ vs as' G' H', Rel X.K σ δ as' w' G' H' → Stp as G H as' G' H' → All2 (Vr X.K G' as') vs ds → Q vs H') → t σ H Q
theorem kd_nil : KD X [] aN := ⟨_, pk_nil, fun Q hR he k => by
  obtain ⟨rfl, rfl⟩ := ret_some he
  exact k _ _ _ _ hR .refl .nil⟩
theorem kd_cons {es : List Keyword} {nm : Option Str} {fa : FE} {fr : FA} (ha : ED X a fa) (hr : KD X es fr) : KD X (⟨nm, a, kpos⟩ :: es) (aC fa fr) := by
  obtain ⟨ta, pa, ka⟩ := ha.ex
  obtain ⟨tr, pr, kr⟩ := hr.ex
  refine ⟨_, pk_cons pa pr, fun Q hR he k => ?_⟩
  obtain ⟨x, w1, e1, he⟩ := bnd_some he
  obtain ⟨xs, w2, e2, he⟩ := bnd_some he
  obtain ⟨rfl, rfl⟩ := ret_some he
  exact ka _ hR e1 fun v1 as1 G1 H1 R1 S1 r1 => kr _ R1 e2 fun v2 as2 G2 H2 R2 S2 r2 => k _ _ _ _ R2 (S1.trans S2) (.cons (r1.mono S2) r2)
structure KCal (P : Program) (w : World) (K : PySem.W.Frag) (mg : Str → Option Value) (base : Heap) (k : Nat) (x : Str) (ps : List Str) (sp : Sp) (f : Addr) (fd : FuncData) : Prop where
  ok : FnOk P w K mg base CX0 k f fd ps sp
  mg : mg x = some (.ref f)
  kp : PySem.W.keepIn K (.ref f) = true
end
end DL

namespace DL
open PySem PySem.Spec PyProof.Rows L2
section
variable {δ : En} {w : Sr}
theorem st_ixD {d i z : PyData} {Q : DV → Sr → Prop} (h : ixP d i = some z) (k : Q (.dat z) w) : Wp (nIx (.dat d) (.dat i)) w Q := wp_nIx.mpr ⟨z, h, k⟩
theorem wp_is {α : Type} {m : MM α} {a : α} {w' : Sr} {Q : α → Sr → Prop} (e : m w = some (a, w')) (h : Q a w') : Wp m w Q := ⟨a, w', e, h⟩
theorem wp_iZ {fr : FA} {Q : List PyData → Sr → Prop} : Wp (iZ fr δ) w Q ↔ Wp (fr δ) w fun xs w' => Wp (zz xs) w' Q := wp_bnd
end
theorem pure_of {n : Nat} {f : FS} {ds : List PyData} {r : PyData} (h : Wp (f ((ds.map DV.dat).map some ++ List.replicate (n - (ds.map DV.dat).length) none)) [] fun r' _ => r' = .rt (.dat r)) : fnF n f (ds.map .dat) [] = some (.dat r, []) := by
  refine run_of (wp_mono h fun a w' e => ?_)
  subst e
  exact ⟨rfl, rfl⟩
end DL

namespace DL
open PySem PySem.Spec PyProof.Rows L2
/-! ### repr of data with dicts in it (and no list) -/
mutual
def noLst : PyData → Bool
  | .list _ => false
  | .tuple ds => noLstAll ds
  | .dict kvs => noLstKV kvs
  | _ => true
def noLstAll : List PyData → Bool
  | [] => true
  | d :: ds => noLst d && noLstAll ds
def noLstKV : List (PyData × PyData) → Bool
  | [] => true
  | (_, d) :: ds => noLst d && noLstKV ds
end
theorem key_reads {h : Heap} {k : Key} {v : Value} (e : keyIs k v = true) : Reads h v (keyD k) [] := by
  rcases keyIs_shape e with ⟨i, t, rfl, rfl⟩ | ⟨x, t, rfl, rfl⟩
  · exact .int i t
  · exact .str x t
section
variable {X : Cx} {pins : List (Addr × Obj)} {σ : L2.St} {H : Hp} {s : Shared}
mutual
theorem Rp.reads (I : Inv X pins σ H s) : ∀ (d : PyData) (v : V) (u : Value), Rp X.K H v d → RelV v u → noLst d = true → ∃ as, Reads s.heap u d as ∧ sysModules ∉ as
  | .none, _, _, h, r, _ => by
    cases h
    cases r
    exact ⟨_, Reads.none, by simp⟩
  | .bool b, _, _, h, r, _ => by
    cases h
    cases r
    exact ⟨_, Reads.bool b, by simp⟩
  | .int i, _, _, h, r, _ => by
    cases h
    obtain ⟨t, rfl⟩ := r
    exact ⟨_, Reads.int i t, by simp⟩
  | .str x, _, _, h, r, _ => by
    cases h
    obtain ⟨t, rfl⟩ := r
    exact ⟨_, Reads.str x t, by simp⟩
  | .list ds, _, _, h, r, e => by simp [noLst] at e
  | .tuple ds, _, _, h, r, e => by
    cases h with
    | tup hs ha =>
      cases r
      obtain ⟨its, rv, ⟨o, ho, hc, n, hd⟩, _⟩ := I.tuple hs
      obtain ⟨as, hr, hm⟩ := RpAll.reads I ds _ its ha rv (by simpa only [noLst] using e)
      exact ⟨_, Reads.tuple ho hc hd hr, hm⟩
  | .dict kvs, _, _, h, r, e => by
    cases h with
    | dic hg ha =>
      rename_i a us
      cases r
      obtain ⟨_, hsys, vs, rel, o, es, ep, ho, hx, hdt, hk, hp, _⟩ := dk_rd I.hok hg
      obtain ⟨bs, h1, h2, hm⟩ := RpKV.reads I kvs us vs es.toList ha rel hp (by simpa only [noLst] using e)
      refine ⟨_, Reads.dict ho hx.1 hdt h1 h2, ?_⟩
      intro m
      simp only [List.append_nil, List.cons_append, List.nil_append, List.mem_cons] at m
      rcases m with m | m
      · rw [← m] at hsys; simp at hsys
      · exact hm m
theorem RpAll.reads (I : Inv X pins σ H s) : ∀ (ds : List PyData) (vs : List V) (us : List Value), RpAll X.K H vs ds → Vals vs us → noLstAll ds = true → ∃ as, ReadsAll s.heap us ds as ∧ sysModules ∉ as
  | [], _, _, h, r, _ => by
    cases h
    cases r
    exact ⟨_, ReadsAll.nil, by simp⟩
  | d :: ds, _, _, h, r, e => by
    simp only [noLstAll, Bool.and_eq_true] at e
    cases h with
    | cons h1 h2 =>
      cases r with
      | cons r1 r2 =>
        obtain ⟨as, q1, m1⟩ := Rp.reads I d _ _ h1 r1 e.1
        obtain ⟨bs, q2, m2⟩ := RpAll.reads I ds _ _ h2 r2 e.2
        exact ⟨_, ReadsAll.cons q1 q2, fun m => by rcases List.mem_append.mp m with m | m <;> contradiction⟩
theorem RpKV.reads (I : Inv X pins σ H s) : ∀ (ds : List (PyData × PyData)) (us : List (Key × V)) (vs : List (Key × Value)) (es : List DictEntry), RpKV X.K H us ds → KV us vs → Pairs (mixKind X.prog X.w) es vs → noLstKV ds = true →
    ∃ bs, ReadsAll s.heap (es.map (·.key)) (ds.map (·.1)) [] ∧ ReadsAll s.heap (es.map (·.val)) (ds.map (·.2)) bs ∧ sysModules ∉ bs
  | [], _, _, _, h, r, p, _ => by
    cases h
    cases r
    cases p
    exact ⟨_, ReadsAll.nil, ReadsAll.nil, by simp⟩
  | (k, d) :: ds, _, _, _, h, r, p, e => by
    simp only [noLstKV, Bool.and_eq_true] at e
    cases h with
    | cons h1 h2 =>
      cases r with
      | cons r1 r2 =>
        cases p with
        | cons p1 p2 p3 =>
          obtain ⟨as, q1, m1⟩ := Rp.reads I d _ _ h1 r1.2 e.1
          obtain ⟨bs, q2, q3, m2⟩ := RpKV.reads I ds _ _ _ h2 r2 p3 e.2
          refine ⟨as ++ bs, ?_, ?_, fun m => by rcases List.mem_append.mp m with m | m <;> contradiction⟩
          · rw [List.map_cons, List.map_cons]
            have : ([] : List Addr) = [] ++ [] := rfl
            rw [this]
            refine ReadsAll.cons (key_reads ?_) q2
            have r11 := r1.1
            dsimp only at r11
            rw [r11]; exact p1
          · rw [List.map_cons, List.map_cons]
            refine ReadsAll.cons ?_ q3
            rw [p2]; exact q1
end
end
theorem Sv.rpH {K : PySem.W.Frag} {G H : Hp} {v : V} {d : PyData} (gh : Same G H) (h : Sv K G H v d) : Rp K H v d := by
  cases h with
  | rp h => exact h.mono gh
  | lst h a => exact .lst (SqL.of h) (a.mono gh)
  | dic h a => exact .dic (.inl h) (a.mono gh)
def isC : PyData → Bool
  | .tuple _ => true
  | .dict _ => true
  | _ => false
def rReprD (K : PySem.W.Frag) : List V → Hp → VK → Prop := fun xs H Q => ∃ x d, xs = [x] ∧ Rp K H x d ∧ noLst d = true ∧ isC d = true ∧ d.showable = true ∧ d.depth ≤ 64 ∧ d.shown.length ≤ sizeLine ∧ Q (.str d.shown) H
theorem call_reprD {X : Cx} (hg : X.A.guards = some []) (hu : X.A.units + 128 < cLine) : CallR X (.builtin "repr") (rReprD X.K) := by
  intro pins s σ H xs us Q I r h
  obtain ⟨x, d, rfl, hd, hn, hc, hs, hdp, hz, q⟩ := h
  obtain ⟨u, rfl, rx⟩ := vals1 r
  obtain ⟨as, hr, hsm⟩ := Rp.reads I d x u hd rx hn
  cases hd with
  | tup h1 h2 =>
    cases rx
    exact repr_of_reads' hr hs (fun _ => hsm) hg (by omega) (fun _ _ e => e) (fun h' u tk kp => ⟨.str _, H, I.kept kp, ⟨u, rfl⟩, q⟩) hz
  | dic h1 h2 =>
    cases rx
    exact repr_of_reads' hr hs (fun _ => hsm) hg (by omega) (fun _ _ e => e) (fun h' u tk kp => ⟨.str _, H, I.kept kp, ⟨u, rfl⟩, q⟩) hz
  | _ => cases hc
def reprQ : List PyData → Option PyData
  | [d] => if (d.hasDict = false ∨ (noLst d = true ∧ isC d = true)) ∧ d.showable = true ∧ d.depth ≤ 64 ∧ d.shown.length ≤ sizeLine then some (.str d.shown) else none
  | _ => none
theorem cd_reprQ {X : Cx} (hg : X.A.guards = some []) (hu : X.A.units + 128 < cLine) : CallD X (.builtin "repr") reprQ := by
  refine ⟨_, CallR.or (call_reprT hg hu) (call_reprD hg hu), fun {as w G H xs ds z} Q t hx he k => ?_⟩
  unfold reprQ at he
  split at he
  · next d =>
    obtain ⟨x, rfl, h⟩ := all1 hx
    split at he
    · next hz =>
      cases he
      rcases hz.1 with h1 | h1
      · exact .inl ⟨_, _, rfl, .dat (h.dp t.gh h1), hz.2.1, hz.2.2.1, hz.2.2.2, k _ _ _ t .refl (.str _)⟩
      · exact .inr ⟨_, _, rfl, h.rpH t.gh, h1.1, h1.2, hz.2.1, hz.2.2.1, hz.2.2.2, k _ _ _ t .refl (.str _)⟩
    · cases he
  · cases he
end DL

namespace DL
open PySem PySem.Spec PyProof.Rows L2
/-! ### a dict of dicts made data -/
def frzRefs : List Nat → Sr → Option Sr
  | [], w => some w
  | j :: js, w => match frz (.ref j) w with
    | some (_, w') => frzRefs js w'
    | none => none
def dat2 (w : Sr) : List (Key × DV) → Option (List (PyData × PyData))
  | [] => some []
  | (k, .dat d) :: cs => (dat2 w cs).map ((keyD k, d) :: ·)
  | (k, .ref j) :: cs => match w[j]? with
    | some (.fz d) => (dat2 w cs).map ((keyD k, d) :: ·)
    | _ => none
  | (_, .fn _) :: _ => none
def frz2 (x : DV) (w : Sr) : Option (PyData × Sr) := match x with
  | .dat d => some (d, w)
  | .ref k => match w[k]? with
    | some (.dic cs) => match frzRefs (refsD (cs.map (·.2))) w with
      | some w1 => match w1[k]? with
        | some (.dic cs') => (dat2 w1 cs').map fun ds => (.dict ds, w1.set k (.fz (.dict ds)))
        | _ => none
      | none => none
    | _ => frz x w
  | .fn _ => none
section
variable {K : PySem.W.Frag} {G H : Hp} {as : List Addr} {w w' : Sr}
theorem frzRefs_ok : ∀ {js : List Nat} {w w' : Sr} {G : Hp}, Sto K G H as w → frzRefs js w = some w' → ∃ G', Sto K G' H as w' ∧ Stp as G H as G' H
  | [], w, w', G, t, e => by cases e; exact ⟨G, t, .refl⟩
  | j :: js, w, w', G, t, e => by
    unfold frzRefs at e
    split at e
    · next d w1 q =>
      have hj : ∃ a, as[j]? = some a := by
        unfold frz at q
        dsimp only at q
        cases h : w[j]? with
        | none => rw [h] at q; cases q
        | some n =>
          have hl := (List.getElem?_eq_some_iff.mp h).1
          rw [← t.ln] at hl
          exact ⟨_, List.getElem?_eq_getElem hl⟩
      obtain ⟨a, ha⟩ := hj
      obtain ⟨G1, t1, s1, _⟩ := frz_ok (x := .ref j) t (v := .ref a) ⟨a, ha, rfl⟩ q
      obtain ⟨G2, t2, s2⟩ := frzRefs_ok t1 e
      exact ⟨G2, t2, s1.trans s2⟩
    · cases e
theorem dat2_ok (t : Sto K G H as w) : ∀ {vs : List (Key × V)} {cs : List (Key × DV)} {ds : List (PyData × PyData)}, All2 (fun p q => p.1 = q.1 ∧ Vr K G as p.2 q.2) vs cs → dat2 w cs = some ds → RpKV K G vs ds
  | _, _, _, .nil, e => by cases e; exact .nil
  | _, _, _, .cons (a := (k', v)) (b := (k, .dat d)) (bs := bs) h u, e => by
    unfold dat2 at e
    cases q : dat2 w bs with
    | none => rw [q] at e; cases e
    | some r => rw [q] at e; cases e; obtain ⟨h1, h2⟩ := h; dsimp only at h1 h2; subst h1; exact .cons h2 (dat2_ok t u q)
  | _, _, _, .cons (a := (k', v)) (b := (k, .ref j)) (bs := bs) h u, e => by
    unfold dat2 at e
    split at e
    · next d hj =>
      cases q : dat2 w bs with
      | none => rw [q] at e; cases e
      | some r =>
        rw [q] at e; cases e
        obtain ⟨h1, a, h2, h3⟩ := h
        dsimp only at h1 h3
        subst h1; subst h3
        exact .cons (t.ok j a _ h2 hj) (dat2_ok t u q)
    · cases e
  | _, _, _, .cons (a := (k', v)) (b := (k, .fn j)) (bs := bs) h u, e => by cases e
theorem frz2_ok {x : DV} {v : V} {d : PyData} (t : Sto K G H as w) (hv : Vr K G as v x) (e : frz2 x w = some (d, w')) : ∃ G', Sto K G' H as w' ∧ Stp as G H as G' H ∧ Rp K G' v d := by
  unfold frz2 at e
  split at e
  · cases e; exact ⟨G, t, .refl, hv⟩
  · next k =>
    split at e
    · next cs hk =>
      split at e
      · next w1 q =>
        split at e
        · next cs' hk' =>
          obtain ⟨ds, q2, e⟩ := Option.map_eq_some_iff.mp e
          cases e
          obtain ⟨a, ha, rfl⟩ := hv
          obtain ⟨G1, t1, s1⟩ := frzRefs_ok t q
          obtain ⟨vs, g1, g2, g3⟩ := t1.ok k a _ ha hk'
          have r := dat2_ok t1 g2 q2
          have hd : Rp K (upd G1 a (.dK vs)) (.ref a) (.dict ds) := .dic (.inl upd_same) (r.mono (Same.new g3))
          obtain ⟨t', s⟩ := t1.freeze ha hk' g3 g1 hd
          exact ⟨_, t', s1.trans s, hd⟩
        · cases e
      · cases e
    · exact frz_ok t hv e
  · cases e
end
section
variable {X : Cx} {e a b c f : Expr} {pos apos cpos : Pos}
def eF2 (f : FE) : FE := fun δ => bnd (f δ) fun x w => match frz2 x w with
  | some (d, w') => some (.dat d, w')
  | none => none
theorem ed_frz2 {f : FE} (h : ED X e f) : ED X e (eF2 f) := by
  obtain ⟨t, p, k⟩ := h.ex
  refine ⟨t, p, fun Q hR he kk => ?_⟩
  obtain ⟨x, w1, e1, he⟩ := bnd_some he
  refine k _ hR e1 fun v as1 G1 H1 R1 S1 r1 => ?_
  split at he
  · next d w2 q =>
    cases he
    obtain ⟨G', t', s', r'⟩ := frz2_ok R1.st r1 q
    exact kk _ _ _ _ (R1.stp s' t') (S1.trans s') r'
  · cases he
/-! ### d.get(k, x), dict(d): of data -/
def getP (d i z : PyData) : Option PyData := match d with
  | .dict kvs => match unK i with | some k => some ((valP kvs k).getD z) | none => none
  | _ => none
def eGetD (fo fe ff : FE) : FE := fun δ => bnd (fo δ) fun x => bnd (fe δ) fun y => bnd (ff δ) fun z => match x with
  | .dat d => match y with
    | .dat i => match z with
      | .dat u => match d with
        | .dict _ => opt ((getP d i u).map .dat)
        | _ => fail
      | _ => fail
    | _ => fail
  | _ => fail
theorem ed_getD {fo fe ff : FE} (hu : X.A.units + 1 < cLine) (ho : ED X a fo) (he : ED X e fe) (hf : ED X f ff) (m : M2 X a "get" apos e f cpos := by exact ⟨rfl, rfl, rfl, rfl⟩) : ED X (.Call (.Attribute a "get" apos) [e, f] [] cpos) (eGetD fo fe ff) := by
  obtain ⟨to, po, ko⟩ := ho.ex
  obtain ⟨te, pe, ke⟩ := he.ex
  obtain ⟨tf, pf, kf⟩ := hf.ex
  refine ⟨_, pe_dget2 hu po pe pf m, fun Q hR he kk => ?_⟩
  obtain ⟨x, w1, e1, he1⟩ := bnd_some he
  obtain ⟨y, w2, e2, he3⟩ := bnd_some he1
  obtain ⟨z, w3, e3, he4⟩ := bnd_some he3
  refine ko _ hR e1 fun v1 as1 G1 H1 R1 S1 r1 => ?_
  cases x with
  | ref _ => cases he4
  | fn _ => cases he4
  | dat d =>
    cases y with
    | ref _ => cases he4
    | fn _ => cases he4
    | dat i =>
      cases z with
      | ref _ => cases he4
      | fn _ => cases he4
      | dat u =>
        cases d with
        | dict kvs =>
          obtain ⟨h1, rfl⟩ := opt_some he4
          cases r1 with
          | dic g1 g2 =>
            refine ⟨_, rfl, .inl ⟨_, R1.st.gh.rd g1⟩, ke _ R1 e2 fun v2 as2 G2 H2 R2 S2 r2 => kf _ R2 e3 fun v3 as3 G3 H3 R3 S3 r3 => ?_⟩
            obtain ⟨z, hz, rfl⟩ := Option.map_eq_some_iff.mp h1
            unfold getP at hz
            dsimp only at hz
            split at hz
            · next key hk =>
              cases hz
              obtain rfl := keyV (H := H3) (Rp.mono S3.gg r2) hk
              have gH := R3.st.gh.rd (S3.gg.rd (S2.gg.rd g1))
              refine ⟨_, DGet.kr (k := key) gH, ?_⟩
              have g2' := RpKV.mono (S2.trans S3).gg g2
              cases hv : valP kvs key with
              | none =>
                rw [(valP_ok g2').2 hv]
                rw [hv] at kk
                exact kk _ _ _ _ R3 ((S1.trans S2).trans S3) r3
              | some d =>
                obtain ⟨v', f4, f5⟩ := (valP_ok g2').1 _ hv
                rw [f4]
                rw [hv] at kk
                exact kk _ _ _ _ R3 ((S1.trans S2).trans S3) f5
            · cases hz
        | _ => cases he4
theorem kv_dats {K : PySem.W.Frag} {G : Hp} {as : List Addr} : ∀ {us : List (Key × V)} {ds : List (PyData × PyData)}, RpKV K G us ds → ∃ kvs : List (Key × PyData), ds = kvs.map (fun p => (keyD p.1, p.2)) ∧ All2 (fun p q => p.1 = q.1 ∧ Vr K G as p.2 q.2) us (kvs.map fun p => (p.1, DV.dat p.2))
  | _, _, .nil => ⟨[], rfl, .nil⟩
  | _, _, .cons (k := k) (d := d) h t => by
    obtain ⟨kvs, h1, h2⟩ := kv_dats (as := as) t
    exact ⟨(k, d) :: kvs, by rw [h1]; rfl, .cons ⟨rfl, h⟩ h2⟩
def unKV : List (PyData × PyData) → Option (List (Key × DV))
  | [] => some []
  | (k, d) :: r => match unK k, unKV r with
    | some key, some l => some ((key, .dat d) :: l)
    | _, _ => none
theorem unKV_map : ∀ (kvs : List (Key × PyData)), unKV (kvs.map fun p => (keyD p.1, p.2)) = some (kvs.map fun p => (p.1, DV.dat p.2))
  | [] => rfl
  | (k, d) :: r => by
    rw [List.map_cons]
    unfold unKV
    rw [unKV_map r]
    dsimp only
    rw [unK_key]; rfl
/-- dict(d): of what changes, or of data -/
def nDic2 : List DV → MM DV
  | [.ref k] => fun w => match w[k]? with
    | some (.dic kvs) => some (.ref w.length, w ++ [.dic kvs])
    | _ => none
  | [.dat (.dict ds)] => fun w => match unKV ds with
    | some kvs => some (.ref w.length, w ++ [.dic kvs])
    | none => none
  | _ => fail
def eDicD (fr : FA) : FE := fun δ => bnd (fr δ) nDic2
theorem ed_dicD {x : Str} {p : Pos} {fr : FA} (hg : Gl X x) (hm : X.mg x = none) (hv : bootBuiltins x = some (.type "dict")) (ha : AD X [a] fr) (hn : x ≠ "__name__" := by decide) (hdb : (x == ("__debug__" : Str)) = false := by decide)
    (he : starEach [a] X.env = (false, eval a X.env) :: starEach [] X.env := by exact stE _ _ _ rfl) (hpl : (backTo pos (starEach [] X.env)).any (·.1) = false := by rfl) : ED X (.Call (.Name x p) [a] [] pos) (eDicD fr) := by
  obtain ⟨ta, pa, ka⟩ := ha.ex
  refine ⟨_, pe_callTy cr_dictD hg hm hv pa hn hdb he hpl, fun Q hR he k => ?_⟩
  obtain ⟨y, w2, e2, he⟩ := bnd_some he
  refine ka _ hR e2 fun vs as2 G2 H2 R2 S2 r2 => ?_
  have fin : ∀ {l : Addr} {us : List (Key × V)} {kvs : List (Key × DV)}, Rd H2 l (.dK us) → All2 (fun p q => p.1 = q.1 ∧ Vr X.K G2 as2 p.2 q.2) us kvs → vs = [.ref l] → (∀ v as' G' H', Rel X.K _ _ as' (w2 ++ [.dic kvs]) G' H' → Stp _ _ _ as' G' H' → Vr X.K G' as' v (.ref w2.length) → Q v H') →
      ∃ (p : Addr) (kvs : List (Key × V)), vs = [.ref p] ∧ Rd H2 p (.dK kvs) ∧ ∀ q, H2 q = none → Q (.ref q) (upd H2 q (.dK kvs)) := fun {l us kvs} g1 g2 ev kk => by
    refine ⟨l, us, ev, g1, fun q' hq => ?_⟩
    obtain ⟨T, S⟩ := R2.st.node (o := .dK us) (n := .dic kvs) hq fun S => ⟨us, upd_same, g2.mono fun _ _ h => ⟨h.1, h.2.mono S⟩, Option.eq_none_iff_forall_not_mem.mpr fun o ho => by have := R2.st.gh _ _ ho; rw [hq] at this; cases this⟩
    refine kk _ _ _ _ (R2.stp S T) (S2.trans S) ⟨q', ?_, rfl⟩
    rw [← R2.st.ln, List.getElem?_concat_length]
  unfold nDic2 at he
  split at he
  · next kx =>
    split at he
    · next kvs q =>
      cases he
      cases r2 with
      | cons h1 t1 =>
        cases t1
        obtain ⟨l, h1, rfl⟩ := h1
        obtain ⟨us, g1, g2, g3⟩ := R2.st.ok kx l _ h1 q
        exact fin (.inl g1) g2 rfl k
    · cases he
  · next ds =>
    split at he
    · next kvs q =>
      cases he
      cases r2 with
      | cons h1 t1 =>
        cases t1
        cases h1 with
        | dic g1 g2 =>
          obtain ⟨kv, e1, g3⟩ := kv_dats (as := as2) g2
          rw [e1, unKV_map] at q
          cases q
          exact fin (R2.st.gh.rd g1) g3 rfl k
    · cases he
  · cases he
end
end DL

namespace DL
open PySem PySem.Spec PyProof.Rows L2
section
variable {prog : Program} {w : World} {K : Type} [DecidableEq K] {knd : KeyKind prog w K} {A : Around} {E : Value → Shared → Prop} {s : Shared}
end
end DL

namespace DL
open PySem PySem.Spec PyProof.Rows L2
section
variable {X : Cx} {e1 ke e2 : Expr} {pos : Pos} {t1 tk t2 : TE}
end
end DL

namespace DL
open PySem PySem.Spec PyProof.Rows L2
section
variable {X : Cx} {e1 ke e2 : Expr} {pos : Pos} {f1 fk f2 : FE}
end
end DL

namespace DL
open PySem PySem.Spec PyProof.Rows L2
theorem wp_eF2 {f : FE} {δ : En} {w : Sr} {Q : DV → Sr → Prop} : Wp (eF2 f δ) w Q ↔ Wp (f δ) w fun x w' => ∃ d w2, frz2 x w' = some (d, w2) ∧ Q (.dat d) w2 := by
  unfold eF2
  rw [wp_bnd]
  constructor
  · intro h
    refine wp_mono h fun x w' ⟨a, w2, e, q⟩ => ?_
    dsimp only at e
    split at e
    · next d w3 z => cases e; exact ⟨d, _, z, q⟩
    · cases e
  · intro h
    refine wp_mono h fun x w' ⟨d, w2, e, q⟩ => ⟨.dat d, w2, ?_, q⟩
    dsimp only
    rw [e]
end DL

namespace L2
open PySem PySem.Spec PyProof.Rows
/-! ### how much a dict's repr is -/
end L2
namespace DL
open PySem PySem.Spec PyProof.Rows L2
/-- no list in it, and small -/
structure Nl (B D : Nat) (d : PyData) : Prop where
  n : noLst d = true
  s : Sm B D d
end DL

/-! ### a, b, c = a list -/
namespace L2
open PySem PySem.Spec PyProof.Rows
section
variable {prog : Program} {w : World} {A : Around} {E : Value → Shared → Prop} {s : Shared}
end
section
variable {X : Cx} {pos : Pos}
end
end L2
namespace DL
open PySem PySem.Spec PyProof.Rows L2
section
variable {X : Cx} {pos : Pos}
end
end DL

/-! ### a call without arguments -/
namespace DL
open PySem PySem.Spec PyProof.Rows L2
section
variable {X : Cx} {pos : Pos}
end
end DL

/-! ### dicts shown, as data -/
namespace DL
open PySem PySem.Spec PyProof.Rows L2
section
variable {δ : En} {w : Sr}
theorem wp_pN {Q : List (PyData × DV) → Sr → Prop} (h : Q [] w) : Wp (pN δ) w Q := wp_ret.mpr h
theorem wp_pC {fk fv : FE} {fr : FP} {Q : List (PyData × DV) → Sr → Prop} (h : Wp (fk δ) w fun x w1 => ∃ d, x = .dat d ∧ Wp (fv δ) w1 fun y w2 => Wp (fr δ) w2 fun r w3 => Q ((d, y) :: r) w3) : Wp (pC fk fv fr δ) w Q := by
  unfold pC
  refine wp_bnd.mpr (wp_mono h fun x w1 ⟨d, e, h⟩ => ?_)
  subst e
  exact wp_bnd.mpr (wp_mono h fun y w2 h => wp_bnd.mpr (wp_mono h fun r w3 h => wp_ret.mpr h))
theorem wp_eDicN {fp : FP} {Q : DV → Sr → Prop} (h : Wp (fp δ) w fun ps w' => ∃ kvs, keysOf ps = some kvs ∧ kvs.length ≤ 15 ∧ Q (.ref w'.length) (w' ++ [.dic (mergeA [] kvs)])) : Wp (eDicN fp δ) w Q := by
  unfold eDicN
  refine wp_bnd.mpr (wp_mono h fun ps w' ⟨kvs, e, hl, q⟩ => ⟨_, _, ?_, q⟩)
  simp only [e]
  rw [if_pos hl]
theorem wp_eDicF {fp : FP} {Q : DV → Sr → Prop} (h : Wp (fp δ) w fun ps w' => ∃ kvs ds, keysOf ps = some kvs ∧ kvs.length ≤ 15 ∧ datKV (mergeA [] kvs) = some ds ∧ Q (.dat (.dict ds)) (w' ++ [.fz (.dict ds)])) : Wp (eF (eDicN fp) δ) w Q := by
  refine wp_eF.mpr (wp_eDicN (wp_mono h fun ps w' ⟨kvs, ds, e, hl, e2, q⟩ => ⟨kvs, e, hl, .dict ds, _, ?_, q⟩))
  unfold frz
  simp only [List.getElem?_concat_length, e2, Option.map_some]
  simp
end
theorem ex_rng {j : Int} {R : List PyData → Prop} (h : -(2 ^ 62) ≤ j) (h' : j < 2 ^ 62) (k : R (rgD 0 j.toNat)) : ∃ ds, rng1 [.dat (.int j)] = some ds ∧ R ds := ⟨_, rng_1 h h', k⟩
end DL

/-! ### defs as values -/
namespace DL
open PySem PySem.Spec PyProof.Rows L2
section
variable {X : Cx} {pos : Pos}
structure TabOk (X : Cx) (T : List (Str × Nat × FN)) : Prop where
  ex : ∀ x n F, (x, n, F) ∈ T → ∃ k f fd ps, Cal X.prog X.w X.K X.mg X.base k x ps (spD X.K n F) f fd ∧ Room k X.A ∧ PySem.W.nsIn X.K mainGlobals x = some (some (.ref f))
end
end DL

/-! ### dicts written at the top: d.get(k), k a text or None; dicts of defs -/
namespace DL
open PySem PySem.Spec PyProof.Rows L2
/-! ### d.get(k) -/
section
variable {X : Cx} {e : Expr} {pos apos cpos : Pos}
end
/-! ### dicts of defs: d[k] -/
def KfVals (K : PySem.W.Frag) : List DictEntry → List (Str × Str) → Prop
  | [], [] => True
  | e :: es, (k, y) :: r => (∃ t, e.key = .str k t) ∧ (∃ a, e.val = .ref a ∧ PySem.W.nsIn K mainGlobals y = some (some (.ref a))) ∧ KfVals K es r
  | _, _ => False
structure KFns (K : PySem.W.Frag) (P : Params) (mg : Str → Option Value) (x : Str) (kvs : List (Str × Str)) : Prop where
  ex : ∃ (p : Addr) (es : Array DictEntry) (n : Nat), mg x = some (.ref p) ∧ (p == sysModules) = false ∧ K.lookup p = some ⟨.type "dict", none, .dict es n, #[]⟩ ∧ PySem.W.KeysLit P es.toList ∧ KfVals K es.toList kvs
section
variable {X : Cx} {i : Expr} {pos : Pos}
end
end DL
namespace DL
open PySem PySem.Spec PyProof.Rows L2
section
variable {X : Cx} {pos : Pos}
end
end DL

/-! ### max -/
namespace DL
open PySem PySem.Spec PyProof.Rows L2
section
variable {X : Cx}
end
end DL

/-! ### x in a list, a tuple of data; () + t; t[lo:hi], whole too; t[::-1] -/
namespace L2
open PySem PySem.Spec PyProof.Rows
section
variable {X : Cx} {pins : List (Addr × Obj)} {σ : L2.St} {H : Hp} {s : Shared}
mutual
theorem Dp.inj (I : Inv X pins σ H s) : ∀ {d e : PyData} {v : V}, Dp X.K H v d → Dp X.K H v e → d = e
  | _, _, _, .non, h => by cases h; rfl
  | _, _, _, .bl b, h => by cases h; rfl
  | _, _, _, .int i, h => by cases h; rfl
  | _, _, _, .str x, h => by cases h; rfl
  | _, _, _, .lst h a, g => by
    cases g with
    | lst h' a' =>
      have e := I.list_inj h h'
      subst e
      rw [DpAll.inj I a a']
    | tup h' a' =>
      obtain ⟨its, rv, ⟨o, n, ho, hc, _, hd⟩, _⟩ := I.list h
      obtain ⟨its', rv', ⟨o', ho', hc', n', hd'⟩, _⟩ := I.tuple h'
      rw [ho] at ho'; cases ho'
      rw [hc] at hc'; exact absurd hc' (by decide)
  | _, _, _, .tup h a, g => by
    cases g with
    | tup h' a' =>
      have e := I.tuple_inj h h'
      subst e
      rw [DpAll.inj I a a']
    | lst h' a' =>
      obtain ⟨its, rv, ⟨o, n, ho, hc, _, hd⟩, _⟩ := I.list h'
      obtain ⟨its', rv', ⟨o', ho', hc', n', hd'⟩, _⟩ := I.tuple h
      rw [ho] at ho'; cases ho'
      rw [hc] at hc'; exact absurd hc' (by decide)
theorem DpAll.inj (I : Inv X pins σ H s) : ∀ {ds es : List PyData} {vs : List V}, DpAll X.K H vs ds → DpAll X.K H vs es → ds = es
  | _, _, _, .nil, h => by cases h; rfl
  | _, _, _, .cons a t, h => by
    cases h with
    | cons a' t' => rw [Dp.inj I a a', DpAll.inj I t t']
end
end
end L2

namespace HT
open PySem PySem.Spec PyProof.Rows
section
variable {prog : Program} {w : World} {A : Around} {E : Value → Shared → Prop} {s : Shared}
end
end HT
namespace L2
open PySem PySem.Spec PyProof.Rows
section
variable {X : Cx}
end
end L2

/-! ### the same by value -/
namespace DL
open PySem PySem.Spec PyProof.Rows L2
section
variable {X : Cx}
end
section
variable {X : Cx} {a e : Expr} {pos : Pos}
end
end DL

namespace L2
open PySem PySem.Spec PyProof.Rows
section
variable {X : Cx}
end
end L2
namespace DL
open PySem PySem.Spec PyProof.Rows L2
section
variable {g : DV → En → Option En} {ft : FT} {fe : FE} {δ : En} {w : Sr} {Q : List DV → Sr → Prop}
theorem wp_lcD_nil (q : Q [] w) : Wp (lcD g ft fe δ []) w Q := wp_ret.mpr q
theorem wp_lcD_cons {d : PyData} {ds : List PyData} {δ1 : En} (h : g (.dat d) δ = some δ1) (k : Wp (ft δ1) w fun b w1 => if b = true then Wp (fe δ1) w1 fun x w2 => Wp (lcD g ft fe δ ds) w2 fun xs w3 => Q (x :: xs) w3 else Wp (lcD g ft fe δ ds) w1 Q) : Wp (lcD g ft fe δ (d :: ds)) w Q := by
  unfold lcD
  refine wp_bnd.mpr (wp_opt.mpr ⟨δ1, h, wp_bnd.mpr (wp_mono k fun b w1 hb => ?_)⟩)
  cases b with
  | true =>
    have hb := of_true hb
    exact wp_bnd.mpr (wp_mono hb fun x w2 hx => wp_bnd.mpr (wp_mono hx fun xs w3 q => wp_ret.mpr q))
  | false => exact of_false hb
where
  of_true {A B : Prop} (h : if true = true then A else B) : A := by rwa [if_pos rfl] at h
  of_false {A B : Prop} (h : if false = true then A else B) : B := by rwa [if_neg (by decide)] at h
theorem wp_tY {R : Bool → Sr → Prop} (h : R true w) : Wp (tY δ) w R := wp_ret.mpr h
end
end DL

namespace DL
theorem iteOn {b : Bool} {p q : Prop} (h : b = true) (hp : p) : if b = true then p else q := by rw [if_pos h]; exact hp
theorem iteOff {b : Bool} {p q : Prop} (h : b = false) (hq : q) : if b = true then p else q := by rw [if_neg (by rw [h]; decide)]; exact hq
end DL

namespace L2
open PySem PySem.Spec PyProof.Rows PySem.Calls
end L2
namespace DL
open PySem PySem.Spec PyProof.Rows L2
end DL

/-! ### anything in a tuple of texts, a dict too -/
namespace PySem.SeqAt
open PySem PyProof.Rows
section
variable {A : Around} {s : Shared}
end
end PySem.SeqAt
namespace L2
open PySem PySem.Spec PyProof.Rows
section
variable {X : Cx}
end
end L2
namespace DL
open PySem PySem.Spec PyProof.Rows L2
end DL

/-! ### list == [], list != [] -/
namespace L2
open PySem PySem.Spec PyProof.Rows
section
variable {X : Cx}
end
end L2
namespace DL
open PySem PySem.Spec PyProof.Rows L2
end DL

/-! ### zip of a text and a sequence -/
namespace DL
open PySem PySem.Spec PyProof.Rows L2
section
variable {prog : Program} {w : World} {A : Around} {E : Value → Shared → Prop} {s : Shared} {z TI TO i1 i2 l2 : Addr} {k : Nat} {ys : Array Value} {y a b : Value} {t2 : Bool} {sx : Str} {tk : Tok} {c : Nat}
structure Zt (sx : Str) (tk : Tok) (t2 : Bool) (h : Heap) (z TI TO i1 i2 l2 : Addr) (k : Nat) : Prop where
  z : IsZip h z TI TO .none
  i : IsPair h TI (.ref i1) (.ref i2)
  o : ∃ a b, IsPair h TO a b
  c1 : h.IsStrIter i1 "str_ascii_iterator" sx tk k
  c2 : Cu t2 h i2 l2 k
end
end DL

namespace DL
open PySem PySem.Spec PyProof.Rows L2
section
variable {prog : Program} {w : World} {A : Around} {E : Value → Shared → Prop} {s : Shared} {x : Str} {t : Tok} {u : Bool} {m : Addr} {ys : Array Value}
end
section
variable {X : Cx} {K : PySem.W.Frag} {e a b c tg : Expr} {pos : Pos}
end
end DL

/-! ### tuple times number -/
namespace PySem
open Sem (wp)
open Builtin
end PySem
namespace L2
open PySem PySem.Spec PyProof.Rows PySem.Calls
end L2
namespace DL
open PySem PySem.Spec PyProof.Rows L2
end DL

/-! ### a, b = x, y -/
namespace DL
open PySem PySem.Spec PyProof.Rows L2
section
variable {X : Cx} {pos : Pos}
end
end DL

/-! ### sorted of a list of pairs, each the same text and a number -/
namespace PyProof.Rows.G
open PySem PyProof.Rows
def shp : Nat → Bool := fun i => i == 0
def Pr (h : Heap) (s : Str) (v : Value) (n : Int) : Prop := tupKeyC h shp v = some [.inr s.cps.toList, .inl n]
inductive PrAll (h : Heap) (s : Str) : List Value → List Int → Prop
  | nil : PrAll h s [] []
  | cons {v : Value} {n : Int} {vs : List Value} {ns : List Int} : Pr h s v n → PrAll h s vs ns → PrAll h s (v :: vs) (n :: ns)
end PyProof.Rows.G
namespace L2
open PySem PySem.Spec PyProof.Rows
section
variable {X : Cx}
/-- a pair in the heap of values -/
def IsPr (K : PySem.W.Frag) (H : Hp) (s : Str) (v : V) (n : Int) : Prop := ∃ a, v = .ref a ∧ SqT K H a [.str s, .int n]
inductive PrV (K : PySem.W.Frag) (H : Hp) (s : Str) : List V → List Int → Prop
  | nil : PrV K H s [] []
  | cons {v : V} {n : Int} {vs : List V} {ns : List Int} : IsPr K H s v n → PrV K H s vs ns → PrV K H s (v :: vs) (n :: ns)
end
end L2
namespace DL
open PySem PySem.Spec PyProof.Rows L2
end DL

/-! ### list(d.items()), dict(a list of pairs) -/
namespace L2
open PySem PySem.Spec PyProof.Rows
section
variable {X : Cx} {pins : List (Addr × Obj)} {σ : St} {H H' : Hp} {s : Shared} {h' : Heap}
end
section
variable {X : Cx} {e : Expr} {td : TE} {p pos apos cpos : Pos}
end
end L2

namespace DL
open PySem PySem.Spec PyProof.Rows L2
section
variable {X : Cx} {K : PySem.W.Frag}
end
end DL

/-! ### dict(a list of pairs) -/
namespace L2
open PySem PySem.Spec PyProof.Rows
end L2
namespace DL
open PySem PySem.Spec PyProof.Rows L2
section
variable {X : Cx} {K : PySem.W.Frag}
end
end DL

/-! ### enumerate(list), while -/
namespace DL
open PySem PySem.Spec PyProof.Rows L2
section
variable {X : Cx} {K : PySem.W.Frag} {a : Expr} {pos : Pos}
/-! ### while, by fuel -/
end
end DL

namespace L2
open PySem PySem.Spec PyProof.Rows
section
variable {X : Cx}
end
end L2
namespace DL
open PySem PySem.Spec PyProof.Rows L2
section
variable {X : Cx}
end
end DL

namespace L2
open PySem PySem.Spec PyProof.Rows
section
variable {X : Cx}
end
end L2
namespace DL
open PySem PySem.Spec PyProof.Rows L2
/-! ### walks of a dict of data, locked while they last -/
section
variable {K : PySem.W.Frag} {G H : Hp} {dd : Addr} {us : List (Key × V)} {od : Obj}
/-- the same but at dd, where a dict stands, open or locked -/
structure Lk (dd : Addr) (us : List (Key × V)) (G G1 : Hp) : Prop where
  a : Rd G dd (.dK us)
  b : Rd G1 dd (.dK us)
  c : ∀ x, x ≠ dd → G1 x = G x
theorem rd_one {a : Addr} {u v : HO} (h : Rd G a u) (g : Rd G a v) (hu : ∀ o x, u ≠ .frz o x) (hv : ∀ o x, v ≠ .frz o x) : u = v := by
  rcases h with h | ⟨o, h⟩ <;> rcases g with g | ⟨o', g⟩ <;> (rw [h] at g; cases g)
  · rfl
  · exact absurd rfl (hu _ _)
  · exact absurd rfl (hv _ _)
  · rfl
theorem Lk.rd {G1 : Hp} (l : Lk dd us G G1) {a : Addr} {u : HO} (h : Rd G a u) (hu : ∀ o x, u ≠ .frz o x) : Rd G1 a u := by
  by_cases e : a = dd
  · subst e
    rw [rd_one h l.a hu (fun _ _ => nofun)]
    exact l.b
  · rcases h with h | ⟨o, h⟩
    · exact .inl (by rw [l.c a e]; exact h)
    · exact .inr ⟨o, by rw [l.c a e]; exact h⟩
theorem Lk.sl {G1 : Hp} (l : Lk dd us G G1) {a : Addr} {xs : List V} (h : SqL K G a xs) : SqL K G1 a xs := by
  rcases h with h | h
  · exact .inl (l.rd h (fun _ _ z => by cases z))
  · exact .inr h
theorem Lk.st {G1 : Hp} (l : Lk dd us G G1) {a : Addr} {xs : List V} (h : SqT K G a xs) : SqT K G1 a xs := by
  rcases h with h | h
  · exact .inl (l.rd h (fun _ _ z => by cases z))
  · exact .inr h
theorem Lk.dk {G1 : Hp} (l : Lk dd us G G1) {a : Addr} {xs : List (Key × V)} (h : Rd G a (.dK xs)) : Rd G1 a (.dK xs) := l.rd h (fun _ _ z => by cases z)
mutual
theorem Rp.lk {G1 : Hp} (l : Lk dd us G G1) : ∀ {v : V} {d : PyData}, Rp K G v d → Rp K G1 v d
  | _, _, .non => .non
  | _, _, .bl b => .bl b
  | _, _, .int i => .int i
  | _, _, .str x => .str x
  | _, _, .lst h a => .lst (l.sl h) (RpAll.lk l a)
  | _, _, .tup h a => .tup (l.st h) (RpAll.lk l a)
  | _, _, .dic h a => .dic (l.dk h) (RpKV.lk l a)
theorem RpAll.lk {G1 : Hp} (l : Lk dd us G G1) : ∀ {vs : List V} {ds : List PyData}, RpAll K G vs ds → RpAll K G1 vs ds
  | _, _, .nil => .nil
  | _, _, .cons h t => .cons (Rp.lk l h) (RpAll.lk l t)
theorem RpKV.lk {G1 : Hp} (l : Lk dd us G G1) : ∀ {vs : List (Key × V)} {ds : List (PyData × PyData)}, RpKV K G vs ds → RpKV K G1 vs ds
  | _, _, .nil => .nil
  | _, _, .cons h t => .cons (Rp.lk l h) (RpKV.lk l t)
end
/-! what is walked -/
end
section
variable {X : Cx} {tg elt o ci : Expr} {pos p2 apos cpos : Pos} {ifs : List Expr} {scope : Scope} {own : List (Str × Nat)} {g : DV → En → Option En} {ft : FT} {fe : FE} {fb : FS} {vs : List Nat} {i : Nat} {c : Str} {body : List Stmt}
end
section
end
end DL

/-! ### sum(lists, list) -/
namespace L2
open PySem PySem.Spec PyProof.Rows
section
variable {prog : Program} {w : World}
end
end L2
namespace DL
open PySem PySem.Spec PyProof.Rows L2
section
variable {X : Cx}
end
end DL

/-! ### calls that gather what is named in a dict: def f(a, **new) -/
namespace L2
open PySem PySem.Spec PyProof.Rows PySem.W
section
variable {prog : Program} {w : World} {A : Around} {E : Value → Shared → Prop} {d : Addr}
theorem kw_set {s : Shared} {es : List DictEntry} {n : Nat} {k : Str} {v : Value} {Q : Unit → Shared → Prop} (D : s.heap.get? d = some (dictOf es n))
    (hs : ∀ e ∈ es, e.key.isStr k = false) (hr : ∀ e ∈ es, e.refKey = false)
    (h : ∀ h' : Heap, h'.get? d = some (dictOf (es ++ [⟨PyData.keyHash w.params k, .str k s.toks, v⟩]) (n + 1)) → (∀ b, b ≠ d → h'.get? b = s.heap.get? b) → h'.objs.size = s.heap.objs.size → Q () { s with heap := h', toks := s.toks + 1 }) :
    wpAny (model prog w) A (nsSet d k v) Q E s := by
  have e1 : es.any (·.key.isStr k) = false := by
    cases q : es.any (·.key.isStr k) with
    | false => rfl
    | true => obtain ⟨e, he, z⟩ := List.any_eq_true.mp q; rw [hs e he] at z; cases z
  have e2 : es.any (·.refKey) = false := by
    cases q : es.any (·.refKey) with
    | false => rfl
    | true => obtain ⟨e, he, z⟩ := List.any_eq_true.mp q; rw [hr e he] at z; cases z
  have e : Obj.putName k (PyData.keyHash w.params k) (.str k s.toks) v (dictOf es n) = dictOf (es ++ [⟨PyData.keyHash w.params k, .str k s.toks, v⟩]) (n + 1) := by
    rw [putName_dict, putL_new hs]
    show dictOf _ (if es.any (·.key.isStr k) then n else n + 1) = _
    rw [e1, if_neg Bool.false_ne_true]
  have c : aRefKeyMayBeTheName k es.toArray = false := by
    rw [aRefKeyMayBeTheName_at, ← Array.any_toList, ← Array.any_toList]
    show (!es.any (·.key.isStr k) && es.any (·.refKey)) = false
    rw [e2, Bool.and_false]
  unfold nsSet
  refine wpAny_bind (wpAny_bind (wpAny_askSetting (wpAny_pure (wpAny_bind (wpAny_mkText (wpAny_bind (wpAny_loadPart D ?_)))))))
  dsimp only
  rw [c]
  refine wpAny_updatePart D (h _ ?_ (fun b hb => Heap.get?_update_ne _ _ _ _ hb) ?_)
  · have hf : (Obj.putName k (PyData.keyHash w.params k) (.str k s.toks) v (dictOf es n)).isFreed = false := by rw [e]; rfl
    exact (Heap.get?_update_self (Obj.putName k (PyData.keyHash w.params k) (.str k s.toks) v) D hf).trans (congrArg some e)
  · show (Heap.update _ _ _).objs.size = _
    simp [Heap.update]
theorem kw_fill {Q : PUnit → Shared → Prop} : ∀ (ex : List (Str × Value)) (s : Shared) (es : List DictEntry) (n : Nat), s.heap.get? d = some (dictOf es n) →
    (∀ e ∈ es, ∀ x ∈ ex, e.key.isStr x.1 = false) → (∀ e ∈ es, e.refKey = false) → (ex.map (·.1)).Nodup →
    (∀ h' : Heap, h'.get? d = some (dictOf (es ++ kwEs w.params s.toks ex) (n + ex.length)) → (∀ b, b ≠ d → h'.get? b = s.heap.get? b) → h'.objs.size = s.heap.objs.size → Q ⟨⟩ { s with heap := h', toks := s.toks + ex.length }) →
    wpAny (model prog w) A (forIn ex PUnit.unit fun x _ => (nsSet d x.1 x.2 >>= fun _ => pure (ForInStep.yield PUnit.unit))) Q E s
  | [], s, es, n, N, _, _, _, h => by
    rw [List.forIn_nil]
    refine wpAny_pure (h s.heap ?_ (fun _ _ => rfl) rfl)
    show s.heap.get? d = some (dictOf (es ++ []) n)
    rw [List.append_nil]
    exact N
  | x :: r, s, es, n, N, hs, hr, hn, h => by
    obtain ⟨hn1, hn2⟩ := List.nodup_cons.mp (show (x.1 :: r.map (·.1)).Nodup from hn)
    rw [List.forIn_cons]
    refine wpAny_bind (wpAny_bind (kw_set N (fun e he => hs e he x (.head _)) hr fun h' N' k' z' => wpAny_pure ?_))
    show wpAny (model prog w) A (forIn r PUnit.unit fun x _ => (nsSet d x.1 x.2 >>= fun _ => pure (ForInStep.yield PUnit.unit))) Q E { s with heap := h', toks := s.toks + 1 }
    refine kw_fill r { s with heap := h', toks := s.toks + 1 } _ _ N' (fun e he y hy => ?_) (fun e he => ?_) hn2 fun h'' N'' k'' z'' => ?_
    · rcases List.mem_append.mp he with he | he
      · exact hs e he y (.tail _ hy)
      · obtain rfl := List.mem_singleton.mp he
        show (x.1 == y.1) = false
        exact beq_eq_false_iff_ne.mpr fun q => hn1 (by rw [q]; exact List.mem_map_of_mem hy)
    · rcases List.mem_append.mp he with he | he
      · exact hr e he
      · obtain rfl := List.mem_singleton.mp he
        rfl
    · have t1 : s.toks + 1 + r.length = s.toks + (r.length + 1) := by omega
      have t2 : n + 1 + r.length = n + (r.length + 1) := by omega
      show Q ⟨⟩ { s with heap := h'', toks := s.toks + 1 + r.length }
      rw [t1]
      refine h h'' ?_ (fun b hb => (k'' b hb).trans (k' b hb)) (z''.trans z')
      rw [t2, List.append_assoc] at N''
      exact N''
theorem kw_pairs : ∀ (ex : List (Str × Value)) (t : Tok), Pairs (mixKind prog w) (kwEs w.params t ex) (ex.map fun x => ((.inr x.1 : Key), x.2))
  | [], _ => Pairs.nil
  | x :: r, t => Pairs.cons (mixKind_str prog w x.1 t) rfl (kw_pairs r (t + 1))
theorem kw_dict {ex : List (Str × Value)} (t : Tok) (n : Nat) (hn : (ex.map (·.1)).Nodup) : (dictOf (kwEs w.params t ex) n).IsDictOf (mixKind prog w) (ex.map fun x => ((.inr x.1 : Key), x.2)) :=
  ⟨(kwEs w.params t ex).toArray, n, ⟨rfl, rfl, rfl⟩, rfl, fun e he => by
    obtain ⟨k, u, hk, hh⟩ := kwEs_key ex t e (List.mem_toArray.mp he)
    exact ⟨.inr k, by rw [hk]; exact mixKind_str prog w k u, hh.trans rfl⟩, kw_pairs ex t, by
    rw [List.map_map]
    have e : (ex.map ((fun q : Key × Value => q.1) ∘ fun x => ((.inr x.1 : Key), x.2))) = (ex.map (·.1)).map (Sum.inr : Str → Key) := by rw [List.map_map]; rfl
    rw [e]
    exact hn.map (Sum.inr : Str → Key) fun a b hab hc => hab (by cases hc; rfl)⟩
theorem wp_peekA {α : Type} {K : Frag} {M : Model} {E : Value → Shared → Prop} {Q : α → Shared → Prop} {s : Shared} {o : Obj} (X : K.In s.heap) :
    ∀ (t : Sem α) (g : Addr → Sem α), peekA K ⟨M.prog, M.w.params⟩ t = some (o, g) → wpAny M A (g s.heap.objs.size) Q E { s with heap := s.heap.push o } → wpAny M A t Q E s := by
  intro t
  induction t with
  | rule _ k ih => intro g e q Γ p hΓ; exact ih () g e q Γ p hΓ
  | point _ k ih => intro g e q Γ p hΓ; exact ih () g e q Γ p hΓ
  | ask k ih => intro g e q Γ p hΓ; exact ih _ g e q Γ p hΓ
  | load a _ k ih =>
    intro g e q Γ p hΓ
    simp only [peekA] at e
    split at e
    · rename_i ob ho; exact ⟨ob, X _ _ ho, ih ob g e q Γ p hΓ⟩
    · cases e
  | alloc ob k _ =>
    intro g e q
    have e : some (ob, k) = some (o, g) := e
    obtain ⟨e1, e2⟩ := Prod.mk.inj (Option.some.inj e)
    subst e1
    subst e2
    show wpAny M A (alloc ob >>= k) Q E s
    exact wpAny_bind (wpAny_alloc q)
  | _ => intro g e; cases e

end
/-- the front is ps, the rest goes into the dict nm -/
structure KwBd (K : Frag) (fd : FuncData) (ps ks : List Str) (nm : Str) : Prop where
  to : ∀ (S : Setting) (us ws : List Value), us.length = ps.length → ws.length = ks.length → ∃ g, peekA K S (bindArgs fd ⟨us, ks.zip ws⟩) = some (dictOf [] 0, g) ∧
    ∀ D, g D = (forIn (ks.zip ws) PUnit.unit (fun x _ => (nsSet D x.1 x.2 >>= fun _ => pure (ForInStep.yield PUnit.unit))) >>= fun _ => pure (ps.zip us ++ [(nm, Value.ref D)]))
  nd : ks.Nodup
  sz : ks.length ≤ 1000
def kz (ks : List Str) (zs : List V) : List (Key × V) := (ks.zip zs).map fun x => ((.inr x.1 : Key), x.2)
theorem kz_rel : ∀ {ks : List Str} {zs : List V} {ws : List Value}, Vals zs ws → KV (kz ks zs) ((ks.zip ws).map fun x => ((.inr x.1 : Key), x.2))
  | [], _, _, _ => by rw [List.zip_nil_left]; exact .nil
  | _ :: _, _, _, .nil => .nil
  | _ :: _, _, _, .cons h t => .cons ⟨rfl, h⟩ (kz_rel t)
theorem zip_keys {β : Type} : ∀ {ks : List Str} {ws : List β}, ws.length = ks.length → (ks.zip ws).map (·.1) = ks
  | [], [], _ => rfl
  | [], _ :: _, h => by simp at h
  | _ :: _, [], h => by simp at h
  | k :: ks, w :: ws, h => by rw [List.zip_cons_cons, List.map_cons, zip_keys (by simpa using h)]
/-- a def that gathers -/
structure FnKw (P : Program) (w : World) (K : Frag) (mg : Str → Option Value) (base : Heap) (k : Nat) (f : Addr) (fd : FuncData) (ps : List Str) (nm : Str) (sp : Sp) : Prop where
  run : ∀ (A : Around) (outer : List Env) (s : Shared) (H : Hp) (ks : List Str) (us ws : List Value) (vs zs : List V) (Q : VK), Room k A → Env0 P w K mg base A outer s H → KwBd K fd ps ks nm → Vals vs us → Vals zs ws → us.length = ps.length → ws.length = ks.length →
    (∀ d, H d = none → sp (vs ++ [.ref d]) (upd H d (.dK (kz ks zs))) Q E0) → codeAny (model P w) A (.call (.ref f) ⟨us, ks.zip ws⟩) (CR CX0 outer P w H s Q E0) s
theorem fnkw_of {P : Program} {w : World} {K : Frag} {mg : Str → Option Value} {base : Heap} {k : Nat} {f : Addr} {name qual : Str} {params : Arguments} {body : List Stmt} {scope : Scope} {dV kV doc pm cdv ct oc : Value} {an od : Option Addr}
    {osl : Array (Option Value)} {N ps : List Str} {nm : Str} {sp : Sp} (lk : K.lookup f = some ⟨oc, od, .func (fnOf name qual params body scope dV kV doc pm an cdv ct), osl⟩) (hcd : codeIn K cdv qual = true) (S : FnScope N (ps ++ [nm]) scope)
    (hbody : ∀ (A : Around) (outer : List Env) (s : Shared) (H : Hp) (vs : List V) (Q : VK), Room k (A.deeper (envOfC qual scope s.heap.objs.size f cdv)) → sp vs H Q E0 →
      ∃ t, PSs (cxOf CX0 P w K mg base N qual scope f cdv A outer s H E0) body t ∧ t { nx := fun _ H' => Q .non H', rt := Q } (start N vs) H) :
    FnKw P w K mg base (k + 1) f (fnOf name qual params body scope dV kV doc pm an cdv ct) ps nm sp := by
  refine ⟨fun A outer s H ks us ws vs zs Q hr e0 hb r rz lu lw hsp => ?_⟩
  have KX : K.In s.heap := e0.mod.kin.keeps fun b o e => (e0.bs b o e).1
  have lim : s.heap.NoLimit := e0.mod.nolimit.keeps fun b o e => (e0.bs b o e).1
  obtain ⟨g, hp, hg⟩ := hb.to ⟨P, w.params⟩ us ws lu lw
  refine codeAny_call_function hr.depth (KX _ _ lk) rfl S.co S.gen rfl (codeRec_of KX hcd) ?_
  refine wp_peekA KX _ g hp ?_
  rw [hg]
  have hn : ((ks.zip ws).map (·.1)).Nodup := by rw [zip_keys lw]; exact hb.nd
  refine wpAny_bind (kw_fill (d := s.heap.objs.size) (ks.zip ws) { s with heap := s.heap.push (dictOf [] 0) } [] 0 (Heap.get?_push_size _ rfl) (fun _ he => nomatch he) (fun _ he => nomatch he) hn fun h' hd hk hz => wpAny_pure ?_)
  have kp : ∀ b o, s.heap.get? b = some o → h'.get? b = some o := fun b o e => by
    rw [hk b (Nat.ne_of_lt (Heap.lt_size e))]; exact Heap.get?_push_of_some _ e
  have szh : s.heap.objs.size ≤ h'.objs.size := by
    have : h'.objs.size = (s.heap.push (dictOf [] 0)).objs.size := hz
    rw [this, Heap.size_push]; exact Nat.le_succ _
  have fr : H s.heap.objs.size = none := e0.hok.fresh (Nat.le_refl _)
  have sysn : (s.heap.objs.size == sysModules) = false := beq_eq_false_iff_ne.mpr fun e => by
    have h1 := modules_low lim
    rw [← e] at h1
    first | exact Nat.lt_irrefl _ h1 | exact absurd h1 (Nat.lt_irrefl _)
  have new : ObjOk P w (upd H s.heap.objs.size (.dK (kz ks zs))) h' s.heap.objs.size (.dK (kz ks zs)) := by
    refine dk_new ?_ sysn (kz_rel rz) (Heap.dictOf_iff.mpr ⟨_, hd, ?_⟩)
    · have : (kz ks zs).length ≤ ks.length := by unfold kz; rw [List.length_map, List.length_zip]; exact Nat.min_le_left _ _
      exact Nat.le_trans (Nat.le_trans this hb.sz) (by decide)
    · exact kw_dict (w := w) _ _ hn
  have hok0 := e0.hok.laid kp (Nat.le_refl _) new
  have e1 : Env0 P w K mg base A outer { s with heap := h', toks := s.toks + (ks.zip ws).length } (upd H s.heap.objs.size (.dK (kz ks zs))) := by
    refine ⟨e0.frames, e0.mod, fun b o e => ⟨kp b o (e0.bs b o e).1, ?_⟩, Nat.le_trans e0.bsz szh, e0.funs.of_keeps (fun b o e _ => ⟨o, kp b o e, rfl⟩), fun b hb => ?_, hok0, e0.bare⟩
    · rw [upd_ne (Nat.ne_of_lt (Heap.lt_size (e0.bs b o e).1))]; exact (e0.bs b o e).2
    · obtain ⟨_, o, ho, _⟩ := e0.funs.mem hb
      rw [upd_ne (Nat.ne_of_lt (Heap.lt_size ho))]; exact e0.frf b hb
  have hsp := hsp s.heap.objs.size fr
  have r' : Vals (vs ++ [V.ref s.heap.objs.size]) (us ++ [Value.ref s.heap.objs.size]) := r.append (.cons rfl .nil)
  have hl : (vs ++ [V.ref s.heap.objs.size]).length = (ps ++ [nm]).length := by rw [List.length_append, List.length_append, r.length, lu]; rfl
  have hz2 : ps.zip us ++ [(nm, Value.ref s.heap.objs.size)] = (ps ++ [nm]).zip (us ++ [Value.ref s.heap.objs.size]) := by
    rw [List.zip_append lu.symm]; rfl
  rw [hz2]
  have hkind : ∀ y ∈ (ps ++ [nm]).zip (us ++ [Value.ref s.heap.objs.size]), scope.names.lookup y.1 = some .local ∨ (scope.names.lookup y.1 = some .cell ∧ ((cellsFrom (h'.objs.size + 1) scope.names []).lookup y.1).isSome = true) := fun ⟨n, v⟩ hy => by
    rcases S.par n (List.of_mem_zip hy).1 with q | q
    · exact .inl q
    · exact .inr ⟨q, cellsFrom_some _ _ _ (.inl q)⟩
  refine wpAny_newFunctionEnv_cells S.kind hkind fun env he s1 x => ?_
  subst he
  refine ⟨(lim.keeps kp).keeps x.toInCall.keep, codeAny_func ?_⟩
  obtain ⟨t, ht, hq⟩ := hbody A outer { s with heap := h', toks := s.toks + (ks.zip ws).length } _ _ Q (hr.deeper _) hsp
  have I : Inv (cxOf CX0 P w K mg base N qual scope f cdv A outer { s with heap := h', toks := s.toks + (ks.zip ws).length } (upd H s.heap.objs.size (.dK (kz ks zs))) E0) [] (start N (vs ++ [.ref s.heap.objs.size])) _ s1 := inv_start S hr.hd e1 hl r' x
  refine wpAny_mono (ht [] s1 (start N _) _ _ I hq) (fun fl s' hs => ?_) fun e s' hs => hs
  have fin : ∀ {σ' : St} {H' : Hp} {v : V} {u : Value}, Inv (cxOf CX0 P w K mg base N qual scope f cdv A outer { s with heap := h', toks := s.toks + (ks.zip ws).length } (upd H s.heap.objs.size (.dK (kz ks zs))) E0) [] σ' H' s' → RelV v u → Q v H' → CE outer P w H s Q u s' :=
    fun {σ' H' v u} J rv q => ⟨v, H', J.os, J.bare, (Un.laid kp (Nat.le_refl _) fr).trans J.base, J.hok, rv, q⟩
  cases fl with
  | ret u =>
    obtain ⟨v, σ', H', J, rv, q⟩ := hs
    exact fin J rv q
  | next =>
    obtain ⟨σ', H', J, q⟩ := hs
    exact fin (v := V.non) (u := Value.none) J rfl q
  | brk =>
    obtain ⟨_, _, _, q⟩ := hs
    exact False.elim q
  | cont =>
    obtain ⟨_, _, _, q⟩ := hs
    exact False.elim q
end L2

namespace DL
open PySem PySem.Spec PyProof.Rows L2
section
variable {P : Program} {w : World} {K : PySem.W.Frag} {mg : Str → Option Value} {base : Heap}
/-- a def that gathers, by its body -/
theorem okK {x qual : Str} {st : Stmt} {f : Addr} {fd : FuncData} {N ps : List Str} {nm : Str} {k : Nat} {fs : FS} (F : Fun K x qual st f fd) (S : FnScope N (ps ++ [nm]) (defScope st))
    (hbody : ∀ (cdv : Value) (A : Around) (outer : List Env) (s : Shared) (H : Hp) (E : XK), Room k (A.deeper (envOfC qual (defScope st) s.heap.objs.size f cdv)) → SsD (cxOf CX0 P w K mg base N qual (defScope st) f cdv A outer s H E).nox (defBody st) fs) :
    FnKw P w K mg base (k + 1) f fd ps nm (spD K (ps.length + 1) (fnF N.length fs)) := by
  obtain ⟨oc, od, kV, doc, pm, an, cdv, ct, osl, rfl, lk, hcd⟩ := F.ex
  refine fnkw_of lk hcd S fun A outer s H vs Q hr h => ?_
  obtain ⟨dvs, as, w1, G, r, w', h1, h2, h3, h4, h5⟩ := h
  obtain ⟨t, p, kk⟩ := (ss_trim (hbody cdv A outer s H E0 hr)).ex
  refine ⟨t, p.nox, ?_⟩
  obtain ⟨rr, w2, e1, e2⟩ := bnd_some h4
  refine kk _ (rel_start h2 h3) e1 ?_
  cases rr with
  | rt d =>
    obtain ⟨rfl, rfl⟩ := ret_some e2
    exact fun v as' G' H' T S rv => h5 v as' G' H' T S rv
  | nx δ' =>
    obtain ⟨rfl, rfl⟩ := ret_some e2
    exact fun σ' as' G' H' R S => h5 .non as' G' H' R.st S .non
  | bk δ' => cases e2
  | ct δ' => cases e2
end
section
variable {X : Cx} {k : Nat} {f : Addr} {fd : FuncData} {ps ks : List Str} {nm : Str} {sp : Sp} {x : Str} {p pos kpos : Pos} {a e : Expr} {kws : List Keyword} {t tk : TA}
def tCallK (sp : Sp) (n : Nat) (ks : List Str) (t tk : TA) : TE := fun σ H Q => t σ H fun vs H1 => tk σ H1 fun zs H2 => vs.length = n ∧ zs.length = ks.length ∧ ∀ d, H2 d = none → sp (vs ++ [.ref d]) (upd H2 d (.dK (kz ks zs))) Q E0
theorem pe_callK (F : FnKw X.prog X.w X.K X.mg X.base k f fd ps nm sp) (hr : Room k X.A) (hg : Gl X x) (hm : X.mg x = some (.ref f)) (hk : PySem.W.keepIn X.K (.ref f) = true) (hb : KwBd X.K fd ps ks nm)
    (ha : PA X [e] t) (hkw : PK X kws tk) (hall : (backToKw pos (keywordEach kws X.env)).all (·.1.isSome) = true := by rfl) (hks : (backToKw pos (keywordEach kws X.env)).filterMap (·.1) = ks := by rfl)
    (hdb : (x == ("__debug__" : Str)) = false := by decide) (he : starEach [e] X.env = (false, eval e X.env) :: starEach [] X.env := by exact stE _ _ _ rfl)
    (hpl : ((backTo pos (starEach [e] X.env)).any (·.1) || (backToKw pos (keywordEach kws X.env)).any (·.1.isNone)) = false := by rfl) :
    PE X (.Call (.Name x p) [e] kws pos) (tCallK sp ps.length ks t tk) := by
  intro pins s σ H Q I h
  refine wpAny_Call_Name_kw (ld_glob I hg hm ?_ hdb)
  refine PySem.W.callWith_KW (h₀ := X.base) I.ok.mod.kin hk hall (thn (ha pos pins s σ H _ I h) fun us s1 ⟨vs, H1, I1, r, q⟩ => ?_) hpl he
  refine thn (hkw pos pins s1 σ H1 _ I1 q) fun ws s2 ⟨zs, H2, I2, rz, l1, l2, q2⟩ => ⟨I2.kIn, ?_⟩
  rw [hks]
  refine wpAny_call (codeAny_mono (F.run X.A X.stack s2 H2 ks us ws vs zs Q hr I2.env0 hb r rz (by rw [← r.length]; exact l1) (by rw [← rz.length]; exact l2) q2) fun r s' hq => ?_)
  cases r with
  | error e => exact pass0 pins σ H2 s2 e s' I2 hq
  | ok fl =>
    cases fl with
    | ret u => exact I2.after hq
    | next => exact False.elim hq
    | brk => exact False.elim hq
    | cont => exact False.elim hq
structure KCalK (P : Program) (w : World) (K : PySem.W.Frag) (mg : Str → Option Value) (base : Heap) (k : Nat) (x : Str) (ps : List Str) (nm : Str) (sp : Sp) (f : Addr) (fd : FuncData) : Prop where
  ok : FnKw P w K mg base k f fd ps nm sp
  mg : mg x = some (.ref f)
  kp : PySem.W.keepIn K (.ref f) = true
theorem KCalK.small {P : Program} {w : World} {K : PySem.W.Frag} {mg : Str → Option Value} {base : Heap} {k n : Nat} {x : Str} {ps : List Str} {nm : Str} {F : FN} {f : Addr} {fd : FuncData} (C : KCalK P w K mg base k x ps nm (spD K n F) f fd) : KCalK P w K mg base k x ps nm (spD K n (DL.small F)) f fd :=
  ⟨⟨fun A outer s H ks us ws vs zs Q hr h0 hb hv hz l1 l2 h => C.ok.run A outer s H ks us ws vs zs Q hr h0 hb hv hz l1 l2 fun d hd => spD_small _ _ _ _ (h d hd)⟩, C.mg, C.kp⟩
def kzD (ks : List Str) (ws : List DV) : List (Key × DV) := (ks.zip ws).map fun x => ((.inr x.1 : Key), x.2)
/-- the dict of what is named is new -/
def eCallK (F : FN) (ks : List Str) (fr fk : FA) : FE := fun δ => bnd (fr δ) fun us => bnd (fk δ) fun ws => fun w => F (us ++ [.ref w.length]) (w ++ [.dic (kzD ks ws)])
theorem kzD_ok {K : PySem.W.Frag} {G : Hp} {as : List Addr} : ∀ {ks : List Str} {zs : List V} {ws : List DV}, All2 (Vr K G as) zs ws → All2 (fun p q => p.1 = q.1 ∧ Vr K G as p.2 q.2) (kz ks zs) (kzD ks ws)
  | [], _, _, _ => by unfold kz kzD; rw [List.zip_nil_left, List.zip_nil_left]; exact .nil
  | _ :: _, _, _, .nil => .nil
  | _ :: _, _, _, .cons h t => .cons ⟨rfl, h⟩ (kzD_ok t)
theorem ed_callK {k : Nat} {F : FN} {f : Addr} {fd : FuncData} {fr fk : FA} (C : KCalK X.prog X.w X.K X.mg X.base k x ps nm (spD X.K (ps.length + 1) F) f fd) (hb : KwBd X.K fd ps ks nm) (hr : Room k X.A) (hg : Gl X x) (ha : AD X [a] fr) (hkw : KD X kws fk) (h1 : ps.length = 1 := by rfl)
    (hall : (backToKw pos (keywordEach kws X.env)).all (·.1.isSome) = true := by rfl) (hks : (backToKw pos (keywordEach kws X.env)).filterMap (·.1) = ks := by rfl)
    (hdb : (x == ("__debug__" : Str)) = false := by decide) (he : isStar a = false := by rfl) (hpl : ((backTo pos (starEach [a] X.env)).any (·.1) || (backToKw pos (keywordEach kws X.env)).any (·.1.isNone)) = false := by rfl)
    (hln : Ar fr 1 := by repeat (first | exact ar_nil | apply ar_cons)) (hlk : Ar fk ks.length := by repeat (first | exact ar_nil | apply ar_cons)) :
    ED X (.Call (.Name x p) [a] kws pos) (eCallK F ks fr fk) := by
  obtain ⟨t, pa, ka⟩ := ha.ex
  obtain ⟨t2, pk, kk⟩ := hkw.ex
  refine ⟨_, pe_callK C.ok hr hg C.mg C.kp hb pa pk hall hks hdb (stE _ _ _ he) hpl, fun {σ δ as w G H d w'} Q hR he k => ?_⟩
  obtain ⟨us, w1, e1, he⟩ := bnd_some he
  obtain ⟨ws, w2, e2, he⟩ := bnd_some he
  refine ka _ hR e1 fun vs as1 G1 H1 R1 S1 r1 => kk _ R1 e2 fun zs as2 G2 H2 R2 S2 r2 => ?_
  have r1' : All2 (Vr X.K G2 as2) vs us := r1.mono fun _ _ h => h.mono S2
  have l1 := hln _ _ _ _ e1
  refine ⟨by rw [r1.length, h1]; exact l1, by rw [r2.length]; exact hlk _ _ _ _ e2, fun dd hdd => ?_⟩
  have T0 := R2.st.poke (o := .dK (kz ks zs)) (fun z => R2.st.al dd z hdd) (R2.st.gh.free hdd)
  have D0 := Side.new (o := .dK (kz ks zs)) R2.st hdd
  have S0 : Stp as2 G2 H2 as2 G2 (upd H2 dd (.dK (kz ks zs))) := (Stp.refl).poke hdd
  obtain ⟨T3, S3⟩ := T0.adoptN (n := .dic (kzD ks ws)) D0.na D0.ng (by rw [upd_same]; intro z; cases z) S0 hdd fun mo => ⟨_, upd_same, (kzD_ok r2).mono fun _ _ z => ⟨z.1, mo _ _ z.2⟩, D0.ng⟩
  refine ⟨us ++ [.ref w2.length], as2 ++ [dd], w2 ++ [.dic (kzD ks ws)], G2, d, w', by rw [List.length_append, l1, h1]; rfl, T3, ?_, he, fun v as' G' H' T S rv => k v as' G' H' (R2.stp (S3.trans S) T) ((S1.trans S2).trans (S3.trans S)) rv⟩
  refine (r1'.mono fun _ _ z => z.mono S3).append (.cons ⟨dd, ?_, rfl⟩ .nil)
  rw [← R2.st.ln]; simp
end
end DL

namespace DL
open PySem PySem.Spec PyProof.Rows L2
/-! ### sorted(d), d a dict whose keys are texts: one that changes, or data -/
section
variable {X : Cx} {K : PySem.W.Frag} {a b c e f : Expr} {pos apos cpos : Pos}
def rSrtR : List V → Hp → VK → Prop := fun xs H Q => ∃ (p : Addr) (kvs : List (Key × V)) (ss : List Str), xs = [.ref p] ∧ Rd H p (.dK kvs) ∧ kvs.map (·.1) = ss.map .inr ∧ ss.length < 64 ∧
  ∀ (ys : List Str) (q : Addr), ys.Perm ss → sortedS ys = true → H q = none → Q (.ref q) (upd H q (.lst (ys.map V.str)))
theorem cr_srtR (hc : X.calm = true) : CallR X (.builtin "sorted") rSrtR := by
  intro pins s σ H xs us Q I r h
  obtain ⟨p, kvs, ss, rfl, hp, hk, h64, q⟩ := h
  rw [Vals.ref1 r]
  obtain ⟨z1, n1, vs1, rel1, d1⟩ := dk_rd I.hok hp
  obtain ⟨ep, hat⟩ := d1.dictAt
  have hl1 := rel1.length
  refine Calls.call_function_entry kind_sorted plain_sorted entry_sorted (args_sorted1 _) ?_
  unfold Builtin.«sorted»
  refine wpAny_bind (m := checkCount "sorted" 1 1 _) (wpAny_pure (wpAny_bind (collD (A := X.A.in1) (PySem.W.kdl_dict (knd := mixKind X.prog X.w) (kvs := vs1) (ep := ep) n1) (I.ok.hd hc) hat (by rw [← hl1]; exact z1) fun h' tk acc kp hbig hacc => ?_)))
  have hal : acc.toList.length = vs1.length := by rw [Array.length_toList]; exact hacc.1
  have hS : StrsAre acc.toList ss := strs_at hal (fun j v e => hacc.2 j v (by rw [← Array.getElem?_toList]; exact e)) (by rw [← kv_keys rel1]; exact hk)
  have hsz : acc.toList.length ≤ sizeLine := by rw [hal, ← hl1]; exact z1
  have hlt : acc.toList.length < 64 := by
    have := congrArg List.length hk
    rw [List.length_map, List.length_map] at this
    rw [hal, ← hl1, this]; exact h64
  refine wpAny_bind (wpAny_newList ?_ hsz)
  have hoL : (h'.push (seqObj "list" acc.toList.toArray 0)).get? h'.objs.size = some (seqObj "list" acc.toList.toArray 0) := Heap.get?_push_size _ rfl
  refine wpAny_bind (wpAny_holding (wpAny_call_entry (s := { s with heap := h'.push (seqObj "list" acc.toList.toArray 0), toks := tk }) slot_list_sort ⟨_, hoL, rfl⟩ entry_list_sort
    (list_sort_treeK strKind_oneLt hoL hS.keysOf (fun v₁ v₂ rest e => keyKind_strs (by rw [← e]; exact hS)) hlt fun st' a1 a2 => ⟨_, rfl, ?_⟩) (args_list_sort _)))
  obtain ⟨ys, b1, b2, b3⟩ := sorted_out_str hS a1 a2
  refine wpAny_pure ⟨_, rfl, ?_⟩
  obtain ⟨ep2, he'⟩ := sortedHeap_at (vs := acc.toList) (out := (arrOf st').map (·.2)) hoL
  have hlen : (ys.map V.str).length ≤ sizeLine := by
    rw [List.length_map, b2.length_eq]
    have := congrArg List.length hk
    rw [List.length_map, List.length_map] at this
    rw [← this]; exact z1
  have hle : s.heap.objs.size ≤ h'.objs.size := Nat.le_of_lt hbig
  have kp2 : ∀ b u, s.heap.get? b = some u → (sortedHeap (h'.push (seqObj "list" acc.toList.toArray 0)) h'.objs.size acc.toList ((arrOf st').map (·.2))).get? b = some u := fun b u g => by
    have g' := kp b u g
    have lt := Heap.lt_size g'
    rw [sortedHeap_old (Nat.ne_of_lt lt) (by rw [Heap.size_push]; exact Nat.lt_succ_of_lt lt)]
    exact Heap.get?_push_of_some _ g'
  exact ⟨.ref h'.objs.size, upd H h'.objs.size (.lst (ys.map V.str)), I.laid (t' := tk) kp2 hle ⟨hlen, _, ep2, vals_of_strs b1, he'⟩, rfl, q ys _ b2 b3 (I.hok.fresh hle)⟩
def strKeysD : List (PyData × PyData) → Option (List Str)
  | [] => some []
  | (.str x, _) :: r => (strKeysD r).map fun l => x :: l
  | _ => none
theorem strKeysD_ok {K : PySem.W.Frag} {G : Hp} : ∀ {us : List (Key × V)} {kvs : List (PyData × PyData)} {ss : List Str}, RpKV K G us kvs → strKeysD kvs = some ss → us.map (·.1) = ss.map .inr
  | _, _, _, .nil, h => by cases h; rfl
  | _, _, ss, .cons (k := k) _ t, h => by
    cases k with
    | inl i => cases h
    | inr x =>
      obtain ⟨l, h1, rfl⟩ := Option.map_eq_some_iff.mp h
      rw [List.map_cons, List.map_cons, strKeysD_ok t h1]
def nSrtR : List DV → MM DV
  | [.ref k] => fun w => match w[k]? with
    | some (.dic kvs) => match strKeys kvs with
      | some ss => if ss.length < 64 ∧ sortedS (srtS ss) = true then some (.dat (.list ((srtS ss).map .str)), w) else none
      | none => none
    | _ => none
  | [.dat (.dict kvs)] => fun w => match strKeysD kvs with
      | some ss => if ss.length < 64 ∧ sortedS (srtS ss) = true then some (.dat (.list ((srtS ss).map .str)), w) else none
      | none => none
  | _ => fail
def eSrtR (fr : FA) : FE := fun δ => bnd (fr δ) nSrtR
theorem ed_srtR {x : Str} {p : Pos} {fr : FA} (hc : X.calm = true) (hg : Gl X x) (hm : X.mg x = none) (hv : bootBuiltins x = some (.builtin "sorted")) (ha : AD X [a] fr) (hn : x ≠ "__name__" := by decide) (hdb : (x == ("__debug__" : Str)) = false := by decide)
    (he : starEach [a] X.env = (false, eval a X.env) :: starEach [] X.env := by exact stE _ _ _ rfl) (hpl : (backTo pos (starEach [] X.env)).any (·.1) = false := by rfl) : ED X (.Call (.Name x p) [a] [] pos) (eSrtR fr) := by
  obtain ⟨ta, pa, ka⟩ := ha.ex
  refine ⟨_, pe_callB (cr_srtR hc) hg hm hv pa hn hdb he hpl, fun Q hR he k => ?_⟩
  obtain ⟨y, w2, e2, he⟩ := bnd_some he
  refine ka _ hR e2 fun vs as2 G2 H2 R2 S2 r2 => ?_
  unfold nSrtR at he
  split at he
  · next kx =>
    split at he
    · next kvs q =>
      split at he
      · next ss hs =>
        split at he
        · next hz =>
          cases he
          cases r2 with
          | cons h1 t1 =>
            cases t1
            obtain ⟨l, h1, rfl⟩ := h1
            obtain ⟨us, g1, g2, g3⟩ := R2.st.ok kx l _ h1 q
            refine ⟨l, us, ss, rfl, .inl g1, (keys2 g2).trans (strKeys_ok hs), hz.1, fun ys q' hp hsr hq => ?_⟩
            obtain rfl : ys = srtS ss := sorted_one (hp.trans (srtS_perm ss).symm) hsr hz.2
            obtain ⟨T, S⟩ := R2.st.new (o := .lst ((srtS ss).map V.str)) hq
            exact k _ _ _ _ (R2.stp S T) (S2.trans S) (.lst (SqL.of upd_same) (RpAll.strs' _))
        · cases he
      · cases he
    · cases he
  · next kvs =>
    split at he
    · next ss hs =>
      split at he
      · next hz =>
        cases he
        cases r2 with
        | cons h1 t1 =>
          cases t1
          cases h1 with
          | dic g1 g2 =>
            refine ⟨_, _, ss, rfl, R2.st.gh.rd g1, strKeysD_ok g2 hs, hz.1, fun ys q' hp hsr hq => ?_⟩
            obtain rfl : ys = srtS ss := sorted_one (hp.trans (srtS_perm ss).symm) hsr hz.2
            obtain ⟨T, S⟩ := R2.st.new (o := .lst ((srtS ss).map V.str)) hq
            exact k _ _ _ _ (R2.stp S T) (S2.trans S) (.lst (SqL.of upd_same) (RpAll.strs' _))
      · cases he
    · cases he
  · cases he
end
end DL

namespace My
open PySem L2 DL
def top (i : Nat) : Stmt := PySem.Challenge.pw_numberedlines_k29_states_behind_faults.main.body.getD i (.Pass ⟨0, 0, 0, 0⟩)
abbrev s_is_whole : Stmt := top 1
theorem sc_is_whole : FnScope ["thing"] ["thing"] (defScope s_is_whole) := ⟨rfl, rfl, rfl, by decide +kernel, rfl, by decide +kernel, by decide +kernel⟩
abbrev s_has_line : Stmt := top 3
theorem sc_has_line : FnScope ["program", "thing", "line"] ["program", "thing"] (defScope s_has_line) := ⟨rfl, rfl, rfl, by decide +kernel, rfl, by decide +kernel, by decide +kernel⟩
abbrev s_part_of : Stmt := top 6
theorem sc_part_of : FnScope ["state", "name"] ["state", "name"] (defScope s_part_of) := ⟨rfl, rfl, rfl, by decide +kernel, rfl, by decide +kernel, by decide +kernel⟩
abbrev s_state_with : Stmt := top 7
theorem sc_state_with : FnScope ["state", "new", "name", "part"] ["state", "new"] (defScope s_state_with) := ⟨rfl, rfl, rfl, by decide +kernel, rfl, by decide +kernel, by decide +kernel⟩
abbrev s_fault_at : Stmt := top 9
theorem sc_fault_at : FnScope ["program", "state", "word", "number", "trap"] ["program", "state", "word", "number"] (defScope s_fault_at) := ⟨rfl, rfl, rfl, by decide +kernel, rfl, by decide +kernel, by decide +kernel⟩
abbrev s_law_pen : Stmt := top 11
theorem sc_law_pen : FnScope ["_law_script"] ["_law_script"] (defScope s_law_pen) := ⟨rfl, rfl, rfl, by decide +kernel, rfl, by decide +kernel, by decide +kernel⟩
abbrev s_law_draw : Stmt := top 12
theorem sc_law_draw : FnScope ["_law_pen_here", "_law_many", "_law_found", "_law_at", "_law_cell", "_law_whole", "_law_one", "_law_last"] ["_law_pen_here", "_law_many"] (defScope s_law_draw) := ⟨rfl, rfl, rfl, by decide +kernel, rfl, by decide +kernel, by decide +kernel⟩
abbrev s_law_first : Stmt := top 13
theorem sc_law_first : FnScope ["_law_program", "_law_number", "_law_run_here"] ["_law_program", "_law_number"] (defScope s_law_first) := ⟨rfl, rfl, rfl, by decide +kernel, rfl, by decide +kernel, by decide +kernel⟩
abbrev s_law_state : Stmt := top 14
theorem sc_law_state : FnScope ["_law_run_here", "_law_boxes", "_law_name", "_law_rows", "_law_fits", "_law_pile_here"] ["_law_run_here"] (defScope s_law_state) := ⟨rfl, rfl, rfl, by decide +kernel, rfl, by decide +kernel, by decide +kernel⟩
abbrev s_law_pile : Stmt := top 15
theorem sc_law_pile : FnScope ["_law_pen_here", "_law_numbers_here", "_law_found", "_law_k", "_law_number", "_law_by", "_law_name", "_law_end"] ["_law_pen_here", "_law_numbers_here"] (defScope s_law_pile) := ⟨rfl, rfl, rfl, by decide +kernel, rfl, by decide +kernel, by decide +kernel⟩
abbrev s_law_worth_now : Stmt := top 16
theorem sc_law_worth_now : FnScope ["_law_pen_here", "_law_some"] ["_law_pen_here"] (defScope s_law_worth_now) := ⟨rfl, rfl, rfl, by decide +kernel, rfl, by decide +kernel, by decide +kernel⟩
abbrev s_law_run : Stmt := top 17
theorem sc_law_run : FnScope ["_law_pen_here", "_law_numbers_here", "_law_at", "_law_run_here", "_law_name"] ["_law_pen_here", "_law_numbers_here", "_law_at"] (defScope s_law_run) := ⟨rfl, rfl, rfl, by decide +kernel, rfl, by decide +kernel, by decide +kernel⟩
abbrev s_law_numbers : Stmt := top 18
theorem sc_law_numbers : FnScope ["_law_pen_here", "_law_many", "_law_found", "_law_k"] ["_law_pen_here", "_law_many"] (defScope s_law_numbers) := ⟨rfl, rfl, rfl, by decide +kernel, rfl, by decide +kernel, by decide +kernel⟩
abbrev s_law : Stmt := top 19
theorem sc_law : FnScope ["_law_script", "_law_pen_here", "_law_words", "_law_turn", "_law_numbers_here", "_law_program", "_law_number", "_law_run_here", "_law_word", "_law_due", "_law_state_here", "_law_kept", "_law_again"] ["_law_script"] (defScope s_law) := ⟨rfl, rfl, rfl, by decide +kernel, rfl, by decide +kernel, by decide +kernel⟩
def l_PARTS : List Str := ["stand", "at", "boxes", "rows", "fits", "pile", "place", "trap", "trapped", "fault", "asked", "said"]
abbrev v_PARTS : PyData := .tuple (l_PARTS.map .str)
def f_is_whole : FS :=
  (sRet (eAn (eIsi "int" (eV 0)) (eNot (eIsi "bool" (eV 0)))))
def F_is_whole : FN := small (fnF 1 f_is_whole)
def f_has_line : FS :=
  (sRet (eAn (eCall F_is_whole (aC (eV 1) aN)) (eOp inP (eV 1) (eLc (iE (eV 0)) [2] (gN 2) tY (eIx (eV 2) (eC (.int 0)))))))
def F_has_line : FN := small (fnF 3 f_has_line)
def f_part_of : FS :=
  (sRet (eF (eIx (eV 0) (eTix l_PARTS (eV 1)))))
def F_part_of : FN := small (fnF 2 f_part_of)
def f_state_with : FS :=
  (sRet (eCB tupleP (aC (eLc (iZ (aC (eC v_PARTS) (aC (eV 0) aN))) [2, 3] (gT 2 (gsC (gN 2) (gsC (gN 3) gsN))) tY (eGetD (eF (eV 1)) (eV 2) (eV 3))) aN)))
def F_state_with : FN := small (fnF 4 f_state_with)
def f_fault_at : FS :=
  (sSeq (sSet (eCall F_part_of (aC (eV 1) (aC (eC (.str "trap")) aN))) (gN 4))
  (sSeq (sIf (tAn (tV (eCall F_has_line (aC (eV 0) (aC (eV 4) aN)))) (tNo (tV (eCall F_part_of (aC (eV 1) (aC (eC (.str "trapped")) aN))))))
   (sRet (eCallK F_state_with ["stand", "at", "trapped", "fault"] (aC (eV 1) aN) (aC (eC (.str "going")) (aC (eV 4) (aC (eC (.bool true)) (aC (eTup (aC (eV 2) (aC (eV 3) aN))) aN))))))
   sNil)
  (sRet (eCallK F_state_with ["stand", "at", "fault"] (aC (eV 1) aN) (aC (eC (.str "faulted")) (aC (eV 3) (aC (eTup (aC (eV 2) (aC (eV 3) aN))) aN)))))))
def F_fault_at : FN := small (fnF 5 f_fault_at)
def f_law_pen : FS :=
  (sRet (eDicN (pC (eC (.str "cells")) (eCB listP (aC (eSl (eV 0) oN (oS (eC (.int 63)))) aN)) (pC (eC (.str "at")) (eC (.int 0)) (pC (eC (.str "left")) (eC (.int 0)) pN)))))
def F_law_pen : FN := small (fnF 1 f_law_pen)
def f_law_draw : FS :=
  (sSeq (sIf (eOpB gtP (eIx (eV 0) (eC (.str "left"))) (eC (.int 0)))
   (sSeq (sSet (eOp modP (eIx (eV 0) (eC (.str "left"))) (eV 1)) (gN 2))
  (sSeq (sPut (eV 0) (eC (.str "left")) (eOp fdivP (eIx (eV 0) (eC (.str "left"))) (eV 1)))
  (sRet (eV 2))))
   sNil)
  (sSeq (sSet (eIx (eV 0) (eC (.str "at"))) (gN 3))
  (sSeq (sPut (eV 0) (eC (.str "at")) (eOp addP (eV 3) (eC (.int 1))))
  (sSeq (sSet (eOp addP (eOp mulP (eC (.int 1861)) (eV 3)) (eC (.int 809))) (gN 4))
  (sSeq (sIf (eOpB neP (eIx (eV 0) (eC (.str "cells"))) (eLst aN))
   (sSet (eIx (eIx (eV 0) (eC (.str "cells"))) (eOp modP (eV 3) (eCB lenP (aC (eIx (eV 0) (eC (.str "cells"))) aN)))) (gN 4))
   sNil)
  (sSeq (sIf (tAn (eOpB ltP (eV 3) (eCB lenP (aC (eIx (eV 0) (eC (.str "cells"))) aN))) (eOpB geP (eCB absP (aC (eV 4) aN)) (eOp powP (eC (.int 10)) (eC (.int 18)))))
   (sSeq (sSet (eOp addP (eOp mulP (eC (.int 2)) (eCB absP (aC (eV 4) aN))) (eCB intP (aC (eOp ltP (eV 4) (eC (.int 0))) aN))) (gN 5))
  (sSeq (sPut (eV 0) (eC (.str "left")) (eOp fdivP (eV 5) (eV 1)))
  (sRet (eOp modP (eV 5) (eV 1)))))
   sNil)
  (sSeq (sSet (eOp modP (eOp powP (eOp addP (eOp addP (eOp modP (eV 4) (eC (.int 2147483543))) (eOp mulP (eC (.int 69001)) (eV 3))) (eC (.int 83))) (eC (.int 5))) (eC (.int 2147483647))) (gN 6))
  (sSeq (sSet (eOp modP (eOp powP (eOp addP (eOp mulP (eV 6) (eOp addP (eV 3) (eC (.int 65551)))) (eOp mulP (eOp mulP (eC (.int 86011)) (eV 3)) (eV 3))) (eC (.int 3))) (eC (.int 2147483353))) (gN 7))
  (sRet (eOp modP (eOp fdivP (eV 7) (eC (.int 32))) (eV 1)))))))))))
def F_law_draw : FN := small (fnF 8 f_law_draw)
def f_law_first : FS :=
  (sSeq (sSet (eDicN (pC (eC (.str "stand")) (eC (.str "going")) (pC (eC (.str "at")) (eV 1) (pC (eC (.str "boxes")) eDic0 (pC (eC (.str "rows")) (eF eDic0) (pC (eC (.str "fits")) (eF eDic0) (pC (eC (.str "pile")) (eLst aN) (pC (eC (.str "place")) (eTup (aC (eC (.int 0)) (aC (eC (.int 0)) aN))) pN)))))))) (gN 2))
  (sSeq (sExp (eUpd (eV 2) (eDicN (pC (eC (.str "trap")) (eC (.int 0)) (pC (eC (.str "trapped")) (eC (.bool false)) (pC (eC (.str "fault")) (eC .none) (pC (eC (.str "asked")) (eC (.int 0)) (pC (eC (.str "said")) (eLst aN) pN))))))))
  (sSeq (sIf (eOpB eqP (eV 1) (eC (.int 0)))
   (sPut (eV 2) (eC (.str "stand")) (eC (.str "ended")))
   sNil)
  (sRet (eV 2)))))
def F_law_first : FN := small (fnF 3 f_law_first)
def f_law_state : FS :=
  (sSeq (sSet (eCB tupleP (aC (eLc (iE (eSrtR (aC (eIx (eV 0) (eC (.str "boxes"))) aN))) [2] (gN 2) tY (eTup (aC (eV 2) (aC (eIx (eIx (eV 0) (eC (.str "boxes"))) (eV 2)) aN)))) aN)) (gN 1))
  (sSeq (sSet (eCB tupleP (aC (eLc (iE (eSrtR (aC (eIx (eV 0) (eC (.str "rows"))) aN))) [2] (gN 2) tY (eTup (aC (eV 2) (aC (eIx (eIx (eV 0) (eC (.str "rows"))) (eV 2)) aN)))) aN)) (gN 3))
  (sSeq (sSet (eCB tupleP (aC (eLc (iE (eSrtR (aC (eIx (eV 0) (eC (.str "fits"))) aN))) [2] (gN 2) tY (eOp addP (eTup (aC (eV 2) aN)) (eIx (eIx (eV 0) (eC (.str "fits"))) (eV 2)))) aN)) (gN 4))
  (sSeq (sSet (eTup (aC (eCB tupleP (aC (eIx (eV 0) (eC (.str "pile"))) aN)) (aC (eIx (eV 0) (eC (.str "place"))) (aC (eIx (eV 0) (eC (.str "trap"))) (aC (eIx (eV 0) (eC (.str "trapped"))) (aC (eIx (eV 0) (eC (.str "fault"))) (aC (eIx (eV 0) (eC (.str "asked"))) aN))))))) (gN 5))
  (sRet (eOp addP (eOp addP (eTup (aC (eIx (eV 0) (eC (.str "stand"))) (aC (eIx (eV 0) (eC (.str "at"))) (aC (eV 1) (aC (eV 3) (aC (eV 4) aN)))))) (eV 5)) (eTup (aC (eCB tupleP (aC (eIx (eV 0) (eC (.str "said"))) aN)) aN))))))))
def F_law_state : FN := small (fnF 6 f_law_state)
def f_law_pile : FS :=
  (sSeq (sSet (eLstN aN) (gN 2))
  (sSeq (sFor (iR1 (aC (eIx (eLst (aC (eCall F_law_draw (aC (eV 0) (aC (eC (.int 7)) aN))) (aC (eC (.int 2)) (aC (eC (.int 0)) (aC (eOp addP (eC (.int 49)) (eCall F_law_draw (aC (eV 0) (aC (eC (.int 2)) aN)))) aN))))) (eOp modP (eOp fdivP (eCall F_law_draw (aC (eV 0) (aC (eC (.int 9)) aN))) (eC (.int 2))) (eC (.int 4)))) aN)) (gN 3) (sT
   (sSeq (sSet (eIx (eLst (aC (eIx (eV 1) (eCall F_law_draw (aC (eV 0) (aC (eCB lenP (aC (eV 1) aN)) aN)))) (aC (eOp addP (eC (.int 1)) (eCall F_law_draw (aC (eV 0) (aC (eC (.int 9999)) aN)))) aN))) (eOp fdivP (eCall F_law_draw (aC (eV 0) (aC (eC (.int 5)) aN))) (eC (.int 4)))) (gN 4))
  (sSeq (sSet (eIx (eLst (aC (eC (.int 1)) (aC (eNeg (eC (.int 1))) (aC (eC (.int 2)) (aC (eNeg (eC (.int 3))) aN))))) (eCall F_law_draw (aC (eV 0) (aC (eC (.int 4)) aN)))) (gN 5))
  (sSeq (sSet (eIx (eLst (aC (eC (.str "i")) (aC (eC (.str "j")) (aC (eC (.str "k")) aN)))) (eCall F_law_draw (aC (eV 0) (aC (eC (.int 3)) aN)))) (gN 6))
  (sSeq (sSet (eIx (eLst (aC (eCall F_law_draw (aC (eV 0) (aC (eC (.int 6)) aN))) (aC (eOp subP (eCall F_law_draw (aC (eV 0) (aC (eC (.int 6)) aN))) (eC (.int 9))) (aC (eOp powP (eC (.int 10)) (eC (.int 12))) aN)))) (eOp fdivP (eCall F_law_draw (aC (eV 0) (aC (eC (.int 9)) aN))) (eC (.int 4)))) (gN 7))
  (sExp (eApp (eV 2) (eIx (eLst (aC (eTup (aC (eC (.str "loop")) (aC (eV 6) (aC (eV 4) (aC (eV 7) (aC (eV 5) aN)))))) (aC (eTup (aC (eC (.str "call")) (aC (eV 4) aN))) aN))) (eOp fdivP (eCall F_law_draw (aC (eV 0) (aC (eC (.int 4)) aN))) (eC (.int 3))))))))))))
  (sRet (eCB tupleP (aC (eF2 (eV 2)) aN)))))
def F_law_pile : FN := small (fnF 8 f_law_pile)
def f_law_worth_now : FS :=
  (sSeq (sSet (eLst (aC (eOp subP (eCall F_law_draw (aC (eV 0) (aC (eC (.int 9)) aN))) (eC (.int 4))) (aC (eOp subP (eCall F_law_draw (aC (eV 0) (aC (eC (.int 9)) aN))) (eC (.int 4))) (aC (eOp powP (eC (.int 10)) (eC (.int 12))) (aC (eOp subP (eC (.int 0)) (eOp powP (eC (.int 10)) (eC (.int 12)))) (aC (eC (.str "")) (aC (eC (.str "x y")) (aC (eOp mulP (eC (.str "~")) (eC (.int 100))) aN)))))))) (gN 1))
  (sRet (eF (eIx (eV 1) (eCall F_law_draw (aC (eV 0) (aC (eIx (eLst (aC (eC (.int 7)) (aC (eC (.int 3)) (aC (eC (.int 2)) aN)))) (eCall F_law_draw (aC (eV 0) (aC (eC (.int 3)) aN)))) aN)))))))
def F_law_worth_now : FN := small (fnF 2 f_law_worth_now)
def f_law_run : FS :=
  (sSeq (sSet (eCall F_law_first (aC (eTup aN) (aC (eV 2) aN))) (gN 3))
  (sSeq (sFor (iE (eLst (aC (eC (.str "i")) (aC (eC (.str "j")) (aC (eC (.str "k")) (aC (eC (.str "b")) aN)))))) (gN 4) (sT
   (sIf (eOpB gtP (eCall F_law_draw (aC (eV 0) (aC (eC (.int 5)) aN))) (eC (.int 0)))
   (sPut (eIx (eV 3) (eC (.str "boxes"))) (eV 4) (eCall F_law_worth_now (aC (eV 0) aN)))
   sNil)))
  (sSeq (sPut (eV 3) (eC (.str "rows")) (eIx (eLst (aC (eF eDic0) (aC (eF (eDicN (pC (eC (.str "r")) (eTup (aC (eC (.int 0)) (aC (eC (.str "x")) (aC (eC (.int 3)) aN)))) pN))) aN))) (eCall F_law_draw (aC (eV 0) (aC (eC (.int 2)) aN)))))
  (sSeq (sPut (eV 3) (eC (.str "fits")) (eIx (eLst (aC (eF eDic0) (aC (eF (eDicN (pC (eC (.str "f")) (eTup (aC (eC (.str "i")) (aC (eTup (aC (eC (.str "box")) (aC (eC (.str "i")) aN))) aN))) pN))) aN))) (eCall F_law_draw (aC (eV 0) (aC (eC (.int 2)) aN)))))
  (sSeq (sPut (eV 3) (eC (.str "pile")) (eCB listP (aC (eCall F_law_pile (aC (eV 0) (aC (eV 1) aN))) aN)))
  (sSeq (sPut (eV 3) (eC (.str "place")) (eTup (aC (eOp mulP (eIx (eV 1) (eCall F_law_draw (aC (eV 0) (aC (eCB lenP (aC (eV 1) aN)) aN)))) (eCall F_law_draw (aC (eV 0) (aC (eC (.int 2)) aN)))) (aC (eCall F_law_draw (aC (eV 0) (aC (eC (.int 4)) aN))) aN))))
  (sSeq (sPut (eV 3) (eC (.str "trap")) (eIx (eLst (aC (eC (.int 0)) (aC (eC (.int 0)) (aC (eIx (eV 1) (eCall F_law_draw (aC (eV 0) (aC (eCB lenP (aC (eV 1) aN)) aN)))) aN)))) (eCall F_law_draw (aC (eV 0) (aC (eC (.int 3)) aN)))))
  (sSeq (sPut (eV 3) (eC (.str "fault")) (eIx (eLst (aC (eC .none) (aC (eTup (aC (eC (.str "kind")) (aC (eIx (eV 1) (eCall F_law_draw (aC (eV 0) (aC (eCB lenP (aC (eV 1) aN)) aN)))) aN))) (aC (eTup (aC (eC (.str "nought")) (aC (eC (.int 9999)) aN))) aN)))) (eCall F_law_draw (aC (eV 0) (aC (eC (.int 3)) aN)))))
  (sSeq (sPut (eV 3) (eC (.str "trapped")) (eAn (eOp isNotP (eIx (eV 3) (eC (.str "fault"))) (eC .none)) (eOp eqP (eCall F_law_draw (aC (eV 0) (aC (eC (.int 2)) aN))) (eC (.int 0)))))
  (sSeq (sPut (eV 3) (eC (.str "asked")) (eCall F_law_draw (aC (eV 0) (aC (eC (.int 3)) aN))))
  (sSeq (sPut (eV 3) (eC (.str "said")) (eSl (eLst (aC (eTup aN) (aC (eTup (aC (eC (.int 1)) aN)) (aC (eTup (aC (eC (.str "x")) (aC (eNeg (eC (.int 2))) aN))) aN)))) oN (oS (eCall F_law_draw (aC (eV 0) (aC (eC (.int 4)) aN))))))
  (sRet (eV 3)))))))))))))
def F_law_run : FN := small (fnF 5 f_law_run)
def f_law_numbers : FS :=
  (sSeq (sSet (eLstN (aC (eOp addP (eC (.int 1)) (eCall F_law_draw (aC (eV 0) (aC (eC (.int 9)) aN)))) aN)) (gN 2))
  (sSeq (sFor (iR1 (aC (eOp subP (eV 1) (eC (.int 1))) aN)) (gN 3) (sT
   (sExp (eApp (eV 2) (eOp addP (eIx (eV 2) (eNeg (eC (.int 1)))) (eIx (eLst (aC (eC (.int 1)) (aC (eC (.int 10)) (aC (eC (.int 90)) (aC (eOp addP (eC (.int 1)) (eCall F_law_draw (aC (eV 0) (aC (eC (.int 30)) aN)))) aN))))) (eCall F_law_draw (aC (eV 0) (aC (eC (.int 4)) aN)))))))))
  (sRet (eF2 (eV 2)))))
def F_law_numbers : FN := small (fnF 4 f_law_numbers)
def f_law : FS :=
  (sSeq (sSet (eCall F_law_pen (aC (eV 0) aN)) (gN 1))
  (sSeq (sSet (eLst (aC (eC (.str "empty")) (aC (eC (.str "norow")) (aC (eC (.str "kind")) (aC (eC (.str "range")) (aC (eC (.str "nought")) (aC (eC (.str "nofit")) (aC (eC (.str "deep")) (aC (eC (.str "great")) (aC (eC (.str "long")) (aC (eC (.str "noline")) (aC (eC (.str "pile")) (aC (eC (.str "back")) aN))))))))))))) (gN 2))
  (sSeq (sSet (eOp addP (eV 2) (eLst (aC (eC (.str "again")) (aC (eC (.str "data")) (aC (eC (.str "trap")) aN))))) (gN 2))
  (sSeq (sFor (iR1 (aC (eC (.int 12)) aN)) (gN 3) (sT
   (sSeq (sSet (eCall F_law_numbers (aC (eV 1) (aC (eOp addP (eC (.int 1)) (eCall F_law_draw (aC (eV 1) (aC (eC (.int 8)) aN)))) aN))) (gN 4))
  (sSeq (sSet (eCB tupleP (aC (eLc (iE (eV 4)) [6] (gN 6) tY (eTup (aC (eV 6) (aC (eIx (eLst (aC (eTup (aC (eC (.str "go")) (aC (eV 6) aN))) (aC (eTup (aC (eC (.str "note")) (aC (eC (.str "go")) aN))) aN))) (eCall F_law_draw (aC (eV 1) (aC (eC (.int 2)) aN)))) aN)))) aN)) (gN 5))
  (sSeq (sSet (eCall F_law_run (aC (eV 1) (aC (eV 4) (aC (eIx (eV 4) (eCall F_law_draw (aC (eV 1) (aC (eCB lenP (aC (eV 4) aN)) aN)))) aN)))) (gN 7))
  (sSeq (sPut (eV 7) (eC (.str "stand")) (eIx (eLst (aC (eC (.str "going")) (aC (eC (.str "stopped")) (aC (eC (.str "asks")) (aC (eC (.str "faulted")) aN))))) (eCall F_law_draw (aC (eV 1) (aC (eC (.int 4)) aN)))))
  (sSeq (sPut (eV 7) (eC (.str "trap")) (eIx (eLst (aC (eC (.int 0)) (aC (eIx (eV 4) (eC (.int 0))) (aC (eIx (eV 4) (eNeg (eC (.int 1)))) (aC (eOp addP (eIx (eV 4) (eNeg (eC (.int 1)))) (eC (.int 7))) aN))))) (eCall F_law_draw (aC (eV 1) (aC (eC (.int 4)) aN)))))
  (sSeq (sSet (eIx (eLst (aC (eIx (eV 4) (eCall F_law_draw (aC (eV 1) (aC (eCB lenP (aC (eV 4) aN)) aN)))) (aC (eOp addP (eC (.int 1)) (eCall F_law_draw (aC (eV 1) (aC (eC (.int 9999)) aN)))) aN))) (eOp fdivP (eCall F_law_draw (aC (eV 1) (aC (eC (.int 3)) aN))) (eC (.int 2)))) (gN 6))
  (sSeq (sSet (eIx (eV 2) (eCall F_law_draw (aC (eV 1) (aC (eC (.int 15)) aN)))) (gN 8))
  (sSeq (sSet (eDicD (aC (eV 7) aN)) (gN 9))
  (sSeq (sPut (eV 9) (eC (.str "fault")) (eTup (aC (eV 8) (aC (eV 6) aN))))
  (sSeq (sIf (tAn (eOpB inP (eIx (eV 7) (eC (.str "trap"))) (eV 4)) (tNo (tV (eIx (eV 7) (eC (.str "trapped"))))))
   (sExp (eUpd (eV 9) (eDicN (pC (eC (.str "stand")) (eC (.str "going")) (pC (eC (.str "at")) (eIx (eV 7) (eC (.str "trap"))) (pC (eC (.str "trapped")) (eC (.bool true)) pN))))))
   (sExp (eUpd (eV 9) (eDicN (pC (eC (.str "stand")) (eC (.str "faulted")) (pC (eC (.str "at")) (eV 6) pN))))))
  (sSeq (sSet (eCall F_law_state (aC (eF2 (eV 7)) aN)) (gN 10))
  (sSeq (sSet (eCB reprQ (aC (eTup (aC (eV 5) (aC (eV 10) aN))) aN)) (gN 11))
  (sFor (iR1 (aC (eC (.int 2)) aN)) (gN 12) (sT
   (sIf (tOu (eOpB neP (eCB reprQ (aC (eCall F_fault_at (aC (eV 5) (aC (eV 10) (aC (eV 8) (aC (eV 6) aN))))) aN)) (eCB reprQ (aC (eCall F_law_state (aC (eF2 (eV 9)) aN)) aN))) (eOpB neP (eCB reprQ (aC (eTup (aC (eV 5) (aC (eV 10) aN))) aN)) (eV 11)))
   (sRet (eC (.bool false)))
   sNil)))))))))))))))))
  (sRet (eC (.bool true)))))))
structure Tx (K : PySem.W.Frag) (P : Params) (mg : Str → Option Value) (fd_state_with : FuncData) : Prop where
  abs : mg "abs" = none
  bool : mg "bool" = none
  dict : mg "dict" = none
  int : mg "int" = none
  isinstance : mg "isinstance" = none
  len : mg "len" = none
  list : mg "list" = none
  range : mg "range" = none
  repr : mg "repr" = none
  sorted : mg "sorted" = none
  tuple : mg "tuple" = none
  zip : mg "zip" = none
  k_PARTS : ∃ p, mg "PARTS" = some (.ref p) ∧ ∀ G, Rp K G (.ref p) v_PARTS
  w_state_with_0 : KwBd K fd_state_with ["state"] ["stand", "at", "fault"] "new"
  w_state_with_1 : KwBd K fd_state_with ["state"] ["stand", "at", "trapped", "fault"] "new"
  t_PARTS : KTup K mg "PARTS" l_PARTS
section
variable {P : Program} {w : World} {K : PySem.W.Frag} {mg : Str → Option Value} {base : Heap}
theorem ok_is_whole {fd_state_with : FuncData} {f : Addr} {fd : FuncData} (F : Fun K "is_whole" "is_whole" s_is_whole f fd) (T : Tx K w.params mg fd_state_with) : FnOk P w K mg base CX0 (1) f fd ["thing"] (spD K 1 (fnF 1 f_is_whole)) := by
  refine okD F sc_is_whole (fun cdv A outer s H E hr => ?_)
  have hu := hu_of hr
  exact (ss_one (sd_ret (ed_and (ed_isi (by decide) (by rfl) T.isinstance (ed_var (pv 0)) (pe_bltn (v := .ty "int") (by rfl) T.int (by decide +kernel) rfl)) (ed_one (ed_not (ed_isi (by decide) (by rfl) T.isinstance (ed_var (pv 0)) (pe_bltn (v := .ty "bool") (by rfl) T.bool (by decide +kernel) rfl)))))))
theorem ok_has_line {fd_state_with : FuncData} {f : Addr} {fd : FuncData} (F : Fun K "has_line" "has_line" s_has_line f fd) (T : Tx K w.params mg fd_state_with) {f_is_whole' : Addr} {d_is_whole : FuncData} (c_is_whole : Cal P w K mg base (1) "is_whole" ["thing"] (spD K 1 F_is_whole) f_is_whole' d_is_whole) : FnOk P w K mg base CX0 (2) f fd ["program", "thing"] (spD K 2 (fnF 3 f_has_line)) := by
  refine okD F sc_has_line (fun cdv A outer s H E hr => ?_)
  have hu := hu_of hr
  exact (ss_one (sd_ret (ed_and (ed_call c_is_whole (hr.mono (by omega)) (by rfl) (ad_cons (ed_var (pv 1)) ad_nil)) (ed_one (ed_cmp (od_in hu) (ed_var (pv 1)) (ed_lc (own := [("line", 2)]) rfl sc_has_line.nd (id_expr (ed_var (pv 0))) (blkOk_by (own := [("line", 2)]) (N := ["program", "thing", "line"]) (sc := (defScope s_has_line)) (by decide +kernel)) (fun _ _ _ _ _ => (gd_name (pg_name (i := 2) sc_has_line.nd rfl (Or.inl rfl)))) (fun _ _ _ _ _ => ts_nil) (fun _ _ _ _ _ => (ed_ix hu (ed_var (pv 2)) ed_int))))))))
theorem ok_part_of {fd_state_with : FuncData} {f : Addr} {fd : FuncData} (F : Fun K "part_of" "part_of" s_part_of f fd) (T : Tx K w.params mg fd_state_with) : FnOk P w K mg base CX0 (1) f fd ["state", "name"] (spD K 2 (fnF 2 f_part_of)) := by
  refine okD F sc_part_of (fun cdv A outer s H E hr => ?_)
  have hu := hu_of hr
  exact (ss_one (sd_ret (ed_frz (ed_ix hu (ed_var (pv 0)) (ed_tix (by rfl) T.t_PARTS (ed_var (pv 1)))))))
theorem ok_state_with {fd_state_with : FuncData} {f : Addr} {fd : FuncData} (F : Fun K "state_with" "state_with" s_state_with f fd) (T : Tx K w.params mg fd_state_with) : FnKw P w K mg base (1) f fd ["state"] "new" (spD K 2 (fnF 4 f_state_with)) := by
  refine okK (ps := ["state"]) (nm := "new") F sc_state_with (fun cdv A outer s H E hr => ?_)
  have hu := hu_of hr
  exact (ss_one (sd_ret (ed_callTy cd_tuple (by rfl) T.tuple (by decide +kernel) (ad_cons (ed_lc (own := [("name", 2), ("part", 3)]) rfl sc_state_with.nd (id_zip (by rfl) T.zip (ad_cons (ed_gdat (by rfl) T.k_PARTS) (ad_cons (ed_var (pv 0)) ad_nil))) (blkOk_by (own := [("name", 2), ("part", 3)]) (N := ["state", "new", "name", "part"]) (sc := (defScope s_state_with)) (by decide +kernel)) (fun _ _ _ _ _ => (gd_tup rfl (gs_cons (gd_name (pg_name (i := 2) sc_state_with.nd rfl (Or.inl rfl))) (gs_cons (gd_name (pg_name (i := 3) sc_state_with.nd rfl (Or.inl rfl))) gs_nil)))) (fun _ _ _ _ _ => ts_nil) (fun _ _ _ _ _ => (ed_getD hu (ed_frz (ed_var (pv 1))) (ed_var (pv 2)) (ed_var (pv 3))))) ad_nil))))
theorem ok_fault_at {fd_state_with : FuncData} {f : Addr} {fd : FuncData} (F : Fun K "fault_at" "fault_at" s_fault_at f fd) (T : Tx K w.params mg fd_state_with) {f_has_line' : Addr} {d_has_line : FuncData} (c_has_line : Cal P w K mg base (2) "has_line" ["program", "thing"] (spD K 2 F_has_line) f_has_line' d_has_line) {f_part_of' : Addr} {d_part_of : FuncData} (c_part_of : Cal P w K mg base (1) "part_of" ["state", "name"] (spD K 2 F_part_of) f_part_of' d_part_of) {f_state_with' : Addr} (c_state_with : KCalK P w K mg base (1) "state_with" ["state"] "new" (spD K 2 F_state_with) f_state_with' fd_state_with) : FnOk P w K mg base CX0 (3) f fd ["program", "state", "word", "number"] (spD K 4 (fnF 5 f_fault_at)) := by
  refine okD F sc_fault_at (fun cdv A outer s H E hr => ?_)
  have hu := hu_of hr
  exact (ss_cons (sd_set (i := 4) sc_fault_at.nd rfl (Or.inl rfl) (ed_call c_part_of (hr.mono (by omega)) (by rfl) (ad_cons (ed_var (pv 1)) (ad_cons ed_str ad_nil))))
  (ss_cons (sd_if (td_w (wd_and (td_val (ed_call c_has_line (hr.mono (by omega)) (by rfl) (ad_cons (ed_var (pv 0)) (ad_cons (ed_var (pv 4)) ad_nil)))) (wd_and1 (td_not (td_val (ed_call c_part_of (hr.mono (by omega)) (by rfl) (ad_cons (ed_var (pv 1)) (ad_cons ed_str ad_nil))))))))
   (ss_one (sd_ret (ed_callK c_state_with (T.w_state_with_1) (hr.mono (by omega)) (by rfl) (ad_cons (ed_var (pv 1)) ad_nil) (kd_cons ed_str (kd_cons (ed_var (pv 4)) (kd_cons ed_bl (kd_cons (ed_tup (ad_cons (ed_var (pv 2)) (ad_cons (ed_var (pv 3)) ad_nil))) kd_nil)))))))
   ss_nil)
  (ss_one (sd_ret (ed_callK c_state_with (T.w_state_with_0) (hr.mono (by omega)) (by rfl) (ad_cons (ed_var (pv 1)) ad_nil) (kd_cons ed_str (kd_cons (ed_var (pv 3)) (kd_cons (ed_tup (ad_cons (ed_var (pv 2)) (ad_cons (ed_var (pv 3)) ad_nil))) kd_nil))))))))
theorem ok_law_pen {fd_state_with : FuncData} {f : Addr} {fd : FuncData} (F : Fun K "_law_pen" "_law_pen" s_law_pen f fd) (T : Tx K w.params mg fd_state_with) : FnOk P w K mg base CX0 (1) f fd ["_law_script"] (spD K 1 (fnF 1 f_law_pen)) := by
  refine okD F sc_law_pen (fun cdv A outer s H E hr => ?_)
  have hu := hu_of hr
  exact (ss_one (sd_ret (ed_dicN (pd_cons ed_str (ed_callTy cd_list (by rfl) T.list (by decide +kernel) (ad_cons (ed_slice (ed_var (pv 0)) od_none (od_some ed_int)) ad_nil)) (pd_cons ed_str ed_int (pd_cons ed_str ed_int pd_nil))))))
theorem ok_law_draw {fd_state_with : FuncData} {f : Addr} {fd : FuncData} (F : Fun K "_law_draw" "_law_draw" s_law_draw f fd) (T : Tx K w.params mg fd_state_with) : FnOk P w K mg base CX0 (1) f fd ["_law_pen_here", "_law_many"] (spD K 2 (fnF 8 f_law_draw)) := by
  refine okD F sc_law_draw (fun cdv A outer s H E hr => ?_)
  have hu := hu_of hr
  exact (ss_cons (sd_if (td_cmp od_gt (ed_ix hu (ed_var (pv 0)) ed_str) ed_int)
   (ss_cons (sd_set (i := 2) sc_law_draw.nd rfl (Or.inl rfl) (ed_op od_mod (ed_ix hu (ed_var (pv 0)) ed_str) (ed_var (pv 1))))
  (ss_cons (sd_put hu (ed_var (pv 0)) ed_str (ed_op od_fdiv (ed_ix hu (ed_var (pv 0)) ed_str) (ed_var (pv 1))))
  (ss_one (sd_ret (ed_var (pv 2))))))
   ss_nil)
  (ss_cons (sd_set (i := 3) sc_law_draw.nd rfl (Or.inl rfl) (ed_ix hu (ed_var (pv 0)) ed_str))
  (ss_cons (sd_put hu (ed_var (pv 0)) ed_str (ed_op od_add (ed_var (pv 3)) ed_int))
  (ss_cons (sd_set (i := 4) sc_law_draw.nd rfl (Or.inl rfl) (ed_op od_add (ed_op od_mul ed_int (ed_var (pv 3))) ed_int))
  (ss_cons (sd_if (td_cmp (od_ne hr.units) (ed_ix hu (ed_var (pv 0)) ed_str) (ed_lst ad_nil))
   (ss_one (sd_set (i := 4) sc_law_draw.nd rfl (Or.inl rfl) (ed_ix hu (ed_ix hu (ed_var (pv 0)) ed_str) (ed_op od_mod (ed_var (pv 3)) (ed_callB cd_len (by rfl) T.len (by decide +kernel) (ad_cons (ed_ix hu (ed_var (pv 0)) ed_str) ad_nil))))))
   ss_nil)
  (ss_cons (sd_if (td_w (wd_and (td_cmp od_lt (ed_var (pv 3)) (ed_callB cd_len (by rfl) T.len (by decide +kernel) (ad_cons (ed_ix hu (ed_var (pv 0)) ed_str) ad_nil))) (wd_and1 (td_cmp od_ge (ed_callB cd_abs (by rfl) T.abs (by decide +kernel) (ad_cons (ed_var (pv 4)) ad_nil)) (ed_op od_pow ed_int ed_int)))))
   (ss_cons (sd_set (i := 5) sc_law_draw.nd rfl (Or.inl rfl) (ed_op od_add (ed_op od_mul ed_int (ed_callB cd_abs (by rfl) T.abs (by decide +kernel) (ad_cons (ed_var (pv 4)) ad_nil))) (ed_callTy cd_int (by rfl) T.int (by decide +kernel) (ad_cons (ed_cmp od_lt (ed_var (pv 4)) ed_int) ad_nil))))
  (ss_cons (sd_put hu (ed_var (pv 0)) ed_str (ed_op od_fdiv (ed_var (pv 5)) (ed_var (pv 1))))
  (ss_one (sd_ret (ed_op od_mod (ed_var (pv 5)) (ed_var (pv 1)))))))
   ss_nil)
  (ss_cons (sd_set (i := 6) sc_law_draw.nd rfl (Or.inl rfl) (ed_op od_mod (ed_op od_pow (ed_op od_add (ed_op od_add (ed_op od_mod (ed_var (pv 4)) ed_int) (ed_op od_mul ed_int (ed_var (pv 3)))) ed_int) ed_int) ed_int))
  (ss_cons (sd_set (i := 7) sc_law_draw.nd rfl (Or.inl rfl) (ed_op od_mod (ed_op od_pow (ed_op od_add (ed_op od_mul (ed_var (pv 6)) (ed_op od_add (ed_var (pv 3)) ed_int)) (ed_op od_mul (ed_op od_mul ed_int (ed_var (pv 3))) (ed_var (pv 3)))) ed_int) ed_int))
  (ss_one (sd_ret (ed_op od_mod (ed_op od_fdiv (ed_var (pv 7)) ed_int) (ed_var (pv 1)))))))))))))
theorem ok_law_first {fd_state_with : FuncData} {f : Addr} {fd : FuncData} (F : Fun K "_law_first" "_law_first" s_law_first f fd) (T : Tx K w.params mg fd_state_with) : FnOk P w K mg base CX0 (1) f fd ["_law_program", "_law_number"] (spD K 2 (fnF 3 f_law_first)) := by
  refine okD F sc_law_first (fun cdv A outer s H E hr => ?_)
  have hu := hu_of hr
  exact (ss_cons (sd_set (i := 2) sc_law_first.nd rfl (Or.inl rfl) (ed_dicN (pd_cons ed_str ed_str (pd_cons ed_str (ed_var (pv 1)) (pd_cons ed_str ed_dic0 (pd_cons ed_str (ed_frz ed_dic0) (pd_cons ed_str (ed_frz ed_dic0) (pd_cons ed_str (ed_lst ad_nil) (pd_cons ed_str (ed_tup (ad_cons ed_int (ad_cons ed_int ad_nil))) pd_nil)))))))))
  (ss_cons (sd_expr (ed_upd (ed_var (pv 2)) (ed_dicN (pd_cons ed_str ed_int (pd_cons ed_str ed_bl (pd_cons ed_str ed_non (pd_cons ed_str ed_int (pd_cons ed_str (ed_lst ad_nil) pd_nil))))))))
  (ss_cons (sd_if (td_cmp (od_eq hr.units) (ed_var (pv 1)) ed_int)
   (ss_one (sd_put hu (ed_var (pv 2)) ed_str ed_str))
   ss_nil)
  (ss_one (sd_ret (ed_var (pv 2)))))))
theorem ok_law_state {fd_state_with : FuncData} {f : Addr} {fd : FuncData} (F : Fun K "_law_state" "_law_state" s_law_state f fd) (T : Tx K w.params mg fd_state_with) : FnOk P w K mg base CX0 (1) f fd ["_law_run_here"] (spD K 1 (fnF 6 f_law_state)) := by
  refine okD F sc_law_state (fun cdv A outer s H E hr => ?_)
  have hu := hu_of hr
  exact (ss_cons (sd_set (i := 1) sc_law_state.nd rfl (Or.inl rfl) (ed_callTy cd_tuple (by rfl) T.tuple (by decide +kernel) (ad_cons (ed_lc (own := [("_law_name", 2)]) rfl sc_law_state.nd (id_expr (ed_srtR (by rfl) (by rfl) T.sorted (by decide +kernel) (ad_cons (ed_ix hu (ed_var (pv 0)) ed_str) ad_nil))) (blkOk_by (own := [("_law_name", 2)]) (N := ["_law_run_here", "_law_boxes", "_law_name", "_law_rows", "_law_fits", "_law_pile_here"]) (sc := (defScope s_law_state)) (by decide +kernel)) (fun _ _ _ _ _ => (gd_name (pg_name (i := 2) sc_law_state.nd rfl (Or.inl rfl)))) (fun _ _ _ _ _ => ts_nil) (fun _ _ _ _ _ => (ed_tup (ad_cons (ed_var (pv 2)) (ad_cons (ed_ix hu (ed_ix hu (ed_var (pv 0)) ed_str) (ed_var (pv 2))) ad_nil))))) ad_nil)))
  (ss_cons (sd_set (i := 3) sc_law_state.nd rfl (Or.inl rfl) (ed_callTy cd_tuple (by rfl) T.tuple (by decide +kernel) (ad_cons (ed_lc (own := [("_law_name", 2)]) rfl sc_law_state.nd (id_expr (ed_srtR (by rfl) (by rfl) T.sorted (by decide +kernel) (ad_cons (ed_ix hu (ed_var (pv 0)) ed_str) ad_nil))) (blkOk_by (own := [("_law_name", 2)]) (N := ["_law_run_here", "_law_boxes", "_law_name", "_law_rows", "_law_fits", "_law_pile_here"]) (sc := (defScope s_law_state)) (by decide +kernel)) (fun _ _ _ _ _ => (gd_name (pg_name (i := 2) sc_law_state.nd rfl (Or.inl rfl)))) (fun _ _ _ _ _ => ts_nil) (fun _ _ _ _ _ => (ed_tup (ad_cons (ed_var (pv 2)) (ad_cons (ed_ix hu (ed_ix hu (ed_var (pv 0)) ed_str) (ed_var (pv 2))) ad_nil))))) ad_nil)))
  (ss_cons (sd_set (i := 4) sc_law_state.nd rfl (Or.inl rfl) (ed_callTy cd_tuple (by rfl) T.tuple (by decide +kernel) (ad_cons (ed_lc (own := [("_law_name", 2)]) rfl sc_law_state.nd (id_expr (ed_srtR (by rfl) (by rfl) T.sorted (by decide +kernel) (ad_cons (ed_ix hu (ed_var (pv 0)) ed_str) ad_nil))) (blkOk_by (own := [("_law_name", 2)]) (N := ["_law_run_here", "_law_boxes", "_law_name", "_law_rows", "_law_fits", "_law_pile_here"]) (sc := (defScope s_law_state)) (by decide +kernel)) (fun _ _ _ _ _ => (gd_name (pg_name (i := 2) sc_law_state.nd rfl (Or.inl rfl)))) (fun _ _ _ _ _ => ts_nil) (fun _ _ _ _ _ => (ed_op od_add (ed_tup (ad_cons (ed_var (pv 2)) ad_nil)) (ed_ix hu (ed_ix hu (ed_var (pv 0)) ed_str) (ed_var (pv 2)))))) ad_nil)))
  (ss_cons (sd_set (i := 5) sc_law_state.nd rfl (Or.inl rfl) (ed_tup (ad_cons (ed_callTy cd_tuple (by rfl) T.tuple (by decide +kernel) (ad_cons (ed_ix hu (ed_var (pv 0)) ed_str) ad_nil)) (ad_cons (ed_ix hu (ed_var (pv 0)) ed_str) (ad_cons (ed_ix hu (ed_var (pv 0)) ed_str) (ad_cons (ed_ix hu (ed_var (pv 0)) ed_str) (ad_cons (ed_ix hu (ed_var (pv 0)) ed_str) (ad_cons (ed_ix hu (ed_var (pv 0)) ed_str) ad_nil))))))))
  (ss_one (sd_ret (ed_op od_add (ed_op od_add (ed_tup (ad_cons (ed_ix hu (ed_var (pv 0)) ed_str) (ad_cons (ed_ix hu (ed_var (pv 0)) ed_str) (ad_cons (ed_var (pv 1)) (ad_cons (ed_var (pv 3)) (ad_cons (ed_var (pv 4)) ad_nil)))))) (ed_var (pv 5))) (ed_tup (ad_cons (ed_callTy cd_tuple (by rfl) T.tuple (by decide +kernel) (ad_cons (ed_ix hu (ed_var (pv 0)) ed_str) ad_nil)) ad_nil)))))))))
theorem ok_law_pile {fd_state_with : FuncData} {f : Addr} {fd : FuncData} (F : Fun K "_law_pile" "_law_pile" s_law_pile f fd) (T : Tx K w.params mg fd_state_with) {f_law_draw' : Addr} {d_law_draw : FuncData} (c_law_draw : Cal P w K mg base (1) "_law_draw" ["_law_pen_here", "_law_many"] (spD K 2 F_law_draw) f_law_draw' d_law_draw) : FnOk P w K mg base CX0 (2) f fd ["_law_pen_here", "_law_numbers_here"] (spD K 2 (fnF 8 f_law_pile)) := by
  refine okD F sc_law_pile (fun cdv A outer s H E hr => ?_)
  have hu := hu_of hr
  exact (ss_cons (sd_set (i := 2) sc_law_pile.nd rfl (Or.inl rfl) (ed_lstN ad_nil))
  (ss_cons (sd_for PassesOwn.never rfl (id_range1 (by rfl) T.range (ad_cons (ed_ix hu (ed_lst (ad_cons (ed_call c_law_draw (hr.mono (by omega)) (by rfl) (ad_cons (ed_var (pv 0)) (ad_cons ed_int ad_nil))) (ad_cons ed_int (ad_cons ed_int (ad_cons (ed_op od_add ed_int (ed_call c_law_draw (hr.mono (by omega)) (by rfl) (ad_cons (ed_var (pv 0)) (ad_cons ed_int ad_nil)))) ad_nil))))) (ed_op od_mod (ed_op od_fdiv (ed_call c_law_draw (hr.mono (by omega)) (by rfl) (ad_cons (ed_var (pv 0)) (ad_cons ed_int ad_nil))) ed_int) ed_int)) ad_nil)) (gd_name (pg_name (i := 3) sc_law_pile.nd rfl (Or.inl rfl))) (ss_trim
   (ss_cons (sd_set (i := 4) sc_law_pile.nd rfl (Or.inl rfl) (ed_ix hu (ed_lst (ad_cons (ed_ix hu (ed_var (pv 1)) (ed_call c_law_draw (hr.mono (by omega)) (by rfl) (ad_cons (ed_var (pv 0)) (ad_cons (ed_callB cd_len (by rfl) T.len (by decide +kernel) (ad_cons (ed_var (pv 1)) ad_nil)) ad_nil)))) (ad_cons (ed_op od_add ed_int (ed_call c_law_draw (hr.mono (by omega)) (by rfl) (ad_cons (ed_var (pv 0)) (ad_cons ed_int ad_nil)))) ad_nil))) (ed_op od_fdiv (ed_call c_law_draw (hr.mono (by omega)) (by rfl) (ad_cons (ed_var (pv 0)) (ad_cons ed_int ad_nil))) ed_int)))
  (ss_cons (sd_set (i := 5) sc_law_pile.nd rfl (Or.inl rfl) (ed_ix hu (ed_lst (ad_cons ed_int (ad_cons (ed_neg ed_int) (ad_cons ed_int (ad_cons (ed_neg ed_int) ad_nil))))) (ed_call c_law_draw (hr.mono (by omega)) (by rfl) (ad_cons (ed_var (pv 0)) (ad_cons ed_int ad_nil)))))
  (ss_cons (sd_set (i := 6) sc_law_pile.nd rfl (Or.inl rfl) (ed_ix hu (ed_lst (ad_cons ed_str (ad_cons ed_str (ad_cons ed_str ad_nil)))) (ed_call c_law_draw (hr.mono (by omega)) (by rfl) (ad_cons (ed_var (pv 0)) (ad_cons ed_int ad_nil)))))
  (ss_cons (sd_set (i := 7) sc_law_pile.nd rfl (Or.inl rfl) (ed_ix hu (ed_lst (ad_cons (ed_call c_law_draw (hr.mono (by omega)) (by rfl) (ad_cons (ed_var (pv 0)) (ad_cons ed_int ad_nil))) (ad_cons (ed_op od_sub (ed_call c_law_draw (hr.mono (by omega)) (by rfl) (ad_cons (ed_var (pv 0)) (ad_cons ed_int ad_nil))) ed_int) (ad_cons (ed_op od_pow ed_int ed_int) ad_nil)))) (ed_op od_fdiv (ed_call c_law_draw (hr.mono (by omega)) (by rfl) (ad_cons (ed_var (pv 0)) (ad_cons ed_int ad_nil))) ed_int)))
  (ss_one (sd_expr (ed_append (ed_var (pv 2)) (ed_ix hu (ed_lst (ad_cons (ed_tup (ad_cons ed_str (ad_cons (ed_var (pv 6)) (ad_cons (ed_var (pv 4)) (ad_cons (ed_var (pv 7)) (ad_cons (ed_var (pv 5)) ad_nil)))))) (ad_cons (ed_tup (ad_cons ed_str (ad_cons (ed_var (pv 4)) ad_nil))) ad_nil))) (ed_op od_fdiv (ed_call c_law_draw (hr.mono (by omega)) (by rfl) (ad_cons (ed_var (pv 0)) (ad_cons ed_int ad_nil))) ed_int)))))))))))
  (ss_one (sd_ret (ed_callTy cd_tuple (by rfl) T.tuple (by decide +kernel) (ad_cons (ed_frz2 (ed_var (pv 2))) ad_nil))))))
theorem ok_law_worth_now {fd_state_with : FuncData} {f : Addr} {fd : FuncData} (F : Fun K "_law_worth_now" "_law_worth_now" s_law_worth_now f fd) (T : Tx K w.params mg fd_state_with) {f_law_draw' : Addr} {d_law_draw : FuncData} (c_law_draw : Cal P w K mg base (1) "_law_draw" ["_law_pen_here", "_law_many"] (spD K 2 F_law_draw) f_law_draw' d_law_draw) : FnOk P w K mg base CX0 (2) f fd ["_law_pen_here"] (spD K 1 (fnF 2 f_law_worth_now)) := by
  refine okD F sc_law_worth_now (fun cdv A outer s H E hr => ?_)
  have hu := hu_of hr
  exact (ss_cons (sd_set (i := 1) sc_law_worth_now.nd rfl (Or.inl rfl) (ed_lst (ad_cons (ed_op od_sub (ed_call c_law_draw (hr.mono (by omega)) (by rfl) (ad_cons (ed_var (pv 0)) (ad_cons ed_int ad_nil))) ed_int) (ad_cons (ed_op od_sub (ed_call c_law_draw (hr.mono (by omega)) (by rfl) (ad_cons (ed_var (pv 0)) (ad_cons ed_int ad_nil))) ed_int) (ad_cons (ed_op od_pow ed_int ed_int) (ad_cons (ed_op od_sub ed_int (ed_op od_pow ed_int ed_int)) (ad_cons ed_str (ad_cons ed_str (ad_cons (ed_op od_mul ed_str ed_int) ad_nil)))))))))
  (ss_one (sd_ret (ed_frz (ed_ix hu (ed_var (pv 1)) (ed_call c_law_draw (hr.mono (by omega)) (by rfl) (ad_cons (ed_var (pv 0)) (ad_cons (ed_ix hu (ed_lst (ad_cons ed_int (ad_cons ed_int (ad_cons ed_int ad_nil)))) (ed_call c_law_draw (hr.mono (by omega)) (by rfl) (ad_cons (ed_var (pv 0)) (ad_cons ed_int ad_nil)))) ad_nil))))))))
theorem ok_law_run {fd_state_with : FuncData} {f : Addr} {fd : FuncData} (F : Fun K "_law_run" "_law_run" s_law_run f fd) (T : Tx K w.params mg fd_state_with) {f_law_draw' : Addr} {d_law_draw : FuncData} (c_law_draw : Cal P w K mg base (1) "_law_draw" ["_law_pen_here", "_law_many"] (spD K 2 F_law_draw) f_law_draw' d_law_draw) {f_law_first' : Addr} {d_law_first : FuncData} (c_law_first : Cal P w K mg base (1) "_law_first" ["_law_program", "_law_number"] (spD K 2 F_law_first) f_law_first' d_law_first) {f_law_pile' : Addr} {d_law_pile : FuncData} (c_law_pile : Cal P w K mg base (2) "_law_pile" ["_law_pen_here", "_law_numbers_here"] (spD K 2 F_law_pile) f_law_pile' d_law_pile) {f_law_worth_now' : Addr} {d_law_worth_now : FuncData} (c_law_worth_now : Cal P w K mg base (2) "_law_worth_now" ["_law_pen_here"] (spD K 1 F_law_worth_now) f_law_worth_now' d_law_worth_now) : FnOk P w K mg base CX0 (3) f fd ["_law_pen_here", "_law_numbers_here", "_law_at"] (spD K 3 (fnF 5 f_law_run)) := by
  refine okD F sc_law_run (fun cdv A outer s H E hr => ?_)
  have hu := hu_of hr
  exact (ss_cons (sd_set (i := 3) sc_law_run.nd rfl (Or.inl rfl) (ed_call c_law_first (hr.mono (by omega)) (by rfl) (ad_cons (ed_tup ad_nil) (ad_cons (ed_var (pv 2)) ad_nil))))
  (ss_cons (sd_for PassesOwn.never rfl (id_expr (ed_lst (ad_cons ed_str (ad_cons ed_str (ad_cons ed_str (ad_cons ed_str ad_nil)))))) (gd_name (pg_name (i := 4) sc_law_run.nd rfl (Or.inl rfl))) (ss_trim
   (ss_one (sd_if (td_cmp od_gt (ed_call c_law_draw (hr.mono (by omega)) (by rfl) (ad_cons (ed_var (pv 0)) (ad_cons ed_int ad_nil))) ed_int)
   (ss_one (sd_put hu (ed_ix hu (ed_var (pv 3)) ed_str) (ed_var (pv 4)) (ed_call c_law_worth_now (hr.mono (by omega)) (by rfl) (ad_cons (ed_var (pv 0)) ad_nil))))
   ss_nil))))
  (ss_cons (sd_put hu (ed_var (pv 3)) ed_str (ed_ix hu (ed_lst (ad_cons (ed_frz ed_dic0) (ad_cons (ed_frz (ed_dicN (pd_cons ed_str (ed_tup (ad_cons ed_int (ad_cons ed_str (ad_cons ed_int ad_nil)))) pd_nil))) ad_nil))) (ed_call c_law_draw (hr.mono (by omega)) (by rfl) (ad_cons (ed_var (pv 0)) (ad_cons ed_int ad_nil)))))
  (ss_cons (sd_put hu (ed_var (pv 3)) ed_str (ed_ix hu (ed_lst (ad_cons (ed_frz ed_dic0) (ad_cons (ed_frz (ed_dicN (pd_cons ed_str (ed_tup (ad_cons ed_str (ad_cons (ed_tup (ad_cons ed_str (ad_cons ed_str ad_nil))) ad_nil))) pd_nil))) ad_nil))) (ed_call c_law_draw (hr.mono (by omega)) (by rfl) (ad_cons (ed_var (pv 0)) (ad_cons ed_int ad_nil)))))
  (ss_cons (sd_put hu (ed_var (pv 3)) ed_str (ed_callTy cd_list (by rfl) T.list (by decide +kernel) (ad_cons (ed_call c_law_pile (hr.mono (by omega)) (by rfl) (ad_cons (ed_var (pv 0)) (ad_cons (ed_var (pv 1)) ad_nil))) ad_nil)))
  (ss_cons (sd_put hu (ed_var (pv 3)) ed_str (ed_tup (ad_cons (ed_op od_mul (ed_ix hu (ed_var (pv 1)) (ed_call c_law_draw (hr.mono (by omega)) (by rfl) (ad_cons (ed_var (pv 0)) (ad_cons (ed_callB cd_len (by rfl) T.len (by decide +kernel) (ad_cons (ed_var (pv 1)) ad_nil)) ad_nil)))) (ed_call c_law_draw (hr.mono (by omega)) (by rfl) (ad_cons (ed_var (pv 0)) (ad_cons ed_int ad_nil)))) (ad_cons (ed_call c_law_draw (hr.mono (by omega)) (by rfl) (ad_cons (ed_var (pv 0)) (ad_cons ed_int ad_nil))) ad_nil))))
  (ss_cons (sd_put hu (ed_var (pv 3)) ed_str (ed_ix hu (ed_lst (ad_cons ed_int (ad_cons ed_int (ad_cons (ed_ix hu (ed_var (pv 1)) (ed_call c_law_draw (hr.mono (by omega)) (by rfl) (ad_cons (ed_var (pv 0)) (ad_cons (ed_callB cd_len (by rfl) T.len (by decide +kernel) (ad_cons (ed_var (pv 1)) ad_nil)) ad_nil)))) ad_nil)))) (ed_call c_law_draw (hr.mono (by omega)) (by rfl) (ad_cons (ed_var (pv 0)) (ad_cons ed_int ad_nil)))))
  (ss_cons (sd_put hu (ed_var (pv 3)) ed_str (ed_ix hu (ed_lst (ad_cons ed_non (ad_cons (ed_tup (ad_cons ed_str (ad_cons (ed_ix hu (ed_var (pv 1)) (ed_call c_law_draw (hr.mono (by omega)) (by rfl) (ad_cons (ed_var (pv 0)) (ad_cons (ed_callB cd_len (by rfl) T.len (by decide +kernel) (ad_cons (ed_var (pv 1)) ad_nil)) ad_nil)))) ad_nil))) (ad_cons (ed_tup (ad_cons ed_str (ad_cons ed_int ad_nil))) ad_nil)))) (ed_call c_law_draw (hr.mono (by omega)) (by rfl) (ad_cons (ed_var (pv 0)) (ad_cons ed_int ad_nil)))))
  (ss_cons (sd_put hu (ed_var (pv 3)) ed_str (ed_and (ed_cmp od_isNot (ed_ix hu (ed_var (pv 3)) ed_str) ed_non) (ed_one (ed_cmp (od_eq hr.units) (ed_call c_law_draw (hr.mono (by omega)) (by rfl) (ad_cons (ed_var (pv 0)) (ad_cons ed_int ad_nil))) ed_int))))
  (ss_cons (sd_put hu (ed_var (pv 3)) ed_str (ed_call c_law_draw (hr.mono (by omega)) (by rfl) (ad_cons (ed_var (pv 0)) (ad_cons ed_int ad_nil))))
  (ss_cons (sd_put hu (ed_var (pv 3)) ed_str (ed_slice (ed_lst (ad_cons (ed_tup ad_nil) (ad_cons (ed_tup (ad_cons ed_int ad_nil)) (ad_cons (ed_tup (ad_cons ed_str (ad_cons (ed_neg ed_int) ad_nil))) ad_nil)))) od_none (od_some (ed_call c_law_draw (hr.mono (by omega)) (by rfl) (ad_cons (ed_var (pv 0)) (ad_cons ed_int ad_nil))))))
  (ss_one (sd_ret (ed_var (pv 3)))))))))))))))
theorem ok_law_numbers {fd_state_with : FuncData} {f : Addr} {fd : FuncData} (F : Fun K "_law_numbers" "_law_numbers" s_law_numbers f fd) (T : Tx K w.params mg fd_state_with) {f_law_draw' : Addr} {d_law_draw : FuncData} (c_law_draw : Cal P w K mg base (1) "_law_draw" ["_law_pen_here", "_law_many"] (spD K 2 F_law_draw) f_law_draw' d_law_draw) : FnOk P w K mg base CX0 (2) f fd ["_law_pen_here", "_law_many"] (spD K 2 (fnF 4 f_law_numbers)) := by
  refine okD F sc_law_numbers (fun cdv A outer s H E hr => ?_)
  have hu := hu_of hr
  exact (ss_cons (sd_set (i := 2) sc_law_numbers.nd rfl (Or.inl rfl) (ed_lstN (ad_cons (ed_op od_add ed_int (ed_call c_law_draw (hr.mono (by omega)) (by rfl) (ad_cons (ed_var (pv 0)) (ad_cons ed_int ad_nil)))) ad_nil)))
  (ss_cons (sd_for PassesOwn.never rfl (id_range1 (by rfl) T.range (ad_cons (ed_op od_sub (ed_var (pv 1)) ed_int) ad_nil)) (gd_name (pg_name (i := 3) sc_law_numbers.nd rfl (Or.inl rfl))) (ss_trim
   (ss_one (sd_expr (ed_append (ed_var (pv 2)) (ed_op od_add (ed_ix hu (ed_var (pv 2)) (ed_neg ed_int)) (ed_ix hu (ed_lst (ad_cons ed_int (ad_cons ed_int (ad_cons ed_int (ad_cons (ed_op od_add ed_int (ed_call c_law_draw (hr.mono (by omega)) (by rfl) (ad_cons (ed_var (pv 0)) (ad_cons ed_int ad_nil)))) ad_nil))))) (ed_call c_law_draw (hr.mono (by omega)) (by rfl) (ad_cons (ed_var (pv 0)) (ad_cons ed_int ad_nil))))))))))
  (ss_one (sd_ret (ed_frz2 (ed_var (pv 2)))))))
theorem ok_law {fd_state_with : FuncData} {f : Addr} {fd : FuncData} (F : Fun K "law" "law" s_law f fd) (T : Tx K w.params mg fd_state_with) {f_fault_at' : Addr} {d_fault_at : FuncData} (c_fault_at : Cal P w K mg base (3) "fault_at" ["program", "state", "word", "number"] (spD K 4 F_fault_at) f_fault_at' d_fault_at) {f_law_pen' : Addr} {d_law_pen : FuncData} (c_law_pen : Cal P w K mg base (1) "_law_pen" ["_law_script"] (spD K 1 F_law_pen) f_law_pen' d_law_pen) {f_law_draw' : Addr} {d_law_draw : FuncData} (c_law_draw : Cal P w K mg base (1) "_law_draw" ["_law_pen_here", "_law_many"] (spD K 2 F_law_draw) f_law_draw' d_law_draw) {f_law_state' : Addr} {d_law_state : FuncData} (c_law_state : Cal P w K mg base (1) "_law_state" ["_law_run_here"] (spD K 1 F_law_state) f_law_state' d_law_state) {f_law_run' : Addr} {d_law_run : FuncData} (c_law_run : Cal P w K mg base (3) "_law_run" ["_law_pen_here", "_law_numbers_here", "_law_at"] (spD K 3 F_law_run) f_law_run' d_law_run) {f_law_numbers' : Addr} {d_law_numbers : FuncData} (c_law_numbers : Cal P w K mg base (2) "_law_numbers" ["_law_pen_here", "_law_many"] (spD K 2 F_law_numbers) f_law_numbers' d_law_numbers) : FnOk P w K mg base CX0 (4) f fd ["_law_script"] (spD K 1 (fnF 13 f_law)) := by
  refine okD F sc_law (fun cdv A outer s H E hr => ?_)
  have hu := hu_of hr
  exact (ss_cons (sd_set (i := 1) sc_law.nd rfl (Or.inr rfl) (ed_call c_law_pen (hr.mono (by omega)) (by rfl) (ad_cons (ed_var (pv 0)) ad_nil)))
  (ss_cons (sd_set (i := 2) sc_law.nd rfl (Or.inl rfl) (ed_lst (ad_cons ed_str (ad_cons ed_str (ad_cons ed_str (ad_cons ed_str (ad_cons ed_str (ad_cons ed_str (ad_cons ed_str (ad_cons ed_str (ad_cons ed_str (ad_cons ed_str (ad_cons ed_str (ad_cons ed_str ad_nil))))))))))))))
  (ss_cons (sd_set (i := 2) sc_law.nd rfl (Or.inl rfl) (ed_op od_add (ed_var (pv 2)) (ed_lst (ad_cons ed_str (ad_cons ed_str (ad_cons ed_str ad_nil))))))
  (ss_cons (sd_for PassesOwn.never rfl (id_range1 (by rfl) T.range (ad_cons ed_int ad_nil)) (gd_name (pg_name (i := 3) sc_law.nd rfl (Or.inl rfl))) (ss_trim
   (ss_cons (sd_set (i := 4) sc_law.nd rfl (Or.inl rfl) (ed_call c_law_numbers (hr.mono (by omega)) (by rfl) (ad_cons (ed_var (pv 1)) (ad_cons (ed_op od_add ed_int (ed_call c_law_draw (hr.mono (by omega)) (by rfl) (ad_cons (ed_var (pv 1)) (ad_cons ed_int ad_nil)))) ad_nil))))
  (ss_cons (sd_set (i := 5) sc_law.nd rfl (Or.inl rfl) (ed_callTy cd_tuple (by rfl) T.tuple (by decide +kernel) (ad_cons (ed_lc (own := [("_law_number", 6)]) rfl sc_law.nd (id_expr (ed_var (pv 4))) (blkOk_by (own := [("_law_number", 6)]) (N := ["_law_script", "_law_pen_here", "_law_words", "_law_turn", "_law_numbers_here", "_law_program", "_law_number", "_law_run_here", "_law_word", "_law_due", "_law_state_here", "_law_kept", "_law_again"]) (sc := (defScope s_law)) (by decide +kernel)) (fun _ _ _ _ _ => (gd_name (pg_name (i := 6) sc_law.nd rfl (Or.inl rfl)))) (fun _ _ _ _ _ => ts_nil) (fun _ _ _ _ _ => (ed_tup (ad_cons (ed_var (pv 6)) (ad_cons (ed_ix hu (ed_lst (ad_cons (ed_tup (ad_cons ed_str (ad_cons (ed_var (pv 6)) ad_nil))) (ad_cons (ed_tup (ad_cons ed_str (ad_cons ed_str ad_nil))) ad_nil))) (ed_call c_law_draw (hr.mono (by omega)) (by rfl) (ad_cons (ed_var (pv 1)) (ad_cons ed_int ad_nil)))) ad_nil))))) ad_nil)))
  (ss_cons (sd_set (i := 7) sc_law.nd rfl (Or.inl rfl) (ed_call c_law_run (hr.mono (by omega)) (by rfl) (ad_cons (ed_var (pv 1)) (ad_cons (ed_var (pv 4)) (ad_cons (ed_ix hu (ed_var (pv 4)) (ed_call c_law_draw (hr.mono (by omega)) (by rfl) (ad_cons (ed_var (pv 1)) (ad_cons (ed_callB cd_len (by rfl) T.len (by decide +kernel) (ad_cons (ed_var (pv 4)) ad_nil)) ad_nil)))) ad_nil)))))
  (ss_cons (sd_put hu (ed_var (pv 7)) ed_str (ed_ix hu (ed_lst (ad_cons ed_str (ad_cons ed_str (ad_cons ed_str (ad_cons ed_str ad_nil))))) (ed_call c_law_draw (hr.mono (by omega)) (by rfl) (ad_cons (ed_var (pv 1)) (ad_cons ed_int ad_nil)))))
  (ss_cons (sd_put hu (ed_var (pv 7)) ed_str (ed_ix hu (ed_lst (ad_cons ed_int (ad_cons (ed_ix hu (ed_var (pv 4)) ed_int) (ad_cons (ed_ix hu (ed_var (pv 4)) (ed_neg ed_int)) (ad_cons (ed_op od_add (ed_ix hu (ed_var (pv 4)) (ed_neg ed_int)) ed_int) ad_nil))))) (ed_call c_law_draw (hr.mono (by omega)) (by rfl) (ad_cons (ed_var (pv 1)) (ad_cons ed_int ad_nil)))))
  (ss_cons (sd_set (i := 6) sc_law.nd rfl (Or.inl rfl) (ed_ix hu (ed_lst (ad_cons (ed_ix hu (ed_var (pv 4)) (ed_call c_law_draw (hr.mono (by omega)) (by rfl) (ad_cons (ed_var (pv 1)) (ad_cons (ed_callB cd_len (by rfl) T.len (by decide +kernel) (ad_cons (ed_var (pv 4)) ad_nil)) ad_nil)))) (ad_cons (ed_op od_add ed_int (ed_call c_law_draw (hr.mono (by omega)) (by rfl) (ad_cons (ed_var (pv 1)) (ad_cons ed_int ad_nil)))) ad_nil))) (ed_op od_fdiv (ed_call c_law_draw (hr.mono (by omega)) (by rfl) (ad_cons (ed_var (pv 1)) (ad_cons ed_int ad_nil))) ed_int)))
  (ss_cons (sd_set (i := 8) sc_law.nd rfl (Or.inl rfl) (ed_ix hu (ed_var (pv 2)) (ed_call c_law_draw (hr.mono (by omega)) (by rfl) (ad_cons (ed_var (pv 1)) (ad_cons ed_int ad_nil)))))
  (ss_cons (sd_set (i := 9) sc_law.nd rfl (Or.inl rfl) (ed_dicD (by rfl) T.dict (by decide +kernel) (ad_cons (ed_var (pv 7)) ad_nil)))
  (ss_cons (sd_put hu (ed_var (pv 9)) ed_str (ed_tup (ad_cons (ed_var (pv 8)) (ad_cons (ed_var (pv 6)) ad_nil))))
  (ss_cons (sd_if (td_w (wd_and (td_cmp (od_in hu) (ed_ix hu (ed_var (pv 7)) ed_str) (ed_var (pv 4))) (wd_and1 (td_not (td_val (ed_ix hu (ed_var (pv 7)) ed_str))))))
   (ss_one (sd_expr (ed_upd (ed_var (pv 9)) (ed_dicN (pd_cons ed_str ed_str (pd_cons ed_str (ed_ix hu (ed_var (pv 7)) ed_str) (pd_cons ed_str ed_bl pd_nil)))))))
   (ss_one (sd_expr (ed_upd (ed_var (pv 9)) (ed_dicN (pd_cons ed_str ed_str (pd_cons ed_str (ed_var (pv 6)) pd_nil)))))))
  (ss_cons (sd_set (i := 10) sc_law.nd rfl (Or.inl rfl) (ed_call c_law_state (hr.mono (by omega)) (by rfl) (ad_cons (ed_frz2 (ed_var (pv 7))) ad_nil)))
  (ss_cons (sd_set (i := 11) sc_law.nd rfl (Or.inl rfl) (ed_callB (cd_reprQ hr.gd hr.u128) (by rfl) T.repr (by decide +kernel) (ad_cons (ed_tup (ad_cons (ed_var (pv 5)) (ad_cons (ed_var (pv 10)) ad_nil))) ad_nil)))
  (ss_one (sd_for PassesOwn.never rfl (id_range1 (by rfl) T.range (ad_cons ed_int ad_nil)) (gd_name (pg_name (i := 12) sc_law.nd rfl (Or.inl rfl))) (ss_trim
   (ss_one (sd_if (td_w (wd_or (td_cmp (od_ne hr.units) (ed_callB (cd_reprQ hr.gd hr.u128) (by rfl) T.repr (by decide +kernel) (ad_cons (ed_call c_fault_at (hr.mono (by omega)) (by rfl) (ad_cons (ed_var (pv 5)) (ad_cons (ed_var (pv 10)) (ad_cons (ed_var (pv 8)) (ad_cons (ed_var (pv 6)) ad_nil))))) ad_nil)) (ed_callB (cd_reprQ hr.gd hr.u128) (by rfl) T.repr (by decide +kernel) (ad_cons (ed_call c_law_state (hr.mono (by omega)) (by rfl) (ad_cons (ed_frz2 (ed_var (pv 9))) ad_nil)) ad_nil))) (wd_or1 (td_cmp (od_ne hr.units) (ed_callB (cd_reprQ hr.gd hr.u128) (by rfl) T.repr (by decide +kernel) (ad_cons (ed_tup (ad_cons (ed_var (pv 5)) (ad_cons (ed_var (pv 10)) ad_nil))) ad_nil)) (ed_var (pv 11))))))
   (ss_one (sd_ret ed_bl))
   ss_nil)))))))))))))))))))
  (ss_one (sd_ret ed_bl))))))
end
end My

local macro_rules | `(tactic| walk_at "v") => `(tactic| repeat (first | (with_reducible refine DL.wp_eSlQ.mpr ?_) | (with_reducible refine DL.wp_eRevQ ?_) | (with_reducible refine DL.wp_eGGet ?_) | (with_reducible refine DL.wp_eFn ?_) | (with_reducible refine DL.wp_iZ.mpr ?_) | ((with_reducible apply DL.wp_lcD_cons); (· rfl)) | (with_reducible refine DL.wp_lcD_nil ?_) | (with_reducible refine DL.wp_tY ?_) | (with_reducible refine DL.wp_eDicF ?_) | (with_reducible refine DL.wp_pC ?_) | (with_reducible refine DL.wp_pN ?_) | ((with_reducible apply DL.ex_rng); (· decide); (· decide)) | ((with_reducible apply DL.st_isT); (· rfl); (· rfl)) | ((with_reducible apply DL.st_isF); (· rfl); (· rfl)) | (with_reducible first | refine DL.wp_sSeq.mpr ?_ | refine DL.wp_sSet.mpr ?_ | refine DL.wp_sSetT ?_ | refine DL.wp_eCallM.mpr ?_ | refine DL.wp_eOp.mpr ?_ | refine DL.wp_eOpB.mpr ?_ | refine DL.wp_eC.mpr ?_ | refine DL.wp_eV.mpr ?_ | refine DL.wp_eIx.mpr ?_ | refine DL.wp_sIf.mpr ?_ | refine DL.wp_tAn.mpr ?_ | refine DL.wp_tOu.mpr ?_ | refine DL.wp_tNo.mpr ?_ | refine DL.wp_tV.mpr ?_ | refine DL.wp_eCB.mpr ?_ | refine DL.wp_aC.mpr ?_ | refine DL.wp_aN.mpr ?_ | refine DL.wp_vws_cons.mpr ?_ | refine DL.wp_vws_nil.mpr ?_ | refine DL.wp_eLst.mpr ?_ | refine DL.wp_eTup.mpr ?_ | refine DL.wp_eCall.mpr ?_ | refine DL.wp_sRet.mpr ?_ | refine DL.wp_sNil.mpr ?_ | refine DL.wp_sExp.mpr ?_ | refine DL.wp_sPut.mpr ?_ | refine DL.wp_eChain.mpr ?_ | refine DL.wp_eChainB.mpr ?_ | refine DL.wp_eIf.mpr ?_ | refine DL.wp_eLc.mpr ?_ | refine DL.wp_eLstN.mpr ?_ | refine DL.wp_eApp.mpr ?_ | refine DL.wp_eSl.mpr ?_ | refine DL.wp_oN.mpr ?_ | refine DL.wp_sFor.mpr ?_ | refine DL.wp_iE.mpr ?_ | refine DL.wp_iR1.mpr ?_ | refine DL.st_dic0F ?_ | refine DL.wp_eF.mpr ?_ | refine DL.wp_eF2.mpr ?_ | refine DL.frz2_dat ?_ | refine DL.wp_eAn ?_ | refine DL.wp_eOu ?_ | refine DL.wp_eNot ?_ | refine DL.wp_eNeg ?_ | refine DL.wp_eAddN ?_ | refine DL.wp_oS ?_ | refine DL.wp_eRev ?_ | refine DL.wp_eUp ?_ | refine DL.wp_eJoin ?_ | refine DL.ex_view ?_ | refine DL.frz_dat ?_ | refine DL.ex_dbool ?_ | refine DL.ex_dint ?_ | refine DL.ex_dstr ?_ | refine DL.ex_vlist ?_ | refine DL.ex_ddat ?_ | refine DL.ite_nt ?_ | refine DL.ite_nf ?_ | refine L2.iteT ?_ | refine L2.iteF ?_ | refine DL.ex_mk DL.tru_b ?_ | refine DL.ex_mk DL.add_ii ?_ | refine DL.ex_mk DL.sub_ii ?_ | refine DL.ex_mk DL.lt_ii ?_ | refine DL.ex_mk DL.le_ii ?_ | refine DL.ex_mk DL.gt_ii ?_ | refine DL.ex_mk DL.ge_ii ?_ | refine DL.ex_mk DL.eq_ii ?_ | refine DL.ex_mk DL.ne_ii ?_ | refine DL.ex_mk DL.eq_ss ?_ | refine DL.ex_mk DL.ne_ss ?_ | refine DL.ex_mk DL.is_nn ?_ | refine DL.ex_mk DL.isn_nn ?_ | refine DL.ex_mk DL.len_l ?_ | refine DL.ex_mk DL.len_t ?_ | refine DL.ex_mk DL.abs_i ?_ | refine DL.ex_mk DL.int_i ?_ | refine DL.ex_mk DL.list_l ?_ | refine DL.ex_mk DL.list_t ?_ | refine DL.ex_mk DL.tuple_l ?_ | refine DL.ex_mk DL.tuple_t ?_ | refine DL.ex_mk DL.sl_l ?_ | refine DL.ex_mk DL.it_l ?_ | refine DL.ex_mk DL.it_t ?_ | refine DL.ex_mk DL.it_s ?_ | refine DL.ex_mk DL.p12 ?_ | refine DL.ex_mk DL.lt_ss ?_ | refine DL.ex_mk DL.le_ss ?_ | refine DL.ex_mk DL.gt_ss ?_ | refine DL.ex_mk (DL.asb DL.lt_ii) ?_ | refine DL.ex_mk (DL.asb DL.le_ii) ?_ | refine DL.ex_mk (DL.asb DL.gt_ii) ?_ | refine DL.ex_mk (DL.asb DL.ge_ii) ?_ | refine DL.ex_mk (DL.asb DL.eq_ii) ?_ | refine DL.ex_mk (DL.asb DL.ne_ii) ?_ | refine DL.ex_mk (DL.asb DL.eq_ss) ?_ | refine DL.ex_mk (DL.asb DL.ne_ss) ?_ | refine DL.ex_mk (DL.asb DL.is_nn) ?_ | refine DL.ex_mk (DL.asb DL.isn_nn) ?_ | refine DL.ex_mk (DL.asb DL.lt_ss) ?_ | refine DL.ex_mk (DL.asb DL.le_ss) ?_ | refine DL.ex_mk (DL.asb DL.gt_ss) ?_) | ((with_reducible apply DL.ex_at); (· rfl)) | ((with_reducible apply DL.ex_gT); (· rfl)) | ((with_reducible apply DL.ex_addll); (· exact DL.nle rfl)) | ((with_reducible apply DL.st_tup); (· (with_reducible ((repeat apply DL.dat_cons); exact DL.dat_nil))); (· rfl))))
local macro_rules | `(tactic| walk_at "c") => `(tactic| repeat (first | ((with_reducible apply DL.iteOn); (· rfl)) | ((with_reducible apply DL.iteOff); (· rfl)) | (with_reducible refine DL.wp_eSlQ.mpr ?_) | (with_reducible refine DL.wp_eRevQ ?_) | (with_reducible refine DL.wp_eGGet ?_) | (with_reducible refine DL.wp_eFn ?_) | (with_reducible refine DL.wp_iZ.mpr ?_) | ((with_reducible apply DL.wp_lcD_cons); (· rfl)) | (with_reducible refine DL.wp_lcD_nil ?_) | (with_reducible refine DL.wp_tY ?_) | (with_reducible refine DL.wp_eDicF ?_) | (with_reducible refine DL.wp_pC ?_) | (with_reducible refine DL.wp_pN ?_) | ((with_reducible apply DL.ex_rng); (· decide); (· decide)) | ((with_reducible apply DL.st_ifF); (· rfl)) | ((with_reducible apply DL.st_ifT); (· rfl)) | ((with_reducible apply DL.st_eIfF); (· rfl)) | ((with_reducible apply DL.st_eIfT); (· rfl)) | ((with_reducible apply DL.st_ixD); (· rfl)) | ((with_reducible apply DL.st_isT); (· rfl); (· rfl)) | ((with_reducible apply DL.st_isF); (· rfl); (· rfl)) | (with_reducible first | refine DL.wp_sSeq.mpr ?_ | refine DL.wp_sSet.mpr ?_ | refine DL.wp_sSetT ?_ | refine DL.wp_eCallM.mpr ?_ | refine DL.wp_eOp.mpr ?_ | refine DL.wp_eOpB.mpr ?_ | refine DL.wp_eC.mpr ?_ | refine DL.wp_eV.mpr ?_ | refine DL.wp_eIx.mpr ?_ | refine DL.wp_sIf.mpr ?_ | refine DL.wp_tAn.mpr ?_ | refine DL.wp_tOu.mpr ?_ | refine DL.wp_tNo.mpr ?_ | refine DL.wp_tV.mpr ?_ | refine DL.wp_eCB.mpr ?_ | refine DL.wp_aC.mpr ?_ | refine DL.wp_aN.mpr ?_ | refine DL.wp_vws_cons.mpr ?_ | refine DL.wp_vws_nil.mpr ?_ | refine DL.wp_eLst.mpr ?_ | refine DL.wp_eTup.mpr ?_ | refine DL.wp_eCall.mpr ?_ | refine DL.wp_sRet.mpr ?_ | refine DL.wp_sNil.mpr ?_ | refine DL.wp_sExp.mpr ?_ | refine DL.wp_sPut.mpr ?_ | refine DL.wp_eChain.mpr ?_ | refine DL.wp_eChainB.mpr ?_ | refine DL.wp_eIf.mpr ?_ | refine DL.wp_eLc.mpr ?_ | refine DL.wp_eLstN.mpr ?_ | refine DL.wp_eApp.mpr ?_ | refine DL.wp_eSl.mpr ?_ | refine DL.wp_oN.mpr ?_ | refine DL.wp_sFor.mpr ?_ | refine DL.wp_iE.mpr ?_ | refine DL.wp_iR1.mpr ?_ | refine DL.st_dic0F ?_ | refine DL.wp_eF.mpr ?_ | refine DL.wp_eF2.mpr ?_ | refine DL.frz2_dat ?_ | refine DL.wp_eAn ?_ | refine DL.wp_eOu ?_ | refine DL.wp_eNot ?_ | refine DL.wp_eNeg ?_ | refine DL.wp_eAddN ?_ | refine DL.wp_oS ?_ | refine DL.wp_eRev ?_ | refine DL.wp_eUp ?_ | refine DL.wp_eJoin ?_ | refine DL.ex_view ?_ | refine DL.frz_dat ?_ | refine DL.ex_dbool ?_ | refine DL.ex_dint ?_ | refine DL.ex_dstr ?_ | refine DL.ex_vlist ?_ | refine DL.ex_ddat ?_ | refine DL.ite_nt ?_ | refine DL.ite_nf ?_ | refine L2.iteT ?_ | refine L2.iteF ?_ | refine DL.ex_mk DL.tru_b ?_ | refine DL.ex_mk DL.add_ii ?_ | refine DL.ex_mk DL.sub_ii ?_ | refine DL.ex_mk DL.lt_ii ?_ | refine DL.ex_mk DL.le_ii ?_ | refine DL.ex_mk DL.gt_ii ?_ | refine DL.ex_mk DL.ge_ii ?_ | refine DL.ex_mk DL.eq_ii ?_ | refine DL.ex_mk DL.ne_ii ?_ | refine DL.ex_mk DL.eq_ss ?_ | refine DL.ex_mk DL.ne_ss ?_ | refine DL.ex_mk DL.is_nn ?_ | refine DL.ex_mk DL.isn_nn ?_ | refine DL.ex_mk DL.len_l ?_ | refine DL.ex_mk DL.len_t ?_ | refine DL.ex_mk DL.abs_i ?_ | refine DL.ex_mk DL.int_i ?_ | refine DL.ex_mk DL.list_l ?_ | refine DL.ex_mk DL.list_t ?_ | refine DL.ex_mk DL.tuple_l ?_ | refine DL.ex_mk DL.tuple_t ?_ | refine DL.ex_mk DL.sl_l ?_ | refine DL.ex_mk DL.it_l ?_ | refine DL.ex_mk DL.it_t ?_ | refine DL.ex_mk DL.it_s ?_ | refine DL.ex_mk DL.p12 ?_ | refine DL.ex_mk DL.lt_ss ?_ | refine DL.ex_mk DL.le_ss ?_ | refine DL.ex_mk DL.gt_ss ?_ | refine DL.ex_mk (DL.asb DL.lt_ii) ?_ | refine DL.ex_mk (DL.asb DL.le_ii) ?_ | refine DL.ex_mk (DL.asb DL.gt_ii) ?_ | refine DL.ex_mk (DL.asb DL.ge_ii) ?_ | refine DL.ex_mk (DL.asb DL.eq_ii) ?_ | refine DL.ex_mk (DL.asb DL.ne_ii) ?_ | refine DL.ex_mk (DL.asb DL.eq_ss) ?_ | refine DL.ex_mk (DL.asb DL.ne_ss) ?_ | refine DL.ex_mk (DL.asb DL.is_nn) ?_ | refine DL.ex_mk (DL.asb DL.isn_nn) ?_ | refine DL.ex_mk (DL.asb DL.lt_ss) ?_ | refine DL.ex_mk (DL.asb DL.le_ss) ?_ | refine DL.ex_mk (DL.asb DL.gt_ss) ?_) | ((with_reducible apply DL.ex_at); (· rfl)) | ((with_reducible apply DL.ex_gT); (· rfl)) | ((with_reducible apply DL.ex_addll); (· exact DL.nle rfl)) | ((with_reducible apply DL.st_tup); (· (with_reducible ((repeat apply DL.dat_cons); exact DL.dat_nil))); (· rfl))))
namespace My
open PySem PySem.Spec PyProof.Rows L2 DL
/-! ### insertion sort sorts -/
theorem leS_total (a b : Str) : leS a b ∨ leS b a := by
  rw [leS_le, leS_le]
  exact List.le_total _ _
theorem rising_ins {x : Str} : ∀ {l : List Str} {p : Str}, leS p x → risingS p l = true → risingS p (insS x l) = true
  | [], p, hp, _ => by
    show (!ltCps x.cps.toList p.cps.toList && true) = true
    rw [show ltCps x.cps.toList p.cps.toList = false from hp]; rfl
  | y :: r, p, hp, h => by
    obtain ⟨h1, h2⟩ := Bool.and_eq_true_iff.mp (show (!ltCps y.cps.toList p.cps.toList && risingS y r) = true from h)
    unfold insS
    by_cases g : ltCps y.cps.toList x.cps.toList = true
    · rw [if_pos g]
      show (!ltCps y.cps.toList p.cps.toList && risingS y (insS x r)) = true
      rw [h1, Bool.true_and]
      refine rising_ins ?_ h2
      rcases leS_total y x with e | e
      · exact e
      · rw [show ltCps y.cps.toList x.cps.toList = false from e] at g; cases g
    · rw [if_neg g]
      show (!ltCps x.cps.toList p.cps.toList && (!ltCps y.cps.toList x.cps.toList && risingS y r)) = true
      rw [show ltCps x.cps.toList p.cps.toList = false from hp, Bool.eq_false_iff.mpr g, h2]; rfl
theorem sorted_ins {x : Str} : ∀ {l : List Str}, sortedS l = true → sortedS (insS x l) = true
  | [], _ => rfl
  | y :: r, h => by
    have h2 : risingS y r = true := h
    unfold insS
    by_cases g : ltCps y.cps.toList x.cps.toList = true
    · rw [if_pos g]
      show risingS y (insS x r) = true
      refine rising_ins ?_ h2
      rcases leS_total y x with e | e
      · exact e
      · rw [show ltCps y.cps.toList x.cps.toList = false from e] at g; cases g
    · rw [if_neg g]
      show (!ltCps y.cps.toList x.cps.toList && risingS y r) = true
      rw [Bool.eq_false_iff.mpr g, h2]; rfl
theorem srt_sorted : ∀ l : List Str, sortedS (srtS l) = true
  | [] => rfl
  | x :: r => sorted_ins (srt_sorted r)
/-! ### rules -/
theorem wp_eGetD {fo fe ff : FE} {δ : En} {w : Sr} {Q : DV → Sr → Prop} (h : Wp (fo δ) w fun x w1 => Wp (fe δ) w1 fun y w2 => Wp (ff δ) w2 fun z w3 => ∃ kvs i u r, x = .dat (.dict kvs) ∧ y = .dat i ∧ z = .dat u ∧ getP (.dict kvs) i u = some r ∧ Q (.dat r) w3) : Wp (eGetD fo fe ff δ) w Q := by
  unfold eGetD
  refine wp_bnd.mpr (wp_mono h fun x w1 h => wp_bnd.mpr (wp_mono h fun y w2 h => wp_bnd.mpr (wp_mono h fun z w3 ⟨kvs, i, u, r, e1, e2, e3, e4, q⟩ => ?_)))
  subst e1; subst e2; subst e3
  dsimp only
  rw [e4]
  exact wp_opt.mpr ⟨_, rfl, q⟩
theorem wp_eTix {l : List Str} {fe : FE} {δ : En} {w : Sr} {Q : DV → Sr → Prop} (h : Wp (fe δ) w fun y w1 => ∃ d r, y = .dat d ∧ tixP l d = some r ∧ Q (.dat r) w1) : Wp (eTix l fe δ) w Q := by
  unfold eTix
  refine wp_bnd.mpr (wp_mono h fun y w1 ⟨d, r, e1, e2, q⟩ => ?_)
  subst e1
  dsimp only
  exact wp_bnd.mpr (wp_opt.mpr ⟨_, e2, wp_ret.mpr q⟩)
theorem wp_eUpd {fo fe : FE} {δ : En} {w : Sr} {Q : DV → Sr → Prop} (h : Wp (fo δ) w fun x w1 => ∃ k kvs, x = .ref k ∧ w1[k]? = some (.dic kvs) ∧ Wp (fe δ) w1 fun y w2 => ∃ j kvs2 more, y = .ref j ∧ k ≠ j ∧ w2[k]? = some (.dic kvs2) ∧ w2[j]? = some (.dic more) ∧ kvs2.length + more.length ≤ 1000000 ∧ Q (.dat .none) (w2.set k (.dic (mergeA kvs2 more)))) : Wp (eUpd fo fe δ) w Q := by
  unfold eUpd
  refine wp_bnd.mpr (wp_mono h fun x w1 ⟨k, kvs, e1, e2, h⟩ => ?_)
  subst e1
  refine wp_bnd.mpr (wp_is (a := ()) (w' := w1) (by unfold isD; dsimp only; rw [e2]) ?_)
  refine wp_bnd.mpr (wp_mono h fun y w2 ⟨j, kvs2, more, e1, e3, e4, e5, e6, q⟩ => ?_)
  subst e1
  refine wp_is (a := .dat .none) (w' := w2.set k (.dic (mergeA kvs2 more))) ?_ q
  unfold nUpd
  dsimp only
  rw [if_neg e3, e4, e5]
  dsimp only
  rw [if_pos e6]
theorem wp_eSrtR {fr : FA} {δ : En} {w : Sr} {Q : DV → Sr → Prop} (h : Wp (fr δ) w fun xs w1 => Wp (nSrtR xs) w1 Q) : Wp (eSrtR fr δ) w Q := wp_bnd.mpr h
theorem wp_eCallK {F : FN} {ks : List Str} {fr fk : FA} {δ : En} {w : Sr} {Q : DV → Sr → Prop} (h : Wp (fr δ) w fun us w1 => Wp (fk δ) w1 fun ws w2 => Wp (F (us ++ [.ref w2.length])) (w2 ++ [.dic (kzD ks ws)]) Q) : Wp (eCallK F ks fr fk δ) w Q := by
  unfold eCallK
  refine wp_bnd.mpr (wp_mono h fun us w1 h => wp_bnd.mpr (wp_mono h fun ws w2 h => ?_))
  obtain ⟨a, w', e, q⟩ := h
  exact ⟨a, w', e, q⟩
theorem strKeys_dk {l : List (Str × PyData)} : strKeysD (l.map fun p => (.str p.1, p.2)) = some (l.map (·.1)) := by
  induction l with
  | nil => rfl
  | cons p l ih =>
    show (strKeysD (l.map fun p => (.str p.1, p.2))).map _ = _
    rw [ih]; rfl
theorem srt_dat {l : List (Str × PyData)} {w : Sr} {Q : DV → Sr → Prop} (hl : l.length < 64) (q : Q (.dat (.list ((srtS (l.map (·.1))).map .str))) w) : Wp (nSrtR [.dat (.dict (l.map fun p => (.str p.1, p.2)))]) w Q := by
  refine wp_is ?_ q
  show (match strKeysD (l.map fun p => (.str p.1, p.2)) with
      | some ss => if ss.length < 64 ∧ sortedS (srtS ss) = true then some (DV.dat (.list ((srtS ss).map .str)), w) else none
      | none => none) = _
  rw [strKeys_dk]
  dsimp only
  rw [if_pos ⟨by rw [List.length_map]; exact hl, srt_sorted _⟩]
end My

namespace My
open PySem PySem.Spec PyProof.Rows L2 DL
def lk {α : Type} (l : List (Str × α)) (x : Str) : Option α := (l.find? fun p => decide (p.1 = x)).map (·.2)
def dk {α : Type} (g : α → PyData) (l : List (Str × α)) : List (PyData × PyData) := l.map fun p => (.str p.1, g p.2)
theorem val_dk {α : Type} {g : α → PyData} {x : Str} : ∀ {l : List (Str × α)}, valP (dk g l) (.inr x) = (lk l x).map g
  | [] => rfl
  | (y, a) :: l => by
    have ih := val_dk (g := g) (x := x) (l := l)
    unfold valP dk at ih ⊢
    unfold lk at ih ⊢
    rw [List.map_cons, List.find?_cons, List.find?_cons]
    by_cases h : y = x
    · subst h
      have e1 : decide (unK (PyData.str y) = some (.inr y)) = true := decide_eq_true rfl
      have e2 : decide (y = y) = true := decide_eq_true rfl
      rw [e1, e2]; rfl
    · have e1 : decide (unK (PyData.str y) = some (.inr x)) = false := decide_eq_false fun q => h (by
        have : (some (Sum.inr y) : Option Key) = some (.inr x) := q
        cases this; rfl)
      have e2 : decide (y = x) = false := decide_eq_false h
      rw [e1, e2]; exact ih
theorem ix_dk {α : Type} {g : α → PyData} {x : Str} {l : List (Str × α)} {a : α} (h : lk l x = some a) : ixP (.dict (dk g l)) (.str x) = some (g a) := by
  show valP (dk g l) (.inr x) = _
  rw [val_dk, h]; rfl
theorem lk_of {α : Type} {l : List (Str × α)} {x : Str} (h : x ∈ l.map (·.1)) : ∃ a, lk l x = some a := by
  obtain ⟨p, hp, rfl⟩ := List.mem_map.mp h
  unfold lk
  cases q : l.find? (fun r => decide (r.1 = p.1)) with
  | none => have := List.find?_eq_none.mp q p hp; simp at this
  | some r => exact ⟨r.2, rfl⟩
theorem lenOk_of {α : Type} {xs : List α} (h : xs.length ≤ 1000000) : lenOk xs = true := decide_eq_true h
theorem srt_dk {α : Type} {g : α → PyData} {l : List (Str × α)} {w : Sr} {Q : DV → Sr → Prop} (hl : l.length < 64) (q : Q (.dat (.list ((srtS (l.map (·.1))).map .str))) w) : Wp (nSrtR [.dat (.dict (dk g l))]) w Q := by
  have e : dk g l = (l.map fun p => (p.1, g p.2)).map fun p => (.str p.1, p.2) := by unfold dk; rw [List.map_map]; rfl
  rw [e]
  refine srt_dat (by rw [List.length_map]; exact hl) ?_
  rw [List.map_map]; exact q
/-! ### what runs -/
structure Ru where
  stand : PyData
  at_ : PyData
  bx : List (Str × PyData)
  rw : List (Str × PyData)
  ft : List (Str × (PyData × PyData))
  pile : List PyData
  place : PyData
  trap : Int
  trapped : Bool
  fault : PyData
  asked : PyData
  said : List PyData
def p2 (p : PyData × PyData) : PyData := .tuple [p.1, p.2]
def Ru.dict (r : Ru) : PyData := .dict [(.str "stand", r.stand), (.str "at", r.at_), (.str "boxes", .dict (dk id r.bx)), (.str "rows", .dict (dk id r.rw)), (.str "fits", .dict (dk p2 r.ft)), (.str "pile", .list r.pile), (.str "place", r.place),
  (.str "trap", .int r.trap), (.str "trapped", .bool r.trapped), (.str "fault", r.fault), (.str "asked", r.asked), (.str "said", .list r.said)]
def sel {α : Type} (f : Str → α → PyData) (l : List (Str × α)) (x : Str) : PyData := match lk l x with
  | some a => f x a
  | none => .none
theorem sel_of {α : Type} {f : Str → α → PyData} {l : List (Str × α)} {x : Str} {a : α} (h : lk l x = some a) : sel f l x = f x a := by
  unfold sel
  rw [h]
def f2 (x : Str) (a : PyData) : PyData := .tuple [.str x, a]
def f3 (x : Str) (a : PyData × PyData) : PyData := .tuple [.str x, a.1, a.2]
def srt1 {α : Type} (f : Str → α → PyData) (l : List (Str × α)) : List PyData := (srtS (l.map (·.1))).map (sel f l)
def Ru.st (r : Ru) : List PyData := [r.stand, r.at_, .tuple (srt1 f2 r.bx), .tuple (srt1 f2 r.rw), .tuple (srt1 f3 r.ft), .tuple r.pile, r.place, .int r.trap, .bool r.trapped, r.fault, r.asked, .tuple r.said]
structure Ru.sm (u : Ru) : Prop where
  b : u.bx.length < 64
  r : u.rw.length < 64
  f : u.ft.length < 64
  p : u.pile.length ≤ 1000
  s : u.said.length ≤ 1000
theorem add_tn {x : PyData} {xs ys : List PyData} (h : xs.length + 1 + ys.length ≤ 1000000) : addP (.tuple (x :: xs)) (.tuple ys) = some (.tuple (x :: xs ++ ys)) := if_pos h
theorem lboxP {x1 x3 x4 x5 : Option DV} {d : PyData} {c : Str} {l : List (Str × PyData)} (hc : ixP d (.str c) = some (.dict (dk id l))) : ∀ {xs : List Str} {Q : List DV → Sr → Prop}, (∀ x ∈ xs, x ∈ l.map (·.1)) → Q ((xs.map (sel f2 l)).map .dat) [] →
    Wp (lcD (gN 2) tY (eTup (aC (eV 2) (aC (eIx (eIx (eV 0) (eC (.str c))) (eV 2)) aN))) [some (.dat d), x1, none, x3, x4, x5] (xs.map .str)) [] Q
  | [], _, _, q => wp_lcD_nil q
  | x :: xs, Q, h, q => by
    have ih : ∀ {R : List DV → Sr → Prop}, R ((xs.map (sel f2 l)).map .dat) [] → Wp (lcD (gN 2) tY (eTup (aC (eV 2) (aC (eIx (eIx (eV 0) (eC (.str c))) (eV 2)) aN))) [some (.dat d), x1, none, x3, x4, x5] (xs.map .str)) [] R := fun z => lboxP hc (fun y hy => h y (List.mem_cons_of_mem _ hy)) z
    obtain ⟨a, ha⟩ := lk_of (h x List.mem_cons_self)
    rw [List.map_cons]
    refine wp_lcD_cons rfl ?_
    refine wp_tY (iteOn rfl ?_)
    walk_at "v"
    refine st_ixD hc ?_
    walk_at "v"
    refine st_ixD (ix_dk ha) ?_
    walk_at "v"
    rw [List.map_cons, sel_of ha] at q
    exact ih q
theorem add_t1 {a : PyData} {ys : List PyData} (h : ys.length ≤ 1000) : addP (.tuple [a]) (.tuple ys) = some (.tuple (a :: ys)) := by
  show (if ([] : List PyData).length + 1 + ys.length ≤ 1000000 then some (PyData.tuple (a :: [] ++ ys)) else none) = _
  rw [if_pos (by show 0 + 1 + ys.length ≤ _; omega)]; rfl
theorem lfitP {x1 x3 x4 x5 : Option DV} {d : PyData} {c : Str} {l : List (Str × (PyData × PyData))} (hc : ixP d (.str c) = some (.dict (dk p2 l))) : ∀ {xs : List Str} {Q : List DV → Sr → Prop}, (∀ x ∈ xs, x ∈ l.map (·.1)) → Q ((xs.map (sel f3 l)).map .dat) [] →
    Wp (lcD (gN 2) tY (eOp addP (eTup (aC (eV 2) aN)) (eIx (eIx (eV 0) (eC (.str c))) (eV 2))) [some (.dat d), x1, none, x3, x4, x5] (xs.map .str)) [] Q
  | [], _, _, q => wp_lcD_nil q
  | x :: xs, Q, h, q => by
    have ih : ∀ {R : List DV → Sr → Prop}, R ((xs.map (sel f3 l)).map .dat) [] → Wp (lcD (gN 2) tY (eOp addP (eTup (aC (eV 2) aN)) (eIx (eIx (eV 0) (eC (.str c))) (eV 2))) [some (.dat d), x1, none, x3, x4, x5] (xs.map .str)) [] R := fun z => lfitP hc (fun y hy => h y (List.mem_cons_of_mem _ hy)) z
    obtain ⟨a, ha⟩ := lk_of (h x List.mem_cons_self)
    rw [List.map_cons]
    refine wp_lcD_cons rfl ?_
    refine wp_tY (iteOn rfl ?_)
    walk_at "v"
    refine st_ixD hc ?_
    walk_at "v"
    refine st_ixD (ix_dk ha) ?_
    walk_at "v"
    refine ex_mk (add_t1 (nle rfl)) ?_
    rw [List.map_cons, sel_of ha] at q
    exact ih q
theorem srt_len (l : List Str) : (srtS l).length = l.length := (srtS_perm l).length_eq
theorem srt_mem {l : List Str} {x : Str} (h : x ∈ srtS l) : x ∈ l := (srtS_perm l).mem_iff.mp h
theorem state_fn {r : Ru} (hs : r.sm) : fnF 6 f_law_state [.dat r.dict] [] = some (.dat (.tuple r.st), []) := by
  refine pure_of (ds := [r.dict]) ?_
  show Wp (f_law_state [some (.dat r.dict), none, none, none, none, none]) [] _
  have hb : ixP r.dict (.str "boxes") = some (.dict (dk id r.bx)) := rfl
  have hr : ixP r.dict (.str "rows") = some (.dict (dk id r.rw)) := rfl
  have hf : ixP r.dict (.str "fits") = some (.dict (dk p2 r.ft)) := rfl
  have h1 : ∀ l : List Str, l.length < 64 → (srtS l).length ≤ 1000000 := fun l h => by rw [srt_len]; omega
  have hb1 := hs.b; have hr1 := hs.r; have hf1 := hs.f
  unfold f_law_state
  walk_at "v"
  refine wp_eSrtR ?_
  walk_at "v"
  refine st_ixD hb ?_
  walk_at "v"
  refine srt_dk hs.b ?_
  walk_at "v"
  refine lboxP hb (fun x hx => srt_mem hx) ?_
  refine ⟨lenOk_of (by rw [List.length_map]; exact h1 _ (by rw [List.length_map]; exact hs.b)), _, datAll_map _, ?_⟩
  walk_at "v"
  refine wp_eSrtR ?_
  walk_at "v"
  refine st_ixD hr ?_
  walk_at "v"
  refine srt_dk hs.r ?_
  walk_at "v"
  refine lboxP hr (fun x hx => srt_mem hx) ?_
  refine ⟨lenOk_of (by rw [List.length_map]; exact h1 _ (by rw [List.length_map]; exact hs.r)), _, datAll_map _, ?_⟩
  walk_at "v"
  refine wp_eSrtR ?_
  walk_at "v"
  refine st_ixD hf ?_
  walk_at "v"
  refine srt_dk hs.f ?_
  walk_at "v"
  refine lfitP hf (fun x hx => srt_mem hx) ?_
  refine ⟨lenOk_of (by rw [List.length_map]; exact h1 _ (by rw [List.length_map]; exact hs.f)), _, datAll_map _, ?_⟩
  walk_at "v"
  refine st_ixD (z := .list r.pile) rfl ?_
  walk_at "v"
  refine st_ixD (z := r.place) rfl ?_
  walk_at "v"
  refine st_ixD (z := .int r.trap) rfl ?_
  walk_at "v"
  refine st_ixD (z := .bool r.trapped) rfl ?_
  walk_at "v"
  refine st_ixD (z := r.fault) rfl ?_
  walk_at "v"
  refine st_ixD (z := r.asked) rfl ?_
  walk_at "v"
  refine st_ixD (z := r.stand) rfl ?_
  walk_at "v"
  refine st_ixD (z := r.at_) rfl ?_
  walk_at "v"
  refine ex_mk (add_tn (by show 4 + 1 + 6 ≤ 1000000; decide)) ?_
  walk_at "v"
  refine st_ixD (z := .list r.said) rfl ?_
  walk_at "v"
  refine ex_mk (add_tn (by show 10 + 1 + 1 ≤ 1000000; decide)) ?_
  rfl
end My

namespace My
open PySem PySem.Spec PyProof.Rows L2 DL
/-! ### fault_at -/
def prg (l : List (Int × PyData)) : PyData := .tuple (l.map fun p => .tuple [.int p.1, p.2])
theorem in_is {l : List Int} {t : Int} : inP (.int t) (.list (l.map .int)) = some (.bool (l.any fun y => y == t)) := by
  have e : (l.map PyData.int).all flatD = true := by rw [List.all_map]; exact List.all_eq_true.mpr fun _ _ => rfl
  unfold inP inB
  dsimp only
  rw [if_pos ⟨rfl, e⟩, List.any_map]
  have e2 : ((fun y => PyData.eqv y (.int t)) ∘ PyData.int) = fun y => y == t := by
    funext y
    show PyData.eqv (.int y) (.int t) = _
    simp [PyData.eqv]
  rw [e2]; rfl
theorem whole_fn {t : Int} : fnF 1 f_is_whole [.dat (.int t)] [] = some (.dat (.bool true), []) := rfl
theorem llineP {x0 x1 : Option DV} : ∀ {l : List (Int × PyData)} {Q : List DV → Sr → Prop}, Q (((l.map (·.1)).map PyData.int).map .dat) [] →
    Wp (lcD (gN 2) tY (eIx (eV 2) (eC (.int 0))) [x0, x1, none] (l.map fun p => .tuple [.int p.1, p.2])) [] Q
  | [], _, q => wp_lcD_nil q
  | p :: l, Q, q => by
    have ih : ∀ {R : List DV → Sr → Prop}, R (((l.map (·.1)).map PyData.int).map .dat) [] → Wp (lcD (gN 2) tY (eIx (eV 2) (eC (.int 0))) [x0, x1, none] (l.map fun p => .tuple [.int p.1, p.2])) [] R := fun z => llineP z
    rw [List.map_cons]
    refine wp_lcD_cons rfl ?_
    refine wp_tY (iteOn rfl ?_)
    walk_at "v"
    refine st_ixD (z := .int p.1) rfl ?_
    exact ih q
theorem has_fn {l : List (Int × PyData)} {t : Int} (hl : l.length ≤ 1000) : fnF 3 f_has_line [.dat (prg l), .dat (.int t)] [] = some (.dat (.bool ((l.map (·.1)).any fun y => y == t)), []) := by
  refine pure_of (ds := [prg l, .int t]) ?_
  show Wp (f_has_line [some (.dat (prg l)), some (.dat (.int t)), none]) [] _
  unfold f_has_line
  walk_at "v"
  refine wp_pureF (ds := [.int t]) whole_fn ?_
  walk_at "v"
  unfold prg
  walk_at "v"
  refine llineP ?_
  refine ⟨lenOk_of (by rw [List.length_map]; omega), _, datAll_map _, ?_⟩
  walk_at "v"
  refine ex_mk in_is ?_
  rfl
theorem part_fn {ps : List PyData} {x : Str} {j : Nat} {z : PyData} (h : tixP l_PARTS (.str x) = some (.int j)) (hz : ixP (.tuple ps) (.int j) = some z) : fnF 2 f_part_of [.dat (.tuple ps), .dat (.str x)] [] = some (.dat z, []) := by
  refine pure_of (ds := [.tuple ps, .str x]) ?_
  show Wp (f_part_of [some (.dat (.tuple ps)), some (.dat (.str x))]) [] _
  unfold f_part_of
  walk_at "v"
  refine wp_eTix ?_
  walk_at "v"
  refine ⟨_, _, rfl, h, ?_⟩
  refine st_ixD hz ?_
  walk_at "v"
  rfl
def dkK (kw : List (Str × PyData)) : List (Key × DV) := kw.map fun p => (.inr p.1, .dat p.2)
theorem datKV_dkK : ∀ kw : List (Str × PyData), datKV (dkK kw) = some (dk id kw)
  | [] => rfl
  | p :: kw => by
    show (datKV (dkK kw)).map _ = _
    rw [datKV_dkK kw]; rfl
theorem getP_dk {kw : List (Str × PyData)} {x : Str} {u : PyData} : getP (.dict (dk id kw)) (.str x) u = some ((lk kw x).getD u) := by
  show some ((valP (dk id kw) (.inr x)).getD u) = _
  rw [val_dk]
  cases lk kw x <;> rfl
def SwS (kw : List (Str × PyData)) (w : Sr) : Prop := w = [.dic (dkK kw)] ∨ w = [.fz (.dict (dk id kw))]
theorem frz_sw {kw : List (Str × PyData)} {w : Sr} (h : SwS kw w) : frz (.ref 0) w = some (.dict (dk id kw), [.fz (.dict (dk id kw))]) := by
  rcases h with rfl | rfl
  · show (datKV (dkK kw)).map _ = _
    rw [datKV_dkK]; rfl
  · rfl
theorem lswP {kw : List (Str × PyData)} {x0 : Option DV} : ∀ {ps : List (Str × PyData)} {w : Sr} {Q : List DV → Sr → Prop}, SwS kw w → (∀ w', SwS kw w' → Q ((ps.map fun p => (lk kw p.1).getD p.2).map .dat) w') →
    Wp (lcD (gT 2 (gsC (gN 2) (gsC (gN 3) gsN))) tY (eGetD (eF (eV 1)) (eV 2) (eV 3)) [x0, some (.ref 0), none, none] (ps.map fun p => .tuple [.str p.1, p.2])) w Q
  | [], _, _, hw, q => wp_lcD_nil (q _ hw)
  | p :: ps, w, Q, hw, q => by
    rw [List.map_cons]
    refine wp_lcD_cons rfl ?_
    refine wp_tY (iteOn rfl ?_)
    refine wp_eGetD ?_
    walk_at "v"
    refine ⟨_, _, frz_sw hw, ?_⟩
    walk_at "v"
    refine ⟨_, _, _, _, rfl, rfl, rfl, getP_dk, ?_⟩
    exact lswP (ps := ps) (.inr rfl) fun w' h' => q w' h'
theorem refs_dkK : ∀ kw : List (Str × PyData), refsD ((dkK kw).map (·.2)) = []
  | [] => rfl
  | _ :: kw => refs_dkK kw
theorem ren_dkK (ρ : Nat → Option Nat) : ∀ kw : List (Str × PyData), renKV ρ (dkK kw) = some (dkK kw)
  | [] => rfl
  | q :: kw => by
    show (match renD ρ (.dat q.2), renKV ρ (dkK kw) with | some y, some s => some (((.inr q.1 : Key), y) :: s) | _, _ => none) = _
    rw [ren_dkK ρ kw]; rfl
theorem small_dr {F : FN} {d r : PyData} {p : Nat} {w : Sr} {kw : List (Str × PyData)} {n' : Nd} (hp : w[p]? = some (.dic (dkK kw))) (hn : ∀ τ, mapN τ n' = n') (h : F [.dat d, .ref 0] [.dic (dkK kw)] = some (.dat r, [n'])) :
    small F [.dat d, .ref p] w = some (.dat r, w.set p n') := by
  have e0 : refsN (.dic (dkK kw)) = [] := refs_dkK kw
  have e5 : more w [p] = [p] := by unfold more; simp [hp, e0, addAll]
  have e3 : reach w [.dat d, .ref p] = [p] := by unfold reach; simp [refsD, addAll, e5]
  have e7 : inv [p] p = some 0 := by simp [inv]
  have e8 : renL (inv [p]) [.dat d, .ref p] = some [.dat d, .ref 0] := by simp [renL, renD, e7]
  have e9 : pickS w (inv [p]) [p] = some [.dic (dkK kw)] := by simp [pickS, hp, renN, ren_dkK]
  unfold small
  rw [e3, e8, e9]
  simp [h, mapD, putSel, hn]
theorem zip_parts {ps : List PyData} : List.zipWith pairD (l_PARTS.map .str) ps = (l_PARTS.zip ps).map fun p => .tuple [.str p.1, p.2] := by
  have : ∀ (l : List Str) (ps : List PyData), List.zipWith pairD (l.map .str) ps = (l.zip ps).map fun p => .tuple [.str p.1, p.2] := by
    intro l
    induction l with
    | nil => intro ps; rfl
    | cons x l ih =>
      intro ps
      cases ps with
      | nil => rfl
      | cons p ps =>
        show pairD (.str x) p :: List.zipWith pairD (l.map .str) ps = _
        rw [ih ps]; rfl
  exact this _ _
def ov (kw : List (Str × PyData)) (ps : List PyData) : List PyData := (l_PARTS.zip ps).map fun p => (lk kw p.1).getD p.2
theorem ins_dkK {n : Nat} : ∀ kw : List (Str × PyData), insN n (.dic (dkK kw)) = true
  | [] => rfl
  | _ :: kw => ins_dkK kw
theorem sw_fn {kw : List (Str × PyData)} {ps : List PyData} : ∃ n', (∀ τ, mapN τ n' = n') ∧ fnF 4 f_state_with [.dat (.tuple ps), .ref 0] [.dic (dkK kw)] = some (.dat (.tuple (ov kw ps)), [n']) := by
  have hz : (l_PARTS.zip ps).length ≤ 1000000 := by
    rw [List.length_zip]
    exact Nat.le_trans (Nat.min_le_left _ _) (by decide)
  have main : Wp (f_state_with [some (.dat (.tuple ps)), some (.ref 0), none, none]) [.dic (dkK kw)] fun r w' => r = .rt (.dat (.tuple (ov kw ps))) ∧ SwS kw w' := by
    unfold f_state_with
    walk_at "v"
    refine wp_is (a := List.zipWith pairD (l_PARTS.map .str) ps) (w' := [.dic (dkK kw)]) rfl ?_
    rw [zip_parts]
    refine lswP (.inl rfl) fun w' hw => ?_
    refine ⟨lenOk_of (by rw [List.length_map]; exact hz), _, datAll_map _, ?_⟩
    walk_at "v"
    exact ⟨rfl, hw⟩
  obtain ⟨r, w', e, rfl, hw⟩ := main
  have hc : clo 1 w' = true ∧ w'.take 1 = w' ∧ ∃ n', w' = [n'] ∧ ∀ τ, mapN τ n' = n' := by
    rcases hw with rfl | rfl
    · refine ⟨?_, rfl, _, rfl, fun τ => ?_⟩
      · show (insN 1 (.dic (dkK kw)) && true) = true
        rw [ins_dkK]; rfl
      · show Nd.dic ((dkK kw).map fun p => (p.1, mapD τ p.2)) = _
        unfold dkK
        rw [List.map_map]; rfl
    · exact ⟨rfl, rfl, _, rfl, fun τ => rfl⟩
  obtain ⟨h1, h2, n', rfl, hn⟩ := hc
  refine ⟨n', hn, ?_⟩
  have eT : trimR 1 (.rt (.dat (.tuple (ov kw ps)))) [n'] = (.rt (.dat (.tuple (ov kw ps))), [n']) := by unfold trimR; rw [h1]; rfl
  have eS : sT f_state_with [some (.dat (.tuple ps)), some (.ref 0), none, none] [.dic (dkK kw)] = some (.rt (.dat (.tuple (ov kw ps))), [n']) := by
    unfold sT
    rw [e]
    exact congrArg some eT
  unfold fnF
  show bnd (sT f_state_with [some (.dat (.tuple ps)), some (.ref 0), none, none]) _ _ = _
  unfold bnd
  rw [eS]
  rfl
/-! the law's own state behind -/
def Ru.to (r : Ru) (word : Str) (number : Int) (c : Bool) : Ru :=
  if c && !r.trapped then { r with stand := .str "going", at_ := .int r.trap, trapped := true, fault := .tuple [.str word, .int number] }
  else { r with stand := .str "faulted", at_ := .int number, fault := .tuple [.str word, .int number] }
theorem tix7 : tixP l_PARTS (.str "trap") = some (.int (7 : Nat)) := by
  show ((l_PARTS.findIdx? fun y => y == ("trap" : Str)).map fun j => PyData.int (j : Nat)) = _
  rw [show (l_PARTS.findIdx? fun y => y == ("trap" : Str)) = some 7 from by decide +kernel]; rfl
theorem tix8 : tixP l_PARTS (.str "trapped") = some (.int (8 : Nat)) := by
  show ((l_PARTS.findIdx? fun y => y == ("trapped" : Str)).map fun j => PyData.int (j : Nat)) = _
  rw [show (l_PARTS.findIdx? fun y => y == ("trapped" : Str)) = some 8 from by decide +kernel]; rfl
theorem fault_fn {r : Ru} {l : List (Int × PyData)} {word : Str} {number : Int} (hl : l.length ≤ 1000) : fnF 5 f_fault_at [.dat (prg l), .dat (.tuple r.st), .dat (.str word), .dat (.int number)] [] = some (.dat (.tuple (r.to word number ((l.map (·.1)).any fun y => y == r.trap)).st), []) := by
  refine pure_of (ds := [prg l, .tuple r.st, .str word, .int number]) ?_
  show Wp (f_fault_at [some (.dat (prg l)), some (.dat (.tuple r.st)), some (.dat (.str word)), some (.dat (.int number)), none]) [] _
  unfold f_fault_at
  walk_at "v"
  refine wp_pureF (ds := [.tuple r.st, .str "trap"]) (part_fn (j := 7) (z := .int r.trap) tix7 rfl) ?_
  walk_at "v"
  refine wp_pureF (ds := [prg l, .int r.trap]) (has_fn hl) ?_
  walk_at "v"
  have tr : fnF 2 f_part_of [.dat (.tuple r.st), .dat (.str "trapped")] [] = some (.dat (.bool r.trapped), []) := part_fn (j := 8) (z := .bool r.trapped) tix8 rfl
  have fin : Wp (sRet (eCallK F_state_with ["stand", "at", "fault"] (aC (eV 1) aN) (aC (eC (.str "faulted")) (aC (eV 3) (aC (eTup (aC (eV 2) (aC (eV 3) aN))) aN)))) [some (.dat (prg l)), some (.dat (.tuple r.st)), some (.dat (.str word)), some (.dat (.int number)), some (.dat (.int r.trap))]) [] fun r' _ => r' = .rt (.dat (.tuple ({ r with stand := .str "faulted", at_ := .int number, fault := .tuple [.str word, .int number] } : Ru).st)) := by
    walk_at "v"
    refine wp_eCallK ?_
    walk_at "v"
    obtain ⟨n', hn, e⟩ := sw_fn (kw := [("stand", .str "faulted"), ("at", .int number), ("fault", .tuple [.str word, .int number])]) (ps := r.st)
    refine wp_is (small_dr (p := 0) (w := [.dic (dkK [("stand", .str "faulted"), ("at", .int number), ("fault", .tuple [.str word, .int number])])]) rfl hn e) ?_
    rfl
  cases hc : ((l.map (·.1)).any fun y => y == r.trap) with
  | false =>
    refine iteOff rfl ?_
    refine iteOff rfl ?_
    refine wp_sNil.mpr ?_
    unfold Ru.to
    exact fin
  | true =>
    refine iteOn rfl ?_
    walk_at "v"
    refine wp_pureF (ds := [.tuple r.st, .str "trapped"]) tr ?_
    walk_at "v"
    cases ht : r.trapped with
    | true =>
      refine iteOff rfl ?_
      refine wp_sNil.mpr ?_
      have e2 : r.to word number true = { r with stand := .str "faulted", at_ := .int number, fault := .tuple [.str word, .int number] } := if_neg (by rw [ht]; decide)
      rw [e2]
      exact fin
    | false =>
      refine iteOn rfl ?_
      walk_at "v"
      refine wp_eCallK ?_
      walk_at "v"
      obtain ⟨n', hn, e⟩ := sw_fn (kw := [("stand", .str "going"), ("at", .int r.trap), ("trapped", .bool true), ("fault", .tuple [.str word, .int number])]) (ps := r.st)
      refine wp_is (small_dr (p := 0) (w := [.dic (dkK [("stand", .str "going"), ("at", .int r.trap), ("trapped", .bool true), ("fault", .tuple [.str word, .int number])])]) rfl hn e) ?_
      have e2 : r.to word number true = { r with stand := .str "going", at_ := .int r.trap, trapped := true, fault := .tuple [.str word, .int number] } := if_pos (by rw [ht]; rfl)
      rw [e2]
      rfl
end My

namespace My
open PySem PySem.Spec PyProof.Rows L2 DL
/-! ### what can be shown -/
theorem shownAll_ws : ∀ {ds : List PyData} {W D : Nat}, (∀ d ∈ ds, Sm W D d) → ((PyData.shownAll ds).map (·.length)).sum ≤ ds.length * W
  | [], _, _, _ => by simp [PyData.shownAll]
  | d :: ds, W, D, h => by
    have h1 := (h d List.mem_cons_self).b
    have h2 := shownAll_ws fun e he => h e (List.mem_cons_of_mem _ he)
    simp only [PyData.shownAll, List.map_cons, List.sum_cons, List.length_cons]
    rw [Nat.succ_mul]
    omega
theorem nd_all : ∀ {ds : List PyData}, (∀ d ∈ ds, d.hasDict = false) → PyData.hasDictAll ds = false
  | [], _ => by simp [PyData.hasDictAll]
  | d :: ds, h => by
    simp only [PyData.hasDictAll, Bool.or_eq_false_iff]
    exact ⟨h d List.mem_cons_self, nd_all fun e he => h e (List.mem_cons_of_mem _ he)⟩
structure Sh (W D : Nat) (d : PyData) : Prop where
  sm : Sm W D d
  nd : d.hasDict = false
theorem Sh.mono {W D W' D' : Nat} {d : PyData} (h : Sh W D d) (h1 : W ≤ W') (h2 : D ≤ D') : Sh W' D' d := ⟨h.sm.mono h1 h2, h.nd⟩
theorem Sh.int {i : Int} (h : -10000000000000 ≤ i) (h' : i ≤ 10000000000000) : Sh 1002 1 (.int i) := ⟨(Sm.int (by omega) (by omega)).mono (by decide) (by decide), rfl⟩
theorem Sh.str {x : Str} (h : Asc 100 x) : Sh 1002 1 (.str x) := ⟨h.sm, rfl⟩
theorem Sh.non : Sh 1002 1 .none := ⟨⟨rfl, by decide +kernel, by decide +kernel⟩, rfl⟩
theorem Sh.bl (b : Bool) : Sh 1002 1 (.bool b) := ⟨⟨rfl, by cases b <;> decide +kernel, by cases b <;> decide +kernel⟩, rfl⟩
theorem Sh.tup {W D N W' : Nat} {ds : List PyData} (h : ∀ d ∈ ds, Sh W D d) (hl : ds.length ≤ N) (hW : N * W + 2 * N + 3 ≤ W') : Sh W' (D + 1) (.tuple ds) := by
  refine ⟨⟨by simp only [PyData.showable]; exact showAll_of ds fun d hd => (h d hd).sm.s, ?_, ?_⟩, by simp only [PyData.hasDict]; exact nd_all fun d hd => (h d hd).nd⟩
  · have h3 := shownAll_ws fun d hd => (h d hd).sm
    have h4 := tupleText_len_le (PyData.shownAll ds)
    rw [shownAll_len] at h4
    have h5 := Nat.mul_le_mul_right W hl
    simp only [PyData.shown]
    omega
  · have := depthAll_of ds fun d hd => (h d hd).sm.d
    simp only [PyData.depth]
    omega
theorem rep_of {W D : Nat} {d : PyData} (h : Sh W D d) (hW : W ≤ 16000000) (hD : D ≤ 64) : reprQ [d] = some (.str d.shown) := if_pos ⟨.inl h.nd, h.sm.s, Nat.le_trans h.sm.d hD, Nat.le_trans h.sm.b (Nat.le_trans hW (by decide))⟩
def shB (W D : Nat) (d : PyData) : Bool := d.showable && (decide (d.shown.length ≤ W) && (decide (d.depth ≤ D) && !d.hasDict))
theorem shB_ok {W D : Nat} {d : PyData} (h : shB W D d = true) : Sh W D d := by
  unfold shB at h
  simp only [Bool.and_eq_true, decide_eq_true_eq, Bool.not_eq_true'] at h
  exact ⟨⟨h.1, h.2.1, h.2.2.1⟩, h.2.2.2⟩
theorem all_1 {P : PyData → Prop} {a : PyData} (h : P a) : ∀ d ∈ [a], P d := fun d hd => by rw [List.mem_singleton.mp hd]; exact h
theorem all_c {P : PyData → Prop} {a : PyData} {l : List PyData} (h : P a) (t : ∀ d ∈ l, P d) : ∀ d ∈ a :: l, P d := fun d hd => by
  rcases List.mem_cons.mp hd with rfl | hd
  · exact h
  · exact t d hd
theorem all_0 {P : PyData → Prop} : ∀ d ∈ ([] : List PyData), P d := fun d hd => by cases hd
structure Ru.ok (r : Ru) : Prop where
  stand : Sh 1002 1 r.stand
  at_ : Sh 1002 1 r.at_
  bx : ∀ p ∈ r.bx, Asc 100 p.1 ∧ Sh 1002 1 p.2
  bl : r.bx.length ≤ 4
  rw : ∀ p ∈ r.rw, Asc 100 p.1 ∧ Sh 4000 2 p.2
  rl : r.rw.length ≤ 1
  ft : ∀ p ∈ r.ft, Asc 100 p.1 ∧ Sh 4000 2 p.2.1 ∧ Sh 4000 2 p.2.2
  fl : r.ft.length ≤ 1
  pile : ∀ d ∈ r.pile, Sh 6000 2 d
  pl : r.pile.length ≤ 50
  place : Sh 4000 2 r.place
  trap : -10000000000000 ≤ r.trap ∧ r.trap ≤ 10000000000000
  fault : Sh 4000 2 r.fault
  asked : Sh 1002 1 r.asked
  said : ∀ d ∈ r.said, Sh 4000 2 d
  sl : r.said.length ≤ 3
theorem Ru.ok.sm {r : Ru} (h : r.ok) : r.sm := ⟨by have := h.bl; omega, by have := h.rl; omega, by have := h.fl; omega, by have := h.pl; omega, by have := h.sl; omega⟩
theorem srt1_all {α : Type} {f : Str → α → PyData} {l : List (Str × α)} {P : PyData → Prop} (h : ∀ p ∈ l, P (f p.1 p.2)) : ∀ d ∈ srt1 f l, P d := fun d hd => by
  obtain ⟨x, hx, rfl⟩ := List.mem_map.mp hd
  obtain ⟨a, ha⟩ := lk_of (srt_mem hx)
  rw [sel_of ha]
  unfold lk at ha
  obtain ⟨p, hp, rfl⟩ := Option.map_eq_some_iff.mp ha
  have e : p.1 = x := of_decide_eq_true (show decide (p.1 = x) = true from List.find?_some (p := fun q : Str × α => decide (q.1 = x)) hp)
  rw [← e]
  exact h p (List.mem_of_find?_eq_some hp)
theorem srt1_len {α : Type} {f : Str → α → PyData} {l : List (Str × α)} : (srt1 f l).length = l.length := by
  unfold srt1
  rw [List.length_map, srt_len, List.length_map]
theorem Ru.ok.sh {r : Ru} (h : r.ok) : Sh 4000000 5 (.tuple r.st) := by
  have q : ∀ {W D : Nat} {d : PyData}, Sh W D d → W ≤ 310000 → D ≤ 4 → Sh 310000 4 d := fun h a b => h.mono a b
  have l1 : ∀ {x : Str}, Asc 100 x → Sh 4000 2 (.str x) := fun h => (Sh.str h).mono (by decide) (by decide)
  refine Sh.tup (W := 310000) (D := 4) (N := 12) ?_ (Nat.le_refl 12) (by decide)
  refine all_c (q h.stand (by decide) (by decide)) (all_c (q h.at_ (by decide) (by decide)) (all_c ?_ (all_c ?_ (all_c ?_ (all_c ?_ (all_c (q h.place (by decide) (by decide)) (all_c (q (Sh.int h.trap.1 h.trap.2) (by decide) (by decide)) (all_c (q (Sh.bl _) (by decide) (by decide)) (all_c (q h.fault (by decide) (by decide)) (all_c (q h.asked (by decide) (by decide)) (all_1 ?_)))))))))))
  · refine q (Sh.tup (W := 8007) (D := 3) (N := 4) (W' := 33000) (srt1_all fun p hp => ?_) (by rw [srt1_len]; exact h.bl) (by decide)) (by decide) (by decide)
    exact Sh.tup (W := 4000) (D := 2) (N := 2) (all_c (l1 (h.bx p hp).1) (all_1 ((h.bx p hp).2.mono (by decide) (by decide)))) (Nat.le_refl 2) (by decide)
  · refine q (Sh.tup (W := 8007) (D := 3) (N := 1) (W' := 33000) (srt1_all fun p hp => ?_) (by rw [srt1_len]; exact h.rl) (by decide)) (by decide) (by decide)
    exact Sh.tup (W := 4000) (D := 2) (N := 2) (all_c (l1 (h.rw p hp).1) (all_1 (h.rw p hp).2)) (Nat.le_refl 2) (by decide)
  · refine q (Sh.tup (W := 13000) (D := 3) (N := 1) (W' := 33000) (srt1_all fun p hp => ?_) (by rw [srt1_len]; exact h.fl) (by decide)) (by decide) (by decide)
    exact Sh.tup (W := 4000) (D := 2) (N := 3) (all_c (l1 (h.ft p hp).1) (all_c (h.ft p hp).2.1 (all_1 (h.ft p hp).2.2))) (Nat.le_refl 3) (by decide)
  · exact q (Sh.tup (W := 6000) (D := 2) (N := 50) (W' := 310000) h.pile h.pl (by decide)) (by decide) (by decide)
  · exact q (Sh.tup (W := 4000) (D := 2) (N := 3) (W' := 310000) h.said h.sl (by decide)) (by decide) (by decide)
theorem sgo : Sh 1002 1 (.str "going") := shB_ok (by decide +kernel)
theorem sfa : Sh 1002 1 (.str "faulted") := shB_ok (by decide +kernel)
theorem Ru.ok.to {r : Ru} {word : Str} {number : Int} {c : Bool} (h : r.ok) (hw : Asc 100 word) (h0 : -10000000000000 ≤ number) (h1 : number ≤ 10000000000000) : (r.to word number c).ok := by
  have hf : Sh 4000 2 (.tuple [.str word, .int number]) := Sh.tup (W := 1002) (D := 1) (N := 2) (all_c (Sh.str hw) (all_1 (Sh.int h0 h1))) (Nat.le_refl 2) (by decide)
  unfold Ru.to
  split
  · exact ⟨sgo, Sh.int h.trap.1 h.trap.2, h.bx, h.bl, h.rw, h.rl, h.ft, h.fl, h.pile, h.pl, h.place, h.trap, hf, h.asked, h.said, h.sl⟩
  · exact ⟨sfa, Sh.int h0 h1, h.bx, h.bl, h.rw, h.rl, h.ft, h.fl, h.pile, h.pl, h.place, h.trap, hf, h.asked, h.said, h.sl⟩
/-! ### the draws -/
section
variable {n : Nat} {x : Nd} {rest : Sr} {Q : DV → Sr → Prop}
theorem drawIs : F_law_draw = small (fnF 8 drawS) := rfl
theorem draw {m : Int} (hp : PenAt n x) (hn : n ≤ 1000000) (hm : 0 < m) (hm2 : m ≤ 1000000) (k : ∀ r x', 0 ≤ r → r < m → PenAt (n + 1) x' → Q (.dat (.int r)) (x' :: rest)) : Wp (F_law_draw [.ref 0, .dat (.int m)]) (x :: rest) Q := by
  rw [drawIs]
  exact wp_draw hp hn hm hm2 k
theorem mkpen {ns : List Int} {Q : DV → Sr → Prop} (h : ns.length ≤ 63) (k : ∀ x, PenAt 0 x → Q (.ref 0) [x]) : Wp (F_law_pen [.dat (.list (ns.map .int))]) [] Q := wp_mkpen h k
theorem fdivc {r c : Int} (h0 : 0 < c) (h1 : c < 1073741824) : fdivP (.int r) (.int c) = some (.int (r / c)) := by
  show (if 0 < c ∧ c < 1073741824 then some (PyData.int (r / c)) else none) = _
  rw [if_pos ⟨h0, h1⟩]
theorem mt100 : mulP (.str "~") (.int 100) = some (.str (repS "~" 100)) := by
  unfold mulP
  dsimp only
  rw [if_pos ⟨by decide, by decide, by decide +kernel, by decide +kernel, by decide +kernel⟩]
theorem worth_ok (hp : PenAt n x) (hn : n ≤ 700000) (k : ∀ d x', PenAt (n + 4) x' → Sh 1002 1 d → Q (.dat d) (x' :: rest)) : Wp (F_law_worth_now [.ref 0]) (x :: rest) Q := by
  refine wp_pf (ds := []) (n' := n + 4) (P := Sh 1002 1) hp ?_ k
  show Wp (f_law_worth_now [some (.ref 0), none]) _ _
  unfold f_law_worth_now
  walk_at "v"
  refine draw hp (by omega) (by decide) (by decide) (fun r1 x1 r10 r11 hp1 => ?_)
  walk_at "v"
  refine draw hp1 (by omega) (by decide) (by decide) (fun r2 x2 r20 r21 hp2 => ?_)
  walk_at "v"
  refine ex_mk mt100 ?_
  walk_at "v"
  refine draw hp2 (by omega) (by decide) (by decide) (fun r3 x3 r30 r31 hp3 => ?_)
  refine wp_ixL (P := fun v => ∃ j : Int, v = .int j ∧ 1 ≤ j ∧ j ≤ 7) ?_ r30 r31 (fun d ⟨j, e, j0, j1⟩ => ?_)
  · intro v hv
    simp only [List.mem_cons, List.not_mem_nil, or_false] at hv
    rcases hv with rfl | rfl | rfl <;> exact ⟨_, rfl, by decide, by decide⟩
  subst e
  walk_at "v"
  refine draw hp3 (by omega) (by omega) (by omega) (fun r4 x4 r40 r41 hp4 => ?_)
  refine wp_ixL (P := Sh 1002 1) ?_ r40 (by show r4 < 7; omega) (fun d hd => ?_)
  · refine all_c (Sh.int (by omega) (by omega)) (all_c (Sh.int (by omega) (by omega)) (all_c (Sh.int (by decide) (by decide)) (all_c (Sh.int (by decide) (by decide)) (all_c (shB_ok (by decide +kernel)) (all_c (shB_ok (by decide +kernel)) (all_1 (Sh.str (Asc.str (by decide +kernel) (by decide +kernel)))))))))
  walk_at "v"
  exact ⟨_, _, _, rfl, rfl, hp4, hd⟩
theorem rng_f {j : Int} (h0 : 0 ≤ j) (h1 : j ≤ 1000) : rng1 [.dat (.int j)] = some (rgD 0 j.toNat) := rng_1 (by omega) (by omega)
def pileT : FS := (sT
   (sSeq (sSet (eIx (eLst (aC (eIx (eV 1) (eCall F_law_draw (aC (eV 0) (aC (eCB lenP (aC (eV 1) aN)) aN)))) (aC (eOp addP (eC (.int 1)) (eCall F_law_draw (aC (eV 0) (aC (eC (.int 9999)) aN)))) aN))) (eOp fdivP (eCall F_law_draw (aC (eV 0) (aC (eC (.int 5)) aN))) (eC (.int 4)))) (gN 4))
  (sSeq (sSet (eIx (eLst (aC (eC (.int 1)) (aC (eNeg (eC (.int 1))) (aC (eC (.int 2)) (aC (eNeg (eC (.int 3))) aN))))) (eCall F_law_draw (aC (eV 0) (aC (eC (.int 4)) aN)))) (gN 5))
  (sSeq (sSet (eIx (eLst (aC (eC (.str "i")) (aC (eC (.str "j")) (aC (eC (.str "k")) aN)))) (eCall F_law_draw (aC (eV 0) (aC (eC (.int 3)) aN)))) (gN 6))
  (sSeq (sSet (eIx (eLst (aC (eCall F_law_draw (aC (eV 0) (aC (eC (.int 6)) aN))) (aC (eOp subP (eCall F_law_draw (aC (eV 0) (aC (eC (.int 6)) aN))) (eC (.int 9))) (aC (eOp powP (eC (.int 10)) (eC (.int 12))) aN)))) (eOp fdivP (eCall F_law_draw (aC (eV 0) (aC (eC (.int 9)) aN))) (eC (.int 4)))) (gN 7))
  (sExp (eApp (eV 2) (eIx (eLst (aC (eTup (aC (eC (.str "loop")) (aC (eV 6) (aC (eV 4) (aC (eV 7) (aC (eV 5) aN)))))) (aC (eTup (aC (eC (.str "call")) (aC (eV 4) aN))) aN))) (eOp fdivP (eCall F_law_draw (aC (eV 0) (aC (eC (.int 4)) aN))) (eC (.int 3)))))))))))
theorem pile_is : f_law_pile = (sSeq (sSet (eLstN aN) (gN 2))
  (sSeq (sFor (iR1 (aC (eIx (eLst (aC (eCall F_law_draw (aC (eV 0) (aC (eC (.int 7)) aN))) (aC (eC (.int 2)) (aC (eC (.int 0)) (aC (eOp addP (eC (.int 49)) (eCall F_law_draw (aC (eV 0) (aC (eC (.int 2)) aN)))) aN))))) (eOp modP (eOp fdivP (eCall F_law_draw (aC (eV 0) (aC (eC (.int 9)) aN))) (eC (.int 2))) (eC (.int 4)))) aN)) (gN 3) pileT)
  (sRet (eCB tupleP (aC (eF2 (eV 2)) aN))))) := rfl
/-- numbers of lines -/
structure Nm (ns : List Int) : Prop where
  l : 1 ≤ ns.length ∧ ns.length ≤ 8
  b : ∀ i ∈ ns, 1 ≤ i ∧ i ≤ 10000
theorem Nm.sh {ns : List Int} (h : Nm ns) : ∀ v ∈ ns.map PyData.int, ∃ j : Int, v = .int j ∧ 1 ≤ j ∧ j ≤ 10000 := fun v hv => by
  obtain ⟨i, hi, rfl⟩ := List.mem_map.mp hv
  exact ⟨i, rfl, h.b i hi⟩
def IPi (nsd : PyData) (n i : Nat) (δ : En) (w : Sr) : Prop := ∃ (x : Nd) (fs : List PyData) (o3 o4 o5 o6 o7 : Option DV), δ = [some (.ref 0), some (.dat nsd), some (.ref 1), o3, o4, o5, o6, o7] ∧ w = [x, .lst (fs.map .dat)] ∧ PenAt (n + 10 * i) x ∧ fs.length ≤ i ∧ ∀ d ∈ fs, Sh 6000 2 d
theorem insAllDat (n : Nat) : ∀ ws : List PyData, (ws.map DV.dat).all (insD n) = true
  | [] => rfl
  | d :: ws => by rw [List.map_cons, List.all_cons, insAllDat n ws]; rfl
theorem trim_2 {n : Nat} {x y : Nd} {fs gs : List PyData} {δ : En} (hp : PenAt n x) : trimR [y, Nd.lst (gs.map .dat)].length (.nx δ) [x, .lst (fs.map .dat)] = (.nx (δ.map (DL.cutV 2)), [x, .lst (fs.map .dat)]) := by
  show trimR 2 (.nx δ) [x, .lst (fs.map .dat)] = _
  have q : clo 2 [x, .lst (fs.map .dat)] = true := by
    show (insN 2 x && (insN 2 (.lst (fs.map .dat)) && true)) = true
    have h1 : insN 2 x = true := by obtain ⟨ns, a, l, rfl, _⟩ := hp; rfl
    have h2 : insN 2 (.lst (fs.map .dat)) = true := insAllDat 2 fs
    rw [h1, h2]; rfl
  unfold trimR
  rw [q]; rfl
theorem pileT_ok {ns : List Int} (hN : Nm ns) {n i : Nat} {d : PyData} {δ : En} {w : Sr} (hn : n ≤ 600000) (hi : i < 50) (h : IPi (.list (ns.map .int)) n i δ w) : Wp (turnD (gN 3) pileT d δ) w fun r w' => match r with | .nx δ' => IPi (.list (ns.map .int)) n (i + 1) δ' w' | .ct δ' => IPi (.list (ns.map .int)) n (i + 1) δ' w' | .bk δ' => False | .rt v => False := by
  obtain ⟨x, fs, o3, o4, o5, o6, o7, rfl, rfl, hp, hl, hf⟩ := h
  have l1 := hN.l
  have lm : ((ns.map PyData.int).length : Int) = ns.length := by rw [List.length_map]
  refine wp_turn rfl ?_
  unfold pileT
  refine wp_sT ?_
  walk_at "v"
  refine draw hp (by omega) (by rw [lm]; omega) (by rw [lm]; omega) (fun r1 x1 r10 r11 hp1 => ?_)
  refine wp_ixL hN.sh r10 r11 (fun d ⟨j, e, j0, j1⟩ => ?_)
  subst e
  walk_at "v"
  refine draw hp1 (by omega) (by decide) (by decide) (fun r2 x2 r20 r21 hp2 => ?_)
  walk_at "v"
  refine draw hp2 (by omega) (by decide) (by decide) (fun r3 x3 r30 r31 hp3 => ?_)
  walk_at "v"
  refine ex_mk (fdivc (by decide) (by decide)) ?_
  refine wp_ixL (P := fun v => ∃ j : Int, v = .int j ∧ 1 ≤ j ∧ j ≤ 10000) (all_c ⟨j, rfl, j0, j1⟩ (all_1 ⟨_, rfl, by omega, by omega⟩)) (by omega) (by show r3 / 4 < 2; omega) (fun d ⟨a, e, a0, a1⟩ => ?_)
  subst e
  walk_at "v"
  refine draw hp3 (by omega) (by decide) (by decide) (fun r4 x4 r40 r41 hp4 => ?_)
  refine wp_ixL (P := Sh 1002 1) (all_c (Sh.int (by decide) (by decide)) (all_c (Sh.int (by decide) (by decide)) (all_c (Sh.int (by decide) (by decide)) (all_1 (Sh.int (by decide) (by decide)))))) r40 (by show r4 < 4; omega) (fun by_ hby => ?_)
  walk_at "v"
  refine draw hp4 (by omega) (by decide) (by decide) (fun r5 x5 r50 r51 hp5 => ?_)
  refine wp_ixL (P := Sh 1002 1) (all_c (shB_ok (by decide +kernel)) (all_c (shB_ok (by decide +kernel)) (all_1 (shB_ok (by decide +kernel))))) r50 (by show r5 < 3; omega) (fun nm hnm => ?_)
  walk_at "v"
  refine draw hp5 (by omega) (by decide) (by decide) (fun r6 x6 r60 r61 hp6 => ?_)
  walk_at "v"
  refine draw hp6 (by omega) (by decide) (by decide) (fun r7 x7 r70 r71 hp7 => ?_)
  walk_at "v"
  refine draw hp7 (by omega) (by decide) (by decide) (fun r8 x8 r80 r81 hp8 => ?_)
  walk_at "v"
  refine ex_mk (fdivc (by decide) (by decide)) ?_
  refine wp_ixL (P := Sh 1002 1) (all_c (Sh.int (by omega) (by omega)) (all_c (Sh.int (by omega) (by omega)) (all_1 (Sh.int (by decide) (by decide))))) (by omega) (by show r8 / 4 < 3; omega) (fun en hen => ?_)
  walk_at "v"
  refine wp_isL (cs := fs.map .dat) rfl ?_
  walk_at "v"
  refine draw hp8 (by omega) (by decide) (by decide) (fun r9 x9 r90 r91 hp9 => ?_)
  walk_at "v"
  refine ex_mk (fdivc (by decide) (by decide)) ?_
  have sn : Sh 1002 1 (.int a) := Sh.int (by omega) (by omega)
  refine wp_ixL (P := Sh 6000 2) (all_c (Sh.tup (N := 5) (all_c (shB_ok (by decide +kernel)) (all_c hnm (all_c sn (all_c hen (all_1 hby))))) (Nat.le_refl 5) (by decide)) (all_1 (Sh.tup (N := 2) (all_c (shB_ok (by decide +kernel)) (all_1 sn)) (Nat.le_refl 2) (by decide)))) (by omega) (by show r9 / 3 < 2; omega) (fun f hf' => ?_)
  refine wp_nApp (cs := fs.map .dat) rfl (lenOk_of (by rw [List.length_map]; omega)) ?_
  have e1 : [x9, Nd.lst (fs.map .dat)].set 1 (.lst (fs.map .dat ++ [.dat f])) = [x9, .lst ((fs ++ [f]).map .dat)] := by rw [List.map_append]; rfl
  rw [e1, trim_2 hp9]
  refine ⟨x9, fs ++ [f], _, _, _, _, _, rfl, rfl, hp9.mono (by omega), by rw [List.length_append]; simp; omega, fun d hd => ?_⟩
  rcases List.mem_append.mp hd with hd | hd
  · exact hf d hd
  · rw [List.mem_singleton.mp hd]; exact hf'
theorem mod4 {r : Int} : modP (.int r) (.int 4) = some (.int (r % 4)) := rfl
theorem pile_ok {ns : List Int} (hN : Nm ns) (hp : PenAt n x) (hn : n ≤ 500000) (k : ∀ fs x', PenAt (n + 1000) x' → fs.length ≤ 50 → (∀ d ∈ fs, Sh 6000 2 d) → Q (.dat (.tuple fs)) (x' :: rest)) : Wp (F_law_pile [.ref 0, .dat (.list (ns.map .int))]) (x :: rest) Q := by
  refine wp_pf (ds := [.list (ns.map .int)]) (n' := n + 1000) (P := fun d => ∃ fs : List PyData, d = .tuple fs ∧ fs.length ≤ 50 ∧ ∀ d ∈ fs, Sh 6000 2 d) hp ?_ (fun d x' h ⟨fs, e, h0, h1⟩ => by subst e; exact k fs x' h h0 h1)
  show Wp (f_law_pile [some (.ref 0), some (.dat (.list (ns.map .int))), none, none, none, none, none, none]) _ _
  rw [pile_is]
  walk_at "v"
  refine ⟨rfl, ?_⟩
  walk_at "v"
  refine draw hp (by omega) (by decide) (by decide) (fun r1 x1 r10 r11 hp1 => ?_)
  walk_at "v"
  refine draw hp1 (by omega) (by decide) (by decide) (fun r2 x2 r20 r21 hp2 => ?_)
  walk_at "v"
  refine draw hp2 (by omega) (by decide) (by decide) (fun r3 x3 r30 r31 hp3 => ?_)
  walk_at "v"
  refine ex_mk (fdivc (by decide) (by decide)) ?_
  walk_at "v"
  refine ex_mk mod4 ?_
  refine wp_ixL (P := fun v => ∃ j : Int, v = .int j ∧ 0 ≤ j ∧ j ≤ 50) (all_c ⟨_, rfl, by omega, by omega⟩ (all_c ⟨_, rfl, by decide, by decide⟩ (all_c ⟨_, rfl, by decide, by decide⟩ (all_1 ⟨_, rfl, by omega, by omega⟩)))) (by omega) (by show r3 / 2 % 4 < 4; omega) (fun d ⟨j, e, j0, j1⟩ => ?_)
  subst e
  walk_at "v"
  refine ex_mk (rng_f (by omega) (by omega)) ?_
  refine wp_forD (I := IPi (.list (ns.map .int)) (n + 3)) ⟨x3, [], _, _, _, _, _, rfl, rfl, hp3, Nat.le_refl _, by simp⟩ (fun i d δ w he hI => ?_) (fun δ w hI => ?_)
  · have hi := (rgD_at he).2
    refine wp_mono (pileT_ok hN (by omega) (by omega) hI) fun r w' hq => ?_
    cases r <;> first | exact hq | exact hq.elim
  · rw [rgD_length] at hI
    obtain ⟨x4, fs, o3, o4, o5, o6, o7, rfl, rfl, hp4, hl, hf⟩ := hI
    walk_at "v"
    refine ⟨.list fs, [x4, .fz (.list fs)], ?_, ?_⟩
    · show (datAll (fs.map .dat)).map _ = _
      rw [datAll_map]; rfl
    walk_at "v"
    exact ⟨_, x4, _, rfl, rfl, hp4.mono (by omega), fs, rfl, by omega, hf⟩
end
end My

namespace My
open PySem PySem.Spec PyProof.Rows L2 DL
section
variable {n : Nat} {x : Nd} {rest : Sr} {Q : DV → Sr → Prop}
theorem at_last {α : Type} {xs : List α} {z : α} : atI (xs ++ [z]) (-1) = some z := by
  have e : ixN (xs ++ [z]).length (-1) = some xs.length := by
    unfold ixN
    rw [List.length_append, if_neg (by decide)]
    rw [if_pos (by simp; omega)]
    simp
    omega
  unfold atI
  rw [e]
  simp
def numT : FS := (sT
   (sExp (eApp (eV 2) (eOp addP (eIx (eV 2) (eNeg (eC (.int 1)))) (eIx (eLst (aC (eC (.int 1)) (aC (eC (.int 10)) (aC (eC (.int 90)) (aC (eOp addP (eC (.int 1)) (eCall F_law_draw (aC (eV 0) (aC (eC (.int 30)) aN)))) aN))))) (eCall F_law_draw (aC (eV 0) (aC (eC (.int 4)) aN))))))))
theorem numbers_is : f_law_numbers = (sSeq (sSet (eLstN (aC (eOp addP (eC (.int 1)) (eCall F_law_draw (aC (eV 0) (aC (eC (.int 9)) aN)))) aN)) (gN 2))
  (sSeq (sFor (iR1 (aC (eOp subP (eV 1) (eC (.int 1))) aN)) (gN 3) numT)
  (sRet (eF2 (eV 2))))) := rfl
def INu (m : PyData) (n i : Nat) (δ : En) (w : Sr) : Prop := ∃ (x : Nd) (ns : List Int) (z : Int) (o3 : Option DV), δ = [some (.ref 0), some (.dat m), some (.ref 1), o3] ∧ w = [x, .lst (((ns ++ [z]).map PyData.int).map .dat)] ∧ PenAt (n + 2 * i) x ∧ ns.length = i ∧ (∀ b ∈ ns ++ [z], 1 ≤ b ∧ b ≤ 100 * ((i : Int) + 1))
theorem numT_ok {m : PyData} {i : Nat} {d : PyData} {δ : En} {w : Sr} (hn : n ≤ 600000) (hi : i < 8) (h : INu m n i δ w) : Wp (turnD (gN 3) numT d δ) w fun r w' => match r with | .nx δ' => INu m n (i + 1) δ' w' | .ct δ' => INu m n (i + 1) δ' w' | .bk δ' => False | .rt v => False := by
  obtain ⟨x, ns, z, o3, rfl, rfl, hp, hl, hb⟩ := h
  have hz := hb z (List.mem_append_right _ List.mem_cons_self)
  refine wp_turn rfl ?_
  unfold numT
  refine wp_sT ?_
  walk_at "v"
  refine wp_isL (cs := ((ns ++ [z]).map PyData.int).map .dat) rfl ?_
  walk_at "v"
  refine wp_is (a := .dat (.int z)) (w' := [x, .lst (((ns ++ [z]).map PyData.int).map .dat)]) ?_ ?_
  · show (atI (((ns ++ [z]).map PyData.int).map DV.dat) (-1)).map _ = _
    rw [List.map_append, List.map_append]
    show (atI (_ ++ [DV.dat (.int z)]) (-1)).map _ = _
    rw [at_last]; rfl
  walk_at "v"
  refine draw hp (by omega) (by decide) (by decide) (fun r1 x1 r10 r11 hp1 => ?_)
  walk_at "v"
  refine draw hp1 (by omega) (by decide) (by decide) (fun r2 x2 r20 r21 hp2 => ?_)
  refine wp_ixL (P := fun v => ∃ j : Int, v = .int j ∧ 1 ≤ j ∧ j ≤ 90) (all_c ⟨_, rfl, by decide, by decide⟩ (all_c ⟨_, rfl, by decide, by decide⟩ (all_c ⟨_, rfl, by decide, by decide⟩ (all_1 ⟨_, rfl, by omega, by omega⟩)))) r20 (by show r2 < 4; omega) (fun d ⟨j, e, j0, j1⟩ => ?_)
  subst e
  walk_at "v"
  refine wp_nApp (cs := ((ns ++ [z]).map PyData.int).map .dat) rfl (lenOk_of (by rw [List.length_map, List.length_map, List.length_append]; simp; omega)) ?_
  have e1 : [x2, Nd.lst (((ns ++ [z]).map PyData.int).map .dat)].set 1 (.lst (((ns ++ [z]).map PyData.int).map .dat ++ [.dat (.int (z + j))])) = [x2, .lst ((((ns ++ [z]) ++ [z + j]).map PyData.int).map .dat)] := by
    rw [List.map_append (l₁ := ns ++ [z]), List.map_append (l₁ := (ns ++ [z]).map PyData.int)]; rfl
  rw [e1, trim_2 hp2]
  refine ⟨x2, ns ++ [z], z + j, _, rfl, rfl, hp2.mono (by omega), by rw [List.length_append, hl]; rfl, fun b hb' => ?_⟩
  rcases List.mem_append.mp hb' with h | h
  · have := hb b h; omega
  · rw [List.mem_singleton.mp h]; omega
theorem numbers_ok {m : Int} (m0 : 1 ≤ m) (m1 : m ≤ 8) (hp : PenAt n x) (hn : n ≤ 500000) (k : ∀ ns x', PenAt (n + 20) x' → Nm ns → Q (.dat (.list (ns.map .int))) (x' :: rest)) : Wp (F_law_numbers [.ref 0, .dat (.int m)]) (x :: rest) Q := by
  refine wp_pf (ds := [.int m]) (n' := n + 20) (P := fun d => ∃ ns : List Int, d = .list (ns.map .int) ∧ Nm ns) hp ?_ (fun d x' h ⟨ns, e, h0⟩ => by subst e; exact k ns x' h h0)
  show Wp (f_law_numbers [some (.ref 0), some (.dat (.int m)), none, none]) _ _
  rw [numbers_is]
  walk_at "v"
  refine draw hp (by omega) (by decide) (by decide) (fun r1 x1 r10 r11 hp1 => ?_)
  walk_at "v"
  refine ⟨rfl, ?_⟩
  walk_at "v"
  refine ex_mk (rng_f (by omega) (by omega)) ?_
  refine wp_forD (I := INu (.int m) (n + 1)) ⟨x1, [], 1 + r1, _, rfl, rfl, hp1, rfl, by intro b hb; rw [List.mem_singleton.mp hb]; omega⟩ (fun i d δ w he hI => ?_) (fun δ w hI => ?_)
  · have hi := (rgD_at he).2
    refine wp_mono (numT_ok (by omega) (by omega) hI) fun r w' hq => ?_
    cases r <;> first | exact hq | exact hq.elim
  · rw [rgD_length] at hI
    obtain ⟨x4, ns, z, o3, rfl, rfl, hp4, hl, hb⟩ := hI
    walk_at "v"
    refine ⟨.list ((ns ++ [z]).map .int), [x4, .fz (.list ((ns ++ [z]).map .int))], ?_, ?_⟩
    · show (datAll (((ns ++ [z]).map PyData.int).map .dat)).map _ = _
      rw [datAll_map]; rfl
    refine ⟨_, x4, _, rfl, rfl, hp4.mono (by omega), ns ++ [z], rfl, ⟨by rw [List.length_append]; simp; omega, fun b hb' => ?_⟩⟩
    have := hb b hb'
    omega
end
/-! ### the state at the beginning -/
def tk (r : Ru) : List (Key × DV) := [(.inr "stand", .dat r.stand), (.inr "at", .dat r.at_), (.inr "boxes", .ref 1), (.inr "rows", .dat (.dict (dk id r.rw))), (.inr "fits", .dat (.dict (dk p2 r.ft))), (.inr "pile", .dat (.list r.pile)), (.inr "place", .dat r.place),
  (.inr "trap", .dat (.int r.trap)), (.inr "trapped", .dat (.bool r.trapped)), (.inr "fault", .dat r.fault), (.inr "asked", .dat r.asked), (.inr "said", .dat (.list r.said))]
def r0 (a : Int) : Ru := ⟨.str "going", .int a, [], [], [], [], .tuple [.int 0, .int 0], 0, false, .none, .int 0, []⟩
def jk : Nd := .dic [(.inr "trap", .dat (.int 0)), (.inr "trapped", .dat (.bool false)), (.inr "fault", .dat .none), (.inr "asked", .dat (.int 0)), (.inr "said", .dat (.list []))]
def gE : Nd := .fz (.dict [])
theorem first_is : f_law_first = (sSeq (sSet (eDicN (pC (eC (.str "stand")) (eC (.str "going")) (pC (eC (.str "at")) (eV 1) (pC (eC (.str "boxes")) eDic0 (pC (eC (.str "rows")) (eF eDic0) (pC (eC (.str "fits")) (eF eDic0) (pC (eC (.str "pile")) (eLst aN) (pC (eC (.str "place")) (eTup (aC (eC (.int 0)) (aC (eC (.int 0)) aN))) pN)))))))) (gN 2))
  (sSeq (sExp (eUpd (eV 2) (eDicN (pC (eC (.str "trap")) (eC (.int 0)) (pC (eC (.str "trapped")) (eC (.bool false)) (pC (eC (.str "fault")) (eC .none) (pC (eC (.str "asked")) (eC (.int 0)) (pC (eC (.str "said")) (eLst aN) pN))))))))
  (sSeq (sIf (eOpB eqP (eV 1) (eC (.int 0)))
   (sPut (eV 2) (eC (.str "stand")) (eC (.str "ended")))
   sNil)
  (sRet (eV 2))))) := rfl
theorem first_fn {a : Int} (h : a ≠ 0) {x : Nd} : F_law_first [.dat (.tuple []), .dat (.int a)] [x] = some (.ref 4, [x, .dic (dkK []), gE, gE, .dic (tk (r0 a)), jk]) := by
  have main : Wp (fnF 3 f_law_first [.dat (.tuple []), .dat (.int a)]) [] fun r w => r = .ref 3 ∧ w = [.dic [], gE, gE, .dic [(.inr "stand", .dat (.str "going")), (.inr "at", .dat (.int a)), (.inr "boxes", .ref 0), (.inr "rows", .dat (.dict [])), (.inr "fits", .dat (.dict [])), (.inr "pile", .dat (.list [])), (.inr "place", .dat (.tuple [.int 0, .int 0])), (.inr "trap", .dat (.int 0)), (.inr "trapped", .dat (.bool false)), (.inr "fault", .dat .none), (.inr "asked", .dat (.int 0)), (.inr "said", .dat (.list []))], jk] := by
    refine wp_fn ?_
    show Wp (f_law_first [some (.dat (.tuple [])), some (.dat (.int a)), none]) [] _
    rw [first_is]
    refine wp_sSeq.mpr (wp_sSet.mpr (wp_is (a := .ref 3) (w' := [.dic [], gE, gE, .dic [(.inr "stand", .dat (.str "going")), (.inr "at", .dat (.int a)), (.inr "boxes", .ref 0), (.inr "rows", .dat (.dict [])), (.inr "fits", .dat (.dict [])), (.inr "pile", .dat (.list [])), (.inr "place", .dat (.tuple [.int 0, .int 0]))]]) rfl ?_))
    refine wp_sSeq.mpr (wp_sExp.mpr (wp_is (a := .dat .none) (w' := [.dic [], gE, gE, .dic [(.inr "stand", .dat (.str "going")), (.inr "at", .dat (.int a)), (.inr "boxes", .ref 0), (.inr "rows", .dat (.dict [])), (.inr "fits", .dat (.dict [])), (.inr "pile", .dat (.list [])), (.inr "place", .dat (.tuple [.int 0, .int 0])), (.inr "trap", .dat (.int 0)), (.inr "trapped", .dat (.bool false)), (.inr "fault", .dat .none), (.inr "asked", .dat (.int 0)), (.inr "said", .dat (.list []))], jk]) rfl ?_))
    walk_at "v"
    refine iteOff (decide_eq_false h) ?_
    walk_at "v"
    exact ⟨rfl, rfl⟩
  obtain ⟨r, w', e, rfl, rfl⟩ := main
  show small (fnF 3 f_law_first) [.dat (.tuple []), .dat (.int a)] [x] = _
  unfold small
  have e3 : reach [x] [.dat (.tuple []), .dat (.int a)] = [] := rfl
  rw [e3]
  show (match fnF 3 f_law_first [.dat (.tuple []), .dat (.int a)] [] with
    | some (r, w1) => some (mapD (rho [x].length []) r, putSel [x] [] ((w1.take 0).map (mapN (rho [x].length []))) ++ (w1.drop 0).map (mapN (rho [x].length [])))
    | none => none) = _
  rw [e]
  rfl
end My

namespace My
open PySem PySem.Spec PyProof.Rows L2 DL
/-! ### a state drawn -/
def putK (l : List (Str × PyData)) (x : Str) (v : PyData) : List (Str × PyData) := if (l.any fun p => decide (p.1 = x)) = true then l.map (fun p => if p.1 = x then (p.1, v) else p) else l ++ [(x, v)]
theorem any_dkK {l : List (Str × PyData)} {x : Str} : ((dkK l).any fun kv => decide (kv.1 = (.inr x : Key))) = l.any fun p => decide (p.1 = x) := by
  unfold dkK
  rw [List.any_map]
  congr 1
  funext p
  show decide ((Sum.inr p.1 : Key) = .inr x) = decide (p.1 = x)
  by_cases h : p.1 = x
  · rw [decide_eq_true h, decide_eq_true (by rw [h])]
  · rw [decide_eq_false h, decide_eq_false (fun q => h (by cases q; rfl))]
theorem putA_dkK {l : List (Str × PyData)} {x : Str} {v : PyData} : putA (dkK l) (.inr x) (.dat v) = dkK (putK l x v) := by
  unfold putA putK
  rw [any_dkK]
  split
  · unfold dkK
    rw [List.map_map, List.map_map]
    refine List.map_congr_left fun p _ => ?_
    show (if (Sum.inr p.1 : Key) = .inr x then ((Sum.inr p.1 : Key), DV.dat v) else (.inr p.1, .dat p.2)) = _
    by_cases h : p.1 = x
    · rw [if_pos (by rw [h])]
      show _ = ((Sum.inr (if p.1 = x then (p.1, v) else p).1 : Key), DV.dat (if p.1 = x then (p.1, v) else p).2)
      rw [if_pos h]
    · rw [if_neg (fun q => h (by cases q; rfl))]
      show _ = ((Sum.inr (if p.1 = x then (p.1, v) else p).1 : Key), DV.dat (if p.1 = x then (p.1, v) else p).2)
      rw [if_neg h]
  · unfold dkK
    rw [List.map_append]; rfl
theorem putK_len {l : List (Str × PyData)} {x : Str} {v : PyData} : (putK l x v).length ≤ l.length + 1 := by
  unfold putK
  split
  · rw [List.length_map]; omega
  · rw [List.length_append]; simp
theorem putK_mem {l : List (Str × PyData)} {x : Str} {v : PyData} {p : Str × PyData} (h : p ∈ putK l x v) : p ∈ l ∨ p = (x, v) := by
  unfold putK at h
  split at h
  · obtain ⟨q, h1, h2⟩ := List.mem_map.mp h
    split at h2
    · next e => subst h2; rw [e]; exact .inr rfl
    · subst h2; exact .inl h1
  · rcases List.mem_append.mp h with h | h
    · exact .inl h
    · exact .inr (List.mem_singleton.mp h)
def S6 (x : Nd) (bx : List (Str × PyData)) (r : Ru) : Sr := [x, .dic (dkK bx), gE, gE, .dic (tk r), jk]
theorem clo_6 {n : Nat} {x : Nd} {bx : List (Str × PyData)} {r : Ru} (hp : PenAt n x) : clo 6 (S6 x bx r) = true := by
  have h1 : insN 6 x = true := by obtain ⟨ns, a, l, rfl, _⟩ := hp; rfl
  show (insN 6 x && (insN 6 (.dic (dkK bx)) && (insN 6 gE && (insN 6 gE && (insN 6 (.dic (tk r)) && (insN 6 jk && true)))))) = true
  rw [h1, ins_dkK]; rfl
theorem trim_6 {n : Nat} {x y : Nd} {bx by_ : List (Str × PyData)} {r : Ru} {δ : En} (hp : PenAt n x) : trimR (S6 y by_ r).length (.nx δ) (S6 x bx r) = (.nx (δ.map (DL.cutV 6)), S6 x bx r) := by
  show trimR 6 (.nx δ) (S6 x bx r) = _
  unfold trimR
  rw [clo_6 hp]; rfl
def boxT : FS := (sT
   (sIf (eOpB gtP (eCall F_law_draw (aC (eV 0) (aC (eC (.int 5)) aN))) (eC (.int 0)))
   (sPut (eIx (eV 3) (eC (.str "boxes"))) (eV 4) (eCall F_law_worth_now (aC (eV 0) aN)))
   sNil))
structure Bo (l : List (Str × PyData)) (i : Nat) : Prop where
  o : ∀ p ∈ l, Asc 100 p.1 ∧ Sh 1002 1 p.2
  l : l.length ≤ i
def IB (nsd ad : PyData) (r : Ru) (n i : Nat) (δ : En) (w : Sr) : Prop := ∃ (x : Nd) (l : List (Str × PyData)) (o4 : Option DV), δ = [some (.ref 0), some (.dat nsd), some (.dat ad), some (.ref 4), o4] ∧ w = S6 x l r ∧ PenAt (n + 10 * i) x ∧ Bo l i
theorem boxT_ok {nsd ad : PyData} {r : Ru} {n i : Nat} {y : Str} {δ : En} {w : Sr} (hn : n ≤ 600000) (hi : i < 4) (hy : Asc 100 y) (h : IB nsd ad r n i δ w) : Wp (turnD (gN 4) boxT (.str y) δ) w fun q w' => match q with | .nx δ' => IB nsd ad r n (i + 1) δ' w' | .ct δ' => IB nsd ad r n (i + 1) δ' w' | .bk δ' => False | .rt v => False := by
  obtain ⟨x, l, o4, rfl, rfl, hp, hb⟩ := h
  have bl := hb.l
  refine wp_turn rfl ?_
  unfold boxT
  refine wp_sT ?_
  unfold S6
  walk_at "v"
  refine draw hp (by omega) (by decide) (by decide) (fun r1 x1 r10 r11 hp1 => ?_)
  walk_at "v"
  refine ite2 (fun h => ?_) (fun h => ?_)
  · walk_at "v"
    refine worth_ok hp1 (by omega) (fun d x2 hp2 hd => ?_)
    walk_at "v"
    refine wp_is (a := .ref 1) rfl ?_
    walk_at "v"
    refine (wp_nPut (kvs := dkK l) (key := .inr y) rfl rfl (lenOk_of (by unfold dkK; rw [List.length_map]; omega))).mpr ?_
    rw [putA_dkK]
    show (match (trimR (S6 x l r).length (.nx _) (S6 x2 (putK l y d) r)).1 with | .nx δ' => _ | .ct δ' => _ | .bk δ' => False | .rt v => False)
    rw [trim_6 hp2]
    refine ⟨x2, putK l y d, _, rfl, congrArg Prod.snd (trim_6 (y := x) (by_ := l) hp2), hp2.mono (by omega), ⟨fun p hp => ?_, Nat.le_trans putK_len (by omega)⟩⟩
    rcases putK_mem hp with h | rfl
    · exact hb.o p h
    · exact ⟨hy, hd⟩
  · walk_at "v"
    show (match (trimR (S6 x l r).length (.nx _) (S6 x1 l r)).1 with | .nx δ' => _ | .ct δ' => _ | .bk δ' => False | .rt v => False)
    rw [trim_6 hp1]
    exact ⟨x1, l, _, rfl, congrArg Prod.snd (trim_6 (y := x) (by_ := l) hp1), hp1.mono (by omega), ⟨hb.o, by omega⟩⟩
theorem mapD_id {τ : Nat → Nat} (h : ∀ j, τ j = j) (d : DV) : mapD τ d = d := by
  cases d with
  | dat d => rfl
  | ref k => show DV.ref (τ k) = _; rw [h]
  | fn x => rfl
theorem mapN_id {τ : Nat → Nat} (h : ∀ j, τ j = j) (n : Nd) : mapN τ n = n := by
  cases n with
  | lst cs =>
    show Nd.lst (cs.map (mapD τ)) = _
    rw [List.map_congr_left (g := id) fun d _ => mapD_id h d, List.map_id]
  | dic cs =>
    show Nd.dic (cs.map fun p => (p.1, mapD τ p.2)) = _
    rw [List.map_congr_left (g := id) fun p _ => by rw [mapD_id h]; rfl, List.map_id]
  | fz d => rfl
theorem refs_dats : ∀ ds : List PyData, refsD (ds.map .dat) = []
  | [] => rfl
  | _ :: ds => refs_dats ds
theorem ren_dats (ρ : Nat → Option Nat) : ∀ ds : List PyData, renL ρ (ds.map .dat) = some (ds.map .dat)
  | [] => rfl
  | d :: ds => by
    show (match renD ρ (.dat d), renL ρ (ds.map .dat) with | some y, some s => some (y :: s) | _, _ => none) = _
    rw [ren_dats ρ ds]; rfl
theorem renKV_dats (ρ : Nat → Option Nat) : ∀ kvs : List (Key × PyData), renKV ρ (kvs.map fun q => (q.1, .dat q.2)) = some (kvs.map fun q => (q.1, .dat q.2))
  | [] => rfl
  | q :: kvs => by
    show (match renD ρ (.dat q.2), renKV ρ (kvs.map fun q => (q.1, .dat q.2)) with | some y, some s => some ((q.1, y) :: s) | _, _ => none) = _
    rw [renKV_dats ρ kvs]; rfl
/-- over the pen alone a call is the call itself -/
theorem small_id {F : FN} {ds : List PyData} {n : Nat} {x m : Nd} {t : Sr} {r : DV} (hp : PenAt n x) (h : F (.ref 0 :: ds.map .dat) [x] = some (r, m :: t)) : small F (.ref 0 :: ds.map .dat) [x] = some (r, m :: t) := by
  obtain ⟨kvs, rfl⟩ := hp.node
  have e0 : refsN (.dic (kvs.map fun q => (q.1, .dat q.2))) = [] := by
    show refsD ((kvs.map fun q => (q.1, DV.dat q.2)).map (·.2)) = []
    rw [List.map_map]
    have := refs_dats (kvs.map (·.2))
    rw [List.map_map] at this
    exact this
  have e5 : more [.dic (kvs.map fun q => (q.1, .dat q.2))] [0] = [0] := by unfold more; simp [e0, addAll]
  have e3 : reach [.dic (kvs.map fun q => (q.1, .dat q.2))] (.ref 0 :: ds.map .dat) = [0] := by unfold reach; simp [refsD, refs_dats, addAll, e5]
  have e7 : inv [0] 0 = some 0 := by simp [inv]
  have e8 : renL (inv [0]) (.ref 0 :: ds.map .dat) = some (.ref 0 :: ds.map .dat) := by simp [renL, renD, e7, ren_dats]
  have e9 : pickS [.dic (kvs.map fun q => (q.1, .dat q.2))] (inv [0]) [0] = some [.dic (kvs.map fun q => (q.1, .dat q.2))] := by simp [pickS, renN, renKV_dats]
  have hr : ∀ j, rho 1 [0] j = j := fun j => by
    cases j with
    | zero => rfl
    | succ j => show 1 + (j + 1 - 1) = _; omega
  unfold small
  rw [e3, e8, e9]
  show (match F (.ref 0 :: ds.map .dat) [.dic (kvs.map fun q : Key × PyData => (q.1, DV.dat q.2))] with
    | some (r, w1) => some (mapD (rho 1 [0]) r, putSel [.dic (kvs.map fun q : Key × PyData => (q.1, DV.dat q.2))] [0] ((w1.take 1).map (mapN (rho 1 [0]))) ++ (w1.drop 1).map (mapN (rho 1 [0])))
    | none => none) = _
  rw [h]
  show some (mapD (rho 1 [0]) r, putSel [.dic (kvs.map fun q : Key × PyData => (q.1, DV.dat q.2))] [0] (((m :: t).take 1).map (mapN (rho 1 [0]))) ++ ((m :: t).drop 1).map (mapN (rho 1 [0]))) = _
  rw [mapD_id hr]
  show some (r, [mapN (rho 1 [0]) m] ++ t.map (mapN (rho 1 [0]))) = _
  rw [mapN_id hr, List.map_congr_left (g := id) fun d _ => mapN_id hr d, List.map_id]; rfl
/-! the whole drawn -/
def runR : FS := (sSeq (sPut (eV 3) (eC (.str "rows")) (eIx (eLst (aC (eF eDic0) (aC (eF (eDicN (pC (eC (.str "r")) (eTup (aC (eC (.int 0)) (aC (eC (.str "x")) (aC (eC (.int 3)) aN)))) pN))) aN))) (eCall F_law_draw (aC (eV 0) (aC (eC (.int 2)) aN)))))
  (sSeq (sPut (eV 3) (eC (.str "fits")) (eIx (eLst (aC (eF eDic0) (aC (eF (eDicN (pC (eC (.str "f")) (eTup (aC (eC (.str "i")) (aC (eTup (aC (eC (.str "box")) (aC (eC (.str "i")) aN))) aN))) pN))) aN))) (eCall F_law_draw (aC (eV 0) (aC (eC (.int 2)) aN)))))
  (sSeq (sPut (eV 3) (eC (.str "pile")) (eCB listP (aC (eCall F_law_pile (aC (eV 0) (aC (eV 1) aN))) aN)))
  (sSeq (sPut (eV 3) (eC (.str "place")) (eTup (aC (eOp mulP (eIx (eV 1) (eCall F_law_draw (aC (eV 0) (aC (eCB lenP (aC (eV 1) aN)) aN)))) (eCall F_law_draw (aC (eV 0) (aC (eC (.int 2)) aN)))) (aC (eCall F_law_draw (aC (eV 0) (aC (eC (.int 4)) aN))) aN))))
  (sSeq (sPut (eV 3) (eC (.str "trap")) (eIx (eLst (aC (eC (.int 0)) (aC (eC (.int 0)) (aC (eIx (eV 1) (eCall F_law_draw (aC (eV 0) (aC (eCB lenP (aC (eV 1) aN)) aN)))) aN)))) (eCall F_law_draw (aC (eV 0) (aC (eC (.int 3)) aN)))))
  (sSeq (sPut (eV 3) (eC (.str "fault")) (eIx (eLst (aC (eC .none) (aC (eTup (aC (eC (.str "kind")) (aC (eIx (eV 1) (eCall F_law_draw (aC (eV 0) (aC (eCB lenP (aC (eV 1) aN)) aN)))) aN))) (aC (eTup (aC (eC (.str "nought")) (aC (eC (.int 9999)) aN))) aN)))) (eCall F_law_draw (aC (eV 0) (aC (eC (.int 3)) aN)))))
  (sSeq (sPut (eV 3) (eC (.str "trapped")) (eAn (eOp isNotP (eIx (eV 3) (eC (.str "fault"))) (eC .none)) (eOp eqP (eCall F_law_draw (aC (eV 0) (aC (eC (.int 2)) aN))) (eC (.int 0)))))
  (sSeq (sPut (eV 3) (eC (.str "asked")) (eCall F_law_draw (aC (eV 0) (aC (eC (.int 3)) aN))))
  (sSeq (sPut (eV 3) (eC (.str "said")) (eSl (eLst (aC (eTup aN) (aC (eTup (aC (eC (.int 1)) aN)) (aC (eTup (aC (eC (.str "x")) (aC (eNeg (eC (.int 2))) aN))) aN)))) oN (oS (eCall F_law_draw (aC (eV 0) (aC (eC (.int 4)) aN))))))
  (sRet (eV 3)))))))))))
theorem run_is : f_law_run = (sSeq (sSet (eCall F_law_first (aC (eTup aN) (aC (eV 2) aN))) (gN 3))
  (sSeq (sFor (iE (eLst (aC (eC (.str "i")) (aC (eC (.str "j")) (aC (eC (.str "k")) (aC (eC (.str "b")) aN)))))) (gN 4) boxT)
  runR)) := rfl
def DkP (d : PyData) : Prop := ∃ l : List (Str × PyData), d = .dict (dk id l) ∧ (∀ p ∈ l, Asc 100 p.1 ∧ Sh 4000 2 p.2) ∧ l.length ≤ 1
def DfP (d : PyData) : Prop := ∃ l : List (Str × (PyData × PyData)), d = .dict (dk p2 l) ∧ (∀ p ∈ l, Asc 100 p.1 ∧ Sh 4000 2 p.2.1 ∧ Sh 4000 2 p.2.2) ∧ l.length ≤ 1
theorem asc_i {y : Str} (h : ascB 10 (.str y) = true) : Asc 100 y := by
  obtain ⟨z, e, hz⟩ := ascB_ok h
  cases e
  exact hz.mono (by decide)
def runE : FS := (sSeq (sPut (eV 3) (eC (.str "asked")) (eCall F_law_draw (aC (eV 0) (aC (eC (.int 3)) aN))))
  (sSeq (sPut (eV 3) (eC (.str "said")) (eSl (eLst (aC (eTup aN) (aC (eTup (aC (eC (.int 1)) aN)) (aC (eTup (aC (eC (.str "x")) (aC (eNeg (eC (.int 2))) aN))) aN)))) oN (oS (eCall F_law_draw (aC (eV 0) (aC (eC (.int 4)) aN))))))
  (sRet (eV 3))))
theorem cut3 {a b c : PyData} {i : Int} (h0 : 0 ≤ i) (h1 : i < 4) {P : PyData → Prop} (ha : P a) (hb : P b) (hc : P c) : (∀ d ∈ cutL [a, b, c] none (some i), P d) ∧ (cutL [a, b, c] none (some i)).length ≤ 3 := by
  have : i = 0 ∨ i = 1 ∨ i = 2 ∨ i = 3 := by omega
  rcases this with rfl | rfl | rfl | rfl
  · exact ⟨all_0, by show 0 ≤ 3; decide⟩
  · exact ⟨all_1 ha, by show 1 ≤ 3; decide⟩
  · exact ⟨all_c ha (all_1 hb), by show 2 ≤ 3; decide⟩
  · exact ⟨all_c ha (all_c hb (all_1 hc)), by show 3 ≤ 3; decide⟩
theorem runE_ok {o1 o2 o4 : Option DV} {n : Nat} {x : Nd} {l : List (Str × PyData)} {r : Ru} {d1 d2 : PyData} (hp : PenAt n x) (hn : n ≤ 600000) (hs : Bo l 4) (hr : ∀ (q : PyData) (sd : List PyData), Sh 1002 1 q → (∀ d ∈ sd, Sh 4000 2 d) → sd.length ≤ 3 → ({ r with bx := l, asked := q, said := sd } : Ru).ok) : Wp (runE [some (.ref 0), o1, o2, some (.ref 4), o4]) [x, .dic (dkK l), gE, gE, .dic (tk r), jk, gE, .fz d1, gE, .fz d2] fun q w' =>
    ∃ (x' : Nd) (ru : Ru) (d1 d2 : PyData), q = .rt (.ref 4) ∧ w' = [x', .dic (dkK ru.bx), gE, gE, .dic (tk ru), jk, gE, .fz d1, gE, .fz d2] ∧ PenAt (n + 2) x' ∧ ru.ok := by
  unfold runE
  walk_at "v"
  refine draw hp (by omega) (by decide) (by decide) (fun r1 x1 r10 r11 hp1 => ?_)
  walk_at "v"
  refine (wp_nPut (kvs := tk r) (key := .inr "asked") rfl rfl rfl).mpr ?_
  have e1 : putA (tk r) (.inr "asked") (.dat (.int r1)) = tk { r with asked := .int r1 } := rfl
  rw [e1]
  walk_at "v"
  refine draw hp1 (by omega) (by decide) (by decide) (fun r2 x2 r20 r21 hp2 => ?_)
  walk_at "v"
  obtain ⟨c1, c2⟩ := cut3 (a := .tuple []) (b := .tuple [.int 1]) (c := .tuple [.str "x", .int (-2)]) r20 r21 (P := Sh 4000 2) (shB_ok (by decide +kernel)) (shB_ok (by decide +kernel)) (shB_ok (by decide +kernel))
  generalize hsd : cutL [PyData.tuple [], .tuple [.int 1], .tuple [.str "x", .int (-2)]] none (some r2) = sd at c1 c2
  refine (wp_nPut (kvs := tk { r with asked := .int r1 }) (key := .inr "said") rfl rfl rfl).mpr ?_
  walk_at "v"
  refine ⟨x2, { r with bx := l, asked := .int r1, said := sd }, d1, d2, rfl, ?_, hp2, hr _ _ (Sh.int (by omega) (by omega)) c1 c2⟩
  rw [← hsd]
  rfl
theorem runR_ok {ns : List Int} (hN : Nm ns) {a : Int} (ha : 1 ≤ a ∧ a ≤ 10000) {n : Nat} {x : Nd} {l : List (Str × PyData)} (hb : Bo l 4) {o4 : Option DV} (hp : PenAt n x) (hn : n ≤ 400000) : Wp (runR [some (.ref 0), some (.dat (.list (ns.map .int))), some (.dat (.int a)), some (.ref 4), o4]) (S6 x l (r0 a)) fun q w' =>
    ∃ (x' : Nd) (ru : Ru) (d1 d2 : PyData), q = .rt (.ref 4) ∧ w' = [x', .dic (dkK ru.bx), gE, gE, .dic (tk ru), jk, gE, .fz d1, gE, .fz d2] ∧ PenAt (n + 1100) x' ∧ ru.ok := by
  have l1 := hN.l
  have lm : ((ns.map PyData.int).length : Int) = ns.length := by rw [List.length_map]
  unfold runR S6
  walk_at "v"
  refine ⟨_, _, rfl, by decide, rfl, ?_⟩
  walk_at "v"
  refine draw hp (by omega) (by decide) (by decide) (fun r1 x1 r10 r11 hp1 => ?_)
  refine wp_ixL (P := DkP) (all_c ⟨[], rfl, by simp, by decide⟩ (all_1 ⟨[("r", .tuple [.int 0, .str "x", .int 3])], rfl, fun p hp => by rw [List.mem_singleton.mp hp]; exact ⟨asc_i (by decide +kernel), shB_ok (by decide +kernel)⟩, by decide⟩)) r10 r11 (fun d ⟨l2, e, hr, hrl⟩ => ?_)
  subst e
  walk_at "v"
  refine (wp_nPut (kvs := tk (r0 a)) (key := .inr "rows") rfl rfl rfl).mpr ?_
  have e1 : putA (tk (r0 a)) (.inr "rows") (.dat (.dict (dk id l2))) = tk { r0 a with rw := l2 } := rfl
  rw [e1]
  walk_at "v"
  refine ⟨_, _, rfl, by decide, rfl, ?_⟩
  walk_at "v"
  refine draw hp1 (by omega) (by decide) (by decide) (fun r2 x2 r20 r21 hp2 => ?_)
  refine wp_ixL (P := DfP) (all_c ⟨[], rfl, by simp, by decide⟩ (all_1 ⟨[("f", (.str "i", .tuple [.str "box", .str "i"]))], rfl, fun p hp => by rw [List.mem_singleton.mp hp]; exact ⟨asc_i (by decide +kernel), shB_ok (by decide +kernel), shB_ok (by decide +kernel)⟩, by decide⟩)) r20 r21 (fun d ⟨l3, e, hf, hfl⟩ => ?_)
  subst e
  walk_at "v"
  refine (wp_nPut (kvs := tk { r0 a with rw := l2 }) (key := .inr "fits") rfl rfl rfl).mpr ?_
  have e2 : putA (tk { r0 a with rw := l2 }) (.inr "fits") (.dat (.dict (dk p2 l3))) = tk { r0 a with rw := l2, ft := l3 } := rfl
  rw [e2]
  walk_at "v"
  refine pile_ok hN hp2 (by omega) (fun fs x3 hp3 hfs1 hfs => ?_)
  walk_at "v"
  refine (wp_nPut (kvs := tk { r0 a with rw := l2, ft := l3 }) (key := .inr "pile") rfl rfl rfl).mpr ?_
  have e3 : putA (tk { r0 a with rw := l2, ft := l3 }) (.inr "pile") (.dat (.list fs)) = tk { r0 a with rw := l2, ft := l3, pile := fs } := rfl
  rw [e3]
  walk_at "v"
  refine draw hp3 (by omega) (by rw [lm]; omega) (by rw [lm]; omega) (fun r4 x4 r40 r41 hp4 => ?_)
  refine wp_ixL hN.sh r40 r41 (fun d ⟨j, e, j0, j1⟩ => ?_)
  subst e
  walk_at "v"
  refine draw hp4 (by omega) (by decide) (by decide) (fun r5 x5 r50 r51 hp5 => ?_)
  have hmul : mulP (.int j) (.int r5) = some (.int (j * r5)) := mul_c (by unfold smallI; rw [decide_eq_true (show -(2 ^ 64) < r5 by omega), decide_eq_true (show r5 < 2 ^ 64 by omega)]; rfl)
  walk_at "v"
  refine ex_mk hmul ?_
  walk_at "v"
  refine draw hp5 (by omega) (by decide) (by decide) (fun r6 x6 r60 r61 hp6 => ?_)
  walk_at "v"
  have hjr : 0 ≤ j * r5 ∧ j * r5 ≤ 10000 := by
    have : r5 = 0 ∨ r5 = 1 := by omega
    rcases this with e | e <;> subst e <;> omega
  have hpl : Sh 4000 2 (.tuple [.int (j * r5), .int r6]) := Sh.tup (W := 1002) (D := 1) (N := 2) (all_c (Sh.int (by omega) (by omega)) (all_1 (Sh.int (by omega) (by omega)))) (Nat.le_refl 2) (by decide)
  generalize hplace : PyData.tuple [.int (j * r5), .int r6] = place at hpl ⊢
  refine (wp_nPut (kvs := tk { r0 a with rw := l2, ft := l3, pile := fs }) (key := .inr "place") rfl rfl rfl).mpr ?_
  have e4 : putA (tk { r0 a with rw := l2, ft := l3, pile := fs }) (.inr "place") (.dat place) = tk { r0 a with rw := l2, ft := l3, pile := fs, place := place } := rfl
  rw [e4]
  walk_at "v"
  refine draw hp6 (by omega) (by rw [lm]; omega) (by rw [lm]; omega) (fun r7 x7 r70 r71 hp7 => ?_)
  refine wp_ixL hN.sh r70 r71 (fun d ⟨j2, e, j20, j21⟩ => ?_)
  subst e
  walk_at "v"
  refine draw hp7 (by omega) (by decide) (by decide) (fun r8 x8 r80 r81 hp8 => ?_)
  refine wp_ixL (P := fun v => ∃ t : Int, v = .int t ∧ 0 ≤ t ∧ t ≤ 10000) (all_c ⟨_, rfl, by decide, by decide⟩ (all_c ⟨_, rfl, by decide, by decide⟩ (all_1 ⟨_, rfl, by omega, by omega⟩))) r80 (by show r8 < 3; omega) (fun d ⟨t, e, t0, t1⟩ => ?_)
  subst e
  walk_at "v"
  refine (wp_nPut (kvs := tk { r0 a with rw := l2, ft := l3, pile := fs, place := place }) (key := .inr "trap") rfl rfl rfl).mpr ?_
  have e5 : putA (tk { r0 a with rw := l2, ft := l3, pile := fs, place := place }) (.inr "trap") (.dat (.int t)) = tk { r0 a with rw := l2, ft := l3, pile := fs, place := place, trap := t } := rfl
  rw [e5]
  walk_at "v"
  refine draw hp8 (by omega) (by rw [lm]; omega) (by rw [lm]; omega) (fun r9 x9 r90 r91 hp9 => ?_)
  refine wp_ixL hN.sh r90 r91 (fun d ⟨j3, e, j30, j31⟩ => ?_)
  subst e
  walk_at "v"
  refine draw hp9 (by omega) (by decide) (by decide) (fun ra xa ra0 ra1 hpa => ?_)
  refine wp_ixL (P := Sh 4000 2) (all_c (Sh.non.mono (by decide) (by decide)) (all_c (Sh.tup (W := 1002) (D := 1) (N := 2) (all_c (shB_ok (by decide +kernel)) (all_1 (Sh.int (by omega) (by omega)))) (Nat.le_refl 2) (by decide)) (all_1 (shB_ok (by decide +kernel))))) ra0 (by show ra < 3; omega) (fun fault hfault => ?_)
  walk_at "v"
  refine (wp_nPut (kvs := tk { r0 a with rw := l2, ft := l3, pile := fs, place := place, trap := t }) (key := .inr "fault") rfl rfl rfl).mpr ?_
  have e6 : putA (tk { r0 a with rw := l2, ft := l3, pile := fs, place := place, trap := t }) (.inr "fault") (.dat fault) = tk { r0 a with rw := l2, ft := l3, pile := fs, place := place, trap := t, fault := fault } := rfl
  rw [e6]
  walk_at "v"
  refine wp_is (a := .dat fault) rfl ?_
  walk_at "v"
  have fin : ∀ (b : Bool) (xb : Nd), PenAt (n + 1098) xb → Wp (runE [some (.ref 0), some (.dat (.list (ns.map .int))), some (.dat (.int a)), some (.ref 4), o4]) [xb, .dic (dkK l), gE, gE, .dic (tk { r0 a with rw := l2, ft := l3, pile := fs, place := place, trap := t, fault := fault, trapped := b }), jk, gE, .fz (.dict [(.str "r", .tuple [.int 0, .str "x", .int 3])]), gE, .fz (.dict [(.str "f", .tuple [.str "i", .tuple [.str "box", .str "i"]])])] fun q w' =>
      ∃ (x' : Nd) (ru : Ru) (d1 d2 : PyData), q = .rt (.ref 4) ∧ w' = [x', .dic (dkK ru.bx), gE, gE, .dic (tk ru), jk, gE, .fz d1, gE, .fz d2] ∧ PenAt (n + 1100) x' ∧ ru.ok := fun b xb hpb =>
    wp_mono (runE_ok hpb (by omega) hb fun q sd hq hsd hsl => ⟨sgo, Sh.int (by show -10000000000000 ≤ a; omega) (by show a ≤ 10000000000000; omega), hb.o, hb.l, hr, hrl, hf, hfl, hfs, hfs1, hpl, ⟨by show -10000000000000 ≤ t; omega, by show t ≤ 10000000000000; omega⟩, hfault, hq, hsd, hsl⟩) fun q w' h => h
  refine ite2 (fun _ => ?_) (fun _ => ?_)
  · walk_at "v"
    refine draw hpa (by omega) (by decide) (by decide) (fun rb xb rb0 rb1 hpb => ?_)
    walk_at "v"
    refine (wp_nPut (kvs := tk { r0 a with rw := l2, ft := l3, pile := fs, place := place, trap := t, fault := fault }) (key := .inr "trapped") rfl rfl rfl).mpr ?_
    exact fin (decide (rb = 0)) xb (hpb.mono (by omega))
  · walk_at "v"
    refine (wp_nPut (kvs := tk { r0 a with rw := l2, ft := l3, pile := fs, place := place, trap := t, fault := fault }) (key := .inr "trapped") rfl rfl rfl).mpr ?_
    exact fin false xa (hpa.mono (by omega))
theorem run_ok {ns : List Int} (hN : Nm ns) {a : Int} (ha : 1 ≤ a ∧ a ≤ 10000) {n : Nat} {x : Nd} {Q : DV → Sr → Prop} (hp : PenAt n x) (hn : n ≤ 300000) (k : ∀ (x' : Nd) (ru : Ru) (d1 d2 : PyData), PenAt (n + 1140) x' → ru.ok → Q (.ref 4) [x', .dic (dkK ru.bx), gE, gE, .dic (tk ru), jk, gE, .fz d1, gE, .fz d2]) :
    Wp (F_law_run [.ref 0, .dat (.list (ns.map .int)), .dat (.int a)]) [x] Q := by
  have main : Wp (fnF 5 f_law_run [.ref 0, .dat (.list (ns.map .int)), .dat (.int a)]) [x] fun q w' => ∃ (x' : Nd) (ru : Ru) (d1 d2 : PyData), q = .ref 4 ∧ w' = [x', .dic (dkK ru.bx), gE, gE, .dic (tk ru), jk, gE, .fz d1, gE, .fz d2] ∧ PenAt (n + 1140) x' ∧ ru.ok := by
    refine wp_fn ?_
    show Wp (f_law_run [some (.ref 0), some (.dat (.list (ns.map .int))), some (.dat (.int a)), none, none]) [x] _
    rw [run_is]
    walk_at "v"
    refine wp_is (first_fn (by omega)) ?_
    walk_at "v"
    refine wp_forD (I := IB (.list (ns.map .int)) (.int a) (r0 a) n) ⟨x, [], _, rfl, rfl, hp, ⟨by simp, Nat.le_refl _⟩⟩ (fun i d δ w he hI => ?_) (fun δ w hI => ?_)
    · have hi : i < 4 := (List.getElem?_eq_some_iff.mp he).1
      obtain ⟨y, rfl, hy⟩ := ascs (n := 10) (by decide +kernel) d (List.mem_of_getElem? he)
      refine wp_mono (boxT_ok (by omega) hi (hy.mono (by decide)) hI) fun r w' hq => ?_
      cases r <;> first | exact hq | exact hq.elim
    · obtain ⟨x1, l, o4, rfl, rfl, hp1, hb⟩ := hI
      have hp1 : PenAt (n + 40) x1 := hp1
      refine wp_mono (runR_ok hN ha (l := l) hb hp1 (by omega)) fun q w' ⟨x', ru, d1, d2, e1, e2, hp2, hok⟩ => ?_
      subst e1; subst e2
      have e : trimR [x].length (.rt (.ref 4)) [x', .dic (dkK ru.bx), gE, gE, .dic (tk ru), jk, gE, .fz d1, gE, .fz d2] = (.rt (.ref 4), [x', .dic (dkK ru.bx), gE, gE, .dic (tk ru), jk, gE, .fz d1, gE, .fz d2]) := by
        unfold trimR
        split <;> rfl
      rw [e]
      exact ⟨x', ru, d1, d2, rfl, rfl, hp2.mono (by omega), hok⟩
  obtain ⟨q, w', e, x', ru, d1, d2, rfl, rfl, hp2, hok⟩ := main
  exact ⟨_, _, small_id (ds := [.list (ns.map .int), .int a]) hp e, k x' ru d1 d2 hp2 hok⟩
end My

namespace My
open PySem PySem.Spec PyProof.Rows L2 DL
def prL (l : List (Int × PyData)) : List PyData := l.map fun p => .tuple [.int p.1, p.2]
theorem lprogP {o0 o2 o3 o4 o5 o7 o8 o9 o10 o11 o12 : Option DV} : ∀ {ns : List Int} {n : Nat} {x : Nd} {Q : List DV → Sr → Prop}, PenAt n x → n + ns.length ≤ 600000 → (∀ i ∈ ns, 1 ≤ i ∧ i ≤ 10000) →
    (∀ l x', PenAt (n + ns.length) x' → l.map (·.1) = ns → (∀ p ∈ l, Sh 4000 2 p.2) → Q ((prL l).map .dat) [x']) →
    Wp (lcD (gN 6) tY (eTup (aC (eV 6) (aC (eIx (eLst (aC (eTup (aC (eC (.str "go")) (aC (eV 6) aN))) (aC (eTup (aC (eC (.str "note")) (aC (eC (.str "go")) aN))) aN))) (eCall F_law_draw (aC (eV 1) (aC (eC (.int 2)) aN)))) aN))) [o0, some (.ref 0), o2, o3, o4, o5, none, o7, o8, o9, o10, o11, o12] (ns.map .int)) [x] Q
  | [], n, x, Q, hp, hn, hb, q => wp_lcD_nil (q [] x hp rfl (by simp))
  | i :: ns, n, x, Q, hp, hn, hb, q => by
    have hi := hb i List.mem_cons_self
    rw [List.length_cons] at hn
    rw [List.map_cons]
    refine wp_lcD_cons rfl ?_
    refine wp_tY (iteOn rfl ?_)
    walk_at "v"
    refine draw hp (by omega) (by decide) (by decide) (fun r1 x1 r10 r11 hp1 => ?_)
    refine wp_ixL (P := Sh 4000 2) (all_c (Sh.tup (W := 1002) (D := 1) (N := 2) (all_c (shB_ok (by decide +kernel)) (all_1 (Sh.int (by omega) (by omega)))) (Nat.le_refl 2) (by decide)) (all_1 (shB_ok (by decide +kernel)))) r10 r11 (fun st hst => ?_)
    walk_at "v"
    refine lprogP hp1 (by omega) (fun j hj => hb j (List.mem_cons_of_mem _ hj)) fun l x' hp' hl hs => ?_
    refine q ((i, st) :: l) x' (hp'.mono (by rw [List.length_cons]; omega)) (by rw [List.map_cons, hl]) fun p hp => ?_
    rcases List.mem_cons.mp hp with rfl | hp
    · exact hst
    · exact hs p hp
theorem prg_sh {l : List (Int × PyData)} (hl : l.length ≤ 8) (h1 : ∀ p ∈ l, -10000000000000 ≤ p.1 ∧ p.1 ≤ 10000000000000) (h2 : ∀ p ∈ l, Sh 4000 2 p.2) : Sh 100000 4 (prg l) := by
  refine Sh.tup (W := 8007) (D := 3) (N := 8) (fun d hd => ?_) (by rw [List.length_map]; exact hl) (by decide)
  obtain ⟨p, hp, rfl⟩ := List.mem_map.mp hd
  exact Sh.tup (W := 4000) (D := 2) (N := 2) (all_c ((Sh.int (h1 p hp).1 (h1 p hp).2).mono (by decide) (by decide)) (all_1 (h2 p hp))) (Nat.le_refl 2) (by decide)
theorem frz2_tk {r : Ru} {bx : List (Str × PyData)} {x : Nd} {d1 d2 : PyData} (hb : r.bx = bx) {t : Sr} : frz2 (.ref 4) ([x, .dic (dkK bx), gE, gE, .dic (tk r), jk, gE, .fz d1, gE, .fz d2] ++ t) = some (r.dict, [x, .fz (.dict (dk id bx)), gE, gE, .fz r.dict, jk, gE, .fz d1, gE, .fz d2] ++ t) := by
  have h1 : frz (.ref 1) ([x, .dic (dkK bx), gE, gE, .dic (tk r), jk, gE, .fz d1, gE, .fz d2] ++ t) = some (.dict (dk id bx), [x, .fz (.dict (dk id bx)), gE, gE, .dic (tk r), jk, gE, .fz d1, gE, .fz d2] ++ t) := by
    show (datKV (dkK bx)).map _ = _
    rw [datKV_dkK]; rfl
  show (match frzRefs [1] ([x, .dic (dkK bx), gE, gE, .dic (tk r), jk, gE, .fz d1, gE, .fz d2] ++ t) with
      | some w1 => match w1[4]? with
        | some (Nd.dic cs') => (dat2 w1 cs').map fun ds => (PyData.dict ds, w1.set 4 (Nd.fz (.dict ds)))
        | _ => none
      | none => none) = _
  unfold frzRefs
  rw [h1]
  subst hb
  rfl
theorem ix_last {ns : List Int} {z : Int} : ixP (.list ((ns ++ [z]).map .int)) (.int (-1)) = some (.int z) := by
  show atI ((ns ++ [z]).map PyData.int) (-1) = _
  rw [List.map_append]
  exact at_last
theorem nm_last {ns : List Int} (h : Nm ns) : ∃ init z, ns = init ++ [z] ∧ 1 ≤ z ∧ z ≤ 10000 := by
  have hne : ns ≠ [] := fun e => by have := h.l.1; rw [e] at this; exact absurd this (by decide)
  refine ⟨ns.dropLast, ns.getLast hne, (List.dropLast_concat_getLast hne).symm, h.b _ (List.getLast_mem hne)⟩
end My

namespace My
open PySem PySem.Spec PyProof.Rows L2 DL
theorem trim_any {δ : En} {w : Sr} : ((trimR w.length (.nx δ) w).1 = .nx δ ∨ (trimR w.length (.nx δ) w).1 = .nx (δ.map (DL.cutV w.length))) ∧ (trimR w.length (.nx δ) w).2 = w := by
  unfold trimR
  split
  · exact ⟨.inl rfl, rfl⟩
  · exact ⟨.inr rfl, List.take_length⟩
def inT : FS := (sT
   (sIf (tOu (eOpB neP (eCB reprQ (aC (eCall F_fault_at (aC (eV 5) (aC (eV 10) (aC (eV 8) (aC (eV 6) aN))))) aN)) (eCB reprQ (aC (eCall F_law_state (aC (eF2 (eV 9)) aN)) aN))) (eOpB neP (eCB reprQ (aC (eTup (aC (eV 5) (aC (eV 10) aN))) aN)) (eV 11)))
   (sRet (eC (.bool false)))
   sNil))
def tailS : FS := (sSeq (sSet (eCall F_law_state (aC (eF2 (eV 7)) aN)) (gN 10))
  (sSeq (sSet (eCB reprQ (aC (eTup (aC (eV 5) (aC (eV 10) aN))) aN)) (gN 11))
  (sFor (iR1 (aC (eC (.int 2)) aN)) (gN 12) inT)))
def W1 (x : Nd) (bx : List (Str × PyData)) (r : Ru) (d1 d2 : PyData) (n10 n11 : Nd) : Sr := [x, .fz (.dict (dk id bx)), gE, gE, .fz r.dict, jk, gE, .fz d1, gE, .fz d2, n10, n11]
def TenP (r : Ru) (n : Nd) : Prop := n = .dic (tk r) ∨ n = .fz r.dict
theorem frz2_10 {x : Nd} {bx : List (Str × PyData)} {r r3 : Ru} {d1 d2 : PyData} {n10 n11 : Nd} (h : TenP r3 n10) (hb : r3.bx = bx) : frz2 (.ref 10) (W1 x bx r d1 d2 n10 n11) = some (r3.dict, W1 x bx r d1 d2 (.fz r3.dict) n11) := by
  subst hb
  rcases h with rfl | rfl
  · rfl
  · rfl
def IT (x : Nd) (bx : List (Str × PyData)) (r r3 : Ru) (d1 d2 : PyData) (n11 : Nd) (s ws ns pr word num st kept : PyData) (o3 : Option DV) (δ : En) (w : Sr) : Prop := ∃ (n10 : Nd) (o12 : Option DV), δ = [some (.dat s), some (.ref 0), some (.dat ws), o3, some (.dat ns), some (.dat pr), some (.dat num), some (.ref 4), some (.dat word), some (.ref 10), some (.dat st), some (.dat kept), o12] ∧ w = W1 x bx r d1 d2 n10 n11 ∧ TenP r3 n10
theorem tailS_ok {x : Nd} {r : Ru} {d1 d2 : PyData} {n11 : Nd} {s ws : PyData} {l : List (Int × PyData)} {word : Str} {num : Int} {n3 : Int} {o10 o11 o12 : Option DV} {nsd : PyData} (hr : r.ok) (hw : Asc 100 word) (h0 : -10000000000000 ≤ num) (h1 : num ≤ 10000000000000) (hl : l.length ≤ 8) (hp1 : ∀ p ∈ l, -10000000000000 ≤ p.1 ∧ p.1 ≤ 10000000000000) (hp2 : ∀ p ∈ l, Sh 4000 2 p.2) :
    Wp (tailS [some (.dat s), some (.ref 0), some (.dat ws), some (.dat (.int n3)), some (.dat nsd), some (.dat (prg l)), some (.dat (.int num)), some (.ref 4), some (.dat (.str word)), some (.ref 10), o10, o11, o12]) ([x, .dic (dkK r.bx), gE, gE, .dic (tk r), jk, gE, .fz d1, gE, .fz d2] ++ [.dic (tk (r.to word num ((l.map (·.1)).any fun y => y == r.trap))), n11]) fun q w' =>
      ∃ o10 o11 o12 t, q = .nx [some (.dat s), some (.ref 0), some (.dat ws), some (.dat (.int n3)), some (.dat nsd), some (.dat (prg l)), some (.dat (.int num)), some (.ref 4), some (.dat (.str word)), some (.ref 10), o10, o11, o12] ∧ w' = x :: t := by
  have hto := hr.to (word := word) (number := num) (c := (l.map (·.1)).any fun y => y == r.trap) hw h0 h1
  have hbx : (r.to word num ((l.map (·.1)).any fun y => y == r.trap)).bx = r.bx := by unfold Ru.to; split <;> rfl
  have hfa := fault_fn (r := r) (l := l) (word := word) (number := num) (by omega)
  generalize r.to word num ((l.map (·.1)).any fun y => y == r.trap) = r3 at hto hbx hfa ⊢
  have hpr := prg_sh hl hp1 hp2
  have hboth : Sh 8100000 6 (.tuple [prg l, .tuple r.st]) := Sh.tup (W := 4000000) (D := 5) (N := 2) (all_c (hpr.mono (by decide) (by decide)) (all_1 hr.sh)) (Nat.le_refl 2) (by decide)
  obtain ⟨S, hk⟩ : ∃ S, reprQ [.tuple [prg l, .tuple r.st]] = some (.str S) := ⟨_, rep_of hboth (by decide) (by decide)⟩
  obtain ⟨S3, h3⟩ : ∃ S, reprQ [.tuple r3.st] = some (.str S) := ⟨_, rep_of hto.sh (by decide) (by decide)⟩
  unfold tailS
  walk_at "v"
  refine ⟨_, _, frz2_tk rfl, ?_⟩
  walk_at "v"
  refine wp_pureF (ds := [r.dict]) (state_fn hr.sm) ?_
  walk_at "v"
  refine ex_mk hk ?_
  walk_at "v"
  refine wp_forD (I := fun _ => IT x r.bx r r3 d1 d2 n11 s ws nsd (prg l) (.str word) (.int num) (.tuple r.st) (.str S) (some (.dat (.int n3)))) ⟨_, _, rfl, rfl, .inl rfl⟩ (fun i d δ w he hI => ?_) (fun δ w hI => ?_)
  · obtain ⟨n10, o12, rfl, rfl, hT⟩ := hI
    refine wp_turn rfl ?_
    unfold inT
    refine wp_sT ?_
    walk_at "v"
    refine wp_pureF (ds := [prg l, .tuple r.st, .str word, .int num]) hfa ?_
    walk_at "v"
    refine ex_mk h3 ?_
    walk_at "v"
    refine ⟨_, _, frz2_10 hT hbx, ?_⟩
    walk_at "v"
    refine wp_pureF (ds := [r3.dict]) (state_fn hto.sm) ?_
    walk_at "v"
    refine ex_mk h3 ?_
    walk_at "v"
    refine iteOff (by rw [beq_self_eq_true]; rfl) ?_
    walk_at "v"
    refine ex_mk hk ?_
    walk_at "v"
    refine iteOff (by rw [beq_self_eq_true]; rfl) ?_
    refine wp_sNil.mpr ?_
    obtain ⟨t1, t2⟩ := trim_any (w := W1 x r.bx r d1 d2 (.fz r3.dict) n11) (δ := [some (.dat s), some (.ref 0), some (.dat ws), some (.dat (.int n3)), some (.dat nsd), some (.dat (prg l)), some (.dat (.int num)), some (.ref 4), some (.dat (.str word)), some (.ref 10), some (.dat (.tuple r.st)), some (.dat (.str S)), some (.dat d)])
    show (match (trimR (W1 x r.bx r d1 d2 (.fz r3.dict) n11).length (.nx [some (.dat s), some (.ref 0), some (.dat ws), some (.dat (.int n3)), some (.dat nsd), some (.dat (prg l)), some (.dat (.int num)), some (.ref 4), some (.dat (.str word)), some (.ref 10), some (.dat (.tuple r.st)), some (.dat (.str S)), some (.dat d)]) (W1 x r.bx r d1 d2 (.fz r3.dict) n11)).1 with | .nx δ' => _ | .ct δ' => _ | .bk δ' => _ | .rt v => _)
    rcases t1 with t1 | t1
    · rw [t1]
      exact ⟨_, _, rfl, t2, .inr rfl⟩
    · rw [t1]
      exact ⟨_, _, rfl, t2, .inr rfl⟩
  · obtain ⟨n10, o12, rfl, rfl, hT⟩ := hI
    exact ⟨_, _, _, _, rfl, rfl⟩
end My

namespace My
open PySem PySem.Spec PyProof.Rows L2 DL
theorem trim_pen {n : Nat} {x y : Nd} {t : Sr} {δ : En} (hp : PenAt n x) : trimR [y].length (.nx δ) (x :: t) = (.nx (δ.map (DL.cutV 1)), [x]) := by
  show trimR 1 (.nx δ) (x :: t) = _
  have q : clo 1 (x :: t) = true := by simp [clo, hp.ins]
  unfold trimR
  rw [q]; rfl
def turnS : FS := (sT
   (sSeq (sSet (eCall F_law_numbers (aC (eV 1) (aC (eOp addP (eC (.int 1)) (eCall F_law_draw (aC (eV 1) (aC (eC (.int 8)) aN)))) aN))) (gN 4))
  (sSeq (sSet (eCB tupleP (aC (eLc (iE (eV 4)) [6] (gN 6) tY (eTup (aC (eV 6) (aC (eIx (eLst (aC (eTup (aC (eC (.str "go")) (aC (eV 6) aN))) (aC (eTup (aC (eC (.str "note")) (aC (eC (.str "go")) aN))) aN))) (eCall F_law_draw (aC (eV 1) (aC (eC (.int 2)) aN)))) aN)))) aN)) (gN 5))
  (sSeq (sSet (eCall F_law_run (aC (eV 1) (aC (eV 4) (aC (eIx (eV 4) (eCall F_law_draw (aC (eV 1) (aC (eCB lenP (aC (eV 4) aN)) aN)))) aN)))) (gN 7))
  (sSeq (sPut (eV 7) (eC (.str "stand")) (eIx (eLst (aC (eC (.str "going")) (aC (eC (.str "stopped")) (aC (eC (.str "asks")) (aC (eC (.str "faulted")) aN))))) (eCall F_law_draw (aC (eV 1) (aC (eC (.int 4)) aN)))))
  (sSeq (sPut (eV 7) (eC (.str "trap")) (eIx (eLst (aC (eC (.int 0)) (aC (eIx (eV 4) (eC (.int 0))) (aC (eIx (eV 4) (eNeg (eC (.int 1)))) (aC (eOp addP (eIx (eV 4) (eNeg (eC (.int 1)))) (eC (.int 7))) aN))))) (eCall F_law_draw (aC (eV 1) (aC (eC (.int 4)) aN)))))
  (sSeq (sSet (eIx (eLst (aC (eIx (eV 4) (eCall F_law_draw (aC (eV 1) (aC (eCB lenP (aC (eV 4) aN)) aN)))) (aC (eOp addP (eC (.int 1)) (eCall F_law_draw (aC (eV 1) (aC (eC (.int 9999)) aN)))) aN))) (eOp fdivP (eCall F_law_draw (aC (eV 1) (aC (eC (.int 3)) aN))) (eC (.int 2)))) (gN 6))
  (sSeq (sSet (eIx (eV 2) (eCall F_law_draw (aC (eV 1) (aC (eC (.int 15)) aN)))) (gN 8))
  (sSeq (sSet (eDicD (aC (eV 7) aN)) (gN 9))
  (sSeq (sPut (eV 9) (eC (.str "fault")) (eTup (aC (eV 8) (aC (eV 6) aN))))
  (sSeq (sIf (tAn (eOpB inP (eIx (eV 7) (eC (.str "trap"))) (eV 4)) (tNo (tV (eIx (eV 7) (eC (.str "trapped"))))))
   (sExp (eUpd (eV 9) (eDicN (pC (eC (.str "stand")) (eC (.str "going")) (pC (eC (.str "at")) (eIx (eV 7) (eC (.str "trap"))) (pC (eC (.str "trapped")) (eC (.bool true)) pN))))))
   (sExp (eUpd (eV 9) (eDicN (pC (eC (.str "stand")) (eC (.str "faulted")) (pC (eC (.str "at")) (eV 6) pN))))))
  tailS)))))))))))
theorem law_is : f_law = (sSeq (sSet (eCall F_law_pen (aC (eV 0) aN)) (gN 1))
  (sSeq (sSet (eLst (aC (eC (.str "empty")) (aC (eC (.str "norow")) (aC (eC (.str "kind")) (aC (eC (.str "range")) (aC (eC (.str "nought")) (aC (eC (.str "nofit")) (aC (eC (.str "deep")) (aC (eC (.str "great")) (aC (eC (.str "long")) (aC (eC (.str "noline")) (aC (eC (.str "pile")) (aC (eC (.str "back")) aN))))))))))))) (gN 2))
  (sSeq (sSet (eOp addP (eV 2) (eLst (aC (eC (.str "again")) (aC (eC (.str "data")) (aC (eC (.str "trap")) aN))))) (gN 2))
  (sSeq (sFor (iR1 (aC (eC (.int 12)) aN)) (gN 3) turnS)
  (sRet (eC (.bool true))))))) := rfl
def midS : FS := (sSeq (sSet (eDicD (aC (eV 7) aN)) (gN 9))
        (sSeq (sPut (eV 9) (eC (.str "fault")) (eTup (aC (eV 8) (aC (eV 6) aN))))
          (sSeq (sIf (tAn (eOpB inP (eIx (eV 7) (eC (.str "trap"))) (eV 4)) (tNo (tV (eIx (eV 7) (eC (.str "trapped"))))))
              (sExp (eUpd (eV 9) (eDicN (pC (eC (.str "stand")) (eC (.str "going")) (pC (eC (.str "at")) (eIx (eV 7) (eC (.str "trap"))) (pC (eC (.str "trapped")) (eC (.bool true)) pN))))))
              (sExp (eUpd (eV 9) (eDicN (pC (eC (.str "stand")) (eC (.str "faulted")) (pC (eC (.str "at")) (eV 6) pN))))))
            tailS)))
theorem midS_ok {x : Nd} {r : Ru} {d1 d2 : PyData} {s ws : PyData} {l : List (Int × PyData)} {word : Str} {num n3 : Int} {ns : List Int} (hl : l.map (·.1) = ns) {o9 o10 o11 o12 : Option DV} {Q : Res → Sr → Prop}
    (fin : ∀ n11 : Nd, Wp (tailS [some (.dat s), some (.ref 0), some (.dat ws), some (.dat (.int n3)), some (.dat (.list (ns.map .int))), some (.dat (prg l)), some (.dat (.int num)), some (.ref 4), some (.dat (.str word)), some (.ref 10), o10, o11, o12]) ([x, .dic (dkK r.bx), gE, gE, .dic (tk r), jk, gE, .fz d1, gE, .fz d2] ++ [.dic (tk (r.to word num ((l.map (·.1)).any fun y => y == r.trap))), n11]) Q) :
    Wp (midS [some (.dat s), some (.ref 0), some (.dat ws), some (.dat (.int n3)), some (.dat (.list (ns.map .int))), some (.dat (prg l)), some (.dat (.int num)), some (.ref 4), some (.dat (.str word)), o9, o10, o11, o12]) [x, .dic (dkK r.bx), gE, gE, .dic (tk r), jk, gE, .fz d1, gE, .fz d2] Q := by
  rw [hl] at fin
  unfold midS
  walk_at "v"
  refine wp_bnd.mpr ?_
  walk_at "v"
  refine wp_is (a := .ref 10) (w' := [x, .dic (dkK r.bx), gE, gE, .dic (tk r), jk, gE, .fz d1, gE, .fz d2, .dic (tk r)]) rfl ?_
  walk_at "v"
  refine (wp_nPut (kvs := tk r) (key := .inr "fault") rfl rfl rfl).mpr ?_
  have e1 : putA (tk r) (.inr "fault") (.dat (.tuple [.str word, .int num])) = tk { r with fault := .tuple [.str word, .int num] } := rfl
  rw [e1]
  show Wp _ [x, .dic (dkK r.bx), gE, gE, .dic (tk r), jk, gE, .fz d1, gE, .fz d2, .dic (tk { r with fault := .tuple [.str word, .int num] })] _
  have fa2 : r.to word num false = { r with stand := .str "faulted", at_ := .int num, fault := .tuple [.str word, .int num] } := if_neg (show ¬ (false = true) by decide)
  have low : ∀ (R : r.to word num (ns.any fun y => y == r.trap) = { r with stand := .str "faulted", at_ := .int num, fault := .tuple [.str word, .int num] }), Wp (sExp (eUpd (eV 9) (eDicN (pC (eC (.str "stand")) (eC (.str "faulted")) (pC (eC (.str "at")) (eV 6) pN)))) [some (.dat s), some (.ref 0), some (.dat ws), some (.dat (.int n3)), some (.dat (.list (ns.map .int))), some (.dat (prg l)), some (.dat (.int num)), some (.ref 4), some (.dat (.str word)), some (.ref 10), o10, o11, o12]) [x, .dic (dkK r.bx), gE, gE, .dic (tk r), jk, gE, .fz d1, gE, .fz d2, .dic (tk { r with fault := .tuple [.str word, .int num] })] fun q w' => (match q with | .nx δ' => Wp (tailS δ') w' Q | q => Q q w') := fun R => by
    rw [R] at fin
    walk_at "v"
    refine wp_eUpd ?_
    walk_at "v"
    refine ⟨10, _, rfl, rfl, ?_⟩
    refine wp_is (a := .ref 11) (w' := [x, .dic (dkK r.bx), gE, gE, .dic (tk r), jk, gE, .fz d1, gE, .fz d2, .dic (tk { r with fault := .tuple [.str word, .int num] }), .dic [(.inr "stand", .dat (.str "faulted")), (.inr "at", .dat (.int num))]]) rfl ?_
    refine ⟨11, _, _, rfl, by decide, rfl, rfl, by show 12 + 2 ≤ 1000000; decide, ?_⟩
    exact fin _
  walk_at "v"
  refine wp_is (a := .dat (.int r.trap)) rfl ?_
  walk_at "v"
  refine ex_mk (asb in_is) ?_
  cases hc : (ns.any fun y => y == r.trap) with
  | false =>
    rw [hc] at low
    refine iteOff rfl ?_
    refine iteOff rfl ?_
    exact low fa2
  | true =>
    rw [hc] at low fin
    refine iteOn rfl ?_
    walk_at "v"
    refine wp_is (a := .dat (.bool r.trapped)) rfl ?_
    walk_at "v"
    rcases Bool.eq_false_or_eq_true r.trapped with ht | ht
    · refine iteOff (by rw [ht]; rfl) ?_
      exact low (if_neg (by rw [ht]; decide))
    · refine iteOn (by rw [ht]; rfl) ?_
      have R : r.to word num true = { r with stand := .str "going", at_ := .int r.trap, trapped := true, fault := .tuple [.str word, .int num] } := if_pos (by rw [ht]; rfl)
      rw [R] at fin
      walk_at "v"
      refine wp_eUpd ?_
      walk_at "v"
      refine ⟨10, _, rfl, rfl, ?_⟩
      refine wp_is (a := .ref 11) (w' := [x, .dic (dkK r.bx), gE, gE, .dic (tk r), jk, gE, .fz d1, gE, .fz d2, .dic (tk { r with fault := .tuple [.str word, .int num] }), .dic [(.inr "stand", .dat (.str "going")), (.inr "at", .dat (.int r.trap)), (.inr "trapped", .dat (.bool true))]]) rfl ?_
      refine ⟨11, _, _, rfl, by decide, rfl, rfl, by show 12 + 3 ≤ 1000000; decide, ?_⟩
      exact fin _
def wds : List PyData := [.str "empty", .str "norow", .str "kind", .str "range", .str "nought", .str "nofit", .str "deep", .str "great", .str "long", .str "noline", .str "pile", .str "back", .str "again", .str "data", .str "trap"]
def IS (s : PyData) (i : Nat) (δ : En) (w : Sr) : Prop := ∃ (x : Nd) (o3 o4 o5 o6 o7 o8 o9 o10 o11 o12 : Option DV), δ = [some (.dat s), some (.ref 0), some (.dat (.list wds)), o3, o4, o5, o6, o7, o8, o9, o10, o11, o12] ∧ w = [x] ∧ PenAt (1300 * i) x
theorem turnS_ok {s : PyData} {i : Nat} {n3 : Int} {δ : En} {w : Sr} (hi : i < 12) (h : IS s i δ w) : Wp (turnD (gN 3) turnS (.int n3) δ) w fun r w' => match r with | .nx δ' => IS s (i + 1) δ' w' | .ct δ' => IS s (i + 1) δ' w' | .bk δ' => False | .rt v => False := by
  obtain ⟨x, o3, o4, o5, o6, o7, o8, o9, o10, o11, o12, rfl, rfl, hp⟩ := h
  refine wp_turn rfl ?_
  unfold turnS
  refine wp_sT ?_
  walk_at "v"
  refine draw hp (by omega) (by decide) (by decide) (fun r1 x1 r10 r11 hp1 => ?_)
  walk_at "v"
  refine numbers_ok (by omega) (by omega) hp1 (by omega) (fun ns x2 hp2 hN => ?_)
  have l1 := hN.l
  have lm : ((ns.map PyData.int).length : Int) = ns.length := by rw [List.length_map]
  walk_at "v"
  refine lprogP hp2 (by omega) hN.b fun l x3 hp3 hl hs => ?_
  have ll : l.length = ns.length := by rw [← hl, List.length_map]
  refine ⟨lenOk_of (by rw [List.length_map]; omega), _, datAll_map _, ?_⟩
  walk_at "v"
  refine draw hp3 (by omega) (by rw [lm]; omega) (by rw [lm]; omega) (fun r4 x4 r40 r41 hp4 => ?_)
  refine wp_ixL hN.sh r40 r41 (fun d ⟨a, e, a0, a1⟩ => ?_)
  subst e
  walk_at "v"
  refine run_ok hN ⟨a0, a1⟩ hp4 (by omega) fun x5 ru d1 d2 hp5 hru => ?_
  walk_at "v"
  refine draw hp5 (by omega) (by decide) (by decide) (fun r6 x6 r60 r61 hp6 => ?_)
  refine wp_ixL (P := Sh 1002 1) (all_c (shB_ok (by decide +kernel)) (all_c (shB_ok (by decide +kernel)) (all_c (shB_ok (by decide +kernel)) (all_1 (shB_ok (by decide +kernel)))))) r60 (by show r6 < 4; omega) (fun sd hsd => ?_)
  walk_at "v"
  refine (wp_nPut (kvs := tk ru) (key := .inr "stand") rfl rfl rfl).mpr ?_
  have e1 : putA (tk ru) (.inr "stand") (.dat sd) = tk { ru with stand := sd } := rfl
  rw [e1]
  walk_at "v"
  obtain ⟨n0, hn0, n00, n01⟩ : ∃ n0 : Int, ixP (.list (ns.map .int)) (.int 0) = some (.int n0) ∧ 1 ≤ n0 ∧ n0 ≤ 10000 := by
    match ns, hN with
    | [], h => exact absurd h.l.1 (by decide)
    | a :: t, h => exact ⟨a, L2.at0, h.b a List.mem_cons_self⟩
  obtain ⟨ini, z, hz, z0, z1⟩ := nm_last hN
  have hzl : ixP (.list (ns.map .int)) (.int (-1)) = some (.int z) := by rw [hz]; exact ix_last
  refine st_ixD hn0 ?_
  walk_at "v"
  refine st_ixD hzl ?_
  walk_at "v"
  refine st_ixD hzl ?_
  walk_at "v"
  refine draw hp6 (by omega) (by decide) (by decide) (fun r7 x7 r70 r71 hp7 => ?_)
  refine wp_ixL (P := fun v => ∃ t : Int, v = .int t ∧ 0 ≤ t ∧ t ≤ 10007) (all_c ⟨_, rfl, by decide, by decide⟩ (all_c ⟨_, rfl, by omega, by omega⟩ (all_c ⟨_, rfl, by omega, by omega⟩ (all_1 ⟨_, rfl, by omega, by omega⟩)))) r70 (by show r7 < 4; omega) (fun d ⟨t, e, t0, t1⟩ => ?_)
  subst e
  walk_at "v"
  refine (wp_nPut (kvs := tk { ru with stand := sd }) (key := .inr "trap") rfl rfl rfl).mpr ?_
  have e2 : putA (tk { ru with stand := sd }) (.inr "trap") (.dat (.int t)) = tk { ru with stand := sd, trap := t } := rfl
  rw [e2]
  walk_at "v"
  refine draw hp7 (by omega) (by rw [lm]; omega) (by rw [lm]; omega) (fun r8 x8 r80 r81 hp8 => ?_)
  refine wp_ixL hN.sh r80 r81 (fun d ⟨j, e, j0, j1⟩ => ?_)
  subst e
  walk_at "v"
  refine draw hp8 (by omega) (by decide) (by decide) (fun r9 x9 r90 r91 hp9 => ?_)
  walk_at "v"
  refine draw hp9 (by omega) (by decide) (by decide) (fun ra xa ra0 ra1 hpa => ?_)
  walk_at "v"
  refine ex_mk (fdivc (by decide) (by decide)) ?_
  refine wp_ixL (P := fun v => ∃ j : Int, v = .int j ∧ 1 ≤ j ∧ j ≤ 10000) (all_c ⟨_, rfl, j0, j1⟩ (all_1 ⟨_, rfl, by omega, by omega⟩)) (by omega) (by show ra / 2 < 2; omega) (fun d ⟨num, e, m0, m1⟩ => ?_)
  subst e
  walk_at "v"
  refine draw hpa (by omega) (by decide) (by decide) (fun rb xb rb0 rb1 hpb => ?_)
  refine wp_ixL (ds := wds) (P := fun v => ∃ y, v = .str y ∧ Asc 10 y) (ascs (by decide +kernel)) rb0 (by show rb < 15; omega) (fun d ⟨word, e, hw⟩ => ?_)
  subst e
  have hru2 : ({ ru with stand := sd, trap := t } : Ru).ok := ⟨hsd, hru.at_, hru.bx, hru.bl, hru.rw, hru.rl, hru.ft, hru.fl, hru.pile, hru.pl, hru.place, ⟨by show -10000000000000 ≤ t; omega, by show t ≤ 10000000000000; omega⟩, hru.fault, hru.asked, hru.said, hru.sl⟩
  have hbx : ru.bx = ({ ru with stand := sd, trap := t } : Ru).bx := rfl
  have htr : ({ ru with stand := sd, trap := t } : Ru).trap = t := rfl
  rw [hbx]
  generalize ({ ru with stand := sd, trap := t } : Ru) = r at hru2 htr ⊢
  have fin : ∀ n11 : Nd, Wp (tailS [some (.dat s), some (.ref 0), some (.dat (.list wds)), some (.dat (.int n3)), some (.dat (.list (ns.map .int))), some (.dat (prg l)), some (.dat (.int num)), some (.ref 4), some (.dat (.str word)), some (.ref 10), o10, o11, o12]) ([xb, .dic (dkK r.bx), gE, gE, .dic (tk r), jk, gE, .fz d1, gE, .fz d2] ++ [.dic (tk (r.to word num ((l.map (·.1)).any fun y => y == r.trap))), n11]) fun q w' => (match (trimR [x].length q w').1 with | .nx δ' => IS s (i + 1) δ' (trimR [x].length q w').2 | .ct δ' => IS s (i + 1) δ' (trimR [x].length q w').2 | .bk δ' => False | .rt v => False) := fun n11 => by
    refine wp_mono (tailS_ok hru2 (hw.mono (by decide)) (by omega) (by omega) (by omega) (fun p hp => ?_) hs) fun q w' ⟨q10, q11, q12, t', e1, e2⟩ => ?_
    · have := hN.b p.1 (by rw [← hl]; exact List.mem_map_of_mem hp)
      omega
    · subst e1; subst e2
      rw [trim_pen hpb]
      exact ⟨xb, _, _, _, _, _, _, _, _, _, _, rfl, rfl, hpb.mono (by omega)⟩
  exact midS_ok hl fin
theorem law_ok {ns : List Int} (h : ns.length ≤ 63) : ∃ w', fnF 13 f_law [.dat (.list (ns.map .int))] [] = some (.dat (.bool true), w') := by
  have main : Wp (f_law [some (.dat (.list (ns.map .int))), none, none, none, none, none, none, none, none, none, none, none, none]) [] fun r _ => r = .rt (.dat (.bool true)) := by
    rw [law_is]
    walk_at "v"
    refine mkpen h (fun x hp => ?_)
    walk_at "v"
    first | refine ex_mk (rng_f (by decide) (by decide)) ?_ | skip
    refine wp_forD (I := IS (.list (ns.map .int))) ⟨x, _, _, _, _, _, _, _, _, _, _, rfl, rfl, hp⟩ (fun i d δ w he hI => ?_) (fun δ w hI => ?_)
    · obtain ⟨rfl, hi⟩ := rgD_at he
      refine wp_mono (turnS_ok (by simpa using hi) hI) fun r w' hq => ?_
      cases r <;> first | exact hq | exact hq.elim
    · obtain ⟨x1, o3, o4, o5, o6, o7, o8, o9, o10, o11, o12, rfl, rfl, hp1⟩ := hI
      walk_at "v"
      rfl
  exact ⟨[], pure_of (ds := [.list (ns.map .int)]) main⟩
end My

namespace My
open PySem L2 DL
theorem all_mk {l : PySem.W.OpenLaw} {w : World} {K : PySem.W.Frag} {h : Heap} {mg : Str → Option Value} {fa : Addr} (X : K.In h) (G : h.Ns mainGlobals mg) (hfa : mg "law" = some (.ref fa))
    {f_is_whole' : Addr} {od_is_whole an_is_whole : Option Addr} {sl_is_whole : Array (Option Value)} {oc_is_whole kV_is_whole dc_is_whole pm_is_whole cd_is_whole ct_is_whole : Value}
    (a_is_whole : PySem.W.nsIn K mainGlobals "is_whole" = some (some (.ref f_is_whole'))) (l_is_whole : K.lookup f_is_whole' = some ⟨oc_is_whole, od_is_whole, .func (PySem.W.fnOf "is_whole" "is_whole" (defArgs s_is_whole) (defBody s_is_whole) (defScope s_is_whole) .none kV_is_whole dc_is_whole pm_is_whole an_is_whole cd_is_whole ct_is_whole), sl_is_whole⟩) (e_is_whole : PySem.W.codeIn K cd_is_whole "is_whole" = true) (k_is_whole : PySem.W.keepIn K (.ref f_is_whole') = true)
    {f_has_line' : Addr} {od_has_line an_has_line : Option Addr} {sl_has_line : Array (Option Value)} {oc_has_line kV_has_line dc_has_line pm_has_line cd_has_line ct_has_line : Value}
    (a_has_line : PySem.W.nsIn K mainGlobals "has_line" = some (some (.ref f_has_line'))) (l_has_line : K.lookup f_has_line' = some ⟨oc_has_line, od_has_line, .func (PySem.W.fnOf "has_line" "has_line" (defArgs s_has_line) (defBody s_has_line) (defScope s_has_line) .none kV_has_line dc_has_line pm_has_line an_has_line cd_has_line ct_has_line), sl_has_line⟩) (e_has_line : PySem.W.codeIn K cd_has_line "has_line" = true) (k_has_line : PySem.W.keepIn K (.ref f_has_line') = true)
    {f_part_of' : Addr} {od_part_of an_part_of : Option Addr} {sl_part_of : Array (Option Value)} {oc_part_of kV_part_of dc_part_of pm_part_of cd_part_of ct_part_of : Value}
    (a_part_of : PySem.W.nsIn K mainGlobals "part_of" = some (some (.ref f_part_of'))) (l_part_of : K.lookup f_part_of' = some ⟨oc_part_of, od_part_of, .func (PySem.W.fnOf "part_of" "part_of" (defArgs s_part_of) (defBody s_part_of) (defScope s_part_of) .none kV_part_of dc_part_of pm_part_of an_part_of cd_part_of ct_part_of), sl_part_of⟩) (e_part_of : PySem.W.codeIn K cd_part_of "part_of" = true) (k_part_of : PySem.W.keepIn K (.ref f_part_of') = true)
    {f_state_with' : Addr} {od_state_with an_state_with : Option Addr} {sl_state_with : Array (Option Value)} {oc_state_with kV_state_with dc_state_with pm_state_with cd_state_with ct_state_with : Value}
    (a_state_with : PySem.W.nsIn K mainGlobals "state_with" = some (some (.ref f_state_with'))) (l_state_with : K.lookup f_state_with' = some ⟨oc_state_with, od_state_with, .func (PySem.W.fnOf "state_with" "state_with" (defArgs s_state_with) (defBody s_state_with) (defScope s_state_with) .none kV_state_with dc_state_with pm_state_with an_state_with cd_state_with ct_state_with), sl_state_with⟩) (e_state_with : PySem.W.codeIn K cd_state_with "state_with" = true) (k_state_with : PySem.W.keepIn K (.ref f_state_with') = true)
    {f_fault_at' : Addr} {od_fault_at an_fault_at : Option Addr} {sl_fault_at : Array (Option Value)} {oc_fault_at kV_fault_at dc_fault_at pm_fault_at cd_fault_at ct_fault_at : Value}
    (a_fault_at : PySem.W.nsIn K mainGlobals "fault_at" = some (some (.ref f_fault_at'))) (l_fault_at : K.lookup f_fault_at' = some ⟨oc_fault_at, od_fault_at, .func (PySem.W.fnOf "fault_at" "fault_at" (defArgs s_fault_at) (defBody s_fault_at) (defScope s_fault_at) .none kV_fault_at dc_fault_at pm_fault_at an_fault_at cd_fault_at ct_fault_at), sl_fault_at⟩) (e_fault_at : PySem.W.codeIn K cd_fault_at "fault_at" = true) (k_fault_at : PySem.W.keepIn K (.ref f_fault_at') = true)
    {f_law_pen' : Addr} {od_law_pen an_law_pen : Option Addr} {sl_law_pen : Array (Option Value)} {oc_law_pen kV_law_pen dc_law_pen pm_law_pen cd_law_pen ct_law_pen : Value}
    (a_law_pen : PySem.W.nsIn K mainGlobals "_law_pen" = some (some (.ref f_law_pen'))) (l_law_pen : K.lookup f_law_pen' = some ⟨oc_law_pen, od_law_pen, .func (PySem.W.fnOf "_law_pen" "_law_pen" (defArgs s_law_pen) (defBody s_law_pen) (defScope s_law_pen) .none kV_law_pen dc_law_pen pm_law_pen an_law_pen cd_law_pen ct_law_pen), sl_law_pen⟩) (e_law_pen : PySem.W.codeIn K cd_law_pen "_law_pen" = true) (k_law_pen : PySem.W.keepIn K (.ref f_law_pen') = true)
    {f_law_draw' : Addr} {od_law_draw an_law_draw : Option Addr} {sl_law_draw : Array (Option Value)} {oc_law_draw kV_law_draw dc_law_draw pm_law_draw cd_law_draw ct_law_draw : Value}
    (a_law_draw : PySem.W.nsIn K mainGlobals "_law_draw" = some (some (.ref f_law_draw'))) (l_law_draw : K.lookup f_law_draw' = some ⟨oc_law_draw, od_law_draw, .func (PySem.W.fnOf "_law_draw" "_law_draw" (defArgs s_law_draw) (defBody s_law_draw) (defScope s_law_draw) .none kV_law_draw dc_law_draw pm_law_draw an_law_draw cd_law_draw ct_law_draw), sl_law_draw⟩) (e_law_draw : PySem.W.codeIn K cd_law_draw "_law_draw" = true) (k_law_draw : PySem.W.keepIn K (.ref f_law_draw') = true)
    {f_law_first' : Addr} {od_law_first an_law_first : Option Addr} {sl_law_first : Array (Option Value)} {oc_law_first kV_law_first dc_law_first pm_law_first cd_law_first ct_law_first : Value}
    (a_law_first : PySem.W.nsIn K mainGlobals "_law_first" = some (some (.ref f_law_first'))) (l_law_first : K.lookup f_law_first' = some ⟨oc_law_first, od_law_first, .func (PySem.W.fnOf "_law_first" "_law_first" (defArgs s_law_first) (defBody s_law_first) (defScope s_law_first) .none kV_law_first dc_law_first pm_law_first an_law_first cd_law_first ct_law_first), sl_law_first⟩) (e_law_first : PySem.W.codeIn K cd_law_first "_law_first" = true) (k_law_first : PySem.W.keepIn K (.ref f_law_first') = true)
    {f_law_state' : Addr} {od_law_state an_law_state : Option Addr} {sl_law_state : Array (Option Value)} {oc_law_state kV_law_state dc_law_state pm_law_state cd_law_state ct_law_state : Value}
    (a_law_state : PySem.W.nsIn K mainGlobals "_law_state" = some (some (.ref f_law_state'))) (l_law_state : K.lookup f_law_state' = some ⟨oc_law_state, od_law_state, .func (PySem.W.fnOf "_law_state" "_law_state" (defArgs s_law_state) (defBody s_law_state) (defScope s_law_state) .none kV_law_state dc_law_state pm_law_state an_law_state cd_law_state ct_law_state), sl_law_state⟩) (e_law_state : PySem.W.codeIn K cd_law_state "_law_state" = true) (k_law_state : PySem.W.keepIn K (.ref f_law_state') = true)
    {f_law_pile' : Addr} {od_law_pile an_law_pile : Option Addr} {sl_law_pile : Array (Option Value)} {oc_law_pile kV_law_pile dc_law_pile pm_law_pile cd_law_pile ct_law_pile : Value}
    (a_law_pile : PySem.W.nsIn K mainGlobals "_law_pile" = some (some (.ref f_law_pile'))) (l_law_pile : K.lookup f_law_pile' = some ⟨oc_law_pile, od_law_pile, .func (PySem.W.fnOf "_law_pile" "_law_pile" (defArgs s_law_pile) (defBody s_law_pile) (defScope s_law_pile) .none kV_law_pile dc_law_pile pm_law_pile an_law_pile cd_law_pile ct_law_pile), sl_law_pile⟩) (e_law_pile : PySem.W.codeIn K cd_law_pile "_law_pile" = true) (k_law_pile : PySem.W.keepIn K (.ref f_law_pile') = true)
    {f_law_worth_now' : Addr} {od_law_worth_now an_law_worth_now : Option Addr} {sl_law_worth_now : Array (Option Value)} {oc_law_worth_now kV_law_worth_now dc_law_worth_now pm_law_worth_now cd_law_worth_now ct_law_worth_now : Value}
    (a_law_worth_now : PySem.W.nsIn K mainGlobals "_law_worth_now" = some (some (.ref f_law_worth_now'))) (l_law_worth_now : K.lookup f_law_worth_now' = some ⟨oc_law_worth_now, od_law_worth_now, .func (PySem.W.fnOf "_law_worth_now" "_law_worth_now" (defArgs s_law_worth_now) (defBody s_law_worth_now) (defScope s_law_worth_now) .none kV_law_worth_now dc_law_worth_now pm_law_worth_now an_law_worth_now cd_law_worth_now ct_law_worth_now), sl_law_worth_now⟩) (e_law_worth_now : PySem.W.codeIn K cd_law_worth_now "_law_worth_now" = true) (k_law_worth_now : PySem.W.keepIn K (.ref f_law_worth_now') = true)
    {f_law_run' : Addr} {od_law_run an_law_run : Option Addr} {sl_law_run : Array (Option Value)} {oc_law_run kV_law_run dc_law_run pm_law_run cd_law_run ct_law_run : Value}
    (a_law_run : PySem.W.nsIn K mainGlobals "_law_run" = some (some (.ref f_law_run'))) (l_law_run : K.lookup f_law_run' = some ⟨oc_law_run, od_law_run, .func (PySem.W.fnOf "_law_run" "_law_run" (defArgs s_law_run) (defBody s_law_run) (defScope s_law_run) .none kV_law_run dc_law_run pm_law_run an_law_run cd_law_run ct_law_run), sl_law_run⟩) (e_law_run : PySem.W.codeIn K cd_law_run "_law_run" = true) (k_law_run : PySem.W.keepIn K (.ref f_law_run') = true)
    {f_law_numbers' : Addr} {od_law_numbers an_law_numbers : Option Addr} {sl_law_numbers : Array (Option Value)} {oc_law_numbers kV_law_numbers dc_law_numbers pm_law_numbers cd_law_numbers ct_law_numbers : Value}
    (a_law_numbers : PySem.W.nsIn K mainGlobals "_law_numbers" = some (some (.ref f_law_numbers'))) (l_law_numbers : K.lookup f_law_numbers' = some ⟨oc_law_numbers, od_law_numbers, .func (PySem.W.fnOf "_law_numbers" "_law_numbers" (defArgs s_law_numbers) (defBody s_law_numbers) (defScope s_law_numbers) .none kV_law_numbers dc_law_numbers pm_law_numbers an_law_numbers cd_law_numbers ct_law_numbers), sl_law_numbers⟩) (e_law_numbers : PySem.W.codeIn K cd_law_numbers "_law_numbers" = true) (k_law_numbers : PySem.W.keepIn K (.ref f_law_numbers') = true)
    {f_law' : Addr} {od_law an_law : Option Addr} {sl_law : Array (Option Value)} {oc_law kV_law dc_law pm_law cd_law ct_law : Value}
    (a_law : PySem.W.nsIn K mainGlobals "law" = some (some (.ref f_law'))) (l_law : K.lookup f_law' = some ⟨oc_law, od_law, .func (PySem.W.fnOf "law" "law" (defArgs s_law) (defBody s_law) (defScope s_law) .none kV_law dc_law pm_law an_law cd_law ct_law), sl_law⟩) (e_law : PySem.W.codeIn K cd_law "law" = true) (k_law : PySem.W.keepIn K (.ref f_law') = true)
    (z_abs : PySem.W.nsIn K mainGlobals "abs" = some none)
    (z_bool : PySem.W.nsIn K mainGlobals "bool" = some none)
    (z_dict : PySem.W.nsIn K mainGlobals "dict" = some none)
    (z_int : PySem.W.nsIn K mainGlobals "int" = some none)
    (z_isinstance : PySem.W.nsIn K mainGlobals "isinstance" = some none)
    (z_len : PySem.W.nsIn K mainGlobals "len" = some none)
    (z_list : PySem.W.nsIn K mainGlobals "list" = some none)
    (z_range : PySem.W.nsIn K mainGlobals "range" = some none)
    (z_repr : PySem.W.nsIn K mainGlobals "repr" = some none)
    (z_sorted : PySem.W.nsIn K mainGlobals "sorted" = some none)
    (z_tuple : PySem.W.nsIn K mainGlobals "tuple" = some none)
    (z_zip : PySem.W.nsIn K mainGlobals "zip" = some none)
    {b_PARTS : Addr} (a_PARTS : PySem.W.nsIn K mainGlobals "PARTS" = some (some (.ref b_PARTS))) {its_PARTS : Array Value} {n_PARTS : Nat} {sl_PARTS : Array (Option Value)} (lk_PARTS : K.lookup b_PARTS = some ⟨.type "tuple", none, .seq its_PARTS n_PARTS, sl_PARTS⟩) (v_PARTS' : its_PARTS.size ≤ sizeLine ∧ Vals (l_PARTS.map V.str) its_PARTS.toList)
    (pw_0 : ∀ (S : PySem.Setting) (u a0 a1 a2 : Value), PySem.W.peekA K S (bindArgs (PySem.W.fnOf "state_with" "state_with" (defArgs s_state_with) (defBody s_state_with) (defScope s_state_with) .none kV_state_with dc_state_with pm_state_with an_state_with cd_state_with ct_state_with) ⟨[u], [("stand", a0), ("at", a1), ("fault", a2)]⟩) = some (PySem.W.dictOf [] 0, fun D => (forIn ([("stand", a0), ("at", a1), ("fault", a2)] : List (Str × Value)) PUnit.unit (fun x _ => (nsSet D x.1 x.2 >>= fun _ => pure (ForInStep.yield PUnit.unit))) >>= fun _ => pure ([("state", u), ("new", Value.ref D)] : List (Str × Value)))))
    (pw_1 : ∀ (S : PySem.Setting) (u a0 a1 a2 a3 : Value), PySem.W.peekA K S (bindArgs (PySem.W.fnOf "state_with" "state_with" (defArgs s_state_with) (defBody s_state_with) (defScope s_state_with) .none kV_state_with dc_state_with pm_state_with an_state_with cd_state_with ct_state_with) ⟨[u], [("stand", a0), ("at", a1), ("trapped", a2), ("fault", a3)]⟩) = some (PySem.W.dictOf [] 0, fun D => (forIn ([("stand", a0), ("at", a1), ("trapped", a2), ("fault", a3)] : List (Str × Value)) PUnit.unit (fun x _ => (nsSet D x.1 x.2 >>= fun _ => pure (ForInStep.yield PUnit.unit))) >>= fun _ => pure ([("state", u), ("new", Value.ref D)] : List (Str × Value)))))
    : ∃ fd : FuncData, (∀ (s : Shared) (v : Value), BindsTo s fd ⟨[v], []⟩ [("_law_script", v)]) ∧ ∀ base : Heap, K.In base → base.Ns mainGlobals mg → FnOk l.prog w K mg base CX0 4 fa fd ["_law_script"] (spD K 1 (fnF 13 f_law)) := by
  have e := hfa.symm.trans (PySem.W.mg_of X G a_law)
  cases e
  have T : Tx K w.params mg (PySem.W.fnOf "state_with" "state_with" (defArgs s_state_with) (defBody s_state_with) (defScope s_state_with) .none kV_state_with dc_state_with pm_state_with an_state_with cd_state_with ct_state_with) := ⟨PySem.W.mg_none_of X G z_abs, PySem.W.mg_none_of X G z_bool, PySem.W.mg_none_of X G z_dict, PySem.W.mg_none_of X G z_int, PySem.W.mg_none_of X G z_isinstance, PySem.W.mg_none_of X G z_len, PySem.W.mg_none_of X G z_list, PySem.W.mg_none_of X G z_range, PySem.W.mg_none_of X G z_repr, PySem.W.mg_none_of X G z_sorted, PySem.W.mg_none_of X G z_tuple, PySem.W.mg_none_of X G z_zip, ⟨_, PySem.W.mg_of X G a_PARTS, fun H => .tup (xs := l_PARTS.map V.str) (.inr ⟨_, _, _, lk_PARTS, rfl, rfl, v_PARTS'.1, v_PARTS'.2⟩) (RpAll.strs' l_PARTS)⟩, ⟨fun S us ws h1 h2 => match us, ws, h1, h2 with | [u], [a0, a1, a2], _, _ => ⟨_, pw_0 S u a0 a1 a2, fun D => rfl⟩, by decide +kernel, by decide⟩, ⟨fun S us ws h1 h2 => match us, ws, h1, h2 with | [u], [a0, a1, a2, a3], _, _ => ⟨_, pw_1 S u a0 a1 a2 a3, fun D => rfl⟩, by decide +kernel, by decide⟩, ⟨_, _, _, _, PySem.W.mg_of X G a_PARTS, lk_PARTS, rfl, rfl, rfl, v_PARTS'.1, v_PARTS'.2⟩⟩
  have G_is_whole := fun_mk (st := s_is_whole) l_is_whole e_is_whole k_is_whole
  have b_is_whole := G_is_whole.binds (ps := ["thing"]) fun _ _ _ _ _ _ us hl => match us, hl with | [_], _ => rfl
  have G_has_line := fun_mk (st := s_has_line) l_has_line e_has_line k_has_line
  have b_has_line := G_has_line.binds (ps := ["program", "thing"]) fun _ _ _ _ _ _ us hl => match us, hl with | [_, _], _ => rfl
  have G_part_of := fun_mk (st := s_part_of) l_part_of e_part_of k_part_of
  have b_part_of := G_part_of.binds (ps := ["state", "name"]) fun _ _ _ _ _ _ us hl => match us, hl with | [_, _], _ => rfl
  have G_state_with := fun_mk (st := s_state_with) l_state_with e_state_with k_state_with
  have G_fault_at := fun_mk (st := s_fault_at) l_fault_at e_fault_at k_fault_at
  have b_fault_at := G_fault_at.binds (ps := ["program", "state", "word", "number"]) fun _ _ _ _ _ _ us hl => match us, hl with | [_, _, _, _], _ => rfl
  have G_law_pen := fun_mk (st := s_law_pen) l_law_pen e_law_pen k_law_pen
  have b_law_pen := G_law_pen.binds (ps := ["_law_script"]) fun _ _ _ _ _ _ us hl => match us, hl with | [_], _ => rfl
  have G_law_draw := fun_mk (st := s_law_draw) l_law_draw e_law_draw k_law_draw
  have b_law_draw := G_law_draw.binds (ps := ["_law_pen_here", "_law_many"]) fun _ _ _ _ _ _ us hl => match us, hl with | [_, _], _ => rfl
  have G_law_first := fun_mk (st := s_law_first) l_law_first e_law_first k_law_first
  have b_law_first := G_law_first.binds (ps := ["_law_program", "_law_number"]) fun _ _ _ _ _ _ us hl => match us, hl with | [_, _], _ => rfl
  have G_law_state := fun_mk (st := s_law_state) l_law_state e_law_state k_law_state
  have b_law_state := G_law_state.binds (ps := ["_law_run_here"]) fun _ _ _ _ _ _ us hl => match us, hl with | [_], _ => rfl
  have G_law_pile := fun_mk (st := s_law_pile) l_law_pile e_law_pile k_law_pile
  have b_law_pile := G_law_pile.binds (ps := ["_law_pen_here", "_law_numbers_here"]) fun _ _ _ _ _ _ us hl => match us, hl with | [_, _], _ => rfl
  have G_law_worth_now := fun_mk (st := s_law_worth_now) l_law_worth_now e_law_worth_now k_law_worth_now
  have b_law_worth_now := G_law_worth_now.binds (ps := ["_law_pen_here"]) fun _ _ _ _ _ _ us hl => match us, hl with | [_], _ => rfl
  have G_law_run := fun_mk (st := s_law_run) l_law_run e_law_run k_law_run
  have b_law_run := G_law_run.binds (ps := ["_law_pen_here", "_law_numbers_here", "_law_at"]) fun _ _ _ _ _ _ us hl => match us, hl with | [_, _, _], _ => rfl
  have G_law_numbers := fun_mk (st := s_law_numbers) l_law_numbers e_law_numbers k_law_numbers
  have b_law_numbers := G_law_numbers.binds (ps := ["_law_pen_here", "_law_many"]) fun _ _ _ _ _ _ us hl => match us, hl with | [_, _], _ => rfl
  have G_law := fun_mk (st := s_law) l_law e_law k_law
  have b_law := G_law.binds (ps := ["_law_script"]) fun _ _ _ _ _ _ us hl => match us, hl with | [_], _ => rfl
  refine ⟨PySem.W.fnOf "law" "law" (defArgs s_law) (defBody s_law) (defScope s_law) .none kV_law dc_law pm_law an_law cd_law ct_law, fun s v => .of_eq rfl, fun base _ _ => ?_⟩
  have c_is_whole : Cal l.prog w K mg base (1) "is_whole" ["thing"] (spD K 1 F_is_whole) f_is_whole' (PySem.W.fnOf "is_whole" "is_whole" (defArgs s_is_whole) (defBody s_is_whole) (defScope s_is_whole) .none kV_is_whole dc_is_whole pm_is_whole an_is_whole cd_is_whole ct_is_whole) := Cal.small ⟨ok_is_whole G_is_whole T, PySem.W.mg_of X G a_is_whole, k_is_whole, b_is_whole⟩
  have c_has_line : Cal l.prog w K mg base (2) "has_line" ["program", "thing"] (spD K 2 F_has_line) f_has_line' (PySem.W.fnOf "has_line" "has_line" (defArgs s_has_line) (defBody s_has_line) (defScope s_has_line) .none kV_has_line dc_has_line pm_has_line an_has_line cd_has_line ct_has_line) := Cal.small ⟨ok_has_line G_has_line T c_is_whole, PySem.W.mg_of X G a_has_line, k_has_line, b_has_line⟩
  have c_part_of : Cal l.prog w K mg base (1) "part_of" ["state", "name"] (spD K 2 F_part_of) f_part_of' (PySem.W.fnOf "part_of" "part_of" (defArgs s_part_of) (defBody s_part_of) (defScope s_part_of) .none kV_part_of dc_part_of pm_part_of an_part_of cd_part_of ct_part_of) := Cal.small ⟨ok_part_of G_part_of T, PySem.W.mg_of X G a_part_of, k_part_of, b_part_of⟩
  have c_state_with : KCalK l.prog w K mg base (1) "state_with" ["state"] "new" (spD K 2 F_state_with) f_state_with' (PySem.W.fnOf "state_with" "state_with" (defArgs s_state_with) (defBody s_state_with) (defScope s_state_with) .none kV_state_with dc_state_with pm_state_with an_state_with cd_state_with ct_state_with) := KCalK.small ⟨ok_state_with G_state_with T, PySem.W.mg_of X G a_state_with, k_state_with⟩
  have c_fault_at : Cal l.prog w K mg base (3) "fault_at" ["program", "state", "word", "number"] (spD K 4 F_fault_at) f_fault_at' (PySem.W.fnOf "fault_at" "fault_at" (defArgs s_fault_at) (defBody s_fault_at) (defScope s_fault_at) .none kV_fault_at dc_fault_at pm_fault_at an_fault_at cd_fault_at ct_fault_at) := Cal.small ⟨ok_fault_at G_fault_at T c_has_line c_part_of c_state_with, PySem.W.mg_of X G a_fault_at, k_fault_at, b_fault_at⟩
  have c_law_pen : Cal l.prog w K mg base (1) "_law_pen" ["_law_script"] (spD K 1 F_law_pen) f_law_pen' (PySem.W.fnOf "_law_pen" "_law_pen" (defArgs s_law_pen) (defBody s_law_pen) (defScope s_law_pen) .none kV_law_pen dc_law_pen pm_law_pen an_law_pen cd_law_pen ct_law_pen) := Cal.small ⟨ok_law_pen G_law_pen T, PySem.W.mg_of X G a_law_pen, k_law_pen, b_law_pen⟩
  have c_law_draw : Cal l.prog w K mg base (1) "_law_draw" ["_law_pen_here", "_law_many"] (spD K 2 F_law_draw) f_law_draw' (PySem.W.fnOf "_law_draw" "_law_draw" (defArgs s_law_draw) (defBody s_law_draw) (defScope s_law_draw) .none kV_law_draw dc_law_draw pm_law_draw an_law_draw cd_law_draw ct_law_draw) := Cal.small ⟨ok_law_draw G_law_draw T, PySem.W.mg_of X G a_law_draw, k_law_draw, b_law_draw⟩
  have c_law_first : Cal l.prog w K mg base (1) "_law_first" ["_law_program", "_law_number"] (spD K 2 F_law_first) f_law_first' (PySem.W.fnOf "_law_first" "_law_first" (defArgs s_law_first) (defBody s_law_first) (defScope s_law_first) .none kV_law_first dc_law_first pm_law_first an_law_first cd_law_first ct_law_first) := Cal.small ⟨ok_law_first G_law_first T, PySem.W.mg_of X G a_law_first, k_law_first, b_law_first⟩
  have c_law_state : Cal l.prog w K mg base (1) "_law_state" ["_law_run_here"] (spD K 1 F_law_state) f_law_state' (PySem.W.fnOf "_law_state" "_law_state" (defArgs s_law_state) (defBody s_law_state) (defScope s_law_state) .none kV_law_state dc_law_state pm_law_state an_law_state cd_law_state ct_law_state) := Cal.small ⟨ok_law_state G_law_state T, PySem.W.mg_of X G a_law_state, k_law_state, b_law_state⟩
  have c_law_pile : Cal l.prog w K mg base (2) "_law_pile" ["_law_pen_here", "_law_numbers_here"] (spD K 2 F_law_pile) f_law_pile' (PySem.W.fnOf "_law_pile" "_law_pile" (defArgs s_law_pile) (defBody s_law_pile) (defScope s_law_pile) .none kV_law_pile dc_law_pile pm_law_pile an_law_pile cd_law_pile ct_law_pile) := Cal.small ⟨ok_law_pile G_law_pile T c_law_draw, PySem.W.mg_of X G a_law_pile, k_law_pile, b_law_pile⟩
  have c_law_worth_now : Cal l.prog w K mg base (2) "_law_worth_now" ["_law_pen_here"] (spD K 1 F_law_worth_now) f_law_worth_now' (PySem.W.fnOf "_law_worth_now" "_law_worth_now" (defArgs s_law_worth_now) (defBody s_law_worth_now) (defScope s_law_worth_now) .none kV_law_worth_now dc_law_worth_now pm_law_worth_now an_law_worth_now cd_law_worth_now ct_law_worth_now) := Cal.small ⟨ok_law_worth_now G_law_worth_now T c_law_draw, PySem.W.mg_of X G a_law_worth_now, k_law_worth_now, b_law_worth_now⟩
  have c_law_run : Cal l.prog w K mg base (3) "_law_run" ["_law_pen_here", "_law_numbers_here", "_law_at"] (spD K 3 F_law_run) f_law_run' (PySem.W.fnOf "_law_run" "_law_run" (defArgs s_law_run) (defBody s_law_run) (defScope s_law_run) .none kV_law_run dc_law_run pm_law_run an_law_run cd_law_run ct_law_run) := Cal.small ⟨ok_law_run G_law_run T c_law_draw c_law_first c_law_pile c_law_worth_now, PySem.W.mg_of X G a_law_run, k_law_run, b_law_run⟩
  have c_law_numbers : Cal l.prog w K mg base (2) "_law_numbers" ["_law_pen_here", "_law_many"] (spD K 2 F_law_numbers) f_law_numbers' (PySem.W.fnOf "_law_numbers" "_law_numbers" (defArgs s_law_numbers) (defBody s_law_numbers) (defScope s_law_numbers) .none kV_law_numbers dc_law_numbers pm_law_numbers an_law_numbers cd_law_numbers ct_law_numbers) := Cal.small ⟨ok_law_numbers G_law_numbers T c_law_draw, PySem.W.mg_of X G a_law_numbers, k_law_numbers, b_law_numbers⟩
  exact ok_law G_law T c_fault_at c_law_pen c_law_draw c_law_state c_law_run c_law_numbers
theorem walk {l : PySem.W.OpenLaw} {q : Program} {loose : List Str} {XP : (Str → Option Value) → Heap → Prop} {YP : World → Heap → Prop} {d : DefRec} {K : Params → PySem.W.Frag} (hn : l.most = some 63) (hdf : d.params.defaults = [])
    (hY : ∀ (w : World) (h : Heap), YP w h → (K w.params).In h)
    (F : ∀ (w : World) (mg : Str → Option Value) (fa : Addr) (h : Heap), (K w.params).In h → h.Ns mainGlobals mg → mg d.name = some (.ref fa) →
      ∃ fd : FuncData, (∀ (s : Shared) (u : Value), BindsTo s fd ⟨[u], []⟩ [("_law_script", u)]) ∧ ∀ base : Heap, (K w.params).In base → base.Ns mainGlobals mg → FnOk l.prog w (K w.params) mg base CX0 4 fa fd ["_law_script"] (spD (K w.params) 1 (fnF 13 f_law))) :
    PySem.W.WalkO q loose XP YP l.row.toRowW d [] (fun f vs => PySem.call f vs) :=
  L2.walk_of (n := 63) (k := 4) (x := "_law_script") (CX := fun _ => CX0) (sp := fun w => spD (K w.params) 1 (fnF 13 f_law)) hn (by decide) hdf ⟨rfl, by decide, by decide, rfl⟩ hY F (fun _ _ a ns hl _ hS => spD_law hS (law_ok hl)) fun _ _ _ _ _ z => z
end My
open PySem PySem.W PyProof.Rows
set_option maxRecDepth 100000 in
set_option maxHeartbeats 0 in
theorem PySem.Challenge.cw_numberedlines_k29_states_behind_faults_holds : PySem.Challenge.rw_numberedlines_k29_states_behind_faults.Holds := by
  w_on; o_law; k_head; (case hw => w_witness2)
  k_fill
  refine My.walk (l := PySem.Challenge.rw_numberedlines_k29_states_behind_faults) rfl rfl (fun w h Y => PySem.W.kIn_of Y) ?F
  case F =>
    intro w mg fa h KX G hmg
    refine' My.all_mk KX G hmg ?a_is_whole ?l_is_whole ?e_is_whole ?k_is_whole ?a_has_line ?l_has_line ?e_has_line ?k_has_line ?a_part_of ?l_part_of ?e_part_of ?k_part_of ?a_state_with ?l_state_with ?e_state_with ?k_state_with ?a_fault_at ?l_fault_at ?e_fault_at ?k_fault_at ?a_law_pen ?l_law_pen ?e_law_pen ?k_law_pen ?a_law_draw ?l_law_draw ?e_law_draw ?k_law_draw ?a_law_first ?l_law_first ?e_law_first ?k_law_first ?a_law_state ?l_law_state ?e_law_state ?k_law_state ?a_law_pile ?l_law_pile ?e_law_pile ?k_law_pile ?a_law_worth_now ?l_law_worth_now ?e_law_worth_now ?k_law_worth_now ?a_law_run ?l_law_run ?e_law_run ?k_law_run ?a_law_numbers ?l_law_numbers ?e_law_numbers ?k_law_numbers ?a_law ?l_law ?e_law ?k_law ?z_abs ?z_bool ?z_dict ?z_int ?z_isinstance ?z_len ?z_list ?z_range ?z_repr ?z_sorted ?z_tuple ?z_zip ?a_PARTS ?lk_PARTS ?v_PARTS' ?pw_0 ?pw_1
    (case a_is_whole => k_is)
    (case l_is_whole => k_is)
    (case e_is_whole => k_is)
    (case k_is_whole => k_is)
    (case a_has_line => k_is)
    (case l_has_line => k_is)
    (case e_has_line => k_is)
    (case k_has_line => k_is)
    (case a_part_of => k_is)
    (case l_part_of => k_is)
    (case e_part_of => k_is)
    (case k_part_of => k_is)
    (case a_state_with => k_is)
    (case l_state_with => k_is)
    (case e_state_with => k_is)
    (case k_state_with => k_is)
    (case a_fault_at => k_is)
    (case l_fault_at => k_is)
    (case e_fault_at => k_is)
    (case k_fault_at => k_is)
    (case a_law_pen => k_is)
    (case l_law_pen => k_is)
    (case e_law_pen => k_is)
    (case k_law_pen => k_is)
    (case a_law_draw => k_is)
    (case l_law_draw => k_is)
    (case e_law_draw => k_is)
    (case k_law_draw => k_is)
    (case a_law_first => k_is)
    (case l_law_first => k_is)
    (case e_law_first => k_is)
    (case k_law_first => k_is)
    (case a_law_state => k_is)
    (case l_law_state => k_is)
    (case e_law_state => k_is)
    (case k_law_state => k_is)
    (case a_law_pile => k_is)
    (case l_law_pile => k_is)
    (case e_law_pile => k_is)
    (case k_law_pile => k_is)
    (case a_law_worth_now => k_is)
    (case l_law_worth_now => k_is)
    (case e_law_worth_now => k_is)
    (case k_law_worth_now => k_is)
    (case a_law_run => k_is)
    (case l_law_run => k_is)
    (case e_law_run => k_is)
    (case k_law_run => k_is)
    (case a_law_numbers => k_is)
    (case l_law_numbers => k_is)
    (case e_law_numbers => k_is)
    (case k_law_numbers => k_is)
    (case a_law => k_is)
    (case l_law => k_is)
    (case e_law => k_is)
    (case k_law => k_is)
    (case z_abs => k_is)
    (case z_bool => k_is)
    (case z_dict => k_is)
    (case z_int => k_is)
    (case z_isinstance => k_is)
    (case z_len => k_is)
    (case z_list => k_is)
    (case z_range => k_is)
    (case z_repr => k_is)
    (case z_sorted => k_is)
    (case z_tuple => k_is)
    (case z_zip => k_is)
    (case a_PARTS => k_is)
    (case lk_PARTS => k_is)
    (case v_PARTS' => exact ⟨by decide, (.cons ⟨_, rfl⟩ (.cons ⟨_, rfl⟩ (.cons ⟨_, rfl⟩ (.cons ⟨_, rfl⟩ (.cons ⟨_, rfl⟩ (.cons ⟨_, rfl⟩ (.cons ⟨_, rfl⟩ (.cons ⟨_, rfl⟩ (.cons ⟨_, rfl⟩ (.cons ⟨_, rfl⟩ (.cons ⟨_, rfl⟩ (.cons ⟨_, rfl⟩ .nil))))))))))))⟩)
    (case pw_0 => intro S u a0 a1 a2; rfl)
    (case pw_1 => intro S u a0 a1 a2 a3; rfl)
