import PyProof.Rows.All
import Wide.All
import OpenK.AllK
import Wide.FinOn
import PyProof.EqAt
import PyProof.EqKinds
import PyProof.TupleCall
import KE.BitLaws
import PyProof.Rows.SortShellAny
import KE.KSortTupG
import KE.KSortTupUse
import KE.KItemsList
import KE.KTab
import PyProof.Rows.SetFrom
import PyProof.ListStr
import PyProof.TupleOfGen
import PyProof.NeKinds
import PyProof.ListMulRoad
import PyProof.FactsAll.tuple_2
import PyProof.PassesOwn
import PyProof.ReprRoads
import PyProof.Draws
import PyProof.EnumMake
import PyProof.FactsAll.tuple_3
import PyProof.FactsAll.tuple_0
import PyProof.Rows.SortStr
import PyProof.ExcArgsOwn
import KE.KDictList
import PySem.Challenge.RW_onename_k14_whole_yes_by_the_needed
set_option Elab.async false
set_option linter.all false
set_option maxRecDepth 100000
namespace L2
open PySem PySem.Spec PyProof.Rows

/-- a key: an int or a str -/
abbrev Key := Sum Int Str
def keyIs : Key → Value → Bool
  | .inl k, v => Value.isInt k v
  | .inr x, v => Value.isStrOf x v
def keyH (w : World) : Key → Int
  | .inl k => hashInt k
  | .inr x => hashStr w x
theorem keyIs_shape : ∀ {k : Key} {v : Value}, keyIs k v = true → (∃ i t, k = Sum.inl i ∧ v = Value.int i t) ∨ (∃ x t, k = Sum.inr x ∧ v = Value.str x t)
  | .inl i, v, h => by
    obtain ⟨t, e⟩ := Value.isInt_shape (k := i) (v := v) h
    exact .inl ⟨i, t, rfl, e⟩
  | .inr x, v, h => by
    obtain ⟨t, e⟩ := Value.isStrOf_shape (x := x) (v := v) h
    exact .inr ⟨x, t, rfl, e⟩
theorem keyIs_int (i : Int) (t : Tok) : keyIs (.inl i) (.int i t) = true := by simp [keyIs, Value.isInt]
theorem keyIs_str (x : Str) (t : Tok) : keyIs (.inr x) (.str x t) = true := by simp [keyIs, Value.isStrOf]
theorem key_ll (a b : Int) : decide ((Sum.inl a : Key) = Sum.inl b) = (a == b) := by
  by_cases e : a = b
  · subst e; simp
  · have h : ¬ (Sum.inl a : Key) = Sum.inl b := fun q => e (Sum.inl.inj q)
    rw [decide_eq_false h]
    exact (beq_eq_false_iff_ne.mpr e).symm
theorem key_rr (a b : Str) : decide ((Sum.inr a : Key) = Sum.inr b) = decide (a = b) := by
  by_cases e : a = b
  · subst e; simp
  · have h : ¬ (Sum.inr a : Key) = Sum.inr b := fun q => e (Sum.inr.inj q)
    rw [decide_eq_false h, decide_eq_false e]
theorem key_lr (a : Int) (b : Str) : decide ((Sum.inl a : Key) = Sum.inr b) = false := decide_eq_false (fun q => nomatch q)
theorem key_rl (a : Str) (b : Int) : decide ((Sum.inr a : Key) = Sum.inl b) = false := decide_eq_false (fun q => nomatch q)

def mixKind (prog : Program) (w : World) : PySem.KeyKind prog w Key where
  is := keyIs
  hash := keyH w
  inj := fun v a b ha hb => by
    rcases keyIs_shape ha with ⟨i, t, rfl, rfl⟩ | ⟨x, t, rfl, rfl⟩
    · rcases keyIs_shape hb with ⟨j, u, rfl, e⟩ | ⟨y, u, rfl, e⟩
      · injection e with e1 _; rw [e1]
      · exact nomatch e
    · rcases keyIs_shape hb with ⟨j, u, rfl, e⟩ | ⟨y, u, rfl, e⟩
      · exact nomatch e
      · injection e with e1 _; rw [e1]
  byValue := fun k v h => by
    rcases keyIs_shape h with ⟨i, t, rfl, rfl⟩ | ⟨x, t, rfl, rfl⟩ <;> rfl
  pyHash := fun hv h => by
    rcases keyIs_shape hv with ⟨i, t, rfl, rfl⟩ | ⟨x, t, rfl, rfl⟩
    · exact wpAny_pyHash_int h
    · exact wpAny_pyHash_str h
  eqBool := fun hu hv h => by
    rcases keyIs_shape hu with ⟨i, t, rfl, rfl⟩ | ⟨x, t, rfl, rfl⟩
    · rcases keyIs_shape hv with ⟨j, u, rfl, rfl⟩ | ⟨y, u, rfl, rfl⟩
      · rw [key_ll] at h; exact wpAny_eqBool_int h
      · rw [key_lr] at h; exact SeqAt.EqAt.int_str i t y u _ _ _ _ h
    · rcases keyIs_shape hv with ⟨j, u, rfl, rfl⟩ | ⟨y, u, rfl, rfl⟩
      · rw [key_rl] at h; exact SeqAt.EqAt.str_int x t j u _ _ _ _ h
      · rw [key_rr] at h; exact wpAny_eqBool_str h
  «strs» := fun k x t v h => by
    rcases keyIs_shape h with ⟨i, u, rfl, e⟩ | ⟨y, u, rfl, e⟩
    · exact nomatch e
    · injection e with e1 _
      subst e1
      cases v <;> rfl

theorem mixKind_int (prog : Program) (w : World) (i : Int) (t : Tok) : (mixKind prog w).is (.inl i) (.int i t) = true := keyIs_int i t
theorem mixKind_str (prog : Program) (w : World) (x : Str) (t : Tok) : (mixKind prog w).is (.inr x) (.str x t) = true := keyIs_str x t
end L2

namespace L2
open PySem PySem.Spec PyProof.Rows

/-- a value, without the heap -/
inductive V where
  | non | bl (b : Bool) | int (i : Int) | str (x : Str) | byt (b : Array UInt8) | flt (b : UInt64) | ref (a : Addr) | ty (n : String)
  deriving DecidableEq

def RelV : V → Value → Prop
  | .non, u => u = Value.none
  | .bl b, u => u = Value.bool b
  | .int i, u => ∃ t, u = Value.int i t
  | .str x, u => ∃ t, u = Value.str x t
  | .byt b, u => ∃ t, u = Value.bytes b t
  | .flt b, u => ∃ t, u = Value.float b t
  | .ref a, u => u = Value.ref a
  | .ty n, u => u = Value.type n

abbrev Vals : List V → List Value → Prop := Paired RelV
theorem Vals.length {xs : List V} {us : List Value} (r : Vals xs us) : xs.length = us.length := Paired.length r
theorem Vals.get : ∀ {xs : List V} {us : List Value} {i : Nat} {x : V}, Vals xs us → xs[i]? = some x → ∃ u, us[i]? = some u ∧ RelV x u
  | _, _, _, _, .nil, e => by simp at e
  | _, _, 0, _, .cons r _, e => by simp at e; subst e; exact ⟨_, rfl, r⟩
  | _, _, i + 1, x, .cons _ t, e => by
    obtain ⟨u, h1, h2⟩ := Vals.get (i := i) (x := x) t (by simpa using e)
    exact ⟨u, by simpa using h1, h2⟩
theorem Vals.set {x : V} {u : Value} (r : RelV x u) : ∀ {xs : List V} {us : List Value} (i : Nat), Vals xs us → Vals (xs.set i x) (us.set i u)
  | _, _, _, .nil => .nil
  | _, _, 0, .cons _ t => .cons r t
  | _, _, i + 1, .cons q t => .cons q (Vals.set r i t)
theorem Vals.append : ∀ {xs ys : List V} {us ws : List Value}, Vals xs us → Vals ys ws → Vals (xs ++ ys) (us ++ ws)
  | _, _, _, _, .nil, s => s
  | _, _, _, _, .cons r t, s => .cons r (Vals.append t s)
theorem Vals.take : ∀ {xs : List V} {us : List Value} (n : Nat), Vals xs us → Vals (xs.take n) (us.take n)
  | _, _, 0, _ => .nil
  | _, _, _ + 1, .nil => .nil
  | _, _, n + 1, .cons r t => .cons r (Vals.take n t)
theorem Vals.drop : ∀ {xs : List V} {us : List Value} (n : Nat), Vals xs us → Vals (xs.drop n) (us.drop n)
  | _, _, 0, r => r
  | _, _, _ + 1, .nil => .nil
  | _, _, n + 1, .cons _ t => Vals.drop n t
def RelO : Option V → Option Value → Prop
  | some v, some u => RelV v u
  | none, none => True
  | _, _ => False
def KV {κ : Type} : List (κ × V) → List (κ × Value) → Prop := Paired fun (p : κ × V) (q : κ × Value) => p.1 = q.1 ∧ RelV p.2 q.2

/-- a key of a dict (00_mix): an int or a text -/
def kV : Key → V
  | .inl i => .int i
  | .inr x => .str x

/-- what stands at a tracked address -/
inductive HO where
  /-- a list -/
  | lst (xs : List V)
  /-- a tuple (never changes) -/
  | tup (xs : List V)
  /-- a dict whose keys are ints and texts; one whose keys are tuples of ints and texts (the empty one is both) -/
  | dK (kvs : List (Key × V)) | dT (kvs : List (List Key × V))
  /-- a set of ints: its members, its size -/
  | set (S : Int → Bool) (n : Nat)
  /-- an instance of the class at C, its dict at dx, its attributes -/
  | ins (C dx : Addr) (fs : List (Str × V))
  /-- the dict of the instance at x -/
  | own (x : Addr)
  /-- the dict of an exception -/
  | xd (fs : List (Str × V))
  /-- a bound method, f of x -/
  | met (f x : Addr)
  /-- a range object lo, lo + 1, .. below hi -/
  | rng (lo hi : Int)
  /-- a thing that is known to the object (the script; a dict while a loop walks it): read, never written while it is so -/
  | frz (o : Obj) (u : HO)
  /-- a code object's table -/
  | tbl (ps : Array Value)
  /-- any other thing, by what is true of its one object (a def of one's own: SetO a S n := HO.ext fun h => ..) -/
  | ext (φ : Heap → Prop)

abbrev Hp := Addr → Option HO
def upd (H : Hp) (a : Addr) (o : HO) : Hp := fun b => if b = a then some o else H b
theorem upd_same {H : Hp} {a : Addr} {o : HO} : upd H a o a = some o := by unfold upd; rw [if_pos rfl]
theorem upd_ne {H : Hp} {a b : Addr} {o : HO} (h : b ≠ a) : upd H a o b = H b := by unfold upd; rw [if_neg h]
/-- two objects of different content stand apart -/
theorem ne_of {H : Hp} {a b : Addr} {o u : HO} (h : H a = some o) (h' : H b = some u) (d : o ≠ u) : a ≠ b := by
  intro e; subst e; rw [h] at h'; exact d (Option.some.inj h')
theorem ne_of_none {H : Hp} {a b : Addr} {o : HO} (h : H a = some o) (h' : H b = none) : a ≠ b := by
  intro e; subst e; rw [h] at h'; cases h'

/-- a tuple with no dict of its own -/
def IsTupN (h : Heap) (a : Addr) (items : Array Value) : Prop := ∃ o, h.get? a = some o ∧ o.cls = .type "tuple" ∧ ∃ n, o.data = .seq items n ∧ o.dict = none
theorem IsTupN.tup {h : Heap} {a : Addr} {items : Array Value} (x : IsTupN h a items) : IsTup h a items := let ⟨o, h1, h2, n, h3, _⟩ := x; ⟨o, h1, h2, n, h3⟩
theorem IsTupN.new (h : Heap) (items : Array Value) : IsTupN (h.push { cls := .type "tuple", data := .seq items }) h.objs.size items := ⟨_, Heap.get?_push_size _ rfl, rfl, _, rfl, rfl⟩
section
variable (P : Program) (w : World)
def ObjOk (H : Hp) (h : Heap) (a : Addr) : HO → Prop
  | .lst xs => xs.length ≤ sizeLine ∧ ∃ (its : List Value) (n : Nat), Vals xs its ∧ h.get? a = some { cls := .type "list", data := .seq its.toArray n }
  | .tup xs => xs.length ≤ sizeLine ∧ ∃ its : List Value, Vals xs its ∧ IsTupN h a its.toArray
  | .dK kvs => kvs.length ≤ sizeLine ∧ (a == sysModules) = false ∧ ∃ vs, KV kvs vs ∧ h.DictOf (mixKind P w) a vs
  | .dT kvs => kvs.length ≤ sizeLine ∧ (a == sysModules) = false ∧ ∃ xs : List (List Key × Addr × Value),
      Paired (fun (p : List Key × V) (q : List Key × Addr × Value) => p.1 = q.1 ∧ H q.2.1 = some (.tup (p.1.map kV)) ∧ RelV p.2 q.2.2) kvs xs ∧
      ∃ o es ep, h.get? a = some o ∧ o.ExactDict ∧ o.data = .dict es ep ∧ es.toList = xs.map (entryOfKey (tupleKind (mixKind P w))) ∧ (xs.map (·.1)).Nodup
  | .set S n => h.SetOf (intKind P w) a S n
  | .ins C dx fs => H dx = some (.own a) ∧ fs.length ≤ 1000 ∧ dx ≠ a ∧ h.get? a = some (PySem.W.instObj C dx) ∧
      ∃ mA, h.Ns1 dx mA ∧ (∀ f, RelO (fs.lookup f) (mA f)) ∧ PySem.Within mA (fs.map (·.1))
  | .own _ => ∃ o, h.get? a = some o
  | .xd fs => ∃ mA, h.Ns1 a mA ∧ ∀ f, RelO (fs.lookup f) (mA f)
  | .rng lo hi => ∃ t u v, h.get? a = some { cls := .type "range", data := .fields #[.int lo t, .int hi u, .int 1 v] }
  | .frz o u => h.get? a = some o ∧ ObjOk H h a u
  | .tbl ps => h.get? a = some { cls := .none, data := .fields ps }
  | .met f x => h.get? a = some (PySem.W.methodObj (.ref f) (.ref x))
  | .ext φ => φ h ∧ (∃ o, h.get? a = some o) ∧ ∀ h1 h2 : Heap, φ h1 → (∀ o, h1.get? a = some o → h2.get? a = some o) → φ h2
/-- the abstract heap is held -/
def HOk (H : Hp) (h : Heap) : Prop := ∀ a o, H a = some o → ObjOk P w H h a o
end

section
variable {P : Program} {w : World} {H H' : Hp} {h h' : Heap} {a : Addr} {o : HO}
theorem ObjOk.lt (x : ObjOk P w H h a o) : a < h.objs.size := by
  cases o with
  | lst xs => obtain ⟨_, _, _, _, e⟩ := x; exact Heap.lt_size e
  | tup xs => obtain ⟨_, _, _, p⟩ := x; exact p.tup.lt
  | dK kvs => obtain ⟨_, _, _, _, o, _, _, e, _⟩ := x; exact Heap.lt_size e
  | dT kvs => obtain ⟨_, _, _, _, o, _, _, e, _⟩ := x; exact Heap.lt_size e
  | set S n => obtain ⟨o, _, _, _, e, _⟩ := x; exact Heap.lt_size e
  | ins C dx fs => obtain ⟨_, _, _, e, _⟩ := x; exact Heap.lt_size e
  | own y => obtain ⟨_, e⟩ := x; exact Heap.lt_size e
  | xd fs => obtain ⟨_, ⟨_, _, _, e, _⟩, _⟩ := x; exact Heap.lt_size e
  | rng lo hi => obtain ⟨_, _, _, e⟩ := x; exact Heap.lt_size e
  | frz ob u => obtain ⟨e, _⟩ := x; exact Heap.lt_size e
  | tbl ps => exact Heap.lt_size (show h.get? a = some _ from x)
  | met f y => exact Heap.lt_size (show h.get? a = some _ from x)
  | ext φ => obtain ⟨_, ⟨_, e⟩, _⟩ := x; exact Heap.lt_size e
theorem Paired.mapP {α β : Type} {F G : α → β → Prop} : ∀ {l₁ : List α} {l₂ : List β}, Paired F l₁ l₂ → (∀ a b, F a b → G a b) → Paired G l₁ l₂
  | _, _, .nil, _ => .nil
  | _, _, .cons r t, f => .cons (f _ _ r) (Paired.mapP t f)
/-- what an object's description leans on: its own object, its own dict, the tuples -/
theorem ObjOk.stay (x : ObjOk P w H h a o) (k : ∀ b u, (b = a ∨ H b = some (.own a)) → h.get? b = some u → h'.get? b = some u)
    (ho : ∀ b, H b = some (.own a) → H' b = some (.own a)) (ht : ∀ b xs, H b = some (.tup xs) → H' b = some (.tup xs)) : ObjOk P w H' h' a o := by
  induction o with
  | lst xs => obtain ⟨z, its, n, r, e⟩ := x; exact ⟨z, its, n, r, k _ _ (.inl rfl) e⟩
  | tup xs => obtain ⟨z, its, r, ob, e, c⟩ := x; exact ⟨z, its, r, ob, k _ _ (.inl rfl) e, c⟩
  | dK kvs => obtain ⟨z, y, vs, r, ob, es, ep, e, c⟩ := x; exact ⟨z, y, vs, r, ob, es, ep, k _ _ (.inl rfl) e, c⟩
  | dT kvs =>
    obtain ⟨z, y, xs, r, ob, es, ep, e, c⟩ := x
    exact ⟨z, y, xs, Paired.mapP r fun p q z => ⟨z.1, ht _ _ z.2.1, z.2.2⟩, ob, es, ep, k _ _ (.inl rfl) e, c⟩
  | set S n => obtain ⟨ob, es, ep, t, e, c⟩ := x; exact ⟨ob, es, ep, t, k _ _ (.inl rfl) e, c⟩
  | ins C dx fs =>
    obtain ⟨d, z, ne, e, mA, ⟨od, es, ep, e2, c⟩, r⟩ := x
    exact ⟨ho _ d, z, ne, k _ _ (.inl rfl) e, mA, ⟨od, es, ep, k _ _ (.inr d) e2, c⟩, r⟩
  | own y => obtain ⟨ob, e⟩ := x; exact ⟨ob, k _ _ (.inl rfl) e⟩
  | xd fs => obtain ⟨mA, ⟨od, es, ep, e, c⟩, r⟩ := x; exact ⟨mA, ⟨od, es, ep, k _ _ (.inl rfl) e, c⟩, r⟩
  | rng lo hi => obtain ⟨t, u, v, e⟩ := x; exact ⟨t, u, v, k _ _ (.inl rfl) e⟩
  | frz ob u ih => obtain ⟨e, q⟩ := x; exact ⟨k _ _ (.inl rfl) e, ih q⟩
  | tbl ps =>
    have e : h.get? a = some { cls := .none, data := .fields ps } := x
    show h'.get? a = some { cls := .none, data := .fields ps }
    exact k a _ (.inl rfl) e
  | met f y =>
    have e : h.get? a = some (PySem.W.methodObj (.ref f) (.ref y)) := x
    show h'.get? a = some (PySem.W.methodObj (.ref f) (.ref y))
    exact k a _ (.inl rfl) e
  | ext φ => obtain ⟨p, ⟨o, e⟩, st⟩ := x; exact ⟨st _ _ p fun o q => k _ _ (.inl rfl) q, ⟨o, k _ _ (.inl rfl) e⟩, st⟩
theorem HOk.lt (x : HOk P w H h) (e : H a = some o) : a < h.objs.size := (x a o e).lt
theorem HOk.fresh (x : HOk P w H h) (e : h.objs.size ≤ a) : H a = none := by
  cases q : H a with
  | none => rfl
  | some u => exact absurd (Nat.lt_of_lt_of_le (x.lt q) e) (Nat.lt_irrefl _)
/-- every object of the heap is kept -/
theorem HOk.kept (x : HOk P w H h) (k : ∀ b u, h.get? b = some u → h'.get? b = some u) : HOk P w H h' := fun a o e =>
  (x a o e).stay (fun b u _ q => k b u q) (fun _ q => q) fun _ _ q => q
/-- a new object is laid and tracked -/
theorem HOk.laid (x : HOk P w H h) (k : ∀ b u, h.get? b = some u → h'.get? b = some u) (hp : h.objs.size ≤ a) (new : ObjOk P w (upd H a o) h' a o) : HOk P w (upd H a o) h' := fun b u e => by
  have hn := x.fresh hp
  by_cases hb : b = a
  · subst hb; rw [upd_same] at e; cases e; exact new
  · rw [upd_ne hb] at e
    exact (x b u e).stay (fun c v _ q => k c v q) (fun c q => by rw [upd_ne (ne_of_none q hn)]; exact q) fun c xs q => by rw [upd_ne (ne_of_none q hn)]; exact q
end

/-- what may be read as u: it is u, or a known u -/
def Rd (H : Hp) (a : Addr) (u : HO) : Prop := H a = some u ∨ ∃ o, H a = some (.frz o u)
theorem Rd.of {H : Hp} {a : Addr} {u : HO} (h : H a = some u) : Rd H a u := .inl h
theorem Rd.ok {P : Program} {w : World} {H : Hp} {h : Heap} {a : Addr} {u : HO} (r : Rd H a u) (x : HOk P w H h) : ObjOk P w H h a u := by
  rcases r with r | ⟨o, r⟩
  · exact x a u r
  · obtain ⟨_, q⟩ := x a _ r
    exact q
/-- what may be written -/
def Mut : Option HO → Prop
  | some (.lst _) => True
  | some (.dK _) => True
  | some (.dT _) => True
  | some (.set _ _) => True
  | some (.ins _ _ _) => True
  | some (.ext _) => True
  | _ => False
section
variable {P : Program} {w : World} {H : Hp} {h h' : Heap} {x e : Addr} {o' : HO}
/-- the object at e is changed: x itself, or the dict of the instance x -/
theorem HOk.write (ok : HOk P w H h) (mu : Mut (H x)) (he : e = x ∨ H e = some (.own x)) (k : ∀ b u, b ≠ e → h.get? b = some u → h'.get? b = some u) (heo : ∃ u, h'.get? e = some u)
    (new : ObjOk P w (upd H x o') h' x o') : HOk P w (upd H x o') h' := fun b u q => by
  have nown : ∀ c y, H c = some (.own y) → c ≠ x := fun c y r z => by subst z; rw [r] at mu; exact mu
  have ntup : ∀ c xs, H c = some (.tup xs) → c ≠ x := fun c xs r z => by subst z; rw [r] at mu; exact mu
  by_cases hb : b = x
  · subst hb; rw [upd_same] at q; cases q; exact new
  · rw [upd_ne hb] at q
    by_cases hbe : b = e
    · have q' : H b = some (.own x) := by
        rcases he with z | z
        · exact absurd (hbe.trans z) hb
        · rw [hbe]; exact z
      rw [q] at q'; cases q'
      obtain ⟨v, hv⟩ := heo
      exact ⟨v, by rw [hbe]; exact hv⟩
    · refine (ok b u q).stay (fun c v hc r => k c v ?_ r) (fun c r => by rw [upd_ne (nown c b r)]; exact r) fun c xs r => by rw [upd_ne (ntup c xs r)]; exact r
      rcases hc with rfl | hc
      · exact hbe
      · rintro rfl
        rcases he with z | z
        · exact nown c b hc z
        · rw [hc] at z; cases z; exact hb rfl
end

structure Un (fs ex : List Addr) (H H' : Hp) (h h' : Heap) : Prop where
  keep : ∀ b o, h.get? b = some o → H b = none → b ∉ fs → b ∉ ex → h'.get? b = some o
  slot : ∀ b o, h.get? b = some o → H b = none → b ∈ fs → b ∉ ex → ∃ sl, h'.get? b = some { o with slots := sl }
  free : ∀ b o, h.get? b = some o → H b = none → b ∉ ex → H' b = none
  there : ∀ b o, h.get? b = some o → b ∉ ex → ∃ o', h'.get? b = some o'
  tups : ∀ b xs, H b = some (.tup xs) → H' b = some (.tup xs)
  frzs : ∀ b o u, H b = some (.frz o u) → H' b = some (.frz o u)
  tbls : ∀ b ps, H b = some (.tbl ps) → ∃ more, H' b = some (.tbl (ps ++ more))
section
variable {fs fs' ex ex' : List Addr} {H H1 H2 : Hp} {h h1 h2 h' : Heap} {a x e : Addr} {o : HO}
theorem Un.any (u : Un fs ex H H1 h h1) {b : Addr} {ob : Obj} (q : h.get? b = some ob) (n : H b = none) (hx : b ∉ ex) : ∃ sl, h1.get? b = some { ob with slots := sl } := by
  by_cases hb : b ∈ fs
  · exact u.slot b ob q n hb hx
  · exact ⟨ob.slots, u.keep b ob q n hb hx⟩
theorem Un.trans (a : Un fs ex H H1 h h1) (b : Un fs ex H1 H2 h1 h2) : Un fs ex H H2 h h2 where
  keep := fun c ob q n hc hx => b.keep c ob (a.keep c ob q n hc hx) (a.free c ob q n hx) hc hx
  slot := fun c ob q n hc hx => by
    obtain ⟨sl, e1⟩ := a.slot c ob q n hc hx
    obtain ⟨sl', e2⟩ := b.slot c _ e1 (a.free c ob q n hx) hc hx
    exact ⟨sl', e2⟩
  free := fun c ob q n hx => by
    obtain ⟨o', e1⟩ := a.there c ob q hx
    exact b.free c o' e1 (a.free c ob q n hx) hx
  there := fun c ob q hx => by
    obtain ⟨o', e1⟩ := a.there c ob q hx
    exact b.there c o' e1 hx
  tups := fun c xs q => b.tups c xs (a.tups c xs q)
  frzs := fun c ob xs q => b.frzs c ob xs (a.frzs c ob xs q)
  tbls := fun c ps q => by
    obtain ⟨m1, e1⟩ := a.tbls c ps q
    obtain ⟨m2, e2⟩ := b.tbls c _ e1
    exact ⟨m1 ++ m2, by rw [e2, Array.append_assoc]⟩
theorem Un.kept (k : ∀ b u, h.get? b = some u → h'.get? b = some u) : Un fs ex H H h h' :=
  ⟨fun b ob q _ _ _ => k b ob q, fun b ob q _ _ _ => ⟨ob.slots, k b ob q⟩, fun _ _ _ n _ => n, fun b ob q _ => ⟨ob, k b ob q⟩, fun _ _ q => q, fun _ _ _ q => q, fun _ ps q => ⟨#[], by rw [q]; simp⟩⟩
theorem Un.refl : Un fs ex H H h h := Un.kept fun _ _ q => q
theorem Un.laid (k : ∀ b u, h.get? b = some u → h'.get? b = some u) (hp : h.objs.size ≤ a) (hn : H a = none) : Un fs ex H (upd H a o) h h' where
  keep := fun b u q _ _ _ => k b u q
  slot := fun b u q _ _ _ => ⟨u.slots, k b u q⟩
  free := fun b u q n _ => by rw [upd_ne (Nat.ne_of_lt (Nat.lt_of_lt_of_le (Heap.lt_size q) hp))]; exact n
  there := fun b u q _ => ⟨u, k b u q⟩
  tups := fun b xs q => by rw [upd_ne (ne_of_none q hn)]; exact q
  frzs := fun b u xs q => by rw [upd_ne (ne_of_none q hn)]; exact q
  tbls := fun b ps q => ⟨#[], by rw [upd_ne (ne_of_none q hn), q]; simp⟩
theorem Un.write (mu : Mut (H x)) (he : e = x ∨ H e = some (.own x)) (k : ∀ b u, b ≠ e → h.get? b = some u → h'.get? b = some u) (heo : ∃ u, h'.get? e = some u) : Un fs ex H (upd H x o) h h' := by
  have hx : ∀ b, H b = none → b ≠ x := fun b n z => by subst z; rw [n] at mu; exact mu
  have hb : ∀ b, H b = none → b ≠ e := fun b n z => by
    subst z
    rcases he with r | r
    · exact hx b n r
    · rw [n] at r; cases r
  have hm : ∀ b u, H b = some u → ¬ Mut (some u) → b ≠ x := fun b u q nm z => by subst z; rw [q] at mu; exact nm mu
  refine ⟨fun b u q n _ _ => k b u (hb b n) q, fun b u q n _ _ => ⟨u.slots, k b u (hb b n) q⟩, fun b u q n _ => by rw [upd_ne (hx b n)]; exact n, fun b u q _ => ?_,
    fun b xs q => by rw [upd_ne (hm b _ q fun z => z)]; exact q, fun b u xs q => by rw [upd_ne (hm b _ q fun z => z)]; exact q, fun b ps q => ⟨#[], by rw [upd_ne (hm b _ q fun z => z), q]; simp⟩⟩
  by_cases hbe : b = e
  · subst hbe; exact heo
  · exact ⟨u, k b u hbe q⟩
theorem Un.mono (u : Un fs ex H H1 h h1) (hs : ∀ b ∈ fs, b ∈ fs') (hx : ∀ b ∈ ex, b ∈ ex') : Un fs' ex' H H1 h h1 :=
  ⟨fun b ob q n hb he => u.keep b ob q n (fun z => hb (hs b z)) fun z => he (hx b z), fun _ _ q n _ he => u.any q n fun z => he (hx _ z), fun b ob q n he => u.free b ob q n fun z => he (hx b z), fun b ob q he => u.there b ob q fun z => he (hx b z), u.tups, u.frzs, u.tbls⟩
end

def trk (h : Heap) (H : Hp) : List Addr := (List.range h.objs.size).filter fun a => (H a).isSome
def hidT (h : Heap) (H : Hp) : Heap := PySem.W.hideAll h (trk h H)
theorem hidT_size (h : Heap) (H : Hp) : (hidT h H).objs.size = h.objs.size := PySem.W.hideAll_size _ _
theorem hidT_get {h : Heap} {H : Hp} {b : Addr} {o : Obj} (e : h.get? b = some o) (n : H b = none) : (hidT h H).get? b = some o :=
  PySem.W.hideAll_get _ e fun hm => by
    have q : (H b).isSome = true := (List.mem_filter.mp hm).2
    rw [n] at q; simp at q
theorem of_hidT {h : Heap} {H : Hp} {b : Addr} {o : Obj} (e : (hidT h H).get? b = some o) : h.get? b = some o ∧ H b = none := by
  have e' : h.get? b = some o := PySem.W.of_hideAll (trk h H) e
  refine ⟨e', ?_⟩
  cases q : H b with
  | none => rfl
  | some x =>
    have hm : b ∈ trk h H := List.mem_filter.mpr ⟨List.mem_range.mpr (Heap.lt_size e'), by simp [q]⟩
    have z : (hidT h H).get? b = none := PySem.W.hideAll_none (trk h H) hm
    rw [z] at e; cases e

def allNews (g h : Heap) (L : Addr) : List (Addr × Obj) := (List.range h.objs.size).filterMap fun a => if a = L ∨ (g.get? a).isSome = true then none else (h.get? a).map fun o => (a, o)
def rest (g h : Heap) (L d : Addr) : List (Addr × Obj) := (allNews g h L).filter fun p => decide (p.1 ≠ d)
end L2

namespace L2
open PySem PySem.Spec PyProof.Rows

/-- the module's facts, over the base: the heap at the law's entry without what is tracked there -/
structure Mod (K : PySem.W.Frag) (mg : Str → Option Value) (base : Heap) : Prop where
  kin : K.In base
  glob : base.Ns mainGlobals mg
  blt : ∃ mb, base.Ns builtinsNs mb ∧ ∀ x : Str, x ≠ "__name__" → mb x = bootBuiltins x
  nolimit : base.NoLimit

/-- the context: a def's body (or a comprehension's block) running. base: fixed through the whole law; s₀, H₀: the entry; outer: the frames whose slots others may change (a def's callers); stack: all frames that run;
   ex: iterators that were made ahead of the entry and are walked here (a comprehension's); fn: the names whose cells were made at the entry (a def: all; a comprehension's block: its own); calm: not within an except suite; pn: pins that every state bears; xe: what is wanted of an exception that leaves the code -/
structure Cx where
  prog : Program
  w : World
  K : PySem.W.Frag
  mg : Str → Option Value
  base : Heap
  A : Around
  N : List Str
  s_0 : Shared
  H_0 : Hp
  env : Env
  outer : List Env
  stack : List Env
  ex : List Addr
  fn : Str → Bool
  calm : Bool
  pn : List (Addr × Obj)
  xe : Value → Shared → Prop
/-- the callers' frames -/
def frs (l : List Env) : List Addr := l.filterMap (·.frame)
abbrev Cx.fs (X : Cx) : List Addr := frs X.outer

def Vis (sc : Scope) (x : Str) : Prop := sc.names.lookup x = some .local ∨ sc.names.lookup x = some .cell ∨ sc.names.lookup x = some .free
def Loc (sc : Scope) (x : Str) : Prop := sc.names.lookup x = some .local ∨ sc.names.lookup x = some .cell
def Look (env : Env) (h : Heap) (m : Str → Option Value) (x : Str) (u : Value) : Prop :=
  (env.kindOf x = some .local ∧ m x = some u) ∨ ((env.kindOf x = some .cell ∨ env.kindOf x = some .free) ∧ ∃ c, env.cells.lookup x = some c ∧ h.IsCell c (some u))

structure Cx.Ok (X : Cx) : Prop where
  mod : Mod X.K X.mg X.base
  kind : X.env.scope.kind = .function
  glob : X.env.globals = mainGlobals
  blt : X.env.builtins = builtinsNs
  above : X.s_0.heap.objs.size ≤ X.env.locals
  inj : ∀ x y c, X.env.cells.lookup x = some c → X.env.cells.lookup y = some c → x = y
  has : ∀ x, (X.env.kindOf x = some .cell ∨ X.env.kindOf x = some .free) → ∃ c, X.env.cells.lookup x = some c
  cab : ∀ x c, X.fn x = true → X.env.cells.lookup x = some c → X.s_0.heap.objs.size ≤ c
  hd : X.calm = true → X.A.handled = none
  frames : X.A.frames = some X.stack
  stk : X.stack = X.outer ∨ (X.stack = X.env :: X.outer ∧ X.env.frame = some X.env.locals)
  exf : ∀ b ∈ X.ex, b ≠ X.env.locals ∧ ∀ x c, X.env.cells.lookup x = some c → c ≠ b
  bs : ∀ b o, X.base.get? b = some o → X.s_0.heap.get? b = some o ∧ X.H_0 b = none
  bsz : X.base.objs.size ≤ X.s_0.heap.objs.size
  noex : ∀ b o, X.base.get? b = some o → b ∉ X.ex
  exfs : ∀ b ∈ X.ex, b ∉ X.fs
  funs : X.s_0.heap.FunFrames X.base X.outer
  frf : ∀ b ∈ X.fs, X.H_0 b = none

structure Inv (X : Cx) (pins : List (Addr × Obj)) (σ : List (Option V)) (H : Hp) (s : Shared) : Prop where
  ok : X.Ok
  os : s.os = X.s_0.os
  bare : AllBare s.gens
  base : Un X.fs X.ex X.H_0 H X.s_0.heap s.heap
  loc : ∃ m, s.heap.Ns X.env.locals m ∧ ∀ (i : Nat) (x : Str) (v : V), X.N[i]? = some x → σ[i]? = some (some v) → Vis X.env.scope x → ∃ u, RelV v u ∧ Look X.env s.heap m x u
  cell : ∀ x c, X.env.cells.lookup x = some c → ∃ v, s.heap.IsCell c v
  free : H X.env.locals = none
  freeC : ∀ x c, X.env.cells.lookup x = some c → H c = none
  pin : ∀ p ∈ X.pn ++ pins, s.heap.get? p.1 = some p.2 ∧ H p.1 = none ∧ p.1 ≠ X.env.locals ∧ p.1 ∉ X.fs ∧ ∀ v, p.2.data ≠ .cell v
  hok : HOk X.prog X.w H s.heap
  len : σ.length = X.N.length

section
variable {X : Cx} {pins : List (Addr × Obj)} {σ : List (Option V)} {H H' : Hp} {s : Shared} {h' : Heap}

theorem Cx.Ok.nofr (ok : X.Ok) {b : Addr} {o : Obj} (e : X.base.get? b = some o) : b ∉ X.fs := fun hb => by
  have := (ok.funs.mem hb).1
  rw [e] at this; cases this
theorem Inv.bs (I : Inv X pins σ H s) : ∀ b o, X.base.get? b = some o → s.heap.get? b = some o ∧ H b = none := fun b o e =>
  ⟨I.base.keep b o (I.ok.bs b o e).1 (I.ok.bs b o e).2 (I.ok.nofr e) (I.ok.noex b o e), I.base.free b o (I.ok.bs b o e).1 (I.ok.bs b o e).2 (I.ok.noex b o e)⟩
theorem Inv.bk (I : Inv X pins σ H s) : ∀ b o, X.base.get? b = some o → s.heap.get? b = some o := fun b o e => (I.bs b o e).1
theorem Inv.mod (I : Inv X pins σ H s) : Mod X.K X.mg X.base := I.ok.mod
theorem Inv.kIn (I : Inv X pins σ H s) : X.K.In s.heap := I.ok.mod.kin.keeps I.bk
theorem Inv.nolimit (I : Inv X pins σ H s) : s.heap.NoLimit := I.ok.mod.nolimit.keeps I.bk
/-- the frame over the base: for OpenK's rules (K.In X.base is I.mod.kin) -/
theorem Inv.fr (I : Inv X pins σ H s) : ∃ m, Fr X.base X.env.locals s.heap m :=
  let ⟨m, hn, _⟩ := I.loc
  ⟨m, hn, I.bk, Nat.le_trans I.ok.bsz I.ok.above⟩
theorem Inv.lt (I : Inv X pins σ H s) : X.env.locals < s.heap.objs.size := let ⟨_, hn, _⟩ := I.loc; hn.lt
theorem Inv.sz (I : Inv X pins σ H s) : X.s_0.heap.objs.size ≤ s.heap.objs.size := Nat.le_trans I.ok.above (Nat.le_of_lt I.lt)
theorem Inv.nofs (I : Inv X pins σ H s) {a : Addr} (h : s.heap.objs.size ≤ a) : a ∉ X.fs := fun hb => by
  obtain ⟨_, o, ho, _⟩ := I.ok.funs.mem hb
  exact absurd (Nat.lt_of_lt_of_le (Heap.lt_size ho) (Nat.le_trans I.sz h)) (Nat.lt_irrefl _)
theorem Inv.cne (I : Inv X pins σ H s) : ∀ x c, X.env.cells.lookup x = some c → c ≠ X.env.locals := fun x c e z => by
  obtain ⟨v, o, ho, hd⟩ := I.cell x c e
  obtain ⟨m, ⟨o', es, ep, ho', hd', _⟩, _⟩ := I.loc
  rw [z, ho'] at ho; cases ho; rw [hd'] at hd; cases hd
theorem Inv.funs (I : Inv X pins σ H s) : s.heap.FunFrames X.base X.outer := by
  have all : ∀ (l : List Env), (∀ b ∈ frs l, b ∈ X.fs) → X.s_0.heap.FunFrames X.base l → s.heap.FunFrames X.base l := by
    intro l
    induction l with
    | nil => intro _ _; trivial
    | cons env r ih =>
      intro hs hl
      obtain ⟨hk, ⟨L, o, hf, hn, ho, hd⟩, hr⟩ := hl
      have hL : L ∈ X.fs := hs L (by unfold frs; rw [List.filterMap_cons, hf]; exact List.mem_cons_self)
      obtain ⟨sl, e⟩ := I.base.slot L o ho (I.ok.frf L hL) hL fun z => I.ok.exfs L z hL
      exact ⟨hk, ⟨L, _, hf, hn, e, hd⟩, ih (fun b hb => hs b (by unfold frs; rw [List.filterMap_cons, hf]; exact List.mem_cons_of_mem _ hb)) hr⟩
  exact all X.outer (fun _ hb => hb) I.ok.funs

/-- the frames that run, for a call -/
theorem Inv.stack (I : Inv X pins σ H s) : s.heap.FunFrames X.base X.stack := by
  rcases I.ok.stk with e | ⟨e, hf⟩
  · rw [e]; exact I.funs
  · rw [e]
    obtain ⟨m, hn, _⟩ := I.loc
    refine .cons (by rw [I.ok.kind]; decide) hf hn ?_ I.funs
    exact Heap.get?_none_of_le (Nat.le_trans I.ok.bsz I.ok.above)
theorem Inv.stkSub (I : Inv X pins σ H s) : ∀ b ∈ frs X.stack, b ∈ X.env.locals :: X.fs := fun b hb => by
  rcases I.ok.stk with e | ⟨e, hf⟩
  · rw [e] at hb; exact List.mem_cons_of_mem _ hb
  · rw [e] at hb
    unfold frs at hb
    rw [List.filterMap_cons, hf] at hb
    exact hb
theorem Inv.stkFree (I : Inv X pins σ H s) : ∀ b ∈ frs X.stack, H b = none := fun b hb => by
  rcases List.mem_cons.mp (I.stkSub b hb) with e | hb
  · rw [e]; exact I.free
  · obtain ⟨_, o, ho, _⟩ := I.ok.funs.mem hb
    exact I.base.free b o ho (I.ok.frf b hb) fun z => I.ok.exfs b z hb

/-- THE STEP: the untracked objects but the frame and the records at ch are kept (the callers' frames up to slots), the frame's map is kept, the new abstract heap is held -/
theorem Inv.step {g' : Array GenState} {t' : Nat} {d' : Drawn} {ch : List Addr} (I : Inv X pins σ H s)
    (hch : ∀ b ∈ ch, (b ∈ X.ex ∨ X.s_0.heap.objs.size ≤ b) ∧ b ≠ X.env.locals ∧ (∀ x c, X.env.cells.lookup x = some c → c ≠ b) ∧ ∀ p ∈ X.pn ++ pins, p.1 ≠ b)
    (keep : ∀ b o, b ≠ X.env.locals → b ∉ X.fs → b ∉ ch → s.heap.get? b = some o → H b = none → h'.get? b = some o)
    (slot : ∀ b o, b ≠ X.env.locals → b ∈ X.fs → b ∉ ch → s.heap.get? b = some o → H b = none → ∃ sl, h'.get? b = some { o with slots := sl }) (free : ∀ b o, b ∉ ch → s.heap.get? b = some o → H b = none → H' b = none)
    (there : ∀ b o, b ∉ ch → s.heap.get? b = some o → ∃ o', h'.get? b = some o')
    (tups : ∀ b xs, H b = some (.tup xs) → H' b = some (.tup xs)) (frzs : ∀ b o u, H b = some (.frz o u) → H' b = some (.frz o u)) (tbls : ∀ b ps, H b = some (.tbl ps) → ∃ more, H' b = some (.tbl (ps ++ more)))
    (ns : ∀ m, s.heap.Ns X.env.locals m → h'.Ns X.env.locals m) (hok : HOk X.prog X.w H' h') (hg : AllBare g') :
    Inv X pins σ H' { s with heap := h', gens := g', drawn := d', toks := t' } := by
  have neL : ∀ b o, X.s_0.heap.get? b = some o → b ≠ X.env.locals := fun b o e => Nat.ne_of_lt (Nat.lt_of_lt_of_le (Heap.lt_size e) I.ok.above)
  have neC : ∀ b o, X.s_0.heap.get? b = some o → b ∉ X.ex → b ∉ ch := fun b o e hx hb => by
    rcases (hch b hb).1 with z | z
    · exact hx z
    · exact absurd (Nat.lt_of_lt_of_le (Heap.lt_size e) z) (Nat.lt_irrefl _)
  have cellK : ∀ x c, X.env.cells.lookup x = some c → ∀ v, s.heap.IsCell c v → h'.IsCell c v := fun x c e v ⟨o, ho, hd⟩ => by
    have nch : c ∉ ch := fun z => (hch c z).2.2.1 x c e rfl
    by_cases hc : c ∈ X.fs
    · obtain ⟨sl, q⟩ := slot c o (I.cne x c e) hc nch ho (I.freeC x c e)
      exact ⟨_, q, hd⟩
    · exact ⟨o, keep c o (I.cne x c e) hc nch ho (I.freeC x c e), hd⟩
  refine ⟨I.ok, I.os, hg, ⟨fun b o e n hb hx => ?_, fun b o e n hb hx => ?_, fun b o e n hx => ?_, fun b o e hx => ?_, fun b xs e => tups b xs (I.base.tups b xs e), fun b o xs e => frzs b o xs (I.base.frzs b o xs e), fun b ps e => ?_⟩, ?_, fun x c e => ?_, ?_, fun x c e => ?_, fun p hp => ?_, hok, I.len⟩
  · exact keep b o (neL b o e) hb (neC b o e hx) (I.base.keep b o e n hb hx) (I.base.free b o e n hx)
  · obtain ⟨sl, e1⟩ := I.base.slot b o e n hb hx
    obtain ⟨sl', e2⟩ := slot b _ (neL b o e) hb (neC b o e hx) e1 (I.base.free b o e n hx)
    exact ⟨sl', e2⟩
  · obtain ⟨o', e1⟩ := I.base.there b o e hx
    exact free b o' (neC b o e hx) e1 (I.base.free b o e n hx)
  · obtain ⟨o', e1⟩ := I.base.there b o e hx
    exact there b o' (neC b o e hx) e1
  · obtain ⟨m1, e1⟩ := I.base.tbls b ps e
    obtain ⟨m2, e2⟩ := tbls b _ e1
    exact ⟨m1 ++ m2, by rw [e2, Array.append_assoc]⟩
  · obtain ⟨m, hn, hl⟩ := I.loc
    refine ⟨m, ns m hn, fun i x v e1 e2 e3 => ?_⟩
    obtain ⟨u, r, l⟩ := hl i x v e1 e2 e3
    refine ⟨u, r, ?_⟩
    rcases l with l | ⟨k, c, e, z⟩
    · exact .inl l
    · exact .inr ⟨k, c, e, cellK x c e _ z⟩
  · obtain ⟨v, z⟩ := I.cell x c e
    exact ⟨v, cellK x c e v z⟩
  · obtain ⟨m, ⟨o, _, _, ho, _⟩, _⟩ := I.loc
    exact free _ o (fun z => (hch _ z).2.1 rfl) ho I.free
  · obtain ⟨v, o, ho, hd⟩ := I.cell x c e
    exact free c o (fun z => (hch c z).2.2.1 x c e rfl) ho (I.freeC x c e)
  · obtain ⟨e, n, ne, nf, d⟩ := I.pin p hp
    have nch : p.1 ∉ ch := fun z => (hch p.1 z).2.2.2 p hp rfl
    exact ⟨keep p.1 p.2 ne nf nch e n, free p.1 p.2 nch e n, ne, nf, d⟩
/-- .. where the frame's own object is kept too -/
theorem Inv.un {t' : Nat} (I : Inv X pins σ H s) (u : Un X.fs [] H H' s.heap h') (hok : HOk X.prog X.w H' h') : Inv X pins σ H' { s with heap := h', toks := t' } := by
  obtain ⟨m, ⟨o, es, ep, ho, r⟩, _⟩ := id I.loc
  obtain ⟨sl, hL⟩ := u.any ho I.free (by simp)
  exact I.step (g' := s.gens) (d' := s.drawn) (ch := []) (fun _ z => nomatch z) (fun b o _ hb _ e n => u.keep b o e n hb (by simp)) (fun b o _ hb _ e n => u.slot b o e n hb (by simp)) (fun b o _ e n => u.free b o e n (by simp)) (fun b o _ e => u.there b o e (by simp)) u.tups u.frzs u.tbls (fun m' hm => by
    obtain ⟨o', es', ep', ho', r'⟩ := hm
    rw [ho] at ho'; cases ho'
    exact ⟨_, es', ep', hL, r'⟩) hok I.bare
/-- behind a call (or a comprehension's block): the slots of this frame may have changed too, the records at ch may have turned -/
theorem Inv.call {g' : Array GenState} {t' : Nat} {d' : Drawn} {ch : List Addr} (I : Inv X pins σ H s) (u : Un (frs X.stack) ch H H' s.heap h') (hok : HOk X.prog X.w H' h') (hg : AllBare g')
    (hch : ∀ b ∈ ch, (b ∈ X.ex ∨ X.s_0.heap.objs.size ≤ b) ∧ b ≠ X.env.locals ∧ (∀ x c, X.env.cells.lookup x = some c → c ≠ b) ∧ ∀ p ∈ X.pn ++ pins, p.1 ≠ b) :
    Inv X pins σ H' { s with heap := h', gens := g', drawn := d', toks := t' } := by
  obtain ⟨m, ⟨o, es, ep, ho, r⟩, _⟩ := id I.loc
  obtain ⟨sl, hL⟩ := u.any ho I.free fun z => (hch _ z).2.1 rfl
  exact I.step (ch := ch) hch (fun b o hL hb hc e n => u.keep b o e n (fun z => (List.mem_cons.mp (I.stkSub b z)).elim hL hb) hc) (fun b o _ _ hc e n => u.any e n hc) (fun b o hc e n => u.free b o e n hc) (fun b o hc e => u.there b o e hc) u.tups u.frzs u.tbls (fun m' hm => by
    obtain ⟨o', es', ep', ho', r'⟩ := hm
    rw [ho] at ho'; cases ho'
    exact ⟨_, es', ep', hL, r'⟩) hok hg
/-- an untracked record of ours (an iterator) has turned -/
theorem Inv.turned {t' : Nat} {it : Addr} (I : Inv X pins σ H s) (k : ∀ b o, b ≠ it → s.heap.get? b = some o → h'.get? b = some o) (hn : H it = none) (hL : it ≠ X.env.locals)
    (h1 : it ∈ X.ex ∨ X.s_0.heap.objs.size ≤ it) (h2 : ∀ x c, X.env.cells.lookup x = some c → c ≠ it) (h3 : ∀ p ∈ X.pn ++ pins, p.1 ≠ it) : Inv X pins σ H { s with heap := h', toks := t' } := by
  have nit : ∀ b u, H b = some u → b ≠ it := fun b u e z => by rw [z, hn] at e; cases e
  refine I.step (g' := s.gens) (d' := s.drawn) (ch := [it]) (fun b hb => ?_) (fun b o _ _ hc e _ => k b o (fun z => hc (by simp [z])) e) (fun b o _ _ hc e _ => ⟨o.slots, k b o (fun z => hc (by simp [z])) e⟩) (fun _ _ _ _ n => n)
    (fun b o hc e => ⟨o, k b o (fun z => hc (by simp [z])) e⟩) (fun _ _ e => e) (fun _ _ _ e => e) (fun b ps e => ⟨#[], by rw [e]; simp⟩) (fun m hm => ?_) (fun b u e => ?_) I.bare
  · have e : b = it := by simpa using hb
    subst e
    exact ⟨h1, hL, h2, h3⟩
  · obtain ⟨o, es, ep, ho, r⟩ := hm
    exact ⟨o, es, ep, k _ o (Ne.symm hL) ho, r⟩
  · refine (I.hok b u e).stay (fun c v hc q => k c v ?_ q) (fun _ q => q) fun _ _ q => q
    rcases hc with z | z
    · rw [z]; exact nit b u e
    · exact nit c _ z
theorem Inv.tok (I : Inv X pins σ H s) (t : Nat) : Inv X pins σ H { s with toks := t } := I.un (h' := s.heap) (t' := t) Un.refl I.hok
/-- all objects kept -/
theorem Inv.kept {t' : Nat} (I : Inv X pins σ H s) (k : ∀ b u, s.heap.get? b = some u → h'.get? b = some u) : Inv X pins σ H { s with heap := h', toks := t' } := I.un (Un.kept k) (I.hok.kept k)
/-- a new object laid and tracked -/
theorem Inv.laid {a : Addr} {o : HO} {t' : Nat} (I : Inv X pins σ H s) (k : ∀ b u, s.heap.get? b = some u → h'.get? b = some u) (hp : s.heap.objs.size ≤ a) (new : ObjOk X.prog X.w (upd H a o) h' a o) :
    Inv X pins σ (upd H a o) { s with heap := h', toks := t' } := I.un (Un.laid k hp (I.hok.fresh hp)) (I.hok.laid k hp new)
/-- an object written -/
theorem Inv.write {x e : Addr} {o : HO} {t' : Nat} (I : Inv X pins σ H s) (mu : Mut (H x)) (he : e = x ∨ H e = some (.own x)) (k : ∀ b u, b ≠ e → s.heap.get? b = some u → h'.get? b = some u) (heo : ∃ u, h'.get? e = some u)
    (new : ObjOk X.prog X.w (upd H x o) h' x o) : Inv X pins σ (upd H x o) { s with heap := h', toks := t' } := I.un (Un.write mu he k heo) (I.hok.write mu he k heo new)
/-- forgetting slots, pins -/
theorem Inv.weak {σ' : List (Option V)} (I : Inv X pins σ H s) (hl : σ'.length = σ.length) (w : ∀ (i : Nat) v, σ'[i]? = some (some v) → σ[i]? = some (some v)) : Inv X pins σ' H s :=
  ⟨I.ok, I.os, I.bare, I.base, let ⟨m, hn, hl'⟩ := I.loc; ⟨m, hn, fun i x v e1 e2 e3 => hl' i x v e1 (w i v e2) e3⟩, I.cell, I.free, I.freeC, I.pin, I.hok, hl.trans I.len⟩
theorem Inv.pins_of {pins' : List (Addr × Obj)} (I : Inv X pins σ H s) (h : ∀ p ∈ pins', s.heap.get? p.1 = some p.2 ∧ H p.1 = none ∧ p.1 ≠ X.env.locals ∧ p.1 ∉ X.fs ∧ ∀ v, p.2.data ≠ .cell v) : Inv X pins' σ H s :=
  ⟨I.ok, I.os, I.bare, I.base, I.loc, I.cell, I.free, I.freeC, fun p hp => (List.mem_append.mp hp).elim (fun z => I.pin p (List.mem_append_left _ z)) (h p), I.hok, I.len⟩

theorem nodup_ix {N : List Str} (hN : N.Nodup) {i j : Nat} {x : Str} (a : N[i]? = some x) (b : N[j]? = some x) : i = j := by
  obtain ⟨h1, e1⟩ := List.getElem?_eq_some_iff.mp a
  obtain ⟨h2, e2⟩ := List.getElem?_eq_some_iff.mp b
  exact (List.getElem_inj hN).mp (e1.trans e2.symm)

/-- a name is stored; what changed -/
theorem store_ok2 {M : Model} {A : Around} {E : Value → Shared → Prop} {i : Nat} {x : Str} {v : V} {u : Value} {Q : Unit → Shared → Prop} (I : Inv X pins σ H s) (hN : X.N.Nodup) (hi : X.N[i]? = some x) (hx : Loc X.env.scope x) (r : RelV v u)
    (h : ∀ s', Inv X pins (σ.set i (some v)) H s' → (∃ a, Heap.SameBut a s.heap s'.heap ∧ (a = X.env.locals ∨ X.env.cells.lookup x = some a)) → Q () s') (hf : X.fn x = true ∨ X.env.scope.names.lookup x = some .local := by first | exact .inl rfl | exact .inr rfl | assumption) : wpAny M A (storeName X.env x u) Q E s := by
  obtain ⟨m, hn, hl⟩ := id I.loc
  have hcls : (X.env.scope.kind == .class || (X.env.scope.kind == .module && X.env.locals != X.env.globals)) = false := by rw [I.ok.kind]; rfl
  have hiσ : i < σ.length := by rw [I.len]; exact (List.getElem?_eq_some_iff.mp hi).1
  have cne := I.cne
  have tracked : ∀ {a : Addr} {h' : Heap}, (∃ o, s.heap.get? a = some o ∧ H a = none) → Heap.SameBut a s.heap h' → HOk X.prog X.w H h' := fun {a h'} ha hs b ob e => by
    obtain ⟨_, _, hfree⟩ := ha
    refine (I.hok b ob e).stay (fun c w' hc q => (hs.2 c ?_).trans q) (fun _ q => q) fun _ _ q => q
    rintro rfl
    rcases hc with rfl | hc
    · rw [hfree] at e; cases e
    · rw [hfree] at hc; cases hc
  rcases hx with hk | hk
  · refine wpAny_storeName_local hk hn (fun h' hn' hs => ?_) hcls
    obtain ⟨oL, _, _, hoL, _⟩ := id hn
    refine h _ ⟨I.ok, I.os, I.bare, ⟨fun b o e n hb hx => ?_, fun b o e n hb hx => ?_, I.base.free, fun b o e hx => ?_, I.base.tups, I.base.frzs, I.base.tbls⟩, ⟨_, hn', fun j y v' e1 e2 e3 => ?_⟩, fun y c e => ?_, I.free, I.freeC, fun p hp => ?_, tracked ⟨oL, hoL, I.free⟩ hs, by simpa using I.len⟩ ⟨_, hs, .inl rfl⟩
    · exact (hs.2 b (Nat.ne_of_lt (Nat.lt_of_lt_of_le (Heap.lt_size e) I.ok.above))).trans (I.base.keep b o e n hb hx)
    · obtain ⟨sl, e1⟩ := I.base.slot b o e n hb hx
      exact ⟨sl, (hs.2 b (Nat.ne_of_lt (Nat.lt_of_lt_of_le (Heap.lt_size e) I.ok.above))).trans e1⟩
    · obtain ⟨o', e1⟩ := I.base.there b o e hx
      exact ⟨o', (hs.2 b (Nat.ne_of_lt (Nat.lt_of_lt_of_le (Heap.lt_size e) I.ok.above))).trans e1⟩
    · by_cases hj : j = i
      · subst hj
        rw [hi] at e1; cases e1
        rw [List.getElem?_set_self hiσ] at e2
        cases e2
        exact ⟨u, r, .inl ⟨hk, by simp⟩⟩
      · rw [List.getElem?_set_ne (Ne.symm hj)] at e2
        obtain ⟨u', r', q⟩ := hl j y v' e1 e2 e3
        refine ⟨u', r', ?_⟩
        rcases q with ⟨k, e⟩ | ⟨k, c, e, z⟩
        · refine .inl ⟨k, ?_⟩
          have : y ≠ x := fun e => hj (nodup_ix hN e1 (e ▸ hi))
          simp [this, e]
        · exact .inr ⟨k, c, e, z.sameBut hs (cne y c e)⟩
    · obtain ⟨w', z⟩ := I.cell y c e
      exact ⟨w', z.sameBut hs (cne y c e)⟩
    · obtain ⟨e, n, ne, nf, d⟩ := I.pin p hp
      exact ⟨(hs.2 p.1 ne).trans e, n, ne, nf, d⟩
  · have hfn : X.fn x = true := by
      rcases hf with z | z
      · exact z
      · rw [z] at hk; cases hk
    obtain ⟨c, hc⟩ := I.ok.has x (.inl hk)
    obtain ⟨w', z⟩ := I.cell x c hc
    refine wpAny_storeName_cell I.ok.kind hk hc z (fun h' hc' hs => ?_)
    obtain ⟨oc, hoc, hocd⟩ := id z
    refine h { s with heap := h' } ⟨I.ok, I.os, I.bare, ⟨fun b o e n hb hx => ?_, fun b o e n hb hx => ?_, I.base.free, fun b o e hx => ?_, I.base.tups, I.base.frzs, I.base.tbls⟩, ⟨m, hn.sameBut hs (Ne.symm (cne x c hc)), fun j y v' e1 e2 e3 => ?_⟩, fun y c' e => ?_, I.free, I.freeC, fun p hp => ?_, tracked ⟨oc, hoc, I.freeC x c hc⟩ hs, by simpa using I.len⟩ ⟨c, hs, .inr hc⟩
    · exact (hs.2 b (Nat.ne_of_lt (Nat.lt_of_lt_of_le (Heap.lt_size e) (I.ok.cab x c hfn hc)))).trans (I.base.keep b o e n hb hx)
    · obtain ⟨sl, e1⟩ := I.base.slot b o e n hb hx
      exact ⟨sl, (hs.2 b (Nat.ne_of_lt (Nat.lt_of_lt_of_le (Heap.lt_size e) (I.ok.cab x c hfn hc)))).trans e1⟩
    · obtain ⟨o', e1⟩ := I.base.there b o e hx
      exact ⟨o', (hs.2 b (Nat.ne_of_lt (Nat.lt_of_lt_of_le (Heap.lt_size e) (I.ok.cab x c hfn hc)))).trans e1⟩
    · by_cases hj : j = i
      · subst hj
        rw [hi] at e1; cases e1
        rw [List.getElem?_set_self hiσ] at e2
        cases e2
        exact ⟨u, r, .inr ⟨.inl hk, c, hc, hc'⟩⟩
      · rw [List.getElem?_set_ne (Ne.symm hj)] at e2
        obtain ⟨u', r', q⟩ := hl j y v' e1 e2 e3
        refine ⟨u', r', ?_⟩
        rcases q with q | ⟨k, c', e, z'⟩
        · exact .inl q
        · refine .inr ⟨k, c', e, z'.sameBut hs ?_⟩
          rintro rfl
          exact hj (nodup_ix hN e1 (I.ok.inj _ _ _ e hc ▸ hi))
    · by_cases hcc : c' = c
      · subst hcc; exact ⟨_, hc'⟩
      · obtain ⟨w2, z2⟩ := I.cell y c' e
        exact ⟨w2, z2.sameBut hs hcc⟩
    · obtain ⟨e, n, ne, nf, d⟩ := I.pin p hp
      refine ⟨(hs.2 p.1 ?_).trans e, n, ne, nf, d⟩
      intro q
      rw [q, hoc] at e
      have q' : oc = p.2 := Option.some.inj e
      exact d w' (by rw [← q']; exact hocd)
theorem store_ok {M : Model} {A : Around} {E : Value → Shared → Prop} {i : Nat} {x : Str} {v : V} {u : Value} {Q : Unit → Shared → Prop} (I : Inv X pins σ H s) (hN : X.N.Nodup) (hi : X.N[i]? = some x) (hx : Loc X.env.scope x) (r : RelV v u)
    (h : ∀ s', Inv X pins (σ.set i (some v)) H s' → Q () s') (hf : X.fn x = true ∨ X.env.scope.names.lookup x = some .local := by first | exact .inl rfl | exact .inr rfl | assumption) : wpAny M A (storeName X.env x u) Q E s :=
  store_ok2 I hN hi hx r (fun s' I' _ => h s' I') hf
/-- behind a call or a block, the state as it is -/
theorem Inv.call' {s' : Shared} {ch : List Addr} (I : Inv X pins σ H s) (ho : s'.os = s.os) (u : Un (frs X.stack) ch H H' s.heap s'.heap) (hok : HOk X.prog X.w H' s'.heap) (hg : AllBare s'.gens)
    (hch : ∀ b ∈ ch, (b ∈ X.ex ∨ X.s_0.heap.objs.size ≤ b) ∧ b ≠ X.env.locals ∧ (∀ x c, X.env.cells.lookup x = some c → c ≠ b) ∧ ∀ p ∈ X.pn ++ pins, p.1 ≠ b) : Inv X pins σ H' s' := by
  obtain ⟨h', g', d', t', o'⟩ := s'
  have e : o' = s.os := ho
  subst e
  exact I.call (g' := g') (t' := t') (d' := d') u hok hg hch
end

/-- an exception: its class, its own dict's address (where it has one), the abstract heap behind it -/
abbrev XK := Value → Option Addr → Hp → Prop
abbrev St := List (Option V)
abbrev VK := V → Hp → Prop
/-- an expression's reading; a test's; an argument list's -/
abbrev TE := St → Hp → VK → Prop
abbrev TT := St → Hp → (Bool → Hp → Prop) → Prop
abbrev TA := St → Hp → (List V → Hp → Prop) → Prop
/-- what is wanted behind a statement -/
structure Ends where
  nx : St → Hp → Prop
  rt : VK
  bk : St → Hp → Prop := fun _ _ => False
  ct : St → Hp → Prop := fun _ _ => False
abbrev TS := Ends → St → Hp → Prop

def EP (X : Cx) (pins : List (Addr × Obj)) (σ : St) (Q : VK) (u : Value) (s' : Shared) : Prop := ∃ v H', Inv X pins σ H' s' ∧ RelV v u ∧ Q v H'
def TP (X : Cx) (pins : List (Addr × Obj)) (σ : St) (Q : Bool → Hp → Prop) (b : Bool) (s' : Shared) : Prop := ∃ H', Inv X pins σ H' s' ∧ Q b H'
def AP (X : Cx) (pins : List (Addr × Obj)) (σ : St) (Q : List V → Hp → Prop) (us : List Value) (s' : Shared) : Prop := ∃ vs H', Inv X pins σ H' s' ∧ Vals vs us ∧ Q vs H'
def SP (X : Cx) (pins : List (Addr × Obj)) (D : Ends) (f : Flow) (s' : Shared) : Prop :=
  match f with
  | .next => ∃ σ' H', Inv X pins σ' H' s' ∧ D.nx σ' H'
  | .brk => ∃ σ' H', Inv X pins σ' H' s' ∧ D.bk σ' H'
  | .cont => ∃ σ' H', Inv X pins σ' H' s' ∧ D.ct σ' H'
  | .ret u => ∃ v σ' H', Inv X pins σ' H' s' ∧ RelV v u ∧ D.rt v H'

def PE (X : Cx) (e : Expr) (t : TE) : Prop :=
  ∀ (pins : List (Addr × Obj)) (s : Shared) (σ : St) (H : Hp) (Q : VK), Inv X pins σ H s → t σ H Q → wpAny (model X.prog X.w) X.A (eval e X.env) (EP X pins σ Q) X.xe s
def PT (X : Cx) (e : Expr) (t : TT) : Prop :=
  ∀ (pins : List (Addr × Obj)) (s : Shared) (σ : St) (H : Hp) (Q : Bool → Hp → Prop), Inv X pins σ H s → t σ H Q → wpAny (model X.prog X.w) X.A (isTrue e X.env (eval e X.env)) (TP X pins σ Q) X.xe s
/-- a test whatever its 'whole' is (and, or) -/
def PW (X : Cx) (e : Expr) (t : TT) : Prop :=
  ∀ (whole : Sem Value) (pins : List (Addr × Obj)) (s : Shared) (σ : St) (H : Hp) (Q : Bool → Hp → Prop), Inv X pins σ H s → t σ H Q → wpAny (model X.prog X.w) X.A (isTrue e X.env whole) (TP X pins σ Q) X.xe s
theorem PW.pt {X : Cx} {e : Expr} {t : TT} (h : PW X e t) : PT X e t := h _
/-- an argument list (no star), from the left -/
def PA (X : Cx) (es : List Expr) (t : TA) : Prop :=
  ∀ (pos : Pos) (pins : List (Addr × Obj)) (s : Shared) (σ : St) (H : Hp) (Q : List V → Hp → Prop), Inv X pins σ H s → t σ H Q → wpAny (model X.prog X.w) X.A (spliced (backTo pos (starEach es X.env))) (AP X pins σ Q) X.xe s
def PS (X : Cx) (st : Stmt) (t : TS) : Prop :=
  ∀ (pins : List (Addr × Obj)) (s : Shared) (σ : St) (H : Hp) (D : Ends), Inv X pins σ H s → t D σ H → wpAny (model X.prog X.w) X.A (exec st X.env) (SP X pins D) X.xe s
def PSs (X : Cx) (st : List Stmt) (t : TS) : Prop :=
  ∀ (pins : List (Addr × Obj)) (s : Shared) (σ : St) (H : Hp) (D : Ends), Inv X pins σ H s → t D σ H → wpAny (model X.prog X.w) X.A (execs st X.env) (SP X pins D) X.xe s
/-- weaken the end -/
theorem thn {α : Type} {t : Sem α} {Q Q' : α → Shared → Prop} {M : Model} {A : Around} {E : Value → Shared → Prop} {s : Shared} (h : wpAny M A t Q E s) (hQ : ∀ a s, Q a s → Q' a s) : wpAny M A t Q' E s := wpAny_mono h hQ fun _ _ x => x
end L2

namespace L2
open PySem PySem.Spec PyProof.Rows
section
variable {X : Cx}

def tVar (i : Nat) : TE := fun σ H Q => ∃ v, σ[i]? = some (some v) ∧ Q v H
def tC (v : V) : TE := fun _ H Q => Q v H
theorem pe_var {i : Nat} {x : Str} {pos : Pos} (hN : X.N[i]? = some x) (hv : Vis X.env.scope x) (hd : (x == ("__debug__" : Str)) = false := by decide) (hcd : (x == ("__classdict__" : Str)) = false := by decide) : PE X (.Name x pos) (tVar i) := by
  intro pins s σ H Q I h
  obtain ⟨v, e, h⟩ := h
  obtain ⟨m, hn, hl⟩ := I.loc
  obtain ⟨u, r, l⟩ := hl i x v hN e hv
  have fin : EP X pins σ Q u s := ⟨v, H, I, r, h⟩
  rcases l with ⟨hk, hm⟩ | ⟨hk, c, hc, hcell⟩
  · exact wpAny_Name (wpAny_loadName_local I.ok.kind hk hn hm fin) hd
  · rcases hk with hk | hk
    · exact wpAny_Name (wpAny_loadName_cell I.ok.kind hk hc hcell fin) hd
    · exact wpAny_Name (wpAny_loadName_free I.ok.kind hk hc hcell fin hcd) hd
theorem pe_int {i j pos} : PE X (.Constant (.int i) j pos) (tC (.int i)) := fun _ _ _ H _ I h => wpAny_Constant_int ⟨.int i, H, I.tok _, ⟨_, rfl⟩, h⟩
theorem pe_bl {b j pos} : PE X (.Constant (.bool b) j pos) (tC (.bl b)) := fun _ _ _ H _ I h => Constant_bool ⟨.bl b, H, I, rfl, h⟩
theorem pe_non {j pos} : PE X (.Constant .none j pos) (tC .non) := fun _ _ _ H _ I h => Constant_none ⟨.non, H, I, rfl, h⟩
theorem pe_str {x j pos} : PE X (.Constant (.str x) j pos) (tC (.str x)) := fun _ _ _ H _ I h => Calls.Constant_str ⟨.str x, H, I.tok _, ⟨_, rfl⟩, h⟩

/-- a global name of the def -/
def Gl (X : Cx) (x : Str) : Prop := X.env.kindOf x = some .globalImplicit
theorem ld_glob {E : Value → Shared → Prop} {pins : List (Addr × Obj)} {s : Shared} {σ : St} {H : Hp} {x : Str} {u : Value} {pos : Pos} {Q : Value → Shared → Prop} (I : Inv X pins σ H s) (hg : Gl X x) (hm : X.mg x = some u) (h : Q u s)
    (hd : (x == ("__debug__" : Str)) = false := by decide) : wpAny (model X.prog X.w) X.A (eval (.Name x pos) X.env) Q E s :=
  Calls.Name_function_global I.ok.kind hg (Calls.loadGlobal_global (by rw [I.ok.glob]; exact I.mod.glob.keeps I.bk) hm h) hd
theorem ld_blt {E : Value → Shared → Prop} {pins : List (Addr × Obj)} {s : Shared} {σ : St} {H : Hp} {x : Str} {u : Value} {pos : Pos} {Q : Value → Shared → Prop} (I : Inv X pins σ H s) (hg : Gl X x) (hm : X.mg x = none) (hv : bootBuiltins x = some u) (h : Q u s)
    (hn : x ≠ "__name__" := by decide) (hd : (x == ("__debug__" : Str)) = false := by decide) : wpAny (model X.prog X.w) X.A (eval (.Name x pos) X.env) Q E s := by
  obtain ⟨mb, h1, h2⟩ := I.mod.blt
  exact Calls.Name_function_global I.ok.kind hg (Calls.loadGlobal_builtin (by rw [I.ok.glob]; exact I.mod.glob.keeps I.bk) hm (by rw [I.ok.blt]; exact h1.keeps I.bk) ((h2 x hn).trans hv) h) hd
/-- a module's constant, a class, a function, as a value -/
theorem pe_glob {x : Str} {v : V} {u : Value} {pos : Pos} (hg : Gl X x) (hm : X.mg x = some u) (r : RelV v u) (hd : (x == ("__debug__" : Str)) = false := by decide) : PE X (.Name x pos) (tC v) :=
  fun _ _ _ H _ I h => ld_glob I hg hm ⟨v, H, I, r, h⟩ hd
variable {a b : Expr} {ta tb : TE} {pos : Pos}
variable {tA tB' : TT} {rest : List Expr}
def tAnd (t u : TT) : TT := fun σ H Q => t σ H fun c H1 => if c = true then u σ H1 Q else Q false H1
def tOr (t u : TT) : TT := fun σ H Q => t σ H fun c H1 => if c = true then Q true H1 else u σ H1 Q
def tNot (t : TT) : TT := fun σ H Q => t σ H fun c H1 => Q (!c) H1
theorem pw_and1 (ha : PT X a tA) : PW X (.BoolOp .And [a] pos) tA := by
  intro wh pins s σ H Q I h
  refine isTrue_and (thn (ha pins s σ H Q I h) fun c s1 e => ?_)
  cases c with
  | true => exact isTrue_and_nil e
  | false => exact e
theorem pw_or1 (ha : PT X a tA) : PW X (.BoolOp .Or [a] pos) tA := by
  intro wh pins s σ H Q I h
  refine isTrue_or (thn (ha pins s σ H Q I h) fun c s1 e => ?_)
  cases c with
  | false => exact isTrue_or_nil e
  | true => exact e
theorem pw_and (ha : PT X a tA) (hb : PW X (.BoolOp .And (b :: rest) pos) tB') : PW X (.BoolOp .And (a :: b :: rest) pos) (tAnd tA tB') := by
  intro wh pins s σ H Q I h
  refine isTrue_and (thn (ha pins s σ H _ I h) fun c s1 ⟨H1, I1, q1⟩ => ?_)
  cases c with
  | true => exact hb wh pins s1 σ H1 Q I1 q1
  | false => exact ⟨H1, I1, q1⟩
theorem pw_or (ha : PT X a tA) (hb : PW X (.BoolOp .Or (b :: rest) pos) tB') : PW X (.BoolOp .Or (a :: b :: rest) pos) (tOr tA tB') := by
  intro wh pins s σ H Q I h
  refine isTrue_or (thn (ha pins s σ H _ I h) fun c s1 ⟨H1, I1, q1⟩ => ?_)
  cases c with
  | true => exact ⟨H1, I1, q1⟩
  | false => exact hb wh pins s1 σ H1 Q I1 q1
theorem pt_not (ha : PT X a tA) : PT X (.UnaryOp .Not a pos) (tNot tA) := by
  intro pins s σ H Q I h
  exact isTrue_not (ha pins s σ H (fun c H1 => Q (!c) H1) I h)
/-- .. as values (bools) -/
def tAndV (ta tb : TE) : TE := fun σ H Q => ta σ H fun x H1 => ∃ c, x = .bl c ∧ if c = true then tb σ H1 Q else Q (.bl false) H1
theorem pe_one {op} {t : TE} (h : PE X a t) : PE X (.BoolOp op [a] pos) t := fun pins s σ H Q I hw => BoolOp_one (h pins s σ H Q I hw)
theorem pe_and (ha : PE X a ta) (hb : PE X (.BoolOp .And (b :: rest) pos) tb) : PE X (.BoolOp .And (a :: b :: rest) pos) (tAndV ta tb) := by
  intro pins s σ H Q I h
  refine BoolOp_and (thn (ha pins s σ H _ I h) fun v s1 ⟨x, H1, I1, r1, q1⟩ => ?_)
  obtain ⟨c, rfl, q1⟩ := q1
  cases r1
  refine wpAny_truthy_bool ?_
  cases c with
  | true => exact hb pins s1 σ H1 Q I1 q1
  | false => exact ⟨.bl false, H1, I1, rfl, q1⟩
end
end L2

namespace L2
open PySem PySem.Spec PyProof.Rows

def SqL (K : PySem.W.Frag) (H : Hp) (a : Addr) (xs : List V) : Prop :=
  Rd H a (.lst xs) ∨
    ∃ (o : Obj) (its : Array Value) (n : Nat), K.lookup a = some o ∧ o.cls = .type "list" ∧ o.dict = none ∧ o.data = .seq its n ∧ its.size ≤ sizeLine ∧ Vals xs its.toList
def SqT (K : PySem.W.Frag) (H : Hp) (a : Addr) (xs : List V) : Prop :=
  Rd H a (.tup xs) ∨
    ∃ (o : Obj) (its : Array Value) (n : Nat), K.lookup a = some o ∧ o.cls = .type "tuple" ∧ o.dict = none ∧ o.data = .seq its n ∧ its.size ≤ sizeLine ∧ Vals xs its.toList
def absV : Value → Option V
  | .none => some .non
  | .bool b => some (.bl b)
  | .int i _ => some (.int i)
  | .str x _ => some (.str x)
  | .bytes b _ => some (.byt b)
  | .float b _ => some (.flt b)
  | .ref a => some (.ref a)
  | .type n => some (.ty n)
  | _ => none
theorem RelV.abs {x : V} {u : Value} (r : RelV x u) : absV u = some x := by
  cases x with
  | non => cases r; rfl
  | bl _ => cases r; rfl
  | int _ => obtain ⟨t, rfl⟩ := r; rfl
  | str _ => obtain ⟨t, rfl⟩ := r; rfl
  | byt _ => obtain ⟨t, rfl⟩ := r; rfl
  | flt _ => obtain ⟨t, rfl⟩ := r; rfl
  | ref _ => cases r; rfl
  | ty _ => cases r; rfl
theorem RelV.inj {x y : V} {u : Value} (r : RelV x u) (q : RelV y u) : x = y := Option.some.inj (r.abs.symm.trans q.abs)
theorem Vals.inj : ∀ {xs ys : List V} {us : List Value}, Vals xs us → Vals ys us → xs = ys
  | _, _, _, .nil, .nil => rfl
  | _, _, _, .cons r t, .cons r' t' => by rw [r.inj r', Vals.inj t t']
section
variable {X : Cx} {pins : List (Addr × Obj)} {σ : St} {H : Hp} {s : Shared} {a : Addr} {xs ys : List V}
theorem SqL.of {K : PySem.W.Frag} (h : H a = some (.lst xs)) : SqL K H a xs := .inl (.inl h)
theorem SqT.of {K : PySem.W.Frag} (h : H a = some (.tup xs)) : SqT K H a xs := .inl (.inl h)
theorem Inv.list (I : Inv X pins σ H s) (h : SqL X.K H a xs) : ∃ its : List Value, Vals xs its ∧ PlainL s.heap a its.toArray ∧ xs.length ≤ sizeLine := by
  rcases h with h | ⟨o, its, n, hk, hc, hd, hs, hz, r⟩
  · obtain ⟨z, its, n, r, e⟩ := h.ok I.hok
    exact ⟨its, r, ⟨_, n, e, rfl, rfl, rfl⟩, z⟩
  · refine ⟨its.toList, r, ⟨o, n, I.kIn a o hk, hc, hd, by simpa using hs⟩, ?_⟩
    have e := r.length
    simp only [Array.length_toList] at e
    omega
theorem Inv.tupleN (I : Inv X pins σ H s) (h : SqT X.K H a xs) : ∃ its : List Value, Vals xs its ∧ IsTupN s.heap a its.toArray ∧ xs.length ≤ sizeLine := by
  rcases h with h | ⟨o, its, n, hk, hc, hdn, hs, hz, r⟩
  · obtain ⟨z, its, r, p⟩ := h.ok I.hok
    exact ⟨its, r, p, z⟩
  · refine ⟨its.toList, r, ⟨o, I.kIn a o hk, hc, n, by simpa using hs, hdn⟩, ?_⟩
    have e := r.length
    simp only [Array.length_toList] at e
    omega
theorem Inv.tuple (I : Inv X pins σ H s) (h : SqT X.K H a xs) : ∃ its : List Value, Vals xs its ∧ IsTup s.heap a its.toArray ∧ xs.length ≤ sizeLine :=
  let ⟨its, r, p, z⟩ := I.tupleN h
  ⟨its, r, p.tup, z⟩
theorem Inv.list_inj (I : Inv X pins σ H s) (h : SqL X.K H a xs) (h' : SqL X.K H a ys) : xs = ys := by
  obtain ⟨its, r, ⟨o, n, e, _, _, d⟩, _⟩ := I.list h
  obtain ⟨its', r', ⟨o', n', e', _, _, d'⟩, _⟩ := I.list h'
  rw [e] at e'; cases e'
  rw [d] at d'
  injection d' with d1 _
  have : its = its' := by simpa using congrArg Array.toList d1
  subst this
  exact r.inj r'
theorem Inv.tuple_inj (I : Inv X pins σ H s) (h : SqT X.K H a xs) (h' : SqT X.K H a ys) : xs = ys := by
  obtain ⟨its, r, ⟨o, e, _, n, d⟩, _⟩ := I.tuple h
  obtain ⟨its', r', ⟨o', e', _, n', d'⟩, _⟩ := I.tuple h'
  rw [e] at e'; cases e'
  rw [d] at d'
  injection d' with d1 _
  have : its = its' := by simpa using congrArg Array.toList d1
  subst this
  exact r.inj r'
end

abbrev Cx.wish (X : Cx) (E : Value → Shared → Prop) : Cx := { X with xe := E }
/-- no exception leaves -/
abbrev Cx.nox (X : Cx) : Cx := X.wish fun _ _ => False
theorem Cx.Ok.wish {X : Cx} (ok : X.Ok) (E : Value → Shared → Prop) : (X.wish E).Ok :=
  ⟨ok.mod, ok.kind, ok.glob, ok.blt, ok.above, ok.inj, ok.has, ok.cab, ok.hd, ok.frames, ok.stk, ok.exf, ok.bs, ok.bsz, ok.noex, ok.exfs, ok.funs, ok.frf⟩
theorem Cx.Ok.unwish {X : Cx} {E : Value → Shared → Prop} (ok : (X.wish E).Ok) : X.Ok :=
  ⟨ok.mod, ok.kind, ok.glob, ok.blt, ok.above, ok.inj, ok.has, ok.cab, ok.hd, ok.frames, ok.stk, ok.exf, ok.bs, ok.bsz, ok.noex, ok.exfs, ok.funs, ok.frf⟩
section
variable {X : Cx} {pins : List (Addr × Obj)} {σ : St} {H : Hp} {s : Shared} {E : Value → Shared → Prop}
theorem Inv.wish (I : Inv X pins σ H s) (E : Value → Shared → Prop) : Inv (X.wish E) pins σ H s := ⟨I.ok.wish E, I.os, I.bare, I.base, I.loc, I.cell, I.free, I.freeC, I.pin, I.hok, I.len⟩
theorem Inv.unwish (I : Inv (X.wish E) pins σ H s) : Inv X pins σ H s := ⟨I.ok.unwish, I.os, I.bare, I.base, I.loc, I.cell, I.free, I.freeC, I.pin, I.hok, I.len⟩
theorem SP.unwish {D : Ends} {f : Flow} {s' : Shared} (h : SP (X.wish E) pins D f s') : SP X pins D f s' := by
  cases f with
  | next => obtain ⟨σ', H', I, q⟩ := h; exact ⟨σ', H', I.unwish, q⟩
  | brk => obtain ⟨σ', H', I, q⟩ := h; exact ⟨σ', H', I.unwish, q⟩
  | cont => obtain ⟨σ', H', I, q⟩ := h; exact ⟨σ', H', I.unwish, q⟩
  | ret u => obtain ⟨v, σ', H', I, r, q⟩ := h; exact ⟨v, σ', H', I.unwish, r, q⟩
theorem PE.nox {e : Expr} {t : TE} (h : PE X.nox e t) : PE X e t := fun pins s σ H Q I hw =>
  wpAny_mono (h pins s σ H Q (I.wish _) hw) (fun _ _ ⟨v, H', I', r, q⟩ => ⟨v, H', I'.unwish, r, q⟩) fun _ _ z => False.elim z
theorem PT.nox {e : Expr} {t : TT} (h : PT X.nox e t) : PT X e t := fun pins s σ H Q I hw =>
  wpAny_mono (h pins s σ H Q (I.wish _) hw) (fun _ _ ⟨H', I', q⟩ => ⟨H', I'.unwish, q⟩) fun _ _ z => False.elim z
theorem PSs.nox {st : List Stmt} {t : TS} (h : PSs X.nox st t) : PSs X st t := fun pins s σ H D I hw =>
  wpAny_mono (h pins s σ H D (I.wish _) hw) (fun _ _ q => q.unwish) fun _ _ z => False.elim z
end

section
variable {X : Cx} {st : Stmt} {rest : List Stmt} {t u : TS} {e : Expr} {te : TE} {pos : Pos}
def tNext : TS := fun D σ H => D.nx σ H
def tSeq (t u : TS) : TS := fun D σ H => t { D with nx := u D } σ H
theorem pss_nil : PSs X [] tNext := fun _ _ σ H _ I h => wpAny_execs_nil ⟨σ, H, I, h⟩
theorem pss_cons (h1 : PS X st t) (h2 : PSs X rest u) : PSs X (st :: rest) (tSeq t u) := by
  intro pins s σ H D I h
  refine wpAny_execs_cons (thn (h1 pins s σ H { D with nx := u D } I h) fun f s1 q => ?_)
  cases f with
  | next =>
    obtain ⟨σ', H', I', q⟩ := q
    exact h2 pins s1 σ' H' D I' q
  | ret v => exact q
  | brk => exact q
  | cont => exact q
theorem pss_one (h1 : PS X st t) : PSs X [st] t := by
  intro pins s σ H D I h
  refine wpAny_execs_cons (thn (h1 pins s σ H D I h) fun f s1 q => ?_)
  cases f with
  | next => exact wpAny_execs_nil q
  | ret v => exact q
  | brk => exact q
  | cont => exact q
/-- in a def's body nothing is shown -/
theorem Inv.quiet {pins : List (Addr × Obj)} {σ : St} {H : Hp} {s : Shared} (I : Inv X pins σ H s) : interactive X.env = false := by simp [interactive, I.ok.kind]
/-- an expression whose value is dropped -/
def tDrop (te : TE) : TS := fun D σ H => te σ H fun _ H1 => D.nx σ H1
theorem ps_expr (he : PE X e te) (hs : swapsWith e none pos.line X.env = pure false := by rfl) : PS X (.Expr e pos) (tDrop te) := by
  intro pins s σ H D I h
  exact wpAny_Expr_any (thn (he pins s σ H _ I h) fun v s1 ⟨x, H1, I1, r1, q1⟩ => ⟨σ, H1, I1, q1⟩) I.quiet hs
def tRet (te : TE) : TS := fun D σ H => te σ H D.rt
theorem ps_ret (he : PE X e te) : PS X (.Return (some e) pos) (tRet te) := by
  intro pins s σ H D I h
  exact wpAny_Return_some (thn (he pins s σ H _ I h) fun v s1 ⟨x, H1, I1, r1, q1⟩ => ⟨x, σ, H1, I1, r1, q1⟩)
def tIfS (c : TT) (t u : TS) : TS := fun D σ H => c σ H fun b H1 => if b = true then t D σ H1 else u D σ H1
theorem ps_if {c : Expr} {a b : List Stmt} {tc : TT} (hc : PT X c tc) (ha : PSs X a t) (hb : PSs X b u) : PS X (.If c a b pos) (tIfS tc t u) := by
  intro pins s σ H D I h
  refine wpAny_If (thn (hc pins s σ H _ I h) fun d s1 ⟨H1, I1, q1⟩ => ?_)
  cases d with
  | true => exact ha pins s1 σ H1 D I1 q1
  | false => exact hb pins s1 σ H1 D I1 q1
end

abbrev TG := V → St → Hp → (St → Hp → Prop) → Prop
abbrev TGs := List V → St → Hp → (St → Hp → Prop) → Prop
def PG (X : Cx) (target : Expr) (t : TG) : Prop :=
  ∀ (pins : List (Addr × Obj)) (s : Shared) (σ : St) (H : Hp) (v : V) (u : Value) (Q : St → Hp → Prop), Inv X pins σ H s → RelV v u → t v σ H Q →
    wpAny (model X.prog X.w) X.A (assign target X.env u) (fun _ s' => ∃ σ' H', Inv X pins σ' H' s' ∧ Q σ' H') X.xe s
/-- several targets, one after another -/
def PGs (X : Cx) (ts : List Expr) (t : TGs) : Prop :=
  ∀ (pins : List (Addr × Obj)) (s : Shared) (σ : St) (H : Hp) (vs : List V) (us : List Value) (Q : St → Hp → Prop), Inv X pins σ H s → Vals vs us → t vs σ H Q →
    wpAny (model X.prog X.w) X.A (assignInOrder ((assignEach ts X.env).map (·.2)) us) (fun _ s' => ∃ σ' H', Inv X pins σ' H' s' ∧ Q σ' H') X.xe s
/-- o[i] = v, by values -/
abbrev TSet := V → V → V → Hp → (Hp → Prop) → Prop
def PSet (X : Cx) (t : TSet) : Prop :=
  ∀ (pins : List (Addr × Obj)) (s : Shared) (σ : St) (H : Hp) (o i v : V) (ov iv u : Value) (Q : Hp → Prop), Inv X pins σ H s → RelV o ov → RelV i iv → RelV v u → t o i v H Q →
    wpAny (model X.prog X.w) X.A (setItem ov iv u) (fun _ s' => ∃ H', Inv X pins σ H' s' ∧ Q H') X.xe s
section
variable {X : Cx} {pos : Pos}
def gName (i : Nat) : TG := fun v σ H Q => Q (σ.set i (some v)) H
theorem pg_name {i : Nat} {x : Str} (hN : X.N.Nodup) (hi : X.N[i]? = some x) (hx : Loc X.env.scope x) (hf : X.fn x = true ∨ X.env.scope.names.lookup x = some .local := by first | exact .inl rfl | exact .inr rfl | assumption) : PG X (.Name x pos) (gName i) := by
  intro pins s σ H v u Q I r h
  exact wpAny_assign_Name (store_ok I hN hi hx r (fun s' I' => ⟨_, H, I', h⟩) hf)
def gNil : TGs := fun vs σ H Q => vs = [] ∧ Q σ H
def gCons (t : TG) (u : TGs) : TGs := fun vs σ H Q => ∃ v r, vs = v :: r ∧ t v σ H fun σ' H' => u r σ' H' Q
theorem pgs_nil : PGs X [] gNil := by
  intro pins s σ H vs us Q I r h
  obtain ⟨e, h⟩ := h
  subst e
  cases r
  exact assignInOrder_nil ⟨σ, H, I, h⟩
theorem pgs_cons {e : Expr} {es : List Expr} {t : TG} {u : TGs} (h1 : PG X e t) (h2 : PGs X es u)
    (hs : (assignEach (e :: es) X.env).map (·.2) = assign e X.env :: (assignEach es X.env).map (·.2) := by rfl) : PGs X (e :: es) (gCons t u) := by
  intro pins s σ H vs us Q I r h
  obtain ⟨v, vr, e1, h⟩ := h
  subst e1
  cases r with
  | cons r rr =>
    rw [hs]
    refine assignInOrder_cons (thn (h1 pins s σ H _ _ _ I r h) fun _ s1 ⟨σ1, H1, I1, q1⟩ => ?_)
    exact h2 pins s1 σ1 H1 _ _ Q I1 rr q1
/-- (a, b, ..) = a tuple of that length -/
def gTup (K : PySem.W.Frag) (n : Nat) (t : TGs) : TG := fun v σ H Q => ∃ a xs, v = .ref a ∧ SqT K H a xs ∧ xs.length = n ∧ t xs σ H Q
theorem pg_tup {es : List Expr} {k : Nat} {t : TGs} {n : Nat} (hc : X.calm = true) (h : PGs X es t)
    (hn : (assignEach es X.env).length = n := by rfl) (hst : (assignEach es X.env).findIdx? (·.1) = none := by rfl) : PG X (.Tuple es k pos) (gTup X.K n t) := by
  intro pins s σ H v u Q I r hw
  obtain ⟨a, xs, e1, hq, hl, hw⟩ := hw
  subst e1
  cases r
  obtain ⟨its, rv, ht, hz⟩ := I.tuple hq
  refine assign_Tuple_tuple (I.ok.hd hc) ht (by simp [hn, ← hl, rv.length]) hst fun h' hx => ?_
  have I1 : Inv X pins σ H { s with heap := h' } := I.kept (t' := s.toks) fun b o e => hx b o (Nat.ne_of_lt (Heap.lt_size e)) e
  exact h pins _ σ H xs _ Q I1 (by simpa using rv) hw
/-- o[i] = .. -/
def gSub (to ti : TE) (t : TSet) : TG := fun v σ H Q => to σ H fun o H1 => ti σ H1 fun i H2 => t o i v H2 fun H3 => Q σ H3
theorem pg_sub {o i : Expr} {to ti : TE} {t : TSet} (ho : PE X o to) (hi : PE X i ti) (hs : PSet X t)
    (ha : ∀ v, assign (.Subscript o i pos) X.env v = (do
      let ov ← holding [v] (eval o X.env)
      let iv ← holding [v, ov] (eval i X.env)
      standAt pos
      holding [v, ov, iv] (setItem ov iv v)
      release [v, ov, iv] []) := by intro _; rfl) : PG X (.Subscript o i pos) (gSub to ti t) := by
  intro pins s σ H v u Q I r h
  rw [ha]
  refine wpAny_bind (wpAny_holding (thn (ho pins s σ H _ I h) fun ov s1 ⟨x, H1, I1, r1, q1⟩ => ?_))
  refine wpAny_bind (wpAny_holding (thn (hi pins s1 σ H1 _ I1 q1) fun iv s2 ⟨y, H2, I2, r2, q2⟩ => ?_))
  refine wpAny_bind (wpAny_standAt (wpAny_bind (wpAny_holding (thn (hs pins s2 σ H2 x y v ov iv u _ I2 r1 r2 r q2) fun _ s3 ⟨H3, I3, q3⟩ => ?_))))
  exact wpAny_release ⟨σ, H3, I3, q3⟩
/-- target = value -/
def tAsg (te : TE) (g : TG) : TS := fun D σ H => te σ H fun x H1 => g x σ H1 D.nx
theorem ps_asg {tg e : Expr} {te : TE} {g : TG} (he : PE X e te) (hg : PG X tg g) (hs : swapsWithSole [tg] e pos.line X.env = pure false := by rfl) (hw : swappedStores [tg] e X.env = pure none := by rfl)
    (h1 : (assignEach [tg] X.env).map (·.2) = [assign tg X.env] := by rfl) : PS X (.Assign [tg] e pos) (tAsg te g) := by
  intro pins s σ H D I h
  refine wpAny_Assign_stores (thn (he pins s σ H _ I h) fun v s1 ⟨x, H1, I1, r1, q1⟩ => ?_) hs hw
  rw [h1]
  exact thn (hg pins s1 σ H1 x v _ I1 r1 q1) fun _ s2 q => q
/-- name = value -/
theorem ps_set {i : Nat} {x : Str} {e : Expr} {te : TE} {pos' : Pos} (hN : X.N.Nodup) (hi : X.N[i]? = some x) (hx : Loc X.env.scope x) (he : PE X e te) (hs : swapsWith e (some (.Name x pos')) pos.line X.env = pure false := by rfl) (hf : X.fn x = true ∨ X.env.scope.names.lookup x = some .local := by first | exact .inl rfl | exact .inr rfl | assumption) :
    PS X (.Assign [.Name x pos'] e pos) (tAsg te (gName i)) := by
  intro pins s σ H D I h
  refine wpAny_Assign_Name (thn (he pins s σ H _ I h) fun v s1 ⟨y, H1, I1, r1, q1⟩ => ?_) hs
  exact store_ok I1 hN hi hx r1 (fun s2 I2 => ⟨_, H1, I2, q1⟩) hf
end

section
variable {X : Cx} {pos : Pos}
/-- the invariant W with its measure -/
def tWhile (c : TT) (tb : TS) : TS := fun D σ H => ∃ W : Nat → St → Hp → Prop, (∃ m, W m σ H) ∧ ∀ m σ H, W m σ H →
  c σ H fun b H1 => if b = true then ∃ N : St → Hp → Prop, (∀ σ' H', N σ' H' → ∃ m', m' < m ∧ W m' σ' H') ∧ tb { D with nx := N, ct := N, bk := D.nx } σ H1 else D.nx σ H1
theorem ps_while {c : Expr} {body : List Stmt} {tc : TT} {tb : TS} (hp : PassesOwn (model X.prog X.w) X.A X.env X.xe) (hc : PT X c tc) (hb : PSs X body tb) : PS X (.While c body [] pos) (tWhile tc tb) := by
  intro pins s σ H D I h
  obtain ⟨W, ⟨m0, w0⟩, turn⟩ := h
  refine wpAny_While (codeAny_whileLoop (fun n s' => ∃ σ' H', Inv X pins σ' H' s' ∧ W n σ' H') ?_ m0 ⟨σ, H, I, w0⟩)
  rintro n s1 ⟨σ1, H1, I1, w1⟩
  refine wpAny_passesOwn hp (thn (hc pins s1 σ1 H1 _ I1 (turn n σ1 H1 w1)) fun b s2 ⟨H2, I2, q2⟩ => ?_)
  cases b with
  | true =>
    obtain ⟨N, hN, q2⟩ := q2
    rw [if_pos rfl]
    refine wpAny_passesOwn hp (thn (hb pins s2 σ1 H2 _ I2 q2) fun f s3 q3 => ?_)
    cases f with
    | next =>
      obtain ⟨σ3, H3, I3, n3⟩ := q3
      obtain ⟨m', hm, w3⟩ := hN σ3 H3 n3
      exact ⟨m', hm, σ3, H3, I3, w3⟩
    | cont =>
      obtain ⟨σ3, H3, I3, n3⟩ := q3
      obtain ⟨m', hm, w3⟩ := hN σ3 H3 n3
      exact ⟨m', hm, σ3, H3, I3, w3⟩
    | brk => exact q3
    | ret v => exact q3
  | false =>
    rw [if_neg Bool.false_ne_true]
    exact wpAny_execs_nil ⟨σ1, H2, I2, q2⟩
end

/-- at turn i: it yields x (the heap may grow), or it stops -/
structure It where
  go : Nat → Hp → Prop
  yld : Nat → Hp → V → Hp → Prop
  stop : Nat → Hp → Prop
/-- the iterator's own objects may turn: they are not the frame's, not pinned, younger than the entry (or a comprehension's own) -/
def FpOk (X : Cx) (pins : List (Addr × Obj)) (H : Hp) (b : Addr) : Prop :=
  H b = none ∧ b ≠ X.env.locals ∧ b ∉ X.fs ∧ (b ∈ X.ex ∨ X.s_0.heap.objs.size ≤ b) ∧ (∀ x c, X.env.cells.lookup x = some c → c ≠ b) ∧ ∀ p ∈ X.pn ++ pins, p.1 ≠ b
theorem Inv.fpOk {X : Cx} {pins : List (Addr × Obj)} {σ : St} {H H' : Hp} {s : Shared} {b : Addr} (I : Inv X pins σ H s) (hb : s.heap.objs.size ≤ b) (hn : H' b = none) : FpOk X pins H' b := by
  refine ⟨hn, Nat.ne_of_gt (Nat.lt_of_lt_of_le I.lt hb), I.nofs hb, .inr (Nat.le_trans I.sz hb), fun x c e z => ?_, fun p hp z => ?_⟩
  · obtain ⟨v, q⟩ := I.cell x c e
    exact absurd (Nat.lt_of_lt_of_le q.lt (by rw [z]; exact hb)) (Nat.lt_irrefl _)
  · exact absurd (Nat.lt_of_lt_of_le (Heap.lt_size (I.pin p hp).1) (by rw [z]; exact hb)) (Nat.lt_irrefl _)
structure Turn (P : Program) (w : World) (K : PySem.W.Frag) (tg : Expr) (J : It) (fp : List Addr) (it : Addr) (tn : Nat → Heap → Prop) : Prop where
  mem : it ∈ fp
  obj : ∀ i h, tn i h → ∀ b ∈ fp, ∃ o, h.get? b = some o ∧ ∀ v, o.data ≠ .cell v
  keep : ∀ i h h', tn i h → (∀ b ∈ fp, ∀ o, h.get? b = some o → h'.get? b = some o) → tn i h'
  item : ∀ (X : Cx), X.prog = P → X.w = w → X.K = K → X.calm = true → ∀ (i : Nat) (pins : List (Addr × Obj)) (s : Shared) (σ : St) (H : Hp) (E : Value → Shared → Prop), Inv X pins σ H s → (∀ b ∈ fp, FpOk X pins H b) → tn i s.heap → J.go i H →
    wpAny (model P w) X.A (pyNext (.ref it)) (fun r s1 => ∃ u, r = some u ∧
      wpAny (model P w) X.A (letOwnedTupleGo tg (.ref it) u) (fun _ s2 => ∃ x H', Inv X pins σ H' s2 ∧ RelV x u ∧ J.yld i H x H' ∧ tn (i + 1) s2.heap ∧ ∀ b ∈ fp, H' b = none) E s1) E s
  done : ∀ (X : Cx), X.prog = P → X.w = w → X.K = K → X.calm = true → ∀ (i : Nat) (pins : List (Addr × Obj)) (s : Shared) (σ : St) (H : Hp) (E : Value → Shared → Prop), Inv X pins σ H s → (∀ b ∈ fp, FpOk X pins H b) → tn i s.heap → J.stop i H →
    wpAny (model P w) X.A (pyNext (.ref it)) (fun r s1 => r = none ∧ Inv X pins σ H s1) E s
  self : ∀ (A : Around) (i : Nat) (s : Shared) (Q : Value → Shared → Prop) (E : Value → Shared → Prop), tn i s.heap → Q (.ref it) s → wpAny (model P w) A (pyIter (.ref it)) Q E s
abbrev TI := St → Hp → (It → Hp → Prop) → Prop
/-- an iterator has come -/
def PIE (X : Cx) (pins : List (Addr × Obj)) (σ : St) (tg : Expr) (R : It → Hp → Prop) (itv : Value) (s2 : Shared) : Prop :=
  ∃ (it : Addr) (fp : List Addr) (tn : Nat → Heap → Prop) (J : It) (H' : Hp), itv = .ref it ∧ Inv X pins σ H' s2 ∧ Turn X.prog X.w X.K tg J fp it tn ∧ tn 0 s2.heap ∧ (∀ b ∈ fp, FpOk X pins H' b) ∧ R J H'
def PI (X : Cx) (tg iter : Expr) (wi : TI) : Prop :=
  ∀ (pins : List (Addr × Obj)) (s : Shared) (σ : St) (H : Hp) (R : It → Hp → Prop), Inv X pins σ H s → wi σ H R →
    wpAny (model X.prog X.w) X.A (eval iter X.env) (fun v s1 => wpAny (model X.prog X.w) X.A (pyIter v) (PIE X pins σ tg R) X.xe s1) X.xe s

/-- the step ahead of the store is nothing for an iterator that keeps no tuple -/
theorem go_of {M : Model} {A : Around} {E : Value → Shared → Prop} {s : Shared} {tg : Expr} {it : Addr} {u : Value} {o : Obj} {n : String} {vs : Array Value} {Q : Unit → Shared → Prop} (ho : s.heap.get? it = some o) (hc : o.cls = .type n) (hd : o.data = .fields vs)
    (hn : ["enumerate", "zip", "dict_itemiterator", "dict_reverseitemiterator", "odict_iterator", "itertools.zip_longest", "itertools.pairwise"].contains n = false) (hQ : Q () s) : wpAny M A (letOwnedTupleGo tg (.ref it) u) Q E s := by
  unfold letOwnedTupleGo
  cases tg <;> first
    | exact wpAny_pure hQ
    | (cases u <;> first
        | exact wpAny_pure hQ
        | (refine wpAny_bind (wpAny_load ho ?_)
           rw [hc, hd]
           show wpAny M A (if (["enumerate", "zip", "dict_itemiterator", "dict_reverseitemiterator", "odict_iterator", "itertools.zip_longest", "itertools.pairwise"].contains n && vs[0]? == some (rawInt _)) = true then _ else _) Q E s
           rw [if_neg (by intro h; rw [hn, Bool.false_and] at h; cases h)]
           exact wpAny_pure hQ))

/-- the list at a, as it stands at each turn (a loop may append to it) -/
def Itl (K : PySem.W.Frag) (a : Addr) : It :=
  ⟨fun i H => ∃ xs x, SqL K H a xs ∧ xs[i]? = some x, fun i H x H' => H' = H ∧ ∀ xs, SqL K H a xs → xs[i]? = some x, fun i H => ∃ xs, SqL K H a xs ∧ xs.length ≤ i⟩
def Itt (K : PySem.W.Frag) (a : Addr) : It :=
  ⟨fun i H => ∃ xs x, SqT K H a xs ∧ xs[i]? = some x, fun i H x H' => H' = H ∧ ∀ xs, SqT K H a xs → xs[i]? = some x, fun i H => ∃ xs, SqT K H a xs ∧ xs.length ≤ i⟩
/-- lo, lo + 1, .. (n of them) -/
def Itr (lo : Int) (n : Nat) : It := ⟨fun i _ => i < n, fun i H x H' => H' = H ∧ x = .int (lo + i), fun i _ => n ≤ i⟩
theorem turn_list {P : Program} {w : World} {K : PySem.W.Frag} {tg : Expr} (a it : Addr) : Turn P w K tg (Itl K a) [it] it (fun i h => h.IsListIter it a i) where
  mem := by simp
  obj := fun i h st b hb => by
    have e : b = it := by simpa using hb
    subst e
    obtain ⟨o, e, c, d⟩ := st
    exact ⟨o, e, fun v z => by rw [d] at z; cases z⟩
  keep := fun i h h' st k => st.at fun o e => k it (by simp) o e
  item := by
    intro X hP hw hK hc i pins s σ H E I hf st hg
    subst hP hw hK
    obtain ⟨xs, x, hq, hx⟩ := hg
    obtain ⟨its, rv, p, hz⟩ := I.list hq
    obtain ⟨u, hu, ru⟩ := rv.get hx
    obtain ⟨f0, f1, f2, f3, f4, f5⟩ := hf it (by simp)
    refine wpAny_pyNext_list_item st p.isList (x := u) (by simpa using hu) fun h' st' sb => ?_
    have I1 : Inv X pins σ H { s with heap := h' } := I.turned (t' := s.toks) (fun b o hb e => (sb.2 b hb).trans e) f0 f1 f3 f4 f5
    obtain ⟨o, e, c, d⟩ := id st'
    exact ⟨u, rfl, go_of (s := { s with heap := h' }) e c d (by decide) ⟨x, H, I1, ru, ⟨rfl, fun ys hy => by rw [I.list_inj hy hq]; exact hx⟩, st', fun b hb => (hf b hb).1⟩⟩
  done := by
    intro X hP hw hK hc i pins s σ H E I hf st hg
    subst hP hw hK
    obtain ⟨xs, hq, hx⟩ := hg
    obtain ⟨its, rv, p, hz⟩ := I.list hq
    obtain ⟨f0, f1, f2, f3, f4, f5⟩ := hf it (by simp)
    have hl := rv.length
    exact wpAny_pyNext_list_end (I.ok.hd hc) st p.isList (by simp; omega) fun h' eb => ⟨rfl, I.turned (t' := s.toks) (fun b o hb e => eb b o hb e) f0 f1 f3 f4 f5⟩
  self := fun _ _ _ _ _ st h => wpAny_pyIter_listiter st h
theorem turn_tuple {P : Program} {w : World} {K : PySem.W.Frag} {tg : Expr} (a it : Addr) : Turn P w K tg (Itt K a) [it] it (fun i h => h.IsTupleIter it a i) where
  mem := by simp
  obj := fun i h st b hb => by
    have e : b = it := by simpa using hb
    subst e
    obtain ⟨o, e, c, d⟩ := st
    exact ⟨o, e, fun v z => by rw [d] at z; cases z⟩
  keep := fun i h h' st k => st.at fun o e => k it (by simp) o e
  item := by
    intro X hP hw hK hc i pins s σ H E I hf st hg
    subst hP hw hK
    obtain ⟨xs, x, hq, hx⟩ := hg
    obtain ⟨its, rv, p, hz⟩ := I.tuple hq
    obtain ⟨u, hu, ru⟩ := rv.get hx
    obtain ⟨f0, f1, f2, f3, f4, f5⟩ := hf it (by simp)
    refine wpAny_pyNext_tuple_item st (show s.heap.IsTuple a its.toArray from p) (x := u) (by simpa using hu) fun h' st' sb => ?_
    have I1 : Inv X pins σ H { s with heap := h' } := I.turned (t' := s.toks) (fun b o hb e => (sb.2 b hb).trans e) f0 f1 f3 f4 f5
    obtain ⟨o, e, c, d⟩ := id st'
    exact ⟨u, rfl, go_of (s := { s with heap := h' }) e c d (by decide) ⟨x, H, I1, ru, ⟨rfl, fun ys hy => by rw [I.tuple_inj hy hq]; exact hx⟩, st', fun b hb => (hf b hb).1⟩⟩
  done := by
    intro X hP hw hK hc i pins s σ H E I hf st hg
    subst hP hw hK
    obtain ⟨xs, hq, hx⟩ := hg
    obtain ⟨its, rv, p, hz⟩ := I.tuple hq
    obtain ⟨f0, f1, f2, f3, f4, f5⟩ := hf it (by simp)
    have hl := rv.length
    exact wpAny_pyNext_tuple_end (I.ok.hd hc) st (show s.heap.IsTuple a its.toArray from p) (by simp; omega) fun h' eb => ⟨rfl, I.turned (t' := s.toks) (fun b o hb e => eb b o hb e) f0 f1 f3 f4 f5⟩
  self := fun _ _ _ _ _ st h => wpAny_pyIter_tupleiter st h
theorem turn_range {P : Program} {w : World} {K : PySem.W.Frag} {tg : Expr} (it : Addr) (lo : Int) (n : Nat) : Turn P w K tg (Itr lo n) [it] it (fun i h => IsRangeIter h it (lo + (i : Nat) * 1) ((n : Int) - (i : Nat)) 1) where
  mem := by simp
  obj := fun i h st b hb => by
    have e : b = it := by simpa using hb
    subst e
    exact ⟨_, st, fun v z => by
      have z' : Data.fields _ = Data.cell v := z
      cases z'⟩
  keep := fun i h h' st k => k it (by simp) _ st
  item := by
    intro X hP hw hK hc i pins s σ H E I hf st hg
    subst hP hw hK
    obtain ⟨f0, f1, f2, f3, f4, f5⟩ := hf it (by simp)
    have W := Walks.range (prog := X.prog) (w := X.w) (I.ok.hd hc) it lo 1 n
    refine W.item i s _ _ hg st fun v h' tk hv st' kk => ?_
    obtain ⟨t, rfl⟩ := hv
    have I1 : Inv X pins σ H { s with heap := h', toks := tk } := I.turned (fun b o hb e => kk b o (by simpa using hb) e) f0 f1 f3 f4 f5
    refine ⟨_, rfl, go_of (s := { s with heap := h', toks := tk }) (n := "range_iterator") st' rfl rfl (by decide) ⟨.int (lo + i), H, I1, ⟨t, ?_⟩, ⟨rfl, rfl⟩, st', fun b hb => (hf b hb).1⟩⟩
    rw [Int.mul_one]
  done := by
    intro X hP hw hK hc i pins s σ H E I hf st hg
    subst hP hw hK
    obtain ⟨f0, f1, f2, f3, f4, f5⟩ := hf it (by simp)
    exact wpAny_pyNext_range_end (I.ok.hd hc) st (by have : n ≤ i := hg; omega) fun h' eb => ⟨rfl, I.turned (t' := s.toks) (fun b o hb e => eb b o hb e) f0 f1 f3 f4 f5⟩
  self := fun _ _ _ _ _ st h => wpAny_pyIter_rangeiter st h
end L2

namespace L2
open PySem PySem.Spec PyProof.Rows
section
variable {X : Cx} {tg : Expr}
/-- a range object just made, walked -/
theorem range_it {pins : List (Addr × Obj)} {σ : St} {H : Hp} {s : Shared} {R : It → Hp → Prop} {E : Value → Shared → Prop} {lo hi : Int} {t u v : Tok} {tk : Nat} (I : Inv X pins σ H s) (h1 : -(2 ^ 62) ≤ lo) (h2 : lo < 2 ^ 62) (h3 : -(2 ^ 62) ≤ hi) (h4 : hi < 2 ^ 62)
    (q : R (Itr lo (hi - lo).toNat) H) : wpAny (model X.prog X.w) X.A (pyIter (.ref s.heap.objs.size)) (PIE X pins σ tg R) E { s with heap := s.heap.push { cls := .type "range", data := .fields #[.int lo t, .int hi u, .int 1 v] }, toks := tk } := by
  refine wpAny_pyIter_range (IsRange.new ..) (small_one h1 h2 h3 h4) ?_
  have I1 : Inv X pins σ H { s with heap := s.heap.push { cls := .type "range", data := .fields #[.int lo t, .int hi u, .int 1 v] }, toks := tk } := I.kept fun b o e => Heap.get?_push_of_some _ e
  refine ⟨(s.heap.push { cls := .type "range", data := .fields #[.int lo t, .int hi u, .int 1 v] }).objs.size, [(s.heap.push { cls := .type "range", data := .fields #[.int lo t, .int hi u, .int 1 v] }).objs.size], _, _, H, rfl,
    I1.kept (t' := tk) fun b o e => Heap.get?_push_of_some _ e, turn_range _ lo (hi - lo).toNat, ?_, fun b hb => ?_, q⟩
  · have e1 : lo + ((0 : Nat) : Int) * 1 = lo := by simp
    have e2 : (((hi - lo).toNat : Nat) : Int) - ((0 : Nat) : Int) = Builtin.Range.rangeSize lo hi 1 := by rw [rangeSize_one]; split <;> omega
    show IsRangeIter _ _ (lo + ((0 : Nat) : Int) * 1) ((((hi - lo).toNat : Nat) : Int) - ((0 : Nat) : Int)) 1
    rw [e1, e2]
    exact Heap.get?_push_size _ rfl
  · have e : b = (s.heap.push { cls := .type "range", data := .fields #[.int lo t, .int hi u, .int 1 v] }).objs.size := by simpa using hb
    subst e
    exact I1.fpOk (Nat.le_refl _) (I1.hok.fresh (Nat.le_refl _))
def iRng1 (ta : TA) : TI := fun σ H R => ta σ H fun vs H1 => ∃ j : Int, vs = [.int j] ∧ -(2 ^ 62) ≤ j ∧ j < 2 ^ 62 ∧ R (Itr 0 j.toNat) H1
theorem pi_range1 {a : Expr} {ta : TA} {p pos : Pos} (hg : Gl X "range") (hm : X.mg "range" = none) (ha : PA X [a] ta) (hs : starEach [a] X.env = [(false, eval a X.env)] := by rfl) : PI X tg (.Call (.Name "range" p) [a] [] pos) (iRng1 ta) := by
  intro pins s σ H R I h
  refine Call_ (ld_blt I hg hm boot_range (PyProof.Rows.callWith_type1 (thn (ha pos pins s σ H _ I h) fun us s1 ⟨vs, H1, I1, r1, q1⟩ => ?_) hs rfl))
  obtain ⟨j, e, q1, q2, q⟩ := q1
  subst e
  cases r1 with
  | cons r rr =>
    cases rr
    obtain ⟨t, rfl⟩ := r
    exact call_range_1 (range_it I1 (by omega) (by omega) q1 q2 (by simpa using q))
/-- W: the invariant by the turn and a measure; N: what the body is to reach -/
def tFor (wi : TI) (g : TG) (tb : TS) : TS := fun D σ H => wi σ H fun J H1 => ∃ W : Nat → Nat → St → Hp → Prop, (∃ m, W 0 m σ H1) ∧ ∀ i m σ H, W i m σ H →
  (J.stop i H ∧ D.nx σ H) ∨ (J.go i H ∧ ∃ N : St → Hp → Prop, (∀ σ' H', N σ' H' → ∃ m', m' < m ∧ W (i + 1) m' σ' H') ∧ ∀ x H', J.yld i H x H' → g x σ H' fun σ2 H2 => tb { D with nx := N, ct := N, bk := D.nx } σ2 H2)
/-- the records at fp as they stand -/
def pinsAt (fp : List Addr) (h : Heap) : List (Addr × Obj) := fp.filterMap fun b => (h.get? b).map fun o => (b, o)
theorem mem_pinsAt {fp : List Addr} {h : Heap} {b : Addr} {o : Obj} (hb : b ∈ fp) (e : h.get? b = some o) : (b, o) ∈ pinsAt fp h := List.mem_filterMap.mpr ⟨b, hb, by rw [e]; rfl⟩
theorem of_pinsAt {fp : List Addr} {h : Heap} {p : Addr × Obj} (hp : p ∈ pinsAt fp h) : p.1 ∈ fp ∧ h.get? p.1 = some p.2 := by
  obtain ⟨b, hb, e⟩ := List.mem_filterMap.mp hp
  cases q : h.get? b with
  | none => rw [q] at e; cases e
  | some o =>
    rw [q] at e
    have e' : (b, o) = p := Option.some.inj e
    subst e'
    exact ⟨hb, q⟩
theorem Inv.pinned {pins : List (Addr × Obj)} {σ : St} {H : Hp} {s : Shared} {fp : List Addr} (I : Inv X pins σ H s) (hf : ∀ b ∈ fp, FpOk X pins H b) (ho : ∀ b ∈ fp, ∃ o, s.heap.get? b = some o ∧ ∀ v, o.data ≠ .cell v) : Inv X (pins ++ pinsAt fp s.heap) σ H s :=
  I.pins_of fun p hp => (List.mem_append.mp hp).elim (fun z => I.pin p (List.mem_append_right _ z)) fun z => by
    obtain ⟨hb, e⟩ := of_pinsAt z
    obtain ⟨f0, f1, f2, _⟩ := hf p.1 hb
    obtain ⟨o, e', d⟩ := ho p.1 hb
    rw [e] at e'; cases e'
    exact ⟨e, f0, f1, f2, d⟩
theorem Inv.unpinned {pins pl : List (Addr × Obj)} {σ : St} {H : Hp} {s : Shared} (I : Inv X (pins ++ pl) σ H s) : Inv X pins σ H s := I.pins_of fun p hp => I.pin p (List.mem_append_right _ (List.mem_append_left _ hp))
theorem ps_for {iter : Expr} {body : List Stmt} {wi : TI} {g : TG} {tb : TS} {pos : Pos} (hp : PassesOwn (model X.prog X.w) X.A X.env X.xe) (hc : X.calm = true) (hi : PI X tg iter wi) (hg : PG X tg g) (hb : PSs X body tb)
    (hs : ∀ x, foldedSetIterable iter X.env x = pure x := by intro _; rfl) : PS X (.For tg iter body [] pos) (tFor wi g tb) := by
  intro pins s σ H D I h
  refine wpAny_For (thn (hi pins s σ H _ I h) fun v s1 h1 => thn h1 fun itv s2 h2 => ?_) hs
  obtain ⟨it, fp, tn, J, H2, e, I2, T, st2, f2, W, ⟨m0, w0⟩, turn⟩ := h2
  subst e
  -- what stays true of the iterator's objects through the loop
  have stat : ∀ {H' : Hp}, (∀ b ∈ fp, H' b = none) → ∀ b ∈ fp, FpOk X pins H' b := fun hn b hb => ⟨hn b hb, (f2 b hb).2⟩
  refine codeAny_forLoop_any (fun n s' => ∃ i σ' H', Inv X pins σ' H' s' ∧ tn i s'.heap ∧ (∀ b ∈ fp, H' b = none) ∧ W i n σ' H') ?_ m0 ⟨0, σ, H2, I2, st2, fun b hb => (f2 b hb).1, w0⟩
  rintro n s3 ⟨i, σ3, H3, I3, st3, fr3, w3⟩
  rcases turn i n σ3 H3 w3 with ⟨stop, qn⟩ | ⟨go, N, hN, step⟩
  · refine wpAny_passesOwn hp (thn (T.done X rfl rfl rfl hc i pins s3 σ3 H3 X.xe I3 (stat fr3) st3 stop) fun r s4 ⟨hr, I4⟩ => ?_)
    subst hr
    exact wpAny_execs_nil ⟨σ3, H3, I4, qn⟩
  · refine wpAny_passesOwn hp (thn (T.item X rfl rfl rfl hc i pins s3 σ3 H3 X.xe I3 (stat fr3) st3 go) fun r s4 ⟨u, hr, h4⟩ => ?_)
    subst hr
    refine wpAny_passesOwn hp (thn h4 fun _ s5 ⟨x, H5, I5, r5, y5, st5, fr5⟩ => ?_)
    have I5' := I5.pinned (stat fr5) (T.obj _ _ st5)
    refine wpAny_passesOwn hp (thn (hg _ s5 σ3 H5 x u _ I5' r5 (step x H5 y5)) fun _ s6 ⟨σ6, H6, I6, q6⟩ => ?_)
    refine wpAny_passesOwn hp (thn (hb _ s6 σ6 H6 _ I6 q6) fun f s7 q7 => ?_)
    have again : ∀ {σ7 : St} {H7 : Hp}, Inv X (pins ++ pinsAt fp s5.heap) σ7 H7 s7 → N σ7 H7 → ∃ m, m < n ∧ ∃ i σ' H', Inv X pins σ' H' s7 ∧ tn i s7.heap ∧ (∀ b ∈ fp, H' b = none) ∧ W i m σ' H' := fun {σ7 H7} I7 n7 => by
      obtain ⟨m', hm, w7⟩ := hN σ7 H7 n7
      refine ⟨m', hm, i + 1, σ7, H7, I7.unpinned, T.keep _ _ _ st5 fun b hb o e => (I7.pin (b, o) (List.mem_append_right _ (List.mem_append_right _ (mem_pinsAt hb e)))).1, fun b hb => ?_, w7⟩
      obtain ⟨o, e, d⟩ := T.obj _ _ st5 b hb
      exact (I7.pin (b, o) (List.mem_append_right _ (List.mem_append_right _ (mem_pinsAt hb e)))).2.1
    cases f with
    | next => obtain ⟨σ7, H7, I7, n7⟩ := q7; exact again I7 n7
    | cont => obtain ⟨σ7, H7, I7, n7⟩ := q7; exact again I7 n7
    | brk => obtain ⟨σ7, H7, I7, q7⟩ := q7; exact ⟨σ7, H7, I7.unpinned, q7⟩
    | ret v => obtain ⟨x7, σ7, H7, I7, r7, q7⟩ := q7; exact ⟨x7, σ7, H7, I7.unpinned, r7, q7⟩
end

end L2

namespace L2
open PySem PySem.Spec PyProof.Rows

abbrev R2 := V → V → Hp → VK → Prop
/-- a two-place operation on values: f is binaryOp op, inplaceOp op or compareOp op -/
def OpR (X : Cx) (f : Value → Value → Sem Value) (r : R2) : Prop :=
  ∀ (pins : List (Addr × Obj)) (s : Shared) (σ : St) (H : Hp) (x y : V) (v u : Value) (Q : VK), Inv X pins σ H s → RelV x v → RelV y u → r x y H Q →
    wpAny (model X.prog X.w) X.A (f v u) (EP X pins σ Q) X.xe s
/-- a one-place operation -/
def UnR (X : Cx) (f : Value → Sem Value) (r : V → Hp → VK → Prop) : Prop :=
  ∀ (pins : List (Addr × Obj)) (s : Shared) (σ : St) (H : Hp) (x : V) (v : Value) (Q : VK), Inv X pins σ H s → RelV x v → r x H Q →
    wpAny (model X.prog X.w) X.A (f v) (EP X pins σ Q) X.xe s
/-- a call of a value that is known (a builtin, a type) with values -/
def CallR (X : Cx) (f : Value) (r : List V → Hp → VK → Prop) : Prop :=
  ∀ (pins : List (Addr × Obj)) (s : Shared) (σ : St) (H : Hp) (xs : List V) (us : List Value) (Q : VK), Inv X pins σ H s → Vals xs us → r xs H Q →
    wpAny (model X.prog X.w) X.A (call f us) (EP X pins σ Q) X.xe s
/-- a value's truth -/
def TruR (X : Cx) (r : V → Hp → (Bool → Hp → Prop) → Prop) : Prop :=
  ∀ (pins : List (Addr × Obj)) (s : Shared) (σ : St) (H : Hp) (x : V) (v : Value) (Q : Bool → Hp → Prop), Inv X pins σ H s → RelV x v → r x H Q →
    wpAny (model X.prog X.w) X.A (truthy v) (TP X pins σ Q) X.xe s

def tOp (r : R2) (ta tb : TE) : TE := fun σ H Q => ta σ H fun x H1 => tb σ H1 fun y H2 => r x y H2 Q
def tUn (r : V → Hp → VK → Prop) (ta : TE) : TE := fun σ H Q => ta σ H fun x H1 => r x H1 Q
/-- ints in, under C, and a value out -/
def rI (C : Int → Int → Prop) (g : Int → Int → V) : R2 := fun x y H Q => ∃ i j, x = .int i ∧ y = .int j ∧ C i j ∧ Q (g i j) H
def rI0 (g : Int → Int → V) : R2 := fun x y H Q => ∃ i j, x = .int i ∧ y = .int j ∧ Q (g i j) H
def rU (g : Int → V) : V → Hp → VK → Prop := fun x H Q => ∃ i, x = .int i ∧ Q (g i) H

section
variable {X : Cx} {a b c : Expr} {ta tb tc : TE} {pos : Pos}

theorem binT (ha : PE X a ta) (hb : PE X b tb) {pins : List (Addr × Obj)} {s : Shared} {σ : St} {H : Hp} {R : V → V → Hp → Prop} (I : Inv X pins σ H s)
    (h : ta σ H fun x H1 => tb σ H1 fun y H2 => R x y H2) {Q : Value → Shared → Prop} {f : Value → Value → Sem Value}
    (hf : ∀ v u s2 x y H2, Inv X pins σ H2 s2 → RelV x v → RelV y u → R x y H2 → wpAny (model X.prog X.w) X.A (f v u) Q X.xe s2) :
    wpAny (model X.prog X.w) X.A (eval a X.env) (fun v s₁ => wpAny (model X.prog X.w) X.A (eval b X.env) (fun u s₂ => wpAny (model X.prog X.w) X.A (f v u) Q X.xe s₂) X.xe s₁) X.xe s := by
  refine thn (ha pins s σ H _ I h) fun v s1 ⟨x, H1, I1, r1, q1⟩ => ?_
  refine thn (hb pins s1 σ H1 _ I1 q1) fun u s2 ⟨y, H2, I2, r2, q2⟩ => ?_
  exact hf v u s2 x y H2 I2 r1 r2 q2

theorem pe_op {op : Operator} {r : R2} (ho : OpR X (binaryOp op) r) (ha : PE X a ta) (hb : PE X b tb) : PE X (.BinOp a op b pos) (tOp r ta tb) := by
  intro pins s σ H Q I h
  exact wpAny_BinOp (binT ha hb I h fun v u s2 x y H2 I2 rx ry q => ho pins s2 σ H2 x y v u Q I2 rx ry q)
theorem pe_un {op : UnaryOp} {r : V → Hp → VK → Prop} (ho : UnR X (unaryOp op) r) (ha : PE X a ta) : PE X (.UnaryOp op a pos) (tUn r ta) := by
  intro pins s σ H Q I h
  exact UnaryOp_ (thn (ha pins s σ H _ I h) fun v s1 ⟨x, H1, I1, r1, q1⟩ => ho pins s1 σ H1 x v Q I1 r1 q1)
theorem opI {f : Value → Value → Sem Value} {C : Int → Int → Prop} {g : Int → Int → Int}
    (rule : ∀ (i j : Int) (t u : Tok) (s : Shared) (Q : Value → Shared → Prop) (E : Value → Shared → Prop), C i j → Q (.int (g i j) s.toks) { s with toks := s.toks + 1 } → wpAny (model X.prog X.w) X.A (f (.int i t) (.int j u)) Q E s) :
    OpR X f (rI C fun i j => .int (g i j)) := by
  intro pins s σ H x y v u Q I rx ry h
  obtain ⟨i, j, rfl, rfl, hc, q⟩ := h
  obtain ⟨t, rfl⟩ := rx
  obtain ⟨t', rfl⟩ := ry
  exact rule i j t t' s _ _ hc ⟨.int (g i j), H, I.tok _, ⟨_, rfl⟩, q⟩
theorem opI0 {f : Value → Value → Sem Value} {g : Int → Int → Int}
    (rule : ∀ (i j : Int) (t u : Tok) (s : Shared) (Q : Value → Shared → Prop) (E : Value → Shared → Prop), Q (.int (g i j) s.toks) { s with toks := s.toks + 1 } → wpAny (model X.prog X.w) X.A (f (.int i t) (.int j u)) Q E s) :
    OpR X f (rI0 fun i j => .int (g i j)) := by
  intro pins s σ H x y v u Q I rx ry h
  obtain ⟨i, j, rfl, rfl, q⟩ := h
  obtain ⟨t, rfl⟩ := rx
  obtain ⟨t', rfl⟩ := ry
  exact rule i j t t' s _ _ ⟨.int (g i j), H, I.tok _, ⟨_, rfl⟩, q⟩
theorem opB0 {f : Value → Value → Sem Value} {g : Int → Int → Bool}
    (rule : ∀ (i j : Int) (t u : Tok) (s : Shared) (Q : Value → Shared → Prop) (E : Value → Shared → Prop), Q (.bool (g i j)) s → wpAny (model X.prog X.w) X.A (f (.int i t) (.int j u)) Q E s) :
    OpR X f (rI0 fun i j => .bl (g i j)) := by
  intro pins s σ H x y v u Q I rx ry h
  obtain ⟨i, j, rfl, rfl, q⟩ := h
  obtain ⟨t, rfl⟩ := rx
  obtain ⟨t', rfl⟩ := ry
  exact rule i j t t' s _ _ ⟨.bl (g i j), H, I, rfl, q⟩

def CPow (i j : Int) : Prop := 0 ≤ j ∧ j ≤ 1000000 ∧ i.natAbs < 2 ^ 64
def CMul (i j : Int) : Prop := (-(2 ^ 64) < i ∧ i < 2 ^ 64) ∨ (-(2 ^ 64) < j ∧ j < 2 ^ 64)
theorem CMul.ok {i j : Int} (h : CMul i j) : IntMulOk i j := by
  rcases h with ⟨h1, h2⟩ | ⟨h1, h2⟩
  · exact .of_left (intBits_le_64 h1 h2)
  · exact .of_right (intBits_le_64 h1 h2)
theorem op_add : OpR X (binaryOp .Add) (rI0 fun i j => .int (i + j)) := opI0 fun _ _ _ _ _ _ _ q => add_int q
theorem op_sub : OpR X (binaryOp .Sub) (rI0 fun i j => .int (i - j)) := opI0 fun _ _ _ _ _ _ _ q => sub_int q
theorem op_mul : OpR X (binaryOp .Mult) (rI CMul fun i j => .int (i * j)) := opI fun _ _ _ _ _ _ _ hc q => mul_int q hc.ok
/-- % by a positive divisor of any size -/
theorem op_mod : OpR X (binaryOp .Mod) (rI (fun _ j => 0 < j) fun i j => .int (i % j)) := opI fun i j _ _ _ _ _ hc q => by
  have h1 : (0 : Int) < j := hc
  exact mod_int' (by omega) (by rw [Int.fmod_eq_emod_of_nonneg i (by omega)]; exact q)
theorem op_pow : OpR X (binaryOp .Pow) (rI CPow fun i j => .int (i ^ j.toNat)) := opI fun _ _ _ _ _ _ _ hc q => pow_int_small hc.1 hc.2.1 hc.2.2 q
theorem unI {f : Value → Sem Value} {g : Int → Int}
    (rule : ∀ (i : Int) (t : Tok) (s : Shared) (Q : Value → Shared → Prop) (E : Value → Shared → Prop), Q (.int (g i) s.toks) { s with toks := s.toks + 1 } → wpAny (model X.prog X.w) X.A (f (.int i t)) Q E s) :
    UnR X f (rU fun i => .int (g i)) := by
  intro pins s σ H x v Q I rx h
  obtain ⟨i, rfl, q⟩ := h
  obtain ⟨t, rfl⟩ := rx
  exact rule i t s _ _ ⟨.int (g i), H, I.tok _, ⟨_, rfl⟩, q⟩
theorem un_neg : UnR X (unaryOp .USub) (rU fun i => .int (-i)) := unI fun _ _ _ _ _ q => neg_int q
end

section
variable {X : Cx} {a b c : Expr} {ta tb tc : TE} {pos : Pos}
theorem fin_bl {pins : List (Addr × Obj)} {σ : St} {H : Hp} {s : Shared} {Q : VK} {k k' : Bool} (I : Inv X pins σ H s) (q : Q (.bl k) H) (e : k = k') : EP X pins σ Q (.bool k') s := by
  subst e
  exact ⟨.bl k, H, I, rfl, q⟩
theorem op_lt : OpR X (compareOp .Lt) (rI0 fun i j => .bl (decide (i < j))) := opB0 fun _ _ _ _ _ _ _ q => lt_int q
theorem op_le : OpR X (compareOp .LtE) (rI0 fun i j => .bl (decide (i ≤ j))) := opB0 fun _ _ _ _ _ _ _ q => le_int q
theorem op_ge : OpR X (compareOp .GtE) (rI0 fun i j => .bl (decide (j ≤ i))) := opB0 fun _ _ _ _ _ _ _ q => ge_int q
/-- is None, is not None: the right side a value none -/
theorem op_isN : OpR X (compareOp .Is) (fun x y H Q => y = .non ∧ Q (.bl (decide (x = .non))) H) := by
  intro pins s σ H x y v u Q I rx ry h
  obtain ⟨rfl, q⟩ := h
  cases ry
  refine is_none_gen (fin_bl I q ?_)
  cases x <;> first
    | (cases rx; rfl)
    | (obtain ⟨t, rfl⟩ := rx; rfl)
theorem op_notN : OpR X (compareOp .IsNot) (fun x y H Q => y = .non ∧ Q (.bl (!decide (x = .non))) H) := by
  intro pins s σ H x y v u Q I rx ry h
  obtain ⟨rfl, q⟩ := h
  cases ry
  refine isnot_none_gen (fin_bl I q ?_)
  cases x <;> first
    | (cases rx; rfl)
    | (obtain ⟨t, rfl⟩ := rx; rfl)

/-- two rules for one operation: by cases -/
theorem OpR.or {f : Value → Value → Sem Value} {r r' : R2} (h : OpR X f r) (h' : OpR X f r') : OpR X f (fun x y H Q => r x y H Q ∨ r' x y H Q) := by
  intro pins s σ H x y v u Q I rx ry q
  rcases q with q | q
  · exact h pins s σ H x y v u Q I rx ry q
  · exact h' pins s σ H x y v u Q I rx ry q

theorem nomark (b : Expr) {op : CmpOp} (h : op ≠ .In := by decide) (h2 : op ≠ .NotIn := by decide) : behindInMarks op b = false := by
  have e1 : (op == CmpOp.In) = false := by cases op <;> first | rfl | exact absurd rfl h
  have e2 : (op == CmpOp.NotIn) = false := by cases op <;> first | rfl | exact absurd rfl h2
  cases b <;> simp [behindInMarks, e1, e2]
/-- a comparison as a value; hm: nomark b, or (for in, not in) by with_unfolding_all rfl -/
theorem pe_cmpR {op : CmpOp} {r : R2} (ho : OpR X (compareOp op) r) (ha : PE X a ta) (hb : PE X b tb) (hm : behindInMarks op b = false) : PE X (.Compare a [op] [b] pos) (tOp r ta tb) := by
  intro pins s σ H Q I h
  exact wpAny_Compare1 (binT ha hb I h fun v u s2 x y H2 I2 rx ry q => ho pins s2 σ H2 x y v u Q I2 rx ry q) hm
/-- a reading of a value as a test -/
def tTest (t : TE) : TT := fun σ H Q => t σ H fun x H' => ∃ k, x = .bl k ∧ Q k H'
theorem pt_cmpR {op : CmpOp} {r : R2} (ho : OpR X (compareOp op) r) (ha : PE X a ta) (hb : PE X b tb) (hm : behindInMarks op b = false) : PT X (.Compare a [op] [b] pos) (tTest (tOp r ta tb)) := by
  intro pins s σ H Q I h
  refine wpAny_isTrue_Compare1 (thn (ha pins s σ H _ I h) fun v s1 ⟨x, H1, I1, r1, q1⟩ => thn (hb pins s1 σ H1 _ I1 q1) fun u s2 ⟨y, H2, I2, r2, q2⟩ =>
    thn (ho pins s2 σ H2 x y v u _ I2 r1 r2 q2) fun c s3 ⟨z, H3, I3, r3, k, e, q3⟩ => ?_) hm
  subst e
  cases r3
  exact wpAny_truthy_bool ⟨H3, I3, q3⟩
/-- a value's truth by the abstract heap -/
def TruV (K : PySem.W.Frag) (x : V) (H : Hp) (k : Bool) : Prop :=
  match x with
  | .non => k = false
  | .bl b => k = b
  | .int i => k = (i != 0)
  | .str y => y.length ≤ sizeLine ∧ k = ((y.length : Int) != 0)
  | .byt y => y.size ≤ sizeLine ∧ k = ((y.size : Int) != 0)
  | .ref p => (∃ xs, SqL K H p xs ∧ k = !xs.isEmpty) ∨ (∃ xs, SqT K H p xs ∧ k = !xs.isEmpty) ∨ ∃ kvs, H p = some (.dK kvs) ∧ k = !kvs.isEmpty
  | _ => False
theorem isEmpty_kv {κ : Type} {kvs : List (κ × V)} {vs : List (κ × Value)} (r : KV kvs vs) : (!vs.isEmpty) = !kvs.isEmpty := by
  cases r <;> rfl
theorem isEmpty_of {xs : List V} {its : List Value} (r : Vals xs its) : (!its.toArray.isEmpty) = !xs.isEmpty := by
  cases r <;> simp
theorem line63 : (sizeLine : Nat) < 2 ^ 63 := by rw [sizeLine_eq]; decide
theorem tru_ok : TruR X (fun x H Q => ∃ k, TruV X.K x H k ∧ Q k H) := by
  intro pins s σ H x v Q I rx h
  obtain ⟨k, e, q⟩ := h
  have hl := line63
  have hs : sizeLine = 16777216 := sizeLine_eq
  cases x with
  | non =>
    cases rx
    have e' : k = false := e
    subst e'
    exact truthy_none ⟨H, I, q⟩
  | bl b =>
    cases rx
    have e' : k = b := e
    subst e'
    exact wpAny_truthy_bool ⟨H, I, q⟩
  | int i =>
    obtain ⟨t, rfl⟩ := rx
    have e' : k = (i != 0) := e
    subst e'
    exact PySem.P.truthy_int ⟨H, I, q⟩
  | str y =>
    obtain ⟨t, rfl⟩ := rx
    obtain ⟨hy, e'⟩ : y.length ≤ sizeLine ∧ k = ((y.length : Int) != 0) := e
    subst e'
    exact PySem.P.truthy_str (by omega) ⟨H, I.tok _, q⟩
  | byt y =>
    obtain ⟨t, rfl⟩ := rx
    obtain ⟨hy, e'⟩ : y.size ≤ sizeLine ∧ k = ((y.size : Int) != 0) := e
    subst e'
    exact PySem.W.truthy_bytes (by omega) ⟨H, I.tok _, q⟩
  | ref p =>
    cases rx
    have e' : (∃ xs, SqL X.K H p xs ∧ k = !xs.isEmpty) ∨ (∃ xs, SqT X.K H p xs ∧ k = !xs.isEmpty) ∨ ∃ kvs, H p = some (.dK kvs) ∧ k = !kvs.isEmpty := e
    rcases e' with ⟨xs, hx, e'⟩ | ⟨xs, hx, e'⟩ | ⟨kvs, hx, e'⟩
    · subst e'
      obtain ⟨its, r, pl, hz⟩ := I.list hx
      have hlen := r.length
      exact wpAny_truthy_list pl.isList (by simp only [List.size_toArray]; omega) ⟨H, I.tok _, by rw [isEmpty_of r]; exact q⟩
    · subst e'
      obtain ⟨its, r, pl, hz⟩ := I.tuple hx
      have hlen := r.length
      exact truthy_tuple pl (by simp only [List.size_toArray]; omega) ⟨H, I.tok _, by rw [isEmpty_of r]; exact q⟩
    · subst e'
      obtain ⟨hz, hS, vs, r, m⟩ : kvs.length ≤ sizeLine ∧ (p == sysModules) = false ∧ ∃ vs, KV kvs vs ∧ s.heap.DictOf (mixKind X.prog X.w) p vs := I.hok p _ hx
      have hlen : kvs.length = vs.length := Paired.length r
      exact wpAny_truthy_dict hS m (by omega) ⟨H, I.tok _, by rw [isEmpty_kv r]; exact q⟩
  | _ => exact (show False from e).elim
/-- any expression whose test is its value's truth (a name, a call, a subscript, a field ..: he by fun _ => rfl) -/
theorem pt_truth (ha : PE X a ta) (he : ∀ whole, isTrue a X.env whole = (do let v ← whole; standAt a.pos; holding [v] (truthy v))) :
    PT X a (fun σ H Q => ta σ H fun x H' => ∃ k, TruV X.K x H' k ∧ Q k H') := by
  intro pins s σ H Q I h
  exact isTrue_plain (thn (ha pins s σ H _ I h) fun v s1 ⟨x, H1, I1, r1, q1⟩ => tru_ok pins s1 σ H1 x v Q I1 r1 q1) (he _)

theorem op_add_str : OpR X (binaryOp .Add) (fun x y H Q => ∃ i j, x = .str i ∧ y = .str j ∧ i.length + j.length ≤ sizeLine ∧ Q (.str (i ++ j)) H) := by
  intro pins s σ H x y v u Q I rx ry h
  obtain ⟨i, j, rfl, rfl, hz, q⟩ := h
  obtain ⟨t, rfl⟩ := rx
  obtain ⟨t', rfl⟩ := ry
  exact add_str (fun t' tk => ⟨.str (i ++ j), H, I.tok _, ⟨_, rfl⟩, q⟩) hz
theorem vals1 {x : V} {us : List Value} (r : Vals [x] us) : ∃ u, us = [u] ∧ RelV x u := by
  cases r with
  | cons r1 r2 => cases r2; exact ⟨_, rfl, r1⟩
theorem vals2 {x y : V} {us : List Value} (r : Vals [x, y] us) : ∃ u w', us = [u, w'] ∧ RelV x u ∧ RelV y w' := by
  cases r with
  | cons r1 r2 =>
    cases r2 with
    | cons r3 r4 => cases r4; exact ⟨_, _, rfl, r1, r3⟩
theorem call_max2 (hc : X.calm = true) : CallR X (.builtin "max") (fun xs H Q => ∃ i j, xs = [.int i, .int j] ∧ Q (.int (if j > i then j else i)) H) := by
  intro pins s σ H xs us Q I r h
  obtain ⟨i, j, rfl, q⟩ := h
  obtain ⟨u, w', rfl, ⟨t, rfl⟩, ⟨t', rfl⟩⟩ := vals2 r
  refine max_two_ints (I.ok.hd hc) fun h' tk k => ⟨_, H, I.kept k, ?_, q⟩
  by_cases hj : j > i
  · rw [if_pos hj, if_pos hj]; exact ⟨_, rfl⟩
  · rw [if_neg hj, if_neg hj]; exact ⟨_, rfl⟩
theorem call_int1 : CallR X (.type "int") (fun xs H Q => (∃ i, xs = [.int i] ∧ Q (.int i) H) ∨ ∃ k, xs = [.bl k] ∧ Q (.int (if k then 1 else 0)) H) := by
  intro pins s σ H xs us Q I r h
  rcases h with ⟨i, rfl, q⟩ | ⟨k, rfl, q⟩
  · obtain ⟨u, rfl, t, rfl⟩ := vals1 r
    exact call_int_int ⟨.int i, H, I, ⟨_, rfl⟩, q⟩
  · obtain ⟨u, rfl, r1⟩ := vals1 r
    cases r1
    exact call_int_bool ⟨.int (if k then 1 else 0), H, I.tok _, ⟨_, rfl⟩, q⟩
/-- len of a str, a bytes, a list, a tuple -/
def LenV (K : PySem.W.Frag) (x : V) (H : Hp) (n : Nat) : Prop :=
  match x with
  | .str y => y.length ≤ sizeLine ∧ n = y.length
  | .byt y => y.size ≤ sizeLine ∧ n = y.size
  | .ref p => (∃ xs, SqL K H p xs ∧ n = xs.length) ∨ ∃ xs, SqT K H p xs ∧ n = xs.length
  | _ => False
theorem call_len : CallR X (.builtin "len") (fun xs H Q => ∃ x n, xs = [x] ∧ LenV X.K x H n ∧ Q (.int n) H) := by
  intro pins s σ H xs us Q I r h
  obtain ⟨x, n, rfl, e, q⟩ := h
  obtain ⟨u, rfl, rx⟩ := vals1 r
  have hl := line63
  have hs : sizeLine = 16777216 := sizeLine_eq
  cases x with
  | str y =>
    obtain ⟨t, rfl⟩ := rx
    obtain ⟨hy, e'⟩ : y.length ≤ sizeLine ∧ n = y.length := e
    subst e'
    exact len_str (by omega) ⟨.int _, H, I.tok _, ⟨_, rfl⟩, q⟩
  | byt y =>
    obtain ⟨t, rfl⟩ := rx
    obtain ⟨hy, e'⟩ : y.size ≤ sizeLine ∧ n = y.size := e
    subst e'
    exact PySem.W.len_bytes (by omega) ⟨.int _, H, I.tok _, ⟨_, rfl⟩, q⟩
  | ref p =>
    cases rx
    have e' : (∃ xs, SqL X.K H p xs ∧ n = xs.length) ∨ ∃ xs, SqT X.K H p xs ∧ n = xs.length := e
    rcases e' with ⟨xs, hx, e'⟩ | ⟨xs, hx, e'⟩
    · subst e'
      obtain ⟨its, r', pl, hz⟩ := I.list hx
      have hlen := r'.length
      exact Calls.call_len_list pl.isList (by simp only [List.size_toArray]; omega) ⟨.int xs.length, H, I.tok _, ⟨_, by simp only [List.size_toArray]; rw [hlen]⟩, q⟩
    · subst e'
      obtain ⟨its, r', pl, hz⟩ := I.tuple hx
      have hlen := r'.length
      exact len_tuple pl (by simp only [List.size_toArray]; omega) ⟨.int xs.length, H, I.tok _, ⟨_, by simp only [List.size_toArray]; rw [hlen]⟩, q⟩
  | _ => exact (show False from e).elim
end
end L2

namespace L2
open PySem PySem.Spec PyProof.Rows

structure ObjM (h : Heap) (x dx C : Addr) (mA : Str → Option Value) : Prop where
  obj : h.get? x = some (PySem.W.instObj C dx)
  ns : h.Ns1 dx mA
  ne : dx ≠ x

theorem lookIn_ns {h : Heap} {dx : Addr} {mA : Str → Option Value} (n : h.Ns1 dx mA) : ∃ od, h.get? dx = some od ∧ ∀ name, PySem.W.lookIn name od = some (mA name) := by
  obtain ⟨o, es, ep, ho, hd, hk, _, hm⟩ := n
  refine ⟨o, ho, fun name => ?_⟩
  have e := hm name
  unfold nsFind findBy at e
  rw [← Array.find?_toList] at e
  unfold PySem.W.lookIn
  rw [hd]
  dsimp only
  split
  · rename_i y q
    rw [q] at e
    exact congrArg some e
  · rename_i q
    rw [q] at e
    have a : es.toList.any (·.refKey) = false := by
      rw [List.any_eq_false]
      intro y hy
      obtain ⟨z, t, hkey⟩ := hk y (Array.mem_toList_iff.mp hy)
      simp [DictEntry.refKey, hkey]
    have a' : ¬ es.toList.any (·.refKey) = true := by rw [a]; exact Bool.false_ne_true
    rw [if_neg a']
    exact congrArg some e

theorem ObjM.look {h : Heap} {x dx C : Addr} {mA : Str → Option Value} (I : ObjM h x dx C mA) : ∃ od, PySem.W.InstAt h x (PySem.W.instObj C dx) C (some od) ∧ ∀ name, PySem.W.lookIn name od = some (mA name) :=
  let ⟨od, ho, hl⟩ := lookIn_ns I.ns
  ⟨od, ⟨I.obj, rfl, rfl, ho⟩, hl⟩

section
variable {prog : Program} {w : World} {A : Around} {E : Value → Shared → Prop} {s : Shared} {K : PySem.W.Frag} {x dx C f : Addr} {mA : Str → Option Value} {name : Str} {v : Value}

end

section
variable {P : Program} {w : World} {H H' : Hp} {h h' : Heap} {a C dx : Addr} {fs fs' : List (Str × V)}
end

structure Cls (K : PySem.W.Frag) (C : Addr) : Prop where
  pg : PySem.W.plainGet K C Str.empty = true
  hd : PySem.W.hasDictIn K C = true
  po : PySem.W.plainOver K C = true
  sa : PySem.W.findIn K (.ref C) "__setattr__" = some (some (.builtin "object.__setattr__"))
theorem Cls.get {K : PySem.W.Frag} {C : Addr} (c : Cls K C) (f : Str) : PySem.W.plainGet K C f = true := c.pg
/-- a constant of the class -/
structure Con (K : PySem.W.Frag) (C : Addr) (f : Str) (v : V) (u : Value) : Prop where
  at_ : PySem.W.findIn K (.ref C) f = some (some u)
  rel : RelV v u
  get : PySem.W.specialIn K u "__get__" = some none
  cp : PySem.W.copiedNames.contains f = false
/-- a method: a plain def of the class or of one above it -/
structure Meth (K : PySem.W.Frag) (C : Addr) (m : Str) (f : Addr) : Prop where
  at_ : PySem.W.findIn K (.ref C) m = some (some (.ref f))
  fn : PySem.W.isFn K (.ref f) = true
  kp : PySem.W.keepIn K (.ref f) = true

section
variable {X : Cx} {pins : List (Addr × Obj)} {σ : St} {H : Hp} {s : Shared} {a C dx : Addr} {fs : List (Str × V)} {f : Str} {v : V} {A : Around} {E : Value → Shared → Prop}

/-- a new instance, tracked, without attributes -/
theorem Inv.made (I : Inv X pins σ H s) : Inv X pins σ (upd (upd H s.heap.objs.size (.own (s.heap.objs.size + 1))) (s.heap.objs.size + 1) (.ins C s.heap.objs.size []))
    { s with heap := (s.heap.push PySem.W.emptyDict).push (PySem.W.instObj C s.heap.objs.size) } := by
  have e1 : (s.heap.push PySem.W.emptyDict).get? s.heap.objs.size = some PySem.W.emptyDict := Heap.get?_push_size s.heap rfl
  have e2 : ((s.heap.push PySem.W.emptyDict).push (PySem.W.instObj C s.heap.objs.size)).get? (s.heap.objs.size + 1) = some (PySem.W.instObj C s.heap.objs.size) := by
    have := Heap.get?_push_size (s.heap.push PySem.W.emptyDict) (o := PySem.W.instObj C s.heap.objs.size) rfl
    rwa [Heap.size_push] at this
  have e3 : (s.heap.push PySem.W.emptyDict).Ns s.heap.objs.size (fun _ => none) := ⟨PySem.W.emptyDict, #[], _, e1, rfl, (fun e he => absurd he (by simp)), fun _ => rfl⟩
  have I1 := I.laid (a := s.heap.objs.size) (o := .own (s.heap.objs.size + 1)) (h' := s.heap.push PySem.W.emptyDict) (t' := s.toks) (fun b u q => Heap.get?_push_of_some _ q) (Nat.le_refl _) ⟨_, e1⟩
  refine I1.laid (a := s.heap.objs.size + 1) (o := .ins C s.heap.objs.size []) (t' := s.toks) (fun b u q => Heap.get?_push_of_some _ q) (Nat.le_of_eq (Heap.size_push _ _)) ?_
  have ne : s.heap.objs.size ≠ s.heap.objs.size + 1 := Nat.ne_of_lt (Nat.lt_succ_self _)
  refine ⟨by rw [upd_ne ne, upd_same], Nat.zero_le _, ne, e2, fun _ => none, (Heap.Ns1.of_empty e3).at fun o q => Heap.get?_push_of_some _ q, fun _ => True.intro, fun y hy => absurd rfl hy⟩

end

section
variable {X : Cx} {o e value : Expr} {f : Str} {pos pos' tpos : Pos} {ta tv : TE}
end

section
variable {X : Cx} {pins : List (Addr × Obj)} {σ : St} {H : Hp} {s : Shared} {A : Around} {E : Value → Shared → Prop} {Q : Value → Shared → Prop} {c : Value} {b : Bool}
/-- the type of a value, as the fragment's deciders take it; for an instance its class -/
inductive TyOf (K : PySem.W.Frag) (H : Hp) : V → Value → Prop where
  | non : TyOf K H .non (.type "NoneType")
  | bl (x : Bool) : TyOf K H (.bl x) (.type "bool")
  | int (i : Int) : TyOf K H (.int i) (.type "int")
  | str (x : Str) : TyOf K H (.str x) (.type "str")
  | flt (x : UInt64) : TyOf K H (.flt x) (.type "float")
  | lst {a : Addr} {xs : List V} (e : H a = some (.lst xs)) : TyOf K H (.ref a) (.type "list")
  | frz {a : Addr} {o : Obj} {xs : List V} (e : H a = some (.frz o (.lst xs))) : TyOf K H (.ref a) (.type "list")
  | tup {a : Addr} {xs : List V} (e : H a = some (.tup xs)) : TyOf K H (.ref a) (.type "tuple")
  | dK {a : Addr} {kvs : List (Key × V)} (e : H a = some (.dK kvs)) : TyOf K H (.ref a) (.type "dict")
  | dT {a : Addr} {kvs : List (List Key × V)} (e : H a = some (.dT kvs)) : TyOf K H (.ref a) (.type "dict")
  | ins {a C dx : Addr} {fs : List (Str × V)} (e : H a = some (.ins C dx fs)) (cl : Cls K C) (ha : PySem.W.findIn K (.ref C) "__class__" = some (some (.builtin "object.__class__")))
      (hn : PySem.W.specialIn K (.builtin "object.__class__") "__get__" = some (some (.builtin "getset_descriptor.__get__"))) (htk : PySem.W.takesIn K (.builtin "object.__class__") = some true)
      (hm : PySem.W.mroIn K C (.type "object") = some true) : TyOf K H (.ref a) (.ref C)
end
end L2

namespace L2
open PySem PySem.Spec PyProof.Rows

structure Room (k : Nat) (A : Around) : Prop where
  hd : A.handled = none
  dp : A.depth + 3 * k + 5 < recursionLimit
  un : A.units + 16 * k + 200 < cLine
  gd : A.guards = some []
theorem Room.mono {j k : Nat} {A : Around} (r : Room k A) (h : j ≤ k) : Room j A := ⟨r.hd, by have := r.dp; omega, by have := r.un; omega, r.gd⟩
theorem Room.deeper {k : Nat} {A : Around} (r : Room (k + 1) A) (env : Env) : Room k (A.deeper env) :=
  ⟨r.hd, by have := r.dp; show A.depth + 1 + 3 * k + 5 < _; omega, by have := r.un; show A.units + 3 + 16 * k + 200 < _; omega, r.gd⟩
theorem Room.in1 {k : Nat} {A : Around} (r : Room (k + 1) A) : Room k A.in1 :=
  ⟨r.hd, by have := r.dp; show A.depth + 3 * k + 5 < _; omega, by have := r.un; show A.units + 1 + 16 * k + 200 < _; omega, r.gd⟩
theorem Room.depth {k : Nat} {A : Around} (r : Room k A) : A.depth < recursionLimit := by have := r.dp; omega
theorem Room.units {k : Nat} {A : Around} (r : Room k A) : A.units + 64 < cLine := by have := r.un; omega
def tNil : TA := fun _ H Q => Q [] H
def tCons (ta : TE) (tr : TA) : TA := fun σ H Q => ta σ H fun x H1 => tr σ H1 fun xs H2 => Q (x :: xs) H2
section
variable {X : Cx} {e : Expr} {es : List Expr} {te : TE} {t : TA} {pos : Pos}
theorem pa_nil : PA X [] tNil := fun _ _ _ _ H Q I h => Calls.spliced_nil ⟨[], H, I, .nil, h⟩
theorem pa_cons (ha : PE X e te) (hr : PA X es t) (hs : starEach (e :: es) X.env = (false, eval e X.env) :: starEach es X.env := by rfl) : PA X (e :: es) (tCons te t) := by
  intro pos pins s σ H Q I h
  rw [hs]
  show wpAny _ _ (spliced ((false, eval e X.env) :: backTo pos (starEach es X.env))) _ _ s
  refine Calls.spliced_cons (thn (ha pins s σ H _ I h) fun u s1 ⟨x, H1, I1, r1, q1⟩ => ?_)
  exact thn (hr pos pins s1 σ H1 _ I1 q1) fun us s2 ⟨xs, H2, I2, r2, q2⟩ => ⟨x :: xs, H2, I2, .cons r1 r2, q2⟩

/-- a tuple, a list of written items -/
def tTup (t : TA) : TE := fun σ H Q => t σ H fun xs H1 => xs.length ≤ sizeLine ∧ ∀ p, H1 p = none → Q (.ref p) (upd H1 p (.tup xs))
def tLst (t : TA) : TE := fun σ H Q => t σ H fun xs H1 => xs.length ≤ sizeLine ∧ ∀ p, H1 p = none → Q (.ref p) (upd H1 p (.lst xs))
theorem pe_tup {x1} (h : PA X es t) : PE X (.Tuple es x1 pos) (tTup t) := by
  intro pins s σ H Q I hq
  refine wpAny_Tuple_spliced (thn (h pos pins s σ H _ I hq) fun us s1 ⟨xs, H1, I1, r, z, q⟩ => ⟨by rw [← r.length]; exact z, ?_⟩)
  have hf : H1 s1.heap.objs.size = none := I1.hok.fresh (Nat.le_refl _)
  refine ⟨.ref s1.heap.objs.size, upd H1 s1.heap.objs.size (.tup xs), I1.laid (t' := s1.toks) (fun b u e => Heap.get?_push_of_some _ e) (Nat.le_refl _) ?_, rfl, q _ hf⟩
  exact ⟨z, us, r, ⟨_, Heap.get?_push_size _ rfl, rfl, _, rfl, rfl⟩⟩
theorem pe_lst (h : PA X es t) : PE X (.List es pos) (tLst t) := by
  intro pins s σ H Q I hq
  refine wpAny_List_spliced (thn (h pos pins s σ H _ I hq) fun us s1 ⟨xs, H1, I1, r, z, q⟩ => ⟨by rw [← r.length]; exact z, ?_⟩)
  have hf : H1 s1.heap.objs.size = none := I1.hok.fresh (Nat.le_refl _)
  refine ⟨.ref s1.heap.objs.size, upd H1 s1.heap.objs.size (.lst xs), I1.laid (t' := s1.toks) (fun b u e => Heap.get?_push_of_some _ e) (Nat.le_refl _) ?_, rfl, q _ hf⟩
  exact ⟨z, us, 0, r, Heap.get?_push_size _ rfl⟩
end

/-- a def's promise: the bound arguments in the parameters' order, the heap, the wanted end, the wanted exception -/
abbrev Sp := List V → Hp → VK → XK → Prop
/-- how an exception lies behind a call (file 08 gives it): the callers' frames, abstract heap and state ahead of the call, the wish, the exception, the state -/
abbrev CXT := List Env → Hp → Shared → XK → Value → Shared → Prop

/-- the state at a call -/
structure Env0 (P : Program) (w : World) (K : PySem.W.Frag) (mg : Str → Option Value) (base : Heap) (A : Around) (outer : List Env) (s : Shared) (H : Hp) : Prop where
  frames : A.frames = some outer
  mod : Mod K mg base
  bs : ∀ b o, base.get? b = some o → s.heap.get? b = some o ∧ H b = none
  bsz : base.objs.size ≤ s.heap.objs.size
  funs : s.heap.FunFrames base outer
  frf : ∀ b ∈ frs outer, H b = none
  hok : HOk P w H s.heap
  bare : AllBare s.gens
/-- a call's end -/
def CE (outer : List Env) (P : Program) (w : World) (H : Hp) (s : Shared) (Q : VK) (u : Value) (s' : Shared) : Prop :=
  ∃ v H', s'.os = s.os ∧ AllBare s'.gens ∧ Un (frs outer) [] H H' s.heap s'.heap ∧ HOk P w H' s'.heap ∧ RelV v u ∧ Q v H'
def CR (CX : CXT) (outer : List Env) (P : Program) (w : World) (H : Hp) (s : Shared) (Q : VK) (E : XK) (r : Result) (s' : Shared) : Prop :=
  match r with
  | .ok (.ret u) => CE outer P w H s Q u s'
  | .ok _ => False
  | .error e => CX outer H s E e s'
structure FnOk (P : Program) (w : World) (K : PySem.W.Frag) (mg : Str → Option Value) (base : Heap) (CX : CXT) (k : Nat) (f : Addr) (fd : FuncData) (ps : List Str) (sp : Sp) : Prop where
  len : ∀ vs H Q E, sp vs H Q E → vs.length = ps.length
  run : ∀ (A : Around) (outer : List Env) (s : Shared) (H : Hp) (args : Args) (us : List Value) (vs : List V) (Q : VK) (E : XK), Room k A → Env0 P w K mg base A outer s H → BindsTo s fd args (ps.zip us) → Vals vs us → sp vs H Q E →
    codeAny (model P w) A (.call (.ref f) args) (CR CX outer P w H s Q E) s
theorem FnOk.mono {P : Program} {w : World} {K : PySem.W.Frag} {mg : Str → Option Value} {base : Heap} {CX : CXT} {j k : Nat} {f : Addr} {fd : FuncData} {ps : List Str} {sp : Sp} (F : FnOk P w K mg base CX j f fd ps sp) (h : j ≤ k) :
    FnOk P w K mg base CX k f fd ps sp := ⟨F.len, fun A outer s H args us vs Q E hr => F.run A outer s H args us vs Q E (hr.mono h)⟩
/-- a weaker promise -/
theorem FnOk.imp {P : Program} {w : World} {K : PySem.W.Frag} {mg : Str → Option Value} {base : Heap} {CX : CXT} {k : Nat} {f : Addr} {fd : FuncData} {ps : List Str} {sp sp' : Sp} (F : FnOk P w K mg base CX k f fd ps sp)
    (h : ∀ vs H Q E, sp' vs H Q E → sp vs H Q E) : FnOk P w K mg base CX k f fd ps sp' :=
  ⟨fun vs H Q E q => F.len vs H Q E (h _ _ _ _ q), fun A outer s H args us vs Q E hr he hb hv hs => F.run A outer s H args us vs Q E hr he hb hv (h _ _ _ _ hs)⟩

theorem Env0.in1 {P : Program} {w : World} {K : PySem.W.Frag} {mg : Str → Option Value} {base : Heap} {A : Around} {outer : List Env} {s : Shared} {H : Hp} (e : Env0 P w K mg base A outer s H) :
    Env0 P w K mg base A.in1 outer s H := ⟨e.frames, e.mod, e.bs, e.bsz, e.funs, e.frf, e.hok, e.bare⟩

section
variable {X : Cx} {pins : List (Addr × Obj)} {σ : St} {H : Hp} {s s' : Shared}
/-- from a body: what a callee wants -/
theorem Inv.env0 (I : Inv X pins σ H s) : Env0 X.prog X.w X.K X.mg X.base X.A X.stack s H :=
  ⟨I.ok.frames, I.ok.mod, I.bs, Nat.le_trans I.ok.bsz I.sz, I.stack, I.stkFree, I.hok, I.bare⟩
/-- behind a call -/
theorem Inv.after {Q : VK} {u : Value} (I : Inv X pins σ H s) (h : CE X.stack X.prog X.w H s Q u s') : EP X pins σ Q u s' := by
  obtain ⟨v, H', os, bare, un, hok, r, q⟩ := h
  obtain ⟨hh, g, d, t, os'⟩ := s'
  obtain rfl : os' = s.os := os
  exact ⟨v, H', I.call (h' := hh) (g' := g) (d' := d) (t' := t) (ch := []) un hok bare (fun b z => absurd z (by simp)), r, q⟩
end

/-- f(..): the written arguments, then the defaults dvs; E: what is wanted of an exception -/
def tCall (sp : Sp) (dvs : List V) (E : XK) (t : TA) : TE := fun σ H Q => t σ H fun vs H1 => sp (vs ++ dvs) H1 Q E
/-- how the parameters are bound: us the positional arguments, kw the keywords' values by name, ds the defaults that fill up -/
def Binds (K : PySem.W.Frag) (fd : FuncData) (ps : List Str) (ds : List Value) : Prop :=
  ∀ (s : Shared) (us : List Value), K.In s.heap → (us ++ ds).length = ps.length → BindsTo s fd ⟨us, []⟩ (ps.zip (us ++ ds))
/-- every parameter is given -/
theorem Binds.all {K : PySem.W.Frag} {fd : FuncData} {ps : List Str} (h : ∀ us : List Value, us.length = ps.length → bindArgs fd ⟨us, []⟩ = pure (ps.zip us)) : Binds K fd ps [] := fun s us _ hl => by
  rw [List.append_nil] at hl ⊢
  exact .of_eq (h us hl)

/-- an exception of a callee reaches what this body wants of exceptions -/
def Passes (CX : CXT) (X : Cx) (E : XK) : Prop := ∀ (pins : List (Addr × Obj)) (σ : St) (H : Hp) (s : Shared) (e : Value) (s' : Shared), Inv X pins σ H s → CX X.stack H s E e s' → X.xe e s'

section
variable {X : Cx} {CX : CXT} {k : Nat} {f C : Addr} {fd : FuncData} {ps : List Str} {sp : Sp} {dvs : List V} {ds : List Value} {E : XK} {x m : Str} {p pos apos : Pos} {e o : Expr} {es : List Expr} {ta : TE} {t : TA}

/-- the callee runs -/
theorem run_fn {pins : List (Addr × Obj)} {σ : St} {H : Hp} {s : Shared} {Q : VK} {us : List Value} {vs : List V} (F : FnOk X.prog X.w X.K X.mg X.base CX k f fd ps sp) (hr : Room k X.A) (hb : Binds X.K fd ps ds) (hd : Vals dvs ds) (hx : Passes CX X E)
    (I : Inv X pins σ H s) (r : Vals vs us) (h : sp (vs ++ dvs) H Q E) : wpAny (model X.prog X.w) X.A (call (.ref f) us) (EP X pins σ Q) X.xe s := by
  have r2 : Vals (vs ++ dvs) (us ++ ds) := r.append hd
  have hl : (us ++ ds).length = ps.length := by rw [← r2.length]; exact F.len _ _ _ _ h
  refine wpAny_call (codeAny_mono (F.run X.A X.stack s H ⟨us, []⟩ (us ++ ds) (vs ++ dvs) Q E hr I.env0 (hb s us I.kIn hl) r2 h) fun r s' hq => ?_)
  cases r with
  | error e => exact hx pins σ H s e s' I hq
  | ok fl =>
    cases fl with
    | ret u => exact I.after hq
    | next => exact False.elim hq
    | brk => exact False.elim hq
    | cont => exact False.elim hq

theorem pe_call (F : FnOk X.prog X.w X.K X.mg X.base CX k f fd ps sp) (hr : Room k X.A) (hg : Gl X x) (hm : X.mg x = some (.ref f)) (hk : PySem.W.keepIn X.K (.ref f) = true) (hb : Binds X.K fd ps ds) (hd : Vals dvs ds) (hx : Passes CX X E)
    (ha : PA X (e :: es) t) (hdb : (x == ("__debug__" : Str)) = false := by decide) (he : starEach (e :: es) X.env = (false, eval e X.env) :: starEach es X.env := by rfl) (hpl : (backTo pos (starEach es X.env)).any (·.1) = false := by rfl) :
    PE X (.Call (.Name x p) (e :: es) [] pos) (tCall sp dvs E t) := by
  intro pins s σ H Q I h
  refine wpAny_Call_Name_kw (ld_glob I hg hm ?_ hdb)
  refine PySem.W.callWith_K (h₀ := X.base) I.ok.mod.kin hk (thn (ha pos pins s σ H _ I h) fun us s1 ⟨vs, H1, I1, r, q⟩ => ⟨I1.kIn, ?_⟩) he hpl
  exact run_fn F hr hb hd hx I1 r q
/-- what a class must have to be made -/
structure Mk (K : PySem.W.Frag) (C f : Addr) : Prop where
  makes : PySem.W.makesIn K C = true
  init : PySem.W.findIn K (.ref C) "__init__" = some (some (.ref f))
  fn : PySem.W.isFn K (.ref f) = true
  kp : PySem.W.keepIn K (.ref C) = true

end

/-- the values of the keywords, from the left -/
def PK (X : Cx) (kws : List Keyword) (t : TA) : Prop :=
  ∀ (pos : Pos) (pins : List (Addr × Obj)) (s : Shared) (σ : St) (H : Hp) (Q : List V → Hp → Prop), Inv X pins σ H s → t σ H Q → wpAny (model X.prog X.w) X.A (evalAll ((backToKw pos (keywordEach kws X.env)).map (·.2))) (AP X pins σ Q) X.xe s
section
variable {X : Cx} {CX : CXT} {k : Nat} {f C : Addr} {fd : FuncData} {ps ks : List Str} {sp : Sp} {E : XK} {x m : Str} {p pos apos kpos : Pos} {e o : Expr} {es : List Expr} {kws : List Keyword} {te ta : TE} {t tk : TA} {nm : Option Str}
theorem pk_nil : PK X [] tNil := fun _ _ _ _ H Q I h => wpAny_evalAll_nil ⟨[], H, I, .nil, h⟩
theorem pk_cons (ha : PE X e te) (hr : PK X kws t) : PK X (⟨nm, e, kpos⟩ :: kws) (tCons te t) := by
  intro pos pins s σ H Q I h
  show wpAny _ _ (evalAll ((do let v ← eval e X.env; standAt pos; pure v) :: (backToKw pos (keywordEach kws X.env)).map (·.2))) _ _ s
  refine wpAny_evalAll_cons (wpAny_bind (thn (ha pins s σ H _ I h) fun u s1 ⟨x, H1, I1, r1, q1⟩ => wpAny_bind (wpAny_standAt (wpAny_pure ?_))))
  exact thn (hr pos pins s1 σ H1 _ I1 q1) fun us s2 ⟨xs, H2, I2, r2, q2⟩ => ⟨x :: xs, H2, I2, .cons r1 r2, q2⟩

/-- how a call with keywords binds: g puts the positional values us and the keywords' values ws (names ks) in the parameters' order, defaults among them -/
structure KBinds (K : PySem.W.Frag) (fd : FuncData) (ps ks : List Str) (g : List Value → List Value → List Value) (gV : List V → List V → List V) : Prop where
  to : ∀ (s : Shared) (us ws : List Value), K.In s.heap → (g us ws).length = ps.length → BindsTo s fd ⟨us, ks.zip ws⟩ (ps.zip (g us ws))
  rel : ∀ {vs : List V} {us : List Value} {zs : List V} {ws : List Value}, Vals vs us → Vals zs ws → Vals (gV vs zs) (g us ws)
variable {g : List Value → List Value → List Value} {gV : List V → List V → List V}
end

/-- names: the parameters first -/
structure FnScope (N P : List Str) (sc : Scope) : Prop where
  kind : sc.kind = .function
  co : sc.isCoroutine = false
  gen : sc.isGenerator = false
  nd : N.Nodup
  pre : N.take P.length = P
  par : ∀ x ∈ P, sc.names.lookup x = some .local ∨ sc.names.lookup x = some .cell
  nofree : ∀ y ∈ sc.names, y.2 ≠ .free

theorem bindL_out {kindOf : Str → Option NameKind} {x : Str} : ∀ {binds : List (Str × Value)} {m : Str → Option Value}, (∀ v, (x, v) ∉ binds) → bindL kindOf binds m x = m x
  | [], _, _ => rfl
  | (n, v) :: r, m, h => by
    unfold bindL
    rw [bindL_out fun w hw => h w (List.mem_cons_of_mem _ hw)]
    split
    · have : x ≠ n := by rintro rfl; exact h v List.mem_cons_self
      simp [this]
    · rfl
theorem bindC_out {kindOf : Str → Option NameKind} {x : Str} : ∀ {binds : List (Str × Value)} {m : Str → Option Value}, (∀ v, (x, v) ∉ binds) → bindC kindOf binds m x = m x
  | [], _, _ => rfl
  | (n, v) :: r, m, h => by
    unfold bindC
    rw [bindC_out fun w hw => h w (List.mem_cons_of_mem _ hw)]
    split
    · rfl
    · have : x ≠ n := by rintro rfl; exact h v List.mem_cons_self
      simp [this]
theorem bindL_get {kindOf : Str → Option NameKind} {x : Str} {v : Value} : ∀ {P : List Str} {vs : List Value} {i : Nat} {m : Str → Option Value}, P.Nodup → P[i]? = some x → vs[i]? = some v → kindOf x = some .local →
    bindL kindOf (P.zip vs) m x = some v
  | [], _, _, _, _, h, _, _ => by simp at h
  | _ :: _, [], _, _, _, _, h, _ => by simp at h
  | p :: P, w :: vs, 0, m, nd, h1, h2, hk => by
    simp at h1 h2; subst h1; subst h2
    show bindL kindOf ((p, w) :: P.zip vs) m p = _
    unfold bindL
    rw [bindL_out fun v hv => (List.nodup_cons.mp nd).1 (List.of_mem_zip hv).1, if_pos hk]
    simp
  | p :: P, w :: vs, i + 1, m, nd, h1, h2, hk => by
    show bindL kindOf ((p, w) :: P.zip vs) m x = _
    unfold bindL
    exact bindL_get (i := i) (List.nodup_cons.mp nd).2 (by simpa using h1) (by simpa using h2) hk
theorem bindC_get {kindOf : Str → Option NameKind} {x : Str} {v : Value} : ∀ {P : List Str} {vs : List Value} {i : Nat} {m : Str → Option Value}, P.Nodup → P[i]? = some x → vs[i]? = some v → kindOf x ≠ some .local →
    bindC kindOf (P.zip vs) m x = some v
  | [], _, _, _, _, h, _, _ => by simp at h
  | _ :: _, [], _, _, _, _, h, _ => by simp at h
  | p :: P, w :: vs, 0, m, nd, h1, h2, hk => by
    simp at h1 h2; subst h1; subst h2
    show bindC kindOf ((p, w) :: P.zip vs) m p = _
    unfold bindC
    rw [bindC_out fun v hv => (List.nodup_cons.mp nd).1 (List.of_mem_zip hv).1, if_neg hk]
    simp
  | p :: P, w :: vs, i + 1, m, nd, h1, h2, hk => by
    show bindC kindOf ((p, w) :: P.zip vs) m x = _
    unfold bindC
    exact bindC_get (i := i) (List.nodup_cons.mp nd).2 (by simpa using h1) (by simpa using h2) hk

/-- the names' values at the entry -/
def start (N : List Str) (vs : List V) : St := vs.map some ++ List.replicate (N.length - vs.length) none

/-- the context of a def's body, at its entry; an exception leaves the frame, then lies as CX says -/
def cxOf (CX : CXT) (P : Program) (w : World) (K : PySem.W.Frag) (mg : Str → Option Value) (base : Heap) (N : List Str) (qual : Str) (scope : Scope) (f : Addr) (cd : Value) (A : Around) (outer : List Env) (s : Shared) (H : Hp) (E : XK) : Cx where
  prog := P
  w := w
  K := K
  mg := mg
  base := base
  A := A.deeper (envOfC qual scope s.heap.objs.size f cd)
  N := N
  s_0 := s
  H_0 := H
  env := envOfC qual scope s.heap.objs.size f cd
  outer := outer
  stack := envOfC qual scope s.heap.objs.size f cd :: outer
  ex := []
  calm := true
  fn := fun _ => true
  pn := []
  xe := fun e s' => wpAny (model P w) (A.deeper (envOfC qual scope s.heap.objs.size f cd)) (leaving (envOfC qual scope s.heap.objs.size f cd) e) (fun _ s'' => CX outer H s E e s'') (fun e' s'' => CX outer H s E e' s'') s'

theorem cell_has {sc : Scope} {n : Nat} {x : Str} (h : sc.names.lookup x = some .cell) : ∃ c, (cellsFrom n sc.names []).lookup x = some c := by
  have q := PySem.W.cellsFrom_some sc.names n [] (.inl h)
  exact Option.isSome_iff_exists.mp q

theorem inv_start {CX : CXT} {P : Program} {w : World} {K : PySem.W.Frag} {mg : Str → Option Value} {base : Heap} {N ps : List Str} {qual : Str} {scope : Scope} {f : Addr} {cd : Value} {A : Around} {outer : List Env} {s s1 : Shared} {H : Hp} {E : XK} {us : List Value} {vs : List V}
    (S : FnScope N ps scope) (hd : A.handled = none) (e0 : Env0 P w K mg base A outer s H) (hl : vs.length = ps.length) (r : Vals vs us)
    (x : InCallC s s.heap.objs.size (bindL (envOfC qual scope s.heap.objs.size f cd).kindOf (ps.zip us) fun _ => none) (cellsFrom (s.heap.objs.size + 1) scope.names []) (bindC (envOfC qual scope s.heap.objs.size f cd).kindOf (ps.zip us) fun _ => none) s1) :
    Inv (cxOf CX P w K mg base N qual scope f cd A outer s H E) [] (start N vs) H s1 := by
  have hpl : ps.length ≤ N.length := by have := congrArg List.length S.pre; rw [List.length_take] at this; omega
  obtain ⟨h1, tk, rfl, hk⟩ := x.done
  have noA : ∀ b : Addr, b ∉ (cxOf CX P w K mg base N qual scope f cd A outer s H E).ex := fun b z => absurd (show b ∈ ([] : List Addr) from z) (by simp)
  refine ⟨⟨e0.mod, S.kind, rfl, rfl, Nat.le_refl _, fun y z c h1 h2 => ?_, fun y hy => ?_, fun y c _ h => ?_, fun _ => hd, Around.frames_deeper e0.frames, .inr ⟨rfl, rfl⟩, fun b z => absurd z (noA b), e0.bs, e0.bsz, fun b _ _ => noA b, fun b z => absurd z (noA b), e0.funs, e0.frf⟩,
    rfl, e0.bare, Un.kept hk, ⟨_, x.toInCall.ns, fun i y v h1 h2 h3 => ?_⟩, fun y c h => ⟨_, x.cell y c h⟩, e0.hok.fresh (Nat.le_refl _), fun y c h => ?_, fun p hp => absurd (show p ∈ ([] : List (Addr × Obj)) from hp) (by simp), e0.hok.kept hk, ?_⟩
  · exact name_of_addr x.apart (PySem.mem_of_lookup h1) (PySem.mem_of_lookup h2)
  · have hy : scope.names.lookup y = some .cell ∨ scope.names.lookup y = some .free := hy
    rcases hy with hy | hy
    · exact cell_has hy
    · exact absurd rfl (S.nofree _ (PySem.mem_of_lookup hy))
  · exact Nat.le_of_lt (x.above y c (PySem.mem_of_lookup h))
  · have hi : i < vs.length := by
      unfold start at h2
      by_cases hi : i < vs.length
      · exact hi
      · rw [List.getElem?_append_right (by simpa using hi)] at h2
        rw [List.getElem?_replicate] at h2
        split at h2 <;> cases h2
    have ha : vs[i]? = some v := by
      unfold start at h2
      rw [List.getElem?_append_left (by simpa using hi), List.getElem?_map] at h2
      cases e : vs[i]? with
      | none => rw [e] at h2; cases h2
      | some a => rw [e] at h2; cases h2; rfl
    obtain ⟨u, hu, rv⟩ := r.get ha
    have hp : ps[i]? = some y := by
      rw [← S.pre, List.getElem?_take_of_lt (by omega)]; exact h1
    have ndP : ps.Nodup := by rw [← S.pre]; exact S.nd.sublist (List.take_sublist _ _)
    refine ⟨u, rv, ?_⟩
    rcases S.par y (List.mem_of_getElem? hp) with k | k
    · exact .inl ⟨k, bindL_get ndP hp hu k⟩
    · obtain ⟨c, e⟩ := cell_has (n := s.heap.objs.size + 1) k
      refine .inr ⟨.inl k, c, e, ?_⟩
      have q := x.cell y c e
      rw [bindC_get ndP hp hu (by show scope.names.lookup y ≠ _; rw [k]; decide)] at q
      exact q
  · exact e0.hok.fresh (Nat.le_of_lt (x.above y c (PySem.mem_of_lookup h)))
  · unfold start
    show _ = N.length
    rw [List.length_append, List.length_map, List.length_replicate]
    omega

/-- THE RULE: a def (or a method) of the text, by its body. The body's reading t is chosen for each entry; it is run at the parameters' values -/
theorem fn_of {CX : CXT} {P : Program} {w : World} {K : PySem.W.Frag} {mg : Str → Option Value} {base : Heap} {k : Nat} {f : Addr} {name qual : Str} {params : Arguments} {body : List Stmt} {scope : Scope} {dV kV doc pm cdv ct oc : Value} {an od : Option Addr}
    {osl : Array (Option Value)} {N ps : List Str} {sp : Sp} (lk : K.lookup f = some ⟨oc, od, .func (PySem.W.fnOf name qual params body scope dV kV doc pm an cdv ct), osl⟩) (hcd : PySem.W.codeIn K cdv qual = true) (S : FnScope N ps scope)
    (len : ∀ vs H Q E, sp vs H Q E → vs.length = ps.length)
    (hbody : ∀ (A : Around) (outer : List Env) (s : Shared) (H : Hp) (vs : List V) (Q : VK) (E : XK), Room k (A.deeper (envOfC qual scope s.heap.objs.size f cdv)) → sp vs H Q E →
      ∃ t, PSs (cxOf CX P w K mg base N qual scope f cdv A outer s H E) body t ∧ t { nx := fun _ H' => Q .non H', rt := Q } (start N vs) H) :
    FnOk P w K mg base CX (k + 1) f (PySem.W.fnOf name qual params body scope dV kV doc pm an cdv ct) ps sp := by
  refine ⟨len, fun A outer s H args us vs Q E hr e0 hb r hsp => ?_⟩
  have hl := len _ _ _ _ hsp
  have KX : K.In s.heap := e0.mod.kin.keeps fun b o e => (e0.bs b o e).1
  have lim : s.heap.NoLimit := e0.mod.nolimit.keeps fun b o e => (e0.bs b o e).1
  have hkind : ∀ y ∈ ps.zip us, scope.names.lookup y.1 = some .local ∨ (scope.names.lookup y.1 = some .cell ∧ ((cellsFrom (s.heap.objs.size + 1) scope.names []).lookup y.1).isSome = true) := fun ⟨n, v⟩ hy => by
    rcases S.par n (List.of_mem_zip hy).1 with q | q
    · exact .inl q
    · exact .inr ⟨q, PySem.W.cellsFrom_some _ _ _ (.inl q)⟩
  refine codeAny_call_function hr.depth (KX _ _ lk) rfl S.co S.gen rfl (PySem.W.codeRec_of KX hcd) (hb _ _ _ _ ?_)
  refine wpAny_newFunctionEnv_cells S.kind hkind fun env he s1 x => ?_
  subst he
  refine ⟨lim.keeps x.toInCall.keep, codeAny_func ?_⟩
  obtain ⟨t, ht, hq⟩ := hbody A outer s H vs Q E (hr.deeper _) hsp
  have I : Inv (cxOf CX P w K mg base N qual scope f cdv A outer s H E) [] (start N vs) H s1 := inv_start S hr.hd e0 hl r x
  refine wpAny_mono (ht [] s1 (start N vs) H _ I hq) (fun fl s' hs => ?_) fun e s' hs => hs
  have fin : ∀ {σ' : St} {H' : Hp} {v : V} {u : Value}, Inv (cxOf CX P w K mg base N qual scope f cdv A outer s H E) [] σ' H' s' → RelV v u → Q v H' → CE outer P w H s Q u s' :=
    fun {σ' H' v u} J rv q => ⟨v, H', J.os, J.bare, J.base, J.hok, rv, q⟩
  cases fl with
  | ret u =>
    obtain ⟨v, σ', H', J, rv, q⟩ := hs
    exact fin J rv q
  | next =>
    obtain ⟨σ', H', J, q⟩ := hs
    exact fin (v := V.non) (u := Value.none) J rfl q
  | brk =>
    obtain ⟨_, _, _, q⟩ := hs
    exact False.elim q
  | cont =>
    obtain ⟨_, _, _, q⟩ := hs
    exact False.elim q
end L2

namespace L2
open PySem PySem.Spec PyProof.Rows
section
variable {X : Cx} {x : Str} {p pos : Pos} {e : Expr} {es : List Expr} {t : TA} {id T : String} {r : List V → Hp → VK → Prop}

def tCB (r : List V → Hp → VK → Prop) (t : TA) : TE := fun σ H Q => t σ H fun vs H1 => r vs H1 Q
/-- f(e, ..), f a built-in function -/
theorem pe_callB (hc : CallR X (.builtin id) r) (hg : Gl X x) (hm : X.mg x = none) (hv : bootBuiltins x = some (.builtin id)) (ha : PA X (e :: es) t) (hn : x ≠ "__name__" := by decide) (hdb : (x == ("__debug__" : Str)) = false := by decide)
    (he : starEach (e :: es) X.env = (false, eval e X.env) :: starEach es X.env := by rfl) (hpl : (backTo pos (starEach es X.env)).any (·.1) = false := by rfl) : PE X (.Call (.Name x p) (e :: es) [] pos) (tCB r t) := by
  intro pins s σ H Q I h
  refine wpAny_Call_Name_kw (ld_blt I hg hm hv ?_ hn hdb)
  exact PyProof.Rows.callWith_builtin1 (thn (ha pos pins s σ H _ I h) fun us s1 ⟨vs, H1, I1, r1, q1⟩ => hc pins s1 σ H1 vs us Q I1 r1 q1) he hpl
/-- T(e, ..), T a built-in type -/
theorem pe_callTy (hc : CallR X (.type T) r) (hg : Gl X x) (hm : X.mg x = none) (hv : bootBuiltins x = some (.type T)) (ha : PA X (e :: es) t) (hn : x ≠ "__name__" := by decide) (hdb : (x == ("__debug__" : Str)) = false := by decide)
    (he : starEach (e :: es) X.env = (false, eval e X.env) :: starEach es X.env := by rfl) (hpl : (backTo pos (starEach es X.env)).any (·.1) = false := by rfl) : PE X (.Call (.Name x p) (e :: es) [] pos) (tCB r t) := by
  intro pins s σ H Q I h
  refine wpAny_Call_Name_kw (ld_blt I hg hm hv ?_ hn hdb)
  exact PyProof.Rows.callWith_type1 (thn (ha pos pins s σ H _ I h) fun us s1 ⟨vs, H1, I1, r1, q1⟩ => hc pins s1 σ H1 vs us Q I1 r1 q1) he hpl
end
end L2

namespace HT
open PySem PyProof.Rows

/-- t < u of tuples of ints -/
def lexLt : List Int → List Int → Bool
  | [], [] => false
  | [], _ :: _ => true
  | _ :: _, [] => false
  | x :: xs, y :: ys => if x = y then lexLt xs ys else decide (x < y)
section
open PySem.SeqAt
open PySem.AutoSeq1 (wpAny_loadPart')
open PySem.MeetsSeq PySem.MeetsSeq2 PySem.MeetsSeq3

end

section
variable {prog : Program} {w : World} {A : Around} {E : Value → Shared → Prop} {s : Shared}

/-- t + u, t not empty -/
theorem cat_tup {t b : Addr} {vs ws : List Value} {Q : Value → Shared → Prop} (ht : IsTup s.heap t vs.toArray) (hb : IsTup s.heap b ws.toArray) (hv : vs ≠ [])
    (h1 : ws = [] → Q (.ref t) s) (h2 : ws ≠ [] → Q (.ref s.heap.objs.size) { s with heap := s.heap.push { cls := .type "tuple", data := .seq (vs ++ ws).toArray } })
    (hsz : vs.length + ws.length ≤ sizeLine) : wpAny (model prog w) A (binaryOp .Add (.ref t) (.ref b)) Q E s := by
  obtain ⟨⟨cls, dd, data, sl⟩, ho, hc, n, hd⟩ := id ht
  obtain ⟨⟨cls2, dd2, data2, sl2⟩, ho2, hc2, n2, hd2⟩ := id hb
  simp only at hc hd hc2 hd2
  subst hc hd hc2 hd2
  have e : vs.toArray ++ ws.toArray = (vs ++ ws).toArray := by simp
  by_cases hw : ws = []
  · exact concat_meets ⟨_, ho, rfl⟩ ⟨_, ho2, rfl⟩ noFill_tuple_add seq_tuple_add PySem.F.slot_tuple_add PySem.F.entry_tuple_add (PySem.F.args_tuple_add_2 _ _)
      (tuple_addW1 t b vs.toArray ws.toArray n n2 dd dd2 sl sl2 (by simpa using hv) (by simp [hw])) ⟨ho, ho2, h1 hw⟩
  · refine concat_meets ⟨_, ho, rfl⟩ ⟨_, ho2, rfl⟩ noFill_tuple_add seq_tuple_add PySem.F.slot_tuple_add PySem.F.entry_tuple_add (PySem.F.args_tuple_add_2 _ _)
      (tuple_addW2 t b vs.toArray ws.toArray n n2 dd dd2 sl sl2 (by simpa using hv) (by simpa using hw) (by rw [List.size_toArray, List.size_toArray]; exact hsz)) ⟨ho, ho2, ?_⟩
    rw [e]
    exact h2 hw

/-- a slice's bound as a place among n (d where it is left out) -/
def sIx (n d : Nat) : Option Int → Nat
  | none => d
  | some v => if v < 0 then (v + (n : Int)).toNat else min v.toNat n
theorem sIx_none (n d : Nat) : sIx n d none = d := rfl
theorem sIx_nat (n d k : Nat) : sIx n d (some (k : Int)) = min k n := by
  show (if (k : Int) < 0 then ((k : Int) + (n : Int)).toNat else min (k : Int).toNat n) = min k n
  rw [if_neg (by omega), Int.toNat_natCast]
theorem sIx_le (n d : Nat) (hd : d ≤ n) (o : Option Int) : sIx n d o ≤ n := by
  cases o with
  | none => exact hd
  | some v =>
    show (if v < 0 then (v + (n : Int)).toNat else min v.toNat n) ≤ n
    by_cases hv : v < 0
    · rw [if_pos hv]; omega
    · rw [if_neg hv]; exact Nat.min_le_right _ _
theorem clip_eq (v : Int) (n d : Nat) : (if v < 0 then max (v + (n : Int)) 0 else min v (n : Int)) = ((sIx n d (some v) : Nat) : Int) := by
  show (if v < 0 then max (v + (n : Int)) 0 else min v (n : Int)) = (((if v < 0 then (v + (n : Int)).toNat else min v.toNat n) : Nat) : Int)
  by_cases hv : v < 0
  · simp only [if_pos hv]; omega
  · simp only [if_neg hv]; omega
theorem adjust_gen (lo hi : Option Int) (n : Nat) : Builtin.Slice.sliceAdjust lo hi 1 (n : Int) = (((sIx n 0 lo : Nat) : Int), ((sIx n n hi : Nat) : Int)) := by
  have h1 : ¬ ((1 : Int) < 0) := by omega
  unfold Builtin.Slice.sliceAdjust
  simp only [h1, if_false]
  refine Prod.ext ?_ ?_
  · cases lo with
    | none => rfl
    | some v => exact clip_eq v n 0
  · cases hi with
    | none => rfl
    | some v => exact clip_eq v n n
theorem places_gen (i j : Nat) : Builtin.Slice.slicePlaces (i : Int) (j : Int) 1 = j - i := by
  unfold Builtin.Slice.slicePlaces
  have h1 : (1 : Int) > 0 := by omega
  simp only [h1, if_true, Int.ediv_one]
  split <;> omega
theorem slicePart_ {v : Value} {o : Option Int} {Q : Option Int → Shared → Prop} (p : IsPart v o) (h : Q o s) : wpAny (model prog w) A (Builtin.Slice.slicePartIndex v) Q E s := by
  cases p with
  | none => exact slicePart_none h
  | int i t => exact slicePart_int h
theorem sliceApplied_gen {sl : Addr} {vl vu : Value} {lo hi : Option Int} {n : Nat} {Q : Int × Int × Nat → Shared → Prop} (hs : s.heap.IsSliceOf sl vl vu .none) (pl : IsPart vl lo) (pu : IsPart vu hi)
    (h : Q (((sIx n 0 lo : Nat) : Int), 1, sIx n n hi - sIx n 0 lo) s) : wpAny (model prog w) A (Builtin.Slice.sliceApplied (.ref sl) (pure (n : Int))) Q E s := by
  obtain ⟨os, hos, hcs, hds⟩ := id hs
  unfold Builtin.Slice.sliceApplied Builtin.Slice.sliceFields
  refine wpAny_bind (wpAny_bind (wpAny_field hos hds (x := vl) rfl (wpAny_bind (wpAny_field hos hds (x := vu) rfl (wpAny_bind (wpAny_field hos hds (x := .none) rfl (wpAny_pure ?_)))))))
  refine wpAny_bind (slicePart_none ?_)
  show wpAny _ _ (if ((1 : Int) == 0) = true then _ else _) _ _ s
  rw [if_neg (by decide)]
  refine wpAny_bind (slicePart_ pl (wpAny_bind (slicePart_ pu (wpAny_bind (wpAny_pure ?_)))))
  show wpAny _ _ (match Builtin.Slice.sliceAdjust lo hi 1 (n : Int) with | (lo, hi) => pure (lo, (1 : Int), Builtin.Slice.slicePlaces lo hi 1)) _ _ s
  rw [adjust_gen lo hi n]
  show wpAny _ _ (pure (((sIx n 0 lo : Nat) : Int), (1 : Int), Builtin.Slice.slicePlaces ((sIx n 0 lo : Nat) : Int) ((sIx n n hi : Nat) : Int) 1)) _ _ s
  rw [places_gen]
  exact wpAny_pure h
theorem pick_gen (xs : Array Value) (i k : Nat) : ((List.range k).filterMap fun (m : Nat) => xs[((i : Int) + (m : Int) * 1).toNat]?).toArray = ((xs.toList.drop i).take k).toArray := by
  have e : (fun (m : Nat) => xs[((i : Int) + (m : Int) * 1).toNat]?) = fun m => xs[i + m]? := by
    funext m
    have : ((i : Int) + (m : Int) * 1).toNat = i + m := by omega
    rw [this]
  rw [e]
  have := pick_run xs i k
  rw [List.filterMap_map] at this
  have e2 : ((fun x => xs[x]?) ∘ fun x => i + x) = fun m => xs[i + m]? := rfl
  rw [e2] at this
  rw [this]

theorem getItem_tuple_cut {t sl : Addr} {items : Array Value} {vl vu : Value} {lo hi : Option Int} {Q : Value → Shared → Prop} (ht : IsTup s.heap t items) (hs : s.heap.IsSliceOf sl vl vu .none) (pl : IsPart vl lo) (pu : IsPart vu hi)
    (hw : ¬ (sIx items.size 0 lo = 0 ∧ sIx items.size items.size hi = items.size))
    (h : Q (.ref s.heap.objs.size) { s with heap := s.heap.push { cls := .type "tuple", data := .seq ((items.toList.drop (sIx items.size 0 lo)).take (sIx items.size items.size hi - sIx items.size 0 lo)).toArray } })
    (hsz : items.size ≤ sizeLine) : wpAny (model prog w) A (getItem (.ref t) (.ref sl)) Q E s := by
  have htake : sizeOk (.seq ((items.toList.drop (sIx items.size 0 lo)).take (sIx items.size items.size hi - sIx items.size 0 lo)).toArray) := by
    show ((items.toList.drop (sIx items.size 0 lo)).take (sIx items.size items.size hi - sIx items.size 0 lo)).toArray.size ≤ sizeLine
    rw [List.size_toArray, List.length_take, List.length_drop, Array.length_toList]
    omega
  have hj : sIx items.size items.size hi ≤ items.size := sIx_le _ _ (Nat.le_refl _) hi
  obtain ⟨os, hos, hcs, hds⟩ := id hs
  have hTs : s.TypeIs (.ref sl) "slice" := ⟨os, hos, hcs⟩
  unfold getItem
  try with_reducible refine wpAny_holding ?_
  first | refine wpAny_bind (wpAny_pure ?_) | skip
  refine wpAny_bind (wpAny_sequenceKey ht.typeIs (by decide) ?_)
  refine wpAny_bind (wpAny_callSpecial?_slot (name := Str.ofString "__getitem__") ht.typeIs PyProof.Rows.slot_tuple_getitem
    (wpAny_call_entry PyProof.Rows.slot_tuple_getitem ht.typeIs entry_tuple_getitem ?_ (args_tuple_getitem _ _)))
  show wpAny _ _ (Builtin.Tuple.tupleItemsOf (.ref t) >>= _) _ _ s
  refine wpAny_bind (tupleItemsOf_ ht ?_)
  refine wpAny_bind (wpAny_typeOf hTs ?_)
  rw [if_pos (by decide)]
  refine wpAny_bind (sliceApplied_gen hs pl pu ?_)
  have hno : ¬ ((((sIx items.size 0 lo : Nat) : Int) == 0 && (1 : Int) == 1 && (sIx items.size items.size hi - sIx items.size 0 lo) == items.size) = true) := by
    intro q
    rw [Bool.and_eq_true, Bool.and_eq_true] at q
    have q1 : ((sIx items.size 0 lo : Nat) : Int) = 0 := eq_of_beq q.1.1
    have q2 : sIx items.size items.size hi - sIx items.size 0 lo = items.size := eq_of_beq q.2
    exact hw ⟨by omega, by omega⟩
  show wpAny _ _ (if (((sIx items.size 0 lo : Nat) : Int) == 0 && (1 : Int) == 1 && (sIx items.size items.size hi - sIx items.size 0 lo) == items.size) = true then _ else _) _ _ s
  rw [if_neg hno, pick_gen]
  first
    | exact wpAny_bind (m := Builtin.Tuple.tupleExact _) (wpAny_newObj_type (wpAny_pure ⟨_, rfl, wpAny_pure h⟩) htake)
    | exact wpAny_bind (m := Builtin.Tuple.tupleExact _) (wpAny_newObj_type (wpAny_bind (wpAny_pure (wpAny_pure ⟨_, rfl, wpAny_pure h⟩))) htake)
    | exact wpAny_bind (wpAny_bind (m := Builtin.Tuple.tupleExact _) (wpAny_newObj_type (wpAny_pure (wpAny_pure ⟨_, rfl, wpAny_pure h⟩)) htake))
    | exact wpAny_bind (wpAny_bind (m := Builtin.Tuple.tupleExact _) (wpAny_newObj_type (wpAny_pure ⟨_, rfl, wpAny_pure h⟩) htake))
end
end HT

namespace L2
open PySem PySem.Spec PyProof.Rows

abbrev TO := St → Hp → (Option Int → Hp → Prop) → Prop
/-- a slice's part (left out, or an int) -/
def PO (X : Cx) (e : Option Expr) (t : TO) : Prop :=
  ∀ (pins : List (Addr × Obj)) (s : Shared) (σ : St) (H : Hp) (Q : Option Int → Hp → Prop), Inv X pins σ H s → t σ H Q →
    wpAny (model X.prog X.w) X.A (evalPart e X.env) (fun u s' => ∃ o H', Inv X pins σ H' s' ∧ IsPart u o ∧ Q o H') X.xe s
def tNoPart : TO := fun _ H Q => Q none H
def tPart (t : TE) : TO := fun σ H Q => t σ H fun x H1 => ∃ i, x = .int i ∧ Q (some i) H1

section
variable {X : Cx} {e : Expr} {te : TE} {lo hi : Option Expr} {tl th : TO} {pos p2 : Pos}

theorem po_none : PO X none tNoPart := by
  intro pins s σ H Q I h
  rw [evalPart_none]
  exact wpAny_pure ⟨none, H, I, .none, h⟩
theorem po_some (h : PE X e te) : PO X (some e) (tPart te) := by
  intro pins s σ H Q I hw
  rw [evalPart_some]
  refine thn (h pins s σ H _ I hw) fun u s1 ⟨x, H1, I1, r1, q1⟩ => ?_
  obtain ⟨i, rfl, q⟩ := q1
  obtain ⟨t, rfl⟩ := r1
  exact ⟨some i, H1, I1, .int i t, q⟩

/-- what a slice of a value is, by values: the slice object stands at sl -/
def SlR (X : Cx) (r : V → Option Int → Option Int → Hp → VK → Prop) : Prop :=
  ∀ (pins : List (Addr × Obj)) (s : Shared) (σ : St) (H : Hp) (x : V) (v vl vu : Value) (lo hi : Option Int) (sl : Addr) (Q : VK), Inv X pins σ H s → RelV x v → s.heap.IsSliceOf sl vl vu .none → IsPart vl lo → IsPart vu hi → r x lo hi H Q →
    ∃ T id, typeLookup (.type T) "__getitem__" = pure (some (.builtin id)) ∧ s.TypeIs v T ∧ wpAny (model X.prog X.w) X.A (getItem v (.ref sl)) (EP X pins σ Q) X.xe s
theorem SlR.or {r r' : V → Option Int → Option Int → Hp → VK → Prop} (h : SlR X r) (h' : SlR X r') : SlR X (fun x lo hi H Q => r x lo hi H Q ∨ r' x lo hi H Q) := by
  intro pins s σ H x v vl vu lo hi sl Q I rx hs pl pu q
  rcases q with q | q
  · exact h pins s σ H x v vl vu lo hi sl Q I rx hs pl pu q
  · exact h' pins s σ H x v vl vu lo hi sl Q I rx hs pl pu q
def tSl (r : V → Option Int → Option Int → Hp → VK → Prop) (te : TE) (tl th : TO) : TE := fun σ H Q => te σ H fun x H1 => tl σ H1 fun l H2 => th σ H2 fun u H3 => r x l u H3 Q
/-- a[lo:hi], any a -/
theorem pe_slice {r : V → Option Int → Option Int → Hp → VK → Prop} (hr : SlR X r) (he : PE X e te) (hl : PO X lo tl) (hu : PO X hi th) : PE X (.Subscript e (.Slice lo hi none p2) pos) (tSl r te tl th) := by
  intro pins s σ H Q I h
  refine Subscript_ (thn (he pins s σ H _ I h) fun v s1 ⟨x, H1, I1, r1, q1⟩ => ?_)
  refine wpAny_Slice (thn (hl pins s1 σ H1 _ I1 q1) fun vl s2 ⟨l, H2, I2, pl, q2⟩ => thn (hu pins s2 σ H2 _ I2 q2) fun vu s3 ⟨u, H3, I3, pu, q3⟩ => ?_)
  rw [evalPart_none]
  refine wpAny_pure ?_
  have I4 : Inv X pins σ H3 { s3 with heap := s3.heap.push { cls := .type "slice", data := .fields #[vl, vu, .none] } } := I3.kept (t' := s3.toks) fun b ob q => Heap.get?_push_of_some _ q
  obtain ⟨T, id, hT, ht, hg⟩ := hr pins { s3 with heap := s3.heap.push { cls := .type "slice", data := .fields #[vl, vu, .none] } } σ H3 x v vl vu l u s3.heap.objs.size Q I4 r1 (Heap.IsSliceOf.new ..) pl pu q3
  show wpAny (model X.prog X.w) X.A (subscriptTail e (.Slice lo hi none p2) v (.ref s3.heap.objs.size)) (EP X pins σ Q) X.xe { s3 with heap := s3.heap.push { cls := .type "slice", data := .fields #[vl, vu, .none] } }
  exact tail_any (ops := [.ref s3.heap.objs.size, v]) ht hT hg (by with_unfolding_all rfl)

/-- the items of xs[lo:hi] -/
def cutV (xs : List V) (lo hi : Option Int) : List V := (xs.drop (HT.sIx xs.length 0 lo)).take (HT.sIx xs.length xs.length hi - HT.sIx xs.length 0 lo)
theorem cutV_length (xs : List V) (lo hi : Option Int) : (cutV xs lo hi).length ≤ xs.length := by
  unfold cutV
  rw [List.length_take, List.length_drop]
  omega
/-- t[lo:hi], not the whole of it (the whole would be t itself) -/
def rSlT (K : PySem.W.Frag) : V → Option Int → Option Int → Hp → VK → Prop := fun x lo hi H Q => ∃ a xs, x = .ref a ∧ SqT K H a xs ∧
  ¬ (HT.sIx xs.length 0 lo = 0 ∧ HT.sIx xs.length xs.length hi = xs.length) ∧ ∀ p, H p = none → Q (.ref p) (upd H p (.tup (cutV xs lo hi)))
theorem sl_tup : SlR X (rSlT X.K) := by
  intro pins s σ H x v vl vu lo hi sl Q I rx hs pl pu h
  obtain ⟨a, xs, rfl, hx, hw, q⟩ := h
  cases rx
  obtain ⟨its, r, ht, hz⟩ := I.tuple hx
  have hlen : its.toArray.size = xs.length := by rw [List.size_toArray]; exact r.length.symm
  refine ⟨"tuple", _, PyProof.Rows.slot_tuple_getitem.lookup, ht.typeIs, ?_⟩
  refine HT.getItem_tuple_cut ht hs pl pu (by rw [hlen]; exact hw) ?_ (by rw [hlen]; exact hz)
  rw [hlen]
  refine ⟨.ref s.heap.objs.size, _, I.laid (t' := s.toks) (o := .tup (cutV xs lo hi)) (fun b ob q => Heap.get?_push_of_some _ q) (Nat.le_refl _) ?_, rfl, q _ (I.hok.fresh (Nat.le_refl _))⟩
  exact ⟨Nat.le_trans (cutV_length xs lo hi) hz, _, (r.drop (HT.sIx xs.length 0 lo)).take (HT.sIx xs.length xs.length hi - HT.sIx xs.length 0 lo), IsTupN.new _ _⟩

/-- t + u, t not empty: u empty gives t itself -/
def rCatT (K : PySem.W.Frag) : R2 := fun x y H Q => ∃ a b xs ys, x = .ref a ∧ y = .ref b ∧ SqT K H a xs ∧ SqT K H b ys ∧ xs ≠ [] ∧ xs.length + ys.length ≤ sizeLine ∧
  (ys = [] → Q (.ref a) H) ∧ (ys ≠ [] → ∀ p, H p = none → Q (.ref p) (upd H p (.tup (xs ++ ys))))
theorem Vals.nil_iff {xs : List V} {us : List Value} (r : Vals xs us) : us = [] ↔ xs = [] := by
  cases r with
  | nil => simp
  | cons _ _ => simp
theorem op_catT : OpR X (binaryOp .Add) (rCatT X.K) := by
  intro pins s σ H x y v u Q I rx ry h
  obtain ⟨a, b, xs, ys, rfl, rfl, ha, hb, hx, hz, q1, q2⟩ := h
  cases rx
  cases ry
  obtain ⟨its, r1, p1, _⟩ := I.tuple ha
  obtain ⟨its2, r2, p2, _⟩ := I.tuple hb
  refine HT.cat_tup p1 p2 (fun z => hx (r1.nil_iff.mp z)) (fun z => ⟨.ref a, H, I, rfl, q1 (r2.nil_iff.mp z)⟩) (fun z => ?_) (by rw [← r1.length, ← r2.length]; exact hz)
  refine ⟨.ref s.heap.objs.size, _, I.laid (t' := s.toks) (o := .tup (xs ++ ys)) (fun b ob q => Heap.get?_push_of_some _ q) (Nat.le_refl _) ?_, rfl, q2 (fun w => z (r2.nil_iff.mpr w)) _ (I.hok.fresh (Nat.le_refl _))⟩
  exact ⟨by rw [List.length_append]; exact hz, _, r1.append r2, IsTupN.new _ _⟩
end
end L2

namespace L2
open PySem PySem.Spec PyProof.Rows

/-- the place that an index of any sign means -/
def ixN (n : Nat) (i : Int) : Option Nat := if 0 ≤ i then (if i < n then some i.toNat else none) else if -(n : Int) ≤ i then some (i + n).toNat else none
def atI {α : Type} (xs : List α) (i : Int) : Option α := (ixN xs.length i).bind fun j => xs[j]?
theorem ixN_seq {n : Nat} {i : Int} {j : Nat} (h : ixN n i = some j) : seqIndex? i n = some j ∧ j < n ∧ -(n : Int) ≤ i ∧ i < n := by
  unfold ixN at h
  by_cases h0 : 0 ≤ i
  · rw [if_pos h0] at h
    by_cases h1 : i < n
    · rw [if_pos h1] at h
      have e : i.toNat = j := Option.some.inj h
      exact ⟨by rw [seqIndex_of h0 h1, e], by omega, by omega, h1⟩
    · rw [if_neg h1] at h; cases h
  · rw [if_neg h0] at h
    by_cases h1 : -(n : Int) ≤ i
    · rw [if_pos h1] at h
      have e : (i + n).toNat = j := Option.some.inj h
      exact ⟨by rw [seqIndex_neg (by omega) h1, e], by omega, h1, by omega⟩
    · rw [if_neg h1] at h; cases h
theorem atI_get {α : Type} {xs : List α} {i : Int} {v : α} (h : atI xs i = some v) : ∃ j, seqIndex? i xs.length = some j ∧ xs[j]? = some v ∧ j < xs.length ∧ -(xs.length : Int) ≤ i ∧ i < xs.length := by
  unfold atI at h
  cases e : ixN xs.length i with
  | none => rw [e] at h; cases h
  | some j =>
    rw [e] at h
    obtain ⟨h1, h2, h3, h4⟩ := ixN_seq e
    exact ⟨j, h1, h, h2, h3, h4⟩
/-- what stands as an index of a plain subscript -/
def PlainIx (b : Expr) : Prop := ∀ o i, subscripted b false o i = operate [o, i] (getItem o i)
/-- a subscript by values -/
def IxR (X : Cx) (r : R2) : Prop :=
  ∀ (value slice : Expr) (pins : List (Addr × Obj)) (s : Shared) (σ : St) (H : Hp) (x y : V) (v u : Value) (Q : VK), Inv X pins σ H s → RelV x v → RelV y u → r x y H Q →
    subscripted slice false v u = operate [v, u] (getItem v u) → wpAny (model X.prog X.w) X.A (subscriptTail value slice v u) (EP X pins σ Q) X.xe s
/-- a call of a builtin's method by values: the receiver, the arguments -/
def MtR (X : Cx) (id : String) (r : V → List V → Hp → VK → Prop) : Prop :=
  ∀ (pins : List (Addr × Obj)) (s : Shared) (σ : St) (H : Hp) (x : V) (xs : List V) (v : Value) (us : List Value) (Q : VK), Inv X pins σ H s → RelV x v → Vals xs us → r x xs H Q →
    wpAny (model X.prog X.w) X.A (call (.builtin id) (v :: us)) (EP X pins σ Q) X.xe s
section
variable {X : Cx} {a b : Expr} {ta tb : TE} {pos : Pos}
theorem IxR.or {r r' : R2} (h : IxR X r) (h' : IxR X r') : IxR X (fun x y H Q => r x y H Q ∨ r' x y H Q) := by
  intro value slice pins s σ H x y v u Q I rx ry q hs
  rcases q with q | q
  · exact h value slice pins s σ H x y v u Q I rx ry q hs
  · exact h' value slice pins s σ H x y v u Q I rx ry q hs
theorem MtR.or {id : String} {r r' : V → List V → Hp → VK → Prop} (h : MtR X id r) (h' : MtR X id r') : MtR X id (fun x xs H Q => r x xs H Q ∨ r' x xs H Q) := by
  intro pins s σ H x xs v us Q I rx rs q
  rcases q with q | q
  · exact h pins s σ H x xs v us Q I rx rs q
  · exact h' pins s σ H x xs v us Q I rx rs q
/-- a[b] -/
theorem pe_ix {r : R2} (hr : IxR X r) (ha : PE X a ta) (hb : PE X b tb) (hs : PlainIx b) : PE X (.Subscript a b pos) (tOp r ta tb) := by
  intro pins s σ H Q I h
  exact Subscript_ (binT ha hb I h fun v u s2 x y H2 I2 rx ry q => hr a b pins s2 σ H2 x y v u Q I2 rx ry q (hs _ _))

def rIxL (K : PySem.W.Frag) : R2 := fun x y H Q => ∃ p xs i v, x = .ref p ∧ y = .int i ∧ SqL K H p xs ∧ atI xs i = some v ∧ Q v H
def rIxT (K : PySem.W.Frag) : R2 := fun x y H Q => ∃ p xs i v, x = .ref p ∧ y = .int i ∧ SqT K H p xs ∧ atI xs i = some v ∧ Q v H
def rIxS : R2 := fun x y H Q => ∃ z i c, x = .str z ∧ y = .int i ∧ z.length ≤ sizeLine ∧ atI z.cps.toList i = some c ∧ Q (.str ⟨#[c]⟩) H
theorem ix_list : IxR X (rIxL X.K) := by
  intro value slice pins s σ H x y v u Q I rx ry h hs
  obtain ⟨p, xs, i, z, rfl, rfl, hq, he, q⟩ := h
  cases rx
  obtain ⟨t, rfl⟩ := ry
  obtain ⟨its, r, pl, hz⟩ := I.list hq
  obtain ⟨j, h1, h2, h3, h4, h5⟩ := atI_get he
  obtain ⟨w, ew, rw'⟩ := r.get h2
  have hl := r.length
  have hn := line63
  have fin : EP X pins σ Q w s := ⟨z, H, I, rw', q⟩
  by_cases h0 : 0 ≤ i
  · have hj : i.toNat = j := by
      rw [seqIndex_of h0 h5] at h1
      exact Option.some.inj h1
    exact item_listR pl.isList h0 (by omega) (by rw [hj]; simpa using ew) fin hs
  · have hj : (i + (its.toArray.size : Int)).toNat = j := by
      rw [seqIndex_neg (by omega) h4] at h1
      rw [List.size_toArray, ← hl]
      exact Option.some.inj h1
    exact subscriptTail_builtinR (x := w) pl.isList.typeIs slot_list_getitem.lookup
      (wpAny_getItem_list_neg (Q := fun r s' => r = w ∧ EP X pins σ Q r s') pl.isList (by omega) (by rw [List.size_toArray] <;> omega) (by omega) (by rw [hj]; simpa using ew) ⟨rfl, fin⟩) hs
theorem ix_tup : IxR X (rIxT X.K) := by
  intro value slice pins s σ H x y v u Q I rx ry h hs
  obtain ⟨p, xs, i, z, rfl, rfl, hq, he, q⟩ := h
  cases rx
  obtain ⟨t, rfl⟩ := ry
  obtain ⟨its, r, pl, hz⟩ := I.tuple hq
  obtain ⟨j, h1, h2, h3, h4, h5⟩ := atI_get he
  obtain ⟨w, ew, rw'⟩ := r.get h2
  have hl := r.length
  have hn := line63
  have fin : EP X pins σ Q w s := ⟨z, H, I, rw', q⟩
  exact subscriptTail_builtinR (x := w) pl.typeIs slot_tuple_getitem.lookup
    (getItem_tuple (j := j) (Q := fun r s' => r = w ∧ EP X pins σ Q r s') pl (by omega) (by omega) (by rw [List.size_toArray, ← hl]; exact h1) (by simpa using ew) ⟨rfl, fin⟩) hs
theorem ix_str : IxR X rIxS := by
  intro value slice pins s σ H x y v u Q I rx ry h hs
  obtain ⟨z, i, c, rfl, rfl, hz, he, q⟩ := h
  obtain ⟨t, rfl⟩ := rx
  obtain ⟨t', rfl⟩ := ry
  obtain ⟨j, h1, h2, h3, h4, h5⟩ := atI_get he
  have hl : z.cps.toList.length = z.length := by simp [Str.length]
  rw [hl] at h1 h4 h5
  have hn := line63
  exact tail_any (typeIs_str s z t) slot_str_getitem.lookup (getItem_str (c := c) (by
    have e1 : decide (i < -(2 ^ 63 : Int)) = false := decide_eq_false (by omega)
    have e2 : decide (i ≥ 2 ^ 63) = false := decide_eq_false (by omega)
    rw [e1, e2, Bool.or_false]) (by rw [h1]; simpa using h2) ⟨.str ⟨#[c]⟩, H, I.tok _, ⟨_, rfl⟩, q⟩) hs
/-- list, tuple or str -/
def rIx (K : PySem.W.Frag) : R2 := fun x y H Q => rIxL K x y H Q ∨ rIxT K x y H Q ∨ rIxS x y H Q
theorem ix_seq : IxR X (rIx X.K) := ix_list.or (ix_tup.or ix_str)

/-- the list's object behind a store -/
theorem mapSeq_set (its : List Value) (n j : Nat) (u : Value) : Obj.mapSeq (·.setIfInBounds j u) { cls := .type "list", data := .seq its.toArray n } = { cls := .type "list", data := .seq (its.set j u).toArray n } := by
  simp [Obj.mapSeq]
theorem Inv.lst {pins : List (Addr × Obj)} {σ : St} {H : Hp} {s : Shared} {p : Addr} {xs : List V} (I : Inv X pins σ H s) (h : H p = some (.lst xs)) :
    ∃ (its : List Value) (n : Nat), Vals xs its ∧ s.heap.get? p = some { cls := .type "list", data := .seq its.toArray n } ∧ xs.length ≤ sizeLine := by
  obtain ⟨z, its, n, r, e⟩ := I.hok p _ h
  exact ⟨its, n, r, e, z⟩
/-- the list at p is written by an update of its object -/
theorem Inv.lstUpd {pins : List (Addr × Obj)} {σ : St} {H : Hp} {s : Shared} {p : Addr} {xs ys : List V} {its its' : List Value} {n n' : Nat} {f : Obj → Obj} (I : Inv X pins σ H s) (h : H p = some (.lst xs))
    (ho : s.heap.get? p = some { cls := .type "list", data := .seq its.toArray n }) (hf : f { cls := .type "list", data := .seq its.toArray n } = { cls := .type "list", data := .seq its'.toArray n' }) (r : Vals ys its') (hz : ys.length ≤ sizeLine) (t : Nat) :
    Inv X pins σ (upd H p (.lst ys)) { s with heap := s.heap.update p f, toks := t } := by
  have e : (s.heap.update p f).get? p = some { cls := .type "list", data := .seq its'.toArray n' } := by
    rw [Heap.get?_update_self f ho (by rw [hf] <;> rfl), hf]
  refine I.write (x := p) (e := p) (by rw [h]; trivial) (.inl rfl) (fun b u hb q => (Heap.get?_update_other _ _ (Ne.symm hb)).trans q) ⟨_, e⟩ ?_
  exact ⟨hz, its', n', r, e⟩
def rSetL : V → V → V → Hp → (Hp → Prop) → Prop := fun o i v H Q => ∃ p xs k j, o = .ref p ∧ i = .int k ∧ H p = some (.lst xs) ∧ ixN xs.length k = some j ∧ Q (upd H p (.lst (xs.set j v)))
theorem set_list : PSet X rSetL := by
  intro pins s σ H o i v ov iv u Q I ro ri rv h
  obtain ⟨p, xs, k, j, rfl, rfl, hp, hj, q⟩ := h
  cases ro
  obtain ⟨t, rfl⟩ := ri
  obtain ⟨its, n, r, ho, hz⟩ := I.lst hp
  obtain ⟨h1, h2, h3, h4⟩ := ixN_seq hj
  have hl := r.length
  have hn := line63
  have I' : Inv X pins σ (upd H p (.lst (xs.set j v))) { s with heap := s.heap.update p (Obj.mapSeq (·.setIfInBounds j u)) } :=
    I.lstUpd hp ho (mapSeq_set its n j u) (r.set rv j) (by rw [List.length_set]; exact hz) s.toks
  by_cases h0 : 0 ≤ k
  · have hk : k.toNat = j := by
      rw [seqIndex_of h0 h4] at h1
      exact Option.some.inj h1
    exact PySem.W.ki_setAt ho h0 (by omega) (by rw [List.size_toArray, ← hl]; exact h4) (by rw [hk]; exact ⟨_, I', q⟩)
  · have hk : (k + (its.toArray.size : Int)).toNat = j := by
      rw [seqIndex_neg (by omega) h3] at h1
      rw [List.size_toArray, ← hl]
      exact Option.some.inj h1
    exact PySem.W.ki_setBack ho (by omega) (by rw [List.size_toArray, ← hl]; exact h3) (by omega) (by rw [hk]; exact ⟨_, I', q⟩)

theorem slice_bounds (lo hi : Option Int) (n : Nat) : (sliceBounds lo hi none n).1 = ((HT.sIx n 0 lo : Nat) : Int) ∧ (sliceBounds lo hi none n).2.1 = ((HT.sIx n n hi : Nat) : Int) ∧ (sliceBounds lo hi none n).2.2 = 1 := by
  refine ⟨?_, ?_, rfl⟩
  · cases lo with
    | none => simp [sliceBounds, HT.sIx]
    | some i =>
      simp only [sliceBounds, HT.sIx, Option.getD_none, show (1 : Int) > 0 by decide, if_true]
      by_cases h : i < 0
      · simp only [h, if_true] <;> omega
      · simp only [h, if_false] <;> omega
  · cases hi with
    | none => simp [sliceBounds, HT.sIx]
    | some i =>
      simp only [sliceBounds, HT.sIx, Option.getD_none, show (1 : Int) > 0 by decide, if_true]
      by_cases h : i < 0
      · simp only [h, if_true] <;> omega
      · simp only [h, if_false] <;> omega
theorem slicePick_cut (its : List Value) (lo hi : Option Int) : slicePick its.toArray lo hi none = ((its.drop (HT.sIx its.length 0 lo)).take (HT.sIx its.length its.length hi - HT.sIx its.length 0 lo)).toArray := by
  obtain ⟨h1, h2, h3⟩ := slice_bounds lo hi its.toArray.size
  unfold slicePick
  rw [h1, h2, h3]
  simp only [sliceRange_one, pick_run, List.size_toArray] <;> rfl
/-- xs[lo:hi] of a list: a new list -/
def rSlL (K : PySem.W.Frag) : V → Option Int → Option Int → Hp → VK → Prop := fun x lo hi H Q => ∃ a xs, x = .ref a ∧ SqL K H a xs ∧ ∀ p, H p = none → Q (.ref p) (upd H p (.lst (cutV xs lo hi)))
theorem sl_list : SlR X (rSlL X.K) := by
  intro pins s σ H x v vl vu lo hi sl Q I rx hs pl pu h
  obtain ⟨a, xs, rfl, hx, q⟩ := h
  cases rx
  obtain ⟨its, r, ht, hz⟩ := I.list hx
  have hlen := r.length
  refine ⟨"list", _, slot_list_getitem.lookup, ht.isList.typeIs, ?_⟩
  refine wpAny_getItem_list_slice ht.isList hs pl pu .none (by simp) ?_ (by rw [List.size_toArray] <;> omega)
  rw [slicePick_cut, ← hlen]
  refine ⟨.ref s.heap.objs.size, _, I.laid (t' := s.toks) (o := .lst (cutV xs lo hi)) (fun b ob q => Heap.get?_push_of_some _ q) (Nat.le_refl _) ?_, rfl, q _ (I.hok.fresh (Nat.le_refl _))⟩
  exact ⟨Nat.le_trans (cutV_length xs lo hi) hz, _, 0, (r.drop (HT.sIx xs.length 0 lo)).take (HT.sIx xs.length xs.length hi - HT.sIx xs.length 0 lo), Heap.get?_push_size _ rfl⟩

theorem CallR.or {f : Value} {r r' : List V → Hp → VK → Prop} (h : CallR X f r) (h' : CallR X f r') : CallR X f (fun xs H Q => r xs H Q ∨ r' xs H Q) := by
  intro pins s σ H xs us Q I rs q
  rcases q with q | q
  · exact h pins s σ H xs us Q I rs q
  · exact h' pins s σ H xs us Q I rs q
theorem call_list_of : CallR X (.type "list") (fun xs H Q => ∃ p ys, xs = [.ref p] ∧ (SqL X.K H p ys ∨ SqT X.K H p ys) ∧ ∀ l, H l = none → Q (.ref l) (upd H l (.lst ys))) := by
  intro pins s σ H xs us Q I r h
  obtain ⟨p, ys, rfl, hq, q⟩ := h
  obtain ⟨u, rfl, rx⟩ := vals1 r
  cases rx
  have fin : ∀ (its : List Value), Vals ys its → ys.length ≤ sizeLine → ∀ (h' : Heap) (c' : Nat), (∀ b o', s.heap.get? b = some o' → h'.get? b = some o') →
      h'.get? s.heap.objs.size = some { cls := .type "list", dict := none, data := .seq its.toArray c', slots := #[] } → EP X pins σ Q (.ref s.heap.objs.size) { s with heap := h' } := fun its r' hz h' c' kp e =>
    ⟨.ref s.heap.objs.size, _, I.laid (t' := s.toks) kp (Nat.le_refl _) (show ObjOk X.prog X.w _ h' _ (.lst ys) from ⟨hz, its, c', r', e⟩), rfl, q _ (I.hok.fresh (Nat.le_refl _))⟩
  rcases hq with hq | hq
  · obtain ⟨its, r', pl, hz⟩ := I.list hq
    have hlen := r'.length
    obtain ⟨o, ho, hc, n, hd⟩ := pl.isList
    exact call_list_seq p (.inl rfl) ho hc hd (fun h' c' kp e => fin its r' hz h' c' kp e) (by simp only [List.size_toArray] <;> omega)
  · obtain ⟨its, r', pl, hz⟩ := I.tuple hq
    have hlen := r'.length
    obtain ⟨o, ho, hc, n, hd⟩ := pl
    exact call_list_seq p (.inr rfl) ho hc hd (fun h' c' kp e => fin its r' hz h' c' kp e) (by simp only [List.size_toArray] <;> omega)
theorem call_tuple_of : CallR X (.type "tuple") (fun xs H Q => ∃ p ys, xs = [.ref p] ∧ ((SqL X.K H p ys ∧ ∀ l, H l = none → Q (.ref l) (upd H l (.tup ys))) ∨ (SqT X.K H p ys ∧ Q (.ref p) H))) := by
  intro pins s σ H xs us Q I r h
  obtain ⟨p, ys, rfl, h⟩ := h
  obtain ⟨u, rfl, rx⟩ := vals1 r
  cases rx
  rcases h with ⟨hq, q⟩ | ⟨hq, q⟩
  · obtain ⟨its, r', pl, hz⟩ := I.list hq
    have hlen := r'.length
    refine call_tuple_list pl.isList (fun h' kp => ?_) (by simp only [List.size_toArray] <;> omega)
    have I1 : Inv X pins σ H { s with heap := h' } := I.kept (t' := s.toks) kp
    have I2 : Inv X pins σ (upd H h'.objs.size (.tup ys)) { s with heap := h'.push { cls := .type "tuple", data := .seq its.toArray } } :=
      I1.laid (t' := s.toks) (fun b o e => Heap.get?_push_of_some _ e) (Nat.le_refl _) (show ObjOk X.prog X.w _ _ _ (.tup ys) from ⟨hz, its, r', IsTupN.new _ _⟩)
    exact ⟨.ref h'.objs.size, _, I2, rfl, q _ (I1.hok.fresh (Nat.le_refl _))⟩
  · obtain ⟨its, r', pl, hz⟩ := I.tuple hq
    exact call_tuple_same pl ⟨.ref p, H, I, rfl, q⟩

/-- the value is of that builtin type -/
def tyV (K : PySem.W.Frag) (T : String) (x : V) (H : Hp) : Prop := match x with
  | .str _ => T = "str"
  | .int _ => T = "int"
  | .ref p => (T = "list" ∧ ∃ xs, SqL K H p xs) ∨ (T = "tuple" ∧ ∃ o, K.lookup p = some o ∧ o.cls = .type "tuple" ∧ o.dict = none) ∨
      (T = "dict" ∧ ((∃ kvs, H p = some (.dK kvs)) ∨ ∃ kvs, H p = some (.dT kvs))) ∨ (T = "set" ∧ ∃ S n, H p = some (.set S n))
  | _ => False
theorem tyV_is {pins : List (Addr × Obj)} {σ : St} {H : Hp} {s : Shared} {T : String} {x : V} {v : Value} (I : Inv X pins σ H s) (r : RelV x v) (ty : tyV X.K T x H) :
    s.TypeIs v T ∧ ∀ a, v = .ref a → ∃ ob, s.heap.get? a = some ob ∧ ob.dict = none := by
  cases x with
  | str z =>
    obtain ⟨t, rfl⟩ := r
    cases (show T = "str" from ty)
    exact ⟨typeIs_str s z t, fun _ e => nomatch e⟩
  | int i =>
    obtain ⟨t, rfl⟩ := r
    cases (show T = "int" from ty)
    exact ⟨typeIs_int s i t, fun _ e => nomatch e⟩
  | ref p =>
    cases r
    rcases ty with ⟨rfl, xs, hq⟩ | ⟨rfl, o, hk, hc, hd⟩ | ⟨rfl, hk⟩ | ⟨rfl, S, n, hk⟩
    · obtain ⟨its, _, pl, _⟩ := I.list hq
      refine ⟨pl.isList.typeIs, fun a e => ?_⟩
      cases e
      obtain ⟨o, n, e, c, hd, _⟩ := pl
      exact ⟨o, e, hd⟩
    · refine ⟨⟨o, I.kIn p o hk, hc⟩, fun a e => ?_⟩
      cases e
      exact ⟨o, I.kIn _ o hk, hd⟩
    · have z : ∃ o, s.heap.get? p = some o ∧ o.ExactDict := by
        rcases hk with ⟨kvs, hk⟩ | ⟨kvs, hk⟩
        · obtain ⟨_, _, _, _, o, _, _, e, ex, _⟩ := I.hok p _ hk
          exact ⟨o, e, ex⟩
        · obtain ⟨_, _, _, _, o, _, _, e, ex, _⟩ := I.hok p _ hk
          exact ⟨o, e, ex⟩
      obtain ⟨o, e, ex⟩ := z
      refine ⟨⟨o, e, ex.1⟩, fun a e2 => ?_⟩
      cases e2
      exact ⟨o, e, ex.2.1⟩
    · obtain ⟨o, _, _, _, e, ex, _⟩ := I.hok p _ hk
      refine ⟨⟨o, e, ex.1⟩, fun a e2 => ?_⟩
      cases e2
      exact ⟨o, e, ex.2.1⟩
  | _ => exact False.elim ty
def tBM (K : PySem.W.Frag) (T : String) (r : V → List V → Hp → VK → Prop) (to : TE) (t : TA) : TE := fun σ H Q => to σ H fun x H1 => tyV K T x H1 ∧ t σ H1 fun xs H2 => r x xs H2 Q
variable {o e : Expr} {es : List Expr} {to : TE} {t : TA} {name : Str} {apos cpos : Pos} {T id : String} {r : V → List V → Hp → VK → Prop}
theorem pe_bm (pa : PlainAttrs T) (slot : Slot T name id) (hty : typeOf (.builtin id) = pure (.type "method_descriptor")) (hm : MtR X id r) (ho : PE X o to) (ha : PA X (e :: es) t)
    (hbase : attributeBase o name X.env (eval o X.env) = eval o X.env := by rfl)
    (hfew : ((backTo cpos (starEach (e :: es) X.env)).all (fun x => !x.1) && (backToKw cpos (keywordEach [] X.env)).all (fun x => x.1.isSome)
      && decide ((e :: es).length + ([] : List Keyword).length + (if ([] : List Keyword).isEmpty then 0 else 1) < 30)) = true := by rfl)
    (hline : (apos.endLine == cpos.line) = true := by rfl) (hs : starEach (e :: es) X.env = (false, eval e X.env) :: starEach es X.env := by rfl) (hplain : (backTo cpos (starEach es X.env)).any (·.1) = false := by rfl) :
    PE X (.Call (.Attribute o name apos) (e :: es) [] cpos) (tBM X.K T r to t) := by
  intro pins s σ H Q I h
  refine wpAny_Call_method_late hbase hfew hline rfl (thn (ho pins s σ H _ I h) fun v s1 ⟨x, H1, I1, r1, ty, q1⟩ => ?_)
  obtain ⟨h1, h2⟩ := tyV_is I1 r1 ty
  refine ⟨T, id, pa, slot, hty, h1, h2, ?_⟩
  have hA := ha cpos pins s1 σ H1 _ I1 q1
  rw [hs] at hA ⊢
  refine Calls.callWith_builtin (by show (false || (backTo cpos (starEach es X.env)).any (·.1)) = false; rw [hplain] <;> rfl) (Calls.evalArgs_plain ?_)
  exact thn hA fun us s2 ⟨vs, H2, I2, r2, q2⟩ => hm pins s2 σ H2 x vs v us Q I2 r1 r2 q2
end
end L2

namespace L2
open PySem PySem.Spec PyProof.Rows

def MtM (X : Cx) (id : String) (r : V → List V → Hp → VK → Prop) : Prop :=
  ∀ (pins : List (Addr × Obj)) (s : Shared) (σ : St) (H : Hp) (x : V) (xs : List V) (v : Value) (us : List Value) (Q : VK), Inv X pins σ H s → RelV x v → Vals xs us → r x xs H Q →
    wpAny (model X.prog X.w) X.A (call (.builtin id) (v :: us)) (EP X pins σ Q) X.xe s

theorem Vals.one : ∀ {x : V} {us : List Value}, Vals [x] us → ∃ u, us = [u] ∧ RelV x u
  | _, _, .cons r .nil => ⟨_, rfl, r⟩
theorem Vals.zero : ∀ {us : List Value}, Vals [] us → us = []
  | _, .nil => rfl
theorem Vals.eraseIdx : ∀ {xs : List V} {us : List Value} (i : Nat), Vals xs us → Vals (xs.eraseIdx i) (us.eraseIdx i)
  | _, _, _, .nil => .nil
  | _, _, 0, .cons _ t => t
  | _, _, i + 1, .cons r t => .cons r (Vals.eraseIdx i t)
theorem Vals.reverse {xs : List V} {us : List Value} (h : Vals xs us) : Vals xs.reverse us.reverse := by
  induction h with
  | nil => exact .nil
  | cons r t ih => rw [List.reverse_cons, List.reverse_cons]; exact Vals.append ih (.cons r .nil)
theorem Vals.rep {xs : List V} {us : List Value} (h : Vals xs us) : ∀ k : Nat, Vals (List.replicate k xs).flatten (List.replicate k us).flatten
  | 0 => .nil
  | k + 1 => by
    rw [List.replicate_succ, List.replicate_succ, List.flatten_cons, List.flatten_cons]
    exact Vals.append h (Vals.rep h k)
theorem len_erase {α : Type} : ∀ (l : List α) (i : Nat), (l.eraseIdx i).length ≤ l.length
  | [], _ => Nat.le_refl _
  | _ :: _, 0 => Nat.le_succ _
  | _ :: r, i + 1 => Nat.succ_le_succ (len_erase r i)
theorem foldl_rep (its : List Value) : ∀ (k : Nat) (acc : List Value),
    List.foldl (fun x1 x2 => x1 ++ x2) acc.toArray (List.replicate k its.toArray) = (acc ++ (List.replicate k its).flatten).toArray
  | 0, acc => by simp
  | k + 1, acc => by
    have e : acc.toArray ++ its.toArray = (acc ++ its).toArray := by simp
    have e2 : (acc ++ its) ++ (List.replicate k its).flatten = acc ++ (List.replicate (k + 1) its).flatten := by
      rw [List.replicate_succ, List.flatten_cons, List.append_assoc]
    rw [← e2, ← foldl_rep its k (acc ++ its), ← e, List.replicate_succ, List.foldl_cons]

section
variable {X : Cx} {pins : List (Addr × Obj)} {σ : St} {H : Hp} {s : Shared} {l b : Addr} {xs ys zs : List V}

theorem Inv.lset {its its' : List Value} {n : Nat} {f : Array Value → Array Value} {t' : Nat} (I : Inv X pins σ H s) (hH : H l = some (.lst xs))
    (e : s.heap.get? l = some { cls := .type "list", data := .seq its.toArray n }) (hf : f its.toArray = its'.toArray) (hv : Vals ys its') (hz : ys.length ≤ sizeLine) :
    Inv X pins σ (upd H l (.lst ys)) { s with heap := s.heap.update l (Obj.mapSeq f), toks := t' } := by
  have q := PySem.IsL.update e f
  rw [hf] at q
  refine I.write (x := l) (e := l) (by rw [hH]; exact trivial) (.inl rfl) (fun b' u hb hu => (Heap.get?_update_other s.heap (Obj.mapSeq f) (Ne.symm hb)).trans hu) ⟨_, q⟩ ?_
  exact ⟨hz, its', _, hv, q⟩
theorem Inv.lnew {its : List Value} {t' : Nat} (I : Inv X pins σ H s) (hv : Vals ys its) (hz : ys.length ≤ sizeLine) :
    Inv X pins σ (upd H s.heap.objs.size (.lst ys)) { s with heap := s.heap.push { cls := .type "list", data := .seq its.toArray }, toks := t' } :=
  I.laid (fun _ _ q => Heap.get?_push_of_some _ q) (Nat.le_refl _) ⟨hz, its, 0, hv, Heap.get?_push_size _ rfl⟩
theorem Inv.fresh (I : Inv X pins σ H s) : H s.heap.objs.size = none := I.hok.fresh (Nat.le_refl _)
theorem Inv.lstM (I : Inv X pins σ H s) (hH : H l = some (.lst xs)) : xs.length ≤ sizeLine ∧ ∃ (its : List Value) (n : Nat), Vals xs its ∧ xs.length = its.length ∧ s.heap.get? l = some { cls := .type "list", data := .seq its.toArray n } := by
  obtain ⟨z, its, n, r, e⟩ := I.hok l _ hH
  exact ⟨z, its, n, r, r.length, e⟩

theorem notLongL {n : Nat} (h : n ≤ sizeLine) : Builtin.List.listTooLong n = false := by
  unfold Builtin.List.listTooLong
  exact decide_eq_false (by omega)
end

section
variable {X : Cx}

def rAppend : V → List V → Hp → VK → Prop := fun x vs H Q => ∃ l xs y, x = .ref l ∧ vs = [y] ∧ H l = some (.lst xs) ∧ xs.length < sizeLine ∧ Q .non (upd H l (.lst (xs ++ [y])))
theorem mt_append : MtM X "list.append" rAppend := by
  intro pins s σ H x vs v us Q I rx rv h
  obtain ⟨l, xs, y, rfl, rfl, hH, hz, q⟩ := h
  cases rx
  obtain ⟨u, rfl, ru⟩ := rv.one
  obtain ⟨z, its, n, r, hl, e⟩ := I.lstM hH
  refine call_meets F.slot_list_append ⟨_, e, rfl⟩ F.entry_list_append (F.args_list_append_2 _ _) (PySem.list_append l its.toArray n u (by rw [List.size_toArray]; omega)) ⟨e, ?_⟩
  refine ⟨.non, _, I.lset (its' := its ++ [u]) hH e (by simp) (r.append (.cons ru .nil)) ?_, rfl, q⟩
  rw [List.length_append, List.length_singleton]
  omega

def rExtend : V → List V → Hp → VK → Prop := fun x vs H Q => ∃ l b xs zs, x = .ref l ∧ vs = [.ref b] ∧ H l = some (.lst xs) ∧ H b = some (.lst zs) ∧ xs.length + zs.length ≤ sizeLine ∧ Q .non (upd H l (.lst (xs ++ zs)))
theorem mt_extend : MtM X "list.extend" rExtend := by
  intro pins s σ H x vs v us Q I rx rv h
  obtain ⟨l, b, xs, zs, rfl, rfl, hH, hB, hz, q⟩ := h
  cases rx
  obtain ⟨u, rfl, ru⟩ := rv.one
  cases ru
  obtain ⟨z, its, n, r, hl, e⟩ := I.lstM hH
  obtain ⟨z2, its2, n2, r2, hl2, e2⟩ := I.lstM hB
  have hsz : its.toArray.size + its2.toArray.size ≤ sizeLine := by rw [List.size_toArray, List.size_toArray]; omega
  have hlong : ¬ (!its.toArray.isEmpty && Builtin.List.listTooLong (its.toArray.size + its2.toArray.size)) = true := by
    rw [notLongL hsz, Bool.and_false]
    exact Bool.false_ne_true
  refine call_meets F.slot_list_extend ⟨_, e, rfl⟩ F.entry_list_extend (F.args_list_extend_2 _ _)
    (AutoSeq1.list_extend_list_list_0 l its.toArray n b its2.toArray n2 hlong (by rw [List.size_toArray]; omega) (by omega)) ⟨e, e2, ?_⟩
  refine ⟨.non, _, I.lset (its' := its ++ its2) hH e (by simp) (r.append r2) ?_, rfl, q⟩
  rw [List.length_append]
  omega

def rPopAt : V → List V → Hp → VK → Prop := fun x vs H Q => ∃ l xs i k y, x = .ref l ∧ vs = [.int i] ∧ H l = some (.lst xs) ∧ -(2 ^ 63) ≤ i ∧ i < 2 ^ 63 ∧ seqIndex? i xs.length = some k ∧ xs[k]? = some y ∧ Q y (upd H l (.lst (xs.eraseIdx k)))
theorem mt_popAt : MtM X "list.pop" rPopAt := by
  intro pins s σ H x vs v us Q I rx rv h
  obtain ⟨l, xs, i, k, y, rfl, rfl, hH, h1, h2, hk, hy, q⟩ := h
  cases rx
  obtain ⟨u, rfl, ru⟩ := rv.one
  obtain ⟨t, rfl⟩ := ru
  obtain ⟨z, its, n, r, hl, e⟩ := I.lstM hH
  obtain ⟨w, hw, rw'⟩ := r.get hy
  refine call_meets F.slot_list_pop ⟨_, e, rfl⟩ F.entry_list_pop (F.args_list_pop_2 _ _)
    (MeetsSeq.list_pop_at l its.toArray n i t k w (fitsIndex_both h1 h2) (by rw [List.size_toArray, ← hl]; exact hk) (by rw [← Array.getElem?_toList]; exact hw) (by rw [List.size_toArray]; omega)) ⟨e, ?_⟩
  refine ⟨y, _, I.lset (its' := its.eraseIdx k) hH e ?_ (r.eraseIdx k) ?_, rw', q⟩
  · show its.toArray.eraseIdxIfInBounds k = (its.eraseIdx k).toArray
    rw [List.eraseIdxIfInBounds_toArray]
  · have := len_erase xs k
    omega

/-- a list times an int (a negative one is nothing) -/
def rRep : R2 := fun x y H Q => ∃ l k xs, x = .ref l ∧ y = .int k ∧ H l = some (.lst xs) ∧ -(2 ^ 63) ≤ k ∧ k < 2 ^ 63 ∧ xs.length * k.toNat ≤ sizeLine ∧
  ∀ p, H p = none → Q (.ref p) (upd H p (.lst (List.replicate k.toNat xs).flatten))
theorem len_rep {α : Type} (xs : List α) (k : Nat) : (List.replicate k xs).flatten.length = k * xs.length := by
  induction k with
  | zero => simp
  | succ k ih => rw [List.replicate_succ, List.flatten_cons, List.length_append, ih, Nat.succ_mul, Nat.add_comm]
theorem op_rep : OpR X (binaryOp .Mult) rRep := by
  intro pins s σ H x y v u Q I rx ry h
  obtain ⟨l, k, xs, rfl, rfl, hH, h1, h2, hz, q⟩ := h
  cases rx
  obtain ⟨t, rfl⟩ := ry
  obtain ⟨z, its, n, r, hl, e⟩ := I.lstM hH
  have hlen : its.toArray.size * k.toNat ≤ sizeLine := by rw [List.size_toArray, ← hl]; exact hz
  have hcap : ¬ its.toArray.size * k.toNat > (2 ^ 63 - 1) / 8 := by
    have : (sizeLine : Nat) ≤ (2 ^ 63 - 1) / 8 := by decide
    omega
  have hfit : ¬ (!Builtin.List.listFitsIndex k) = true := by
    rw [fitsIndex_both h1 h2]
    exact Bool.false_ne_true
  have hlong : ¬ Builtin.List.listTooLong (its.toArray.size * k.toNat) = true := by
    rw [notLongL hlen]
    exact Bool.false_ne_true
  have hnew : List.foldl (fun x1 x2 => x1 ++ x2) #[] (List.replicate (if its.toArray.isEmpty = true then 0 else k.toNat) its.toArray) = (List.replicate k.toNat its).flatten.toArray := by
    have f0 : ∀ m : Nat, List.foldl (fun x1 x2 => x1 ++ x2) #[] (List.replicate m its.toArray) = (List.replicate m its).flatten.toArray := fun m => by
      have := foldl_rep its m []
      rw [List.nil_append] at this
      exact this
    rw [f0]
    cases its with
    | nil => simp
    | cons a r' => rw [if_neg (by simp)]
  refine wpAny_binaryOp_repeat_ref (T := "list") (U := "int") (by decide) ⟨_, e, rfl⟩ (fun s' => typeIs_int s' k t) noFill_list_mul F.fills_int_mul F.slot_int_rmul repeat_list F.slot_int_index.lookup
    (call_meets F.slot_int_rmul (typeIs_int s k t) F.entry_int_rmul (F.args_int_rmul_2 _ _) (int___rmul___int_list k t l its.toArray n)
      ⟨e, rfl, ⟨_, e, rfl⟩, call_meets F.slot_list_mul ⟨_, e, rfl⟩ F.entry_list_mul (F.args_list_mul_2 _ _) (AutoListH.list___mul___list_int_3 l its.toArray n k t hfit hcap hlong) ⟨e, ?_⟩⟩)
  rw [hnew]
  exact ⟨.ref _, _, I.lnew (t' := s.toks) (r.rep k.toNat) (by rw [len_rep, Nat.mul_comm]; exact hz), rfl, q _ I.fresh⟩

end

section
variable {prog : Program} {w : World} {A : Around} {E : Value → Shared → Prop} {s : Shared}
set_option maxRecDepth 100000 in
end

section
variable {X : Cx}
end
end L2

namespace L2
open PySem PySem.Spec PyProof.Rows

theorem Vals.ints : ∀ {ns : List Int} {us : List Value}, Vals (ns.map V.int) us → IntsAre us ns
  | [], us, h => by
    rw [List.map_nil] at h
    cases h
    exact IntsAre.nil
  | n :: ns, us, h => by
    rw [List.map_cons] at h
    cases h with
    | cons r t =>
      obtain ⟨k, rfl⟩ := r
      exact IntsAre.cons n k (Vals.ints t)
theorem vals_of_ints : ∀ {us : List Value} {ns : List Int}, IntsAre us ns → Vals (ns.map V.int) us
  | _, _, .nil => by rw [List.map_nil]; exact Paired.nil
  | _, _, .cons n t h => by rw [List.map_cons]; exact Paired.cons (show RelV (V.int n) (Value.int n t) from ⟨t, rfl⟩) (vals_of_ints h)
theorem Vals.strs : ∀ {xs : List Str} {us : List Value}, Vals (xs.map V.str) us → StrsAre us xs
  | [], us, h => by
    rw [List.map_nil] at h
    cases h
    exact StrsAre.nil
  | x :: xs, us, h => by
    rw [List.map_cons] at h
    cases h with
    | cons r t =>
      obtain ⟨k, rfl⟩ := r
      exact StrsAre.cons x k (Vals.strs t)
theorem Vals.bls : ∀ {bs : List Bool} {us : List Value}, Vals (bs.map V.bl) us → us = bs.map Value.bool
  | [], us, h => by
    rw [List.map_nil] at h
    cases h
    rfl
  | b :: bs, us, h => by
    rw [List.map_cons] at h
    cases h with
    | cons r t =>
      cases r
      rw [Vals.bls t, List.map_cons]
theorem Vals.ref1 {a : Addr} {us : List Value} (r : Vals [V.ref a] us) : us = [Value.ref a] := by
  cases r with
  | cons r t =>
    cases t
    cases r
    rfl
section
variable {prog : Program} {w : World} {A : Around} {E : Value → Shared → Prop} {s : Shared} {l : Addr} {its : List Value} {ns : List Int} {Q : Value → Shared → Prop}
theorem max_raw (hh : A.handled = none) (hl : s.heap.IsList l its.toArray) (hi : IntsAre its ns) (hne : 0 < ns.length)
    (h : ∀ h' tk M t', (∀ b o, s.heap.get? b = some o → h'.get? b = some o) → M ∈ ns → (∀ a, a ∈ ns → a ≤ M) → Q (.int M t') { s with heap := h', toks := tk }) : wpAny (model prog w) A (call (.builtin "max") [.ref l]) Q E s := by
  obtain ⟨xs, e⟩ := hi.allInts.items
  have hn : numsOf (intItems xs).toList = ns := by rw [← e]; exact hi.numsOf
  rw [nums_intItems] at hn
  subst hn
  rw [e] at hl
  have hsz : 0 < xs.size := by simpa using hne
  refine PySem.max_intList hh hl hsz fun v h' tk hv hk => ?_
  obtain ⟨t, rfl⟩ := intItems_at hv
  obtain ⟨h1, h2⟩ := argBest_gt (numAt xs) (xs.size - 1)
  refine h h' tk _ t hk ?_ fun a ha => ?_
  · rw [numAt_eq]; exact PySem.getD_mem (by rw [List.length_map, Array.length_toList]; omega)
  · obtain ⟨j, hj, rfl⟩ := mem_getD ha
    rw [List.length_map, Array.length_toList] at hj
    rw [← numAt_eq]; exact h2 j (by omega)
end

section
variable {X : Cx}
/-- max(xs), min(xs) of a list of ints -/
def rMax (K : PySem.W.Frag) : List V → Hp → VK → Prop := fun vs H Q => ∃ (a : Addr) (ns : List Int), vs = [V.ref a] ∧ SqL K H a (ns.map V.int) ∧ 0 < ns.length ∧ ∀ m, m ∈ ns → (∀ y, y ∈ ns → y ≤ m) → Q (.int m) H
theorem cr_max (hc : X.calm = true) : CallR X (.builtin "max") (rMax X.K) := by
  intro pins s σ H vs us Q I r h
  obtain ⟨a, ns, rfl, hs, hne, q⟩ := h
  obtain ⟨its, rv, hl, _⟩ := I.list hs
  rw [Vals.ref1 r]
  exact max_raw (I.ok.hd hc) hl.isList rv.ints hne fun h' tk m t' hk h1 h2 => ⟨.int _, H, I.kept hk, ⟨_, rfl⟩, q m h1 h2⟩
theorem small64 {n : Nat} (h : n < 64) : n ≤ sizeLine := by rw [sizeLine_eq]; omega
end

section
variable {X : Cx}
end

section
variable {X : Cx}
end

theorem iter_any {prog : Program} {w : World} {A : Around} {E : Value → Shared → Prop} {s : Shared} {l : Addr} {items : Array Value} {Q : Value → Shared → Prop} (hl : s.heap.IsList l items)
    (h : ∀ s₂ : Shared, s₂ = { s with heap := s.heap.push { cls := .type "list_iterator", data := .fields #[.ref l, .int 0 0] } } →
      (s₂.heap.IsListIter s.heap.objs.size l 0 ∧ s₂.heap.IsList l items) → l ≠ s.heap.objs.size → Q (.ref s.heap.objs.size) s₂) : wpAny (model prog w) A (pyIter (.ref l)) Q E s := by
  have hlt : l < s.heap.objs.size := by obtain ⟨_, e, _⟩ := hl; exact Heap.lt_size e
  exact wpAny_pyIter_list hl (h _ rfl ⟨⟨_, Heap.get?_push_size _ rfl, rfl, rfl⟩, hl.push _⟩ (Nat.ne_of_lt hlt))
theorem truth_bools {prog : Program} {w : World} {A : Around} {bs : List Bool} {its : List Value} (e : its = bs.map Value.bool) :
    TruthOf prog w A (fun i v => its.toArray[i]? = some v) (fun i => bs.getD i false) := fun i v s Q E hv hq => by
  have hv' : its[i]? = some v := by simpa using hv
  rw [e, List.getElem?_map] at hv'
  obtain ⟨b, hb, rfl⟩ := Option.map_eq_some_iff.mp hv'
  have hg : bs.getD i false = b := by rw [List.getD_eq_getElem?_getD, hb] <;> rfl
  have hq' : Q (bs.getD i false) s := hq
  rw [hg] at hq'
  exact wpAny_truthy_bool hq'
theorem any_range : ∀ bs : List Bool, (List.range bs.length).any (fun i => bs.getD i false) = bs.any id
  | [] => rfl
  | b :: bs => by
    rw [List.length_cons, List.range_succ_eq_map, List.any_cons, List.any_map, List.any_cons, ← any_range bs]
    all_goals rfl
section
variable {X : Cx}
def rAny (K : PySem.W.Frag) : List V → Hp → VK → Prop := fun vs H Q => ∃ (a : Addr) (bs : List Bool), vs = [V.ref a] ∧ SqL K H a (bs.map V.bl) ∧ Q (.bl (bs.any id)) H
theorem cr_any (hc : X.calm = true) : CallR X (.builtin "any") (rAny X.K) := by
  intro pins s σ H vs us Q I r h
  obtain ⟨a, bs, rfl, hs, q⟩ := h
  obtain ⟨its, rv, hl, _⟩ := I.list hs
  rw [Vals.ref1 r]
  have hb := rv.bls
  refine call_any_walk (iter_any hl.isList fun s₂ e2 st hne => ?_)
  subst e2
  refine ⟨_, _, _, _, _, _, _, rfl, Walks.list (A := X.A.in1) (I.ok.hd hc) _ a hne its.toArray, st, truth_bools hb, fun h' tk hk => ?_⟩
  refine ⟨.bl _, H, I.kept fun b o eo => hk b o (fun hmem => ?_) (Heap.get?_push_of_some _ eo), ?_, q⟩
  · rcases List.mem_cons.mp hmem with e1 | hmem
    · exact absurd (e1 ▸ Heap.lt_size eo) (Nat.lt_irrefl _)
    · cases hmem
  · show Value.bool _ = Value.bool _
    rw [← any_range, hb, List.size_toArray, List.length_map]
end

mutual
inductive Dp (K : PySem.W.Frag) (H : Hp) : V → PyData → Prop
  | non : Dp K H .non .none
  | bl (b : Bool) : Dp K H (.bl b) (.bool b)
  | int (i : Int) : Dp K H (.int i) (.int i)
  | str (x : Str) : Dp K H (.str x) (.str x)
  | lst {a : Addr} {xs : List V} {ds : List PyData} : SqL K H a xs → DpAll K H xs ds → Dp K H (.ref a) (.list ds)
  | tup {a : Addr} {xs : List V} {ds : List PyData} : SqT K H a xs → DpAll K H xs ds → Dp K H (.ref a) (.tuple ds)
inductive DpAll (K : PySem.W.Frag) (H : Hp) : List V → List PyData → Prop
  | nil : DpAll K H [] []
  | cons {v : V} {vs : List V} {d : PyData} {ds : List PyData} : Dp K H v d → DpAll K H vs ds → DpAll K H (v :: vs) (d :: ds)
end
section
variable {X : Cx} {pins : List (Addr × Obj)} {σ : St} {H : Hp} {s : Shared}
mutual
theorem Dp.reads (I : Inv X pins σ H s) : ∀ (d : PyData) (v : V) (u : Value), Dp X.K H v d → RelV v u → ∃ as, Reads s.heap u d as
  | .none, _, _, h, r => by
    cases h
    cases r
    exact ⟨_, Reads.none⟩
  | .bool b, _, _, h, r => by
    cases h
    cases r
    exact ⟨_, Reads.bool b⟩
  | .int i, _, _, h, r => by
    cases h
    obtain ⟨t, rfl⟩ := r
    exact ⟨_, Reads.int i t⟩
  | .str x, _, _, h, r => by
    cases h
    obtain ⟨t, rfl⟩ := r
    exact ⟨_, Reads.str x t⟩
  | .list ds, _, _, h, r => by
    cases h with
    | lst hs ha =>
      cases r
      obtain ⟨its, rv, ⟨o, n, ho, hc, _, hd⟩, _⟩ := I.list hs
      obtain ⟨as, hr⟩ := Dp.readsAll I ds _ its ha rv
      exact ⟨_, Reads.list ho hc hd hr⟩
  | .tuple ds, _, _, h, r => by
    cases h with
    | tup hs ha =>
      cases r
      obtain ⟨its, rv, ⟨o, ho, hc, n, hd⟩, _⟩ := I.tuple hs
      obtain ⟨as, hr⟩ := Dp.readsAll I ds _ its ha rv
      exact ⟨_, Reads.tuple ho hc hd hr⟩
  | .dict _, _, _, h, _ => by cases h
theorem Dp.readsAll (I : Inv X pins σ H s) : ∀ (ds : List PyData) (vs : List V) (us : List Value), DpAll X.K H vs ds → Vals vs us → ∃ as, ReadsAll s.heap us ds as
  | [], _, _, h, r => by
    cases h
    cases r
    exact ⟨_, ReadsAll.nil⟩
  | d :: ds, _, _, h, r => by
    cases h with
    | cons h1 h2 =>
      cases r with
      | cons r1 r2 =>
        obtain ⟨as, q1⟩ := Dp.reads I d _ _ h1 r1
        obtain ⟨bs, q2⟩ := Dp.readsAll I ds _ _ h2 r2
        exact ⟨_, ReadsAll.cons q1 q2⟩
end
end
section
variable {X : Cx}
def rEqD (K : PySem.W.Frag) : R2 := fun x y H Q => ∃ d e, Dp K H x d ∧ Dp K H y e ∧ SeqAt.shaped d = true ∧ SeqAt.shaped e = true ∧ Q (.bl (PyData.eqv d e)) H
def rNeD (K : PySem.W.Frag) : R2 := fun x y H Q => ∃ d e, Dp K H x d ∧ Dp K H y e ∧ SeqAt.shaped d = true ∧ SeqAt.shaped e = true ∧ Q (.bl (!PyData.eqv d e)) H
theorem op_eqD (hu : X.A.units + 64 < cLine) : OpR X (compareOp .Eq) (rEqD X.K) := by
  intro pins s σ H x y v u Q I rx ry h
  obtain ⟨d, e, hd, he, sd, se, q⟩ := h
  obtain ⟨as, r1⟩ := Dp.reads I d x v hd rx
  obtain ⟨bs, r2⟩ := Dp.reads I e y u he ry
  exact SeqAt.compareEq_shaped r1 r2 sd se hu ⟨.bl _, H, I, rfl, q⟩
theorem op_neD (hu : X.A.units + 64 < cLine) : OpR X (compareOp .NotEq) (rNeD X.K) := by
  intro pins s σ H x y v u Q I rx ry h
  obtain ⟨d, e, hd, he, sd, se, q⟩ := h
  obtain ⟨as, r1⟩ := Dp.reads I d x v hd rx
  obtain ⟨bs, r2⟩ := Dp.reads I e y u he ry
  exact SeqAt.compareNe_shaped r1 r2 sd se hu ⟨.bl _, H, I, rfl, q⟩
end
end L2

namespace L2
open PySem PySem.Spec PyProof.Rows
abbrev CellAt (h : Heap) (c : Addr) (v : Option Value) : Prop := h.IsCell c v
def relS (scope sc : Scope) : Scope :=
  { scope with names := scope.names.map fun (n, k) => if (k == .free && sc.kind == .function && sc.names.lookup n == some .cell) then (n, .cell) else (n, k) }

def cloFrom (cells : List (Str × Addr)) : List (Str × NameKind) → List (Str × Addr) → List (Str × Addr)
  | [], acc => acc
  | (n, k) :: r, acc => if k == .free then cloFrom cells r ((n, (cells.lookup n).getD 0) :: acc) else cloFrom cells r acc

theorem closure_loop (env : Env) (f : Str × NameKind → List (Str × Addr) → Sem (ForInStep (List (Str × Addr))))
    (hf : ∀ n k c, f (n, k) c = if k == .free then (do let a ← cellOf env n; pure (.yield ((n, a) :: c))) else pure (.yield c)) :
    ∀ (names : List (Str × NameKind)) (acc : List (Str × Addr)), (∀ y ∈ names, y.2 = .free → ∃ c, env.cells.lookup y.1 = some c) → forIn names acc f = pure (cloFrom env.cells names acc)
  | [], acc, _ => by rw [List.forIn_nil]; rfl
  | (n, k) :: r, acc, h => by
    rw [List.forIn_cons, hf]
    have ih := fun acc => closure_loop env f hf r acc fun y hy => h y (List.mem_cons_of_mem _ hy)
    unfold cloFrom
    by_cases hk : (k == NameKind.free) = true
    · rw [if_pos hk, if_pos hk]
      obtain ⟨c, hc⟩ := h (n, k) List.mem_cons_self (by simpa using hk)
      have e : cellOf env n = pure c := by unfold cellOf; rw [hc]
      rw [e]
      have e2 : (env.cells.lookup n).getD 0 = c := by rw [hc]; rfl
      rw [e2]
      exact ih _
    · rw [if_neg hk, if_neg hk]
      exact ih _
theorem closure_ok {scope : Scope} {env : Env} (h : ∀ y ∈ scope.names, y.2 = .free → ∃ c, env.cells.lookup y.1 = some c) : closureFor scope env = pure (cloFrom env.cells scope.names []) := by
  simp only [closureFor]
  rw [closure_loop env _ (fun n k c => rfl) scope.names [] h]
  rfl

theorem mem_lookup {α : Type} : ∀ {l : List (Str × α)} {n : Str} {c : α}, (n, c) ∈ l → ∃ c', l.lookup n = some c'
  | (k, v) :: r, n, c, h => by
    rw [List.lookup_cons]
    cases hb : n == k with
    | true => exact ⟨_, rfl⟩
    | false =>
      rcases List.mem_cons.mp h with e | h
      · cases e; simp at hb
      · exact mem_lookup h

theorem cloFrom_mem {cells : List (Str × Addr)} : ∀ {names : List (Str × NameKind)} {acc : List (Str × Addr)} {n : Str} {c : Addr}, (n, c) ∈ cloFrom cells names acc → (n, c) ∈ acc ∨ ((n, .free) ∈ names ∧ c = (cells.lookup n).getD 0)
  | [], _, _, _, h => .inl h
  | (m, k) :: r, acc, n, c, h => by
    unfold cloFrom at h
    split at h
    · rename_i hk
      have hk : k = .free := by simpa using hk
      rcases cloFrom_mem h with h | ⟨h1, h2⟩
      · rcases List.mem_cons.mp h with e | h
        · cases e; exact .inr ⟨hk ▸ List.mem_cons_self, rfl⟩
        · exact .inl h
      · exact .inr ⟨List.mem_cons_of_mem _ h1, h2⟩
    · rcases cloFrom_mem h with h | ⟨h1, h2⟩
      · exact .inl h
      · exact .inr ⟨List.mem_cons_of_mem _ h1, h2⟩
theorem cloFrom_acc {cells : List (Str × Addr)} : ∀ {names : List (Str × NameKind)} {acc : List (Str × Addr)} {p : Str × Addr}, p ∈ acc → p ∈ cloFrom cells names acc
  | [], _, _, h => h
  | (m, k) :: r, acc, p, h => by
    unfold cloFrom
    split
    · exact cloFrom_acc (List.mem_cons_of_mem _ h)
    · exact cloFrom_acc h
theorem cloFrom_has {cells : List (Str × Addr)} : ∀ {names : List (Str × NameKind)} {acc : List (Str × Addr)} {n : Str}, (n, .free) ∈ names → (n, (cells.lookup n).getD 0) ∈ cloFrom cells names acc
  | (m, k) :: r, acc, n, h => by
    unfold cloFrom
    rcases List.mem_cons.mp h with e | h
    · cases e
      exact cloFrom_acc List.mem_cons_self
    · split
      · exact cloFrom_has h
      · exact cloFrom_has h

theorem cells_mem : ∀ {names : List (Str × NameKind)} {h : Heap} {acc : List (Str × Addr)} {x : Str} {c : Addr}, (x, c) ∈ cellsFrom h.objs.size names acc →
    (x, c) ∈ acc ∨ ((x, .cell) ∈ names ∧ h.objs.size ≤ c ∧ CellAt (pushCells h names) c none)
  | [], _, _, _, _, h => .inl h
  | (n, k) :: r, h, acc, x, c, hm => by
    unfold cellsFrom at hm
    unfold pushCells
    split at hm
    · rename_i hk
      rw [if_pos hk]
      have hk : k = .cell := by simpa using hk
      rw [← Heap.size_push h { cls := .type "cell", data := .cell none }] at hm
      rcases cells_mem hm with hm | ⟨h1, h2, h3⟩
      · rcases List.mem_cons.mp hm with e | hm
        · cases e
          exact .inr ⟨hk ▸ List.mem_cons_self, Nat.le_refl _, _, pushCells_keeps r _ _ _ (Heap.get?_push_size _ rfl), rfl⟩
        · exact .inl hm
      · rw [Heap.size_push] at h2
        exact .inr ⟨List.mem_cons_of_mem _ h1, Nat.le_of_succ_le h2, h3⟩
    · rename_i hk
      rw [if_neg hk]
      rcases cells_mem hm with hm | ⟨h1, h2, h3⟩
      · exact .inl hm
      · exact .inr ⟨List.mem_cons_of_mem _ h1, h2, h3⟩
theorem cells_acc : ∀ {names : List (Str × NameKind)} {n : Nat} {acc : List (Str × Addr)} {p : Str × Addr}, p ∈ acc → p ∈ cellsFrom n names acc
  | [], _, _, _, h => h
  | (m, k) :: r, n, acc, p, h => by
    unfold cellsFrom
    split
    · exact cells_acc (List.mem_cons_of_mem _ h)
    · exact cells_acc h
theorem cells_has : ∀ {names : List (Str × NameKind)} {n : Nat} {acc : List (Str × Addr)} {x : Str}, (x, .cell) ∈ names → ∃ c, (x, c) ∈ cellsFrom n names acc
  | (m, k) :: r, n, acc, x, h => by
    unfold cellsFrom
    rcases List.mem_cons.mp h with e | h
    · cases e
      exact ⟨n, cells_acc List.mem_cons_self⟩
    · split
      · exact cells_has h
      · exact cells_has h
theorem cells_inj : ∀ {names : List (Str × NameKind)} {h : Heap} {acc : List (Str × Addr)} {x y : Str} {c : Addr}, (∀ p ∈ acc, p.2 < h.objs.size) → (∀ x y c, (x, c) ∈ acc → (y, c) ∈ acc → x = y) →
    (x, c) ∈ cellsFrom h.objs.size names acc → (y, c) ∈ cellsFrom h.objs.size names acc → x = y
  | [], _, _, _, _, _, _, hi, h1, h2 => hi _ _ _ h1 h2
  | (n, k) :: r, h, acc, x, y, c, hl, hi, h1, h2 => by
    unfold cellsFrom at h1 h2
    split at h1
    · rename_i hk
      rw [if_pos hk] at h2
      rw [← Heap.size_push h { cls := .type "cell", data := .cell none }] at h1 h2
      refine cells_inj (h := h.push _) (fun p hp => ?_) (fun x y c a b => ?_) h1 h2
      · rw [Heap.size_push]
        rcases List.mem_cons.mp hp with rfl | hp
        · exact Nat.lt_succ_self _
        · exact Nat.lt_succ_of_lt (hl p hp)
      · rcases List.mem_cons.mp a with e | a <;> rcases List.mem_cons.mp b with e' | b
        · cases e; cases e'; rfl
        · cases e; exact absurd (hl _ b) (Nat.lt_irrefl _)
        · cases e'; exact absurd (hl _ a) (Nat.lt_irrefl _)
        · exact hi _ _ _ a b
    · rename_i hk
      rw [if_neg hk] at h2
      exact cells_inj hl hi h1 h2

theorem newEnv_comp {M : Model} {A : Around} {E : Value → Shared → Prop} {s : Shared} {scope : Scope} {globals : Addr} {closure : List (Str × Addr)} {qual : Str} {func : Option Addr} {code : Value} {around : Env} {builtins : Addr} {Q : Env → Shared → Prop}
    (h : Q (newEnv scope s.heap.objs.size globals (cellsFrom (s.heap.objs.size + 1) scope.names closure) qual func code (some around) builtins)
      { s with heap := pushCells (s.heap.push { cls := .type "dict", data := .dict #[] }) scope.names }) :
    wpAny M A (newFunctionEnv scope globals closure [] qual func code (some around) builtins) Q E s := by
  simp only [newFunctionEnv, Option.isSome_some, if_true]
  refine wpAny_bind (wpAny_alloc ?_)
  refine wpAny_bind (wpAny_layCells _ (fun n k c => rfl) scope.names closure _ _ ?_)
  rw [show ({ s with heap := s.heap.push { cls := .type "dict", data := .dict #[] } } : Shared).heap.objs.size = s.heap.objs.size + 1 from Heap.size_push ..]
  rw [List.forIn_nil]
  exact wpAny_bind (wpAny_pure (wpAny_pure h))

/-- every name of the written scope, in the scope that runs -/
theorem lookup_relS {sc : Scope} : ∀ {names : List (Str × NameKind)} {x : Str} {k : NameKind},
    (names.map fun (n, k) => if (k == NameKind.free && sc.kind == .function && sc.names.lookup n == some .cell) then (n, NameKind.cell) else (n, k)).lookup x = some k →
    ∃ k', names.lookup x = some k' ∧ (k = k' ∨ (k' = .free ∧ k = .cell))
  | [], _, _, h => by simp at h
  | (n, k₀) :: r, x, k, h => by
    have ih := @lookup_relS sc r x k
    have h' : List.lookup x ((if (k₀ == NameKind.free && sc.kind == .function && sc.names.lookup n == some .cell) = true then (n, NameKind.cell) else (n, k₀)) :: (r.map _)) = some k := h
    cases hx : x == n with
    | true =>
      simp only [List.lookup_cons, hx]
      by_cases hc : (k₀ == NameKind.free && sc.kind == .function && sc.names.lookup n == some .cell) = true
      · rw [if_pos hc] at h'
        simp only [List.lookup_cons, hx] at h'
        cases h'
        simp only [Bool.and_eq_true, beq_iff_eq] at hc
        exact ⟨k₀, rfl, .inr ⟨hc.1.1, rfl⟩⟩
      · rw [if_neg hc] at h'
        simp only [List.lookup_cons, hx] at h'
        cases h'
        exact ⟨_, rfl, .inl rfl⟩
    | false =>
      simp only [List.lookup_cons, hx]
      by_cases hc : (k₀ == NameKind.free && sc.kind == .function && sc.names.lookup n == some .cell) = true
      · rw [if_pos hc] at h'
        simp only [List.lookup_cons, hx] at h'
        exact ih h'
      · rw [if_neg hc] at h'
        simp only [List.lookup_cons, hx] at h'
        exact ih h'
/-- the names of a comprehension's block: its own (with their places in N), or captured -/
structure BlkOk (N : List Str) (sc scope : Scope) (own : List (Str × Nat)) : Prop where
  kind : scope.kind = .function
  uniq : ∀ y ∈ scope.names, scope.names.lookup y.1 = some y.2
  ix : ∀ p ∈ own, N[p.2]? = some p.1
  free : ∀ y ∈ scope.names, y.2 = .free → sc.names.lookup y.1 = some .cell ∨ sc.names.lookup y.1 = some .free
  own : ∀ y ∈ scope.names, y.2 = .local ∨ y.2 = .cell → y.1 ∈ own.map (·.1) ∨ y.1 ∉ N
/-- the slots of the block's own names forgotten -/
def wipe (σ : St) : List Nat → St
  | [] => σ
  | v :: vs => (wipe σ vs).set v none
theorem wipe_length (σ : St) : ∀ vs : List Nat, (wipe σ vs).length = σ.length
  | [] => rfl
  | v :: vs => by unfold wipe; rw [List.length_set, wipe_length σ vs]
theorem wipe_some {σ : St} {i : Nat} {x : V} : ∀ {vs : List Nat}, (wipe σ vs)[i]? = some (some x) → σ[i]? = some (some x) ∧ i ∉ vs
  | [], h => ⟨h, by simp⟩
  | v :: vs, h => by
    unfold wipe at h
    by_cases hi : v = i
    · subst hi
      by_cases hv : v < (wipe σ vs).length
      · rw [List.getElem?_set_self hv] at h; cases h
      · rw [List.getElem?_eq_none (by simpa using hv)] at h; cases h
    · rw [List.getElem?_set_ne hi] at h
      obtain ⟨h1, h2⟩ := wipe_some h
      exact ⟨h1, by simp only [List.mem_cons, not_or]; exact ⟨fun e => hi e.symm, h2⟩⟩

/-- the context of a block that starts at s, its iterator's objects at fp -/
abbrev Cx.blk (X : Cx) (s : Shared) (H : Hp) (scope : Scope) (cenv : Env) (fp : List Addr) : Cx := { X with s_0 := s, H_0 := H, env := cenv, outer := X.stack, ex := fp, fn := fun x => scope.names.lookup x == some .cell, pn := [], xe := fun _ _ => False }
section
variable {X : Cx} {pins : List (Addr × Obj)} {σ : St} {H : Hp} {s : Shared}
theorem block_start {scope : Scope} {own : List (Str × Nat)} {fp : List Addr} (I : Inv X pins σ H s) (ok : BlkOk X.N X.env.scope scope own) (hN : X.N.Nodup) (hfp : ∀ b ∈ fp, FpOk X pins H b ∧ b < s.heap.objs.size) :
    Inv (X.blk s H scope (compEnvC scope (cellsFrom (s.heap.objs.size + 1) scope.names (cloFrom X.env.cells scope.names [])) s.heap.objs.size X.env) fp) [] (wipe σ (own.map (·.2))) H { s with heap := pushCells (s.heap.push { cls := .type "dict", data := .dict #[] }) scope.names } := by
  have hfree : ∀ y ∈ scope.names, y.2 = .free → ∃ c, X.env.cells.lookup y.1 = some c := fun y hy e => by
    rcases ok.free y hy e with k | k
    · exact I.ok.has _ (.inl k)
    · exact I.ok.has _ (.inr k)
  generalize hcenv : compEnvC scope (cellsFrom (s.heap.objs.size + 1) scope.names (cloFrom X.env.cells scope.names [])) s.heap.objs.size X.env = cenv
  have kp : ∀ b o, s.heap.get? b = some o → (pushCells (s.heap.push { cls := .type "dict", data := .dict #[] }) scope.names).get? b = some o := fun b o e => pushCells_keeps _ _ _ _ (Heap.get?_push_of_some _ e)
  have hL : cenv.locals = s.heap.objs.size := by rw [← hcenv]; rfl
  have hcl : cenv.cells = cellsFrom (s.heap.objs.size + 1) scope.names (cloFrom X.env.cells scope.names []) := by rw [← hcenv]; rfl
  have hsc : cenv.scope = relS scope X.env.scope := by rw [← hcenv]; rfl
  rw [← Heap.size_push s.heap { cls := .type "dict", data := .dict #[] }] at hcl
  have cm : ∀ {y c}, (y, c) ∈ cloFrom X.env.cells scope.names [] → X.env.cells.lookup y = some c ∧ c < s.heap.objs.size := fun {y c} hm => by
    rcases cloFrom_mem hm with hm | ⟨h1, rfl⟩
    · cases hm
    · obtain ⟨c, hc⟩ := hfree _ h1 rfl
      rw [hc]
      obtain ⟨w, z⟩ := I.cell _ _ hc
      exact ⟨rfl, z.lt⟩
  have mem : ∀ {y c}, cenv.cells.lookup y = some c → (X.env.cells.lookup y = some c ∧ c < s.heap.objs.size) ∨ (s.heap.objs.size + 1 ≤ c ∧ CellAt (pushCells (s.heap.push { cls := .type "dict", data := .dict #[] }) scope.names) c none) := fun {y c} e => by
    rw [hcl] at e
    rcases cells_mem (PySem.mem_of_lookup e) with hm | ⟨_, h2, h3⟩
    · exact .inl (cm hm)
    · rw [Heap.size_push] at h2; exact .inr ⟨h2, h3⟩
  have look : ∀ {y}, scope.names.lookup y = some .free → ∃ c, cenv.cells.lookup y = some c ∧ X.env.cells.lookup y = some c := fun {y} hl => by
    have hy : (y, NameKind.free) ∈ scope.names := PySem.mem_of_lookup hl
    obtain ⟨c', e'⟩ := mem_lookup (cells_acc (names := scope.names) (n := (s.heap.push { cls := .type "dict", data := .dict #[] }).objs.size) (cloFrom_has (cells := X.env.cells) (acc := []) hy))
    rw [← hcl] at e'
    refine ⟨c', e', ?_⟩
    rw [hcl] at e'
    rcases cells_mem (PySem.mem_of_lookup e') with hm | ⟨h1, _, _⟩
    · exact (cm hm).1
    · have := ok.uniq _ h1
      rw [hl] at this; cases this
  have okB : (X.blk s H scope cenv fp).Ok := by
    refine ⟨I.ok.mod, by show cenv.scope.kind = _; rw [hsc]; exact ok.kind, by show cenv.globals = _; rw [← hcenv]; exact I.ok.glob, by show cenv.builtins = _; rw [← hcenv]; exact I.ok.blt, by show s.heap.objs.size ≤ cenv.locals; rw [hL]; exact Nat.le_refl _,
      fun y z c e1 e2 => ?_, fun y hy => ?_, fun y c z e => ?_, I.ok.hd, I.ok.frames, .inl rfl, fun b hb => ⟨?_, fun y c e z => ?_⟩, I.bs, Nat.le_trans I.ok.bsz I.sz, fun b o e hb => ?_, fun b hb z => ?_, I.stack, I.stkFree⟩
    · have e1 : cenv.cells.lookup y = some c := e1
      have e2 : cenv.cells.lookup z = some c := e2
      rw [hcl] at e1 e2
      refine cells_inj (fun p hp => ?_) (fun y z c a b => I.ok.inj y z c (cm a).1 (cm b).1) (PySem.mem_of_lookup e1) (PySem.mem_of_lookup e2)
      rw [Heap.size_push]
      exact Nat.lt_succ_of_lt (cm (y := p.1) (c := p.2) hp).2
    · show ∃ c, cenv.cells.lookup y = some c
      have key : ∀ k, cenv.kindOf y = some k → (k = .cell ∨ k = .free) → ∃ c, cenv.cells.lookup y = some c := fun k hk hk' => by
        unfold Env.kindOf at hk
        rw [hsc] at hk
        obtain ⟨k', e, r⟩ := lookup_relS hk
        have : k' = .cell ∨ k' = .free := by
          rcases r with rfl | ⟨rfl, _⟩
          · exact hk'
          · exact .inr rfl
        rcases this with rfl | rfl
        · obtain ⟨c, hm⟩ := cells_has (n := (s.heap.push { cls := .type "dict", data := .dict #[] }).objs.size) (acc := cloFrom X.env.cells scope.names []) (PySem.mem_of_lookup e)
          obtain ⟨c', e'⟩ := mem_lookup hm
          exact ⟨c', by rw [hcl]; exact e'⟩
        · obtain ⟨c, h1, _⟩ := look e
          exact ⟨c, h1⟩
      rcases hy with hy | hy
      · exact key _ hy (.inl rfl)
      · exact key _ hy (.inr rfl)
    · have z : (scope.names.lookup y == some NameKind.cell) = true := z
      have z : scope.names.lookup y = some .cell := by simpa using z
      have e : cenv.cells.lookup y = some c := e
      rw [hcl] at e
      rcases cells_mem (PySem.mem_of_lookup e) with hm | ⟨_, h2, _⟩
      · rcases cloFrom_mem hm with hm | ⟨h1, _⟩
        · cases hm
        · have q := ok.uniq _ h1
          rw [z] at q; cases q
      · rw [Heap.size_push] at h2
        exact Nat.le_of_succ_le h2
    · show b ≠ cenv.locals
      rw [hL]; exact Nat.ne_of_lt (hfp b hb).2
    · have e : cenv.cells.lookup y = some c := e
      rcases mem e with ⟨h1, _⟩ | ⟨h1, _⟩
      · exact (hfp b hb).1.2.2.2.2.1 y c h1 z
      · have h2 : s.heap.objs.size + 1 ≤ b := by rw [← z]; exact h1
        exact absurd (Nat.lt_of_lt_of_le (hfp b hb).2 (Nat.le_of_succ_le h2)) (Nat.lt_irrefl _)
    · rcases (hfp b hb).1.2.2.2.1 with z | z
      · exact I.ok.noex b o e z
      · exact absurd (Nat.lt_of_lt_of_le (Heap.lt_size e) (Nat.le_trans I.ok.bsz z)) (Nat.lt_irrefl _)
    · rcases List.mem_cons.mp (I.stkSub b z) with z | z
      · exact (hfp b hb).1.2.1 z
      · exact (hfp b hb).1.2.2.1 z
  refine ⟨okB, rfl, I.bare, Un.kept kp, ⟨fun _ => none, ?_, fun i y av e1 e2 e3 => ?_⟩, fun y c e => ?_, ?_, fun y c e => ?_, fun p hp => ?_, I.hok.kept kp, by rw [wipe_length]; exact I.len⟩
  · show Heap.Ns _ cenv.locals _
    rw [hL]
    exact Heap.Ns.keeps (Heap.Ns.new ..) fun b o e => pushCells_keeps _ _ _ _ e
  · obtain ⟨e2, hne⟩ := wipe_some e2
    have hfr : scope.names.lookup y = some .free ∧ (cenv.kindOf y = some .cell ∨ cenv.kindOf y = some .free) := by
      have key : ∀ k, cenv.scope.names.lookup y = some k → k = .local ∨ k = .cell ∨ k = .free → scope.names.lookup y = some .free ∧ (cenv.kindOf y = some .cell ∨ cenv.kindOf y = some .free) := fun k hk hk' => by
        have hk0 := hk
        rw [hsc] at hk
        obtain ⟨k', e, r⟩ := lookup_relS hk
        have no : ¬ (k' = .local ∨ k' = .cell) := fun hh => by
          rcases ok.own _ (PySem.mem_of_lookup e) hh with e' | e'
          · obtain ⟨p, hp, hpy⟩ := List.mem_map.mp e'
            have e3 := ok.ix p hp
            have : p.1 = y := hpy
            rw [this] at e3
            exact hne (List.mem_map.mpr ⟨p, hp, nodup_ix hN e3 e1⟩)
          · exact e' (List.mem_of_getElem? e1)
        rcases r with rfl | ⟨rfl, rfl⟩
        · rcases hk' with rfl | rfl | rfl
          · exact absurd (.inl rfl) no
          · exact absurd (.inr rfl) no
          · exact ⟨e, .inr hk0⟩
        · exact ⟨e, .inl hk0⟩
      have e3 : Vis cenv.scope y := e3
      rcases e3 with e3 | e3 | e3
      · exact key _ e3 (.inl rfl)
      · exact key _ e3 (.inr (.inl rfl))
      · exact key _ e3 (.inr (.inr rfl))
    obtain ⟨m, hn, hl⟩ := I.loc
    have hvis : Vis X.env.scope y := (ok.free _ (PySem.mem_of_lookup hfr.1) rfl).elim (fun k => .inr (.inl k)) (fun k => .inr (.inr k))
    obtain ⟨w, r, q⟩ := hl i y av e1 e2 hvis
    refine ⟨w, r, .inr ⟨hfr.2, ?_⟩⟩
    obtain ⟨c, h1, h2⟩ := look hfr.1
    rcases q with ⟨k, _⟩ | ⟨_, c', e', z⟩
    · have k : X.env.scope.names.lookup y = some .local := k
      rcases ok.free _ (PySem.mem_of_lookup hfr.1) rfl with k' | k' <;> rw [show X.env.scope.names.lookup y = _ from k'] at k <;> cases k
    · rw [h2] at e'; cases e'
      exact ⟨c, h1, z.keeps kp⟩
  · have e : cenv.cells.lookup y = some c := e
    rcases mem e with ⟨h1, _⟩ | ⟨_, z⟩
    · obtain ⟨w, z⟩ := I.cell y c h1
      exact ⟨w, z.keeps kp⟩
    · exact ⟨_, z⟩
  · show H cenv.locals = none
    rw [hL]; exact I.hok.fresh (Nat.le_refl _)
  · have e : cenv.cells.lookup y = some c := e
    rcases mem e with ⟨h1, _⟩ | ⟨h1, _⟩
    · exact I.freeC y c h1
    · exact I.hok.fresh (Nat.le_of_succ_le h1)
  · exact absurd (show p ∈ ([] : List (Addr × Obj)) ++ [] from hp) (by simp)

/-- an item appended to a tracked list -/
theorem app_ok {E : Value → Shared → Prop} {D : Addr} {xs : List V} {y : V} {v : Value} {Q : Value → Shared → Prop} (I : Inv X pins σ H s) (hD : H D = some (.lst xs)) (hz : xs.length < sizeLine) (r : RelV y v)
    (h : ∀ s', Inv X pins σ (upd H D (.lst (xs ++ [y]))) s' → Q .none s') : wpAny (model X.prog X.w) X.A (call (.builtin "list.append") [.ref D, v]) Q E s := by
  obtain ⟨hz', its, n, ri, e⟩ := I.hok D _ hD
  have hl := ri.length
  refine append_at (hsz := by rw [List.size_toArray]; omega) e fun h' sb ho' => ?_
  refine h { s with heap := h' } (I.write (t' := s.toks) (by rw [hD]; trivial) (.inl rfl) (fun b u hb q => (sb.2 b hb).trans q) ⟨_, ho'⟩ ⟨by rw [List.length_append]; exact hz, its ++ [v], n + 1, ri.append (.cons r .nil), ?_⟩)
  rw [ho']
  simp

/-- a clause's tests -/
def PTs (X : Cx) (ifs : List Expr) (t : TT) : Prop :=
  ∀ (pins : List (Addr × Obj)) (s : Shared) (σ : St) (H : Hp) (Q : Bool → Hp → Prop), Inv X pins σ H s → t σ H Q →
    wpAny (model X.prog X.w) X.A (forIn ifs true fun c r => if r = true then do let ok ← isTrue c X.env (eval c X.env); pure (ForInStep.yield ok) else pure (ForInStep.yield r)) (TP X pins σ Q) X.xe s
def tYes : TT := fun _ H Q => Q true H
theorem pts_nil : PTs X [] tYes := fun _ _ _ H _ I h => wpAny_tests_nil ⟨H, I, h⟩
theorem pts_one {c : Expr} {t : TT} (h : PT X c t) : PTs X [c] t := fun pins s σ H Q I hw => wpAny_tests_one (h pins s σ H Q I hw)
end

theorem thnF {α : Type} {t : Sem α} {Q Q' : α → Shared → Prop} {M : Model} {A : Around} {E : Value → Shared → Prop} {s : Shared} (h : wpAny M A t Q (fun _ _ => False) s) (hQ : ∀ a s, Q a s → Q' a s) : wpAny M A t Q' E s := wpAny_mono h hQ fun _ _ z => False.elim z

/-- the loop of a list comprehension's block, the target of any form (codeAny_compLoop_tests asks a target that no tuple goes to; statement and proof follow it, PyProof/CompMap.lean:41-61, with the step letOwnedTupleGo kept) -/
theorem compLoop_any {prog : Program} {w : World} {A : Around} {R : Result → Shared → Prop} {s : Shared} {elt target iter : Expr} {ifs : List Expr} {scope : Scope} {pos : Pos} {it acc : Value} {env : Env} (I : Nat → Shared → Prop)
    (turn : ∀ n s, I n s → wpAny (model prog w) A (pyNext it) (fun r s₁ => match r with
      | none => R (.ok .next) s₁
      | some v => wpAny (model prog w) A (letOwnedTupleGo target it v) (fun _ s₁' => wpAny (model prog w) A (assign target env v) (fun _ s₂ =>
          wpAny (model prog w) A (forIn ifs true fun c r => if r = true then do let ok ← isTrue c env (eval c env); pure (ForInStep.yield ok) else pure (ForInStep.yield r)) (fun ok s₃ =>
            if ok = true then wpAny (model prog w) A (eval elt env) (fun x s₄ =>
              wpAny (model prog w) A (call (.builtin "list.append") [acc, x]) (fun _ s₅ => ∃ m, m < n ∧ I m s₅) (notedBy (model prog w) A env fun e s' => R (.error e) s') s₄) (notedBy (model prog w) A env fun e s' => R (.error e) s') s₃
            else ∃ m, m < n ∧ I m s₃) (notedBy (model prog w) A env fun e s' => R (.error e) s') s₂) (notedBy (model prog w) A env fun e s' => R (.error e) s') s₁') (notedBy (model prog w) A env fun e s' => R (.error e) s') s₁) (notedBy (model prog w) A env fun e s' => R (.error e) s') s)
    (n : Nat) (h : I n s) :
    codeAny (model prog w) A (.compLoop (.ListComp elt [⟨target, iter, ifs, 0⟩] scope pos) 0 it acc env) R s := by
  refine codeAny_loop rfl I (fun n s hI => ?_) n h
  show wpAny _ A ((compTurn (.ListComp elt [⟨target, iter, ifs, 0⟩] scope pos) 0 it acc env).onRaise (fun x => do noteFrame x env; theTreesLotGoes x)) _ _ s
  refine wpAny_noted ?_
  rw [compTurn_list]
  refine wpAny_bind (wpAny_standAt (wpAny_bind (wpAny_mono (turn n s hI) (fun r s₁ h₁ => ?_) fun _ _ h' => h')))
  cases r with
  | none => exact wpAny_pure h₁
  | some v =>
    refine wpAny_bind (wpAny_mono h₁ (fun _ s₁' h₁' => ?_) fun _ _ h' => h')
    refine wpAny_bind (wpAny_mono h₁' (fun _ s₂ h₂ => wpAny_bind (wpAny_mono h₂ (fun ok s₃ h₃ => ?_) fun _ _ h' => h')) fun _ _ h' => h')
    cases ok with
    | false => exact wpAny_pure ⟨rfl, h₃⟩
    | true =>
      exact wpAny_bind (wpAny_bind (wpAny_mono h₃ (fun x s₄ h₄ => wpAny_bind (wpAny_mono h₄ (fun _ s₅ h₅ => wpAny_pure (wpAny_pure ⟨rfl, h₅⟩)) fun _ _ h' => h')) fun _ _ h' => h'))

section
variable {X : Cx}
/-- [elt for target in iter if ..]: D the new list; W by the turn and a measure, Nx what a turn is to reach -/
def tLc (wi : TI) (g : TG) (tt : TT) (te : TE) (vs : List Nat) : TE := fun σ H Q => wi σ H fun J H1 => ∀ D, H1 D = none → ∃ W : Nat → Nat → Hp → Prop, (∃ m, W 0 m (upd H1 D (.lst []))) ∧ ∀ i m H, W i m H →
  (J.stop i H ∧ Q (.ref D) H) ∨ (J.go i H ∧ ∃ Nx : Hp → Prop, (∀ H', Nx H' → ∃ m', m' < m ∧ W (i + 1) m' H') ∧ ∀ x H', J.yld i H x H' → g x (wipe σ vs) H' fun σ2 H2 => wipe σ2 vs = wipe σ vs ∧ tt σ2 H2 fun b H3 =>
    if b = true then te σ2 H3 fun y H4 => ∃ acc, H4 D = some (.lst acc) ∧ acc.length < sizeLine ∧ Nx (upd H4 D (.lst (acc ++ [y]))) else Nx H3)
theorem lc_core {pins : List (Addr × Obj)} {s : Shared} {σ : St} {H : Hp} {Q : VK} {elt tg iter : Expr} {ifs : List Expr} {scope : Scope} {own : List (Str × Nat)} {pos pos' : Pos} {wi : TI} {g : TG} {tt : TT} {te : TE} {use : Option (Value → Sem Unit)} {Qf : Value → Shared → Prop}
    (hc : X.calm = true) (hN : X.N.Nodup) (I : Inv X pins σ H s) (hi : PI X tg iter wi) (ok : BlkOk X.N X.env.scope scope own)
    (hg : ∀ (s : Shared) (H : Hp) (C : Addr) (cl : List (Str × Addr)) (fp : List Addr), PG (X.blk s H scope (compEnvC scope cl C X.env) fp) tg g) (ht : ∀ (s : Shared) (H : Hp) (C : Addr) (cl : List (Str × Addr)) (fp : List Addr), PTs (X.blk s H scope (compEnvC scope cl C X.env) fp) ifs tt)
    (he : ∀ (s : Shared) (H : Hp) (C : Addr) (cl : List (Str × Addr)) (fp : List Addr), PE (X.blk s H scope (compEnvC scope cl C X.env) fp) elt te) (hs : ∀ x, foldedSetIterable iter X.env x = pure x)
    (h : tLc wi g tt te (own.map (·.2)) σ H Q)
    (hRR : ∀ D C s' m H', Inv X pins σ H' s' → Q (.ref D) H' → s'.heap.Ns C m → FpOk X pins H' C → compPost (model X.prog X.w) X.A X.xe use Qf (.ref D) C (.ok .next) s') :
    wpAny (model X.prog X.w) X.A (comprehension (.ListComp elt [⟨tg, iter, ifs, 0⟩] scope pos) scope X.env pos' (newList []) false (eval iter X.env) use) Qf X.xe s := by
  have hfree : ∀ y ∈ scope.names, y.2 = .free → ∃ c, X.env.cells.lookup y.1 = some c := fun y hy e => by
    rcases ok.free y hy e with k | k
    · exact I.ok.has _ (.inl k)
    · exact I.ok.has _ (.inr k)
  refine wpAny_comprehension_free (use := use) rfl hs (closure_ok hfree) ok.kind (fun y hy e => by rw [ok.uniq y hy, e])
    (thn (hi pins s σ H _ I h) fun xv s1 hx => thn hx fun itv s2 h2 => ?_)
  obtain ⟨it, fp, tn, J, H2, e, I2, T, st2, f2, q⟩ := h2
  subst e
  refine wpAny_newObj_type (newEnv_comp ?_) (by show 0 ≤ sizeLine; decide)
  generalize hD : s2.heap.objs.size = D
  have hDn : H2 D = none := I2.hok.fresh (Nat.le_of_eq hD)
  obtain ⟨W, ⟨m0, w0⟩, turn⟩ := q D hDn
  -- the new list
  generalize hs3 : ({ s2 with heap := s2.heap.push { cls := .type "list", data := .seq ([] : List Value).toArray } } : Shared) = s3
  have I3 : Inv X pins σ (upd H2 D (.lst [])) s3 := by
    rw [← hs3]
    refine I2.laid (t' := s2.toks) (fun b o e => Heap.get?_push_of_some _ e) (Nat.le_of_eq hD) ⟨Nat.zero_le _, [], 0, .nil, ?_⟩
    rw [← hD]
    exact Heap.get?_push_size _ rfl
  have h3 : s3.heap = s2.heap.push { cls := .type "list", data := .seq ([] : List Value).toArray } := by rw [← hs3]
  have sz : ∀ b ∈ fp, b < s2.heap.objs.size := fun b hb => by
    obtain ⟨o, e, _⟩ := T.obj _ _ st2 b hb
    exact Heap.lt_size e
  have f3 : ∀ b ∈ fp, FpOk X pins (upd H2 D (.lst [])) b ∧ b < s3.heap.objs.size := fun b hb => by
    have hlt := sz b hb
    refine ⟨⟨?_, (f2 b hb).2⟩, by rw [h3, Heap.size_push]; exact Nat.lt_succ_of_lt hlt⟩
    rw [upd_ne (by rw [← hD]; exact Nat.ne_of_lt hlt)]
    exact (f2 b hb).1
  have st3 : tn 0 s3.heap := T.keep _ _ _ st2 fun b _ o e => by rw [h3]; exact Heap.get?_push_of_some _ e
  have I4 := block_start I3 ok hN f3
  have pg := hg s3 (upd H2 D (.lst [])) s3.heap.objs.size (cellsFrom (s3.heap.objs.size + 1) scope.names (cloFrom X.env.cells scope.names [])) fp
  have pt := ht s3 (upd H2 D (.lst [])) s3.heap.objs.size (cellsFrom (s3.heap.objs.size + 1) scope.names (cloFrom X.env.cells scope.names [])) fp
  have pe := he s3 (upd H2 D (.lst [])) s3.heap.objs.size (cellsFrom (s3.heap.objs.size + 1) scope.names (cloFrom X.env.cells scope.names [])) fp
  show codeAny _ _ (.compStart (.ListComp elt [⟨tg, iter, ifs, 0⟩] scope pos) 0 (.ref it) (.ref D) (compEnvC scope (cellsFrom (s3.heap.objs.size + 1) scope.names (cloFrom X.env.cells scope.names [])) s3.heap.objs.size X.env)) (compPost (model X.prog X.w) X.A X.xe use Qf (.ref D) s3.heap.objs.size) { s3 with heap := pushCells (s3.heap.push { cls := .type "dict", data := .dict #[] }) scope.names }
  have nfp : ∀ b ∈ fp, (upd H2 D (.lst [])) b = none := fun b hb => (f3 b hb).1.1
  generalize hce : compEnvC scope (cellsFrom (s3.heap.objs.size + 1) scope.names (cloFrom X.env.cells scope.names [])) s3.heap.objs.size X.env = ce at I4 pg pt pe ⊢
  have cL : ce.locals = s3.heap.objs.size := by subst hce; rfl
  generalize hH3 : upd H2 D (.lst []) = H3 at I3 I4 pg pt pe w0 nfp f3
  generalize hs4 : ({ s3 with heap := pushCells (s3.heap.push { cls := .type "dict", data := .dict #[] }) scope.names } : Shared) = s4 at I4 ⊢
  have st4 : tn 0 s4.heap := T.keep _ _ _ st3 fun b _ o e => by rw [← hs4]; exact pushCells_keeps _ _ _ _ (Heap.get?_push_of_some _ e)
  have stat : ∀ {σ' : St} {H' : Hp} {s' : Shared}, Inv (X.blk s3 H3 scope ce fp) [] σ' H' s' → (∀ b ∈ fp, H' b = none) → ∀ b ∈ fp, FpOk (X.blk s3 H3 scope ce fp) [] H' b := fun {σ' H' s'} I' hn b hb =>
    ⟨hn b hb, (I'.ok.exf b hb).1, I'.ok.exfs b hb, .inl hb, fun x c e => (I'.ok.exf b hb).2 x c e, fun p hp => absurd (show p ∈ ([] : List (Addr × Obj)) ++ [] from hp) (by simp)⟩
  have loop : codeAny (model X.prog X.w) X.A (.compLoop (.ListComp elt [⟨tg, iter, ifs, 0⟩] scope pos) 0 (.ref it) (.ref D) ce) (compPost (model X.prog X.w) X.A X.xe use Qf (.ref D) s3.heap.objs.size) s4 := by
    refine compLoop_any (fun n s' => ∃ i H', Inv (X.blk s3 H3 scope ce fp) [] (wipe σ (own.map (·.2))) H' s' ∧ tn i s'.heap ∧ (∀ b ∈ fp, H' b = none) ∧ W i n H') ?_ m0 ⟨0, H3, I4, st4, nfp, w0⟩
    rintro n s5 ⟨i, H5, I5, st5, n5, w5⟩
    rcases turn i n H5 w5 with ⟨stop, qq⟩ | ⟨go, Nx, hNx, step⟩
    · have td := T.done (X.blk s3 H3 scope ce fp) rfl rfl rfl hc i [] s5 _ H5 (fun _ _ => False) I5 (stat I5 n5) st5 stop
      refine thnF td fun r s6 ⟨hr, I6⟩ => ?_
      subst hr
      -- back in the def's context
      have I7 : Inv X pins σ H5 s6 := I3.call' (ch := fp) I6.os I6.base I6.hok I6.bare fun b hb => ⟨(f3 b hb).1.2.2.2.1, (f3 b hb).1.2.1, (f3 b hb).1.2.2.2.2.1, (f3 b hb).1.2.2.2.2.2⟩
      have nC : H5 s3.heap.objs.size = none := by
        have z : H5 ce.locals = none := I6.free
        rw [cL] at z
        exact z
      obtain ⟨m, hn, _⟩ := I6.loc
      have hn : s6.heap.Ns ce.locals m := hn
      rw [cL] at hn
      exact hRR D s3.heap.objs.size s6 m H5 I7 qq hn (I3.fpOk (Nat.le_refl _) nC)
    · have ti := T.item (X.blk s3 H3 scope ce fp) rfl rfl rfl hc i [] s5 _ H5 (fun _ _ => False) I5 (stat I5 n5) st5 go
      refine thnF ti fun r s6 ⟨u, hr, h6⟩ => ?_
      subst hr
      refine thnF h6 fun _ s7 ⟨x, H7, I7, r7, y7, st7, n7⟩ => ?_
      have I7' := I7.pinned (stat I7 n7) (T.obj _ _ st7)
      refine thnF (pg _ s7 _ H7 x u _ I7' r7 (step x H7 y7)) fun _ s8 ⟨σ8, H8, I8, hw8, q8⟩ => ?_
      refine thnF (pt _ s8 σ8 H8 _ I8 q8) fun b s9 ⟨H9, I9, q9⟩ => ?_
      -- the turn's end
      have fin : ∀ {s' : Shared} {H' : Hp}, Inv (X.blk s3 H3 scope ce fp) ([] ++ pinsAt fp s7.heap) σ8 H' s' → Nx H' → ∃ m, m < n ∧ ∃ i H', Inv (X.blk s3 H3 scope ce fp) [] (wipe σ (own.map (·.2))) H' s' ∧ tn i s'.heap ∧ (∀ b ∈ fp, H' b = none) ∧ W i m H' := fun {s' H'} I' nx => by
        obtain ⟨m', hm, w'⟩ := hNx H' nx
        have pin' : ∀ b ∈ fp, ∀ o, s7.heap.get? b = some o → s'.heap.get? b = some o ∧ H' b = none := fun b hb o e =>
          let z := I'.pin (b, o) (List.mem_append_right _ (List.mem_append_right _ (mem_pinsAt hb e)))
          ⟨z.1, z.2.1⟩
        have hl : (wipe σ (own.map (·.2))).length = σ8.length := by rw [← hw8, wipe_length]
        refine ⟨m', hm, i + 1, H', (I'.unpinned (pins := [])).weak hl (fun j v e => ?_), T.keep _ _ _ st7 fun b hb o e => (pin' b hb o e).1, fun b hb => ?_, w'⟩
        · rw [← hw8] at e
          exact (wipe_some e).1
        · obtain ⟨o, e, _⟩ := T.obj _ _ st7 b hb
          exact (pin' b hb o e).2
      cases b with
      | false =>
        simp only [Bool.false_eq_true, if_false] at q9 ⊢
        exact fin I9 q9
      | true =>
        simp only [if_true] at q9 ⊢
        refine thnF (pe _ s9 σ8 H9 _ I9 q9) fun z s10 ⟨yv, H10, I10, r10, acc, hD10, hz10, nx⟩ => ?_
        exact app_ok (X := X.blk s3 H3 scope ce fp) I10 hD10 hz10 r10 fun s11 I11 => fin I11 nx
  exact codeAny_compStart_list loop (T.self X.A 0 _ _ _ st4 loop)
/-- as a value -/
theorem pe_lc {elt tg iter : Expr} {ifs : List Expr} {scope : Scope} {own : List (Str × Nat)} {pos : Pos} {wi : TI} {g : TG} {tt : TT} {te : TE} (hc : X.calm = true) (hN : X.N.Nodup) (hi : PI X tg iter wi) (ok : BlkOk X.N X.env.scope scope own)
    (hg : ∀ (s : Shared) (H : Hp) (C : Addr) (cl : List (Str × Addr)) (fp : List Addr), PG (X.blk s H scope (compEnvC scope cl C X.env) fp) tg g) (ht : ∀ (s : Shared) (H : Hp) (C : Addr) (cl : List (Str × Addr)) (fp : List Addr), PTs (X.blk s H scope (compEnvC scope cl C X.env) fp) ifs tt)
    (he : ∀ (s : Shared) (H : Hp) (C : Addr) (cl : List (Str × Addr)) (fp : List Addr), PE (X.blk s H scope (compEnvC scope cl C X.env) fp) elt te) (hs : ∀ x, foldedSetIterable iter X.env x = pure x := by intro _; rfl) :
    PE X (.ListComp elt [⟨tg, iter, ifs, 0⟩] scope pos) (tLc wi g tt te (own.map (·.2))) := by
  intro pins s σ H Q I h
  rw [eval_ListComp]
  refine lc_core hc hN I hi ok hg ht he hs h fun D C s' m H' I' q hn f => ⟨m, hn, fun h'' sb => ?_⟩
  obtain ⟨f0, f1, f2, f3, f4, f5⟩ := f
  exact ⟨.ref D, H', I'.turned (t' := s'.toks) (fun b o hb e => (sb.2 b hb).trans e) f0 f1 f3 f4 f5, rfl, q⟩
/-- name = [..] on one line, the name a local -/
theorem ps_setLc {i : Nat} {y : Str} {py : Pos} {elt tg iter : Expr} {ifs : List Expr} {scope : Scope} {own : List (Str × Nat)} {pos spos : Pos} {wi : TI} {g : TG} {tt : TT} {te : TE} (hc : X.calm = true) (hN : X.N.Nodup) (hy : X.N[i]? = some y) (hyl : X.env.scope.names.lookup y = some .local)
    (hsw : swapsWith (.ListComp elt [⟨tg, iter, ifs, 0⟩] scope pos) (some (.Name y py)) spos.line X.env = pure true) (hi : PI X tg iter wi) (ok : BlkOk X.N X.env.scope scope own)
    (hg : ∀ (s : Shared) (H : Hp) (C : Addr) (cl : List (Str × Addr)) (fp : List Addr), PG (X.blk s H scope (compEnvC scope cl C X.env) fp) tg g) (ht : ∀ (s : Shared) (H : Hp) (C : Addr) (cl : List (Str × Addr)) (fp : List Addr), PTs (X.blk s H scope (compEnvC scope cl C X.env) fp) ifs tt)
    (he : ∀ (s : Shared) (H : Hp) (C : Addr) (cl : List (Str × Addr)) (fp : List Addr), PE (X.blk s H scope (compEnvC scope cl C X.env) fp) elt te) (hs : ∀ x, foldedSetIterable iter X.env x = pure x := by intro _; rfl) :
    PS X (.Assign [.Name y py] (.ListComp elt [⟨tg, iter, ifs, 0⟩] scope pos) spos) (tAsg (tLc wi g tt te (own.map (·.2))) (gName i)) := by
  intro pins s σ H D I h
  rw [exec_Assign_Name_used _ _ _ _ hsw]
  refine wpAny_bind (wpAny_standAt (wpAny_bind ?_))
  show wpAny _ X.A (do let _ ← comprehension (.ListComp elt [⟨tg, iter, ifs, 0⟩] scope pos) scope X.env (firstIterPos [⟨tg, iter, ifs, 0⟩] pos) (newList []) false (eval iter X.env) (some (assign (.Name y py) X.env))) _ _ s
  have h : tLc wi g tt te (own.map (·.2)) σ H (fun x H1 => gName i x σ H1 D.nx) := h
  refine wpAny_bind (thn (lc_core (Qf := fun _ s' => SP X pins D .next s') hc hN I hi ok hg ht he hs h fun L C s' m H' I' q hn f => ?_) fun _ s' hq => wpAny_pure (wpAny_pure hq))
  show wpAny _ _ (assign (.Name y py) X.env (.ref L)) _ _ _
  refine wpAny_assign_Name (store_ok2 (v := V.ref L) I' hN hy (.inl hyl) rfl (fun s2 I2 ⟨a, sb, ha⟩ => ?_) (.inr hyl))
  obtain ⟨f0, f1, f2, f3, f4, f5⟩ := f
  have haC : C ≠ a := by
    rcases ha with z | z
    · rw [z]; exact f1
    · exact fun e => f4 y a z e.symm
  refine ⟨m, hn.sameBut sb haC, fun h3 sb3 => ?_⟩
  exact ⟨_, H', I2.turned (t' := s2.toks) (fun b o hb e => (sb3.2 b hb).trans e) f0 f1 f3 f4 f5, q⟩
theorem sw_true {elt : Expr} {gs : List Comprehension} {scope : Scope} {pos py : Pos} {y : Str} {l : Nat} {env : Env} (hk : env.scope.kind = .function) (hy : env.scope.names.lookup y = some .local) (hl : (py.line == pos.line) = true)
    (ha : (scope.names.any fun (n, k) => n == y && (k == .local || k == .cell)) = false) : swapsWith (.ListComp elt gs scope pos) (some (.Name y py)) l env = pure true := by
  have ky : env.kindOf y = some .local := hy
  have hb : env.blockKind = .function := by unfold Env.blockKind; rw [hk]; rfl
  unfold swapsWith
  simp only [hb, ky, ha, Expr.pos, hl]
  rfl
end

def blkC (N : List Str) (sc scope : Scope) (own : List (Str × Nat)) : Bool :=
  (match scope.kind with | .function => true | _ => false) && (scope.names.all fun y => decide (scope.names.lookup y.1 = some y.2)) && (own.all fun p => decide (N[p.2]? = some p.1)) &&
    (scope.names.all fun y => match y.2 with
      | .free => (match sc.names.lookup y.1 with | some .cell => true | some .free => true | _ => false)
      | .local => decide (y.1 ∈ own.map (·.1)) || decide (y.1 ∉ N)
      | .cell => decide (y.1 ∈ own.map (·.1)) || decide (y.1 ∉ N)
      | _ => true)
theorem blkOk_by {N : List Str} {sc scope : Scope} {own : List (Str × Nat)} (h : blkC N sc scope own = true) : BlkOk N sc scope own := by
  unfold blkC at h
  simp only [Bool.and_eq_true, List.all_eq_true, decide_eq_true_eq] at h
  obtain ⟨⟨⟨h1, h2⟩, h3⟩, h4⟩ := h
  refine ⟨?_, h2, h3, fun y hy e => ?_, fun y hy e => ?_⟩
  · split at h1
    · assumption
    · cases h1
  · have q := h4 y hy
    simp only [e] at q
    split at q <;> first | exact .inl (by assumption) | exact .inr (by assumption) | cases q
  · have q := h4 y hy
    rcases e with e | e <;> (simp only [e, Bool.or_eq_true, decide_eq_true_eq] at q; exact q)
end L2

namespace L2
open PySem PySem.Spec PyProof.Rows

section
variable {prog : Program} {w : World} {A : Around} {R : Result → Shared → Prop} {s : Shared} {elt t0 i0 t1 i1 : Expr} {ifs0 ifs1 : List Expr} {scope : Scope} {pos : Pos} {it acc : Value} {env : Env}
end

section
variable {X : Cx}
end
end L2

namespace L2
open PySem PySem.Spec PyProof.Rows

section
variable {κ : Type} [DecidableEq κ]
def valV (kvs : List (κ × V)) (k : κ) : Option V := (kvs.find? fun kv => decide (kv.1 = k)).map (·.2)
/-- in its place, or at the end -/
def putK (kvs : List (κ × V)) (k : κ) (v : V) : List (κ × V) :=
  if (kvs.any fun kv => decide (kv.1 = k)) = true then kvs.map (fun kv => if kv.1 = k then (kv.1, v) else kv) else kvs ++ [(k, v)]
def dropK (kvs : List (κ × V)) (k : κ) : List (κ × V) := kvs.filter fun kv => decide (kv.1 ≠ k)

theorem valV_pos {p : κ × V} {r : List (κ × V)} {k : κ} (e : p.1 = k) : valV (p :: r) k = some p.2 := by simp [valV, List.find?_cons, e]
theorem valV_neg {p : κ × V} {r : List (κ × V)} {k : κ} (e : ¬ p.1 = k) : valV (p :: r) k = valV r k := by simp [valV, List.find?_cons, e]
theorem valV_any (k : κ) : ∀ kvs : List (κ × V), (kvs.any fun kv => decide (kv.1 = k)) = (valV kvs k).isSome
  | [] => rfl
  | p :: r => by
    rw [List.any_cons]
    by_cases e : p.1 = k
    · simp only [valV_pos e, decide_eq_true e, Bool.true_or, Option.isSome_some]
    · rw [valV_neg e, decide_eq_false e, Bool.false_or]; exact valV_any k r
theorem length_putK (kvs : List (κ × V)) (k : κ) (v : V) : (putK kvs k v).length ≤ kvs.length + 1 := by
  unfold putK
  split
  · rw [List.length_map]; omega
  · rw [List.length_append, List.length_cons, List.length_nil]; omega
theorem RelO.isSome_eq {o : Option V} {u : Option Value} (r : RelO o u) : o.isSome = u.isSome := by
  cases o with
  | none => cases u with
    | none => rfl
    | some _ => exact (show False from r).elim
  | some _ => cases u with
    | none => exact (show False from r).elim
    | some _ => rfl
theorem RelO.getD {o : Option V} {u : Option Value} {d : V} {d' : Value} (r : RelO o u) (rd : RelV d d') : RelV (o.getD d) (u.getD d') := by
  cases o with
  | none => cases u with
    | none => exact rd
    | some _ => exact (show False from r).elim
  | some _ => cases u with
    | none => exact (show False from r).elim
    | some _ => exact r

/-- raw tables of the same keys -/
theorem KV.val {kvs : List (κ × V)} {vs : List (κ × Value)} (r : KV kvs vs) (k : κ) : RelO (valV kvs k) (valueAt vs k) := by
  unfold KV at r
  induction r with
  | nil => exact True.intro
  | @cons p q ps qs h t ih =>
    obtain ⟨h1, h2⟩ := h
    by_cases e : p.1 = k
    · have e' : q.1 = k := h1.symm.trans e
      have b : valueAt (q :: qs) k = some q.2 := by simp [valueAt, List.find?_cons, e']
      rw [valV_pos e, b]; exact h2
    · have e' : ¬ q.1 = k := fun z => e (h1.trans z)
      have b : valueAt (q :: qs) k = valueAt qs k := by simp [valueAt, List.find?_cons, e']
      rw [valV_neg e, b]; exact ih
theorem KV.any {kvs : List (κ × V)} {vs : List (κ × Value)} (r : KV kvs vs) (k : κ) : (kvs.any fun kv => decide (kv.1 = k)) = vs.any fun kv => decide (kv.1 = k) := by
  unfold KV at r
  induction r with
  | nil => rfl
  | cons h t ih => rw [List.any_cons, List.any_cons, ih, h.1]
theorem KV.repl {kvs : List (κ × V)} {vs : List (κ × Value)} (r : KV kvs vs) (k : κ) {y : V} {u : Value} (ry : RelV y u) :
    KV (kvs.map fun kv => if kv.1 = k then (kv.1, y) else kv) (vs.map fun kv => if kv.1 = k then (kv.1, u) else kv) := by
  unfold KV at r ⊢
  induction r with
  | nil => exact .nil
  | @cons p q ps qs h t ih =>
    rw [List.map_cons, List.map_cons]
    refine .cons ?_ ih
    obtain ⟨h1, h2⟩ := h
    by_cases e : p.1 = k
    · rw [if_pos e, if_pos (h1.symm.trans e)]; exact ⟨h1, ry⟩
    · rw [if_neg e, if_neg (fun z => e (h1.trans z))]; exact ⟨h1, h2⟩
theorem KV.put {kvs : List (κ × V)} {vs : List (κ × Value)} (r : KV kvs vs) (k : κ) {y : V} {u : Value} (ry : RelV y u) : KV (putK kvs k y) (stored vs k u) := by
  unfold putK stored
  rw [r.any k]
  by_cases e : (vs.any fun kv => decide (kv.1 = k)) = true
  · rw [if_pos e, if_pos e]; exact r.repl k ry
  · rw [if_neg e, if_neg e]; exact Paired.snoc r ⟨rfl, ry⟩
theorem KV.drop {kvs : List (κ × V)} {vs : List (κ × Value)} (r : KV kvs vs) (k : κ) : KV (dropK kvs k) (without vs k) := by
  unfold KV at r ⊢
  unfold dropK without
  induction r with
  | nil => exact .nil
  | @cons p q ps qs h t ih =>
    obtain ⟨h1, h2⟩ := h
    rw [List.filter_cons, List.filter_cons]
    by_cases e : p.1 = k
    · have a : ¬ decide (p.1 ≠ k) = true := by simp [e]
      have b : ¬ decide (q.1 ≠ k) = true := by simp [h1.symm.trans e]
      rw [if_neg a, if_neg b]; exact ih
    · have e' : ¬ q.1 = k := fun z => e (h1.trans z)
      have a : decide (p.1 ≠ k) = true := by simp [e]
      have b : decide (q.1 ≠ k) = true := by simp [e']
      rw [if_pos a, if_pos b]; exact .cons ⟨h1, h2⟩ ih
theorem KV.keys {kvs : List (κ × V)} {vs : List (κ × Value)} (r : KV kvs vs) : kvs.map (·.1) = vs.map (·.1) := by
  unfold KV at r
  induction r with
  | nil => rfl
  | cons h t ih => rw [List.map_cons, List.map_cons, ih, h.1]
theorem KV.length {kvs : List (κ × V)} {vs : List (κ × Value)} (r : KV kvs vs) : kvs.length = vs.length := Paired.length r
end


theorem kV_is {P : Program} {w : World} {k : Key} {u : Value} (r : RelV (kV k) u) : (mixKind P w).is k u = true := by
  cases k with
  | inl i => obtain ⟨t, e⟩ := (show ∃ t, u = Value.int i t from r); subst e; exact mixKind_int P w i t
  | inr x => obtain ⟨t, e⟩ := (show ∃ t, u = Value.str x t from r); subst e; exact mixKind_str P w x t
theorem items_are {P : Program} {w : World} : ∀ {ks : List Key} {us : List Value}, Vals (ks.map kV) us → ItemsAre (mixKind P w) ks us
  | [], _, r => by rw [List.map_nil] at r; cases r; exact .nil
  | k :: ks, _, r => by
    rw [List.map_cons] at r
    cases r with
    | cons h t => exact .cons (kV_is h) (items_are t)

/-- raw entries of a dict with tuple keys -/
abbrev KT (H : Hp) : List (List Key × V) → List (List Key × Addr × Value) → Prop := Paired fun p q => p.1 = q.1 ∧ H q.2.1 = some (.tup (p.1.map kV)) ∧ RelV p.2 q.2.2
theorem KT.val {H : Hp} {kvs : List (List Key × V)} {xs : List (List Key × Addr × Value)} (r : KT H kvs xs) (k : List Key) : RelO (valV kvs k) ((atKey xs k).map (·.2)) := by
  induction r with
  | nil => exact True.intro
  | @cons p q ps qs h t ih =>
    obtain ⟨h1, _, h2⟩ := h
    by_cases e : p.1 = k
    · have e' : q.1 = k := h1.symm.trans e
      have b : atKey (q :: qs) k = some q.2 := by simp [atKey, List.find?_cons, e']
      rw [valV_pos e, b]; exact h2
    · have e' : ¬ q.1 = k := fun z => e (h1.trans z)
      have b : atKey (q :: qs) k = atKey qs k := by simp [atKey, List.find?_cons, e']
      rw [valV_neg e, b]; exact ih
theorem KT.repl {H : Hp} {kvs : List (List Key × V)} {xs : List (List Key × Addr × Value)} (r : KT H kvs xs) (k : List Key) {y : V} {u : Value} (ry : RelV y u) :
    KT H (kvs.map fun kv => if kv.1 = k then (kv.1, y) else kv) (xs.map (putAt k u)) := by
  induction r with
  | nil => exact .nil
  | @cons p q ps qs h t ih =>
    rw [List.map_cons, List.map_cons]
    refine .cons ?_ ih
    obtain ⟨h1, h2, h3⟩ := h
    unfold putAt
    by_cases e : p.1 = k
    · rw [if_pos e, if_pos (h1.symm.trans e)]; exact ⟨h1, h2, ry⟩
    · rw [if_neg e, if_neg (fun z => e (h1.trans z))]; exact ⟨h1, h2, h3⟩
theorem KT.put {H : Hp} {kvs : List (List Key × V)} {xs : List (List Key × Addr × Value)} (r : KT H kvs xs) (k : List Key) {b : Addr} {y : V} {u : Value} (hb : H b = some (.tup (k.map kV))) (ry : RelV y u) :
    KT H (putK kvs k y) (storedH xs k b u) := by
  have e : (kvs.any fun kv => decide (kv.1 = k)) = (atKey xs k).isSome := by
    rw [valV_any, (r.val k).isSome_eq, Option.isSome_map]
  unfold putK storedH
  rw [e]
  by_cases q : (atKey xs k).isSome = true
  · rw [if_pos q, if_pos q]; exact r.repl k ry
  · rw [if_neg q, if_neg q]; exact Paired.snoc r ⟨rfl, hb, ry⟩
theorem KT.keeps {H H' : Hp} {kvs : List (List Key × V)} {xs : List (List Key × Addr × Value)} (r : KT H kvs xs) (ht : ∀ b ys, H b = some (.tup ys) → H' b = some (.tup ys)) : KT H' kvs xs :=
  Paired.mapP r fun _ _ z => ⟨z.1, ht _ _ z.2.1, z.2.2⟩

section
variable {P : Program} {w : World} {H : Hp} {h : Heap} {a : Addr}
theorem rd_of {u : HO} (ok : HOk P w H h) (e : Rd H a u) : ObjOk P w H h a u := e.ok ok
theorem dk_rd {kvs : List (Key × V)} (ok : HOk P w H h) (e : Rd H a (.dK kvs)) : kvs.length ≤ sizeLine ∧ (a == sysModules) = false ∧ ∃ vs, KV kvs vs ∧ h.DictOf (mixKind P w) a vs :=
  show ObjOk P w H h a (.dK kvs) from rd_of ok e
theorem dk_of {kvs : List (Key × V)} (ok : HOk P w H h) (e : H a = some (.dK kvs)) : kvs.length ≤ sizeLine ∧ (a == sysModules) = false ∧ ∃ vs, KV kvs vs ∧ h.DictOf (mixKind P w) a vs := dk_rd ok (.inl e)
/-- a tracked tuple of ints and texts is a key -/
theorem key_of {ks : List Key} (ok : HOk P w H h) (e : H a = some (.tup (ks.map kV))) : (tupleKind (mixKind P w)).is h ks a := by
  obtain ⟨_, its, r, o, h1, h2, n, h3, _⟩ := (show ObjOk P w H h a (.tup (ks.map kV)) from ok a _ e)
  exact ⟨o, its.toArray, n, h1, h2, h3, by simpa using items_are r⟩
theorem dt_rd {kvs : List (List Key × V)} (ok : HOk P w H h) (e : Rd H a (.dT kvs)) : kvs.length ≤ sizeLine ∧ (a == sysModules) = false ∧
    ∃ xs, KT H kvs xs ∧ h.DictOfH (tupleKind (mixKind P w)) a xs := by
  obtain ⟨z, y, xs, r, o, es, ep, h1, h2, h3, h4, h5⟩ := (show ObjOk P w H h a (.dT kvs) from rd_of ok e)
  refine ⟨z, y, xs, r, o, es, ep, h1, h2, h3, h4, fun x hx => ?_, h5⟩
  have all : ∀ {l : List (List Key × V)} {m : List (List Key × Addr × Value)}, KT H l m → ∀ x ∈ m, (tupleKind (mixKind P w)).is h x.1 x.2.1 := by
    intro l m q
    induction q with
    | nil => intro x hx; exact nomatch hx
    | @cons p q ps qs hq t ih =>
      intro x hx
      rcases List.mem_cons.mp hx with e | hx
      · subst e
        exact key_of ok (by rw [← hq.1]; exact hq.2.1)
      · exact ih x hx
  exact all r x hx
theorem dt_of {kvs : List (List Key × V)} (ok : HOk P w H h) (e : H a = some (.dT kvs)) : kvs.length ≤ sizeLine ∧ (a == sysModules) = false ∧
    ∃ xs, KT H kvs xs ∧ h.DictOfH (tupleKind (mixKind P w)) a xs := dt_rd ok (.inl e)
end

/-- what the dict at a holds at the key y -/
def DGet (H : Hp) (a : Addr) (y : V) (r : Option V) : Prop :=
  (∃ kvs k, Rd H a (.dK kvs) ∧ y = kV k ∧ r = valV kvs k) ∨ ∃ kvs k b, Rd H a (.dT kvs) ∧ y = .ref b ∧ H b = some (.tup (k.map kV)) ∧ r = valV kvs k
/-- the heap behind a[y] = v -/
def DPut (H : Hp) (a : Addr) (y v : V) (H' : Hp) : Prop :=
  (∃ kvs k, H a = some (.dK kvs) ∧ y = kV k ∧ kvs.length < sizeLine ∧ H' = upd H a (.dK (putK kvs k v))) ∨
  ∃ kvs k b, H a = some (.dT kvs) ∧ y = .ref b ∧ H b = some (.tup (k.map kV)) ∧ kvs.length < sizeLine ∧ H' = upd H a (.dT (putK kvs k v))
theorem DGet.k {H : Hp} {a : Addr} {kvs : List (Key × V)} {k : Key} (e : H a = some (.dK kvs)) : DGet H a (kV k) (valV kvs k) := .inl ⟨kvs, k, .inl e, rfl, rfl⟩
theorem DGet.t {H : Hp} {a b : Addr} {kvs : List (List Key × V)} {k : List Key} (e : H a = some (.dT kvs)) (eb : H b = some (.tup (k.map kV))) : DGet H a (.ref b) (valV kvs k) := .inr ⟨kvs, k, b, .inl e, rfl, eb, rfl⟩
theorem DPut.k {H : Hp} {a : Addr} {kvs : List (Key × V)} {k : Key} {v : V} (e : H a = some (.dK kvs)) (hl : kvs.length < sizeLine) : DPut H a (kV k) v (upd H a (.dK (putK kvs k v))) := .inl ⟨kvs, k, e, rfl, hl, rfl⟩
theorem DPut.t {H : Hp} {a b : Addr} {kvs : List (List Key × V)} {k : List Key} {v : V} (e : H a = some (.dT kvs)) (eb : H b = some (.tup (k.map kV))) (hl : kvs.length < sizeLine) :
    DPut H a (.ref b) v (upd H a (.dT (putK kvs k v))) := .inr ⟨kvs, k, b, e, rfl, eb, hl, rfl⟩


section
variable {X : Cx} {pins : List (Addr × Obj)} {σ : St} {H : Hp} {s : Shared} {a : Addr} {y v : V} {u r : Value} {o : Option V} {A : Around} {E : Value → Shared → Prop}

theorem Inv.big (I : Inv X pins σ H s) : sysModules < s.heap.objs.size := by
  have h : mainGlobals < s.heap.objs.size := (I.mod.glob.keeps I.bk).lt
  exact Nat.lt_trans (by decide) h

/-- a dict's object is replaced -/
theorem d_write {h' : Heap} {t' : Nat} {ob : HO} (I : Inv X pins σ H s) (mu : Mut (H a)) (hs : Heap.SameBut a s.heap h') (he : ∃ q, h'.get? a = some q) (new : ObjOk X.prog X.w (upd H a ob) h' a ob) :
    Inv X pins σ (upd H a ob) { s with heap := h', toks := t' } :=
  I.write (x := a) (e := a) mu (.inl rfl) (fun b q hb z => (hs.2 b hb).trans z) he new
theorem dk_new {P : Program} {w : World} {H' : Hp} {h' : Heap} {kvs : List (Key × V)} {vs : List (Key × Value)} (z : kvs.length ≤ sizeLine) (hd : (a == sysModules) = false) (rel : KV kvs vs) (dd : h'.DictOf (mixKind P w) a vs) :
    ObjOk P w H' h' a (.dK kvs) := ⟨z, hd, vs, rel, dd⟩
/-- d[y] = v -/
theorem d_setItem {H' : Hp} {Q : Unit → Shared → Prop} (hu : A.units + 1 < cLine) (I : Inv X pins σ H s) (g : DPut H a y v H') (ry : RelV y u) (rv : RelV v r) (h : ∀ s', Inv X pins σ H' s' → Q () s') :
    wpAny (model X.prog X.w) A (setItem (.ref a) u r) Q E s := by
  rcases g with ⟨kvs, k, e, ey, l, eH⟩ | ⟨kvs, k, b, e, ey, eb, l, eH⟩
  · subst ey eH
    obtain ⟨z, hd, vs, rel, dd⟩ := dk_of I.hok e
    have hz : vs.length ≤ sizeLine := by rw [← rel.length]; exact z
    have hl : (putK kvs k v).length ≤ sizeLine := by have := length_putK kvs k v; omega
    refine wpAny_setItem_pairs (hsz := hz) (kV_is ry) dd fun h' dd' hs => h _ ?_
    have he : ∃ q, h'.get? a = some q := let ⟨q, _, _, hq, _⟩ := dd'; ⟨q, hq⟩
    exact d_write I (by rw [e]; exact True.intro) hs he (dk_new hl hd (rel.put k rv) dd')
  · subst ey eH
    cases (show u = Value.ref b from ry)
    obtain ⟨z, hd, xs, rel, dd⟩ := dt_of I.hok e
    have hz : xs.length ≤ sizeLine := by rw [← Paired.length rel]; exact z
    have hl : (putK kvs k v).length ≤ sizeLine := by have := length_putK kvs k v; omega
    refine wpAny_setItem_heap (hsz := hz) (tupleKind_room_in1 hu) (key_of I.hok eb) dd fun h' dd' hs => h _ ?_
    obtain ⟨q, es, ep, hq, h2, h3, h4, _, h5⟩ := dd'
    refine d_write I (by rw [e]; exact True.intro) hs ⟨q, hq⟩ ⟨hl, hd, _, (rel.put k eb rv).keeps fun c ys ec => ?_, q, es, ep, hq, h2, h3, h4, h5⟩
    rw [upd_ne (ne_of ec e (fun z => nomatch z))]
    exact ec
end

section
variable {X : Cx} {pins : List (Addr × Obj)} {σ : St} {H : Hp} {s : Shared} {a : Addr} {kvs : List (Key × V)} {k : Key} {u : Value} {A : Around} {E : Value → Shared → Prop}
/-- len(d) -/
theorem d_len {Q : Value → Shared → Prop} (I : Inv X pins σ H s) (e : Rd H a (.dK kvs)) (h : ∀ t s', Inv X pins σ H s' → Q (.int kvs.length t) s') : wpAny (model X.prog X.w) A (call (.builtin "len") [.ref a]) Q E s := by
  obtain ⟨z, hd, vs, rel, dd⟩ := dk_rd I.hok e
  refine call_len_dict hd dd (by rw [← rel.length]; rw [sizeLine_eq] at z; omega) ?_
  rw [← rel.length]
  exact h _ _ (I.tok _)
end


/-- d[y] = v -/
def sDPut (td ty tv : TE) : TS := fun D σ H => tv σ H fun v H1 => td σ H1 fun x H2 => ty σ H2 fun y H3 => ∃ a H4, x = .ref a ∧ DPut H3 a y v H4 ∧ D.nx σ H4
section
variable {X : Cx} {o i e value : Expr} {pos pos' tpos : Pos} {td ty tv : TE}
theorem ps_dput (hu : X.A.units + 1 < cLine) (ho : PE X o td) (hi : PE X i ty) (hv : PE X value tv) (hs : swapsWith value (some (.Subscript o i pos')) pos.line X.env = pure false) :
    PS X (.Assign [.Subscript o i pos'] value pos) (sDPut td ty tv) := by
  intro pins s σ H D I h
  refine wpAny_Assign_Subscript (thn (hv pins s σ H _ I h) fun r s1 ⟨v, H1, I1, rv, q1⟩ => thn (ho pins s1 σ H1 _ I1 q1) fun u s2 ⟨x, H2, I2, rx, q2⟩ => thn (hi pins s2 σ H2 _ I2 q2) fun iv s3 ⟨y, H3, I3, ry, a, H4, ex, g, q3⟩ => ?_) hs
  subst ex
  obtain rfl : u = Value.ref a := rx
  exact d_setItem hu I3 g ry rv fun s4 I4 => ⟨σ, H4, I4, q3⟩
end


theorem dk_empty {P : Program} {w : World} {H : Hp} (h : Heap) (hb : sysModules < h.objs.size) : ObjOk P w H (h.push { cls := .type "dict", data := .dict #[] }) h.objs.size (.dK []) :=
  ⟨Nat.zero_le _, beq_eq_false_iff_ne.mpr (Ne.symm (Nat.ne_of_lt hb)), [], .nil, Heap.DictOf.new h⟩
/-- {}, to be a dict of the kind that is wanted -/
def tDNewK : TE := fun _ H Q => ∀ p, H p = none → Q (.ref p) (upd H p (.dK []))
section
variable {X : Cx} {pos : Pos}
theorem pe_dnewK : PE X (.Dict [] [] pos) tDNewK := fun pins s σ H Q I h =>
  wpAny_Dict_empty ⟨.ref s.heap.objs.size, _, I.laid (a := s.heap.objs.size) (o := .dK []) (t' := s.toks) (fun _ _ q => Heap.get?_push_of_some _ q) (Nat.le_refl _) (dk_empty s.heap I.big), rfl, h _ (I.hok.fresh (Nat.le_refl _))⟩
end

/-- the pairs of a display, from the left -/
def tPairs : List (TE × TE) → St → Hp → (List (V × V) → Hp → Prop) → Prop
  | [], _, H, Q => Q [] H
  | (tk, tv) :: r, σ, H, Q => tk σ H fun x H1 => tv σ H1 fun y H2 => tPairs r σ H2 fun ps H3 => Q ((x, y) :: ps) H3
abbrev VV : List (V × V) → List (Value × Value) → Prop := Paired fun p q => RelV p.1 q.1 ∧ RelV p.2 q.2
def PPs (X : Cx) (pos : Pos) (keys : List (Option Expr)) (values : List Expr) (trs : List (TE × TE)) : Prop :=
  ∀ (pins : List (Addr × Obj)) (s : Shared) (σ : St) (H : Hp) (Q : List (V × V) → Hp → Prop), Inv X pins σ H s → tPairs trs σ H Q →
    wpAny (model X.prog X.w) X.A (evalPairs (pairTrees keys values X.env pos)) (fun vs s' => ∃ ps H', Inv X pins σ H' s' ∧ VV ps vs ∧ Q ps H') X.xe s
theorem pps_nil {X : Cx} {pos : Pos} : PPs X pos [] [] [] := fun pins s σ H Q I h => pairTrees_nil_walk ⟨[], H, I, .nil, h⟩
theorem pps_cons {X : Cx} {pos : Pos} {k v : Expr} {ks : List (Option Expr)} {vs : List Expr} {tk tv : TE} {trs : List (TE × TE)} (hk : PE X k tk) (hv : PE X v tv) (hr : PPs X pos ks vs trs) :
    PPs X pos (some k :: ks) (v :: vs) ((tk, tv) :: trs) := fun pins s σ H Q I h =>
  pairTrees_cons_walk (thn (hk pins s σ H _ I h) fun u s1 ⟨x, H1, I1, rx, q1⟩ => thn (hv pins s1 σ H1 _ I1 q1) fun w2 s2 ⟨y, H2, I2, ry, q2⟩ =>
    thn (hr pins s2 σ H2 _ I2 q2) fun ws s3 ⟨ps, H3, I3, rel, q3⟩ => ⟨(x, y) :: ps, H3, I3, .cons ⟨rx, ry⟩ rel, q3⟩)

def mergeK (kvs more : List (Key × V)) : List (Key × V) := more.foldl (fun acc kv => putK acc kv.1 kv.2) kvs
theorem KV.merge : ∀ {more : List (Key × V)} {rs : List (Key × Value)} {kvs : List (Key × V)} {vs : List (Key × Value)}, KV more rs → KV kvs vs → KV (mergeK kvs more) (merged vs rs) := by
  intro more rs kvs vs r
  unfold KV at r
  induction r generalizing kvs vs with
  | nil => intro q; exact q
  | @cons p q ps qs h t ih =>
    intro r0
    have e : KV (putK kvs p.1 p.2) (stored vs q.1 q.2) := by
      have := r0.put p.1 h.2
      rw [← h.1]; exact this
    exact ih e
theorem length_mergeK : ∀ (more kvs : List (Key × V)), (mergeK kvs more).length ≤ kvs.length + more.length
  | [], kvs => by show kvs.length ≤ kvs.length + 0; omega
  | p :: r, kvs => by
    have h1 := length_mergeK r (putK kvs p.1 p.2)
    have h2 := length_putK kvs p.1 p.2
    show (mergeK (putK kvs p.1 p.2) r).length ≤ _
    rw [List.length_cons]; omega
theorem carries_of {P : Program} {w : World} : ∀ {kvs : List (Key × V)} {ws : List (Value × Value)}, VV (kvs.map fun kv => (kV kv.1, kv.2)) ws → ∃ rs, Carries (mixKind P w) ws rs ∧ KV kvs rs
  | [], _, r => by rw [List.map_nil] at r; cases r; exact ⟨[], True.intro, .nil⟩
  | p :: kvs, _, r => by
    rw [List.map_cons] at r
    cases r with
    | @cons a b as bs h t =>
      obtain ⟨rs, c, q⟩ := carries_of (P := P) (w := w) t
      obtain ⟨b1, b2⟩ := b
      exact ⟨(p.1, b2) :: rs, ⟨kV_is h.1, rfl, c⟩, .cons ⟨rfl, h.2⟩ q⟩
/-- {k: v, ..} with keys ints and texts; the new dict stands empty while the pairs are made -/
def tDisp (trs : List (TE × TE)) : TE := fun σ H Q => ∀ p, H p = none → tPairs trs σ (upd H p (.dK [])) fun ps H2 => H2 p = some (.dK []) ∧ ∃ kvs : List (Key × V), ps = kvs.map (fun kv => (kV kv.1, kv.2)) ∧ kvs.length ≤ 15 ∧ Q (.ref p) (upd H2 p (.dK (mergeK [] kvs)))
theorem pe_disp {X : Cx} {pos : Pos} {keys : List (Option Expr)} {values : List Expr} {trs : List (TE × TE)} (h : PPs X pos keys values trs) (hall : keys.all (·.isSome) = true) (hl : keys.length = values.length) (h0 : keys ≠ [])
    (h15 : keys.length ≤ 15) : PE X (.Dict keys values pos) (tDisp trs) := by
  intro pins s σ H Q I q
  have hn := I.hok.fresh (Nat.le_refl s.heap.objs.size)
  have I1 := I.laid (a := s.heap.objs.size) (o := .dK []) (h' := s.heap.push { cls := .type "dict", data := .dict #[] }) (t' := s.toks) (fun _ _ q => Heap.get?_push_of_some _ q) (Nat.le_refl _) (dk_empty s.heap I.big)
  refine wpAny_Dict_walk (knd := mixKind X.prog X.w) hall hl h0 h15 (thn (h pins _ σ _ _ I1 (q _ hn)) fun ws s2 ⟨ps, H2, I2, rel, e, kvs, ep, lk, q2⟩ => ?_)
  subst ep
  obtain ⟨rs, c, rk⟩ := carries_of (P := X.prog) (w := X.w) rel
  obtain ⟨z, hd, vs0, r0, dd⟩ := dk_of I2.hok e
  cases r0
  refine ⟨rs, c, dd, fun h' dd' hs => ⟨.ref s.heap.objs.size, _, ?_, rfl, q2⟩⟩
  have hz : (mergeK [] kvs).length ≤ sizeLine := by
    have h1 := length_mergeK kvs []
    rw [List.length_nil] at h1
    rw [sizeLine_eq]; omega
  have he : ∃ q, h'.get? s.heap.objs.size = some q := let ⟨q, _, _, hq, _⟩ := dd'; ⟨q, hq⟩
  exact d_write I2 (by rw [e]; exact True.intro) hs he (dk_new hz hd (rk.merge .nil) dd')


/-- a method call o.m(e) of a built-in, with one argument: what must be seen of the text -/
structure M1 (X : Cx) (o : Expr) (m : Str) (apos : Pos) (e : Expr) (cpos : Pos) : Prop where
  base : attributeBase o m X.env (eval o X.env) = eval o X.env
  few : ((backTo cpos (starEach [e] X.env)).all (fun x => !x.1) && (backToKw cpos (keywordEach [] X.env)).all (fun x => x.1.isSome)
    && decide (([e] : List Expr).length + ([] : List Keyword).length + (if ([] : List Keyword).isEmpty then 0 else 1) < 30)) = true
  line : (apos.endLine == cpos.line) = true
  trees : backTo cpos (starEach [e] X.env) = [(false, eval e X.env)]
structure M2 (X : Cx) (o : Expr) (m : Str) (apos : Pos) (e f : Expr) (cpos : Pos) : Prop where
  base : attributeBase o m X.env (eval o X.env) = eval o X.env
  few : ((backTo cpos (starEach [e, f] X.env)).all (fun x => !x.1) && (backToKw cpos (keywordEach [] X.env)).all (fun x => x.1.isSome)
    && decide (([e, f] : List Expr).length + ([] : List Keyword).length + (if ([] : List Keyword).isEmpty then 0 else 1) < 30)) = true
  line : (apos.endLine == cpos.line) = true
  trees : backTo cpos (starEach [e, f] X.env) = [(false, eval e X.env), (false, eval f X.env)]

/-- a is a dict, whatever its keys -/
def IsD (H : Hp) (a : Addr) : Prop := (∃ kvs, Rd H a (.dK kvs)) ∨ ∃ kvs, Rd H a (.dT kvs)
theorem isD_at {X : Cx} {pins : List (Addr × Obj)} {σ : St} {H : Hp} {s : Shared} {a : Addr} (I : Inv X pins σ H s) (d : IsD H a) :
    s.TypeIs (.ref a) "dict" ∧ (∀ b, Value.ref a = .ref b → ∃ ob, s.heap.get? b = some ob ∧ ob.dict = none) ∧ (a == sysModules) = false := by
  rcases d with ⟨kvs, e⟩ | ⟨kvs, e⟩
  · obtain ⟨_, hd, vs, _, dd⟩ := dk_rd I.hok e
    refine ⟨dd.typeIs, fun b q => ?_, hd⟩
    cases q
    obtain ⟨ob, _, _, h1, h2, _⟩ := dd
    exact ⟨ob, h1, h2.2.1⟩
  · obtain ⟨_, hd, xs, _, dd⟩ := dt_rd I.hok e
    refine ⟨dd.typeIs, fun b q => ?_, hd⟩
    cases q
    obtain ⟨ob, _, _, h1, h2, _⟩ := dd
    exact ⟨ob, h1, h2.2.1⟩

section
variable {X : Cx} {pins : List (Addr × Obj)} {σ : St} {H : Hp} {s : Shared} {a : Addr} {y d : V} {u r : Value} {o : Option V} {A : Around} {E : Value → Shared → Prop}
/-- d.get(y, x) -/
theorem d_get2 {Q : Value → Shared → Prop} (hu : A.units + 1 < cLine) (I : Inv X pins σ H s) (g : DGet H a y o) (ry : RelV y u) (rd : RelV d r) (h : ∀ w' s', Inv X pins σ H s' → RelV (o.getD d) w' → Q w' s') :
    wpAny (model X.prog X.w) A (call (.builtin "dict.get") [.ref a, u, r]) Q E s := by
  rcases g with ⟨kvs, k, e, ey, l⟩ | ⟨kvs, k, b, e, ey, eb, l⟩
  · subst ey
    obtain ⟨z, hd, vs, rel, dd⟩ := dk_rd I.hok e
    refine call_meetsIn PySem.F.slot_dict_get dd.typeIs PySem.F.entry_dict_get (PySem.F.args_dict_get_3 _ _ _) (meets_dict_get_default (mixKind X.prog X.w) a (kV_is ry) hd r) ⟨_, dd.mapOf, h _ _ (I.tok _) ?_⟩
    rw [l]
    exact (rel.val k).getD rd
  · subst ey
    cases (show u = Value.ref b from ry)
    obtain ⟨z, hd, xs, rel, dd⟩ := dt_rd I.hok e
    refine call_meetsIn PySem.F.slot_dict_get dd.typeIs PySem.F.entry_dict_get (PySem.F.args_dict_get_3 _ _ _) (meetsH_dict_get_default (tupleKind (mixKind X.prog X.w)) a b hd r) ⟨tupleKind_room_in1 hu, k, xs, key_of I.hok eb, dd, h _ _ (I.tok _) ?_⟩
    rw [l]
    exact (rel.val k).getD rd
end

def tDGet2 (td ty tx : TE) : TE := fun σ H Q => td σ H fun x H1 => ∃ a, x = .ref a ∧ IsD H1 a ∧ ty σ H1 fun y H2 => tx σ H2 fun z H3 => ∃ o, DGet H3 a y o ∧ Q (o.getD z) H3
section
variable {X : Cx} {o e f : Expr} {apos cpos : Pos} {td ty tx : TE}
theorem pe_dget2 (hu : X.A.units + 1 < cLine) (ho : PE X o td) (he : PE X e ty) (hf : PE X f tx) (m : M2 X o "get" apos e f cpos) : PE X (.Call (.Attribute o "get" apos) [e, f] [] cpos) (tDGet2 td ty tx) := by
  intro pins s σ H Q I h
  refine wpAny_Call_method m.base m.few m.line PySem.F.plainAttrs_dict PySem.F.slot_dict_get PySem.F.type_dict_get (thn (ho pins s σ H _ I h) fun u s1 ⟨x, H1, I1, rx, a, ex, d, q1⟩ => ?_)
  subst ex
  obtain rfl : u = Value.ref a := rx
  obtain ⟨t1, t2, _⟩ := isD_at I1 d
  refine ⟨t1, t2, ?_⟩
  rw [m.trees]
  refine Calls.callWith_builtin rfl (Calls.evalArgs_plain (Calls.spliced_cons (thn (he pins s1 σ H1 _ I1 q1) fun iv s2 ⟨y, H2, I2, ry, q2⟩ =>
    Calls.spliced_cons (thn (hf pins s2 σ H2 _ I2 q2) fun fv s3 ⟨z, H3, I3, rz, ov, g, q3⟩ => Calls.spliced_nil ?_))))
  exact d_get2 hu I3 g ry rz fun w' s4 I4 rw' => ⟨_, H3, I4, rw', q3⟩
end

section
variable {X : Cx} {pins : List (Addr × Obj)} {σ : St} {H : Hp} {s : Shared} {a : Addr} {kvs : List (Key × V)} {A : Around} {E : Value → Shared → Prop}
end


section
variable {X : Cx} {pins : List (Addr × Obj)} {σ : St} {H : Hp} {s : Shared} {a : Addr} {y : V} {u : Value} {A : Around} {E : Value → Shared → Prop}
end
end L2

namespace L2
open PySem PySem.Spec PyProof.Rows

section
variable {prog : Program} {w : World} {A : Around} {E : Value → Shared → Prop}
end

section
variable {X : Cx}
end
end L2

namespace L2
open PySem PySem.Spec PyProof.Rows

section
variable {X : Cx} {pins : List (Addr × Obj)} {σ : St} {H : Hp} {s : Shared} {h' : Heap}
theorem Inv.unlock {d : Addr} {od : Obj} {u : HO} (I : Inv X pins σ H s) (h : H d = some (.frz od u)) (hn : ∀ o' u', X.H_0 d ≠ some (.frz o' u')) : Inv X pins σ (upd H d u) s := by
  have neH : ∀ b o, H b = some o → (∀ o' u', o ≠ .frz o' u') → b ≠ d := fun b o e hne z => by
    rw [z, h] at e
    cases e
    exact hne _ _ rfl
  have neN : ∀ b, H b = none → b ≠ d := fun b e z => by rw [z, h] at e; cases e
  refine ⟨I.ok, I.os, I.bare, ⟨I.base.keep, I.base.slot, fun b o e n hx => ?_, I.base.there, fun b xs e => ?_, fun b o x e => ?_, fun b ps e => ?_⟩, I.loc, I.cell, ?_, fun x c e => ?_, fun p hp => ?_, fun b o e => ?_, I.len⟩
  · rw [upd_ne (neN b (I.base.free b o e n hx))]; exact I.base.free b o e n hx
  · have q := I.base.tups b xs e
    rw [upd_ne (neH b _ q (fun _ _ z => nomatch z))]; exact q
  · have q := I.base.frzs b o x e
    rw [upd_ne (fun z => by rw [z] at e; exact hn _ _ e)]; exact q
  · obtain ⟨m, q⟩ := I.base.tbls b ps e
    exact ⟨m, by rw [upd_ne (neH b _ q (fun _ _ z => nomatch z))]; exact q⟩
  · rw [upd_ne (neN _ I.free)]; exact I.free
  · rw [upd_ne (neN c (I.freeC x c e))]; exact I.freeC x c e
  · obtain ⟨e, n, r⟩ := I.pin p hp
    exact ⟨e, by rw [upd_ne (neN _ n)]; exact n, r⟩
  · by_cases hb : b = d
    · rw [hb, upd_same] at e
      cases e
      rw [hb]
      obtain ⟨_, x⟩ := I.hok d _ h
      exact x.stay (fun c v _ q => q) (fun c q => by rw [upd_ne (neH c _ q (fun _ _ z => nomatch z))]; exact q) fun c xs q => by rw [upd_ne (neH c _ q (fun _ _ z => nomatch z))]; exact q
    · rw [upd_ne hb] at e
      exact (I.hok b o e).stay (fun c v _ q => q) (fun c q => by rw [upd_ne (neH c _ q (fun _ _ z => nomatch z))]; exact q) fun c xs q => by rw [upd_ne (neH c _ q (fun _ _ z => nomatch z))]; exact q
end
section
variable {X : Cx}
end

/-- range(i, j, c): small bounds, n items -/
def RgC (i j c : Int) (n : Nat) : Prop := c ≠ 0 ∧ c.natAbs < 1073741824 ∧ Builtin.Range.small i j c = true ∧ Builtin.Range.rangeSize i j c = n
theorem RgC.neg {i j : Int} (ha : -(2 ^ 62) ≤ i) (ha' : i < 2 ^ 62) (hb : -(2 ^ 62) ≤ j) (hb' : j < 2 ^ 62) : RgC i j (-1) (i - j).toNat :=
  ⟨by decide, by decide, PySem.W.small_down ha ha' hb hb', PySem.W.rangeSize_downNat i j⟩
section
variable {X : Cx} {tg : Expr}
end
section
variable {X : Cx} {tg : Expr}
end

section
variable {prog : Program} {w : World} {A : Around} {E : Value → Shared → Prop} {s : Shared}
end

theorem paired_get {α β : Type} {G : α → β → Prop} {l₁ : List α} {l₂ : List β} (h : Paired G l₁ l₂) : ∀ {i : Nat} {a : α}, l₁[i]? = some a → ∃ b, l₂[i]? = some b ∧ G a b := by
  induction h with
  | nil => intro i a e; simp at e
  | @cons a b l₁ l₂ r t ih =>
    intro i a' e
    cases i with
    | zero =>
      simp only [List.getElem?_cons_zero, Option.some.injEq] at e
      subst e
      exact ⟨b, rfl, r⟩
    | succ j =>
      simp only [List.getElem?_cons_succ] at e ⊢
      exact ih e
section
variable {X : Cx} {pins : List (Addr × Obj)} {σ : St} {H : Hp} {s : Shared} {d : Addr} {o : Obj}
end

section
variable {P : Program} {w : World} {K : PySem.W.Frag} {tg : Expr} {d : Addr} {o : Obj} {es : Array DictEntry} {ep : Nat}
end

section
variable {X : Cx} {tg e : Expr} {td : TE} {apos cpos : Pos}
end

end L2

section 
namespace Bits
open PySem PyProof.Rows

end Bits
end 

section 
namespace TL
open PySem PySem.Builtin PySem.Builtin.Str PySem.StrLaws

abbrev tl (x : Str) : List Nat := x.cps.toList
/-- S stands at the head of l -/
def pre (S l : List Nat) : Bool := l.take S.length == S
/-- what stands before the first S, and behind it -/
def par (S : List Nat) : List Nat → List Nat → Option (List Nat × List Nat)
  | _, [] => none
  | acc, c :: r => if pre S (c :: r) = true then some (acc, (c :: r).drop S.length) else par S (acc ++ [c]) r

end TL
end 

namespace L2
open PySem PySem.Spec PyProof.Rows

section
variable {X : Cx} {pins : List (Addr × Obj)} {σ : St} {H : Hp} {s : Shared} {Q : VK}
end

section
variable {X : Cx}

end

section
variable {X : Cx} {o e : Expr} {to te : TE}
end
end L2

namespace L2
open PySem PySem.Spec PyProof.Rows

section
variable {X : Cx}
end

theorem IsPart.raw {v : Value} {o : Option Int} (p : IsPart v o) : ∃ l : Option (Int × Tok), v = partValue l ∧ l.map (·.1) = o := by
  cases p with
  | none => exact ⟨none, rfl, rfl⟩
  | int i t => exact ⟨some (i, t), rfl, rfl⟩

/-- a part, clipped, as the text's slice reckons it -/
def clipS (n d : Nat) : Option Int → Int
  | none => (d : Int)
  | some i => max 0 (min (if i < 0 then i + (n : Int) else i) (n : Int))
theorem clipS_eq (n d : Nat) (o : Option Int) : clipS n d o = ((HT.sIx n d o : Nat) : Int) := by
  cases o with
  | none => rfl
  | some v =>
    show max (0 : Int) (min (if v < 0 then v + (n : Int) else v) (n : Int)) = (((if v < 0 then (v + (n : Int)).toNat else min v.toNat n) : Nat) : Int)
    by_cases hv : v < 0
    · simp only [if_pos hv]
      omega
    · simp only [if_neg hv]
      omega
theorem sidx_clip (a b : Option Int) (n : Nat) : Builtin.Str.strSliceIndices a b 1 n = sliceRange (clipS n 0 a) (clipS n n b) 1 := by
  have h1 : ((1 : Int) > 0) = True := by simp
  cases a <;> cases b <;> first
    | rfl
    | (simp only [Builtin.Str.strSliceIndices, clipS, h1, if_true]; rfl)
    | simp [Builtin.Str.strSliceIndices, clipS]
theorem sidx (a b : Option Int) (n : Nat) : Builtin.Str.strSliceIndices a b 1 n = (List.range (HT.sIx n n b - HT.sIx n 0 a)).map (fun k => HT.sIx n 0 a + k) := by
  rw [sidx_clip, clipS_eq, clipS_eq]
  generalize HT.sIx n 0 a = p
  generalize HT.sIx n n b = q
  simp only [sliceRange, show ((1 : Int) > 0) = True from by simp, if_true]
  by_cases hlt : (p : Int) < q
  · have e3 : (((q : Int) - p + 1 - 1) / 1).toNat = q - p := by first | omega | (simp; done) | (simp; omega)
    simp only [hlt, if_true, e3]
    refine List.map_congr_left fun k _ => ?_
    omega
  · have : q - p = 0 := by omega
    simp [hlt, this]

/-- z[lo:hi] -/
def cutS (z : Str) (lo hi : Option Int) : Str :=
  ⟨((z.cps.toList.drop (HT.sIx z.length 0 lo)).take (HT.sIx z.length z.length hi - HT.sIx z.length 0 lo)).toArray⟩
theorem sliceText_cut (z : Str) (lo hi : Option Int) : PySem.StrLaws.sliceText z lo hi = cutS z lo hi := by
  have h1 : HT.sIx z.length 0 lo ≤ z.length := HT.sIx_le _ _ (Nat.zero_le _) _
  have h2 : HT.sIx z.length z.length hi ≤ z.length := HT.sIx_le _ _ (Nat.le_refl _) _
  have hp : HT.sIx z.length 0 lo ≤ max (HT.sIx z.length 0 lo) (HT.sIx z.length z.length hi) := Nat.le_max_left _ _
  have hq : max (HT.sIx z.length 0 lo) (HT.sIx z.length z.length hi) ≤ z.length := Nat.max_le.mpr ⟨h1, h2⟩
  have hd : max (HT.sIx z.length 0 lo) (HT.sIx z.length z.length hi) - HT.sIx z.length 0 lo = HT.sIx z.length z.length hi - HT.sIx z.length 0 lo := by omega
  have e : Builtin.Str.strSliceIndices lo hi 1 z.length =
      Builtin.Str.strSliceIndices (some ((HT.sIx z.length 0 lo : Nat) : Int)) (some ((max (HT.sIx z.length 0 lo) (HT.sIx z.length z.length hi) : Nat) : Int)) 1 z.length := by
    rw [PySem.StrLaws.strSliceIndices_plain hp hq, hd, sidx]
  have e2 : PySem.StrLaws.sliceText z lo hi =
      PySem.StrLaws.sliceText z (some ((HT.sIx z.length 0 lo : Nat) : Int)) (some ((max (HT.sIx z.length 0 lo) (HT.sIx z.length z.length hi) : Nat) : Int)) := by
    unfold PySem.StrLaws.sliceText
    rw [e]
  rw [e2, PySem.StrLaws.sliceText_nat z hp hq, hd]
  rfl
theorem cutS_length (z : Str) (lo hi : Option Int) : (cutS z lo hi).length ≤ z.length := by
  show (((z.cps.toList.drop (HT.sIx z.length 0 lo)).take (HT.sIx z.length z.length hi - HT.sIx z.length 0 lo)).toArray).size ≤ z.cps.size
  rw [List.size_toArray, List.length_take, List.length_drop, Array.length_toList]
  omega
def rSlS : V → Option Int → Option Int → Hp → VK → Prop := fun x lo hi H Q => ∃ z, x = .str z ∧ z.length ≤ sizeLine ∧ Q (.str (cutS z lo hi)) H
theorem sl_str {X : Cx} : SlR X rSlS := by
  intro pins s σ H x v vl vu lo hi sl Q I rx hs pl pu h
  obtain ⟨z, rfl, hz, q⟩ := h
  obtain ⟨t, rfl⟩ := rx
  obtain ⟨os, hos, hcs, hds⟩ := hs
  obtain ⟨l, rfl, rfl⟩ := IsPart.raw pl
  obtain ⟨u, rfl, rfl⟩ := IsPart.raw pu
  refine ⟨"str", _, F.slot_str_getitem.lookup, typeIs_str _ _ _, ?_⟩
  refine wpAny_getItem_str_slice (l := l) (u := u) (st := none) ⟨os, hos, hcs, hds⟩ rfl ?_
  have hl : (PySem.StrLaws.sliceText z (l.map (·.1)) (u.map (·.1))).length ≤ sizeLine := by
    rw [sliceText_cut]
    exact Nat.le_trans (cutS_length z _ _) hz
  rw [← sliceText_cut] at q
  unfold PySem.StrLaws.sliceText at q hl
  show Made.post (if ((1 : Int) == 1 && (Builtin.Str.strSliceIndices (l.map (·.1)) (u.map (·.1)) 1 z.length).length == z.length) = true then Made.val (.str z t)
    else Made.str ⟨((Builtin.Str.strSliceIndices (l.map (·.1)) (u.map (·.1)) 1 z.length).filterMap (z.cps[·]?)).toArray⟩) (EP X pins σ Q) s
  by_cases c : ((1 : Int) == 1 && (Builtin.Str.strSliceIndices (l.map (·.1)) (u.map (·.1)) 1 z.length).length == z.length) = true
  · rw [if_pos c] at q ⊢
    exact ⟨.str z, H, I, ⟨t, rfl⟩, q⟩
  · rw [if_neg c] at q hl ⊢
    exact ⟨hl, .str _, H, I.tok _, ⟨_, rfl⟩, q⟩
end L2

namespace Att
open PySem PySem.W PySem.Calls PyProof.Rows

theorem ints_of_wellAll {P : Params} {h : Heap} : ∀ (ns : List Int) (vs : List Value), WellAll P h vs (ns.map WData.int) → IntsAre vs ns := by
  intro ns
  induction ns with
  | nil =>
    intro vs w
    rw [List.map_nil] at w
    cases w
    exact .nil
  | cons n ns ih =>
    intro vs w
    rw [List.map_cons] at w
    cases w with
    | cons a b =>
      cases a
      exact .cons _ _ (ih _ b)

theorem script_of {l : OpenLaw} {n : Nat} (hn : l.most = some n) {P : Params} {h : Heap} {args : List WData} {vals : List Value}
    (hpre : l.row.toRowW.claim.pre args = true) (hwl : WellAll P h vals args) :
    ∃ a vs ns, vals = [Value.ref a] ∧ args = [WData.list (ns.map WData.int)] ∧ h.get? a = some { cls := .type "list", data := .seq vs.toArray } ∧ IntsAre vs ns ∧ ns.length ≤ n := by
  have hsh : WShape.hasAll [] args [.list .int] = true := (pre_splitW hpre).1
  have hc : l.pre.holds [] { args := args } = true := (pre_splitW hpre).2
  obtain ⟨d, r, rfl, h1, h2⟩ := hasAllW_cons hsh
  obtain rfl := hasAllW_nil h2
  obtain ⟨xs, rfl, h3⟩ := hasW_list h1
  obtain ⟨ns, rfl⟩ := items_int h3
  have hlen : ns.length ≤ n := by
    unfold OpenLaw.pre at hc
    have h4 : (WTm.not (.lt (.lit (.int (n : Int))) (.len (.arg 0)))).holds [] { args := [.list (ns.map .int)] } = true := by
      have h4 := (holds_andW hc).1
      rw [hn] at h4
      exact h4
    have h5 := condW_of h4 (w_not (w_lt w_lit (w_len_list (w_arg rfl))))
    rw [List.length_map] at h5
    refine Nat.le_of_not_lt fun q => ?_
    have q' : (n : Int) < ((ns.length : Nat) : Int) := by omega
    first
      | (rw [decide_eq_true q'] at h5; exact absurd h5 (by decide))
      | (simp at h5; omega)
  cases hwl with
  | cons w1 w2 =>
    cases w2
    cases w1 with
    | list ho hall => exact ⟨_, _, ns, rfl, rfl, ho, ints_of_wellAll ns _ hall, hlen⟩

theorem post_true (l : OpenLaw) (args : List WData) : l.row.toRowW.claim.post args (.bool true) args = true :=
  postW_of (r := l.row.toRowW) (X := (true == true))
    (show WShape.has [] (.bool true) .bool = true by first | rfl | decide | simp [WShape.has, WShape.arms, WShape.armsAll])
    (show (WTm.eq .res (.lit (.bool true))).value [] { args := args, res := some (.bool true), after := args } = some (.bool (true == true)) from w_eq_bool (w_res rfl) w_lit) rfl

/-- the same from a codeAny of the CALL (for a layer whose function contracts speak of calls) -/
theorem attach_call {l : OpenLaw} {n : Nat} {q : Program} {loose : List Str} {XP : (Str → Option Value) → Heap → Prop} {YP : World → Heap → Prop} {d : DefRec}
    (hn : l.most = some n) (hdf : d.params.defaults = [])
    (call : ∀ (w : World) (s₀ s₁ : Shared) (mg mb : Str → Option Value) (fa : Addr) (o : Obj) (pm cd doc : Value) (a : Addr) (vs : List Value) (ns : List Int),
      Ground q loose [] XP w s₀ mg mb s₁.heap → YP w s₁.heap →
      s₁.heap.get? fa = some o → o.data = .func (docDef d.name d.params d.body d.scope pm cd doc) → s₁.heap.CodeRec cd d.name → mg d.name = some (.ref fa) →
      s₁.heap.get? a = some { cls := .type "list", data := .seq vs.toArray } → IntsAre vs ns → ns.length ≤ n → s₁.gens = #[] →
      codeAny (model l.prog w) callerA (.call (.ref fa) ⟨[.ref a], []⟩) (fun r s' => r = .ok (.ret (.bool true)) ∧ OldK s₁.heap s'.heap ∧ s'.os = s₁.os ∧ AllBare s'.gens) s₁) :
    WalkO q loose XP YP l.row.toRowW d [] (fun f vs => PySem.call f vs) := by
  intro w s₀ s₁ mg mb G Y fa o pm cd doc dV kV ho hd hcd hD hmg hg args vals as hpre hlay hrd hwl hlo
  obtain rfl : dV = .none := Dflts.none hD hdf
  obtain rfl : kV = .none := Dflts.noKw hD
  obtain ⟨a, vs, ns, rfl, rfl, hobj, hints, hlen⟩ := script_of hn hpre hwl
  refine enter_call (codeAny_mono (call w s₀ s₁ mg mb fa o pm cd doc a vs ns G Y ho (fd_plain hd) hcd hmg hobj hints hlen hg) fun r s' hq => ?_)
  obtain ⟨rfl, h2, h3, h4⟩ := hq
  exact ⟨.inl ⟨.bool true, .bool true, [], rfl, fun _ => rfl, .bool true, post_true l _, fun _ => ⟨List.Pairwise.nil, fun _ hm => (nomatch hm)⟩⟩, h2, h3, h4⟩

section
variable {prog : Program} {w : World} {A : Around} {E : Value → Shared → Prop} {s : Shared} {K : Frag}

end
end Att

namespace L2
open PySem PySem.Spec PyProof.Rows

theorem vals_ints : ∀ {vs : List Value} {ns : List Int}, IntsAre vs ns → Vals (ns.map V.int) vs
  | _, _, .nil => .nil
  | _, _, .cons n t h => .cons ⟨t, rfl⟩ (vals_ints h)

/-- nothing is tracked but the script, known to the object (or it is an object of the module) -/
def Only (H : Hp) : Prop := ∀ b, H b = none ∨ ∃ o xs, H b = some (.frz o (.lst xs))

/-- THE HEAD: the law's promise, at the heap behind the top. F, the promise of the law's def, may use that base is part of the heap (so K.In base, base.Ns mainGlobals mg stand in Mod) -/
theorem law_call {P : Program} {w : World} {K : PySem.W.Frag} {mg mb : Str → Option Value} {CX : CXT} {k : Nat} {fa a : Addr} {fd : FuncData} {x : Str} {sp : Sp} {s₁ : Shared} {vs : List Value} {ns : List Int}
    (KX : K.In s₁.heap) (hns : s₁.heap.Ns mainGlobals mg) (hb : s₁.heap.Ns builtinsNs mb) (hbb : ∀ x : Str, x ≠ "__name__" → mb x = bootBuiltins x) (hlim : s₁.heap.NoLimit) (hg : s₁.gens = #[])
    (ha : s₁.heap.get? a = some { cls := .type "list", data := .seq vs.toArray }) (hi : IntsAre vs ns) (hl : ns.length ≤ sizeLine) (hr : Room k callerA)
    (F : ∀ base : Heap, K.In base → base.Ns mainGlobals mg → FnOk P w K mg base CX k fa fd [x] sp) (hbind : ∀ (s : Shared) (u : Value), BindsTo s fd ⟨[u], []⟩ [(x, u)])
    (hsp : ∀ H : Hp, Only H → SqL K H a (ns.map V.int) → sp [.ref a] H (fun v _ => v = .bl true) fun _ _ _ => False)
    (hCX : ∀ H e s', CX [] H s₁ (fun _ _ _ => False) e s' → False) :
    codeAny (model P w) callerA (.call (.ref fa) ⟨[.ref a], []⟩) (fun r s' => r = .ok (.ret (.bool true)) ∧ OldK s₁.heap s'.heap ∧ s'.os = s₁.os ∧ AllBare s'.gens) s₁ := by
  have rv := vals_ints hi
  have lenV := hi.length
  -- from an abstract heap in which nothing but the script may be tracked
  have core : ∀ H : Hp, Only H → SqL K H a (ns.map V.int) → HOk P w H s₁.heap → (∀ b, H b ≠ none → b = a) → (H a ≠ none → K.lookup a = none) →
      codeAny (model P w) callerA (.call (.ref fa) ⟨[.ref a], []⟩) (fun r s' => r = .ok (.ret (.bool true)) ∧ OldK s₁.heap s'.heap ∧ s'.os = s₁.os ∧ AllBare s'.gens) s₁ := by
    intro H hO hS hok hA hK
    have base_of : ∀ {b : Addr} {o : Obj}, s₁.heap.get? b = some o → H b = none → (hidT s₁.heap H).get? b = some o := fun e n => hidT_get e n
    have noA : ∀ {b : Addr} {o : Obj} {es : Array DictEntry} {ep : Nat}, s₁.heap.get? b = some o → o.data = .dict es ep → H b = none := fun {b o es ep} e d => by
      cases q : H b with
      | none => rfl
      | some u =>
        have e' : b = a := hA b (by rw [q]; simp)
        subst e'
        rw [ha] at e; cases e
        have d' : Data.seq vs.toArray _ = Data.dict es ep := d
        cases d'
    have nsK : ∀ {b : Addr} {m : Str → Option Value}, s₁.heap.Ns b m → (hidT s₁.heap H).Ns b m := fun {b m} ⟨o, es, ep, e, d, r⟩ => ⟨o, es, ep, base_of e (noA e d), d, r⟩
    have hKb : K.In (hidT s₁.heap H) := fun b o e => base_of (KX b o e) (by
      cases q : H b with
      | none => rfl
      | some u =>
        have e' : b = a := hA b (by rw [q]; simp)
        subst e'
        rw [hK (by rw [q]; simp)] at e; cases e)
    have hM : Mod K mg (hidT s₁.heap H) := ⟨hKb, nsK hns, ⟨mb, nsK hb, hbb⟩, let ⟨mc, h1, h2⟩ := hlim; ⟨mc, nsK h1, h2⟩⟩
    have e0 : Env0 P w K mg (hidT s₁.heap H) callerA [] s₁ H := ⟨rfl, hM, fun b o e => of_hidT e, Nat.le_of_eq (hidT_size _ _), trivial, fun b hb => absurd (show b ∈ ([] : List Addr) from hb) (by simp), hok, .of_eq hg⟩
    refine codeAny_mono ((F _ hKb (nsK hns)).run callerA [] s₁ H ⟨[.ref a], []⟩ [.ref a] [.ref a] _ _ hr e0 (hbind s₁ (.ref a)) (.cons rfl .nil) (hsp H hO hS)) fun r s' h => ?_
    cases r with
    | error e => exact (hCX H e s' h).elim
    | ok fl =>
      cases fl with
      | next => exact False.elim h
      | brk => exact False.elim h
      | cont => exact False.elim h
      | ret u =>
        obtain ⟨v, H', os, bare, un, hok', r', q⟩ := h
        have q' : v = .bl true := q
        subst q'
        obtain rfl : u = Value.bool true := r'
        refine ⟨rfl, OldK.of_keep fun b o e => ?_, os, bare⟩
        cases q : H b with
        | none => exact un.keep b o e q (by intro z; exact absurd (show b ∈ ([] : List Addr) from z) (by simp)) (by simp)
        | some u =>
          rcases hO b with z | ⟨ob, xs, z⟩
          · rw [q] at z; cases z
          · have z2 := un.frzs b ob _ z
            obtain ⟨e1, _⟩ := hok b _ z
            obtain ⟨e2, _⟩ := hok' b _ z2
            rw [e] at e1; cases e1
            exact e2
  cases hk : K.lookup a with
  | some o =>
    -- the script is one of the module's own objects
    have e := KX a o hk
    rw [ha] at e
    cases e
    refine core (fun _ => none) (fun _ => .inl rfl) (.inr ⟨_, vs.toArray, _, hk, rfl, rfl, rfl, by rw [List.size_toArray, lenV]; exact hl, by simpa using rv⟩) (fun b u z => by have z' : (none : Option HO) = some u := z; cases z') (fun b z => absurd rfl z) fun z => absurd rfl z
  | none =>
    refine core (fun b => if b = a then some (.frz { cls := .type "list", data := .seq vs.toArray } (.lst (ns.map V.int))) else none) (fun b => ?_) (.inl (.inr ⟨{ cls := .type "list", data := .seq vs.toArray }, if_pos rfl⟩)) (fun b u z => ?_) (fun b z => ?_) fun _ => hk
    · by_cases hb : b = a
      · exact .inr ⟨_, _, if_pos hb⟩
      · exact .inl (if_neg hb)
    · by_cases hb : b = a
      · have z' := (if_pos hb).symm.trans z
        cases z'
        subst hb
        exact ⟨ha, by rw [List.length_map]; exact hl, vs, _, rv, ha⟩
      · have z' := (if_neg hb).symm.trans z
        cases z'
    · by_cases hb : b = a
      · exact hb
      · exact absurd (if_neg hb) z
end L2

namespace L2
open PySem PySem.Spec PyProof.Rows

/-- the goal that k_head leaves (case hc), from the law's promise. F gives the function object fd (K's own) once, then the promise over every base -/
theorem walk_of {l : PySem.W.OpenLaw} {n k : Nat} {q : Program} {loose : List Str} {XP : (Str → Option Value) → Heap → Prop} {YP : World → Heap → Prop} {d : DefRec} {K : Params → PySem.W.Frag} {CX : World → CXT} {sp : World → Sp} {x : Str}
    (hn : l.most = some n) (hn2 : n ≤ sizeLine) (hdf : d.params.defaults = []) (hr : Room k callerA)
    (hY : ∀ (w : World) (h : Heap), YP w h → (K w.params).In h)
    (F : ∀ (w : World) (mg : Str → Option Value) (fa : Addr) (h : Heap), (K w.params).In h → h.Ns mainGlobals mg → mg d.name = some (.ref fa) →
      ∃ fd : FuncData, (∀ (s : Shared) (u : Value), BindsTo s fd ⟨[u], []⟩ [(x, u)]) ∧
        ∀ base : Heap, (K w.params).In base → base.Ns mainGlobals mg → FnOk l.prog w (K w.params) mg base (CX w) k fa fd [x] (sp w))
    (hsp : ∀ (w : World) (H : Hp) (a : Addr) (ns : List Int), ns.length ≤ n → Only H → SqL (K w.params) H a (ns.map V.int) → sp w [.ref a] H (fun v _ => v = .bl true) fun _ _ _ => False)
    (hCX : ∀ (w : World) (H : Hp) (s : Shared) (e : Value) (s' : Shared), CX w [] H s (fun _ _ _ => False) e s' → False) :
    PySem.W.WalkO q loose XP YP l.row.toRowW d [] (fun f vs => PySem.call f vs) := by
  refine Att.attach_call hn hdf fun w s₀ s₁ mg mb fa o pm cd doc a vs ns G Y ho hd hcd hmg hobj hints hlen hg => ?_
  have KX := hY w _ Y
  obtain ⟨fd, hb, hF⟩ := F w mg fa _ KX G.T.g hmg
  exact law_call KX G.T.g G.T.b G.T.builtins G.T.nolimit hg hobj hints (Nat.le_trans hlen hn2) hr hF hb (fun H hO hS => hsp w H a ns hlen hO hS) fun H e s' => hCX w H s₁ e s'
end L2


namespace L2
open PySem PySem.Spec PyProof.Rows

def defArgs (s : Stmt) : Arguments := match s with
  | .FunctionDef _ a _ _ _ _ _ _ _ _ => a
  | _ => { posonlyargs := [], args := [], vararg := none, kwonlyargs := [], kw_defaults := [], kwarg := none, defaults := [] }
def defBody (s : Stmt) : List Stmt := match s with
  | .FunctionDef _ _ b _ _ _ _ _ _ _ => b
  | _ => []
def defScope (s : Stmt) : Scope := match s with
  | .FunctionDef _ _ _ _ _ _ sc _ _ _ => sc
  | _ => { kind := .function, names := [], isGenerator := false, isCoroutine := false }

abbrev CX0 : CXT := fun _ _ _ _ _ _ => False
abbrev E0 : XK := fun _ _ _ => False
theorem pass0 {X : Cx} : Passes CX0 X E0 := fun _ _ _ _ _ _ _ h => h.elim

structure Fun (K : PySem.W.Frag) (x qual : Str) (st : Stmt) (f : Addr) (fd : FuncData) : Prop where
  ex : ∃ (oc : Value) (od : Option Addr) (kV doc pm : Value) (an : Option Addr) (cdv ct : Value) (osl : Array (Option Value)),
    fd = PySem.W.fnOf x qual (defArgs st) (defBody st) (defScope st) .none kV doc pm an cdv ct ∧ K.lookup f = some ⟨oc, od, .func fd, osl⟩ ∧ PySem.W.codeIn K cdv qual = true
  kp : PySem.W.keepIn K (.ref f) = true
section
variable {P : Program} {w : World} {K : PySem.W.Frag} {mg : Str → Option Value} {base : Heap}
/-- THE RULE for a def: its body as a term of rules, and the reading of that term -/
theorem Fun.ok {x qual : Str} {st : Stmt} {f : Addr} {fd : FuncData} {N ps : List Str} {k : Nat} {sp : Sp} (F : Fun K x qual st f fd) (S : FnScope N ps (defScope st)) (len : ∀ vs H Q E, sp vs H Q E → vs.length = ps.length)
    (hbody : ∀ (cdv : Value) (A : Around) (outer : List Env) (s : Shared) (H : Hp) (vs : List V) (Q : VK) (E : XK), Room k (A.deeper (envOfC qual (defScope st) s.heap.objs.size f cdv)) → sp vs H Q E →
      ∃ t, PSs (cxOf CX0 P w K mg base N qual (defScope st) f cdv A outer s H E).nox (defBody st) t ∧ t { nx := fun _ H' => Q .non H', rt := Q } (start N vs) H) : FnOk P w K mg base CX0 (k + 1) f fd ps sp := by
  obtain ⟨oc, od, kV, doc, pm, an, cdv, ct, osl, rfl, lk, hcd⟩ := F.ex
  refine fn_of lk hcd S len fun A outer s H vs Q E hr hsp => ?_
  obtain ⟨t, h, q⟩ := hbody cdv A outer s H vs Q E hr hsp
  exact ⟨t, h.nox, q⟩
/-- how its arguments bind (no defaults): h is «fun _ _ _ _ _ _ us hl => match us, hl with | [_, _], _ => rfl», one _ a parameter -/
theorem Fun.binds {x qual : Str} {st : Stmt} {f : Addr} {fd : FuncData} {ps : List Str} (F : Fun K x qual st f fd)
    (h : ∀ (kV doc pm : Value) (an : Option Addr) (cdv ct : Value) (us : List Value), us.length = ps.length → bindArgs (PySem.W.fnOf x qual (defArgs st) (defBody st) (defScope st) .none kV doc pm an cdv ct) ⟨us, []⟩ = pure (ps.zip us)) : Binds K fd ps [] := by
  obtain ⟨oc, od, kV, doc, pm, an, cdv, ct, osl, rfl, lk, hcd⟩ := F.ex
  exact .all (h kV doc pm an cdv ct)
theorem fun_mk {x qual : Str} {st : Stmt} {f : Addr} {oc : Value} {od an : Option Addr} {osl : Array (Option Value)} {kV doc pm cdv ct : Value} (l : K.lookup f = some ⟨oc, od, .func (PySem.W.fnOf x qual (defArgs st) (defBody st) (defScope st) .none kV doc pm an cdv ct), osl⟩)
    (c : PySem.W.codeIn K cdv qual = true) (k : PySem.W.keepIn K (.ref f) = true) : Fun K x qual st f (PySem.W.fnOf x qual (defArgs st) (defBody st) (defScope st) .none kV doc pm an cdv ct) := ⟨⟨oc, od, kV, doc, pm, an, cdv, ct, osl, rfl, l, c⟩, k⟩
end
theorem hu_of {A : Around} {k : Nat} (hr : Room k A) : A.units + 1 < cLine := Nat.lt_of_le_of_lt (Nat.add_le_add_left (by decide : 1 ≤ 64) _) hr.units
section
variable {X : Cx}
theorem pv (i : Nat) {x : Str} {pos : Pos} (hN : X.N[i]? = some x := by rfl) (hv : Vis X.env.scope x := by first | exact Or.inl rfl | exact Or.inr (Or.inl rfl) | exact Or.inr (Or.inr rfl)) (hd : (x == ("__debug__" : Str)) = false := by decide)
    (hcd : (x == ("__classdict__" : Str)) = false := by decide) : PE X (.Name x pos) (tVar i) := pe_var hN hv hd hcd
/-- len of a dict -/
theorem call_lenD : CallR X (.builtin "len") (fun xs H Q => ∃ a kvs, xs = [V.ref a] ∧ H a = some (.dK kvs) ∧ Q (.int kvs.length) H) := by
  intro pins s σ H xs us Q I r h
  obtain ⟨a, kvs, rfl, ha, q⟩ := h
  obtain ⟨u, rfl, ru⟩ := vals1 r
  cases ru
  exact d_len I (.inl ha) fun t s' I' => ⟨.int kvs.length, H, I', ⟨t, rfl⟩, q⟩
end

theorem iteF {A B : Prop} (h : B) : if false = true then A else B := by
  rw [if_neg Bool.false_ne_true]
  exact h
theorem iteT {A B : Prop} (h : A) : if true = true then A else B := by
  rw [if_pos rfl]
  exact h
/-- all that was tracked is as it was -/
def Same (H H' : Hp) : Prop := ∀ b o, H b = some o → H' b = some o
theorem Same.refl (H : Hp) : Same H H := fun _ _ h => h
theorem Same.trans {H H1 H2 : Hp} (a : Same H H1) (b : Same H1 H2) : Same H H2 := fun c o h => b c o (a c o h)
theorem Same.free {H H' : Hp} (e : Same H H') {l : Addr} (h : H' l = Option.none) : H l = Option.none := by
  cases q : H l with
  | none => rfl
  | some o =>
    rw [e l o q] at h
    cases h
theorem Same.seq {K : PySem.W.Frag} {H H' : Hp} {a : Addr} {xs : List V} (e : Same H H') (h : SqL K H a xs) : SqL K H' a xs := by
  rcases h with (h | ⟨o, h⟩) | h
  · exact .inl (.inl (e _ _ h))
  · exact .inl (.inr ⟨o, e _ _ h⟩)
  · exact .inr h

section
variable {κ : Type} [DecidableEq κ]
end
/-- a new instance and its __init__ leave all that was tracked as it was -/
theorem Same.made {H H1 : Hp} {x dx C : Addr} (nx : H x = Option.none) (nd : H dx = Option.none) (k : ∀ b o, (upd (upd H dx (.own x)) x (.ins C dx [])) b = some o → b ≠ x → H1 b = some o) : Same H H1 := fun b o e =>
  k b o (by rw [upd_ne (ne_of_none e nx), upd_ne (ne_of_none e nd)]; exact e) (ne_of_none e nx)
end L2

set_option Elab.async false
set_option linter.all false
set_option maxRecDepth 100000
set_option maxHeartbeats 4000000
namespace PD
open PySem L2

def kD : Key → PyData
  | .inl i => .int i
  | .inr x => .str x
mutual
inductive Rp (K : PySem.W.Frag) (H : Hp) : V → PyData → Prop
  | non : Rp K H .non .none
  | bl (b : Bool) : Rp K H (.bl b) (.bool b)
  | int (i : Int) : Rp K H (.int i) (.int i)
  | str (x : Str) : Rp K H (.str x) (.str x)
  | lst {a : Addr} {xs : List V} {ds : List PyData} : SqL K H a xs → RpAll K H xs ds → Rp K H (.ref a) (.list ds)
  | tup {a : Addr} {xs : List V} {ds : List PyData} : SqT K H a xs → RpAll K H xs ds → Rp K H (.ref a) (.tuple ds)
  | dct {a : Addr} {kvs : List (Key × V)} {es : List (PyData × PyData)} : Rd H a (.dK kvs) → RpKV K H kvs es → Rp K H (.ref a) (.dict es)
inductive RpAll (K : PySem.W.Frag) (H : Hp) : List V → List PyData → Prop
  | nil : RpAll K H [] []
  | cons {v : V} {vs : List V} {d : PyData} {ds : List PyData} : Rp K H v d → RpAll K H vs ds → RpAll K H (v :: vs) (d :: ds)
inductive RpKV (K : PySem.W.Frag) (H : Hp) : List (Key × V) → List (PyData × PyData) → Prop
  | nil : RpKV K H [] []
  | cons {k : Key} {v : V} {d : PyData} {vs : List (Key × V)} {ds : List (PyData × PyData)} : Rp K H v d → RpKV K H vs ds → RpKV K H ((k, v) :: vs) ((kD k, d) :: ds)
end
theorem sqT_same {K : PySem.W.Frag} {H H' : Hp} {a : Addr} {xs : List V} (e : Same H H') (h : SqT K H a xs) : SqT K H' a xs := by
  rcases h with (h | ⟨o, h⟩) | h
  · exact .inl (.inl (e _ _ h))
  · exact .inl (.inr ⟨o, e _ _ h⟩)
  · exact .inr h
theorem rd_same {H H' : Hp} {a : Addr} {u : HO} (e : Same H H') (h : Rd H a u) : Rd H' a u := by
  rcases h with h | ⟨o, h⟩
  · exact .inl (e _ _ h)
  · exact .inr ⟨o, e _ _ h⟩
section
variable {K : PySem.W.Frag} {H H' : Hp}
mutual
theorem Rp.mono (e : Same H H') : ∀ {v : V} {d : PyData}, Rp K H v d → Rp K H' v d
  | _, _, .non => .non
  | _, _, .bl b => .bl b
  | _, _, .int i => .int i
  | _, _, .str x => .str x
  | _, _, .lst h hs => .lst (e.seq h) (RpAll.mono e hs)
  | _, _, .tup h hs => .tup (sqT_same e h) (RpAll.mono e hs)
  | _, _, .dct h hs => .dct (rd_same e h) (RpKV.mono e hs)
theorem RpAll.mono (e : Same H H') : ∀ {vs : List V} {ds : List PyData}, RpAll K H vs ds → RpAll K H' vs ds
  | _, _, .nil => .nil
  | _, _, .cons h hs => .cons (Rp.mono e h) (RpAll.mono e hs)
theorem RpKV.mono (e : Same H H') : ∀ {vs : List (Key × V)} {ds : List (PyData × PyData)}, RpKV K H vs ds → RpKV K H' vs ds
  | _, _, .nil => .nil
  | _, _, .cons h hs => .cons (Rp.mono e h) (RpKV.mono e hs)
end
theorem RpAll.length : ∀ {vs : List V} {ds : List PyData}, RpAll K H vs ds → vs.length = ds.length
  | _, _, .nil => rfl
  | _, _, .cons _ hs => congrArg (· + 1) (RpAll.length hs)
theorem RpAll.get : ∀ {vs : List V} {ds : List PyData} {i : Nat} {v : V}, RpAll K H vs ds → vs[i]? = some v → ∃ d, ds[i]? = some d ∧ Rp K H v d
  | _, _, i, _, .nil, e => by simp at e
  | _, _, 0, _, .cons h _, e => by simp at e; subst e; exact ⟨_, rfl, h⟩
  | _, _, i + 1, v, .cons _ hs, e => by
    obtain ⟨d, h1, h2⟩ := RpAll.get (i := i) (v := v) hs (by simpa using e)
    exact ⟨d, by simpa using h1, h2⟩
theorem RpAll.get' : ∀ {vs : List V} {ds : List PyData} {i : Nat} {d : PyData}, RpAll K H vs ds → ds[i]? = some d → ∃ v, vs[i]? = some v ∧ Rp K H v d
  | _, _, i, _, .nil, e => by simp at e
  | _, _, 0, _, .cons h _, e => by simp at e; subst e; exact ⟨_, rfl, h⟩
  | _, _, i + 1, v, .cons _ hs, e => by
    obtain ⟨d, h1, h2⟩ := RpAll.get' (i := i) (d := v) hs (by simpa using e)
    exact ⟨d, by simpa using h1, h2⟩
theorem RpAll.append : ∀ {vs ws : List V} {ds es : List PyData}, RpAll K H vs ds → RpAll K H ws es → RpAll K H (vs ++ ws) (ds ++ es)
  | _, _, _, _, .nil, s => s
  | _, _, _, _, .cons h hs, s => .cons h (RpAll.append hs s)
theorem RpAll.set : ∀ {vs : List V} {ds : List PyData} (i : Nat) {v : V} {d : PyData}, RpAll K H vs ds → Rp K H v d → RpAll K H (vs.set i v) (ds.set i d)
  | _, _, _, _, _, .nil, _ => .nil
  | _, _, 0, _, _, .cons _ hs, h => .cons h hs
  | _, _, i + 1, _, _, .cons g hs, h => .cons g (RpAll.set i hs h)
theorem RpAll.take : ∀ {vs : List V} {ds : List PyData} (n : Nat), RpAll K H vs ds → RpAll K H (vs.take n) (ds.take n)
  | _, _, 0, _ => .nil
  | _, _, _ + 1, .nil => .nil
  | _, _, n + 1, .cons h hs => .cons h (RpAll.take n hs)
theorem RpAll.drop : ∀ {vs : List V} {ds : List PyData} (n : Nat), RpAll K H vs ds → RpAll K H (vs.drop n) (ds.drop n)
  | _, _, 0, h => h
  | _, _, _ + 1, .nil => .nil
  | _, _, n + 1, .cons _ hs => RpAll.drop n hs
theorem RpAll.ints : ∀ {vs : List V} {ns : List Int}, RpAll K H vs (ns.map PyData.int) → vs = ns.map V.int
  | _, [], .nil => rfl
  | _, n :: ns, .cons h hs => by
    cases h
    rw [RpAll.ints hs]; rfl
theorem RpAll.of_ints : ∀ (ns : List Int), RpAll K H (ns.map V.int) (ns.map PyData.int)
  | [] => .nil
  | n :: ns => .cons (.int n) (RpAll.of_ints ns)
theorem RpAll.bls : ∀ {vs : List V} {ns : List Bool}, RpAll K H vs (ns.map PyData.bool) → vs = ns.map V.bl
  | _, [], .nil => rfl
  | _, n :: ns, .cons h hs => by
    cases h
    rw [RpAll.bls hs]; rfl
end

/-- the entries of a dict whose keys are tuples -/
inductive RpKT (K : PySem.W.Frag) (H : Hp) : List (List Key × V) → List (PyData × PyData) → Prop
  | nil : RpKT K H [] []
  | cons {k : List Key} {v : V} {d : PyData} {vs : List (List Key × V)} {ds : List (PyData × PyData)} : Rp K H v d → RpKT K H vs ds → RpKT K H ((k, v) :: vs) ((.tuple (k.map kD), d) :: ds)
theorem RpKT.mono {K : PySem.W.Frag} {H H' : Hp} (e : Same H H') : ∀ {vs : List (List Key × V)} {ds : List (PyData × PyData)}, RpKT K H vs ds → RpKT K H' vs ds
  | _, _, .nil => .nil
  | _, _, .cons h hs => .cons (h.mono e) (RpKT.mono e hs)
inductive Sl where
  | un | fz (d : PyData) | mu (d : PyData) | ex (c : Str) | mt (es : List (PyData × PyData))
abbrev En := List Sl
inductive Mo (K : PySem.W.Frag) (G H : Hp) (a : Addr) : PyData → Prop
  | lst {xs : List V} {ds : List PyData} : H a = some (.lst xs) → RpAll K G xs ds → Mo K G H a (.list ds)
  | dct {kvs : List (Key × V)} {es : List (PyData × PyData)} : H a = some (.dK kvs) → RpKV K G kvs es → Mo K G H a (.dict es)
theorem Mo.some {K : PySem.W.Frag} {G H : Hp} {a : Addr} {d : PyData} (m : Mo K G H a d) : ∃ o, H a = some o := by
  cases m with
  | lst h _ => exact ⟨_, h⟩
  | dct h _ => exact ⟨_, h⟩
theorem Mo.nodT {K : PySem.W.Frag} {G H : Hp} {a : Addr} {d : PyData} (m : Mo K G H a d) (kvs : List (List Key × V)) : H a ≠ Option.some (HO.dT kvs) := by
  cases m with
  | lst h _ => rw [h]; intro z; cases z
  | dct h _ => rw [h]; intro z; cases z
theorem Mo.mono {K : PySem.W.Frag} {G H G' H' : Hp} {a : Addr} {d : PyData} (e : Same G G') (h : H' a = H a) (m : Mo K G H a d) : Mo K G' H' a d := by
  cases m with
  | lst h1 h2 => exact .lst (h.trans h1) (h2.mono e)
  | dct h1 h2 => exact .dct (h.trans h1) (h2.mono e)
theorem Mo.rp {K : PySem.W.Frag} {G H : Hp} {a : Addr} {d : PyData} {o : HO} (m : Mo K G H a d) (e : Same G H) : Rp K H (.ref a) d := by
  cases m with
  | lst h1 h2 => exact .lst (SqL.of h1) (h2.mono e)
  | dct h1 h2 => exact .dct (.inl h1) (h2.mono e)
/-- G grows; what is new in it was nothing in B -/
def Gr (B G G' : Hp) : Prop := Same G G' ∧ ∀ b, G b = none → G' b ≠ none → B b = none
theorem Gr.refl (B G : Hp) : Gr B G G := ⟨Same.refl G, fun _ h h' => absurd h h'⟩
theorem Gr.trans {B G G1 G2 : Hp} (a : Gr B G G1) (b : Gr B G1 G2) : Gr B G G2 := ⟨a.1.trans b.1, fun c h h' => by
  cases q : G1 c with
  | none => exact b.2 c q h'
  | some o => exact a.2 c h (by rw [q]; simp)⟩
theorem Gr.none {B G G' : Hp} (g : Gr B G G') {a : Addr} {o : HO} (h : G a = Option.none) (hb : B a = some o) : G' a = Option.none := by
  cases q : G' a with
  | none => rfl
  | some u =>
    have := g.2 a h (by rw [q]; simp)
    rw [hb] at this; cases this
/-- the slots that hold a changing dict of tuple keys: one at most -/
structure Mts (K : PySem.W.Frag) (B G H : Hp) (σ : St) (ε : En) : Prop where
  mts : ∀ (i : Nat) (es : List (PyData × PyData)), ε[i]? = some (.mt es) → ∃ a kvs, σ[i]? = some (some (.ref a)) ∧ G a = none ∧ B a = none ∧ H a = some (.dT kvs) ∧ RpKT K G kvs es
  dtt : ∀ (i j : Nat) (es fs : List (PyData × PyData)), ε[i]? = some (.mt es) → ε[j]? = some (.mt fs) → i = j
theorem Mts.less {K : PySem.W.Frag} {B G H : Hp} {σ σ' : St} {ε ε' : En} (r : Mts K B G H σ ε) (h : ∀ (j : Nat) (es : List (PyData × PyData)), ε'[j]? = some (.mt es) → ε[j]? = some (.mt es) ∧ σ'[j]? = σ[j]?) : Mts K B G H σ' ε' :=
  ⟨fun i es q => by
    obtain ⟨h1, h2⟩ := h i es q
    rw [h2]; exact r.mts i es h1, fun i j es fs q1 q2 => r.dtt i j es fs (h i es q1).1 (h j fs q2).1⟩
theorem mt_set {ε : En} {i j : Nat} {s : Sl} {es : List (PyData × PyData)} (hs : ∀ es, s ≠ .mt es) (h : (ε.set i s)[j]? = some (.mt es)) : i ≠ j ∧ ε[j]? = some (.mt es) := by
  by_cases hj : i = j
  · subst hj
    rw [List.getElem?_set] at h
    simp only [if_true] at h
    split at h
    · cases h; exact absurd rfl (hs es)
    · cases h
  · rw [List.getElem?_set_ne hj] at h
    exact ⟨hj, h⟩
theorem Mts.set {K : PySem.W.Frag} {B G H : Hp} {σ : St} {ε : En} {i : Nat} {s : Sl} {w : Option V} (r : Mts K B G H σ ε) (hs : ∀ es, s ≠ .mt es) : Mts K B G H (σ.set i w) (ε.set i s) :=
  r.less fun j es h => ⟨(mt_set hs h).2, by rw [List.getElem?_set_ne (mt_set hs h).1]⟩
theorem Mts.set' {K : PySem.W.Frag} {B G H : Hp} {σ : St} {ε : En} {i : Nat} {s : Sl} (r : Mts K B G H σ ε) (hs : ∀ es, s ≠ .mt es) : Mts K B G H σ (ε.set i s) :=
  r.less fun j es h => ⟨(mt_set hs h).2, rfl⟩
theorem Mts.move {K : PySem.W.Frag} {B G H B' G' H' : Hp} {σ : St} {ε : En} (r : Mts K B G H σ ε) (e : Same G G') (h : ∀ (a : Addr) (kvs : List (List Key × V)), G a = none → B a = none → H a = some (.dT kvs) → G' a = none ∧ B' a = none ∧ H' a = some (.dT kvs)) : Mts K B' G' H' σ ε :=
  ⟨fun i es q => by
    obtain ⟨a, kvs, h1, h2, h3, h4, h5⟩ := r.mts i es q
    obtain ⟨k1, k2, k3⟩ := h a kvs h2 h3 h4
    exact ⟨a, kvs, h1, k1, k2, k3, h5.mono e⟩, r.dtt⟩
theorem Mts.none {K : PySem.W.Frag} {B G H : Hp} {σ : St} {ε : En} (h : ∀ (j : Nat) (es : List (PyData × PyData)), ε[j]? ≠ some (.mt es)) : Mts K B G H σ ε := ⟨fun i es q => absurd q (h i es), fun i j es fs q => absurd q (h i es)⟩
structure Rep (K : PySem.W.Frag) (B G H : Hp) (z : Option (Option V)) (σ : St) (ε : En) : Prop where
  bg : Same B H
  sub : Same G H
  z0 : ∀ d : PyData, ε[0]? = some (.mu d) → σ[0]? = z
  len : ε.length ≤ σ.length
  fzs : ∀ (i : Nat) (d : PyData), ε[i]? = some (.fz d) → ∃ v, σ[i]? = some (some v) ∧ Rp K G v d
  mus : ∀ (i : Nat) (d : PyData), ε[i]? = some (.mu d) → ∃ a, σ[i]? = some (some (.ref a)) ∧ G a = none ∧ B a = none ∧ Mo K G H a d
  dis : ∀ (i j : Nat) (d e : PyData) (a : Addr), i ≠ j → ε[i]? = some (.mu d) → ε[j]? = some (.mu e) → σ[i]? = some (some (.ref a)) → σ[j]? = some (some (.ref a)) → False
  exs : ∀ (i : Nat) (c : Str), ε[i]? = some (.ex c) → ∃ a o u C, σ[i]? = some (some (.ref a)) ∧ G a = some (.frz o u) ∧ o.cls = .ref C ∧ PySem.W.nsIn K mainGlobals c = some (some (.ref C))
  ms : Mts K B G H σ ε

/-- a step that makes new objects alone -/
structure Grow (G H G' H' : Hp) : Prop where
  gg : Same G G'
  hh : Same H H'
  gh : Same G' H'
  fr : ∀ b, G b = none → G' b ≠ none → H b = none
theorem Grow.refl {G H : Hp} (e : Same G H) : Grow G H G H := ⟨Same.refl _, Same.refl _, e, fun _ h h' => absurd h h'⟩
theorem Grow.gr {B G H G' H' : Hp} (g : Grow G H G' H') (e : Same B H) : Gr B G G' := ⟨g.gg, fun b h h' => e.free (g.fr b h h')⟩
theorem Grow.rep {K : PySem.W.Frag} {B G H G' H' : Hp} {z : Option (Option V)} {σ : St} {ε : En} (g : Grow G H G' H') (r : Rep K B G H z σ ε) : Rep K B G' H' z σ ε where
  bg := r.bg.trans g.hh
  sub := g.gh
  z0 := r.z0
  len := r.len
  fzs := fun i d h => by
    obtain ⟨v, h1, h2⟩ := r.fzs i d h
    exact ⟨v, h1, h2.mono g.gg⟩
  mus := fun i d h => by
    obtain ⟨a, h1, h2, h3, h4⟩ := r.mus i d h
    obtain ⟨o, ho⟩ := h4.some
    refine ⟨a, h1, ?_, h3, h4.mono g.gg (by rw [g.hh a o ho, ho])⟩
    cases q : G' a with
    | none => rfl
    | some u =>
      have := g.fr a h2 (by rw [q]; simp)
      rw [ho] at this; cases this
  dis := r.dis
  exs := fun i c h => by
    obtain ⟨a, o, u, C, h1, h2, h3⟩ := r.exs i c h
    exact ⟨a, o, u, C, h1, g.gg _ _ h2, h3⟩
  ms := r.ms.move g.gg fun a kvs h1 h2 h3 => by
    refine ⟨?_, h2, g.hh _ _ h3⟩
    cases q : G' a with
    | none => rfl
    | some u =>
      have := g.fr a h1 (by rw [q]; simp)
      rw [h3] at this; cases this
/-- a new object, frozen at once -/
theorem grow_new {G H : Hp} {p : Addr} {o : HO} (e : Same G H) (h : H p = none) : Grow G H (upd G p o) (upd H p o) where
  gg := fun b u q => by
    have : b ≠ p := fun z => by subst z; rw [e.free h] at q; cases q
    rw [upd_ne this]; exact q
  hh := fun b u q => by
    have : b ≠ p := ne_of_none q h
    rw [upd_ne this]; exact q
  gh := fun b u q => by
    by_cases z : b = p
    · subst z; rw [upd_same] at q ⊢; exact q
    · rw [upd_ne z] at q ⊢; exact e b u q
  fr := fun b q q' => by
    by_cases z : b = p
    · subst z; exact h
    · rw [upd_ne z] at q'; exact absurd q q'
theorem same_new {H : Hp} {p : Addr} {o : HO} (h : H p = none) : Same H (upd H p o) := fun b u q => by
    have : b ≠ p := ne_of_none q h
    rw [upd_ne this]; exact q

abbrev Ef := En → Option (PyData × En)
abbrev Af := En → Option (List PyData × En)
abbrev Tf := En → Option (Bool × En)
inductive Out where
  | nx (ε : En) | rt (d : PyData) (ε : En) | bk (ε : En) | ct (ε : En) | rf (d : PyData) (ε : En)
abbrev Sf := En → Option Out
def tF (K : PySem.W.Frag) (f : Ef) : TE := fun σ H Q => ∃ B G z ε d ε', Rep K B G H z σ ε ∧ f ε = some (d, ε') ∧ ∀ v G' H', Gr B G G' → Rep K B G' H' z σ ε' → Rp K G' v d → Q v H'
def tAF (K : PySem.W.Frag) (f : Af) : TA := fun σ H Q => ∃ B G z ε d ε', Rep K B G H z σ ε ∧ f ε = some (d, ε') ∧ ∀ v G' H', Gr B G G' → Rep K B G' H' z σ ε' → RpAll K G' v d → Q v H'
def tTF (K : PySem.W.Frag) (f : Tf) : TT := fun σ H Q => ∃ B G z ε b ε', Rep K B G H z σ ε ∧ f ε = some (b, ε') ∧ ∀ G' H', Gr B G G' → Rep K B G' H' z σ ε' → Q b H'
/-- a fresh object that nothing else holds -/
def tFrF (K : PySem.W.Frag) (f : Ef) : TE := fun σ H Q => ∃ B G z ε d ε', Rep K B G H z σ ε ∧ f ε = some (d, ε') ∧ ∀ p G' H', Gr B G G' → Rep K B G' H' z σ ε' → G' p = none → B p = none → Mo K G' H' p d →
  (∀ (i : Nat) (e : PyData), ε'[i]? = some (.mu e) → σ[i]? ≠ some (some (.ref p))) → Q (.ref p) H'
def OutOk (K : PySem.W.Frag) (B G : Hp) (z : Option (Option V)) (D : Ends) : Out → Prop
  | .nx ε' => ∀ G' σ' H', Gr B G G' → Rep K B G' H' z σ' ε' → D.nx σ' H'
  | .rt d ε' => ∀ v G' σ' H', Gr B G G' → Rep K B G' H' z σ' ε' → Rp K G' v d → D.rt v H'
  | .bk ε' => ∀ G' σ' H', Gr B G G' → Rep K B G' H' z σ' ε' → D.bk σ' H'
  | .ct ε' => ∀ G' σ' H', Gr B G G' → Rep K B G' H' z σ' ε' → D.ct σ' H'
  | .rf d ε' => ∀ p G' σ' H', Gr B G G' → Rep K B G' H' z σ' ε' → G' p = none → B p = none → Mo K G' H' p d → D.rt (.ref p) H'
theorem OutOk.gr {K : PySem.W.Frag} {B G G1 : Hp} {z : Option (Option V)} {D : Ends} {o : Out} (g : Gr B G G1) (h : OutOk K B G z D o) : OutOk K B G1 z D o := by
  cases o with
  | nx ε => exact fun G' σ' H' g' r => h G' σ' H' (g.trans g') r
  | rt d ε => exact fun v G' σ' H' g' r p => h v G' σ' H' (g.trans g') r p
  | bk ε => exact fun G' σ' H' g' r => h G' σ' H' (g.trans g') r
  | ct ε => exact fun G' σ' H' g' r => h G' σ' H' (g.trans g') r
  | rf d ε => exact fun p G' σ' H' g' r h1 h2 h3 => h p G' σ' H' (g.trans g') r h1 h2 h3
def tSF (K : PySem.W.Frag) (f : Sf) : TS := fun D σ H => ∃ B G z ε o, Rep K B G H z σ ε ∧ f ε = some o ∧ OutOk K B G z D o
structure Ev (X : Cx) (e : Expr) (f : Ef) : Prop where
  p : PE X e (tF X.K f)
structure Fv (X : Cx) (e : Expr) (f : Ef) : Prop where
  p : PE X e (tFrF X.K f)
structure Av (X : Cx) (es : List Expr) (f : Af) : Prop where
  p : PA X es (tAF X.K f)
structure Tv (X : Cx) (e : Expr) (f : Tf) : Prop where
  p : PT X e (tTF X.K f)
structure Sv (X : Cx) (e : Stmt) (f : Sf) : Prop where
  p : PS X e (tSF X.K f)
structure Bv (X : Cx) (e : List Stmt) (f : Sf) : Prop where
  p : PSs X e (tSF X.K f)
section
variable {X : Cx}
theorem pe_mono {e : Expr} {t t' : TE} (h : PE X e t) (m : ∀ σ H Q, t' σ H Q → t σ H Q) : PE X e t' := fun pins s σ H Q I q => h pins s σ H Q I (m σ H Q q)
theorem pa_mono {e : List Expr} {t t' : TA} (h : PA X e t) (m : ∀ σ H Q, t' σ H Q → t σ H Q) : PA X e t' := fun pos pins s σ H Q I q => h pos pins s σ H Q I (m σ H Q q)
theorem pt_mono {e : Expr} {t t' : TT} (h : PT X e t) (m : ∀ σ H Q, t' σ H Q → t σ H Q) : PT X e t' := fun pins s σ H Q I q => h pins s σ H Q I (m σ H Q q)
theorem pw_mono {e : Expr} {t t' : TT} (h : PW X e t) (m : ∀ σ H Q, t' σ H Q → t σ H Q) : PW X e t' := fun w pins s σ H Q I q => h w pins s σ H Q I (m σ H Q q)
theorem ps_mono {e : Stmt} {t t' : TS} (h : PS X e t) (m : ∀ D σ H, t' D σ H → t D σ H) : PS X e t' := fun pins s σ H D I q => h pins s σ H D I (m D σ H q)
theorem pss_mono {e : List Stmt} {t t' : TS} (h : PSs X e t) (m : ∀ D σ H, t' D σ H → t D σ H) : PSs X e t' := fun pins s σ H D I q => h pins s σ H D I (m D σ H q)
end

theorem freeze {K : PySem.W.Frag} {B G H : Hp} {z : Option (Option V)} {σ : St} {ε : En} {p : Addr} {d : PyData} (r : Rep K B G H z σ ε) (hg : G p = none) (hb : B p = none) (m : Mo K G H p d)
    (hn : ∀ (i : Nat) (e : PyData), ε[i]? = some (.mu e) → σ[i]? ≠ some (some (.ref p))) :
    ∃ G', Gr B G G' ∧ Rep K B G' H z σ ε ∧ Rp K G' (.ref p) d := by
  obtain ⟨o, ho⟩ := m.some
  have sg : Same G (upd G p o) := same_new hg
  refine ⟨upd G p o, ⟨sg, fun b h h' => ?_⟩, ⟨r.bg, fun b u q => ?_, r.z0, r.len, fun i e h => ?_, fun i e h => ?_, r.dis, fun i c h => ?_, r.ms.move sg fun a kvs h1 h2 h3 => ⟨by
    have : a ≠ p := fun z => m.nodT kvs (by rw [← z]; exact h3)
    rw [upd_ne this]; exact h1, h2, h3⟩⟩, ?_⟩
  · by_cases e : b = p
    · subst e; exact hb
    · rw [upd_ne e] at h'; exact absurd h h'
  · by_cases e : b = p
    · subst e; rw [upd_same] at q; cases q; exact ho
    · rw [upd_ne e] at q; exact r.sub b u q
  · obtain ⟨v, h1, h2⟩ := r.fzs i e h
    exact ⟨v, h1, h2.mono sg⟩
  · obtain ⟨a, h1, h2, h3, h4⟩ := r.mus i e h
    have : a ≠ p := fun q => hn i e h (by rw [h1, q])
    exact ⟨a, h1, by rw [upd_ne this]; exact h2, h3, h4.mono sg rfl⟩
  · obtain ⟨a, o', u, C, h1, h2, h3⟩ := r.exs i c h
    exact ⟨a, o', u, C, h1, sg _ _ h2, h3⟩
  · cases m with
    | lst h1 h2 =>
      rw [h1] at ho; cases ho
      exact .lst (SqL.of upd_same) (h2.mono sg)
    | dct h1 h2 =>
      rw [h1] at ho; cases ho
      exact .dct (.inl upd_same) (h2.mono sg)
theorem Rep.set_fz {K : PySem.W.Frag} {B G H : Hp} {z : Option (Option V)} {σ : St} {ε : En} {i : Nat} {v : V} {d : PyData} (r : Rep K B G H z σ ε) (h : Rp K G v d) : Rep K B G H z (σ.set i (some v)) (ε.set i (.fz d)) where
  bg := r.bg
  sub := r.sub
  z0 := fun e q => by
    by_cases hj : i = 0
    · subst hj
      rw [List.getElem?_set] at q
      simp only [if_true] at q
      split at q <;> cases q
    · rw [List.getElem?_set_ne hj] at q ⊢; exact r.z0 e q
  len := by rw [List.length_set, List.length_set]; exact r.len
  fzs := fun j e q => by
    by_cases hj : i = j
    · subst hj
      have hl : i < ε.length := by
        by_cases hl : i < ε.length
        · exact hl
        · rw [List.getElem?_eq_none (by simpa using hl)] at q; cases q
      rw [List.getElem?_set_self hl] at q
      cases q
      exact ⟨v, by rw [List.getElem?_set_self (Nat.lt_of_lt_of_le hl r.len)], h⟩
    · rw [List.getElem?_set_ne hj] at q ⊢
      exact r.fzs j e q
  mus := fun j e q => by
    by_cases hj : i = j
    · subst hj
      by_cases hl : i < ε.length
      · rw [List.getElem?_set_self hl] at q; cases q
      · rw [List.getElem?_eq_none (by simpa using hl)] at q; cases q
    · rw [List.getElem?_set_ne hj] at q ⊢
      exact r.mus j e q
  dis := fun j k d' e' a hjk q1 q2 s1 s2 => by
    by_cases hj : i = j
    · subst hj
      by_cases hl : i < ε.length
      · rw [List.getElem?_set_self hl] at q1; cases q1
      · rw [List.getElem?_eq_none (by simpa using hl)] at q1; cases q1
    · by_cases hk : i = k
      · subst hk
        by_cases hl : i < ε.length
        · rw [List.getElem?_set_self hl] at q2; cases q2
        · rw [List.getElem?_eq_none (by simpa using hl)] at q2; cases q2
      · rw [List.getElem?_set_ne hj] at q1 s1
        rw [List.getElem?_set_ne hk] at q2 s2
        exact r.dis j k d' e' a hjk q1 q2 s1 s2
  exs := fun j c q => by
    by_cases hj : i = j
    · subst hj
      by_cases hl : i < ε.length
      · rw [List.getElem?_set_self hl] at q; cases q
      · rw [List.getElem?_eq_none (by simpa using hl)] at q; cases q
    · rw [List.getElem?_set_ne hj] at q ⊢
      exact r.exs j c q
  ms := r.ms.set fun _ z => by cases z
theorem Rep.set_mu {K : PySem.W.Frag} {B G H : Hp} {z : Option (Option V)} {σ : St} {ε : En} {i : Nat} {p : Addr} {d : PyData} (r : Rep K B G H z σ ε) (hi : i ≠ 0) (hg : G p = none) (hb : B p = none) (m : Mo K G H p d)
    (hn : ∀ (i : Nat) (e : PyData), ε[i]? = some (.mu e) → σ[i]? ≠ some (some (.ref p))) : Rep K B G H z (σ.set i (some (.ref p))) (ε.set i (.mu d)) where
  bg := r.bg
  sub := r.sub
  z0 := fun e q => by rw [List.getElem?_set_ne hi] at q ⊢; exact r.z0 e q
  len := by rw [List.length_set, List.length_set]; exact r.len
  fzs := fun j e q => by
    by_cases hj : i = j
    · subst hj
      by_cases hl : i < ε.length
      · rw [List.getElem?_set_self hl] at q; cases q
      · rw [List.getElem?_eq_none (by simpa using hl)] at q; cases q
    · rw [List.getElem?_set_ne hj] at q ⊢
      exact r.fzs j e q
  mus := fun j e q => by
    by_cases hj : i = j
    · subst hj
      have hl : i < ε.length := by
        by_cases hl : i < ε.length
        · exact hl
        · rw [List.getElem?_eq_none (by simpa using hl)] at q; cases q
      rw [List.getElem?_set_self hl] at q
      cases q
      exact ⟨p, by rw [List.getElem?_set_self (Nat.lt_of_lt_of_le hl r.len)], hg, hb, m⟩
    · rw [List.getElem?_set_ne hj] at q ⊢
      exact r.mus j e q
  dis := fun j k d' e' a hjk q1 q2 s1 s2 => by
    by_cases hj : i = j
    · subst hj
      have hl : i < ε.length := by
        by_cases hl : i < ε.length
        · exact hl
        · rw [List.getElem?_eq_none (by simpa using hl)] at q1; cases q1
      rw [List.getElem?_set_self (Nat.lt_of_lt_of_le hl r.len)] at s1
      have ep : p = a := by cases s1; rfl
      subst ep
      rw [List.getElem?_set_ne hjk] at q2 s2
      exact hn k e' q2 s2
    · by_cases hk : i = k
      · subst hk
        have hl : i < ε.length := by
          by_cases hl : i < ε.length
          · exact hl
          · rw [List.getElem?_eq_none (by simpa using hl)] at q2; cases q2
        rw [List.getElem?_set_self (Nat.lt_of_lt_of_le hl r.len)] at s2
        have ep : p = a := by cases s2; rfl
        subst ep
        rw [List.getElem?_set_ne hj] at q1 s1
        exact hn j d' q1 s1
      · rw [List.getElem?_set_ne hj] at q1 s1
        rw [List.getElem?_set_ne hk] at q2 s2
        exact r.dis j k d' e' a hjk q1 q2 s1 s2
  exs := fun j c q => by
    by_cases hj : i = j
    · subst hj
      by_cases hl : i < ε.length
      · rw [List.getElem?_set_self hl] at q; cases q
      · rw [List.getElem?_eq_none (by simpa using hl)] at q; cases q
    · rw [List.getElem?_set_ne hj] at q ⊢
      exact r.exs j c q
  ms := r.ms.set fun _ z => by cases z
/-- a mutable slot's object is stored into -/
theorem Rep.store {K : PySem.W.Frag} {B G H : Hp} {z : Option (Option V)} {σ : St} {ε : En} {i : Nat} {a : Addr} {d d' : PyData} {o : HO} (r : Rep K B G H z σ ε) (hi : ε[i]? = some (.mu d)) (ha : σ[i]? = some (some (.ref a)))
    (m : Mo K G (upd H a o) a d') : Rep K B G (upd H a o) z σ (ε.set i (.mu d')) := by
  obtain ⟨a', h1, hg, hb, hm⟩ := r.mus i d hi
  have ea : a' = a := by rw [ha] at h1; cases h1; rfl
  subst ea
  have hl : i < ε.length := by
    by_cases hl : i < ε.length
    · exact hl
    · rw [List.getElem?_eq_none (by simpa using hl)] at hi; cases hi
  refine ⟨fun b u q => ?_, fun b u q => ?_, (fun e q => by
    by_cases hj : i = 0
    · subst hj; exact r.z0 d hi
    · rw [List.getElem?_set_ne hj] at q; exact r.z0 e q), by rw [List.length_set]; exact r.len, fun j e q => ?_, fun j e q => ?_, fun j k d1 e1 b hjk q1 q2 s1 s2 => ?_, fun j c q => ?_, (r.ms.set' fun _ z => by cases z).move (Same.refl G) fun b kvs h1 h2 h3 => ⟨h1, h2, by
    have : b ≠ a' := fun z => hm.nodT kvs (by rw [← z]; exact h3)
    rw [upd_ne this]; exact h3⟩⟩
  · have : b ≠ a' := ne_of_none q hb
    rw [upd_ne this]; exact r.bg b u q
  · have : b ≠ a' := ne_of_none q hg
    rw [upd_ne this]; exact r.sub b u q
  · by_cases hj : i = j
    · subst hj; rw [List.getElem?_set_self hl] at q; cases q
    · rw [List.getElem?_set_ne hj] at q; exact r.fzs j e q
  · by_cases hj : i = j
    · subst hj; rw [List.getElem?_set_self hl] at q; cases q
      exact ⟨a', ha, hg, hb, m⟩
    · rw [List.getElem?_set_ne hj] at q
      obtain ⟨b, g1, g2, g3, g4⟩ := r.mus j e q
      have hne : b ≠ a' := fun eb => r.dis i j d e a' hj hi q ha (by rw [g1, eb])
      exact ⟨b, g1, g2, g3, g4.mono (Same.refl G) (upd_ne hne)⟩
  · have f : ∀ (j : Nat) (d1 : PyData), (ε.set i (Sl.mu d'))[j]? = some (.mu d1) → ∃ d2, ε[j]? = some (.mu d2) := fun j d1 q => by
      by_cases hj : i = j
      · subst hj; exact ⟨d, hi⟩
      · rw [List.getElem?_set_ne hj] at q; exact ⟨d1, q⟩
    obtain ⟨d2, e2⟩ := f j d1 q1
    obtain ⟨d3, e3⟩ := f k e1 q2
    exact r.dis j k d2 d3 b hjk e2 e3 s1 s2
  · by_cases hj : i = j
    · subst hj; rw [List.getElem?_set_self hl] at q; cases q
    · rw [List.getElem?_set_ne hj] at q; exact r.exs j c q
end PD

set_option Elab.async false
set_option linter.all false
set_option maxRecDepth 100000
set_option maxHeartbeats 4000000
namespace PD
open PySem L2

def notStar : Expr → Bool
  | .Starred _ _ => false
  | _ => true
def noStars : List Expr → Bool
  | [] => true
  | e :: es => notStar e && noStars es
theorem star_ok {e : Expr} {es : List Expr} {env : Env} (h : notStar e = true) : starEach (e :: es) env = (false, eval e env) :: starEach es env := by
  cases e <;> first | rfl | cases h
theorem back_ok {e : Expr} {es : List Expr} {env : Env} {pos : Pos} (h : notStar e = true) : backTo pos (starEach (e :: es) env) = (false, eval e env) :: backTo pos (starEach es env) := by rw [star_ok h]; rfl
theorem plain_ok {env : Env} {pos : Pos} : ∀ {es : List Expr}, noStars es = true → (backTo pos (starEach es env)).any (·.1) = false
  | [], _ => rfl
  | e :: es, h => by
    have h' : notStar e = true ∧ noStars es = true := by simpa [noStars] using h
    rw [back_ok h'.1]
    show (false || (backTo pos (starEach es env)).any (·.1)) = false
    rw [plain_ok h'.2]; rfl

def fC (d : PyData) : Ef := fun ε => some (d, ε)
def fVar (i : Nat) : Ef := fun ε => match ε[i]? with
  | some (.fz d) => some (d, ε)
  | some (.mu d) => some (d, ε.set i (.fz d))
  | _ => none
def fBin (g : PyData → PyData → Option PyData) (fa fb : Ef) : Ef := fun ε => (fa ε).bind fun p => (fb p.2).bind fun q => (g p.1 q.1).map fun c => (c, q.2)
def fUn (g : PyData → Option PyData) (fa : Ef) : Ef := fun ε => (fa ε).bind fun p => (g p.1).map fun c => (c, p.2)
def dTrue : PyData → Option Bool
  | .bool b => some b
  | _ => none
def fAnd (fa fb : Ef) : Ef := fun ε => (fa ε).bind fun p => (dTrue p.1).bind fun b => if b = true then fb p.2 else some (.bool false, p.2)
def fOr (fa fb : Ef) : Ef := fun ε => (fa ε).bind fun p => (dTrue p.1).bind fun b => if b = true then some (.bool true, p.2) else fb p.2
def dNot : PyData → Option PyData := fun d => (dTrue d).map fun b => .bool (!b)
def fChain (g g' : PyData → PyData → Option PyData) (fa fb fc : Ef) : Ef := fun ε => (fa ε).bind fun p => (fb p.2).bind fun q => (g p.1 q.1).bind fun c => (dTrue c).bind fun b =>
  if b = true then (fc q.2).bind fun r => (g' q.1 r.1).map fun c' => (c', r.2) else some (.bool false, q.2)
def fIfE (t : Tf) (fa fb : Ef) : Ef := fun ε => (t ε).bind fun p => if p.1 = true then fa p.2 else fb p.2
def fNil : Af := fun ε => some ([], ε)
def fCons (fa : Ef) (fs : Af) : Af := fun ε => (fa ε).bind fun p => (fs p.2).map fun q => (p.1 :: q.1, q.2)
def fCall (F : List PyData → Option PyData) (fa : Af) : Ef := fun ε => (fa ε).bind fun p => (F p.1).map fun c => (c, p.2)
/-- tests -/
def gVal (fa : Ef) : Tf := fun ε => (fa ε).bind fun p => (dTrue p.1).map fun b => (b, p.2)
def gAnd (a b : Tf) : Tf := fun ε => (a ε).bind fun p => if p.1 = true then b p.2 else some (false, p.2)
def gOr (a b : Tf) : Tf := fun ε => (a ε).bind fun p => if p.1 = true then some (true, p.2) else b p.2
def gNot (a : Tf) : Tf := fun ε => (a ε).map fun p => (!p.1, p.2)
def dTru : PyData → Option Bool
  | .none => some false
  | .bool b => some b
  | .int i => some (i != 0)
  | .str x => if x.length ≤ sizeLine then some ((x.length : Int) != 0) else none
  | .list ds => some (!ds.isEmpty)
  | .tuple ds => some (!ds.isEmpty)
  | .dict _ => none
def gTru (fa : Ef) : Tf := fun ε => (fa ε).bind fun p => (dTru p.1).map fun b => (b, p.2)

def OpD (K : PySem.W.Frag) (r : R2) (g : PyData → PyData → Option PyData) : Prop :=
  ∀ (v w : V) (d e c : PyData) (G H : Hp) (Q : VK), Rp K G v d → Rp K G w e → Same G H → g d e = some c → (∀ u G' H', Grow G H G' H' → Rp K G' u c → Q u H') → r v w H Q
def UnD (K : PySem.W.Frag) (r : V → Hp → VK → Prop) (g : PyData → Option PyData) : Prop :=
  ∀ (v : V) (d c : PyData) (G H : Hp) (Q : VK), Rp K G v d → Same G H → g d = some c → (∀ u G' H', Grow G H G' H' → Rp K G' u c → Q u H') → r v H Q
def CaD (K : PySem.W.Frag) (r : List V → Hp → VK → Prop) (g : List PyData → Option PyData) : Prop :=
  ∀ (vs : List V) (ds : List PyData) (c : PyData) (G H : Hp) (Q : VK), RpAll K G vs ds → Same G H → g ds = some c → (∀ u G' H', Grow G H G' H' → Rp K G' u c → Q u H') → r vs H Q

section
variable {X : Cx} {a b e c : Expr} {es : List Expr} {fa fb fc : Ef} {ga gb : Tf} {fs : Af} {pos : Pos}
theorem ev_c {v : V} {d : PyData} (h : PE X e (tC v)) (hr : ∀ G, Rp X.K G v d) : Ev X e (fC d) := ⟨pe_mono h fun σ H Q ⟨B, G, z, ε, d', ε', r, ef, q⟩ => by
  cases ef
  exact q v G H (Gr.refl _ _) r (hr G)⟩
theorem ev_int {i : Int} {j} : Ev X (.Constant (.int i) j pos) (fC (.int i)) := ev_c pe_int fun _ => .int i
theorem ev_bl {i : Bool} {j} : Ev X (.Constant (.bool i) j pos) (fC (.bool i)) := ev_c pe_bl fun _ => .bl i
theorem ev_non {j} : Ev X (.Constant .none j pos) (fC .none) := ev_c pe_non fun _ => .non
theorem ev_str {i : Str} {j} : Ev X (.Constant (.str i) j pos) (fC (.str i)) := ev_c pe_str fun _ => .str i
theorem ev_var (i : Nat) (h : PE X e (tVar i)) : Ev X e (fVar i) := ⟨pe_mono h fun σ H Q ⟨B, G, z, ε, d', ε', r, ef, q⟩ => by
  unfold fVar at ef
  cases hi : ε[i]? with
  | none => rw [hi] at ef; cases ef
  | some sl =>
    rw [hi] at ef
    cases sl with
    | un => cases ef
    | ex c => cases ef
    | mt c => cases ef
    | fz d =>
      obtain ⟨rfl, rfl⟩ := Prod.mk.inj (Option.some.inj ef)
      obtain ⟨v, h1, h2⟩ := r.fzs i d hi
      exact ⟨v, h1, q v G H (Gr.refl _ _) r h2⟩
    | mu d =>
      obtain ⟨rfl, rfl⟩ := Prod.mk.inj (Option.some.inj ef)
      obtain ⟨p, h1, hg, hb, m⟩ := r.mus i d hi
      have hl : i < ε.length := by
        by_cases hl : i < ε.length
        · exact hl
        · rw [List.getElem?_eq_none (by simpa using hl)] at hi; cases hi
      have r1 : Rep X.K B G H z σ (ε.set i .un) := ⟨r.bg, r.sub, (fun e q => by
          by_cases hj : i = 0
          · subst hj; rw [List.getElem?_set_self hl] at q; cases q
          · rw [List.getElem?_set_ne hj] at q; exact r.z0 e q), by rw [List.length_set]; exact r.len, fun j e q => by
          by_cases hj : i = j
          · subst hj; rw [List.getElem?_set_self hl] at q; cases q
          · rw [List.getElem?_set_ne hj] at q; exact r.fzs j e q, fun j e q => by
          by_cases hj : i = j
          · subst hj; rw [List.getElem?_set_self hl] at q; cases q
          · rw [List.getElem?_set_ne hj] at q; exact r.mus j e q, fun j k d1 e1 a hjk q1 q2 s1 s2 => by
          by_cases hj : i = j
          · subst hj; rw [List.getElem?_set_self hl] at q1; cases q1
          · by_cases hk : i = k
            · subst hk; rw [List.getElem?_set_self hl] at q2; cases q2
            · rw [List.getElem?_set_ne hj] at q1
              rw [List.getElem?_set_ne hk] at q2
              exact r.dis j k d1 e1 a hjk q1 q2 s1 s2, fun j c q => by
          by_cases hj : i = j
          · subst hj; rw [List.getElem?_set_self hl] at q; cases q
          · rw [List.getElem?_set_ne hj] at q; exact r.exs j c q, r.ms.set' fun _ z => by cases z⟩
      obtain ⟨G', g1, r2, rp⟩ := freeze r1 hg hb m fun j e q s => by
        by_cases hj : i = j
        · subst hj; rw [List.getElem?_set_self hl] at q; cases q
        · rw [List.getElem?_set_ne hj] at q
          exact r.dis i j d e p hj hi q h1 s
      refine ⟨.ref p, h1, q _ G' H g1 ⟨r2.bg, r2.sub, (fun e q => by
          by_cases hj : i = 0
          · subst hj; rw [List.getElem?_set_self hl] at q; cases q
          · rw [List.getElem?_set_ne hj] at q; exact r.z0 e q), by rw [List.length_set]; exact r.len, fun j e q => ?_, fun j e q => ?_, fun j k d1 e1 a hjk q1 q2 s1 s2 => ?_, fun j c q => ?_, by
          have := r2.ms.set' (i := i) (s := .fz d) fun _ z => by cases z
          rw [List.set_set] at this; exact this⟩ rp⟩
      · by_cases hj : i = j
        · subst hj; rw [List.getElem?_set_self hl] at q; cases q
          exact ⟨_, h1, rp⟩
        · rw [List.getElem?_set_ne hj] at q
          exact r2.fzs j e (by rw [List.getElem?_set_ne hj]; exact q)
      · by_cases hj : i = j
        · subst hj; rw [List.getElem?_set_self hl] at q; cases q
        · rw [List.getElem?_set_ne hj] at q
          exact r2.mus j e (by rw [List.getElem?_set_ne hj]; exact q)
      · by_cases hj : i = j
        · subst hj; rw [List.getElem?_set_self hl] at q1; cases q1
        · by_cases hk : i = k
          · subst hk; rw [List.getElem?_set_self hl] at q2; cases q2
          · rw [List.getElem?_set_ne hj] at q1
            rw [List.getElem?_set_ne hk] at q2
            exact r.dis j k d1 e1 a hjk q1 q2 s1 s2
      · by_cases hj : i = j
        · subst hj; rw [List.getElem?_set_self hl] at q; cases q
        · rw [List.getElem?_set_ne hj] at q
          exact r2.exs j c (by rw [List.getElem?_set_ne hj]; exact q)⟩
theorem bin_read {r : R2} {g : PyData → PyData → Option PyData} (hd : OpD X.K r g) {σ : St} {H : Hp} {Q : VK} (h : tF X.K (fBin g fa fb) σ H Q) : tOp r (tF X.K fa) (tF X.K fb) σ H Q := by
  obtain ⟨B, G, z, ε, d, ε', rep, ef, q⟩ := h
  obtain ⟨⟨d1, ε1⟩, e1, ef1⟩ := Option.bind_eq_some_iff.mp ef
  obtain ⟨⟨d2, ε2⟩, e2, ef2⟩ := Option.bind_eq_some_iff.mp ef1
  obtain ⟨c, e3, ef3⟩ := Option.map_eq_some_iff.mp ef2
  obtain ⟨rfl, rfl⟩ := Prod.mk.inj ef3
  refine ⟨B, G, z, ε, d1, ε1, rep, e1, fun v1 G1 H1 g1 r1 p1 => ?_⟩
  refine ⟨B, G1, z, ε1, d2, ε2, r1, e2, fun v2 G2 H2 g2 r2 p2 => ?_⟩
  exact hd v1 v2 d1 d2 c G2 H2 _ (p1.mono g2.1) p2 r2.sub e3 fun u G3 H3 g3 p3 => q u G3 H3 ((g1.trans g2).trans (g3.gr r2.bg)) (g3.rep r2) p3
theorem ev_op {op : Operator} {r : R2} {g : PyData → PyData → Option PyData} (ho : OpR X (binaryOp op) r) (hd : OpD X.K r g) (ha : Ev X a fa) (hb : Ev X b fb) : Ev X (.BinOp a op b pos) (fBin g fa fb) :=
  ⟨pe_mono (pe_op ho ha.p hb.p) fun _ _ _ h => bin_read hd h⟩
theorem ev_cmp {op : CmpOp} {r : R2} {g : PyData → PyData → Option PyData} (ho : OpR X (compareOp op) r) (hd : OpD X.K r g) (ha : Ev X a fa) (hb : Ev X b fb) (hm : behindInMarks op b = false) : Ev X (.Compare a [op] [b] pos) (fBin g fa fb) :=
  ⟨pe_mono (pe_cmpR ho ha.p hb.p hm) fun _ _ _ h => bin_read hd h⟩
theorem ev_un {op : UnaryOp} {r : V → Hp → VK → Prop} {g : PyData → Option PyData} (ho : UnR X (unaryOp op) r) (hd : UnD X.K r g) (ha : Ev X a fa) : Ev X (.UnaryOp op a pos) (fUn g fa) :=
  ⟨pe_mono (pe_un ho ha.p) fun σ H Q ⟨B, G, z, ε, d, ε', rep, ef, q⟩ => by
    obtain ⟨⟨d1, ε1⟩, e1, ef1⟩ := Option.bind_eq_some_iff.mp ef
    obtain ⟨c, e3, ef2⟩ := Option.map_eq_some_iff.mp ef1
    obtain ⟨rfl, rfl⟩ := Prod.mk.inj ef2
    refine ⟨B, G, z, ε, d1, ε1, rep, e1, fun v1 G1 H1 g1 r1 p1 => ?_⟩
    exact hd v1 d1 c G1 H1 _ p1 r1.sub e3 fun u G3 H3 g3 p3 => q u G3 H3 (g1.trans (g3.gr r1.bg)) (g3.rep r1) p3⟩
theorem dTrue_some {d : PyData} {b : Bool} (h : dTrue d = some b) : d = .bool b := by
  cases d <;> simp [dTrue] at h
  rw [h]
theorem ev_and {rest : List Expr} (ha : Ev X a fa) (hb : Ev X (.BoolOp .And (b :: rest) pos) fb) : Ev X (.BoolOp .And (a :: b :: rest) pos) (fAnd fa fb) :=
  ⟨pe_mono (pe_and ha.p hb.p) fun σ H Q ⟨B, G, z, ε, d, ε', rep, ef, q⟩ => by
    obtain ⟨⟨d1, ε1⟩, e1, ef1⟩ := Option.bind_eq_some_iff.mp ef
    obtain ⟨c, e3, ef2⟩ := Option.bind_eq_some_iff.mp ef1
    refine ⟨B, G, z, ε, d1, ε1, rep, e1, fun v1 G1 H1 g1 r1 p1 => ?_⟩
    cases dTrue_some e3
    cases p1
    refine ⟨c, rfl, ?_⟩
    cases c with
    | true =>
      rw [if_pos rfl] at ef2 ⊢
      exact ⟨B, G1, z, ε1, d, ε', r1, ef2, fun v2 G2 H2 g2 r2 p2 => q v2 G2 H2 (g1.trans g2) r2 p2⟩
    | false =>
      rw [if_neg Bool.false_ne_true] at ef2 ⊢
      obtain ⟨rfl, rfl⟩ := Prod.mk.inj (Option.some.inj ef2)
      exact q _ G1 H1 g1 r1 (.bl _)⟩
theorem ev_one {op} (ha : Ev X a fa) : Ev X (.BoolOp op [a] pos) fa := ⟨pe_one ha.p⟩
theorem av_nil : Av X [] fNil := ⟨pa_mono pa_nil fun σ H Q ⟨B, G, z, ε, d', ε', r, ef, q⟩ => by
  cases ef
  exact q [] G H (Gr.refl _ _) r .nil⟩
theorem av_cons (ha : Ev X e fa) (hr : Av X es fs) (hs : starEach (e :: es) X.env = (false, eval e X.env) :: starEach es X.env := by exact star_ok rfl) : Av X (e :: es) (fCons fa fs) :=
  ⟨pa_mono (pa_cons ha.p hr.p hs) fun σ H Q ⟨B, G, z, ε, d', ε', r, ef, q⟩ => by
    obtain ⟨⟨d1, ε1⟩, e1, ef1⟩ := Option.bind_eq_some_iff.mp ef
    obtain ⟨⟨d2, ε2⟩, e2, ef2⟩ := Option.map_eq_some_iff.mp ef1
    obtain ⟨rfl, rfl⟩ := Prod.mk.inj ef2
    refine ⟨B, G, z, ε, d1, ε1, r, e1, fun v1 G1 H1 g1 r1 p1 => ?_⟩
    exact ⟨B, G1, z, ε1, d2, ε2, r1, e2, fun v2 G2 H2 g2 r2 p2 => q _ G2 H2 (g1.trans g2) r2 (.cons (p1.mono g2.1) p2)⟩⟩
/-- a built-in's call -/
theorem call_read {r : List V → Hp → VK → Prop} {g : List PyData → Option PyData} (hd : CaD X.K r g) {σ : St} {H : Hp} {Q : VK} (h : tF X.K (fCall g fs) σ H Q) : tCB r (tAF X.K fs) σ H Q := by
  obtain ⟨B, G, z, ε, d, ε', rep, ef, q⟩ := h
  obtain ⟨⟨d1, ε1⟩, e1, ef1⟩ := Option.bind_eq_some_iff.mp ef
  obtain ⟨c, e3, ef2⟩ := Option.map_eq_some_iff.mp ef1
  obtain ⟨rfl, rfl⟩ := Prod.mk.inj ef2
  refine ⟨B, G, z, ε, d1, ε1, rep, e1, fun v1 G1 H1 g1 r1 p1 => ?_⟩
  exact hd v1 d1 c G1 H1 _ p1 r1.sub e3 fun u G3 H3 g3 p3 => q u G3 H3 (g1.trans (g3.gr r1.bg)) (g3.rep r1) p3
theorem ev_callB {id : String} {x : Str} {p : Pos} {r : List V → Hp → VK → Prop} {g : List PyData → Option PyData} (hc : CallR X (.builtin id) r) (hd : CaD X.K r g) (hg : Gl X x) (hm : X.mg x = none) (hv : bootBuiltins x = some (.builtin id)) (ha : Av X (e :: es) fs)
    (hn : x ≠ "__name__" := by decide) (hdb : (x == ("__debug__" : Str)) = false := by decide)
    (he : starEach (e :: es) X.env = (false, eval e X.env) :: starEach es X.env := by exact star_ok rfl) (hpl : (backTo pos (starEach es X.env)).any (·.1) = false := by exact plain_ok rfl) : Ev X (.Call (.Name x p) (e :: es) [] pos) (fCall g fs) :=
  ⟨pe_mono (pe_callB hc hg hm hv ha.p hn hdb he hpl) fun _ _ _ h => call_read hd h⟩
theorem ev_callTy {id : String} {x : Str} {p : Pos} {r : List V → Hp → VK → Prop} {g : List PyData → Option PyData} (hc : CallR X (.type id) r) (hd : CaD X.K r g) (hg : Gl X x) (hm : X.mg x = none) (hv : bootBuiltins x = some (.type id)) (ha : Av X (e :: es) fs)
    (hn : x ≠ "__name__" := by decide) (hdb : (x == ("__debug__" : Str)) = false := by decide)
    (he : starEach (e :: es) X.env = (false, eval e X.env) :: starEach es X.env := by exact star_ok rfl) (hpl : (backTo pos (starEach es X.env)).any (·.1) = false := by exact plain_ok rfl) : Ev X (.Call (.Name x p) (e :: es) [] pos) (fCall g fs) :=
  ⟨pe_mono (pe_callTy hc hg hm hv ha.p hn hdb he hpl) fun _ _ _ h => call_read hd h⟩
theorem tv_cmp {op : CmpOp} {r : R2} {g : PyData → PyData → Option PyData} (ho : OpR X (compareOp op) r) (hd : OpD X.K r g) (ha : Ev X a fa) (hb : Ev X b fb) (hm : behindInMarks op b = false) : Tv X (.Compare a [op] [b] pos) (gVal (fBin g fa fb)) :=
  ⟨pt_mono (pt_cmpR ho ha.p hb.p hm) fun σ H Q ⟨B, G, z, ε, d, ε', rep, ef, q⟩ => by
    obtain ⟨⟨d1, ε1⟩, e1, ef1⟩ := Option.bind_eq_some_iff.mp ef
    obtain ⟨c, e3, ef2⟩ := Option.map_eq_some_iff.mp ef1
    obtain ⟨rfl, rfl⟩ := Prod.mk.inj ef2
    refine bin_read hd ⟨B, G, z, ε, d1, ε1, rep, e1, fun v1 G1 H1 g1 r1 p1 => ?_⟩
    cases dTrue_some e3
    cases p1
    exact ⟨c, rfl, q G1 H1 g1 r1⟩⟩
theorem tv_not (ha : Tv X a ga) : Tv X (.UnaryOp .Not a pos) (gNot ga) :=
  ⟨pt_mono (pt_not ha.p) fun σ H Q ⟨B, G, z, ε, d, ε', rep, ef, q⟩ => by
    obtain ⟨⟨d1, ε1⟩, e1, ef1⟩ := Option.map_eq_some_iff.mp ef
    obtain ⟨rfl, rfl⟩ := Prod.mk.inj ef1
    exact ⟨B, G, z, ε, d1, ε1, rep, e1, fun G1 H1 g1 r1 => q G1 H1 g1 r1⟩⟩
structure Wv (X : Cx) (e : Expr) (f : Tf) : Prop where
  p : PW X e (tTF X.K f)
theorem wv_and1 (ha : Tv X a ga) : Wv X (.BoolOp .And [a] pos) ga := ⟨pw_and1 ha.p⟩
theorem wv_or1 (ha : Tv X a ga) : Wv X (.BoolOp .Or [a] pos) ga := ⟨pw_or1 ha.p⟩
theorem wv_and {rest : List Expr} (ha : Tv X a ga) (hb : Wv X (.BoolOp .And (b :: rest) pos) gb) : Wv X (.BoolOp .And (a :: b :: rest) pos) (gAnd ga gb) :=
  ⟨pw_mono (pw_and ha.p hb.p) fun σ H Q ⟨B, G, z, ε, d, ε', rep, ef, q⟩ => by
    obtain ⟨⟨d1, ε1⟩, e1, ef1⟩ := Option.bind_eq_some_iff.mp ef
    refine ⟨B, G, z, ε, d1, ε1, rep, e1, fun G1 H1 g1 r1 => ?_⟩
    cases d1 with
    | true =>
      rw [if_pos rfl] at ef1 ⊢
      exact ⟨B, G1, z, ε1, d, ε', r1, ef1, fun G2 H2 g2 r2 => q G2 H2 (g1.trans g2) r2⟩
    | false =>
      rw [if_neg Bool.false_ne_true] at ef1 ⊢
      obtain ⟨rfl, rfl⟩ := Prod.mk.inj (Option.some.inj ef1)
      exact q G1 H1 g1 r1⟩
theorem wv_or {rest : List Expr} (ha : Tv X a ga) (hb : Wv X (.BoolOp .Or (b :: rest) pos) gb) : Wv X (.BoolOp .Or (a :: b :: rest) pos) (gOr ga gb) :=
  ⟨pw_mono (pw_or ha.p hb.p) fun σ H Q ⟨B, G, z, ε, d, ε', rep, ef, q⟩ => by
    obtain ⟨⟨d1, ε1⟩, e1, ef1⟩ := Option.bind_eq_some_iff.mp ef
    refine ⟨B, G, z, ε, d1, ε1, rep, e1, fun G1 H1 g1 r1 => ?_⟩
    cases d1 with
    | true =>
      rw [if_pos rfl] at ef1 ⊢
      obtain ⟨rfl, rfl⟩ := Prod.mk.inj (Option.some.inj ef1)
      exact q G1 H1 g1 r1
    | false =>
      rw [if_neg Bool.false_ne_true] at ef1 ⊢
      exact ⟨B, G1, z, ε1, d, ε', r1, ef1, fun G2 H2 g2 r2 => q G2 H2 (g1.trans g2) r2⟩⟩
theorem tv_w (h : Wv X a ga) : Tv X a ga := ⟨PW.pt h.p⟩
theorem tru_read {d : PyData} {b : Bool} {v : V} {K : PySem.W.Frag} {G H : Hp} (r : Rp K G v d) (s : Same G H) (h : dTru d = some b) : TruV K v H b := by
  cases r with
  | non => cases h; rfl
  | bl _ => cases h; rfl
  | int _ => cases h; rfl
  | str x =>
    have h' : (if x.length ≤ sizeLine then some ((x.length : Int) != 0) else none) = some b := h
    by_cases hl : x.length ≤ sizeLine
    · rw [if_pos hl] at h'; cases h'; exact ⟨hl, rfl⟩
    · rw [if_neg hl] at h'; cases h'
  | lst h1 h2 =>
    cases h
    refine .inl ⟨_, s.seq h1, ?_⟩
    have := h2.length
    rename_i xs ds
    cases xs <;> cases ds <;> simp at this ⊢
  | tup h1 h2 =>
    cases h
    refine .inr (.inl ⟨_, sqT_same s h1, ?_⟩)
    have := h2.length
    rename_i xs ds
    cases xs <;> cases ds <;> simp at this ⊢
  | dct _ _ => cases h
theorem tv_tru (ha : Ev X a fa) (he : ∀ whole, isTrue a X.env whole = (do let v ← whole; standAt a.pos; holding [v] (truthy v)) := by intro _; rfl) : Tv X a (gTru fa) :=
  ⟨pt_mono (pt_truth ha.p he) fun σ H Q ⟨B, G, z, ε, d, ε', rep, ef, q⟩ => by
    obtain ⟨⟨d1, ε1⟩, e1, ef1⟩ := Option.bind_eq_some_iff.mp ef
    obtain ⟨c, e3, ef2⟩ := Option.map_eq_some_iff.mp ef1
    obtain ⟨rfl, rfl⟩ := Prod.mk.inj ef2
    exact ⟨B, G, z, ε, d1, ε1, rep, e1, fun v1 G1 H1 g1 r1 p1 => ⟨c, tru_read p1 r1.sub e3, q G1 H1 g1 r1⟩⟩⟩
theorem ev_of_fv (h : Fv X e fa) : Ev X e fa := ⟨pe_mono h.p fun σ H Q ⟨B, G, z, ε, d, ε', rep, ef, q⟩ =>
  ⟨B, G, z, ε, d, ε', rep, ef, fun p G1 H1 g1 r1 hg hb m hn => by
    obtain ⟨G2, g2, r2, rp⟩ := freeze r1 hg hb m hn
    exact q _ G2 H1 (g1.trans g2) r2 rp⟩⟩
def dTup (ds : List PyData) : Option PyData := if ds.length ≤ sizeLine then some (.tuple ds) else none
def dLst (ds : List PyData) : Option PyData := if ds.length ≤ sizeLine then some (.list ds) else none
theorem ev_tup {x1} (h : Av X es fs) : Ev X (.Tuple es x1 pos) (fCall dTup fs) :=
  ⟨pe_mono (pe_tup h.p) fun σ H Q ⟨B, G, z, ε, d, ε', rep, ef, q⟩ => by
    obtain ⟨⟨d1, ε1⟩, e1, ef1⟩ := Option.bind_eq_some_iff.mp ef
    obtain ⟨c, e3, ef2⟩ := Option.map_eq_some_iff.mp ef1
    obtain ⟨rfl, rfl⟩ := Prod.mk.inj ef2
    unfold dTup at e3
    split at e3
    · cases e3
      rename_i hl
      refine ⟨B, G, z, ε, d1, ε1, rep, e1, fun v1 G1 H1 g1 r1 p1 => ⟨by rw [p1.length]; exact hl, fun p hp => ?_⟩⟩
      have gn := grow_new (o := HO.tup v1) r1.sub hp
      exact q _ _ _ (g1.trans (gn.gr r1.bg)) (gn.rep r1) (.tup (SqT.of upd_same) (p1.mono gn.gg))
    · cases e3⟩
theorem nomu {K : PySem.W.Frag} {B G H : Hp} {z : Option (Option V)} {σ : St} {ε : En} {p : Addr} (r : Rep K B G H z σ ε) (hp : H p = none) : ∀ (i : Nat) (e : PyData), ε[i]? = some (.mu e) → σ[i]? ≠ some (some (.ref p)) := fun i e hi hs => by
  obtain ⟨a, h1, _, _, h4⟩ := r.mus i e hi
  obtain ⟨o, ho⟩ := h4.some
  rw [hs] at h1; cases h1
  rw [hp] at ho; cases ho
/-- a new object that isn't frozen -/
theorem rep_new {K : PySem.W.Frag} {B G H : Hp} {z : Option (Option V)} {σ : St} {ε : En} {p : Addr} {o : HO} (r : Rep K B G H z σ ε) (hp : H p = none) : Rep K B G (upd H p o) z σ ε :=
  (Grow.mk (Same.refl G) (same_new hp) (r.sub.trans (same_new hp)) (fun _ h h' => absurd h h')).rep r
theorem fv_lst (h : Av X es fs) : Fv X (.List es pos) (fCall dLst fs) :=
  ⟨pe_mono (pe_lst h.p) fun σ H Q ⟨B, G, z, ε, d, ε', rep, ef, q⟩ => by
    obtain ⟨⟨d1, ε1⟩, e1, ef1⟩ := Option.bind_eq_some_iff.mp ef
    obtain ⟨c, e3, ef2⟩ := Option.map_eq_some_iff.mp ef1
    obtain ⟨rfl, rfl⟩ := Prod.mk.inj ef2
    unfold dLst at e3
    split at e3
    · cases e3
      rename_i hl
      refine ⟨B, G, z, ε, d1, ε1, rep, e1, fun v1 G1 H1 g1 r1 p1 => ⟨by rw [p1.length]; exact hl, fun p hp => ?_⟩⟩
      exact q p G1 _ g1 (rep_new r1 hp) (r1.sub.free hp) (r1.bg.free hp) (.lst upd_same p1) (nomu r1 hp)
    · cases e3⟩
theorem ev_lst (h : Av X es fs) : Ev X (.List es pos) (fCall dLst fs) := ev_of_fv (fv_lst h)
end
end PD

set_option Elab.async false
set_option linter.all false
set_option maxRecDepth 100000
set_option maxHeartbeats 4000000
namespace PD
open PySem L2

def sSeq (f g : Sf) : Sf := fun ε => (f ε).bind fun o => match o with
  | .nx ε' => g ε'
  | o => some o
def sPass : Sf := fun ε => some (.nx ε)
def sDrop (fa : Ef) : Sf := fun ε => (fa ε).map fun p => .nx p.2
def sRet (fa : Ef) : Sf := fun ε => (fa ε).map fun p => .rt p.1 p.2
def sRetF (fa : Ef) : Sf := fun ε => (fa ε).map fun p => .rf p.1 p.2
def sIf (t : Tf) (a b : Sf) : Sf := fun ε => (t ε).bind fun p => if p.1 = true then a p.2 else b p.2
def sAsg (i : Nat) (fa : Ef) : Sf := fun ε => (fa ε).map fun p => .nx (p.2.set i (.fz p.1))
def sAsgM (i : Nat) (fa : Ef) : Sf := fun ε => (fa ε).map fun p => .nx (p.2.set i (.mu p.1))
def bName (i : Nat) (d : PyData) (ε : En) : Option En := some (ε.set i (.fz d))
def bNames : List Nat → List PyData → En → Option En
  | [], [], ε => some ε
  | i :: is, d :: ds, ε => bNames is ds (ε.set i (.fz d))
  | _, _, _ => none
def bTup (is : List Nat) (d : PyData) (ε : En) : Option En := match d with
  | .tuple ds => bNames is ds ε
  | _ => none
def sAsgT (is : List Nat) (fa : Ef) : Sf := fun ε => (fa ε).bind fun p => (bTup is p.1 p.2).map .nx
def loopF (bind : PyData → En → Option En) (body : Sf) : List PyData → En → Option Out
  | [], ε => some (.nx ε)
  | d :: ds, ε => (bind d ε).bind fun ε1 => (body ε1).bind fun o => match o with
    | .nx ε2 => loopF bind body ds ε2
    | .ct ε2 => loopF bind body ds ε2
    | .bk ε2 => some (.nx ε2)
    | .rt d ε2 => some (.rt d ε2)
    | .rf d ε2 => some (.rf d ε2)
def sFor (src : Af) (bind : PyData → En → Option En) (body : Sf) : Sf := fun ε => (src ε).bind fun p => loopF bind body p.1 p.2
def clr (ε : En) : List Nat → En
  | [] => ε
  | v :: vs => (clr ε vs).set v .un
def compF (bind : PyData → En → Option En) (cond : Tf) (elt : Ef) (vs : List Nat) : List PyData → En → Option (List PyData × En)
  | [], ε => some ([], ε)
  | d :: ds, ε => (bind d ε).bind fun ε1 => (cond ε1).bind fun p => if p.1 = true then (elt p.2).bind fun q => (compF bind cond elt vs ds (clr q.2 vs)).map fun r => (q.1 :: r.1, r.2) else compF bind cond elt vs ds (clr p.2 vs)
def fComp (src : Af) (bind : PyData → En → Option En) (cond : Tf) (elt : Ef) (vs : List Nat) : Ef := fun ε => (src ε).bind fun p => (compF bind cond elt vs p.1 (clr p.2 vs)).bind fun r => (dLst r.1).map fun d => (d, r.2)

section
variable {X : Cx} {st : Stmt} {rest : List Stmt} {f g : Sf} {e : Expr} {fa : Ef} {ga : Tf} {pos : Pos}
theorem bv_nil : Bv X [] sPass := ⟨pss_mono pss_nil fun D σ H ⟨B, G, z, ε, o, r, ef, k⟩ => by
  cases ef
  exact k G σ H (Gr.refl _ _) r⟩
theorem bv_cons (h1 : Sv X st f) (h2 : Bv X rest g) : Bv X (st :: rest) (sSeq f g) := ⟨pss_mono (pss_cons h1.p h2.p) fun D σ H ⟨B, G, z, ε, o, r, ef, k⟩ => by
  obtain ⟨o1, e1, ef1⟩ := Option.bind_eq_some_iff.mp ef
  refine ⟨B, G, z, ε, o1, r, e1, ?_⟩
  cases o1 with
  | nx ε1 => exact fun G' σ' H' g1 r1 => ⟨B, G', z, ε1, o, r1, ef1, k.gr g1⟩
  | rt d ε1 => cases ef1; exact k
  | bk ε1 => cases ef1; exact k
  | ct ε1 => cases ef1; exact k
  | rf d ε1 => cases ef1; exact k⟩
theorem bv_one (h1 : Sv X st f) : Bv X [st] f := ⟨pss_one h1.p⟩
theorem sv_ret (he : Ev X e fa) : Sv X (.Return (some e) pos) (sRet fa) := ⟨ps_mono (ps_ret he.p) fun D σ H ⟨B, G, z, ε, o, r, ef, k⟩ => by
  obtain ⟨⟨d1, ε1⟩, e1, ef1⟩ := Option.map_eq_some_iff.mp ef
  subst ef1
  exact ⟨B, G, z, ε, d1, ε1, r, e1, fun v G' H' g1 r1 p1 => k v G' σ H' g1 r1 p1⟩⟩
theorem sv_retF (he : Fv X e fa) : Sv X (.Return (some e) pos) (sRetF fa) := ⟨ps_mono (ps_ret he.p) fun D σ H ⟨B, G, z, ε, o, r, ef, k⟩ => by
  obtain ⟨⟨d1, ε1⟩, e1, ef1⟩ := Option.map_eq_some_iff.mp ef
  subst ef1
  exact ⟨B, G, z, ε, d1, ε1, r, e1, fun p G' H' g1 r1 h1 h2 h3 _ => k p G' σ H' g1 r1 h1 h2 h3⟩⟩
theorem sv_if {c : Expr} {a b : List Stmt} (hc : Tv X c ga) (ha : Bv X a f) (hb : Bv X b g) : Sv X (.If c a b pos) (sIf ga f g) := ⟨ps_mono (ps_if hc.p ha.p hb.p) fun D σ H ⟨B, G, z, ε, o, r, ef, k⟩ => by
  obtain ⟨⟨d1, ε1⟩, e1, ef1⟩ := Option.bind_eq_some_iff.mp ef
  refine ⟨B, G, z, ε, d1, ε1, r, e1, fun G1 H1 g1 r1 => ?_⟩
  cases d1 with
  | true =>
    rw [if_pos rfl] at ef1 ⊢
    exact ⟨B, G1, z, ε1, o, r1, ef1, k.gr g1⟩
  | false =>
    rw [if_neg Bool.false_ne_true] at ef1 ⊢
    exact ⟨B, G1, z, ε1, o, r1, ef1, k.gr g1⟩⟩
theorem asg_read {i : Nat} {D : Ends} {σ : St} {H : Hp} (h : tSF X.K (sAsg i fa) D σ H) : tAsg (tF X.K fa) (gName i) D σ H := by
  obtain ⟨B, G, z, ε, o, r, ef, k⟩ := h
  obtain ⟨⟨d1, ε1⟩, e1, ef1⟩ := Option.map_eq_some_iff.mp ef
  subst ef1
  exact ⟨B, G, z, ε, d1, ε1, r, e1, fun v G' H' g1 r1 p1 => k G' _ H' g1 (r1.set_fz p1)⟩
theorem asgM_read {i : Nat} (hi : i ≠ 0) {D : Ends} {σ : St} {H : Hp} (h : tSF X.K (sAsgM i fa) D σ H) : tAsg (tFrF X.K fa) (gName i) D σ H := by
  obtain ⟨B, G, z, ε, o, r, ef, k⟩ := h
  obtain ⟨⟨d1, ε1⟩, e1, ef1⟩ := Option.map_eq_some_iff.mp ef
  subst ef1
  exact ⟨B, G, z, ε, d1, ε1, r, e1, fun p G' H' g1 r1 h1 h2 h3 h4 => k G' _ H' g1 (r1.set_mu hi h1 h2 h3 h4)⟩
theorem sv_set (i : Nat) {x : Str} {pos' : Pos} (hi0 : True) (hN : X.N.Nodup) (hi : X.N[i]? = some x) (hx : Loc X.env.scope x) (he : Ev X e fa) (hs : swapsWith e (some (.Name x pos')) pos.line X.env = pure false := by rfl) (hf : X.fn x = true ∨ X.env.scope.names.lookup x = some .local := by first | exact .inl rfl | exact .inr rfl | assumption) :
    Sv X (.Assign [.Name x pos'] e pos) (sAsg i fa) := ⟨ps_mono (ps_set hN hi hx he.p hs hf) fun _ _ _ h => asg_read h⟩
theorem sv_setM (i : Nat) {x : Str} {pos' : Pos} (hi0 : i ≠ 0) (hN : X.N.Nodup) (hi : X.N[i]? = some x) (hx : Loc X.env.scope x) (he : Fv X e fa) (hs : swapsWith e (some (.Name x pos')) pos.line X.env = pure false := by rfl) (hf : X.fn x = true ∨ X.env.scope.names.lookup x = some .local := by first | exact .inl rfl | exact .inr rfl | assumption) :
    Sv X (.Assign [.Name x pos'] e pos) (sAsgM i fa) := ⟨ps_mono (ps_set hN hi hx he.p hs hf) fun _ _ _ h => asgM_read hi0 h⟩
structure Gv (X : Cx) (tg : Expr) (g : TG) : Prop where
  p : PG X tg g
structure Gvs (X : Cx) (ts : List Expr) (g : TGs) : Prop where
  p : PGs X ts g
theorem gv_name {i : Nat} {x : Str} (hN : X.N.Nodup) (hi : X.N[i]? = some x) (hx : Loc X.env.scope x) (hf : X.fn x = true ∨ X.env.scope.names.lookup x = some .local := by first | exact .inl rfl | exact .inr rfl | assumption) : Gv X (.Name x pos) (gName i) := ⟨pg_name hN hi hx hf⟩
theorem gvs_nil : Gvs X [] gNil := ⟨pgs_nil⟩
theorem gvs_cons {e : Expr} {es : List Expr} {t : TG} {u : TGs} (h1 : Gv X e t) (h2 : Gvs X es u) (hs : (assignEach (e :: es) X.env).map (·.2) = assign e X.env :: (assignEach es X.env).map (·.2) := by rfl) : Gvs X (e :: es) (gCons t u) := ⟨pgs_cons h1.p h2.p hs⟩
theorem gv_tup {es : List Expr} {k : Nat} {t : TGs} {n : Nat} (hc : X.calm = true) (h : Gvs X es t) (hn : (assignEach es X.env).length = n := by rfl) (hst : (assignEach es X.env).findIdx? (·.1) = none := by rfl) : Gv X (.Tuple es k pos) (gTup X.K n t) := ⟨pg_tup hc h.p hn hst⟩
def gNames : List Nat → TGs
  | [] => gNil
  | i :: is => gCons (gName i) (gNames is)
theorem gNames_ok {K : PySem.W.Frag} : ∀ (is : List Nat) (ds : List PyData) (vs : List V) {B G H : Hp} {z : Option (Option V)} {σ : St} {ε ε' : En} {Q : St → Hp → Prop}, 0 ∉ is → Rep K B G H z σ ε → RpAll K G vs ds → bNames is ds ε = some ε' →
    (∀ σ', Rep K B G H z σ' ε' → σ'.length = σ.length → (∀ j, j ∉ is → σ'[j]? = σ[j]?) → Q σ' H) → gNames is vs σ H Q
  | [], [], _, _, _, _, _, _, _, _, _, _, r, .nil, e, q => by
    cases e
    exact ⟨rfl, q _ r rfl fun _ _ => rfl⟩
  | i :: is, d :: ds, _, B, G, H, z, σ, ε, ε', Q, h0, r, .cons p ps, e, q => by
    have hi : i ≠ 0 := fun z => h0 (by rw [z]; exact List.mem_cons_self ..)
    refine ⟨_, _, rfl, gNames_ok is ds _ (fun z => h0 (List.mem_cons_of_mem _ z)) (r.set_fz p) ps e fun σ' r' l k => q σ' r' (by rw [l, List.length_set]) fun j hj => ?_⟩
    rw [k j (fun z => hj (List.mem_cons_of_mem _ z)), List.getElem?_set_ne (fun z => hj (by rw [z]; exact List.mem_cons_self ..))]
  | [], _ :: _, _, _, _, _, _, _, _, _, _, _, _, _, e, _ => by cases e
  | _ :: _, [], _, _, _, _, _, _, _, _, _, _, _, _, e, _ => by cases e
theorem wipe_length (ε : St) : ∀ (vs : List Nat), (wipe ε vs).length = ε.length
  | [] => rfl
  | v :: vs => by show ((wipe ε vs).set v none).length = _; rw [List.length_set, wipe_length ε vs]
theorem wipe_get (σ : St) : ∀ (vs : List Nat) (j : Nat), (wipe σ vs)[j]? = if j ∈ vs then (σ[j]?).map (fun _ => none) else σ[j]?
  | [], j => by simp [wipe]
  | v :: vs, j => by
    show ((wipe σ vs).set v none)[j]? = _
    rw [List.getElem?_set]
    by_cases h : v = j
    · subst h
      rw [if_pos rfl, if_pos (List.mem_cons_self ..)]
      rw [wipe_length]
      by_cases hv : v < σ.length
      · rw [if_pos hv, List.getElem?_eq_getElem hv]; rfl
      · rw [if_neg hv, List.getElem?_eq_none (by omega)]; rfl
    · rw [if_neg h, wipe_get σ vs j]
      by_cases hj : j ∈ vs
      · rw [if_pos hj, if_pos (List.mem_cons_of_mem _ hj)]
      · rw [if_neg hj, if_neg (by simp only [List.mem_cons, not_or]; exact ⟨fun z => h z.symm, hj⟩)]
theorem wipe_eq {σ σ' : St} {vs : List Nat} (hl : σ'.length = σ.length) (h : ∀ j, j ∉ vs → σ'[j]? = σ[j]?) : wipe σ' vs = wipe σ vs := by
  apply List.ext_getElem?
  intro j
  rw [wipe_get, wipe_get]
  by_cases hj : j ∈ vs
  · rw [if_pos hj, if_pos hj]
    by_cases hv : j < σ.length
    · rw [List.getElem?_eq_getElem hv, List.getElem?_eq_getElem (by omega)]; rfl
    · rw [List.getElem?_eq_none (by omega), List.getElem?_eq_none (by omega)]
  · rw [if_neg hj, if_neg hj, h j hj]
/-- a target and what it binds -/
def TgOk (K : PySem.W.Frag) (g : TG) (bind : PyData → En → Option En) (vs : List Nat) : Prop :=
  ∀ (B G H : Hp) (z : Option (Option V)) (σ : St) (ε ε' : En) (v : V) (d : PyData) (Q : St → Hp → Prop), Rep K B G H z σ ε → Rp K G v d → bind d ε = some ε' → (∀ σ', Rep K B G H z σ' ε' → wipe σ' vs = wipe σ vs → Q σ' H) → g v σ H Q
theorem tg_name {K : PySem.W.Frag} {i : Nat} (h0 : i ≠ 0) : TgOk K (gName i) (bName i) [i] := fun B G H z σ ε ε' v d Q r p e q => by
  cases e
  refine q _ (r.set_fz p) (wipe_eq (by rw [List.length_set]) fun j hj => ?_)
  rw [List.getElem?_set_ne (fun z => hj (by rw [z]; exact List.mem_singleton.mpr rfl))]
theorem tg_tup {K : PySem.W.Frag} {n : Nat} {is : List Nat} (h0 : 0 ∉ is) (hn : n = is.length) : TgOk K (gTup K n (gNames is)) (bTup is) is := fun B G H z σ ε ε' v d Q r p e q => by
  cases p with
  | tup h1 h2 =>
    have hl : ∀ (is : List Nat) (ds : List PyData) (ε ε' : En), bNames is ds ε = some ε' → ds.length = is.length := by
      intro is
      induction is with
      | nil => intro ds ε ε' h; cases ds with
        | nil => rfl
        | cons _ _ => cases h
      | cons i is ih => intro ds ε ε' h; cases ds with
        | nil => cases h
        | cons d ds => exact congrArg (· + 1) (ih ds _ _ h)
    refine ⟨_, _, rfl, sqT_same r.sub h1, by rw [h2.length, hn]; exact hl _ _ _ _ e, ?_⟩
    exact gNames_ok is _ _ h0 r h2 e fun σ' r' l k => q σ' r' (wipe_eq l k)
  | non => cases e
  | bl _ => cases e
  | int _ => cases e
  | str _ => cases e
  | lst _ _ => cases e
  | dct _ _ => cases e
theorem sv_asgT {tg : Expr} {g : TG} {is : List Nat} (hg : Gv X tg g) (ht : TgOk X.K g (bTup is) is) (he : Ev X e fa) (hs : swapsWithSole [tg] e pos.line X.env = pure false := by rfl) (hw : swappedStores [tg] e X.env = pure none := by rfl)
    (h1 : (assignEach [tg] X.env).map (·.2) = [assign tg X.env] := by rfl) : Sv X (.Assign [tg] e pos) (sAsgT is fa) := ⟨ps_mono (ps_asg he.p hg.p hs hw h1) fun D σ H ⟨B, G, z, ε, o, r, ef, k⟩ => by
  obtain ⟨⟨d1, ε1⟩, e1, ef1⟩ := Option.bind_eq_some_iff.mp ef
  obtain ⟨ε2, e2, ef2⟩ := Option.map_eq_some_iff.mp ef1
  subst ef2
  exact ⟨B, G, z, ε, d1, ε1, r, e1, fun v G' H' g1 r1 p1 => ht B G' H' z σ ε1 ε2 v d1 _ r1 p1 e2 fun σ' r' _ => k G' σ' H' g1 r'⟩⟩
structure Walks (K : PySem.W.Frag) (G : Hp) (J : It) (ds : List PyData) : Prop where
  go : ∀ i H, Same G H → i < ds.length → J.go i H
  yld : ∀ i G1 H x H', Same G G1 → Same G1 H → i < ds.length → J.yld i H x H' → ∃ d G2, ds[i]? = some d ∧ Grow G1 H G2 H' ∧ Rp K G2 x d
  stop : ∀ i H, Same G H → ds.length ≤ i → J.stop i H
def tIF (K : PySem.W.Frag) (f : Af) : TI := fun σ H R => ∃ B G z ε ds ε', Rep K B G H z σ ε ∧ f ε = some (ds, ε') ∧ ∀ J G' H', Gr B G G' → Rep K B G' H' z σ ε' → Walks K G' J ds → R J H'
structure Iv (X : Cx) (tg iter : Expr) (f : Af) : Prop where
  p : PI X tg iter (tIF X.K f)
theorem sv_for {tg iter : Expr} {body : List Stmt} {src : Af} {g : TG} {bind : PyData → En → Option En} {vs : List Nat} (hp : PassesOwn (model X.prog X.w) X.A X.env X.xe) (hc : X.calm = true) (hi : Iv X tg iter src) (hg : Gv X tg g) (ht : TgOk X.K g bind vs) (hb : Bv X body f)
    (hs : ∀ x, foldedSetIterable iter X.env x = pure x := by intro _; rfl) : Sv X (.For tg iter body [] pos) (sFor src bind f) :=
  ⟨ps_mono (ps_for hp hc hi.p hg.p hb.p hs) fun D σ H ⟨B, G, z, ε, o, r, ef, k⟩ => by
    obtain ⟨⟨ds, ε1⟩, e1, ef1⟩ := Option.bind_eq_some_iff.mp ef
    refine ⟨B, G, z, ε, ds, ε1, r, e1, fun J G1 H1 g1 r1 w => ?_⟩
    refine ⟨fun i m σ H => i ≤ ds.length ∧ m = ds.length - i ∧ ∃ G' ε', Gr B G1 G' ∧ Rep X.K B G' H z σ ε' ∧ loopF bind f (ds.drop i) ε' = some o, ⟨_, Nat.zero_le _, rfl, G1, ε1, Gr.refl _ _, r1, by simpa using ef1⟩, ?_⟩
    rintro i m σ2 H2 ⟨hil, rfl, G2, ε2, g2, r2, e2⟩
    by_cases hlt : i < ds.length
    · refine .inr ⟨w.go i H2 (g2.1.trans r2.sub) hlt, fun σ' H' => i + 1 ≤ ds.length ∧ ∃ G' ε', Gr B G1 G' ∧ Rep X.K B G' H' z σ' ε' ∧ loopF bind f (ds.drop (i + 1)) ε' = some o, fun σ' H' ⟨h1, h2⟩ => ⟨_, by omega, h1, rfl, h2⟩, fun x H' y => ?_⟩
      obtain ⟨d, G3, hd, gr3, p3⟩ := w.yld i G2 H2 x H' g2.1 r2.sub hlt y
      have hdr : ds.drop i = d :: ds.drop (i + 1) := by
        rw [List.drop_eq_getElem_cons hlt]
        rw [List.getElem?_eq_getElem hlt] at hd
        cases hd; rfl
      rw [hdr] at e2
      obtain ⟨ε3, e3, e4⟩ := Option.bind_eq_some_iff.mp e2
      obtain ⟨o1, e5, e6⟩ := Option.bind_eq_some_iff.mp e4
      refine ht B G3 H' z σ2 ε2 ε3 x d _ (gr3.rep r2) p3 e3 fun σ' r' _ => ⟨B, G3, z, ε3, o1, r', e5, ?_⟩
      have gg : Gr B G1 G3 := g2.trans (gr3.gr r2.bg)
      cases o1 with
      | nx ε4 => exact fun G4 σ4 H4 g4 r4 => ⟨hlt, G4, ε4, gg.trans g4, r4, e6⟩
      | ct ε4 => exact fun G4 σ4 H4 g4 r4 => ⟨hlt, G4, ε4, gg.trans g4, r4, e6⟩
      | bk ε4 => cases e6; exact fun G4 σ4 H4 g4 r4 => k G4 σ4 H4 (g1.trans (gg.trans g4)) r4
      | rt d4 ε4 => cases e6; exact fun v G4 σ4 H4 g4 r4 p4 => k v G4 σ4 H4 (g1.trans (gg.trans g4)) r4 p4
      | rf d4 ε4 => cases e6; exact fun v G4 σ4 H4 g4 r4 p1 p2 p3 => k v G4 σ4 H4 (g1.trans (gg.trans g4)) r4 p1 p2 p3
    · have e : i = ds.length := by omega
      subst e
      rw [List.drop_length] at e2
      cases e2
      exact .inl ⟨w.stop _ H2 (g2.1.trans r2.sub) (Nat.le_refl _), k G2 σ2 H2 (g1.trans g2) r2⟩⟩
theorem clr_length (ε : En) : ∀ (vs : List Nat), (clr ε vs).length = ε.length
  | [] => rfl
  | v :: vs => by show ((clr ε vs).set v Sl.un).length = _; rw [List.length_set, clr_length ε vs]
theorem clr_get (ε : En) : ∀ (vs : List Nat) (j : Nat), (clr ε vs)[j]? = if j ∈ vs then (ε[j]?).map (fun _ => Sl.un) else ε[j]?
  | [], j => by simp [clr]
  | v :: vs, j => by
    show ((clr ε vs).set v Sl.un)[j]? = _
    rw [List.getElem?_set]
    by_cases h : v = j
    · subst h
      rw [if_pos rfl, if_pos (List.mem_cons_self ..)]
      rw [clr_length]
      by_cases hv : v < ε.length
      · rw [if_pos hv, List.getElem?_eq_getElem hv]; rfl
      · rw [if_neg hv, List.getElem?_eq_none (by omega)]; rfl
    · rw [if_neg h, clr_get ε vs j]
      by_cases hj : j ∈ vs
      · rw [if_pos hj, if_pos (List.mem_cons_of_mem _ hj)]
      · rw [if_neg hj, if_neg (by simp only [List.mem_cons, not_or]; exact ⟨fun z => h z.symm, hj⟩)]
theorem clr_some {ε : En} {vs : List Nat} {j : Nat} {s : Sl} (h : (clr ε vs)[j]? = some s) (hs : s ≠ .un) : j ∉ vs ∧ ε[j]? = some s := by
  rw [clr_get] at h
  by_cases hj : j ∈ vs
  · rw [if_pos hj] at h
    cases q : ε[j]? with
    | none => rw [q] at h; cases h
    | some t => rw [q] at h; cases h; exact absurd rfl hs
  · rw [if_neg hj] at h; exact ⟨hj, h⟩
/-- the slots of another frame that agree where something is known -/
theorem Rep.agree {K : PySem.W.Frag} {B G H : Hp} {z : Option (Option V)} {σ σ' : St} {ε ε' : En} (r : Rep K B G H z σ ε) (hl : ε'.length ≤ σ'.length) (h : ∀ (j : Nat) (s : Sl), s ≠ .un → ε'[j]? = some s → ε[j]? = some s ∧ σ'[j]? = σ[j]?) : Rep K B G H z σ' ε' where
  bg := r.bg
  sub := r.sub
  z0 := fun e q => by
    obtain ⟨h1, h2⟩ := h 0 _ (by intro z; cases z) q
    rw [h2]; exact r.z0 e h1
  len := hl
  fzs := fun i d q => by
    obtain ⟨h1, h2⟩ := h i _ (by intro z; cases z) q
    rw [h2]; exact r.fzs i d h1
  mus := fun i d q => by
    obtain ⟨h1, h2⟩ := h i _ (by intro z; cases z) q
    rw [h2]; exact r.mus i d h1
  dis := fun i j d e a hij q1 q2 s1 s2 => by
    obtain ⟨h1, h2⟩ := h i _ (by intro z; cases z) q1
    obtain ⟨h3, h4⟩ := h j _ (by intro z; cases z) q2
    exact r.dis i j d e a hij h1 h3 (h2 ▸ s1) (h4 ▸ s2)
  exs := fun i c q => by
    obtain ⟨h1, h2⟩ := h i _ (by intro z; cases z) q
    rw [h2]; exact r.exs i c h1
  ms := r.ms.less fun i es q => h i _ (by intro z; cases z) q
/-- another background: one more object that nothing here holds -/
theorem Rep.back {K : PySem.W.Frag} {B G H : Hp} {z : Option (Option V)} {σ : St} {ε : En} {D : Addr} {o : HO} (r : Rep K B G H z σ ε) (hD : H D = some o) (hk : ∀ kvs, o ≠ .dT kvs) (hn : ∀ (i : Nat) (e : PyData), ε[i]? = some (.mu e) → σ[i]? ≠ some (some (.ref D))) : Rep K (upd B D o) G H z σ ε where
  bg := fun b u q => by
    by_cases e : b = D
    · subst e; rw [upd_same] at q; cases q; exact hD
    · rw [upd_ne e] at q; exact r.bg b u q
  sub := r.sub
  z0 := r.z0
  len := r.len
  fzs := r.fzs
  mus := fun i d q => by
    obtain ⟨a, h1, h2, h3, h4⟩ := r.mus i d q
    have : a ≠ D := fun e => hn i d q (by rw [h1, e])
    exact ⟨a, h1, h2, by rw [upd_ne this]; exact h3, h4⟩
  dis := r.dis
  exs := r.exs
  ms := r.ms.move (Same.refl G) fun a kvs h1 h2 h3 => ⟨h1, by
    have : a ≠ D := fun e => by subst e; rw [hD] at h3; exact hk kvs (Option.some.inj h3)
    rw [upd_ne this]; exact h2, h3⟩
theorem Rep.unback {K : PySem.W.Frag} {B G H : Hp} {z : Option (Option V)} {σ : St} {ε : En} {D : Addr} {o : HO} (r : Rep K (upd B D o) G H z σ ε) (hB : B D = none) : Rep K B G H z σ ε where
  bg := fun b u q => r.bg b u (by rw [upd_ne (ne_of_none q hB)]; exact q)
  sub := r.sub
  z0 := r.z0
  len := r.len
  fzs := r.fzs
  mus := fun i d q => by
    obtain ⟨a, h1, h2, h3, h4⟩ := r.mus i d q
    by_cases e : a = D
    · subst e; rw [upd_same] at h3; cases h3
    · rw [upd_ne e] at h3
      exact ⟨a, h1, h2, h3, h4⟩
  dis := r.dis
  exs := r.exs
  ms := r.ms.move (Same.refl G) fun a kvs h1 h2 h3 => ⟨h1, by
    by_cases e : a = D
    · subst e; rw [upd_same] at h2; cases h2
    · rw [upd_ne e] at h2; exact h2, h3⟩
theorem Gr.unback {B G G' : Hp} {D : Addr} {o : HO} (g : Gr (upd B D o) G G') : Gr B G G' := ⟨g.1, fun b h h' => by
  have q := g.2 b h h'
  by_cases e : b = D
  · subst e; rw [upd_same] at q; cases q
  · rw [upd_ne e] at q; exact q⟩
/-- a store into an object that nothing here holds -/
theorem Rep.other {K : PySem.W.Frag} {B G H : Hp} {z : Option (Option V)} {σ : St} {ε : En} {D : Addr} {o : HO} (r : Rep K B G H z σ ε) (hB : B D = none) (hG : G D = none) (hk : ∀ kvs, H D ≠ some (.dT kvs)) (hn : ∀ (i : Nat) (e : PyData), ε[i]? = some (.mu e) → σ[i]? ≠ some (some (.ref D))) : Rep K B G (upd H D o) z σ ε where
  bg := fun b u q => by rw [upd_ne (ne_of_none q hB)]; exact r.bg b u q
  sub := fun b u q => by rw [upd_ne (ne_of_none q hG)]; exact r.sub b u q
  z0 := r.z0
  len := r.len
  fzs := r.fzs
  mus := fun i d q => by
    obtain ⟨a, h1, h2, h3, h4⟩ := r.mus i d q
    have : a ≠ D := fun e => hn i d q (by rw [h1, e])
    exact ⟨a, h1, h2, h3, h4.mono (Same.refl _) (upd_ne this)⟩
  dis := r.dis
  exs := r.exs
  ms := r.ms.move (Same.refl G) fun a kvs h1 h2 h3 => ⟨h1, h2, by
    have : a ≠ D := fun e => hk kvs (by rw [← e]; exact h3)
    rw [upd_ne this]; exact h3⟩
theorem mu_back {K : PySem.W.Frag} {B G H : Hp} {z : Option (Option V)} {σ : St} {ε : En} {D : Addr} {o : HO} (r : Rep K (upd B D o) G H z σ ε) : ∀ (i : Nat) (e : PyData), ε[i]? = some (.mu e) → σ[i]? ≠ some (some (.ref D)) := fun i e q s => by
  obtain ⟨a, h1, h2, h3, h4⟩ := r.mus i e q
  rw [s] at h1; cases h1
  rw [upd_same] at h3; cases h3
theorem lc_read {src : Af} {g : TG} {bind : PyData → En → Option En} {cond : Tf} {elt : Ef} {vs : List Nat} (h0 : 0 ∉ vs) (ht : TgOk X.K g bind vs) {σ : St} {H : Hp} {Q : VK} (h : tFrF X.K (fComp src bind cond elt vs) σ H Q) :
    tLc (tIF X.K src) g (tTF X.K cond) (tF X.K elt) vs σ H Q := by
  obtain ⟨B, G, z, ε, d, ε', r, ef, q⟩ := h
  obtain ⟨⟨ds, ε1⟩, e1, ef1⟩ := Option.bind_eq_some_iff.mp ef
  obtain ⟨⟨ys, ε2⟩, e2, ef2⟩ := Option.bind_eq_some_iff.mp ef1
  obtain ⟨d2, e3, ef3⟩ := Option.map_eq_some_iff.mp ef2
  obtain ⟨rfl, rfl⟩ := Prod.mk.inj ef3
  unfold dLst at e3
  by_cases hsz : ys.length ≤ sizeLine
  case neg => rw [if_neg hsz] at e3; cases e3
  rw [if_pos hsz] at e3
  cases e3
  refine ⟨B, G, z, ε, ds, ε1, r, e1, fun J G1 H1 g1 r1 w D hD => ?_⟩
  have hGD := r1.sub.free hD
  have hBD := r1.bg.free hD
  refine ⟨fun i m H => i ≤ ds.length ∧ m = ds.length - i ∧ ∃ G' εi acc as zs, Gr B G1 G' ∧ Rep X.K B G' H z (wipe σ vs) εi ∧ H D = some (.lst acc) ∧ RpAll X.K G' acc as ∧ G' D = none ∧
      (∀ (i : Nat) (e : PyData), εi[i]? = some (.mu e) → (wipe σ vs)[i]? ≠ some (some (.ref D))) ∧ (∀ j ∈ vs, ∀ s, εi[j]? = some s → s = .un) ∧ compF bind cond elt vs (ds.drop i) εi = some (zs, ε2) ∧ as ++ zs = ys,
    ⟨_, Nat.zero_le _, rfl, G1, clr ε1 vs, [], [], ys, Gr.refl _ _, ?_, upd_same, .nil, hGD, ?_, ?_, by simpa using e2, rfl⟩, ?_⟩
  · refine (rep_new r1 hD).agree (by rw [clr_length, wipe_length]; exact r1.len) fun j s hs hj => ?_
    obtain ⟨h1, h2⟩ := clr_some hj hs
    exact ⟨h2, by rw [wipe_get, if_neg h1]⟩
  · intro i e hi hs
    obtain ⟨h1, h2⟩ := clr_some hi (by intro z; cases z)
    rw [wipe_get, if_neg h1] at hs
    exact nomu r1 hD i e h2 hs
  · intro j hj s hs
    rw [clr_get, if_pos hj] at hs
    cases q : ε1[j]? with
    | none => rw [q] at hs; cases hs
    | some t => rw [q] at hs; cases hs; rfl
  · rintro i m H2 ⟨hil, rfl, G2, εi, acc, as, zs, g2, r2, hacc, pacc, hG2, hmu, hun, ec, hap⟩
    by_cases hlt : i < ds.length
    · refine .inr ⟨w.go i H2 (g2.1.trans r2.sub) hlt, fun H => i + 1 ≤ ds.length ∧ ∃ G' εi acc as zs, Gr B G1 G' ∧ Rep X.K B G' H z (wipe σ vs) εi ∧ H D = some (.lst acc) ∧ RpAll X.K G' acc as ∧ G' D = none ∧
      (∀ (i : Nat) (e : PyData), εi[i]? = some (.mu e) → (wipe σ vs)[i]? ≠ some (some (.ref D))) ∧ (∀ j ∈ vs, ∀ s, εi[j]? = some s → s = .un) ∧ compF bind cond elt vs (ds.drop (i + 1)) εi = some (zs, ε2) ∧ as ++ zs = ys, fun H' ⟨h1, h2⟩ => ⟨_, by omega, h1, rfl, h2⟩, fun x H' y => ?_⟩
      obtain ⟨dd, G3, hd, gr3, p3⟩ := w.yld i G2 H2 x H' g2.1 r2.sub hlt y
      have hdr : ds.drop i = dd :: ds.drop (i + 1) := by
        rw [List.drop_eq_getElem_cons hlt]
        rw [List.getElem?_eq_getElem hlt] at hd
        cases hd; rfl
      rw [hdr] at ec
      obtain ⟨ε3, e3, e4⟩ := Option.bind_eq_some_iff.mp ec
      obtain ⟨⟨b, ε4⟩, e5, e6⟩ := Option.bind_eq_some_iff.mp e4
      have r3 := (r2.back hacc (fun _ z => by cases z) hmu)
      have hacc' : H' D = some (.lst acc) := gr3.hh _ _ hacc
      have r3' : Rep X.K (upd B D (.lst acc)) G3 H' z (wipe σ vs) εi := gr3.rep r3
      have gg3 : Gr (upd B D (.lst acc)) G2 G3 := gr3.gr r3.bg
      refine ht _ G3 H' z (wipe σ vs) εi ε3 x dd _ r3' p3 e3 fun σ' r' hw => ⟨?_, ?_⟩
      · rw [hw]
        apply List.ext_getElem?
        intro j
        rw [wipe_get, wipe_get]
        by_cases hj : j ∈ vs
        · rw [if_pos hj, if_pos hj]
          cases σ[j]? <;> rfl
        · rw [if_neg hj]
      refine ⟨_, G3, z, ε3, b, ε4, r', e5, fun G4 H4 g4 r4 => ?_⟩
      -- back in the comprehension's frame
      have back : ∀ {G5 H5 : Hp} {ε5 : En}, Rep X.K (upd B D (.lst acc)) G5 H5 z σ' ε5 → Rep X.K (upd B D (.lst acc)) G5 H5 z (wipe σ vs) (clr ε5 vs) := fun {G5 H5 ε5} r5 => by
        have hlen : σ'.length = (wipe σ vs).length := by
          have := congrArg List.length hw
          rw [wipe_length, wipe_length] at this
          exact this
        refine r5.agree (by rw [clr_length, ← hlen]; exact r5.len) fun j s hs hj => ?_
        obtain ⟨h1, h2⟩ := clr_some hj hs
        refine ⟨h2, ?_⟩
        have := congrArg (fun l : St => l[j]?) hw
        simp only [wipe_get, if_neg h1] at this
        rw [wipe_get, if_neg h1]
        exact this.symm
      have hclr : ∀ (ε5 : En), ∀ j ∈ vs, ∀ s, (clr ε5 vs)[j]? = some s → s = .un := fun ε5 j hj s hs => by
        rw [clr_get, if_pos hj] at hs
        cases q : ε5[j]? with
        | none => rw [q] at hs; cases hs
        | some t => rw [q] at hs; cases hs; rfl
      cases b with
      | false =>
        rw [if_neg Bool.false_ne_true] at e6
        refine iteF ?_
        have g5 : Gr B G1 G4 := g2.trans ((gg3.trans g4).unback)
        have r5 := back r4
        exact ⟨hlt, G4, clr ε4 vs, acc, as, zs, g5, r5.unback hBD, r4.bg _ _ upd_same, pacc.mono ((gg3.trans g4).1), (gg3.trans g4).none hG2 upd_same, mu_back r5, hclr ε4, e6, hap⟩
      | true =>
        rw [if_pos rfl] at e6
        refine iteT ?_
        obtain ⟨⟨y1, ε5⟩, e7, e8⟩ := Option.bind_eq_some_iff.mp e6
        obtain ⟨⟨zs', ε6⟩, e9, e10⟩ := Option.map_eq_some_iff.mp e8
        obtain ⟨rfl, rfl⟩ := Prod.mk.inj e10
        refine ⟨_, G4, z, ε4, y1, ε5, r4, e7, fun v5 G5 H5 g5 r5 p5 => ?_⟩
        have gg := (gg3.trans g4).trans g5
        have r6 := back r5
        have hG5 : G5 D = none := gg.none hG2 upd_same
        have hl : acc.length < sizeLine := by
          have h1 := pacc.length
          have h2 := congrArg List.length hap
          rw [List.length_append, List.length_cons] at h2
          omega
        refine ⟨acc, r5.bg _ _ upd_same, hl, hlt, G5, clr ε5 vs, acc ++ [v5], as ++ [y1], zs', g2.trans gg.unback, ?_, upd_same, (pacc.mono gg.1).append (.cons p5 .nil), hG5, mu_back r6, hclr ε5, e9, by rw [List.append_assoc]; exact hap⟩
        exact (r6.unback hBD).other hBD hG5 (fun _ z => by rw [r5.bg _ _ upd_same] at z; cases z) (mu_back r6)
    · have e : i = ds.length := by omega
      subst e
      rw [List.drop_length] at ec
      cases ec
      rw [List.append_nil] at hap
      subst hap
      refine .inl ⟨w.stop _ H2 (g2.1.trans r2.sub) (Nat.le_refl _), ?_⟩
      have hrr : ∀ (j : Nat) (s : Sl), s ≠ .un → ε2[j]? = some s → ε2[j]? = some s ∧ σ[j]? = (wipe σ vs)[j]? := fun j s hs hj => by
        refine ⟨hj, ?_⟩
        by_cases hv : j ∈ vs
        · exact absurd (hun j hv s hj) hs
        · rw [wipe_get, if_neg hv]
      have r5 : Rep X.K B G2 H2 z σ ε2 := r2.agree (by have := r2.len; rw [wipe_length] at this; exact this) hrr
      refine q D G2 H2 (g1.trans g2) r5 hG2 hBD (.lst hacc pacc) fun i e hi => ?_
      rw [(hrr i _ (by intro z; cases z) hi).2]
      exact hmu i e hi
end
end PD

set_option Elab.async false
set_option linter.all false
set_option maxRecDepth 100000
set_option maxHeartbeats 4000000
namespace PD
open PySem L2

/-- a def that changes nothing: its value by its arguments' data -/
def spP (K : PySem.W.Frag) (n : Nat) (F : List PyData → Option PyData) : Sp := fun vs H Q _ => ∃ G ds d, vs.length = n ∧ Same G H ∧ RpAll K G vs ds ∧ F ds = some d ∧ ∀ v G' H', Same H H' → Same G' H' → Gr H G G' → Rp K G' v d → Q v H'
/-- one that hands back a new object that nothing else holds -/
def spN (K : PySem.W.Frag) (n : Nat) (F : List PyData → Option PyData) : Sp := fun vs H Q _ => ∃ G ds d, vs.length = n ∧ Same G H ∧ RpAll K G vs ds ∧ F ds = some d ∧ ∀ p G' H', Same H H' → Same G' H' → Gr H G G' → G' p = none → H p = none → Mo K G' H' p d → Q (.ref p) H'
def rm (H : Hp) (a : Addr) : Hp := fun b => if b = a then none else H b
/-- one that changes its first argument alone -/
def spR (K : PySem.W.Frag) (n : Nat) (F : PyData → List PyData → Option (PyData × PyData)) : Sp := fun vs H Q _ => ∃ G a ws r ds d r', vs = .ref a :: ws ∧ vs.length = n ∧ Same G H ∧ G a = none ∧ Mo K G H a r ∧ RpAll K G ws ds ∧ F r ds = some (d, r') ∧
  ∀ v G' H', Same (rm H a) H' → Same G' H' → Gr (rm H a) G G' → G' a = none → Mo K G' H' a r' → Rp K G' v d → Q v H'
def start0 (n : Nat) (ds : List PyData) : En := ds.map Sl.fz ++ List.replicate (n - ds.length) Sl.un
def startR (n : Nat) (r : PyData) (ds : List PyData) : En := Sl.mu r :: (ds.map Sl.fz ++ List.replicate (n - (ds.length + 1)) Sl.un)
def outP : Option Out → Option PyData
  | some (.rt d _) => some d
  | some (.nx _) => some .none
  | _ => none
def outN : Option Out → Option PyData
  | some (.rf d _) => some d
  | _ => none
def sl0 (ε : En) (d : PyData) : Option (PyData × PyData) := match (ε[0]? : Option Sl) with
  | some (Sl.mu r) => some (d, r)
  | _ => none
def outR : Option Out → Option (PyData × PyData)
  | some (.rt d ε) => sl0 ε d
  | some (.nx ε) => sl0 ε .none
  | _ => none
def runP (n : Nat) (fb : Sf) (ds : List PyData) : Option PyData := outP (fb (start0 n ds))
def runN (n : Nat) (fb : Sf) (ds : List PyData) : Option PyData := outN (fb (start0 n ds))
def runR (n : Nat) (fb : Sf) (r : PyData) (ds : List PyData) : Option (PyData × PyData) := outR (fb (startR n r ds))
theorem get_map_rep {α β : Type} (xs : List α) (f : α → β) (n : Nat) (u : β) (i : Nat) (y : β) (h : (xs.map f ++ List.replicate n u)[i]? = some y) : (∃ x, xs[i]? = some x ∧ y = f x) ∨ y = u := by
  rw [List.getElem?_append] at h
  split at h
  · rw [List.getElem?_map] at h
    obtain ⟨x, h1, h2⟩ := Option.map_eq_some_iff.mp h
    exact .inl ⟨x, h1, h2.symm⟩
  · rw [List.getElem?_replicate] at h
    split at h
    · cases h; exact .inr rfl
    · cases h
theorem start_get {N : List Str} {vs : List V} {i : Nat} {v : V} (h : vs[i]? = some v) : (L2.start N vs)[i]? = some (some v) := by
  unfold L2.start
  have hl : i < vs.length := by
    by_cases hl : i < vs.length
    · exact hl
    · rw [List.getElem?_eq_none (by omega)] at h; cases h
  rw [List.getElem?_append_left (by simpa using hl), List.getElem?_map, h]; rfl
theorem rep_start {K : PySem.W.Frag} {G H : Hp} {N : List Str} {vs : List V} {ds : List PyData} (s : Same G H) (h : RpAll K G vs ds) : Rep K H G H ((L2.start N vs)[0]?) (L2.start N vs) (start0 N.length ds) where
  bg := Same.refl H
  sub := s
  z0 := fun _ _ => rfl
  len := by
    have := h.length
    simp [L2.start, start0]; omega
  fzs := fun i d q => by
    rcases get_map_rep ds Sl.fz _ Sl.un i _ q with ⟨x, h1, h2⟩ | h2
    · cases h2
      obtain ⟨v, h3, h4⟩ := h.get' h1
      exact ⟨v, start_get h3, h4⟩
    · cases h2
  mus := fun i d q => by
    rcases get_map_rep ds Sl.fz _ Sl.un i _ q with ⟨x, h1, h2⟩ | h2
    · cases h2
    · cases h2
  dis := fun i j d e a _ q => by
    rcases get_map_rep ds Sl.fz _ Sl.un i _ q with ⟨x, h1, h2⟩ | h2
    · cases h2
    · cases h2
  exs := fun i c q => by
    rcases get_map_rep ds Sl.fz _ Sl.un i _ q with ⟨x, h1, h2⟩ | h2
    · cases h2
    · cases h2
  ms := Mts.none fun i es q => by
    rcases get_map_rep ds Sl.fz _ Sl.un i _ q with ⟨x, h1, h2⟩ | h2
    · cases h2
    · cases h2
theorem same_rm (H : Hp) (a : Addr) : Same (rm H a) H := fun b o q => by
  unfold rm at q
  split at q
  · cases q
  · exact q
theorem rep_startR {K : PySem.W.Frag} {G H : Hp} {N : List Str} {a : Addr} {ws : List V} {r : PyData} {ds : List PyData} (s : Same G H) (hg : G a = none) (m : Mo K G H a r) (h : RpAll K G ws ds) (hN : ws.length + 1 ≤ N.length) :
    Rep K (rm H a) G H (some (some (.ref a))) (L2.start N (.ref a :: ws)) (startR N.length r ds) where
  bg := same_rm H a
  sub := s
  z0 := fun _ _ => rfl
  len := by
    have := h.length
    simp [L2.start, startR]; omega
  fzs := fun i d q => by
    cases i with
    | zero => cases q
    | succ i =>
      rcases get_map_rep ds Sl.fz _ Sl.un i _ q with ⟨x, h1, h2⟩ | h2
      · cases h2
        obtain ⟨v, h3, h4⟩ := h.get' h1
        exact ⟨v, start_get h3, h4⟩
      · cases h2
  mus := fun i d q => by
    cases i with
    | zero => cases q; exact ⟨a, rfl, hg, by simp [rm], m⟩
    | succ i =>
      rcases get_map_rep ds Sl.fz _ Sl.un i _ q with ⟨x, h1, h2⟩ | h2
      · cases h2
      · cases h2
  dis := fun i j d e b hij q1 q2 => by
    have z : ∀ (i : Nat) (d : PyData), (startR N.length r ds)[i]? = some (Sl.mu d) → i = 0 := fun i d q => by
      cases i with
      | zero => rfl
      | succ i =>
        rcases get_map_rep ds Sl.fz _ Sl.un i _ q with ⟨x, h1, h2⟩ | h2
        · cases h2
        · cases h2
    exact absurd ((z i d q1).trans (z j e q2).symm) hij
  exs := fun i c q => by
    cases i with
    | zero => cases q
    | succ i =>
      rcases get_map_rep ds Sl.fz _ Sl.un i _ q with ⟨x, h1, h2⟩ | h2
      · cases h2
      · cases h2
  ms := Mts.none fun i es q => by
    cases i with
    | zero => cases q
    | succ i =>
      rcases get_map_rep ds Sl.fz _ Sl.un i _ q with ⟨x, h1, h2⟩ | h2
      · cases h2
      · cases h2
section
variable {P : Program} {w : World} {K : PySem.W.Frag} {mg : Str → Option Value} {base : Heap}
/-- the context of a def's body -/
abbrev bodyX (P : Program) (w : World) (K : PySem.W.Frag) (mg : Str → Option Value) (base : Heap) (N : List Str) (qual : Str) (sc : Scope) (f : Addr) (cdv : Value) (A : Around) (outer : List Env) (s : Shared) (H : Hp) (E : XK) : Cx :=
  (cxOf CX0 P w K mg base N qual sc f cdv A outer s H E).nox
theorem fun_pure {x qual : Str} {st : Stmt} {f : Addr} {fd : FuncData} {N ps : List Str} {k : Nat} {fb : Sf} (F : Fun K x qual st f fd) (S : FnScope N ps (defScope st))
    (hb : ∀ (cdv : Value) (A : Around) (outer : List Env) (s : Shared) (H : Hp) (E : XK), Room k (A.deeper (PyProof.Rows.envOfC qual (defScope st) s.heap.objs.size f cdv)) → Bv (bodyX P w K mg base N qual (defScope st) f cdv A outer s H E) (defBody st) fb) :
    FnOk P w K mg base CX0 (k + 1) f fd ps (spP K ps.length (runP N.length fb)) := by
  refine F.ok S (fun vs H Q E ⟨G, ds, d, h, _⟩ => h) fun cdv A outer s H vs Q E hr ⟨G, ds, d, hl, hs, hp, he, q⟩ => ⟨_, (hb cdv A outer s H E hr).p, ?_⟩
  unfold runP at he
  cases ho : fb (start0 N.length ds) with
  | none => rw [ho] at he; cases he
  | some o =>
    rw [ho] at he
    refine ⟨H, G, _, _, o, rep_start hs hp, ho, ?_⟩
    cases o with
    | nx ε => cases he; exact fun G' σ' H' g r => q .non G' H' r.bg r.sub g .non
    | rt d' ε => cases he; exact fun v G' σ' H' g r p => q v G' H' r.bg r.sub g p
    | bk ε => cases he
    | ct ε => cases he
    | rf d' ε => cases he
theorem fun_new {x qual : Str} {st : Stmt} {f : Addr} {fd : FuncData} {N ps : List Str} {k : Nat} {fb : Sf} (F : Fun K x qual st f fd) (S : FnScope N ps (defScope st))
    (hb : ∀ (cdv : Value) (A : Around) (outer : List Env) (s : Shared) (H : Hp) (E : XK), Room k (A.deeper (PyProof.Rows.envOfC qual (defScope st) s.heap.objs.size f cdv)) → Bv (bodyX P w K mg base N qual (defScope st) f cdv A outer s H E) (defBody st) fb) :
    FnOk P w K mg base CX0 (k + 1) f fd ps (spN K ps.length (runN N.length fb)) := by
  refine F.ok S (fun vs H Q E ⟨G, ds, d, h, _⟩ => h) fun cdv A outer s H vs Q E hr ⟨G, ds, d, hl, hs, hp, he, q⟩ => ⟨_, (hb cdv A outer s H E hr).p, ?_⟩
  unfold runN at he
  cases ho : fb (start0 N.length ds) with
  | none => rw [ho] at he; cases he
  | some o =>
    rw [ho] at he
    refine ⟨H, G, _, _, o, rep_start hs hp, ho, ?_⟩
    cases o with
    | nx ε => cases he
    | rt d' ε => cases he
    | bk ε => cases he
    | ct ε => cases he
    | rf d' ε => cases he; exact fun p G' σ' H' g r h1 h2 h3 => q p G' H' r.bg r.sub g h1 h2 h3
theorem fun_row {x qual : Str} {st : Stmt} {f : Addr} {fd : FuncData} {N ps : List Str} {k : Nat} {fb : Sf} (F : Fun K x qual st f fd) (S : FnScope N ps (defScope st)) (hN : ps.length ≤ N.length)
    (hb : ∀ (cdv : Value) (A : Around) (outer : List Env) (s : Shared) (H : Hp) (E : XK), Room k (A.deeper (PyProof.Rows.envOfC qual (defScope st) s.heap.objs.size f cdv)) → Bv (bodyX P w K mg base N qual (defScope st) f cdv A outer s H E) (defBody st) fb) :
    FnOk P w K mg base CX0 (k + 1) f fd ps (spR K ps.length (runR N.length fb)) := by
  refine F.ok S (fun vs H Q E ⟨G, a, ws, r, ds, d, r', _, h, _⟩ => h) fun cdv A outer s H vs Q E hr ⟨G, a, ws, r, ds, d, r', hv, hl, hs, hg, hm, hp, he, q⟩ => ⟨_, (hb cdv A outer s H E hr).p, ?_⟩
  subst hv
  unfold runR at he
  cases ho : fb (startR N.length r ds) with
  | none => rw [ho] at he; cases he
  | some o =>
    rw [ho] at he
    refine ⟨rm H a, G, _, _, o, rep_startR hs hg hm hp (by rw [List.length_cons] at hl; omega), ho, ?_⟩
    have fin : ∀ (ε : En) (v : V) (d0 : PyData) (G' : Hp) (σ' : L2.St) (H' : Hp), sl0 ε d0 = some (d, r') → Gr (rm H a) G G' → Rep K (rm H a) G' H' (some (some (.ref a))) σ' ε → Rp K G' v d0 → Q v H' := fun ε v d0 G' σ' H' e g r p => by
      unfold sl0 at e
      cases h0 : ε[0]? with
      | none => rw [h0] at e; cases e
      | some sl =>
        rw [h0] at e
        cases sl with
        | un => cases e
        | ex c => cases e
        | mt c => cases e
        | fz d => cases e
        | mu d' =>
          cases e
          obtain ⟨a', h1, h2, h3, h4⟩ := r.mus 0 _ h0
          rw [r.z0 _ h0] at h1
          cases h1
          exact q v G' H' r.bg r.sub g h2 h4 p
    cases o with
    | nx ε => exact fun G' σ' H' g r => fin ε .non .none G' σ' H' he g r .non
    | rt d' ε => exact fun v G' σ' H' g r p => fin ε v d' G' σ' H' he g r p
    | bk ε => cases he
    | ct ε => cases he
    | rf d' ε => cases he
end
def gd (n : Nat) (F : List PyData → Option PyData) : List PyData → Option PyData := fun ds => if ds.length = n then F ds else none
section
variable {X : Cx} {k n : Nat} {f : Addr} {fd : FuncData} {ps : List Str} {x y : Str} {p pos pos' : Pos} {e : Expr} {es : List Expr} {fs : Af}
theorem ev_call {F : List PyData → Option PyData} (G : FnOk X.prog X.w X.K X.mg X.base CX0 k f fd ps (spP X.K n F)) (hr : Room k X.A) (hg : Gl X x) (hm : X.mg x = some (.ref f)) (hk : PySem.W.keepIn X.K (.ref f) = true) (hb : Binds X.K fd ps []) (hl : (e :: es).length = n)
    (ha : Av X (e :: es) fs) (hdb : (x == ("__debug__" : Str)) = false := by decide) (he : starEach (e :: es) X.env = (false, eval e X.env) :: starEach es X.env := by exact star_ok rfl) (hpl : (backTo pos (starEach es X.env)).any (·.1) = false := by exact plain_ok rfl) :
    Ev X (.Call (.Name x p) (e :: es) [] pos) (fCall (gd n F) fs) :=
  ⟨pe_mono (pe_call G hr hg hm hk hb .nil pass0 ha.p hdb he hpl) fun σ H Q ⟨B, G, z, ε, d, ε', rep, ef, q⟩ => by
    obtain ⟨⟨d1, ε1⟩, e1, ef1⟩ := Option.bind_eq_some_iff.mp ef
    obtain ⟨c, e3, ef2⟩ := Option.map_eq_some_iff.mp ef1
    obtain ⟨rfl, rfl⟩ := Prod.mk.inj ef2
    refine ⟨B, G, z, ε, d1, ε1, rep, e1, fun vs G1 H1 g1 r1 p1 => ?_⟩
    by_cases hd : d1.length = n
    case neg => simp [gd, hd] at e3
    simp only [gd, hd, if_true] at e3
    refine ⟨G1, d1, c, by rw [List.append_nil, p1.length]; exact hd, r1.sub, by rw [List.append_nil]; exact p1, e3, fun v G' H' s1 s2 g2 p2 => ?_⟩
    have gw : Grow G1 H1 G' H' := ⟨g2.1, s1, s2, g2.2⟩
    exact q v G' H' (g1.trans (gw.gr r1.bg)) (gw.rep r1) p2⟩
theorem fv_call {F : List PyData → Option PyData} (G : FnOk X.prog X.w X.K X.mg X.base CX0 k f fd ps (spN X.K n F)) (hr : Room k X.A) (hg : Gl X x) (hm : X.mg x = some (.ref f)) (hk : PySem.W.keepIn X.K (.ref f) = true) (hb : Binds X.K fd ps []) (hl : (e :: es).length = n)
    (ha : Av X (e :: es) fs) (hdb : (x == ("__debug__" : Str)) = false := by decide) (he : starEach (e :: es) X.env = (false, eval e X.env) :: starEach es X.env := by exact star_ok rfl) (hpl : (backTo pos (starEach es X.env)).any (·.1) = false := by exact plain_ok rfl) :
    Fv X (.Call (.Name x p) (e :: es) [] pos) (fCall (gd n F) fs) :=
  ⟨pe_mono (pe_call G hr hg hm hk hb .nil pass0 ha.p hdb he hpl) fun σ H Q ⟨B, G, z, ε, d, ε', rep, ef, q⟩ => by
    obtain ⟨⟨d1, ε1⟩, e1, ef1⟩ := Option.bind_eq_some_iff.mp ef
    obtain ⟨c, e3, ef2⟩ := Option.map_eq_some_iff.mp ef1
    obtain ⟨rfl, rfl⟩ := Prod.mk.inj ef2
    refine ⟨B, G, z, ε, d1, ε1, rep, e1, fun vs G1 H1 g1 r1 p1 => ?_⟩
    by_cases hd : d1.length = n
    case neg => simp [gd, hd] at e3
    simp only [gd, hd, if_true] at e3
    refine ⟨G1, d1, c, by rw [List.append_nil, p1.length]; exact hd, r1.sub, by rw [List.append_nil]; exact p1, e3, fun v G' H' s1 s2 g2 h1 h2 h3 => ?_⟩
    have gw : Grow G1 H1 G' H' := ⟨g2.1, s1, s2, g2.2⟩
    exact q v G' H' (g1.trans (gw.gr r1.bg)) (gw.rep r1) h1 (r1.bg.free h2) h3 (nomu r1 h2)⟩
/-- f(row, ..): row a slot that f changes -/
def fRow (i n : Nat) (F : PyData → List PyData → Option (PyData × PyData)) (fs : Af) : Ef := fun ε => match ε[i]? with
  | some (.mu _) => (fs ε).bind fun q => match q.2[i]? with
    | some (.mu r) => if q.1.length + 1 = n then (F r q.1).map fun t => (t.1, q.2.set i (.mu t.2)) else none
    | _ => none
  | _ => none
theorem ev_row (i : Nat) {F : PyData → List PyData → Option (PyData × PyData)} (G : FnOk X.prog X.w X.K X.mg X.base CX0 k f fd ps (spR X.K n F)) (hr : Room k X.A) (hg : Gl X x) (hm : X.mg x = some (.ref f)) (hk : PySem.W.keepIn X.K (.ref f) = true) (hb : Binds X.K fd ps [])
    (hv : PE X (.Name y pos') (tVar i)) (ha : Av X es fs) (hst : starEach (.Name y pos' :: es) X.env = (false, eval (.Name y pos') X.env) :: starEach es X.env := by exact star_ok rfl)
    (hdb : (x == ("__debug__" : Str)) = false := by decide) (hpl : (backTo pos (starEach es X.env)).any (·.1) = false := by exact plain_ok rfl) :
    Ev X (.Call (.Name x p) (.Name y pos' :: es) [] pos) (fRow i n F fs) :=
  ⟨pe_mono (pe_call G hr hg hm hk hb .nil pass0 (pa_cons hv ha.p hst) hdb hst hpl) fun σ H Q ⟨B, G, z, ε, d, ε', rep, ef, q⟩ => by
    unfold fRow at ef
    cases h0 : ε[i]? with
    | none => rw [h0] at ef; cases ef
    | some sl =>
      rw [h0] at ef
      cases sl with
      | un => cases ef
      | ex c => cases ef
      | mt c => cases ef
      | fz d => cases ef
      | mu r0 =>
        obtain ⟨a, ha, _⟩ := rep.mus i r0 h0
        obtain ⟨⟨d1, ε1⟩, e1, ef1⟩ := Option.bind_eq_some_iff.mp ef
        refine ⟨.ref a, ha, B, G, z, ε, d1, ε1, rep, e1, fun vs G1 H1 g1 r1 p1 => ?_⟩
        simp only at ef1
        cases h1 : ε1[i]? with
        | none => rw [h1] at ef1; cases ef1
        | some sl =>
          rw [h1] at ef1
          cases sl with
          | un => cases ef1
          | ex c => cases ef1
          | mt c => cases ef1
          | fz d => cases ef1
          | mu r1' =>
            simp only at ef1
            by_cases hd : d1.length + 1 = n
            case neg => rw [if_neg hd] at ef1; cases ef1
            rw [if_pos hd] at ef1
            obtain ⟨⟨c, r2⟩, e3, ef3⟩ := Option.map_eq_some_iff.mp ef1
            obtain ⟨rfl, rfl⟩ := Prod.mk.inj ef3
            obtain ⟨a', ha', hg', hb', hm'⟩ := r1.mus i r1' h1
            rw [ha] at ha'
            cases ha'
            refine ⟨G1, a, vs, r1', d1, c, r2, by rw [List.append_nil], by rw [List.append_nil, List.length_cons, p1.length]; exact hd, r1.sub, hg', hm', p1, e3, fun v G' H' s1 s2 g2 hga hma p2 => ?_⟩
            have hl : i < ε1.length := by
              by_cases hl : i < ε1.length
              · exact hl
              · rw [List.getElem?_eq_none (by omega)] at h1; cases h1
            refine q v G' H' (g1.trans ⟨g2.1, fun b h h' => ?_⟩) ⟨fun b o h => ?_, s2, (fun e q => by
              by_cases hj : i = 0
              · subst hj; exact r1.z0 _ h1
              · rw [List.getElem?_set_ne hj] at q; exact r1.z0 e q), by rw [List.length_set]; exact r1.len, fun j e h => ?_, fun j e h => ?_, fun j l d1 e1 b hjl q1 q2 t1 t2 => ?_, fun j c' h => ?_, (r1.ms.set' fun _ z => by cases z).move g2.1 fun b kvs k2 k3 k4 => by
              have eb : b ≠ a := fun eb => hm'.nodT kvs (by rw [← eb]; exact k4)
              have hrm : rm H1 a b = some (.dT kvs) := by simp only [rm, if_neg eb]; exact k4
              exact ⟨g2.none k2 hrm, k3, s1 b _ hrm⟩⟩ p2
            · have h3 := g2.2 b h h'
              by_cases eb : b = a
              · subst eb; exact hb'
              · simp only [rm, if_neg eb] at h3; exact r1.bg.free h3
            · have eb : b ≠ a := ne_of_none h hb'
              exact s1 b o (by simp only [rm, if_neg eb]; exact r1.bg b o h)
            · by_cases hj : i = j
              · subst hj; rw [List.getElem?_set_self hl] at h; cases h
              · rw [List.getElem?_set_ne hj] at h
                obtain ⟨v, k1, k2⟩ := r1.fzs j e h
                exact ⟨v, k1, k2.mono g2.1⟩
            · by_cases hj : i = j
              · subst hj; rw [List.getElem?_set_self hl] at h; cases h
                exact ⟨a, ha, hga, hb', hma⟩
              · rw [List.getElem?_set_ne hj] at h
                obtain ⟨b, k1, k2, k3, k4⟩ := r1.mus j e h
                obtain ⟨o, ho⟩ := k4.some
                have eb : b ≠ a := fun eb => r1.dis i j r1' e a hj h1 h ha (by rw [k1, eb])
                have hrm : rm H1 a b = some o := by simp only [rm, if_neg eb]; exact ho
                exact ⟨b, k1, g2.none k2 hrm, k3, k4.mono g2.1 (by rw [s1 b o hrm, ho])⟩
            · have fq : ∀ (j : Nat) (d1 : PyData), (ε1.set i (Sl.mu r2))[j]? = some (.mu d1) → ∃ d2, ε1[j]? = some (.mu d2) := fun j d1 q => by
                by_cases hj : i = j
                · subst hj; exact ⟨r1', h1⟩
                · rw [List.getElem?_set_ne hj] at q; exact ⟨d1, q⟩
              obtain ⟨d2, e2⟩ := fq j d1 q1
              obtain ⟨d3, e3⟩ := fq l e1 q2
              exact r1.dis j l d2 d3 b hjl e2 e3 t1 t2
            · by_cases hj : i = j
              · subst hj; rw [List.getElem?_set_self hl] at h; cases h
              · rw [List.getElem?_set_ne hj] at h
                obtain ⟨b, o, u, C, k1, k2, k3⟩ := r1.exs j c' h
                exact ⟨b, o, u, C, k1, g2.1 _ _ k2, k3⟩⟩
end
theorem atI_all {K : PySem.W.Frag} {G : Hp} {xs : List V} {ds : List PyData} (h : RpAll K G xs ds) {i : Int} {d : PyData} (e : atI ds i = some d) : ∃ v, atI xs i = some v ∧ Rp K G v d := by
  unfold atI at e ⊢
  rw [h.length]
  obtain ⟨j, h1, h2⟩ := Option.bind_eq_some_iff.mp e
  obtain ⟨v, h3, h4⟩ := h.get' h2
  exact ⟨v, by rw [h1]; exact h3, h4⟩
section
variable {X : Cx} {x : Str} {pos pos' pos2 apos cpos : Pos} {e b : Expr} {fa fb : Ef}
def asList (ε : En) (i : Nat) : Option (List PyData) := match ε[i]? with
  | some (.mu (.list ds)) => some ds
  | _ => none
theorem asList_some {ε : En} {i : Nat} {ds : List PyData} (h : asList ε i = some ds) : ε[i]? = some (.mu (.list ds)) := by
  unfold asList at h
  cases q : ε[i]? with
  | none => rw [q] at h; cases h
  | some s =>
    rw [q] at h
    cases s with
    | un => cases h
    | ex c => cases h
    | mt c => cases h
    | fz d => cases h
    | mu d => cases d <;> cases h <;> rfl
def dInt : PyData → Option Int
  | .int i => some i
  | _ => none
theorem dInt_some {d : PyData} {i : Int} (h : dInt d = some i) : d = .int i := by cases d <;> cases h <;> rfl
/-- x[b] -/
def fIxM (i : Nat) (fb : Ef) : Ef := fun ε => (asList ε i).bind fun _ => (fb ε).bind fun q => (asList q.2 i).bind fun ds => (dInt q.1).bind fun j => (atI ds j).map fun d => (d, q.2)
theorem ev_ixM (i : Nat) (hv : PE X (.Name x pos') (tVar i)) (hb : Ev X b fb) (hs : PlainIx b) : Ev X (.Subscript (.Name x pos') b pos) (fIxM i fb) :=
  ⟨pe_mono (pe_ix ix_list hv hb.p hs) fun σ H Q ⟨B, G, z, ε, d, ε', rep, ef, q⟩ => by
    obtain ⟨ds0, e0, ef0⟩ := Option.bind_eq_some_iff.mp ef
    obtain ⟨⟨d1, ε1⟩, e1, ef1⟩ := Option.bind_eq_some_iff.mp ef0
    obtain ⟨ds, e2, ef2⟩ := Option.bind_eq_some_iff.mp ef1
    obtain ⟨j, e3, ef3⟩ := Option.bind_eq_some_iff.mp ef2
    obtain ⟨c, e4, ef4⟩ := Option.map_eq_some_iff.mp ef3
    obtain ⟨rfl, rfl⟩ := Prod.mk.inj ef4
    obtain ⟨a, ha, _⟩ := rep.mus i _ (asList_some e0)
    refine ⟨.ref a, ha, B, G, z, ε, d1, ε1, rep, e1, fun v G1 H1 g1 r1 p1 => ?_⟩
    obtain ⟨a', ha', hg', hb', hm'⟩ := r1.mus i _ (asList_some e2)
    rw [ha] at ha'
    cases ha'
    cases dInt_some e3
    cases p1
    cases hm' with
    | lst h1 h2 =>
      obtain ⟨v, h3, h4⟩ := atI_all h2 e4
      exact ⟨a, _, j, v, rfl, rfl, SqL.of h1, h3, q v G1 H1 g1 r1 h4⟩⟩
/-- x[b] = e -/
def sSetM (i : Nat) (fa fb : Ef) : Sf := fun ε => (fa ε).bind fun p => (asList p.2 i).bind fun _ => (fb p.2).bind fun q => (asList q.2 i).bind fun ds => (dInt q.1).bind fun j => (ixN ds.length j).map fun k => .nx (q.2.set i (.mu (.list (ds.set k p.1))))
theorem sv_setIx (i : Nat) (he : Ev X e fa) (hv : PE X (.Name x pos') (tVar i)) (hb : Ev X b fb) (hs : swapsWithSole [.Subscript (.Name x pos') b pos2] e pos.line X.env = pure false := by rfl) (hw : swappedStores [.Subscript (.Name x pos') b pos2] e X.env = pure none := by rfl)
    (h1 : (assignEach [.Subscript (.Name x pos') b pos2] X.env).map (·.2) = [assign (.Subscript (.Name x pos') b pos2) X.env] := by rfl)
    (ha : ∀ v, assign (.Subscript (.Name x pos') b pos2) X.env v = (do
      let ov ← holding [v] (eval (.Name x pos') X.env)
      let iv ← holding [v, ov] (eval b X.env)
      standAt pos2
      holding [v, ov, iv] (setItem ov iv v)
      release [v, ov, iv] []) := by intro _; rfl) :
    Sv X (.Assign [.Subscript (.Name x pos') b pos2] e pos) (sSetM i fa fb) :=
  ⟨ps_mono (ps_asg he.p (pg_sub hv hb.p set_list ha) hs hw h1) fun D σ H ⟨B, G, z, ε, o, rep, ef, k⟩ => by
    obtain ⟨⟨d0, ε0⟩, e0, ef0⟩ := Option.bind_eq_some_iff.mp ef
    obtain ⟨ds0, e1, ef1⟩ := Option.bind_eq_some_iff.mp ef0
    obtain ⟨⟨d1, ε1⟩, e2, ef2⟩ := Option.bind_eq_some_iff.mp ef1
    obtain ⟨ds, e3, ef3⟩ := Option.bind_eq_some_iff.mp ef2
    obtain ⟨j, e4, ef4⟩ := Option.bind_eq_some_iff.mp ef3
    obtain ⟨l, e5, ef5⟩ := Option.map_eq_some_iff.mp ef4
    subst ef5
    refine ⟨B, G, z, ε, d0, ε0, rep, e0, fun v G1 H1 g1 r1 p1 => ?_⟩
    obtain ⟨a, ha, _⟩ := r1.mus i _ (asList_some e1)
    refine ⟨.ref a, ha, B, G1, z, ε0, d1, ε1, r1, e2, fun v2 G2 H2 g2 r2 p2 => ?_⟩
    obtain ⟨a', ha', hg', hb', hm'⟩ := r2.mus i _ (asList_some e3)
    rw [ha] at ha'
    cases ha'
    cases dInt_some e4
    cases p2
    cases hm' with
    | lst h1 h2 =>
      refine ⟨a, _, j, l, rfl, rfl, h1, by rw [h2.length]; exact e5, k G2 σ _ (g1.trans g2) (r2.store (asList_some e3) ha (.lst upd_same (h2.set l (p1.mono g2.1))))⟩⟩
/-- x.append(e) -/
def sAppM (i : Nat) (fa : Ef) : Sf := fun ε => (asList ε i).bind fun _ => (fa ε).bind fun p => (asList p.2 i).bind fun ds => if ds.length < sizeLine then some (.nx (p.2.set i (.mu (.list (ds ++ [p.1]))))) else none
theorem sv_app (i : Nat) (hv : PE X (.Name x pos') (tVar i)) (he : Ev X e fa) (hs : swapsWith (.Call (.Attribute (.Name x pos') "append" apos) [e] [] cpos) none pos.line X.env = pure false := by rfl)
    (hst : starEach [e] X.env = (false, eval e X.env) :: starEach [] X.env := by exact star_ok rfl)
    (hpe : ∀ {t : TA}, PA X [e] t → PE X (.Call (.Attribute (.Name x pos') "append" apos) [e] [] cpos) (tBM X.K "list" rAppend (tVar i) t)) :
    Sv X (.Expr (.Call (.Attribute (.Name x pos') "append" apos) [e] [] cpos) pos) (sAppM i fa) :=
  ⟨ps_mono (ps_expr (hpe (pa_cons he.p pa_nil hst)) hs) fun D σ H ⟨B, G, z, ε, o, rep, ef, k⟩ => by
    obtain ⟨ds0, e0, ef0⟩ := Option.bind_eq_some_iff.mp ef
    obtain ⟨⟨d1, ε1⟩, e1, ef1⟩ := Option.bind_eq_some_iff.mp ef0
    obtain ⟨ds, e2, ef2⟩ := Option.bind_eq_some_iff.mp ef1
    by_cases hz : ds.length < sizeLine
    case neg => simp [hz] at ef2
    rw [if_pos hz] at ef2
    cases ef2
    obtain ⟨a, ha, hg0, hb0, hm0⟩ := rep.mus i _ (asList_some e0)
    cases hm0 with
    | lst h10 h20 =>
      refine ⟨.ref a, ha, .inl ⟨rfl, _, SqL.of h10⟩, B, G, z, ε, d1, ε1, rep, e1, fun v G1 H1 g1 r1 p1 => ?_⟩
      obtain ⟨a', ha', hg', hb', hm'⟩ := r1.mus i _ (asList_some e2)
      rw [ha] at ha'
      cases ha'
      cases hm' with
      | lst h1 h2 =>
        exact ⟨a, _, v, rfl, rfl, h1, by rw [h2.length]; exact hz, k G1 σ _ g1 (r1.store (asList_some e2) ha (.lst upd_same (h2.append (.cons p1 .nil))))⟩⟩
end
end PD

set_option Elab.async false
set_option linter.all false
set_option maxRecDepth 100000
set_option maxHeartbeats 4000000
namespace PD
open PySem L2

section
variable {X : Cx} {tg e : Expr} {es : List Expr} {fa : Ef} {fs : Af} {p pos tpos : Pos}
def iSeq (K : PySem.W.Frag) (tl : TE) : TI := fun σ H R => tl σ H fun x H1 => ∃ a, x = .ref a ∧ (((∃ xs, SqL K H1 a xs) ∧ R (Itl K a) H1) ∨ ((∃ xs, SqT K H1 a xs) ∧ R (Itt K a) H1))
theorem pi_seq {l : Expr} {tl : TE} (hl : PE X l tl) : PI X tg l (iSeq X.K tl) := by
  intro pins s σ H R I h
  refine thn (hl pins s σ H _ I h) fun v s1 ⟨x, H1, I1, r1, q1⟩ => ?_
  obtain ⟨a, e, ⟨⟨xs, hq⟩, q⟩ | ⟨⟨xs, hq⟩, q⟩⟩ := q1
  · subst e
    cases r1
    obtain ⟨its, rv, p, hz⟩ := I1.list hq
    refine wpAny_pyIter_list p.isList ?_
    refine ⟨s1.heap.objs.size, [s1.heap.objs.size], _, _, H1, rfl, I1.kept (t' := s1.toks) fun b o e => Heap.get?_push_of_some _ e, turn_list a _, ⟨_, Heap.get?_push_size _ rfl, rfl, rfl⟩, fun b hb => ?_, q⟩
    have e : b = s1.heap.objs.size := by simpa using hb
    subst e
    exact I1.fpOk (Nat.le_refl _) (I1.hok.fresh (Nat.le_refl _))
  · subst e
    cases r1
    obtain ⟨its, rv, p, hz⟩ := I1.tuple hq
    refine wpAny_pyIter_tuple (show s1.heap.IsTuple a its.toArray from p) ?_
    refine ⟨s1.heap.objs.size, [s1.heap.objs.size], _, _, H1, rfl, I1.kept (t' := s1.toks) fun b o e => Heap.get?_push_of_some _ e, turn_tuple a _, ⟨_, Heap.get?_push_size _ rfl, rfl, rfl⟩, fun b hb => ?_, q⟩
    have e : b = s1.heap.objs.size := by simpa using hb
    subst e
    exact I1.fpOk (Nat.le_refl _) (I1.hok.fresh (Nat.le_refl _))
def dSeq : PyData → Option (List PyData)
  | .list ds => some ds
  | .tuple ds => some ds
  | _ => none
def fSrc (fa : Ef) : Af := fun ε => (fa ε).bind fun p => (dSeq p.1).map fun ds => (ds, p.2)
theorem walks_list {K : PySem.W.Frag} {G : Hp} {a : Addr} {xs : List V} {ds : List PyData} (h : SqL K G a xs) (h2 : RpAll K G xs ds) : Walks K G (Itl K a) ds where
  go := fun i H s hi => by
    have hx : i < xs.length := by rw [h2.length]; exact hi
    exact ⟨xs, xs[i], s.seq h, by simp [hx]⟩
  yld := fun i G1 H x H' s1 s2 hi y => by
    obtain ⟨rfl, y⟩ := y
    obtain ⟨d, h3, h4⟩ := h2.get (y xs ((s1.trans s2).seq h))
    exact ⟨d, G1, h3, Grow.refl s2, h4.mono s1⟩
  stop := fun i H s hi => ⟨xs, s.seq h, by rw [h2.length]; exact hi⟩
theorem walks_tup {K : PySem.W.Frag} {G : Hp} {a : Addr} {xs : List V} {ds : List PyData} (h : SqT K G a xs) (h2 : RpAll K G xs ds) : Walks K G (Itt K a) ds where
  go := fun i H s hi => by
    have hx : i < xs.length := by rw [h2.length]; exact hi
    exact ⟨xs, xs[i], sqT_same s h, by simp [hx]⟩
  yld := fun i G1 H x H' s1 s2 hi y => by
    obtain ⟨rfl, y⟩ := y
    obtain ⟨d, h3, h4⟩ := h2.get (y xs (sqT_same (s1.trans s2) h))
    exact ⟨d, G1, h3, Grow.refl s2, h4.mono s1⟩
  stop := fun i H s hi => ⟨xs, sqT_same s h, by rw [h2.length]; exact hi⟩
theorem pi_mono {iter : Expr} {t t' : TI} (h : PI X tg iter t) (m : ∀ σ H R, t' σ H R → t σ H R) : PI X tg iter t' := fun pins s σ H R I q => h pins s σ H R I (m σ H R q)
theorem iv_seq (he : Ev X e fa) : Iv X tg e (fSrc fa) := ⟨pi_mono (pi_seq he.p) fun σ H R ⟨B, G, z, ε, ds, ε', r, ef, q⟩ => by
  obtain ⟨⟨d1, ε1⟩, e1, ef1⟩ := Option.bind_eq_some_iff.mp ef
  obtain ⟨ds', e2, ef2⟩ := Option.map_eq_some_iff.mp ef1
  obtain ⟨rfl, rfl⟩ := Prod.mk.inj ef2
  refine ⟨B, G, z, ε, d1, ε1, r, e1, fun v G1 H1 g1 r1 p1 => ?_⟩
  cases p1 with
  | lst h1 h2 => cases e2; exact ⟨_, rfl, .inl ⟨⟨_, r1.sub.seq h1⟩, q _ G1 H1 g1 r1 (walks_list h1 h2)⟩⟩
  | tup h1 h2 => cases e2; exact ⟨_, rfl, .inr ⟨⟨_, sqT_same r1.sub h1⟩, q _ G1 H1 g1 r1 (walks_tup h1 h2)⟩⟩
  | non => cases e2
  | bl _ => cases e2
  | int _ => cases e2
  | str _ => cases e2
  | dct _ _ => cases e2⟩
def rangeD (lo : Int) (n : Nat) : List PyData := (List.range n).map fun (k : Nat) => PyData.int (lo + (k : Int))
theorem walks_range {K : PySem.W.Frag} {G : Hp} (lo : Int) (n : Nat) : Walks K G (Itr lo n) (rangeD lo n) where
  go := fun i H s hi => by show i < n; simpa [rangeD] using hi
  yld := fun i G1 H x H' s1 s2 hi y => by
    obtain ⟨rfl, rfl⟩ := y
    have hn : i < n := by simpa [rangeD] using hi
    exact ⟨.int (lo + i), G1, by simp [rangeD, hn], Grow.refl s2, .int _⟩
  stop := fun i H s hi => by show n ≤ i; simpa [rangeD] using hi
def dR (j : Int) : Bool := decide (-(2 ^ 62) ≤ j) && decide (j < 2 ^ 62)
def fRng1 (fs : Af) : Af := fun ε => (fs ε).bind fun p => match p.1 with
  | [.int j] => if dR j = true then some (rangeD 0 j.toNat, p.2) else none
  | _ => none
def fRng2 (fs : Af) : Af := fun ε => (fs ε).bind fun p => match p.1 with
  | [.int i, .int j] => if dR i = true ∧ dR j = true then some (rangeD i (j - i).toNat, p.2) else none
  | _ => none
theorem dR_iff {j : Int} (h : dR j = true) : -(2 ^ 62) ≤ j ∧ j < 2 ^ 62 := by
  simp only [dR, Bool.and_eq_true, decide_eq_true_eq] at h; exact h
theorem iv_range1 {a : Expr} (hg : Gl X "range") (hm : X.mg "range" = none) (ha : Av X [a] fs) (hs : starEach [a] X.env = [(false, eval a X.env)] := by rfl) : Iv X tg (.Call (.Name "range" p) [a] [] pos) (fRng1 fs) :=
  ⟨pi_mono (pi_range1 hg hm ha.p hs) fun σ H R ⟨B, G, z, ε, ds, ε', r, ef, q⟩ => by
    obtain ⟨⟨d1, ε1⟩, e1, ef1⟩ := Option.bind_eq_some_iff.mp ef
    refine ⟨B, G, z, ε, d1, ε1, r, e1, fun v G1 H1 g1 r1 p1 => ?_⟩
    simp only at ef1
    split at ef1
    · rename_i j
      split at ef1
      · rename_i hj
        cases ef1
        obtain ⟨h1, h2⟩ := dR_iff hj
        cases p1 with
        | cons p ps =>
          cases ps
          cases p
          exact ⟨j, rfl, h1, h2, q _ G1 H1 g1 r1 (walks_range 0 j.toNat)⟩
      · cases ef1
    · cases ef1⟩
/-- enumerate(a list) -/
def enumD (ds : List PyData) : List PyData := ds.zipIdx.map fun t => PyData.tuple [.int (t.2 : Nat), t.1]
def fEnum (fs : Af) : Af := fun ε => (fs ε).bind fun p => match p.1 with
  | [.list ds] => some (enumD ds, p.2)
  | _ => none
end
section
variable {X : Cx}
def gYes : Tf := fun ε => some (true, ε)
theorem pts_mono {e : List Expr} {t t' : TT} (h : PTs X e t) (m : ∀ σ H Q, t' σ H Q → t σ H Q) : PTs X e t' := fun pins s σ H Q I q => h pins s σ H Q I (m σ H Q q)
structure Tvs (X : Cx) (e : List Expr) (f : Tf) : Prop where
  p : PTs X e (tTF X.K f)
theorem tvs_nil : Tvs X [] gYes := Tvs.mk <| pts_mono pts_nil fun σ H Q ⟨B, G, z, ε, b, ε', r, ef, q⟩ => by
  cases ef
  exact q G H (Gr.refl _ _) r
theorem tvs_one {c : Expr} {ga : Tf} (h : Tv X c ga) : Tvs X [c] ga := ⟨pts_one h.p⟩
theorem fv_lc {elt tg iter : Expr} {ifs : List Expr} {scope : Scope} (own : List (Str × Nat)) {pos : Pos} {src : Af} {g : TG} {bind : PyData → En → Option En} {cond : Tf} {fe : Ef} (h0 : 0 ∉ own.map (·.2)) (ht : TgOk X.K g bind (own.map (·.2))) (hc : X.calm = true) (hN : X.N.Nodup) (hi : Iv X tg iter src) (ok : BlkOk X.N X.env.scope scope own)
    (hg : ∀ (s : Shared) (H : Hp) (C : Addr) (cl : List (Str × Addr)) (fp : List Addr), Gv (X.blk s H scope (compEnvC scope cl C X.env) fp) tg g)
    (hts : ∀ (s : Shared) (H : Hp) (C : Addr) (cl : List (Str × Addr)) (fp : List Addr), Tvs (X.blk s H scope (compEnvC scope cl C X.env) fp) ifs cond)
    (he : ∀ (s : Shared) (H : Hp) (C : Addr) (cl : List (Str × Addr)) (fp : List Addr), Ev (X.blk s H scope (compEnvC scope cl C X.env) fp) elt fe) (hs : ∀ x, foldedSetIterable iter X.env x = pure x := by intro _; rfl) :
    Fv X (.ListComp elt [⟨tg, iter, ifs, 0⟩] scope pos) (fComp src bind cond fe (own.map (·.2))) :=
  ⟨pe_mono (pe_lc hc hN hi.p ok (fun s H C cl fp => (hg s H C cl fp).p) (fun s H C cl fp => (hts s H C cl fp).p) (fun s H C cl fp => (he s H C cl fp).p) hs) fun _ _ _ h => lc_read h0 ht h⟩
theorem fr_of_f {K : PySem.W.Frag} {f : Ef} {σ : L2.St} {H : Hp} {Q : VK} (h : tF K f σ H Q) : tFrF K f σ H Q := by
  obtain ⟨B, G, z, ε, d, ε', rep, ef, q⟩ := h
  exact ⟨B, G, z, ε, d, ε', rep, ef, fun p G1 H1 g1 r1 hg hb m hn => by
    obtain ⟨G2, g2, r2, rp⟩ := freeze r1 hg hb m hn
    exact q _ G2 H1 (g1.trans g2) r2 rp⟩
theorem sv_setLc (i : Nat) {y : Str} {py : Pos} {elt tg iter : Expr} {ifs : List Expr} {scope : Scope} (own : List (Str × Nat)) {pos spos : Pos} {src : Af} {g : TG} {bind : PyData → En → Option En} {cond : Tf} {fe : Ef} (hi0 : i ≠ 0) (h0 : 0 ∉ own.map (·.2)) (ht : TgOk X.K g bind (own.map (·.2))) (hc : X.calm = true) (hN : X.N.Nodup) (hy : X.N[i]? = some y) (hyl : X.env.scope.names.lookup y = some .local)
    (hsw : swapsWith (.ListComp elt [⟨tg, iter, ifs, 0⟩] scope pos) (some (.Name y py)) spos.line X.env = pure true) (hi : Iv X tg iter src) (ok : BlkOk X.N X.env.scope scope own)
    (hg : ∀ (s : Shared) (H : Hp) (C : Addr) (cl : List (Str × Addr)) (fp : List Addr), Gv (X.blk s H scope (compEnvC scope cl C X.env) fp) tg g)
    (hts : ∀ (s : Shared) (H : Hp) (C : Addr) (cl : List (Str × Addr)) (fp : List Addr), Tvs (X.blk s H scope (compEnvC scope cl C X.env) fp) ifs cond)
    (he : ∀ (s : Shared) (H : Hp) (C : Addr) (cl : List (Str × Addr)) (fp : List Addr), Ev (X.blk s H scope (compEnvC scope cl C X.env) fp) elt fe) (hs : ∀ x, foldedSetIterable iter X.env x = pure x := by intro _; rfl) :
    Sv X (.Assign [.Name y py] (.ListComp elt [⟨tg, iter, ifs, 0⟩] scope pos) spos) (sAsg i (fComp src bind cond fe (own.map (·.2)))) :=
  ⟨ps_mono (ps_setLc hc hN hy hyl hsw hi.p ok (fun s H C cl fp => (hg s H C cl fp).p) (fun s H C cl fp => (hts s H C cl fp).p) (fun s H C cl fp => (he s H C cl fp).p) hs) fun D σ H h => lc_read h0 ht (fr_of_f (asg_read h))⟩
theorem sv_setLcM (i : Nat) {y : Str} {py : Pos} {elt tg iter : Expr} {ifs : List Expr} {scope : Scope} (own : List (Str × Nat)) {pos spos : Pos} {src : Af} {g : TG} {bind : PyData → En → Option En} {cond : Tf} {fe : Ef} (hi0 : i ≠ 0) (h0 : 0 ∉ own.map (·.2)) (ht : TgOk X.K g bind (own.map (·.2))) (hc : X.calm = true) (hN : X.N.Nodup) (hy : X.N[i]? = some y) (hyl : X.env.scope.names.lookup y = some .local)
    (hsw : swapsWith (.ListComp elt [⟨tg, iter, ifs, 0⟩] scope pos) (some (.Name y py)) spos.line X.env = pure true) (hi : Iv X tg iter src) (ok : BlkOk X.N X.env.scope scope own)
    (hg : ∀ (s : Shared) (H : Hp) (C : Addr) (cl : List (Str × Addr)) (fp : List Addr), Gv (X.blk s H scope (compEnvC scope cl C X.env) fp) tg g)
    (hts : ∀ (s : Shared) (H : Hp) (C : Addr) (cl : List (Str × Addr)) (fp : List Addr), Tvs (X.blk s H scope (compEnvC scope cl C X.env) fp) ifs cond)
    (he : ∀ (s : Shared) (H : Hp) (C : Addr) (cl : List (Str × Addr)) (fp : List Addr), Ev (X.blk s H scope (compEnvC scope cl C X.env) fp) elt fe) (hs : ∀ x, foldedSetIterable iter X.env x = pure x := by intro _; rfl) :
    Sv X (.Assign [.Name y py] (.ListComp elt [⟨tg, iter, ifs, 0⟩] scope pos) spos) (sAsgM i (fComp src bind cond fe (own.map (·.2)))) :=
  ⟨ps_mono (ps_setLc hc hN hy hyl hsw hi.p ok (fun s H C cl fp => (hg s H C cl fp).p) (fun s H C cl fp => (hts s H C cl fp).p) (fun s H C cl fp => (he s H C cl fp).p) hs) fun D σ H h => lc_read h0 ht (asgM_read hi0 h)⟩
end

def dII (g : Int → Int → Option PyData) : PyData → PyData → Option PyData
  | .int i, .int j => g i j
  | _, _ => none
theorem dII_some {g : Int → Int → Option PyData} {d e c : PyData} (h : dII g d e = some c) : ∃ i j, d = .int i ∧ e = .int j ∧ g i j = some c := by
  cases d <;> cases e <;> first | exact ⟨_, _, rfl, rfl, h⟩ | cases h
theorem opd_ii {K : PySem.W.Frag} {C : Int → Int → Prop} {f : Int → Int → V} {g : Int → Int → Option PyData} (h : ∀ i j c, g i j = some c → C i j ∧ ∀ G, Rp K G (f i j) c) : OpD K (rI C f) (dII g) := fun v w d e c G H Q p1 p2 s eq q => by
  obtain ⟨i, j, rfl, rfl, e3⟩ := dII_some eq
  cases p1
  cases p2
  obtain ⟨h1, h2⟩ := h i j c e3
  exact ⟨i, j, rfl, rfl, h1, q _ G H (Grow.refl s) (h2 G)⟩
theorem opd_i0 {K : PySem.W.Frag} {f : Int → Int → V} {g : Int → Int → Option PyData} (h : ∀ i j c, g i j = some c → ∀ G, Rp K G (f i j) c) : OpD K (rI0 f) (dII g) := fun v w d e c G H Q p1 p2 s eq q => by
  obtain ⟨i, j, rfl, rfl, e3⟩ := dII_some eq
  cases p1
  cases p2
  exact ⟨i, j, rfl, rfl, q _ G H (Grow.refl s) (h i j c e3 G)⟩
section
variable {X : Cx}
def dSub : PyData → PyData → Option PyData := dII fun i j => some (.int (i - j))
theorem od_sub {K : PySem.W.Frag} : OpD K (rI0 fun i j => .int (i - j)) dSub := opd_i0 fun i j c h G => by cases h; exact .int _
def dMul : PyData → PyData → Option PyData := dII fun i j => if (-(2 ^ 64) < i ∧ i < 2 ^ 64) ∨ (-(2 ^ 64) < j ∧ j < 2 ^ 64) then some (.int (i * j)) else none
theorem od_mul {K : PySem.W.Frag} : OpD K (rI CMul fun i j => .int (i * j)) dMul := opd_ii fun i j c h => by
  by_cases hc : (-(2 ^ 64) < i ∧ i < 2 ^ 64) ∨ (-(2 ^ 64) < j ∧ j < 2 ^ 64)
  · simp only [if_pos hc] at h; cases h; exact ⟨hc, fun G => .int _⟩
  · simp only [if_neg hc] at h; cases h
/-- // by a positive divisor of some thirty figures at most -/
def CDivB (i j : Int) : Prop := 0 < j ∧ j < 2 ^ 200
theorem op_fdivB : OpR X (binaryOp .FloorDiv) (rI CDivB fun i j => .int (i / j)) := opI fun i j _ _ _ _ _ hc q => by
  have h1 : (0 : Int) < j := hc.1
  have h2 : j < 2 ^ 200 := hc.2
  refine PyProof.Rows.floordiv_int (by omega) (by rw [Int.fdiv_eq_ediv_of_nonneg i (by omega)]; exact q) (.inl (PyProof.noPylong_of_log2 ?_))
  have h3 : j.natAbs < 2 ^ 200 := by omega
  have h4 : j.natAbs ≠ 0 := by omega
  have h5 := (Nat.log2_lt h4).mpr h3
  omega
def dFdiv : PyData → PyData → Option PyData := dII fun i j => if 0 < j ∧ j < 2 ^ 200 then some (.int (i / j)) else none
theorem od_fdiv {K : PySem.W.Frag} : OpD K (rI CDivB fun i j => .int (i / j)) dFdiv := opd_ii fun i j c h => by
  by_cases hc : 0 < j ∧ j < 2 ^ 200
  · simp only [if_pos hc] at h; cases h; exact ⟨hc, fun G => .int _⟩
  · simp only [if_neg hc] at h; cases h
def dMod : PyData → PyData → Option PyData := dII fun i j => if 0 < j then some (.int (i % j)) else none
theorem od_mod {K : PySem.W.Frag} : OpD K (rI (fun _ j => 0 < j) fun i j => .int (i % j)) dMod := opd_ii fun i j c h => by
  by_cases hc : 0 < j
  · simp only [if_pos hc] at h; cases h; exact ⟨hc, fun G => .int _⟩
  · simp only [if_neg hc] at h; cases h
def dPow : PyData → PyData → Option PyData := dII fun i j => if 0 ≤ j ∧ j ≤ 1000000 ∧ i.natAbs < 2 ^ 64 then some (.int (i ^ j.toNat)) else none
theorem od_pow {K : PySem.W.Frag} : OpD K (rI CPow fun i j => .int (i ^ j.toNat)) dPow := opd_ii fun i j c h => by
  by_cases hc : 0 ≤ j ∧ j ≤ 1000000 ∧ i.natAbs < 2 ^ 64
  · simp only [if_pos hc] at h; cases h; exact ⟨hc, fun G => .int _⟩
  · simp only [if_neg hc] at h; cases h
def dLt : PyData → PyData → Option PyData := dII fun i j => some (.bool (decide (i < j)))
def dLe : PyData → PyData → Option PyData := dII fun i j => some (.bool (decide (i ≤ j)))
def dGt : PyData → PyData → Option PyData := dII fun i j => some (.bool (decide (j < i)))
def dGe : PyData → PyData → Option PyData := dII fun i j => some (.bool (decide (j ≤ i)))
theorem od_lt {K : PySem.W.Frag} : OpD K (rI0 fun i j => .bl (decide (i < j))) dLt := opd_i0 fun i j c h G => by cases h; exact .bl _
theorem od_le {K : PySem.W.Frag} : OpD K (rI0 fun i j => .bl (decide (i ≤ j))) dLe := opd_i0 fun i j c h G => by cases h; exact .bl _
theorem od_ge {K : PySem.W.Frag} : OpD K (rI0 fun i j => .bl (decide (j ≤ i))) dGe := opd_i0 fun i j c h G => by cases h; exact .bl _

mutual
theorem dp_of {K : PySem.W.Frag} {H : Hp} : ∀ {v : V} {d : PyData}, Rp K H v d → d.canLay0 = true → Dp K H v d
  | _, _, .non, _ => .non
  | _, _, .bl b, _ => .bl b
  | _, _, .int i, _ => .int i
  | _, _, .str x, _ => .str x
  | _, _, .lst h hs, e => .lst h (dps_of hs (by simpa [PyData.canLay0] using e))
  | _, _, .tup h hs, e => .tup h (dps_of hs (by simpa [PyData.canLay0] using e))
  | _, _, .dct h hs, e => by simp [PyData.canLay0] at e
theorem dps_of {K : PySem.W.Frag} {H : Hp} : ∀ {vs : List V} {ds : List PyData}, RpAll K H vs ds → PyData.canLayAll0 ds = true → DpAll K H vs ds
  | _, _, .nil, _ => .nil
  | _, _, .cons h hs, e => by
    have e' := by simpa [PyData.canLayAll0] using e
    exact .cons (dp_of h e'.1) (dps_of hs e'.2)
end
def sh (d : PyData) : Bool := SeqAt.shaped d
def dEq (d e : PyData) : Option PyData := if sh d = true ∧ sh e = true then some (.bool (PyData.eqv d e)) else none
def dNe (d e : PyData) : Option PyData := if sh d = true ∧ sh e = true then some (.bool (!PyData.eqv d e)) else none
theorem od_eq {K : PySem.W.Frag} : OpD K (rEqD K) dEq := fun v w d e c G H Q p1 p2 s eq q => by
  unfold dEq at eq
  split at eq
  · rename_i h
    cases eq
    exact ⟨d, e, dp_of (p1.mono s) (SeqAt.canLay_of_shaped h.1), dp_of (p2.mono s) (SeqAt.canLay_of_shaped h.2), h.1, h.2, q _ G H (Grow.refl s) (.bl _)⟩
  · cases eq
theorem od_ne {K : PySem.W.Frag} : OpD K (rNeD K) dNe := fun v w d e c G H Q p1 p2 s eq q => by
  unfold dNe at eq
  split at eq
  · rename_i h
    cases eq
    exact ⟨d, e, dp_of (p1.mono s) (SeqAt.canLay_of_shaped h.1), dp_of (p2.mono s) (SeqAt.canLay_of_shaped h.2), h.1, h.2, q _ G H (Grow.refl s) (.bl _)⟩
  · cases eq
def isNone : PyData → Bool
  | .none => true
  | _ => false
def dIs : PyData → PyData → Option PyData
  | d, .none => some (.bool (isNone d))
  | _, _ => none
def dIsNot : PyData → PyData → Option PyData
  | d, .none => some (.bool (!isNone d))
  | _, _ => none
theorem isNone_of {K : PySem.W.Frag} {G : Hp} {v : V} {d : PyData} (h : Rp K G v d) : decide (v = .non) = isNone d := by
  cases h <;> simp [isNone]
theorem od_is {K : PySem.W.Frag} : OpD K (fun x y H Q => y = .non ∧ Q (.bl (decide (x = .non))) H) dIs := fun v w d e c G H Q p1 p2 s eq q => by
  cases p2 with
  | non =>
    have : some (PyData.bool (isNone d)) = some c := by cases d <;> exact eq
    cases this
    exact ⟨rfl, by rw [isNone_of p1]; exact q _ G H (Grow.refl s) (.bl _)⟩
  | _ => cases d <;> cases eq
theorem od_isnot {K : PySem.W.Frag} : OpD K (fun x y H Q => y = .non ∧ Q (.bl (!decide (x = .non))) H) dIsNot := fun v w d e c G H Q p1 p2 s eq q => by
  cases p2 with
  | non =>
    have : some (PyData.bool (!isNone d)) = some c := by cases d <;> exact eq
    cases this
    exact ⟨rfl, by rw [isNone_of p1]; exact q _ G H (Grow.refl s) (.bl _)⟩
  | _ => cases d <;> cases eq
def rCatS (K : PySem.W.Frag) : R2 := fun x y H Q => ∃ l b xs zs, x = .ref l ∧ y = .ref b ∧ SqL K H l xs ∧ SqL K H b zs ∧ xs.length + zs.length ≤ sizeLine ∧ ∀ p, H p = none → Q (.ref p) (upd H p (.lst (xs ++ zs)))
theorem op_catS : OpR X (binaryOp .Add) (rCatS X.K) := by
  intro pins s σ H x y v u Q I rx ry h
  obtain ⟨l, b, xs, zs, rfl, rfl, hH, hB, hz, q⟩ := h
  cases rx
  cases ry
  obtain ⟨its, r, ⟨⟨cls, dd, data, sl⟩, n, ho, hc, _, hd⟩, _⟩ := I.list hH
  obtain ⟨its2, r2, ⟨⟨cls2, dd2, data2, sl2⟩, n2, ho2, hc2, _, hd2⟩, _⟩ := I.list hB
  simp only at hc hd hc2 hd2
  subst hc hd hc2 hd2
  have ea : its.toArray ++ its2.toArray = (its ++ its2).toArray := by simp
  refine concat_meets ⟨_, ho, rfl⟩ ⟨_, ho2, rfl⟩ noFill_list_add seq_list_add PySem.F.slot_list_add PySem.F.entry_list_add (PySem.F.args_list_add_2 _ _) (PyProof.Rows.list_addW l b its.toArray its2.toArray n n2 dd dd2 sl sl2 (by simp only [List.size_toArray]; rw [← r.length, ← r2.length]; exact hz)) ⟨ho, ho2, ?_⟩
  rw [ea]
  exact ⟨.ref _, _, I.lnew (t' := s.toks) (r.append r2) (by rw [List.length_append]; exact hz), rfl, q _ I.fresh⟩
def rCatT0 (K : PySem.W.Frag) : R2 := fun x y H Q => ∃ a b xs ys, x = .ref a ∧ y = .ref b ∧ SqT K H a xs ∧ SqT K H b ys ∧ xs = [] ∧ Q (.ref b) H
theorem op_catT0 : OpR X (binaryOp .Add) (rCatT0 X.K) := by
  intro pins s σ H x y v u Q I rx ry h
  obtain ⟨a, b, xs, ys, rfl, rfl, ha, hb, hx, q⟩ := h
  cases rx
  cases ry
  obtain ⟨its, r1, ⟨⟨cls, dd, data, sl⟩, ho, hc, n, hd⟩, _⟩ := I.tuple ha
  obtain ⟨its2, r2, ⟨⟨cls2, dd2, data2, sl2⟩, ho2, hc2, n2, hd2⟩, _⟩ := I.tuple hb
  simp only at hc hd hc2 hd2
  subst hc hd hc2 hd2
  have hi : its = [] := r1.nil_iff.mpr hx
  exact concat_meets ⟨_, ho, rfl⟩ ⟨_, ho2, rfl⟩ noFill_tuple_add seq_tuple_add PySem.F.slot_tuple_add PySem.F.entry_tuple_add (PySem.F.args_tuple_add_2 _ _)
      (PyProof.Rows.tuple_addW0 a b its.toArray its2.toArray n n2 dd dd2 sl sl2 (by simp [hi])) ⟨ho, ho2, ⟨.ref b, H, I, rfl, q⟩⟩
def rPlus (K : PySem.W.Frag) : R2 := fun x y H Q => rI0 (fun i j => .int (i + j)) x y H Q ∨ (∃ i j, x = .str i ∧ y = .str j ∧ i.length + j.length ≤ sizeLine ∧ Q (.str (i ++ j)) H) ∨ rCatS K x y H Q ∨ rCatT K x y H Q ∨ rCatT0 K x y H Q
theorem op_plus : OpR X (binaryOp .Add) (rPlus X.K) := by
  intro pins s σ H x y v u Q I rx ry h
  rcases h with h | h | h | h | h
  · exact op_add pins s σ H x y v u Q I rx ry h
  · exact op_add_str pins s σ H x y v u Q I rx ry h
  · exact op_catS pins s σ H x y v u Q I rx ry h
  · exact op_catT pins s σ H x y v u Q I rx ry h
  · exact op_catT0 pins s σ H x y v u Q I rx ry h
def dAdd : PyData → PyData → Option PyData
  | .int i, .int j => some (.int (i + j))
  | .str a, .str b => if a.length + b.length ≤ sizeLine then some (.str (a ++ b)) else none
  | .list a, .list b => if a.length + b.length ≤ sizeLine then some (.list (a ++ b)) else none
  | .tuple a, .tuple b => if a.length + b.length ≤ sizeLine then some (.tuple (a ++ b)) else none
  | _, _ => none
theorem od_add {K : PySem.W.Frag} : OpD K (rPlus K) dAdd := fun v w d e c G H Q p1 p2 s eq q => by
  cases p1 with
  | int i =>
    cases p2 with
    | int j => cases eq; exact .inl ⟨i, j, rfl, rfl, q _ G H (Grow.refl s) (.int _)⟩
    | _ => cases eq
  | str i =>
    cases p2 with
    | str j =>
      by_cases h : i.length + j.length ≤ sizeLine
      · simp only [dAdd, if_pos h] at eq; cases eq; exact .inr (.inl ⟨i, j, rfl, rfl, h, q _ G H (Grow.refl s) (.str _)⟩)
      · simp only [dAdd, if_neg h] at eq; cases eq
    | _ => cases eq
  | @lst a xs ds h1 h2 =>
    cases p2 with
    | @lst b ys es h3 h4 =>
      by_cases h : ds.length + es.length ≤ sizeLine
      · simp only [dAdd, if_pos h] at eq; cases eq
        refine .inr (.inr (.inl ⟨a, b, xs, ys, rfl, rfl, s.seq h1, s.seq h3, by rw [h2.length, h4.length]; exact h, fun p hp => ?_⟩))
        have gn := grow_new (o := HO.lst (xs ++ ys)) s hp
        exact q _ _ _ gn (.lst (SqL.of upd_same) ((h2.append h4).mono gn.gg))
      · simp only [dAdd, if_neg h] at eq; cases eq
    | _ => cases eq
  | @tup a xs ds h1 h2 =>
    cases p2 with
    | @tup b ys es h3 h4 =>
      by_cases h : ds.length + es.length ≤ sizeLine
      · simp only [dAdd, if_pos h] at eq; cases eq
        by_cases hx : xs = []
        · subst hx
          cases h2
          exact .inr (.inr (.inr (.inr ⟨a, b, _, ys, rfl, rfl, sqT_same s h1, sqT_same s h3, rfl, q _ G H (Grow.refl s) (by rw [List.nil_append]; exact .tup h3 h4)⟩)))
        · refine .inr (.inr (.inr (.inl ⟨a, b, xs, ys, rfl, rfl, sqT_same s h1, sqT_same s h3, hx, by rw [h2.length, h4.length]; exact h, fun hy => ?_, fun hy p hp => ?_⟩)))
          · subst hy
            cases h4
            exact q _ G H (Grow.refl s) (by rw [List.append_nil]; exact .tup h1 h2)
          · have gn := grow_new (o := HO.tup (xs ++ ys)) s hp
            exact q _ _ _ gn (.tup (SqT.of upd_same) ((h2.append h4).mono gn.gg))
      · simp only [dAdd, if_neg h] at eq; cases eq
    | _ => cases eq
  | _ => cases eq
end
end PD

set_option Elab.async false
set_option linter.all false
set_option maxRecDepth 100000
set_option maxHeartbeats 4000000
namespace PD
open PySem L2

section
variable {X : Cx} {e a b : Expr} {es : List Expr} {fa fb fc : Ef} {fs : Af} {pos p p2 : Pos}
def dLen : List PyData → Option PyData
  | [.list ds] => some (.int ds.length)
  | [.tuple ds] => some (.int ds.length)
  | [.str x] => if x.length ≤ sizeLine then some (.int x.length) else none
  | _ => none
theorem cd_len {K : PySem.W.Frag} : CaD K (fun xs H Q => ∃ x n, xs = [x] ∧ LenV K x H n ∧ Q (.int n) H) dLen := fun vs ds c G H Q ps s eq q => by
  cases ps with
  | nil => cases eq
  | cons p ps =>
    cases ps with
    | cons _ _ => cases p <;> cases eq
    | nil =>
      cases p with
      | lst h1 h2 => cases eq; exact ⟨_, _, rfl, .inl ⟨_, s.seq h1, rfl⟩, by rw [h2.length]; exact q _ G H (Grow.refl s) (.int _)⟩
      | tup h1 h2 => cases eq; exact ⟨_, _, rfl, .inr ⟨_, sqT_same s h1, rfl⟩, by rw [h2.length]; exact q _ G H (Grow.refl s) (.int _)⟩
      | str x =>
        by_cases h : x.length ≤ sizeLine
        · simp only [dLen, if_pos h] at eq; cases eq; exact ⟨_, _, rfl, ⟨h, rfl⟩, q _ G H (Grow.refl s) (.int _)⟩
        · simp only [dLen, if_neg h] at eq; cases eq
      | _ => cases eq
def dIntOf : List PyData → Option PyData
  | [.int i] => some (.int i)
  | [.bool k] => some (.int (if k then 1 else 0))
  | _ => none
theorem cd_int {K : PySem.W.Frag} : CaD K (fun xs H Q => (∃ i, xs = [.int i] ∧ Q (.int i) H) ∨ ∃ k, xs = [.bl k] ∧ Q (.int (if k then 1 else 0)) H) dIntOf := fun vs ds c G H Q ps s eq q => by
  cases ps with
  | nil => cases eq
  | cons p ps =>
    cases ps with
    | cons _ _ => cases p <;> cases eq
    | nil =>
      cases p with
      | int i => cases eq; exact .inl ⟨_, rfl, q _ G H (Grow.refl s) (.int _)⟩
      | bl i => cases eq; exact .inr ⟨_, rfl, q _ G H (Grow.refl s) (.int _)⟩
      | _ => cases eq
def dListOf : List PyData → Option PyData
  | [.list ds] => some (.list ds)
  | [.tuple ds] => some (.list ds)
  | _ => none
theorem cd_list {K : PySem.W.Frag} : CaD K (fun xs H Q => ∃ p ys, xs = [.ref p] ∧ (SqL K H p ys ∨ SqT K H p ys) ∧ ∀ l, H l = none → Q (.ref l) (upd H l (.lst ys))) dListOf := fun vs ds c G H Q ps s eq q => by
  cases ps with
  | nil => cases eq
  | cons p ps =>
    cases ps with
    | cons _ _ => cases p <;> cases eq
    | nil =>
      cases p with
      | lst h1 h2 =>
        cases eq
        refine ⟨_, _, rfl, .inl (s.seq h1), fun l hl => ?_⟩
        exact q _ _ _ (grow_new s hl) (.lst (SqL.of upd_same) (h2.mono (grow_new s hl).gg))
      | tup h1 h2 =>
        cases eq
        refine ⟨_, _, rfl, .inr (sqT_same s h1), fun l hl => ?_⟩
        exact q _ _ _ (grow_new s hl) (.lst (SqL.of upd_same) (h2.mono (grow_new s hl).gg))
      | _ => cases eq
def dTupOf : List PyData → Option PyData
  | [.list ds] => some (.tuple ds)
  | [.tuple ds] => some (.tuple ds)
  | _ => none
theorem cd_tuple {K : PySem.W.Frag} : CaD K (fun xs H Q => ∃ p ys, xs = [.ref p] ∧ ((SqL K H p ys ∧ ∀ l, H l = none → Q (.ref l) (upd H l (.tup ys))) ∨ (SqT K H p ys ∧ Q (.ref p) H))) dTupOf := fun vs ds c G H Q ps s eq q => by
  cases ps with
  | nil => cases eq
  | cons p ps =>
    cases ps with
    | cons _ _ => cases p <;> cases eq
    | nil =>
      cases p with
      | lst h1 h2 =>
        cases eq
        refine ⟨_, _, rfl, .inl ⟨s.seq h1, fun l hl => ?_⟩⟩
        exact q _ _ _ (grow_new s hl) (.tup (SqT.of upd_same) (h2.mono (grow_new s hl).gg))
      | tup h1 h2 =>
        cases eq
        exact ⟨_, _, rfl, .inr ⟨sqT_same s h1, q _ G H (Grow.refl s) (.tup h1 h2)⟩⟩
      | _ => cases eq
def dInts : List PyData → Option (List Int)
  | [] => some []
  | .int i :: ds => (dInts ds).map (i :: ·)
  | _ :: _ => none
theorem dInts_some : ∀ {ds : List PyData} {ns : List Int}, dInts ds = some ns → ds = ns.map PyData.int
  | [], _, h => by cases h; rfl
  | .int i :: ds, _, h => by
    obtain ⟨ms, h1, h2⟩ := Option.map_eq_some_iff.mp h
    subst h2
    rw [dInts_some h1]; rfl
  | .none :: _, _, h => by cases h
  | .bool _ :: _, _, h => by cases h
  | .str _ :: _, _, h => by cases h
  | .list _ :: _, _, h => by cases h
  | .tuple _ :: _, _, h => by cases h
  | .dict _ :: _, _, h => by cases h
theorem dInts_map (ns : List Int) : dInts (ns.map PyData.int) = some ns := by
  induction ns with
  | nil => rfl
  | cons n ns ih => show (dInts (ns.map PyData.int)).map (n :: ·) = _; rw [ih]; rfl
/-- the greatest of a list that isn't empty -/
def greatest : List Int → Int
  | [] => 0
  | n :: ns => ns.foldl max n
theorem foldl_max_ge : ∀ (ns : List Int) (n : Int), n ≤ ns.foldl max n ∧ ∀ y ∈ ns, y ≤ ns.foldl max n
  | [], n => ⟨Int.le_refl _, fun _ h => by cases h⟩
  | m :: ns, n => by
    obtain ⟨h1, h2⟩ := foldl_max_ge ns (max n m)
    refine ⟨?_, fun y hy => ?_⟩
    · show n ≤ ns.foldl max (max n m); omega
    · show y ≤ ns.foldl max (max n m)
      rcases List.mem_cons.mp hy with rfl | hy
      · omega
      · exact h2 y hy
theorem foldl_max_mem : ∀ (ns : List Int) (n : Int), ns.foldl max n = n ∨ ns.foldl max n ∈ ns
  | [], n => .inl rfl
  | m :: ns, n => by
    rcases foldl_max_mem ns (max n m) with h | h
    · show ns.foldl max (max n m) = n ∨ ns.foldl max (max n m) ∈ m :: ns
      rw [h]
      by_cases c : m ≤ n
      · left; omega
      · right; have : max n m = m := by omega
        rw [this]; exact List.mem_cons_self ..
    · exact .inr (List.mem_cons_of_mem _ h)
theorem greatest_ge {ns : List Int} {y : Int} (h : y ∈ ns) : y ≤ greatest ns := by
  cases ns with
  | nil => cases h
  | cons n ns =>
    obtain ⟨h1, h2⟩ := foldl_max_ge ns n
    rcases List.mem_cons.mp h with rfl | h
    · exact h1
    · exact h2 y h
theorem greatest_mem {ns : List Int} (h : ns ≠ []) : greatest ns ∈ ns := by
  cases ns with
  | nil => exact absurd rfl h
  | cons n ns =>
    rcases foldl_max_mem ns n with h | h
    · show ns.foldl max n ∈ n :: ns
      rw [h]; exact List.mem_cons_self ..
    · exact List.mem_cons_of_mem _ h
theorem greatest_one {ns : List Int} {m : Int} (hm : m ∈ ns) (hle : ∀ y ∈ ns, y ≤ m) : greatest ns = m :=
  Int.le_antisymm (hle _ (greatest_mem (by intro z; rw [z] at hm; cases hm))) (greatest_ge hm)
def dMax : List PyData → Option PyData
  | [.list ds] => (dInts ds).bind fun ns => if ns = [] then none else some (.int (greatest ns))
  | [.int i, .int j] => some (.int (if j > i then j else i))
  | _ => none
def rMaxD (K : PySem.W.Frag) : List V → Hp → VK → Prop := fun vs H Q => rMax K vs H Q ∨ ∃ i j, vs = [.int i, .int j] ∧ Q (.int (if j > i then j else i)) H
theorem cr_maxD (hc : X.calm = true) : CallR X (.builtin "max") (rMaxD X.K) := by
  intro pins s σ H vs us Q I r h
  rcases h with h | h
  · exact cr_max hc pins s σ H vs us Q I r h
  · exact call_max2 hc pins s σ H vs us Q I r h
theorem cd_max {K : PySem.W.Frag} : CaD K (rMaxD K) dMax := fun vs ds c G H Q ps s eq q => by
  cases ps with
  | nil => cases eq
  | cons p ps =>
    cases ps with
    | nil =>
      cases p with
      | lst h1 h2 =>
        obtain ⟨ns, e1, e2⟩ := Option.bind_eq_some_iff.mp eq
        by_cases hn : ns = []
        · rw [if_pos hn] at e2; cases e2
        · rw [if_neg hn] at e2
          cases e2
          cases dInts_some e1
          refine .inl ⟨_, ns, rfl, by rw [← h2.ints]; exact s.seq h1, ?_, fun m hm hle => ?_⟩
          · cases ns with
            | nil => exact absurd rfl hn
            | cons _ _ => exact Nat.succ_pos _
          · rw [← greatest_one hm hle]; exact q _ G H (Grow.refl s) (.int _)
      | _ => cases eq
    | cons p' ps =>
      cases ps with
      | nil =>
        cases p with
        | int i =>
          cases p' with
          | int j => cases eq; exact .inr ⟨i, j, rfl, q _ G H (Grow.refl s) (.int _)⟩
          | _ => cases eq
        | _ => cases eq
      | cons _ _ => cases p <;> first | cases eq | (cases p' <;> cases eq)
def sortDown (ns : List Int) : List Int := ns.mergeSort (fun a b => decide (b ≤ a))
theorem sortDown_perm (ns : List Int) : (sortDown ns).Perm ns := List.mergeSort_perm ..
theorem sortDown_down (ns : List Int) : (sortDown ns).Pairwise (· ≥ ·) := by
  have h := List.pairwise_mergeSort (le := fun a b : Int => decide (b ≤ a)) (fun a b c h1 h2 => by simp only [decide_eq_true_eq] at *; omega) (fun a b => by simp only [Bool.or_eq_true, decide_eq_true_eq]; omega) ns
  exact h.imp fun h => of_decide_eq_true h
theorem sortDown_one {ns ms : List Int} (hp : ms.Perm ns) (hs : ms.Pairwise (· ≥ ·)) : ms = sortDown ns :=
  List.Perm.eq_of_pairwise (fun _ _ _ _ a b => Int.le_antisymm b a) hs (sortDown_down ns) (hp.trans (sortDown_perm ns).symm)
def CallKR (X : Cx) (f : Value) (ks : List Str) (r : List V → List V → Hp → VK → Prop) : Prop :=
  ∀ (pins : List (Addr × Obj)) (s : Shared) (σ : L2.St) (H : Hp) (xs ys : List V) (us ws : List Value) (Q : VK), Inv X pins σ H s → Vals xs us → Vals ys ws → r xs ys H Q →
    wpAny (model X.prog X.w) X.A (call f us (ks.zip ws)) (EP X pins σ Q) X.xe s
theorem pe_callKB {id : String} {x : Str} {ks : List Str} {kws : List Keyword} {t tk : TA} {r : List V → List V → Hp → VK → Prop} (hc : CallKR X (.builtin id) ks r) (hg : Gl X x) (hm : X.mg x = none) (hv : bootBuiltins x = some (.builtin id)) (ha : PA X (e :: es) t) (hk : PK X kws tk)
    (hks : (backToKw pos (keywordEach kws X.env)).filterMap (·.1) = ks := by rfl)
    (hn : x ≠ "__name__" := by decide) (hdb : (x == ("__debug__" : Str)) = false := by decide)
    (he : backTo pos (starEach (e :: es) X.env) = (false, eval e X.env) :: backTo pos (starEach es X.env) := by exact back_ok rfl)
    (hplain : (backTo pos (starEach (e :: es) X.env)).any (·.1) = false := by exact plain_ok rfl)
    (hall : (backToKw pos (keywordEach kws X.env)).all (·.1.isSome) = true := by rfl)
    (hkw : (backToKw pos (keywordEach kws X.env)).any (·.1.isNone) = false := by rfl) :
    PE X (.Call (.Name x p) (e :: es) kws pos) (fun σ H Q => t σ H fun xs H1 => tk σ H1 fun ys H2 => r xs ys H2 Q) := by
  intro pins s σ H Q I h
  refine wpAny_Call_Name_kw (ld_blt I hg hm hv ?_ hn hdb)
  refine PyProof.Rows.callWith_kw (thn (ha pos pins s σ H _ I h) fun us s1 ⟨xs, H1, I1, r1, q1⟩ => ?_) he hplain hall hkw
  refine thn (hk pos pins s1 σ H1 _ I1 q1) fun ws s2 ⟨ys, H2, I2, r2, q2⟩ => ?_
  rw [hks]
  exact hc pins s2 σ H2 xs ys us ws Q I2 r1 r2 q2
def fCallK (F : List PyData → List PyData → Option PyData) (fs fk : Af) : Ef := fun ε => (fs ε).bind fun p => (fk p.2).bind fun q => (F p.1 q.1).map fun c => (c, q.2)
def KaD (K : PySem.W.Frag) (r : List V → List V → Hp → VK → Prop) (g : List PyData → List PyData → Option PyData) : Prop :=
  ∀ (vs ws : List V) (ds es : List PyData) (c : PyData) (G H : Hp) (Q : VK), RpAll K G vs ds → RpAll K G ws es → Same G H → g ds es = some c → (∀ u G' H', Grow G H G' H' → Rp K G' u c → Q u H') → r vs ws H Q
structure Kv (X : Cx) (kws : List Keyword) (f : Af) : Prop where
  p : PK X kws (tAF X.K f)
theorem kv_nil : Kv X [] fNil := Kv.mk fun ps pins s σ H Q I ⟨B, G, z, ε, d', ε', r, ef, q⟩ => by
  cases ef
  exact pk_nil ps pins s σ H Q I (q [] G H (Gr.refl _ _) r .nil)
theorem kv_cons {nm : Option Str} {kpos : Pos} {kws : List Keyword} {fk : Af} (ha : Ev X e fa) (hr : Kv X kws fk) : Kv X (⟨nm, e, kpos⟩ :: kws) (fCons fa fk) := Kv.mk fun ps pins s σ H Q I ⟨B, G, z, ε, d', ε', r, ef, q⟩ => by
  obtain ⟨⟨d1, ε1⟩, e1, ef1⟩ := Option.bind_eq_some_iff.mp ef
  obtain ⟨⟨d2, ε2⟩, e2, ef2⟩ := Option.map_eq_some_iff.mp ef1
  obtain ⟨rfl, rfl⟩ := Prod.mk.inj ef2
  refine pk_cons ha.p hr.p ps pins s σ H Q I ⟨B, G, z, ε, d1, ε1, r, e1, fun v1 G1 H1 g1 r1 p1 => ?_⟩
  exact ⟨B, G1, z, ε1, d2, ε2, r1, e2, fun v2 G2 H2 g2 r2 p2 => q _ G2 H2 (g1.trans g2) r2 (.cons (p1.mono g2.1) p2)⟩
theorem ev_callKB {id : String} {x : Str} {ks : List Str} {kws : List Keyword} {fk : Af} {r : List V → List V → Hp → VK → Prop} {g : List PyData → List PyData → Option PyData} (hc : CallKR X (.builtin id) ks r) (hd : KaD X.K r g) (hg : Gl X x) (hm : X.mg x = none) (hv : bootBuiltins x = some (.builtin id)) (ha : Av X (e :: es) fs) (hk : Kv X kws fk)
    (hks : (backToKw pos (keywordEach kws X.env)).filterMap (·.1) = ks := by rfl)
    (hn : x ≠ "__name__" := by decide) (hdb : (x == ("__debug__" : Str)) = false := by decide)
    (he : backTo pos (starEach (e :: es) X.env) = (false, eval e X.env) :: backTo pos (starEach es X.env) := by exact back_ok rfl)
    (hplain : (backTo pos (starEach (e :: es) X.env)).any (·.1) = false := by exact plain_ok rfl)
    (hall : (backToKw pos (keywordEach kws X.env)).all (·.1.isSome) = true := by rfl)
    (hkw : (backToKw pos (keywordEach kws X.env)).any (·.1.isNone) = false := by rfl) :
    Ev X (.Call (.Name x p) (e :: es) kws pos) (fCallK g fs fk) :=
  ⟨pe_mono (pe_callKB hc hg hm hv ha.p hk.p hks hn hdb he hplain hall hkw) fun σ H Q ⟨B, G, z, ε, d, ε', rep, ef, q⟩ => by
    obtain ⟨⟨d1, ε1⟩, e1, ef1⟩ := Option.bind_eq_some_iff.mp ef
    obtain ⟨⟨d2, ε2⟩, e2, ef2⟩ := Option.bind_eq_some_iff.mp ef1
    obtain ⟨c, e3, ef3⟩ := Option.map_eq_some_iff.mp ef2
    obtain ⟨rfl, rfl⟩ := Prod.mk.inj ef3
    refine ⟨B, G, z, ε, d1, ε1, rep, e1, fun v1 G1 H1 g1 r1 p1 => ?_⟩
    refine ⟨B, G1, z, ε1, d2, ε2, r1, e2, fun v2 G2 H2 g2 r2 p2 => ?_⟩
    exact hd v1 v2 d1 d2 c G2 H2 _ (p1.mono g2.1) p2 r2.sub e3 fun u G3 H3 g3 p3 => q u G3 H3 ((g1.trans g2).trans (g3.gr r2.bg)) (g3.rep r2) p3⟩
def rSortedR (K : PySem.W.Frag) : List V → List V → Hp → VK → Prop := fun vs ws H Q => ∃ (a : Addr) (ns : List Int), vs = [V.ref a] ∧ ws = [.bl true] ∧ SqL K H a (ns.map V.int) ∧ ns.length < 64 ∧
  ∀ (ns' : List Int) (p : Addr), ns'.Perm ns → ns'.Pairwise (· ≥ ·) → H p = none → Q (.ref p) (upd H p (.lst (ns'.map V.int)))
theorem kr_sorted : CallKR X (.builtin "sorted") ["reverse"] (rSortedR X.K) := by
  intro pins s σ H vs ws us us2 Q I r r2 h
  obtain ⟨a, ns, rfl, rfl, hs, h64, q⟩ := h
  obtain ⟨its, rv, hl, _⟩ := I.list hs
  rw [Vals.ref1 r]
  obtain ⟨u, rfl, ru⟩ := vals1 r2
  cases ru
  have hi := rv.ints
  refine PyProof.Rows.sorted_ints_rev hl.isList hi (by rw [hi.length]; exact h64) fun out ns' h1 h2 h3 => ?_
  obtain ⟨ep, he'⟩ := PyProof.Rows.sortedAll_at s.heap its out
  have hlen : (ns'.map V.int).length ≤ sizeLine := by rw [List.length_map, h2.length_eq]; exact small64 h64
  exact ⟨.ref _, upd H (s.heap.objs.size + 1) (.lst (ns'.map V.int)), I.laid (t' := s.toks) (fun _ _ => PyProof.Rows.sortedAll_old) (Nat.le_succ _) ⟨hlen, out.toList, ep, vals_of_ints h1, he'⟩, rfl, q ns' _ h2 h3 (I.hok.fresh (Nat.le_succ _))⟩
def dSortedR : List PyData → List PyData → Option PyData
  | [.list ds], [.bool true] => (dInts ds).bind fun ns => if ns.length < 64 then some (.list ((sortDown ns).map .int)) else none
  | _, _ => none
theorem kd_sorted {K : PySem.W.Frag} : KaD K (rSortedR K) dSortedR := fun vs ws ds es c G H Q ps pw s eq q => by
  unfold dSortedR at eq
  split at eq
  · rename_i ds'
    cases ps with
    | cons p ps =>
      cases ps
      cases pw with
      | cons p' pw =>
        cases pw
        cases p'
        cases p with
        | lst h1 h2 =>
          obtain ⟨ns, e1, e2⟩ := Option.bind_eq_some_iff.mp eq
          by_cases hn : ns.length < 64
          · rw [if_pos hn] at e2
            cases e2
            cases dInts_some e1
            refine ⟨_, ns, rfl, rfl, by rw [← h2.ints]; exact s.seq h1, hn, fun ns' p hp hs hnew => ?_⟩
            rw [sortDown_one hp hs]
            have gn := grow_new (o := HO.lst ((sortDown ns).map V.int)) s hnew
            exact q _ _ _ gn (.lst (SqL.of upd_same) (.of_ints _))
          · rw [if_neg hn] at e2; cases e2
  · cases eq
def tyName : PyData → String
  | .none => "NoneType"
  | .bool _ => "bool"
  | .int _ => "int"
  | .str _ => "str"
  | .list _ => "list"
  | .tuple _ => "tuple"
  | .dict _ => "dict"
def isSub (t c : String) : Bool := t == c || (t == "bool" && c == "int")
def fIsi (c : String) (fa : Ef) : Ef := fun ε => (fa ε).map fun p => (.bool (isSub (tyName p.1) c), p.2)
def dIx : PyData → PyData → Option PyData
  | .list ds, .int i => atI ds i
  | .tuple ds, .int i => atI ds i
  | .str x, .int i => if x.length ≤ sizeLine then (atI x.cps.toList i).map fun c => .str ⟨#[c]⟩ else none
  | _, _ => none
theorem od_ix {K : PySem.W.Frag} : OpD K (rIx K) dIx := fun v w d e c G H Q p1 p2 s eq q => by
  cases p1 with
  | lst h1 h2 =>
    cases p2 with
    | int i =>
      obtain ⟨v, h3, h4⟩ := atI_all h2 eq
      exact .inl ⟨_, _, i, v, rfl, rfl, s.seq h1, h3, q _ G H (Grow.refl s) h4⟩
    | _ => cases eq
  | tup h1 h2 =>
    cases p2 with
    | int i =>
      obtain ⟨v, h3, h4⟩ := atI_all h2 eq
      exact .inr (.inl ⟨_, _, i, v, rfl, rfl, sqT_same s h1, h3, q _ G H (Grow.refl s) h4⟩)
    | _ => cases eq
  | str x =>
    cases p2 with
    | int i =>
      by_cases h : x.length ≤ sizeLine
      · simp only [dIx, if_pos h] at eq
        obtain ⟨n, h1, h2⟩ := Option.map_eq_some_iff.mp eq
        subst h2
        exact .inr (.inr ⟨x, i, n, rfl, rfl, h, h1, q _ G H (Grow.refl s) (.str _)⟩)
      · simp only [dIx, if_neg h] at eq; cases eq
    | _ => cases eq
  | _ => cases p2 <;> cases eq
theorem ev_ix (ha : Ev X a fa) (hb : Ev X b fb) (hs : PlainIx b) : Ev X (.Subscript a b pos) (fBin dIx fa fb) := ⟨pe_mono (pe_ix ix_seq ha.p hb.p hs) fun _ _ _ h => bin_read od_ix h⟩
abbrev Of := En → Option (Option Int × En)
def tOF (K : PySem.W.Frag) (f : Of) : TO := fun σ H Q => ∃ B G z ε d ε', Rep K B G H z σ ε ∧ f ε = some (d, ε') ∧ ∀ G' H', Gr B G G' → Rep K B G' H' z σ ε' → Q d H'
structure Ov (X : Cx) (e : Option Expr) (f : Of) : Prop where
  p : PO X e (tOF X.K f)
def oNone : Of := fun ε => some (none, ε)
def oSome (fa : Ef) : Of := fun ε => (fa ε).bind fun p => (dInt p.1).map fun i => (some i, p.2)
theorem po_mono {o : Option Expr} {t t' : TO} (h : PO X o t) (m : ∀ σ H Q, t' σ H Q → t σ H Q) : PO X o t' := fun pins s σ H Q I q => h pins s σ H Q I (m σ H Q q)
theorem ov_none : Ov X none oNone := ⟨po_mono po_none fun σ H Q ⟨B, G, z, ε, b, ε', r, ef, q⟩ => by
  cases ef
  exact q G H (Gr.refl _ _) r⟩
theorem ov_some (ha : Ev X a fa) : Ov X (some a) (oSome fa) := ⟨po_mono (po_some ha.p) fun σ H Q ⟨B, G, z, ε, d, ε', rep, ef, q⟩ => by
  obtain ⟨⟨d1, ε1⟩, e1, ef1⟩ := Option.bind_eq_some_iff.mp ef
  obtain ⟨i, e2, ef2⟩ := Option.map_eq_some_iff.mp ef1
  obtain ⟨rfl, rfl⟩ := Prod.mk.inj ef2
  refine ⟨B, G, z, ε, d1, ε1, rep, e1, fun v G1 H1 g1 r1 p1 => ?_⟩
  cases dInt_some e2
  cases p1
  exact ⟨i, rfl, q G1 H1 g1 r1⟩⟩
theorem getItem_tuple_whole {prog : Program} {w : World} {A : Around} {E : Value → Shared → Prop} {s : Shared} {t sl : Addr} {items : Array Value} {vl vu : Value} {lo hi : Option Int} {Q : Value → Shared → Prop} (ht : PyProof.Rows.IsTup s.heap t items) (hs : s.heap.IsSliceOf sl vl vu .none) (pl : IsPart vl lo) (pu : IsPart vu hi)
    (hw : HT.sIx items.size 0 lo = 0 ∧ HT.sIx items.size items.size hi = items.size)
    (h : Q (.ref t) s) : wpAny (model prog w) A (getItem (.ref t) (.ref sl)) Q E s := by
  obtain ⟨os, hos, hcs, hds⟩ := id hs
  have hTs : s.TypeIs (.ref sl) "slice" := ⟨os, hos, hcs⟩
  unfold getItem
  try with_reducible refine wpAny_holding ?_
  first | refine wpAny_bind (wpAny_pure ?_) | skip
  refine wpAny_bind (wpAny_sequenceKey ht.typeIs (by decide) ?_)
  refine wpAny_bind (wpAny_callSpecial?_slot (name := Str.ofString "__getitem__") ht.typeIs PyProof.Rows.slot_tuple_getitem
    (wpAny_call_entry PyProof.Rows.slot_tuple_getitem ht.typeIs PyProof.Rows.entry_tuple_getitem ?_ (PyProof.Rows.args_tuple_getitem _ _)))
  show wpAny _ _ (Builtin.Tuple.tupleItemsOf (.ref t) >>= _) _ _ s
  refine wpAny_bind (PyProof.Rows.tupleItemsOf_ ht ?_)
  refine wpAny_bind (wpAny_typeOf hTs ?_)
  rw [if_pos (by decide)]
  refine wpAny_bind (HT.sliceApplied_gen hs pl pu ?_)
  have hyes : (((HT.sIx items.size 0 lo : Nat) : Int) == 0 && (1 : Int) == 1 && (HT.sIx items.size items.size hi - HT.sIx items.size 0 lo) == items.size) = true := by
    rw [hw.1, hw.2]; simp
  show wpAny _ _ (if (((HT.sIx items.size 0 lo : Nat) : Int) == 0 && (1 : Int) == 1 && (HT.sIx items.size items.size hi - HT.sIx items.size 0 lo) == items.size) = true then _ else _) _ _ s
  rw [if_pos hyes]
  refine wpAny_bind (m := Builtin.Tuple.tupleIsExact (.ref t)) ?_
  refine wpAny_bind (wpAny_typeOf ht.typeIs (wpAny_pure ?_))
  rw [if_pos (by decide)]
  exact wpAny_bind (wpAny_rule (wpAny_pure ⟨_, rfl, wpAny_pure h⟩))
def rSlTW (K : PySem.W.Frag) : V → Option Int → Option Int → Hp → VK → Prop := fun x lo hi H Q => ∃ a xs, x = .ref a ∧ SqT K H a xs ∧ (HT.sIx xs.length 0 lo = 0 ∧ HT.sIx xs.length xs.length hi = xs.length) ∧ Q (.ref a) H
theorem sl_tupW : SlR X (rSlTW X.K) := by
  intro pins s σ H x v vl vu lo hi sl Q I rx hs pl pu h
  obtain ⟨a, xs, rfl, hx, hw, q⟩ := h
  cases rx
  obtain ⟨its, r, ht, hz⟩ := I.tuple hx
  have hlen : its.toArray.size = xs.length := by rw [List.size_toArray]; exact r.length.symm
  refine ⟨"tuple", _, PyProof.Rows.slot_tuple_getitem.lookup, ht.typeIs, ?_⟩
  exact getItem_tuple_whole ht hs pl pu (by rw [hlen]; exact hw) ⟨.ref a, H, I, rfl, q⟩
def rSlA (K : PySem.W.Frag) : V → Option Int → Option Int → Hp → VK → Prop := fun x lo hi H Q => rSlL K x lo hi H Q ∨ rSlT K x lo hi H Q ∨ rSlTW K x lo hi H Q ∨ rSlS x lo hi H Q
theorem sl_any : SlR X (rSlA X.K) := by
  intro pins s σ H x v vl vu lo hi sl Q I rx hs pl pu h
  rcases h with h | h | h | h
  · exact sl_list pins s σ H x v vl vu lo hi sl Q I rx hs pl pu h
  · exact sl_tup pins s σ H x v vl vu lo hi sl Q I rx hs pl pu h
  · exact sl_tupW pins s σ H x v vl vu lo hi sl Q I rx hs pl pu h
  · exact sl_str pins s σ H x v vl vu lo hi sl Q I rx hs pl pu h
def cutD (xs : List PyData) (lo hi : Option Int) : List PyData := (xs.drop (HT.sIx xs.length 0 lo)).take (HT.sIx xs.length xs.length hi - HT.sIx xs.length 0 lo)
def dSl : PyData → Option Int → Option Int → Option PyData
  | .list ds, lo, hi => some (.list (cutD ds lo hi))
  | .tuple ds, lo, hi => some (.tuple (cutD ds lo hi))
  | .str x, lo, hi => if x.length ≤ sizeLine then some (.str (cutS x lo hi)) else none
  | _, _, _ => none
theorem cut_all {K : PySem.W.Frag} {G : Hp} {xs : List V} {ds : List PyData} (h : RpAll K G xs ds) (lo hi : Option Int) : RpAll K G (cutV xs lo hi) (cutD ds lo hi) := by
  unfold cutV cutD
  rw [h.length]
  exact (h.drop _).take _
def fSl (fa : Ef) (fl fh : Of) : Ef := fun ε => (fa ε).bind fun p => (fl p.2).bind fun q => (fh q.2).bind fun r => (dSl p.1 q.1 r.1).map fun d => (d, r.2)
theorem sl_read {K : PySem.W.Frag} {G H : Hp} {v : V} {d c : PyData} {lo hi : Option Int} {Q : VK} (p : Rp K G v d) (s : Same G H) (eq : dSl d lo hi = some c) (q : ∀ u G' H', Grow G H G' H' → Rp K G' u c → Q u H') : rSlA K v lo hi H Q := by
  cases p with
  | lst h1 h2 =>
    cases eq
    exact .inl ⟨_, _, rfl, s.seq h1, fun l hl => q _ _ _ (grow_new s hl) (.lst (SqL.of upd_same) ((cut_all h2 lo hi).mono (grow_new s hl).gg))⟩
  | @tup a xs ds h1 h2 =>
    cases eq
    by_cases hw : HT.sIx xs.length 0 lo = 0 ∧ HT.sIx xs.length xs.length hi = xs.length
    · refine .inr (.inr (.inl ⟨_, _, rfl, sqT_same s h1, hw, ?_⟩))
      have : cutD ds lo hi = ds := by
        unfold cutD
        rw [← h2.length, hw.1, hw.2, h2.length]; simp
      rw [this] at q
      exact q _ G H (Grow.refl s) (.tup h1 h2)
    · exact .inr (.inl ⟨_, _, rfl, sqT_same s h1, hw, fun l hl => q _ _ _ (grow_new s hl) (.tup (SqT.of upd_same) ((cut_all h2 lo hi).mono (grow_new s hl).gg))⟩)
  | str x =>
    by_cases h : x.length ≤ sizeLine
    · simp only [dSl, if_pos h] at eq; cases eq
      exact .inr (.inr (.inr ⟨x, rfl, h, q _ G H (Grow.refl s) (.str _)⟩))
    · simp only [dSl, if_neg h] at eq; cases eq
  | _ => cases eq
theorem ev_sl {lo hi : Option Expr} {fl fh : Of} (ha : Ev X a fa) (hl : Ov X lo fl) (hh : Ov X hi fh) : Ev X (.Subscript a (.Slice lo hi none p2) pos) (fSl fa fl fh) := ⟨pe_mono (pe_slice sl_any ha.p hl.p hh.p) fun σ H Q ⟨B, G, z, ε, d, ε', rep, ef, q⟩ => by
  obtain ⟨⟨d1, ε1⟩, e1, ef1⟩ := Option.bind_eq_some_iff.mp ef
  obtain ⟨⟨d2, ε2⟩, e2, ef2⟩ := Option.bind_eq_some_iff.mp ef1
  obtain ⟨⟨d3, ε3⟩, e3, ef3⟩ := Option.bind_eq_some_iff.mp ef2
  obtain ⟨c, e4, ef4⟩ := Option.map_eq_some_iff.mp ef3
  obtain ⟨rfl, rfl⟩ := Prod.mk.inj ef4
  refine ⟨B, G, z, ε, d1, ε1, rep, e1, fun v G1 H1 g1 r1 p1 => ?_⟩
  refine ⟨B, G1, z, ε1, d2, ε2, r1, e2, fun G2 H2 g2 r2 => ?_⟩
  refine ⟨B, G2, z, ε2, d3, ε3, r2, e3, fun G3 H3 g3 r3 => ?_⟩
  exact sl_read ((p1.mono g2.1).mono g3.1) r3.sub e4 fun u G4 H4 g4 p4 => q u G4 H4 (((g1.trans g2).trans g3).trans (g4.gr r3.bg)) (g4.rep r3) p4⟩
end
end PD

set_option Elab.async false
set_option linter.all false
set_option maxRecDepth 100000
set_option maxHeartbeats 4000000
namespace PD
open PySem L2
section
variable {X : Cx}
end
end PD

set_option Elab.async false
set_option linter.all false
set_option maxRecDepth 100000
set_option maxHeartbeats 4000000
namespace PD
open PySem L2

section
variable {ε ε1 ε2 ε3 : En} {f g : Sf} {fa fb fc : Ef} {fs fk : Af} {ga gb : Tf} {d e c d1 d2 d3 r r' : PyData} {ds es : List PyData} {o : Option Out} {i j n : Nat} {b : Bool}
theorem sSeq_nx (h : f ε = some (.nx ε1)) (h2 : g ε1 = o) : sSeq f g ε = o := by unfold sSeq; rw [h]; exact h2
theorem sSeq_rt (h : f ε = some (.rt d ε1)) : sSeq f g ε = some (.rt d ε1) := by unfold sSeq; rw [h]; rfl
theorem sIf_t (h : ga ε = some (true, ε1)) (h2 : f ε1 = o) : sIf ga f g ε = o := by unfold sIf; rw [h]; exact h2
theorem sIf_f (h : ga ε = some (false, ε1)) (h2 : g ε1 = o) : sIf ga f g ε = o := by unfold sIf; rw [h]; exact h2
theorem sAsg_ok (h : fa ε = some (d, ε1)) : sAsg i fa ε = some (.nx (ε1.set i (.fz d))) := by unfold sAsg; rw [h]; rfl
theorem sAsgM_ok (h : fa ε = some (d, ε1)) : sAsgM i fa ε = some (.nx (ε1.set i (.mu d))) := by unfold sAsgM; rw [h]; rfl
theorem sAsgT_ok {is : List Nat} (h : fa ε = some (d, ε1)) (h2 : bTup is d ε1 = some ε2) : sAsgT is fa ε = some (.nx ε2) := by unfold sAsgT; rw [h]; simp only [Option.bind_some, h2, Option.map_some]
theorem sRet_ok (h : fa ε = some (d, ε1)) : sRet fa ε = some (.rt d ε1) := by unfold sRet; rw [h]; rfl
theorem sRetF_ok (h : fa ε = some (d, ε1)) : sRetF fa ε = some (.rf d ε1) := by unfold sRetF; rw [h]; rfl
theorem fBin_ok {q : PyData → PyData → Option PyData} (ha : fa ε = some (d1, ε1)) (hb : fb ε1 = some (d2, ε2)) (hq : q d1 d2 = some c) : fBin q fa fb ε = some (c, ε2) := by unfold fBin; rw [ha]; simp only [Option.bind_some, hb, hq, Option.map_some]
theorem fCall_ok {q : List PyData → Option PyData} (ha : fs ε = some (ds, ε1)) (hq : q ds = some c) : fCall q fs ε = some (c, ε1) := by unfold fCall; rw [ha]; simp only [Option.bind_some, hq, Option.map_some]
theorem fCallK_ok {q : List PyData → List PyData → Option PyData} (ha : fs ε = some (ds, ε1)) (hb : fk ε1 = some (es, ε2)) (hq : q ds es = some c) : fCallK q fs fk ε = some (c, ε2) := by unfold fCallK; rw [ha]; simp only [Option.bind_some, hb, hq, Option.map_some]
theorem fCons_ok (ha : fa ε = some (d, ε1)) (hb : fs ε1 = some (ds, ε2)) : fCons fa fs ε = some (d :: ds, ε2) := by unfold fCons; rw [ha]; simp only [Option.bind_some, hb, Option.map_some]
theorem gd_ok {F : List PyData → Option PyData} (hl : ds.length = n) (h : F ds = some c) : gd n F ds = some c := by unfold gd; rw [if_pos hl]; exact h
theorem gVal_ok (h : fa ε = some (.bool b, ε1)) : gVal fa ε = some (b, ε1) := by unfold gVal; rw [h]; rfl
theorem gVal_t (h : fa ε = some (.bool b, ε1)) (hb : b = true) : gVal fa ε = some (true, ε1) := by subst hb; exact gVal_ok h
theorem gVal_f (h : fa ε = some (.bool b, ε1)) (hb : b = false) : gVal fa ε = some (false, ε1) := by subst hb; exact gVal_ok h
theorem gTru_bool (h : fa ε = some (.bool b, ε1)) : gTru fa ε = some (b, ε1) := by unfold gTru; rw [h]; rfl
theorem gNot_ok (h : ga ε = some (b, ε1)) : gNot ga ε = some (!b, ε1) := by unfold gNot; rw [h]; rfl
theorem gAnd_t {p : Option (Bool × En)} (h : ga ε = some (true, ε1)) (h2 : gb ε1 = p) : gAnd ga gb ε = p := by unfold gAnd; rw [h]; exact h2
theorem gAnd_f (h : ga ε = some (false, ε1)) : gAnd ga gb ε = some (false, ε1) := by unfold gAnd; rw [h]; rfl
theorem gOr_f {p : Option (Bool × En)} (h : ga ε = some (false, ε1)) (h2 : gb ε1 = p) : gOr ga gb ε = p := by unfold gOr; rw [h]; exact h2
theorem fIxM_ok {k : Int} (h0 : asList ε i = some es) (hb : fb ε = some (.int k, ε1)) (h1 : asList ε1 i = some ds) (h2 : atI ds k = some d) : fIxM i fb ε = some (d, ε1) := by
  unfold fIxM; rw [h0]; simp only [Option.bind_some, hb, h1, dInt, h2, Option.map_some]
theorem sSetM_ok {k : Int} {l : Nat} (ha : fa ε = some (d, ε1)) (h0 : asList ε1 i = some es) (hb : fb ε1 = some (.int k, ε2)) (h1 : asList ε2 i = some ds) (h2 : ixN ds.length k = some l) : sSetM i fa fb ε = some (.nx (ε2.set i (.mu (.list (ds.set l d))))) := by
  unfold sSetM; rw [ha]; simp only [Option.bind_some, h0, hb, h1, dInt, h2, Option.map_some]
theorem sAppM_ok (h0 : asList ε i = some es) (ha : fa ε = some (d, ε1)) (h1 : asList ε1 i = some ds) (hl : ds.length < sizeLine) : sAppM i fa ε = some (.nx (ε1.set i (.mu (.list (ds ++ [d]))))) := by
  unfold sAppM; rw [h0]; simp only [Option.bind_some, ha, h1, if_pos hl]
theorem fRow_ok {F : PyData → List PyData → Option (PyData × PyData)} {r0 : PyData} (h0 : ε[i]? = some (.mu r0)) (ha : fs ε = some (ds, ε1)) (h1 : ε1[i]? = some (.mu r)) (hl : ds.length + 1 = n) (h2 : F r ds = some (d, r')) : fRow i n F fs ε = some (d, ε1.set i (.mu r')) := by
  unfold fRow; rw [h0]; simp only [ha, Option.bind_some, h1, if_pos hl, h2, Option.map_some]
theorem fSrc_ok (ha : fa ε = some (d, ε1)) (h : dSeq d = some ds) : fSrc fa ε = some (ds, ε1) := by unfold fSrc; rw [ha]; simp only [Option.bind_some, h, Option.map_some]
theorem fRng1_ok {k : Int} (ha : fs ε = some ([.int k], ε1)) (h : dR k = true) : fRng1 fs ε = some (rangeD 0 k.toNat, ε1) := by unfold fRng1; rw [ha]; simp only [Option.bind_some, if_pos h]
theorem fComp_ok {bind : PyData → En → Option En} {vs : List Nat} (hs : fs ε = some (ds, ε1)) (h : compF bind ga fa vs ds (clr ε1 vs) = some (es, ε2)) (hl : es.length ≤ sizeLine) : fComp fs bind ga fa vs ε = some (.list es, ε2) := by
  unfold fComp; rw [hs]; simp only [Option.bind_some, h, dLst, if_pos hl, Option.map_some]
theorem runP_ok {fb : Sf} (h : fb (start0 n ds) = some (.rt d ε)) : runP n fb ds = some d := by unfold runP; rw [h]; rfl
theorem runN_ok {fb : Sf} (h : fb (start0 n ds) = some (.rf d ε)) : PD.runN n fb ds = some d := by unfold PD.runN; rw [h]; rfl
theorem runR_ok {fb : Sf} (h : fb (startR n r ds) = some (.rt d ε)) (h2 : ε[0]? = some (.mu r')) : runR n fb r ds = some (d, r') := by unfold runR; rw [h]; simp only [outR, sl0, h2]
theorem eqv_int (a b : Int) : PyData.eqv (.int a) (.int b) = (a == b) := by simp [PyData.eqv]
theorem dEq_int {a b : Int} : dEq (.int a) (.int b) = some (.bool (a == b)) := by
  show some (PyData.bool (PyData.eqv (.int a) (.int b))) = _
  rw [eqv_int]
theorem dNe_int {a b : Int} : dNe (.int a) (.int b) = some (.bool (!(a == b))) := by
  show some (PyData.bool (!PyData.eqv (.int a) (.int b))) = _
  rw [eqv_int]
theorem dMul_l {a b : Int} (h1 : -18446744073709551616 < a) (h2 : a < 18446744073709551616) : dMul (.int a) (.int b) = some (.int (a * b)) := by
  show (if (-(2 ^ 64) < a ∧ a < 2 ^ 64) ∨ (-(2 ^ 64) < b ∧ b < 2 ^ 64) then some (PyData.int (a * b)) else none) = _
  rw [if_pos (.inl ⟨h1, h2⟩)]
theorem dMod_ok {a m : Int} (h : 0 < m) : dMod (.int a) (.int m) = some (.int (a % m)) := by
  show (if 0 < m then some (PyData.int (a % m)) else none) = _
  rw [if_pos h]
theorem dFdiv_ok {a m : Int} (h : 0 < m) (h2 : m < 2 ^ 200) : dFdiv (.int a) (.int m) = some (.int (a / m)) := by
  show (if 0 < m ∧ m < 2 ^ 200 then some (PyData.int (a / m)) else none) = _
  rw [if_pos ⟨h, h2⟩]
theorem canLay_ints (ns : List Int) : PyData.canLayAll0 (ns.map PyData.int) = true := by
  induction ns with
  | nil => rfl
  | cons n ns ih => simpa [PyData.canLayAll0, PyData.canLay0] using ih
theorem depth_ints (ns : List Int) : PyData.depthAll (ns.map PyData.int) = 0 := by
  induction ns with
  | nil => rfl
  | cons n ns ih => simpa [PyData.depthAll, PyData.depth] using ih
theorem sh_ints (ns : List Int) : sh (.list (ns.map PyData.int)) = true := by
  simp [sh, SeqAt.shaped, PyData.canLay0, PyData.depth, canLay_ints, depth_ints]
theorem sh_can {d : PyData} (h : sh d = true) : d.canLay0 = true := SeqAt.canLay_of_shaped h
theorem dNe_self {d : PyData} (h : sh d = true) : dNe d d = some (.bool false) := by
  unfold dNe
  rw [if_pos ⟨h, h⟩, SeqAt.eqv_refl d (sh_can h)]; rfl
theorem sizeLine_big {n : Nat} (h : n ≤ 100000) : n ≤ sizeLine := by rw [sizeLine_eq]; omega
theorem sizeLine_lt {n : Nat} (h : n < 100000) : n < sizeLine := by rw [sizeLine_eq]; omega
end
end PD

set_option Elab.async false
set_option linter.all false
set_option maxRecDepth 100000
set_option maxHeartbeats 4000000
namespace PD
open PySem L2

section
variable {prog : Program} {w : World} {A : Around} {I : Addr} {fp wr : List Addr} {n : Nat} {P : Nat → Value → Prop} {St : Nat → Heap → Prop}
end
section
variable {prog : Program} {w : World} {A : Around} {E : Value → Shared → Prop} {s : Shared}
end
end PD

set_option Elab.async false
set_option linter.all false
set_option maxRecDepth 100000
set_option maxHeartbeats 4000000
namespace PD
open PySem L2
section
variable {X : Cx} {e a b : Expr} {es : List Expr} {fa fb fc : Ef} {fs : Af} {x y : Str} {pos pos' p : Pos}
def fLenM (i : Nat) : Ef := fun ε => (asList ε i).map fun ds => (.int ds.length, ε)
theorem ev_lenM (i : Nat) (hv : PE X (.Name y pos') (tVar i)) (hg : Gl X "len") (hm : X.mg "len" = none) (he : starEach [.Name y pos'] X.env = (false, eval (.Name y pos') X.env) :: starEach [] X.env := by exact star_ok rfl) (hpl : (backTo pos (starEach [] X.env)).any (·.1) = false := by exact plain_ok rfl) :
    Ev X (.Call (.Name "len" p) [.Name y pos'] [] pos) (fLenM i) :=
  ⟨pe_mono (pe_callB call_len hg hm PySem.boot_len (pa_cons hv pa_nil he) (by decide) (by decide) he hpl) fun σ H Q ⟨B, G, z, ε, d, ε', rep, ef, q⟩ => by
    obtain ⟨ds, e0, ef0⟩ := Option.map_eq_some_iff.mp ef
    obtain ⟨rfl, rfl⟩ := Prod.mk.inj ef0
    obtain ⟨l, hl, hg', hb', hm'⟩ := rep.mus i _ (asList_some e0)
    cases hm' with
    | lst h1 h2 => exact ⟨.ref l, hl, .ref l, _, rfl, .inl ⟨_, SqL.of h1, rfl⟩, by rw [h2.length]; exact q _ G H (Gr.refl _ _) rep (.int _)⟩⟩
theorem rep_all {K : PySem.W.Frag} {G : Hp} {xs : List V} {ds : List PyData} (h : RpAll K G xs ds) : ∀ (k : Nat), RpAll K G (List.replicate k xs).flatten (List.replicate k ds).flatten
  | 0 => .nil
  | k + 1 => by
    rw [List.replicate_succ, List.replicate_succ, List.flatten_cons, List.flatten_cons]
    exact h.append (rep_all h k)
end
end PD

set_option Elab.async false
set_option linter.all false
set_option maxRecDepth 100000
set_option maxHeartbeats 4000000
namespace PD
open PySem L2
section
variable {X : Cx} {e a b : Expr} {es : List Expr} {fa fb fc : Ef} {fs : Af} {x y : Str} {pos pos' p p2 apos cpos : Pos}
def rInD (K : PySem.W.Frag) (neg : Bool) : R2 := fun x y H Q => ∃ d c ds, Dp K H x d ∧ Dp K H y c ∧ (c = .list ds ∨ c = .tuple ds) ∧ SeqAt.shaped d = true ∧ SeqAt.shaped c = true ∧ Q (.bl (if neg then !ds.any (fun z => PyData.eqv z d) else ds.any fun z => PyData.eqv z d)) H
theorem room_in {A : Around} {d : PyData} {ds : List PyData} (hd : SeqAt.shaped d = true) (hu : A.units + 70 < cLine) : A.units + 1 + min (PyData.depthAll ds) d.depth < cLine := by
  have h1 := SeqAt.depth_of_shaped hd
  have h2 : min (PyData.depthAll ds) d.depth ≤ d.depth := Nat.min_le_right _ _
  omega
theorem canAll_of {ds : List PyData} : (SeqAt.shaped (.list ds) = true ∨ SeqAt.shaped (.tuple ds) = true) → PyData.canLayAll0 ds = true := fun h => by
  rcases h with h | h
  · simpa [PyData.canLay0] using SeqAt.canLay_of_shaped h
  · simpa [PyData.canLay0] using SeqAt.canLay_of_shaped h
theorem op_inD (hu : X.A.units + 70 < cLine) : OpR X (compareOp .In) (rInD X.K false) := by
  intro pins s σ H x y v u Q I rx ry h
  obtain ⟨d, c, ds, hd, hc, hcd, sd, sc, q⟩ := h
  obtain ⟨as, r1⟩ := Dp.reads I d x v hd rx
  obtain ⟨bs, r2⟩ := Dp.reads I c y u hc ry
  rcases hcd with rfl | rfl
  · exact SeqAt.in_list_reads r2 r1 (canAll_of (.inl sc)) (SeqAt.canLay_of_shaped sd) (room_in sd hu) ⟨.bl _, H, I, rfl, q⟩
  · exact SeqAt.in_tuple_reads r2 r1 (canAll_of (.inr sc)) (SeqAt.canLay_of_shaped sd) (room_in sd hu) ⟨.bl _, H, I, rfl, q⟩
theorem op_notInD (hu : X.A.units + 70 < cLine) : OpR X (compareOp .NotIn) (rInD X.K true) := by
  intro pins s σ H x y v u Q I rx ry h
  obtain ⟨d, c, ds, hd, hc, hcd, sd, sc, q⟩ := h
  obtain ⟨as, r1⟩ := Dp.reads I d x v hd rx
  obtain ⟨bs, r2⟩ := Dp.reads I c y u hc ry
  rcases hcd with rfl | rfl
  · exact SeqAt.notIn_list_reads r2 r1 (canAll_of (.inl sc)) (SeqAt.canLay_of_shaped sd) (room_in sd hu) ⟨.bl _, H, I, rfl, q⟩
  · exact SeqAt.notIn_tuple_reads r2 r1 (canAll_of (.inr sc)) (SeqAt.canLay_of_shaped sd) (room_in sd hu) ⟨.bl _, H, I, rfl, q⟩
def dInG (neg : Bool) (d c : PyData) : Option PyData := (dSeq c).bind fun ds => if sh d = true ∧ sh c = true then some (.bool (if neg then !ds.any (fun z => PyData.eqv z d) else ds.any fun z => PyData.eqv z d)) else none
def dIn : PyData → PyData → Option PyData := dInG false
def dNotIn : PyData → PyData → Option PyData := dInG true
theorem od_inG {K : PySem.W.Frag} (neg : Bool) : OpD K (rInD K neg) (dInG neg) := fun v w d c r G H Q p1 p2 s eq q => by
  obtain ⟨ds, e1, e2⟩ := Option.bind_eq_some_iff.mp eq
  split at e2
  · rename_i h
    cases e2
    refine ⟨d, c, ds, dp_of (p1.mono s) (SeqAt.canLay_of_shaped h.1), dp_of (p2.mono s) (SeqAt.canLay_of_shaped h.2), ?_, h.1, h.2, q _ G H (Grow.refl s) (.bl _)⟩
    cases c <;> cases e1
    · exact .inl rfl
    · exact .inr rfl
  · cases e2
theorem od_in {K : PySem.W.Frag} : OpD K (rInD K false) dIn := od_inG false
theorem od_notin {K : PySem.W.Frag} : OpD K (rInD K true) dNotIn := od_inG true
theorem room70 {k : Nat} {A : Around} (r : Room k A) : A.units + 70 < cLine := by have := r.un; omega
def dNeg : PyData → Option PyData
  | .int i => some (.int (-i))
  | _ => none
theorem ud_neg {K : PySem.W.Frag} : UnD K (rU fun i => .int (-i)) dNeg := fun v d c G H Q p s eq q => by
  cases p with
  | int i => cases eq; exact ⟨i, rfl, q _ G H (Grow.refl s) (.int _)⟩
  | _ => cases eq
def fPopM (i : Nat) (fb : Ef) : Ef := fun ε => (asList ε i).bind fun _ => (fb ε).bind fun q => (asList q.2 i).bind fun ds => (dInt q.1).bind fun k => if 0 ≤ k ∧ k < 2 ^ 62 then (ds[k.toNat]?).map fun d => (d, q.2.set i (.mu (.list (ds.eraseIdx k.toNat)))) else none
theorem erase_all {K : PySem.W.Frag} {G : Hp} : ∀ {xs : List V} {ds : List PyData} (k : Nat), RpAll K G xs ds → RpAll K G (xs.eraseIdx k) (ds.eraseIdx k)
  | _, _, _, .nil => .nil
  | _, _, 0, .cons _ hs => hs
  | _, _, k + 1, .cons h hs => .cons h (erase_all k hs)
theorem ev_popM (i : Nat) (hb : Ev X b fb) (hpe : ∀ {t : TA}, PA X [b] t → PE X (.Call (.Attribute (.Name y pos') "pop" apos) [b] [] cpos) (tBM X.K "list" rPopAt (tVar i) t)) (hst : starEach [b] X.env = (false, eval b X.env) :: starEach [] X.env := by exact star_ok rfl) :
    Ev X (.Call (.Attribute (.Name y pos') "pop" apos) [b] [] cpos) (fPopM i fb) :=
  ⟨pe_mono (hpe (pa_cons hb.p pa_nil hst)) fun σ H Q ⟨B, G, z, ε, d, ε', rep, ef, q⟩ => by
    obtain ⟨ds0, e0, ef0⟩ := Option.bind_eq_some_iff.mp ef
    obtain ⟨⟨d1, ε1⟩, e1, ef1⟩ := Option.bind_eq_some_iff.mp ef0
    obtain ⟨ds, e2, ef2⟩ := Option.bind_eq_some_iff.mp ef1
    obtain ⟨k, e3, ef3⟩ := Option.bind_eq_some_iff.mp ef2
    by_cases hk : 0 ≤ k ∧ k < 2 ^ 62
    case neg => rw [if_neg hk] at ef3; cases ef3
    rw [if_pos hk] at ef3
    obtain ⟨c, e4, ef4⟩ := Option.map_eq_some_iff.mp ef3
    obtain ⟨rfl, rfl⟩ := Prod.mk.inj ef4
    obtain ⟨l, hl, hg0, hb0, hm0⟩ := rep.mus i _ (asList_some e0)
    cases hm0 with
    | lst h10 h20 =>
      refine ⟨.ref l, hl, .inl ⟨rfl, _, SqL.of h10⟩, B, G, z, ε, d1, ε1, rep, e1, fun v G1 H1 g1 r1 p1 => ?_⟩
      obtain ⟨l', hl', hg', hb', hm'⟩ := r1.mus i _ (asList_some e2)
      rw [hl] at hl'
      cases hl'
      cases dInt_some e3
      cases p1
      cases hm' with
      | lst h1 h2 =>
        obtain ⟨v, h3, h4⟩ := h2.get' e4
        have hlt : k.toNat < _ := (List.getElem?_eq_some_iff.mp h3).1
        refine ⟨l, _, k, k.toNat, v, rfl, rfl, h1, by omega, by omega, ?_, h3, ?_⟩
        · unfold seqIndex?
          rw [if_neg (show ¬ k < 0 by omega)]
          rw [if_pos (by simp only [Bool.and_eq_true, decide_eq_true_eq]; omega)]
        · exact q v G1 _ g1 (r1.store (asList_some e2) hl (.lst upd_same (erase_all k.toNat h2))) h4⟩
end
end PD

set_option Elab.async false
set_option linter.all false
set_option maxRecDepth 100000
set_option maxHeartbeats 4000000
namespace PD
open PySem L2
section
variable {X : Cx} {e a b : Expr} {fa fb fc : Ef} {fs : Af} {x y : Str} {pos pos' p p2 : Pos}
theorem fPopM_ok {ε ε1 : En} {i : Nat} {ds es : List PyData} {k : Int} {d : PyData} (h : asList ε i = some es) (hb : fb ε = some (.int k, ε1)) (h1 : asList ε1 i = some ds) (h2 : 0 ≤ k ∧ k < 2 ^ 62) (h3 : ds[k.toNat]? = some d) : fPopM i fb ε = some (d, ε1.set i (.mu (.list (ds.eraseIdx k.toNat)))) := by
  unfold fPopM; rw [h]; simp only [Option.bind_some, hb, h1, dInt, if_pos h2, h3, Option.map_some]
end
end PD

set_option Elab.async false
set_option linter.all false
set_option maxRecDepth 100000
set_option maxHeartbeats 4000000
namespace PD
open PySem L2
/-- the iterator at it over items: st k h: it stands ahead of the k-th item in h; what it leans on lies in fp -/
structure Wk (P : Program) (w : World) (it : Addr) (fp : List Addr) (items : List Value) (st : Nat → Heap → Prop) : Prop where
  mem : it ∈ fp
  ob : ∀ k h, st k h → ∃ o, h.get? it = some o ∧ ∀ v, o.data ≠ .cell v
  keep : ∀ k h h', st k h → (∀ b ∈ fp, ∀ o, h.get? b = some o → h'.get? b = some o) → st k h'
  item : ∀ (A : Around) (E : Value → Shared → Prop) (s : Shared) (Q : Value → Shared → Prop) (k : Nat) (x : Value), st k s.heap → items[k]? = some x → (∀ h', st (k + 1) h' → Heap.SameBut it s.heap h' → Q x { s with heap := h' }) → wpAny (model P w) A (Builtin.SmallTypes.nextOf (.ref it)) Q E s
  done : ∀ (A : Around) (E : Value → Shared → Prop) (s : Shared) (Q : Value → Shared → Prop) (k : Nat), A.handled = none → st k s.heap → items[k]? = none → (∀ h' e, Heap.ExtBut it s.heap h' → (∃ o, h'.get? e = some o ∧ o.cls = .type "StopIteration") → E (.ref e) { s with heap := h' }) → wpAny (model P w) A (Builtin.SmallTypes.nextOf (.ref it)) Q E s
section
variable {P : Program} {w : World}
structure Apart (z TI TO i1 i2 : Addr) (f1 f2 : List Addr) : Prop where
  nd : [z, TI, TO, i1, i2].Nodup
  z1 : z ∉ f1
  z2 : z ∉ f2
  t1 : TO ∉ f1
  t2 : TO ∉ f2
  i1 : i1 ∉ f2
  i2 : i2 ∉ f1
end
end PD

set_option Elab.async false
set_option linter.all false
set_option maxRecDepth 100000
set_option maxHeartbeats 4000000
namespace PD
open PySem L2
def Sq (K : PySem.W.Frag) (H : Hp) : Bool → Addr → List V → Prop
  | true, a, xs => SqT K H a xs
  | false, a, xs => SqL K H a xs
def IsSq (h : Heap) : Bool → Addr → List Value → Prop
  | true, a, its => h.IsTuple a its.toArray
  | false, a, its => h.IsList a its.toArray
def IsIt (h : Heap) : Bool → Addr → Addr → Nat → Prop
  | true, it, a, k => h.IsTupleIter it a k
  | false, it, a, k => h.IsListIter it a k
def itO : Bool → Addr → Obj
  | true, a => { cls := .type "tuple_iterator", data := .fields #[.ref a, .int 0 0] }
  | false, a => { cls := .type "list_iterator", data := .fields #[.ref a, .int 0 0] }
theorem IsSq.push {h : Heap} {b : Bool} {a : Addr} {its : List Value} (x : IsSq h b a its) (o : Obj) : IsSq (h.push o) b a its := by
  cases b
  · exact Heap.IsList.push x o
  · exact Heap.IsTuple.push x o
theorem IsSq.lt {h : Heap} {b : Bool} {a : Addr} {its : List Value} (x : IsSq h b a its) : a < h.objs.size := by
  cases b <;> exact let ⟨_, e, _⟩ := x; Heap.lt_size e
theorem IsIt.lt {h : Heap} {b : Bool} {i a : Addr} {k : Nat} (x : IsIt h b i a k) : i < h.objs.size := by
  cases b <;> exact let ⟨_, e, _⟩ := x; Heap.lt_size e
theorem IsIt.ob {h : Heap} {b : Bool} {i a : Addr} {k : Nat} (x : IsIt h b i a k) : ∃ o, h.get? i = some o ∧ ∀ v, o.data ≠ .cell v := by
  cases b <;> exact let ⟨o, e, _, d⟩ := x; ⟨o, e, fun v q => by rw [d] at q; cases q⟩
theorem IsIt.at {h h' : Heap} {b : Bool} {i a : Addr} {k : Nat} (x : IsIt h b i a k) (f : ∀ o, h.get? i = some o → h'.get? i = some o) : IsIt h' b i a k := by
  cases b <;> exact let ⟨o, e, r⟩ := x; ⟨o, f o e, r⟩
theorem IsIt.of {h : Heap} {b : Bool} {i a : Addr} (e : h.get? i = some (itO b a)) : IsIt h b i a 0 := by
  cases b <;> exact ⟨_, e, rfl, rfl⟩
theorem Sq.same {K : PySem.W.Frag} {H H' : Hp} {b : Bool} {a : Addr} {xs : List V} (e : Same H H') (h : Sq K H b a xs) : Sq K H' b a xs := by
  cases b
  · exact e.seq h
  · exact sqT_same e h
section
variable {X : Cx} {pins : List (Addr × Obj)} {σ : St} {H : Hp} {s : Shared} {b : Bool} {a : Addr} {xs ys : List V}
end
section
variable {P : Program} {w : World}
structure ZSt (b1 b2 : Bool) (a b z TI TO i1 i2 : Addr) (i : Nat) (h : Heap) : Prop where
  z : IsZip h z TI TO .none
  ti : IsPair h TI (.ref i1) (.ref i2)
  to : ∃ x y, IsPair h TO x y
  i1 : IsIt h b1 i1 a i
  i2 : IsIt h b2 i2 b i
end
end PD

set_option Elab.async false
set_option linter.all false
set_option maxRecDepth 100000
set_option maxHeartbeats 4000000
namespace PD
open PySem L2
section
variable {X : Cx}
theorem rp_kt {K : PySem.W.Frag} {G : Hp} {a : Addr} {its : Array Value} {n : Nat} {sl : Array (Option Value)} {xs : List V} {ds : List PyData} (hk : K.lookup a = some ⟨.type "tuple", none, .seq its n, sl⟩) (hz : its.size ≤ sizeLine) (r : Vals xs its.toList) (p : RpAll K G xs ds) : Rp K G (.ref a) (.tuple ds) :=
  .tup (.inr ⟨_, its, n, hk, rfl, rfl, rfl, hz, r⟩) p
theorem ev_glob {x : Str} {a : Addr} {d : PyData} {pos : Pos} (hg : Gl X x) (hm : X.mg x = some (.ref a)) (hp : ∀ G, Rp X.K G (.ref a) d) (hd : (x == ("__debug__" : Str)) = false := by decide) : Ev X (.Name x pos) (fC d) := ev_c (pe_glob (v := .ref a) hg hm rfl hd) hp
end
end PD

set_option Elab.async false
set_option linter.all false
set_option maxRecDepth 100000
set_option maxHeartbeats 4000000
namespace PD
open PySem L2
abbrev KVs := List (PyData × PyData)
def keyD : PyData → Option Key
  | .int i => some (.inl i)
  | .str x => some (.inr x)
  | _ => none
def isKey (k : Key) : PyData → Bool
  | .int i => decide (Sum.inl i = k)
  | .str x => decide (Sum.inr x = k)
  | _ => false
theorem isKey_kD (k j : Key) : isKey k (kD j) = decide (j = k) := by cases j <;> rfl
def getD (es : KVs) (k : Key) : Option PyData := (es.find? fun e => isKey k e.1).map (·.2)
def putD (es : KVs) (k : Key) (v : PyData) : KVs := if (es.any fun e => isKey k e.1) = true then es.map (fun e => if isKey k e.1 = true then (e.1, v) else e) else es ++ [(kD k, v)]
section
variable {K : PySem.W.Frag} {G : Hp}
theorem RpKV.length : ∀ {vs : List (Key × V)} {ds : KVs}, RpKV K G vs ds → vs.length = ds.length
  | _, _, .nil => rfl
  | _, _, .cons _ hs => congrArg (· + 1) (RpKV.length hs)
theorem RpKV.get (k : Key) : ∀ {vs : List (Key × V)} {ds : KVs}, RpKV K G vs ds → (valV vs k = none ∧ getD ds k = none) ∨ ∃ v d, valV vs k = some v ∧ getD ds k = some d ∧ Rp K G v d
  | _, _, .nil => .inl ⟨rfl, rfl⟩
  | _, _, .cons (k := j) (v := v) (d := d) (vs := vs) (ds := ds) h hs => by
    by_cases e : j = k
    · refine .inr ⟨v, d, valV_pos e, ?_, h⟩
      unfold getD
      rw [List.find?_cons, show isKey k (kD j) = true by rw [isKey_kD]; exact decide_eq_true e]
      rfl
    · have hg : getD ((kD j, d) :: ds) k = getD ds k := by
        unfold getD
        rw [List.find?_cons, show isKey k (kD j) = false by rw [isKey_kD]; exact decide_eq_false e]
      rw [hg, valV_neg (p := (j, v)) e]
      exact RpKV.get k hs
theorem RpKV.anyk (k : Key) : ∀ {vs : List (Key × V)} {ds : KVs}, RpKV K G vs ds → (vs.any fun kv => decide (kv.1 = k)) = ds.any fun e => isKey k e.1
  | _, _, .nil => rfl
  | _, _, .cons (k := j) h hs => by simp only [List.any_cons, isKey_kD, RpKV.anyk k hs]
theorem RpKV.mapk (k : Key) {v : V} {d : PyData} (p : Rp K G v d) : ∀ {vs : List (Key × V)} {ds : KVs}, RpKV K G vs ds → RpKV K G (vs.map fun kv => if kv.1 = k then (kv.1, v) else kv) (ds.map fun e => if isKey k e.1 = true then (e.1, d) else e)
  | _, _, .nil => .nil
  | _, _, .cons (k := j) (v := u) (d := c) h hs => by
    simp only [List.map_cons, isKey_kD]
    by_cases e : j = k
    · rw [if_pos e, if_pos (decide_eq_true e)]; exact .cons p (RpKV.mapk k p hs)
    · rw [if_neg e, if_neg (by rw [decide_eq_false e]; simp)]; exact .cons h (RpKV.mapk k p hs)
theorem RpKV.snoc (k : Key) {v : V} {d : PyData} (p : Rp K G v d) : ∀ {vs : List (Key × V)} {ds : KVs}, RpKV K G vs ds → RpKV K G (vs ++ [(k, v)]) (ds ++ [(kD k, d)])
  | _, _, .nil => .cons p .nil
  | _, _, .cons h hs => .cons h (RpKV.snoc k p hs)
theorem RpKV.put (k : Key) {v : V} {d : PyData} (p : Rp K G v d) {vs : List (Key × V)} {ds : KVs} (h : RpKV K G vs ds) : RpKV K G (putK vs k v) (putD ds k d) := by
  unfold putK putD
  rw [h.anyk k]
  split
  · exact h.mapk k p
  · exact h.snoc k p
theorem rp_key {v : V} {d : PyData} {k : Key} (h : Rp K G v d) (e : keyD d = some k) : v = kV k := by
  cases h with
  | int i => cases e; rfl
  | str x => cases e; rfl
  | _ => cases e
end
def asDict (ε : En) (i : Nat) : Option KVs := match ε[i]? with
  | some (.mu (.dict es)) => some es
  | _ => none
theorem asDict_some {ε : En} {i : Nat} {es : KVs} (h : asDict ε i = some es) : ε[i]? = some (.mu (.dict es)) := by
  unfold asDict at h
  split at h
  · cases h; assumption
  · cases h
def fDict0 : Ef := fun ε => some (.dict [], ε)
/-- d[b] = a -/
def sPutM (i : Nat) (fa fb : Ef) : Sf := fun ε => (fa ε).bind fun p => (asDict p.2 i).bind fun _ => (fb p.2).bind fun q => (asDict q.2 i).bind fun es => (keyD q.1).bind fun k => if es.length < sizeLine then some (.nx (q.2.set i (.mu (.dict (putD es k p.1))))) else none
/-- d.get(a, b) -/
def fGetM (i : Nat) (fa fb : Ef) : Ef := fun ε => (asDict ε i).bind fun _ => (fa ε).bind fun p => (fb p.2).bind fun q => (asDict q.2 i).bind fun es => (keyD p.1).map fun k => ((getD es k).getD q.1, q.2)
/-- d[a] -/
def fAtM (i : Nat) (fa : Ef) : Ef := fun ε => (asDict ε i).bind fun _ => (fa ε).bind fun p => (asDict p.2 i).bind fun es => (keyD p.1).bind fun k => (getD es k).map fun d => (d, p.2)
section
variable {X : Cx} {fa fb : Ef} {a b : Expr} {x : Str} {pos pos' pos2 apos cpos : Pos}
theorem fv_dict0 : Fv X (.Dict [] [] pos) fDict0 := ⟨pe_mono pe_dnewK fun σ H Q ⟨B, G, z, ε, d, ε', rep, ef, q⟩ => by
  obtain ⟨rfl, rfl⟩ := Prod.mk.inj (Option.some.inj ef)
  exact fun p hp => q p G _ (Gr.refl _ _) (rep_new rep hp) (rep.sub.free hp) (rep.bg.free hp) (.dct upd_same .nil) (nomu rep hp)⟩
theorem sv_putM (i : Nat) (hu : X.A.units + 1 < cLine) (he : Ev X a fa) (hv : PE X (.Name x pos') (tVar i)) (hb : Ev X b fb) (hs : swapsWith a (some (.Subscript (.Name x pos') b pos2)) pos.line X.env = pure false := by rfl) :
    Sv X (.Assign [.Subscript (.Name x pos') b pos2] a pos) (sPutM i fa fb) :=
  ⟨ps_mono (ps_dput hu hv hb.p he.p hs) fun D σ H ⟨B, G, z, ε, o, rep, ef, k⟩ => by
    obtain ⟨⟨d0, ε0⟩, e0, ef0⟩ := Option.bind_eq_some_iff.mp ef
    obtain ⟨es0, e1, ef1⟩ := Option.bind_eq_some_iff.mp ef0
    obtain ⟨⟨d1, ε1⟩, e2, ef2⟩ := Option.bind_eq_some_iff.mp ef1
    obtain ⟨es, e3, ef3⟩ := Option.bind_eq_some_iff.mp ef2
    obtain ⟨j, e4, ef4⟩ := Option.bind_eq_some_iff.mp ef3
    by_cases hl : es.length < sizeLine
    case neg => rw [if_neg hl] at ef4; cases ef4
    rw [if_pos hl] at ef4
    cases ef4
    refine ⟨B, G, z, ε, d0, ε0, rep, e0, fun v G1 H1 g1 r1 p1 => ?_⟩
    obtain ⟨c, hc, _⟩ := r1.mus i _ (asDict_some e1)
    refine ⟨.ref c, hc, B, G1, z, ε0, d1, ε1, r1, e2, fun v2 G2 H2 g2 r2 p2 => ?_⟩
    obtain ⟨c', hc', hg', hb', hm'⟩ := r2.mus i _ (asDict_some e3)
    rw [hc] at hc'
    cases hc'
    cases rp_key p2 e4
    cases hm' with
    | dct h1 h2 => exact ⟨c, _, rfl, DPut.k h1 (by rw [h2.length]; exact hl), k G2 σ _ (g1.trans g2) (r2.store (asDict_some e3) hc (.dct upd_same (h2.put j (p1.mono g2.1))))⟩⟩
theorem ev_getM (i : Nat) (hu : X.A.units + 1 < cLine) (hv : PE X (.Name x pos') (tVar i)) (ha : Ev X a fa) (hb : Ev X b fb) (m : M2 X (.Name x pos') "get" apos a b cpos) : Ev X (.Call (.Attribute (.Name x pos') "get" apos) [a, b] [] cpos) (fGetM i fa fb) :=
  ⟨pe_mono (pe_dget2 hu hv ha.p hb.p m) fun σ H Q ⟨B, G, z, ε, d, ε', rep, ef, q⟩ => by
    obtain ⟨es0, e0, ef0⟩ := Option.bind_eq_some_iff.mp ef
    obtain ⟨⟨d1, ε1⟩, e1, ef1⟩ := Option.bind_eq_some_iff.mp ef0
    obtain ⟨⟨d2, ε2⟩, e2, ef2⟩ := Option.bind_eq_some_iff.mp ef1
    obtain ⟨es, e3, ef3⟩ := Option.bind_eq_some_iff.mp ef2
    obtain ⟨k, e4, ef4⟩ := Option.map_eq_some_iff.mp ef3
    obtain ⟨rfl, rfl⟩ := Prod.mk.inj ef4
    obtain ⟨c, hc, _, _, hm0⟩ := rep.mus i _ (asDict_some e0)
    cases hm0 with
    | dct h10 h20 =>
      refine ⟨.ref c, hc, c, rfl, .inl ⟨_, .inl h10⟩, B, G, z, ε, d1, ε1, rep, e1, fun v G1 H1 g1 r1 p1 => ⟨B, G1, z, ε1, d2, ε2, r1, e2, fun v2 G2 H2 g2 r2 p2 => ?_⟩⟩
      obtain ⟨c', hc', hg', hb', hm'⟩ := r2.mus i _ (asDict_some e3)
      rw [hc] at hc'
      cases hc'
      cases rp_key p1 e4
      cases hm' with
      | dct h1 h2 =>
        refine ⟨_, DGet.k h1, q _ G2 H2 (g1.trans g2) r2 ?_⟩
        rcases h2.get k with ⟨n1, n2⟩ | ⟨w, dd, n1, n2, n3⟩
        · rw [n1, n2]; exact p2
        · rw [n1, n2]; exact n3⟩
end
end PD

set_option Elab.async false
set_option linter.all false
set_option maxRecDepth 100000
set_option maxHeartbeats 4000000
namespace PD
open PySem L2

def tblOf (led : Bool) (L : List Nat) : SetTable := { mask := if L.length ≤ 4 then 7 else 31, place := L.toArray, dummies := #[], finger := 0, led := led, moves := if L.length ≤ 4 then 0 else 1, plain := true }
def insN (k : Nat) (L : List Nat) : List Nat := L.filter (fun x => decide (x < k)) ++ k :: L.filter (fun x => decide (k < x))
def subsOf : List Nat → List (List Nat)
  | [] => [[]]
  | x :: xs => subsOf xs ++ (subsOf xs).map (x :: ·)
def subs7 : List (List Nat) := subsOf [0, 1, 2, 3, 4, 5, 6]
def midT (led : Bool) (k : Nat) (L : List Nat) : SetTable := { tblOf led L with place := (insN k L).toArray }
def posN (k : Nat) (L : List Nat) : Nat := (L.filter (fun x => decide (x < k))).length
def okAdd (b : Bool) (k : Nat) (L : List Nat) : Bool :=
  decide ((tblOf b L).freeSlot (k : Int) = some (k, false)) && decide ((tblOf b L).put k = (midT b k L, posN k L)) && (midT b k L).fits (L.length + 1) &&
  decide (subs7.contains (insN k L) = true) && decide ((insN k L).length = L.length + 1) &&
  (if L.length = 4 then (midT b k L).tooFull && decide ((midT b k L).relaid ((insN k L).map fun (n : Nat) => (n : Int)).toArray (SetTable.grown 5) = some (tblOf b (insN k L), #[0, 1, 2, 3, 4])) && coversAll #[0, 1, 2, 3, 4] 5 && (tblOf b (insN k L)).fits 5
   else !(midT b k L).tooFull && decide (midT b k L = tblOf b (insN k L)))
theorem small_all : (subs7.all fun L => [true, false].all fun b => (List.range 7).all fun k => L.contains k || okAdd b k L) = true := by decide +kernel
theorem small_add {L : List Nat} (hL : L ∈ subs7) (b : Bool) {k : Nat} (hk : k < 7) (hn : k ∉ L) : okAdd b k L = true := by
  have h := List.all_eq_true.mp small_all L hL
  have h2 := List.all_eq_true.mp h b (by cases b <;> simp)
  have h3 := List.all_eq_true.mp h2 k (List.mem_range.mpr hk)
  rcases (Bool.or_eq_true _ _).mp h3 with h4 | h4
  · exact absurd (by simpa using h4) hn
  · exact h4
theorem subs_fact : (subs7.all fun L => decide (L.length ≤ 7) && L.all (fun x => decide (x < 7)) && decide (L.Pairwise (· < ·))) = true := by decide +kernel
theorem subs_len {L : List Nat} (hL : L ∈ subs7) : L.length ≤ 7 ∧ (∀ x ∈ L, x < 7) ∧ L.Pairwise (· < ·) := by
  have h := List.all_eq_true.mp subs_fact L hL
  simp only [Bool.and_eq_true, decide_eq_true_eq, List.all_eq_true] at h
  exact ⟨h.1.1, h.1.2, h.2⟩
theorem fits_all : (subs7.all fun L => [true, false].all fun b => (tblOf b L).fits L.length) = true := by decide +kernel
theorem tbl_fits {L : List Nat} (hL : L ∈ subs7) (b : Bool) : (tblOf b L).fits L.length = true :=
  List.all_eq_true.mp (List.all_eq_true.mp fits_all L hL) b (by cases b <;> simp)
end PD

set_option Elab.async false
set_option linter.all false
set_option maxRecDepth 100000
set_option maxHeartbeats 4000000
namespace PD
open PySem L2

inductive Ents : List (Int × Value) → List Nat → Prop
  | nil : Ents [] []
  | cons {k : Nat} {t : Tok} {es : List (Int × Value)} {L : List Nat} : Ents es L → Ents (((k : Int), Value.int k t) :: es) (k :: L)
theorem Ents.length : ∀ {es : List (Int × Value)} {L : List Nat}, Ents es L → es.length = L.length
  | _, _, .nil => rfl
  | _, _, .cons h => congrArg (· + 1) h.length
theorem Ents.append : ∀ {es fs : List (Int × Value)} {L M : List Nat}, Ents es L → Ents fs M → Ents (es ++ fs) (L ++ M)
  | _, _, _, _, .nil, h => h
  | _, _, _, _, .cons g, h => .cons (g.append h)
theorem Ents.take : ∀ {es : List (Int × Value)} {L : List Nat} (n : Nat), Ents es L → Ents (es.take n) (L.take n)
  | _, _, 0, _ => .nil
  | _, _, n + 1, .nil => .nil
  | _, _, n + 1, .cons g => .cons (g.take n)
theorem Ents.drop : ∀ {es : List (Int × Value)} {L : List Nat} (n : Nat), Ents es L → Ents (es.drop n) (L.drop n)
  | _, _, 0, h => h
  | _, _, n + 1, .nil => .nil
  | _, _, n + 1, .cons g => g.drop n
theorem Ents.get : ∀ {es : List (Int × Value)} {L : List Nat} {i : Nat} {e : Int × Value}, Ents es L → es[i]? = some e → ∃ (k : Nat) (t : Tok), L[i]? = some k ∧ e = ((k : Int), Value.int k t)
  | _, _, i, e, .nil, h => by simp at h
  | _, _, 0, e, .cons g, h => by simp at h; exact ⟨_, _, rfl, h.symm⟩
  | _, _, i + 1, e, .cons g, h => by
    obtain ⟨k, t, h1, h2⟩ := Ents.get (i := i) (e := e) g (by simpa using h)
    exact ⟨k, t, by simpa using h1, h2⟩
theorem Ents.mem {es : List (Int × Value)} {L : List Nat} {e : Int × Value} (h : Ents es L) (he : e ∈ es) : ∃ (k : Nat) (t : Tok), k ∈ L ∧ e = ((k : Int), Value.int k t) := by
  obtain ⟨i, hi, rfl⟩ := List.getElem_of_mem he
  obtain ⟨k, t, h1, h2⟩ := h.get (List.getElem?_eq_getElem hi)
  exact ⟨k, t, List.mem_of_getElem? h1, h2⟩
theorem Ents.of_mem : ∀ {es : List (Int × Value)} {L : List Nat} {k : Nat}, Ents es L → k ∈ L → ∃ t : Tok, ((k : Int), Value.int k t) ∈ es
  | _, _, k, .nil, h => by cases h
  | _, _, k, .cons g, h => by
    rcases List.mem_cons.mp h with rfl | h
    · exact ⟨_, List.mem_cons_self ..⟩
    · obtain ⟨t, ht⟩ := g.of_mem h
      exact ⟨t, List.mem_cons_of_mem _ ht⟩
theorem Ents.fsts : ∀ {es : List (Int × Value)} {L : List Nat}, Ents es L → es.map (·.1) = L.map fun (n : Nat) => (n : Int)
  | _, _, .nil => rfl
  | _, _, .cons g => by rw [List.map_cons, List.map_cons, g.fsts]
/-- rising lists: the lesser ones stand ahead -/
theorem take_pos {L : List Nat} (h : L.Pairwise (· < ·)) (k : Nat) : L.take (posN k L) = L.filter (fun x => decide (x < k)) ∧ (k ∉ L → L.drop (posN k L) = L.filter (fun x => decide (k < x))) := by
  unfold posN
  induction L with
  | nil => exact ⟨rfl, fun _ => rfl⟩
  | cons x xs ih =>
    obtain ⟨h1, h2⟩ := List.pairwise_cons.mp h
    obtain ⟨i1, i2⟩ := ih h2
    by_cases hx : x < k
    · rw [List.filter_cons_of_pos (by simpa using hx), List.length_cons, List.take_succ_cons, List.drop_succ_cons, i1]
      refine ⟨rfl, fun hn => ?_⟩
      rw [List.filter_cons_of_neg (by simp; omega)]
      exact i2 fun z => hn (List.mem_cons_of_mem _ z)
    · have hnil : xs.filter (fun x => decide (x < k)) = [] := by
        rw [List.filter_eq_nil_iff]
        intro y hy
        have := h1 y hy
        simp; omega
      rw [List.filter_cons_of_neg (by simpa using hx), hnil]
      refine ⟨rfl, fun hn => ?_⟩
      rw [List.length_nil, List.drop_zero]
      symm
      rw [List.filter_eq_self]
      intro y hy
      rcases List.mem_cons.mp hy with rfl | hy
      · have : y ≠ k := fun z => hn (by rw [z]; exact List.mem_cons_self ..)
        simp; omega
      · have := h1 y hy
        have : x ≠ k := fun z => hn (by rw [z]; exact List.mem_cons_self ..)
        simp; omega
theorem toList_insertAt {α : Type} (xs : Array α) (p : Nat) (x : α) (hp : p ≤ xs.size) : (SetTable.insertAt xs p x).toList = xs.toList.take p ++ x :: xs.toList.drop p := by
  unfold SetTable.insertAt
  rw [Array.toList_append, Array.toList_push, Array.toList_extract, Array.toList_extract, List.append_assoc]
  simp only [List.extract_eq_drop_take, List.drop_zero, Nat.sub_zero, Array.size_eq_length_toList, List.cons_append, List.nil_append]
  rw [List.take_of_length_le (l := xs.toList.drop p) (by rw [List.length_drop]; exact Nat.le_refl _)]
theorem Ents.insert {es : Array (Int × Value)} {L : List Nat} (h : Ents es.toList L) (hp : L.Pairwise (· < ·)) {k : Nat} (hk : k ∉ L) (t : Tok) : Ents (SetTable.insertAt es (posN k L) ((k : Int), Value.int k t)).toList (insN k L) := by
  have hl : posN k L ≤ es.size := by
    have := h.length
    rw [Array.length_toList] at this
    rw [this]; exact List.length_filter_le _ _
  rw [toList_insertAt _ _ _ hl]
  unfold insN
  obtain ⟨t1, t2⟩ := take_pos hp k
  rw [← t1, ← t2 hk]
  exact (h.take _).append (.cons (h.drop _))
/-- a set of these, at its address -/
def SmallSet (led : Bool) (h : Heap) (a : Addr) (L : List Nat) : Prop := ∃ o es ep, h.get? a = some o ∧ o.ExactSet ∧ o.data = .set es ep (tblOf led L) ∧ Ents es.toList L ∧ L ∈ subs7
section
variable {prog : Program} {w : World} {A : Around} {E : Value → Shared → Prop} {s : Shared} {a : Addr} {led : Bool} {L : List Nat}
theorem hash_small {k : Nat} (hk : k < 7) : hashInt (k : Int) = k := by
  have : ∀ k : Fin 7, hashInt ((k : Nat) : Int) = ((k : Nat) : Int) := by decide +kernel
  exact this ⟨k, hk⟩
theorem Ents.elems {es : List (Int × Value)} (h : Ents es L) (hL : L ∈ subs7) : ElemsOf (intKind prog w) es := fun e he => by
  obtain ⟨k, t, hk, rfl⟩ := h.mem he
  exact ⟨⟨(k : Int), by simp [intKind, Value.isInt], (hash_small ((subs_len hL).2.1 k hk)).symm⟩, rfl⟩
theorem find_small {es : List (Int × Value)} (h : Ents es L) {k : Nat} : (es.findIdx? fun e => (intKind prog w).is (k : Int) e.2) = none ↔ k ∉ L := by
  rw [List.findIdx?_eq_none_iff]
  constructor
  · intro hf hk
    obtain ⟨t, ht⟩ := h.of_mem hk
    have := hf _ ht
    have h2 : Value.isInt (k : Int) (Value.int k t) = false := this
    simp [Value.isInt] at h2
  · intro hk e he
    obtain ⟨j, t, hj, rfl⟩ := h.mem he
    show Value.isInt (k : Int) (Value.int j t) = false
    have : (k : Int) ≠ (j : Int) := fun z => hk (by have : k = j := by omega
                                                    rw [this]; exact hj)
    simp [Value.isInt]
    omega
end
end PD

set_option Elab.async false
set_option linter.all false
set_option maxRecDepth 100000
set_option maxHeartbeats 4000000
namespace PD
open PySem L2
section
variable {prog : Program} {w : World} {A : Around} {E : Value → Shared → Prop} {s : Shared} {a : Addr} {led : Bool} {L : List Nat}
theorem SmallSet.typeIs (h : SmallSet led s.heap a L) : s.TypeIs (.ref a) "set" := let ⟨o, _, _, ho, hc, _⟩ := h; ⟨o, ho, hc.1⟩
theorem SmallSet.at {h h' : Heap} (x : SmallSet led h a L) (f : ∀ o, h.get? a = some o → h'.get? a = some o) : SmallSet led h' a L := let ⟨o, es, ep, ho, r⟩ := x; ⟨o, es, ep, f o ho, r⟩
theorem SmallSet.lt {h : Heap} (x : SmallSet led h a L) : a < h.objs.size := let ⟨o, _, _, ho, _⟩ := x; Heap.lt_size ho
theorem put_at {h : Heap} {o : Obj} {es es' : Array (Int × Value)} {ep : Nat} {t t' : SetTable} (ho : h.get? a = some o) (hd : o.data = .set es ep t) :
    (h.update a (Obj.putSet es' t')).get? a = some { o with data := .set es' (ep + 1) t' } := by
  have := Heap.get?_update_self (Obj.putSet es' t') ho (by rw [putSet_of es' t' hd]; rfl)
  rw [putSet_of es' t' hd] at this; exact this
def addN (k : Nat) (L : List Nat) : List Nat := if k ∈ L then L else insN k L
theorem setAdd_small {k : Nat} {t : Tok} {Q : Bool → Shared → Prop} (hk : k < 7) (hS : SmallSet led s.heap a L)
    (h : ∀ b h', Heap.SameBut a s.heap h' → SmallSet led h' a (addN k L) → Q b { s with heap := h' }) :
    wpAny (model prog w) A (setAddHashed a (.int k t) ((intKind prog w).hash (k : Int))) Q E s := by
  obtain ⟨o, es, ep, ho, hex, hd, hen, hL⟩ := hS
  obtain ⟨l7, lt7, hpw⟩ := subs_len hL
  have hel : ElemsOf (intKind prog w) es.toList := hen.elems hL
  have hlen : es.size = L.length := by rw [← Array.length_toList]; exact hen.length
  have hf : (tblOf led L).fits es.size = true := by rw [hlen]; exact tbl_fits hL led
  have hb : es.size < scanBound := by rw [hlen]; show L.length < 4096; omega
  have hkey : (intKind prog w).is (k : Int) (.int k t) = true := by simp [intKind, Value.isInt]
  have hsc : (Value.int k t).scannable = true := rfl
  unfold setAddHashed setAddHashedIn
  refine wpAny_holding (wpAny_bind (wpAny_setState_of ho hd hf ?_))
  dsimp only
  rw [byScan_of hsc hb hel]
  simp only [↓reduceIte]
  unfold setAddByScan
  refine wpAny_bind ?_
  refine wpAny_bind (wpAny_rule ?_)
  refine wpAny_bind (wpAny_setScan_of hkey ho hd hf hel ?_)
  have hfind := find_small (prog := prog) (w := w) hen (k := k)
  cases hr : List.findIdx? (fun e => (intKind prog w).is (k : Int) e.2) es.toList with
  | some j =>
    have hin : k ∈ L := by
      by_cases z : k ∈ L
      · exact z
      · rw [hfind.mpr z] at hr; cases hr
    dsimp only
    refine wpAny_pure (wpAny_pure ?_)
    have e : s = { s with heap := s.heap } := by cases s; rfl
    rw [e]
    exact h _ s.heap (Heap.SameBut.refl a s.heap) ⟨o, es, ep, ho, hex, by rw [show addN k L = L from if_pos hin]; exact hd, by rw [show addN k L = L from if_pos hin]; exact hen, by rw [show addN k L = L from if_pos hin]; exact hL⟩
  | none =>
    have hin : k ∉ L := hfind.mp hr
    have hadd : addN k L = insN k L := if_neg hin
    have ok := small_add hL led hk hin
    unfold okAdd at ok
    simp only [Bool.and_eq_true, decide_eq_true_eq] at ok
    obtain ⟨⟨⟨⟨⟨f1, f2⟩, f3⟩, f4⟩, f5⟩, f6⟩ := ok
    have hsub : insN k L ∈ subs7 := by simpa using f4
    have hhash : (intKind prog w).hash (k : Int) = (k : Int) := hash_small hk
    have hlay : layNew (tblOf led L) es ((intKind prog w).hash (k : Int)) (.int k t) = (SetTable.insertAt es (posN k L) ((k : Int), .int k t), midT led k L, false, false) := by
      rw [hhash]
      unfold layNew
      rw [f1]
      dsimp only
      rw [f2]
      dsimp only
      have hs1 : (SetTable.insertAt es (posN k L) ((k : Int), Value.int k t)).size = L.length + 1 := by
        rw [← Array.length_toList, (hen.insert hpw hin t).length, f5]
      rw [hs1]
      unfold SetTable.orStandIn
      rw [if_pos f3, f3]; rfl
    rw [hlay]
    dsimp only
    have hen1 := hen.insert hpw hin t
    generalize hes1 : SetTable.insertAt es (posN k L) ((k : Int), Value.int k t) = es1 at hen1
    have hs1 : es1.size = L.length + 1 := by rw [← Array.length_toList, hen1.length, f5]
    have hz1 : es1.size ≤ sizeLine := fits_of_scanBound (by rw [hs1]; show L.length + 1 < 4096; omega)
    refine wpAny_bind (wpAny_pure ?_)
    rw [show (midT led k L).plain = true from rfl]
    simp only [↓reduceIte]
    refine wpAny_bind ?_
    rw [hashByValue_scannable 8 hsc]
    refine wpAny_pure ?_
    simp only [plainKind, ↓reduceIte]
    refine wpAny_bind (wpAny_storeSet_of ho hd ?_ hz1)
    have hp1 := put_at (es' := es1) (t' := midT led k L) ho hd
    have sb1 := Heap.SameBut.update s.heap a (Obj.putSet es1 (midT led k L))
    by_cases h4 : L.length = 4
    · rw [if_pos h4] at f6
      simp only [Bool.and_eq_true, decide_eq_true_eq] at f6
      obtain ⟨⟨⟨g1, g2⟩, g3⟩, g4⟩ := f6
      rw [g1]
      simp only [Bool.not_false, Bool.and_self, ↓reduceIte]
      have h5 : es1.size = 5 := by omega
      have hrel : relayAll (midT led k L) es1 (SetTable.grown es1.size) = (es1, tblOf led (insN k L), false) := by
        unfold relayAll
        have hm : es1.map (·.1) = ((insN k L).map fun (n : Nat) => (n : Int)).toArray := by
          apply Array.toList_inj.mp
          rw [Array.toList_map, hen1.fsts]
        rw [hm, h5, g2]
        dsimp only
        have hfm : (#[0, 1, 2, 3, 4] : Array Nat).filterMap (fun x => es1[x]?) = es1 := by
          apply Array.toList_inj.mp
          rw [Array.toList_filterMap]
          obtain ⟨l⟩ := es1
          match l, h5 with
          | [x0, x1, x2, x3, x4], _ => rfl
        rw [hfm, h5, g3, g4]
        rfl
      rw [hrel]
      dsimp only
      refine wpAny_bind (wpAny_pure ?_)
      refine wpAny_bind (wpAny_storeSet_of hp1 rfl ?_ hz1)
      refine wpAny_pure (wpAny_pure ?_)
      have hp2 := put_at (es' := es1) (t' := tblOf led (insN k L)) hp1 rfl
      rw [hadd] at h
      exact h true _ (sb1.trans (Heap.SameBut.update _ a _)) ⟨_, es1, ep + 1 + 1, hp2, hex, rfl, hen1, hsub⟩
    · rw [if_neg h4] at f6
      simp only [Bool.and_eq_true, Bool.not_eq_true', decide_eq_true_eq] at f6
      rw [f6.1]
      simp only [Bool.and_false, Bool.false_eq_true, ↓reduceIte]
      refine wpAny_pure (wpAny_pure ?_)
      rw [hadd] at h
      exact h true _ sb1 ⟨_, es1, ep + 1, hp1, hex, by rw [f6.2], hen1, hsub⟩
theorem call_add_small {k : Nat} {t : Tok} {Q : Value → Shared → Prop} (hk : k < 7) (hS : SmallSet led s.heap a L)
    (h : ∀ h', Heap.SameBut a s.heap h' → SmallSet led h' a (addN k L) → Q .none { s with heap := h', toks := s.toks + 1 }) :
    wpAny (model prog w) A (call (.builtin "set.add") [.ref a, .int k t]) Q E s := by
  refine wpAny_call_entry F.slot_set_add hS.typeIs F.entry_set_add ?_ (F.args_set_add_2 _ _)
  unfold Builtin.«set.add» Builtin.Frozenset.oneOther
  simp only [List.isEmpty_nil, bind_assoc]
  unfold Builtin.Frozenset.addrOf setAdd
  refine wpAny_bind (wpAny_pure ?_)
  try dsimp only
  refine wpAny_bind (wpAny_pure ?_)
  try dsimp only
  refine wpAny_bind ?_
  refine wpAny_holding ?_
  refine wpAny_bind ((intKind prog w).pyHash (k := (k : Int)) (by simp [intKind, Value.isInt]) ?_)
  refine setAdd_small (s := { s with toks := s.toks + 1 }) hk hS fun b h' hsb hS' => ?_
  show wpAny _ _ (ret Value.none) _ _ _
  exact wpAny_pure ⟨_, rfl, h h' hsb hS'⟩
def byText (w : World) : Bool := w.params.followText "set-order"
theorem new_small {Q : Value → Shared → Prop}
    (h : ∀ o, (s.heap.push o).get? s.heap.objs.size = some o → SmallSet (!byText w) (s.heap.push o) s.heap.objs.size [] → Q (.ref s.heap.objs.size) { s with heap := s.heap.push o }) :
    wpAny (model prog w) A (newSet (.type "set")) Q E s := by
  unfold newSet setsByText
  refine wpAny_bind (wpAny_bind (wpAny_askSetting (wpAny_pure ?_)))
  dsimp only
  simp only [newObj]
  exact wpAny_bind (wpAny_alloc (wpAny_pure (h _ (Heap.get?_push_size _ rfl) ⟨_, #[], 0, Heap.get?_push_size _ rfl, ⟨rfl, rfl, rfl⟩, rfl, .nil, by decide +kernel⟩)))
end
end PD

set_option Elab.async false
set_option linter.all false
set_option maxRecDepth 100000
set_option maxHeartbeats 4000000
namespace PD
open PySem L2
theorem slot_si_next : Slot "set_iterator" "__next__" "set_iterator.__next__" :=
  .of (owner := "set_iterator") (n := "__next__") (by rw [typeLookup_type, builtinLookup_eq_fast]; kernel_rfl) (by decide +kernel) (by decide +kernel) (by decide +kernel)
    (by first | exact .inl (by decide +kernel) | exact .inr (by decide +kernel)) (by rw [isSubtype_type]; kernel_rfl)
theorem entry_si_next : entryFor table "set_iterator.__next__" = some Builtin.«set_iterator.__next__» := entryFor_of_tree (by kernel_rfl)
theorem owner_si : Manifest.owners.lookup (String.ofList ['r', 'o', 't', 'a', 'r', 'e', 't', 'i', '_', 't', 'e', 's'].reverse) = some Manifest.sig_set_iterator := by kernel_rfl
theorem args_si_next (a : Value) : argsOk "set_iterator.__next__" ⟨[a], []⟩ := by
  unfold argsOk; rw [signature?_of (id := "set_iterator.__next__") (n := ['_', '_', 't', 'x', 'e', 'n', '_', '_']) (o := ['r', 'o', 't', 'a', 'r', 'e', 't', 'i', '_', 't', 'e', 's']) (by kernel_rfl) owner_si]; kernel_rfl
theorem slot_si_iter : Slot "set_iterator" "__iter__" "set_iterator.__iter__" :=
  .of (owner := "set_iterator") (n := "__iter__") (by rw [typeLookup_type, builtinLookup_eq_fast]; kernel_rfl) (by decide +kernel) (by decide +kernel) (by decide +kernel)
    (by first | exact .inl (by decide +kernel) | exact .inr (by decide +kernel)) (by rw [isSubtype_type]; kernel_rfl)
theorem entry_si_iter : entryFor table "set_iterator.__iter__" = some Builtin.«dict_keyiterator.__iter__» :=
  entryFor_alias (id' := "dict_keyiterator.__iter__") (by kernel_rfl) rfl (by decide +kernel) (by kernel_rfl)
theorem args_si_iter (a : Value) : argsOk "set_iterator.__iter__" ⟨[a], []⟩ := by
  unfold argsOk; rw [signature?_of (id := "set_iterator.__iter__") (n := ['_', '_', 'r', 'e', 't', 'i', '_', '_']) (o := ['r', 'o', 't', 'a', 'r', 'e', 't', 'i', '_', 't', 'e', 's']) (by kernel_rfl) owner_si]; kernel_rfl
theorem entry_set_iter : entryFor table "set.__iter__" = some Builtin.«frozenset.__iter__» :=
  entryFor_alias (id' := "frozenset.__iter__") (by kernel_rfl) rfl (by decide +kernel) (by kernel_rfl)
/-- the walk by the text's own order -/
theorem pick_go {α : Type} (next : Nat → Nat) : ∀ (fuel k : Nat) (left : List α) (out : Array α), left.length = fuel → (pickOrder.go next fuel k left out).toList.Perm (out.toList ++ left)
  | 0, k, left, out, h => by
    have : left = [] := List.length_eq_zero_iff.mp h
    subst this
    show out.toList.Perm (out.toList ++ [])
    rw [List.append_nil]
  | fuel + 1, k, left, out, h => by
    have hlt : next k % left.length < left.length := Nat.mod_lt _ (by omega)
    unfold pickOrder.go
    rw [List.getElem?_eq_getElem hlt]
    dsimp only
    have ih := pick_go next fuel (k + 1) (left.eraseIdx (next k % left.length)) (out.push left[next k % left.length]) (by rw [List.length_eraseIdx_of_lt hlt]; omega)
    refine ih.trans ?_
    rw [Array.toList_push, List.append_assoc]
    refine List.Perm.append_left _ ?_
    generalize next k % left.length = j at hlt
    rw [List.eraseIdx_eq_take_drop_succ]
    have : left = left.take j ++ left[j] :: left.drop (j + 1) := by
      rw [← List.drop_eq_getElem_cons hlt, List.take_append_drop]
    conv => rhs; rw [this]
    exact (show (left[j] :: (left.take j ++ left.drop (j + 1))).Perm _ from List.perm_middle.symm)
theorem pick_perm {α : Type} (next : Nat → Nat) (xs : Array α) : (pickOrder next xs).toList.Perm xs.toList := by
  have := pick_go next xs.size 0 xs.toList #[] (by rw [Array.length_toList])
  simpa [pickOrder] using this
def walkOf (w : World) (a : Addr) (ep : Nat) (es : Array (Int × Value)) : Array (Int × Value) := if byText w = true then pickOrder (w.params.setOrder a ep) es else es
theorem walk_perm (w : World) (a : Addr) (ep : Nat) (es : Array (Int × Value)) : (walkOf w a ep es).toList.Perm es.toList := by
  unfold walkOf; split
  · exact pick_perm _ _
  · exact List.Perm.refl _
theorem walk_size (w : World) (a : Addr) (ep : Nat) (es : Array (Int × Value)) : (walkOf w a ep es).size = es.size := by
  rw [← Array.length_toList, (walk_perm w a ep es).length_eq, Array.length_toList]
def slotN (L : List Nat) : Nat → Nat
  | 0 => 0
  | j + 1 => L.getD j 0 + 1
def slotAt (w : World) (L : List Nat) (i : Nat) : Nat := if byText w = true then 0 else slotN L i
theorem below_all : (subs7.all fun L => (List.range (L.length + 1)).all fun i => decide (SetTable.below L.toArray (slotN L i) = i)) = true := by decide +kernel
theorem below_at {L : List Nat} (hL : L ∈ subs7) {i : Nat} (hi : i ≤ L.length) : SetTable.below L.toArray (slotN L i) = i := by
  have h := List.all_eq_true.mp below_all L hL
  have h2 := List.all_eq_true.mp h i (List.mem_range.mpr (by omega))
  simpa using h2
/-- the set as it stands, walked with nothing changed -/
structure SmallAt (w : World) (h : Heap) (a : Addr) (L : List Nat) (es : Array (Int × Value)) (ep : Nat) : Prop where
  ob : ∃ o, h.get? a = some o ∧ o.ExactSet ∧ o.data = .set es ep (tblOf (!byText w) L)
  ents : Ents es.toList L
  sub : L ∈ subs7
theorem SmallSet.fix {w : World} {h : Heap} {a : Addr} {L : List Nat} (x : SmallSet (!byText w) h a L) : ∃ es ep, SmallAt w h a L es ep := let ⟨o, es, ep, ho, hc, hd, he, hL⟩ := x; ⟨es, ep, ⟨o, ho, hc, hd⟩, he, hL⟩
theorem SmallAt.at {w : World} {h h' : Heap} {a : Addr} {L : List Nat} {es : Array (Int × Value)} {ep : Nat} (x : SmallAt w h a L es ep) (f : ∀ o, h.get? a = some o → h'.get? a = some o) : SmallAt w h' a L es ep :=
  let ⟨⟨o, ho, r⟩, e, l⟩ := x; ⟨⟨o, f o ho, r⟩, e, l⟩
theorem SmallAt.size {w : World} {h : Heap} {a : Addr} {L : List Nat} {es : Array (Int × Value)} {ep : Nat} (x : SmallAt w h a L es ep) : es.size = L.length := by rw [← Array.length_toList]; exact x.ents.length
def IsSetIter (h : Heap) (it a : Addr) (slot i n ep : Nat) : Prop := ∃ o, h.get? it = some o ∧ o.cls = .type "set_iterator" ∧ o.data = .fields #[.int slot 0, .int i 0, .ref a, .int n 0, .int ep 0]
section
variable {prog : Program} {w : World} {A : Around} {E : Value → Shared → Prop} {s : Shared} {a it : Addr} {L : List Nat} {es : Array (Int × Value)} {ep : Nat}
theorem IsSetIter.typeIs {slot i n : Nat} (x : IsSetIter s.heap it a slot i n ep) : s.TypeIs (.ref it) "set_iterator" := let ⟨o, ho, hc, _⟩ := x; ⟨o, ho, hc⟩
theorem IsSetIter.at {h h' : Heap} {slot i n : Nat} (x : IsSetIter h it a slot i n ep) (f : ∀ o, h.get? it = some o → h'.get? it = some o) : IsSetIter h' it a slot i n ep := let ⟨o, ho, r⟩ := x; ⟨o, f o ho, r⟩
theorem byText_ask {Q : Bool → Shared → Prop} (h : Q (byText w) s) : wpAny (model prog w) A setsByText Q E s := by
  unfold setsByText
  exact wpAny_bind (wpAny_askSetting (wpAny_pure h))
theorem iter_small {Q : Value → Shared → Prop} (hm : SmallAt w s.heap a L es ep)
    (hQ : Q (.ref s.heap.objs.size) { s with heap := s.heap.push { cls := .type "set_iterator", data := .fields #[.int 0 0, .int 0 0, .ref a, .int (L.length : Nat) 0, .int ep 0] } }) :
    wpAny (model prog w) A (pyIter (.ref a)) Q E s := by
  obtain ⟨o, ho, hex, hd⟩ := hm.ob
  have hT : s.TypeIs (.ref a) "set" := ⟨o, ho, hex.1⟩
  have hf : (tblOf (!byText w) L).fits es.size = true := by rw [hm.size]; exact tbl_fits hm.sub _
  refine wpAny_pyIter_slot hT F.slot_set_iter (wpAny_call_entry F.slot_set_iter hT entry_set_iter ?_ (F.args_set_iter_1 _))
  unfold Builtin.«frozenset.__iter__»
  refine wpAny_bind ?_
  unfold Builtin.Frozenset.slot0 slotArgs
  simp only [List.isEmpty_nil, Bool.not_true, Bool.false_eq_true, ↓reduceIte, bind_assoc, List.length_nil, bne_self_eq_false]
  unfold Builtin.Frozenset.addrOf
  refine wpAny_bind (wpAny_pure ?_)
  try dsimp only
  refine wpAny_bind (wpAny_pure ?_)
  try dsimp only
  refine wpAny_pure ?_
  unfold Builtin.Frozenset.sizeOf
  refine wpAny_bind (wpAny_bind (wpAny_setEntries_of ho hd hf (wpAny_pure ?_)))
  refine wpAny_bind ?_
  unfold setDrawn
  refine wpAny_bind (wpAny_setState_of ho hd hf ?_)
  refine wpAny_bind (byText_ask ?_)
  refine wpAny_pure ?_
  rw [if_neg (by cases byText w <;> exact Bool.false_ne_true)]
  refine wpAny_bind (wpAny_pure ?_)
  refine wpAny_bind (wpAny_setEpoch_of ho hd hf ?_)
  refine wpAny_bind (wpAny_newObj_type (wpAny_pure ⟨_, rfl, "set_iterator", _, ⟨_, Heap.get?_push_size _ rfl, rfl⟩, slot_si_next.lookup, ?_⟩))
  have hsz := hm.size
  simpa [rawInt, hsz] using hQ
theorem self_small {slot i n : Nat} {Q : Value → Shared → Prop} (hit : IsSetIter s.heap it a slot i n ep) (h : Q (.ref it) s) : wpAny (model prog w) A (pyIter (.ref it)) Q E s := by
  refine wpAny_pyIter_slot hit.typeIs slot_si_iter (wpAny_call_entry slot_si_iter hit.typeIs entry_si_iter ?_ (args_si_iter _))
  show wpAny _ _ (ret (.ref it)) _ _ s
  exact wpAny_pure ⟨_, rfl, "set_iterator", _, hit.typeIs, slot_si_next.lookup, h⟩
end
end PD

set_option Elab.async false
set_option linter.all false
set_option maxRecDepth 100000
set_option maxHeartbeats 4000000
namespace PD
open PySem L2
section
variable {prog : Program} {w : World} {A : Around} {E : Value → Shared → Prop} {s : Shared} {a it : Addr} {L : List Nat} {es : Array (Int × Value)} {ep : Nat}
theorem setNext_small {i : Nat} {Q : Option (Value × Nat) → Shared → Prop} (hm : SmallAt w s.heap a L es ep) (hi : i ≤ L.length)
    (h : Q (((walkOf w a ep es)[i]?).map fun e => (e.2, slotAt w L (i + 1))) s) :
    wpAny (model prog w) A (setNext a (slotAt w L i) i ep) Q E s := by
  obtain ⟨o, ho, hex, hd⟩ := hm.ob
  have hf : (tblOf (!byText w) L).fits es.size = true := by rw [hm.size]; exact tbl_fits hm.sub _
  unfold setNext
  refine wpAny_bind (wpAny_setState_of ho hd hf ?_)
  dsimp only
  refine wpAny_bind (byText_ask ?_)
  cases hb : byText w with
  | true =>
    simp only [↓reduceIte, bne_self_eq_false, Bool.false_eq_true]
    refine wpAny_bind ?_
    unfold setWalk
    rw [hb] at hd hf
    refine wpAny_bind (wpAny_setState_of ho hd hf ?_)
    dsimp only
    refine wpAny_bind (byText_ask ?_)
    rw [hb]
    simp only [↓reduceIte]
    refine wpAny_bind (wpAny_askSetting (wpAny_pure ?_))
    refine wpAny_pure ?_
    unfold walkOf slotAt at h
    rw [hb] at h
    have h1 : Q (Option.map (fun e => (e.snd, 0)) (pickOrder (w.params.setOrder a ep) es)[i]?) s := by simpa using h
    have h' : Q (Option.map (fun e => (e.snd, 0)) (pickOrder ((model prog w).w.params.setOrder a ep) es)[i]?) s := h1
    simpa [slotAt, hb] using h'
  | false =>
    simp only [Bool.false_eq_true, ↓reduceIte]
    rw [if_neg (by exact Bool.false_ne_true)]
    refine wpAny_bind (wpAny_pure ?_)
    refine wpAny_pure ?_
    have hbl : SetTable.below (tblOf (!false) L).place (slotAt w L i) = i := by
      have : slotAt w L i = slotN L i := by unfold slotAt; rw [hb]; rfl
      rw [this]; exact below_at hm.sub hi
    rw [hbl]
    have hpl : (tblOf (!false) L).place[i]? = L[i]? := by show L.toArray[i]? = _; simp
    rw [hpl]
    have hw : walkOf w a ep es = es := by unfold walkOf; rw [hb]; rfl
    rw [hw] at h
    cases hL : L[i]? with
    | none =>
      have : es[i]? = none := by
        rw [Array.getElem?_eq_none_iff, hm.size]
        exact List.getElem?_eq_none_iff.mp hL
      rw [this] at h ⊢
      exact h
    | some j =>
      obtain ⟨hlt, hj⟩ := List.getElem?_eq_some_iff.mp hL
      have hlt' : i < es.size := by rw [hm.size]; exact hlt
      rw [Array.getElem?_eq_getElem hlt'] at h ⊢
      have hs : slotAt w L (i + 1) = j + 1 := by
        unfold slotAt; rw [hb]
        show L.getD i 0 + 1 = j + 1
        rw [List.getD_eq_getElem?_getD, hL]; rfl
      rw [hs] at h
      exact h
theorem next_small {i : Nat} {Q : Option Value → Shared → Prop} (hit : IsSetIter s.heap it a (slotAt w L i) i L.length ep) (hne : a ≠ it) (hm : SmallAt w s.heap a L es ep) {e : Int × Value} (hx : (walkOf w a ep es)[i]? = some e)
    (hQ : ∀ h', IsSetIter h' it a (slotAt w L (i + 1)) (i + 1) L.length ep → Heap.SameBut it s.heap h' → Q (some e.2) { s with heap := h' }) :
    wpAny (model prog w) A (pyNext (.ref it)) Q E s := by
  obtain ⟨o, ho, hc, hd⟩ := id hit
  obtain ⟨os, hos, hexs, hds⟩ := hm.ob
  have hf : (tblOf (!byText w) L).fits es.size = true := by rw [hm.size]; exact tbl_fits hm.sub _
  have hi : i ≤ L.length := by
    have := (Array.getElem?_eq_some_iff.mp hx).1
    rw [walk_size, hm.size] at this; omega
  unfold pyNext
  refine wpAny_bind (wpAny_attempt (wpAny_callSpecial?_slot (name := Str.ofString "__next__") hit.typeIs slot_si_next
    (wpAny_call_entry slot_si_next hit.typeIs entry_si_next ?_ (args_si_next _))))
  unfold Builtin.«set_iterator.__next__»
  refine wpAny_bind ?_
  unfold slotArgs
  simp only [List.isEmpty_nil, Bool.not_true, Bool.false_eq_true, ↓reduceIte, List.length_nil, bne_self_eq_false]
  refine wpAny_pure ?_
  dsimp only
  refine wpAny_bind (wpAny_fieldsOf ho hd ?_)
  dsimp only
  refine wpAny_bind (wpAny_setEntries_of hos hds hf ?_)
  rw [if_neg (by rw [hm.size]; simp)]
  refine wpAny_bind ?_
  simp only [Int.toNat_natCast]
  refine setNext_small hm hi ?_
  rw [hx]
  dsimp only [Option.map_some]
  refine wpAny_bind (wpAny_setField ho hd (by simp) ?_)
  have ho1 := Heap.get?_update_self (Obj.mapFields (·.setIfInBounds 0 (rawInt (slotAt w L (i + 1))))) ho (Obj.isFreed_of_fields (Obj.data_mapFields hd _))
  have hd1 := Obj.data_mapFields hd (fun vs => vs.setIfInBounds 0 (rawInt (slotAt w L (i + 1))))
  refine wpAny_bind (wpAny_setField ho1 hd1 (by simp) ?_)
  have ho2 := Heap.get?_update_self (Obj.mapFields (·.setIfInBounds 1 (rawInt ((i : Int) + 1)))) ho1 (Obj.isFreed_of_fields (Obj.data_mapFields hd1 _))
  have hd2 := Obj.data_mapFields hd1 (fun vs => vs.setIfInBounds 1 (rawInt ((i : Int) + 1)))
  refine wpAny_pure ⟨_, rfl, wpAny_pure (hQ _ ⟨_, ho2, ?_, ?_⟩ ((Heap.SameBut.update ..).trans (Heap.SameBut.update ..)))⟩
  · exact (Obj.cls_mapFields ..).trans ((Obj.cls_mapFields ..).trans hc)
  · rw [hd2]; simp [rawInt]
theorem end_small {i : Nat} {Q : Option Value → Shared → Prop} (hh : A.handled = none) (hit : IsSetIter s.heap it a (slotAt w L i) i L.length ep) (hm : SmallAt w s.heap a L es ep) (hi : i = L.length)
    (hQ : ∀ h', Heap.ExtBut it s.heap h' → Q none { s with heap := h' }) :
    wpAny (model prog w) A (pyNext (.ref it)) Q E s := by
  obtain ⟨o, ho, hc, hd⟩ := id hit
  obtain ⟨os, hos, hexs, hds⟩ := hm.ob
  have hf : (tblOf (!byText w) L).fits es.size = true := by rw [hm.size]; exact tbl_fits hm.sub _
  have hx : (walkOf w a ep es)[i]? = none := by
    rw [Array.getElem?_eq_none_iff, walk_size, hm.size]; omega
  unfold pyNext
  refine wpAny_bind (wpAny_attempt (wpAny_callSpecial?_slot (name := Str.ofString "__next__") hit.typeIs slot_si_next
    (wpAny_call_entry slot_si_next hit.typeIs entry_si_next ?_ (args_si_next _))))
  unfold Builtin.«set_iterator.__next__»
  refine wpAny_bind ?_
  unfold slotArgs
  simp only [List.isEmpty_nil, Bool.not_true, Bool.false_eq_true, ↓reduceIte, List.length_nil, bne_self_eq_false]
  refine wpAny_pure ?_
  dsimp only
  refine wpAny_bind (wpAny_fieldsOf ho hd ?_)
  dsimp only
  refine wpAny_bind (wpAny_setEntries_of hos hds hf ?_)
  rw [if_neg (by rw [hm.size]; simp)]
  refine wpAny_bind ?_
  simp only [Int.toNat_natCast]
  refine setNext_small hm (by omega) ?_
  rw [hx]
  dsimp only [Option.map_none]
  refine wpAny_bind (wpAny_setField ho hd (by simp) ?_)
  show wpAny _ _ (newExc (.type "StopIteration") [] >>= _) _ _ _
  refine wpAny_bind ?_
  simp only [newExc, newTuple]
  refine wpAny_bind (wpAny_newObj_type ?_ (by size_fits))
  refine wpAny_bind (m := firstArgMember _ _) (wpAny_of_eq (a := Value.none) (by first | rfl | (simp only [firstArgMember]; rfl)) ?_)
  refine wpAny_newObj_type ?_ (by size_fits)
  simp only [raiseNew]
  refine wpAny_bind (wpAny_handled ?_)
  rw [show A.in1.handled = none from hh]
  refine wpAny_bind (wpAny_pure (wpAny_throw ?_))
  refine wpAny_bind (wpAny_isInstance (T := "StopIteration") (b := true) ⟨_, Heap.get?_push_size _ rfl, rfl⟩ isSubtype_stop ?_)
  exact wpAny_pure (hQ _ (((Heap.SameBut.update ..).extBut.push _).push _))
theorem walks_small (hh : A.handled = none) (I : Addr) (hne : a ≠ I) (L : List Nat) (es : Array (Int × Value)) (ep : Nat) :
    PySem.Walks prog w A I [I, a] [I] L.length (fun i v => ∃ e, (walkOf w a ep es)[i]? = some e ∧ v = e.2) (fun i h => IsSetIter h I a (slotAt w L i) i L.length ep ∧ SmallAt w h a L es ep) where
  sub := fun b hb => by simp at hb; simp [hb]
  frame := fun _ _ _ st hk => ⟨st.1.at fun o e => hk I (by simp) o e, st.2.at fun o e => hk a (by simp) o e⟩
  item := fun i s Q E hi st hQ => by
    have hlt : i < (walkOf w a ep es).size := by rw [walk_size, st.2.size]; exact hi
    refine next_small st.1 hne st.2 (Array.getElem?_eq_getElem hlt) fun h' hit' hs' => ?_
    exact hQ _ h' s.toks ⟨_, Array.getElem?_eq_getElem hlt, rfl⟩ ⟨hit', st.2.at fun o e => hs'.extBut a o hne e⟩ fun b o hb e => hs'.extBut b o (fun h => hb (by simp [h])) e
  done := fun s Q E st hQ => end_small hh st.1 st.2 rfl fun h' he' => hQ h' s.toks fun b o hb e => he' b o (fun h => hb (by simp [h])) e
  self := fun _ _ _ _ st hQ => self_small st.1 hQ
theorem hint_small (hT : s.TypeIs (.ref a) "set") {Q : Bool → Shared → Prop} (h : Q false s) : wpAny (model prog w) A (Builtin.List.listLengthHint (.ref a)) Q E s := by
  unfold Builtin.List.listLengthHint
  refine wpAny_bind (wpAny_specialOf hT PySem.F.slot_set_len.lookup ?_)
  generalize hid : ("set.__len__" : String) = id0
  wp_delta
  rw [show splitId id0 = some ("set", "__len__") from by subst hid; decide +kernel]
  subst hid
  refine wpAny_bind (wpAny_isInstance (T := "set") (b := true) hT (by rw [isSubtype_type]; kernel_rfl) ?_)
  refine wpAny_ite_split (fun hab => absurd hab (by decide)) (fun _ => ?_)
  refine wpAny_ite_split (fun _ => ?_) (fun hab => absurd (by decide +kernel) hab)
  refine wpAny_bind (wpAny_typeOf hT ?_)
  exact wpAny_pure h
theorem src_small : PySem.W.KdlSrc prog w "set" a a L.length (fun i v => ∃ e, (walkOf w a ep es)[i]? = some e ∧ v = e.2) (fun h => SmallAt w h a L es ep) where
  type := fun _ hm => let ⟨o, ho, hc, _⟩ := hm.ob; ⟨o, ho, hc.1⟩
  there := fun _ hm => let ⟨o, ho, _⟩ := hm.ob; ⟨Heap.lt_size ho, Heap.lt_size ho⟩
  keep := fun _ _ hm hk => hm.at fun o e => hk a (.inl rfl) o e
  notList := by decide
  notTuple := by decide
  hint := fun _ _ _ _ hm hq => hint_small (let ⟨o, ho, hc, _⟩ := hm.ob; ⟨o, ho, hc.1⟩) hq
  iter := fun A s hh hm => ⟨_, _, (fun _ _ hq => iter_small hm hq), walks_small hh _ (let ⟨o, ho, _⟩ := hm.ob; Nat.ne_of_lt (Heap.lt_size ho)) L es ep, ⟨_, Heap.get?_push_size _ rfl, rfl, by
    have : slotAt w L 0 = 0 := by unfold slotAt; split <;> rfl
    rw [this]; rfl⟩, hm.at fun o e => Heap.get?_push_of_some _ e⟩
end
end PD

set_option Elab.async false
set_option linter.all false
set_option maxRecDepth 100000
set_option maxHeartbeats 4000000
namespace PD
open PySem L2

def fill (G H H' : Hp) : Hp := fun b => match H b with
  | none => H' b
  | some _ => G b
theorem fill_new {G H H' : Hp} {b : Addr} (h : H b = none) : fill G H H' b = H' b := by unfold fill; rw [h]
theorem grow_fill {G H H' : Hp} (sub : Same G H) (hh : Same H H') : Grow G H (fill G H H') H' where
  gg := fun b u q => by unfold fill; rw [sub b u q]; exact q
  hh := hh
  gh := fun b u q => by
    unfold fill at q
    cases e : H b with
    | none => rw [e] at q; exact q
    | some v => rw [e] at q; exact hh b u (sub b u q)
  fr := fun b q q' => by
    cases e : H b with
    | none => rfl
    | some v => unfold fill at q'; rw [e] at q'; exact absurd q q'
theorem hok_many {P : Program} {w : World} {H H' : Hp} {h h' : Heap} (x : HOk P w H h) (k : ∀ b u, h.get? b = some u → h'.get? b = some u) (hs : Same H H') (new : ∀ a o, H a = none → H' a = some o → ObjOk P w H' h' a o) : HOk P w H' h' := fun a o e => by
  cases q : H a with
  | none => exact new a o q e
  | some u =>
    have : u = o := by have := hs a u q; rw [e] at this; cases this; rfl
    subst this
    exact (x a u q).stay (fun b u _ r => k b u r) (fun b r => hs b _ r) fun b xs r => hs b _ r
theorem inv_many {X : Cx} {pins : List (Addr × Obj)} {σ : List (Option V)} {H H' : Hp} {s : Shared} {h' : Heap} {t' : Nat} (I : Inv X pins σ H s) (k : ∀ b u, s.heap.get? b = some u → h'.get? b = some u) (hs : Same H H')
    (hn : ∀ b, H b = none → H' b ≠ none → s.heap.get? b = none) (new : ∀ a o, H a = none → H' a = some o → ObjOk X.prog X.w H' h' a o) : Inv X pins σ H' { s with heap := h', toks := t' } :=
  I.un ⟨fun b u q _ _ _ => k b u q, fun b u q _ _ _ => ⟨u.slots, k b u q⟩, fun b u q n _ => by
    cases e : H' b with
    | none => rfl
    | some v => exact absurd ((hn b n (by rw [e]; simp)).symm.trans q) (by simp), fun b u q _ => ⟨u, k b u q⟩, fun b xs q => hs b _ q, fun b o u q => hs b _ q, fun b ps q => ⟨#[], by rw [hs b _ q]; simp⟩⟩ (hok_many I.hok k hs new)

def setO (w : World) (a : Addr) (L : List Nat) : HO := .ext fun h => SmallSet (!byText w) h a L
theorem setO_ok {P : Program} {w : World} {H : Hp} {h : Heap} {a : Addr} {L : List Nat} (x : SmallSet (!byText w) h a L) : ObjOk P w H h a (setO w a L) :=
  ⟨x, let ⟨o, _, _, ho, _⟩ := x; ⟨o, ho⟩, fun _ _ y f => y.at f⟩
theorem setO_get {P : Program} {w : World} {H : Hp} {h : Heap} {a : Addr} {L : List Nat} (x : HOk P w H h) (e : H a = some (setO w a L)) : SmallSet (!byText w) h a L := (x a _ e).1
section
variable {X : Cx} {pins : List (Addr × Obj)} {s : Shared} {σ : L2.St} {H : Hp}
/-- a number put into it -/
theorem add_ok {E : Value → Shared → Prop} {D : Addr} {L : List Nat} {k : Nat} {v : Value} {Q : Value → Shared → Prop} (I : Inv X pins σ H s) (hD : H D = some (setO X.w D L)) (hk : k < 7) (r : RelV (.int k) v)
    (h : ∀ s', Inv X pins σ (upd H D (setO X.w D (addN k L))) s' → Q .none s') : wpAny (model X.prog X.w) X.A (call (.builtin "set.add") [.ref D, v]) Q E s := by
  obtain ⟨t, rfl⟩ := r
  refine call_add_small hk (setO_get I.hok hD) fun h' sb hS' => ?_
  refine h _ (I.write (t' := s.toks + 1) (by rw [hD]; trivial) (.inl rfl) (fun b u hb q => (sb.2 b hb).trans q) (let ⟨o, _, _, ho, _⟩ := hS'; ⟨o, ho⟩) (setO_ok hS'))
def rSortedSet (w : World) : List V → Hp → VK → Prop := fun vs H Q => ∃ a L, vs = [V.ref a] ∧ H a = some (setO w a L) ∧ ∀ p, H p = none → Q (.ref p) (upd H p (.lst (L.map fun (n : Nat) => V.int n)))
theorem ents_vals : ∀ {es : List (Int × Value)} {L : List Nat}, Ents es L → PyProof.Rows.IntsAre (es.map (·.2)) (L.map fun (n : Nat) => (n : Int))
  | _, _, .nil => .nil
  | _, _, .cons g => .cons _ _ (ents_vals g)
theorem intsAre_perm {l l' : List Value} (p : l'.Perm l) : ∀ {ns : List Int}, PyProof.Rows.IntsAre l ns → ∃ ns', PyProof.Rows.IntsAre l' ns' ∧ ns'.Perm ns := by
  induction p with
  | nil => intro ns h; exact ⟨ns, h, .refl _⟩
  | cons x _ ih => intro ns h; cases h with
    | cons n t h => obtain ⟨ns', h1, h2⟩ := ih h; exact ⟨n :: ns', .cons n t h1, h2.cons _⟩
  | swap x y l => intro ns h; cases h with
    | cons n t h => cases h with
      | cons m u h => exact ⟨_, .cons _ _ (.cons _ _ h), .swap _ _ _⟩
  | trans _ _ ih1 ih2 => intro ns h; obtain ⟨a, h1, h2⟩ := ih2 h; obtain ⟨b, h3, h4⟩ := ih1 h1; exact ⟨b, h3, h4.trans h2⟩
end
section
variable {prog : Program} {w : World} {A : Around} {E : Value → Shared → Prop} {s : Shared} {T : String} {r d : Addr} {n : Nat} {P : Nat → Value → Prop} {OK : Heap → Prop}
theorem fresh_of {h h' : Heap} (hk : ∀ b o, h.get? b = some o → h'.get? b = some o) {B : Addr} (hB : h'.objs.size ≤ B) : h.get? B = none := by
  cases e : h.get? B with
  | none => rfl
  | some o => exact absurd (Heap.lt_size (hk B o e)) (Nat.not_lt.mpr hB)
theorem sorted_src_ints (K : PySem.W.KdlSrc prog w T r d n P OK) (hh : A.handled = none) (hok : OK s.heap) (hn : n ≤ sizeLine) {ns : List Int} {Q : Value → Shared → Prop}
    (hI : ∀ acc : List Value, acc.length = n → (∀ j v, acc[j]? = some v → P j v) → ∃ ms, PyProof.Rows.IntsAre acc ms ∧ ms.Perm ns)
    (h : ∀ (h' : Heap) (tk : Nat) (B : Addr) (out : Array Value) (ns' : List Int) (e : Nat), (∀ b o, s.heap.get? b = some o → h'.get? b = some o) → s.heap.get? B = none → h'.get? B = some (PyProof.Rows.seqObj "list" out e) →
      PyProof.Rows.IntsAre out.toList ns' → ns'.Perm ns → ns'.Pairwise (· ≤ ·) → Q (.ref B) { s with heap := h', toks := tk }) :
    wpAny (model prog w) A (call (.builtin "sorted") [.ref r]) Q E s := by
  refine PySem.Calls.call_function_entry PyProof.Rows.kind_sorted PyProof.Rows.plain_sorted PyProof.Rows.entry_sorted (PyProof.Rows.args_sorted1 _) ?_
  unfold Builtin.«sorted»
  refine wpAny_bind (m := checkCount "sorted" 1 1 _) (wpAny_pure ?_)
  refine wpAny_bind (PySem.W.kdu_collect (A := A.in1) K hh hok hn fun h' tk acc hk hacc => ?_)
  obtain ⟨ms, hms, hp⟩ := hI acc.toList (by rw [Array.length_toList]; exact hacc.1) fun j v e => hacc.2 j v (by rw [← Array.getElem?_toList]; exact e)
  have hlen : acc.toList.length ≤ sizeLine := by rw [Array.length_toList]; rw [show acc.size = n from hacc.1]; exact hn
  refine wpAny_bind (wpAny_newList ?_ hlen)
  have hoL : (h'.push (PyProof.Rows.seqObj "list" acc.toList.toArray 0)).get? h'.objs.size = some (PyProof.Rows.seqObj "list" acc.toList.toArray 0) := Heap.get?_push_size _ rfl
  refine wpAny_bind (wpAny_holding (wpAny_call_entry PyProof.Rows.slot_list_sort ⟨_, hoL, rfl⟩ PyProof.Rows.entry_list_sort (PyProof.Rows.list_sort_treeAny (s := { s with heap := h'.push (PyProof.Rows.seqObj "list" acc.toList.toArray 0), toks := tk }) hoL hms hlen fun out ns' a1 a2 a3 => ⟨_, rfl, ?_⟩) (PyProof.Rows.args_list_sort _)))
  obtain ⟨e, he⟩ := PyProof.Rows.sortedHeap_at (vs := acc.toList) (out := out) hoL
  refine wpAny_pure ⟨_, rfl, h _ tk _ out ns' e (fun b o q => ?_) (fresh_of hk (Nat.le_refl _)) he a1 (a2.trans hp) a3⟩
  have hb := Heap.lt_size (hk b o q)
  rw [PyProof.Rows.sortedHeap_old (Nat.ne_of_lt hb) (by rw [PyProof.Rows.size_push']; exact Nat.lt_succ_of_lt hb), Heap.get?_push_ne _ _ _ (Nat.ne_of_lt hb)]
  exact hk b o q
end
end PD

set_option Elab.async false
set_option linter.all false
set_option maxRecDepth 100000
set_option maxHeartbeats 4000000
namespace PD
open PySem L2 PyProof.Rows

theorem paired_perm {α β : Type} {R : α → β → Prop} {l l' : List α} (p : l'.Perm l) : ∀ {m : List β}, Paired R l m → ∃ m', Paired R l' m' ∧ m'.Perm m := by
  induction p with
  | nil => intro m h; exact ⟨m, h, .refl _⟩
  | cons x _ ih => intro m h; cases h with
    | cons r t => obtain ⟨m', h1, h2⟩ := ih t; exact ⟨_ :: m', .cons r h1, h2.cons _⟩
  | swap x y l => intro m h; cases h with
    | cons r t => cases t with
      | cons r' t' => exact ⟨_, .cons r' (.cons r t'), .swap _ _ _⟩
  | trans _ _ ih1 ih2 => intro m h; obtain ⟨a, h1, h2⟩ := ih2 h; obtain ⟨b, h3, h4⟩ := ih1 h1; exact ⟨b, h3, h4.trans h2⟩
theorem paired_get {α β : Type} {R : α → β → Prop} : ∀ {l : List α} {m : List β} {i : Nat} {b : β}, Paired R l m → m[i]? = some b → ∃ a, l[i]? = some a ∧ R a b
  | _, _, i, b, .nil, h => by simp at h
  | _, _, 0, b, .cons r t, h => by simp at h; subst h; exact ⟨_, rfl, r⟩
  | _, _, i + 1, b, .cons r t, h => by
    obtain ⟨a, h1, h2⟩ := paired_get (i := i) (b := b) t (by simpa using h)
    exact ⟨a, by simpa using h1, h2⟩
theorem sorted_gen {κ : PyProof.Rows.KeyKind} {R : Value → PyData → Prop} {arr : Array Keyed} {vs : List Value} {ds : List PyData} (hp : arr.Perm (pairsOf vs)) (hs : SortedToK κ arr (pairsOf vs).size) (hR : Paired R vs ds) (kd : PyData → κ.α)
    (hk : ∀ v d, R v d → d ∈ ds → κ.keyOf v = some (kd d)) : ∃ ds' : List PyData, ds'.Perm ds ∧ Paired R (arr.map (·.2)).toList ds' ∧ ds'.Pairwise (fun a b => κ.kle (kd a) (kd b)) := by
  have hl : arr.toList.Perm (vs.zip vs) := by rw [← pairsOf_toList]; exact Array.perm_iff_toList_perm.mp hp
  have hmem : ∀ p, p ∈ arr.toList → p.1 = p.2 ∧ p.1 ∈ vs := fun p hp' => mem_zip_self (hl.mem_iff.mp hp')
  have hout : (arr.map (·.2)).toList.Perm vs := by
    rw [Array.toList_map]
    have := hl.map (·.2)
    rwa [List.map_snd_zip (Nat.le_refl _)] at this
  obtain ⟨ds', h1, h2⟩ := paired_perm hout hR
  refine ⟨ds', h2, h1, ?_⟩
  have hlen : ds'.length = arr.size := by
    have := Paired.length h1
    rw [Array.length_toList, Array.size_map] at this
    exact this.symm
  have hsz : (pairsOf vs).size = arr.size := by rw [← hp.size_eq]
  have key : ∀ i (hi : i < ds'.length), KK κ arr i = kd ds'[i] := fun i hi => by
    obtain ⟨v, e, r⟩ := paired_get h1 (List.getElem?_eq_getElem hi)
    have hi' : i < arr.size := by omega
    have ev : v = arr[i].2 := by
      rw [Array.getElem?_toList, Array.getElem?_map, Array.getElem?_eq_getElem hi'] at e
      cases e; rfl
    have e1 : arr[i].1 = arr[i].2 := (hmem arr[i] (by rw [Array.mem_toList_iff]; exact Array.getElem_mem hi')).1
    unfold KK
    rw [Array.getElem?_eq_getElem hi']
    dsimp only
    rw [e1, ← ev, hk v ds'[i] r (h2.mem_iff.mp (List.getElem_mem hi))]; rfl
  rw [List.pairwise_iff_getElem]
  intro i j hi hj hij
  rw [← key i hi, ← key j hj]
  exact hs i j (Nat.le_of_lt hij) (by omega)
/-- the sorted row, by a key -/
def sortK (κ : KeyOrd) (kd : PyData → κ.α) (ds : List PyData) : List PyData := ds.mergeSort fun a b => !κ.blt (kd b) (kd a)
theorem sortK_perm (κ : KeyOrd) (kd : PyData → κ.α) (ds : List PyData) : (sortK κ kd ds).Perm ds := List.mergeSort_perm ..
theorem kle_trans {κ : KeyOrd} {a b c : κ.α} (h1 : κ.blt b a = false) (h2 : κ.blt c b = false) : κ.blt c a = false := by
  cases h : κ.blt c a with
  | false => rfl
  | true => rcases κ.negTrans c b a h with h | h
            · rw [h] at h2; cases h2
            · rw [h] at h1; cases h1
theorem sortK_up (κ : KeyOrd) (kd : PyData → κ.α) (ds : List PyData) : (sortK κ kd ds).Pairwise (fun a b => κ.kle (kd a) (kd b)) := by
  have := List.pairwise_mergeSort (le := fun a b => !κ.blt (kd b) (kd a)) (fun a b c h1 h2 => by
    simp only [Bool.not_eq_true'] at h1 h2 ⊢; exact kle_trans h1 h2) (fun a b => by
    cases h : κ.blt (kd b) (kd a) with
    | false => simp
    | true =>
      cases h' : κ.blt (kd a) (kd b) with
      | false => simp
      | true => have := κ.trans _ _ _ h h'; rw [κ.irrefl] at this; cases this) ds
  exact this.imp fun h => by simpa [KeyOrd.kle] using h
theorem sortK_one {κ : KeyOrd} {kd : PyData → κ.α} {ds ds' : List PyData} (hp : ds'.Perm ds) (hs : ds'.Pairwise (fun a b => κ.kle (kd a) (kd b))) (inj : ∀ a b, a ∈ ds → b ∈ ds → kd a = kd b → a = b) : ds' = sortK κ kd ds :=
  List.Perm.eq_of_pairwise (fun a b ha hb h1 h2 => inj a b (hp.mem_iff.mp ha) ((sortK_perm κ kd ds).mem_iff.mp hb) (κ.total _ _ h2 h1)) hs (sortK_up κ kd ds) (hp.trans (sortK_perm κ kd ds).symm)
def dk1 : PyData → Int ⊕ List Nat
  | .int i => .inl i
  | .str x => .inr x.cps.toList
  | _ => .inl 0
def dkT : PyData → List (Int ⊕ List Nat)
  | .tuple ds => ds.map dk1
  | _ => []
def shp1 : PyData → Option Bool
  | .int _ => some false
  | .str _ => some true
  | _ => none
def shpAt (sh : List Bool) : List PyData → Bool
  | [] => sh.isEmpty
  | d :: ds => match sh with
    | b :: bs => (shp1 d == some b) && shpAt bs ds
    | [] => false
def shpT (sh : List Bool) : PyData → Bool
  | .tuple ds => shpAt sh ds
  | _ => false
theorem dk1_inj {b : Bool} : ∀ {x y : PyData}, (shp1 x == some b) = true → (shp1 y == some b) = true → dk1 x = dk1 y → x = y := by
  intro x y hx hy e
  cases x <;> cases y <;> cases b <;> simp_all [shp1, dk1]
  rename_i a c
  cases a; cases c
  simp_all
theorem dkAt_inj : ∀ {sh : List Bool} {xs ys : List PyData}, shpAt sh xs = true → shpAt sh ys = true → xs.map dk1 = ys.map dk1 → xs = ys
  | _, [], [], _, _, _ => rfl
  | _, [], _ :: _, _, _, e => by simp at e
  | _, _ :: _, [], _, _, e => by simp at e
  | [], _ :: _, _ :: _, h, _, _ => by simp [shpAt] at h
  | b :: bs, x :: xs, y :: ys, h1, h2, e => by
    simp only [shpAt, Bool.and_eq_true] at h1 h2
    simp only [List.map_cons, List.cons.injEq] at e
    rw [dk1_inj h1.1 h2.1 e.1, dkAt_inj h1.2 h2.2 e.2]
theorem dkT_inj {sh : List Bool} {x y : PyData} (hx : shpT sh x = true) (hy : shpT sh y = true) (e : dkT x = dkT y) : x = y := by
  cases x <;> simp [shpT] at hx
  cases y <;> simp [shpT] at hy
  exact congrArg PyData.tuple (dkAt_inj hx hy e)
def sortT (ds : List PyData) : List PyData := sortK (PyProof.Rows.listOrd PyProof.Rows.itemOrd) dkT ds
end PD

set_option Elab.async false
set_option linter.all false
set_option maxRecDepth 100000
set_option maxHeartbeats 4000000
namespace PD
open PySem L2 PyProof.Rows
section
variable {X : Cx} {pins : List (Addr × Obj)} {s : Shared} {σ : L2.St} {H G : Hp}
def shpF (sh : List Bool) : Nat → Bool := fun i => sh.getD i false
theorem items_key {K : PySem.W.Frag} {H : Hp} (sh : List Bool) : ∀ (xs : List V) (ds : List PyData) (its : List Value) (i : Nat), Vals xs its → RpAll K H xs ds → shpAt (sh.drop i) ds = true → tupItems (shpF sh) i its = some (ds.map dk1)
  | _, _, _, i, .nil, .nil, _ => rfl
  | _, _, _, i, .cons r t, .cons p ps, h => by
    cases hd : sh.drop i with
    | nil => rw [hd] at h; simp [shpAt] at h
    | cons b bs =>
      rw [hd] at h
      simp only [shpAt, Bool.and_eq_true] at h
      have hb : shpF sh i = b := by
        unfold shpF
        rw [List.getD_eq_getElem?_getD]
        have := List.getElem?_drop (xs := sh) (i := i) (j := 0)
        rw [hd] at this
        simp at this
        rw [← this]; rfl
      have hbs : sh.drop (i + 1) = bs := by
        have := List.drop_drop (i := 1) (j := i) (l := sh)
        rw [hd] at this
        simpa using this.symm
      have ih := items_key sh _ _ _ (i + 1) t ps (by rw [hbs]; exact h.2)
      cases p with
      | int n =>
        obtain ⟨k, rfl⟩ := (show ∃ k, _ = Value.int n k from r)
        have : b = false := by have := h.1; simp [shp1] at this; exact this
        show (if shpF sh i = true then none else (tupItems (shpF sh) (i + 1) _).map (Sum.inl n :: ·)) = _
        rw [hb, this, if_neg Bool.false_ne_true, ih]; rfl
      | str x =>
        obtain ⟨k, rfl⟩ := (show ∃ k, _ = Value.str x k from r)
        have : b = true := by have := h.1; simp [shp1] at this; exact this
        show (if shpF sh i = true then (tupItems (shpF sh) (i + 1) _).map (Sum.inr x.cps.toList :: ·) else none) = _
        rw [hb, this, if_pos rfl, ih]; rfl
      | non => simp [shp1] at h
      | bl _ => simp [shp1] at h
      | lst _ _ => simp [shp1] at h
      | tup _ _ => simp [shp1] at h
      | dct _ _ => simp [shp1] at h
/-- one tuple of the heap and its key -/
theorem tup_read (I : Inv X pins σ H s) {v : Value} {x : V} {d : PyData} (sh : List Bool) (r : RelV x v) (p : Rp X.K H x d) (hs : shpT sh d = true) :
    ∃ a o its n, v = .ref a ∧ s.heap.get? a = some o ∧ o.cls = .type "tuple" ∧ o.data = .seq its n ∧ tupItems (shpF sh) 0 its.toList = some (dkT d) ∧ (∀ b bs, sh = b :: bs → ∃ f, its[0]? = some f ∧ (shpF sh 0 = false → ∃ k t, f = .int k t) ∧ (shpF sh 0 = true → ∃ y t, f = .str y t)) := by
  cases p with
  | tup h1 h2 =>
    rename_i a xs ds
    obtain rfl : v = .ref a := r
    obtain ⟨its, rv, ⟨o, ho, hc, n, hd⟩, _⟩ := I.tuple h1
    have hk := items_key sh xs ds its 0 rv h2 hs
    refine ⟨a, o, its.toArray, n, rfl, ho, hc, hd, by rw [List.toList_toArray]; exact hk, fun b bs e => ?_⟩
    subst e
    cases ds with
    | nil => simp [shpT, shpAt] at hs
    | cons d ds =>
      cases h2 with
      | cons p ps =>
        cases rv with
        | cons r t =>
          refine ⟨_, rfl, ?_, ?_⟩
          · intro hb
            have hb : b = false := hb
            subst hb
            simp only [shpT, shpAt, Bool.and_eq_true] at hs
            cases p with
            | int n => obtain ⟨k, rfl⟩ := (show ∃ k, _ = Value.int n k from r); exact ⟨n, k, rfl⟩
            | _ => simp [shp1] at hs
          · intro hb
            have hb : b = true := hb
            subst hb
            simp only [shpT, shpAt, Bool.and_eq_true] at hs
            cases p with
            | str n => obtain ⟨k, rfl⟩ := (show ∃ k, _ = Value.str n k from r); exact ⟨n, k, rfl⟩
            | _ => simp [shp1] at hs
  | _ => simp [shpT] at hs
abbrev RD (K : PySem.W.Frag) (H : Hp) (v : Value) (d : PyData) : Prop := ∃ x : V, RelV x v ∧ Rp K H x d
theorem paired_rd {K : PySem.W.Frag} {H : Hp} : ∀ {xs : List V} {vs : List Value} {ds : List PyData}, Vals xs vs → RpAll K H xs ds → Paired (RD K H) vs ds
  | _, _, _, .nil, .nil => .nil
  | _, _, _, .cons r t, .cons p ps => .cons ⟨_, r, p⟩ (paired_rd t ps)
theorem rd_paired {K : PySem.W.Frag} {H : Hp} : ∀ {vs : List Value} {ds : List PyData}, Paired (RD K H) vs ds → ∃ xs, Vals xs vs ∧ RpAll K H xs ds
  | _, _, .nil => ⟨[], .nil, .nil⟩
  | _, _, .cons ⟨x, r, p⟩ t => let ⟨xs, h1, h2⟩ := rd_paired t; ⟨x :: xs, .cons r h1, .cons p h2⟩
theorem tups_of (I : Inv X pins σ H s) (b : Bool) (bs : List Bool) : ∀ {vs : List Value} {ds : List PyData}, Paired (RD X.K H) vs ds → (∀ d ∈ ds, shpT (b :: bs) d = true) → ∃ fs, TupsOf s.heap (shpF (b :: bs)) vs fs
  | _, _, .nil, _ => ⟨[], .nil⟩
  | _, _, .cons ⟨x, r, p⟩ t, h => by
    obtain ⟨fs, hf⟩ := tups_of I b bs t fun d hd => h d (List.mem_cons_of_mem _ hd)
    obtain ⟨a, o, its, n, rfl, ho, hc, hd, _, hfst⟩ := tup_read I (b :: bs) r p (h _ (List.mem_cons_self ..))
    obtain ⟨f, e1, e2, e3⟩ := hfst b bs rfl
    exact ⟨f :: fs, .cons ⟨a, o, its, n, rfl, ho, hc, hd, e1, e2, e3⟩ hf⟩
theorem sort_tracked {A : Around} {E : Value → Shared → Prop} {B : Addr} {xs : List V} {ds : List PyData} {b : Bool} {bs : List Bool} {Q : Value → Shared → Prop} (I : Inv X pins σ H s) (hB : H B = some (.lst xs)) (hG : RpAll X.K G xs ds) (sub : Same G H) (hsh : ∀ d ∈ ds, shpT (b :: bs) d = true)
    (h : ∀ s' xs', Inv X pins σ (upd H B (.lst xs')) s' → RpAll X.K G xs' (sortT ds) → Q .none s') : wpAny (model X.prog X.w) A (call (.builtin "list.sort") [.ref B]) Q E s := by
  obtain ⟨hz, its, n, rv, ho⟩ := I.hok B _ hB
  have ho : s.heap.get? B = some (seqObj "list" its.toArray n) := ho
  have hlen : its.length ≤ sizeLine := by rw [← rv.length]; exact hz
  have pr := paired_rd rv hG
  have prH : Paired (RD X.K H) its ds := Paired.mapP pr fun v d ⟨x, r, p⟩ => ⟨x, r, p.mono sub⟩
  obtain ⟨fs, hf⟩ := tups_of I b bs prH hsh
  have key : ∀ (v : Value) (d : PyData), RD X.K H v d → d ∈ ds → PyProof.Rows.G.tupKeyC s.heap (shpF (b :: bs)) v = some (dkT d) := fun v d ⟨x, r, p⟩ hd => by
    obtain ⟨a, o, is, m, rfl, hoa, hc, hdd, hk, _⟩ := tup_read I (b :: bs) r p (hsh d hd)
    exact PyProof.Rows.G.tupKeyC_of hoa hc hdd hk
  have hkeys : ∀ v, v ∈ its → ∃ l, PyProof.Rows.G.tupKeyC s.heap (shpF (b :: bs)) v = some l := fun v hv => by
    obtain ⟨i, hi, rfl⟩ := List.getElem_of_mem hv
    have hl := Paired.length prH
    obtain ⟨v', e, r⟩ := paired_get prH (List.getElem?_eq_getElem (show i < ds.length by omega))
    rw [List.getElem?_eq_getElem hi] at e
    cases e
    exact ⟨_, key _ _ r (List.getElem_mem _)⟩
  refine wpAny_call_entry slot_list_sort ⟨_, ho, rfl⟩ entry_list_sort (PyProof.Rows.G.list_sort_tups ho hf hkeys hlen fun st' hp hs _ => ⟨_, rfl, ?_⟩) (args_list_sort _)
  obtain ⟨ds', h1, h2, h3⟩ := sorted_gen (κ := PyProof.Rows.G.tupKindC s.heap (shpF (b :: bs))) (R := RD X.K G) hp hs pr dkT fun v d ⟨x, r, p⟩ hd => key v d ⟨x, r, p.mono sub⟩ hd
  have e := sortK_one (κ := PyProof.Rows.listOrd PyProof.Rows.itemOrd) (kd := dkT) h1 h3 fun a c ha hc => dkT_inj (hsh a ha) (hsh c hc)
  rw [e] at h2
  obtain ⟨xs', r', p'⟩ := rd_paired h2
  obtain ⟨ep, he⟩ := sortedHeap_at (vs := its) (out := (arrOf st').map (·.2)) ho
  refine h _ xs' (I.write (t' := s.toks) (by rw [hB]; trivial) (.inl rfl) (fun c u hc q => ?_) ⟨_, he⟩ ⟨?_, _, ep, r', ?_⟩) p'
  · rw [sortedHeap_old hc (Heap.lt_size q)]; exact q
  · have l1 := p'.length
    have l2 := (sortK_perm (PyProof.Rows.listOrd PyProof.Rows.itemOrd) dkT ds).length_eq
    have l3 := hG.length
    rw [l1]
    show (sortK _ _ ds).length ≤ _
    rw [l2, ← l3]; exact hz
  · rw [he, Array.toArray_toList]
end
end PD

set_option Elab.async false
set_option linter.all false
set_option maxRecDepth 100000
set_option maxHeartbeats 4000000
namespace PD
open PySem L2
theorem compTurn_set (elt target iter : Expr) (ifs : List Expr) (scope : Scope) (pos : Pos) (it acc : Value) (env : Env) :
    compTurn (.SetComp elt [⟨target, iter, ifs, 0⟩] scope pos) 0 it acc env = (do
      standAt iter.pos
      match ← pyNext it with
      | none => pure (.done .next)
      | some v =>
        letOwnedTupleGo target it v
        assign target env v
        let mut ok := true
        for c in ifs do
          if ok then ok ← isTrue c env (eval c env)
        if ok then
          (do let v ← eval elt env; standAt elt.pos; let _ ← call (.builtin "set.add") [acc, v])
        again (.compLoop (.SetComp elt [⟨target, iter, ifs, 0⟩] scope pos) 0 it acc env)) := by rfl
theorem codeAny_compStart_set {prog : Program} {w : World} {A : Around} {R : Result → Shared → Prop} {s : Shared} {elt target iter ifs rest scope pos it acc env}
    (h0 : codeAny (model prog w) A (.compLoop (.SetComp elt (⟨target, iter, ifs, 0⟩ :: rest) scope pos) 0 it acc env) R s)
    (h : wpAny (model prog w) A (pyIter it) (fun it' s' => codeAny (model prog w) A (.compLoop (.SetComp elt (⟨target, iter, ifs, 0⟩ :: rest) scope pos) 0 it' acc env) R s')
      (notedBy (model prog w) A env fun x s' => R (.error x) s') s) :
    codeAny (model prog w) A (.compStart (.SetComp elt (⟨target, iter, ifs, 0⟩ :: rest) scope pos) 0 it acc env) R s := by
  refine codeAny_of_tree ?_
  show wpAny _ _ ((compStart (.SetComp elt (⟨target, iter, ifs, 0⟩ :: rest) scope pos) 0 it acc env).onRaise (fun x => do noteFrame x env; standAt theWindowsPlace)) _ _ s
  refine wpAny_notedAt ?_
  unfold compStart
  show wpAny _ _ (ask >>= _) _ _ s
  refine wpAny_bind (wpAny_askSetting (wpAny_ite ?_))
  split
  · first
      | exact wpAny_bind (wpAny_pure (wpAny_pure (And.intro rfl h0)))
      | exact wpAny_pure (And.intro rfl h0)
  · first
      | exact wpAny_bind (wpAny_rule (wpAny_bind (wpAny_standAt (wpAny_bind (wpAny_mono h (fun it' s' h' => wpAny_pure (And.intro rfl h')) fun _ _ x => x)))))
      | (refine wpAny_bind (wpAny_rule ?_); show wpAny _ _ (standAt iter.pos >>= _) _ _ s; exact wpAny_bind (wpAny_standAt (wpAny_bind (wpAny_mono h (fun it' s' h' => wpAny_pure (And.intro rfl h')) fun _ _ x => x))))
theorem setLoop_any {prog : Program} {w : World} {A : Around} {R : Result → Shared → Prop} {s : Shared} {elt target iter : Expr} {ifs : List Expr} {scope : Scope} {pos : Pos} {it acc : Value} {env : Env} (I : Nat → Shared → Prop)
    (turn : ∀ n s, I n s → wpAny (model prog w) A (pyNext it) (fun r s₁ => match r with
      | none => R (.ok .next) s₁
      | some v => wpAny (model prog w) A (letOwnedTupleGo target it v) (fun _ s₁' => wpAny (model prog w) A (assign target env v) (fun _ s₂ =>
          wpAny (model prog w) A (forIn ifs true fun c r => if r = true then do let ok ← isTrue c env (eval c env); pure (ForInStep.yield ok) else pure (ForInStep.yield r)) (fun ok s₃ =>
            if ok = true then wpAny (model prog w) A (eval elt env) (fun x s₄ =>
              wpAny (model prog w) A (call (.builtin "set.add") [acc, x]) (fun _ s₅ => ∃ m, m < n ∧ I m s₅) (notedBy (model prog w) A env fun e s' => R (.error e) s') s₄) (notedBy (model prog w) A env fun e s' => R (.error e) s') s₃
            else ∃ m, m < n ∧ I m s₃) (notedBy (model prog w) A env fun e s' => R (.error e) s') s₂) (notedBy (model prog w) A env fun e s' => R (.error e) s') s₁') (notedBy (model prog w) A env fun e s' => R (.error e) s') s₁) (notedBy (model prog w) A env fun e s' => R (.error e) s') s)
    (n : Nat) (h : I n s) :
    codeAny (model prog w) A (.compLoop (.SetComp elt [⟨target, iter, ifs, 0⟩] scope pos) 0 it acc env) R s := by
  refine codeAny_loop rfl I (fun n s hI => ?_) n h
  show wpAny _ A ((compTurn (.SetComp elt [⟨target, iter, ifs, 0⟩] scope pos) 0 it acc env).onRaise (fun x => do noteFrame x env; theTreesLotGoes x)) _ _ s
  refine wpAny_noted ?_
  rw [compTurn_set]
  refine wpAny_bind (wpAny_standAt (wpAny_bind (wpAny_mono (turn n s hI) (fun r s₁ h₁ => ?_) fun _ _ h' => h')))
  cases r with
  | none => exact wpAny_pure h₁
  | some v =>
    refine wpAny_bind (wpAny_mono h₁ (fun _ s₁' h₁' => ?_) fun _ _ h' => h')
    refine wpAny_bind (wpAny_mono h₁' (fun _ s₂ h₂ => wpAny_bind (wpAny_mono h₂ (fun ok s₃ h₃ => ?_) fun _ _ h' => h')) fun _ _ h' => h')
    cases ok with
    | false => exact wpAny_pure ⟨rfl, h₃⟩
    | true =>
      exact wpAny_bind (wpAny_bind (wpAny_mono h₃ (fun x s₄ h₄ => wpAny_bind (wpAny_standAt (wpAny_bind (wpAny_mono h₄ (fun _ s₅ h₅ => wpAny_pure (wpAny_pure ⟨rfl, h₅⟩)) fun _ _ h' => h')))) fun _ _ h' => h'))

section
variable {X : Cx}
def tSc (w : World) (wi : TI) (g : TG) (tt : TT) (te : TE) (vs : List Nat) : TE := fun σ H Q => wi σ H fun J H1 => ∀ D, H1 D = none → ∃ W : Nat → Nat → Hp → Prop, (∃ m, W 0 m (upd H1 D (setO w D []))) ∧ ∀ i m H, W i m H →
  (J.stop i H ∧ Q (.ref D) H) ∨ (J.go i H ∧ ∃ Nx : Hp → Prop, (∀ H', Nx H' → ∃ m', m' < m ∧ W (i + 1) m' H') ∧ ∀ x H', J.yld i H x H' → g x (wipe σ vs) H' fun σ2 H2 => wipe σ2 vs = wipe σ vs ∧ tt σ2 H2 fun b H3 =>
    if b = true then te σ2 H3 fun y H4 => ∃ (L : List Nat) (k : Nat), H4 D = some (setO w D L) ∧ y = .int k ∧ k < 7 ∧ Nx (upd H4 D (setO w D (addN k L))) else Nx H3)
theorem sc_core {pins : List (Addr × Obj)} {s : Shared} {σ : St} {H : Hp} {Q : VK} {elt tg iter : Expr} {ifs : List Expr} {scope : Scope} {own : List (Str × Nat)} {pos pos' : Pos} {wi : TI} {g : TG} {tt : TT} {te : TE} {use : Option (Value → Sem Unit)} {Qf : Value → Shared → Prop}
    (hc : X.calm = true) (hN : X.N.Nodup) (I : Inv X pins σ H s) (hi : PI X tg iter wi) (ok : BlkOk X.N X.env.scope scope own)
    (hg : ∀ (s : Shared) (H : Hp) (C : Addr) (cl : List (Str × Addr)) (fp : List Addr), PG (X.blk s H scope (compEnvC scope cl C X.env) fp) tg g) (ht : ∀ (s : Shared) (H : Hp) (C : Addr) (cl : List (Str × Addr)) (fp : List Addr), PTs (X.blk s H scope (compEnvC scope cl C X.env) fp) ifs tt)
    (he : ∀ (s : Shared) (H : Hp) (C : Addr) (cl : List (Str × Addr)) (fp : List Addr), PE (X.blk s H scope (compEnvC scope cl C X.env) fp) elt te) (hs : ∀ x, foldedSetIterable iter X.env x = pure x)
    (h : tSc X.w wi g tt te (own.map (·.2)) σ H Q)
    (hRR : ∀ D C s' m H', Inv X pins σ H' s' → Q (.ref D) H' → s'.heap.Ns C m → FpOk X pins H' C → compPost (model X.prog X.w) X.A X.xe use Qf (.ref D) C (.ok .next) s') :
    wpAny (model X.prog X.w) X.A (comprehension (.SetComp elt [⟨tg, iter, ifs, 0⟩] scope pos) scope X.env pos' (newSet (.type "set")) false (eval iter X.env) use) Qf X.xe s := by
  have hfree : ∀ y ∈ scope.names, y.2 = .free → ∃ c, X.env.cells.lookup y.1 = some c := fun y hy e => by
    rcases ok.free y hy e with k | k
    · exact I.ok.has _ (.inl k)
    · exact I.ok.has _ (.inr k)
  refine wpAny_comprehension_free (use := use) rfl hs (closure_ok hfree) ok.kind (fun y hy e => by rw [ok.uniq y hy, e])
    (thn (hi pins s σ H _ I h) fun xv s1 hx => thn hx fun itv s2 h2 => ?_)
  obtain ⟨it, fp, tn, J, H2, e, I2, T, st2, f2, q⟩ := h2
  subst e
  refine new_small fun oS hoS hSS => newEnv_comp ?_
  generalize hD : s2.heap.objs.size = D
  have hDn : H2 D = none := I2.hok.fresh (Nat.le_of_eq hD)
  obtain ⟨W, ⟨m0, w0⟩, turn⟩ := q D hDn
  generalize hs3 : ({ s2 with heap := s2.heap.push oS } : Shared) = s3
  rw [hD] at hSS hoS
  have I3 : Inv X pins σ (upd H2 D (setO X.w D [])) s3 := by
    rw [← hs3]
    exact I2.laid (t' := s2.toks) (fun b o e => Heap.get?_push_of_some _ e) (Nat.le_of_eq hD) (setO_ok hSS)
  have h3 : s3.heap = s2.heap.push oS := by rw [← hs3]
  have sz : ∀ b ∈ fp, b < s2.heap.objs.size := fun b hb => by
    obtain ⟨o, e, _⟩ := T.obj _ _ st2 b hb
    exact Heap.lt_size e
  have f3 : ∀ b ∈ fp, FpOk X pins (upd H2 D (setO X.w D [])) b ∧ b < s3.heap.objs.size := fun b hb => by
    have hlt := sz b hb
    refine ⟨⟨?_, (f2 b hb).2⟩, by rw [h3, Heap.size_push]; exact Nat.lt_succ_of_lt hlt⟩
    rw [upd_ne (by rw [← hD]; exact Nat.ne_of_lt hlt)]
    exact (f2 b hb).1
  have st3 : tn 0 s3.heap := T.keep _ _ _ st2 fun b _ o e => by rw [h3]; exact Heap.get?_push_of_some _ e
  have I4 := block_start I3 ok hN f3
  have pg := hg s3 (upd H2 D (setO X.w D [])) s3.heap.objs.size (cellsFrom (s3.heap.objs.size + 1) scope.names (cloFrom X.env.cells scope.names [])) fp
  have pt := ht s3 (upd H2 D (setO X.w D [])) s3.heap.objs.size (cellsFrom (s3.heap.objs.size + 1) scope.names (cloFrom X.env.cells scope.names [])) fp
  have pe := he s3 (upd H2 D (setO X.w D [])) s3.heap.objs.size (cellsFrom (s3.heap.objs.size + 1) scope.names (cloFrom X.env.cells scope.names [])) fp
  show codeAny _ _ (.compStart (.SetComp elt [⟨tg, iter, ifs, 0⟩] scope pos) 0 (.ref it) (.ref D) (compEnvC scope (cellsFrom (s3.heap.objs.size + 1) scope.names (cloFrom X.env.cells scope.names [])) s3.heap.objs.size X.env)) (compPost (model X.prog X.w) X.A X.xe use Qf (.ref D) s3.heap.objs.size) { s3 with heap := pushCells (s3.heap.push { cls := .type "dict", data := .dict #[] }) scope.names }
  have nfp : ∀ b ∈ fp, (upd H2 D (setO X.w D [])) b = none := fun b hb => (f3 b hb).1.1
  generalize hce : compEnvC scope (cellsFrom (s3.heap.objs.size + 1) scope.names (cloFrom X.env.cells scope.names [])) s3.heap.objs.size X.env = ce at I4 pg pt pe ⊢
  have cL : ce.locals = s3.heap.objs.size := by subst hce; rfl
  generalize hH3 : upd H2 D (setO X.w D []) = H3 at I3 I4 pg pt pe w0 nfp f3
  generalize hs4 : ({ s3 with heap := pushCells (s3.heap.push { cls := .type "dict", data := .dict #[] }) scope.names } : Shared) = s4 at I4 ⊢
  have st4 : tn 0 s4.heap := T.keep _ _ _ st3 fun b _ o e => by rw [← hs4]; exact pushCells_keeps _ _ _ _ (Heap.get?_push_of_some _ e)
  have stat : ∀ {σ' : St} {H' : Hp} {s' : Shared}, Inv (X.blk s3 H3 scope ce fp) [] σ' H' s' → (∀ b ∈ fp, H' b = none) → ∀ b ∈ fp, FpOk (X.blk s3 H3 scope ce fp) [] H' b := fun {σ' H' s'} I' hn b hb =>
    ⟨hn b hb, (I'.ok.exf b hb).1, I'.ok.exfs b hb, .inl hb, fun x c e => (I'.ok.exf b hb).2 x c e, fun p hp => absurd (show p ∈ ([] : List (Addr × Obj)) ++ [] from hp) (by simp)⟩
  have loop : codeAny (model X.prog X.w) X.A (.compLoop (.SetComp elt [⟨tg, iter, ifs, 0⟩] scope pos) 0 (.ref it) (.ref D) ce) (compPost (model X.prog X.w) X.A X.xe use Qf (.ref D) s3.heap.objs.size) s4 := by
    refine setLoop_any (fun n s' => ∃ i H', Inv (X.blk s3 H3 scope ce fp) [] (wipe σ (own.map (·.2))) H' s' ∧ tn i s'.heap ∧ (∀ b ∈ fp, H' b = none) ∧ W i n H') ?_ m0 ⟨0, H3, I4, st4, nfp, w0⟩
    rintro n s5 ⟨i, H5, I5, st5, n5, w5⟩
    rcases turn i n H5 w5 with ⟨stop, qq⟩ | ⟨go, Nx, hNx, step⟩
    · have td := T.done (X.blk s3 H3 scope ce fp) rfl rfl rfl hc i [] s5 _ H5 (fun _ _ => False) I5 (stat I5 n5) st5 stop
      refine thnF td fun r s6 ⟨hr, I6⟩ => ?_
      subst hr
      -- back in the def's context
      have I7 : Inv X pins σ H5 s6 := I3.call' (ch := fp) I6.os I6.base I6.hok I6.bare fun b hb => ⟨(f3 b hb).1.2.2.2.1, (f3 b hb).1.2.1, (f3 b hb).1.2.2.2.2.1, (f3 b hb).1.2.2.2.2.2⟩
      have nC : H5 s3.heap.objs.size = none := by
        have z : H5 ce.locals = none := I6.free
        rw [cL] at z
        exact z
      obtain ⟨m, hn, _⟩ := I6.loc
      have hn : s6.heap.Ns ce.locals m := hn
      rw [cL] at hn
      exact hRR D s3.heap.objs.size s6 m H5 I7 qq hn (I3.fpOk (Nat.le_refl _) nC)
    · have ti := T.item (X.blk s3 H3 scope ce fp) rfl rfl rfl hc i [] s5 _ H5 (fun _ _ => False) I5 (stat I5 n5) st5 go
      refine thnF ti fun r s6 ⟨u, hr, h6⟩ => ?_
      subst hr
      refine thnF h6 fun _ s7 ⟨x, H7, I7, r7, y7, st7, n7⟩ => ?_
      have I7' := I7.pinned (stat I7 n7) (T.obj _ _ st7)
      refine thnF (pg _ s7 _ H7 x u _ I7' r7 (step x H7 y7)) fun _ s8 ⟨σ8, H8, I8, hw8, q8⟩ => ?_
      refine thnF (pt _ s8 σ8 H8 _ I8 q8) fun b s9 ⟨H9, I9, q9⟩ => ?_
      -- the turn's end
      have fin : ∀ {s' : Shared} {H' : Hp}, Inv (X.blk s3 H3 scope ce fp) ([] ++ pinsAt fp s7.heap) σ8 H' s' → Nx H' → ∃ m, m < n ∧ ∃ i H', Inv (X.blk s3 H3 scope ce fp) [] (wipe σ (own.map (·.2))) H' s' ∧ tn i s'.heap ∧ (∀ b ∈ fp, H' b = none) ∧ W i m H' := fun {s' H'} I' nx => by
        obtain ⟨m', hm, w'⟩ := hNx H' nx
        have pin' : ∀ b ∈ fp, ∀ o, s7.heap.get? b = some o → s'.heap.get? b = some o ∧ H' b = none := fun b hb o e =>
          let z := I'.pin (b, o) (List.mem_append_right _ (List.mem_append_right _ (mem_pinsAt hb e)))
          ⟨z.1, z.2.1⟩
        have hl : (wipe σ (own.map (·.2))).length = σ8.length := by rw [← hw8, wipe_length]
        refine ⟨m', hm, i + 1, H', (I'.unpinned (pins := [])).weak hl (fun j v e => ?_), T.keep _ _ _ st7 fun b hb o e => (pin' b hb o e).1, fun b hb => ?_, w'⟩
        · rw [← hw8] at e
          exact (wipe_some e).1
        · obtain ⟨o, e, _⟩ := T.obj _ _ st7 b hb
          exact (pin' b hb o e).2
      cases b with
      | false =>
        simp only [Bool.false_eq_true, if_false] at q9 ⊢
        exact fin I9 q9
      | true =>
        simp only [if_true] at q9 ⊢
        refine thnF (pe _ s9 σ8 H9 _ I9 q9) fun z s10 ⟨yv, H10, I10, r10, acc, kk, hD10, hyv, hk7, nx⟩ => ?_
        subst hyv
        exact add_ok (X := X.blk s3 H3 scope ce fp) I10 hD10 hk7 r10 fun s11 I11 => fin I11 nx
  exact codeAny_compStart_set loop (T.self X.A 0 _ _ _ st4 loop)
theorem pe_sc {elt tg iter : Expr} {ifs : List Expr} {scope : Scope} {own : List (Str × Nat)} {pos : Pos} {wi : TI} {g : TG} {tt : TT} {te : TE} (hc : X.calm = true) (hN : X.N.Nodup) (hi : PI X tg iter wi) (ok : BlkOk X.N X.env.scope scope own)
    (hg : ∀ (s : Shared) (H : Hp) (C : Addr) (cl : List (Str × Addr)) (fp : List Addr), PG (X.blk s H scope (compEnvC scope cl C X.env) fp) tg g) (ht : ∀ (s : Shared) (H : Hp) (C : Addr) (cl : List (Str × Addr)) (fp : List Addr), PTs (X.blk s H scope (compEnvC scope cl C X.env) fp) ifs tt)
    (he : ∀ (s : Shared) (H : Hp) (C : Addr) (cl : List (Str × Addr)) (fp : List Addr), PE (X.blk s H scope (compEnvC scope cl C X.env) fp) elt te) (hs : ∀ x, foldedSetIterable iter X.env x = pure x := by intro _; rfl) :
    PE X (.SetComp elt [⟨tg, iter, ifs, 0⟩] scope pos) (tSc X.w wi g tt te (own.map (·.2))) := by
  intro pins s σ H Q I h
  have harm : eval (.SetComp elt [⟨tg, iter, ifs, 0⟩] scope pos) X.env = comprehension (.SetComp elt [⟨tg, iter, ifs, 0⟩] scope pos) scope X.env (firstIterPos [⟨tg, iter, ifs, 0⟩] pos) (newSet (.type "set")) false (eval iter X.env) := arm_eval_SetComp ..
  rw [harm]
  refine sc_core hc hN I hi ok hg ht he hs h fun D C s' m H' I' q hn f => ⟨m, hn, fun h'' sb => ?_⟩
  obtain ⟨f0, f1, f2, f3, f4, f5⟩ := f
  exact ⟨.ref D, H', I'.turned (t' := s'.toks) (fun b o hb e => (sb.2 b hb).trans e) f0 f1 f3 f4 f5, rfl, q⟩
end
end PD

set_option Elab.async false
set_option linter.all false
set_option maxRecDepth 100000
set_option maxHeartbeats 4000000
namespace PD
open PySem L2
def setFold (L : List Nat) : List PyData → Option (List Nat)
  | [] => some L
  | .int i :: ds => if 0 ≤ i ∧ i < 7 then setFold (addN i.toNat L) ds else none
  | _ :: _ => none
theorem setFold_append : ∀ (L : List Nat) (as bs : List PyData), setFold L (as ++ bs) = (setFold L as).bind fun M => setFold M bs
  | L, [], bs => rfl
  | L, d :: as, bs => by
    cases d with
    | int i =>
      show (if 0 ≤ i ∧ i < 7 then setFold (addN i.toNat L) (as ++ bs) else none) = (if 0 ≤ i ∧ i < 7 then setFold (addN i.toNat L) as else none).bind _
      by_cases h : 0 ≤ i ∧ i < 7
      · rw [if_pos h, if_pos h]; exact setFold_append _ as bs
      · rw [if_neg h, if_neg h]; rfl
    | _ => rfl
theorem setFold_cons {L M : List Nat} {d : PyData} {ds : List PyData} (h : setFold L (d :: ds) = some M) : ∃ k : Nat, d = .int (k : Nat) ∧ k < 7 ∧ setFold (addN k L) ds = some M := by
  cases d with
  | int i =>
    have h : (if 0 ≤ i ∧ i < 7 then setFold (addN i.toNat L) ds else none) = some M := h
    by_cases hi : 0 ≤ i ∧ i < 7
    · rw [if_pos hi] at h
      exact ⟨i.toNat, by rw [Int.toNat_of_nonneg hi.1], by omega, h⟩
    · rw [if_neg hi] at h; cases h
  | _ => cases h
theorem setFold_one {L : List Nat} {k : Nat} (h : k < 7) : setFold L [.int (k : Nat)] = some (addN k L) := by
  show (if (0 : Int) ≤ (k : Nat) ∧ ((k : Nat) : Int) < 7 then some (addN ((k : Nat) : Int).toNat L) else none) = _
  rw [if_pos ⟨by omega, by omega⟩]; rfl
abbrev Cf := En → Option (List Nat × En)
def fSetC (src : Af) (bind : PyData → En → Option En) (cond : Tf) (elt : Ef) (vs : List Nat) : Cf := fun ε => (src ε).bind fun p => (compF bind cond elt vs p.1 (clr p.2 vs)).bind fun r => (setFold [] r.1).map fun L => (L, r.2)
def tScF (w : World) (K : PySem.W.Frag) (f : Cf) : TE := fun σ H Q => ∃ B G z ε d ε', Rep K B G H z σ ε ∧ f ε = some (d, ε') ∧ ∀ p G' H', Gr B G G' → Rep K B G' H' z σ ε' → G' p = none → B p = none → H' p = some (setO w p d) →
  (∀ (i : Nat) (e : PyData), ε'[i]? = some (.mu e) → σ[i]? ≠ some (some (.ref p))) → Q (.ref p) H'
theorem objOk_get {P : Program} {w : World} {H : Hp} {h : Heap} {a : Addr} {o : HO} (x : ObjOk P w H h a o) : ∃ ob, h.get? a = some ob := by
  cases o with
  | lst xs => obtain ⟨_, _, _, _, e⟩ := x; exact ⟨_, e⟩
  | tup xs => obtain ⟨_, _, _, ob, e, _⟩ := x; exact ⟨_, e⟩
  | dK kvs => obtain ⟨_, _, _, _, o, _, _, e, _⟩ := x; exact ⟨_, e⟩
  | dT kvs => obtain ⟨_, _, _, _, o, _, _, e, _⟩ := x; exact ⟨_, e⟩
  | set S n => obtain ⟨o, _, _, _, e, _⟩ := x; exact ⟨_, e⟩
  | ins C dx fs => obtain ⟨_, _, _, e, _⟩ := x; exact ⟨_, e⟩
  | own y => exact x
  | xd fs => obtain ⟨_, ⟨_, _, _, e, _⟩, _⟩ := x; exact ⟨_, e⟩
  | rng lo hi => obtain ⟨_, _, _, e⟩ := x; exact ⟨_, e⟩
  | frz ob u => obtain ⟨e, _⟩ := x; exact ⟨_, e⟩
  | tbl ps => exact ⟨_, (show h.get? a = some _ from x)⟩
  | met f y => exact ⟨_, (show h.get? a = some _ from x)⟩
  | ext φ => obtain ⟨_, e, _⟩ := x; exact e
theorem hok_none {P : Program} {w : World} {H : Hp} {h : Heap} (x : HOk P w H h) {B : Addr} (hB : h.get? B = none) : H B = none := by
  cases e : H B with
  | none => rfl
  | some o => obtain ⟨ob, hob⟩ := objOk_get (x B o e); rw [hB] at hob; cases hob
section
variable {X : Cx}
theorem sc_read {src : Af} {g : TG} {bind : PyData → En → Option En} {cond : Tf} {elt : Ef} {vs : List Nat} (h0 : 0 ∉ vs) (ht : TgOk X.K g bind vs) {σ : St} {H : Hp} {Q : VK} (h : tScF X.w X.K (fSetC src bind cond elt vs) σ H Q) :
    tSc X.w (tIF X.K src) g (tTF X.K cond) (tF X.K elt) vs σ H Q := by
  obtain ⟨B, G, z, ε, LL, ε', r, ef, q⟩ := h
  obtain ⟨⟨ds, ε1⟩, e1, ef1⟩ := Option.bind_eq_some_iff.mp ef
  obtain ⟨⟨ys, ε2⟩, e2, ef2⟩ := Option.bind_eq_some_iff.mp ef1
  obtain ⟨L2, e3, ef3⟩ := Option.map_eq_some_iff.mp ef2
  obtain ⟨rfl, rfl⟩ := Prod.mk.inj ef3
  refine ⟨B, G, z, ε, ds, ε1, r, e1, fun J G1 H1 g1 r1 w D hD => ?_⟩
  have hGD := r1.sub.free hD
  have hBD := r1.bg.free hD
  refine ⟨fun i m H => i ≤ ds.length ∧ m = ds.length - i ∧ ∃ G' εi acc as zs, Gr B G1 G' ∧ Rep X.K B G' H z (wipe σ vs) εi ∧ H D = some (setO X.w D acc) ∧ setFold [] as = some acc ∧ G' D = none ∧
      (∀ (i : Nat) (e : PyData), εi[i]? = some (.mu e) → (wipe σ vs)[i]? ≠ some (some (.ref D))) ∧ (∀ j ∈ vs, ∀ s, εi[j]? = some s → s = .un) ∧ compF bind cond elt vs (ds.drop i) εi = some (zs, ε2) ∧ as ++ zs = ys,
    ⟨_, Nat.zero_le _, rfl, G1, clr ε1 vs, [], [], ys, Gr.refl _ _, ?_, upd_same, rfl, hGD, ?_, ?_, by simpa using e2, rfl⟩, ?_⟩
  · refine (rep_new r1 hD).agree (by rw [clr_length, wipe_length]; exact r1.len) fun j s hs hj => ?_
    obtain ⟨h1, h2⟩ := clr_some hj hs
    exact ⟨h2, by rw [wipe_get, if_neg h1]⟩
  · intro i e hi hs
    obtain ⟨h1, h2⟩ := clr_some hi (by intro z; cases z)
    rw [wipe_get, if_neg h1] at hs
    exact nomu r1 hD i e h2 hs
  · intro j hj s hs
    rw [clr_get, if_pos hj] at hs
    cases q : ε1[j]? with
    | none => rw [q] at hs; cases hs
    | some t => rw [q] at hs; cases hs; rfl
  · rintro i m H2 ⟨hil, rfl, G2, εi, acc, as, zs, g2, r2, hacc, pacc, hG2, hmu, hun, ec, hap⟩
    by_cases hlt : i < ds.length
    · refine .inr ⟨w.go i H2 (g2.1.trans r2.sub) hlt, fun H => i + 1 ≤ ds.length ∧ ∃ G' εi acc as zs, Gr B G1 G' ∧ Rep X.K B G' H z (wipe σ vs) εi ∧ H D = some (setO X.w D acc) ∧ setFold [] as = some acc ∧ G' D = none ∧
      (∀ (i : Nat) (e : PyData), εi[i]? = some (.mu e) → (wipe σ vs)[i]? ≠ some (some (.ref D))) ∧ (∀ j ∈ vs, ∀ s, εi[j]? = some s → s = .un) ∧ compF bind cond elt vs (ds.drop (i + 1)) εi = some (zs, ε2) ∧ as ++ zs = ys, fun H' ⟨h1, h2⟩ => ⟨_, by omega, h1, rfl, h2⟩, fun x H' y => ?_⟩
      obtain ⟨dd, G3, hd, gr3, p3⟩ := w.yld i G2 H2 x H' g2.1 r2.sub hlt y
      have hdr : ds.drop i = dd :: ds.drop (i + 1) := by
        rw [List.drop_eq_getElem_cons hlt]
        rw [List.getElem?_eq_getElem hlt] at hd
        cases hd; rfl
      rw [hdr] at ec
      obtain ⟨ε3, e3, e4⟩ := Option.bind_eq_some_iff.mp ec
      obtain ⟨⟨b, ε4⟩, e5, e6⟩ := Option.bind_eq_some_iff.mp e4
      have r3 := (r2.back hacc (fun _ z => by cases z) hmu)
      have hacc' : H' D = some (setO X.w D acc) := gr3.hh _ _ hacc
      have r3' : Rep X.K (upd B D (setO X.w D acc)) G3 H' z (wipe σ vs) εi := gr3.rep r3
      have gg3 : Gr (upd B D (setO X.w D acc)) G2 G3 := gr3.gr r3.bg
      refine ht _ G3 H' z (wipe σ vs) εi ε3 x dd _ r3' p3 e3 fun σ' r' hw => ⟨?_, ?_⟩
      · rw [hw]
        apply List.ext_getElem?
        intro j
        rw [wipe_get, wipe_get]
        by_cases hj : j ∈ vs
        · rw [if_pos hj, if_pos hj]
          cases σ[j]? <;> rfl
        · rw [if_neg hj]
      refine ⟨_, G3, z, ε3, b, ε4, r', e5, fun G4 H4 g4 r4 => ?_⟩
      -- back in the comprehension's frame
      have back : ∀ {G5 H5 : Hp} {ε5 : En}, Rep X.K (upd B D (setO X.w D acc)) G5 H5 z σ' ε5 → Rep X.K (upd B D (setO X.w D acc)) G5 H5 z (wipe σ vs) (clr ε5 vs) := fun {G5 H5 ε5} r5 => by
        have hlen : σ'.length = (wipe σ vs).length := by
          have := congrArg List.length hw
          rw [wipe_length, wipe_length] at this
          exact this
        refine r5.agree (by rw [clr_length, ← hlen]; exact r5.len) fun j s hs hj => ?_
        obtain ⟨h1, h2⟩ := clr_some hj hs
        refine ⟨h2, ?_⟩
        have := congrArg (fun l : St => l[j]?) hw
        simp only [wipe_get, if_neg h1] at this
        rw [wipe_get, if_neg h1]
        exact this.symm
      have hclr : ∀ (ε5 : En), ∀ j ∈ vs, ∀ s, (clr ε5 vs)[j]? = some s → s = .un := fun ε5 j hj s hs => by
        rw [clr_get, if_pos hj] at hs
        cases q : ε5[j]? with
        | none => rw [q] at hs; cases hs
        | some t => rw [q] at hs; cases hs; rfl
      cases b with
      | false =>
        rw [if_neg Bool.false_ne_true] at e6
        refine iteF ?_
        have g5 : Gr B G1 G4 := g2.trans ((gg3.trans g4).unback)
        have r5 := back r4
        exact ⟨hlt, G4, clr ε4 vs, acc, as, zs, g5, r5.unback hBD, r4.bg _ _ upd_same, pacc, (gg3.trans g4).none hG2 upd_same, mu_back r5, hclr ε4, e6, hap⟩
      | true =>
        rw [if_pos rfl] at e6
        refine iteT ?_
        obtain ⟨⟨y1, ε5⟩, e7, e8⟩ := Option.bind_eq_some_iff.mp e6
        obtain ⟨⟨zs', ε6⟩, e9, e10⟩ := Option.map_eq_some_iff.mp e8
        obtain ⟨rfl, rfl⟩ := Prod.mk.inj e10
        refine ⟨_, G4, z, ε4, y1, ε5, r4, e7, fun v5 G5 H5 g5 r5 p5 => ?_⟩
        have gg := (gg3.trans g4).trans g5
        have r6 := back r5
        have hG5 : G5 D = none := gg.none hG2 upd_same
        have hf : setFold acc (y1 :: zs') = some L2 := by
          have h1 := setFold_append [] as (y1 :: zs')
          rw [hap, e3, pacc] at h1
          exact h1.symm
        obtain ⟨kk, hy1, hk7, hrest⟩ := setFold_cons hf
        subst hy1
        have hv5 : v5 = .int (kk : Nat) := by cases p5; rfl
        refine ⟨acc, kk, r5.bg _ _ upd_same, hv5, hk7, hlt, G5, clr ε5 vs, addN kk acc, as ++ [.int (kk : Nat)], zs', g2.trans gg.unback, ?_, upd_same, ?_, hG5, mu_back r6, hclr ε5, e9, by rw [List.append_assoc]; exact hap⟩
        case refine_2 =>
          rw [setFold_append, pacc]
          exact setFold_one hk7
        exact (r6.unback hBD).other hBD hG5 (fun _ z => by rw [r5.bg _ _ upd_same] at z; cases z) (mu_back r6)
    · have e : i = ds.length := by omega
      subst e
      rw [List.drop_length] at ec
      cases ec
      rw [List.append_nil] at hap
      subst hap
      refine .inl ⟨w.stop _ H2 (g2.1.trans r2.sub) (Nat.le_refl _), ?_⟩
      have hrr : ∀ (j : Nat) (s : Sl), s ≠ .un → ε2[j]? = some s → ε2[j]? = some s ∧ σ[j]? = (wipe σ vs)[j]? := fun j s hs hj => by
        refine ⟨hj, ?_⟩
        by_cases hv : j ∈ vs
        · exact absurd (hun j hv s hj) hs
        · rw [wipe_get, if_neg hv]
      have r5 : Rep X.K B G2 H2 z σ ε2 := r2.agree (by have := r2.len; rw [wipe_length] at this; exact this) hrr
      rw [e3] at pacc
      cases pacc
      refine q D G2 H2 (g1.trans g2) r5 hG2 hBD hacc fun i e hi => ?_
      rw [(hrr i _ (by intro z; cases z) hi).2]
      exact hmu i e hi
def intL (L : List Nat) : List PyData := L.map fun (n : Nat) => PyData.int n
theorem intL_all {K : PySem.W.Frag} {G : Hp} : ∀ (L : List Nat), RpAll K G (L.map fun (n : Nat) => V.int n) (intL L)
  | [] => .nil
  | n :: L => .cons (.int _) (intL_all L)
theorem cr_sortedSet (hc : X.calm = true) : CallR X (.builtin "sorted") (rSortedSet X.w) := by
  intro pins s σ H vs us Q I r h
  obtain ⟨a, L, rfl, ha, q⟩ := h
  rw [Vals.ref1 r]
  obtain ⟨es, ep, hm⟩ := (setO_get I.hok ha).fix
  have hL7 := (subs_len hm.sub).1
  have hz : L.length ≤ sizeLine := sizeLine_big (by omega)
  refine sorted_src_ints (src_small (L := L) (es := es) (ep := ep)) (I.ok.hd hc) hm hz (ns := L.map fun (n : Nat) => (n : Int)) (fun acc hl hP => ?_) fun h' tk B out ns' e hk hB hg h1 h2 h3 => ?_
  · have hp : (walkOf X.w a ep es).toList.Perm es.toList := walk_perm ..
    have hacc : acc = (walkOf X.w a ep es).toList.map (·.2) := by
      apply List.ext_getElem?
      intro j
      rw [List.getElem?_map, Array.getElem?_toList (xs := walkOf X.w a ep es)]
      cases e : acc[j]? with
      | none =>
        have : L.length ≤ j := by rw [← hl]; exact List.getElem?_eq_none_iff.mp e
        rw [Array.getElem?_eq_none_iff.mpr (by rw [walk_size, hm.size]; exact this)]; rfl
      | some v => obtain ⟨x, h1, h2⟩ := hP j v e; rw [h1, h2]; rfl
    rw [hacc]
    obtain ⟨ms, m1, m2⟩ := intsAre_perm (hp.map (·.2)) (ents_vals hm.ents)
    exact ⟨ms, m1, m2⟩
  · have hup : (L.map fun (n : Nat) => (n : Int)).Pairwise (· ≤ ·) := by
      rw [List.pairwise_map]
      exact (subs_len hm.sub).2.2.imp fun h => by omega
    have e2 : ns' = L.map fun (n : Nat) => (n : Int) := List.Perm.eq_of_pairwise (fun _ _ _ _ a b => Int.le_antisymm a b) h3 hup h2
    subst e2
    have hBn : H B = none := hok_none I.hok hB
    refine ⟨.ref B, upd H B (.lst (L.map fun (n : Nat) => V.int n)), inv_many I hk (same_new hBn) (fun b hb hb' => ?_) (fun c o hc ho => ?_), rfl, q B hBn⟩
    · by_cases z : b = B
      · rw [z]; exact hB
      · rw [upd_ne z] at hb'; exact absurd hb hb'
    · by_cases z : c = B
      · subst z
        rw [upd_same] at ho
        cases ho
        refine ⟨by rw [List.length_map]; exact hz, out.toList, e, ?_, ?_⟩
        · have := vals_of_ints h1
          rwa [List.map_map] at this
        · rw [hg, Array.toArray_toList]
      · rw [upd_ne z] at ho; rw [hc] at ho; cases ho
def fSorted (f : Cf) : Ef := fun ε => (f ε).map fun p => (.list (intL p.1), p.2)
/-- sorted({elt for target in iter if ..}) -/
theorem ev_sortedSC {elt tg iter : Expr} {ifs : List Expr} {scope : Scope} (own : List (Str × Nat)) {pos p p0 : Pos} {src : Af} {g : TG} {bind : PyData → En → Option En} {cond : Tf} {fe : Ef} (h0 : 0 ∉ own.map (·.2)) (ht : TgOk X.K g bind (own.map (·.2))) (hc : X.calm = true) (hN : X.N.Nodup)
    (hgl : Gl X "sorted") (hmg : X.mg "sorted" = none) (hi : Iv X tg iter src) (ok : BlkOk X.N X.env.scope scope own)
    (hg : ∀ (s : Shared) (H : Hp) (C : Addr) (cl : List (Str × Addr)) (fp : List Addr), Gv (X.blk s H scope (compEnvC scope cl C X.env) fp) tg g)
    (hts : ∀ (s : Shared) (H : Hp) (C : Addr) (cl : List (Str × Addr)) (fp : List Addr), Tvs (X.blk s H scope (compEnvC scope cl C X.env) fp) ifs cond)
    (he : ∀ (s : Shared) (H : Hp) (C : Addr) (cl : List (Str × Addr)) (fp : List Addr), Ev (X.blk s H scope (compEnvC scope cl C X.env) fp) elt fe) (hs : ∀ x, foldedSetIterable iter X.env x = pure x := by intro _; rfl) :
    Ev X (.Call (.Name "sorted" p) [.SetComp elt [⟨tg, iter, ifs, 0⟩] scope p0] [] pos) (fSorted (fSetC src bind cond fe (own.map (·.2)))) :=
  ⟨pe_mono (pe_callB (cr_sortedSet hc) hgl hmg (by decide +kernel) (pa_cons (pe_sc (wi := tIF X.K src) (g := g) (tt := tTF X.K cond) (te := tF X.K fe) hc hN hi.p ok (fun s H C cl fp => (hg s H C cl fp).p) (fun s H C cl fp => (hts s H C cl fp).p) (fun s H C cl fp => (he s H C cl fp).p) hs) pa_nil (by exact star_ok rfl)) (by decide) (by decide) (by exact star_ok rfl) (by exact plain_ok rfl)) fun σ H Q h => by
    obtain ⟨B, G, z, ε, d, ε', rep, ef, q⟩ := h
    obtain ⟨⟨L, ε1⟩, e1, ef1⟩ := Option.map_eq_some_iff.mp ef
    obtain ⟨rfl, rfl⟩ := Prod.mk.inj ef1
    show tSc X.w (tIF X.K src) g (tTF X.K cond) (tF X.K fe) (own.map (·.2)) σ H (fun v H1 => rSortedSet X.w [v] H1 Q)
    refine sc_read h0 ht ⟨B, G, z, ε, L, ε1, rep, e1, fun D G1 H1 g1 r1 hG hB hD hn => ?_⟩
    refine ⟨D, L, rfl, hD, fun p hp => ?_⟩
    have gn := grow_new (o := HO.lst (L.map fun (n : Nat) => V.int n)) r1.sub hp
    exact q _ _ _ (g1.trans (gn.gr r1.bg)) (gn.rep r1) (.lst (SqL.of upd_same) (intL_all L))⟩
end
end PD

set_option Elab.async false
set_option linter.all false
set_option maxRecDepth 100000
set_option maxHeartbeats 4000000
namespace PD
open PySem L2
def viewO (p d : Addr) : HO := .ext fun h => h.get? p = some { cls := .type "dict_items", data := .fields #[.ref d] }
theorem viewO_ok {P : Program} {w : World} {H : Hp} {h : Heap} {p d : Addr} (e : h.get? p = some { cls := .type "dict_items", data := .fields #[.ref d] }) : ObjOk P w H h p (viewO p d) := ⟨e, ⟨_, e⟩, fun _ _ y f => f _ y⟩
section
variable {X : Cx}
def tItems (td : TE) : TE := fun σ H Q => td σ H fun x H1 => ∃ d kvs, x = .ref d ∧ Rd H1 d (.dK kvs) ∧ ∀ p, H1 p = none → Q (.ref p) (upd H1 p (viewO p d))
theorem pe_items {e : Expr} {td : TE} {apos cpos : Pos} (he : PE X e td) (hbase : attributeBase e "items" X.env (eval e X.env) = eval e X.env := by rfl) (hline : (apos.endLine == cpos.line) = true := by rfl) :
    PE X (.Call (.Attribute e "items" apos) [] [] cpos) (tItems td) := by
  intro pins s σ H Q I h
  refine wpAny_Call_method (T := "dict") (id := "dict.items") hbase rfl hline F.plainAttrs_dict F.slot_dict_items F.type_dict_items (thn (he pins s σ H _ I h) fun u s1 ⟨x, H1, I1, rx, d, kvs, ex, hd, q⟩ => ?_)
  subst ex
  obtain rfl : u = Value.ref d := rx
  obtain ⟨z, hs, vs, rel, dd⟩ := dk_rd I1.hok hd
  refine ⟨dd.typeIs, dd.mapOf.noDict, ?_⟩
  have hn : H1 s1.heap.objs.size = none := I1.hok.fresh (Nat.le_refl _)
  have I2 : Inv X pins σ (upd H1 s1.heap.objs.size (viewO s1.heap.objs.size d)) { s1 with heap := s1.heap.push { cls := .type "dict_items", data := .fields #[.ref d] } } :=
    I1.laid (t' := s1.toks) (fun b ob q => Heap.get?_push_of_some _ q) (Nat.le_refl _) (viewO_ok (Heap.get?_push_size _ rfl))
  show wpAny _ _ (callWith cpos (.builtin "dict.items") [.ref d] [] []) _ X.xe s1
  exact method_meetsIn F.slot_dict_items F.entry_dict_items rfl (PySem.evalArgs_none ⟨rfl, dd.typeIs, F.args_dict_items_1 _, _, meets_dict_items (mixKind X.prog X.w) d hs, ⟨vs, dd⟩, ⟨V.ref _, _, I2, rfl, q _ hn⟩⟩)
def pairD (t : Int × Int) : PyData := .tuple [.int t.1, .int t.2]
def rSortedItems (K : PySem.W.Frag) : List V → Hp → VK → Prop := fun vs H Q => ∃ (v d : Addr) (ps : List (Int × Int)), vs = [V.ref v] ∧ H v = some (viewO v d) ∧ Rd H d (.dK (ps.map fun t => (Sum.inl t.1, V.int t.2))) ∧
  ∀ (p : Addr) (xs : List V) (T H' : Hp), Same H H' → H p = none → H' p = some (.lst xs) → (∀ b, T b ≠ none → H b = none) → Same T H' → RpAll K T xs (sortT (ps.map pairD)) → Q (.ref p) H'
def tupsAt : List Addr → List (Int × Int) → Hp
  | a :: as, t :: ts => upd (tupsAt as ts) a (.tup [.int t.1, .int t.2])
  | _, _ => fun _ => none
theorem tupsAt_mem : ∀ (as : List Addr) (ts : List (Int × Int)) (b : Addr), tupsAt as ts b ≠ none → b ∈ as
  | [], _, b, h => absurd rfl h
  | _ :: _, [], b, h => absurd rfl h
  | a :: as, t :: ts, b, h => by
    by_cases e : b = a
    · rw [e]; exact List.mem_cons_self ..
    · have h : upd (tupsAt as ts) a (.tup [.int t.1, .int t.2]) b ≠ none := h
      rw [upd_ne e] at h
      exact List.mem_cons_of_mem _ (tupsAt_mem as ts b h)
theorem tupsAt_none {as : List Addr} {ts : List (Int × Int)} {b : Addr} (h : b ∉ as) : tupsAt as ts b = none := by
  cases e : tupsAt as ts b with
  | none => rfl
  | some o => exact absurd (tupsAt_mem as ts b (by rw [e]; simp)) h
theorem tupsAt_all {K : PySem.W.Frag} : ∀ (as : List Addr) (ts : List (Int × Int)), as.length = ts.length → as.Pairwise (· < ·) → RpAll K (tupsAt as ts) (as.map V.ref) (ts.map pairD)
  | [], [], _, _ => .nil
  | [], _ :: _, h, _ => by simp at h
  | _ :: _, [], h, _ => by simp at h
  | a :: as, t :: ts, h, hp => by
    obtain ⟨h1, h2⟩ := List.pairwise_cons.mp hp
    have hn : tupsAt as ts a = none := tupsAt_none fun z => Nat.lt_irrefl _ (h1 a z)
    exact .cons (.tup (SqT.of upd_same) (.cons (.int _) (.cons (.int _) .nil))) ((tupsAt_all as ts (by simpa using h) h2).mono (same_new hn))
theorem tupsAt_some : ∀ (as : List Addr) (ts : List (Int × Int)) (b : Addr) (o : HO), tupsAt as ts b = some o → ∃ (j : Nat) (t : Int × Int), as[j]? = some b ∧ ts[j]? = some t ∧ o = .tup [.int t.1, .int t.2]
  | [], _, b, o, h => nomatch h
  | _ :: _, [], b, o, h => nomatch h
  | a :: as, t :: ts, b, o, h => by
    have h : upd (tupsAt as ts) a (.tup [.int t.1, .int t.2]) b = some o := h
    by_cases e : b = a
    · subst e
      rw [upd_same] at h
      cases h
      exact ⟨0, t, rfl, rfl, rfl⟩
    · rw [upd_ne e] at h
      obtain ⟨j, u, h1, h2, h3⟩ := tupsAt_some as ts b o h
      exact ⟨j + 1, u, by simpa using h1, by simpa using h2, h3⟩
theorem mix_int {P : Program} {w : World} {i : Int} {v : Value} (h : (mixKind P w).is (Sum.inl i) v = true) : ∃ t, v = .int i t := by
  have h : L2.keyIs (Sum.inl i) v = true := h
  rcases L2.keyIs_shape h with ⟨j, t, e, rfl⟩ | ⟨y, t, e, rfl⟩
  · cases e; exact ⟨t, rfl⟩
  · cases e
theorem refs_vals : ∀ (as : List Addr), Vals (as.map V.ref) (as.map Value.ref)
  | [] => .nil
  | _ :: as => .cons rfl (refs_vals as)
theorem cr_sortedItems (hc : X.calm = true) : CallR X (.builtin "sorted") (rSortedItems X.K) := by
  intro pins s σ H vs us Q I r h
  obtain ⟨v, d, ps, rfl, hv, hd, q⟩ := h
  rw [Vals.ref1 r]
  obtain ⟨z, hs, kv, rel, dd⟩ := dk_rd I.hok hd
  obtain ⟨ep, da⟩ := dd.dictAt
  have hview : s.heap.get? v = some { cls := .type "dict_items", data := .fields #[.ref d] } := (I.hok v _ hv).1
  have hlen : ps.length = kv.length := by have := rel.length; rwa [List.length_map] at this
  have hz : kv.length ≤ sizeLine := by rw [← hlen]; rwa [List.length_map] at z
  refine PySem.Calls.call_function_entry PyProof.Rows.kind_sorted PyProof.Rows.plain_sorted PyProof.Rows.entry_sorted (PyProof.Rows.args_sorted1 _) ?_
  unfold Builtin.«sorted»
  refine wpAny_bind (m := checkCount "sorted" 1 1 _) (wpAny_pure ?_)
  refine wpAny_bind (PySem.W.kdx_collect (A := X.A.in1) (knd := mixKind X.prog X.w) (kvs := kv) (ep := ep) (I.ok.hd hc) ⟨_, hview, rfl, rfl⟩ da hz fun h' tk as hk hl hG => ?_)
  refine wpAny_bind (wpAny_newList ?_ (by rw [List.length_map, hl]; exact hz))
  generalize hB : h'.objs.size = B
  have hBf : s.heap.get? B = none := fresh_of hk (Nat.le_of_eq hB)
  have hBn : H B = none := hok_none I.hok hBf
  have hasz : as.length = ps.length := by rw [hl, hlen]
  have hfr : ∀ a ∈ as, s.heap.get? a = none ∧ H a = none ∧ a ≠ B := fun a ha => by
    have h1 := hG.above a ha
    have h2 : s.heap.get? a = none := by
      cases e : s.heap.get? a with
      | none => rfl
      | some o => exact absurd (Heap.lt_size e) (Nat.not_lt.mpr (Nat.le_of_lt h1))
    exact ⟨h2, hok_none I.hok h2, by rw [← hB]; exact Nat.ne_of_lt (hG.there ha)⟩
  let T : Hp := tupsAt as ps
  have hTB : T B = none := tupsAt_none fun z => (hfr B z).2.2 rfl
  let H1 : Hp := fun b => match T b with
    | some o => some o
    | none => if b = B then some (.lst (as.map V.ref)) else H b
  have hT1 : Same T H1 := fun b o e => by show (match T b with | some o => some o | none => _) = _; rw [e]
  have hHT : ∀ b o, H b = some o → T b = none := fun b o e => tupsAt_none fun z => by rw [(hfr b z).2.1] at e; cases e
  have hH1 : Same H H1 := fun b o e => by
    show (match T b with | some o => some o | none => if b = B then some (HO.lst (as.map V.ref)) else H b) = _
    rw [hHT b o e]
    have : b ≠ B := fun z => by rw [z, hBn] at e; cases e
    show (if b = B then _ else H b) = _
    rw [if_neg this]; exact e
  have hB1 : H1 B = some (.lst (as.map V.ref)) := by
    show (match T B with | some o => some o | none => if B = B then some (HO.lst (as.map V.ref)) else H B) = _
    rw [hTB]; exact if_pos rfl
  have hval : ∀ (j : Nat) (t : Int × Int), ps[j]? = some t → ∃ tk : Tok, kv[j]? = some (Sum.inl t.1, Value.int t.2 tk) := fun j t e => by
    have hj : j < kv.length := by rw [← hlen]; exact (List.getElem?_eq_some_iff.mp e).1
    obtain ⟨p, e1, r1, r2⟩ := paired_get rel (List.getElem?_eq_getElem hj)
    rw [List.getElem?_map, e] at e1
    cases e1
    obtain ⟨tk, e3⟩ := r2
    refine ⟨tk, ?_⟩
    rw [List.getElem?_eq_getElem hj]
    have : kv[j] = (kv[j].1, kv[j].2) := rfl
    rw [this, ← r1, e3]
  have I1 : Inv X pins σ H1 { s with heap := h'.push { cls := .type "list", data := .seq (as.map Value.ref).toArray }, toks := tk } := by
    refine inv_many I (fun b u e => Heap.get?_push_of_some _ (hk b u e)) hH1 (fun b hb hb' => ?_) fun c o hc' ho => ?_
    · by_cases z : b = B
      · rw [z]; exact hBf
      · by_cases z2 : b ∈ as
        · exact (hfr b z2).1
        · exfalso
          apply hb'
          show (match T b with | some o => some o | none => if b = B then some (HO.lst (as.map V.ref)) else H b) = _
          rw [show T b = none from tupsAt_none z2]
          show (if b = B then _ else H b) = _
          rw [if_neg z]; exact hb
    · have ho : (match T c with | some o => some o | none => if c = B then some (HO.lst (as.map V.ref)) else H c) = some o := ho
      cases e : T c with
      | some u =>
        rw [e] at ho
        cases ho
        obtain ⟨j, t, h1, h2, rfl⟩ := tupsAt_some as ps c _ e
        obtain ⟨key, k, x, e1, e2, e3⟩ := hG.pairs j c h1
        obtain ⟨tk2, e4⟩ := hval j t h2
        rw [e4] at e1
        cases e1
        obtain ⟨tk3, rfl⟩ := mix_int e2
        · exact ⟨sizeLine_big (show (2 : Nat) ≤ 100000 by decide), [_, _], .cons ⟨_, rfl⟩ (.cons ⟨_, rfl⟩ .nil), _, Heap.get?_push_of_some _ e3, rfl, _, rfl, rfl⟩
      | none =>
        rw [e] at ho
        have ho : (if c = B then some (HO.lst (as.map V.ref)) else H c) = some o := ho
        by_cases z : c = B
        · rw [if_pos z] at ho
          cases ho
          refine ⟨by rw [List.length_map, hl]; exact hz, as.map Value.ref, 0, ?_, ?_⟩
          · exact refs_vals as
          · rw [z, ← hB]; exact Heap.get?_push_size _ rfl
        · rw [if_neg z, hc'] at ho; cases ho
  have hTall := tupsAt_all (K := X.K) as ps hasz hG.rise
  have hsh : ∀ e ∈ ps.map pairD, shpT (false :: [false]) e = true := fun e he => by
    obtain ⟨t, _, rfl⟩ := List.mem_map.mp he
    rfl
  refine wpAny_bind (wpAny_holding (sort_tracked I1 hB1 hTall hT1 hsh fun s' xs' I' hp' => ?_))
  refine wpAny_pure ⟨_, rfl, V.ref B, upd H1 B (.lst xs'), I', rfl, q B xs' T _ (fun b o e => ?_) hBn upd_same (fun b hb => (hfr b (tupsAt_mem as ps b hb)).2.1) (fun b o e => ?_) hp'⟩
  · rw [upd_ne (fun z => by rw [z, hBn] at e; cases e)]; exact hH1 b o e
  · rw [upd_ne (fun z => by rw [z, hTB] at e; cases e)]; exact hT1 b o e
end
end PD

set_option Elab.async false
set_option linter.all false
set_option maxRecDepth 100000
set_option maxHeartbeats 4000000
namespace PD
open PySem L2
section
variable {X : Cx} {a b e : Expr} {fa fb : Ef} {fs : Af} {pos apos cpos p : Pos}
def intKV : KVs → Option (List (Int × Int))
  | [] => some []
  | (.int k, .int v) :: es => (intKV es).map ((k, v) :: ·)
  | _ :: _ => none
theorem intKV_rp {K : PySem.W.Frag} {G : Hp} : ∀ {kvs : List (Key × V)} {es : KVs} {ps : List (Int × Int)}, RpKV K G kvs es → intKV es = some ps → kvs = ps.map fun t => (Sum.inl t.1, V.int t.2)
  | _, _, _, .nil, e => by cases e; rfl
  | _, _, _, .cons (k := k) (d := d) p ps, e => by
    cases k with
    | inr x => cases e
    | inl i =>
      cases d with
      | int j =>
        cases p
        obtain ⟨qs, e1, rfl⟩ := Option.map_eq_some_iff.mp e
        rw [intKV_rp ps e1]; rfl
      | _ => cases e
def fItemsS (fa : Ef) : Ef := fun ε => (fa ε).bind fun p => match p.1 with
  | .dict es => (intKV es).map fun ps => (.list (sortT (ps.map pairD)), p.2)
  | _ => none
theorem ev_itemsS (hc : X.calm = true) (hg : Gl X "sorted") (hm : X.mg "sorted" = none) (ha : Ev X a fa) (hbase : attributeBase a "items" X.env (eval a X.env) = eval a X.env := by rfl) (hline : (apos.endLine == cpos.line) = true := by rfl) :
    Ev X (.Call (.Name "sorted" p) [.Call (.Attribute a "items" apos) [] [] cpos] [] pos) (fItemsS fa) :=
  ⟨pe_mono (pe_callB (cr_sortedItems hc) hg hm (by decide +kernel) (pa_cons (pe_items ha.p hbase hline) pa_nil (by exact star_ok rfl)) (by decide) (by decide) (by exact star_ok rfl) (by exact plain_ok rfl)) fun σ H Q h => by
    obtain ⟨B, G, z, ε, d, ε', rep, ef, q⟩ := h
    obtain ⟨⟨d1, ε1⟩, e1, ef1⟩ := Option.bind_eq_some_iff.mp ef
    show tItems (tF X.K fa) σ H (fun v H1 => rSortedItems X.K [v] H1 Q)
    refine ⟨B, G, z, ε, d1, ε1, rep, e1, fun v G1 H1 g1 r1 p1 => ?_⟩
    cases p1 with
    | dct h1 h2 =>
      rename_i c kvs es
      obtain ⟨ps, e2, e3⟩ := Option.map_eq_some_iff.mp (show (intKV es).map (fun ps => (PyData.list (sortT (ps.map pairD)), ε1)) = some (d, ε') from ef1)
      obtain ⟨rfl, rfl⟩ := Prod.mk.inj e3
      have ek := intKV_rp h2 e2
      subst ek
      refine ⟨c, _, rfl, rd_same r1.sub h1, fun v hv => ?_⟩
      have sv := same_new (o := viewO v c) hv
      refine ⟨v, c, ps, rfl, upd_same, rd_same (r1.sub.trans sv) h1, fun p xs T H' hs hp hp' hT hTs hall => ?_⟩
      have hHp : H1 p = none := by
        by_cases z : p = v
        · rw [z]; exact hv
        · rw [upd_ne z] at hp; exact hp
      have sH : Same H1 H' := sv.trans hs
      have gn := grow_fill r1.sub sH
      have hTf : Same T (fill G1 H1 H') := fun b o eb => by
        have h0 : upd H1 v (viewO v c) b = none := hT b (by rw [eb]; simp)
        have h1 : H1 b = none := by
          by_cases z : b = v
          · rw [z]; exact hv
          · rw [upd_ne z] at h0; exact h0
        rw [fill_new h1]; exact hTs b o eb
      exact q _ _ _ (g1.trans (gn.gr r1.bg)) (gn.rep r1) (.lst (SqL.of (by rw [fill_new hHp]; exact hp')) (hall.mono hTf))
    | _ => cases ef1⟩
def dBools : List PyData → Option (List Bool)
  | [] => some []
  | .bool i :: ds => (dBools ds).map (i :: ·)
  | _ :: _ => none
theorem dBools_some : ∀ {ds : List PyData} {ns : List Bool}, dBools ds = some ns → ds = ns.map PyData.bool
  | [], _, h => by cases h; rfl
  | .bool i :: ds, _, h => by
    obtain ⟨ns, h1, rfl⟩ := Option.map_eq_some_iff.mp h
    rw [dBools_some h1]; rfl
  | .none :: _, _, h => by cases h
  | .int _ :: _, _, h => by cases h
  | .str _ :: _, _, h => by cases h
  | .list _ :: _, _, h => by cases h
  | .tuple _ :: _, _, h => by cases h
  | .dict _ :: _, _, h => by cases h
def dAny : List PyData → Option PyData
  | [.list ds] => (dBools ds).map fun ns => .bool (ns.any id)
  | _ => none
theorem cd_any {K : PySem.W.Frag} : CaD K (rAny K) dAny := fun vs ds c G H Q ps s eq q => by
  cases ps with
  | nil => cases eq
  | cons p ps =>
    cases ps with
    | cons _ _ => cases p <;> cases eq
    | nil =>
      cases p with
      | lst h1 h2 =>
        obtain ⟨ns, e1, rfl⟩ := Option.map_eq_some_iff.mp eq
        cases dBools_some e1
        have := h2.bls
        subst this
        exact ⟨_, ns, rfl, s.seq h1, q _ G H (Grow.refl s) (.bl _)⟩
      | _ => cases eq
end
end PD

set_option Elab.async false
set_option linter.all false
set_option maxRecDepth 100000
set_option maxHeartbeats 4000000
namespace PD
open PySem L2
section
variable {ε ε1 ε2 : En} {f : Sf} {ga gb : Tf} {fa fb fc : Ef} {bind : PyData → En → Option En} {vs : List Nat}
theorem gAnd_b {a b : Bool} (h : ga ε = some (a, ε1)) (h2 : a = true → gb ε1 = some (b, ε1)) : gAnd ga gb ε = some (a && b, ε1) := by
  cases a with
  | true => exact gAnd_t h (h2 rfl)
  | false => exact gAnd_f h
theorem comp_map {α : Type} (D : α → PyData) (p : α → Bool) (q : α → PyData) : ∀ (as : List α), (∀ a ∈ as, ∃ ε1, bind (D a) ε = some ε1 ∧ ga ε1 = some (p a, ε1) ∧ (p a = true → fa ε1 = some (q a, ε1)) ∧ clr ε1 vs = ε) →
    compF bind ga fa vs (as.map D) ε = some ((as.filter p).map q, ε)
  | [], _ => rfl
  | a :: as, h => by
    obtain ⟨ε1, h1, h2, h3, h4⟩ := h a (List.mem_cons_self ..)
    have ih := comp_map D p q as fun x hx => h x (List.mem_cons_of_mem _ hx)
    show ((bind (D a) ε).bind fun ε1 => (ga ε1).bind fun p => if p.1 = true then (fa p.2).bind fun q => (compF bind ga fa vs (as.map D) (clr q.2 vs)).map fun r => (q.1 :: r.1, r.2) else compF bind ga fa vs (as.map D) (clr p.2 vs)) = _
    rw [h1]
    simp only [Option.bind_some]
    rw [h2]
    simp only [Option.bind_some]
    cases hp : p a with
    | true =>
      rw [if_pos rfl, h3 hp]
      simp only [Option.bind_some]
      rw [h4, ih, List.filter_cons_of_pos hp]; rfl
    | false =>
      rw [if_neg Bool.false_ne_true, h4, ih, List.filter_cons_of_neg (by rw [hp]; exact Bool.false_ne_true)]
theorem sAsgT_b {is : List Nat} {d : PyData} (h : fa ε = some (d, ε1)) (h2 : bTup is d ε1 = some ε2) : sAsgT is fa ε = some (.nx ε2) := sAsgT_ok h h2
section
variable {β : Type} (emb : β → PyData)
def kvD (t : Int × β) : PyData × PyData := (.int t.1, emb t.2)
def lkI (ps : List (Int × β)) (k : Int) : Option β := (ps.find? fun t => t.1 == k).map (·.2)
def putI (ps : List (Int × β)) (k : Int) (v : β) : List (Int × β) := if (ps.any fun t => t.1 == k) = true then ps.map (fun t => if (t.1 == k) = true then (t.1, v) else t) else ps ++ [(k, v)]
theorem isKey_int (i k : Int) : isKey (.inl k) (.int i) = (i == k) := by
  show decide ((Sum.inl i : Key) = Sum.inl k) = _
  by_cases e : i = k
  · subst e; simp
  · rw [decide_eq_false (fun q => e (Sum.inl.inj q))]; exact (beq_eq_false_iff_ne.mpr e).symm
theorem getD_kv (ps : List (Int × β)) (k : Int) : getD (ps.map (kvD emb)) (.inl k) = (lkI ps k).map emb := by
  unfold getD lkI
  induction ps with
  | nil => rfl
  | cons t ps ih =>
    rw [List.map_cons, List.find?_cons, List.find?_cons, show isKey (.inl k) (kvD emb t).1 = (t.1 == k) from isKey_int _ _]
    cases t.1 == k with
    | true => rfl
    | false => exact ih
theorem any_kv (ps : List (Int × β)) (k : Int) : ((ps.map (kvD emb)).any fun e => isKey (.inl k) e.1) = ps.any fun t => t.1 == k := by
  induction ps with
  | nil => rfl
  | cons t ps ih =>
    rw [List.map_cons, List.any_cons, List.any_cons, ih]
    show (isKey (.inl k) (.int t.1) || _) = _
    rw [isKey_int]
theorem putD_kv (ps : List (Int × β)) (k : Int) (v : β) : putD (ps.map (kvD emb)) (.inl k) (emb v) = (putI ps k v).map (kvD emb) := by
  unfold putD putI
  rw [any_kv]
  by_cases h : (ps.any fun t => t.1 == k) = true
  · rw [if_pos h, if_pos h, List.map_map, List.map_map]
    apply List.map_congr_left
    intro t _
    show (if isKey (.inl k) (.int t.1) = true then (PyData.int t.1, emb v) else (.int t.1, emb t.2)) = kvD emb (if (t.1 == k) = true then (t.1, v) else t)
    rw [isKey_int]
    cases t.1 == k <;> rfl
  · rw [if_neg h, if_neg h, List.map_append]; rfl
theorem lk_put (ps : List (Int × β)) (k : Int) (v : β) (j : Int) : lkI (putI ps k v) j = if j = k then some v else lkI ps j := by
  unfold putI lkI
  by_cases h : (ps.any fun t => t.1 == k) = true
  · rw [if_pos h]
    induction ps with
    | nil => simp at h
    | cons t ps ih =>
      rw [List.map_cons, List.find?_cons, List.find?_cons]
      by_cases ht : t.1 = k
      · rw [if_pos (by simpa using ht)]
        by_cases hj : j = k
        · rw [if_pos hj, show ((t.1, v).1 == j) = true by rw [hj]; simpa using ht]; rfl
        · rw [if_neg hj, show ((t.1, v).1 == j) = false by rw [ht]; simpa using fun z => hj z.symm]
          show (List.find? _ _).map _ = _
          by_cases h2 : (ps.any fun t => t.1 == k) = true
          · rw [ih h2, if_neg hj]
          · have : ps.map (fun t => if (t.1 == k) = true then (t.1, v) else t) = ps := by
              conv => rhs; rw [← List.map_id ps]
              apply List.map_congr_left
              intro u hu
              have : (u.1 == k) = false := by
                cases hh : u.1 == k with
                | false => rfl
                | true => exact absurd (List.any_eq_true.mpr ⟨u, hu, hh⟩) h2
              rw [this]; rfl
            rw [this]
      · rw [if_neg (by simpa using ht)]
        have h2 : (ps.any fun t => t.1 == k) = true := by
          rw [List.any_cons] at h
          rcases (Bool.or_eq_true _ _).mp h with h | h
          · exact absurd (by simpa using h) ht
          · exact h
        by_cases hj : t.1 = j
        · rw [show (t.1 == j) = true by simpa using hj, if_neg (fun z => ht (hj.trans z))]
        · rw [show (t.1 == j) = false by simpa using hj]
          exact ih h2
  · rw [if_neg h, List.find?_append]
    by_cases hj : j = k
    · rw [if_pos hj]
      have : ps.find? (fun t => t.1 == j) = none := by
        rw [List.find?_eq_none]
        intro t ht hh
        exact h (List.any_eq_true.mpr ⟨t, ht, by rw [← hj]; exact hh⟩)
      rw [this]
      simp [hj]
    · rw [if_neg hj]
      have : [(k, v)].find? (fun t => t.1 == j) = none := by
        rw [List.find?_eq_none]
        intro t ht
        rw [List.mem_singleton.mp ht]
        simpa using fun z => hj z.symm
      rw [this, Option.or_none]
theorem put_keys (ps : List (Int × β)) (k : Int) (v : β) : (putI ps k v).map (·.1) = if (ps.any fun t => t.1 == k) = true then ps.map (·.1) else ps.map (·.1) ++ [k] := by
  unfold putI
  by_cases h : (ps.any fun t => t.1 == k) = true
  · rw [if_pos h, if_pos h, List.map_map]
    apply List.map_congr_left
    intro t _
    show (if (t.1 == k) = true then (t.1, v) else t).1 = t.1
    split <;> rfl
  · rw [if_neg h, if_neg h, List.map_append]; rfl
/-- the keys: none twice, from 0 to 6 -/
structure Ks (ps : List (Int × β)) : Prop where
  nd : (ps.map (·.1)).Nodup
  rg : ∀ k ∈ ps.map (·.1), 0 ≤ k ∧ k < 7
theorem ks_nil : Ks ([] : List (Int × β)) := ⟨by simp, fun k h => by simp at h⟩
theorem ks_put {ps : List (Int × β)} (h : Ks ps) {k : Int} (hk : 0 ≤ k ∧ k < 7) (v : β) : Ks (putI ps k v) := by
  constructor
  · rw [put_keys]
    split
    · exact h.nd
    · rename_i hn
      rw [List.nodup_append]
      refine ⟨h.nd, by simp, fun a ha b hb => ?_⟩
      rw [List.mem_singleton.mp hb]
      intro e
      subst e
      obtain ⟨t, ht, e2⟩ := List.mem_map.mp ha
      exact hn (List.any_eq_true.mpr ⟨t, ht, by simpa using e2⟩)
  · rw [put_keys]
    split
    · exact h.rg
    · intro j hj
      rcases List.mem_append.mp hj with hj | hj
      · exact h.rg j hj
      · rw [List.mem_singleton.mp hj]; exact hk
/-- what is known by keys, in the keys' order -/
def canon (W : Int → Option β) : List (Int × β) := (List.range 7).filterMap fun (h : Nat) => (W h).map fun v => ((h : Int), v)
theorem mem_canon {W : Int → Option β} {t : Int × β} : t ∈ canon W ↔ (0 ≤ t.1 ∧ t.1 < 7) ∧ W t.1 = some t.2 := by
  unfold canon
  rw [List.mem_filterMap]
  constructor
  · rintro ⟨h, h1, h2⟩
    obtain ⟨v, e1, rfl⟩ := Option.map_eq_some_iff.mp h2
    have := List.mem_range.mp h1
    exact ⟨⟨by omega, by show ((h : Nat) : Int) < 7; omega⟩, e1⟩
  · rintro ⟨⟨h1, h2⟩, h3⟩
    refine ⟨t.1.toNat, List.mem_range.mpr (by omega), ?_⟩
    rw [Int.toNat_of_nonneg h1, h3]; rfl
theorem canon_up (W : Int → Option β) : (canon W).Pairwise (fun a b => a.1 < b.1) := by
  unfold canon
  rw [List.pairwise_filterMap]
  refine List.pairwise_lt_range.imp fun {a b} hab => ?_
  intro x hx y hy
  obtain ⟨v, _, rfl⟩ := Option.map_eq_some_iff.mp hx
  obtain ⟨u, _, rfl⟩ := Option.map_eq_some_iff.mp hy
  show ((a : Nat) : Int) < (b : Nat)
  omega
theorem mem_lk {ps : List (Int × β)} (nd : (ps.map (·.1)).Nodup) {t : Int × β} : t ∈ ps ↔ lkI ps t.1 = some t.2 := by
  induction ps with
  | nil => simp [lkI]
  | cons u ps ih =>
    rw [List.map_cons, List.nodup_cons] at nd
    unfold lkI
    rw [List.find?_cons]
    by_cases e : u.1 = t.1
    · rw [show (u.1 == t.1) = true by simpa using e]
      constructor
      · intro h
        rcases List.mem_cons.mp h with rfl | h
        · rfl
        · exact absurd (List.mem_map.mpr ⟨t, h, e.symm⟩) nd.1
      · intro h
        have : u.2 = t.2 := by simpa using h
        have : t = u := Prod.ext e.symm this.symm
        rw [this]; exact List.mem_cons_self ..
    · rw [show (u.1 == t.1) = false by simpa using e]
      show _ ↔ lkI ps t.1 = some t.2
      rw [← ih nd.2]
      constructor
      · intro h
        rcases List.mem_cons.mp h with rfl | h
        · exact absurd rfl e
        · exact h
      · exact List.mem_cons_of_mem _
theorem canon_nodup (W : Int → Option β) : (canon W).Nodup := (canon_up W).imp fun {a b} h e => by rw [e] at h; exact absurd h (Int.lt_irrefl _)
theorem nodup_of_keys {ps : List (Int × β)} (nd : (ps.map (·.1)).Nodup) : ps.Nodup := by
  have h : (ps.map (·.1)).Pairwise (· ≠ ·) := nd
  rw [List.pairwise_map] at h
  exact h.imp fun {a b} h e => h (by rw [e])
theorem canon_perm {ps : List (Int × β)} (h : Ks ps) : (canon (lkI ps)).Perm ps := by
  rw [List.perm_ext_iff_of_nodup (canon_nodup _) (nodup_of_keys h.nd)]
  intro t
  rw [mem_canon, mem_lk h.nd]
  constructor
  · exact fun z => z.2
  · exact fun z => ⟨h.rg t.1 (List.mem_map.mpr ⟨t, (mem_lk h.nd).mpr z, rfl⟩), z⟩
end
end
end PD

set_option Elab.async false
set_option linter.all false
set_option maxRecDepth 100000
set_option maxHeartbeats 4000000
namespace PD
open PySem L2
theorem intKV_map : ∀ (ps : List (Int × Int)), intKV (ps.map (kvD PyData.int)) = some ps
  | [] => rfl
  | t :: ps => by
    show (intKV (ps.map (kvD PyData.int))).map ((t.1, t.2) :: ·) = _
    rw [intKV_map ps]; rfl
theorem lex_up {a b : Int × Int} (h : a.1 < b.1) : PyProof.Rows.lexLt PyProof.Rows.itemOrd (dkT (pairD b)) (dkT (pairD a)) = false := by
  show PyProof.Rows.lexLt PyProof.Rows.itemOrd [Sum.inl b.1, Sum.inl b.2] [Sum.inl a.1, Sum.inl a.2] = false
  rw [PyProof.Rows.lex_false]
  refine ⟨?_, .inl ?_⟩
  · show decide (b.1 < a.1) = false
    exact decide_eq_false (by omega)
  · show decide (a.1 < b.1) = true
    exact decide_eq_true h
theorem sortT_canon {ps : List (Int × Int)} (h : Ks ps) : sortT (ps.map pairD) = (canon (lkI ps)).map pairD := by
  symm
  refine sortK_one (κ := PyProof.Rows.listOrd PyProof.Rows.itemOrd) (kd := dkT) ((canon_perm h).map _) ?_ fun a b ha hb e => ?_
  · rw [List.pairwise_map]
    exact (canon_up _).imp fun {a b} hab => lex_up hab
  · obtain ⟨x, _, rfl⟩ := List.mem_map.mp ha
    obtain ⟨y, _, rfl⟩ := List.mem_map.mp hb
    exact dkT_inj (sh := [false, false]) rfl rfl e
theorem mem_insN {k : Nat} {L : List Nat} {j : Nat} (hk : k ∉ L) : j ∈ insN k L ↔ j = k ∨ j ∈ L := by
  unfold insN
  simp only [List.mem_append, List.mem_cons, List.mem_filter, decide_eq_true_eq]
  constructor
  · rintro (⟨a, _⟩ | rfl | ⟨a, _⟩)
    · exact .inr a
    · exact .inl rfl
    · exact .inr a
  · rintro (rfl | h)
    · exact .inr (.inl rfl)
    · rcases Nat.lt_trichotomy j k with h1 | h1 | h1
      · exact .inl ⟨h, h1⟩
      · exact .inr (.inl h1)
      · exact .inr (.inr ⟨h, h1⟩)
theorem mem_addN {k : Nat} {L : List Nat} {j : Nat} : j ∈ addN k L ↔ j = k ∨ j ∈ L := by
  unfold addN
  by_cases h : k ∈ L
  · rw [if_pos h]
    exact ⟨.inr, fun z => z.elim (fun e => e ▸ h) id⟩
  · rw [if_neg h]; exact mem_insN h
theorem insN_up {k : Nat} {L : List Nat} (h : L.Pairwise (· < ·)) : (insN k L).Pairwise (· < ·) := by
  unfold insN
  rw [List.pairwise_append]
  refine ⟨h.filter _, ?_, fun a ha b hb => ?_⟩
  · rw [List.pairwise_cons]
    refine ⟨fun b hb => ?_, h.filter _⟩
    simpa using (List.mem_filter.mp hb).2
  · have h1 : a < k := by simpa using (List.mem_filter.mp ha).2
    rcases List.mem_cons.mp hb with rfl | hb
    · exact h1
    · have : k < b := by simpa using (List.mem_filter.mp hb).2
      omega
theorem addN_up {k : Nat} {L : List Nat} (h : L.Pairwise (· < ·)) : (addN k L).Pairwise (· < ·) := by
  unfold addN
  split
  · exact h
  · exact insN_up h
theorem setFold_ints : ∀ (ns : List Int) (L : List Nat), L.Pairwise (· < ·) → (∀ n ∈ ns, 0 ≤ n ∧ n < 7) → ∃ M, setFold L (ns.map PyData.int) = some M ∧ M.Pairwise (· < ·) ∧ ∀ j, j ∈ M ↔ j ∈ L ∨ (j : Int) ∈ ns
  | [], L, h, _ => ⟨L, rfl, h, fun j => by simp⟩
  | n :: ns, L, h, hr => by
    have hn := hr n (List.mem_cons_self ..)
    obtain ⟨M, e, h1, h2⟩ := setFold_ints ns (addN n.toNat L) (addN_up h) fun m hm => hr m (List.mem_cons_of_mem _ hm)
    refine ⟨M, ?_, h1, fun j => ?_⟩
    · show (if 0 ≤ n ∧ n < 7 then setFold (addN n.toNat L) (ns.map PyData.int) else none) = _
      rw [if_pos hn]; exact e
    · rw [h2, mem_addN, List.mem_cons]
      constructor
      · rintro ((rfl | h) | h)
        · exact .inr (.inl (Int.toNat_of_nonneg hn.1))
        · exact .inl h
        · exact .inr (.inr h)
      · rintro (h | h | h)
        · exact .inl (.inr h)
        · exact .inl (.inl (by omega))
        · exact .inr h
theorem rising_eq {M N : List Nat} (h1 : M.Pairwise (· < ·)) (h2 : N.Pairwise (· < ·)) (h : ∀ j, j ∈ M ↔ j ∈ N) : M = N :=
  List.Perm.eq_of_pairwise (fun a b _ _ x y => absurd (Nat.lt_trans x y) (Nat.lt_irrefl _)) h1 h2 ((List.perm_ext_iff_of_nodup (h1.imp fun {a b} h e => by omega) (h2.imp fun {a b} h e => by omega)).mpr h)
/-- the set of some numbers, sorted -/
def setN (p : Int → Bool) : List Nat := (List.range 7).filter fun (h : Nat) => p h
theorem mem_setN {p : Int → Bool} {j : Nat} : j ∈ setN p ↔ j < 7 ∧ p j = true := by unfold setN; rw [List.mem_filter, List.mem_range]
theorem setN_up (p : Int → Bool) : (setN p).Pairwise (· < ·) := List.pairwise_lt_range.filter _
theorem setFold_set {ns : List Int} (hr : ∀ n ∈ ns, 0 ≤ n ∧ n < 7) : setFold [] (ns.map PyData.int) = some (setN fun h => ns.contains h) := by
  obtain ⟨M, e, h1, h2⟩ := setFold_ints ns [] (by simp) hr
  rw [e, rising_eq h1 (setN_up _) fun j => ?_]
  rw [h2, mem_setN]
  simp only [List.not_mem_nil, false_or, List.contains_iff_mem]
  exact ⟨fun z => ⟨by have := (hr _ z).2; omega, z⟩, fun z => z.2⟩
theorem canon_keys {β : Type} (W : Int → Option β) : (canon W).map (·.1) = (setN fun h => (W h).isSome).map fun (n : Nat) => (n : Int) := by
  unfold canon setN
  induction List.range 7 with
  | nil => rfl
  | cons x xs ih =>
    rw [List.filterMap_cons, List.filter_cons]
    cases e : W (x : Nat) with
    | none => simpa [e] using ih
    | some v => simpa [e] using ih
theorem dNotIn_ints {h : Int} {ns : List Int} : dNotIn (.int h) (.list (ns.map PyData.int)) = some (.bool (!ns.contains h)) := by
  show (if sh (.int h) = true ∧ sh (.list (ns.map PyData.int)) = true then some (PyData.bool (!(ns.map PyData.int).any fun z => PyData.eqv z (.int h))) else none) = _
  rw [if_pos ⟨rfl, sh_ints ns⟩]
  congr 3
  induction ns with
  | nil => rfl
  | cons n ns ih =>
    rw [List.map_cons, List.any_cons, ih, eqv_int]
    rw [List.contains_cons, BEq.comm]
theorem dIn_ints {h : Int} {ns : List Int} : dIn (.int h) (.list (ns.map PyData.int)) = some (.bool (ns.contains h)) := by
  show (if sh (.int h) = true ∧ sh (.list (ns.map PyData.int)) = true then some (PyData.bool ((ns.map PyData.int).any fun z => PyData.eqv z (.int h))) else none) = _
  rw [if_pos ⟨rfl, sh_ints ns⟩]
  congr 2
  induction ns with
  | nil => rfl
  | cons n ns ih =>
    rw [List.map_cons, List.any_cons, ih, eqv_int]
    rw [List.contains_cons, BEq.comm]
end PD

set_option Elab.async false
set_option linter.all false
set_option maxRecDepth 100000
set_option maxHeartbeats 4000000
namespace PD
open PySem L2
def clrO (vs : List Nat) : Out → Out
  | .nx ε => .nx (clr ε vs)
  | .ct ε => .ct (clr ε vs)
  | .bk ε => .bk (clr ε vs)
  | o => o
def sClr (vs : List Nat) (f : Sf) : Sf := fun ε => (f ε).map (clrO vs)
def sPre (vs : List Nat) (f : Sf) : Sf := fun ε => f (clr ε vs)
theorem Rep.clr {K : PySem.W.Frag} {B G H : Hp} {z : Option (Option V)} {σ : St} {ε : En} (r : Rep K B G H z σ ε) (vs : List Nat) : Rep K B G H z σ (PD.clr ε vs) :=
  r.agree (by rw [clr_length]; exact r.len) fun j s hs hj => ⟨(clr_some hj hs).2, rfl⟩
theorem OutOk.clr {K : PySem.W.Frag} {B G : Hp} {z : Option (Option V)} {D : Ends} {o : Out} (vs : List Nat) (h : OutOk K B G z D (clrO vs o)) : OutOk K B G z D o := by
  cases o with
  | nx ε => exact fun G' σ' H' g' r => h G' σ' H' g' (r.clr vs)
  | rt d ε => exact h
  | bk ε => exact fun G' σ' H' g' r => h G' σ' H' g' (r.clr vs)
  | ct ε => exact fun G' σ' H' g' r => h G' σ' H' g' (r.clr vs)
  | rf d ε => exact h
section
variable {X : Cx} {st : Stmt} {rest : List Stmt} {f : Sf} {vs : List Nat}
theorem bv_clr (h : Bv X rest f) : Bv X rest (sClr vs f) := ⟨pss_mono h.p fun D σ H ⟨B, G, z, ε, o, r, ef, k⟩ => by
  obtain ⟨o1, e1, rfl⟩ := Option.map_eq_some_iff.mp ef
  exact ⟨B, G, z, ε, o1, r, e1, k.clr vs⟩⟩
theorem sv_pre (h : Sv X st f) : Sv X st (sPre vs f) := ⟨ps_mono h.p fun D σ H ⟨B, G, z, ε, o, r, ef, k⟩ => ⟨B, G, z, PD.clr ε vs, o, r.clr vs, ef, k⟩⟩
end
section
variable {bind : PyData → En → Option En} {f : Sf} {ε : En}
theorem loop_same {α : Type} (D : α → PyData) : ∀ (as : List α), (∀ a ∈ as, (bind (D a) ε).bind f = some (.nx ε)) → loopF bind f (as.map D) ε = some (.nx ε)
  | [], _ => rfl
  | a :: as, h => by
    have h1 := h a (List.mem_cons_self ..)
    have ih := loop_same D as fun x hx => h x (List.mem_cons_of_mem _ hx)
    obtain ⟨ε1, e1, e2⟩ := Option.bind_eq_some_iff.mp h1
    show ((bind (D a) ε).bind fun ε1 => (f ε1).bind _) = _
    rw [e1]; simp only [Option.bind_some]; rw [e2]; exact ih
theorem loop_fold {α β : Type} (D : α → PyData) (step : β → α → β) (env : β → En) (P : β → Prop) : ∀ (as : List α) (b : β), P b → (∀ a ∈ as, ∀ b, P b → P (step b a) ∧ (bind (D a) (env b)).bind f = some (.nx (env (step b a)))) →
    P (as.foldl step b) ∧ loopF bind f (as.map D) (env b) = some (.nx (env (as.foldl step b)))
  | [], b, hb, _ => ⟨hb, rfl⟩
  | a :: as, b, hb, h => by
    obtain ⟨hb', e⟩ := h a (List.mem_cons_self ..) b hb
    obtain ⟨ε1, e1, e2⟩ := Option.bind_eq_some_iff.mp e
    obtain ⟨hb2, e3⟩ := loop_fold D step env P as (step b a) hb' fun y hy => h y (List.mem_cons_of_mem _ hy)
    refine ⟨hb2, ?_⟩
    show ((bind (D a) (env b)).bind fun ε1 => (f ε1).bind _) = _
    rw [e1]; simp only [Option.bind_some]; rw [e2]; exact e3
/-- a comprehension turn by turn -/
def compStep (bind : PyData → En → Option En) (ga : Tf) (fa : Ef) (vs : List Nat) (d : PyData) (ε : En) : Option (Option PyData × En) := (bind d ε).bind fun ε1 => (ga ε1).bind fun p => if p.1 = true then (fa p.2).map fun q => (some q.1, clr q.2 vs) else some (none, clr p.2 vs)
theorem comp_fm {ga : Tf} {fa : Ef} {vs : List Nat} {α : Type} (D : α → PyData) (q : α → Option PyData) : ∀ (as : List α), (∀ a ∈ as, compStep bind ga fa vs (D a) ε = some (q a, ε)) → compF bind ga fa vs (as.map D) ε = some (as.filterMap q, ε)
  | [], _ => rfl
  | a :: as, h => by
    have h1 := h a (List.mem_cons_self ..)
    have ih := comp_fm (ga := ga) (fa := fa) (vs := vs) D q as fun x hx => h x (List.mem_cons_of_mem _ hx)
    show ((bind (D a) ε).bind fun ε1 => (ga ε1).bind fun p => if p.1 = true then (fa p.2).bind fun q => (compF bind ga fa vs (as.map D) (clr q.2 vs)).map fun r => (q.1 :: r.1, r.2) else compF bind ga fa vs (as.map D) (clr p.2 vs)) = _
    unfold compStep at h1
    obtain ⟨ε1, e1, h2⟩ := Option.bind_eq_some_iff.mp h1
    obtain ⟨⟨b, ε2⟩, e2, h3⟩ := Option.bind_eq_some_iff.mp h2
    rw [e1]; simp only [Option.bind_some]; rw [e2]; simp only [Option.bind_some]
    cases b with
    | true =>
      rw [if_pos rfl] at h3 ⊢
      obtain ⟨⟨y, ε3⟩, e3, h4⟩ := Option.map_eq_some_iff.mp h3
      obtain ⟨e4, e5⟩ := Prod.mk.inj h4
      rw [e3]; simp only [Option.bind_some]
      simp only at e5
      rw [e5, ih, List.filterMap_cons_some e4.symm]; rfl
    | false =>
      rw [if_neg Bool.false_ne_true] at h3 ⊢
      obtain ⟨e4, e5⟩ := Prod.mk.inj (Option.some.inj h3)
      simp only at e5 ⊢
      rw [e5, ih, List.filterMap_cons_none e4.symm]
theorem comp_all {ga : Tf} {fa : Ef} {vs : List Nat} {α : Type} (D : α → PyData) (q : α → PyData) (as : List α) (h : ∀ a ∈ as, compStep bind ga fa vs (D a) ε = some (some (q a), ε)) : compF bind ga fa vs (as.map D) ε = some (as.map q, ε) := by
  rw [comp_fm D (fun a => some (q a)) as h]
  congr 2
  exact List.filterMap_eq_map ▸ rfl
theorem fold_inv {α β : Type} {step : β → α → β} (P : β → Prop) : ∀ (as : List α) (b : β), P b → (∀ a ∈ as, ∀ b, P b → P (step b a)) → P (as.foldl step b)
  | [], _, h, _ => h
  | a :: as, b, h, hs => fold_inv P as (step b a) (hs a (List.mem_cons_self ..) b h) fun x hx => hs x (List.mem_cons_of_mem _ hx)
variable {ds : List PyData} {ε0 : En}
theorem loop_go {α β : Type} (D : α → PyData) (step : β → α → β) (env : β → En) (P : β → Prop) (as : List α) (b : β) (hd : ds = as.map D) (h0 : ε0 = env b) (hP : P b) (hs : ∀ a ∈ as, ∀ b, P b → P (step b a)) (h : ∀ a ∈ as, ∀ b, P b → (bind (D a) (env b)).bind f = some (.nx (env (step b a)))) :
    loopF bind f ds ε0 = some (.nx (env (as.foldl step b))) := by
  subst hd h0
  exact (loop_fold D step env P as b hP fun a ha b hb => ⟨hs a ha b hb, h a ha b hb⟩).2
theorem loop_id {α : Type} (D : α → PyData) (as : List α) (hd : ds = as.map D) (h : ∀ a ∈ as, (bind (D a) ε0).bind f = some (.nx ε0)) : loopF bind f ds ε0 = some (.nx ε0) := by
  subst hd
  exact loop_same D as h
theorem comp_go {ga : Tf} {fa : Ef} {vs : List Nat} {α : Type} (D : α → PyData) (q : α → Option PyData) (as : List α) (hd : ds = as.map D) (h : ∀ a ∈ as, compStep bind ga fa vs (D a) ε0 = some (q a, ε0)) : compF bind ga fa vs ds ε0 = some (as.filterMap q, ε0) := by
  subst hd
  exact comp_fm D q as h
theorem comp_goM {ga : Tf} {fa : Ef} {vs : List Nat} {α : Type} (D : α → PyData) (q : α → PyData) (as : List α) (hd : ds = as.map D) (h : ∀ a ∈ as, compStep bind ga fa vs (D a) ε0 = some (some (q a), ε0)) : compF bind ga fa vs ds ε0 = some (as.map q, ε0) := by
  subst hd
  exact comp_all D q as h
theorem loop_ex {α β : Type} (D : α → PyData) (env : β → En) (P : Nat → β → Prop) : ∀ (as : List α) (b : β), P as.length b → (∀ a ∈ as, ∀ n b, P (n + 1) b → ∃ b', P n b' ∧ (bind (D a) (env b)).bind f = some (.nx (env b'))) →
    ∃ b', P 0 b' ∧ loopF bind f (as.map D) (env b) = some (.nx (env b'))
  | [], b, hb, _ => ⟨b, hb, rfl⟩
  | a :: as, b, hb, h => by
    obtain ⟨b1, h1, e⟩ := h a (List.mem_cons_self ..) as.length b hb
    obtain ⟨b2, h2, e3⟩ := loop_ex D env P as b1 h1 fun y hy => h y (List.mem_cons_of_mem _ hy)
    obtain ⟨ε1, e1, e2⟩ := Option.bind_eq_some_iff.mp e
    refine ⟨b2, h2, ?_⟩
    show ((bind (D a) (env b)).bind fun ε1 => (f ε1).bind _) = _
    rw [e1]; simp only [Option.bind_some]; rw [e2]; exact e3
end
end PD

set_option Elab.async false
set_option linter.all false
set_option maxRecDepth 100000
set_option maxHeartbeats 4000000
namespace PD
open PySem L2
section
variable {ε : En} {f g : Sf} {fa fb fc : Ef} {fs fk : Af} {ga gb : Tf} {bind : PyData → En → Option En} {vs : List Nat} {i n : Nat}
theorem qSeq : sSeq f g ε = (f ε).bind fun o => match o with | .nx ε' => g ε' | o => some o := rfl
theorem qPass : sPass ε = some (.nx ε) := rfl
theorem qDrop : sDrop fa ε = (fa ε).map fun p => .nx p.2 := rfl
theorem qRet : sRet fa ε = (fa ε).map fun p => .rt p.1 p.2 := rfl
theorem qRetF : sRetF fa ε = (fa ε).map fun p => .rf p.1 p.2 := rfl
theorem qIf : sIf ga f g ε = (ga ε).bind fun p => if p.1 = true then f p.2 else g p.2 := rfl
theorem qAsg : sAsg i fa ε = (fa ε).map fun p => .nx (p.2.set i (.fz p.1)) := rfl
theorem qAsgM : sAsgM i fa ε = (fa ε).map fun p => .nx (p.2.set i (.mu p.1)) := rfl
theorem qbName {d : PyData} : bName i d ε = some (ε.set i (.fz d)) := rfl
theorem qNames0 : bNames [] [] ε = some ε := rfl
theorem qNamesS {is : List Nat} {d : PyData} {ds : List PyData} : bNames (i :: is) (d :: ds) ε = bNames is ds (ε.set i (.fz d)) := rfl
theorem qTup {is : List Nat} {ds : List PyData} : bTup is (.tuple ds) ε = bNames is ds ε := rfl
theorem qAsgT {is : List Nat} : sAsgT is fa ε = (fa ε).bind fun p => (bTup is p.1 p.2).map .nx := rfl
theorem qFor : sFor fs bind f ε = (fs ε).bind fun p => loopF bind f p.1 p.2 := rfl
theorem qPre : sPre vs f ε = f (clr ε vs) := rfl
theorem qClr : sClr vs f ε = (f ε).map (clrO vs) := rfl
theorem qClrN : clrO vs (.nx ε) = .nx (clr ε vs) := rfl
theorem qClrC : clrO vs (.ct ε) = .ct (clr ε vs) := rfl
theorem qClrB : clrO vs (.bk ε) = .bk (clr ε vs) := rfl
theorem qClrR {d : PyData} : clrO vs (.rt d ε) = .rt d ε := rfl
theorem qClrF {d : PyData} : clrO vs (.rf d ε) = .rf d ε := rfl
theorem qclr0 : clr ε [] = ε := rfl
theorem qclrS {v : Nat} : clr ε (v :: vs) = (clr ε vs).set v .un := rfl
theorem qC {d : PyData} : fC d ε = some (d, ε) := rfl
theorem qVar : fVar i ε = match ε[i]? with | some (.fz d) => some (d, ε) | some (.mu d) => some (d, ε.set i (.fz d)) | _ => none := rfl
theorem qBin {q : PyData → PyData → Option PyData} : fBin q fa fb ε = (fa ε).bind fun p => (fb p.2).bind fun r => (q p.1 r.1).map fun c => (c, r.2) := rfl
theorem qUn {q : PyData → Option PyData} : fUn q fa ε = (fa ε).bind fun p => (q p.1).map fun c => (c, p.2) := rfl
theorem qAnd : fAnd fa fb ε = (fa ε).bind fun p => (dTrue p.1).bind fun b => if b = true then fb p.2 else some (.bool false, p.2) := rfl
theorem qOr : fOr fa fb ε = (fa ε).bind fun p => (dTrue p.1).bind fun b => if b = true then some (.bool true, p.2) else fb p.2 := rfl
theorem qTrue {b : Bool} : dTrue (.bool b) = some b := rfl
theorem qNot {b : Bool} : dNot (.bool b) = some (.bool (!b)) := rfl
theorem qIfE : fIfE ga fa fb ε = (ga ε).bind fun p => if p.1 = true then fa p.2 else fb p.2 := rfl
theorem qNil : fNil ε = some ([], ε) := rfl
theorem qCons : fCons fa fs ε = (fa ε).bind fun p => (fs p.2).map fun r => (p.1 :: r.1, r.2) := rfl
theorem qCall {F : List PyData → Option PyData} : fCall F fs ε = (fs ε).bind fun p => (F p.1).map fun c => (c, p.2) := rfl
theorem qCallK {F : List PyData → List PyData → Option PyData} : fCallK F fs fk ε = (fs ε).bind fun p => (fk p.2).bind fun r => (F p.1 r.1).map fun c => (c, r.2) := rfl
theorem qgd1 {F : List PyData → Option PyData} {a : PyData} : gd 1 F [a] = F [a] := rfl
theorem qgd2 {F : List PyData → Option PyData} {a b : PyData} : gd 2 F [a, b] = F [a, b] := rfl
theorem qgd3 {F : List PyData → Option PyData} {a b c : PyData} : gd 3 F [a, b, c] = F [a, b, c] := rfl
theorem qgd4 {F : List PyData → Option PyData} {a b c d : PyData} : gd 4 F [a, b, c, d] = F [a, b, c, d] := rfl
theorem qgd5 {F : List PyData → Option PyData} {a b c d e : PyData} : gd 5 F [a, b, c, d, e] = F [a, b, c, d, e] := rfl
theorem qgd6 {F : List PyData → Option PyData} {a b c d e k : PyData} : gd 6 F [a, b, c, d, e, k] = F [a, b, c, d, e, k] := rfl
theorem qgVal : gVal fa ε = (fa ε).bind fun p => (dTrue p.1).map fun b => (b, p.2) := rfl
theorem qgAnd : gAnd ga gb ε = (ga ε).bind fun p => if p.1 = true then gb p.2 else some (false, p.2) := rfl
theorem qgOr : gOr ga gb ε = (ga ε).bind fun p => if p.1 = true then some (true, p.2) else gb p.2 := rfl
theorem qgNot : gNot ga ε = (ga ε).map fun p => (!p.1, p.2) := rfl
theorem qgTru : gTru fa ε = (fa ε).bind fun p => (dTru p.1).map fun b => (b, p.2) := rfl
theorem qgYes : gYes ε = some (true, ε) := rfl
theorem qTruB {b : Bool} : dTru (.bool b) = some b := rfl
theorem qTruN : dTru .none = some false := rfl
theorem qTruL {ds : List PyData} : dTru (.list ds) = some (!ds.isEmpty) := by cases ds <;> rfl
theorem qTruT {ds : List PyData} : dTru (.tuple ds) = some (!ds.isEmpty) := by cases ds <;> rfl
theorem qSl {fl fh : Of} : fSl fa fl fh ε = (fa ε).bind fun p => (fl p.2).bind fun q => (fh q.2).bind fun r => (dSl p.1 q.1 r.1).map fun d => (d, r.2) := rfl
theorem qoN : oNone ε = some (none, ε) := rfl
theorem qoS : oSome fa ε = (fa ε).bind fun p => (dInt p.1).map fun i => (some i, p.2) := rfl
theorem qInt {k : Int} : dInt (.int k) = some k := rfl
theorem qIsi {s : String} : fIsi s fa ε = (fa ε).map fun p => (.bool (isSub (tyName p.1) s), p.2) := rfl
theorem qSrc : fSrc fa ε = (fa ε).bind fun p => (dSeq p.1).map fun ds => (ds, p.2) := rfl
theorem qSeqL {ds : List PyData} : dSeq (.list ds) = some ds := rfl
theorem qSeqT {ds : List PyData} : dSeq (.tuple ds) = some ds := rfl
theorem qRow {F : PyData → List PyData → Option (PyData × PyData)} : fRow i n F fs ε = match ε[i]? with
  | some (.mu _) => (fs ε).bind fun q => match q.2[i]? with
    | some (.mu r) => if q.1.length + 1 = n then (F r q.1).map fun t => (t.1, q.2.set i (.mu t.2)) else none
    | _ => none
  | _ => none := rfl
theorem qComp : fComp fs bind ga fa vs ε = (fs ε).bind fun p => (compF bind ga fa vs p.1 (clr p.2 vs)).bind fun r => (dLst r.1).map fun d => (d, r.2) := rfl
theorem qIxM : fIxM i fb ε = (asList ε i).bind fun _ => (fb ε).bind fun q => (asList q.2 i).bind fun ds => (dInt q.1).bind fun j => (atI ds j).map fun d => (d, q.2) := rfl
theorem qAppM : sAppM i fa ε = (asList ε i).bind fun _ => (fa ε).bind fun p => (asList p.2 i).bind fun ds => if ds.length < sizeLine then some (.nx (p.2.set i (.mu (.list (ds ++ [p.1]))))) else none := rfl
theorem qAsL : asList ε i = match ε[i]? with | some (.mu (.list ds)) => some ds | _ => none := rfl
theorem qAsD : asDict ε i = match ε[i]? with | some (.mu (.dict ds)) => some ds | _ => none := rfl
theorem qDict0 : fDict0 ε = some (.dict [], ε) := rfl
theorem qPutM : sPutM i fa fb ε = (fa ε).bind fun p => (asDict p.2 i).bind fun _ => (fb p.2).bind fun q => (asDict q.2 i).bind fun es => (keyD q.1).bind fun k => if es.length < sizeLine then some (.nx (q.2.set i (.mu (.dict (putD es k p.1))))) else none := rfl
theorem qGetM : fGetM i fa fb ε = (asDict ε i).bind fun _ => (fa ε).bind fun p => (fb p.2).bind fun q => (asDict q.2 i).bind fun es => (keyD p.1).map fun k => ((getD es k).getD q.1, q.2) := rfl
theorem qAtM : fAtM i fa ε = (asDict ε i).bind fun _ => (fa ε).bind fun p => (asDict p.2 i).bind fun es => (keyD p.1).bind fun k => (getD es k).map fun d => (d, p.2) := rfl
theorem qKeyI {k : Int} : keyD (.int k) = some (.inl k) := rfl
theorem qKeyS {x : Str} : keyD (.str x) = some (.inr x) := rfl
theorem qoutP {d : PyData} : outP (some (.rt d ε)) = some d := rfl
theorem qoutPn : outP (some (.nx ε)) = some .none := rfl
theorem qoutN {d : PyData} : outN (some (.rf d ε)) = some d := rfl
theorem qoutR {d r : PyData} {rest : En} : outR (some (.rt d (.mu r :: rest))) = some (d, r) := rfl
theorem qoutRn {r : PyData} {rest : En} : outR (some (.nx (.mu r :: rest))) = some (.none, r) := rfl
theorem qEnum : fEnum fs ε = (fs ε).bind fun p => match p.1 with | [.list ds] => some (enumD ds, p.2) | _ => none := rfl
theorem qRng1 : fRng1 fs ε = (fs ε).bind fun p => match p.1 with | [.int j] => if dR j = true then some (rangeD 0 j.toNat, p.2) else none | _ => none := rfl
theorem qRng2 : fRng2 fs ε = (fs ε).bind fun p => match p.1 with | [.int i, .int j] => if dR i = true ∧ dR j = true then some (rangeD i (j - i).toNat, p.2) else none | _ => none := rfl
theorem qSetC : fSetC fs bind ga fa vs ε = (fs ε).bind fun p => (compF bind ga fa vs p.1 (clr p.2 vs)).bind fun r => (setFold [] r.1).map fun L => (L, r.2) := rfl
theorem qSortedC {c : Cf} : fSorted c ε = (c ε).map fun p => (.list (intL p.1), p.2) := rfl
theorem qItemsS : fItemsS fa ε = (fa ε).bind fun p => match p.1 with | .dict es => (intKV es).map fun ps => (.list (sortT (ps.map pairD)), p.2) | _ => none := rfl
theorem qChain {g g' : PyData → PyData → Option PyData} : fChain g g' fa fb fc ε = (fa ε).bind fun p => (fb p.2).bind fun q => (g p.1 q.1).bind fun c => (dTrue c).bind fun b => if b = true then (fc q.2).bind fun r => (g' q.1 r.1).map fun c' => (c', r.2) else some (.bool false, q.2) := rfl
theorem qAddI {a b : Int} : dAdd (.int a) (.int b) = some (.int (a + b)) := rfl
theorem qSubI {a b : Int} : dSub (.int a) (.int b) = some (.int (a - b)) := rfl
theorem qLt {a b : Int} : dLt (.int a) (.int b) = some (.bool (decide (a < b))) := rfl
theorem qLe {a b : Int} : dLe (.int a) (.int b) = some (.bool (decide (a ≤ b))) := rfl
theorem qGt {a b : Int} : dGt (.int a) (.int b) = some (.bool (decide (b < a))) := rfl
theorem qGe {a b : Int} : dGe (.int a) (.int b) = some (.bool (decide (b ≤ a))) := rfl
theorem qIs {d : PyData} : dIs d .none = some (.bool (isNone d)) := rfl
theorem qIsNot {d : PyData} : dIsNot d .none = some (.bool (!isNone d)) := rfl
theorem qNeg {a : Int} : dNeg (.int a) = some (.int (-a)) := rfl
theorem qMax2 {a b : Int} : dMax [.int a, .int b] = some (.int (if b > a then b else a)) := rfl
theorem qIntB {b : Bool} : dIntOf [.bool b] = some (.int (if b then 1 else 0)) := rfl
theorem qIntI {b : Int} : dIntOf [.int b] = some (.int b) := rfl
theorem qLenL {ds : List PyData} : dLen [.list ds] = some (.int ds.length) := rfl
theorem qLenT {ds : List PyData} : dLen [.tuple ds] = some (.int ds.length) := rfl
theorem qTupL {ds : List PyData} : dTupOf [.list ds] = some (.tuple ds) := rfl
theorem qTupT {ds : List PyData} : dTupOf [.tuple ds] = some (.tuple ds) := rfl
theorem qListL {ds : List PyData} : dListOf [.list ds] = some (.list ds) := rfl
theorem qListT {ds : List PyData} : dListOf [.tuple ds] = some (.list ds) := rfl
theorem qSlL {ds : List PyData} {lo hi : Option Int} : dSl (.list ds) lo hi = some (.list (cutD ds lo hi)) := rfl
theorem qSlT {ds : List PyData} {lo hi : Option Int} : dSl (.tuple ds) lo hi = some (.tuple (cutD ds lo hi)) := rfl
theorem qdTup0 : dTup [] = some (.tuple []) := by unfold dTup; rw [if_pos (sizeLine_big (by simp))]
theorem qdTup1 {a : PyData} : dTup [a] = some (.tuple [a]) := by unfold dTup; rw [if_pos (sizeLine_big (by simp))]
theorem qdTup2 {a b : PyData} : dTup [a, b] = some (.tuple [a, b]) := by unfold dTup; rw [if_pos (sizeLine_big (by simp))]
theorem qdTup3 {a b c : PyData} : dTup [a, b, c] = some (.tuple [a, b, c]) := by unfold dTup; rw [if_pos (sizeLine_big (by simp))]
theorem qdTup4 {a b c d : PyData} : dTup [a, b, c, d] = some (.tuple [a, b, c, d]) := by unfold dTup; rw [if_pos (sizeLine_big (by simp))]
theorem qdTup5 {a b c d e : PyData} : dTup [a, b, c, d, e] = some (.tuple [a, b, c, d, e]) := by unfold dTup; rw [if_pos (sizeLine_big (by simp))]
theorem qdTup6 {a b c d e k : PyData} : dTup [a, b, c, d, e, k] = some (.tuple [a, b, c, d, e, k]) := by unfold dTup; rw [if_pos (sizeLine_big (by simp))]
theorem qdTup7 {a b c d e k l : PyData} : dTup [a, b, c, d, e, k, l] = some (.tuple [a, b, c, d, e, k, l]) := by unfold dTup; rw [if_pos (sizeLine_big (by simp))]
theorem qdLst {ds : List PyData} (h : ds.length ≤ 100000) : dLst ds = some (.list ds) := by unfold dLst; rw [if_pos (sizeLine_big h)]
theorem qAddL {a b : List PyData} (h : a.length + b.length ≤ 100000) : dAdd (.list a) (.list b) = some (.list (a ++ b)) := by
  show (if a.length + b.length ≤ sizeLine then some (PyData.list (a ++ b)) else none) = _
  rw [if_pos (sizeLine_big h)]
theorem qAddT {a b : List PyData} (h : a.length + b.length ≤ 100000) : dAdd (.tuple a) (.tuple b) = some (.tuple (a ++ b)) := by
  show (if a.length + b.length ≤ sizeLine then some (PyData.tuple (a ++ b)) else none) = _
  rw [if_pos (sizeLine_big h)]
theorem qIxT {ds : List PyData} {k : Int} : dIx (.tuple ds) (.int k) = atI ds k := rfl
theorem qIxL {ds : List PyData} {k : Int} : dIx (.list ds) (.int k) = atI ds k := rfl
theorem at0 {a : PyData} {l : List PyData} : atI (a :: l) 0 = some a := by
  unfold atI ixN
  rw [if_pos (by decide), if_pos (by rw [List.length_cons]; omega)]; rfl
theorem atS {a : PyData} {l : List PyData} (k : Nat) : atI (a :: l) ((k + 1 : Nat) : Int) = atI l (k : Nat) := by
  unfold atI ixN
  rw [List.length_cons, if_pos (show (0 : Int) ≤ ((k + 1 : Nat) : Int) by omega), if_pos (show (0 : Int) ≤ ((k : Nat) : Int) by omega)]
  by_cases h : k < l.length
  · rw [if_pos (by omega), if_pos (by omega)]; simp
  · rw [if_neg (by omega), if_neg (by omega)]; rfl
theorem at1 {a b : PyData} {l : List PyData} : atI (a :: b :: l) 1 = some b := (atS 0).trans at0
theorem at2 {a b c : PyData} {l : List PyData} : atI (a :: b :: c :: l) 2 = some c := (atS 1).trans at1
theorem at3 {a b c d : PyData} {l : List PyData} : atI (a :: b :: c :: d :: l) 3 = some d := (atS 2).trans at2
theorem at4 {a b c d e : PyData} {l : List PyData} : atI (a :: b :: c :: d :: e :: l) 4 = some e := (atS 3).trans at3
theorem at5 {a b c d e k : PyData} {l : List PyData} : atI (a :: b :: c :: d :: e :: k :: l) 5 = some k := (atS 4).trans at4
theorem at6 {a b c d e k j : PyData} {l : List PyData} : atI (a :: b :: c :: d :: e :: k :: j :: l) 6 = some j := (atS 5).trans at5
theorem cutTo (xs : List PyData) (k : Nat) : cutD xs none (some (k : Int)) = xs.take k := by
  unfold cutD
  rw [HT.sIx_none, HT.sIx_nat, List.drop_zero, Nat.sub_zero]
  by_cases h : k ≤ xs.length
  · rw [Nat.min_eq_left h]
  · rw [Nat.min_eq_right (by omega), List.take_of_length_le (Nat.le_refl _), List.take_of_length_le (by omega)]
theorem cutFrom (xs : List PyData) (k : Nat) : cutD xs (some (k : Int)) none = xs.drop k := by
  unfold cutD
  rw [HT.sIx_none, HT.sIx_nat]
  by_cases h : k ≤ xs.length
  · rw [Nat.min_eq_left h, List.take_of_length_le (by rw [List.length_drop]; omega)]
  · rw [Nat.min_eq_right (by omega), List.drop_of_length_le (by omega), List.drop_of_length_le (by omega)]; simp
theorem cutT1 (xs : List PyData) : cutD xs none (some 1) = xs.take 1 := cutTo xs 1
theorem cutT2 (xs : List PyData) : cutD xs none (some 2) = xs.take 2 := cutTo xs 2
theorem cutT3 (xs : List PyData) : cutD xs none (some 3) = xs.take 3 := cutTo xs 3
theorem cutT4 (xs : List PyData) : cutD xs none (some 4) = xs.take 4 := cutTo xs 4
theorem cutF1 (xs : List PyData) : cutD xs (some 1) none = xs.drop 1 := cutFrom xs 1
theorem cutF2 (xs : List PyData) : cutD xs (some 2) none = xs.drop 2 := cutFrom xs 2
theorem cutF3 (xs : List PyData) : cutD xs (some 3) none = xs.drop 3 := cutFrom xs 3
end
end PD

set_option Elab.async false
set_option linter.all false
set_option maxRecDepth 100000
set_option maxHeartbeats 4000000
namespace PD
open PySem L2
section
variable {X : Cx} {tg a b e : Expr} {es : List Expr} {fa fb : Ef} {fs : Af} {p pos tpos : Pos}
end
end PD

set_option Elab.async false
set_option linter.all false
set_option maxRecDepth 100000
set_option maxHeartbeats 4000000
namespace PD
open PySem L2 PySem.Spec PyProof.Rows
section
variable {prog : Program} {w : World} {A : Around} {E : Value → Shared → Prop}
end


end PD

set_option Elab.async false
set_option linter.all false
set_option maxRecDepth 100000
set_option maxHeartbeats 4000000
namespace PD
open PySem L2 PySem.Spec PyProof.Rows
section
variable {X : Cx}
end
inductive RpKs (K : PySem.W.Frag) (G : Hp) : List (Key × V) → List (Key × PyData) → Prop
  | nil : RpKs K G [] []
  | cons {k : Key} {v : V} {d : PyData} {vs : List (Key × V)} {ds : List (Key × PyData)} : Rp K G v d → RpKs K G vs ds → RpKs K G ((k, v) :: vs) ((k, d) :: ds)
theorem RpKs.merge {K : PySem.W.Frag} {G : Hp} : ∀ {vs : List (Key × V)} {ds : List (Key × PyData)}, RpKs K G vs ds → ∀ {av : List (Key × V)} {ad : KVs}, RpKV K G av ad → RpKV K G (mergeK av vs) (ds.foldl (fun es t => putD es t.1 t.2) ad)
  | _, _, .nil, _, _, h => h
  | _, _, .cons (k := k) p ps, _, _, h => RpKs.merge ps (h.put k p)
end PD

set_option Elab.async false
set_option linter.all false
set_option maxRecDepth 100000
set_option maxHeartbeats 4000000
namespace PD
open PySem L2 PyProof.Rows PyProof.Rows.KTD
structure TabK (K : PySem.W.Frag) (a : Addr) (D : List (Str × Value)) : Prop where
  sys : (a == sysModules) = false
  ex : ∃ o es ep, K.lookup a = some o ∧ o.ExactDict ∧ o.data = .dict es ep ∧ Rows (fun d v => d = v) es.toList D
section
variable {prog : Program} {w : World} {A : Around} {E : Value → Shared → Prop} {s : Shared} {K : PySem.W.Frag} {a : Addr} {D : List (Str × Value)} {k : Str} {tk : Tok}
theorem TabK.typeIs (T : TabK K a D) (X : K.In s.heap) : s.TypeIs (.ref a) "dict" := let ⟨_, o, _, _, ho, hc, _⟩ := T; ⟨o, X _ _ ho, hc.1⟩
theorem TabK.noDict {h : Heap} (T : TabK K a D) (X : K.In h) : ∀ b, Value.ref a = .ref b → ∃ ob, h.get? b = some ob ∧ ob.dict = none :=
  fun b e => by injection e with e; subst e; exact let ⟨_, o, _, _, ho, hc, _⟩ := T; ⟨o, X _ _ ho, hc.2.1⟩
end
/-- the table as data -/
inductive RpTab (K : PySem.W.Frag) : List (Str × Value) → List (Str × PyData) → Prop
  | nil : RpTab K [] []
  | cons {x : Str} {v : Value} {d : PyData} {D : List (Str × Value)} {L : List (Str × PyData)} (u : V) : RelV u v → (∀ G, Rp K G u d) → RpTab K D L → RpTab K ((x, v) :: D) ((x, d) :: L)
theorem RpTab.at {K : PySem.W.Frag} (k : Str) : ∀ {D : List (Str × Value)} {L : List (Str × PyData)}, RpTab K D L → (datumAt k D = none ∧ datumAt k L = none) ∨ ∃ v d u, datumAt k D = some v ∧ datumAt k L = some d ∧ RelV u v ∧ ∀ G, Rp K G u d
  | _, _, .nil => .inl ⟨rfl, rfl⟩
  | _, _, .cons (x := x) (v := v) (d := d) (D := D) (L := L) u r p t => by
    by_cases h : k = x
    · refine .inr ⟨v, d, u, ?_, ?_, r, p⟩ <;> simp [datumAt, h]
    · have e1 : datumAt k ((x, v) :: D) = datumAt k D := by simp [datumAt, h]
      have e2 : datumAt k ((x, d) :: L) = datumAt k L := by simp [datumAt, h]
      rw [e1, e2]; exact RpTab.at k t
section
variable {X : Cx} {e : Expr} {fa : Ef} {x : Str} {a : Addr} {D : List (Str × Value)} {L : List (Str × PyData)} {p apos cpos : Pos}
end
end PD

set_option Elab.async false
set_option linter.all false
set_option maxRecDepth 100000
set_option maxHeartbeats 4000000
namespace PD
open PySem L2
section
variable {X : Cx} {x : Str} {e e' : Expr} {pos pos' apos cpos : Pos} {fa fb : Ef}
end
end PD

set_option Elab.async false
set_option linter.all false
set_option maxRecDepth 100000
set_option maxHeartbeats 4000000
namespace PD
open PySem L2 PySem.Spec PyProof.Rows
section
variable {prog : Program} {w : World} {A : Around} {E : Value → Shared → Prop} {s : Shared}
end
section
variable {X : Cx} {e a : Expr} {fa : Ef} {fs : Af} {pos p p2 p3 pos' : Pos}
theorem vals_ints : ∀ {ns : List Nat} {us : List Value}, Vals (ns.map fun (n : Nat) => V.int n) us → PyProof.Rows.IntsAre us (ns.map fun (n : Nat) => (n : Int))
  | [], _, .nil => .nil
  | _ :: _, _, .cons r h => by obtain ⟨t, rfl⟩ := r; exact .cons _ t (vals_ints h)
end
end PD

set_option Elab.async false
set_option linter.all false
set_option maxRecDepth 100000
set_option maxHeartbeats 4000000
namespace PD
open PySem L2 PySem.Spec PyProof.Rows
section
variable {X : Cx} {e a : Expr} {fa : Ef} {fs : Af} {pos p p2 p3 pos' : Pos}
end
section
variable {prog : Program} {w : World} {A : Around} {E : Value → Shared → Prop} {s : Shared} {r : Addr} {a b c : Int} {t u v : Tok} {n : Nat}
end
section
variable {X : Cx} {e a : Expr} {fa : Ef} {fs : Af} {pos p p2 p3 pos' : Pos}
end
end PD

set_option Elab.async false
set_option linter.all false
set_option maxRecDepth 100000
set_option maxHeartbeats 4000000
namespace PD
open PySem L2 PySem.Spec PyProof.Rows
section
variable {X : Cx}
def rEmp (K : PySem.W.Frag) (neg : Bool) : R2 := fun x y H Q => ∃ a b xs, x = .ref a ∧ y = .ref b ∧ SqL K H a xs ∧ SqL K H b [] ∧ Q (.bl (if neg then !xs.isEmpty else xs.isEmpty)) H
theorem op_neE (hu : X.A.units + 64 < cLine) : OpR X (compareOp .NotEq) (rEmp X.K true) := by
  intro pins s σ H x y v u Q I rx ry h
  obtain ⟨a, b, xs, rfl, rfl, ha, hb, q⟩ := h
  cases rx; cases ry
  obtain ⟨its, r1, p1, _⟩ := I.list ha
  obtain ⟨jts, r2, p2, _⟩ := I.list hb
  cases r2
  cases xs with
  | nil =>
    cases r1
    refine SeqAt.RcNeAt.lists (e := fun _ => true) p1.isList p2.isList rfl (by omega) (fun j h1 _ => by simp at h1) X.prog X.w _ _ ?_
    exact ⟨.bl false, H, I, rfl, q⟩
  | cons z zs =>
    cases r1
    refine SeqAt.RcNeAt.lists_lengths p1.isList p2.isList (by simp) (by omega) X.prog X.w _ _ ?_
    exact ⟨.bl true, H, I, rfl, q⟩
end
end PD

set_option Elab.async false
set_option linter.all false
set_option maxRecDepth 100000
set_option maxHeartbeats 4000000
namespace PD
open PySem L2 PySem.Spec PyProof.Rows
def Flies (P : Program) (w : World) (outer : List Env) (H : Hp) (s : Shared) (ea C : Addr) (H' : Hp) (s' : Shared) : Prop :=
  s'.os = s.os ∧ AllBare s'.gens ∧
  (∃ (B : Heap) (t : Addr), Heap.FlyingW B outer ea (.ref C) (.ref t) s'.heap ∧ HOk P w H' B ∧ (∀ b o, s.heap.get? b = some o → H b = none → b ∉ frs outer → B.get? b = some o) ∧ (∀ b o, s.heap.get? b = some o → b ∉ frs outer → ∃ o', B.get? b = some o')) ∧
  (∀ b o, s.heap.get? b = some o → H b = none → b ∈ frs outer → ∃ sl, s'.heap.get? b = some { o with slots := sl }) ∧
  (∀ b o, s.heap.get? b = some o → H b = none → H' b = none) ∧ (∀ b xs, H b = some (.tup xs) → H' b = some (.tup xs)) ∧ (∀ b o u, H b = some (.frz o u) → H' b = some (.frz o u)) ∧ (∀ b ps, H b = some (.tbl ps) → ∃ more, H' b = some (.tbl (ps ++ more)))
def CXE (P : Program) (w : World) : CXT := fun outer H s E e s' => ∃ ea C H', e = .ref ea ∧ Flies P w outer H s ea C H' s' ∧ E (.ref C) none H'
/-- what stands behind it, once it has landed -/
theorem Flies.un {P : Program} {w : World} {outer : List Env} {H H' : Hp} {s s' : Shared} {ea C : Addr} {h'' : Heap} (F : Flies P w outer H s ea C H' s') (k : ∀ B t, Heap.FlyingW B outer ea (.ref C) (.ref t) s'.heap → B.StaysIn h'') (u : s'.heap.UpToSlots h'') (hfr : ∀ b o, s.heap.get? b = some o → b ∈ frs outer → H b = none) :
    Un (frs outer) [] H H' s.heap h'' ∧ HOk P w H' h'' := by
  obtain ⟨_, _, ⟨B, t, hfl, hok, h1, h2⟩, h3, h4, h5, h6, h7⟩ := F
  have hst := k B t hfl
  have hsl : ∀ b o, s.heap.get? b = some o → H b = none → b ∈ frs outer → ∃ sl, h''.get? b = some { o with slots := sl } := fun b o e n hb => by
    obtain ⟨sl, e1⟩ := h3 b o e n hb
    obtain ⟨_, o', ho', hnf⟩ := hfl.2.2.1.mem hb
    rw [e1] at ho'
    cases ho'
    obtain ⟨sl', e2⟩ := u b _ e1 hnf
    exact ⟨sl', e2⟩
  refine ⟨⟨fun b o e n hb _ => hst b o (h1 b o e n hb), fun b o e n hb _ => hsl b o e n hb, fun b o e n _ => h4 b o e n, fun b o e _ => ?_, h5, h6, h7⟩, hok.kept hst⟩
  by_cases hb : b ∈ frs outer
  · obtain ⟨sl, e2⟩ := hsl b o e (hfr b o e hb) hb
    exact ⟨_, e2⟩
  · obtain ⟨o', e1⟩ := h2 b o e hb
    exact ⟨o', hst b o' e1⟩
section
variable {P : Program} {w : World} {K : PySem.W.Frag} {mg : Str → Option Value} {base : Heap} {N : List Str} {qual : Str} {sc : Scope} {f : Addr} {cdv : Value} {A : Around} {outer : List Env} {s : Shared} {H : Hp} {E : XK}
end
end PD

set_option Elab.async false
set_option linter.all false
set_option maxRecDepth 100000
set_option maxHeartbeats 4000000
namespace PD
open PySem L2
inductive XR (α : Type) where
  | ok (a : α) | ex (c : Str) (ε : En)
abbrev XEf := En → Option (XR (PyData × En))
abbrev XAf := En → Option (XR (List PyData × En))
abbrev XSf := En → Option (XR Out)
abbrev Wish := Addr → L2.St → Hp → Prop
/-- what is wanted of exceptions in a body -/
structure XPs (X : Cx) (Ex : Wish) : Prop where
  pass : ∀ (pins : List (Addr × Obj)) (σ : L2.St) (H1 H2 : Hp) (s1 s2 : Shared) (ea C : Addr), Inv X pins σ H1 s1 → Flies X.prog X.w X.stack H1 s1 ea C H2 s2 → Ex C σ H2 → X.xe (.ref ea) s2
structure XOk (X : Cx) (Ex : Wish) : Prop extends XPs X Ex where
  made : ∀ (pins : List (Addr × Obj)) (σ : L2.St) (H1 : Hp) (s1 : Shared) (h2 : Heap) (ea C : Addr) (vs : List Value), Inv X pins σ H1 s1 → Heap.MadeExcOf s1.heap h2 ea (.ref C) vs → Ex C σ H1 → X.xe (.ref ea) { s1 with heap := h2 }
def tXF (K : PySem.W.Frag) (ce : Str → Addr) (Ex : Wish) (f : XEf) : TE := fun σ H Q => ∃ B G z ε r, Rep K B G H z σ ε ∧ f ε = some r ∧ match r with
  | .ok p => ∀ v G' H', Gr B G G' → Rep K B G' H' z σ p.2 → Rp K G' v p.1 → Q v H'
  | .ex c ε' => ∀ G' H', Gr B G G' → Rep K B G' H' z σ ε' → Ex (ce c) σ H'
def tXA (K : PySem.W.Frag) (ce : Str → Addr) (Ex : Wish) (f : XAf) : TA := fun σ H Q => ∃ B G z ε r, Rep K B G H z σ ε ∧ f ε = some r ∧ match r with
  | .ok p => ∀ v G' H', Gr B G G' → Rep K B G' H' z σ p.2 → RpAll K G' v p.1 → Q v H'
  | .ex c ε' => ∀ G' H', Gr B G G' → Rep K B G' H' z σ ε' → Ex (ce c) σ H'
def XOut (K : PySem.W.Frag) (ce : Str → Addr) (Ex : Wish) (B G : Hp) (z : Option (Option V)) (D : Ends) : XR Out → Prop
  | .ok o => OutOk K B G z D o
  | .ex c ε' => ∀ G' σ' H', Gr B G G' → Rep K B G' H' z σ' ε' → Ex (ce c) σ' H'
theorem XOut.gr {K : PySem.W.Frag} {ce : Str → Addr} {Ex : Wish} {B G G1 : Hp} {z : Option (Option V)} {D : Ends} {o : XR Out} (g : Gr B G G1) (h : XOut K ce Ex B G z D o) : XOut K ce Ex B G1 z D o := by
  cases o with
  | ok o => exact OutOk.gr g h
  | ex c ε => exact fun G' σ' H' g' r' => h G' σ' H' (g.trans g') r'
def tXS (K : PySem.W.Frag) (ce : Str → Addr) (Ex : Wish) (f : XSf) : TS := fun D σ H => ∃ B G z ε r, Rep K B G H z σ ε ∧ f ε = some r ∧ XOut K ce Ex B G z D r
structure EvX (ce : Str → Addr) (Ex : Wish) (X : Cx) (e : Expr) (f : XEf) : Prop where
  p : PE X e (tXF X.K ce Ex f)
structure AvX (ce : Str → Addr) (Ex : Wish) (X : Cx) (es : List Expr) (f : XAf) : Prop where
  p : PA X es (tXA X.K ce Ex f)
structure SvX (ce : Str → Addr) (Ex : Wish) (X : Cx) (e : Stmt) (f : XSf) : Prop where
  p : PS X e (tXS X.K ce Ex f)
structure BvX (ce : Str → Addr) (Ex : Wish) (X : Cx) (e : List Stmt) (f : XSf) : Prop where
  p : PSs X e (tXS X.K ce Ex f)
abbrev XF := List PyData → Option (Except Str PyData)
def spX (K : PySem.W.Frag) (ce : Str → Addr) (n : Nat) (F : XF) : Sp := fun vs H Q E => ∃ G ds r, vs.length = n ∧ Same G H ∧ RpAll K G vs ds ∧ F ds = some r ∧ match r with
  | .ok d => ∀ v G' H', Same H H' → Same G' H' → Gr H G G' → Rp K G' v d → Q v H'
  | .error c => ∀ G' H', Same H H' → Same G' H' → Gr H G G' → E (.ref (ce c)) none H'
section
variable {ce : Str → Addr} {Ex : Wish} {X : Cx} {e a b : Expr} {es : List Expr} {st : Stmt} {rest : List Stmt} {fa fb : XEf} {fs : XAf} {f g : XSf} {pos p : Pos}
variable {k n : Nat} {fn : Addr} {fd : FuncData} {ps : List Str} {x : Str} {sp : Sp} {t : TA}
end
def bmV : List Value := [.type "ValueError", .type "Exception", .type "BaseException", .type "object"]
/-- an own class of errors, as it lies in the known part of the heap; bm: its mro behind itself -/
structure ExcK (K : PySem.W.Frag) (C : Addr) (bm : List Value) : Prop where
  obj : ∃ (N : Addr) (nm q : Str) (bs : List Value) (hdct : Bool) (sn : List Str) (sub : List Value) (ab : Bool) (col : Option Bool) (dd : Option Addr) (k0 k1 k2 k3 k5 : Option Value) (oN : Obj),
    K.lookup C = some (excClassObj nm q C N bs bm hdct sn sub ab col dd k0 k1 k2 k3 k5 "ValueError.__new__") ∧ K.lookup N = some oN ∧ ∀ h : Heap, K.In h → (∃ mN, h.Ns N mN ∧ mN "__init__" = none) ∧ OwnTail h bmV bm
section
variable {ce : Str → Addr} {Ex : Wish} {X : Cx} {e : Expr} {pos cpos np : Pos} {x : Str} {bm : List Value}
end
section
variable {P : Program} {w : World} {K : PySem.W.Frag} {mg : Str → Option Value} {base : Heap}
end
end PD

set_option Elab.async false
set_option linter.all false
set_option maxRecDepth 100000
set_option maxHeartbeats 4000000
namespace PD
open PySem L2 PySem.Spec PyProof.Rows
end PD

set_option Elab.async false
set_option linter.all false
set_option maxRecDepth 100000
set_option maxHeartbeats 4000000
namespace PD
open PySem L2 PySem.Spec PyProof.Rows
section
variable {X : Cx}
end
end PD

set_option Elab.async false
set_option linter.all false
set_option maxRecDepth 100000
set_option maxHeartbeats 4000000
namespace PD
open PySem L2 PySem.Spec PyProof.Rows PyProof.Rows.KTD
section
variable {prog : Program} {w : World} {A : Around} {E : Value → Shared → Prop} {s : Shared} {K : PySem.W.Frag} {a : Addr} {D : List (Str × Value)} {k : Str} {tk : Tok}
end
section
variable {ce : Str → Addr} {Ex : Wish} {X : Cx} {e b : Expr} {es : List Expr} {p1 p2 p3 p4 p5 p6 p7 : Pos} {y xt : Str} {fk : Ef} {fs : XAf} {n k : Nat} {D : List (Str × Value)} {ta : Addr} {ps : List Str}
/-- what the functions of the table promise -/
structure FnTab (P : Program) (w : World) (K : PySem.W.Frag) (mg : Str → Option Value) (base : Heap) (ce : Str → Addr) (k n : Nat) (ps : List Str) (D : List (Str × Value)) (Fs : List (Str × XF)) : Prop where
  fn : ∀ w' F, datumAt w' Fs = some F → ∃ f fd, datumAt w' D = some (.ref f) ∧ PySem.W.keepIn K (.ref f) = true ∧ Binds K fd ps [] ∧ FnOk P w K mg base (CXE P w) k f fd ps (spX K ce n F)
end
end PD

set_option Elab.async false
set_option linter.all false
set_option maxRecDepth 100000
set_option maxHeartbeats 4000000
namespace PD
open PySem L2 PySem.Spec PyProof.Rows
section
variable {ce : Str → Addr} {Ex : Wish} {X : Cx} {st : Stmt} {rest : List Stmt}
end
section
variable {ce : Str → Addr} {Ex : Wish} {X : Cx} {st : Stmt} {rest : List Stmt} {f : XSf} {vs : List Nat} {pos : Pos}
end
abbrev Cx.inEx (X : Cx) (v : Value) : Cx := { X with A := X.A.mark (some v), calm := false }
section
variable {X : Cx} {pins : List (Addr × Obj)} {σ : L2.St} {H : Hp} {s : Shared} {v : Value}
end
section
variable {M : Model} {A : Around} {E : Value → Shared → Prop}
variable {nm q : Str} {C N : Addr} {bs bm : List Value} {hdct : Bool} {sn : List Str} {sub : List Value} {ab : Bool} {col : Option Bool} {dd : Option Addr} {k0 k1 k2 k3 k5 : Option Value} {newId : String}
variable {nm' q' : Str} {C' N' : Addr} {bs' bm' : List Value} {hdct' : Bool} {sn' : List Str} {sub' : List Value} {ab' : Bool} {col' : Option Bool} {dd' : Option Addr} {k0' k1' k2' k3' k5' : Option Value} {newId' : String}
end
end PD

set_option Elab.async false
set_option linter.all false
set_option maxRecDepth 100000
set_option maxHeartbeats 4000000
namespace PD
open PySem L2 PySem.Spec PyProof.Rows
theorem Flies.split {P : Program} {w : World} {outer : List Env} {H H' : Hp} {s s' : Shared} {ea C : Addr} (F : Flies P w outer H s ea C H' s') (hfr : ∀ b o, s.heap.get? b = some o → b ∈ frs outer → H b = none) :
    ∃ B t, Heap.FlyingW B outer ea (.ref C) (.ref t) s'.heap ∧ ∀ h'', B.StaysIn h'' → s'.heap.UpToSlots h'' → Un (frs outer) [] H H' s.heap h'' ∧ HOk P w H' h'' := by
  obtain ⟨f1, f2, ⟨B, t, hfl, hok, h1, h2⟩, rest⟩ := F
  refine ⟨B, t, hfl, fun h'' hst u => ?_⟩
  obtain ⟨h3, h4, h5, h6, h7⟩ := rest
  have hsl : ∀ b o, s.heap.get? b = some o → H b = none → b ∈ frs outer → ∃ sl, h''.get? b = some { o with slots := sl } := fun b o e n hb => by
    obtain ⟨sl, e1⟩ := h3 b o e n hb
    obtain ⟨_, o', ho', hnf⟩ := hfl.2.2.1.mem hb
    rw [e1] at ho'
    cases ho'
    obtain ⟨sl', e2⟩ := u b _ e1 hnf
    exact ⟨sl', e2⟩
  refine ⟨⟨fun b o e n hb _ => hst b o (h1 b o e n hb), fun b o e n hb _ => hsl b o e n hb, fun b o e n _ => h4 b o e n, fun b o e _ => ?_, h5, h6, h7⟩, hok.kept hst⟩
  by_cases hb : b ∈ frs outer
  · obtain ⟨sl, e2⟩ := hsl b o e (hfr b o e hb) hb
    exact ⟨_, e2⟩
  · obtain ⟨o', e1⟩ := h2 b o e hb
    exact ⟨o', hst b o' e1⟩
/-- the own classes of errors: to each its own names in its mro -/
structure ClsOk (K : PySem.W.Frag) (ce : Str → Addr) (names : List Str) (sup : List (Str × List Str)) : Prop where
  cls : ∀ c cs, (c, cs) ∈ sup → ∃ bm, ExcK K (ce c) bm ∧ ∀ c' ∈ names, (Value.ref (ce c) :: bm).contains (.ref (ce c')) = cs.contains c'
/-- the clauses: except C: suite -/
inductive HvL (ce : Str → Addr) (names : List Str) (X : Cx) : List ExceptHandler → List (Str × Sf) → Prop
  | nil : HvL ce names X [] []
  | cons {x c : Str} {np hpos : Pos} {b₀ : Stmt} {suite : List Stmt} {f : Sf} {bm : List Value} {rest : List ExceptHandler} {ms : List (Str × Sf)} (hg : Gl X x) (hm : X.mg x = some (.ref (ce c))) (hd : (x == ("__debug__" : Str)) = false) (hn : c ∈ names) (O : ExcK X.K (ce c) bm) (hb : ∀ v, Bv (Cx.inEx X v).nox (b₀ :: suite) f) :
      HvL ce names X rest ms → HvL ce names X (.ExceptHandler (some (.Name x np)) none (b₀ :: suite) hpos :: rest) ((c, f) :: ms)
section
variable {ce : Str → Addr} {names : List Str} {sup : List (Str × List Str)} {X : Cx} {body : List Stmt} {hs : List ExceptHandler} {ms : List (Str × Sf)} {fb : XSf} {pos : Pos}
end
end PD

set_option Elab.async false
set_option linter.all false
set_option maxRecDepth 100000
set_option maxHeartbeats 4000000
namespace PD
open PySem L2 PySem.Spec PyProof.Rows PyProof.Rows.KTD
section
variable {P : Program} {w : World} {K : PySem.W.Frag} {mg : Str → Option Value} {base : Heap} {k n : Nat} {f : Addr} {fd : FuncData} {ps : List Str} {ce : Str → Addr}
end
end PD

set_option Elab.async false
set_option linter.all false
set_option maxRecDepth 100000
set_option maxHeartbeats 4000000
namespace PD
open PySem L2 PySem.Spec PyProof.Rows
section
variable {X : Cx}
end
end PD
namespace PD
open PySem L2 PySem.Spec PyProof.Rows
end PD

set_option Elab.async false
set_option linter.all false
set_option maxRecDepth 100000
set_option maxHeartbeats 4000000
namespace PD
open PySem L2
def fRepF (fa fb : Ef) : Ef := fun ε => (fa ε).bind fun p => match p.1 with
  | .list ds => (fb p.2).bind fun q => match q.1 with
    | .int k => if -(2 ^ 63) ≤ k ∧ k < 2 ^ 63 ∧ ds.length * k.toNat ≤ sizeLine then some (.list (List.replicate k.toNat ds).flatten, q.2) else none
    | _ => none
  | _ => none
end PD

set_option Elab.async false
set_option linter.all false
set_option maxRecDepth 100000
set_option maxHeartbeats 4000000
namespace PD
open PySem L2 PySem.Spec PyProof.Rows
section
variable {X : Cx}
end
end PD

set_option Elab.async false
set_option linter.all false
set_option maxRecDepth 100000
set_option maxHeartbeats 4000000
namespace PD
open PySem L2 PySem.Spec PyProof.Rows
section
variable {X : Cx} {pos : Pos} {keys : List (Option Expr)} {values : List Expr}
end
end PD

set_option Elab.async false
set_option linter.all false
set_option maxRecDepth 100000
set_option maxHeartbeats 4000000
namespace PD
open PySem L2
section
variable {P : Program} {w : World}
structure ZStS (x : Str) (t : Tok) (b2 : Bool) (b z TI TO i1 i2 : Addr) (i : Nat) (h : Heap) : Prop where
  z : IsZip h z TI TO .none
  ti : IsPair h TI (.ref i1) (.ref i2)
  to : ∃ x y, IsPair h TO x y
  i1 : h.IsStrIter i1 "str_ascii_iterator" x t i
  i2 : IsIt h b2 i2 b i
end
end PD

set_option Elab.async false
set_option linter.all false
set_option maxRecDepth 100000
set_option maxHeartbeats 4000000
namespace PD
open PySem L2 PySem.Spec PyProof.Rows
end PD

set_option Elab.async false
set_option linter.all false
set_option maxRecDepth 100000
set_option maxHeartbeats 4000000
namespace PD
open PySem L2 PySem.Spec PyProof.Rows
section
variable {prog : Program} {w : World} {A : Around} {E : Value → Shared → Prop}
end
section
variable {X : Cx}
end
end PD

set_option Elab.async false
set_option linter.all false
set_option maxRecDepth 100000
set_option maxHeartbeats 4000000
namespace PD
open PySem L2 PySem.Spec PyProof.Rows
section
variable {X : Cx} {o e : Expr} {to : TE} {t : TA} {r : V → List V → Hp → VK → Prop} {apos cpos : Pos} {name : Str} {id : String}
end
section
variable {X : Cx} {o e : Expr} {fo fe : Ef} {apos cpos : Pos}
end
end PD

set_option Elab.async false
set_option linter.all false
set_option maxRecDepth 100000
set_option maxHeartbeats 4000000
namespace PD
open PySem L2 PySem.Spec PyProof.Rows
section
variable {X : Cx} {a b : Expr} {fa fb : Ef} {pos : Pos}
end
end PD

set_option Elab.async false
set_option linter.all false
set_option maxRecDepth 100000
set_option maxHeartbeats 4000000
namespace PD
open PySem L2 PySem.Spec PyProof.Rows
section
variable {X : Cx}
end
end PD

set_option Elab.async false
set_option linter.all false
set_option maxRecDepth 100000
set_option maxHeartbeats 4000000
namespace PD
open PySem L2 PySem.Spec PyProof.Rows
section
variable {prog : Program} {w : World} {A : Around} {E : Value → Shared → Prop} {s : Shared} {T : String} {r d : Addr} {n : Nat} {P : Nat → Value → Prop} {OK : Heap → Prop}
end
section
variable {X : Cx}
end
end PD

set_option Elab.async false
set_option linter.all false
set_option maxRecDepth 100000
set_option maxHeartbeats 4000000
namespace PD
open PySem L2 PySem.Spec PyProof.Rows PySem.W PySem.Calls Builtin.ObjectAttr Builtin.Getset_descriptor
/-- what the known part tells of an own class of errors -/
structure ExcQ (K : Frag) (C : Addr) : Prop where
  ga : findIn K (.ref C) "__getattribute__" = some (some (.builtin "BaseException.__getattribute__"))
  gt : findIn K (.ref C) "__getattr__" = some none
  cl : findIn K (.ref C) "__class__" = some (some (.builtin "object.__class__"))
  gg : specialIn K (.builtin "object.__class__") "__get__" = some (some (.builtin "getset_descriptor.__get__"))
  tk : takesIn K (.builtin "object.__class__") = some true
  ob : mroIn K C (.type "object") = some true
  be : mroIn K C (.type "BaseException") = some true
section
variable {prog : Program} {w : World} {A : Around} {E : Value → Shared → Prop} {K : Frag} {h : Heap} {g : Array GenState} {d : Drawn} {t : Nat} {os : OsState} {x C : Addr} {o : Obj}
end
end PD

set_option Elab.async false
set_option linter.all false
set_option maxRecDepth 100000
set_option maxHeartbeats 4000000
namespace PD
open PySem L2 PySem.Spec PyProof.Rows
theorem objOk_some {P : Program} {w : World} {H : Hp} {h : Heap} {a : Addr} {o : HO} (x : ObjOk P w H h a o) : ∃ u, h.get? a = some u := by
  cases o with
  | lst xs => exact ⟨_, x.2.choose_spec.choose_spec.2⟩
  | tup xs => obtain ⟨_, _, _, ob, z, _⟩ := x; exact ⟨ob, z⟩
  | dK kvs => obtain ⟨_, _, _, _, ob, _, _, z, _⟩ := x; exact ⟨ob, z⟩
  | dT kvs => obtain ⟨_, _, _, _, ob, _, _, z, _⟩ := x; exact ⟨ob, z⟩
  | set S n => obtain ⟨ob, _, _, _, z, _⟩ := x; exact ⟨ob, z⟩
  | ins C dx fs => obtain ⟨_, _, _, z, _⟩ := x; exact ⟨_, z⟩
  | own y => exact x
  | xd fs => obtain ⟨_, ⟨ob, _, _, z, _⟩, _⟩ := x; exact ⟨ob, z⟩
  | rng lo hi => obtain ⟨_, _, _, z⟩ := x; exact ⟨_, z⟩
  | frz ob u => exact ⟨_, x.1⟩
  | tbl ps => exact ⟨_, x⟩
  | met f y => exact ⟨_, x⟩
  | ext φ => exact x.2.1
/-- a thing that is known to its object -/
def known (a : Addr) (o : Obj) : HO := .frz o (.ext fun h => h.get? a = some o)
section
variable {X : Cx} {pins : List (Addr × Obj)} {σ : L2.St} {H : Hp} {s : Shared}
end
/-- an exception that has landed is new -/
theorem Flies.new {P : Program} {w : World} {outer : List Env} {H H' : Hp} {s s' : Shared} {ea C : Addr} (F : Flies P w outer H s ea C H' s') : s.heap.get? ea = none ∧ H' ea = none := by
  obtain ⟨_, _, ⟨B, t, hfl, hok, h1, h2⟩, _⟩ := F
  have hB : B.get? ea = none := hfl.2.1
  constructor
  · cases q : s.heap.get? ea with
    | none => rfl
    | some o =>
      by_cases hb : ea ∈ frs outer
      · obtain ⟨_, o', ho', hnf⟩ := hfl.2.2.1.mem hb
        obtain ⟨oe, vs, he, _, hd, _⟩ := hfl.first
        rw [he] at ho'
        cases ho'
        exact absurd hd (hnf _)
      · obtain ⟨o', e⟩ := h2 ea o q hb
        rw [hB] at e; cases e
  · cases q : H' ea with
    | none => rfl
    | some u =>
      obtain ⟨o, e⟩ := objOk_some (hok ea u q)
      rw [hB] at e; cases e
section
variable {ce : Str → Addr} {names : List Str} {sup : List (Str × List Str)} {X : Cx} {body : List Stmt} {fb : XSf} {pos : Pos}
end
end PD

set_option Elab.async false
set_option linter.all false
set_option maxRecDepth 100000
set_option maxHeartbeats 4000000
namespace PD
open PySem L2 PySem.Spec PyProof.Rows
def isA (t c : Str) : Bool := t == c || t == "HouseError" || t == "ValueError"
/-- of which classes the exceptions cs are -/
def TellsE (K : PySem.W.Frag) (cs : List Str) (t : Str) (v : Value) : Prop :=
  PySem.W.kitOne K (.type "NoneType") v = some false ∧ ∀ c ∈ cs, ∀ C, PySem.W.nsIn K mainGlobals c = some (some (.ref C)) → PySem.W.kitOne K (.ref C) v = some (isA t c)
/-- what the name of what was caught can hold -/
inductive CauV (K : PySem.W.Frag) (H : Hp) (cs : List Str) : V → Option Str → Prop
  | non : CauV K H cs .non none
  | ex {a C : Addr} {o : Obj} {u : HO} {c : Str} (h : H a = some (.frz o u)) (hc : o.cls = .ref C) (hn : PySem.W.nsIn K mainGlobals c = some (some (.ref C))) (hm : c ∈ cs) : CauV K H cs (.ref a) (some c)
theorem CauV.mono {K : PySem.W.Frag} {H H' : Hp} {cs : List Str} {v : V} {q : Option Str} (e : Same H H') (h : CauV K H cs v q) : CauV K H' cs v q := by
  cases h with
  | non => exact .non
  | ex h hc hn hm => exact .ex (e _ _ h) hc hn hm
section
variable {X : Cx} {pins : List (Addr × Obj)} {σ : L2.St} {H : Hp} {s : Shared} {A : Around} {E : Value → Shared → Prop} {cs : List Str}
end
section
variable {X : Cx} {cs ts : List Str} {x y : Str} {p py pos : Pos} {i : Nat}
/-- a row of names of classes -/
structure CvL (X : Cx) (cs : List Str) (es : List Expr) (ts : List Str) (ws : List V) : Prop where
  p : PA X es (fun _ H Q => Q ws H)
  t : ∀ its : List Value, Vals ws its → Paired (fun t w => TellsE X.K cs t w) ts its
end
end PD

set_option Elab.async false
set_option linter.all false
set_option maxRecDepth 100000
set_option maxHeartbeats 4000000
namespace PD
open PySem L2
def keysL : List PyData → Option (List Key)
  | [] => some []
  | d :: ds => (keyD d).bind fun k => (keysL ds).map fun ks => k :: ks
theorem keysL_kD : ∀ (k : List Key), keysL (k.map kD) = some k
  | [] => rfl
  | .inl i :: ks => by show ((keysL (ks.map kD)).map fun l => Sum.inl i :: l) = _; rw [keysL_kD ks]; rfl
  | .inr i :: ks => by show ((keysL (ks.map kD)).map fun l => Sum.inr i :: l) = _; rw [keysL_kD ks]; rfl
def isKeyT (k : List Key) : PyData → Bool
  | .tuple ds => decide (keysL ds = some k)
  | _ => false
theorem isKeyT_kD (k j : List Key) : isKeyT k (.tuple (j.map kD)) = decide (j = k) := by
  show decide (keysL (j.map kD) = some k) = _
  rw [keysL_kD]; simp
def hasT (es : KVs) (k : List Key) : Bool := es.any fun e => isKeyT k e.1
def putT (es : KVs) (k : List Key) (v : PyData) : KVs := if hasT es k = true then es.map (fun e => if isKeyT k e.1 = true then (e.1, v) else e) else es ++ [(.tuple (k.map kD), v)]
section
variable {K : PySem.W.Frag} {G : Hp}
theorem RpKT.length : ∀ {vs : List (List Key × V)} {ds : KVs}, RpKT K G vs ds → vs.length = ds.length
  | _, _, .nil => rfl
  | _, _, .cons _ hs => congrArg (· + 1) (RpKT.length hs)
theorem RpKT.anyk (k : List Key) : ∀ {vs : List (List Key × V)} {ds : KVs}, RpKT K G vs ds → (vs.any fun kv => decide (kv.1 = k)) = hasT ds k
  | _, _, .nil => rfl
  | _, _, .cons (k := j) h hs => by
    have := RpKT.anyk k hs
    unfold hasT at this ⊢
    simp only [List.any_cons, isKeyT_kD, this]
theorem RpKT.mapk (k : List Key) {v : V} {d : PyData} (p : Rp K G v d) : ∀ {vs : List (List Key × V)} {ds : KVs}, RpKT K G vs ds → RpKT K G (vs.map fun kv => if kv.1 = k then (kv.1, v) else kv) (ds.map fun e => if isKeyT k e.1 = true then (e.1, d) else e)
  | _, _, .nil => .nil
  | _, _, .cons (k := j) (v := u) (d := c) h hs => by
    simp only [List.map_cons, isKeyT_kD]
    by_cases e : j = k
    · rw [if_pos e, if_pos (decide_eq_true e)]; exact .cons p (RpKT.mapk k p hs)
    · rw [if_neg e, if_neg (by rw [decide_eq_false e]; simp)]; exact .cons h (RpKT.mapk k p hs)
theorem RpKT.snoc (k : List Key) {v : V} {d : PyData} (p : Rp K G v d) : ∀ {vs : List (List Key × V)} {ds : KVs}, RpKT K G vs ds → RpKT K G (vs ++ [(k, v)]) (ds ++ [(.tuple (k.map kD), d)])
  | _, _, .nil => .cons p .nil
  | _, _, .cons h hs => .cons h (RpKT.snoc k p hs)
theorem RpKT.put (k : List Key) {v : V} {d : PyData} (p : Rp K G v d) {vs : List (List Key × V)} {ds : KVs} (h : RpKT K G vs ds) : RpKT K G (putK vs k v) (putT ds k d) := by
  unfold putK putT
  rw [h.anyk k]
  split
  · exact h.mapk k p
  · exact h.snoc k p
end
abbrev TKf := En → Option (List Key × En)
def tKF (K : PySem.W.Frag) (f : TKf) : TE := fun σ H Q => ∃ B G z ε k ε', Rep K B G H z σ ε ∧ f ε = some (k, ε') ∧ ∀ b G' H', Gr B G G' → Rep K B G' H' z σ ε' → H' b = some (.tup (k.map kV)) → Q (.ref b) H'
structure TKv (X : Cx) (e : Expr) (f : TKf) : Prop where
  p : PE X e (tKF X.K f)
section
variable {X : Cx} {fa fb : Ef} {fk : TKf} {a b : Expr} {x : Str} {pos pos' pos2 p2 : Pos}
end
end PD

set_option Elab.async false
set_option linter.all false
set_option maxRecDepth 100000
set_option maxHeartbeats 4000000
namespace PD
open PySem L2
section
variable {X : Cx} {a : Expr} {fa fb : Ef} {pos p2 : Pos}
end
end PD

set_option Elab.async false
set_option linter.all false
set_option maxRecDepth 100000
set_option maxHeartbeats 4000000
namespace PD
open PySem L2
def whileF (t : Tf) (f : Sf) : Nat → En → Option Out
  | 0, _ => none
  | n + 1, ε => (t ε).bind fun p => if p.1 = true then (f p.2).bind fun o => match o with
      | .nx ε' => whileF t f n ε'
      | .ct ε' => whileF t f n ε'
      | .bk ε' => some (.nx ε')
      | .rt d ε' => some (.rt d ε')
      | .rf d ε' => some (.rf d ε')
    else some (.nx p.2)
def turnsW : Nat := 1000000
def sWhile (t : Tf) (f : Sf) : Sf := fun ε => whileF t f turnsW ε
theorem whileF_up {t : Tf} {f : Sf} : ∀ {n : Nat} {ε : En} {o : Out} (k : Nat), whileF t f n ε = some o → whileF t f (n + k) ε = some o
  | 0, _, _, _, h => by cases h
  | n + 1, ε, o, k, h => by
    rw [Nat.add_right_comm]
    show ((t ε).bind fun p => _) = _
    have h : ((t ε).bind fun p => _) = some o := h
    obtain ⟨⟨b, ε1⟩, e1, h⟩ := Option.bind_eq_some_iff.mp h
    rw [e1, Option.bind_some]
    cases b with
    | false => exact h
    | true =>
      simp only [if_true] at h ⊢
      obtain ⟨o1, e2, h⟩ := Option.bind_eq_some_iff.mp h
      rw [e2, Option.bind_some]
      cases o1 with
      | nx ε2 => exact whileF_up k h
      | ct ε2 => exact whileF_up k h
      | bk ε2 => exact h
      | rt d ε2 => exact h
      | rf d ε2 => exact h
theorem sWhile_of {t : Tf} {f : Sf} {n : Nat} {ε : En} {o : Out} (hn : n ≤ turnsW) (h : whileF t f n ε = some o) : sWhile t f ε = some o := by
  have := whileF_up (turnsW - n) h
  rw [Nat.add_sub_cancel' hn] at this
  exact this
section
variable {X : Cx} {c : Expr} {body : List Stmt} {t : Tf} {f : Sf} {pos : Pos}
theorem sv_while (hp : PassesOwn (model X.prog X.w) X.A X.env X.xe) (hc : Tv X c t) (hb : Bv X body f) : Sv X (.While c body [] pos) (sWhile t f) :=
  ⟨ps_mono (ps_while hp hc.p hb.p) fun D σ H ⟨B, G, z, ε, o, rep, ef, k⟩ => by
    refine ⟨fun m σ' H' => ∃ G' ε', Gr B G G' ∧ Rep X.K B G' H' z σ' ε' ∧ whileF t f m ε' = some o, ⟨turnsW, G, ε, Gr.refl _ _, rep, ef⟩, ?_⟩
    rintro m σ' H' ⟨G', ε', g', r', e'⟩
    cases m with
    | zero => cases e'
    | succ n =>
      have e' : ((t ε').bind fun p => _) = some o := e'
      obtain ⟨⟨b, ε1⟩, e1, e2⟩ := Option.bind_eq_some_iff.mp e'
      refine ⟨B, G', z, ε', b, ε1, r', e1, fun G1 H1 g1 r1 => ?_⟩
      cases b with
      | false =>
        rw [if_neg Bool.false_ne_true] at e2 ⊢
        cases e2
        exact k G1 _ H1 (g'.trans g1) r1
      | true =>
        rw [if_pos rfl] at e2 ⊢
        obtain ⟨o1, e3, e4⟩ := Option.bind_eq_some_iff.mp e2
        refine ⟨fun σ2 H2 => ∃ G2 ε2, Gr B G G2 ∧ Rep X.K B G2 H2 z σ2 ε2 ∧ whileF t f n ε2 = some o, fun σ2 H2 h => ⟨n, Nat.lt_succ_self n, h⟩, B, G1, z, ε1, o1, r1, e3, ?_⟩
        cases o1 with
        | nx ε2 => exact fun G2 σ2 H2 g2 r2 => ⟨G2, ε2, (g'.trans g1).trans g2, r2, e4⟩
        | ct ε2 => exact fun G2 σ2 H2 g2 r2 => ⟨G2, ε2, (g'.trans g1).trans g2, r2, e4⟩
        | bk ε2 => cases e4; exact fun G2 σ2 H2 g2 r2 => k G2 σ2 H2 ((g'.trans g1).trans g2) r2
        | rt d ε2 => cases e4; exact fun v G2 σ2 H2 g2 r2 p2 => k v G2 σ2 H2 ((g'.trans g1).trans g2) r2 p2
        | rf d ε2 => cases e4; exact fun p G2 σ2 H2 g2 r2 h1 h2 h3 => k p G2 σ2 H2 ((g'.trans g1).trans g2) r2 h1 h2 h3⟩
end
end PD

set_option Elab.async false
set_option linter.all false
set_option maxRecDepth 100000
set_option maxHeartbeats 4000000
namespace PD
open PySem L2
end PD

set_option Elab.async false
set_option linter.all false
set_option maxRecDepth 100000
set_option maxHeartbeats 4000000
namespace PD
open PySem L2
section
variable {X : Cx}
end
section
variable {K : PySem.W.Frag} {G : Hp} {d : Addr} {od : Obj} {kvs : List (Key × V)}
theorem ne_lock (hd : G d = some (.frz od (.dK kvs))) {a : Addr} {u : HO} (h : G a = some u) (hu : u ≠ .frz od (.dK kvs)) : upd G d (.dK kvs) a = some u := by
  have : a ≠ d := fun e => by subst e; rw [hd] at h; exact hu (Option.some.inj h).symm
  rw [upd_ne this]; exact h
theorem sqL_unlock (hd : G d = some (.frz od (.dK kvs))) {a : Addr} {xs : List V} (h : SqL K G a xs) : SqL K (upd G d (.dK kvs)) a xs := by
  rcases h with (h | ⟨o, h⟩) | h
  · exact .inl (.inl (ne_lock hd h (by intro z; cases z)))
  · exact .inl (.inr ⟨o, ne_lock hd h (by intro z; cases z)⟩)
  · exact .inr h
theorem sqT_unlock (hd : G d = some (.frz od (.dK kvs))) {a : Addr} {xs : List V} (h : SqT K G a xs) : SqT K (upd G d (.dK kvs)) a xs := by
  rcases h with (h | ⟨o, h⟩) | h
  · exact .inl (.inl (ne_lock hd h (by intro z; cases z)))
  · exact .inl (.inr ⟨o, ne_lock hd h (by intro z; cases z)⟩)
  · exact .inr h
theorem rd_unlock (hd : G d = some (.frz od (.dK kvs))) {a : Addr} {es : List (Key × V)} (h : Rd G a (.dK es)) : Rd (upd G d (.dK kvs)) a (.dK es) := by
  by_cases e : a = d
  · subst e
    rcases h with h | ⟨o, h⟩
    · rw [hd] at h; cases h
    · rw [hd] at h; cases h; exact .inl upd_same
  · rcases h with h | ⟨o, h⟩
    · exact .inl (by rw [upd_ne e]; exact h)
    · exact .inr ⟨o, by rw [upd_ne e]; exact h⟩
mutual
theorem Rp.unlock (hd : G d = some (.frz od (.dK kvs))) : ∀ {v : V} {c : PyData}, Rp K G v c → Rp K (upd G d (.dK kvs)) v c
  | _, _, .non => .non
  | _, _, .bl b => .bl b
  | _, _, .int i => .int i
  | _, _, .str x => .str x
  | _, _, .lst h hs => .lst (sqL_unlock hd h) (RpAll.unlock hd hs)
  | _, _, .tup h hs => .tup (sqT_unlock hd h) (RpAll.unlock hd hs)
  | _, _, .dct h hs => .dct (rd_unlock hd h) (RpKV.unlock hd hs)
theorem RpAll.unlock (hd : G d = some (.frz od (.dK kvs))) : ∀ {vs : List V} {ds : List PyData}, RpAll K G vs ds → RpAll K (upd G d (.dK kvs)) vs ds
  | _, _, .nil => .nil
  | _, _, .cons h hs => .cons (Rp.unlock hd h) (RpAll.unlock hd hs)
theorem RpKV.unlock (hd : G d = some (.frz od (.dK kvs))) : ∀ {vs : List (Key × V)} {ds : List (PyData × PyData)}, RpKV K G vs ds → RpKV K (upd G d (.dK kvs)) vs ds
  | _, _, .nil => .nil
  | _, _, .cons h hs => .cons (Rp.unlock hd h) (RpKV.unlock hd hs)
end
theorem RpKT.unlock (hd : G d = some (.frz od (.dK kvs))) : ∀ {vs : List (List Key × V)} {ds : List (PyData × PyData)}, RpKT K G vs ds → RpKT K (upd G d (.dK kvs)) vs ds
  | _, _, .nil => .nil
  | _, _, .cons h hs => .cons (Rp.unlock hd h) (RpKT.unlock hd hs)
def noEx : Sl → Bool
  | .ex _ => false
  | _ => true
theorem Rep.unlock {B H : Hp} {z : Option (Option V)} {σ : L2.St} {ε : En} (r : Rep K B G H z σ ε) (hd : G d = some (.frz od (.dK kvs))) (hB : B d = none) (hx : ε.all noEx = true) : Rep K B (upd G d (.dK kvs)) (upd H d (.dK kvs)) z σ ε where
  bg := fun b u q => by rw [upd_ne (ne_of_none q hB)]; exact r.bg b u q
  sub := fun b u q => by
    by_cases e : b = d
    · subst e; rw [upd_same] at q ⊢; exact q
    · rw [upd_ne e] at q ⊢; exact r.sub b u q
  z0 := r.z0
  len := r.len
  fzs := fun i c q => by
    obtain ⟨v, h1, h2⟩ := r.fzs i c q
    exact ⟨v, h1, h2.unlock hd⟩
  mus := fun i c q => by
    obtain ⟨a, h1, h2, h3, h4⟩ := r.mus i c q
    have e : a ≠ d := fun e => by subst e; rw [hd] at h2; cases h2
    refine ⟨a, h1, by rw [upd_ne e]; exact h2, h3, ?_⟩
    cases h4 with
    | lst g1 g2 => exact .lst (by rw [upd_ne e]; exact g1) (g2.unlock hd)
    | dct g1 g2 => exact .dct (by rw [upd_ne e]; exact g1) (g2.unlock hd)
  dis := r.dis
  exs := fun i c q => by
    have := List.all_eq_true.mp hx _ (List.mem_of_getElem? q)
    cases this
  ms := ⟨fun i es q => by
    obtain ⟨a, ks, h1, h2, h3, h4, h5⟩ := r.ms.mts i es q
    have e : a ≠ d := fun e => by subst e; rw [hd] at h2; cases h2
    exact ⟨a, ks, h1, by rw [upd_ne e]; exact h2, h3, by rw [upd_ne e]; exact h4, h5.unlock hd⟩, r.ms.dtt⟩
end
section
variable {X : Cx}
end
end PD

set_option Elab.async false
set_option linter.all false
set_option maxRecDepth 100000
set_option maxHeartbeats 4000000
namespace PD
open PySem L2
def viewV (p d : Addr) : HO := .ext fun h => h.get? p = some { cls := .type "dict_values", data := .fields #[.ref d] }
theorem viewV_ok {P : Program} {w : World} {H : Hp} {h : Heap} {p d : Addr} (e : h.get? p = some { cls := .type "dict_values", data := .fields #[.ref d] }) : ObjOk P w H h p (viewV p d) := ⟨e, ⟨_, e⟩, fun _ _ y f => f _ y⟩
section
variable {X : Cx}
def tValsV (td : TE) : TE := fun σ H Q => td σ H fun x H1 => ∃ d kvs, x = .ref d ∧ Rd H1 d (.dK kvs) ∧ ∀ p, H1 p = none → Q (.ref p) (upd H1 p (viewV p d))
theorem pe_valsV {e : Expr} {td : TE} {apos cpos : Pos} (he : PE X e td) (hbase : attributeBase e "values" X.env (eval e X.env) = eval e X.env := by rfl) (hline : (apos.endLine == cpos.line) = true := by rfl) :
    PE X (.Call (.Attribute e "values" apos) [] [] cpos) (tValsV td) := by
  intro pins s σ H Q I h
  refine wpAny_Call_method (T := "dict") (id := "dict.values") hbase rfl hline F.plainAttrs_dict F.slot_dict_values F.type_dict_values (thn (he pins s σ H _ I h) fun u s1 ⟨x, H1, I1, rx, d, kvs, ex, hd, q⟩ => ?_)
  subst ex
  obtain rfl : u = Value.ref d := rx
  obtain ⟨z, hs, vs, rel, dd⟩ := dk_rd I1.hok hd
  refine ⟨dd.typeIs, dd.mapOf.noDict, ?_⟩
  have hn : H1 s1.heap.objs.size = none := I1.hok.fresh (Nat.le_refl _)
  have I2 : Inv X pins σ (upd H1 s1.heap.objs.size (viewV s1.heap.objs.size d)) { s1 with heap := s1.heap.push { cls := .type "dict_values", data := .fields #[.ref d] } } :=
    I1.laid (t' := s1.toks) (fun b ob q => Heap.get?_push_of_some _ q) (Nat.le_refl _) (viewV_ok (Heap.get?_push_size _ rfl))
  show wpAny _ _ (callWith cpos (.builtin "dict.values") [.ref d] [] []) _ X.xe s1
  exact method_meetsIn F.slot_dict_values F.entry_dict_values rfl (PySem.evalArgs_none ⟨rfl, dd.typeIs, F.args_dict_values_1 _, _, meets_dict_values (mixKind X.prog X.w) d hs, ⟨vs, dd⟩, ⟨V.ref _, _, I2, rfl, q _ hn⟩⟩)
def rListV : List V → Hp → VK → Prop := fun vs H Q => ∃ (v d : Addr) (kvs : List (Key × V)), vs = [V.ref v] ∧ H v = some (viewV v d) ∧ Rd H d (.dK kvs) ∧ ∀ p, H p = none → Q (.ref p) (upd H p (.lst (kvs.map (·.2))))
theorem kv_vals : ∀ {kvs : List (Key × V)} {vs : List (Key × Value)}, KV kvs vs → Vals (kvs.map (·.2)) (vs.map (·.2))
  | _, _, .nil => .nil
  | _, _, .cons h t => .cons h.2 (kv_vals t)
theorem cr_listV (hc : X.calm = true) : CallR X (.type "list") rListV := by
  intro pins s σ H vs us Q I r h
  obtain ⟨v, d, kvs, rfl, hv, hd, q⟩ := h
  rw [Vals.ref1 r]
  obtain ⟨z, hs, kv, rel, dd⟩ := dk_rd I.hok hd
  obtain ⟨ep, da⟩ := dd.dictAt
  have hview : s.heap.get? v = some { cls := .type "dict_values", data := .fields #[.ref d] } := (I.hok v _ hv).1
  have hlen : kvs.length = kv.length := Paired.length rel
  refine PySem.W.kdl_call (PySem.W.kdl_values (knd := mixKind X.prog X.w) (r := v) (d := d) (kvs := kv) (ep := ep)) (I.ok.hd hc) ⟨⟨_, hview, rfl, rfl⟩, da⟩ (by rw [← hlen]; exact z) fun h' tk acc' c' hk hD hacc => ?_
  have ea : acc'.toList = kv.map (·.2) := by
    apply List.ext_getElem?
    intro j
    rw [List.getElem?_map, Array.getElem?_toList]
    cases e : acc'[j]? with
    | none =>
      have h1 : acc'.size ≤ j := by simpa using e
      rw [hacc.1] at h1
      rw [List.getElem?_eq_none h1]; rfl
    | some u =>
      obtain ⟨k, hk'⟩ := hacc.2 j u e
      rw [hk']; rfl
  refine ⟨.ref s.heap.objs.size, _, I.laid (t' := tk) hk (Nat.le_refl _) (show ObjOk X.prog X.w _ h' _ (.lst (kvs.map (·.2))) from ⟨by rw [List.length_map]; exact z, acc'.toList, c', by rw [ea]; exact kv_vals rel, by simpa using hD⟩), rfl, q _ (I.hok.fresh (Nat.le_refl _))⟩
theorem RpKV.vals {K : PySem.W.Frag} {G : Hp} : ∀ {kvs : List (Key × V)} {es : KVs}, RpKV K G kvs es → RpAll K G (kvs.map (·.2)) (es.map (·.2))
  | _, _, .nil => .nil
  | _, _, .cons h t => .cons h (RpKV.vals t)
def fListV (i : Nat) : Ef := fun ε => (asDict ε i).map fun es => (.list (es.map (·.2)), ε)
theorem ev_listV (i : Nat) {x : Str} {p pos pos' apos cpos : Pos} (hc : X.calm = true) (hg : Gl X "list") (hm : X.mg "list" = none) (hv : PE X (.Name x pos') (tVar i)) (hbase : attributeBase (.Name x pos') "values" X.env (eval (.Name x pos') X.env) = eval (.Name x pos') X.env := by rfl) (hline : (apos.endLine == cpos.line) = true := by rfl) :
    Ev X (.Call (.Name "list" p) [.Call (.Attribute (.Name x pos') "values" apos) [] [] cpos] [] pos) (fListV i) :=
  ⟨pe_mono (pe_callTy (cr_listV hc) hg hm (by decide +kernel) (pa_cons (pe_valsV hv hbase hline) pa_nil (by exact star_ok rfl)) (by decide) (by decide) (by exact star_ok rfl) (by exact plain_ok rfl)) fun σ H Q h => by
    obtain ⟨B, G, z, ε, d, ε', rep, ef, q⟩ := h
    obtain ⟨es, e0, ef0⟩ := Option.map_eq_some_iff.mp ef
    obtain ⟨rfl, rfl⟩ := Prod.mk.inj ef0
    obtain ⟨c, hc', hG, hB, hm'⟩ := rep.mus i _ (asDict_some e0)
    cases hm' with
    | dct h1 h2 =>
      rename_i kvs
      refine ⟨.ref c, hc', c, kvs, rfl, .inl h1, fun v hv => ?_⟩
      have r1 := rep_new (o := viewV v c) rep hv
      have nc : c ≠ v := fun e => by subst e; rw [h1] at hv; cases hv
      refine ⟨v, c, kvs, rfl, upd_same, .inl (by rw [upd_ne nc]; exact h1), fun p' hp => ?_⟩
      exact q _ _ _ ((grow_new r1.sub hp).gr r1.bg) ((grow_new r1.sub hp).rep r1) (.lst (SqL.of upd_same) (h2.vals.mono (grow_new r1.sub hp).gg))⟩
def fLenD (i : Nat) : Ef := fun ε => (asDict ε i).map fun es => (.int es.length, ε)
theorem ev_lenD (i : Nat) {y : Str} {p pos pos' : Pos} (hv : PE X (.Name y pos') (tVar i)) (hg : Gl X "len") (hm : X.mg "len" = none) (he : starEach [.Name y pos'] X.env = (false, eval (.Name y pos') X.env) :: starEach [] X.env := by exact star_ok rfl) (hpl : (backTo pos (starEach [] X.env)).any (·.1) = false := by exact plain_ok rfl) :
    Ev X (.Call (.Name "len" p) [.Name y pos'] [] pos) (fLenD i) :=
  ⟨pe_mono (pe_callB call_lenD hg hm PySem.boot_len (pa_cons hv pa_nil he) (by decide) (by decide) he hpl) fun σ H Q ⟨B, G, z, ε, d, ε', rep, ef, q⟩ => by
    obtain ⟨ds, e0, ef0⟩ := Option.map_eq_some_iff.mp ef
    obtain ⟨rfl, rfl⟩ := Prod.mk.inj ef0
    obtain ⟨l, hl, hg', hb', hm'⟩ := rep.mus i _ (asDict_some e0)
    cases hm' with
    | dct h1 h2 => exact ⟨.ref l, hl, l, _, rfl, h1, by rw [h2.length]; exact q _ G H (Gr.refl _ _) rep (.int _)⟩⟩
def fDict1 (fa fb : Ef) : Ef := fun ε => (fa ε).bind fun p => (fb p.2).bind fun q => (keyD p.1).map fun k => (.dict [(kD k, q.1)], q.2)
theorem fv_dict1 {a b : Expr} {fa fb : Ef} {pos : Pos} (ha : Ev X a fa) (hb : Ev X b fb) : Fv X (.Dict [some a] [b] pos) (fDict1 fa fb) :=
  ⟨pe_mono (pe_disp (pps_cons ha.p hb.p pps_nil) rfl rfl (by simp) (by simp)) fun σ H Q ⟨B, G, z, ε, d, ε', rep, ef, q⟩ => by
    obtain ⟨⟨d1, ε1⟩, e1, ef1⟩ := Option.bind_eq_some_iff.mp ef
    obtain ⟨⟨d2, ε2⟩, e2, ef2⟩ := Option.bind_eq_some_iff.mp ef1
    obtain ⟨k, e3, ef3⟩ := Option.map_eq_some_iff.mp ef2
    obtain ⟨rfl, rfl⟩ := Prod.mk.inj ef3
    intro p hp
    have hBp := rep.bg.free hp
    have hGp := rep.sub.free hp
    have r0 := (rep_new (o := .dK []) rep hp).back upd_same (fun _ z => by cases z) (nomu rep hp)
    refine ⟨_, G, z, ε, d1, ε1, r0, e1, fun v1 G1 H1 g1 r1 p1 => ⟨_, G1, z, ε1, d2, ε2, r1, e2, fun v2 G2 H2 g2 r2 p2 => ⟨r2.bg _ _ upd_same, [(k, v2)], ?_, by simp, ?_⟩⟩⟩
    · cases rp_key p1 e3; rfl
    · have gg := g1.trans g2
      have hG2 : G2 p = none := gg.none hGp upd_same
      exact q p G2 _ gg.unback ((r2.unback hBp).other hBp hG2 (fun _ z => by rw [r2.bg _ _ upd_same] at z; cases z) (mu_back r2)) hG2 hBp (.dct upd_same (.cons p2 .nil)) (mu_back r2)⟩
theorem fv_repF {a b : Expr} {fa fb : Ef} {pos : Pos} (ha : Fv X a fa) (hb : Ev X b fb) : Fv X (.BinOp a .Mult b pos) (fRepF fa fb) :=
  ⟨pe_mono (pe_op op_rep ha.p hb.p) fun σ H Q ⟨B, G, z, ε, d, ε', rep, ef, q⟩ => by
    obtain ⟨⟨d1, ε1⟩, e1, ef1⟩ := Option.bind_eq_some_iff.mp ef
    refine ⟨B, G, z, ε, d1, ε1, rep, e1, fun p G1 H1 g1 r1 hG hB hm hn => ?_⟩
    cases hm with
    | dct h1 h2 => cases ef1
    | lst h1 h2 =>
      obtain ⟨⟨d2, ε2⟩, e2, ef2⟩ := Option.bind_eq_some_iff.mp ef1
      refine ⟨upd B p _, G1, z, ε1, d2, ε2, r1.back h1 (fun _ z => by cases z) hn, e2, fun v G2 H2 g2 r2 p2 => ?_⟩
      have hp2 := r2.bg p _ upd_same
      have r3 := r2.unback hB
      have g3 := g2.unback
      cases p2 with
      | int k =>
        simp only at ef2
        split at ef2
        · rename_i hk
          obtain ⟨rfl, rfl⟩ := Prod.mk.inj (Option.some.inj ef2)
          refine ⟨p, k, _, rfl, rfl, hp2, hk.1, hk.2.1, by rw [h2.length]; exact hk.2.2, fun p' hp => ?_⟩
          exact q p' G2 _ (g1.trans g3) (rep_new r3 hp) (r3.sub.free hp) (r3.bg.free hp) (.lst upd_same (rep_all (h2.mono g3.1) k.toNat)) (nomu r3 hp)
        · cases ef2
      | _ => cases ef2⟩
def sExtM (i : Nat) (fa : Ef) : Sf := fun ε => (asList ε i).bind fun _ => (fa ε).bind fun p => match p.1 with
  | .list zs => (asList p.2 i).bind fun ds => if ds.length + zs.length ≤ sizeLine then some (.nx (p.2.set i (.mu (.list (ds ++ zs))))) else none
  | _ => none
theorem qExtM {i : Nat} {fa : Ef} {ε : En} : sExtM i fa ε = (asList ε i).bind fun _ => (fa ε).bind fun p => match p.1 with
  | .list zs => (asList p.2 i).bind fun ds => if ds.length + zs.length ≤ sizeLine then some (.nx (p.2.set i (.mu (.list (ds ++ zs))))) else none
  | _ => none := rfl
theorem sv_ext (i : Nat) {x : Str} {e : Expr} {fa : Ef} {pos pos' apos cpos : Pos} (he : Fv X e fa) (hs : swapsWith (.Call (.Attribute (.Name x pos') "extend" apos) [e] [] cpos) none pos.line X.env = pure false := by rfl)
    (hst : starEach [e] X.env = (false, eval e X.env) :: starEach [] X.env := by exact star_ok rfl)
    (hpe : ∀ {t : TA}, PA X [e] t → PE X (.Call (.Attribute (.Name x pos') "extend" apos) [e] [] cpos) (tBM X.K "list" rExtend (tVar i) t)) :
    Sv X (.Expr (.Call (.Attribute (.Name x pos') "extend" apos) [e] [] cpos) pos) (sExtM i fa) :=
  ⟨ps_mono (ps_expr (hpe (pa_cons he.p pa_nil hst)) hs) fun D σ H ⟨B, G, z, ε, o, rep, ef, k⟩ => by
    obtain ⟨ds0, e0, ef0⟩ := Option.bind_eq_some_iff.mp ef
    obtain ⟨⟨d1, ε1⟩, e1, ef1⟩ := Option.bind_eq_some_iff.mp ef0
    obtain ⟨a, ha, hg0, hb0, hm0⟩ := rep.mus i _ (asList_some e0)
    cases hm0 with
    | lst h10 h20 =>
      refine ⟨.ref a, ha, .inl ⟨rfl, _, SqL.of h10⟩, B, G, z, ε, d1, ε1, rep, e1, fun p G1 H1 g1 r1 hGp hBp m hn => ?_⟩
      cases m with
      | dct m1 m2 => cases ef1
      | lst m1 m2 =>
        obtain ⟨ds, e2, ef2⟩ := Option.bind_eq_some_iff.mp ef1
        split at ef2
        · rename_i hz
          cases ef2
          obtain ⟨a', ha', hg', hb', hm'⟩ := r1.mus i _ (asList_some e2)
          rw [ha] at ha'
          cases ha'
          cases hm' with
          | lst h1 h2 =>
            exact ⟨a, p, _, _, rfl, rfl, h1, m1, by rw [h2.length, m2.length]; exact hz, k G1 σ _ g1 (r1.store (asList_some e2) ha (.lst upd_same (h2.append m2)))⟩
        · cases ef2⟩
def fEmM (neg : Bool) (i : Nat) : Ef := fun ε => (asList ε i).map fun ds => (.bool (if neg then !ds.isEmpty else ds.isEmpty), ε)
theorem em_read {neg : Bool} {i : Nat} {σ : L2.St} {H : Hp} {Q : VK} (h : tF X.K (fEmM neg i) σ H Q) : tOp (rEmp X.K neg) (tVar i) (tLst tNil) σ H Q := by
  obtain ⟨B, G, z, ε, d, ε', rep, ef, q⟩ := h
  obtain ⟨ds, e0, ef0⟩ := Option.map_eq_some_iff.mp ef
  obtain ⟨rfl, rfl⟩ := Prod.mk.inj ef0
  obtain ⟨a, ha, hg0, hb0, hm0⟩ := rep.mus i _ (asList_some e0)
  cases hm0 with
  | lst h1 h2 =>
    rename_i xs
    refine ⟨.ref a, ha, Nat.zero_le _, fun p hp => ?_⟩
    have na : a ≠ p := fun e => by subst e; rw [h1] at hp; cases hp
    refine ⟨a, p, xs, rfl, rfl, SqL.of (by rw [upd_ne na]; exact h1), SqL.of upd_same, ?_⟩
    have ee : xs.isEmpty = ds.isEmpty := by
      have := h2.length
      cases xs <;> cases ds <;> simp at this ⊢
    rw [ee]
    exact q _ G _ (Gr.refl _ _) (rep_new rep hp) (.bl _)
theorem tv_emM (neg : Bool) (i : Nat) {op : CmpOp} {x : Str} {pos pos' pos2 : Pos} (ho : OpR X (compareOp op) (rEmp X.K neg)) (hv : PE X (.Name x pos') (tVar i)) (hm : behindInMarks op (.List [] pos2) = false) : Tv X (.Compare (.Name x pos') [op] [.List [] pos2] pos) (gVal (fEmM neg i)) :=
  ⟨pt_mono (pt_cmpR ho hv (pe_lst pa_nil) hm) fun σ H Q ⟨B, G, z, ε, d, ε', rep, ef, q⟩ => by
    obtain ⟨⟨d1, ε1⟩, e1, ef1⟩ := Option.bind_eq_some_iff.mp ef
    obtain ⟨c, e3, ef2⟩ := Option.map_eq_some_iff.mp ef1
    obtain ⟨rfl, rfl⟩ := Prod.mk.inj ef2
    refine em_read ⟨B, G, z, ε, d1, ε1, rep, e1, fun v1 G1 H1 g1 r1 p1 => ?_⟩
    cases dTrue_some e3
    cases p1
    exact ⟨c, rfl, q G1 H1 g1 r1⟩⟩
end
section
open PySem.Spec PyProof.Rows
variable {P : Program} {w : World} {K : PySem.W.Frag} {mg : Str → Option Value} {base : Heap}
theorem inv_startL {CX : CXT} {N p0 : List Str} {x0 qual : Str} {scope : Scope} {f : Addr} {cd : Value} {A : Around} {outer : List Env} {s s1 : Shared} {H : Hp} {E : XK} {us : List Value} {ws : List V} {v0 : V}
    (S : FnScope N (x0 :: p0) scope) (hd : A.handled = none) (e0 : Env0 P w K mg base A outer s H) (hl : ws.length = p0.length) (r : Vals (ws ++ [v0]) us)
    (x : InCallC s s.heap.objs.size (bindL (PyProof.Rows.envOfC qual scope s.heap.objs.size f cd).kindOf ((p0 ++ [x0]).zip us) fun _ => none) (cellsFrom (s.heap.objs.size + 1) scope.names []) (bindC (PyProof.Rows.envOfC qual scope s.heap.objs.size f cd).kindOf ((p0 ++ [x0]).zip us) fun _ => none) s1) :
    Inv (cxOf CX P w K mg base N qual scope f cd A outer s H E) [] (L2.start N (v0 :: ws)) H s1 := by
  have hpl : (x0 :: p0).length ≤ N.length := by have := congrArg List.length S.pre; rw [List.length_take] at this; omega
  obtain ⟨h1, tk, rfl, hk⟩ := x.done
  have noA : ∀ b : Addr, b ∉ (cxOf CX P w K mg base N qual scope f cd A outer s H E).ex := fun b z => absurd (show b ∈ ([] : List Addr) from z) (by simp)
  refine ⟨⟨e0.mod, S.kind, rfl, rfl, Nat.le_refl _, fun y z c h1 h2 => ?_, fun y hy => ?_, fun y c _ h => ?_, fun _ => hd, Around.frames_deeper e0.frames, .inr ⟨rfl, rfl⟩, fun b z => absurd z (noA b), e0.bs, e0.bsz, fun b _ _ => noA b, fun b z => absurd z (noA b), e0.funs, e0.frf⟩,
    rfl, e0.bare, Un.kept hk, ⟨_, x.toInCall.ns, fun i y v h1 h2 h3 => ?_⟩, fun y c h => ⟨_, x.cell y c h⟩, e0.hok.fresh (Nat.le_refl _), fun y c h => ?_, fun p hp => absurd (show p ∈ ([] : List (Addr × Obj)) from hp) (by simp), e0.hok.kept hk, ?_⟩
  · exact name_of_addr x.apart (PySem.mem_of_lookup h1) (PySem.mem_of_lookup h2)
  · have hy : scope.names.lookup y = some .cell ∨ scope.names.lookup y = some .free := hy
    rcases hy with hy | hy
    · exact cell_has hy
    · exact absurd rfl (S.nofree _ (PySem.mem_of_lookup hy))
  · exact Nat.le_of_lt (x.above y c (PySem.mem_of_lookup h))
  · have hi : i < (v0 :: ws).length := by
      unfold L2.start at h2
      by_cases hi : i < (v0 :: ws).length
      · exact hi
      · rw [List.getElem?_append_right (by simpa using hi)] at h2
        rw [List.getElem?_replicate] at h2
        split at h2 <;> cases h2
    have ha : (v0 :: ws)[i]? = some v := by
      unfold L2.start at h2
      rw [List.getElem?_append_left (by simpa using hi), List.getElem?_map] at h2
      cases e : (v0 :: ws)[i]? with
      | none => rw [e] at h2; cases h2
      | some a => rw [e] at h2; cases h2; rfl
    have hp' : (x0 :: p0)[i]? = some y := by
      rw [← S.pre, List.getElem?_take_of_lt (by rw [List.length_cons] at hi ⊢; omega)]; exact h1
    have key : ∃ j : Nat, (p0 ++ [x0])[j]? = some y ∧ (ws ++ [v0])[j]? = some v := by
      cases i with
      | zero =>
        cases ha; cases hp'
        exact ⟨p0.length, by simp, by rw [← hl]; simp⟩
      | succ i =>
        have ha : ws[i]? = some v := ha
        have hp' : p0[i]? = some y := hp'
        have h1 : i < ws.length := (List.getElem?_eq_some_iff.mp ha).1
        exact ⟨i, by rw [List.getElem?_append_left (by omega)]; exact hp', by rw [List.getElem?_append_left h1]; exact ha⟩
    obtain ⟨j, hp, hv⟩ := key
    obtain ⟨u, hu, rv⟩ := r.get hv
    have ndP : (p0 ++ [x0]).Nodup := by
      have h0 : (x0 :: p0).Nodup := by rw [← S.pre]; exact S.nd.sublist (List.take_sublist _ _)
      exact (List.perm_append_singleton x0 p0).nodup_iff.mpr h0
    refine ⟨u, rv, ?_⟩
    rcases S.par y (List.mem_of_getElem? hp') with k | k
    · exact .inl ⟨k, bindL_get ndP hp hu k⟩
    · obtain ⟨c, e⟩ := cell_has (n := s.heap.objs.size + 1) k
      refine .inr ⟨.inl k, c, e, ?_⟩
      have q := x.cell y c e
      rw [bindC_get ndP hp hu (by show scope.names.lookup y ≠ _; rw [k]; decide)] at q
      exact q
  · exact e0.hok.fresh (Nat.le_of_lt (x.above y c (PySem.mem_of_lookup h)))
  · unfold L2.start
    show _ = N.length
    rw [List.length_append, List.length_map, List.length_replicate, List.length_cons]
    rw [List.length_cons] at hpl
    omega
theorem fn_ofL {CX : CXT} {k : Nat} {f : Addr} {name qual : Str} {params : Arguments} {body : List Stmt} {scope : Scope} {dV kV doc pm cdv ct oc : Value} {an od : Option Addr}
    {osl : Array (Option Value)} {N p0 : List Str} {x0 : Str} {sp : Sp} (lk : K.lookup f = some ⟨oc, od, .func (PySem.W.fnOf name qual params body scope dV kV doc pm an cdv ct), osl⟩) (hcd : PySem.W.codeIn K cdv qual = true) (S : FnScope N (x0 :: p0) scope)
    (len : ∀ vs H Q E, sp vs H Q E → vs.length = (p0 ++ [x0]).length)
    (hbody : ∀ (A : Around) (outer : List Env) (s : Shared) (H : Hp) (vs : List V) (Q : VK) (E : XK), Room k (A.deeper (envOfC qual scope s.heap.objs.size f cdv)) → sp vs H Q E →
      ∃ ws v0, vs = ws ++ [v0] ∧ ∃ t, PSs (cxOf CX P w K mg base N qual scope f cdv A outer s H E) body t ∧ t { nx := fun _ H' => Q .non H', rt := Q } (L2.start N (v0 :: ws)) H) :
    FnOk P w K mg base CX (k + 1) f (PySem.W.fnOf name qual params body scope dV kV doc pm an cdv ct) (p0 ++ [x0]) sp := by
  refine ⟨len, fun A outer s H args us vs Q E hr e0 hb r hsp => ?_⟩
  have hl := len _ _ _ _ hsp
  have KX : K.In s.heap := e0.mod.kin.keeps fun b o e => (e0.bs b o e).1
  have lim : s.heap.NoLimit := e0.mod.nolimit.keeps fun b o e => (e0.bs b o e).1
  have par' : ∀ y ∈ p0 ++ [x0], scope.names.lookup y = some .local ∨ scope.names.lookup y = some .cell := fun y hy => S.par y (by
    rcases List.mem_append.mp hy with h | h
    · exact List.mem_cons_of_mem _ h
    · rw [List.mem_singleton.mp h]; exact List.mem_cons_self)
  have hkind : ∀ y ∈ (p0 ++ [x0]).zip us, scope.names.lookup y.1 = some .local ∨ (scope.names.lookup y.1 = some .cell ∧ ((cellsFrom (s.heap.objs.size + 1) scope.names []).lookup y.1).isSome = true) := fun ⟨n, v⟩ hy => by
    rcases par' n (List.of_mem_zip hy).1 with q | q
    · exact .inl q
    · exact .inr ⟨q, PySem.W.cellsFrom_some _ _ _ (.inl q)⟩
  refine codeAny_call_function hr.depth (KX _ _ lk) rfl S.co S.gen rfl (PySem.W.codeRec_of KX hcd) (hb _ _ _ _ ?_)
  refine wpAny_newFunctionEnv_cells S.kind hkind fun env he s1 x => ?_
  subst he
  refine ⟨lim.keeps x.toInCall.keep, codeAny_func ?_⟩
  obtain ⟨ws, v0, rfl, t, ht, hq⟩ := hbody A outer s H vs Q E (hr.deeper _) hsp
  have hlw : ws.length = p0.length := by simpa using hl
  have I : Inv (cxOf CX P w K mg base N qual scope f cdv A outer s H E) [] (L2.start N (v0 :: ws)) H s1 := inv_startL S hr.hd e0 hlw r x
  refine wpAny_mono (ht [] s1 (L2.start N (v0 :: ws)) H _ I hq) (fun fl s' hs => ?_) fun e s' hs => hs
  have fin : ∀ {σ' : L2.St} {H' : Hp} {v : V} {u : Value}, Inv (cxOf CX P w K mg base N qual scope f cdv A outer s H E) [] σ' H' s' → RelV v u → Q v H' → CE outer P w H s Q u s' :=
    fun {σ' H' v u} J rv q => ⟨v, H', J.os, J.bare, J.base, J.hok, rv, q⟩
  cases fl with
  | ret u =>
    obtain ⟨v, σ', H', J, rv, q⟩ := hs
    exact fin J rv q
  | next =>
    obtain ⟨σ', H', J, q⟩ := hs
    exact fin (v := V.non) (u := Value.none) J rfl q
  | brk =>
    obtain ⟨_, _, _, q⟩ := hs
    exact False.elim q
  | cont =>
    obtain ⟨_, _, _, q⟩ := hs
    exact False.elim q
/-- one that changes its last argument alone -/
def spL (K : PySem.W.Frag) (n : Nat) (F : PyData → List PyData → Option (PyData × PyData)) : Sp := fun vs H Q _ => ∃ G a ws r ds d r', vs = ws ++ [.ref a] ∧ vs.length = n ∧ Same G H ∧ G a = none ∧ Mo K G H a r ∧ RpAll K G ws ds ∧ F r ds = some (d, r') ∧
  ∀ v G' H', Same (rm H a) H' → Same G' H' → Gr (rm H a) G G' → G' a = none → Mo K G' H' a r' → Rp K G' v d → Q v H'
theorem fun_rowL {x qual : Str} {st : Stmt} {f : Addr} {fd : FuncData} {N p0 : List Str} {x0 : Str} {k : Nat} {fb : Sf} (F : Fun K x qual st f fd) (S : FnScope N (x0 :: p0) (defScope st)) (hN : p0.length + 1 ≤ N.length)
    (hb : ∀ (cdv : Value) (A : Around) (outer : List Env) (s : Shared) (H : Hp) (E : XK), Room k (A.deeper (PyProof.Rows.envOfC qual (defScope st) s.heap.objs.size f cdv)) → Bv (bodyX P w K mg base N qual (defScope st) f cdv A outer s H E) (defBody st) fb) :
    FnOk P w K mg base CX0 (k + 1) f fd (p0 ++ [x0]) (spL K (p0.length + 1) (runR N.length fb)) := by
  obtain ⟨oc, od, kV, doc, pm, an, cdv, ct, osl, rfl, lk, hcd⟩ := F.ex
  refine fn_ofL lk hcd S (fun vs H Q E ⟨G, a, ws, r, ds, d, r', _, h, _⟩ => by rw [h]; simp) fun A outer s H vs Q E hr ⟨G, a, ws, r, ds, d, r', hv, hl, hs, hg, hm, hp, he, q⟩ => ⟨ws, .ref a, hv, _, (hb cdv A outer s H E hr).p.nox, ?_⟩
  subst hv
  unfold runR at he
  cases ho : fb (startR N.length r ds) with
  | none => rw [ho] at he; cases he
  | some o =>
    rw [ho] at he
    refine ⟨rm H a, G, _, _, o, rep_startR hs hg hm hp (by rw [List.length_append] at hl; have : ws.length + 1 = p0.length + 1 := hl; omega), ho, ?_⟩
    have fin : ∀ (ε : En) (v : V) (d0 : PyData) (G' : Hp) (σ' : L2.St) (H' : Hp), sl0 ε d0 = some (d, r') → Gr (rm H a) G G' → Rep K (rm H a) G' H' (some (some (.ref a))) σ' ε → Rp K G' v d0 → Q v H' := fun ε v d0 G' σ' H' e g r p => by
      unfold sl0 at e
      cases h0 : ε[0]? with
      | none => rw [h0] at e; cases e
      | some sl =>
        rw [h0] at e
        cases sl with
        | un => cases e
        | ex c => cases e
        | mt c => cases e
        | fz d => cases e
        | mu d' =>
          cases e
          obtain ⟨a', h1, h2, h3, h4⟩ := r.mus 0 _ h0
          rw [r.z0 _ h0] at h1
          cases h1
          exact q v G' H' r.bg r.sub g h2 h4 p
    cases o with
    | nx ε => exact fun G' σ' H' g r => fin ε .non .none G' σ' H' he g r .non
    | rt d' ε => exact fun v G' σ' H' g r p => fin ε v d' G' σ' H' he g r p
    | bk ε => cases he
    | ct ε => cases he
    | rf d' ε => cases he
end
def tAL (K : PySem.W.Frag) (i : Nat) (fs : Af) : TA := fun σ H Q => ∃ B G z ε ds ε' a, Rep K B G H z σ ε ∧ fs ε = some (ds, ε') ∧ σ[i]? = some (some (.ref a)) ∧ ∀ vs G' H', Gr B G G' → Rep K B G' H' z σ ε' → RpAll K G' vs ds → Q (vs ++ [.ref a]) H'
structure AvL (X : Cx) (i : Nat) (es : List Expr) (fs : Af) : Prop where
  p : PA X es (tAL X.K i fs)
section
variable {X : Cx} {k n : Nat} {f : Addr} {fd : FuncData} {ps : List Str} {x y : Str} {p pos pos' : Pos} {e : Expr} {es : List Expr} {fs : Af} {fa : Ef}
theorem avl_one (i : Nat) (hv : PE X (.Name y pos') (tVar i)) (hst : starEach [.Name y pos'] X.env = (false, eval (.Name y pos') X.env) :: starEach [] X.env := by exact star_ok rfl) : AvL X i [.Name y pos'] fNil :=
  ⟨pa_mono (pa_cons hv pa_nil hst) fun σ H Q ⟨B, G, z, ε, ds, ε', a, r, ef, ha, q⟩ => by
    cases ef
    exact ⟨.ref a, ha, q [] G H (Gr.refl _ _) r .nil⟩⟩
theorem avl_cons {i : Nat} (ha : Ev X e fa) (hr : AvL X i es fs) (hs : starEach (e :: es) X.env = (false, eval e X.env) :: starEach es X.env := by exact star_ok rfl) : AvL X i (e :: es) (fCons fa fs) :=
  ⟨pa_mono (pa_cons ha.p hr.p hs) fun σ H Q ⟨B, G, z, ε, d', ε', a, r, ef, hi, q⟩ => by
    obtain ⟨⟨d1, ε1⟩, e1, ef1⟩ := Option.bind_eq_some_iff.mp ef
    obtain ⟨⟨d2, ε2⟩, e2, ef2⟩ := Option.map_eq_some_iff.mp ef1
    obtain ⟨rfl, rfl⟩ := Prod.mk.inj ef2
    refine ⟨B, G, z, ε, d1, ε1, r, e1, fun v1 G1 H1 g1 r1 p1 => ?_⟩
    exact ⟨B, G1, z, ε1, d2, ε2, a, r1, e2, hi, fun v2 G2 H2 g2 r2 p2 => q _ G2 H2 (g1.trans g2) r2 (.cons (p1.mono g2.1) p2)⟩⟩
theorem ev_rowL (i : Nat) {F : PyData → List PyData → Option (PyData × PyData)} (G : FnOk X.prog X.w X.K X.mg X.base CX0 k f fd ps (spL X.K n F)) (hr : Room k X.A) (hg : Gl X x) (hm : X.mg x = some (.ref f)) (hk : PySem.W.keepIn X.K (.ref f) = true) (hb : Binds X.K fd ps [])
    (ha : AvL X i (e :: es) fs) (hst : starEach (e :: es) X.env = (false, eval e X.env) :: starEach es X.env := by exact star_ok rfl)
    (hdb : (x == ("__debug__" : Str)) = false := by decide) (hpl : (backTo pos (starEach es X.env)).any (·.1) = false := by exact plain_ok rfl) :
    Ev X (.Call (.Name x p) (e :: es) [] pos) (fRow i n F fs) :=
  ⟨pe_mono (pe_call G hr hg hm hk hb .nil pass0 ha.p hdb hst hpl) fun σ H Q ⟨B, G, z, ε, d, ε', rep, ef, q⟩ => by
    unfold fRow at ef
    cases h0 : ε[i]? with
    | none => rw [h0] at ef; cases ef
    | some sl =>
      rw [h0] at ef
      cases sl with
      | un => cases ef
      | ex c => cases ef
      | mt c => cases ef
      | fz d => cases ef
      | mu r0 =>
        obtain ⟨a, ha, _⟩ := rep.mus i r0 h0
        obtain ⟨⟨d1, ε1⟩, e1, ef1⟩ := Option.bind_eq_some_iff.mp ef
        refine ⟨B, G, z, ε, d1, ε1, a, rep, e1, ha, fun vs G1 H1 g1 r1 p1 => ?_⟩
        simp only at ef1
        cases h1 : ε1[i]? with
        | none => rw [h1] at ef1; cases ef1
        | some sl =>
          rw [h1] at ef1
          cases sl with
          | un => cases ef1
          | ex c => cases ef1
          | mt c => cases ef1
          | fz d => cases ef1
          | mu r1' =>
            simp only at ef1
            by_cases hd : d1.length + 1 = n
            case neg => rw [if_neg hd] at ef1; cases ef1
            rw [if_pos hd] at ef1
            obtain ⟨⟨c, r2⟩, e3, ef3⟩ := Option.map_eq_some_iff.mp ef1
            obtain ⟨rfl, rfl⟩ := Prod.mk.inj ef3
            obtain ⟨a', ha', hg', hb', hm'⟩ := r1.mus i r1' h1
            rw [ha] at ha'
            cases ha'
            refine ⟨G1, a, vs, r1', d1, c, r2, by rw [List.append_nil], by rw [List.append_nil, List.length_append, p1.length]; exact hd, r1.sub, hg', hm', p1, e3, fun v G' H' s1 s2 g2 hga hma p2 => ?_⟩
            have hl : i < ε1.length := by
              by_cases hl : i < ε1.length
              · exact hl
              · rw [List.getElem?_eq_none (by omega)] at h1; cases h1
            refine q v G' H' (g1.trans ⟨g2.1, fun b h h' => ?_⟩) ⟨fun b o h => ?_, s2, (fun e q => by
              by_cases hj : i = 0
              · subst hj; exact r1.z0 _ h1
              · rw [List.getElem?_set_ne hj] at q; exact r1.z0 e q), by rw [List.length_set]; exact r1.len, fun j e h => ?_, fun j e h => ?_, fun j l d1 e1 b hjl q1 q2 t1 t2 => ?_, fun j c' h => ?_, (r1.ms.set' fun _ z => by cases z).move g2.1 fun b kvs k2 k3 k4 => by
              have eb : b ≠ a := fun eb => hm'.nodT kvs (by rw [← eb]; exact k4)
              have hrm : rm H1 a b = some (.dT kvs) := by simp only [rm, if_neg eb]; exact k4
              exact ⟨g2.none k2 hrm, k3, s1 b _ hrm⟩⟩ p2
            · have h3 := g2.2 b h h'
              by_cases eb : b = a
              · subst eb; exact hb'
              · simp only [rm, if_neg eb] at h3; exact r1.bg.free h3
            · have eb : b ≠ a := ne_of_none h hb'
              exact s1 b o (by simp only [rm, if_neg eb]; exact r1.bg b o h)
            · by_cases hj : i = j
              · subst hj; rw [List.getElem?_set_self hl] at h; cases h
              · rw [List.getElem?_set_ne hj] at h
                obtain ⟨v, k1, k2⟩ := r1.fzs j e h
                exact ⟨v, k1, k2.mono g2.1⟩
            · by_cases hj : i = j
              · subst hj; rw [List.getElem?_set_self hl] at h; cases h
                exact ⟨a, ha, hga, hb', hma⟩
              · rw [List.getElem?_set_ne hj] at h
                obtain ⟨b, k1, k2, k3, k4⟩ := r1.mus j e h
                obtain ⟨o, ho⟩ := k4.some
                have eb : b ≠ a := fun eb => r1.dis i j r1' e a hj h1 h ha (by rw [k1, eb])
                have hrm : rm H1 a b = some o := by simp only [rm, if_neg eb]; exact ho
                exact ⟨b, k1, g2.none k2 hrm, k3, k4.mono g2.1 (by rw [s1 b o hrm, ho])⟩
            · have fq : ∀ (j : Nat) (d1 : PyData), (ε1.set i (Sl.mu r2))[j]? = some (.mu d1) → ∃ d2, ε1[j]? = some (.mu d2) := fun j d1 q => by
                by_cases hj : i = j
                · subst hj; exact ⟨r1', h1⟩
                · rw [List.getElem?_set_ne hj] at q; exact ⟨d1, q⟩
              obtain ⟨d2, e2⟩ := fq j d1 q1
              obtain ⟨d3, e3⟩ := fq l e1 q2
              exact r1.dis j l d2 d3 b hjl e2 e3 t1 t2
            · by_cases hj : i = j
              · subst hj; rw [List.getElem?_set_self hl] at h; cases h
              · rw [List.getElem?_set_ne hj] at h
                obtain ⟨b, o, u, C, k1, k2, k3⟩ := r1.exs j c' h
                exact ⟨b, o, u, C, k1, g2.1 _ _ k2, k3⟩⟩
end
end PD

set_option maxHeartbeats 4000000
namespace PR
open PySem L2 PD
def B_needed : Sf := (sRet (fBin dAdd (fBin dFdiv (fVar 0) (fC (.int 2))) (fC (.int 1))))
def M_needed : List PyData → Option PyData := runP 1 B_needed
def B_reach_of : Sf := (sSeq (sAsg 2 (fCall (gd 1 M_needed) (fCons (fVar 1) fNil)))
  (sSeq (sIf (gVal (fBin dLt (fCall dLen (fCons (fVar 0) fNil)) (fVar 2))) (sRet (fC (.int 0))) sPass)
  (sRet (fBin dIx (fCallK dSortedR (fCons (fVar 0) fNil) (fCons (fC (.bool true)) fNil)) (fBin dSub (fVar 2) (fC (.int 1)))))))
def M_reach_of : List PyData → Option PyData := runP 3 B_reach_of
theorem ap_reach_of (a0 a1 : PyData) : M_reach_of [a0, a1] = outP (B_reach_of [.fz a0, .fz a1, .un]) := rfl
def B_word_in : Sf := (sSeq (sAsg 2 (fC .none))
  (sSeq (sPre [3] (sFor (fSrc (fVar 0)) (bName 3) (sClr [3] (sIf (gAnd (gVal (fBin dEq (fBin dIx (fVar 3) (fC (.int 0))) (fC (.str "word")))) (gVal (fBin dEq (fBin dIx (fVar 3) (fC (.int 1))) (fVar 1)))) (sAsg 2 (fSl (fVar 3) (oSome (fC (.int 2))) oNone)) (sIf (gAnd (gVal (fBin dEq (fBin dIx (fVar 3) (fC (.int 0))) (fC (.str "free")))) (gAnd (gVal (fBin dEq (fBin dIx (fVar 3) (fC (.int 1))) (fVar 1))) (gAnd (gVal (fBin dIsNot (fVar 2) (fC .none))) (gVal (fBin dEq (fSl (fVar 2) oNone (oSome (fC (.int 2)))) (fSl (fVar 3) (oSome (fC (.int 2))) oNone)))))) (sAsg 2 (fC .none)) sPass)))))
  (sRet (fVar 2))))
def M_word_in : List PyData → Option PyData := runP 4 B_word_in
theorem ap_word_in (a0 a1 : PyData) : M_word_in [a0, a1] = outP (B_word_in [.fz a0, .fz a1, .un, .un]) := rfl
def B_entries_for : Sf := (sRet (fComp (fSrc (fVar 0)) (bName 4) (gAnd (gVal (fBin dEq (fBin dIx (fVar 4) (fC (.int 0))) (fVar 1))) (gAnd (gVal (fBin dEq (fBin dIx (fVar 4) (fC (.int 1))) (fVar 2))) (gVal (fBin dEq (fBin dIx (fVar 4) (fC (.int 2))) (fVar 3))))) (fVar 4) [4]))
def M_entries_for : List PyData → Option PyData := runP 5 B_entries_for
def B_words_for : Sf := (sSeq (sAsgM 3 fDict0)
  (sSeq (sPre [4, 5, 6] (sFor (fSrc (fCall (gd 4 M_entries_for) (fCons (fVar 0) (fCons (fC (.str "got")) (fCons (fVar 1) (fCons (fVar 2) fNil)))))) (bName 4) (sClr [4, 5, 6] (sSeq (sAsgT [5, 6] (fSl (fVar 4) (oSome (fC (.int 3))) oNone))
  (sPutM 3 (fCall dMax (fCons (fVar 6) (fCons (fGetM 3 (fVar 5) (fVar 6)) fNil))) (fVar 5))))))
  (sRet (fCall dTupOf (fCons (fItemsS (fVar 3)) fNil)))))
def M_words_for : List PyData → Option PyData := runP 7 B_words_for
theorem ap_words_for (a0 a1 a2 : PyData) : M_words_for [a0, a1, a2] = outP (B_words_for [.fz a0, .fz a1, .fz a2, .un, .un, .un, .un]) := rfl
def B_noes_for : Sf := (sSeq (sAsg 3 (fComp (fSrc (fCall (gd 3 M_words_for) (fCons (fVar 0) (fCons (fVar 1) (fCons (fVar 2) fNil))))) (bTup [5, 6]) gYes (fVar 5) [5, 6]))
  (sSeq (sAsg 4 (fComp (fSrc (fCall (gd 4 M_entries_for) (fCons (fVar 0) (fCons (fC (.str "no")) (fCons (fVar 1) (fCons (fVar 2) fNil)))))) (bName 7) gYes (fBin dIx (fVar 7) (fC (.int 3))) [7]))
  (sRet (fCall dTupOf (fCons (fSorted (fSetC (fSrc (fVar 4)) (bName 5) (gVal (fBin dNotIn (fVar 5) (fVar 3))) (fVar 5) [5])) fNil)))))
def M_noes_for : List PyData → Option PyData := runP 8 B_noes_for
def B_claim_in : Sf := (sSeq (sAsg 2 (fComp (fSrc (fVar 0)) (bName 6) (gAnd (gVal (fBin dEq (fBin dIx (fVar 6) (fC (.int 0))) (fC (.str "ask")))) (gVal (fBin dEq (fBin dIx (fVar 6) (fC (.int 1))) (fVar 1)))) (fBin dIx (fVar 6) (fC (.int 2))) [6]))
  (sSeq (sIf (gNot (gTru (fVar 2))) (sRet (fC .none)) sPass)
  (sSeq (sAsg 3 (fCall dMax (fCons (fVar 2) fNil)))
  (sSeq (sIf (gVal (fBin dIn (fCall dTup (fCons (fC (.str "back")) (fCons (fVar 1) (fCons (fVar 3) fNil)))) (fVar 0))) (sRet (fC .none)) sPass)
  (sSeq (sAsg 4 (fCall (gd 4 M_entries_for) (fCons (fVar 0) (fCons (fC (.str "ask")) (fCons (fVar 1) (fCons (fVar 3) fNil))))))
  (sSeq (sAsg 5 (fCall dMax (fCons (fComp (fSrc (fVar 4)) (bName 6) gYes (fBin dIx (fVar 6) (fC (.int 4))) [6]) fNil)))
  (sRet (fCall dTup (fCons (fVar 3) (fCons (fBin dIx (fBin dIx (fVar 4) (fUn dNeg (fC (.int 1)))) (fC (.int 3))) (fCons (fVar 5) (fCons (fCall (gd 3 M_words_for) (fCons (fVar 0) (fCons (fVar 1) (fCons (fVar 3) fNil)))) (fCons (fCall (gd 3 M_noes_for) (fCons (fVar 0) (fCons (fVar 1) (fCons (fVar 3) fNil)))) fNil)))))))))))))
def M_claim_in : List PyData → Option PyData := runP 7 B_claim_in
theorem ap_claim_in (a0 a1 : PyData) : M_claim_in [a0, a1] = outP (B_claim_in [.fz a0, .fz a1, .un, .un, .un, .un, .un]) := rfl
def B_others_of : Sf := (sRet (fComp (fRng1 (fCons (fVar 0) fNil)) (bName 2) (gVal (fBin dNe (fVar 2) (fVar 1))) (fVar 2) [2]))
def M_others_of : List PyData → Option PyData := runP 3 B_others_of
theorem ap_others_of (a0 a1 : PyData) : M_others_of [a0, a1] = outP (B_others_of [.fz a0, .fz a1, .un]) := rfl
def B_told_letters : Sf := (sSeq (sAsgT [2, 3, 4, 5, 6] (fVar 1))
  (sRet (fCall dTupOf (fCons (fComp (fSrc (fCall (gd 2 M_others_of) (fCons (fVar 0) (fCons (fVar 3) fNil)))) (bName 7) gYes (fCall dTup (fCons (fC (.str "told")) (fCons (fVar 3) (fCons (fVar 7) (fCons (fVar 2) (fCons (fVar 4) (fCons (fVar 5) (fCons (fVar 6) fNil)))))))) [7]) fNil))))
def M_told_letters : List PyData → Option PyData := runP 8 B_told_letters
theorem ap_told_letters (a0 a1 : PyData) : M_told_letters [a0, a1] = outP (B_told_letters [.fz a0, .fz a1, .un, .un, .un, .un, .un, .un]) := rfl
def B_reach_of_words : Sf := (sRet (fCall (gd 2 M_reach_of) (fCons (fComp (fSrc (fVar 0)) (bTup [2, 3]) gYes (fVar 3) [2, 3]) (fCons (fVar 1) fNil))))
def M_reach_of_words : List PyData → Option PyData := runP 4 B_reach_of_words
theorem ap_reach_of_words (a0 a1 : PyData) : M_reach_of_words [a0, a1] = outP (B_reach_of_words [.fz a0, .fz a1, .un, .un]) := rfl
def B_news_of : Sf := (sSeq (sAsgT [4, 5, 6, 7, 8] (fVar 3))
  (sSeq (sAsg 9 (fCall (gd 2 M_reach_of_words) (fCons (fCall (gd 3 M_words_for) (fCons (fVar 1) (fCons (fVar 4) (fCons (fVar 6) fNil)))) (fCons (fVar 0) fNil))))
  (sSeq (sAsg 10 (fCall (gd 2 M_reach_of_words) (fCons (fCall (gd 3 M_words_for) (fCons (fBin dAdd (fVar 1) (fVar 2)) (fCons (fVar 4) (fCons (fVar 6) fNil)))) (fCons (fVar 0) fNil))))
  (sSeq (sIf (gOr (gVal (fBin dLe (fVar 10) (fVar 9))) (gVal (fBin dLe (fVar 10) (fVar 8)))) (sRet (fCall dTup (fCons (fCall dTup fNil) (fCons (fC .none) fNil)))) sPass)
  (sRet (fCall dTup (fCons (fCall (gd 2 M_told_letters) (fCons (fVar 0) (fCons (fVar 3) fNil))) (fCons (fVar 3) fNil))))))))
def M_news_of : List PyData → Option PyData := runP 11 B_news_of
theorem ap_news_of (a0 a1 a2 a3 : PyData) : M_news_of [a0, a1, a2, a3] = outP (B_news_of [.fz a0, .fz a1, .fz a2, .fz a3, .un, .un, .un, .un, .un, .un, .un]) := rfl
def B_take_ask : Sf := (sSeq (sAsgT [4, 5, 6, 7, 8, 9, 10] (fVar 2))
  (sSeq (sIf (gVal (fBin dLe (fVar 10) (fVar 3))) (sRet (fC (.tuple [(.tuple []), (.tuple []), .none]))) sPass)
  (sSeq (sAsg 11 (fCall (gd 2 M_word_in) (fCons (fVar 1) (fCons (fVar 7) fNil))))
  (sSeq (sAsg 12 (fAnd (fBin dIsNot (fVar 11) (fC .none)) (fBin dEq (fSl (fVar 11) oNone (oSome (fC (.int 2)))) (fCall dTup (fCons (fVar 5) (fCons (fVar 8) fNil))))))
  (sSeq (sIf (gOr (gVal (fBin dIs (fVar 11) (fC .none))) (gOr (gVal (fBin dLe (fBin dIx (fVar 11) (fC (.int 2))) (fVar 3))) (gAnd (gTru (fVar 12)) (gVal (fBin dLt (fBin dIx (fVar 11) (fC (.int 2))) (fVar 10)))))) (sSeq (sAsg 13 (fCall dTup (fCons (fC (.str "word")) (fCons (fVar 7) (fCons (fVar 5) (fCons (fVar 8) (fCons (fVar 10) fNil)))))))
  (sRet (fCall dTup (fCons (fCall dTup (fCons (fVar 13) fNil)) (fCons (fCall dTup (fCons (fCall dTup (fCons (fC (.str "word")) (fCons (fVar 0) (fCons (fVar 5) (fCons (fVar 7) (fCons (fVar 8) (fCons (fVar 10) fNil))))))) fNil)) (fCons (fC .none) fNil)))))) sPass)
  (sSeq (sIf (gTru (fVar 12)) (sRet (fCall dTup (fCons (fCall dTup fNil) (fCons (fCall dTup (fCons (fCall dTup (fCons (fC (.str "word")) (fCons (fVar 0) (fCons (fVar 5) (fCons (fVar 7) (fCons (fVar 8) (fCons (fBin dIx (fVar 11) (fC (.int 2))) fNil))))))) fNil)) (fCons (fC .none) fNil))))) sPass)
  (sRet (fCall dTup (fCons (fCall dTup fNil) (fCons (fCall dTup (fCons (fCall dTup (fCons (fC (.str "no")) (fCons (fVar 0) (fCons (fVar 5) (fCons (fVar 7) (fCons (fVar 8) fNil)))))) fNil)) (fCons (fC .none) fNil)))))))))))
def M_take_ask : List PyData → Option PyData := runP 14 B_take_ask
theorem ap_take_ask (a0 a1 a2 a3 : PyData) : M_take_ask [a0, a1, a2, a3] = outP (B_take_ask [.fz a0, .fz a1, .fz a2, .fz a3, .un, .un, .un, .un, .un, .un, .un, .un, .un, .un]) := rfl
def B_take_word : Sf := (sSeq (sAsgT [5, 6, 7, 8, 9, 10] (fVar 3))
  (sSeq (sAsg 11 (fCall (gd 2 M_claim_in) (fCons (fVar 2) (fCons (fVar 8) fNil))))
  (sSeq (sIf (gOr (gVal (fBin dIs (fVar 11) (fC .none))) (gVal (fBin dNe (fBin dIx (fVar 11) (fC (.int 0))) (fVar 9)))) (sRet (fCall dTup (fCons (fCall dTup fNil) (fCons (fCall dTup (fCons (fCall dTup (fCons (fC (.str "back")) (fCons (fVar 1) (fCons (fVar 6) (fCons (fVar 8) (fCons (fVar 9) fNil)))))) fNil)) (fCons (fC .none) fNil))))) sPass)
  (sSeq (sIf (gTru (fCall dAny (fCons (fComp (fSrc (fBin dIx (fVar 11) (fC (.int 3)))) (bTup [15, 16]) gYes (fAnd (fBin dEq (fVar 15) (fVar 6)) (fBin dGe (fVar 16) (fVar 10))) [15, 16]) fNil))) (sRet (fC (.tuple [(.tuple []), (.tuple []), .none]))) sPass)
  (sSeq (sAsg 12 (fCall dTup (fCons (fCall dTup (fCons (fC (.str "got")) (fCons (fVar 8) (fCons (fVar 9) (fCons (fVar 6) (fCons (fVar 10) fNil)))))) fNil)))
  (sSeq (sAsgT [13, 14] (fCall (gd 4 M_news_of) (fCons (fVar 0) (fCons (fVar 2) (fCons (fVar 12) (fCons (fCall dTup (fCons (fVar 8) (fCons (fVar 1) (fCons (fVar 9) (fCons (fBin dIx (fVar 11) (fC (.int 1))) (fCons (fVar 4) fNil)))))) fNil))))))
  (sRet (fCall dTup (fCons (fVar 12) (fCons (fVar 13) (fCons (fVar 14) fNil)))))))))))
def M_take_word : List PyData → Option PyData := runP 17 B_take_word
theorem ap_take_word (a0 a1 a2 a3 a4 : PyData) : M_take_word [a0, a1, a2, a3, a4] = outP (B_take_word [.fz a0, .fz a1, .fz a2, .fz a3, .fz a4, .un, .un, .un, .un, .un, .un, .un, .un, .un, .un, .un, .un]) := rfl
def B_take_no : Sf := (sSeq (sAsgT [2, 3, 4, 5, 6] (fVar 1))
  (sSeq (sAsg 7 (fCall (gd 2 M_claim_in) (fCons (fVar 0) (fCons (fVar 5) fNil))))
  (sSeq (sIf (gOr (gVal (fBin dIs (fVar 7) (fC .none))) (gVal (fBin dNe (fBin dIx (fVar 7) (fC (.int 0))) (fVar 6)))) (sRet (fC (.tuple [(.tuple []), (.tuple []), .none]))) sPass)
  (sSeq (sAsg 8 (fComp (fSrc (fBin dIx (fVar 7) (fC (.int 3)))) (bTup [9, 10]) gYes (fVar 9) [9, 10]))
  (sSeq (sIf (gOr (gVal (fBin dIn (fVar 3) (fVar 8))) (gVal (fBin dIn (fVar 3) (fBin dIx (fVar 7) (fC (.int 4)))))) (sRet (fC (.tuple [(.tuple []), (.tuple []), .none]))) sPass)
  (sRet (fCall dTup (fCons (fCall dTup (fCons (fCall dTup (fCons (fC (.str "no")) (fCons (fVar 5) (fCons (fVar 6) (fCons (fVar 3) fNil))))) fNil)) (fCons (fCall dTup fNil) (fCons (fC .none) fNil))))))))))
def M_take_no : List PyData → Option PyData := runP 11 B_take_no
theorem ap_take_no (a0 a1 : PyData) : M_take_no [a0, a1] = outP (B_take_no [.fz a0, .fz a1, .un, .un, .un, .un, .un, .un, .un, .un, .un]) := rfl
def B_take_back : Sf := (sSeq (sAsgT [2, 3, 4, 5, 6] (fVar 1))
  (sSeq (sAsg 7 (fCall (gd 2 M_word_in) (fCons (fVar 0) (fCons (fVar 5) fNil))))
  (sSeq (sIf (gOr (gVal (fBin dIs (fVar 7) (fC .none))) (gVal (fBin dNe (fSl (fVar 7) oNone (oSome (fC (.int 2)))) (fCall dTup (fCons (fVar 3) (fCons (fVar 6) fNil)))))) (sRet (fC (.tuple [(.tuple []), (.tuple []), .none]))) sPass)
  (sRet (fCall dTup (fCons (fCall dTup (fCons (fCall dTup (fCons (fC (.str "free")) (fCons (fVar 5) (fCons (fVar 3) (fCons (fVar 6) fNil))))) fNil)) (fCons (fCall dTup fNil) (fCons (fC .none) fNil))))))))
def M_take_back : List PyData → Option PyData := runP 8 B_take_back
theorem ap_take_back (a0 a1 : PyData) : M_take_back [a0, a1] = outP (B_take_back [.fz a0, .fz a1, .un, .un, .un, .un, .un, .un]) := rfl
def B_take_told : Sf := (sSeq (sAsgT [1, 2, 3, 4, 5, 6, 7] (fVar 0))
  (sRet (fCall dTup (fCons (fCall dTup fNil) (fCons (fCall dTup fNil) (fCons (fCall dTup (fCons (fVar 4) (fCons (fVar 2) (fCons (fVar 5) (fCons (fVar 6) (fCons (fVar 7) fNil)))))) fNil))))))
def M_take_told : List PyData → Option PyData := runP 8 B_take_told
theorem ap_take_told (a0 : PyData) : M_take_told [a0] = outP (B_take_told [.fz a0, .un, .un, .un, .un, .un, .un, .un]) := rfl
def B_taken : Sf := (sSeq (sAsg 5 (fBin dIx (fVar 3) (fC (.int 0))))
  (sSeq (sIf (gVal (fBin dEq (fVar 5) (fC (.str "ask")))) (sRet (fCall (gd 4 M_take_ask) (fCons (fVar 1) (fCons (fVar 2) (fCons (fVar 3) (fCons (fVar 4) fNil)))))) sPass)
  (sSeq (sIf (gVal (fBin dEq (fVar 5) (fC (.str "word")))) (sRet (fCall (gd 5 M_take_word) (fCons (fVar 0) (fCons (fVar 1) (fCons (fVar 2) (fCons (fVar 3) (fCons (fVar 4) fNil))))))) sPass)
  (sSeq (sIf (gVal (fBin dEq (fVar 5) (fC (.str "no")))) (sRet (fCall (gd 2 M_take_no) (fCons (fVar 2) (fCons (fVar 3) fNil)))) sPass)
  (sSeq (sIf (gVal (fBin dEq (fVar 5) (fC (.str "back")))) (sRet (fCall (gd 2 M_take_back) (fCons (fVar 2) (fCons (fVar 3) fNil)))) sPass)
  (sRet (fCall (gd 1 M_take_told) (fCons (fVar 3) fNil))))))))
def M_taken : List PyData → Option PyData := runP 6 B_taken
theorem ap_taken (a0 a1 a2 a3 a4 : PyData) : M_taken [a0, a1, a2, a3, a4] = outP (B_taken [.fz a0, .fz a1, .fz a2, .fz a3, .fz a4, .un]) := rfl
def B_law_stream : Sf := (sSeq (sAsg 1 (fBin dMod (fVar 0) (fC (.int 536870909))))
  (sSeq (sAsg 1 (fBin dMod (fBin dAdd (fBin dMul (fBin dMod (fBin dMul (fVar 1) (fVar 1)) (fC (.int 536870909))) (fBin dAdd (fVar 1) (fC (.int 7)))) (fC (.int 13))) (fC (.int 536870909))))
  (sRetF (fCall dLst (fCons (fVar 0) (fCons (fVar 1) (fCons (fCall dIntOf (fCons (fBin dGe (fVar 0) (fBin dPow (fC (.int 10)) (fC (.int 18)))) fNil)) fNil)))))))
def M_law_stream : List PyData → Option PyData := runN 2 B_law_stream
def B_law_take : Sf := (sSeq (sIf (gVal (fBin dEq (fIxM 0 (fC (.int 2))) (fC (.int 1)))) (sSeq (sAsg 2 (fBin dMod (fIxM 0 (fC (.int 0))) (fVar 1)))
  (sSeq (sSetM 0 (fBin dFdiv (fIxM 0 (fC (.int 0))) (fVar 1)) (fC (.int 0)))
  (sRet (fVar 2)))) sPass)
  (sSeq (sSetM 0 (fBin dMod (fBin dMul (fBin dAdd (fIxM 0 (fC (.int 1))) (fC (.int 7919))) (fBin dAdd (fIxM 0 (fC (.int 1))) (fC (.int 104729)))) (fC (.int 536870909))) (fC (.int 1)))
  (sRet (fBin dMod (fBin dFdiv (fBin dAdd (fBin dMul (fIxM 0 (fC (.int 1))) (fC (.int 48271))) (fC (.int 11))) (fC (.int 64))) (fVar 1)))))
def M_law_take : PyData → List PyData → Option (PyData × PyData) := runR 3 B_law_take
def B_law_letters : Sf := (sSeq (sAsgM 4 (fComp (fRng1 (fCons (fVar 1) fNil)) (bName 10) (gVal (fBin dNe (fVar 10) (fVar 2))) (fVar 10) [10]))
  (sSeq (sAsgM 5 (fCall dLst fNil))
  (sSeq (sWhile (gVal (fEmM true 4)) (sSeq (sAsg 6 (fPopM 4 (fRow 0 2 M_law_take (fCons (fLenM 4) fNil))))
  (sSeq (sAsg 7 (fBin dAdd (fVar 3) (fBin dIx (fCall dLst (fCons (fUn dNeg (fC (.int 1))) (fCons (fC (.int 0)) (fCons (fC (.int 1)) (fCons (fC (.int 2)) (fCons (fC (.int 3)) (fCons (fC (.int 5)) fNil))))))) (fRow 0 2 M_law_take (fCons (fC (.int 6)) fNil)))))
  (sSeq (sAsg 8 (fBin dIx (fCall dLst (fCons (fC (.int 4)) (fCons (fC (.int 4)) (fCons (fC (.int 4)) (fCons (fC (.int 3)) fNil))))) (fRow 0 2 M_law_take (fCons (fC (.int 4)) fNil))))
  (sSeq (sAsg 9 (fCall dTup (fCons (fC (.str "word")) (fCons (fVar 6) (fCons (fVar 2) (fCons (fC (.str "ab")) (fCons (fVar 8) (fCons (fCall dMax (fCons (fC (.int 1)) (fCons (fVar 7) fNil))) fNil))))))))
  (sSeq (sExtM 5 (fRepF (fCall dLst (fCons (fVar 9) fNil)) (fBin dIx (fCall dLst (fCons (fC (.int 1)) (fCons (fC (.int 1)) (fCons (fC (.int 2)) fNil)))) (fRow 0 2 M_law_take (fCons (fC (.int 3)) fNil)))))
  (sIf (gVal (fBin dEq (fRow 0 2 M_law_take (fCons (fC (.int 3)) fNil)) (fC (.int 0)))) (sAppM 5 (fCall dTup (fCons (fC (.str "word")) (fCons (fVar 6) (fCons (fVar 2) (fCons (fC (.str "ab")) (fCons (fC (.int 4)) (fCons (fBin dAdd (fBin dAdd (fVar 3) (fC (.int 1))) (fRow 0 2 M_law_take (fCons (fC (.int 9)) fNil))) fNil)))))))) sPass)))))))
  (sRet (fVar 5)))))
def M_law_letters : PyData → List PyData → Option (PyData × PyData) := runR 11 B_law_letters
theorem ap_law_letters (a0 a1 a2 a3 : PyData) : M_law_letters a0 [a1, a2, a3] = outR (B_law_letters [.mu a0, .fz a1, .fz a2, .fz a3, .un, .un, .un, .un, .un, .un, .un]) := rfl
def B_law_right : Sf := (sSeq (sAsgT [6, 7, 8] (fCall (gd 5 M_taken) (fCons (fVar 1) (fCons (fVar 2) (fCons (fVar 3) (fCons (fVar 4) (fCons (fVar 5) fNil)))))))
  (sSeq (sIf (gVal (fBin dNe (fBin dIx (fVar 4) (fC (.int 4))) (fC (.int 4)))) (sRet (fBin dEq (fCall dTup (fCons (fVar 6) (fCons (fVar 7) (fCons (fVar 8) fNil)))) (fCall dTup (fCons (fCall dTup fNil) (fCons (fCall dTup (fCons (fCall dTup (fCons (fC (.str "back")) (fCons (fVar 2) (fCons (fBin dIx (fVar 4) (fC (.int 1))) (fCons (fC (.str "ab")) (fCons (fBin dIx (fVar 4) (fC (.int 4))) fNil)))))) fNil)) (fCons (fC .none) fNil)))))) sPass)
  (sSeq (sAsg 9 (fCall (gd 2 M_reach_of) (fCons (fListV 0) (fCons (fVar 1) fNil))))
  (sSeq (sPutM 0 (fCall dMax (fCons (fGetM 0 (fBin dIx (fVar 4) (fC (.int 1))) (fC (.int 0))) (fCons (fBin dIx (fVar 4) (fC (.int 5))) fNil))) (fBin dIx (fVar 4) (fC (.int 1))))
  (sSeq (sAsg 10 (fCall (gd 2 M_reach_of) (fCons (fListV 0) (fCons (fVar 1) fNil))))
  (sSeq (sIf (gOr (gVal (fBin dLe (fVar 10) (fVar 9))) (gVal (fBin dLe (fVar 10) (fVar 5)))) (sRet (fAnd (fBin dEq (fVar 7) (fCall dTup fNil)) (fBin dIs (fVar 8) (fC .none)))) sPass)
  (sSeq (sAsg 11 (fComp (fRng1 (fCons (fVar 1) fNil)) (bName 12) (gVal (fBin dNe (fVar 12) (fVar 2))) (fVar 12) [12]))
  (sSeq (sIf (gOr (gVal (fBin dNe (fVar 8) (fCall dTup (fCons (fC (.str "ab")) (fCons (fVar 2) (fCons (fC (.int 4)) (fCons (fC (.str "joe")) (fCons (fVar 5) fNil)))))))) (gVal (fBin dLt (fLenD 0) (fCall (gd 1 M_needed) (fCons (fVar 1) fNil))))) (sRet (fC (.bool false))) sPass)
  (sRet (fBin dEq (fCall dListOf (fCons (fVar 7) fNil)) (fComp (fSrc (fVar 11)) (bName 12) gYes (fCall dTup (fCons (fC (.str "told")) (fCons (fVar 2) (fCons (fVar 12) (fCons (fC (.str "ab")) (fCons (fC (.int 4)) (fCons (fC (.str "joe")) (fCons (fVar 5) fNil)))))))) [12])))))))))))
def M_law_right : PyData → List PyData → Option (PyData × PyData) := runR 13 B_law_right
theorem ap_law_right (a0 a1 a2 a3 a4 a5 : PyData) : M_law_right a0 [a1, a2, a3, a4, a5] = outR (B_law_right [.mu a0, .fz a1, .fz a2, .fz a3, .fz a4, .fz a5, .un, .un, .un, .un, .un, .un, .un]) := rfl
def B_law : Sf := (sSeq (sPre [1, 2, 3, 4, 5, 6, 7, 8] (sFor (fSrc (fBin dAdd (fCall dLst (fCons (fC (.int 0)) fNil)) (fSl (fVar 0) oNone (oSome (fC (.int 20)))))) (bName 1) (sClr [1, 2, 3, 4, 5, 6, 7, 8] (sSeq (sAsgM 2 (fCall (gd 1 M_law_stream) (fCons (fVar 1) fNil)))
  (sSeq (sAsg 3 (fBin dAdd (fC (.int 2)) (fRow 2 2 M_law_take (fCons (fC (.int 6)) fNil))))
  (sSeq (sAsg 4 (fRow 2 2 M_law_take (fCons (fVar 3) fNil)))
  (sSeq (sAsg 5 (fBin dAdd (fC (.int 1)) (fRow 2 2 M_law_take (fCons (fC (.int 9)) fNil))))
  (sSeq (sAsg 6 (fCall dTup (fCons (fCall dTup (fCons (fC (.str "ask")) (fCons (fC (.str "ab")) (fCons (fC (.int 3)) (fCons (fC (.str "ann")) (fCons (fC (.int 1)) fNil)))))) (fCons (fCall dTup (fCons (fC (.str "ask")) (fCons (fC (.str "ab")) (fCons (fC (.int 4)) (fCons (fC (.str "joe")) (fCons (fBin dAdd (fVar 5) (fC (.int 3))) fNil)))))) fNil))))
  (sSeq (sAsgM 7 fDict0)
  (sSeq (sIf (gVal (fBin dEq (fRow 2 2 M_law_take (fCons (fC (.int 2)) fNil)) (fC (.int 0)))) (sSeq (sAsg 6 (fBin dAdd (fVar 6) (fCall dTup (fCons (fCall dTup (fCons (fC (.str "word")) (fCons (fC (.str "ab")) (fCons (fVar 4) (fCons (fC (.int 4)) (fCons (fBin dAdd (fVar 5) (fC (.int 3))) fNil)))))) (fCons (fCall dTup (fCons (fC (.str "got")) (fCons (fC (.str "ab")) (fCons (fC (.int 4)) (fCons (fVar 4) (fCons (fBin dAdd (fVar 5) (fC (.int 3))) fNil)))))) fNil)))))
  (sAsgM 7 (fDict1 (fVar 4) (fBin dAdd (fVar 5) (fC (.int 3)))))) sPass)
  (sSeq (sPre [8] (sFor (fSrc (fRow 2 4 M_law_letters (fCons (fVar 3) (fCons (fVar 4) (fCons (fVar 5) fNil))))) (bName 8) (sClr [8] (sSeq (sIf (gNot (gTru (fRow 7 6 M_law_right (fCons (fVar 3) (fCons (fVar 4) (fCons (fVar 6) (fCons (fVar 8) (fCons (fVar 5) fNil)))))))) (sRet (fC (.bool false))) sPass)
  (sAsg 6 (fBin dAdd (fVar 6) (fBin dIx (fCall (gd 5 M_taken) (fCons (fVar 3) (fCons (fVar 4) (fCons (fVar 6) (fCons (fVar 8) (fCons (fVar 5) fNil)))))) (fC (.int 0)))))))))
  (sIf (gVal (fBin dNe (fBin dIx (fCall (gd 2 M_claim_in) (fCons (fVar 6) (fCons (fC (.str "ab")) fNil))) (fC (.int 3))) (fCall dTupOf (fCons (fItemsS (fVar 7)) fNil)))) (sRet (fC (.bool false))) sPass))))))))))))
  (sRet (fC (.bool true))))
def M_law : List PyData → Option PyData := runP 9 B_law
theorem ap_law (a0 : PyData) : M_law [a0] = outP (B_law [.fz a0, .un, .un, .un, .un, .un, .un, .un, .un]) := rfl
local macro_rules | `(tactic| walk_at "lf") => `(tactic| first | with_reducible rfl | assumption | exact dMod_ok (by omega) | exact dFdiv_ok (by omega) (by omega) | exact dMul_l (by omega) (by omega) | exact dEq_int | exact dNe_int | rfl)
local macro_rules | `(tactic| walk_at "go") => `(tactic| repeat' (first
  | with_reducible apply sSeq_nx | with_reducible apply sAsg_ok | with_reducible apply sAsgM_ok | with_reducible apply sRet_ok | with_reducible apply sRetF_ok | with_reducible apply fBin_ok | with_reducible apply fCall_ok | with_reducible apply fCallK_ok | with_reducible apply fCons_ok
  | with_reducible apply fIxM_ok | with_reducible apply sSetM_ok | with_reducible refine gd_ok rfl ?_ | walk_at "lf"))
def nmB (x : Str) : Bool := decide (1 ≤ x.cps.size ∧ x.cps.size ≤ 8) && x.cps.toList.all fun c => decide (97 ≤ c ∧ c ≤ 122)
/-- a text that can be laid out, and is a name -/
def okS (x : Str) : Prop := PyData.strOk x = true ∧ nmB x = true
/-- an entry of a log -/
inductive E6 where
  | ask (nm : Str) (n : Int) (p : Str) (u : Int) | got (nm : Str) (n h u : Int) | no (nm : Str) (n h : Int) | back (nm : Str) (n : Int) | word (nm : Str) (h n u : Int) | free (nm : Str) (h n : Int)
  deriving DecidableEq
def E6.d : E6 → PyData
  | .ask nm n p u => .tuple [.str "ask", .str nm, .int n, .str p, .int u]
  | .got nm n h u => .tuple [.str "got", .str nm, .int n, .int h, .int u]
  | .no nm n h => .tuple [.str "no", .str nm, .int n, .int h]
  | .back nm n => .tuple [.str "back", .str nm, .int n]
  | .word nm h n u => .tuple [.str "word", .str nm, .int h, .int n, .int u]
  | .free nm h n => .tuple [.str "free", .str nm, .int h, .int n]
def E6.nm : E6 → Str
  | .ask nm _ _ _ => nm | .got nm _ _ _ => nm | .no nm _ _ => nm | .back nm _ => nm | .word nm _ _ _ => nm | .free nm _ _ => nm
def E6.kd : E6 → Str
  | .ask .. => "ask" | .got .. => "got" | .no .. => "no" | .back .. => "back" | .word .. => "word" | .free .. => "free"
def E6.Wf (m : Int) : E6 → Prop
  | .ask nm n p u => okS nm ∧ 1 ≤ n ∧ okS p ∧ 1 ≤ u
  | .got nm n h u => okS nm ∧ 1 ≤ n ∧ 0 ≤ h ∧ h < m ∧ 1 ≤ u
  | .no nm n h => okS nm ∧ 1 ≤ n ∧ 0 ≤ h ∧ h < m
  | .back nm n => okS nm ∧ 1 ≤ n
  | .word nm h n u => okS nm ∧ 1 ≤ n ∧ 0 ≤ h ∧ h < m ∧ 1 ≤ u
  | .free nm h n => okS nm ∧ 1 ≤ n ∧ 0 ≤ h ∧ h < m
theorem E6.Wf.nm {m : Int} {e : E6} (h : e.Wf m) : okS e.nm := by cases e <;> exact h.1
theorem E6.ix0 (e : E6) : dIx e.d (.int 0) = some (.str e.kd) := by cases e <;> rfl
theorem E6.ix1 (e : E6) : dIx e.d (.int 1) = some (.str e.nm) := by cases e <;> rfl
theorem sh_str {x : Str} (h : okS x) : sh (.str x) = true := by
  unfold okS at h
  simp [sh, SeqAt.shaped, PyData.canLay0, PyData.depth, h]
theorem ok_ask : okS "ask" := by unfold okS; decide +kernel
theorem ok_got : okS "got" := by unfold okS; decide +kernel
theorem ok_no : okS "no" := by unfold okS; decide +kernel
theorem ok_back : okS "back" := by unfold okS; decide +kernel
theorem ok_word : okS "word" := by unfold okS; decide +kernel
theorem ok_free : okS "free" := by unfold okS; decide +kernel
theorem kd_ok (e : E6) : okS e.kd := by
  cases e
  · exact ok_ask
  · exact ok_got
  · exact ok_no
  · exact ok_back
  · exact ok_word
  · exact ok_free
theorem dEq_str {x y : Str} (hx : okS x) (hy : okS y) : dEq (.str x) (.str y) = some (.bool (x == y)) := by
  unfold dEq
  rw [if_pos ⟨sh_str hx, sh_str hy⟩]; simp [PyData.eqv]
/-- a log as data -/
def logD (es : List E6) : PyData := .tuple (es.map E6.d)
def Wfs (m : Int) (es : List E6) : Prop := ∀ e ∈ es, e.Wf m
def RowOk (d : PyData) : Prop := ∃ a b c, d = .list [.int a, .int b, .int c] ∧ 0 ≤ b ∧ b < 536870909
theorem stream_ok (n : Int) : ∃ r, M_law_stream [.int n] = some r ∧ RowOk r := by
  have h0 : 0 ≤ n % 536870909 := Int.emod_nonneg _ (by decide)
  have h1 : n % 536870909 < 536870909 := Int.emod_lt_of_pos _ (by decide)
  have h2 : 0 ≤ n % 536870909 * (n % 536870909) % 536870909 := Int.emod_nonneg _ (by decide)
  have h3 : n % 536870909 * (n % 536870909) % 536870909 < 536870909 := Int.emod_lt_of_pos _ (by decide)
  refine ⟨.list [.int n, .int ((n % 536870909 * (n % 536870909) % 536870909 * (n % 536870909 + 7) + 13) % 536870909), .int (if decide (10 ^ (18 : Int).toNat ≤ n) then 1 else 0)], ?_, _, _, _, rfl, Int.emod_nonneg _ (by decide), Int.emod_lt_of_pos _ (by decide)⟩
  refine' runN_ok ?_
  rotate_right
  unfold B_law_stream
  walk_at "go"
theorem take_ok {r : PyData} (hr : RowOk r) {m : Int} (h0 : 0 < m) (h1 : m < 2 ^ 200) : ∃ v r', M_law_take r [.int m] = some (.int v, r') ∧ 0 ≤ v ∧ v < m ∧ RowOk r' := by
  obtain ⟨a, b, c, rfl, hb0, hb1⟩ := hr
  by_cases hc : c = 1
  · subst hc
    refine ⟨a % m, .list [.int (a / m), .int b, .int 1], runR_ok (ε := ?e) ?_ ?_, Int.emod_nonneg _ (by omega), Int.emod_lt_of_pos _ h0, _, _, _, rfl, hb0, hb1⟩
    rotate_left
    · unfold B_law_take
      refine' sSeq_rt (sIf_t (gVal_t (fBin_ok ?_ ?_ ?_) ?_) ?_)
      all_goals walk_at "go"
    · rfl
  · refine ⟨((b + 7919) * (b + 104729) % 536870909 * 48271 + 11) / 64 % m, .list [.int a, .int ((b + 7919) * (b + 104729) % 536870909), .int c], runR_ok (ε := ?e2) ?_ ?_, Int.emod_nonneg _ (by omega), Int.emod_lt_of_pos _ h0, _, _, _, rfl, Int.emod_nonneg _ (by decide), Int.emod_lt_of_pos _ (by decide)⟩
    rotate_left
    · unfold B_law_take
      have q0 : 0 ≤ (b + 7919) * (b + 104729) % 536870909 := Int.emod_nonneg _ (by decide)
      have q1 : (b + 7919) * (b + 104729) % 536870909 < 536870909 := Int.emod_lt_of_pos _ (by decide)
      refine' sSeq_nx (sIf_f (gVal_f (fBin_ok ?_ ?_ dEq_int) (beq_eq_false_iff_ne.mpr hc)) ?_) ?_
      all_goals walk_at "go"
    · rfl
theorem draw {ε : En} {r : PyData} (i : Nat) (hi : ε[i]? = some (.mu r)) (hr : RowOk r) {m : Int} (h0 : 0 < m) (h1 : m < 2 ^ 200) {fm : Ef} (hm : fm ε = some (.int m, ε)) :
    ∃ v r', fRow i 2 M_law_take (fCons fm fNil) ε = some (.int v, ε.set i (.mu r')) ∧ 0 ≤ v ∧ v < m ∧ RowOk r' := by
  obtain ⟨v, r', e, hv0, hv1, hr'⟩ := take_ok hr h0 h1
  exact ⟨v, r', fRow_ok hi (fCons_ok hm rfl) hi rfl e, hv0, hv1, hr'⟩
theorem can_ent {m : Int} {e : E6} (h : e.Wf m) : e.d.canLay0 = true ∧ e.d.depth ≤ 1 := by
  have k1 := kd_ok e
  unfold okS at k1
  cases e with
  | ask nm n p u =>
    obtain ⟨a, _, c, _⟩ := h
    unfold okS at a c
    have b : PyData.strOk "ask" = true := ok_ask.1
    constructor
    · simp [E6.d, PyData.canLay0, PyData.canLayAll0, a, b, c]
    · simp [E6.d, PyData.depth, PyData.depthAll]
  | got nm n k u =>
    obtain ⟨a, _⟩ := h
    unfold okS at a
    have b : PyData.strOk "got" = true := ok_got.1
    constructor
    · simp [E6.d, PyData.canLay0, PyData.canLayAll0, a, b]
    · simp [E6.d, PyData.depth, PyData.depthAll]
  | no nm n k =>
    obtain ⟨a, _⟩ := h
    unfold okS at a
    have b : PyData.strOk "no" = true := ok_no.1
    constructor
    · simp [E6.d, PyData.canLay0, PyData.canLayAll0, a, b]
    · simp [E6.d, PyData.depth, PyData.depthAll]
  | back nm n =>
    obtain ⟨a, _⟩ := h
    unfold okS at a
    have b : PyData.strOk "back" = true := ok_back.1
    constructor
    · simp [E6.d, PyData.canLay0, PyData.canLayAll0, a, b]
    · simp [E6.d, PyData.depth, PyData.depthAll]
  | word nm k n u =>
    obtain ⟨a, _⟩ := h
    unfold okS at a
    have b : PyData.strOk "word" = true := ok_word.1
    constructor
    · simp [E6.d, PyData.canLay0, PyData.canLayAll0, a, b]
    · simp [E6.d, PyData.depth, PyData.depthAll]
  | free nm k n =>
    obtain ⟨a, _⟩ := h
    unfold okS at a
    have b : PyData.strOk "free" = true := ok_free.1
    constructor
    · simp [E6.d, PyData.canLay0, PyData.canLayAll0, a, b]
    · simp [E6.d, PyData.depth, PyData.depthAll]
theorem can_ents {m : Int} : ∀ {es : List E6}, Wfs m es → PyData.canLayAll0 (es.map E6.d) = true ∧ PyData.depthAll (es.map E6.d) ≤ 1
  | [], _ => ⟨rfl, by simp [PyData.depthAll]⟩
  | e :: es, h => by
    obtain ⟨a, b⟩ := can_ent (h e (List.mem_cons_self ..))
    obtain ⟨c, d⟩ := can_ents (es := es) fun x hx => h x (List.mem_cons_of_mem _ hx)
    simp only [List.map_cons, PyData.canLayAll0, PyData.depthAll, a, c, Bool.and_self, true_and]
    omega
theorem sh_log {m : Int} {es : List E6} (h : Wfs m es) : sh (logD es) = true := by
  obtain ⟨a, b⟩ := can_ents h
  simp only [sh, SeqAt.shaped, logD, PyData.canLay0, PyData.depth, a, Bool.true_and, decide_eq_true_eq]
  omega
local macro_rules | `(tactic| walk_at "ev") => `(tactic| simp only [qSeq, qPass, qDrop, qRet, qRetF, qIf, qAsg, qAsgM, qbName, qNames0, qNamesS, qTup, qAsgT, qFor, qPre, qClr, qClrN, qClrC, qClrB, qClrR, qClrF, qclr0, qclrS, qC, qVar, qBin, qUn, qAnd, qOr, qTrue, qNot, qIfE, qNil, qCons, qCall, qCallK,
  qgd1, qgd2, qgd3, qgd4, qgd5, qgd6, qgVal, qgAnd, qgOr, qgNot, qgTru, qgYes, qTruB, qTruN, qTruL, qTruT, qSl, qoN, qoS, qInt, qIsi, qSrc, qSeqL, qSeqT, qRow, qComp, qIxM, qAppM, qAsL, qAsD, qDict0, qPutM, qGetM, qAtM, qKeyI, qKeyS, qEnum, qRng1, qRng2, qSetC, qSortedC, qItemsS, qChain, qoutP, qoutPn, qoutN, qoutR, qoutRn,
  qAddI, qSubI, qLt, qLe, qGt, qGe, qIs, qIsNot, qNeg, qMax2, qIntB, qIntI, qLenL, qLenT, qTupL, qTupT, qListL, qListT, qSlL, qSlT, qdTup0, qdTup1, qdTup2, qdTup3, qdTup4, qdTup5, qdTup6, qdTup7, qIxT, qIxL, at0, at1, at2, at3, at4, at5, at6, cutT1, cutT2, cutT3, cutT4, cutF1, cutF2, cutF3, dEq_int, dNe_int,
  isNone, tyName, Option.bind_some, Option.map_some, Option.bind_none, Option.map_none, List.getElem?_cons_zero, List.getElem?_cons_succ, List.set_cons_zero, List.set_cons_succ, List.take_succ_cons, List.take_zero, List.drop_succ_cons, List.drop_zero, List.map_cons, List.map_nil, List.length_cons, List.length_nil, List.isEmpty_cons, List.isEmpty_nil, Nat.reduceAdd, if_true, if_false, reduceIte, Bool.false_eq_true, Bool.not_true, Bool.not_false, decide_true, decide_false, Bool.true_and, Bool.false_and, Bool.and_true, Bool.and_false, and_self, *])
def E6.i2 : E6 → Int
  | .ask _ n _ _ => n | .got _ n _ _ => n | .no _ n _ => n | .back _ n => n | .word _ h _ _ => h | .free _ h _ => h
theorem E6.ix2 (e : E6) : dIx e.d (.int 2) = some (.int e.i2) := by cases e <;> rfl
def E6.is (kd nm : Str) (n : Int) (e : E6) : Bool := e.kd == kd && (e.nm == nm && e.i2 == n)
theorem filter_le {es : List E6} {p : E6 → Bool} (hl : es.length ≤ 50000) : ((es.filter p).map E6.d).length ≤ sizeLine := by
  rw [List.length_map]; exact sizeLine_big (Nat.le_trans (List.length_filter_le _ _) (by omega))
theorem entries_for_eq {es : List E6} (h : ∀ e ∈ es, okS e.nm) (hl : es.length ≤ 50000) {kd nm : Str} (hk : okS kd) (hn : okS nm) (n : Int) :
    M_entries_for [logD es, .str kd, .str nm, .int n] = some (.list ((es.filter (E6.is kd nm n)).map E6.d)) :=
  runP_ok (sRet_ok (fComp_ok (fSrc_ok rfl rfl) (comp_map E6.d (E6.is kd nm n) E6.d es fun e he =>
    ⟨_, rfl, gAnd_b (gVal_ok (fBin_ok (fBin_ok rfl rfl e.ix0) rfl (dEq_str (kd_ok e) hk))) fun _ => gAnd_b (gVal_ok (fBin_ok (fBin_ok rfl rfl e.ix1) rfl (dEq_str (h e he) hn))) fun _ => gVal_ok (fBin_ok (fBin_ok rfl rfl e.ix2) rfl dEq_int), fun _ => rfl, rfl⟩) (filter_le hl)))
/-- the words got, the noes, the asks of a name and number -/
def gotE (nm : Str) (n : Int) : E6 → Option (Int × Int)
  | .got x m h u => if x = nm ∧ m = n then some (h, u) else none
  | _ => none
def noE (nm : Str) (n : Int) : E6 → Option Int
  | .no x m h => if x = nm ∧ m = n then some h else none
  | _ => none
def askE (nm : Str) (n : Int) : E6 → Option (Str × Int)
  | .ask x m p u => if x = nm ∧ m = n then some (p, u) else none
  | _ => none
theorem kd_ne : (("ask" : Str) == "got") = false ∧ (("ask" : Str) == "no") = false ∧ (("got" : Str) == "ask") = false ∧ (("got" : Str) == "no") = false ∧ (("no" : Str) == "ask") = false ∧ (("no" : Str) == "got") = false ∧ (("back" : Str) == "ask") = false ∧ (("back" : Str) == "got") = false ∧ (("back" : Str) == "no") = false ∧ (("word" : Str) == "ask") = false ∧ (("word" : Str) == "got") = false ∧ (("word" : Str) == "no") = false ∧ (("free" : Str) == "ask") = false ∧ (("free" : Str) == "got") = false ∧ (("free" : Str) == "no") = false := by decide +kernel
theorem gots_d (nm : Str) (n : Int) : ∀ es : List E6, (es.filter (E6.is "got" nm n)).map E6.d = (es.filterMap (gotE nm n)).map fun t => (E6.got nm n t.1 t.2).d
  | [] => rfl
  | e :: es => by
    have ih := gots_d nm n es
    obtain ⟨k1, k2, k3, k4, k5, k6, k7, k8, k9, k10, k11, k12, k13, k14, k15⟩ := kd_ne
    cases e with
    | got x m h u =>
      by_cases hx : x = nm ∧ m = n
      · obtain ⟨rfl, rfl⟩ := hx
        simp [List.filter_cons, List.filterMap_cons, E6.is, E6.kd, E6.nm, E6.i2, gotE, ih]
      · have : E6.is "got" nm n (.got x m h u) = false := by
          simp only [E6.is, E6.kd, E6.nm, E6.i2, beq_self_eq_true, Bool.true_and]
          rw [Bool.and_eq_false_iff]
          rcases Classical.em (x = nm) with e1 | e1
          · right; simpa using fun e2 => hx ⟨e1, e2⟩
          · left; simpa using e1
        rw [List.filter_cons_of_neg (by rw [this]; exact Bool.false_ne_true), List.filterMap_cons]
        simp only [gotE, if_neg hx]; exact ih
    | ask => simpa [List.filter_cons, List.filterMap_cons, E6.is, E6.kd, gotE, k1] using ih
    | no => simpa [List.filter_cons, List.filterMap_cons, E6.is, E6.kd, gotE, k6] using ih
    | back => simpa [List.filter_cons, List.filterMap_cons, E6.is, E6.kd, gotE, k8] using ih
    | word => simpa [List.filter_cons, List.filterMap_cons, E6.is, E6.kd, gotE, k11] using ih
    | free => simpa [List.filter_cons, List.filterMap_cons, E6.is, E6.kd, gotE, k14] using ih
theorem nos_d (nm : Str) (n : Int) : ∀ es : List E6, (es.filter (E6.is "no" nm n)).map E6.d = (es.filterMap (noE nm n)).map fun h => (E6.no nm n h).d
  | [] => rfl
  | e :: es => by
    have ih := nos_d nm n es
    obtain ⟨k1, k2, k3, k4, k5, k6, k7, k8, k9, k10, k11, k12, k13, k14, k15⟩ := kd_ne
    cases e with
    | no x m h =>
      by_cases hx : x = nm ∧ m = n
      · obtain ⟨rfl, rfl⟩ := hx
        simp [List.filter_cons, List.filterMap_cons, E6.is, E6.kd, E6.nm, E6.i2, noE, ih]
      · have : E6.is "no" nm n (.no x m h) = false := by
          simp only [E6.is, E6.kd, E6.nm, E6.i2, beq_self_eq_true, Bool.true_and]
          rw [Bool.and_eq_false_iff]
          rcases Classical.em (x = nm) with e1 | e1
          · right; simpa using fun e2 => hx ⟨e1, e2⟩
          · left; simpa using e1
        rw [List.filter_cons_of_neg (by rw [this]; exact Bool.false_ne_true), List.filterMap_cons]
        simp only [noE, if_neg hx]; exact ih
    | ask => simpa [List.filter_cons, List.filterMap_cons, E6.is, E6.kd, noE, k2] using ih
    | got => simpa [List.filter_cons, List.filterMap_cons, E6.is, E6.kd, noE, k4] using ih
    | back => simpa [List.filter_cons, List.filterMap_cons, E6.is, E6.kd, noE, k9] using ih
    | word => simpa [List.filter_cons, List.filterMap_cons, E6.is, E6.kd, noE, k12] using ih
    | free => simpa [List.filter_cons, List.filterMap_cons, E6.is, E6.kd, noE, k15] using ih
theorem asks_d (nm : Str) (n : Int) : ∀ es : List E6, (es.filter (E6.is "ask" nm n)).map E6.d = (es.filterMap (askE nm n)).map fun t => (E6.ask nm n t.1 t.2).d
  | [] => rfl
  | e :: es => by
    have ih := asks_d nm n es
    obtain ⟨k1, k2, k3, k4, k5, k6, k7, k8, k9, k10, k11, k12, k13, k14, k15⟩ := kd_ne
    cases e with
    | ask x m h u =>
      by_cases hx : x = nm ∧ m = n
      · obtain ⟨rfl, rfl⟩ := hx
        simp [List.filter_cons, List.filterMap_cons, E6.is, E6.kd, E6.nm, E6.i2, askE, ih]
      · have : E6.is "ask" nm n (.ask x m h u) = false := by
          simp only [E6.is, E6.kd, E6.nm, E6.i2, beq_self_eq_true, Bool.true_and]
          rw [Bool.and_eq_false_iff]
          rcases Classical.em (x = nm) with e1 | e1
          · right; simpa using fun e2 => hx ⟨e1, e2⟩
          · left; simpa using e1
        rw [List.filter_cons_of_neg (by rw [this]; exact Bool.false_ne_true), List.filterMap_cons]
        simp only [askE, if_neg hx]; exact ih
    | got => simpa [List.filter_cons, List.filterMap_cons, E6.is, E6.kd, askE, k3] using ih
    | no => simpa [List.filter_cons, List.filterMap_cons, E6.is, E6.kd, askE, k5] using ih
    | back => simpa [List.filter_cons, List.filterMap_cons, E6.is, E6.kd, askE, k7] using ih
    | word => simpa [List.filter_cons, List.filterMap_cons, E6.is, E6.kd, askE, k10] using ih
    | free => simpa [List.filter_cons, List.filterMap_cons, E6.is, E6.kd, askE, k13] using ih
/-- words by houses: the greatest until of each -/
def putW (W : Int → Option Int) (t : Int × Int) : Int → Option Int := fun j => if j = t.1 then some (match W t.1 with | some v => if v > t.2 then v else t.2 | none => t.2) else W j
def gotW (nm : Str) (n : Int) (es : List E6) : Int → Option Int := (es.filterMap (gotE nm n)).foldl putW fun _ => none
def wordsN (nm : Str) (n : Int) (es : List E6) : List (Int × Int) := canon (gotW nm n es)
def stepU (b : List (Int × Int)) (t : Int × Int) : List (Int × Int) := putI b t.1 (if (lkI b t.1).getD t.2 > t.2 then (lkI b t.1).getD t.2 else t.2)
theorem lk_stepU (b : List (Int × Int)) (t : Int × Int) : lkI (stepU b t) = putW (lkI b) t := by
  funext j
  unfold stepU putW
  rw [lk_put]
  by_cases h : j = t.1
  · rw [if_pos h, if_pos h]
    cases lkI b t.1 with
    | none => simp
    | some v => rfl
  · rw [if_neg h, if_neg h]
theorem lk_foldU (ts : List (Int × Int)) (b : List (Int × Int)) : lkI (ts.foldl stepU b) = ts.foldl putW (lkI b) := by
  induction ts generalizing b with
  | nil => rfl
  | cons t ts ih => rw [List.foldl_cons, List.foldl_cons, ih, lk_stepU]
theorem gots_rg {m : Int} (hm : m ≤ 7) {es : List E6} (hw : Wfs m es) {nm : Str} {n : Int} : ∀ t ∈ es.filterMap (gotE nm n), (0 ≤ t.1 ∧ t.1 < 7) ∧ 1 ≤ t.2 := fun t ht => by
  obtain ⟨e, he, h⟩ := List.mem_filterMap.mp ht
  cases e with
  | got x k h u =>
    have w := hw _ he
    obtain ⟨_, _, w1, w2, w3⟩ := w
    simp only [gotE] at h
    split at h
    · cases h; exact ⟨⟨w1, by show _ < _; omega⟩, w3⟩
    · cases h
  | _ => cases h
theorem nos_rg {m : Int} (hm : m ≤ 7) {es : List E6} (hw : Wfs m es) {nm : Str} {n : Int} : ∀ t ∈ es.filterMap (noE nm n), 0 ≤ t ∧ t < 7 := fun t ht => by
  obtain ⟨e, he, h⟩ := List.mem_filterMap.mp ht
  cases e with
  | no x k h =>
    obtain ⟨_, _, w1, w2⟩ := hw _ he
    simp only [noE] at h
    split at h
    · cases h; exact ⟨w1, by omega⟩
    · cases h
  | _ => cases h
theorem ks_len {β : Type} {ps : List (Int × β)} (h : Ks ps) : ps.length ≤ 7 := by
  have h1 := (canon_perm h).length_eq
  rw [← h1]
  unfold canon
  refine Nat.le_trans (List.length_filterMap_le _ _) ?_
  simp
theorem words_for_eq {m : Int} (hm : m ≤ 7) {es : List E6} (hw : Wfs m es) (hl : es.length ≤ 50000) {nm : Str} (hn : okS nm) (n : Int) :
    M_words_for [logD es, .str nm, .int n] = some (.tuple ((wordsN nm n es).map pairD)) := by
  have he := entries_for_eq (fun e he => (hw e he).nm) hl ok_got hn n
  rw [gots_d] at he
  have hrg := gots_rg hm hw (nm := nm) (n := n)
  rw [ap_words_for]; unfold B_words_for
  walk_at "ev"
  rw [loop_go (fun t : Int × Int => (E6.got nm n t.1 t.2).d) stepU (fun b : List (Int × Int) => [.fz (logD es), .fz (.str nm), .fz (.int n), .mu (.dict (b.map (kvD PyData.int))), .un, .un, .un]) Ks (es.filterMap (gotE nm n)) [] ?hd ?h0 ks_nil ?inv ?turn]
  case hd => rfl
  case h0 => rfl
  case inv => exact fun t ht b hb => ks_put hb (hrg t ht).1 _
  case turn =>
    intro t ht b hb
    have hlt : (b.map (kvD PyData.int)).length < sizeLine := by rw [List.length_map]; exact sizeLine_lt (by have := ks_len hb; omega)
    have hg : ((getD (b.map (kvD PyData.int)) (.inl t.1)).getD (.int t.2)) = .int ((lkI b t.1).getD t.2) := by rw [getD_kv]; cases lkI b t.1 <;> rfl
    unfold E6.d
    walk_at "ev"
    rw [putD_kv]; rfl
  have hk : Ks ((es.filterMap (gotE nm n)).foldl stepU []) := fold_inv Ks _ _ ks_nil fun t ht b hb => ks_put hb (hrg t ht).1 _
  have hI : ∀ ε : En, fItemsS (fVar 3) ε = (fVar 3 ε).bind fun p => match p.1 with
    | .dict es => (intKV es).map fun ps => (.list (sortT (ps.map pairD)), p.2)
    | _ => none := fun _ => rfl
  walk_at "ev"
  rw [intKV_map]
  walk_at "ev"
  rw [sortT_canon hk, lk_foldU]; rfl
def noesN (nm : Str) (n : Int) (es : List E6) : List Nat := setN fun h => (es.filterMap (noE nm n)).contains h && (gotW nm n es h).isNone
theorem noes_for_eq {m : Int} (hm : m ≤ 7) {es : List E6} (hw : Wfs m es) (hl : es.length ≤ 50000) {nm : Str} (hn : okS nm) (n : Int) :
    M_noes_for [logD es, .str nm, .int n] = some (.tuple (intL (noesN nm n es))) := by
  have he := entries_for_eq (fun e he => (hw e he).nm) hl ok_no hn n
  rw [nos_d] at he
  have hrg := nos_rg hm hw (nm := nm) (n := n)
  have h1 := comp_map (ε := [.fz (logD es), .fz (.str nm), .fz (.int n), .un, .un, .un, .un, .un]) (bind := bTup [5, 6]) (ga := gYes) (fa := fVar 5) (vs := [5, 6]) pairD (fun _ => true) (fun t => .int t.1) (wordsN nm n es) (fun t _ => ⟨_, rfl, rfl, fun _ => rfl, rfl⟩)
  rw [List.filter_eq_self.mpr (fun _ _ => rfl), show (wordsN nm n es).map (fun t => PyData.int t.1) = ((wordsN nm n es).map (·.1)).map PyData.int by rw [List.map_map]; rfl] at h1
  have lw : (wordsN nm n es).length ≤ 7 := by
    unfold wordsN canon
    exact Nat.le_trans (List.length_filterMap_le _ _) (by simp)
  generalize hG : (wordsN nm n es).map (·.1) = gv at h1
  have h2 := comp_map (ε := [.fz (logD es), .fz (.str nm), .fz (.int n), .fz (.list (gv.map PyData.int)), .un, .un, .un, .un]) (bind := bName 7) (ga := gYes) (fa := fBin dIx (fVar 7) (fC (.int 3))) (vs := [7]) (fun h => (E6.no nm n h).d) (fun _ => true) (fun h => .int h) (es.filterMap (noE nm n)) (fun t _ => ⟨_, rfl, rfl, fun _ => rfl, rfl⟩)
  rw [List.filter_eq_self.mpr (fun _ _ => rfl)] at h2
  have lno : (es.filterMap (noE nm n)).length ≤ 50000 := Nat.le_trans (List.length_filterMap_le _ _) hl
  generalize hN : es.filterMap (noE nm n) = no at h2 he hrg lno
  have h3 := comp_map (ε := [.fz (logD es), .fz (.str nm), .fz (.int n), .fz (.list (gv.map PyData.int)), .fz (.list (no.map PyData.int)), .un, .un, .un]) (bind := bName 5) (ga := gVal (fBin dNotIn (fVar 5) (fVar 3))) (fa := fVar 5) (vs := [5]) PyData.int (fun h => !gv.contains h) PyData.int no (fun t _ => ⟨_, rfl, gVal_ok (fBin_ok rfl rfl dNotIn_ints), fun _ => rfl, rfl⟩)
  have hset : setFold [] ((no.filter fun h => !gv.contains h).map PyData.int) = some (noesN nm n es) := by
    rw [setFold_set fun k hk => hrg k (List.mem_filter.mp hk).1]
    congr 1
    unfold noesN setN
    apply List.filter_congr
    intro h hh
    rw [hN, Bool.eq_iff_iff]
    simp only [List.contains_iff_mem, List.mem_filter, Bool.and_eq_true, Bool.not_eq_true']
    have : gv.contains ((h : Nat) : Int) = (gotW nm n es h).isSome := by
      rw [← hG]
      unfold wordsN
      rw [canon_keys, Bool.eq_iff_iff, List.contains_iff_mem, List.mem_map]
      constructor
      · rintro ⟨a, ha, e⟩
        have : a = h := by omega
        subst this
        exact (mem_setN.mp ha).2
      · exact fun z => ⟨h, mem_setN.mpr ⟨List.mem_range.mp hh, z⟩, rfl⟩
    rw [this]
    cases gotW nm n es h <;> simp
  have hsc : fSorted (fSetC (fSrc (fVar 4)) (bName 5) (gVal (fBin dNotIn (fVar 5) (fVar 3))) (fVar 5) [5]) [.fz (logD es), .fz (.str nm), .fz (.int n), .fz (.list (gv.map PyData.int)), .fz (.list (no.map PyData.int)), .un, .un, .un] = some (.list (intL (noesN nm n es)), [.fz (logD es), .fz (.str nm), .fz (.int n), .fz (.list (gv.map PyData.int)), .fz (.list (no.map PyData.int)), .un, .un, .un]) := by
    unfold fSorted fSetC
    rw [show fSrc (fVar 4) [.fz (logD es), .fz (.str nm), .fz (.int n), .fz (.list (gv.map PyData.int)), .fz (.list (no.map PyData.int)), .un, .un, .un] = some (no.map PyData.int, [.fz (logD es), .fz (.str nm), .fz (.int n), .fz (.list (gv.map PyData.int)), .fz (.list (no.map PyData.int)), .un, .un, .un]) from rfl]
    simp only [Option.bind_some]
    rw [show clr [.fz (logD es), .fz (.str nm), .fz (.int n), .fz (.list (gv.map PyData.int)), .fz (.list (no.map PyData.int)), .un, .un, .un] [5] = [.fz (logD es), .fz (.str nm), .fz (.int n), .fz (.list (gv.map PyData.int)), .fz (.list (no.map PyData.int)), .un, .un, .un] from rfl, h3]
    simp only [Option.bind_some, hset, Option.map_some]
  exact runP_ok (sSeq_nx (sAsg_ok (fComp_ok (fSrc_ok (fCall_ok (fCons_ok rfl (fCons_ok rfl (fCons_ok rfl rfl))) (gd_ok rfl (words_for_eq hm hw hl hn n))) rfl) h1 (by rw [← hG, List.length_map, List.length_map]; exact sizeLine_big (by omega))))
    (sSeq_nx (sAsg_ok (fComp_ok (fSrc_ok (fCall_ok (fCons_ok rfl (fCons_ok rfl (fCons_ok rfl (fCons_ok rfl rfl)))) (gd_ok rfl he)) rfl) h2 (by rw [List.length_map]; exact sizeLine_big (by omega)))) (sRet_ok (fCall_ok (fCons_ok hsc rfl) rfl))))
def askN (nm : Str) : E6 → Option Int
  | .ask x n _ _ => if x = nm then some n else none
  | _ => none
def E6.isBack (nm : Str) (n : Int) : E6 → Bool
  | .back x m => x == nm && m == n
  | _ => false
abbrev C5 := Option (Int × Str × Int × List (Int × Int) × List Nat)
def claimD : C5 → PyData
  | none => .none
  | some (n, p, u, ws, ns) => .tuple [.int n, .str p, .int u, .tuple (ws.map pairD), .tuple (intL ns)]
def lastP (l : List (Str × Int)) : Str := (l.getLast?.map (·.1)).getD ""
def claimN (nm : Str) (es : List E6) : C5 :=
  if es.filterMap (askN nm) = [] then none else
  if es.any (E6.isBack nm (greatest (es.filterMap (askN nm)))) = true then none else
  some (greatest (es.filterMap (askN nm)), lastP (es.filterMap (askE nm (greatest (es.filterMap (askN nm))))), greatest ((es.filterMap (askE nm (greatest (es.filterMap (askN nm))))).map (·.2)),
    wordsN nm (greatest (es.filterMap (askN nm))) es, noesN nm (greatest (es.filterMap (askN nm))) es)
theorem ask_self : (("ask" : Str) == "ask") = true := by decide +kernel
theorem askN_eq (nm : Str) (e : E6) : askN nm e = if (e.kd == "ask" && e.nm == nm) = true then some e.i2 else none := by
  obtain ⟨k1, k2, k3, k4, k5, k6, k7, k8, k9, k10, k11, k12, k13, k14, k15⟩ := kd_ne
  cases e with
  | ask x n p u => simp [askN, E6.kd, E6.nm, E6.i2, ask_self]
  | _ => simp [askN, E6.kd, *]
theorem eqv_back (nm : Str) (n : Int) (e : E6) : PyData.eqv e.d (.tuple [.str "back", .str nm, .int n]) = e.isBack nm n := by
  cases e with
  | back x m => simp [E6.d, E6.isBack, PyData.eqv, PyData.eqvAll]
  | word x a b c =>
    have b : (("word" : Str) == "back") = false := by decide +kernel
    simp [E6.d, E6.isBack, PyData.eqv, PyData.eqvAll, b]
  | ask x a b c =>
    have b : (("ask" : Str) == "back") = false := by decide +kernel
    simp [E6.d, E6.isBack, PyData.eqv, PyData.eqvAll, b]
  | got x a b c =>
    have b : (("got" : Str) == "back") = false := by decide +kernel
    simp [E6.d, E6.isBack, PyData.eqv, PyData.eqvAll, b]
  | no x a b =>
    have b : (("no" : Str) == "back") = false := by decide +kernel
    simp [E6.d, E6.isBack, PyData.eqv, PyData.eqvAll, b]
  | free x a b =>
    have b : (("free" : Str) == "back") = false := by decide +kernel
    simp [E6.d, E6.isBack, PyData.eqv, PyData.eqvAll, b]
theorem sh_back {nm : Str} (hn : okS nm) (n : Int) : sh (.tuple [.str "back", .str nm, .int n]) = true := by
  have b : PyData.strOk "back" = true := ok_back.1
  unfold okS at hn
  simp [sh, SeqAt.shaped, PyData.canLay0, PyData.canLayAll0, PyData.depth, PyData.depthAll, hn, b]
theorem dIn_back {m : Int} {es : List E6} (hw : Wfs m es) {nm : Str} (hn : okS nm) (n : Int) : dIn (.tuple [.str "back", .str nm, .int n]) (logD es) = some (.bool (es.any (E6.isBack nm n))) := by
  show (if sh (.tuple [.str "back", .str nm, .int n]) = true ∧ sh (logD es) = true then some (PyData.bool ((es.map E6.d).any fun z => PyData.eqv z (.tuple [.str "back", .str nm, .int n]))) else none) = _
  rw [if_pos ⟨sh_back hn n, sh_log hw⟩, List.any_map]
  congr 2
  congr 1
  funext e
  exact eqv_back nm n e
theorem dMax_ints {ns : List Int} (h : ns ≠ []) : dMax [.list (ns.map PyData.int)] = some (.int (greatest ns)) := by
  show ((dInts (ns.map PyData.int)).bind fun ns => if ns = [] then none else some (PyData.int (greatest ns))) = _
  rw [dInts_map]; simp only [Option.bind_some]; rw [if_neg h]
theorem at_last {α : Type} (D : α → PyData) {as : List α} {a : α} (h : as.getLast? = some a) : atI (as.map D) (-1) = some (D a) := by
  have hne : as ≠ [] := fun z => by rw [z] at h; cases h
  have hl : 0 < as.length := List.length_pos_iff.mpr hne
  unfold atI ixN
  rw [if_neg (by decide), if_pos (by rw [List.length_map]; omega)]
  show (as.map D)[((-1 : Int) + ((as.map D).length : Int)).toNat]? = _
  rw [List.length_map, show ((-1 : Int) + (as.length : Int)).toNat = as.length - 1 by omega, List.getElem?_map, ← List.getLast?_eq_getElem?, h]; rfl
theorem greatest_mem {ns : List Int} (h : ns ≠ []) : greatest ns ∈ ns := by
  cases ns with
  | nil => exact absurd rfl h
  | cons n ns =>
    show ns.foldl max n ∈ _
    clear h
    induction ns generalizing n with
    | nil => exact List.mem_cons_self ..
    | cons k ns ih =>
      have h1 := ih (max n k)
      rw [List.foldl_cons]
      rcases List.mem_cons.mp h1 with h1 | h1
      · rw [h1]
        by_cases h2 : n ≤ k
        · rw [Int.max_eq_right h2]; exact List.mem_cons_of_mem _ (List.mem_cons_self ..)
        · rw [Int.max_eq_left (by omega)]; exact List.mem_cons_self ..
      · exact List.mem_cons_of_mem _ (List.mem_cons_of_mem _ h1)
theorem asks_ne {nm : Str} {es : List E6} {n : Int} (h : n ∈ es.filterMap (askN nm)) : es.filterMap (askE nm n) ≠ [] := by
  obtain ⟨e, he, h1⟩ := List.mem_filterMap.mp h
  intro z
  cases e with
  | ask x k p u =>
    simp only [askN] at h1
    split at h1
    · cases h1
      have : (p, u) ∈ es.filterMap (askE nm n) := List.mem_filterMap.mpr ⟨_, he, by simp [askE, *]⟩
      rw [z] at this; cases this
    · cases h1
  | _ => cases h1
theorem claim_in_eq {m : Int} (hm : m ≤ 7) {es : List E6} (hw : Wfs m es) (hl : es.length ≤ 50000) {nm : Str} (hn : okS nm) :
    M_claim_in [logD es, .str nm] = some (claimD (claimN nm es)) := by
  rw [ap_claim_in]; unfold B_claim_in
  have hsq : dSeq (logD es) = some (es.map E6.d) := rfl
  walk_at "ev"
  rw [comp_go E6.d (fun e => (askN nm e).map PyData.int) es ?hd ?turn]
  case hd => rfl
  case turn =>
    intro e he
    have q1 := dEq_str (kd_ok e) ok_ask
    have q2 := dEq_str (hw e he).nm hn
    have q3 := E6.ix0 e
    have q4 := E6.ix1 e
    have q5 := E6.ix2 e
    unfold compStep
    rw [askN_eq]
    walk_at "ev"
    cases (e.kd == ("ask" : Str)) <;> cases (e.nm == nm) <;> walk_at "ev"
  rw [← List.map_filterMap]
  have hq : ((es.filterMap (askN nm)).map PyData.int).length ≤ 100000 := by rw [List.length_map]; exact Nat.le_trans (List.length_filterMap_le _ _) (by omega)
  have q0 := qdLst hq
  walk_at "ev"
  unfold claimN
  by_cases h0 : es.filterMap (askN nm) = []
  · rw [if_pos h0, h0]; rfl
  rw [if_neg h0]
  have h1 : ((es.filterMap (askN nm)).map PyData.int).isEmpty = false := by
    cases hh : es.filterMap (askN nm) with
    | nil => exact absurd hh h0
    | cons a b => rfl
  have h2 := dMax_ints h0
  have h3 := asks_ne (greatest_mem h0)
  generalize greatest (es.filterMap (askN nm)) = n at *
  have h4 := dIn_back hw hn n
  walk_at "ev"
  cases hb : es.any (E6.isBack nm n) with
  | true => rfl
  | false =>
    have e1 := entries_for_eq (fun e he => (hw e he).nm) hl ok_ask hn n
    rw [asks_d] at e1
    have e2 := words_for_eq hm hw hl hn n
    have e3 := noes_for_eq hm hw hl hn n
    have hl2 : (es.filterMap (askE nm n)).length ≤ 50000 := Nat.le_trans (List.length_filterMap_le _ _) hl
    generalize es.filterMap (askE nm n) = as at *
    walk_at "ev"
    rw [comp_goM (fun t : Str × Int => (E6.ask nm n t.1 t.2).d) (fun t => .int t.2) as ?hd2 ?turn2]
    case hd2 => rfl
    case turn2 =>
      intro t ht
      unfold compStep E6.d
      walk_at "ev"
    have h5 : dMax [.list (as.map fun t => PyData.int t.2)] = some (.int (greatest (as.map (·.2)))) := by
      have := dMax_ints (ns := as.map (·.2)) (by simpa using h3)
      rw [List.map_map] at this; exact this
    have h6 : dLst (as.map fun t => PyData.int t.2) = some (.list (as.map fun t => PyData.int t.2)) := qdLst (by rw [List.length_map]; omega)
    obtain ⟨t, ht⟩ : ∃ t, as.getLast? = some t := by
      cases h : as.getLast? with
      | none => exact absurd (List.getLast?_eq_none_iff.mp h) h3
      | some t => exact ⟨t, rfl⟩
    have h7 := at_last (fun t : Str × Int => (E6.ask nm n t.1 t.2).d) ht
    have h8 : lastP as = t.1 := by unfold lastP; rw [ht]; rfl
    walk_at "ev"
    unfold E6.d
    walk_at "ev"
    rfl
abbrev W3 := Option (Int × Int × Int)
def resD : W3 → PyData
  | none => .none
  | some (h, n, u) => .tuple [.int h, .int n, .int u]
def wordF (nm : Str) (w : W3) : E6 → W3
  | .word x h n u => if (x == nm) = true then some (h, n, u) else w
  | .free x h n => if (x == nm) = true then (match w with | some (a, b, c) => if (a == h && b == n) = true then none else some (a, b, c) | none => none) else w
  | _ => w
def wordN (nm : Str) (es : List E6) : W3 := es.foldl (wordF nm) none
theorem sh_two (a b : Int) : sh (.tuple [.int a, .int b]) = true := rfl
theorem dEq_two {a b c d : Int} : dEq (.tuple [.int a, .int b]) (.tuple [.int c, .int d]) = some (.bool (a == c && b == d)) := by
  unfold dEq
  rw [if_pos ⟨rfl, rfl⟩]
  simp [PyData.eqv, PyData.eqvAll]
theorem kd_word (e : E6) (h : (e.kd == ("word" : Str)) = true) : ∃ nm k n u, e = .word nm k n u := by
  cases e with
  | word nm k n u => exact ⟨nm, k, n, u, rfl⟩
  | got nm n h u => exact absurd h (by show ¬ (("got" : Str) == "word") = true; decide +kernel)
  | no nm n h => exact absurd h (by show ¬ (("no" : Str) == "word") = true; decide +kernel)
  | back nm n => exact absurd h (by show ¬ (("back" : Str) == "word") = true; decide +kernel)
  | ask nm h n u => exact absurd h (by show ¬ (("ask" : Str) == "word") = true; decide +kernel)
  | free nm h n => exact absurd h (by show ¬ (("free" : Str) == "word") = true; decide +kernel)
theorem kd_free (e : E6) (h : (e.kd == ("free" : Str)) = true) : ∃ nm k n, e = .free nm k n := by
  cases e with
  | word nm k n u => exact absurd h (by show ¬ (("word" : Str) == "free") = true; decide +kernel)
  | got nm n h u => exact absurd h (by show ¬ (("got" : Str) == "free") = true; decide +kernel)
  | no nm n h => exact absurd h (by show ¬ (("no" : Str) == "free") = true; decide +kernel)
  | back nm n => exact absurd h (by show ¬ (("back" : Str) == "free") = true; decide +kernel)
  | ask nm h n u => exact absurd h (by show ¬ (("ask" : Str) == "free") = true; decide +kernel)
  | free nm k n => exact ⟨nm, k, n, rfl⟩
theorem wf_not : (("word" : Str) == "free") = false := by decide +kernel
theorem dEq_lit {a b : Str} (ha : okS a) (hb : okS b) (h : (a == b) = true) : dEq (.str a) (.str b) = some (.bool true) := by rw [dEq_str ha hb, h]
theorem dEq_lit' {a b : Str} (ha : okS a) (hb : okS b) (h : (a == b) = false) : dEq (.str a) (.str b) = some (.bool false) := by rw [dEq_str ha hb, h]
theorem word_in_eq {nm : Str} (hn : okS nm) {es : List E6} (h : ∀ e ∈ es, okS e.nm) : M_word_in [logD es, .str nm] = some (resD (wordN nm es)) := by
  rw [ap_word_in]; unfold B_word_in
  have hsq : dSeq (logD es) = some (es.map E6.d) := rfl
  walk_at "ev"
  rw [loop_go E6.d (wordF nm) (fun b => [.fz (logD es), .fz (.str nm), .fz (resD b), .un]) (fun _ => True) es none ?hd ?h0 trivial ?inv ?turn]
  case hd => rfl
  case h0 => rfl
  case inv => exact fun _ _ _ _ => trivial
  case turn =>
    intro e he b _
    have w := h e he
    have q0 := E6.ix0 e
    have q1 := E6.ix1 e
    have q2 := dEq_str (kd_ok e) ok_word
    have q3 := dEq_str (kd_ok e) ok_free
    have q4 := dEq_str w hn
    cases h1 : (e.kd == ("word" : Str)) with
    | true =>
      obtain ⟨x, k, n, u, rfl⟩ := kd_word e h1
      have hf : wordF nm b (.word x k n u) = if (x == nm) = true then some (k, n, u) else b := rfl
      have hne := wf_not
      simp only [E6.kd, E6.nm, E6.d] at *
      cases hx : (x == nm) with
      | true => rw [hx] at hf; walk_at "ev"; rfl
      | false => rw [hx] at hf; walk_at "ev"
    | false =>
      cases h2 : (e.kd == ("free" : Str)) with
      | false =>
        have hf : wordF nm b e = b := by
          cases e with
          | word x k n u => simp [E6.kd] at h1
          | free x k n => simp [E6.kd] at h2
          | _ => rfl
        walk_at "ev"
      | true =>
        obtain ⟨x, k, n, rfl⟩ := kd_free e h2
        have hf : wordF nm b (.free x k n) = if (x == nm) = true then (match b with | some (a, b, c) => if (a == k && b == n) = true then none else some (a, b, c) | none => none) else b := rfl
        simp only [E6.kd, E6.nm, E6.d] at *
        cases hx : (x == nm) with
        | false => rw [hx] at hf; walk_at "ev"
        | true =>
          rw [hx] at hf
          cases b with
          | none => simp only [resD] at *; walk_at "ev"
          | some t =>
            obtain ⟨a, b, c⟩ := t
            have h5 := dEq_two (a := a) (b := b) (c := k) (d := n)
            simp only [if_true] at hf
            cases h6 : (a == k && b == n) with
            | true => rw [h6] at hf h5; simp only [resD] at *; walk_at "ev"
            | false => rw [h6] at hf h5; simp only [resD] at *; walk_at "ev"
  walk_at "ev"
  rfl
theorem needed_eq (n : Int) : M_needed [.int n] = some (.int (n / 2 + 1)) := rfl
def reachN (ns : List Int) (m : Int) : Int := if (ns.length : Int) < m / 2 + 1 then 0 else (sortDown ns).getD (m / 2).toNat 0
theorem reach_of_eq {ns : List Int} {m : Int} (hl : ns.length < 64) (hm : 1 ≤ m) : M_reach_of [.list (ns.map .int), .int m] = some (.int (reachN ns m)) := by
  have hn := needed_eq m
  rw [ap_reach_of]; unfold B_reach_of
  have hsr : dSortedR [.list (ns.map .int)] [.bool true] = some (.list ((sortDown ns).map .int)) := by
    show ((dInts (ns.map .int)).bind fun ns => _) = _
    rw [dInts_map]
    show (if ns.length < 64 then _ else _) = _
    rw [if_pos hl]
  have hlen : ((ns.map PyData.int).length : Int) = ns.length := by rw [List.length_map]
  unfold reachN
  by_cases hc : (ns.length : Int) < m / 2 + 1
  · walk_at "ev"
  · have hs : (sortDown ns).length = ns.length := (sortDown_perm ns).length_eq
    have hix : atI ((sortDown ns).map PyData.int) (m / 2 + 1 - 1) = some (.int ((sortDown ns).getD (m / 2).toNat 0)) := by
      unfold atI ixN
      rw [if_pos (by omega), if_pos (by rw [List.length_map]; omega)]
      have e : (m / 2 + 1 - 1).toNat = (m / 2).toNat := by omega
      rw [e]
      have hlt : (m / 2).toNat < (sortDown ns).length := by omega
      simp [List.getD_eq_getElem?_getD, hlt]
    walk_at "ev"
inductive L5 where
  | ask (s h : Int) (nm : Str) (n : Int) (p : Str) (u : Int) | word (s h : Int) (nm : Str) (n u : Int) | no (s h : Int) (nm : Str) (n : Int) | back (s h : Int) (nm : Str) (n : Int) | told (s h : Int) (nm : Str) (n : Int) (p : Str) (r : Int)
  deriving DecidableEq
def L5.d : L5 → PyData
  | .ask s h nm n p u => .tuple [.str "ask", .int s, .int h, .str nm, .int n, .str p, .int u]
  | .word s h nm n u => .tuple [.str "word", .int s, .int h, .str nm, .int n, .int u]
  | .no s h nm n => .tuple [.str "no", .int s, .int h, .str nm, .int n]
  | .back s h nm n => .tuple [.str "back", .int s, .int h, .str nm, .int n]
  | .told s h nm n p r => .tuple [.str "told", .int s, .int h, .str nm, .int n, .str p, .int r]
abbrev N5 := Str × Int × Int × Str × Int
def n5D (t : N5) : PyData := .tuple [.str t.1, .int t.2.1, .int t.2.2.1, .str t.2.2.2.1, .int t.2.2.2.2]
def ntD : Option N5 → PyData
  | none => .none
  | some t => n5D t
abbrev Act := List E6 × List L5 × Option N5
def actD (a : Act) : PyData := .tuple [.tuple (a.1.map E6.d), .tuple (a.2.1.map L5.d), ntD a.2.2]
def othersN (m h : Int) : List Int := (List.range m.toNat).filterMap fun (k : Nat) => if ((k : Int) == h) = true then none else some (k : Int)
theorem others_of_eq {m h : Int} (h0 : 0 ≤ m) (h1 : m ≤ 7) : M_others_of [.int m, .int h] = some (.list ((othersN m h).map PyData.int)) := by
  rw [ap_others_of]; unfold B_others_of
  have hr : dR m = true := by simp only [dR, Bool.and_eq_true, decide_eq_true_eq]; omega
  walk_at "ev"
  rw [comp_go (fun k : Nat => PyData.int (0 + (k : Int))) (fun (k : Nat) => if ((k : Int) == h) = true then none else some (.int (k : Int))) (List.range m.toNat) ?hd ?turn]
  case hd => rfl
  case turn =>
    intro k _
    have hz : (0 : Int) + (k : Int) = k := by omega
    unfold compStep
    cases hk : ((k : Int) == h) <;> walk_at "ev"
  have e : (List.range m.toNat).filterMap (fun (k : Nat) => if ((k : Int) == h) = true then none else some (PyData.int (k : Int))) = (othersN m h).map PyData.int := by
    unfold othersN
    rw [List.map_filterMap]
    congr 1
    funext k
    cases ((k : Int) == h) <;> rfl
  rw [e]
  have q := qdLst (ds := (othersN m h).map PyData.int) (by rw [List.length_map]; unfold othersN; exact Nat.le_trans (List.length_filterMap_le _ _) (by rw [List.length_range]; omega))
  walk_at "ev"
theorem others_len {m h : Int} (h1 : m ≤ 7) : (othersN m h).length ≤ 7 := by unfold othersN; exact Nat.le_trans (List.length_filterMap_le _ _) (by rw [List.length_range]; omega)
def toldN (m : Int) (t : N5) : List L5 := (othersN m t.2.1).map fun o => .told t.2.1 o t.1 t.2.2.1 t.2.2.2.1 t.2.2.2.2
theorem told_letters_eq {m : Int} (h0 : 0 ≤ m) (h1 : m ≤ 7) (t : N5) : M_told_letters [.int m, n5D t] = some (.tuple ((toldN m t).map L5.d)) := by
  rw [ap_told_letters]; unfold B_told_letters n5D
  have ho := others_of_eq (h := t.2.1) h0 h1
  walk_at "ev"
  rw [comp_goM PyData.int (fun o => (L5.told t.2.1 o t.1 t.2.2.1 t.2.2.2.1 t.2.2.2.2).d) (othersN m t.2.1) ?hd ?turn]
  case hd => rfl
  case turn =>
    intro o _
    unfold compStep L5.d
    walk_at "ev"
  have e : (othersN m t.2.1).map (fun o => (L5.told t.2.1 o t.1 t.2.2.1 t.2.2.2.1 t.2.2.2.2).d) = (toldN m t).map L5.d := by unfold toldN; rw [List.map_map]; rfl
  rw [e]
  have q := qdLst (ds := (toldN m t).map L5.d) (by rw [List.length_map]; unfold toldN; rw [List.length_map]; have := others_len (h := t.2.1) h1; omega)
  walk_at "ev"
theorem words_len (nm : Str) (n : Int) (es : List E6) : (wordsN nm n es).length ≤ 7 := by
  unfold wordsN canon; exact Nat.le_trans (List.length_filterMap_le _ _) (by simp)
theorem reach_words_eq {m : Int} (h0 : 1 ≤ m) {ws : List (Int × Int)} (hl : ws.length ≤ 7) : M_reach_of_words [.tuple (ws.map pairD), .int m] = some (.int (reachN (ws.map (·.2)) m)) := by
  rw [ap_reach_of_words]; unfold B_reach_of_words
  have hr := reach_of_eq (ns := ws.map (·.2)) (by rw [List.length_map]; omega) h0
  walk_at "ev"
  rw [comp_goM pairD (fun t => PyData.int t.2) ws ?hd ?turn]
  case hd => rfl
  case turn =>
    intro t _
    unfold compStep pairD
    walk_at "ev"
  have e : ws.map (fun t => PyData.int t.2) = (ws.map (·.2)).map PyData.int := by rw [List.map_map]; rfl
  rw [e]
  have q := qdLst (ds := (ws.map (·.2)).map PyData.int) (by rw [List.length_map, List.length_map]; omega)
  walk_at "ev"
def reachW (m : Int) (nm : Str) (n : Int) (es : List E6) : Int := reachN ((wordsN nm n es).map (·.2)) m
def newsN (m : Int) (es es' : List E6) (t : N5) : List L5 × Option N5 :=
  if reachW m t.1 t.2.2.1 (es ++ es') ≤ reachW m t.1 t.2.2.1 es ∨ reachW m t.1 t.2.2.1 (es ++ es') ≤ t.2.2.2.2 then ([], none) else (toldN m t, some t)
theorem wfs_app {m : Int} {es es' : List E6} (h : Wfs m es) (h' : Wfs m es') : Wfs m (es ++ es') := fun e he => (List.mem_append.mp he).elim (h e) (h' e)
theorem news_of_eq {m : Int} (h0 : 1 ≤ m) (h1 : m ≤ 7) {es es' : List E6} (hw : Wfs m es) (hw' : Wfs m es') (hl : es.length + es'.length ≤ 50000) (t : N5) (ht : okS t.1) :
    M_news_of [.int m, logD es, logD es', n5D t] = some (.tuple [.tuple ((newsN m es es' t).1.map L5.d), ntD (newsN m es es' t).2]) := by
  rw [ap_news_of]; unfold B_news_of
  have e1 := words_for_eq h1 hw (by omega) ht t.2.2.1
  have e2 := words_for_eq h1 (wfs_app hw hw') (by rw [List.length_append]; omega) ht t.2.2.1
  have e3 := reach_words_eq h0 (words_len t.1 t.2.2.1 es)
  have e4 := reach_words_eq h0 (words_len t.1 t.2.2.1 (es ++ es'))
  have e5 : dAdd (logD es) (logD es') = some (logD (es ++ es')) := by
    unfold logD; rw [List.map_append]
    exact qAddT (by rw [List.length_map, List.length_map]; omega)
  have e6 := told_letters_eq (by omega : 0 ≤ m) h1 t
  unfold newsN reachW
  have e7 : n5D t = .tuple [.str t.1, .int t.2.1, .int t.2.2.1, .str t.2.2.2.1, .int t.2.2.2.2] := rfl
  rw [e7] at e6 ⊢
  generalize reachN ((wordsN t.1 t.2.2.1 es).map (·.2)) m = a at *
  generalize reachN ((wordsN t.1 t.2.2.1 (es ++ es')).map (·.2)) m = b at *
  by_cases c1 : b ≤ a
  · rw [if_pos (.inl c1)]
    clear e7
    walk_at "ev"
    rfl
  · by_cases c2 : b ≤ t.2.2.2.2
    · rw [if_pos (.inr c2)]
      clear e7
      walk_at "ev"
      rfl
    · rw [if_neg (fun z => z.elim c1 c2)]
      clear e7
      walk_at "ev"
      rfl
def takeAsk (h : Int) (es : List E6) (s : Int) (nm : Str) (n u now : Int) : Act :=
  if u ≤ now then ([], [], none) else match wordN nm es with
  | none => ([.word nm s n u], [.word h s nm n u], none)
  | some (a, b, c) => if c ≤ now then ([.word nm s n u], [.word h s nm n u], none) else
    if (a == s && b == n) = true then (if c < u then ([.word nm s n u], [.word h s nm n u], none) else ([], [.word h s nm n c], none)) else ([], [.no h s nm n], none)
theorem take_ask_eq {h s t n u now : Int} {nm p : Str} (hn : okS nm) {es : List E6} (he : ∀ e ∈ es, okS e.nm) : M_take_ask [.int h, logD es, (L5.ask s t nm n p u).d, .int now] = some (actD (takeAsk h es s nm n u now)) := by
  have hw := word_in_eq hn he
  rw [ap_take_ask]; unfold B_take_ask takeAsk L5.d
  by_cases hu : u ≤ now
  · rw [if_pos hu]; walk_at "ev"; rfl
  rw [if_neg hu]
  cases hwd : wordN nm es with
  | none => rw [hwd] at hw; simp only [resD] at hw; walk_at "ev"; rfl
  | some w =>
    obtain ⟨a, b, c⟩ := w
    rw [hwd] at hw; simp only [resD] at hw
    have h2 := dEq_two (a := a) (b := b) (c := s) (d := n)
    by_cases hc : c ≤ now
    · simp only [if_pos hc]; clear hwd; walk_at "ev"; rfl
    · simp only [if_neg hc]
      clear hwd
      cases hab : (a == s && b == n) with
      | false => rw [hab] at h2; walk_at "ev"; rfl
      | true =>
        rw [hab] at h2
        by_cases hcu : c < u
        · simp only [if_pos hcu]; walk_at "ev"; rfl
        · simp only [if_neg hcu]; walk_at "ev"; rfl
def takeWord (m h : Int) (es : List E6) (s : Int) (nm : Str) (n u now : Int) : Act := match claimN nm es with
  | none => ([], [.back h s nm n], none)
  | some (k, p, _, ws, _) => if k = n then (if (ws.any fun t => t.1 == s && decide (u ≤ t.2)) = true then ([], [], none) else ([.got nm n s u], newsN m es [.got nm n s u] (nm, h, n, p, now))) else ([], [.back h s nm n], none)
theorem dAny_bools (bs : List Bool) : dAny [.list (bs.map PyData.bool)] = some (.bool (bs.any id)) := by
  show (dBools (bs.map PyData.bool)).map _ = _
  have : dBools (bs.map PyData.bool) = some bs := by
    induction bs with
    | nil => rfl
    | cons b bs ih => show (dBools (bs.map PyData.bool)).map (b :: ·) = _; rw [ih]; rfl
  rw [this]; rfl
theorem claim_lens {nm : Str} {es : List E6} {k : Int} {p : Str} {v : Int} {ws : List (Int × Int)} {no : List Nat} (h : claimN nm es = some (k, p, v, ws, no)) : ws = wordsN nm k es ∧ no = noesN nm k es := by
  unfold claimN at h
  split at h
  · cases h
  split at h
  · cases h
  · cases h; exact ⟨rfl, rfl⟩
theorem take_word_eq {m h s t n u now : Int} (h0 : 1 ≤ m) (h1 : m ≤ 7) (hs : 0 ≤ s ∧ s < m) (hn1 : 1 ≤ n) (hu1 : 1 ≤ u) {nm : Str} (hn : okS nm) {es : List E6} (hw : Wfs m es) (hl : es.length ≤ 40000) : M_take_word [.int m, .int h, logD es, (L5.word s t nm n u).d, .int now] = some (actD (takeWord m h es s nm n u now)) := by
  have hc := claim_in_eq h1 hw (by omega) hn
  rw [ap_take_word]; unfold B_take_word takeWord L5.d
  cases hcl : claimN nm es with
  | none => rw [hcl] at hc; simp only [claimD] at hc; clear hcl; walk_at "ev"; rfl
  | some c =>
    obtain ⟨k, p, v, ws, no⟩ := c
    have ew := (claim_lens hcl).1
    have hwl : ws.length ≤ 7 := by rw [ew]; exact words_len ..
    clear ew
    rw [hcl] at hc; simp only [claimD] at hc; clear hcl
    by_cases hk : k = n
    · subst hk
      have hk2 : (k == k) = true := beq_self_eq_true k
      simp only [if_true]
      walk_at "ev"
      rw [comp_goM pairD (fun t => PyData.bool (t.1 == s && decide (u ≤ t.2))) ws ?hd ?turn]
      case hd => rfl
      case turn =>
        intro t _
        unfold compStep pairD
        cases h5 : (t.1 == s) <;> walk_at "ev"
      have e : ws.map (fun t => PyData.bool (t.1 == s && decide (u ≤ t.2))) = (ws.map fun t => (t.1 == s && decide (u ≤ t.2))).map PyData.bool := by rw [List.map_map]; rfl
      rw [e]
      have q := qdLst (ds := (ws.map fun t => (t.1 == s && decide (u ≤ t.2))).map PyData.bool) (by rw [List.length_map, List.length_map]; omega)
      have q2 := dAny_bools (ws.map fun t => (t.1 == s && decide (u ≤ t.2)))
      rw [List.any_map] at q2
      have e2 : (id ∘ fun t : Int × Int => (t.1 == s && decide (u ≤ t.2))) = fun t => (t.1 == s && decide (u ≤ t.2)) := rfl
      rw [e2] at q2
      cases ha : ws.any (fun t => (t.1 == s && decide (u ≤ t.2))) with
      | true => rw [ha] at q2; walk_at "ev"; rfl
      | false =>
        rw [ha] at q2
        have hn5 := news_of_eq h0 h1 hw (es' := [.got nm k s u]) (fun e he => by rw [List.mem_singleton.mp he]; exact ⟨hn, hn1, hs.1, hs.2, hu1⟩) (by simp; omega) (nm, h, k, p, now) hn
        simp only [logD, List.map_cons, List.map_nil, E6.d, n5D] at hn5
        simp only [logD] at *
        walk_at "ev"
        rfl
    · have hk2 : (k == n) = false := by simpa using hk
      simp only [if_neg hk]
      walk_at "ev"; rfl
def takeNo (es : List E6) (s : Int) (nm : Str) (n : Int) : Act := match claimN nm es with
  | none => ([], [], none)
  | some (k, _, _, ws, no) => if k = n then (if (ws.any fun t => t.1 == s) = true ∨ (no.any fun j => ((j : Int) == s)) = true then ([], [], none) else ([.no nm n s], [], none)) else ([], [], none)
theorem dIn_tup {h : Int} {ns : List Int} : dIn (.int h) (.tuple (ns.map PyData.int)) = some (.bool (ns.contains h)) := by
  have hsh : sh (.tuple (ns.map PyData.int)) = true := by simp [sh, SeqAt.shaped, PyData.canLay0, PyData.depth, canLay_ints, depth_ints]
  show (if sh (.int h) = true ∧ sh (.tuple (ns.map PyData.int)) = true then some (PyData.bool ((ns.map PyData.int).any fun z => PyData.eqv z (.int h))) else none) = _
  rw [if_pos ⟨rfl, hsh⟩]
  congr 2
  induction ns with
  | nil => rfl
  | cons n ns ih =>
    rw [List.map_cons, List.any_cons, ih, eqv_int]
    · rw [List.contains_cons, BEq.comm]
    · simp [sh, SeqAt.shaped, PyData.canLay0, PyData.depth, canLay_ints, depth_ints]
theorem contains_any (ns : List Int) (s : Int) : ns.contains s = ns.any fun t => t == s := by
  induction ns with
  | nil => rfl
  | cons n ns ih => rw [List.contains_cons, List.any_cons, ih, BEq.comm]
theorem take_no_eq {m s t n : Int} (h1 : m ≤ 7) {nm : Str} (hn : okS nm) {es : List E6} (hw : Wfs m es) (hl : es.length ≤ 40000) : M_take_no [logD es, (L5.no s t nm n).d] = some (actD (takeNo es s nm n)) := by
  have hc := claim_in_eq h1 hw (by omega) hn
  rw [ap_take_no]; unfold B_take_no takeNo L5.d
  cases hcl : claimN nm es with
  | none => rw [hcl] at hc; simp only [claimD] at hc; clear hcl; walk_at "ev"; rfl
  | some c =>
    obtain ⟨k, p, v, ws, no⟩ := c
    have ew := (claim_lens hcl).1
    have hwl : ws.length ≤ 7 := by rw [ew]; exact words_len ..
    clear ew
    rw [hcl] at hc; simp only [claimD] at hc; clear hcl
    by_cases hk : k = n
    · subst hk
      have hk2 : (k == k) = true := beq_self_eq_true k
      simp only [if_true]
      walk_at "ev"
      rw [comp_goM pairD (fun t => PyData.int t.1) ws ?hd ?turn]
      case hd => rfl
      case turn =>
        intro t _
        unfold compStep pairD
        walk_at "ev"
      have e : ws.map (fun t => PyData.int t.1) = (ws.map (·.1)).map PyData.int := by rw [List.map_map]; rfl
      rw [e]
      have q := qdLst (ds := (ws.map (·.1)).map PyData.int) (by rw [List.length_map, List.length_map]; omega)
      have q2 := dIn_ints (h := s) (ns := ws.map (·.1))
      have q3 := dIn_tup (h := s) (ns := no.map fun (j : Nat) => (j : Int))
      rw [contains_any, List.any_map] at q2 q3
      have e2 : intL no = (no.map fun (j : Nat) => (j : Int)).map PyData.int := by unfold intL; rw [List.map_map]; rfl
      have e3 : ((fun t : Int => t == s) ∘ fun t : Int × Int => t.1) = fun t => t.1 == s := rfl
      have e4 : ((fun t : Int => t == s) ∘ fun (j : Nat) => (j : Int)) = fun (j : Nat) => (((j : Nat) : Int) == s) := rfl
      rw [e3] at q2
      rw [e4] at q3
      rw [e2]
      clear e2 e3 e4 e hc
      cases ha : ws.any (fun t => t.1 == s) with
      | true => rw [ha] at q2; rw [if_pos (.inl rfl)]; walk_at "ev"; rfl
      | false =>
        rw [ha] at q2
        cases hb : no.any (fun (j : Nat) => (((j : Nat) : Int) == s)) with
        | true => rw [hb] at q3; rw [if_pos (.inr rfl)]; walk_at "ev"; rfl
        | false => rw [hb] at q3; rw [if_neg (by simp)]; walk_at "ev"; rfl
    · have hk2 : (k == n) = false := by simpa using hk
      simp only [if_neg hk]
      walk_at "ev"; rfl
def takeBack (es : List E6) (s : Int) (nm : Str) (n : Int) : Act := match wordN nm es with
  | none => ([], [], none)
  | some (a, b, _) => if (a == s && b == n) = true then ([.free nm s n], [], none) else ([], [], none)
theorem dNe_two {a b c d : Int} : dNe (.tuple [.int a, .int b]) (.tuple [.int c, .int d]) = some (.bool (!(a == c && b == d))) := by
  unfold dNe
  rw [if_pos ⟨sh_two a b, sh_two c d⟩]; simp [PyData.eqv, PyData.eqvAll]
theorem take_back_eq {s t n : Int} {nm : Str} (hn : okS nm) {es : List E6} (he : ∀ e ∈ es, okS e.nm) : M_take_back [logD es, (L5.back s t nm n).d] = some (actD (takeBack es s nm n)) := by
  have hw := word_in_eq hn he
  rw [ap_take_back]; unfold B_take_back takeBack L5.d
  cases hwd : wordN nm es with
  | none => rw [hwd] at hw; simp only [resD] at hw; clear hwd; walk_at "ev"; rfl
  | some w =>
    obtain ⟨a, b, c⟩ := w
    rw [hwd] at hw; simp only [resD] at hw; clear hwd
    have h2 := dNe_two (a := a) (b := b) (c := s) (d := n)
    cases hab : (a == s && b == n) with
    | false => rw [hab] at h2; walk_at "ev"; rfl
    | true => rw [hab] at h2; walk_at "ev"; rfl
theorem take_told_eq {s t n r : Int} {nm p : Str} : M_take_told [(L5.told s t nm n p r).d] = some (actD ([], [], some (nm, s, n, p, r))) := by
  rw [ap_take_told]; unfold B_take_told L5.d; walk_at "ev"; rfl
def takenN (m h : Int) (es : List E6) (now : Int) : L5 → Act
  | .ask s _ nm n _ u => takeAsk h es s nm n u now
  | .word s _ nm n u => takeWord m h es s nm n u now
  | .no s _ nm n => takeNo es s nm n
  | .back s _ nm n => takeBack es s nm n
  | .told s _ nm n p r => ([], [], some (nm, s, n, p, r))
def L5.Wf (m h : Int) : L5 → Prop
  | .ask s t nm n p u => okS nm ∧ okS p ∧ 0 ≤ s ∧ s < m ∧ s ≠ h ∧ t = h ∧ 1 ≤ n ∧ 1 ≤ u
  | .word s t nm n u => okS nm ∧ 0 ≤ s ∧ s < m ∧ s ≠ h ∧ t = h ∧ 1 ≤ n ∧ 1 ≤ u
  | .no s t nm n => okS nm ∧ 0 ≤ s ∧ s < m ∧ s ≠ h ∧ t = h ∧ 1 ≤ n
  | .back s t nm n => okS nm ∧ 0 ≤ s ∧ s < m ∧ s ≠ h ∧ t = h ∧ 1 ≤ n
  | .told s t nm n p r => okS nm ∧ okS p ∧ 0 ≤ s ∧ s < m ∧ s ≠ h ∧ t = h ∧ 1 ≤ n ∧ 0 ≤ r
def L5.kd : L5 → Str
  | .ask .. => "ask" | .word .. => "word" | .no .. => "no" | .back .. => "back" | .told .. => "told"
theorem ok_told : okS "told" := by unfold okS; decide +kernel
theorem taken_eq {m h now : Int} (h0 : 1 ≤ m) (h1 : m ≤ 7) {es : List E6} (hw : Wfs m es) (hl : es.length ≤ 40000) {l : L5} (hL : l.Wf m h) : M_taken [.int m, .int h, logD es, l.d, .int now] = some (actD (takenN m h es now l)) := by
  have he : ∀ e ∈ es, okS e.nm := fun e he => (hw e he).nm
  rw [ap_taken]; unfold B_taken
  cases l with
  | ask s t nm n p u =>
    have e := take_ask_eq (h := h) (s := s) (t := t) (n := n) (u := u) (now := now) (p := p) hL.1 he
    have k1 := dEq_str ok_ask ok_ask
    have k2 := ask_self
    unfold L5.d at *; walk_at "ev"; rfl
  | word s t nm n u =>
    have e := take_word_eq (h := h) (t := t) (now := now) h0 h1 ⟨hL.2.1, hL.2.2.1⟩ hL.2.2.2.2.2.1 hL.2.2.2.2.2.2 hL.1 hw hl
    have k1 := dEq_lit' ok_word ok_ask (by decide +kernel)
    have k2 := dEq_lit ok_word ok_word (by decide +kernel)
    unfold L5.d at *; walk_at "ev"; rfl
  | no s t nm n =>
    have e := take_no_eq (s := s) (t := t) (n := n) h1 hL.1 hw hl
    have k1 := dEq_lit' ok_no ok_ask (by decide +kernel)
    have k2 := dEq_lit' ok_no ok_word (by decide +kernel)
    have k3 := dEq_lit ok_no ok_no (by decide +kernel)
    unfold L5.d at *; walk_at "ev"; rfl
  | back s t nm n =>
    have e := take_back_eq (s := s) (t := t) (n := n) hL.1 he
    have k1 := dEq_lit' ok_back ok_ask (by decide +kernel)
    have k2 := dEq_lit' ok_back ok_word (by decide +kernel)
    have k3 := dEq_lit' ok_back ok_no (by decide +kernel)
    have k4 := dEq_lit ok_back ok_back (by decide +kernel)
    unfold L5.d at *; walk_at "ev"; rfl
  | told s t nm n p r =>
    have e := take_told_eq (s := s) (t := t) (n := n) (r := r) (nm := nm) (p := p)
    have k1 := dEq_lit' ok_told ok_ask (by decide +kernel)
    have k2 := dEq_lit' ok_told ok_word (by decide +kernel)
    have k3 := dEq_lit' ok_told ok_no (by decide +kernel)
    have k4 := dEq_lit' ok_told ok_back (by decide +kernel)
    unfold L5.d at *; walk_at "ev"; rfl
theorem reach_perm {ns ms : List Int} (h : ms.Perm ns) (m : Int) : reachN ms m = reachN ns m := by
  unfold reachN
  rw [h.length_eq, sortDown_one ((sortDown_perm ms).trans h) (sortDown_down ms)]
theorem seq_stepR {a b : Sf} {ε ε1 : En} {o : Option (PyData × PyData)} (h : a ε = some (.nx ε1)) (h2 : outR (b ε1) = o) : outR (sSeq a b ε) = o := by
  subst h2
  unfold sSeq
  rw [h]
  rfl
theorem asg14_ok {i : Nat} {f : Ef} {d : PyData} {ε ε1 ε2 : En} (h : f ε = some (d, ε1)) (he : ε1.set i (.fz d) = ε2) : sAsg i f ε = some (.nx ε2) := by subst he; exact sAsg_ok h
theorem others_filt (h : Int) (ks : List Nat) : (ks.filter fun (k : Nat) => !((0 + (k : Int)) == h)).map (fun k : Nat => PyData.int (0 + (k : Int))) = (ks.filterMap fun (k : Nat) => if ((k : Int) == h) = true then none else some (k : Int)).map PyData.int := by
  induction ks with
  | nil => rfl
  | cons k ks ih =>
    have hz : (0 : Int) + (k : Int) = k := by omega
    rw [List.filter_cons, List.filterMap_cons, hz]
    cases hk : ((k : Int) == h) with
    | true => exact ih
    | false => simp only [Bool.not_false, if_true, Bool.false_eq_true, if_false, List.map_cons, ih, hz]
/-- the others of a house, as a comprehension finds them -/
theorem others_comp {ε : En} {m h : Int} {ga : Tf} {fa : Ef} (i : Nat) (hc : clr ε [i] = ε) (hga : ∀ k : Int, ga (ε.set i (.fz (.int k))) = some (!(k == h), ε.set i (.fz (.int k)))) (hfa : ∀ k : Int, fa (ε.set i (.fz (.int k))) = some (.int k, ε.set i (.fz (.int k)))) (hcl : ∀ k : Int, clr (ε.set i (.fz (.int k))) [i] = ε) (hb : ∀ d, bName i d ε = some (ε.set i (.fz d)))  :
    compF (bName i) ga fa [i] (rangeD 0 m.toNat) ε = some ((othersN m h).map PyData.int, ε) := by
  have e := comp_map (ε := ε) (bind := bName i) (ga := ga) (fa := fa) (vs := [i]) (fun k : Nat => PyData.int (0 + (k : Int))) (fun (k : Nat) => !((0 + (k : Int)) == h)) (fun (k : Nat) => PyData.int (0 + (k : Int))) (List.range m.toNat) (fun k _ => ⟨_, hb _, hga _, fun _ => hfa _, hcl _⟩)
  rw [others_filt] at e
  exact e
theorem fRepF_ok {fa fb : Ef} {ε ε1 ε2 : En} {x : PyData} {k : Int} (h1 : fa ε = some (.list [x], ε1)) (h2 : fb ε1 = some (.int k, ε2)) (hk : 0 ≤ k ∧ k ≤ 1000) : fRepF fa fb ε = some (.list (List.replicate k.toNat x), ε2) := by
  have hz : [x].length * k.toNat ≤ sizeLine := by rw [List.length_singleton, Nat.one_mul]; exact sizeLine_big (by omega)
  have h3 : -(2 ^ 63) ≤ k ∧ k < 2 ^ 63 ∧ [x].length * k.toNat ≤ sizeLine := ⟨by omega, by omega, hz⟩
  have e : ∀ n : Nat, (List.replicate n [x]).flatten = List.replicate n x := fun n => by
    induction n with
    | zero => rfl
    | succ n ih => rw [List.replicate_succ, List.flatten_cons, ih]; rfl
  unfold fRepF
  rw [h1, Option.bind_some]
  simp only []
  rw [h2, Option.bind_some]
  simp only []
  rw [if_pos h3, e]
theorem sExtM_ok {i : Nat} {fa : Ef} {ε ε1 : En} {ds0 ds zs : List PyData} (h0 : asList ε i = some ds0) (h1 : fa ε = some (.list zs, ε1)) (h2 : asList ε1 i = some ds) (hl : ds.length + zs.length ≤ 100000) : sExtM i fa ε = some (.nx (ε1.set i (.mu (.list (ds ++ zs))))) := by
  rw [qExtM, h0, Option.bind_some, h1, Option.bind_some]
  simp only []
  rw [h2, Option.bind_some, if_pos (sizeLine_big hl)]
def GL (m h : Int) (l : L5) : Prop := ∃ s n u, l = .word s h "ab" n u ∧ 0 ≤ s ∧ s < m ∧ s ≠ h ∧ (n = 3 ∨ n = 4) ∧ 1 ≤ u
def BW14 : Sf := (sSeq (sAsg 6 (fPopM 4 (fRow 0 2 M_law_take (fCons (fLenM 4) fNil))))
  (sSeq (sAsg 7 (fBin dAdd (fVar 3) (fBin dIx (fCall dLst (fCons (fUn dNeg (fC (.int 1))) (fCons (fC (.int 0)) (fCons (fC (.int 1)) (fCons (fC (.int 2)) (fCons (fC (.int 3)) (fCons (fC (.int 5)) fNil))))))) (fRow 0 2 M_law_take (fCons (fC (.int 6)) fNil)))))
  (sSeq (sAsg 8 (fBin dIx (fCall dLst (fCons (fC (.int 4)) (fCons (fC (.int 4)) (fCons (fC (.int 4)) (fCons (fC (.int 3)) fNil))))) (fRow 0 2 M_law_take (fCons (fC (.int 4)) fNil))))
  (sSeq (sAsg 9 (fCall dTup (fCons (fC (.str "word")) (fCons (fVar 6) (fCons (fVar 2) (fCons (fC (.str "ab")) (fCons (fVar 8) (fCons (fCall dMax (fCons (fC (.int 1)) (fCons (fVar 7) fNil))) fNil))))))))
  (sSeq (sExtM 5 (fRepF (fCall dLst (fCons (fVar 9) fNil)) (fBin dIx (fCall dLst (fCons (fC (.int 1)) (fCons (fC (.int 1)) (fCons (fC (.int 2)) fNil)))) (fRow 0 2 M_law_take (fCons (fC (.int 3)) fNil)))))
  (sIf (gVal (fBin dEq (fRow 0 2 M_law_take (fCons (fC (.int 3)) fNil)) (fC (.int 0)))) (sAppM 5 (fCall dTup (fCons (fC (.str "word")) (fCons (fVar 6) (fCons (fVar 2) (fCons (fC (.str "ab")) (fCons (fC (.int 4)) (fCons (fBin dAdd (fBin dAdd (fVar 3) (fC (.int 1))) (fRow 0 2 M_law_take (fCons (fC (.int 9)) fNil))) fNil)))))))) sPass))))))
def EW14 (r : PyData) (m h now : Int) (left : List Int) (found : List L5) (x6 x7 x8 x9 : Sl) : En := [.mu r, .fz (.int m), .fz (.int h), .fz (.int now), .mu (.list (left.map PyData.int)), .mu (.list (found.map L5.d)), x6, x7, x8, x9, .un]
theorem mapErase (ls : List Int) (k : Nat) : (ls.map PyData.int).eraseIdx k = (ls.eraseIdx k).map PyData.int := by
  induction ls generalizing k with
  | nil => rfl
  | cons a ls ih => cases k with
    | zero => rfl
    | succ k => rw [List.map_cons, List.eraseIdx_cons_succ, ih, List.eraseIdx_cons_succ, List.map_cons]
theorem turn14 {r : PyData} (hr : RowOk r) {m h now : Int} (n0 : 0 ≤ now) {left : List Int} (hl : left ≠ []) (hl2 : left.length ≤ 7) (hs : ∀ s ∈ left, 0 ≤ s ∧ s < m ∧ s ≠ h) {found : List L5} (hf : ∀ l ∈ found, GL m h l) (hf2 : found.length ≤ 100) (x6 x7 x8 x9 : Sl) :
    ∃ r' left' found' y6 y7 y8 y9, BW14 (EW14 r m h now left found x6 x7 x8 x9) = some (.nx (EW14 r' m h now left' found' y6 y7 y8 y9)) ∧ RowOk r' ∧ left'.length + 1 = left.length ∧ (∀ s ∈ left', s ∈ left) ∧ (∀ l ∈ found', GL m h l) ∧ found'.length ≤ found.length + 3 := by
  have hlen : 0 < left.length := List.length_pos_iff.mpr hl
  obtain ⟨v, r1, e1, v0, v1, hr1⟩ := draw (ε := EW14 r m h now left found x6 x7 x8 x9) 0 rfl hr (m := left.length) (by omega) (by omega) (fm := fLenM 4) (by
    show some (PyData.int (left.map PyData.int).length, _) = _
    rw [List.length_map])
  have hv : v.toNat < left.length := by omega
  have hg : (left.map PyData.int)[v.toNat]? = some (.int left[v.toNat]) := by rw [List.getElem?_map, List.getElem?_eq_getElem hv]; rfl
  have hsm : left[v.toNat] ∈ left := List.getElem_mem hv
  have e2 := fPopM_ok (ε := EW14 r m h now left found x6 x7 x8 x9) (i := 4) (ds := left.map PyData.int) (es := left.map PyData.int) rfl e1 rfl (by omega) hg
  rw [mapErase] at e2
  have hle : (left.eraseIdx v.toNat).length + 1 = left.length := by rw [List.length_eraseIdx, if_pos hv]; omega
  have hsub : ∀ s ∈ left.eraseIdx v.toNat, s ∈ left := fun s h => (List.eraseIdx_sublist left v.toNat).subset h
  generalize left[v.toNat] = s at e2 hsm
  generalize left.eraseIdx v.toNat = left' at e2 hle hsub
  obtain ⟨s0, s1, s2⟩ := hs s hsm
  have st1 : sAsg 6 (fPopM 4 (fRow 0 2 M_law_take (fCons (fLenM 4) fNil))) (EW14 r m h now left found x6 x7 x8 x9) = some (.nx (EW14 r1 m h now left' found (.fz (.int s)) x7 x8 x9)) := asg14_ok e2 rfl
  obtain ⟨a, r2, e3, a0, a1, hr2⟩ := draw (ε := EW14 r1 m h now left' found (.fz (.int s)) x7 x8 x9) 0 rfl hr1 (m := 6) (by decide) (by decide) (fm := fC (.int 6)) rfl
  obtain ⟨y, hy, hy0⟩ : ∃ y : Int, dIx (.list [.int (-1), .int 0, .int 1, .int 2, .int 3, .int 5]) (.int a) = some (.int y) ∧ -1 ≤ y := by
    have : a = 0 ∨ a = 1 ∨ a = 2 ∨ a = 3 ∨ a = 4 ∨ a = 5 := by omega
    rcases this with rfl | rfl | rfl | rfl | rfl | rfl
    · exact ⟨-1, rfl, by decide⟩
    · exact ⟨0, rfl, by decide⟩
    · exact ⟨1, rfl, by decide⟩
    · exact ⟨2, rfl, by decide⟩
    · exact ⟨3, rfl, by decide⟩
    · exact ⟨5, rfl, by decide⟩
  have st2 : sAsg 7 (fBin dAdd (fVar 3) (fBin dIx (fCall dLst (fCons (fUn dNeg (fC (.int 1))) (fCons (fC (.int 0)) (fCons (fC (.int 1)) (fCons (fC (.int 2)) (fCons (fC (.int 3)) (fCons (fC (.int 5)) fNil))))))) (fRow 0 2 M_law_take (fCons (fC (.int 6)) fNil)))) (EW14 r1 m h now left' found (.fz (.int s)) x7 x8 x9) = some (.nx (EW14 r2 m h now left' found (.fz (.int s)) (.fz (.int (now + y))) x8 x9)) :=
    asg14_ok (fBin_ok rfl (fBin_ok (fCall_ok rfl (qdLst (by simp))) e3 hy) rfl) rfl
  obtain ⟨b, r3, e4, b0, b1, hr3⟩ := draw (ε := EW14 r2 m h now left' found (.fz (.int s)) (.fz (.int (now + y))) x8 x9) 0 rfl hr2 (m := 4) (by decide) (by decide) (fm := fC (.int 4)) rfl
  obtain ⟨n, hn, hn0⟩ : ∃ n : Int, dIx (.list [.int 4, .int 4, .int 4, .int 3]) (.int b) = some (.int n) ∧ (n = 3 ∨ n = 4) := by
    have : b = 0 ∨ b = 1 ∨ b = 2 ∨ b = 3 := by omega
    rcases this with rfl | rfl | rfl | rfl
    · exact ⟨4, rfl, .inr rfl⟩
    · exact ⟨4, rfl, .inr rfl⟩
    · exact ⟨4, rfl, .inr rfl⟩
    · exact ⟨3, rfl, .inl rfl⟩
  have st3 : sAsg 8 (fBin dIx (fCall dLst (fCons (fC (.int 4)) (fCons (fC (.int 4)) (fCons (fC (.int 4)) (fCons (fC (.int 3)) fNil))))) (fRow 0 2 M_law_take (fCons (fC (.int 4)) fNil))) (EW14 r2 m h now left' found (.fz (.int s)) (.fz (.int (now + y))) x8 x9) = some (.nx (EW14 r3 m h now left' found (.fz (.int s)) (.fz (.int (now + y))) (.fz (.int n)) x9)) :=
    asg14_ok (fBin_ok (fCall_ok rfl (qdLst (by simp))) e4 hn) rfl
  obtain ⟨u, hu, hu1⟩ : ∃ u : Int, dMax [.int 1, .int (now + y)] = some (.int u) ∧ 1 ≤ u := ⟨_, rfl, by split <;> omega⟩
  have st4 : sAsg 9 (fCall dTup (fCons (fC (.str "word")) (fCons (fVar 6) (fCons (fVar 2) (fCons (fC (.str "ab")) (fCons (fVar 8) (fCons (fCall dMax (fCons (fC (.int 1)) (fCons (fVar 7) fNil))) fNil))))))) (EW14 r3 m h now left' found (.fz (.int s)) (.fz (.int (now + y))) (.fz (.int n)) x9) = some (.nx (EW14 r3 m h now left' found (.fz (.int s)) (.fz (.int (now + y))) (.fz (.int n)) (.fz (L5.word s h "ab" n u).d))) :=
    asg14_ok (fCall_ok (fCons_ok rfl (fCons_ok rfl (fCons_ok rfl (fCons_ok rfl (fCons_ok rfl (fCons_ok (fCall_ok (fCons_ok rfl (fCons_ok rfl rfl)) hu) rfl)))))) rfl) rfl
  have gl : GL m h (.word s h "ab" n u) := ⟨s, n, u, rfl, s0, s1, s2, hn0, hu1⟩
  generalize hL : L5.word s h "ab" n u = l at st4 gl
  obtain ⟨c, r4, e5, c0, c1, hr4⟩ := draw (ε := EW14 r3 m h now left' found (.fz (.int s)) (.fz (.int (now + y))) (.fz (.int n)) (.fz l.d)) 0 rfl hr3 (m := 3) (by decide) (by decide) (fm := fC (.int 3)) rfl
  obtain ⟨k, hk, hk0⟩ : ∃ k : Int, dIx (.list [.int 1, .int 1, .int 2]) (.int c) = some (.int k) ∧ (0 ≤ k ∧ k ≤ 2) := by
    have : c = 0 ∨ c = 1 ∨ c = 2 := by omega
    rcases this with rfl | rfl | rfl
    · exact ⟨1, rfl, by decide⟩
    · exact ⟨1, rfl, by decide⟩
    · exact ⟨2, rfl, by decide⟩
  have e6 : fRepF (fCall dLst (fCons (fVar 9) fNil)) (fBin dIx (fCall dLst (fCons (fC (.int 1)) (fCons (fC (.int 1)) (fCons (fC (.int 2)) fNil)))) (fRow 0 2 M_law_take (fCons (fC (.int 3)) fNil))) (EW14 r3 m h now left' found (.fz (.int s)) (.fz (.int (now + y))) (.fz (.int n)) (.fz l.d)) = some (.list (List.replicate k.toNat l.d), EW14 r4 m h now left' found (.fz (.int s)) (.fz (.int (now + y))) (.fz (.int n)) (.fz l.d)) :=
    fRepF_ok (fCall_ok rfl (qdLst (by simp))) (fBin_ok (fCall_ok rfl (qdLst (by simp))) e5 hk) (by omega)
  have st5 : sExtM 5 (fRepF (fCall dLst (fCons (fVar 9) fNil)) (fBin dIx (fCall dLst (fCons (fC (.int 1)) (fCons (fC (.int 1)) (fCons (fC (.int 2)) fNil)))) (fRow 0 2 M_law_take (fCons (fC (.int 3)) fNil)))) (EW14 r3 m h now left' found (.fz (.int s)) (.fz (.int (now + y))) (.fz (.int n)) (.fz l.d)) = some (.nx (EW14 r4 m h now left' (found ++ List.replicate k.toNat l) (.fz (.int s)) (.fz (.int (now + y))) (.fz (.int n)) (.fz l.d))) := by
    rw [sExtM_ok (ds0 := found.map L5.d) (ds := found.map L5.d) rfl e6 rfl (by rw [List.length_map, List.length_replicate]; omega)]
    unfold EW14
    rw [List.map_append, List.map_replicate]; rfl
  have hf3 : ∀ l' ∈ found ++ List.replicate k.toNat l, GL m h l' := fun l' h' => by
    rcases List.mem_append.mp h' with h' | h'
    · exact hf l' h'
    · rw [(List.mem_replicate.mp h').2]; exact gl
  have hf4 : (found ++ List.replicate k.toNat l).length ≤ found.length + 2 := by rw [List.length_append, List.length_replicate]; omega
  generalize found ++ List.replicate k.toNat l = found2 at st5 hf3 hf4
  obtain ⟨d, r5, e7, d0, d1, hr5⟩ := draw (ε := EW14 r4 m h now left' found2 (.fz (.int s)) (.fz (.int (now + y))) (.fz (.int n)) (.fz l.d)) 0 rfl hr4 (m := 3) (by decide) (by decide) (fm := fC (.int 3)) rfl
  have tst : gVal (fBin dEq (fRow 0 2 M_law_take (fCons (fC (.int 3)) fNil)) (fC (.int 0))) (EW14 r4 m h now left' found2 (.fz (.int s)) (.fz (.int (now + y))) (.fz (.int n)) (.fz l.d)) = some (d == 0, EW14 r5 m h now left' found2 (.fz (.int s)) (.fz (.int (now + y))) (.fz (.int n)) (.fz l.d)) := gVal_ok (fBin_ok e7 rfl dEq_int)
  cases hd : (d == 0) with
  | false =>
    rw [hd] at tst
    exact ⟨r5, left', found2, _, _, _, _, sSeq_nx st1 (sSeq_nx st2 (sSeq_nx st3 (sSeq_nx st4 (sSeq_nx st5 (sIf_f tst rfl))))), hr5, hle, hsub, hf3, by omega⟩
  | true =>
    rw [hd] at tst
    obtain ⟨w, r6, e8, w0, w1, hr6⟩ := draw (ε := EW14 r5 m h now left' found2 (.fz (.int s)) (.fz (.int (now + y))) (.fz (.int n)) (.fz l.d)) 0 rfl hr5 (m := 9) (by decide) (by decide) (fm := fC (.int 9)) rfl
    have st6 : sAppM 5 (fCall dTup (fCons (fC (.str "word")) (fCons (fVar 6) (fCons (fVar 2) (fCons (fC (.str "ab")) (fCons (fC (.int 4)) (fCons (fBin dAdd (fBin dAdd (fVar 3) (fC (.int 1))) (fRow 0 2 M_law_take (fCons (fC (.int 9)) fNil))) fNil))))))) (EW14 r5 m h now left' found2 (.fz (.int s)) (.fz (.int (now + y))) (.fz (.int n)) (.fz l.d)) = some (.nx (EW14 r6 m h now left' (found2 ++ [.word s h "ab" 4 (now + 1 + w)]) (.fz (.int s)) (.fz (.int (now + y))) (.fz (.int n)) (.fz l.d))) := by
      rw [sAppM_ok (es := found2.map L5.d) (ds := found2.map L5.d) (d := (L5.word s h "ab" 4 (now + 1 + w)).d) rfl (fCall_ok (fCons_ok rfl (fCons_ok rfl (fCons_ok rfl (fCons_ok rfl (fCons_ok rfl (fCons_ok (fBin_ok (fBin_ok rfl rfl rfl) e8 rfl) rfl)))))) rfl) rfl (by rw [List.length_map]; exact sizeLine_lt (by omega))]
      unfold EW14
      rw [List.map_append]; rfl
    refine ⟨r6, left', _, _, _, _, _, sSeq_nx st1 (sSeq_nx st2 (sSeq_nx st3 (sSeq_nx st4 (sSeq_nx st5 (sIf_t tst st6))))), hr6, hle, hsub, fun l' h' => ?_, by rw [List.length_append]; show _ + 1 ≤ _; omega⟩
    rcases List.mem_append.mp h' with h' | h'
    · exact hf3 l' h'
    · rw [List.mem_singleton.mp h']; exact ⟨s, 4, _, rfl, s0, s1, s2, .inr rfl, by omega⟩
theorem while14 {m h now : Int} (n0 : 0 ≤ now) : ∀ (k : Nat) (r : PyData) (left : List Int) (found : List L5) (x6 x7 x8 x9 : Sl), left.length = k → RowOk r → k ≤ 7 → (∀ s ∈ left, 0 ≤ s ∧ s < m ∧ s ≠ h) → (∀ l ∈ found, GL m h l) → found.length + 3 * k ≤ 60 →
    ∃ r' found' y6 y7 y8 y9, whileF (gVal (fEmM true 4)) BW14 (k + 1) (EW14 r m h now left found x6 x7 x8 x9) = some (.nx (EW14 r' m h now [] found' y6 y7 y8 y9)) ∧ RowOk r' ∧ (∀ l ∈ found', GL m h l) ∧ found'.length ≤ 60
  | 0, r, left, found, x6, x7, x8, x9, e, hr, hk, hs, hf, hl => by
    obtain rfl : left = [] := List.length_eq_zero_iff.mp e
    exact ⟨r, found, x6, x7, x8, x9, rfl, hr, hf, by omega⟩
  | k + 1, r, left, found, x6, x7, x8, x9, e, hr, hk, hs, hf, hl => by
    have hne : left ≠ [] := fun z => by rw [z] at e; cases e
    obtain ⟨r1, left1, found1, y6, y7, y8, y9, e1, hr1, h1, h2, h3, h4⟩ := turn14 hr n0 hne (by omega) hs hf (by omega) x6 x7 x8 x9
    obtain ⟨r2, found2, z6, z7, z8, z9, e2, hr2, h5, h6⟩ := while14 n0 k r1 left1 found1 y6 y7 y8 y9 (by omega) hr1 (by omega) (fun s h => hs s (h2 s h)) h3 (by omega)
    refine ⟨r2, found2, z6, z7, z8, z9, ?_, hr2, h5, h6⟩
    have tst : gVal (fEmM true 4) (EW14 r m h now left found x6 x7 x8 x9) = some (true, EW14 r m h now left found x6 x7 x8 x9) := by
      cases left with
      | nil => exact absurd rfl hne
      | cons a as => rfl
    show ((gVal (fEmM true 4) _).bind fun p => _) = _
    rw [tst, Option.bind_some, if_pos rfl, e1, Option.bind_some]
    exact e2
theorem mem_others {m h s : Int} (hs : s ∈ othersN m h) : 0 ≤ s ∧ s < m ∧ s ≠ h := by
  unfold othersN at hs
  obtain ⟨k, hk, e⟩ := List.mem_filterMap.mp hs
  have hk := List.mem_range.mp hk
  split at e
  · cases e
  · rename_i c
    cases e
    refine ⟨by omega, by omega, fun z => c (by simpa using z)⟩
theorem letters14 {r : PyData} (hr : RowOk r) {m h now : Int} (h0 : 2 ≤ m) (h1 : m ≤ 7) (n0 : 0 ≤ now) : ∃ (ls : List L5) (r' : PyData), M_law_letters r [.int m, .int h, .int now] = some (.list (ls.map L5.d), r') ∧ (∀ l ∈ ls, GL m h l) ∧ ls.length ≤ 60 ∧ RowOk r' := by
  have hl : (othersN m h).length ≤ 7 := others_len h1
  obtain ⟨r', found, y6, y7, y8, y9, e, hr', hf, hl2⟩ := while14 (m := m) (h := h) n0 (othersN m h).length r (othersN m h) [] .un .un .un .un rfl hr hl (fun s h => mem_others h) (fun l h => nomatch h) (by show 0 + _ ≤ _; omega)
  refine ⟨found, r', ?_, hf, hl2, hr'⟩
  have hd : dR m = true := by simp only [dR, Bool.and_eq_true, decide_eq_true_eq]; omega
  have cmp : fComp (fRng1 (fCons (fVar 1) fNil)) (bName 10) (gVal (fBin dNe (fVar 10) (fVar 2))) (fVar 10) [10] [.mu r, .fz (.int m), .fz (.int h), .fz (.int now), .un, .un, .un, .un, .un, .un, .un] = some (.list ((othersN m h).map PyData.int), [.mu r, .fz (.int m), .fz (.int h), .fz (.int now), .un, .un, .un, .un, .un, .un, .un]) := by
    refine fComp_ok (fRng1_ok (fCons_ok rfl rfl) hd) ?_ (by rw [List.length_map]; exact sizeLine_big (by omega))
    have c0 : clr [.mu r, .fz (.int m), .fz (.int h), .fz (.int now), .un, .un, .un, .un, .un, .un, .un] [10] = [.mu r, .fz (.int m), .fz (.int h), .fz (.int now), .un, .un, .un, .un, .un, .un, .un] := rfl
    rw [c0]
    exact others_comp 10 rfl (fun k => gVal_ok (fBin_ok rfl rfl dNe_int)) (fun _ => rfl) (fun _ => rfl) fun _ => rfl
  rw [ap_law_letters]; unfold B_law_letters
  refine seq_stepR (sAsgM_ok cmp) (seq_stepR (ε1 := EW14 r m h now (othersN m h) [] .un .un .un .un) (sAsgM_ok (fCall_ok (fs := fNil) rfl (qdLst (ds := []) (by simp)))) (seq_stepR (sWhile_of (n := (othersN m h).length + 1) (by show _ ≤ 1000000; omega) e) rfl))
structure Inv14 (m h now : Int) (es : List E6) (kvs : List (Int × Int)) : Prop where
  a : es.filterMap (askN "ab") = [3, 4]
  b : es.any (E6.isBack "ab" 4) = false
  c : es.filterMap (askE "ab" 4) = [(("joe" : Str), now + 3)]
  w : Wfs m es
  k : Ks kvs
  g : lkI kvs = gotW "ab" 4 es
theorem ok_ab : okS "ab" := by unfold okS; decide +kernel
theorem ok_joe : okS "joe" := by unfold okS; decide +kernel
theorem ok_ann : okS "ann" := by unfold okS; decide +kernel
theorem Inv14.claim {m h now : Int} {es : List E6} {kvs : List (Int × Int)} (I : Inv14 m h now es kvs) : claimN "ab" es = (some ((4 : Int), ("joe" : Str), now + 3, wordsN "ab" 4 es, noesN "ab" 4 es) : C5) := by
  have g4 : greatest [3, 4] = 4 := by decide
  unfold claimN
  rw [I.a, g4, I.b, I.c]
  rfl
theorem reach_rW {m : Int} {kvs : List (Int × Int)} (h : Ks kvs) : reachN (kvs.map (·.2)) m = reachN ((canon (lkI kvs)).map (·.2)) m := (reach_perm ((canon_perm h).map _) m).symm
theorem Inv14.reach {m h now : Int} {es : List E6} {kvs : List (Int × Int)} (I : Inv14 m h now es kvs) : reachW m "ab" 4 es = reachN (kvs.map (·.2)) m := by
  rw [reach_rW I.k, I.g]; rfl
theorem gotW_snoc (nm : Str) (n : Int) (es : List E6) (s u : Int) : gotW nm n (es ++ [.got nm n s u]) = putW (gotW nm n es) (s, u) := by
  unfold gotW
  rw [List.filterMap_append, List.foldl_append]
  have : [E6.got nm n s u].filterMap (gotE nm n) = [(s, u)] := by simp [gotE]
  rw [this]; rfl
theorem Inv14.got {m h now : Int} {es : List E6} {kvs : List (Int × Int)} (I : Inv14 m h now es kvs) {s u : Int} (hm : m ≤ 7) (h0 : 0 ≤ s) (h1 : s < m) (hu : 1 ≤ u) : Inv14 m h now (es ++ [.got "ab" 4 s u]) (stepU kvs (s, u)) where
  a := by rw [List.filterMap_append, I.a]; rfl
  b := by rw [List.any_append, I.b]; rfl
  c := by rw [List.filterMap_append, I.c]; rfl
  w := wfs_app I.w fun e he => by rw [List.mem_singleton.mp he]; exact ⟨ok_ab, by decide, h0, h1, hu⟩
  k := ks_put I.k ⟨h0, by show s < 7; omega⟩ _
  g := by rw [lk_stepU, I.g, gotW_snoc]
/-- a word that is there already changes nothing told -/
theorem Inv14.same {m h now : Int} {es : List E6} {kvs : List (Int × Int)} (I : Inv14 m h now es kvs) {s u : Int} (hm : m ≤ 7) (h0 : 0 ≤ s) (h1 : s < m) (hc : ((wordsN "ab" 4 es).any fun t => t.1 == s && decide (u ≤ t.2)) = true) : Inv14 m h now es (stepU kvs (s, u)) ∧ lkI (stepU kvs (s, u)) = lkI kvs := by
  have e : lkI (stepU kvs (s, u)) = lkI kvs := by
    rw [lk_stepU]
    obtain ⟨t, ht, hq⟩ := List.any_eq_true.mp hc
    have hq : t.1 = s ∧ u ≤ t.2 := by simpa using hq
    have hk := (mem_canon.mp ht).2
    rw [← I.g, hq.1] at hk
    funext j
    unfold putW
    by_cases hj : j = s
    · subst hj
      rw [if_pos rfl, hk]
      simp only
      congr 1
      split <;> omega
    · rw [if_neg hj]
  exact ⟨⟨I.a, I.b, I.c, I.w, ks_put I.k ⟨h0, by show s < 7; omega⟩ _, e.trans I.g⟩, e⟩
theorem vals_kv (kvs : List (Int × Int)) : (kvs.map (kvD PyData.int)).map (·.2) = (kvs.map (·.2)).map PyData.int := by rw [List.map_map, List.map_map]; rfl
theorem dEq_selfT {d : PyData} (h : sh d = true) : dEq d d = some (.bool true) := by
  unfold dEq
  rw [if_pos ⟨h, h⟩, SeqAt.eqv_refl d (sh_can h)]
theorem pre14 {m h now : Int} {es : List E6} {l : L5} {a b c : PyData} {D : PyData} (ht : M_taken [.int m, .int h, logD es, l.d, .int now] = some (.tuple [a, b, c])) :
    sAsgT [6, 7, 8] (fCall (gd 5 M_taken) (fCons (fVar 1) (fCons (fVar 2) (fCons (fVar 3) (fCons (fVar 4) (fCons (fVar 5) fNil)))))) [.mu D, .fz (.int m), .fz (.int h), .fz (logD es), .fz l.d, .fz (.int now), .un, .un, .un, .un, .un, .un, .un] = some (.nx [.mu D, .fz (.int m), .fz (.int h), .fz (logD es), .fz l.d, .fz (.int now), .fz a, .fz b, .fz c, .un, .un, .un, .un]) :=
  sAsgT_b (fCall_ok rfl (gd_ok rfl ht)) rfl
theorem right3 {m h now : Int} {es : List E6} {kvs : List (Int × Int)} (I : Inv14 m h now es kvs) (hm0 : 2 ≤ m) (hm : m ≤ 7) (hl : es.length ≤ 30000) {s u : Int} (h0 : 0 ≤ s) (h1 : s < m) (h2 : s ≠ h) (hu : 1 ≤ u) :
    takenN m h es now (.word s h "ab" 3 u) = ([], [.back h s "ab" 3], none) ∧ M_law_right (.dict (kvs.map (kvD PyData.int))) [.int m, .int h, logD es, (L5.word s h "ab" 3 u).d, .int now] = some (.bool true, .dict (kvs.map (kvD PyData.int))) := by
  have e : takenN m h es now (.word s h "ab" 3 u) = ([], [.back h s "ab" 3], none) := by
    show takeWord m h es s "ab" 3 u now = _
    unfold takeWord
    rw [I.claim]
    simp only
    rw [if_neg (by decide)]
  refine ⟨e, ?_⟩
  have ht := taken_eq (now := now) (by omega) hm I.w (by omega) (l := .word s h "ab" 3 u) ⟨ok_ab, h0, h1, h2, rfl, by decide, hu⟩
  rw [e] at ht
  have hs : dEq (.tuple [.tuple [], .tuple [.tuple [.str "back", .int h, .int s, .str "ab", .int 3]], .none]) (.tuple [.tuple [], .tuple [.tuple [.str "back", .int h, .int s, .str "ab", .int 3]], .none]) = some (.bool true) := dEq_selfT (by
    have b1 : PyData.strOk "back" = true := ok_back.1
    have b2 : PyData.strOk "ab" = true := ok_ab.1
    simp [sh, SeqAt.shaped, PyData.canLay0, PyData.canLayAll0, PyData.depth, PyData.depthAll, b1, b2])
  rw [ap_law_right]; unfold B_law_right
  refine seq_stepR (pre14 ht) ?_
  have tst : gVal (fBin dNe (fBin dIx (fVar 4) (fC (.int 4))) (fC (.int 4))) [.mu (.dict (kvs.map (kvD PyData.int))), .fz (.int m), .fz (.int h), .fz (logD es), .fz (L5.word s h "ab" 3 u).d, .fz (.int now), .fz (.tuple (([] : List E6).map E6.d)), .fz (.tuple ([L5.back h s "ab" 3].map L5.d)), .fz (ntD none), .un, .un, .un, .un] = some (true, [.mu (.dict (kvs.map (kvD PyData.int))), .fz (.int m), .fz (.int h), .fz (logD es), .fz (L5.word s h "ab" 3 u).d, .fz (.int now), .fz (.tuple (([] : List E6).map E6.d)), .fz (.tuple ([L5.back h s "ab" 3].map L5.d)), .fz (ntD none), .un, .un, .un, .un]) := gVal_ok (fBin_ok rfl rfl dNe_int)
  refine Eq.trans (congrArg outR (sSeq_rt (sIf_t tst (sRet_ok (fBin_ok rfl rfl hs))))) rfl
theorem put14 {m h now : Int} {es : List E6} {kvs : List (Int × Int)} {s n u : Int} (hk : Ks kvs) (hu : 1 ≤ u) (a b c x9 : Sl) :
    sPutM 0 (fCall dMax (fCons (fGetM 0 (fBin dIx (fVar 4) (fC (.int 1))) (fC (.int 0))) (fCons (fBin dIx (fVar 4) (fC (.int 5))) fNil))) (fBin dIx (fVar 4) (fC (.int 1))) [.mu (.dict (kvs.map (kvD PyData.int))), .fz (.int m), .fz (.int h), .fz (logD es), .fz (L5.word s h "ab" n u).d, .fz (.int now), a, b, c, x9, .un, .un, .un] = some (.nx [.mu (.dict ((stepU kvs (s, u)).map (kvD PyData.int))), .fz (.int m), .fz (.int h), .fz (logD es), .fz (L5.word s h "ab" n u).d, .fz (.int now), a, b, c, x9, .un, .un, .un]) := by
  have hlt : (kvs.map (kvD PyData.int)).length < sizeLine := by rw [List.length_map]; exact sizeLine_lt (by have := ks_len hk; omega)
  have hg : ((getD (kvs.map (kvD PyData.int)) (.inl s)).getD (.int 0)) = .int ((lkI kvs s).getD 0) := by rw [getD_kv]; cases lkI kvs s <;> rfl
  have hp : stepU kvs (s, u) = putI kvs s (if u > (lkI kvs s).getD 0 then u else (lkI kvs s).getD 0) := by
    unfold stepU
    congr 1
    cases lkI kvs s with
    | none => simp; omega
    | some v => simp only [Option.getD_some]; split <;> split <;> omega
  rw [hp, ← putD_kv]
  unfold L5.d
  generalize (lkI kvs s).getD 0 = v at hg ⊢
  walk_at "ev"
theorem can_told {h o n r : Int} {nm p : Str} (h1 : okS nm) (h2 : okS p) : (L5.told h o nm n p r).d.canLay0 = true ∧ (L5.told h o nm n p r).d.depth ≤ 1 := by
  have b : PyData.strOk "told" = true := ok_told.1
  unfold okS at h1 h2
  constructor
  · simp [L5.d, PyData.canLay0, PyData.canLayAll0, h1, h2, b]
  · simp [L5.d, PyData.depth, PyData.depthAll]
theorem sh_tolds {h n r : Int} {nm p : Str} (h1 : okS nm) (h2 : okS p) (os : List Int) : sh (.list (os.map fun o => (L5.told h o nm n p r).d)) = true := by
  have key : ∀ os : List Int, PyData.canLayAll0 (os.map fun o => (L5.told h o nm n p r).d) = true ∧ PyData.depthAll (os.map fun o => (L5.told h o nm n p r).d) ≤ 1 := by
    intro os
    induction os with
    | nil => exact ⟨rfl, by simp [PyData.depthAll]⟩
    | cons o os ih =>
      obtain ⟨a, b⟩ := can_told (h := h) (o := o) (n := n) (r := r) h1 h2
      simp only [List.map_cons, PyData.canLayAll0, PyData.depthAll, a, ih.1, Bool.and_self, true_and]
      have := ih.2
      omega
  obtain ⟨a, b⟩ := key os
  simp only [sh, SeqAt.shaped, PyData.canLay0, PyData.depth, a, Bool.true_and, Bool.and_true, decide_eq_true_eq]
  exact decide_eq_true (by omega)
theorem fOthers14 {D : PyData} {m h : Int} (hm0 : 0 ≤ m) (hm : m ≤ 7) (x3 x4 x5 x6 x7 x8 x9 x10 : Sl) : sAsg 11 (fComp (fRng1 (fCons (fVar 1) fNil)) (bName 12) (gVal (fBin dNe (fVar 12) (fVar 2))) (fVar 12) [12]) [.mu D, .fz (.int m), .fz (.int h), x3, x4, x5, x6, x7, x8, x9, x10, .un, .un] = some (.nx [.mu D, .fz (.int m), .fz (.int h), x3, x4, x5, x6, x7, x8, x9, x10, .fz (.list ((othersN m h).map PyData.int)), .un]) := by
  have hd : dR m = true := by simp only [dR, Bool.and_eq_true, decide_eq_true_eq]; omega
  have hl : (othersN m h).length ≤ 7 := others_len hm
  refine asg14_ok (fComp_ok (es := (othersN m h).map PyData.int) (ε2 := [.mu D, .fz (.int m), .fz (.int h), x3, x4, x5, x6, x7, x8, x9, x10, .un, .un]) (fRng1_ok (fCons_ok rfl rfl) hd) ?_ (by rw [List.length_map]; exact sizeLine_big (by omega))) rfl
  have c0 : clr [.mu D, .fz (.int m), .fz (.int h), x3, x4, x5, x6, x7, x8, x9, x10, .un, .un] [12] = [.mu D, .fz (.int m), .fz (.int h), x3, x4, x5, x6, x7, x8, x9, x10, .un, .un] := rfl
  rw [c0]
  exact others_comp 12 rfl (fun k => gVal_ok (fBin_ok rfl rfl dNe_int)) (fun _ => rfl) (fun _ => rfl) fun _ => rfl
def N14 (h now : Int) : N5 := ("ab", h, 4, "joe", now)
theorem lenD0 {kv : List (Int × Int)} {rest : En} : fLenD 0 (.mu (.dict (kv.map (kvD PyData.int))) :: rest) = some (.int kv.length, .mu (.dict (kv.map (kvD PyData.int))) :: rest) := by
  show some (PyData.int ((kv.map (kvD PyData.int)).length), _) = _
  rw [List.length_map]
theorem right4 {m h now : Int} {es : List E6} {kvs : List (Int × Int)} (I : Inv14 m h now es kvs) (hm0 : 2 ≤ m) (hm : m ≤ 7) (n0 : 0 ≤ now) (hl : es.length ≤ 30000) {s u : Int} (h0 : 0 ≤ s) (h1 : s < m) (h2 : s ≠ h) (hu : 1 ≤ u) :
    Inv14 m h now (es ++ (takenN m h es now (.word s h "ab" 4 u)).1) (stepU kvs (s, u)) ∧ M_law_right (.dict (kvs.map (kvD PyData.int))) [.int m, .int h, logD es, (L5.word s h "ab" 4 u).d, .int now] = some (.bool true, .dict ((stepU kvs (s, u)).map (kvD PyData.int))) := by
  have ht := taken_eq (now := now) (by omega) hm I.w (by omega) (l := .word s h "ab" 4 u) ⟨ok_ab, h0, h1, h2, rfl, by decide, hu⟩
  have key : ∀ (a : List E6) (b : List L5) (c : Option N5), takenN m h es now (.word s h "ab" 4 u) = (a, b, c) → ∀ I' : Inv14 m h now (es ++ a) (stepU kvs (s, u)),
      ((b = [] ∧ c = none ∧ (reachN ((stepU kvs (s, u)).map (·.2)) m ≤ reachN (kvs.map (·.2)) m ∨ reachN ((stepU kvs (s, u)).map (·.2)) m ≤ now)) ∨
       (b = toldN m (N14 h now) ∧ c = some (N14 h now) ∧ ¬ reachN ((stepU kvs (s, u)).map (·.2)) m ≤ reachN (kvs.map (·.2)) m ∧ ¬ reachN ((stepU kvs (s, u)).map (·.2)) m ≤ now)) →
      M_law_right (.dict (kvs.map (kvD PyData.int))) [.int m, .int h, logD es, (L5.word s h "ab" 4 u).d, .int now] = some (.bool true, .dict ((stepU kvs (s, u)).map (kvD PyData.int))) := by
    intro a b c e I' hc
    rw [e] at ht
    have kl := ks_len I.k
    have kl' := ks_len I'.k
    have r1 := reach_of_eq (ns := kvs.map (·.2)) (m := m) (by rw [List.length_map]; omega) (by omega)
    have r2 := reach_of_eq (ns := (stepU kvs (s, u)).map (·.2)) (m := m) (by rw [List.length_map]; omega) (by omega)
    rw [ap_law_right]; unfold B_law_right
    refine seq_stepR (pre14 ht) ?_
    refine seq_stepR (sIf_f (ε1 := [.mu (.dict (kvs.map (kvD PyData.int))), .fz (.int m), .fz (.int h), .fz (logD es), .fz (L5.word s h "ab" 4 u).d, .fz (.int now), .fz (.tuple (a.map E6.d)), .fz (.tuple (b.map L5.d)), .fz (ntD c), .un, .un, .un, .un]) (gVal_ok (fBin_ok rfl rfl dNe_int)) rfl) ?_
    have st3 : sAsg 9 (fCall (gd 2 M_reach_of) (fCons (fListV 0) (fCons (fVar 1) fNil))) [.mu (.dict (kvs.map (kvD PyData.int))), .fz (.int m), .fz (.int h), .fz (logD es), .fz (L5.word s h "ab" 4 u).d, .fz (.int now), .fz (.tuple (a.map E6.d)), .fz (.tuple (b.map L5.d)), .fz (ntD c), .un, .un, .un, .un] = some (.nx [.mu (.dict (kvs.map (kvD PyData.int))), .fz (.int m), .fz (.int h), .fz (logD es), .fz (L5.word s h "ab" 4 u).d, .fz (.int now), .fz (.tuple (a.map E6.d)), .fz (.tuple (b.map L5.d)), .fz (ntD c), .fz (.int (reachN (kvs.map (·.2)) m)), .un, .un, .un]) :=
      asg14_ok (fCall_ok (fCons_ok (d := .list ((kvs.map (·.2)).map PyData.int)) (by rw [← vals_kv]; rfl) (fCons_ok rfl rfl)) (gd_ok rfl r1)) rfl
    refine seq_stepR st3 (seq_stepR (put14 I.k hu _ _ _ _) ?_)
    have st5 : sAsg 10 (fCall (gd 2 M_reach_of) (fCons (fListV 0) (fCons (fVar 1) fNil))) [.mu (.dict ((stepU kvs (s, u)).map (kvD PyData.int))), .fz (.int m), .fz (.int h), .fz (logD es), .fz (L5.word s h "ab" 4 u).d, .fz (.int now), .fz (.tuple (a.map E6.d)), .fz (.tuple (b.map L5.d)), .fz (ntD c), .fz (.int (reachN (kvs.map (·.2)) m)), .un, .un, .un] = some (.nx [.mu (.dict ((stepU kvs (s, u)).map (kvD PyData.int))), .fz (.int m), .fz (.int h), .fz (logD es), .fz (L5.word s h "ab" 4 u).d, .fz (.int now), .fz (.tuple (a.map E6.d)), .fz (.tuple (b.map L5.d)), .fz (ntD c), .fz (.int (reachN (kvs.map (·.2)) m)), .fz (.int (reachN ((stepU kvs (s, u)).map (·.2)) m)), .un, .un]) :=
      asg14_ok (fCall_ok (fCons_ok (d := .list (((stepU kvs (s, u)).map (·.2)).map PyData.int)) (by rw [← vals_kv]; rfl) (fCons_ok rfl rfl)) (gd_ok rfl r2)) rfl
    refine seq_stepR st5 ?_
    have hlen : m / 2 + 1 ≤ ((stepU kvs (s, u)).length : Int) ∨ reachN ((stepU kvs (s, u)).map (·.2)) m = 0 := by
      by_cases hc : (((stepU kvs (s, u)).map (·.2)).length : Int) < m / 2 + 1
      · right; unfold reachN; rw [if_pos hc]
      · left; rw [List.length_map] at hc; omega
    generalize reachN ((stepU kvs (s, u)).map (·.2)) m = R at hc hlen ⊢
    generalize reachN (kvs.map (·.2)) m = A at hc ⊢
    generalize stepU kvs (s, u) = kv2 at hlen kl' ⊢
    clear r1 r2 st3 st5 ht I'
    rcases hc with ⟨rfl, rfl, hc⟩ | ⟨rfl, rfl, hc1, hc2⟩
    · have q : dEq (.tuple (([] : List L5).map L5.d)) (.tuple []) = some (.bool true) := rfl
      have q2 : ntD none = .none := rfl
      by_cases c1 : R ≤ A
      · clear hlen
        walk_at "ev"
        rfl
      · have c2 : R ≤ now := hc.resolve_left c1
        clear hlen hc
        walk_at "ev"
        rfl
    · have hlen : m / 2 + 1 ≤ (kv2.length : Int) := hlen.resolve_right (by omega)
      have tst : gOr (gVal (fBin dLe (fVar 10) (fVar 9))) (gVal (fBin dLe (fVar 10) (fVar 5))) [.mu (.dict (kv2.map (kvD PyData.int))), .fz (.int m), .fz (.int h), .fz (logD es), .fz (L5.word s h "ab" 4 u).d, .fz (.int now), .fz (.tuple (a.map E6.d)), .fz (.tuple ((toldN m (N14 h now)).map L5.d)), .fz (ntD (some (N14 h now))), .fz (.int A), .fz (.int R), .un, .un] = some (false, [.mu (.dict (kv2.map (kvD PyData.int))), .fz (.int m), .fz (.int h), .fz (logD es), .fz (L5.word s h "ab" 4 u).d, .fz (.int now), .fz (.tuple (a.map E6.d)), .fz (.tuple ((toldN m (N14 h now)).map L5.d)), .fz (ntD (some (N14 h now))), .fz (.int A), .fz (.int R), .un, .un]) := by
        walk_at "ev"
      refine seq_stepR (sIf_f tst rfl) (seq_stepR (fOthers14 (by omega) hm _ _ _ _ _ _ _ _) ?_)
      have nn : dNe (n5D (N14 h now)) (.tuple [.str "ab", .int h, .int 4, .str "joe", .int now]) = some (.bool false) := dNe_self (by
        have a1 : PyData.strOk "ab" = true := ok_ab.1
        have a2 : PyData.strOk "joe" = true := ok_joe.1
        simp [n5D, N14, sh, SeqAt.shaped, PyData.canLay0, PyData.canLayAll0, PyData.depth, PyData.depthAll, a1, a2])
      have nl : dLt (.int kv2.length) (.int (m / 2 + 1)) = some (.bool false) := by
        show some (PyData.bool (decide ((kv2.length : Int) < m / 2 + 1))) = _
        rw [decide_eq_false (by omega)]
      have tst2 : gOr (gVal (fBin dNe (fVar 8) (fCall dTup (fCons (fC (.str "ab")) (fCons (fVar 2) (fCons (fC (.int 4)) (fCons (fC (.str "joe")) (fCons (fVar 5) fNil)))))))) (gVal (fBin dLt (fLenD 0) (fCall (gd 1 M_needed) (fCons (fVar 1) fNil)))) [.mu (.dict (kv2.map (kvD PyData.int))), .fz (.int m), .fz (.int h), .fz (logD es), .fz (L5.word s h "ab" 4 u).d, .fz (.int now), .fz (.tuple (a.map E6.d)), .fz (.tuple ((toldN m (N14 h now)).map L5.d)), .fz (ntD (some (N14 h now))), .fz (.int A), .fz (.int R), .fz (.list ((othersN m h).map PyData.int)), .un] = some (false, [.mu (.dict (kv2.map (kvD PyData.int))), .fz (.int m), .fz (.int h), .fz (logD es), .fz (L5.word s h "ab" 4 u).d, .fz (.int now), .fz (.tuple (a.map E6.d)), .fz (.tuple ((toldN m (N14 h now)).map L5.d)), .fz (ntD (some (N14 h now))), .fz (.int A), .fz (.int R), .fz (.list ((othersN m h).map PyData.int)), .un]) := by
        refine gOr_f (gVal_ok (fBin_ok rfl (fCall_ok rfl qdTup5) nn)) (gVal_ok (fBin_ok lenD0 (fCall_ok (fCons_ok rfl rfl) (gd_ok rfl (needed_eq m))) nl))
      refine seq_stepR (sIf_f tst2 rfl) ?_
      have es1 : (toldN m (N14 h now)).map L5.d = (othersN m h).map fun o => (L5.told h o "ab" 4 "joe" now).d := by unfold toldN; rw [List.map_map]; rfl
      have hol : (othersN m h).length ≤ 7 := others_len hm
      have eq1 := dEq_selfT (sh_tolds (h := h) (n := 4) (r := now) ok_ab ok_joe (othersN m h))
      have cmp : fComp (fSrc (fVar 11)) (bName 12) gYes (fCall dTup (fCons (fC (.str "told")) (fCons (fVar 2) (fCons (fVar 12) (fCons (fC (.str "ab")) (fCons (fC (.int 4)) (fCons (fC (.str "joe")) (fCons (fVar 5) fNil)))))))) [12] [.mu (.dict (kv2.map (kvD PyData.int))), .fz (.int m), .fz (.int h), .fz (logD es), .fz (L5.word s h "ab" 4 u).d, .fz (.int now), .fz (.tuple (a.map E6.d)), .fz (.tuple ((toldN m (N14 h now)).map L5.d)), .fz (ntD (some (N14 h now))), .fz (.int A), .fz (.int R), .fz (.list ((othersN m h).map PyData.int)), .un] = some (.list ((othersN m h).map fun o => (L5.told h o "ab" 4 "joe" now).d), [.mu (.dict (kv2.map (kvD PyData.int))), .fz (.int m), .fz (.int h), .fz (logD es), .fz (L5.word s h "ab" 4 u).d, .fz (.int now), .fz (.tuple (a.map E6.d)), .fz (.tuple ((toldN m (N14 h now)).map L5.d)), .fz (ntD (some (N14 h now))), .fz (.int A), .fz (.int R), .fz (.list ((othersN m h).map PyData.int)), .un]) := by
        refine fComp_ok (fSrc_ok rfl rfl) ?_ (by rw [List.length_map]; exact sizeLine_big (by omega))
        have c0 : ∀ x : Sl, clr [.mu (.dict (kv2.map (kvD PyData.int))), .fz (.int m), .fz (.int h), .fz (logD es), .fz (L5.word s h "ab" 4 u).d, .fz (.int now), .fz (.tuple (a.map E6.d)), .fz (.tuple ((toldN m (N14 h now)).map L5.d)), .fz (ntD (some (N14 h now))), .fz (.int A), .fz (.int R), .fz (.list ((othersN m h).map PyData.int)), x] [12] = [.mu (.dict (kv2.map (kvD PyData.int))), .fz (.int m), .fz (.int h), .fz (logD es), .fz (L5.word s h "ab" 4 u).d, .fz (.int now), .fz (.tuple (a.map E6.d)), .fz (.tuple ((toldN m (N14 h now)).map L5.d)), .fz (ntD (some (N14 h now))), .fz (.int A), .fz (.int R), .fz (.list ((othersN m h).map PyData.int)), .un] := fun _ => rfl
        rw [c0, comp_goM PyData.int (fun o => (L5.told h o "ab" 4 "joe" now).d) (othersN m h) rfl (fun o _ => by
          unfold compStep L5.d
          walk_at "ev")]
      refine Eq.trans (congrArg outR (sRet_ok (fBin_ok (fCall_ok (fCons_ok rfl rfl) (c := .list ((othersN m h).map fun o => (L5.told h o "ab" 4 "joe" now).d)) ?_) cmp eq1))) rfl
      rw [es1]; rfl
  have hcov := I.claim
  cases hany : (wordsN "ab" 4 es).any (fun t => t.1 == s && decide (u ≤ t.2)) with
  | true =>
    have e : takenN m h es now (.word s h "ab" 4 u) = ([], [], none) := by
      show takeWord m h es s "ab" 4 u now = _
      unfold takeWord
      rw [hcov]
      simp only
      rw [if_pos trivial, if_pos hany]
    obtain ⟨I', el⟩ := I.same hm h0 h1 hany
    have I2 : Inv14 m h now (es ++ []) (stepU kvs (s, u)) := by rw [List.append_nil]; exact I'
    rw [e]
    refine ⟨I2, key _ _ _ e I2 (.inl ⟨rfl, rfl, .inl ?_⟩)⟩
    rw [reach_rW I'.k, el, ← reach_rW I.k]
    exact Int.le_refl _
  | false =>
    have I' := I.got hm h0 h1 hu
    have e : takenN m h es now (.word s h "ab" 4 u) = ([.got "ab" 4 s u], newsN m es [.got "ab" 4 s u] (N14 h now)) := by
      show takeWord m h es s "ab" 4 u now = _
      unfold takeWord
      rw [hcov]
      simp only
      rw [if_pos trivial, if_neg (by rw [hany]; exact Bool.false_ne_true)]; rfl
    have n1 : newsN m es [.got "ab" 4 s u] (N14 h now) = if reachN ((stepU kvs (s, u)).map (·.2)) m ≤ reachN (kvs.map (·.2)) m ∨ reachN ((stepU kvs (s, u)).map (·.2)) m ≤ now then ([], none) else (toldN m (N14 h now), some (N14 h now)) := by
      unfold newsN
      rw [← I.reach, ← I'.reach]
      rfl
    rw [n1] at e
    rw [e]
    refine ⟨I', ?_⟩
    by_cases hc : reachN ((stepU kvs (s, u)).map (·.2)) m ≤ reachN (kvs.map (·.2)) m ∨ reachN ((stepU kvs (s, u)).map (·.2)) m ≤ now
    · rw [if_pos hc] at e
      exact key _ _ _ e I' (.inl ⟨rfl, rfl, hc⟩)
    · rw [if_neg hc] at e
      exact key _ _ _ e I' (.inr ⟨rfl, rfl, fun z => hc (.inl z), fun z => hc (.inr z)⟩)
def E14 (S : PyData) (n : Int) (r : PyData) (m h now : Int) (es : List E6) (kvs : List (Int × Int)) (x8 : Sl) : En := [.fz S, .fz (.int n), .mu r, .fz (.int m), .fz (.int h), .fz (.int now), .fz (logD es), .mu (.dict (kvs.map (kvD PyData.int))), x8]
def LB14 : Sf := sClr [8] (sSeq (sIf (gNot (gTru (fRow 7 6 M_law_right (fCons (fVar 3) (fCons (fVar 4) (fCons (fVar 6) (fCons (fVar 8) (fCons (fVar 5) fNil)))))))) (sRet (fC (.bool false))) sPass)
  (sAsg 6 (fBin dAdd (fVar 6) (fBin dIx (fCall (gd 5 M_taken) (fCons (fVar 3) (fCons (fVar 4) (fCons (fVar 6) (fCons (fVar 8) (fCons (fVar 5) fNil)))))) (fC (.int 0))))))
theorem gNot_ok {ga : Tf} {ε ε1 : En} {b : Bool} (h : ga ε = some (b, ε1)) : gNot ga ε = some (!b, ε1) := by unfold gNot; rw [h]; rfl
theorem clr14 {f : Sf} {ε : En} {o : Out} {vs : List Nat} (h : f ε = some o) : sClr vs f ε = some (clrO vs o) := by unfold sClr; rw [h]; rfl
theorem step14 {S : PyData} {n : Int} {r : PyData} {m h now : Int} {es : List E6} {kvs : List (Int × Int)} (I : Inv14 m h now es kvs) (hm0 : 2 ≤ m) (hm : m ≤ 7) (n0 : 0 ≤ now) (hl : es.length ≤ 3000) {l : L5} (hL : GL m h l) :
    ∃ es' kvs', Inv14 m h now es' kvs' ∧ es'.length ≤ es.length + 1 ∧ (bName 8 l.d (E14 S n r m h now es kvs .un)).bind LB14 = some (.nx (E14 S n r m h now es' kvs' .un)) := by
  obtain ⟨s, k, u, rfl, h0, h1, h2, hk, hu⟩ := hL
  have hW : (L5.word s h "ab" k u).Wf m h := ⟨ok_ab, h0, h1, h2, rfl, by omega, hu⟩
  have ht := taken_eq (now := now) (by omega) hm I.w (by omega) hW
  have main : ∃ kvs', Inv14 m h now (es ++ (takenN m h es now (.word s h "ab" k u)).1) kvs' ∧ M_law_right (.dict (kvs.map (kvD PyData.int))) [.int m, .int h, logD es, (L5.word s h "ab" k u).d, .int now] = some (.bool true, .dict (kvs'.map (kvD PyData.int))) := by
    rcases hk with rfl | rfl
    · obtain ⟨e1, e2⟩ := right3 I hm0 hm (by omega) h0 h1 h2 hu
      refine ⟨kvs, ?_, e2⟩
      rw [e1, List.append_nil]; exact I
    · obtain ⟨e1, e2⟩ := right4 I hm0 hm n0 (by omega) h0 h1 h2 hu
      exact ⟨_, e1, e2⟩
  obtain ⟨kvs', I', e⟩ := main
  have hone : (takenN m h es now (.word s h "ab" k u)).1.length ≤ 1 := by
    show (takeWord m h es s "ab" k u now).1.length ≤ 1
    unfold takeWord
    rw [I.claim]
    simp only
    split
    · split
      · exact Nat.zero_le _
      · exact Nat.le_refl _
    · exact Nat.zero_le _
  generalize L5.word s h "ab" k u = l at *
  generalize takenN m h es now l = A at *
  refine ⟨es ++ A.1, kvs', I', by rw [List.length_append]; omega, ?_⟩
  have ha : dAdd (logD es) (.tuple (A.1.map E6.d)) = some (logD (es ++ A.1)) := by
    unfold logD; rw [List.map_append]
    exact qAddT (by rw [List.length_map, List.length_map]; omega)
  have b1 : bName 8 l.d (E14 S n r m h now es kvs .un) = some (E14 S n r m h now es kvs (.fz l.d)) := rfl
  rw [b1, Option.bind_some]
  have f1 : fRow 7 6 M_law_right (fCons (fVar 3) (fCons (fVar 4) (fCons (fVar 6) (fCons (fVar 8) (fCons (fVar 5) fNil))))) (E14 S n r m h now es kvs (.fz l.d)) = some (.bool true, E14 S n r m h now es kvs' (.fz l.d)) := fRow_ok (ε1 := E14 S n r m h now es kvs (.fz l.d)) rfl rfl rfl rfl e
  have t1 := gNot_ok (gTru_bool f1)
  have f2 : sAsg 6 (fBin dAdd (fVar 6) (fBin dIx (fCall (gd 5 M_taken) (fCons (fVar 3) (fCons (fVar 4) (fCons (fVar 6) (fCons (fVar 8) (fCons (fVar 5) fNil)))))) (fC (.int 0)))) (E14 S n r m h now es kvs' (.fz l.d)) = some (.nx (E14 S n r m h now (es ++ A.1) kvs' (.fz l.d))) :=
    asg14_ok (fBin_ok rfl (fBin_ok (fCall_ok rfl (gd_ok rfl ht)) rfl rfl) ha) rfl
  exact (clr14 (sSeq_nx (sIf_f t1 rfl) f2)).trans rfl
theorem loop14 {S : PyData} {n : Int} {r : PyData} {m h now : Int} (hm0 : 2 ≤ m) (hm : m ≤ 7) (n0 : 0 ≤ now) {es : List E6} {kvs : List (Int × Int)} (I : Inv14 m h now es kvs) {ls : List L5} (hL : ∀ l ∈ ls, GL m h l) (hl : es.length + ls.length ≤ 3000) :
    ∃ es' kvs', Inv14 m h now es' kvs' ∧ es'.length ≤ 3000 ∧ loopF (bName 8) LB14 (ls.map L5.d) (E14 S n r m h now es kvs .un) = some (.nx (E14 S n r m h now es' kvs' .un)) := by
  obtain ⟨⟨es', kvs'⟩, ⟨I', h'⟩, e⟩ := loop_ex (bind := bName 8) (f := LB14) L5.d (fun b : List E6 × List (Int × Int) => E14 S n r m h now b.1 b.2 .un) (fun k b => Inv14 m h now b.1 b.2 ∧ b.1.length + k ≤ 3000) ls (es, kvs) ⟨I, hl⟩ (by
    rintro l hl k ⟨es, kvs⟩ ⟨I, hk⟩
    simp only at I hk
    obtain ⟨es', kvs', I', h1, e⟩ := step14 (S := S) (n := n) (r := r) I hm0 hm n0 (by omega) (hL l hl)
    exact ⟨(es', kvs'), ⟨I', by show es'.length + k ≤ 3000; omega⟩, e⟩)
  exact ⟨es', kvs', I', by simpa using h', e⟩
theorem beg14 {m h now : Int} (n0 : 0 ≤ now) : Inv14 m h now [.ask "ab" 3 "ann" 1, .ask "ab" 4 "joe" (now + 3)] [] where
  a := rfl
  b := rfl
  c := by simp [askE]
  w := fun e he => by
    simp only [List.mem_cons, List.not_mem_nil, or_false] at he
    rcases he with rfl | rfl
    · exact ⟨ok_ab, by decide, ok_ann, by decide⟩
    · exact ⟨ok_ab, by decide, ok_joe, by omega⟩
  k := ks_nil
  g := rfl
theorem beg14w {m h now : Int} (hm : m ≤ 7) (n0 : 0 ≤ now) (h0 : 0 ≤ h) (h1 : h < m) : Inv14 m h now [.ask "ab" 3 "ann" 1, .ask "ab" 4 "joe" (now + 3), .word "ab" h 4 (now + 3), .got "ab" 4 h (now + 3)] [(h, now + 3)] where
  a := rfl
  b := rfl
  c := by simp [askE]
  w := fun e he => by
    simp only [List.mem_cons, List.not_mem_nil, or_false] at he
    rcases he with rfl | rfl | rfl | rfl
    · exact ⟨ok_ab, by decide, ok_ann, by decide⟩
    · exact ⟨ok_ab, by decide, ok_joe, by omega⟩
    · exact ⟨ok_ab, by decide, h0, h1, by omega⟩
    · exact ⟨ok_ab, by decide, h0, h1, by omega⟩
  k := ks_put ks_nil (k := h) ⟨h0, by omega⟩ (now + 3)
  g := by
    have e : gotW "ab" 4 [.ask "ab" 3 "ann" 1, .ask "ab" 4 "joe" (now + 3), .word "ab" h 4 (now + 3), .got "ab" 4 h (now + 3)] = putW (fun _ => none) (h, now + 3) := by
      unfold gotW
      have : [E6.ask "ab" 3 "ann" 1, .ask "ab" 4 "joe" (now + 3), .word "ab" h 4 (now + 3), .got "ab" 4 h (now + 3)].filterMap (gotE "ab" 4) = [(h, now + 3)] := rfl
      rw [this]; rfl
    rw [e]
    funext j
    unfold putW lkI
    by_cases hj : j = h
    · subst hj; simp
    · have : (h == j) = false := by simpa using fun z => hj z.symm
      simp [List.find?_cons, hj, this]
def E14z (S : PyData) (n : Int) (r : PyData) (m h now : Int) (es : List E6) (kvs : List (Int × Int)) (x8 : Sl) : En := [.fz S, .fz (.int n), .mu r, .fz (.int m), .fz (.int h), .fz (.int now), .fz (logD es), .fz (.dict (kvs.map (kvD PyData.int))), x8]
def CB14 : Sf := (sSeq (sPre [8] (sFor (fSrc (fRow 2 4 M_law_letters (fCons (fVar 3) (fCons (fVar 4) (fCons (fVar 5) fNil))))) (bName 8) LB14))
  (sIf (gVal (fBin dNe (fBin dIx (fCall (gd 2 M_claim_in) (fCons (fVar 6) (fCons (fC (.str "ab")) fNil))) (fC (.int 3))) (fCall dTupOf (fCons (fItemsS (fVar 7)) fNil)))) (sRet (fC (.bool false))) sPass))
theorem half14 {S : PyData} {n : Int} {r : PyData} (hr : RowOk r) {m h now : Int} (hm0 : 2 ≤ m) (hm : m ≤ 7) (n0 : 0 ≤ now) {es : List E6} {kvs : List (Int × Int)} (I : Inv14 m h now es kvs) (hl : es.length ≤ 10) :
    ∃ r' es' kvs', CB14 (E14 S n r m h now es kvs .un) = some (.nx (E14z S n r' m h now es' kvs' .un)) := by
  obtain ⟨ls, r', e1, hL, hll, hr'⟩ := letters14 hr (h := h) hm0 hm n0
  obtain ⟨es', kvs', I', hl', e2⟩ := loop14 (S := S) (n := n) (r := r') hm0 hm n0 I hL (by omega)
  refine ⟨r', es', kvs', ?_⟩
  have st1 : (sPre [8] (sFor (fSrc (fRow 2 4 M_law_letters (fCons (fVar 3) (fCons (fVar 4) (fCons (fVar 5) fNil))))) (bName 8) LB14)) (E14 S n r m h now es kvs .un) = some (.nx (E14 S n r' m h now es' kvs' .un)) := by
    have c0 : clr (E14 S n r m h now es kvs .un) [8] = E14 S n r m h now es kvs .un := rfl
    have src : fSrc (fRow 2 4 M_law_letters (fCons (fVar 3) (fCons (fVar 4) (fCons (fVar 5) fNil)))) (E14 S n r m h now es kvs .un) = some (ls.map L5.d, E14 S n r' m h now es kvs .un) := fSrc_ok (fRow_ok (ε1 := E14 S n r m h now es kvs .un) rfl rfl rfl rfl e1) rfl
    rw [qPre, qFor, c0, src]
    exact e2
  have hc := claim_in_eq hm I'.w (by omega) ok_ab
  rw [I'.claim] at hc
  have hI : fItemsS (fVar 7) (E14 S n r' m h now es' kvs' .un) = some (.list ((canon (lkI kvs')).map pairD), E14z S n r' m h now es' kvs' .un) := by
    show (((intKV (kvs'.map (kvD PyData.int))).map fun ps => (PyData.list (sortT (ps.map pairD)), _)) : Option (PyData × En)) = _
    rw [intKV_map, Option.map_some, sortT_canon I'.k]; rfl
  have hw : wordsN "ab" 4 es' = canon (lkI kvs') := by rw [I'.g]; rfl
  have hlc : (canon (lkI kvs')).length ≤ 7 := by rw [← hw]; exact words_len ..
  have hsh : sh (.tuple ((canon (lkI kvs')).map pairD)) = true := by
    have key : ∀ ps : List (Int × Int), PyData.canLayAll0 (ps.map pairD) = true ∧ PyData.depthAll (ps.map pairD) ≤ 1 := by
      intro ps
      induction ps with
      | nil => exact ⟨rfl, by simp [PyData.depthAll]⟩
      | cons t ps ih =>
        have a : (pairD t).canLay0 = true := by simp [pairD, PyData.canLay0, PyData.canLayAll0]
        have b : (pairD t).depth ≤ 1 := by simp [pairD, PyData.depth, PyData.depthAll]
        simp only [List.map_cons, PyData.canLayAll0, PyData.depthAll, a, ih.1, Bool.and_self, true_and]
        have := ih.2
        omega
    obtain ⟨a, b⟩ := key (canon (lkI kvs'))
    simp only [sh, SeqAt.shaped, PyData.canLay0, PyData.depth, a, Bool.true_and]
    exact decide_eq_true (by omega)
  have hne : dNe (.tuple ((canon (lkI kvs')).map pairD)) (.tuple ((canon (lkI kvs')).map pairD)) = some (.bool false) := dNe_self hsh
  rw [hw] at hc
  have tst : gVal (fBin dNe (fBin dIx (fCall (gd 2 M_claim_in) (fCons (fVar 6) (fCons (fC (.str "ab")) fNil))) (fC (.int 3))) (fCall dTupOf (fCons (fItemsS (fVar 7)) fNil))) (E14 S n r' m h now es' kvs' .un) = some (false, E14z S n r' m h now es' kvs' .un) :=
    gVal_ok (fBin_ok (fBin_ok (fCall_ok rfl (gd_ok rfl hc)) rfl rfl) (fCall_ok (fCons_ok hI rfl) rfl) hne)
  exact sSeq_nx st1 (sIf_f tst rfl)
theorem fold_half : (sSeq (sPre [8] (sFor (fSrc (fRow 2 4 M_law_letters (fCons (fVar 3) (fCons (fVar 4) (fCons (fVar 5) fNil))))) (bName 8) (sClr [8] (sSeq (sIf (gNot (gTru (fRow 7 6 M_law_right (fCons (fVar 3) (fCons (fVar 4) (fCons (fVar 6) (fCons (fVar 8) (fCons (fVar 5) fNil)))))))) (sRet (fC (.bool false))) sPass)
  (sAsg 6 (fBin dAdd (fVar 6) (fBin dIx (fCall (gd 5 M_taken) (fCons (fVar 3) (fCons (fVar 4) (fCons (fVar 6) (fCons (fVar 8) (fCons (fVar 5) fNil)))))) (fC (.int 0)))))))))
  (sIf (gVal (fBin dNe (fBin dIx (fCall (gd 2 M_claim_in) (fCons (fVar 6) (fCons (fC (.str "ab")) fNil))) (fC (.int 3))) (fCall dTupOf (fCons (fItemsS (fVar 7)) fNil)))) (sRet (fC (.bool false))) sPass)) = CB14 := rfl
theorem cell14 (S : PyData) (n : Int) : ∃ r m h now es kvs, (sSeq (sAsgM 2 (fCall (gd 1 M_law_stream) (fCons (fVar 1) fNil)))
  (sSeq (sAsg 3 (fBin dAdd (fC (.int 2)) (fRow 2 2 M_law_take (fCons (fC (.int 6)) fNil))))
  (sSeq (sAsg 4 (fRow 2 2 M_law_take (fCons (fVar 3) fNil)))
  (sSeq (sAsg 5 (fBin dAdd (fC (.int 1)) (fRow 2 2 M_law_take (fCons (fC (.int 9)) fNil))))
  (sSeq (sAsg 6 (fCall dTup (fCons (fCall dTup (fCons (fC (.str "ask")) (fCons (fC (.str "ab")) (fCons (fC (.int 3)) (fCons (fC (.str "ann")) (fCons (fC (.int 1)) fNil)))))) (fCons (fCall dTup (fCons (fC (.str "ask")) (fCons (fC (.str "ab")) (fCons (fC (.int 4)) (fCons (fC (.str "joe")) (fCons (fBin dAdd (fVar 5) (fC (.int 3))) fNil)))))) fNil))))
  (sSeq (sAsgM 7 fDict0)
  (sSeq (sIf (gVal (fBin dEq (fRow 2 2 M_law_take (fCons (fC (.int 2)) fNil)) (fC (.int 0)))) (sSeq (sAsg 6 (fBin dAdd (fVar 6) (fCall dTup (fCons (fCall dTup (fCons (fC (.str "word")) (fCons (fC (.str "ab")) (fCons (fVar 4) (fCons (fC (.int 4)) (fCons (fBin dAdd (fVar 5) (fC (.int 3))) fNil)))))) (fCons (fCall dTup (fCons (fC (.str "got")) (fCons (fC (.str "ab")) (fCons (fC (.int 4)) (fCons (fVar 4) (fCons (fBin dAdd (fVar 5) (fC (.int 3))) fNil)))))) fNil)))))
  (sAsgM 7 (fDict1 (fVar 4) (fBin dAdd (fVar 5) (fC (.int 3)))))) sPass) CB14))))))) [.fz S, .fz (.int n), .un, .un, .un, .un, .un, .un, .un] = some (.nx (E14z S n r m h now es kvs .un)) := by
  obtain ⟨r, er, hr⟩ := stream_ok n
  have st1 : sAsgM 2 (fCall (gd 1 M_law_stream) (fCons (fVar 1) fNil)) [.fz S, .fz (.int n), .un, .un, .un, .un, .un, .un, .un] = some (.nx [.fz S, .fz (.int n), .mu r, .un, .un, .un, .un, .un, .un]) := sAsgM_ok (ε1 := [.fz S, .fz (.int n), .un, .un, .un, .un, .un, .un, .un]) (fCall_ok (fCons_ok rfl rfl) (gd_ok rfl er))
  obtain ⟨v, r1, e1, v0, v1, hr1⟩ := draw (ε := [.fz S, .fz (.int n), .mu r, .un, .un, .un, .un, .un, .un]) 2 rfl hr (m := 6) (by decide) (by decide) (fm := fC (.int 6)) rfl
  have st2 : sAsg 3 (fBin dAdd (fC (.int 2)) (fRow 2 2 M_law_take (fCons (fC (.int 6)) fNil))) [.fz S, .fz (.int n), .mu r, .un, .un, .un, .un, .un, .un] = some (.nx [.fz S, .fz (.int n), .mu r1, .fz (.int (2 + v)), .un, .un, .un, .un, .un]) := asg14_ok (fBin_ok rfl e1 rfl) rfl
  have m0 : 2 ≤ 2 + v := by omega
  have m1 : 2 + v ≤ 7 := by omega
  generalize 2 + v = m at *
  obtain ⟨h, r2, e2, h0, h1, hr2⟩ := draw (ε := [.fz S, .fz (.int n), .mu r1, .fz (.int m), .un, .un, .un, .un, .un]) 2 rfl hr1 (m := m) (by omega) (by omega) (fm := fVar 3) rfl
  have st3 : sAsg 4 (fRow 2 2 M_law_take (fCons (fVar 3) fNil)) [.fz S, .fz (.int n), .mu r1, .fz (.int m), .un, .un, .un, .un, .un] = some (.nx [.fz S, .fz (.int n), .mu r2, .fz (.int m), .fz (.int h), .un, .un, .un, .un]) := asg14_ok e2 rfl
  obtain ⟨w, r3, e3, w0, w1, hr3⟩ := draw (ε := [.fz S, .fz (.int n), .mu r2, .fz (.int m), .fz (.int h), .un, .un, .un, .un]) 2 rfl hr2 (m := 9) (by decide) (by decide) (fm := fC (.int 9)) rfl
  have st4 : sAsg 5 (fBin dAdd (fC (.int 1)) (fRow 2 2 M_law_take (fCons (fC (.int 9)) fNil))) [.fz S, .fz (.int n), .mu r2, .fz (.int m), .fz (.int h), .un, .un, .un, .un] = some (.nx [.fz S, .fz (.int n), .mu r3, .fz (.int m), .fz (.int h), .fz (.int (1 + w)), .un, .un, .un]) := asg14_ok (fBin_ok rfl e3 rfl) rfl
  have n0 : 0 ≤ 1 + w := by omega
  generalize 1 + w = now at *
  have st5 : sAsg 6 (fCall dTup (fCons (fCall dTup (fCons (fC (.str "ask")) (fCons (fC (.str "ab")) (fCons (fC (.int 3)) (fCons (fC (.str "ann")) (fCons (fC (.int 1)) fNil)))))) (fCons (fCall dTup (fCons (fC (.str "ask")) (fCons (fC (.str "ab")) (fCons (fC (.int 4)) (fCons (fC (.str "joe")) (fCons (fBin dAdd (fVar 5) (fC (.int 3))) fNil)))))) fNil))) [.fz S, .fz (.int n), .mu r3, .fz (.int m), .fz (.int h), .fz (.int now), .un, .un, .un] = some (.nx [.fz S, .fz (.int n), .mu r3, .fz (.int m), .fz (.int h), .fz (.int now), .fz (logD [.ask "ab" 3 "ann" 1, .ask "ab" 4 "joe" (now + 3)]), .un, .un]) := asg14_ok rfl rfl
  have st6 : sAsgM 7 fDict0 [.fz S, .fz (.int n), .mu r3, .fz (.int m), .fz (.int h), .fz (.int now), .fz (logD [.ask "ab" 3 "ann" 1, .ask "ab" 4 "joe" (now + 3)]), .un, .un] = some (.nx (E14 S n r3 m h now [.ask "ab" 3 "ann" 1, .ask "ab" 4 "joe" (now + 3)] [] .un)) := rfl
  obtain ⟨g, r4, e4, g0, g1, hr4⟩ := draw (ε := E14 S n r3 m h now [.ask "ab" 3 "ann" 1, .ask "ab" 4 "joe" (now + 3)] [] .un) 2 rfl hr3 (m := 2) (by decide) (by decide) (fm := fC (.int 2)) rfl
  have tst : gVal (fBin dEq (fRow 2 2 M_law_take (fCons (fC (.int 2)) fNil)) (fC (.int 0))) (E14 S n r3 m h now [.ask "ab" 3 "ann" 1, .ask "ab" 4 "joe" (now + 3)] [] .un) = some (g == 0, E14 S n r4 m h now [.ask "ab" 3 "ann" 1, .ask "ab" 4 "joe" (now + 3)] [] .un) := gVal_ok (fBin_ok e4 rfl dEq_int)
  cases hg : (g == 0) with
  | false =>
    rw [hg] at tst
    obtain ⟨r', es', kvs', e⟩ := half14 (S := S) (n := n) hr4 m0 m1 n0 (beg14 (m := m) (h := h) n0) (by simp)
    exact ⟨r', m, h, now, es', kvs', sSeq_nx st1 (sSeq_nx st2 (sSeq_nx st3 (sSeq_nx st4 (sSeq_nx st5 (sSeq_nx st6 (sSeq_nx (sIf_f tst rfl) e))))))⟩
  | true =>
    rw [hg] at tst
    obtain ⟨r', es', kvs', e⟩ := half14 (S := S) (n := n) hr4 m0 m1 n0 (beg14w m1 n0 h0 h1) (by simp)
    have ha : dAdd (logD [.ask "ab" 3 "ann" 1, .ask "ab" 4 "joe" (now + 3)]) (.tuple [.tuple [.str "word", .str "ab", .int h, .int 4, .int (now + 3)], .tuple [.str "got", .str "ab", .int 4, .int h, .int (now + 3)]]) = some (logD [.ask "ab" 3 "ann" 1, .ask "ab" 4 "joe" (now + 3), .word "ab" h 4 (now + 3), .got "ab" 4 h (now + 3)]) := qAddT (by simp)
    have stA : sAsg 6 (fBin dAdd (fVar 6) (fCall dTup (fCons (fCall dTup (fCons (fC (.str "word")) (fCons (fC (.str "ab")) (fCons (fVar 4) (fCons (fC (.int 4)) (fCons (fBin dAdd (fVar 5) (fC (.int 3))) fNil)))))) (fCons (fCall dTup (fCons (fC (.str "got")) (fCons (fC (.str "ab")) (fCons (fC (.int 4)) (fCons (fVar 4) (fCons (fBin dAdd (fVar 5) (fC (.int 3))) fNil)))))) fNil)))) (E14 S n r4 m h now [.ask "ab" 3 "ann" 1, .ask "ab" 4 "joe" (now + 3)] [] .un) = some (.nx (E14 S n r4 m h now [.ask "ab" 3 "ann" 1, .ask "ab" 4 "joe" (now + 3), .word "ab" h 4 (now + 3), .got "ab" 4 h (now + 3)] [] .un)) := asg14_ok (fBin_ok rfl rfl ha) rfl
    have stB : sAsgM 7 (fDict1 (fVar 4) (fBin dAdd (fVar 5) (fC (.int 3)))) (E14 S n r4 m h now [.ask "ab" 3 "ann" 1, .ask "ab" 4 "joe" (now + 3), .word "ab" h 4 (now + 3), .got "ab" 4 h (now + 3)] [] .un) = some (.nx (E14 S n r4 m h now [.ask "ab" 3 "ann" 1, .ask "ab" 4 "joe" (now + 3), .word "ab" h 4 (now + 3), .got "ab" 4 h (now + 3)] [(h, now + 3)] .un)) := rfl
    exact ⟨r', m, h, now, es', kvs', sSeq_nx st1 (sSeq_nx st2 (sSeq_nx st3 (sSeq_nx st4 (sSeq_nx st5 (sSeq_nx st6 (sSeq_nx (sIf_t tst (sSeq_nx stA stB)) e))))))⟩
theorem law_true (ns : List Int) (hl : ns.length ≤ 63) : M_law [.list (ns.map .int)] = some (.bool true) := by
  rw [ap_law]; unfold B_law
  rw [fold_half]
  have hadd : dAdd (.list [.int 0]) (.list ((ns.take 20).map .int)) = some (.list (((0 : Int) :: ns.take 20).map .int)) := qAddL (by simp; omega)
  have hc : cutD (ns.map PyData.int) none (some 20) = (ns.take 20).map PyData.int := by have := cutTo (ns.map PyData.int) 20; rw [List.map_take]; exact this
  have hq1 : dLst [.int 0] = some (.list [.int 0]) := qdLst (by simp)
  rw [qSeq, qPre, qFor, qSrc]
  have hq2 : (fBin dAdd (fCall dLst (fCons (fC (.int 0)) fNil)) (fSl (fVar 0) oNone (oSome (fC (.int 20))))) (clr [.fz (.list (ns.map .int)), .un, .un, .un, .un, .un, .un, .un, .un] [1, 2, 3, 4, 5, 6, 7, 8]) = some (.list (((0 : Int) :: ns.take 20).map .int), [.fz (.list (ns.map .int)), .un, .un, .un, .un, .un, .un, .un, .un]) := by walk_at "ev"
  rw [hq2]
  simp only [Option.bind_some, qSeqL, Option.map_some]
  rw [loop_id PyData.int ((0 : Int) :: ns.take 20) ?hd ?turn]
  case hd => rfl
  case turn =>
    intro n _
    obtain ⟨r, m, h, now, es, kvs, e⟩ := cell14 (.list (ns.map PyData.int)) n
    have b1 : bName 1 (PyData.int n) [.fz (.list (ns.map .int)), .un, .un, .un, .un, .un, .un, .un, .un] = some [.fz (.list (ns.map .int)), .fz (.int n), .un, .un, .un, .un, .un, .un, .un] := rfl
    rw [b1, Option.bind_some]
    exact (clr14 e).trans rfl
  rfl
def top (i : Nat) : Stmt := PySem.Challenge.pw_onename_k14_whole_yes_by_the_needed.main.body.getD i (.Pass ⟨0, 0, 0, 0⟩)
abbrev s_needed : Stmt := top 1
abbrev N_needed : List Str := ["many"]
abbrev P_needed : List Str := ["many"]
abbrev s_reach_of : Stmt := top 2
abbrev N_reach_of : List Str := ["numbers", "many", "least"]
abbrev P_reach_of : List Str := ["numbers", "many"]
abbrev s_word_in : Stmt := top 4
abbrev N_word_in : List Str := ["log", "name", "word", "entry"]
abbrev P_word_in : List Str := ["log", "name"]
abbrev s_entries_for : Stmt := top 5
abbrev N_entries_for : List Str := ["log", "kind", "name", "number", "entry"]
abbrev P_entries_for : List Str := ["log", "kind", "name", "number"]
abbrev s_words_for : Stmt := top 6
abbrev N_words_for : List Str := ["log", "name", "number", "untils", "entry", "house", "until"]
abbrev P_words_for : List Str := ["log", "name", "number"]
abbrev s_noes_for : Stmt := top 7
abbrev N_noes_for : List Str := ["log", "name", "number", "givers", "noes", "house", "until", "entry"]
abbrev P_noes_for : List Str := ["log", "name", "number"]
abbrev s_claim_in : Stmt := top 8
abbrev N_claim_in : List Str := ["log", "name", "numbers", "number", "asks", "until", "entry"]
abbrev P_claim_in : List Str := ["log", "name"]
abbrev s_others_of : Stmt := top 11
abbrev N_others_of : List Str := ["many", "house", "other"]
abbrev P_others_of : List Str := ["many", "house"]
abbrev s_told_letters : Stmt := top 12
abbrev N_told_letters : List Str := ["many", "notice", "name", "house", "number", "person", "noticed", "other"]
abbrev P_told_letters : List Str := ["many", "notice"]
abbrev s_reach_of_words : Stmt := top 13
abbrev N_reach_of_words : List Str := ["words", "many", "house", "until"]
abbrev P_reach_of_words : List Str := ["words", "many"]
abbrev s_news_of : Stmt := top 14
abbrev N_news_of : List Str := ["many", "log", "entries", "notice", "name", "house", "number", "person", "now", "ahead", "reach"]
abbrev P_news_of : List Str := ["many", "log", "entries", "notice"]
abbrev s_take_ask : Stmt := top 15
abbrev N_take_ask : List Str := ["house", "log", "letter", "now", "kind", "sender", "to", "name", "number", "person", "until", "word", "is_same", "entry"]
abbrev P_take_ask : List Str := ["house", "log", "letter", "now"]
abbrev s_take_word : Stmt := top 16
abbrev N_take_word : List Str := ["many", "house", "log", "letter", "now", "kind", "sender", "to", "name", "number", "until", "claim", "entries", "letters", "notice", "giver", "given"]
abbrev P_take_word : List Str := ["many", "house", "log", "letter", "now"]
abbrev s_take_no : Stmt := top 17
abbrev N_take_no : List Str := ["log", "letter", "kind", "sender", "to", "name", "number", "claim", "givers", "giver", "until"]
abbrev P_take_no : List Str := ["log", "letter"]
abbrev s_take_back : Stmt := top 18
abbrev N_take_back : List Str := ["log", "letter", "kind", "sender", "to", "name", "number", "word"]
abbrev P_take_back : List Str := ["log", "letter"]
abbrev s_take_told : Stmt := top 19
abbrev N_take_told : List Str := ["letter", "kind", "sender", "to", "name", "number", "person", "noticed"]
abbrev P_take_told : List Str := ["letter"]
abbrev s_taken : Stmt := top 20
abbrev N_taken : List Str := ["many", "house", "log", "letter", "now", "kind"]
abbrev P_taken : List Str := ["many", "house", "log", "letter", "now"]
abbrev s_law_stream : Stmt := top 22
abbrev N_law_stream : List Str := ["cell", "low"]
abbrev P_law_stream : List Str := ["cell"]
abbrev s_law_take : Stmt := top 23
abbrev N_law_take : List Str := ["row", "many", "got"]
abbrev P_law_take : List Str := ["row", "many"]
abbrev s_law_letters : Stmt := top 24
abbrev N_law_letters : List Str := ["row", "many", "house", "now", "left", "found", "sender", "until", "number", "letter", "other"]
abbrev P_law_letters : List Str := ["row", "many", "house", "now"]
abbrev s_law_right : Stmt := top 25
abbrev N_law_right : List Str := ["words", "many", "house", "log", "letter", "now", "entries", "sent", "notice", "ahead", "reach", "others", "other"]
abbrev P_law_right : List Str := ["many", "house", "log", "letter", "now", "words"]
abbrev s_law : Stmt := top 26
abbrev N_law : List Str := ["script", "cell", "row", "many", "house", "now", "log", "words", "letter"]
abbrev P_law : List Str := ["script"]
structure Ad where
  needed : Addr
  d_needed : FuncData
  reach_of : Addr
  d_reach_of : FuncData
  word_in : Addr
  d_word_in : FuncData
  entries_for : Addr
  d_entries_for : FuncData
  words_for : Addr
  d_words_for : FuncData
  noes_for : Addr
  d_noes_for : FuncData
  claim_in : Addr
  d_claim_in : FuncData
  others_of : Addr
  d_others_of : FuncData
  told_letters : Addr
  d_told_letters : FuncData
  reach_of_words : Addr
  d_reach_of_words : FuncData
  news_of : Addr
  d_news_of : FuncData
  take_ask : Addr
  d_take_ask : FuncData
  take_word : Addr
  d_take_word : FuncData
  take_no : Addr
  d_take_no : FuncData
  take_back : Addr
  d_take_back : FuncData
  take_told : Addr
  d_take_told : FuncData
  taken : Addr
  d_taken : FuncData
  law_stream : Addr
  d_law_stream : FuncData
  law_take : Addr
  d_law_take : FuncData
  law_letters : Addr
  d_law_letters : FuncData
  law_right : Addr
  d_law_right : FuncData
  law : Addr
  d_law : FuncData
  g_NOTHING : Addr
structure Txt (K : PySem.W.Frag) (mg : Str → Option Value) (A : Ad) : Prop where
  F_needed : Fun K "needed" "needed" s_needed A.needed A.d_needed
  m_needed : mg "needed" = some (.ref A.needed)
  b_needed : Binds K A.d_needed P_needed []
  F_reach_of : Fun K "reach_of" "reach_of" s_reach_of A.reach_of A.d_reach_of
  m_reach_of : mg "reach_of" = some (.ref A.reach_of)
  b_reach_of : Binds K A.d_reach_of P_reach_of []
  F_word_in : Fun K "word_in" "word_in" s_word_in A.word_in A.d_word_in
  m_word_in : mg "word_in" = some (.ref A.word_in)
  b_word_in : Binds K A.d_word_in P_word_in []
  F_entries_for : Fun K "entries_for" "entries_for" s_entries_for A.entries_for A.d_entries_for
  m_entries_for : mg "entries_for" = some (.ref A.entries_for)
  b_entries_for : Binds K A.d_entries_for P_entries_for []
  F_words_for : Fun K "words_for" "words_for" s_words_for A.words_for A.d_words_for
  m_words_for : mg "words_for" = some (.ref A.words_for)
  b_words_for : Binds K A.d_words_for P_words_for []
  F_noes_for : Fun K "noes_for" "noes_for" s_noes_for A.noes_for A.d_noes_for
  m_noes_for : mg "noes_for" = some (.ref A.noes_for)
  b_noes_for : Binds K A.d_noes_for P_noes_for []
  F_claim_in : Fun K "claim_in" "claim_in" s_claim_in A.claim_in A.d_claim_in
  m_claim_in : mg "claim_in" = some (.ref A.claim_in)
  b_claim_in : Binds K A.d_claim_in P_claim_in []
  F_others_of : Fun K "others_of" "others_of" s_others_of A.others_of A.d_others_of
  m_others_of : mg "others_of" = some (.ref A.others_of)
  b_others_of : Binds K A.d_others_of P_others_of []
  F_told_letters : Fun K "told_letters" "told_letters" s_told_letters A.told_letters A.d_told_letters
  m_told_letters : mg "told_letters" = some (.ref A.told_letters)
  b_told_letters : Binds K A.d_told_letters P_told_letters []
  F_reach_of_words : Fun K "reach_of_words" "reach_of_words" s_reach_of_words A.reach_of_words A.d_reach_of_words
  m_reach_of_words : mg "reach_of_words" = some (.ref A.reach_of_words)
  b_reach_of_words : Binds K A.d_reach_of_words P_reach_of_words []
  F_news_of : Fun K "news_of" "news_of" s_news_of A.news_of A.d_news_of
  m_news_of : mg "news_of" = some (.ref A.news_of)
  b_news_of : Binds K A.d_news_of P_news_of []
  F_take_ask : Fun K "take_ask" "take_ask" s_take_ask A.take_ask A.d_take_ask
  m_take_ask : mg "take_ask" = some (.ref A.take_ask)
  b_take_ask : Binds K A.d_take_ask P_take_ask []
  F_take_word : Fun K "take_word" "take_word" s_take_word A.take_word A.d_take_word
  m_take_word : mg "take_word" = some (.ref A.take_word)
  b_take_word : Binds K A.d_take_word P_take_word []
  F_take_no : Fun K "take_no" "take_no" s_take_no A.take_no A.d_take_no
  m_take_no : mg "take_no" = some (.ref A.take_no)
  b_take_no : Binds K A.d_take_no P_take_no []
  F_take_back : Fun K "take_back" "take_back" s_take_back A.take_back A.d_take_back
  m_take_back : mg "take_back" = some (.ref A.take_back)
  b_take_back : Binds K A.d_take_back P_take_back []
  F_take_told : Fun K "take_told" "take_told" s_take_told A.take_told A.d_take_told
  m_take_told : mg "take_told" = some (.ref A.take_told)
  b_take_told : Binds K A.d_take_told P_take_told []
  F_taken : Fun K "taken" "taken" s_taken A.taken A.d_taken
  m_taken : mg "taken" = some (.ref A.taken)
  b_taken : Binds K A.d_taken P_taken []
  F_law_stream : Fun K "_law_stream" "_law_stream" s_law_stream A.law_stream A.d_law_stream
  m_law_stream : mg "_law_stream" = some (.ref A.law_stream)
  b_law_stream : Binds K A.d_law_stream P_law_stream []
  F_law_take : Fun K "_law_take" "_law_take" s_law_take A.law_take A.d_law_take
  m_law_take : mg "_law_take" = some (.ref A.law_take)
  b_law_take : Binds K A.d_law_take P_law_take []
  F_law_letters : Fun K "_law_letters" "_law_letters" s_law_letters A.law_letters A.d_law_letters
  m_law_letters : mg "_law_letters" = some (.ref A.law_letters)
  b_law_letters : Binds K A.d_law_letters P_law_letters []
  F_law_right : Fun K "_law_right" "_law_right" s_law_right A.law_right A.d_law_right
  m_law_right : mg "_law_right" = some (.ref A.law_right)
  b_law_right : Binds K A.d_law_right P_law_right []
  F_law : Fun K "law" "law" s_law A.law A.d_law
  m_law : mg "law" = some (.ref A.law)
  b_law : Binds K A.d_law P_law []
  n_any : mg "any" = none
  n_int : mg "int" = none
  n_len : mg "len" = none
  n_list : mg "list" = none
  n_max : mg "max" = none
  n_range : mg "range" = none
  n_sorted : mg "sorted" = none
  n_tuple : mg "tuple" = none
  m_g_NOTHING : mg "NOTHING" = some (.ref A.g_NOTHING)
  p_g_NOTHING : ∀ G, Rp K G (.ref A.g_NOTHING) (.tuple [(.tuple []), (.tuple []), .none])
section
variable {P : Program} {w : World} {K : PySem.W.Frag} {mg : Str → Option Value} {base : Heap} {A : Ad}
theorem sc_needed : FnScope N_needed P_needed (defScope s_needed) := ⟨rfl, rfl, rfl, by decide +kernel, rfl, by decide +kernel, by decide +kernel⟩
theorem ok_needed (T : Txt K mg A) : FnOk P w K mg base CX0 1 A.needed A.d_needed P_needed (spP K 1 M_needed) :=
  fun_pure (k := 0) (N := N_needed) (ps := P_needed) (fb := B_needed) T.F_needed sc_needed fun cdv _ outer s H E hr =>
      (bv_one (sv_ret (ev_op op_plus od_add (ev_op op_fdivB od_fdiv (ev_var 0 (pv 0)) ev_int) ev_int)))
theorem sc_reach_of : FnScope N_reach_of P_reach_of (defScope s_reach_of) := ⟨rfl, rfl, rfl, by decide +kernel, rfl, by decide +kernel, by decide +kernel⟩
theorem ok_reach_of (T : Txt K mg A) : FnOk P w K mg base CX0 2 A.reach_of A.d_reach_of P_reach_of (spP K 2 M_reach_of) :=
  fun_pure (k := 1) (N := N_reach_of) (ps := P_reach_of) (fb := B_reach_of) T.F_reach_of sc_reach_of fun cdv _ outer s H E hr =>
      (bv_cons (sv_set 2 (by decide) sc_reach_of.nd rfl (by first | exact Or.inl rfl | exact Or.inr rfl) (ev_call (ok_needed T) (hr.mono (by decide)) rfl T.m_needed T.F_needed.kp T.b_needed rfl (av_cons (ev_var 1 (pv 1)) av_nil)))
      (bv_cons (sv_if (tv_cmp op_lt od_lt (ev_callB call_len cd_len rfl T.n_len (by decide +kernel) (av_cons (ev_var 0 (pv 0)) av_nil)) (ev_var 2 (pv 2)) (nomark _)) (bv_one (sv_ret ev_int)) bv_nil)
      (bv_one (sv_ret (ev_ix (ev_callKB kr_sorted kd_sorted rfl T.n_sorted (by decide +kernel) (av_cons (ev_var 0 (pv 0)) av_nil) (kv_cons ev_bl kv_nil)) (ev_op op_sub od_sub (ev_var 2 (pv 2)) ev_int) (fun _ _ => rfl))))))
theorem sc_word_in : FnScope N_word_in P_word_in (defScope s_word_in) := ⟨rfl, rfl, rfl, by decide +kernel, rfl, by decide +kernel, by decide +kernel⟩
theorem ok_word_in (T : Txt K mg A) : FnOk P w K mg base CX0 1 A.word_in A.d_word_in P_word_in (spP K 2 M_word_in) :=
  fun_pure (k := 0) (N := N_word_in) (ps := P_word_in) (fb := B_word_in) T.F_word_in sc_word_in fun cdv _ outer s H E hr =>
      (bv_cons (sv_set 2 (by decide) sc_word_in.nd rfl (by first | exact Or.inl rfl | exact Or.inr rfl) ev_non)
      (bv_cons (sv_pre (vs := [3]) (sv_for PassesOwn.never rfl (iv_seq (ev_var 0 (pv 0))) (gv_name (i := 3) sc_word_in.nd rfl (by first | exact Or.inl rfl | exact Or.inr rfl)) (tg_name (by decide)) (bv_clr (vs := [3]) (bv_one (sv_if (tv_w (wv_and (tv_cmp (op_eqD hr.units) od_eq (ev_ix (ev_var 3 (pv 3)) ev_int (fun _ _ => rfl)) ev_str (nomark _)) (wv_and1 (tv_cmp (op_eqD hr.units) od_eq (ev_ix (ev_var 3 (pv 3)) ev_int (fun _ _ => rfl)) (ev_var 1 (pv 1)) (nomark _))))) (bv_one (sv_set 2 (by decide) sc_word_in.nd rfl (by first | exact Or.inl rfl | exact Or.inr rfl) (ev_sl (ev_var 3 (pv 3)) (ov_some ev_int) ov_none))) (bv_one (sv_if (tv_w (wv_and (tv_cmp (op_eqD hr.units) od_eq (ev_ix (ev_var 3 (pv 3)) ev_int (fun _ _ => rfl)) ev_str (nomark _)) (wv_and (tv_cmp (op_eqD hr.units) od_eq (ev_ix (ev_var 3 (pv 3)) ev_int (fun _ _ => rfl)) (ev_var 1 (pv 1)) (nomark _)) (wv_and (tv_cmp op_notN od_isnot (ev_var 2 (pv 2)) ev_non (nomark _)) (wv_and1 (tv_cmp (op_eqD hr.units) od_eq (ev_sl (ev_var 2 (pv 2)) ov_none (ov_some ev_int)) (ev_sl (ev_var 3 (pv 3)) (ov_some ev_int) ov_none) (nomark _))))))) (bv_one (sv_set 2 (by decide) sc_word_in.nd rfl (by first | exact Or.inl rfl | exact Or.inr rfl) ev_non)) bv_nil)))))))
      (bv_one (sv_ret (ev_var 2 (pv 2))))))
theorem sc_entries_for : FnScope N_entries_for P_entries_for (defScope s_entries_for) := ⟨rfl, rfl, rfl, by decide +kernel, rfl, by decide +kernel, by decide +kernel⟩
theorem ok_entries_for (T : Txt K mg A) : FnOk P w K mg base CX0 1 A.entries_for A.d_entries_for P_entries_for (spP K 4 M_entries_for) :=
  fun_pure (k := 0) (N := N_entries_for) (ps := P_entries_for) (fb := B_entries_for) T.F_entries_for sc_entries_for fun cdv _ outer s H E hr =>
      (bv_one (sv_ret (ev_of_fv (fv_lc [("entry", 4)] (by decide) (tg_name (by decide)) rfl sc_entries_for.nd (iv_seq (ev_var 0 (pv 0))) (blkOk_by (own := [("entry", 4)]) (N := N_entries_for) (sc := defScope s_entries_for) (by decide +kernel)) (fun _ _ _ _ _ => (gv_name (i := 4) sc_entries_for.nd rfl (by first | exact Or.inl rfl | exact Or.inr rfl))) (fun _ _ _ _ _ => (tvs_one (tv_w (wv_and (tv_cmp (op_eqD hr.units) od_eq (ev_ix (ev_var 4 (pv 4)) ev_int (fun _ _ => rfl)) (ev_var 1 (pv 1)) (nomark _)) (wv_and (tv_cmp (op_eqD hr.units) od_eq (ev_ix (ev_var 4 (pv 4)) ev_int (fun _ _ => rfl)) (ev_var 2 (pv 2)) (nomark _)) (wv_and1 (tv_cmp (op_eqD hr.units) od_eq (ev_ix (ev_var 4 (pv 4)) ev_int (fun _ _ => rfl)) (ev_var 3 (pv 3)) (nomark _)))))))) (fun _ _ _ _ _ => (ev_var 4 (pv 4)))))))
theorem sc_words_for : FnScope N_words_for P_words_for (defScope s_words_for) := ⟨rfl, rfl, rfl, by decide +kernel, rfl, by decide +kernel, by decide +kernel⟩
theorem ok_words_for (T : Txt K mg A) : FnOk P w K mg base CX0 2 A.words_for A.d_words_for P_words_for (spP K 3 M_words_for) :=
  fun_pure (k := 1) (N := N_words_for) (ps := P_words_for) (fb := B_words_for) T.F_words_for sc_words_for fun cdv _ outer s H E hr =>
      (bv_cons (sv_setM 3 (by decide) sc_words_for.nd rfl (by first | exact Or.inl rfl | exact Or.inr rfl) fv_dict0)
      (bv_cons (sv_pre (vs := [4, 5, 6]) (sv_for PassesOwn.never rfl (iv_seq (ev_call (ok_entries_for T) (hr.mono (by decide)) rfl T.m_entries_for T.F_entries_for.kp T.b_entries_for rfl (av_cons (ev_var 0 (pv 0)) (av_cons ev_str (av_cons (ev_var 1 (pv 1)) (av_cons (ev_var 2 (pv 2)) av_nil)))))) (gv_name (i := 4) sc_words_for.nd rfl (by first | exact Or.inl rfl | exact Or.inr rfl)) (tg_name (by decide)) (bv_clr (vs := [4, 5, 6]) (bv_cons (sv_asgT (gv_tup rfl (gvs_cons (gv_name (i := 5) sc_words_for.nd rfl (by first | exact Or.inl rfl | exact Or.inr rfl)) (gvs_cons (gv_name (i := 6) sc_words_for.nd rfl (by first | exact Or.inl rfl | exact Or.inr rfl)) gvs_nil))) (tg_tup (is := [5, 6]) (by decide) rfl) (ev_sl (ev_var 4 (pv 4)) (ov_some ev_int) ov_none))
      (bv_one (sv_putM 3 (hu_of hr) (ev_callB (cr_maxD rfl) cd_max rfl T.n_max (by decide +kernel) (av_cons (ev_var 6 (pv 6)) (av_cons (ev_getM 3 (hu_of hr) (pv 3) (ev_var 5 (pv 5)) (ev_var 6 (pv 6)) ⟨rfl, rfl, rfl, rfl⟩) av_nil))) (pv 3) (ev_var 5 (pv 5))))))))
      (bv_one (sv_ret (ev_callTy call_tuple_of cd_tuple rfl T.n_tuple (by decide +kernel) (av_cons (ev_itemsS rfl rfl T.n_sorted (ev_var 3 (pv 3))) av_nil))))))
theorem sc_noes_for : FnScope N_noes_for P_noes_for (defScope s_noes_for) := ⟨rfl, rfl, rfl, by decide +kernel, rfl, by decide +kernel, by decide +kernel⟩
theorem ok_noes_for (T : Txt K mg A) : FnOk P w K mg base CX0 3 A.noes_for A.d_noes_for P_noes_for (spP K 3 M_noes_for) :=
  fun_pure (k := 2) (N := N_noes_for) (ps := P_noes_for) (fb := B_noes_for) T.F_noes_for sc_noes_for fun cdv _ outer s H E hr =>
      (bv_cons (sv_set 3 (by decide) sc_noes_for.nd rfl (by first | exact Or.inl rfl | exact Or.inr rfl) (ev_of_fv (fv_lc [("house", 5), ("until", 6)] (by decide) (tg_tup (is := [5, 6]) (by decide) rfl) rfl sc_noes_for.nd (iv_seq (ev_call (ok_words_for T) (hr.mono (by decide)) rfl T.m_words_for T.F_words_for.kp T.b_words_for rfl (av_cons (ev_var 0 (pv 0)) (av_cons (ev_var 1 (pv 1)) (av_cons (ev_var 2 (pv 2)) av_nil))))) (blkOk_by (own := [("house", 5), ("until", 6)]) (N := N_noes_for) (sc := defScope s_noes_for) (by decide +kernel)) (fun _ _ _ _ _ => (gv_tup rfl (gvs_cons (gv_name (i := 5) sc_noes_for.nd rfl (by first | exact Or.inl rfl | exact Or.inr rfl)) (gvs_cons (gv_name (i := 6) sc_noes_for.nd rfl (by first | exact Or.inl rfl | exact Or.inr rfl)) gvs_nil)))) (fun _ _ _ _ _ => tvs_nil) (fun _ _ _ _ _ => (ev_var 5 (pv 5))))))
      (bv_cons (sv_setLc 4 [("entry", 7)] (by decide) (by decide) (tg_name (by decide)) rfl sc_noes_for.nd rfl rfl (sw_true rfl rfl rfl (by decide +kernel)) (iv_seq (ev_call (ok_entries_for T) (hr.mono (by decide)) rfl T.m_entries_for T.F_entries_for.kp T.b_entries_for rfl (av_cons (ev_var 0 (pv 0)) (av_cons ev_str (av_cons (ev_var 1 (pv 1)) (av_cons (ev_var 2 (pv 2)) av_nil)))))) (blkOk_by (own := [("entry", 7)]) (N := N_noes_for) (sc := defScope s_noes_for) (by decide +kernel)) (fun _ _ _ _ _ => (gv_name (i := 7) sc_noes_for.nd rfl (by first | exact Or.inl rfl | exact Or.inr rfl))) (fun _ _ _ _ _ => tvs_nil) (fun _ _ _ _ _ => (ev_ix (ev_var 7 (pv 7)) ev_int (fun _ _ => rfl))))
      (bv_one (sv_ret (ev_callTy call_tuple_of cd_tuple rfl T.n_tuple (by decide +kernel) (av_cons (ev_sortedSC [("house", 5)] (by decide) (tg_name (by decide)) rfl sc_noes_for.nd rfl T.n_sorted (iv_seq (ev_var 4 (pv 4))) (blkOk_by (own := [("house", 5)]) (N := N_noes_for) (sc := defScope s_noes_for) (by decide +kernel)) (fun _ _ _ _ _ => (gv_name (i := 5) sc_noes_for.nd rfl (by first | exact Or.inl rfl | exact Or.inr rfl))) (fun _ _ _ _ _ => (tvs_one (tv_cmp (op_notInD (room70 hr)) od_notin (ev_var 5 (pv 5)) (ev_var 3 (pv 3)) rfl))) (fun _ _ _ _ _ => (ev_var 5 (pv 5)))) av_nil))))))
theorem sc_claim_in : FnScope N_claim_in P_claim_in (defScope s_claim_in) := ⟨rfl, rfl, rfl, by decide +kernel, rfl, by decide +kernel, by decide +kernel⟩
theorem ok_claim_in (T : Txt K mg A) : FnOk P w K mg base CX0 4 A.claim_in A.d_claim_in P_claim_in (spP K 2 M_claim_in) :=
  fun_pure (k := 3) (N := N_claim_in) (ps := P_claim_in) (fb := B_claim_in) T.F_claim_in sc_claim_in fun cdv _ outer s H E hr =>
      (bv_cons (sv_setLc 2 [("entry", 6)] (by decide) (by decide) (tg_name (by decide)) rfl sc_claim_in.nd rfl rfl (sw_true rfl rfl rfl (by decide +kernel)) (iv_seq (ev_var 0 (pv 0))) (blkOk_by (own := [("entry", 6)]) (N := N_claim_in) (sc := defScope s_claim_in) (by decide +kernel)) (fun _ _ _ _ _ => (gv_name (i := 6) sc_claim_in.nd rfl (by first | exact Or.inl rfl | exact Or.inr rfl))) (fun _ _ _ _ _ => (tvs_one (tv_w (wv_and (tv_cmp (op_eqD hr.units) od_eq (ev_ix (ev_var 6 (pv 6)) ev_int (fun _ _ => rfl)) ev_str (nomark _)) (wv_and1 (tv_cmp (op_eqD hr.units) od_eq (ev_ix (ev_var 6 (pv 6)) ev_int (fun _ _ => rfl)) (ev_var 1 (pv 1)) (nomark _))))))) (fun _ _ _ _ _ => (ev_ix (ev_var 6 (pv 6)) ev_int (fun _ _ => rfl))))
      (bv_cons (sv_if (tv_not (tv_tru (ev_var 2 (pv 2)))) (bv_one (sv_ret ev_non)) bv_nil)
      (bv_cons (sv_set 3 (by decide) sc_claim_in.nd rfl (by first | exact Or.inl rfl | exact Or.inr rfl) (ev_callB (cr_maxD rfl) cd_max rfl T.n_max (by decide +kernel) (av_cons (ev_var 2 (pv 2)) av_nil)))
      (bv_cons (sv_if (tv_cmp (op_inD (room70 hr)) od_in (ev_tup (av_cons ev_str (av_cons (ev_var 1 (pv 1)) (av_cons (ev_var 3 (pv 3)) av_nil)))) (ev_var 0 (pv 0)) rfl) (bv_one (sv_ret ev_non)) bv_nil)
      (bv_cons (sv_set 4 (by decide) sc_claim_in.nd rfl (by first | exact Or.inl rfl | exact Or.inr rfl) (ev_call (ok_entries_for T) (hr.mono (by decide)) rfl T.m_entries_for T.F_entries_for.kp T.b_entries_for rfl (av_cons (ev_var 0 (pv 0)) (av_cons ev_str (av_cons (ev_var 1 (pv 1)) (av_cons (ev_var 3 (pv 3)) av_nil))))))
      (bv_cons (sv_set 5 (by decide) sc_claim_in.nd rfl (by first | exact Or.inl rfl | exact Or.inr rfl) (ev_callB (cr_maxD rfl) cd_max rfl T.n_max (by decide +kernel) (av_cons (ev_of_fv (fv_lc [("entry", 6)] (by decide) (tg_name (by decide)) rfl sc_claim_in.nd (iv_seq (ev_var 4 (pv 4))) (blkOk_by (own := [("entry", 6)]) (N := N_claim_in) (sc := defScope s_claim_in) (by decide +kernel)) (fun _ _ _ _ _ => (gv_name (i := 6) sc_claim_in.nd rfl (by first | exact Or.inl rfl | exact Or.inr rfl))) (fun _ _ _ _ _ => tvs_nil) (fun _ _ _ _ _ => (ev_ix (ev_var 6 (pv 6)) ev_int (fun _ _ => rfl))))) av_nil)))
      (bv_one (sv_ret (ev_tup (av_cons (ev_var 3 (pv 3)) (av_cons (ev_ix (ev_ix (ev_var 4 (pv 4)) (ev_un un_neg ud_neg ev_int) (fun _ _ => rfl)) ev_int (fun _ _ => rfl)) (av_cons (ev_var 5 (pv 5)) (av_cons (ev_call (ok_words_for T) (hr.mono (by decide)) rfl T.m_words_for T.F_words_for.kp T.b_words_for rfl (av_cons (ev_var 0 (pv 0)) (av_cons (ev_var 1 (pv 1)) (av_cons (ev_var 3 (pv 3)) av_nil)))) (av_cons (ev_call (ok_noes_for T) (hr.mono (by decide)) rfl T.m_noes_for T.F_noes_for.kp T.b_noes_for rfl (av_cons (ev_var 0 (pv 0)) (av_cons (ev_var 1 (pv 1)) (av_cons (ev_var 3 (pv 3)) av_nil)))) av_nil))))))))))))))
theorem sc_others_of : FnScope N_others_of P_others_of (defScope s_others_of) := ⟨rfl, rfl, rfl, by decide +kernel, rfl, by decide +kernel, by decide +kernel⟩
theorem ok_others_of (T : Txt K mg A) : FnOk P w K mg base CX0 1 A.others_of A.d_others_of P_others_of (spP K 2 M_others_of) :=
  fun_pure (k := 0) (N := N_others_of) (ps := P_others_of) (fb := B_others_of) T.F_others_of sc_others_of fun cdv _ outer s H E hr =>
      (bv_one (sv_ret (ev_of_fv (fv_lc [("other", 2)] (by decide) (tg_name (by decide)) rfl sc_others_of.nd (iv_range1 rfl T.n_range (av_cons (ev_var 0 (pv 0)) av_nil)) (blkOk_by (own := [("other", 2)]) (N := N_others_of) (sc := defScope s_others_of) (by decide +kernel)) (fun _ _ _ _ _ => (gv_name (i := 2) sc_others_of.nd rfl (by first | exact Or.inl rfl | exact Or.inr rfl))) (fun _ _ _ _ _ => (tvs_one (tv_cmp (op_neD hr.units) od_ne (ev_var 2 (pv 2)) (ev_var 1 (pv 1)) (nomark _)))) (fun _ _ _ _ _ => (ev_var 2 (pv 2)))))))
theorem sc_told_letters : FnScope N_told_letters P_told_letters (defScope s_told_letters) := ⟨rfl, rfl, rfl, by decide +kernel, rfl, by decide +kernel, by decide +kernel⟩
theorem ok_told_letters (T : Txt K mg A) : FnOk P w K mg base CX0 2 A.told_letters A.d_told_letters P_told_letters (spP K 2 M_told_letters) :=
  fun_pure (k := 1) (N := N_told_letters) (ps := P_told_letters) (fb := B_told_letters) T.F_told_letters sc_told_letters fun cdv _ outer s H E hr =>
      (bv_cons (sv_asgT (gv_tup rfl (gvs_cons (gv_name (i := 2) sc_told_letters.nd rfl (by first | exact Or.inl rfl | exact Or.inr rfl)) (gvs_cons (gv_name (i := 3) sc_told_letters.nd rfl (by first | exact Or.inl rfl | exact Or.inr rfl)) (gvs_cons (gv_name (i := 4) sc_told_letters.nd rfl (by first | exact Or.inl rfl | exact Or.inr rfl)) (gvs_cons (gv_name (i := 5) sc_told_letters.nd rfl (by first | exact Or.inl rfl | exact Or.inr rfl)) (gvs_cons (gv_name (i := 6) sc_told_letters.nd rfl (by first | exact Or.inl rfl | exact Or.inr rfl)) gvs_nil)))))) (tg_tup (is := [2, 3, 4, 5, 6]) (by decide) rfl) (ev_var 1 (pv 1)))
      (bv_one (sv_ret (ev_callTy call_tuple_of cd_tuple rfl T.n_tuple (by decide +kernel) (av_cons (ev_of_fv (fv_lc [("other", 7)] (by decide) (tg_name (by decide)) rfl sc_told_letters.nd (iv_seq (ev_call (ok_others_of T) (hr.mono (by decide)) rfl T.m_others_of T.F_others_of.kp T.b_others_of rfl (av_cons (ev_var 0 (pv 0)) (av_cons (ev_var 3 (pv 3)) av_nil)))) (blkOk_by (own := [("other", 7)]) (N := N_told_letters) (sc := defScope s_told_letters) (by decide +kernel)) (fun _ _ _ _ _ => (gv_name (i := 7) sc_told_letters.nd rfl (by first | exact Or.inl rfl | exact Or.inr rfl))) (fun _ _ _ _ _ => tvs_nil) (fun _ _ _ _ _ => (ev_tup (av_cons ev_str (av_cons (ev_var 3 (pv 3)) (av_cons (ev_var 7 (pv 7)) (av_cons (ev_var 2 (pv 2)) (av_cons (ev_var 4 (pv 4)) (av_cons (ev_var 5 (pv 5)) (av_cons (ev_var 6 (pv 6)) av_nil))))))))))) av_nil)))))
theorem sc_reach_of_words : FnScope N_reach_of_words P_reach_of_words (defScope s_reach_of_words) := ⟨rfl, rfl, rfl, by decide +kernel, rfl, by decide +kernel, by decide +kernel⟩
theorem ok_reach_of_words (T : Txt K mg A) : FnOk P w K mg base CX0 3 A.reach_of_words A.d_reach_of_words P_reach_of_words (spP K 2 M_reach_of_words) :=
  fun_pure (k := 2) (N := N_reach_of_words) (ps := P_reach_of_words) (fb := B_reach_of_words) T.F_reach_of_words sc_reach_of_words fun cdv _ outer s H E hr =>
      (bv_one (sv_ret (ev_call (ok_reach_of T) (hr.mono (by decide)) rfl T.m_reach_of T.F_reach_of.kp T.b_reach_of rfl (av_cons (ev_of_fv (fv_lc [("house", 2), ("until", 3)] (by decide) (tg_tup (is := [2, 3]) (by decide) rfl) rfl sc_reach_of_words.nd (iv_seq (ev_var 0 (pv 0))) (blkOk_by (own := [("house", 2), ("until", 3)]) (N := N_reach_of_words) (sc := defScope s_reach_of_words) (by decide +kernel)) (fun _ _ _ _ _ => (gv_tup rfl (gvs_cons (gv_name (i := 2) sc_reach_of_words.nd rfl (by first | exact Or.inl rfl | exact Or.inr rfl)) (gvs_cons (gv_name (i := 3) sc_reach_of_words.nd rfl (by first | exact Or.inl rfl | exact Or.inr rfl)) gvs_nil)))) (fun _ _ _ _ _ => tvs_nil) (fun _ _ _ _ _ => (ev_var 3 (pv 3))))) (av_cons (ev_var 1 (pv 1)) av_nil)))))
theorem sc_news_of : FnScope N_news_of P_news_of (defScope s_news_of) := ⟨rfl, rfl, rfl, by decide +kernel, rfl, by decide +kernel, by decide +kernel⟩
theorem ok_news_of (T : Txt K mg A) : FnOk P w K mg base CX0 4 A.news_of A.d_news_of P_news_of (spP K 4 M_news_of) :=
  fun_pure (k := 3) (N := N_news_of) (ps := P_news_of) (fb := B_news_of) T.F_news_of sc_news_of fun cdv _ outer s H E hr =>
      (bv_cons (sv_asgT (gv_tup rfl (gvs_cons (gv_name (i := 4) sc_news_of.nd rfl (by first | exact Or.inl rfl | exact Or.inr rfl)) (gvs_cons (gv_name (i := 5) sc_news_of.nd rfl (by first | exact Or.inl rfl | exact Or.inr rfl)) (gvs_cons (gv_name (i := 6) sc_news_of.nd rfl (by first | exact Or.inl rfl | exact Or.inr rfl)) (gvs_cons (gv_name (i := 7) sc_news_of.nd rfl (by first | exact Or.inl rfl | exact Or.inr rfl)) (gvs_cons (gv_name (i := 8) sc_news_of.nd rfl (by first | exact Or.inl rfl | exact Or.inr rfl)) gvs_nil)))))) (tg_tup (is := [4, 5, 6, 7, 8]) (by decide) rfl) (ev_var 3 (pv 3)))
      (bv_cons (sv_set 9 (by decide) sc_news_of.nd rfl (by first | exact Or.inl rfl | exact Or.inr rfl) (ev_call (ok_reach_of_words T) (hr.mono (by decide)) rfl T.m_reach_of_words T.F_reach_of_words.kp T.b_reach_of_words rfl (av_cons (ev_call (ok_words_for T) (hr.mono (by decide)) rfl T.m_words_for T.F_words_for.kp T.b_words_for rfl (av_cons (ev_var 1 (pv 1)) (av_cons (ev_var 4 (pv 4)) (av_cons (ev_var 6 (pv 6)) av_nil)))) (av_cons (ev_var 0 (pv 0)) av_nil))))
      (bv_cons (sv_set 10 (by decide) sc_news_of.nd rfl (by first | exact Or.inl rfl | exact Or.inr rfl) (ev_call (ok_reach_of_words T) (hr.mono (by decide)) rfl T.m_reach_of_words T.F_reach_of_words.kp T.b_reach_of_words rfl (av_cons (ev_call (ok_words_for T) (hr.mono (by decide)) rfl T.m_words_for T.F_words_for.kp T.b_words_for rfl (av_cons (ev_op op_plus od_add (ev_var 1 (pv 1)) (ev_var 2 (pv 2))) (av_cons (ev_var 4 (pv 4)) (av_cons (ev_var 6 (pv 6)) av_nil)))) (av_cons (ev_var 0 (pv 0)) av_nil))))
      (bv_cons (sv_if (tv_w (wv_or (tv_cmp op_le od_le (ev_var 10 (pv 10)) (ev_var 9 (pv 9)) (nomark _)) (wv_or1 (tv_cmp op_le od_le (ev_var 10 (pv 10)) (ev_var 8 (pv 8)) (nomark _))))) (bv_one (sv_ret (ev_tup (av_cons (ev_tup av_nil) (av_cons ev_non av_nil))))) bv_nil)
      (bv_one (sv_ret (ev_tup (av_cons (ev_call (ok_told_letters T) (hr.mono (by decide)) rfl T.m_told_letters T.F_told_letters.kp T.b_told_letters rfl (av_cons (ev_var 0 (pv 0)) (av_cons (ev_var 3 (pv 3)) av_nil))) (av_cons (ev_var 3 (pv 3)) av_nil)))))))))
theorem sc_take_ask : FnScope N_take_ask P_take_ask (defScope s_take_ask) := ⟨rfl, rfl, rfl, by decide +kernel, rfl, by decide +kernel, by decide +kernel⟩
theorem ok_take_ask (T : Txt K mg A) : FnOk P w K mg base CX0 2 A.take_ask A.d_take_ask P_take_ask (spP K 4 M_take_ask) :=
  fun_pure (k := 1) (N := N_take_ask) (ps := P_take_ask) (fb := B_take_ask) T.F_take_ask sc_take_ask fun cdv _ outer s H E hr =>
      (bv_cons (sv_asgT (gv_tup rfl (gvs_cons (gv_name (i := 4) sc_take_ask.nd rfl (by first | exact Or.inl rfl | exact Or.inr rfl)) (gvs_cons (gv_name (i := 5) sc_take_ask.nd rfl (by first | exact Or.inl rfl | exact Or.inr rfl)) (gvs_cons (gv_name (i := 6) sc_take_ask.nd rfl (by first | exact Or.inl rfl | exact Or.inr rfl)) (gvs_cons (gv_name (i := 7) sc_take_ask.nd rfl (by first | exact Or.inl rfl | exact Or.inr rfl)) (gvs_cons (gv_name (i := 8) sc_take_ask.nd rfl (by first | exact Or.inl rfl | exact Or.inr rfl)) (gvs_cons (gv_name (i := 9) sc_take_ask.nd rfl (by first | exact Or.inl rfl | exact Or.inr rfl)) (gvs_cons (gv_name (i := 10) sc_take_ask.nd rfl (by first | exact Or.inl rfl | exact Or.inr rfl)) gvs_nil)))))))) (tg_tup (is := [4, 5, 6, 7, 8, 9, 10]) (by decide) rfl) (ev_var 2 (pv 2)))
      (bv_cons (sv_if (tv_cmp op_le od_le (ev_var 10 (pv 10)) (ev_var 3 (pv 3)) (nomark _)) (bv_one (sv_ret (ev_glob rfl T.m_g_NOTHING T.p_g_NOTHING))) bv_nil)
      (bv_cons (sv_set 11 (by decide) sc_take_ask.nd rfl (by first | exact Or.inl rfl | exact Or.inr rfl) (ev_call (ok_word_in T) (hr.mono (by decide)) rfl T.m_word_in T.F_word_in.kp T.b_word_in rfl (av_cons (ev_var 1 (pv 1)) (av_cons (ev_var 7 (pv 7)) av_nil))))
      (bv_cons (sv_set 12 (by decide) sc_take_ask.nd rfl (by first | exact Or.inl rfl | exact Or.inr rfl) (ev_and (ev_cmp op_notN od_isnot (ev_var 11 (pv 11)) ev_non (nomark _)) (ev_one (ev_cmp (op_eqD hr.units) od_eq (ev_sl (ev_var 11 (pv 11)) ov_none (ov_some ev_int)) (ev_tup (av_cons (ev_var 5 (pv 5)) (av_cons (ev_var 8 (pv 8)) av_nil))) (nomark _)))))
      (bv_cons (sv_if (tv_w (wv_or (tv_cmp op_isN od_is (ev_var 11 (pv 11)) ev_non (nomark _)) (wv_or (tv_cmp op_le od_le (ev_ix (ev_var 11 (pv 11)) ev_int (fun _ _ => rfl)) (ev_var 3 (pv 3)) (nomark _)) (wv_or1 (tv_w (wv_and (tv_tru (ev_var 12 (pv 12))) (wv_and1 (tv_cmp op_lt od_lt (ev_ix (ev_var 11 (pv 11)) ev_int (fun _ _ => rfl)) (ev_var 10 (pv 10)) (nomark _))))))))) (bv_cons (sv_set 13 (by decide) sc_take_ask.nd rfl (by first | exact Or.inl rfl | exact Or.inr rfl) (ev_tup (av_cons ev_str (av_cons (ev_var 7 (pv 7)) (av_cons (ev_var 5 (pv 5)) (av_cons (ev_var 8 (pv 8)) (av_cons (ev_var 10 (pv 10)) av_nil)))))))
      (bv_one (sv_ret (ev_tup (av_cons (ev_tup (av_cons (ev_var 13 (pv 13)) av_nil)) (av_cons (ev_tup (av_cons (ev_tup (av_cons ev_str (av_cons (ev_var 0 (pv 0)) (av_cons (ev_var 5 (pv 5)) (av_cons (ev_var 7 (pv 7)) (av_cons (ev_var 8 (pv 8)) (av_cons (ev_var 10 (pv 10)) av_nil))))))) av_nil)) (av_cons ev_non av_nil))))))) bv_nil)
      (bv_cons (sv_if (tv_tru (ev_var 12 (pv 12))) (bv_one (sv_ret (ev_tup (av_cons (ev_tup av_nil) (av_cons (ev_tup (av_cons (ev_tup (av_cons ev_str (av_cons (ev_var 0 (pv 0)) (av_cons (ev_var 5 (pv 5)) (av_cons (ev_var 7 (pv 7)) (av_cons (ev_var 8 (pv 8)) (av_cons (ev_ix (ev_var 11 (pv 11)) ev_int (fun _ _ => rfl)) av_nil))))))) av_nil)) (av_cons ev_non av_nil)))))) bv_nil)
      (bv_one (sv_ret (ev_tup (av_cons (ev_tup av_nil) (av_cons (ev_tup (av_cons (ev_tup (av_cons ev_str (av_cons (ev_var 0 (pv 0)) (av_cons (ev_var 5 (pv 5)) (av_cons (ev_var 7 (pv 7)) (av_cons (ev_var 8 (pv 8)) av_nil)))))) av_nil)) (av_cons ev_non av_nil))))))))))))
theorem sc_take_word : FnScope N_take_word P_take_word (defScope s_take_word) := ⟨rfl, rfl, rfl, by decide +kernel, rfl, by decide +kernel, by decide +kernel⟩
theorem ok_take_word (T : Txt K mg A) : FnOk P w K mg base CX0 5 A.take_word A.d_take_word P_take_word (spP K 5 M_take_word) :=
  fun_pure (k := 4) (N := N_take_word) (ps := P_take_word) (fb := B_take_word) T.F_take_word sc_take_word fun cdv _ outer s H E hr =>
      (bv_cons (sv_asgT (gv_tup rfl (gvs_cons (gv_name (i := 5) sc_take_word.nd rfl (by first | exact Or.inl rfl | exact Or.inr rfl)) (gvs_cons (gv_name (i := 6) sc_take_word.nd rfl (by first | exact Or.inl rfl | exact Or.inr rfl)) (gvs_cons (gv_name (i := 7) sc_take_word.nd rfl (by first | exact Or.inl rfl | exact Or.inr rfl)) (gvs_cons (gv_name (i := 8) sc_take_word.nd rfl (by first | exact Or.inl rfl | exact Or.inr rfl)) (gvs_cons (gv_name (i := 9) sc_take_word.nd rfl (by first | exact Or.inl rfl | exact Or.inr rfl)) (gvs_cons (gv_name (i := 10) sc_take_word.nd rfl (by first | exact Or.inl rfl | exact Or.inr rfl)) gvs_nil))))))) (tg_tup (is := [5, 6, 7, 8, 9, 10]) (by decide) rfl) (ev_var 3 (pv 3)))
      (bv_cons (sv_set 11 (by decide) sc_take_word.nd rfl (by first | exact Or.inl rfl | exact Or.inr rfl) (ev_call (ok_claim_in T) (hr.mono (by decide)) rfl T.m_claim_in T.F_claim_in.kp T.b_claim_in rfl (av_cons (ev_var 2 (pv 2)) (av_cons (ev_var 8 (pv 8)) av_nil))))
      (bv_cons (sv_if (tv_w (wv_or (tv_cmp op_isN od_is (ev_var 11 (pv 11)) ev_non (nomark _)) (wv_or1 (tv_cmp (op_neD hr.units) od_ne (ev_ix (ev_var 11 (pv 11)) ev_int (fun _ _ => rfl)) (ev_var 9 (pv 9)) (nomark _))))) (bv_one (sv_ret (ev_tup (av_cons (ev_tup av_nil) (av_cons (ev_tup (av_cons (ev_tup (av_cons ev_str (av_cons (ev_var 1 (pv 1)) (av_cons (ev_var 6 (pv 6)) (av_cons (ev_var 8 (pv 8)) (av_cons (ev_var 9 (pv 9)) av_nil)))))) av_nil)) (av_cons ev_non av_nil)))))) bv_nil)
      (bv_cons (sv_if (tv_tru (ev_callB (cr_any rfl) cd_any rfl T.n_any (by decide +kernel) (av_cons (ev_of_fv (fv_lc [("giver", 15), ("given", 16)] (by decide) (tg_tup (is := [15, 16]) (by decide) rfl) rfl sc_take_word.nd (iv_seq (ev_ix (ev_var 11 (pv 11)) ev_int (fun _ _ => rfl))) (blkOk_by (own := [("giver", 15), ("given", 16)]) (N := N_take_word) (sc := defScope s_take_word) (by decide +kernel)) (fun _ _ _ _ _ => (gv_tup rfl (gvs_cons (gv_name (i := 15) sc_take_word.nd rfl (by first | exact Or.inl rfl | exact Or.inr rfl)) (gvs_cons (gv_name (i := 16) sc_take_word.nd rfl (by first | exact Or.inl rfl | exact Or.inr rfl)) gvs_nil)))) (fun _ _ _ _ _ => tvs_nil) (fun _ _ _ _ _ => (ev_and (ev_cmp (op_eqD hr.units) od_eq (ev_var 15 (pv 15)) (ev_var 6 (pv 6)) (nomark _)) (ev_one (ev_cmp op_ge od_ge (ev_var 16 (pv 16)) (ev_var 10 (pv 10)) (nomark _))))))) av_nil))) (bv_one (sv_ret (ev_glob rfl T.m_g_NOTHING T.p_g_NOTHING))) bv_nil)
      (bv_cons (sv_set 12 (by decide) sc_take_word.nd rfl (by first | exact Or.inl rfl | exact Or.inr rfl) (ev_tup (av_cons (ev_tup (av_cons ev_str (av_cons (ev_var 8 (pv 8)) (av_cons (ev_var 9 (pv 9)) (av_cons (ev_var 6 (pv 6)) (av_cons (ev_var 10 (pv 10)) av_nil)))))) av_nil)))
      (bv_cons (sv_asgT (gv_tup rfl (gvs_cons (gv_name (i := 13) sc_take_word.nd rfl (by first | exact Or.inl rfl | exact Or.inr rfl)) (gvs_cons (gv_name (i := 14) sc_take_word.nd rfl (by first | exact Or.inl rfl | exact Or.inr rfl)) gvs_nil))) (tg_tup (is := [13, 14]) (by decide) rfl) (ev_call (ok_news_of T) (hr.mono (by decide)) rfl T.m_news_of T.F_news_of.kp T.b_news_of rfl (av_cons (ev_var 0 (pv 0)) (av_cons (ev_var 2 (pv 2)) (av_cons (ev_var 12 (pv 12)) (av_cons (ev_tup (av_cons (ev_var 8 (pv 8)) (av_cons (ev_var 1 (pv 1)) (av_cons (ev_var 9 (pv 9)) (av_cons (ev_ix (ev_var 11 (pv 11)) ev_int (fun _ _ => rfl)) (av_cons (ev_var 4 (pv 4)) av_nil)))))) av_nil))))))
      (bv_one (sv_ret (ev_tup (av_cons (ev_var 12 (pv 12)) (av_cons (ev_var 13 (pv 13)) (av_cons (ev_var 14 (pv 14)) av_nil))))))))))))
theorem sc_take_no : FnScope N_take_no P_take_no (defScope s_take_no) := ⟨rfl, rfl, rfl, by decide +kernel, rfl, by decide +kernel, by decide +kernel⟩
theorem ok_take_no (T : Txt K mg A) : FnOk P w K mg base CX0 5 A.take_no A.d_take_no P_take_no (spP K 2 M_take_no) :=
  fun_pure (k := 4) (N := N_take_no) (ps := P_take_no) (fb := B_take_no) T.F_take_no sc_take_no fun cdv _ outer s H E hr =>
      (bv_cons (sv_asgT (gv_tup rfl (gvs_cons (gv_name (i := 2) sc_take_no.nd rfl (by first | exact Or.inl rfl | exact Or.inr rfl)) (gvs_cons (gv_name (i := 3) sc_take_no.nd rfl (by first | exact Or.inl rfl | exact Or.inr rfl)) (gvs_cons (gv_name (i := 4) sc_take_no.nd rfl (by first | exact Or.inl rfl | exact Or.inr rfl)) (gvs_cons (gv_name (i := 5) sc_take_no.nd rfl (by first | exact Or.inl rfl | exact Or.inr rfl)) (gvs_cons (gv_name (i := 6) sc_take_no.nd rfl (by first | exact Or.inl rfl | exact Or.inr rfl)) gvs_nil)))))) (tg_tup (is := [2, 3, 4, 5, 6]) (by decide) rfl) (ev_var 1 (pv 1)))
      (bv_cons (sv_set 7 (by decide) sc_take_no.nd rfl (by first | exact Or.inl rfl | exact Or.inr rfl) (ev_call (ok_claim_in T) (hr.mono (by decide)) rfl T.m_claim_in T.F_claim_in.kp T.b_claim_in rfl (av_cons (ev_var 0 (pv 0)) (av_cons (ev_var 5 (pv 5)) av_nil))))
      (bv_cons (sv_if (tv_w (wv_or (tv_cmp op_isN od_is (ev_var 7 (pv 7)) ev_non (nomark _)) (wv_or1 (tv_cmp (op_neD hr.units) od_ne (ev_ix (ev_var 7 (pv 7)) ev_int (fun _ _ => rfl)) (ev_var 6 (pv 6)) (nomark _))))) (bv_one (sv_ret (ev_glob rfl T.m_g_NOTHING T.p_g_NOTHING))) bv_nil)
      (bv_cons (sv_setLc 8 [("giver", 9), ("until", 10)] (by decide) (by decide) (tg_tup (is := [9, 10]) (by decide) rfl) rfl sc_take_no.nd rfl rfl (sw_true rfl rfl rfl (by decide +kernel)) (iv_seq (ev_ix (ev_var 7 (pv 7)) ev_int (fun _ _ => rfl))) (blkOk_by (own := [("giver", 9), ("until", 10)]) (N := N_take_no) (sc := defScope s_take_no) (by decide +kernel)) (fun _ _ _ _ _ => (gv_tup rfl (gvs_cons (gv_name (i := 9) sc_take_no.nd rfl (by first | exact Or.inl rfl | exact Or.inr rfl)) (gvs_cons (gv_name (i := 10) sc_take_no.nd rfl (by first | exact Or.inl rfl | exact Or.inr rfl)) gvs_nil)))) (fun _ _ _ _ _ => tvs_nil) (fun _ _ _ _ _ => (ev_var 9 (pv 9))))
      (bv_cons (sv_if (tv_w (wv_or (tv_cmp (op_inD (room70 hr)) od_in (ev_var 3 (pv 3)) (ev_var 8 (pv 8)) rfl) (wv_or1 (tv_cmp (op_inD (room70 hr)) od_in (ev_var 3 (pv 3)) (ev_ix (ev_var 7 (pv 7)) ev_int (fun _ _ => rfl)) rfl)))) (bv_one (sv_ret (ev_glob rfl T.m_g_NOTHING T.p_g_NOTHING))) bv_nil)
      (bv_one (sv_ret (ev_tup (av_cons (ev_tup (av_cons (ev_tup (av_cons ev_str (av_cons (ev_var 5 (pv 5)) (av_cons (ev_var 6 (pv 6)) (av_cons (ev_var 3 (pv 3)) av_nil))))) av_nil)) (av_cons (ev_tup av_nil) (av_cons ev_non av_nil)))))))))))
theorem sc_take_back : FnScope N_take_back P_take_back (defScope s_take_back) := ⟨rfl, rfl, rfl, by decide +kernel, rfl, by decide +kernel, by decide +kernel⟩
theorem ok_take_back (T : Txt K mg A) : FnOk P w K mg base CX0 2 A.take_back A.d_take_back P_take_back (spP K 2 M_take_back) :=
  fun_pure (k := 1) (N := N_take_back) (ps := P_take_back) (fb := B_take_back) T.F_take_back sc_take_back fun cdv _ outer s H E hr =>
      (bv_cons (sv_asgT (gv_tup rfl (gvs_cons (gv_name (i := 2) sc_take_back.nd rfl (by first | exact Or.inl rfl | exact Or.inr rfl)) (gvs_cons (gv_name (i := 3) sc_take_back.nd rfl (by first | exact Or.inl rfl | exact Or.inr rfl)) (gvs_cons (gv_name (i := 4) sc_take_back.nd rfl (by first | exact Or.inl rfl | exact Or.inr rfl)) (gvs_cons (gv_name (i := 5) sc_take_back.nd rfl (by first | exact Or.inl rfl | exact Or.inr rfl)) (gvs_cons (gv_name (i := 6) sc_take_back.nd rfl (by first | exact Or.inl rfl | exact Or.inr rfl)) gvs_nil)))))) (tg_tup (is := [2, 3, 4, 5, 6]) (by decide) rfl) (ev_var 1 (pv 1)))
      (bv_cons (sv_set 7 (by decide) sc_take_back.nd rfl (by first | exact Or.inl rfl | exact Or.inr rfl) (ev_call (ok_word_in T) (hr.mono (by decide)) rfl T.m_word_in T.F_word_in.kp T.b_word_in rfl (av_cons (ev_var 0 (pv 0)) (av_cons (ev_var 5 (pv 5)) av_nil))))
      (bv_cons (sv_if (tv_w (wv_or (tv_cmp op_isN od_is (ev_var 7 (pv 7)) ev_non (nomark _)) (wv_or1 (tv_cmp (op_neD hr.units) od_ne (ev_sl (ev_var 7 (pv 7)) ov_none (ov_some ev_int)) (ev_tup (av_cons (ev_var 3 (pv 3)) (av_cons (ev_var 6 (pv 6)) av_nil))) (nomark _))))) (bv_one (sv_ret (ev_glob rfl T.m_g_NOTHING T.p_g_NOTHING))) bv_nil)
      (bv_one (sv_ret (ev_tup (av_cons (ev_tup (av_cons (ev_tup (av_cons ev_str (av_cons (ev_var 5 (pv 5)) (av_cons (ev_var 3 (pv 3)) (av_cons (ev_var 6 (pv 6)) av_nil))))) av_nil)) (av_cons (ev_tup av_nil) (av_cons ev_non av_nil)))))))))
theorem sc_take_told : FnScope N_take_told P_take_told (defScope s_take_told) := ⟨rfl, rfl, rfl, by decide +kernel, rfl, by decide +kernel, by decide +kernel⟩
theorem ok_take_told (T : Txt K mg A) : FnOk P w K mg base CX0 1 A.take_told A.d_take_told P_take_told (spP K 1 M_take_told) :=
  fun_pure (k := 0) (N := N_take_told) (ps := P_take_told) (fb := B_take_told) T.F_take_told sc_take_told fun cdv _ outer s H E hr =>
      (bv_cons (sv_asgT (gv_tup rfl (gvs_cons (gv_name (i := 1) sc_take_told.nd rfl (by first | exact Or.inl rfl | exact Or.inr rfl)) (gvs_cons (gv_name (i := 2) sc_take_told.nd rfl (by first | exact Or.inl rfl | exact Or.inr rfl)) (gvs_cons (gv_name (i := 3) sc_take_told.nd rfl (by first | exact Or.inl rfl | exact Or.inr rfl)) (gvs_cons (gv_name (i := 4) sc_take_told.nd rfl (by first | exact Or.inl rfl | exact Or.inr rfl)) (gvs_cons (gv_name (i := 5) sc_take_told.nd rfl (by first | exact Or.inl rfl | exact Or.inr rfl)) (gvs_cons (gv_name (i := 6) sc_take_told.nd rfl (by first | exact Or.inl rfl | exact Or.inr rfl)) (gvs_cons (gv_name (i := 7) sc_take_told.nd rfl (by first | exact Or.inl rfl | exact Or.inr rfl)) gvs_nil)))))))) (tg_tup (is := [1, 2, 3, 4, 5, 6, 7]) (by decide) rfl) (ev_var 0 (pv 0)))
      (bv_one (sv_ret (ev_tup (av_cons (ev_tup av_nil) (av_cons (ev_tup av_nil) (av_cons (ev_tup (av_cons (ev_var 4 (pv 4)) (av_cons (ev_var 2 (pv 2)) (av_cons (ev_var 5 (pv 5)) (av_cons (ev_var 6 (pv 6)) (av_cons (ev_var 7 (pv 7)) av_nil)))))) av_nil)))))))
theorem sc_taken : FnScope N_taken P_taken (defScope s_taken) := ⟨rfl, rfl, rfl, by decide +kernel, rfl, by decide +kernel, by decide +kernel⟩
theorem ok_taken (T : Txt K mg A) : FnOk P w K mg base CX0 6 A.taken A.d_taken P_taken (spP K 5 M_taken) :=
  fun_pure (k := 5) (N := N_taken) (ps := P_taken) (fb := B_taken) T.F_taken sc_taken fun cdv _ outer s H E hr =>
      (bv_cons (sv_set 5 (by decide) sc_taken.nd rfl (by first | exact Or.inl rfl | exact Or.inr rfl) (ev_ix (ev_var 3 (pv 3)) ev_int (fun _ _ => rfl)))
      (bv_cons (sv_if (tv_cmp (op_eqD hr.units) od_eq (ev_var 5 (pv 5)) ev_str (nomark _)) (bv_one (sv_ret (ev_call (ok_take_ask T) (hr.mono (by decide)) rfl T.m_take_ask T.F_take_ask.kp T.b_take_ask rfl (av_cons (ev_var 1 (pv 1)) (av_cons (ev_var 2 (pv 2)) (av_cons (ev_var 3 (pv 3)) (av_cons (ev_var 4 (pv 4)) av_nil))))))) bv_nil)
      (bv_cons (sv_if (tv_cmp (op_eqD hr.units) od_eq (ev_var 5 (pv 5)) ev_str (nomark _)) (bv_one (sv_ret (ev_call (ok_take_word T) (hr.mono (by decide)) rfl T.m_take_word T.F_take_word.kp T.b_take_word rfl (av_cons (ev_var 0 (pv 0)) (av_cons (ev_var 1 (pv 1)) (av_cons (ev_var 2 (pv 2)) (av_cons (ev_var 3 (pv 3)) (av_cons (ev_var 4 (pv 4)) av_nil)))))))) bv_nil)
      (bv_cons (sv_if (tv_cmp (op_eqD hr.units) od_eq (ev_var 5 (pv 5)) ev_str (nomark _)) (bv_one (sv_ret (ev_call (ok_take_no T) (hr.mono (by decide)) rfl T.m_take_no T.F_take_no.kp T.b_take_no rfl (av_cons (ev_var 2 (pv 2)) (av_cons (ev_var 3 (pv 3)) av_nil))))) bv_nil)
      (bv_cons (sv_if (tv_cmp (op_eqD hr.units) od_eq (ev_var 5 (pv 5)) ev_str (nomark _)) (bv_one (sv_ret (ev_call (ok_take_back T) (hr.mono (by decide)) rfl T.m_take_back T.F_take_back.kp T.b_take_back rfl (av_cons (ev_var 2 (pv 2)) (av_cons (ev_var 3 (pv 3)) av_nil))))) bv_nil)
      (bv_one (sv_ret (ev_call (ok_take_told T) (hr.mono (by decide)) rfl T.m_take_told T.F_take_told.kp T.b_take_told rfl (av_cons (ev_var 3 (pv 3)) av_nil)))))))))
theorem sc_law_stream : FnScope N_law_stream P_law_stream (defScope s_law_stream) := ⟨rfl, rfl, rfl, by decide +kernel, rfl, by decide +kernel, by decide +kernel⟩
theorem ok_law_stream (T : Txt K mg A) : FnOk P w K mg base CX0 1 A.law_stream A.d_law_stream P_law_stream (spN K 1 M_law_stream) :=
  fun_new (k := 0) (N := N_law_stream) (ps := P_law_stream) (fb := B_law_stream) T.F_law_stream sc_law_stream fun cdv _ outer s H E hr =>
      (bv_cons (sv_set 1 (by decide) sc_law_stream.nd rfl (by first | exact Or.inl rfl | exact Or.inr rfl) (ev_op op_mod od_mod (ev_var 0 (pv 0)) ev_int))
      (bv_cons (sv_set 1 (by decide) sc_law_stream.nd rfl (by first | exact Or.inl rfl | exact Or.inr rfl) (ev_op op_mod od_mod (ev_op op_plus od_add (ev_op op_mul od_mul (ev_op op_mod od_mod (ev_op op_mul od_mul (ev_var 1 (pv 1)) (ev_var 1 (pv 1))) ev_int) (ev_op op_plus od_add (ev_var 1 (pv 1)) ev_int)) ev_int) ev_int))
      (bv_one (sv_retF (fv_lst (av_cons (ev_var 0 (pv 0)) (av_cons (ev_var 1 (pv 1)) (av_cons (ev_callTy call_int1 cd_int rfl T.n_int (by decide +kernel) (av_cons (ev_cmp op_ge od_ge (ev_var 0 (pv 0)) (ev_op op_pow od_pow ev_int ev_int) (nomark _)) av_nil)) av_nil))))))))
theorem sc_law_take : FnScope N_law_take P_law_take (defScope s_law_take) := ⟨rfl, rfl, rfl, by decide +kernel, rfl, by decide +kernel, by decide +kernel⟩
theorem ok_law_take (T : Txt K mg A) : FnOk P w K mg base CX0 1 A.law_take A.d_law_take P_law_take (spR K 2 M_law_take) :=
  fun_row (k := 0) (N := N_law_take) (ps := P_law_take) (fb := B_law_take) T.F_law_take sc_law_take (by decide) fun cdv _ outer s H E hr =>
      (bv_cons (sv_if (tv_cmp (op_eqD hr.units) od_eq (ev_ixM 0 (pv 0) ev_int (fun _ _ => rfl)) ev_int (nomark _)) (bv_cons (sv_set 2 (by decide) sc_law_take.nd rfl (by first | exact Or.inl rfl | exact Or.inr rfl) (ev_op op_mod od_mod (ev_ixM 0 (pv 0) ev_int (fun _ _ => rfl)) (ev_var 1 (pv 1))))
      (bv_cons (sv_setIx 0 (ev_op op_fdivB od_fdiv (ev_ixM 0 (pv 0) ev_int (fun _ _ => rfl)) (ev_var 1 (pv 1))) (pv 0) ev_int)
      (bv_one (sv_ret (ev_var 2 (pv 2)))))) bv_nil)
      (bv_cons (sv_setIx 0 (ev_op op_mod od_mod (ev_op op_mul od_mul (ev_op op_plus od_add (ev_ixM 0 (pv 0) ev_int (fun _ _ => rfl)) ev_int) (ev_op op_plus od_add (ev_ixM 0 (pv 0) ev_int (fun _ _ => rfl)) ev_int)) ev_int) (pv 0) ev_int)
      (bv_one (sv_ret (ev_op op_mod od_mod (ev_op op_fdivB od_fdiv (ev_op op_plus od_add (ev_op op_mul od_mul (ev_ixM 0 (pv 0) ev_int (fun _ _ => rfl)) ev_int) ev_int) ev_int) (ev_var 1 (pv 1)))))))
theorem sc_law_letters : FnScope N_law_letters P_law_letters (defScope s_law_letters) := ⟨rfl, rfl, rfl, by decide +kernel, rfl, by decide +kernel, by decide +kernel⟩
theorem ok_law_letters (T : Txt K mg A) : FnOk P w K mg base CX0 2 A.law_letters A.d_law_letters P_law_letters (spR K 4 M_law_letters) :=
  fun_row (k := 1) (N := N_law_letters) (ps := P_law_letters) (fb := B_law_letters) T.F_law_letters sc_law_letters (by decide) fun cdv _ outer s H E hr =>
      (bv_cons (sv_setLcM 4 [("other", 10)] (by decide) (by decide) (tg_name (by decide)) rfl sc_law_letters.nd rfl rfl (sw_true rfl rfl rfl (by decide +kernel)) (iv_range1 rfl T.n_range (av_cons (ev_var 1 (pv 1)) av_nil)) (blkOk_by (own := [("other", 10)]) (N := N_law_letters) (sc := defScope s_law_letters) (by decide +kernel)) (fun _ _ _ _ _ => (gv_name (i := 10) sc_law_letters.nd rfl (by first | exact Or.inl rfl | exact Or.inr rfl))) (fun _ _ _ _ _ => (tvs_one (tv_cmp (op_neD hr.units) od_ne (ev_var 10 (pv 10)) (ev_var 2 (pv 2)) (nomark _)))) (fun _ _ _ _ _ => (ev_var 10 (pv 10))))
      (bv_cons (sv_setM 5 (by decide) sc_law_letters.nd rfl (by first | exact Or.inl rfl | exact Or.inr rfl) (fv_lst av_nil))
      (bv_cons (sv_while PassesOwn.never (tv_emM true 4 (op_neE hr.units) (pv 4) (nomark _)) (bv_cons (sv_set 6 (by decide) sc_law_letters.nd rfl (by first | exact Or.inl rfl | exact Or.inr rfl) (ev_popM 4 (ev_row 0 (ok_law_take T) (hr.mono (by decide)) rfl T.m_law_take T.F_law_take.kp T.b_law_take (pv 0) (av_cons (ev_lenM 4 (pv 4) rfl T.n_len) av_nil)) (fun ha => pe_bm PySem.F.plainAttrs_list PySem.F.slot_list_pop PySem.F.type_list_pop mt_popAt (pv 4) ha)))
      (bv_cons (sv_set 7 (by decide) sc_law_letters.nd rfl (by first | exact Or.inl rfl | exact Or.inr rfl) (ev_op op_plus od_add (ev_var 3 (pv 3)) (ev_ix (ev_lst (av_cons (ev_un un_neg ud_neg ev_int) (av_cons ev_int (av_cons ev_int (av_cons ev_int (av_cons ev_int (av_cons ev_int av_nil))))))) (ev_row 0 (ok_law_take T) (hr.mono (by decide)) rfl T.m_law_take T.F_law_take.kp T.b_law_take (pv 0) (av_cons ev_int av_nil)) (fun _ _ => rfl))))
      (bv_cons (sv_set 8 (by decide) sc_law_letters.nd rfl (by first | exact Or.inl rfl | exact Or.inr rfl) (ev_ix (ev_lst (av_cons ev_int (av_cons ev_int (av_cons ev_int (av_cons ev_int av_nil))))) (ev_row 0 (ok_law_take T) (hr.mono (by decide)) rfl T.m_law_take T.F_law_take.kp T.b_law_take (pv 0) (av_cons ev_int av_nil)) (fun _ _ => rfl)))
      (bv_cons (sv_set 9 (by decide) sc_law_letters.nd rfl (by first | exact Or.inl rfl | exact Or.inr rfl) (ev_tup (av_cons ev_str (av_cons (ev_var 6 (pv 6)) (av_cons (ev_var 2 (pv 2)) (av_cons ev_str (av_cons (ev_var 8 (pv 8)) (av_cons (ev_callB (cr_maxD rfl) cd_max rfl T.n_max (by decide +kernel) (av_cons ev_int (av_cons (ev_var 7 (pv 7)) av_nil))) av_nil))))))))
      (bv_cons (sv_ext 5 (fv_repF (fv_lst (av_cons (ev_var 9 (pv 9)) av_nil)) (ev_ix (ev_lst (av_cons ev_int (av_cons ev_int (av_cons ev_int av_nil)))) (ev_row 0 (ok_law_take T) (hr.mono (by decide)) rfl T.m_law_take T.F_law_take.kp T.b_law_take (pv 0) (av_cons ev_int av_nil)) (fun _ _ => rfl))) (hpe := fun ha => pe_bm PySem.F.plainAttrs_list PySem.F.slot_list_extend PySem.F.type_list_extend mt_extend (pv 5) ha))
      (bv_one (sv_if (tv_cmp (op_eqD hr.units) od_eq (ev_row 0 (ok_law_take T) (hr.mono (by decide)) rfl T.m_law_take T.F_law_take.kp T.b_law_take (pv 0) (av_cons ev_int av_nil)) ev_int (nomark _)) (bv_one (sv_app 5 (pv 5) (ev_tup (av_cons ev_str (av_cons (ev_var 6 (pv 6)) (av_cons (ev_var 2 (pv 2)) (av_cons ev_str (av_cons ev_int (av_cons (ev_op op_plus od_add (ev_op op_plus od_add (ev_var 3 (pv 3)) ev_int) (ev_row 0 (ok_law_take T) (hr.mono (by decide)) rfl T.m_law_take T.F_law_take.kp T.b_law_take (pv 0) (av_cons ev_int av_nil))) av_nil))))))) (hpe := fun ha => pe_bm PySem.F.plainAttrs_list PySem.F.slot_list_append PySem.F.type_list_append mt_append (pv 5) ha))) bv_nil))))))))
      (bv_one (sv_ret (ev_var 5 (pv 5)))))))
theorem sc_law_right : FnScope N_law_right ("words" :: ["many", "house", "log", "letter", "now"]) (defScope s_law_right) := ⟨rfl, rfl, rfl, by decide +kernel, rfl, by decide +kernel, by decide +kernel⟩
theorem ok_law_right (T : Txt K mg A) : FnOk P w K mg base CX0 7 A.law_right A.d_law_right P_law_right (spL K 6 M_law_right) :=
  fun_rowL (k := 6) (N := N_law_right) (p0 := ["many", "house", "log", "letter", "now"]) (x0 := "words") (fb := B_law_right) T.F_law_right sc_law_right (by decide) fun cdv _ outer s H E hr =>
      (bv_cons (sv_asgT (gv_tup rfl (gvs_cons (gv_name (i := 6) sc_law_right.nd rfl (by first | exact Or.inl rfl | exact Or.inr rfl)) (gvs_cons (gv_name (i := 7) sc_law_right.nd rfl (by first | exact Or.inl rfl | exact Or.inr rfl)) (gvs_cons (gv_name (i := 8) sc_law_right.nd rfl (by first | exact Or.inl rfl | exact Or.inr rfl)) gvs_nil)))) (tg_tup (is := [6, 7, 8]) (by decide) rfl) (ev_call (ok_taken T) (hr.mono (by decide)) rfl T.m_taken T.F_taken.kp T.b_taken rfl (av_cons (ev_var 1 (pv 1)) (av_cons (ev_var 2 (pv 2)) (av_cons (ev_var 3 (pv 3)) (av_cons (ev_var 4 (pv 4)) (av_cons (ev_var 5 (pv 5)) av_nil)))))))
      (bv_cons (sv_if (tv_cmp (op_neD hr.units) od_ne (ev_ix (ev_var 4 (pv 4)) ev_int (fun _ _ => rfl)) ev_int (nomark _)) (bv_one (sv_ret (ev_cmp (op_eqD hr.units) od_eq (ev_tup (av_cons (ev_var 6 (pv 6)) (av_cons (ev_var 7 (pv 7)) (av_cons (ev_var 8 (pv 8)) av_nil)))) (ev_tup (av_cons (ev_tup av_nil) (av_cons (ev_tup (av_cons (ev_tup (av_cons ev_str (av_cons (ev_var 2 (pv 2)) (av_cons (ev_ix (ev_var 4 (pv 4)) ev_int (fun _ _ => rfl)) (av_cons ev_str (av_cons (ev_ix (ev_var 4 (pv 4)) ev_int (fun _ _ => rfl)) av_nil)))))) av_nil)) (av_cons ev_non av_nil)))) (nomark _)))) bv_nil)
      (bv_cons (sv_set 9 (by decide) sc_law_right.nd rfl (by first | exact Or.inl rfl | exact Or.inr rfl) (ev_call (ok_reach_of T) (hr.mono (by decide)) rfl T.m_reach_of T.F_reach_of.kp T.b_reach_of rfl (av_cons (ev_listV 0 rfl rfl T.n_list (pv 0)) (av_cons (ev_var 1 (pv 1)) av_nil))))
      (bv_cons (sv_putM 0 (hu_of hr) (ev_callB (cr_maxD rfl) cd_max rfl T.n_max (by decide +kernel) (av_cons (ev_getM 0 (hu_of hr) (pv 0) (ev_ix (ev_var 4 (pv 4)) ev_int (fun _ _ => rfl)) ev_int ⟨rfl, rfl, rfl, rfl⟩) (av_cons (ev_ix (ev_var 4 (pv 4)) ev_int (fun _ _ => rfl)) av_nil))) (pv 0) (ev_ix (ev_var 4 (pv 4)) ev_int (fun _ _ => rfl)))
      (bv_cons (sv_set 10 (by decide) sc_law_right.nd rfl (by first | exact Or.inl rfl | exact Or.inr rfl) (ev_call (ok_reach_of T) (hr.mono (by decide)) rfl T.m_reach_of T.F_reach_of.kp T.b_reach_of rfl (av_cons (ev_listV 0 rfl rfl T.n_list (pv 0)) (av_cons (ev_var 1 (pv 1)) av_nil))))
      (bv_cons (sv_if (tv_w (wv_or (tv_cmp op_le od_le (ev_var 10 (pv 10)) (ev_var 9 (pv 9)) (nomark _)) (wv_or1 (tv_cmp op_le od_le (ev_var 10 (pv 10)) (ev_var 5 (pv 5)) (nomark _))))) (bv_one (sv_ret (ev_and (ev_cmp (op_eqD hr.units) od_eq (ev_var 7 (pv 7)) (ev_tup av_nil) (nomark _)) (ev_one (ev_cmp op_isN od_is (ev_var 8 (pv 8)) ev_non (nomark _)))))) bv_nil)
      (bv_cons (sv_setLc 11 [("other", 12)] (by decide) (by decide) (tg_name (by decide)) rfl sc_law_right.nd rfl rfl (sw_true rfl rfl rfl (by decide +kernel)) (iv_range1 rfl T.n_range (av_cons (ev_var 1 (pv 1)) av_nil)) (blkOk_by (own := [("other", 12)]) (N := N_law_right) (sc := defScope s_law_right) (by decide +kernel)) (fun _ _ _ _ _ => (gv_name (i := 12) sc_law_right.nd rfl (by first | exact Or.inl rfl | exact Or.inr rfl))) (fun _ _ _ _ _ => (tvs_one (tv_cmp (op_neD hr.units) od_ne (ev_var 12 (pv 12)) (ev_var 2 (pv 2)) (nomark _)))) (fun _ _ _ _ _ => (ev_var 12 (pv 12))))
      (bv_cons (sv_if (tv_w (wv_or (tv_cmp (op_neD hr.units) od_ne (ev_var 8 (pv 8)) (ev_tup (av_cons ev_str (av_cons (ev_var 2 (pv 2)) (av_cons ev_int (av_cons ev_str (av_cons (ev_var 5 (pv 5)) av_nil)))))) (nomark _)) (wv_or1 (tv_cmp op_lt od_lt (ev_lenD 0 (pv 0) rfl T.n_len) (ev_call (ok_needed T) (hr.mono (by decide)) rfl T.m_needed T.F_needed.kp T.b_needed rfl (av_cons (ev_var 1 (pv 1)) av_nil)) (nomark _))))) (bv_one (sv_ret ev_bl)) bv_nil)
      (bv_one (sv_ret (ev_cmp (op_eqD hr.units) od_eq (ev_callTy call_list_of cd_list rfl T.n_list (by decide +kernel) (av_cons (ev_var 7 (pv 7)) av_nil)) (ev_of_fv (fv_lc [("other", 12)] (by decide) (tg_name (by decide)) rfl sc_law_right.nd (iv_seq (ev_var 11 (pv 11))) (blkOk_by (own := [("other", 12)]) (N := N_law_right) (sc := defScope s_law_right) (by decide +kernel)) (fun _ _ _ _ _ => (gv_name (i := 12) sc_law_right.nd rfl (by first | exact Or.inl rfl | exact Or.inr rfl))) (fun _ _ _ _ _ => tvs_nil) (fun _ _ _ _ _ => (ev_tup (av_cons ev_str (av_cons (ev_var 2 (pv 2)) (av_cons (ev_var 12 (pv 12)) (av_cons ev_str (av_cons ev_int (av_cons ev_str (av_cons (ev_var 5 (pv 5)) av_nil))))))))))) (nomark _))))))))))))
theorem sc_law : FnScope N_law P_law (defScope s_law) := ⟨rfl, rfl, rfl, by decide +kernel, rfl, by decide +kernel, by decide +kernel⟩
theorem ok_law (T : Txt K mg A) : FnOk P w K mg base CX0 8 A.law A.d_law P_law (spP K 1 M_law) :=
  fun_pure (k := 7) (N := N_law) (ps := P_law) (fb := B_law) T.F_law sc_law fun cdv _ outer s H E hr =>
      (bv_cons (sv_pre (vs := [1, 2, 3, 4, 5, 6, 7, 8]) (sv_for PassesOwn.never rfl (iv_seq (ev_op op_plus od_add (ev_lst (av_cons ev_int av_nil)) (ev_sl (ev_var 0 (pv 0)) ov_none (ov_some ev_int)))) (gv_name (i := 1) sc_law.nd rfl (by first | exact Or.inl rfl | exact Or.inr rfl)) (tg_name (by decide)) (bv_clr (vs := [1, 2, 3, 4, 5, 6, 7, 8]) (bv_cons (sv_setM 2 (by decide) sc_law.nd rfl (by first | exact Or.inl rfl | exact Or.inr rfl) (fv_call (ok_law_stream T) (hr.mono (by decide)) rfl T.m_law_stream T.F_law_stream.kp T.b_law_stream rfl (av_cons (ev_var 1 (pv 1)) av_nil)))
      (bv_cons (sv_set 3 (by decide) sc_law.nd rfl (by first | exact Or.inl rfl | exact Or.inr rfl) (ev_op op_plus od_add ev_int (ev_row 2 (ok_law_take T) (hr.mono (by decide)) rfl T.m_law_take T.F_law_take.kp T.b_law_take (pv 2) (av_cons ev_int av_nil))))
      (bv_cons (sv_set 4 (by decide) sc_law.nd rfl (by first | exact Or.inl rfl | exact Or.inr rfl) (ev_row 2 (ok_law_take T) (hr.mono (by decide)) rfl T.m_law_take T.F_law_take.kp T.b_law_take (pv 2) (av_cons (ev_var 3 (pv 3)) av_nil)))
      (bv_cons (sv_set 5 (by decide) sc_law.nd rfl (by first | exact Or.inl rfl | exact Or.inr rfl) (ev_op op_plus od_add ev_int (ev_row 2 (ok_law_take T) (hr.mono (by decide)) rfl T.m_law_take T.F_law_take.kp T.b_law_take (pv 2) (av_cons ev_int av_nil))))
      (bv_cons (sv_set 6 (by decide) sc_law.nd rfl (by first | exact Or.inl rfl | exact Or.inr rfl) (ev_tup (av_cons (ev_tup (av_cons ev_str (av_cons ev_str (av_cons ev_int (av_cons ev_str (av_cons ev_int av_nil)))))) (av_cons (ev_tup (av_cons ev_str (av_cons ev_str (av_cons ev_int (av_cons ev_str (av_cons (ev_op op_plus od_add (ev_var 5 (pv 5)) ev_int) av_nil)))))) av_nil))))
      (bv_cons (sv_setM 7 (by decide) sc_law.nd rfl (by first | exact Or.inl rfl | exact Or.inr rfl) fv_dict0)
      (bv_cons (sv_if (tv_cmp (op_eqD hr.units) od_eq (ev_row 2 (ok_law_take T) (hr.mono (by decide)) rfl T.m_law_take T.F_law_take.kp T.b_law_take (pv 2) (av_cons ev_int av_nil)) ev_int (nomark _)) (bv_cons (sv_set 6 (by decide) sc_law.nd rfl (by first | exact Or.inl rfl | exact Or.inr rfl) (ev_op op_plus od_add (ev_var 6 (pv 6)) (ev_tup (av_cons (ev_tup (av_cons ev_str (av_cons ev_str (av_cons (ev_var 4 (pv 4)) (av_cons ev_int (av_cons (ev_op op_plus od_add (ev_var 5 (pv 5)) ev_int) av_nil)))))) (av_cons (ev_tup (av_cons ev_str (av_cons ev_str (av_cons ev_int (av_cons (ev_var 4 (pv 4)) (av_cons (ev_op op_plus od_add (ev_var 5 (pv 5)) ev_int) av_nil)))))) av_nil)))))
      (bv_one (sv_setM 7 (by decide) sc_law.nd rfl (by first | exact Or.inl rfl | exact Or.inr rfl) (fv_dict1 (ev_var 4 (pv 4)) (ev_op op_plus od_add (ev_var 5 (pv 5)) ev_int))))) bv_nil)
      (bv_cons (sv_pre (vs := [8]) (sv_for PassesOwn.never rfl (iv_seq (ev_row 2 (ok_law_letters T) (hr.mono (by decide)) rfl T.m_law_letters T.F_law_letters.kp T.b_law_letters (pv 2) (av_cons (ev_var 3 (pv 3)) (av_cons (ev_var 4 (pv 4)) (av_cons (ev_var 5 (pv 5)) av_nil))))) (gv_name (i := 8) sc_law.nd rfl (by first | exact Or.inl rfl | exact Or.inr rfl)) (tg_name (by decide)) (bv_clr (vs := [8]) (bv_cons (sv_if (tv_not (tv_tru (ev_rowL 7 (ok_law_right T) (hr.mono (by decide)) rfl T.m_law_right T.F_law_right.kp T.b_law_right (avl_cons (ev_var 3 (pv 3)) (avl_cons (ev_var 4 (pv 4)) (avl_cons (ev_var 6 (pv 6)) (avl_cons (ev_var 8 (pv 8)) (avl_cons (ev_var 5 (pv 5)) (avl_one 7 (pv 7)))))))))) (bv_one (sv_ret ev_bl)) bv_nil)
      (bv_one (sv_set 6 (by decide) sc_law.nd rfl (by first | exact Or.inl rfl | exact Or.inr rfl) (ev_op op_plus od_add (ev_var 6 (pv 6)) (ev_ix (ev_call (ok_taken T) (hr.mono (by decide)) rfl T.m_taken T.F_taken.kp T.b_taken rfl (av_cons (ev_var 3 (pv 3)) (av_cons (ev_var 4 (pv 4)) (av_cons (ev_var 6 (pv 6)) (av_cons (ev_var 8 (pv 8)) (av_cons (ev_var 5 (pv 5)) av_nil)))))) ev_int (fun _ _ => rfl)))))))))
      (bv_one (sv_if (tv_cmp (op_neD hr.units) od_ne (ev_ix (ev_call (ok_claim_in T) (hr.mono (by decide)) rfl T.m_claim_in T.F_claim_in.kp T.b_claim_in rfl (av_cons (ev_var 6 (pv 6)) (av_cons ev_str av_nil))) ev_int (fun _ _ => rfl)) (ev_callTy call_tuple_of cd_tuple rfl T.n_tuple (by decide +kernel) (av_cons (ev_itemsS rfl rfl T.n_sorted (ev_var 7 (pv 7))) av_nil)) (nomark _)) (bv_one (sv_ret ev_bl)) bv_nil)))))))))))))
      (bv_one (sv_ret ev_bl)))
end
theorem all_mk {l : PySem.W.OpenLaw} {w : World} {K : PySem.W.Frag} {h : Heap} {mg : Str → Option Value} {fa : Addr} (X : K.In h) (G : h.Ns mainGlobals mg) (hfa : mg "law" = some (.ref fa))
    {f0 f1 f2 f3 f4 f5 f6 f7 f8 f9 f10 f11 f12 f13 f14 f15 f16 f17 f18 f19 f20 f21 : Addr} {od0 an0 od1 an1 od2 an2 od3 an3 od4 an4 od5 an5 od6 an6 od7 an7 od8 an8 od9 an9 od10 an10 od11 an11 od12 an12 od13 an13 od14 an14 od15 an15 od16 an16 od17 an17 od18 an18 od19 an19 od20 an20 od21 an21 : Option Addr} {sl0 sl1 sl2 sl3 sl4 sl5 sl6 sl7 sl8 sl9 sl10 sl11 sl12 sl13 sl14 sl15 sl16 sl17 sl18 sl19 sl20 sl21 : Array (Option Value)} {oc0 kV0 dc0 pm0 cd0 ct0 oc1 kV1 dc1 pm1 cd1 ct1 oc2 kV2 dc2 pm2 cd2 ct2 oc3 kV3 dc3 pm3 cd3 ct3 oc4 kV4 dc4 pm4 cd4 ct4 oc5 kV5 dc5 pm5 cd5 ct5 oc6 kV6 dc6 pm6 cd6 ct6 oc7 kV7 dc7 pm7 cd7 ct7 oc8 kV8 dc8 pm8 cd8 ct8 oc9 kV9 dc9 pm9 cd9 ct9 oc10 kV10 dc10 pm10 cd10 ct10 oc11 kV11 dc11 pm11 cd11 ct11 oc12 kV12 dc12 pm12 cd12 ct12 oc13 kV13 dc13 pm13 cd13 ct13 oc14 kV14 dc14 pm14 cd14 ct14 oc15 kV15 dc15 pm15 cd15 ct15 oc16 kV16 dc16 pm16 cd16 ct16 oc17 kV17 dc17 pm17 cd17 ct17 oc18 kV18 dc18 pm18 cd18 ct18 oc19 kV19 dc19 pm19 cd19 ct19 oc20 kV20 dc20 pm20 cd20 ct20 oc21 kV21 dc21 pm21 cd21 ct21 : Value}
    (a0 : PySem.W.nsIn K mainGlobals "needed" = some (some (.ref f0))) (l0 : K.lookup f0 = some ⟨oc0, od0, .func (PySem.W.fnOf "needed" "needed" (defArgs s_needed) (defBody s_needed) (defScope s_needed) .none kV0 dc0 pm0 an0 cd0 ct0), sl0⟩) (c0 : PySem.W.codeIn K cd0 "needed" = true) (k0 : PySem.W.keepIn K (.ref f0) = true)
    (a1 : PySem.W.nsIn K mainGlobals "reach_of" = some (some (.ref f1))) (l1 : K.lookup f1 = some ⟨oc1, od1, .func (PySem.W.fnOf "reach_of" "reach_of" (defArgs s_reach_of) (defBody s_reach_of) (defScope s_reach_of) .none kV1 dc1 pm1 an1 cd1 ct1), sl1⟩) (c1 : PySem.W.codeIn K cd1 "reach_of" = true) (k1 : PySem.W.keepIn K (.ref f1) = true)
    (a2 : PySem.W.nsIn K mainGlobals "word_in" = some (some (.ref f2))) (l2 : K.lookup f2 = some ⟨oc2, od2, .func (PySem.W.fnOf "word_in" "word_in" (defArgs s_word_in) (defBody s_word_in) (defScope s_word_in) .none kV2 dc2 pm2 an2 cd2 ct2), sl2⟩) (c2 : PySem.W.codeIn K cd2 "word_in" = true) (k2 : PySem.W.keepIn K (.ref f2) = true)
    (a3 : PySem.W.nsIn K mainGlobals "entries_for" = some (some (.ref f3))) (l3 : K.lookup f3 = some ⟨oc3, od3, .func (PySem.W.fnOf "entries_for" "entries_for" (defArgs s_entries_for) (defBody s_entries_for) (defScope s_entries_for) .none kV3 dc3 pm3 an3 cd3 ct3), sl3⟩) (c3 : PySem.W.codeIn K cd3 "entries_for" = true) (k3 : PySem.W.keepIn K (.ref f3) = true)
    (a4 : PySem.W.nsIn K mainGlobals "words_for" = some (some (.ref f4))) (l4 : K.lookup f4 = some ⟨oc4, od4, .func (PySem.W.fnOf "words_for" "words_for" (defArgs s_words_for) (defBody s_words_for) (defScope s_words_for) .none kV4 dc4 pm4 an4 cd4 ct4), sl4⟩) (c4 : PySem.W.codeIn K cd4 "words_for" = true) (k4 : PySem.W.keepIn K (.ref f4) = true)
    (a5 : PySem.W.nsIn K mainGlobals "noes_for" = some (some (.ref f5))) (l5 : K.lookup f5 = some ⟨oc5, od5, .func (PySem.W.fnOf "noes_for" "noes_for" (defArgs s_noes_for) (defBody s_noes_for) (defScope s_noes_for) .none kV5 dc5 pm5 an5 cd5 ct5), sl5⟩) (c5 : PySem.W.codeIn K cd5 "noes_for" = true) (k5 : PySem.W.keepIn K (.ref f5) = true)
    (a6 : PySem.W.nsIn K mainGlobals "claim_in" = some (some (.ref f6))) (l6 : K.lookup f6 = some ⟨oc6, od6, .func (PySem.W.fnOf "claim_in" "claim_in" (defArgs s_claim_in) (defBody s_claim_in) (defScope s_claim_in) .none kV6 dc6 pm6 an6 cd6 ct6), sl6⟩) (c6 : PySem.W.codeIn K cd6 "claim_in" = true) (k6 : PySem.W.keepIn K (.ref f6) = true)
    (a7 : PySem.W.nsIn K mainGlobals "others_of" = some (some (.ref f7))) (l7 : K.lookup f7 = some ⟨oc7, od7, .func (PySem.W.fnOf "others_of" "others_of" (defArgs s_others_of) (defBody s_others_of) (defScope s_others_of) .none kV7 dc7 pm7 an7 cd7 ct7), sl7⟩) (c7 : PySem.W.codeIn K cd7 "others_of" = true) (k7 : PySem.W.keepIn K (.ref f7) = true)
    (a8 : PySem.W.nsIn K mainGlobals "told_letters" = some (some (.ref f8))) (l8 : K.lookup f8 = some ⟨oc8, od8, .func (PySem.W.fnOf "told_letters" "told_letters" (defArgs s_told_letters) (defBody s_told_letters) (defScope s_told_letters) .none kV8 dc8 pm8 an8 cd8 ct8), sl8⟩) (c8 : PySem.W.codeIn K cd8 "told_letters" = true) (k8 : PySem.W.keepIn K (.ref f8) = true)
    (a9 : PySem.W.nsIn K mainGlobals "reach_of_words" = some (some (.ref f9))) (l9 : K.lookup f9 = some ⟨oc9, od9, .func (PySem.W.fnOf "reach_of_words" "reach_of_words" (defArgs s_reach_of_words) (defBody s_reach_of_words) (defScope s_reach_of_words) .none kV9 dc9 pm9 an9 cd9 ct9), sl9⟩) (c9 : PySem.W.codeIn K cd9 "reach_of_words" = true) (k9 : PySem.W.keepIn K (.ref f9) = true)
    (a10 : PySem.W.nsIn K mainGlobals "news_of" = some (some (.ref f10))) (l10 : K.lookup f10 = some ⟨oc10, od10, .func (PySem.W.fnOf "news_of" "news_of" (defArgs s_news_of) (defBody s_news_of) (defScope s_news_of) .none kV10 dc10 pm10 an10 cd10 ct10), sl10⟩) (c10 : PySem.W.codeIn K cd10 "news_of" = true) (k10 : PySem.W.keepIn K (.ref f10) = true)
    (a11 : PySem.W.nsIn K mainGlobals "take_ask" = some (some (.ref f11))) (l11 : K.lookup f11 = some ⟨oc11, od11, .func (PySem.W.fnOf "take_ask" "take_ask" (defArgs s_take_ask) (defBody s_take_ask) (defScope s_take_ask) .none kV11 dc11 pm11 an11 cd11 ct11), sl11⟩) (c11 : PySem.W.codeIn K cd11 "take_ask" = true) (k11 : PySem.W.keepIn K (.ref f11) = true)
    (a12 : PySem.W.nsIn K mainGlobals "take_word" = some (some (.ref f12))) (l12 : K.lookup f12 = some ⟨oc12, od12, .func (PySem.W.fnOf "take_word" "take_word" (defArgs s_take_word) (defBody s_take_word) (defScope s_take_word) .none kV12 dc12 pm12 an12 cd12 ct12), sl12⟩) (c12 : PySem.W.codeIn K cd12 "take_word" = true) (k12 : PySem.W.keepIn K (.ref f12) = true)
    (a13 : PySem.W.nsIn K mainGlobals "take_no" = some (some (.ref f13))) (l13 : K.lookup f13 = some ⟨oc13, od13, .func (PySem.W.fnOf "take_no" "take_no" (defArgs s_take_no) (defBody s_take_no) (defScope s_take_no) .none kV13 dc13 pm13 an13 cd13 ct13), sl13⟩) (c13 : PySem.W.codeIn K cd13 "take_no" = true) (k13 : PySem.W.keepIn K (.ref f13) = true)
    (a14 : PySem.W.nsIn K mainGlobals "take_back" = some (some (.ref f14))) (l14 : K.lookup f14 = some ⟨oc14, od14, .func (PySem.W.fnOf "take_back" "take_back" (defArgs s_take_back) (defBody s_take_back) (defScope s_take_back) .none kV14 dc14 pm14 an14 cd14 ct14), sl14⟩) (c14 : PySem.W.codeIn K cd14 "take_back" = true) (k14 : PySem.W.keepIn K (.ref f14) = true)
    (a15 : PySem.W.nsIn K mainGlobals "take_told" = some (some (.ref f15))) (l15 : K.lookup f15 = some ⟨oc15, od15, .func (PySem.W.fnOf "take_told" "take_told" (defArgs s_take_told) (defBody s_take_told) (defScope s_take_told) .none kV15 dc15 pm15 an15 cd15 ct15), sl15⟩) (c15 : PySem.W.codeIn K cd15 "take_told" = true) (k15 : PySem.W.keepIn K (.ref f15) = true)
    (a16 : PySem.W.nsIn K mainGlobals "taken" = some (some (.ref f16))) (l16 : K.lookup f16 = some ⟨oc16, od16, .func (PySem.W.fnOf "taken" "taken" (defArgs s_taken) (defBody s_taken) (defScope s_taken) .none kV16 dc16 pm16 an16 cd16 ct16), sl16⟩) (c16 : PySem.W.codeIn K cd16 "taken" = true) (k16 : PySem.W.keepIn K (.ref f16) = true)
    (a17 : PySem.W.nsIn K mainGlobals "_law_stream" = some (some (.ref f17))) (l17 : K.lookup f17 = some ⟨oc17, od17, .func (PySem.W.fnOf "_law_stream" "_law_stream" (defArgs s_law_stream) (defBody s_law_stream) (defScope s_law_stream) .none kV17 dc17 pm17 an17 cd17 ct17), sl17⟩) (c17 : PySem.W.codeIn K cd17 "_law_stream" = true) (k17 : PySem.W.keepIn K (.ref f17) = true)
    (a18 : PySem.W.nsIn K mainGlobals "_law_take" = some (some (.ref f18))) (l18 : K.lookup f18 = some ⟨oc18, od18, .func (PySem.W.fnOf "_law_take" "_law_take" (defArgs s_law_take) (defBody s_law_take) (defScope s_law_take) .none kV18 dc18 pm18 an18 cd18 ct18), sl18⟩) (c18 : PySem.W.codeIn K cd18 "_law_take" = true) (k18 : PySem.W.keepIn K (.ref f18) = true)
    (a19 : PySem.W.nsIn K mainGlobals "_law_letters" = some (some (.ref f19))) (l19 : K.lookup f19 = some ⟨oc19, od19, .func (PySem.W.fnOf "_law_letters" "_law_letters" (defArgs s_law_letters) (defBody s_law_letters) (defScope s_law_letters) .none kV19 dc19 pm19 an19 cd19 ct19), sl19⟩) (c19 : PySem.W.codeIn K cd19 "_law_letters" = true) (k19 : PySem.W.keepIn K (.ref f19) = true)
    (a20 : PySem.W.nsIn K mainGlobals "_law_right" = some (some (.ref f20))) (l20 : K.lookup f20 = some ⟨oc20, od20, .func (PySem.W.fnOf "_law_right" "_law_right" (defArgs s_law_right) (defBody s_law_right) (defScope s_law_right) .none kV20 dc20 pm20 an20 cd20 ct20), sl20⟩) (c20 : PySem.W.codeIn K cd20 "_law_right" = true) (k20 : PySem.W.keepIn K (.ref f20) = true)
    (a21 : PySem.W.nsIn K mainGlobals "law" = some (some (.ref f21))) (l21 : K.lookup f21 = some ⟨oc21, od21, .func (PySem.W.fnOf "law" "law" (defArgs s_law) (defBody s_law) (defScope s_law) .none kV21 dc21 pm21 an21 cd21 ct21), sl21⟩) (c21 : PySem.W.codeIn K cd21 "law" = true) (k21 : PySem.W.keepIn K (.ref f21) = true)
    (z_any : PySem.W.nsIn K mainGlobals "any" = some none)
    (z_int : PySem.W.nsIn K mainGlobals "int" = some none)
    (z_len : PySem.W.nsIn K mainGlobals "len" = some none)
    (z_list : PySem.W.nsIn K mainGlobals "list" = some none)
    (z_max : PySem.W.nsIn K mainGlobals "max" = some none)
    (z_range : PySem.W.nsIn K mainGlobals "range" = some none)
    (z_sorted : PySem.W.nsIn K mainGlobals "sorted" = some none)
    (z_tuple : PySem.W.nsIn K mainGlobals "tuple" = some none)
    {cNOTHING : Addr} {cNOTHING_0 : Addr} {cNOTHING_0n : Nat} {cNOTHING_0s : Array (Option Value)} {cNOTHING_1 : Addr} {cNOTHING_1n : Nat} {cNOTHING_1s : Array (Option Value)} {cNOTHINGn : Nat} {cNOTHINGs : Array (Option Value)}
    (aNOTHING : PySem.W.nsIn K mainGlobals "NOTHING" = some (some (.ref cNOTHING)))
    (hcNOTHING : K.lookup cNOTHING = some ⟨.type "tuple", none, .seq #[.ref cNOTHING_0, .ref cNOTHING_1, .none] cNOTHINGn, cNOTHINGs⟩)
    (hcNOTHING_0 : K.lookup cNOTHING_0 = some ⟨.type "tuple", none, .seq #[] cNOTHING_0n, cNOTHING_0s⟩)
    (hcNOTHING_1 : K.lookup cNOTHING_1 = some ⟨.type "tuple", none, .seq #[] cNOTHING_1n, cNOTHING_1s⟩)
    : ∃ fd : FuncData, (∀ (s : Shared) (v : Value), BindsTo s fd ⟨[v], []⟩ [("script", v)]) ∧ ∀ base : Heap, K.In base → base.Ns mainGlobals mg → FnOk l.prog w K mg base CX0 8 fa fd ["script"] (spP K 1 M_law) := by
  have e := hfa.symm.trans (PySem.W.mg_of X G a21)
  cases e
  have F0 := fun_mk (st := s_needed) l0 c0 k0
  have b0 := F0.binds (ps := P_needed) fun _ _ _ _ _ _ us hl => match us, hl with | [_], _ => rfl
  have F1 := fun_mk (st := s_reach_of) l1 c1 k1
  have b1 := F1.binds (ps := P_reach_of) fun _ _ _ _ _ _ us hl => match us, hl with | [_, _], _ => rfl
  have F2 := fun_mk (st := s_word_in) l2 c2 k2
  have b2 := F2.binds (ps := P_word_in) fun _ _ _ _ _ _ us hl => match us, hl with | [_, _], _ => rfl
  have F3 := fun_mk (st := s_entries_for) l3 c3 k3
  have b3 := F3.binds (ps := P_entries_for) fun _ _ _ _ _ _ us hl => match us, hl with | [_, _, _, _], _ => rfl
  have F4 := fun_mk (st := s_words_for) l4 c4 k4
  have b4 := F4.binds (ps := P_words_for) fun _ _ _ _ _ _ us hl => match us, hl with | [_, _, _], _ => rfl
  have F5 := fun_mk (st := s_noes_for) l5 c5 k5
  have b5 := F5.binds (ps := P_noes_for) fun _ _ _ _ _ _ us hl => match us, hl with | [_, _, _], _ => rfl
  have F6 := fun_mk (st := s_claim_in) l6 c6 k6
  have b6 := F6.binds (ps := P_claim_in) fun _ _ _ _ _ _ us hl => match us, hl with | [_, _], _ => rfl
  have F7 := fun_mk (st := s_others_of) l7 c7 k7
  have b7 := F7.binds (ps := P_others_of) fun _ _ _ _ _ _ us hl => match us, hl with | [_, _], _ => rfl
  have F8 := fun_mk (st := s_told_letters) l8 c8 k8
  have b8 := F8.binds (ps := P_told_letters) fun _ _ _ _ _ _ us hl => match us, hl with | [_, _], _ => rfl
  have F9 := fun_mk (st := s_reach_of_words) l9 c9 k9
  have b9 := F9.binds (ps := P_reach_of_words) fun _ _ _ _ _ _ us hl => match us, hl with | [_, _], _ => rfl
  have F10 := fun_mk (st := s_news_of) l10 c10 k10
  have b10 := F10.binds (ps := P_news_of) fun _ _ _ _ _ _ us hl => match us, hl with | [_, _, _, _], _ => rfl
  have F11 := fun_mk (st := s_take_ask) l11 c11 k11
  have b11 := F11.binds (ps := P_take_ask) fun _ _ _ _ _ _ us hl => match us, hl with | [_, _, _, _], _ => rfl
  have F12 := fun_mk (st := s_take_word) l12 c12 k12
  have b12 := F12.binds (ps := P_take_word) fun _ _ _ _ _ _ us hl => match us, hl with | [_, _, _, _, _], _ => rfl
  have F13 := fun_mk (st := s_take_no) l13 c13 k13
  have b13 := F13.binds (ps := P_take_no) fun _ _ _ _ _ _ us hl => match us, hl with | [_, _], _ => rfl
  have F14 := fun_mk (st := s_take_back) l14 c14 k14
  have b14 := F14.binds (ps := P_take_back) fun _ _ _ _ _ _ us hl => match us, hl with | [_, _], _ => rfl
  have F15 := fun_mk (st := s_take_told) l15 c15 k15
  have b15 := F15.binds (ps := P_take_told) fun _ _ _ _ _ _ us hl => match us, hl with | [_], _ => rfl
  have F16 := fun_mk (st := s_taken) l16 c16 k16
  have b16 := F16.binds (ps := P_taken) fun _ _ _ _ _ _ us hl => match us, hl with | [_, _, _, _, _], _ => rfl
  have F17 := fun_mk (st := s_law_stream) l17 c17 k17
  have b17 := F17.binds (ps := P_law_stream) fun _ _ _ _ _ _ us hl => match us, hl with | [_], _ => rfl
  have F18 := fun_mk (st := s_law_take) l18 c18 k18
  have b18 := F18.binds (ps := P_law_take) fun _ _ _ _ _ _ us hl => match us, hl with | [_, _], _ => rfl
  have F19 := fun_mk (st := s_law_letters) l19 c19 k19
  have b19 := F19.binds (ps := P_law_letters) fun _ _ _ _ _ _ us hl => match us, hl with | [_, _, _, _], _ => rfl
  have F20 := fun_mk (st := s_law_right) l20 c20 k20
  have b20 := F20.binds (ps := P_law_right) fun _ _ _ _ _ _ us hl => match us, hl with | [_, _, _, _, _, _], _ => rfl
  have F21 := fun_mk (st := s_law) l21 c21 k21
  have b21 := F21.binds (ps := P_law) fun _ _ _ _ _ _ us hl => match us, hl with | [_], _ => rfl
  have T : Txt K mg ⟨f0, _, f1, _, f2, _, f3, _, f4, _, f5, _, f6, _, f7, _, f8, _, f9, _, f10, _, f11, _, f12, _, f13, _, f14, _, f15, _, f16, _, f17, _, f18, _, f19, _, f20, _, fa, _, cNOTHING⟩ := ⟨F0, PySem.W.mg_of X G a0, b0, F1, PySem.W.mg_of X G a1, b1, F2, PySem.W.mg_of X G a2, b2, F3, PySem.W.mg_of X G a3, b3, F4, PySem.W.mg_of X G a4, b4, F5, PySem.W.mg_of X G a5, b5, F6, PySem.W.mg_of X G a6, b6, F7, PySem.W.mg_of X G a7, b7, F8, PySem.W.mg_of X G a8, b8, F9, PySem.W.mg_of X G a9, b9, F10, PySem.W.mg_of X G a10, b10, F11, PySem.W.mg_of X G a11, b11, F12, PySem.W.mg_of X G a12, b12, F13, PySem.W.mg_of X G a13, b13, F14, PySem.W.mg_of X G a14, b14, F15, PySem.W.mg_of X G a15, b15, F16, PySem.W.mg_of X G a16, b16, F17, PySem.W.mg_of X G a17, b17, F18, PySem.W.mg_of X G a18, b18, F19, PySem.W.mg_of X G a19, b19, F20, PySem.W.mg_of X G a20, b20, F21, PySem.W.mg_of X G a21, b21, PySem.W.mg_none_of X G z_any, PySem.W.mg_none_of X G z_int, PySem.W.mg_none_of X G z_len, PySem.W.mg_none_of X G z_list, PySem.W.mg_none_of X G z_max, PySem.W.mg_none_of X G z_range, PySem.W.mg_none_of X G z_sorted, PySem.W.mg_none_of X G z_tuple, PySem.W.mg_of X G aNOTHING, fun G => (rp_kt (xs := [.ref cNOTHING_0, .ref cNOTHING_1, .non]) hcNOTHING (sizeLine_big (n := 3) (by decide)) (.cons rfl (.cons rfl (.cons rfl .nil))) (.cons (rp_kt (xs := []) hcNOTHING_0 (sizeLine_big (n := 0) (by decide)) .nil .nil) (.cons (rp_kt (xs := []) hcNOTHING_1 (sizeLine_big (n := 0) (by decide)) .nil .nil) (.cons .non .nil))))⟩
  exact ⟨_, fun s v => .of_eq rfl, fun base _ _ => ok_law T⟩
theorem walk {l : PySem.W.OpenLaw} {q : Program} {loose : List Str} {XP : (Str → Option Value) → Heap → Prop} {YP : World → Heap → Prop} {d : DefRec} {K : Params → PySem.W.Frag} (hn : l.most = some 63) (hdf : d.params.defaults = [])
    (hY : ∀ (w : World) (h : Heap), YP w h → (K w.params).In h)
    (F : ∀ (w : World) (mg : Str → Option Value) (fa : Addr) (h : Heap), (K w.params).In h → h.Ns mainGlobals mg → mg d.name = some (.ref fa) →
      ∃ fd : FuncData, (∀ (s : Shared) (u : Value), BindsTo s fd ⟨[u], []⟩ [("script", u)]) ∧ ∀ base : Heap, (K w.params).In base → base.Ns mainGlobals mg → FnOk l.prog w (K w.params) mg base CX0 8 fa fd ["script"] (spP (K w.params) 1 M_law)) :
    PySem.W.WalkO q loose XP YP l.row.toRowW d [] (fun f vs => PySem.call f vs) :=
  L2.walk_of (n := 63) (k := 8) (x := "script") (CX := fun _ => CX0) (sp := fun w => spP (K w.params) 1 M_law) hn (by decide) hdf ⟨rfl, by decide, by decide, rfl⟩ hY F (fun _ H a ns hl _ hS => ⟨H, [.list (ns.map .int)], .bool true, rfl, Same.refl H, .cons (.lst hS (.of_ints ns)) .nil, law_true ns hl, fun v G' H' _ _ _ p => by cases p; rfl⟩) fun _ _ _ _ _ z => z
end PR
open PySem PySem.W PyProof.Rows
set_option maxRecDepth 100000 in
set_option maxHeartbeats 0 in
theorem PySem.Challenge.cw_onename_k14_whole_yes_by_the_needed_holds : PySem.Challenge.rw_onename_k14_whole_yes_by_the_needed.Holds := by
  w_on; o_law; k_head; (case hw => w_witness2)
  k_fill
  refine PR.walk (l := PySem.Challenge.rw_onename_k14_whole_yes_by_the_needed) rfl rfl (fun w h Y => PySem.W.kIn_of Y) ?F
  case F =>
    intro w mg fa h KX G hmg
    refine' PR.all_mk KX G hmg ?a0 ?l0 ?c0 ?k0 ?a1 ?l1 ?c1 ?k1 ?a2 ?l2 ?c2 ?k2 ?a3 ?l3 ?c3 ?k3 ?a4 ?l4 ?c4 ?k4 ?a5 ?l5 ?c5 ?k5 ?a6 ?l6 ?c6 ?k6 ?a7 ?l7 ?c7 ?k7 ?a8 ?l8 ?c8 ?k8 ?a9 ?l9 ?c9 ?k9 ?a10 ?l10 ?c10 ?k10 ?a11 ?l11 ?c11 ?k11 ?a12 ?l12 ?c12 ?k12 ?a13 ?l13 ?c13 ?k13 ?a14 ?l14 ?c14 ?k14 ?a15 ?l15 ?c15 ?k15 ?a16 ?l16 ?c16 ?k16 ?a17 ?l17 ?c17 ?k17 ?a18 ?l18 ?c18 ?k18 ?a19 ?l19 ?c19 ?k19 ?a20 ?l20 ?c20 ?k20 ?a21 ?l21 ?c21 ?k21 ?z_any ?z_int ?z_len ?z_list ?z_max ?z_range ?z_sorted ?z_tuple ?aNOTHING ?hcNOTHING ?hcNOTHING_0 ?hcNOTHING_1
    (case a0 => k_is)
    (case l0 => k_is)
    (case c0 => k_is)
    (case k0 => k_is)
    (case a1 => k_is)
    (case l1 => k_is)
    (case c1 => k_is)
    (case k1 => k_is)
    (case a2 => k_is)
    (case l2 => k_is)
    (case c2 => k_is)
    (case k2 => k_is)
    (case a3 => k_is)
    (case l3 => k_is)
    (case c3 => k_is)
    (case k3 => k_is)
    (case a4 => k_is)
    (case l4 => k_is)
    (case c4 => k_is)
    (case k4 => k_is)
    (case a5 => k_is)
    (case l5 => k_is)
    (case c5 => k_is)
    (case k5 => k_is)
    (case a6 => k_is)
    (case l6 => k_is)
    (case c6 => k_is)
    (case k6 => k_is)
    (case a7 => k_is)
    (case l7 => k_is)
    (case c7 => k_is)
    (case k7 => k_is)
    (case a8 => k_is)
    (case l8 => k_is)
    (case c8 => k_is)
    (case k8 => k_is)
    (case a9 => k_is)
    (case l9 => k_is)
    (case c9 => k_is)
    (case k9 => k_is)
    (case a10 => k_is)
    (case l10 => k_is)
    (case c10 => k_is)
    (case k10 => k_is)
    (case a11 => k_is)
    (case l11 => k_is)
    (case c11 => k_is)
    (case k11 => k_is)
    (case a12 => k_is)
    (case l12 => k_is)
    (case c12 => k_is)
    (case k12 => k_is)
    (case a13 => k_is)
    (case l13 => k_is)
    (case c13 => k_is)
    (case k13 => k_is)
    (case a14 => k_is)
    (case l14 => k_is)
    (case c14 => k_is)
    (case k14 => k_is)
    (case a15 => k_is)
    (case l15 => k_is)
    (case c15 => k_is)
    (case k15 => k_is)
    (case a16 => k_is)
    (case l16 => k_is)
    (case c16 => k_is)
    (case k16 => k_is)
    (case a17 => k_is)
    (case l17 => k_is)
    (case c17 => k_is)
    (case k17 => k_is)
    (case a18 => k_is)
    (case l18 => k_is)
    (case c18 => k_is)
    (case k18 => k_is)
    (case a19 => k_is)
    (case l19 => k_is)
    (case c19 => k_is)
    (case k19 => k_is)
    (case a20 => k_is)
    (case l20 => k_is)
    (case c20 => k_is)
    (case k20 => k_is)
    (case a21 => k_is)
    (case l21 => k_is)
    (case c21 => k_is)
    (case k21 => k_is)
    (case z_any => k_is)
    (case z_int => k_is)
    (case z_len => k_is)
    (case z_list => k_is)
    (case z_max => k_is)
    (case z_range => k_is)
    (case z_sorted => k_is)
    (case z_tuple => k_is)
    (case aNOTHING => k_is)
    (case hcNOTHING => k_is)
    (case hcNOTHING_0 => k_is)
    (case hcNOTHING_1 => k_is)
