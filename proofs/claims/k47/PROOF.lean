import PyProof.Rows.All
import Wide.All
import OpenK.AllK
import Wide.FinOn
import PyProof.EqAt
import PyProof.EqKinds
import PyProof.TupleCall
import KE.BitLaws
import PyProof.Rows.SortShellAny
import KE.KSortTupG
import KE.KSortTupUse
import KE.KItemsList
import KE.KTab
import PyProof.Rows.SetFrom
import PyProof.ListStr
import PyProof.TupleOfGen
import PyProof.NeKinds
import PyProof.ListMulRoad
import PyProof.FactsAll.tuple_2
import PyProof.PassesOwn
import PyProof.ReprRoads
import PyProof.Draws
import PyProof.EnumMake
import PyProof.FactsAll.tuple_3
import PyProof.FactsAll.tuple_0
import PyProof.Rows.SortStr
import PyProof.ExcArgsOwn
import KE.KDictList
import KE.KStar
import PySem.Challenge.RW_onename_k47_deeds_and_logs_written
set_option Elab.async false
set_option linter.all false
set_option maxRecDepth 100000
namespace L2
open PySem PySem.Spec PyProof.Rows

/-- a key: an int or a str -/
abbrev Key := Sum Int Str
def keyIs : Key → Value → Bool
  | .inl k, v => Value.isInt k v
  | .inr x, v => Value.isStrOf x v
def keyH (w : World) : Key → Int
  | .inl k => hashInt k
  | .inr x => hashStr w x
theorem keyIs_shape : ∀ {k : Key} {v : Value}, keyIs k v = true → (∃ i t, k = Sum.inl i ∧ v = Value.int i t) ∨ (∃ x t, k = Sum.inr x ∧ v = Value.str x t)
  | .inl i, v, h => by
    obtain ⟨t, e⟩ := Value.isInt_shape (k := i) (v := v) h
    exact .inl ⟨i, t, rfl, e⟩
  | .inr x, v, h => by
    obtain ⟨t, e⟩ := Value.isStrOf_shape (x := x) (v := v) h
    exact .inr ⟨x, t, rfl, e⟩
theorem key_ll (a b : Int) : decide ((Sum.inl a : Key) = Sum.inl b) = (a == b) := by
  by_cases e : a = b
  · subst e; simp
  · have h : ¬ (Sum.inl a : Key) = Sum.inl b := fun q => e (Sum.inl.inj q)
    rw [decide_eq_false h]
    exact (beq_eq_false_iff_ne.mpr e).symm
theorem key_rr (a b : Str) : decide ((Sum.inr a : Key) = Sum.inr b) = decide (a = b) := by
  by_cases e : a = b
  · subst e; simp
  · have h : ¬ (Sum.inr a : Key) = Sum.inr b := fun q => e (Sum.inr.inj q)
    rw [decide_eq_false h, decide_eq_false e]
theorem key_lr (a : Int) (b : Str) : decide ((Sum.inl a : Key) = Sum.inr b) = false := decide_eq_false (fun q => nomatch q)
theorem key_rl (a : Str) (b : Int) : decide ((Sum.inr a : Key) = Sum.inl b) = false := decide_eq_false (fun q => nomatch q)

def mixKind (prog : Program) (w : World) : PySem.KeyKind prog w Key where
  is := keyIs
  hash := keyH w
  inj := fun v a b ha hb => by
    rcases keyIs_shape ha with ⟨i, t, rfl, rfl⟩ | ⟨x, t, rfl, rfl⟩
    · rcases keyIs_shape hb with ⟨j, u, rfl, e⟩ | ⟨y, u, rfl, e⟩
      · injection e with e1 _; rw [e1]
      · exact nomatch e
    · rcases keyIs_shape hb with ⟨j, u, rfl, e⟩ | ⟨y, u, rfl, e⟩
      · exact nomatch e
      · injection e with e1 _; rw [e1]
  byValue := fun k v h => by
    rcases keyIs_shape h with ⟨i, t, rfl, rfl⟩ | ⟨x, t, rfl, rfl⟩ <;> rfl
  pyHash := fun hv h => by
    rcases keyIs_shape hv with ⟨i, t, rfl, rfl⟩ | ⟨x, t, rfl, rfl⟩
    · exact wpAny_pyHash_int h
    · exact wpAny_pyHash_str h
  eqBool := fun hu hv h => by
    rcases keyIs_shape hu with ⟨i, t, rfl, rfl⟩ | ⟨x, t, rfl, rfl⟩
    · rcases keyIs_shape hv with ⟨j, u, rfl, rfl⟩ | ⟨y, u, rfl, rfl⟩
      · rw [key_ll] at h; exact wpAny_eqBool_int h
      · rw [key_lr] at h; exact SeqAt.EqAt.int_str i t y u _ _ _ _ h
    · rcases keyIs_shape hv with ⟨j, u, rfl, rfl⟩ | ⟨y, u, rfl, rfl⟩
      · rw [key_rl] at h; exact SeqAt.EqAt.str_int x t j u _ _ _ _ h
      · rw [key_rr] at h; exact wpAny_eqBool_str h
  «strs» := fun k x t v h => by
    rcases keyIs_shape h with ⟨i, u, rfl, e⟩ | ⟨y, u, rfl, e⟩
    · exact nomatch e
    · injection e with e1 _
      subst e1
      cases v <;> rfl

end L2

namespace L2
open PySem PySem.Spec PyProof.Rows

/-- a value, without the heap -/
inductive V where
  | non | bl (b : Bool) | int (i : Int) | str (x : Str) | byt (b : Array UInt8) | flt (b : UInt64) | ref (a : Addr) | ty (n : String)
  deriving DecidableEq

def RelV : V → Value → Prop
  | .non, u => u = Value.none
  | .bl b, u => u = Value.bool b
  | .int i, u => ∃ t, u = Value.int i t
  | .str x, u => ∃ t, u = Value.str x t
  | .byt b, u => ∃ t, u = Value.bytes b t
  | .flt b, u => ∃ t, u = Value.float b t
  | .ref a, u => u = Value.ref a
  | .ty n, u => u = Value.type n

abbrev Vals : List V → List Value → Prop := Paired RelV
theorem Vals.length {xs : List V} {us : List Value} (r : Vals xs us) : xs.length = us.length := Paired.length r
theorem Vals.get : ∀ {xs : List V} {us : List Value} {i : Nat} {x : V}, Vals xs us → xs[i]? = some x → ∃ u, us[i]? = some u ∧ RelV x u
  | _, _, _, _, .nil, e => by simp at e
  | _, _, 0, _, .cons r _, e => by simp at e; subst e; exact ⟨_, rfl, r⟩
  | _, _, i + 1, x, .cons _ t, e => by
    obtain ⟨u, h1, h2⟩ := Vals.get (i := i) (x := x) t (by simpa using e)
    exact ⟨u, by simpa using h1, h2⟩
theorem Vals.set {x : V} {u : Value} (r : RelV x u) : ∀ {xs : List V} {us : List Value} (i : Nat), Vals xs us → Vals (xs.set i x) (us.set i u)
  | _, _, _, .nil => .nil
  | _, _, 0, .cons _ t => .cons r t
  | _, _, i + 1, .cons q t => .cons q (Vals.set r i t)
theorem Vals.append : ∀ {xs ys : List V} {us ws : List Value}, Vals xs us → Vals ys ws → Vals (xs ++ ys) (us ++ ws)
  | _, _, _, _, .nil, s => s
  | _, _, _, _, .cons r t, s => .cons r (Vals.append t s)
theorem Vals.take : ∀ {xs : List V} {us : List Value} (n : Nat), Vals xs us → Vals (xs.take n) (us.take n)
  | _, _, 0, _ => .nil
  | _, _, _ + 1, .nil => .nil
  | _, _, n + 1, .cons r t => .cons r (Vals.take n t)
theorem Vals.drop : ∀ {xs : List V} {us : List Value} (n : Nat), Vals xs us → Vals (xs.drop n) (us.drop n)
  | _, _, 0, r => r
  | _, _, _ + 1, .nil => .nil
  | _, _, n + 1, .cons _ t => Vals.drop n t
def RelO : Option V → Option Value → Prop
  | some v, some u => RelV v u
  | none, none => True
  | _, _ => False
def KV {κ : Type} : List (κ × V) → List (κ × Value) → Prop := Paired fun (p : κ × V) (q : κ × Value) => p.1 = q.1 ∧ RelV p.2 q.2

/-- a key of a dict (00_mix): an int or a text -/
def kV : Key → V
  | .inl i => .int i
  | .inr x => .str x

/-- what stands at a tracked address -/
inductive HO where
  /-- a list -/
  | lst (xs : List V)
  /-- a tuple (never changes) -/
  | tup (xs : List V)
  /-- a dict whose keys are ints and texts; one whose keys are tuples of ints and texts (the empty one is both) -/
  | dK (kvs : List (Key × V)) | dT (kvs : List (List Key × V))
  /-- a set of ints: its members, its size -/
  | set (S : Int → Bool) (n : Nat)
  /-- an instance of the class at C, its dict at dx, its attributes -/
  | ins (C dx : Addr) (fs : List (Str × V))
  /-- the dict of the instance at x -/
  | own (x : Addr)
  /-- the dict of an exception -/
  | xd (fs : List (Str × V))
  /-- a bound method, f of x -/
  | met (f x : Addr)
  /-- a range object lo, lo + 1, .. below hi -/
  | rng (lo hi : Int)
  /-- a thing that is known to the object (the script; a dict while a loop walks it): read, never written while it is so -/
  | frz (o : Obj) (u : HO)
  /-- a code object's table -/
  | tbl (ps : Array Value)
  /-- any other thing, by what is true of its one object (a def of one's own: SetO a S n := HO.ext fun h => ..) -/
  | ext (φ : Heap → Prop)

abbrev Hp := Addr → Option HO
def upd (H : Hp) (a : Addr) (o : HO) : Hp := fun b => if b = a then some o else H b
theorem upd_same {H : Hp} {a : Addr} {o : HO} : upd H a o a = some o := by unfold upd; rw [if_pos rfl]
theorem upd_ne {H : Hp} {a b : Addr} {o : HO} (h : b ≠ a) : upd H a o b = H b := by unfold upd; rw [if_neg h]
theorem ne_of_none {H : Hp} {a b : Addr} {o : HO} (h : H a = some o) (h' : H b = none) : a ≠ b := by
  intro e; subst e; rw [h] at h'; cases h'

/-- a tuple with no dict of its own -/
def IsTupN (h : Heap) (a : Addr) (items : Array Value) : Prop := ∃ o, h.get? a = some o ∧ o.cls = .type "tuple" ∧ ∃ n, o.data = .seq items n ∧ o.dict = none
theorem IsTupN.tup {h : Heap} {a : Addr} {items : Array Value} (x : IsTupN h a items) : IsTup h a items := let ⟨o, h1, h2, n, h3, _⟩ := x; ⟨o, h1, h2, n, h3⟩
theorem IsTupN.new (h : Heap) (items : Array Value) : IsTupN (h.push { cls := .type "tuple", data := .seq items }) h.objs.size items := ⟨_, Heap.get?_push_size _ rfl, rfl, _, rfl, rfl⟩
section
variable (P : Program) (w : World)
def ObjOk (H : Hp) (h : Heap) (a : Addr) : HO → Prop
  | .lst xs => xs.length ≤ sizeLine ∧ ∃ (its : List Value) (n : Nat), Vals xs its ∧ h.get? a = some { cls := .type "list", data := .seq its.toArray n }
  | .tup xs => xs.length ≤ sizeLine ∧ ∃ its : List Value, Vals xs its ∧ IsTupN h a its.toArray
  | .dK kvs => kvs.length ≤ sizeLine ∧ (a == sysModules) = false ∧ ∃ vs, KV kvs vs ∧ h.DictOf (mixKind P w) a vs
  | .dT kvs => kvs.length ≤ sizeLine ∧ (a == sysModules) = false ∧ ∃ xs : List (List Key × Addr × Value),
      Paired (fun (p : List Key × V) (q : List Key × Addr × Value) => p.1 = q.1 ∧ H q.2.1 = some (.tup (p.1.map kV)) ∧ RelV p.2 q.2.2) kvs xs ∧
      ∃ o es ep, h.get? a = some o ∧ o.ExactDict ∧ o.data = .dict es ep ∧ es.toList = xs.map (entryOfKey (tupleKind (mixKind P w))) ∧ (xs.map (·.1)).Nodup
  | .set S n => h.SetOf (intKind P w) a S n
  | .ins C dx fs => H dx = some (.own a) ∧ fs.length ≤ 1000 ∧ dx ≠ a ∧ h.get? a = some (PySem.W.instObj C dx) ∧
      ∃ mA, h.Ns1 dx mA ∧ (∀ f, RelO (fs.lookup f) (mA f)) ∧ PySem.Within mA (fs.map (·.1))
  | .own _ => ∃ o, h.get? a = some o
  | .xd fs => ∃ mA, h.Ns1 a mA ∧ ∀ f, RelO (fs.lookup f) (mA f)
  | .rng lo hi => ∃ t u v, h.get? a = some { cls := .type "range", data := .fields #[.int lo t, .int hi u, .int 1 v] }
  | .frz o u => h.get? a = some o ∧ ObjOk H h a u
  | .tbl ps => h.get? a = some { cls := .none, data := .fields ps }
  | .met f x => h.get? a = some (PySem.W.methodObj (.ref f) (.ref x))
  | .ext φ => φ h ∧ (∃ o, h.get? a = some o) ∧ ∀ h1 h2 : Heap, φ h1 → (∀ o, h1.get? a = some o → h2.get? a = some o) → φ h2
/-- the abstract heap is held -/
def HOk (H : Hp) (h : Heap) : Prop := ∀ a o, H a = some o → ObjOk P w H h a o
end

section
variable {P : Program} {w : World} {H H' : Hp} {h h' : Heap} {a : Addr} {o : HO}
theorem ObjOk.lt (x : ObjOk P w H h a o) : a < h.objs.size := by
  cases o with
  | lst xs => obtain ⟨_, _, _, _, e⟩ := x; exact Heap.lt_size e
  | tup xs => obtain ⟨_, _, _, p⟩ := x; exact p.tup.lt
  | dK kvs => obtain ⟨_, _, _, _, o, _, _, e, _⟩ := x; exact Heap.lt_size e
  | dT kvs => obtain ⟨_, _, _, _, o, _, _, e, _⟩ := x; exact Heap.lt_size e
  | set S n => obtain ⟨o, _, _, _, e, _⟩ := x; exact Heap.lt_size e
  | ins C dx fs => obtain ⟨_, _, _, e, _⟩ := x; exact Heap.lt_size e
  | own y => obtain ⟨_, e⟩ := x; exact Heap.lt_size e
  | xd fs => obtain ⟨_, ⟨_, _, _, e, _⟩, _⟩ := x; exact Heap.lt_size e
  | rng lo hi => obtain ⟨_, _, _, e⟩ := x; exact Heap.lt_size e
  | frz ob u => obtain ⟨e, _⟩ := x; exact Heap.lt_size e
  | tbl ps => exact Heap.lt_size (show h.get? a = some _ from x)
  | met f y => exact Heap.lt_size (show h.get? a = some _ from x)
  | ext φ => obtain ⟨_, ⟨_, e⟩, _⟩ := x; exact Heap.lt_size e
theorem Paired.mapP {α β : Type} {F G : α → β → Prop} : ∀ {l₁ : List α} {l₂ : List β}, Paired F l₁ l₂ → (∀ a b, F a b → G a b) → Paired G l₁ l₂
  | _, _, .nil, _ => .nil
  | _, _, .cons r t, f => .cons (f _ _ r) (Paired.mapP t f)
/-- what an object's description leans on: its own object, its own dict, the tuples -/
theorem ObjOk.stay (x : ObjOk P w H h a o) (k : ∀ b u, (b = a ∨ H b = some (.own a)) → h.get? b = some u → h'.get? b = some u)
    (ho : ∀ b, H b = some (.own a) → H' b = some (.own a)) (ht : ∀ b xs, H b = some (.tup xs) → H' b = some (.tup xs)) : ObjOk P w H' h' a o := by
  induction o with
  | lst xs => obtain ⟨z, its, n, r, e⟩ := x; exact ⟨z, its, n, r, k _ _ (.inl rfl) e⟩
  | tup xs => obtain ⟨z, its, r, ob, e, c⟩ := x; exact ⟨z, its, r, ob, k _ _ (.inl rfl) e, c⟩
  | dK kvs => obtain ⟨z, y, vs, r, ob, es, ep, e, c⟩ := x; exact ⟨z, y, vs, r, ob, es, ep, k _ _ (.inl rfl) e, c⟩
  | dT kvs =>
    obtain ⟨z, y, xs, r, ob, es, ep, e, c⟩ := x
    exact ⟨z, y, xs, Paired.mapP r fun p q z => ⟨z.1, ht _ _ z.2.1, z.2.2⟩, ob, es, ep, k _ _ (.inl rfl) e, c⟩
  | set S n => obtain ⟨ob, es, ep, t, e, c⟩ := x; exact ⟨ob, es, ep, t, k _ _ (.inl rfl) e, c⟩
  | ins C dx fs =>
    obtain ⟨d, z, ne, e, mA, ⟨od, es, ep, e2, c⟩, r⟩ := x
    exact ⟨ho _ d, z, ne, k _ _ (.inl rfl) e, mA, ⟨od, es, ep, k _ _ (.inr d) e2, c⟩, r⟩
  | own y => obtain ⟨ob, e⟩ := x; exact ⟨ob, k _ _ (.inl rfl) e⟩
  | xd fs => obtain ⟨mA, ⟨od, es, ep, e, c⟩, r⟩ := x; exact ⟨mA, ⟨od, es, ep, k _ _ (.inl rfl) e, c⟩, r⟩
  | rng lo hi => obtain ⟨t, u, v, e⟩ := x; exact ⟨t, u, v, k _ _ (.inl rfl) e⟩
  | frz ob u ih => obtain ⟨e, q⟩ := x; exact ⟨k _ _ (.inl rfl) e, ih q⟩
  | tbl ps =>
    have e : h.get? a = some { cls := .none, data := .fields ps } := x
    show h'.get? a = some { cls := .none, data := .fields ps }
    exact k a _ (.inl rfl) e
  | met f y =>
    have e : h.get? a = some (PySem.W.methodObj (.ref f) (.ref y)) := x
    show h'.get? a = some (PySem.W.methodObj (.ref f) (.ref y))
    exact k a _ (.inl rfl) e
  | ext φ => obtain ⟨p, ⟨o, e⟩, st⟩ := x; exact ⟨st _ _ p fun o q => k _ _ (.inl rfl) q, ⟨o, k _ _ (.inl rfl) e⟩, st⟩
theorem HOk.lt (x : HOk P w H h) (e : H a = some o) : a < h.objs.size := (x a o e).lt
theorem HOk.fresh (x : HOk P w H h) (e : h.objs.size ≤ a) : H a = none := by
  cases q : H a with
  | none => rfl
  | some u => exact absurd (Nat.lt_of_lt_of_le (x.lt q) e) (Nat.lt_irrefl _)
/-- every object of the heap is kept -/
theorem HOk.kept (x : HOk P w H h) (k : ∀ b u, h.get? b = some u → h'.get? b = some u) : HOk P w H h' := fun a o e =>
  (x a o e).stay (fun b u _ q => k b u q) (fun _ q => q) fun _ _ q => q
/-- a new object is laid and tracked -/
theorem HOk.laid (x : HOk P w H h) (k : ∀ b u, h.get? b = some u → h'.get? b = some u) (hp : h.objs.size ≤ a) (new : ObjOk P w (upd H a o) h' a o) : HOk P w (upd H a o) h' := fun b u e => by
  have hn := x.fresh hp
  by_cases hb : b = a
  · subst hb; rw [upd_same] at e; cases e; exact new
  · rw [upd_ne hb] at e
    exact (x b u e).stay (fun c v _ q => k c v q) (fun c q => by rw [upd_ne (ne_of_none q hn)]; exact q) fun c xs q => by rw [upd_ne (ne_of_none q hn)]; exact q
end

/-- what may be read as u: it is u, or a known u -/
def Rd (H : Hp) (a : Addr) (u : HO) : Prop := H a = some u ∨ ∃ o, H a = some (.frz o u)
theorem Rd.of {H : Hp} {a : Addr} {u : HO} (h : H a = some u) : Rd H a u := .inl h
theorem Rd.ok {P : Program} {w : World} {H : Hp} {h : Heap} {a : Addr} {u : HO} (r : Rd H a u) (x : HOk P w H h) : ObjOk P w H h a u := by
  rcases r with r | ⟨o, r⟩
  · exact x a u r
  · obtain ⟨_, q⟩ := x a _ r
    exact q
/-- what may be written -/
def Mut : Option HO → Prop
  | some (.lst _) => True
  | some (.dK _) => True
  | some (.dT _) => True
  | some (.set _ _) => True
  | some (.ins _ _ _) => True
  | some (.ext _) => True
  | _ => False
section
variable {P : Program} {w : World} {H : Hp} {h h' : Heap} {x e : Addr} {o' : HO}
/-- the object at e is changed: x itself, or the dict of the instance x -/
theorem HOk.write (ok : HOk P w H h) (mu : Mut (H x)) (he : e = x ∨ H e = some (.own x)) (k : ∀ b u, b ≠ e → h.get? b = some u → h'.get? b = some u) (heo : ∃ u, h'.get? e = some u)
    (new : ObjOk P w (upd H x o') h' x o') : HOk P w (upd H x o') h' := fun b u q => by
  have nown : ∀ c y, H c = some (.own y) → c ≠ x := fun c y r z => by subst z; rw [r] at mu; exact mu
  have ntup : ∀ c xs, H c = some (.tup xs) → c ≠ x := fun c xs r z => by subst z; rw [r] at mu; exact mu
  by_cases hb : b = x
  · subst hb; rw [upd_same] at q; cases q; exact new
  · rw [upd_ne hb] at q
    by_cases hbe : b = e
    · have q' : H b = some (.own x) := by
        rcases he with z | z
        · exact absurd (hbe.trans z) hb
        · rw [hbe]; exact z
      rw [q] at q'; cases q'
      obtain ⟨v, hv⟩ := heo
      exact ⟨v, by rw [hbe]; exact hv⟩
    · refine (ok b u q).stay (fun c v hc r => k c v ?_ r) (fun c r => by rw [upd_ne (nown c b r)]; exact r) fun c xs r => by rw [upd_ne (ntup c xs r)]; exact r
      rcases hc with rfl | hc
      · exact hbe
      · rintro rfl
        rcases he with z | z
        · exact nown c b hc z
        · rw [hc] at z; cases z; exact hb rfl
end

structure Un (fs ex : List Addr) (H H' : Hp) (h h' : Heap) : Prop where
  keep : ∀ b o, h.get? b = some o → H b = none → b ∉ fs → b ∉ ex → h'.get? b = some o
  slot : ∀ b o, h.get? b = some o → H b = none → b ∈ fs → b ∉ ex → ∃ sl, h'.get? b = some { o with slots := sl }
  free : ∀ b o, h.get? b = some o → H b = none → b ∉ ex → H' b = none
  there : ∀ b o, h.get? b = some o → b ∉ ex → ∃ o', h'.get? b = some o'
  tups : ∀ b xs, H b = some (.tup xs) → H' b = some (.tup xs)
  frzs : ∀ b o u, H b = some (.frz o u) → H' b = some (.frz o u)
  tbls : ∀ b ps, H b = some (.tbl ps) → ∃ more, H' b = some (.tbl (ps ++ more))
section
variable {fs fs' ex ex' : List Addr} {H H1 H2 : Hp} {h h1 h2 h' : Heap} {a x e : Addr} {o : HO}
theorem Un.any (u : Un fs ex H H1 h h1) {b : Addr} {ob : Obj} (q : h.get? b = some ob) (n : H b = none) (hx : b ∉ ex) : ∃ sl, h1.get? b = some { ob with slots := sl } := by
  by_cases hb : b ∈ fs
  · exact u.slot b ob q n hb hx
  · exact ⟨ob.slots, u.keep b ob q n hb hx⟩
theorem Un.trans (a : Un fs ex H H1 h h1) (b : Un fs ex H1 H2 h1 h2) : Un fs ex H H2 h h2 where
  keep := fun c ob q n hc hx => b.keep c ob (a.keep c ob q n hc hx) (a.free c ob q n hx) hc hx
  slot := fun c ob q n hc hx => by
    obtain ⟨sl, e1⟩ := a.slot c ob q n hc hx
    obtain ⟨sl', e2⟩ := b.slot c _ e1 (a.free c ob q n hx) hc hx
    exact ⟨sl', e2⟩
  free := fun c ob q n hx => by
    obtain ⟨o', e1⟩ := a.there c ob q hx
    exact b.free c o' e1 (a.free c ob q n hx) hx
  there := fun c ob q hx => by
    obtain ⟨o', e1⟩ := a.there c ob q hx
    exact b.there c o' e1 hx
  tups := fun c xs q => b.tups c xs (a.tups c xs q)
  frzs := fun c ob xs q => b.frzs c ob xs (a.frzs c ob xs q)
  tbls := fun c ps q => by
    obtain ⟨m1, e1⟩ := a.tbls c ps q
    obtain ⟨m2, e2⟩ := b.tbls c _ e1
    exact ⟨m1 ++ m2, by rw [e2, Array.append_assoc]⟩
theorem Un.kept (k : ∀ b u, h.get? b = some u → h'.get? b = some u) : Un fs ex H H h h' :=
  ⟨fun b ob q _ _ _ => k b ob q, fun b ob q _ _ _ => ⟨ob.slots, k b ob q⟩, fun _ _ _ n _ => n, fun b ob q _ => ⟨ob, k b ob q⟩, fun _ _ q => q, fun _ _ _ q => q, fun _ ps q => ⟨#[], by rw [q]; simp⟩⟩
theorem Un.refl : Un fs ex H H h h := Un.kept fun _ _ q => q
theorem Un.laid (k : ∀ b u, h.get? b = some u → h'.get? b = some u) (hp : h.objs.size ≤ a) (hn : H a = none) : Un fs ex H (upd H a o) h h' where
  keep := fun b u q _ _ _ => k b u q
  slot := fun b u q _ _ _ => ⟨u.slots, k b u q⟩
  free := fun b u q n _ => by rw [upd_ne (Nat.ne_of_lt (Nat.lt_of_lt_of_le (Heap.lt_size q) hp))]; exact n
  there := fun b u q _ => ⟨u, k b u q⟩
  tups := fun b xs q => by rw [upd_ne (ne_of_none q hn)]; exact q
  frzs := fun b u xs q => by rw [upd_ne (ne_of_none q hn)]; exact q
  tbls := fun b ps q => ⟨#[], by rw [upd_ne (ne_of_none q hn), q]; simp⟩
theorem Un.write (mu : Mut (H x)) (he : e = x ∨ H e = some (.own x)) (k : ∀ b u, b ≠ e → h.get? b = some u → h'.get? b = some u) (heo : ∃ u, h'.get? e = some u) : Un fs ex H (upd H x o) h h' := by
  have hx : ∀ b, H b = none → b ≠ x := fun b n z => by subst z; rw [n] at mu; exact mu
  have hb : ∀ b, H b = none → b ≠ e := fun b n z => by
    subst z
    rcases he with r | r
    · exact hx b n r
    · rw [n] at r; cases r
  have hm : ∀ b u, H b = some u → ¬ Mut (some u) → b ≠ x := fun b u q nm z => by subst z; rw [q] at mu; exact nm mu
  refine ⟨fun b u q n _ _ => k b u (hb b n) q, fun b u q n _ _ => ⟨u.slots, k b u (hb b n) q⟩, fun b u q n _ => by rw [upd_ne (hx b n)]; exact n, fun b u q _ => ?_,
    fun b xs q => by rw [upd_ne (hm b _ q fun z => z)]; exact q, fun b u xs q => by rw [upd_ne (hm b _ q fun z => z)]; exact q, fun b ps q => ⟨#[], by rw [upd_ne (hm b _ q fun z => z), q]; simp⟩⟩
  by_cases hbe : b = e
  · subst hbe; exact heo
  · exact ⟨u, k b u hbe q⟩
theorem Un.mono (u : Un fs ex H H1 h h1) (hs : ∀ b ∈ fs, b ∈ fs') (hx : ∀ b ∈ ex, b ∈ ex') : Un fs' ex' H H1 h h1 :=
  ⟨fun b ob q n hb he => u.keep b ob q n (fun z => hb (hs b z)) fun z => he (hx b z), fun _ _ q n _ he => u.any q n fun z => he (hx _ z), fun b ob q n he => u.free b ob q n fun z => he (hx b z), fun b ob q he => u.there b ob q fun z => he (hx b z), u.tups, u.frzs, u.tbls⟩
end

def trk (h : Heap) (H : Hp) : List Addr := (List.range h.objs.size).filter fun a => (H a).isSome
def hidT (h : Heap) (H : Hp) : Heap := PySem.W.hideAll h (trk h H)
theorem hidT_size (h : Heap) (H : Hp) : (hidT h H).objs.size = h.objs.size := PySem.W.hideAll_size _ _
theorem hidT_get {h : Heap} {H : Hp} {b : Addr} {o : Obj} (e : h.get? b = some o) (n : H b = none) : (hidT h H).get? b = some o :=
  PySem.W.hideAll_get _ e fun hm => by
    have q : (H b).isSome = true := (List.mem_filter.mp hm).2
    rw [n] at q; simp at q
theorem of_hidT {h : Heap} {H : Hp} {b : Addr} {o : Obj} (e : (hidT h H).get? b = some o) : h.get? b = some o ∧ H b = none := by
  have e' : h.get? b = some o := PySem.W.of_hideAll (trk h H) e
  refine ⟨e', ?_⟩
  cases q : H b with
  | none => rfl
  | some x =>
    have hm : b ∈ trk h H := List.mem_filter.mpr ⟨List.mem_range.mpr (Heap.lt_size e'), by simp [q]⟩
    have z : (hidT h H).get? b = none := PySem.W.hideAll_none (trk h H) hm
    rw [z] at e; cases e

def allNews (g h : Heap) (L : Addr) : List (Addr × Obj) := (List.range h.objs.size).filterMap fun a => if a = L ∨ (g.get? a).isSome = true then none else (h.get? a).map fun o => (a, o)
def rest (g h : Heap) (L d : Addr) : List (Addr × Obj) := (allNews g h L).filter fun p => decide (p.1 ≠ d)
end L2

namespace L2
open PySem PySem.Spec PyProof.Rows

/-- the module's facts, over the base: the heap at the law's entry without what is tracked there -/
structure Mod (K : PySem.W.Frag) (mg : Str → Option Value) (base : Heap) : Prop where
  kin : K.In base
  glob : base.Ns mainGlobals mg
  blt : ∃ mb, base.Ns builtinsNs mb ∧ ∀ x : Str, x ≠ "__name__" → mb x = bootBuiltins x
  nolimit : base.NoLimit

/-- the context: a def's body (or a comprehension's block) running. base: fixed through the whole law; s₀, H₀: the entry; outer: the frames whose slots others may change (a def's callers); stack: all frames that run;
   ex: iterators that were made ahead of the entry and are walked here (a comprehension's); fn: the names whose cells were made at the entry (a def: all; a comprehension's block: its own); calm: not within an except suite; pn: pins that every state bears; xe: what is wanted of an exception that leaves the code -/
structure Cx where
  prog : Program
  w : World
  K : PySem.W.Frag
  mg : Str → Option Value
  base : Heap
  A : Around
  N : List Str
  s_0 : Shared
  H_0 : Hp
  env : Env
  outer : List Env
  stack : List Env
  ex : List Addr
  fn : Str → Bool
  calm : Bool
  pn : List (Addr × Obj)
  xe : Value → Shared → Prop
/-- the callers' frames -/
def frs (l : List Env) : List Addr := l.filterMap (·.frame)
abbrev Cx.fs (X : Cx) : List Addr := frs X.outer

def Vis (sc : Scope) (x : Str) : Prop := sc.names.lookup x = some .local ∨ sc.names.lookup x = some .cell ∨ sc.names.lookup x = some .free
def Loc (sc : Scope) (x : Str) : Prop := sc.names.lookup x = some .local ∨ sc.names.lookup x = some .cell
def Look (env : Env) (h : Heap) (m : Str → Option Value) (x : Str) (u : Value) : Prop :=
  (env.kindOf x = some .local ∧ m x = some u) ∨ ((env.kindOf x = some .cell ∨ env.kindOf x = some .free) ∧ ∃ c, env.cells.lookup x = some c ∧ h.IsCell c (some u))

structure Cx.Ok (X : Cx) : Prop where
  mod : Mod X.K X.mg X.base
  kind : X.env.scope.kind = .function
  glob : X.env.globals = mainGlobals
  blt : X.env.builtins = builtinsNs
  above : X.s_0.heap.objs.size ≤ X.env.locals
  inj : ∀ x y c, X.env.cells.lookup x = some c → X.env.cells.lookup y = some c → x = y
  has : ∀ x, (X.env.kindOf x = some .cell ∨ X.env.kindOf x = some .free) → ∃ c, X.env.cells.lookup x = some c
  cab : ∀ x c, X.fn x = true → X.env.cells.lookup x = some c → X.s_0.heap.objs.size ≤ c
  hd : X.calm = true → X.A.handled = none
  frames : X.A.frames = some X.stack
  stk : X.stack = X.outer ∨ (X.stack = X.env :: X.outer ∧ X.env.frame = some X.env.locals)
  exf : ∀ b ∈ X.ex, b ≠ X.env.locals ∧ ∀ x c, X.env.cells.lookup x = some c → c ≠ b
  bs : ∀ b o, X.base.get? b = some o → X.s_0.heap.get? b = some o ∧ X.H_0 b = none
  bsz : X.base.objs.size ≤ X.s_0.heap.objs.size
  noex : ∀ b o, X.base.get? b = some o → b ∉ X.ex
  exfs : ∀ b ∈ X.ex, b ∉ X.fs
  funs : X.s_0.heap.FunFrames X.base X.outer
  frf : ∀ b ∈ X.fs, X.H_0 b = none

structure Inv (X : Cx) (pins : List (Addr × Obj)) (σ : List (Option V)) (H : Hp) (s : Shared) : Prop where
  ok : X.Ok
  os : s.os = X.s_0.os
  bare : AllBare s.gens
  base : Un X.fs X.ex X.H_0 H X.s_0.heap s.heap
  loc : ∃ m, s.heap.Ns X.env.locals m ∧ ∀ (i : Nat) (x : Str) (v : V), X.N[i]? = some x → σ[i]? = some (some v) → Vis X.env.scope x → ∃ u, RelV v u ∧ Look X.env s.heap m x u
  cell : ∀ x c, X.env.cells.lookup x = some c → ∃ v, s.heap.IsCell c v
  free : H X.env.locals = none
  freeC : ∀ x c, X.env.cells.lookup x = some c → H c = none
  pin : ∀ p ∈ X.pn ++ pins, s.heap.get? p.1 = some p.2 ∧ H p.1 = none ∧ p.1 ≠ X.env.locals ∧ p.1 ∉ X.fs ∧ ∀ v, p.2.data ≠ .cell v
  hok : HOk X.prog X.w H s.heap
  len : σ.length = X.N.length

section
variable {X : Cx} {pins : List (Addr × Obj)} {σ : List (Option V)} {H H' : Hp} {s : Shared} {h' : Heap}

theorem Cx.Ok.nofr (ok : X.Ok) {b : Addr} {o : Obj} (e : X.base.get? b = some o) : b ∉ X.fs := fun hb => by
  have := (ok.funs.mem hb).1
  rw [e] at this; cases this
theorem Inv.bs (I : Inv X pins σ H s) : ∀ b o, X.base.get? b = some o → s.heap.get? b = some o ∧ H b = none := fun b o e =>
  ⟨I.base.keep b o (I.ok.bs b o e).1 (I.ok.bs b o e).2 (I.ok.nofr e) (I.ok.noex b o e), I.base.free b o (I.ok.bs b o e).1 (I.ok.bs b o e).2 (I.ok.noex b o e)⟩
theorem Inv.bk (I : Inv X pins σ H s) : ∀ b o, X.base.get? b = some o → s.heap.get? b = some o := fun b o e => (I.bs b o e).1
theorem Inv.mod (I : Inv X pins σ H s) : Mod X.K X.mg X.base := I.ok.mod
theorem Inv.kIn (I : Inv X pins σ H s) : X.K.In s.heap := I.ok.mod.kin.keeps I.bk
theorem Inv.nolimit (I : Inv X pins σ H s) : s.heap.NoLimit := I.ok.mod.nolimit.keeps I.bk
/-- the frame over the base: for OpenK's rules (K.In X.base is I.mod.kin) -/
theorem Inv.fr (I : Inv X pins σ H s) : ∃ m, Fr X.base X.env.locals s.heap m :=
  let ⟨m, hn, _⟩ := I.loc
  ⟨m, hn, I.bk, Nat.le_trans I.ok.bsz I.ok.above⟩
theorem Inv.lt (I : Inv X pins σ H s) : X.env.locals < s.heap.objs.size := let ⟨_, hn, _⟩ := I.loc; hn.lt
theorem Inv.sz (I : Inv X pins σ H s) : X.s_0.heap.objs.size ≤ s.heap.objs.size := Nat.le_trans I.ok.above (Nat.le_of_lt I.lt)
theorem Inv.nofs (I : Inv X pins σ H s) {a : Addr} (h : s.heap.objs.size ≤ a) : a ∉ X.fs := fun hb => by
  obtain ⟨_, o, ho, _⟩ := I.ok.funs.mem hb
  exact absurd (Nat.lt_of_lt_of_le (Heap.lt_size ho) (Nat.le_trans I.sz h)) (Nat.lt_irrefl _)
theorem Inv.cne (I : Inv X pins σ H s) : ∀ x c, X.env.cells.lookup x = some c → c ≠ X.env.locals := fun x c e z => by
  obtain ⟨v, o, ho, hd⟩ := I.cell x c e
  obtain ⟨m, ⟨o', es, ep, ho', hd', _⟩, _⟩ := I.loc
  rw [z, ho'] at ho; cases ho; rw [hd'] at hd; cases hd
theorem Inv.funs (I : Inv X pins σ H s) : s.heap.FunFrames X.base X.outer := by
  have all : ∀ (l : List Env), (∀ b ∈ frs l, b ∈ X.fs) → X.s_0.heap.FunFrames X.base l → s.heap.FunFrames X.base l := by
    intro l
    induction l with
    | nil => intro _ _; trivial
    | cons env r ih =>
      intro hs hl
      obtain ⟨hk, ⟨L, o, hf, hn, ho, hd⟩, hr⟩ := hl
      have hL : L ∈ X.fs := hs L (by unfold frs; rw [List.filterMap_cons, hf]; exact List.mem_cons_self)
      obtain ⟨sl, e⟩ := I.base.slot L o ho (I.ok.frf L hL) hL fun z => I.ok.exfs L z hL
      exact ⟨hk, ⟨L, _, hf, hn, e, hd⟩, ih (fun b hb => hs b (by unfold frs; rw [List.filterMap_cons, hf]; exact List.mem_cons_of_mem _ hb)) hr⟩
  exact all X.outer (fun _ hb => hb) I.ok.funs

/-- the frames that run, for a call -/
theorem Inv.stack (I : Inv X pins σ H s) : s.heap.FunFrames X.base X.stack := by
  rcases I.ok.stk with e | ⟨e, hf⟩
  · rw [e]; exact I.funs
  · rw [e]
    obtain ⟨m, hn, _⟩ := I.loc
    refine .cons (by rw [I.ok.kind]; decide) hf hn ?_ I.funs
    exact Heap.get?_none_of_le (Nat.le_trans I.ok.bsz I.ok.above)
theorem Inv.stkSub (I : Inv X pins σ H s) : ∀ b ∈ frs X.stack, b ∈ X.env.locals :: X.fs := fun b hb => by
  rcases I.ok.stk with e | ⟨e, hf⟩
  · rw [e] at hb; exact List.mem_cons_of_mem _ hb
  · rw [e] at hb
    unfold frs at hb
    rw [List.filterMap_cons, hf] at hb
    exact hb
theorem Inv.stkFree (I : Inv X pins σ H s) : ∀ b ∈ frs X.stack, H b = none := fun b hb => by
  rcases List.mem_cons.mp (I.stkSub b hb) with e | hb
  · rw [e]; exact I.free
  · obtain ⟨_, o, ho, _⟩ := I.ok.funs.mem hb
    exact I.base.free b o ho (I.ok.frf b hb) fun z => I.ok.exfs b z hb

/-- THE STEP: the untracked objects but the frame and the records at ch are kept (the callers' frames up to slots), the frame's map is kept, the new abstract heap is held -/
theorem Inv.step {g' : Array GenState} {t' : Nat} {d' : Drawn} {ch : List Addr} (I : Inv X pins σ H s)
    (hch : ∀ b ∈ ch, (b ∈ X.ex ∨ X.s_0.heap.objs.size ≤ b) ∧ b ≠ X.env.locals ∧ (∀ x c, X.env.cells.lookup x = some c → c ≠ b) ∧ ∀ p ∈ X.pn ++ pins, p.1 ≠ b)
    (keep : ∀ b o, b ≠ X.env.locals → b ∉ X.fs → b ∉ ch → s.heap.get? b = some o → H b = none → h'.get? b = some o)
    (slot : ∀ b o, b ≠ X.env.locals → b ∈ X.fs → b ∉ ch → s.heap.get? b = some o → H b = none → ∃ sl, h'.get? b = some { o with slots := sl }) (free : ∀ b o, b ∉ ch → s.heap.get? b = some o → H b = none → H' b = none)
    (there : ∀ b o, b ∉ ch → s.heap.get? b = some o → ∃ o', h'.get? b = some o')
    (tups : ∀ b xs, H b = some (.tup xs) → H' b = some (.tup xs)) (frzs : ∀ b o u, H b = some (.frz o u) → H' b = some (.frz o u)) (tbls : ∀ b ps, H b = some (.tbl ps) → ∃ more, H' b = some (.tbl (ps ++ more)))
    (ns : ∀ m, s.heap.Ns X.env.locals m → h'.Ns X.env.locals m) (hok : HOk X.prog X.w H' h') (hg : AllBare g') :
    Inv X pins σ H' { s with heap := h', gens := g', drawn := d', toks := t' } := by
  have neL : ∀ b o, X.s_0.heap.get? b = some o → b ≠ X.env.locals := fun b o e => Nat.ne_of_lt (Nat.lt_of_lt_of_le (Heap.lt_size e) I.ok.above)
  have neC : ∀ b o, X.s_0.heap.get? b = some o → b ∉ X.ex → b ∉ ch := fun b o e hx hb => by
    rcases (hch b hb).1 with z | z
    · exact hx z
    · exact absurd (Nat.lt_of_lt_of_le (Heap.lt_size e) z) (Nat.lt_irrefl _)
  have cellK : ∀ x c, X.env.cells.lookup x = some c → ∀ v, s.heap.IsCell c v → h'.IsCell c v := fun x c e v ⟨o, ho, hd⟩ => by
    have nch : c ∉ ch := fun z => (hch c z).2.2.1 x c e rfl
    by_cases hc : c ∈ X.fs
    · obtain ⟨sl, q⟩ := slot c o (I.cne x c e) hc nch ho (I.freeC x c e)
      exact ⟨_, q, hd⟩
    · exact ⟨o, keep c o (I.cne x c e) hc nch ho (I.freeC x c e), hd⟩
  refine ⟨I.ok, I.os, hg, ⟨fun b o e n hb hx => ?_, fun b o e n hb hx => ?_, fun b o e n hx => ?_, fun b o e hx => ?_, fun b xs e => tups b xs (I.base.tups b xs e), fun b o xs e => frzs b o xs (I.base.frzs b o xs e), fun b ps e => ?_⟩, ?_, fun x c e => ?_, ?_, fun x c e => ?_, fun p hp => ?_, hok, I.len⟩
  · exact keep b o (neL b o e) hb (neC b o e hx) (I.base.keep b o e n hb hx) (I.base.free b o e n hx)
  · obtain ⟨sl, e1⟩ := I.base.slot b o e n hb hx
    obtain ⟨sl', e2⟩ := slot b _ (neL b o e) hb (neC b o e hx) e1 (I.base.free b o e n hx)
    exact ⟨sl', e2⟩
  · obtain ⟨o', e1⟩ := I.base.there b o e hx
    exact free b o' (neC b o e hx) e1 (I.base.free b o e n hx)
  · obtain ⟨o', e1⟩ := I.base.there b o e hx
    exact there b o' (neC b o e hx) e1
  · obtain ⟨m1, e1⟩ := I.base.tbls b ps e
    obtain ⟨m2, e2⟩ := tbls b _ e1
    exact ⟨m1 ++ m2, by rw [e2, Array.append_assoc]⟩
  · obtain ⟨m, hn, hl⟩ := I.loc
    refine ⟨m, ns m hn, fun i x v e1 e2 e3 => ?_⟩
    obtain ⟨u, r, l⟩ := hl i x v e1 e2 e3
    refine ⟨u, r, ?_⟩
    rcases l with l | ⟨k, c, e, z⟩
    · exact .inl l
    · exact .inr ⟨k, c, e, cellK x c e _ z⟩
  · obtain ⟨v, z⟩ := I.cell x c e
    exact ⟨v, cellK x c e v z⟩
  · obtain ⟨m, ⟨o, _, _, ho, _⟩, _⟩ := I.loc
    exact free _ o (fun z => (hch _ z).2.1 rfl) ho I.free
  · obtain ⟨v, o, ho, hd⟩ := I.cell x c e
    exact free c o (fun z => (hch c z).2.2.1 x c e rfl) ho (I.freeC x c e)
  · obtain ⟨e, n, ne, nf, d⟩ := I.pin p hp
    have nch : p.1 ∉ ch := fun z => (hch p.1 z).2.2.2 p hp rfl
    exact ⟨keep p.1 p.2 ne nf nch e n, free p.1 p.2 nch e n, ne, nf, d⟩
/-- .. where the frame's own object is kept too -/
theorem Inv.un {t' : Nat} (I : Inv X pins σ H s) (u : Un X.fs [] H H' s.heap h') (hok : HOk X.prog X.w H' h') : Inv X pins σ H' { s with heap := h', toks := t' } := by
  obtain ⟨m, ⟨o, es, ep, ho, r⟩, _⟩ := id I.loc
  obtain ⟨sl, hL⟩ := u.any ho I.free (by simp)
  exact I.step (g' := s.gens) (d' := s.drawn) (ch := []) (fun _ z => nomatch z) (fun b o _ hb _ e n => u.keep b o e n hb (by simp)) (fun b o _ hb _ e n => u.slot b o e n hb (by simp)) (fun b o _ e n => u.free b o e n (by simp)) (fun b o _ e => u.there b o e (by simp)) u.tups u.frzs u.tbls (fun m' hm => by
    obtain ⟨o', es', ep', ho', r'⟩ := hm
    rw [ho] at ho'; cases ho'
    exact ⟨_, es', ep', hL, r'⟩) hok I.bare
/-- behind a call (or a comprehension's block): the slots of this frame may have changed too, the records at ch may have turned -/
theorem Inv.call {g' : Array GenState} {t' : Nat} {d' : Drawn} {ch : List Addr} (I : Inv X pins σ H s) (u : Un (frs X.stack) ch H H' s.heap h') (hok : HOk X.prog X.w H' h') (hg : AllBare g')
    (hch : ∀ b ∈ ch, (b ∈ X.ex ∨ X.s_0.heap.objs.size ≤ b) ∧ b ≠ X.env.locals ∧ (∀ x c, X.env.cells.lookup x = some c → c ≠ b) ∧ ∀ p ∈ X.pn ++ pins, p.1 ≠ b) :
    Inv X pins σ H' { s with heap := h', gens := g', drawn := d', toks := t' } := by
  obtain ⟨m, ⟨o, es, ep, ho, r⟩, _⟩ := id I.loc
  obtain ⟨sl, hL⟩ := u.any ho I.free fun z => (hch _ z).2.1 rfl
  exact I.step (ch := ch) hch (fun b o hL hb hc e n => u.keep b o e n (fun z => (List.mem_cons.mp (I.stkSub b z)).elim hL hb) hc) (fun b o _ _ hc e n => u.any e n hc) (fun b o hc e n => u.free b o e n hc) (fun b o hc e => u.there b o e hc) u.tups u.frzs u.tbls (fun m' hm => by
    obtain ⟨o', es', ep', ho', r'⟩ := hm
    rw [ho] at ho'; cases ho'
    exact ⟨_, es', ep', hL, r'⟩) hok hg
/-- an untracked record of ours (an iterator) has turned -/
theorem Inv.turned {t' : Nat} {it : Addr} (I : Inv X pins σ H s) (k : ∀ b o, b ≠ it → s.heap.get? b = some o → h'.get? b = some o) (hn : H it = none) (hL : it ≠ X.env.locals)
    (h1 : it ∈ X.ex ∨ X.s_0.heap.objs.size ≤ it) (h2 : ∀ x c, X.env.cells.lookup x = some c → c ≠ it) (h3 : ∀ p ∈ X.pn ++ pins, p.1 ≠ it) : Inv X pins σ H { s with heap := h', toks := t' } := by
  have nit : ∀ b u, H b = some u → b ≠ it := fun b u e z => by rw [z, hn] at e; cases e
  refine I.step (g' := s.gens) (d' := s.drawn) (ch := [it]) (fun b hb => ?_) (fun b o _ _ hc e _ => k b o (fun z => hc (by simp [z])) e) (fun b o _ _ hc e _ => ⟨o.slots, k b o (fun z => hc (by simp [z])) e⟩) (fun _ _ _ _ n => n)
    (fun b o hc e => ⟨o, k b o (fun z => hc (by simp [z])) e⟩) (fun _ _ e => e) (fun _ _ _ e => e) (fun b ps e => ⟨#[], by rw [e]; simp⟩) (fun m hm => ?_) (fun b u e => ?_) I.bare
  · have e : b = it := by simpa using hb
    subst e
    exact ⟨h1, hL, h2, h3⟩
  · obtain ⟨o, es, ep, ho, r⟩ := hm
    exact ⟨o, es, ep, k _ o (Ne.symm hL) ho, r⟩
  · refine (I.hok b u e).stay (fun c v hc q => k c v ?_ q) (fun _ q => q) fun _ _ q => q
    rcases hc with z | z
    · rw [z]; exact nit b u e
    · exact nit c _ z
theorem Inv.tok (I : Inv X pins σ H s) (t : Nat) : Inv X pins σ H { s with toks := t } := I.un (h' := s.heap) (t' := t) Un.refl I.hok
/-- all objects kept -/
theorem Inv.kept {t' : Nat} (I : Inv X pins σ H s) (k : ∀ b u, s.heap.get? b = some u → h'.get? b = some u) : Inv X pins σ H { s with heap := h', toks := t' } := I.un (Un.kept k) (I.hok.kept k)
/-- a new object laid and tracked -/
theorem Inv.laid {a : Addr} {o : HO} {t' : Nat} (I : Inv X pins σ H s) (k : ∀ b u, s.heap.get? b = some u → h'.get? b = some u) (hp : s.heap.objs.size ≤ a) (new : ObjOk X.prog X.w (upd H a o) h' a o) :
    Inv X pins σ (upd H a o) { s with heap := h', toks := t' } := I.un (Un.laid k hp (I.hok.fresh hp)) (I.hok.laid k hp new)
/-- an object written -/
theorem Inv.write {x e : Addr} {o : HO} {t' : Nat} (I : Inv X pins σ H s) (mu : Mut (H x)) (he : e = x ∨ H e = some (.own x)) (k : ∀ b u, b ≠ e → s.heap.get? b = some u → h'.get? b = some u) (heo : ∃ u, h'.get? e = some u)
    (new : ObjOk X.prog X.w (upd H x o) h' x o) : Inv X pins σ (upd H x o) { s with heap := h', toks := t' } := I.un (Un.write mu he k heo) (I.hok.write mu he k heo new)
/-- forgetting slots, pins -/
theorem Inv.weak {σ' : List (Option V)} (I : Inv X pins σ H s) (hl : σ'.length = σ.length) (w : ∀ (i : Nat) v, σ'[i]? = some (some v) → σ[i]? = some (some v)) : Inv X pins σ' H s :=
  ⟨I.ok, I.os, I.bare, I.base, let ⟨m, hn, hl'⟩ := I.loc; ⟨m, hn, fun i x v e1 e2 e3 => hl' i x v e1 (w i v e2) e3⟩, I.cell, I.free, I.freeC, I.pin, I.hok, hl.trans I.len⟩
theorem Inv.pins_of {pins' : List (Addr × Obj)} (I : Inv X pins σ H s) (h : ∀ p ∈ pins', s.heap.get? p.1 = some p.2 ∧ H p.1 = none ∧ p.1 ≠ X.env.locals ∧ p.1 ∉ X.fs ∧ ∀ v, p.2.data ≠ .cell v) : Inv X pins' σ H s :=
  ⟨I.ok, I.os, I.bare, I.base, I.loc, I.cell, I.free, I.freeC, fun p hp => (List.mem_append.mp hp).elim (fun z => I.pin p (List.mem_append_left _ z)) (h p), I.hok, I.len⟩

theorem nodup_ix {N : List Str} (hN : N.Nodup) {i j : Nat} {x : Str} (a : N[i]? = some x) (b : N[j]? = some x) : i = j := by
  obtain ⟨h1, e1⟩ := List.getElem?_eq_some_iff.mp a
  obtain ⟨h2, e2⟩ := List.getElem?_eq_some_iff.mp b
  exact (List.getElem_inj hN).mp (e1.trans e2.symm)

/-- a name is stored; what changed -/
theorem store_ok2 {M : Model} {A : Around} {E : Value → Shared → Prop} {i : Nat} {x : Str} {v : V} {u : Value} {Q : Unit → Shared → Prop} (I : Inv X pins σ H s) (hN : X.N.Nodup) (hi : X.N[i]? = some x) (hx : Loc X.env.scope x) (r : RelV v u)
    (h : ∀ s', Inv X pins (σ.set i (some v)) H s' → (∃ a, Heap.SameBut a s.heap s'.heap ∧ (a = X.env.locals ∨ X.env.cells.lookup x = some a)) → Q () s') (hf : X.fn x = true ∨ X.env.scope.names.lookup x = some .local := by first | exact .inl rfl | exact .inr rfl | assumption) : wpAny M A (storeName X.env x u) Q E s := by
  obtain ⟨m, hn, hl⟩ := id I.loc
  have hcls : (X.env.scope.kind == .class || (X.env.scope.kind == .module && X.env.locals != X.env.globals)) = false := by rw [I.ok.kind]; rfl
  have hiσ : i < σ.length := by rw [I.len]; exact (List.getElem?_eq_some_iff.mp hi).1
  have cne := I.cne
  have tracked : ∀ {a : Addr} {h' : Heap}, (∃ o, s.heap.get? a = some o ∧ H a = none) → Heap.SameBut a s.heap h' → HOk X.prog X.w H h' := fun {a h'} ha hs b ob e => by
    obtain ⟨_, _, hfree⟩ := ha
    refine (I.hok b ob e).stay (fun c w' hc q => (hs.2 c ?_).trans q) (fun _ q => q) fun _ _ q => q
    rintro rfl
    rcases hc with rfl | hc
    · rw [hfree] at e; cases e
    · rw [hfree] at hc; cases hc
  rcases hx with hk | hk
  · refine wpAny_storeName_local hk hn (fun h' hn' hs => ?_) hcls
    obtain ⟨oL, _, _, hoL, _⟩ := id hn
    refine h _ ⟨I.ok, I.os, I.bare, ⟨fun b o e n hb hx => ?_, fun b o e n hb hx => ?_, I.base.free, fun b o e hx => ?_, I.base.tups, I.base.frzs, I.base.tbls⟩, ⟨_, hn', fun j y v' e1 e2 e3 => ?_⟩, fun y c e => ?_, I.free, I.freeC, fun p hp => ?_, tracked ⟨oL, hoL, I.free⟩ hs, by simpa using I.len⟩ ⟨_, hs, .inl rfl⟩
    · exact (hs.2 b (Nat.ne_of_lt (Nat.lt_of_lt_of_le (Heap.lt_size e) I.ok.above))).trans (I.base.keep b o e n hb hx)
    · obtain ⟨sl, e1⟩ := I.base.slot b o e n hb hx
      exact ⟨sl, (hs.2 b (Nat.ne_of_lt (Nat.lt_of_lt_of_le (Heap.lt_size e) I.ok.above))).trans e1⟩
    · obtain ⟨o', e1⟩ := I.base.there b o e hx
      exact ⟨o', (hs.2 b (Nat.ne_of_lt (Nat.lt_of_lt_of_le (Heap.lt_size e) I.ok.above))).trans e1⟩
    · by_cases hj : j = i
      · subst hj
        rw [hi] at e1; cases e1
        rw [List.getElem?_set_self hiσ] at e2
        cases e2
        exact ⟨u, r, .inl ⟨hk, by simp⟩⟩
      · rw [List.getElem?_set_ne (Ne.symm hj)] at e2
        obtain ⟨u', r', q⟩ := hl j y v' e1 e2 e3
        refine ⟨u', r', ?_⟩
        rcases q with ⟨k, e⟩ | ⟨k, c, e, z⟩
        · refine .inl ⟨k, ?_⟩
          have : y ≠ x := fun e => hj (nodup_ix hN e1 (e ▸ hi))
          simp [this, e]
        · exact .inr ⟨k, c, e, z.sameBut hs (cne y c e)⟩
    · obtain ⟨w', z⟩ := I.cell y c e
      exact ⟨w', z.sameBut hs (cne y c e)⟩
    · obtain ⟨e, n, ne, nf, d⟩ := I.pin p hp
      exact ⟨(hs.2 p.1 ne).trans e, n, ne, nf, d⟩
  · have hfn : X.fn x = true := by
      rcases hf with z | z
      · exact z
      · rw [z] at hk; cases hk
    obtain ⟨c, hc⟩ := I.ok.has x (.inl hk)
    obtain ⟨w', z⟩ := I.cell x c hc
    refine wpAny_storeName_cell I.ok.kind hk hc z (fun h' hc' hs => ?_)
    obtain ⟨oc, hoc, hocd⟩ := id z
    refine h { s with heap := h' } ⟨I.ok, I.os, I.bare, ⟨fun b o e n hb hx => ?_, fun b o e n hb hx => ?_, I.base.free, fun b o e hx => ?_, I.base.tups, I.base.frzs, I.base.tbls⟩, ⟨m, hn.sameBut hs (Ne.symm (cne x c hc)), fun j y v' e1 e2 e3 => ?_⟩, fun y c' e => ?_, I.free, I.freeC, fun p hp => ?_, tracked ⟨oc, hoc, I.freeC x c hc⟩ hs, by simpa using I.len⟩ ⟨c, hs, .inr hc⟩
    · exact (hs.2 b (Nat.ne_of_lt (Nat.lt_of_lt_of_le (Heap.lt_size e) (I.ok.cab x c hfn hc)))).trans (I.base.keep b o e n hb hx)
    · obtain ⟨sl, e1⟩ := I.base.slot b o e n hb hx
      exact ⟨sl, (hs.2 b (Nat.ne_of_lt (Nat.lt_of_lt_of_le (Heap.lt_size e) (I.ok.cab x c hfn hc)))).trans e1⟩
    · obtain ⟨o', e1⟩ := I.base.there b o e hx
      exact ⟨o', (hs.2 b (Nat.ne_of_lt (Nat.lt_of_lt_of_le (Heap.lt_size e) (I.ok.cab x c hfn hc)))).trans e1⟩
    · by_cases hj : j = i
      · subst hj
        rw [hi] at e1; cases e1
        rw [List.getElem?_set_self hiσ] at e2
        cases e2
        exact ⟨u, r, .inr ⟨.inl hk, c, hc, hc'⟩⟩
      · rw [List.getElem?_set_ne (Ne.symm hj)] at e2
        obtain ⟨u', r', q⟩ := hl j y v' e1 e2 e3
        refine ⟨u', r', ?_⟩
        rcases q with q | ⟨k, c', e, z'⟩
        · exact .inl q
        · refine .inr ⟨k, c', e, z'.sameBut hs ?_⟩
          rintro rfl
          exact hj (nodup_ix hN e1 (I.ok.inj _ _ _ e hc ▸ hi))
    · by_cases hcc : c' = c
      · subst hcc; exact ⟨_, hc'⟩
      · obtain ⟨w2, z2⟩ := I.cell y c' e
        exact ⟨w2, z2.sameBut hs hcc⟩
    · obtain ⟨e, n, ne, nf, d⟩ := I.pin p hp
      refine ⟨(hs.2 p.1 ?_).trans e, n, ne, nf, d⟩
      intro q
      rw [q, hoc] at e
      have q' : oc = p.2 := Option.some.inj e
      exact d w' (by rw [← q']; exact hocd)
theorem store_ok {M : Model} {A : Around} {E : Value → Shared → Prop} {i : Nat} {x : Str} {v : V} {u : Value} {Q : Unit → Shared → Prop} (I : Inv X pins σ H s) (hN : X.N.Nodup) (hi : X.N[i]? = some x) (hx : Loc X.env.scope x) (r : RelV v u)
    (h : ∀ s', Inv X pins (σ.set i (some v)) H s' → Q () s') (hf : X.fn x = true ∨ X.env.scope.names.lookup x = some .local := by first | exact .inl rfl | exact .inr rfl | assumption) : wpAny M A (storeName X.env x u) Q E s :=
  store_ok2 I hN hi hx r (fun s' I' _ => h s' I') hf
/-- behind a call or a block, the state as it is -/
theorem Inv.call' {s' : Shared} {ch : List Addr} (I : Inv X pins σ H s) (ho : s'.os = s.os) (u : Un (frs X.stack) ch H H' s.heap s'.heap) (hok : HOk X.prog X.w H' s'.heap) (hg : AllBare s'.gens)
    (hch : ∀ b ∈ ch, (b ∈ X.ex ∨ X.s_0.heap.objs.size ≤ b) ∧ b ≠ X.env.locals ∧ (∀ x c, X.env.cells.lookup x = some c → c ≠ b) ∧ ∀ p ∈ X.pn ++ pins, p.1 ≠ b) : Inv X pins σ H' s' := by
  obtain ⟨h', g', d', t', o'⟩ := s'
  have e : o' = s.os := ho
  subst e
  exact I.call (g' := g') (t' := t') (d' := d') u hok hg hch
end

/-- an exception: its class, its own dict's address (where it has one), the abstract heap behind it -/
abbrev XK := Value → Option Addr → Hp → Prop
abbrev St := List (Option V)
abbrev VK := V → Hp → Prop
/-- an expression's reading; a test's; an argument list's -/
abbrev TE := St → Hp → VK → Prop
abbrev TT := St → Hp → (Bool → Hp → Prop) → Prop
abbrev TA := St → Hp → (List V → Hp → Prop) → Prop
/-- what is wanted behind a statement -/
structure Ends where
  nx : St → Hp → Prop
  rt : VK
  bk : St → Hp → Prop := fun _ _ => False
  ct : St → Hp → Prop := fun _ _ => False
abbrev TS := Ends → St → Hp → Prop

def EP (X : Cx) (pins : List (Addr × Obj)) (σ : St) (Q : VK) (u : Value) (s' : Shared) : Prop := ∃ v H', Inv X pins σ H' s' ∧ RelV v u ∧ Q v H'
def TP (X : Cx) (pins : List (Addr × Obj)) (σ : St) (Q : Bool → Hp → Prop) (b : Bool) (s' : Shared) : Prop := ∃ H', Inv X pins σ H' s' ∧ Q b H'
def AP (X : Cx) (pins : List (Addr × Obj)) (σ : St) (Q : List V → Hp → Prop) (us : List Value) (s' : Shared) : Prop := ∃ vs H', Inv X pins σ H' s' ∧ Vals vs us ∧ Q vs H'
def SP (X : Cx) (pins : List (Addr × Obj)) (D : Ends) (f : Flow) (s' : Shared) : Prop :=
  match f with
  | .next => ∃ σ' H', Inv X pins σ' H' s' ∧ D.nx σ' H'
  | .brk => ∃ σ' H', Inv X pins σ' H' s' ∧ D.bk σ' H'
  | .cont => ∃ σ' H', Inv X pins σ' H' s' ∧ D.ct σ' H'
  | .ret u => ∃ v σ' H', Inv X pins σ' H' s' ∧ RelV v u ∧ D.rt v H'

def PE (X : Cx) (e : Expr) (t : TE) : Prop :=
  ∀ (pins : List (Addr × Obj)) (s : Shared) (σ : St) (H : Hp) (Q : VK), Inv X pins σ H s → t σ H Q → wpAny (model X.prog X.w) X.A (eval e X.env) (EP X pins σ Q) X.xe s
def PT (X : Cx) (e : Expr) (t : TT) : Prop :=
  ∀ (pins : List (Addr × Obj)) (s : Shared) (σ : St) (H : Hp) (Q : Bool → Hp → Prop), Inv X pins σ H s → t σ H Q → wpAny (model X.prog X.w) X.A (isTrue e X.env (eval e X.env)) (TP X pins σ Q) X.xe s
/-- a test whatever its 'whole' is (and, or) -/
def PW (X : Cx) (e : Expr) (t : TT) : Prop :=
  ∀ (whole : Sem Value) (pins : List (Addr × Obj)) (s : Shared) (σ : St) (H : Hp) (Q : Bool → Hp → Prop), Inv X pins σ H s → t σ H Q → wpAny (model X.prog X.w) X.A (isTrue e X.env whole) (TP X pins σ Q) X.xe s
theorem PW.pt {X : Cx} {e : Expr} {t : TT} (h : PW X e t) : PT X e t := h _
/-- an argument list (no star), from the left -/
def PA (X : Cx) (es : List Expr) (t : TA) : Prop :=
  ∀ (pos : Pos) (pins : List (Addr × Obj)) (s : Shared) (σ : St) (H : Hp) (Q : List V → Hp → Prop), Inv X pins σ H s → t σ H Q → wpAny (model X.prog X.w) X.A (spliced (backTo pos (starEach es X.env))) (AP X pins σ Q) X.xe s
def PS (X : Cx) (st : Stmt) (t : TS) : Prop :=
  ∀ (pins : List (Addr × Obj)) (s : Shared) (σ : St) (H : Hp) (D : Ends), Inv X pins σ H s → t D σ H → wpAny (model X.prog X.w) X.A (exec st X.env) (SP X pins D) X.xe s
def PSs (X : Cx) (st : List Stmt) (t : TS) : Prop :=
  ∀ (pins : List (Addr × Obj)) (s : Shared) (σ : St) (H : Hp) (D : Ends), Inv X pins σ H s → t D σ H → wpAny (model X.prog X.w) X.A (execs st X.env) (SP X pins D) X.xe s
/-- weaken the end -/
theorem thn {α : Type} {t : Sem α} {Q Q' : α → Shared → Prop} {M : Model} {A : Around} {E : Value → Shared → Prop} {s : Shared} (h : wpAny M A t Q E s) (hQ : ∀ a s, Q a s → Q' a s) : wpAny M A t Q' E s := wpAny_mono h hQ fun _ _ x => x
end L2

namespace L2
open PySem PySem.Spec PyProof.Rows
section
variable {X : Cx}

def tVar (i : Nat) : TE := fun σ H Q => ∃ v, σ[i]? = some (some v) ∧ Q v H
def tC (v : V) : TE := fun _ H Q => Q v H
theorem pe_var {i : Nat} {x : Str} {pos : Pos} (hN : X.N[i]? = some x) (hv : Vis X.env.scope x) (hd : (x == ("__debug__" : Str)) = false := by decide) (hcd : (x == ("__classdict__" : Str)) = false := by decide) : PE X (.Name x pos) (tVar i) := by
  intro pins s σ H Q I h
  obtain ⟨v, e, h⟩ := h
  obtain ⟨m, hn, hl⟩ := I.loc
  obtain ⟨u, r, l⟩ := hl i x v hN e hv
  have fin : EP X pins σ Q u s := ⟨v, H, I, r, h⟩
  rcases l with ⟨hk, hm⟩ | ⟨hk, c, hc, hcell⟩
  · exact wpAny_Name (wpAny_loadName_local I.ok.kind hk hn hm fin) hd
  · rcases hk with hk | hk
    · exact wpAny_Name (wpAny_loadName_cell I.ok.kind hk hc hcell fin) hd
    · exact wpAny_Name (wpAny_loadName_free I.ok.kind hk hc hcell fin hcd) hd
theorem pe_int {i j pos} : PE X (.Constant (.int i) j pos) (tC (.int i)) := fun _ _ _ H _ I h => wpAny_Constant_int ⟨.int i, H, I.tok _, ⟨_, rfl⟩, h⟩
theorem pe_bl {b j pos} : PE X (.Constant (.bool b) j pos) (tC (.bl b)) := fun _ _ _ H _ I h => Constant_bool ⟨.bl b, H, I, rfl, h⟩
theorem pe_non {j pos} : PE X (.Constant .none j pos) (tC .non) := fun _ _ _ H _ I h => Constant_none ⟨.non, H, I, rfl, h⟩
theorem pe_str {x j pos} : PE X (.Constant (.str x) j pos) (tC (.str x)) := fun _ _ _ H _ I h => Calls.Constant_str ⟨.str x, H, I.tok _, ⟨_, rfl⟩, h⟩

/-- a global name of the def -/
def Gl (X : Cx) (x : Str) : Prop := X.env.kindOf x = some .globalImplicit
theorem ld_glob {E : Value → Shared → Prop} {pins : List (Addr × Obj)} {s : Shared} {σ : St} {H : Hp} {x : Str} {u : Value} {pos : Pos} {Q : Value → Shared → Prop} (I : Inv X pins σ H s) (hg : Gl X x) (hm : X.mg x = some u) (h : Q u s)
    (hd : (x == ("__debug__" : Str)) = false := by decide) : wpAny (model X.prog X.w) X.A (eval (.Name x pos) X.env) Q E s :=
  Calls.Name_function_global I.ok.kind hg (Calls.loadGlobal_global (by rw [I.ok.glob]; exact I.mod.glob.keeps I.bk) hm h) hd
theorem ld_blt {E : Value → Shared → Prop} {pins : List (Addr × Obj)} {s : Shared} {σ : St} {H : Hp} {x : Str} {u : Value} {pos : Pos} {Q : Value → Shared → Prop} (I : Inv X pins σ H s) (hg : Gl X x) (hm : X.mg x = none) (hv : bootBuiltins x = some u) (h : Q u s)
    (hn : x ≠ "__name__" := by decide) (hd : (x == ("__debug__" : Str)) = false := by decide) : wpAny (model X.prog X.w) X.A (eval (.Name x pos) X.env) Q E s := by
  obtain ⟨mb, h1, h2⟩ := I.mod.blt
  exact Calls.Name_function_global I.ok.kind hg (Calls.loadGlobal_builtin (by rw [I.ok.glob]; exact I.mod.glob.keeps I.bk) hm (by rw [I.ok.blt]; exact h1.keeps I.bk) ((h2 x hn).trans hv) h) hd
/-- a module's constant, a class, a function, as a value -/
theorem pe_glob {x : Str} {v : V} {u : Value} {pos : Pos} (hg : Gl X x) (hm : X.mg x = some u) (r : RelV v u) (hd : (x == ("__debug__" : Str)) = false := by decide) : PE X (.Name x pos) (tC v) :=
  fun _ _ _ H _ I h => ld_glob I hg hm ⟨v, H, I, r, h⟩ hd
theorem pe_bltn {x : Str} {v : V} {u : Value} {pos : Pos} (hg : Gl X x) (hm : X.mg x = none) (hv : bootBuiltins x = some u) (r : RelV v u) (hn : x ≠ "__name__" := by decide) (hd : (x == ("__debug__" : Str)) = false := by decide) : PE X (.Name x pos) (tC v) :=
  fun _ _ _ H _ I h => ld_blt I hg hm hv ⟨v, H, I, r, h⟩ hn hd

variable {a b : Expr} {ta tb : TE} {pos : Pos}
variable {tA tB' : TT} {rest : List Expr}
def tAnd (t u : TT) : TT := fun σ H Q => t σ H fun c H1 => if c = true then u σ H1 Q else Q false H1
def tOr (t u : TT) : TT := fun σ H Q => t σ H fun c H1 => if c = true then Q true H1 else u σ H1 Q
def tNot (t : TT) : TT := fun σ H Q => t σ H fun c H1 => Q (!c) H1
theorem pw_and1 (ha : PT X a tA) : PW X (.BoolOp .And [a] pos) tA := by
  intro wh pins s σ H Q I h
  refine isTrue_and (thn (ha pins s σ H Q I h) fun c s1 e => ?_)
  cases c with
  | true => exact isTrue_and_nil e
  | false => exact e
theorem pw_or1 (ha : PT X a tA) : PW X (.BoolOp .Or [a] pos) tA := by
  intro wh pins s σ H Q I h
  refine isTrue_or (thn (ha pins s σ H Q I h) fun c s1 e => ?_)
  cases c with
  | false => exact isTrue_or_nil e
  | true => exact e
theorem pw_and (ha : PT X a tA) (hb : PW X (.BoolOp .And (b :: rest) pos) tB') : PW X (.BoolOp .And (a :: b :: rest) pos) (tAnd tA tB') := by
  intro wh pins s σ H Q I h
  refine isTrue_and (thn (ha pins s σ H _ I h) fun c s1 ⟨H1, I1, q1⟩ => ?_)
  cases c with
  | true => exact hb wh pins s1 σ H1 Q I1 q1
  | false => exact ⟨H1, I1, q1⟩
theorem pw_or (ha : PT X a tA) (hb : PW X (.BoolOp .Or (b :: rest) pos) tB') : PW X (.BoolOp .Or (a :: b :: rest) pos) (tOr tA tB') := by
  intro wh pins s σ H Q I h
  refine isTrue_or (thn (ha pins s σ H _ I h) fun c s1 ⟨H1, I1, q1⟩ => ?_)
  cases c with
  | true => exact ⟨H1, I1, q1⟩
  | false => exact hb wh pins s1 σ H1 Q I1 q1
theorem pt_not (ha : PT X a tA) : PT X (.UnaryOp .Not a pos) (tNot tA) := by
  intro pins s σ H Q I h
  exact isTrue_not (ha pins s σ H (fun c H1 => Q (!c) H1) I h)
/-- .. as values (bools) -/
def tAndV (ta tb : TE) : TE := fun σ H Q => ta σ H fun x H1 => ∃ c, x = .bl c ∧ if c = true then tb σ H1 Q else Q (.bl false) H1
def tOrV (ta tb : TE) : TE := fun σ H Q => ta σ H fun x H1 => ∃ c, x = .bl c ∧ if c = true then Q (.bl true) H1 else tb σ H1 Q
def tNotV (ta : TE) : TE := fun σ H Q => ta σ H fun x H1 => ∃ c, x = .bl c ∧ Q (.bl (!c)) H1
theorem pe_one {op} {t : TE} (h : PE X a t) : PE X (.BoolOp op [a] pos) t := fun pins s σ H Q I hw => BoolOp_one (h pins s σ H Q I hw)
theorem pe_and (ha : PE X a ta) (hb : PE X (.BoolOp .And (b :: rest) pos) tb) : PE X (.BoolOp .And (a :: b :: rest) pos) (tAndV ta tb) := by
  intro pins s σ H Q I h
  refine BoolOp_and (thn (ha pins s σ H _ I h) fun v s1 ⟨x, H1, I1, r1, q1⟩ => ?_)
  obtain ⟨c, rfl, q1⟩ := q1
  cases r1
  refine wpAny_truthy_bool ?_
  cases c with
  | true => exact hb pins s1 σ H1 Q I1 q1
  | false => exact ⟨.bl false, H1, I1, rfl, q1⟩
theorem pe_or (ha : PE X a ta) (hb : PE X (.BoolOp .Or (b :: rest) pos) tb) : PE X (.BoolOp .Or (a :: b :: rest) pos) (tOrV ta tb) := by
  intro pins s σ H Q I h
  refine BoolOp_or (thn (ha pins s σ H _ I h) fun v s1 ⟨x, H1, I1, r1, q1⟩ => ?_)
  obtain ⟨c, rfl, q1⟩ := q1
  cases r1
  refine wpAny_truthy_bool ?_
  cases c with
  | false => exact hb pins s1 σ H1 Q I1 q1
  | true => exact ⟨.bl true, H1, I1, rfl, q1⟩
theorem pe_not (ha : PE X a ta) : PE X (.UnaryOp .Not a pos) (tNotV ta) := by
  intro pins s σ H Q I h
  refine UnaryOp_ (thn (ha pins s σ H _ I h) fun v s1 ⟨x, H1, I1, r1, q1⟩ => ?_)
  obtain ⟨c, rfl, q1⟩ := q1
  cases r1
  exact not_of (wpAny_truthy_bool ⟨.bl (!c), H1, I1, rfl, q1⟩)
end
end L2

namespace L2
open PySem PySem.Spec PyProof.Rows

def SqL (K : PySem.W.Frag) (H : Hp) (a : Addr) (xs : List V) : Prop :=
  Rd H a (.lst xs) ∨
    ∃ (o : Obj) (its : Array Value) (n : Nat), K.lookup a = some o ∧ o.cls = .type "list" ∧ o.dict = none ∧ o.data = .seq its n ∧ its.size ≤ sizeLine ∧ Vals xs its.toList
def SqT (K : PySem.W.Frag) (H : Hp) (a : Addr) (xs : List V) : Prop :=
  Rd H a (.tup xs) ∨
    ∃ (o : Obj) (its : Array Value) (n : Nat), K.lookup a = some o ∧ o.cls = .type "tuple" ∧ o.dict = none ∧ o.data = .seq its n ∧ its.size ≤ sizeLine ∧ Vals xs its.toList
def absV : Value → Option V
  | .none => some .non
  | .bool b => some (.bl b)
  | .int i _ => some (.int i)
  | .str x _ => some (.str x)
  | .bytes b _ => some (.byt b)
  | .float b _ => some (.flt b)
  | .ref a => some (.ref a)
  | .type n => some (.ty n)
  | _ => none
theorem RelV.abs {x : V} {u : Value} (r : RelV x u) : absV u = some x := by
  cases x with
  | non => cases r; rfl
  | bl _ => cases r; rfl
  | int _ => obtain ⟨t, rfl⟩ := r; rfl
  | str _ => obtain ⟨t, rfl⟩ := r; rfl
  | byt _ => obtain ⟨t, rfl⟩ := r; rfl
  | flt _ => obtain ⟨t, rfl⟩ := r; rfl
  | ref _ => cases r; rfl
  | ty _ => cases r; rfl
theorem RelV.inj {x y : V} {u : Value} (r : RelV x u) (q : RelV y u) : x = y := Option.some.inj (r.abs.symm.trans q.abs)
theorem Vals.inj : ∀ {xs ys : List V} {us : List Value}, Vals xs us → Vals ys us → xs = ys
  | _, _, _, .nil, .nil => rfl
  | _, _, _, .cons r t, .cons r' t' => by rw [r.inj r', Vals.inj t t']
section
variable {X : Cx} {pins : List (Addr × Obj)} {σ : St} {H : Hp} {s : Shared} {a : Addr} {xs ys : List V}
theorem SqL.of {K : PySem.W.Frag} (h : H a = some (.lst xs)) : SqL K H a xs := .inl (.inl h)
theorem SqT.of {K : PySem.W.Frag} (h : H a = some (.tup xs)) : SqT K H a xs := .inl (.inl h)
theorem Inv.list (I : Inv X pins σ H s) (h : SqL X.K H a xs) : ∃ its : List Value, Vals xs its ∧ PlainL s.heap a its.toArray ∧ xs.length ≤ sizeLine := by
  rcases h with h | ⟨o, its, n, hk, hc, hd, hs, hz, r⟩
  · obtain ⟨z, its, n, r, e⟩ := h.ok I.hok
    exact ⟨its, r, ⟨_, n, e, rfl, rfl, rfl⟩, z⟩
  · refine ⟨its.toList, r, ⟨o, n, I.kIn a o hk, hc, hd, by simpa using hs⟩, ?_⟩
    have e := r.length
    simp only [Array.length_toList] at e
    omega
theorem Inv.tupleN (I : Inv X pins σ H s) (h : SqT X.K H a xs) : ∃ its : List Value, Vals xs its ∧ IsTupN s.heap a its.toArray ∧ xs.length ≤ sizeLine := by
  rcases h with h | ⟨o, its, n, hk, hc, hdn, hs, hz, r⟩
  · obtain ⟨z, its, r, p⟩ := h.ok I.hok
    exact ⟨its, r, p, z⟩
  · refine ⟨its.toList, r, ⟨o, I.kIn a o hk, hc, n, by simpa using hs, hdn⟩, ?_⟩
    have e := r.length
    simp only [Array.length_toList] at e
    omega
theorem Inv.tuple (I : Inv X pins σ H s) (h : SqT X.K H a xs) : ∃ its : List Value, Vals xs its ∧ IsTup s.heap a its.toArray ∧ xs.length ≤ sizeLine :=
  let ⟨its, r, p, z⟩ := I.tupleN h
  ⟨its, r, p.tup, z⟩
theorem Inv.list_inj (I : Inv X pins σ H s) (h : SqL X.K H a xs) (h' : SqL X.K H a ys) : xs = ys := by
  obtain ⟨its, r, ⟨o, n, e, _, _, d⟩, _⟩ := I.list h
  obtain ⟨its', r', ⟨o', n', e', _, _, d'⟩, _⟩ := I.list h'
  rw [e] at e'; cases e'
  rw [d] at d'
  injection d' with d1 _
  have : its = its' := by simpa using congrArg Array.toList d1
  subst this
  exact r.inj r'
theorem Inv.tuple_inj (I : Inv X pins σ H s) (h : SqT X.K H a xs) (h' : SqT X.K H a ys) : xs = ys := by
  obtain ⟨its, r, ⟨o, e, _, n, d⟩, _⟩ := I.tuple h
  obtain ⟨its', r', ⟨o', e', _, n', d'⟩, _⟩ := I.tuple h'
  rw [e] at e'; cases e'
  rw [d] at d'
  injection d' with d1 _
  have : its = its' := by simpa using congrArg Array.toList d1
  subst this
  exact r.inj r'
end

abbrev Cx.wish (X : Cx) (E : Value → Shared → Prop) : Cx := { X with xe := E }
/-- no exception leaves -/
abbrev Cx.nox (X : Cx) : Cx := X.wish fun _ _ => False
theorem Cx.Ok.wish {X : Cx} (ok : X.Ok) (E : Value → Shared → Prop) : (X.wish E).Ok :=
  ⟨ok.mod, ok.kind, ok.glob, ok.blt, ok.above, ok.inj, ok.has, ok.cab, ok.hd, ok.frames, ok.stk, ok.exf, ok.bs, ok.bsz, ok.noex, ok.exfs, ok.funs, ok.frf⟩
theorem Cx.Ok.unwish {X : Cx} {E : Value → Shared → Prop} (ok : (X.wish E).Ok) : X.Ok :=
  ⟨ok.mod, ok.kind, ok.glob, ok.blt, ok.above, ok.inj, ok.has, ok.cab, ok.hd, ok.frames, ok.stk, ok.exf, ok.bs, ok.bsz, ok.noex, ok.exfs, ok.funs, ok.frf⟩
section
variable {X : Cx} {pins : List (Addr × Obj)} {σ : St} {H : Hp} {s : Shared} {E : Value → Shared → Prop}
theorem Inv.wish (I : Inv X pins σ H s) (E : Value → Shared → Prop) : Inv (X.wish E) pins σ H s := ⟨I.ok.wish E, I.os, I.bare, I.base, I.loc, I.cell, I.free, I.freeC, I.pin, I.hok, I.len⟩
theorem Inv.unwish (I : Inv (X.wish E) pins σ H s) : Inv X pins σ H s := ⟨I.ok.unwish, I.os, I.bare, I.base, I.loc, I.cell, I.free, I.freeC, I.pin, I.hok, I.len⟩
theorem SP.unwish {D : Ends} {f : Flow} {s' : Shared} (h : SP (X.wish E) pins D f s') : SP X pins D f s' := by
  cases f with
  | next => obtain ⟨σ', H', I, q⟩ := h; exact ⟨σ', H', I.unwish, q⟩
  | brk => obtain ⟨σ', H', I, q⟩ := h; exact ⟨σ', H', I.unwish, q⟩
  | cont => obtain ⟨σ', H', I, q⟩ := h; exact ⟨σ', H', I.unwish, q⟩
  | ret u => obtain ⟨v, σ', H', I, r, q⟩ := h; exact ⟨v, σ', H', I.unwish, r, q⟩
theorem PE.nox {e : Expr} {t : TE} (h : PE X.nox e t) : PE X e t := fun pins s σ H Q I hw =>
  wpAny_mono (h pins s σ H Q (I.wish _) hw) (fun _ _ ⟨v, H', I', r, q⟩ => ⟨v, H', I'.unwish, r, q⟩) fun _ _ z => False.elim z
theorem PT.nox {e : Expr} {t : TT} (h : PT X.nox e t) : PT X e t := fun pins s σ H Q I hw =>
  wpAny_mono (h pins s σ H Q (I.wish _) hw) (fun _ _ ⟨H', I', q⟩ => ⟨H', I'.unwish, q⟩) fun _ _ z => False.elim z
theorem PSs.nox {st : List Stmt} {t : TS} (h : PSs X.nox st t) : PSs X st t := fun pins s σ H D I hw =>
  wpAny_mono (h pins s σ H D (I.wish _) hw) (fun _ _ q => q.unwish) fun _ _ z => False.elim z
end

section
variable {X : Cx} {st : Stmt} {rest : List Stmt} {t u : TS} {e : Expr} {te : TE} {pos : Pos}
def tNext : TS := fun D σ H => D.nx σ H
def tSeq (t u : TS) : TS := fun D σ H => t { D with nx := u D } σ H
theorem pss_nil : PSs X [] tNext := fun _ _ σ H _ I h => wpAny_execs_nil ⟨σ, H, I, h⟩
theorem pss_cons (h1 : PS X st t) (h2 : PSs X rest u) : PSs X (st :: rest) (tSeq t u) := by
  intro pins s σ H D I h
  refine wpAny_execs_cons (thn (h1 pins s σ H { D with nx := u D } I h) fun f s1 q => ?_)
  cases f with
  | next =>
    obtain ⟨σ', H', I', q⟩ := q
    exact h2 pins s1 σ' H' D I' q
  | ret v => exact q
  | brk => exact q
  | cont => exact q
theorem pss_one (h1 : PS X st t) : PSs X [st] t := by
  intro pins s σ H D I h
  refine wpAny_execs_cons (thn (h1 pins s σ H D I h) fun f s1 q => ?_)
  cases f with
  | next => exact wpAny_execs_nil q
  | ret v => exact q
  | brk => exact q
  | cont => exact q
/-- in a def's body nothing is shown -/
theorem Inv.quiet {pins : List (Addr × Obj)} {σ : St} {H : Hp} {s : Shared} (I : Inv X pins σ H s) : interactive X.env = false := by simp [interactive, I.ok.kind]
/-- an expression whose value is dropped -/
def tDrop (te : TE) : TS := fun D σ H => te σ H fun _ H1 => D.nx σ H1
theorem ps_expr (he : PE X e te) (hs : swapsWith e none pos.line X.env = pure false := by rfl) : PS X (.Expr e pos) (tDrop te) := by
  intro pins s σ H D I h
  exact wpAny_Expr_any (thn (he pins s σ H _ I h) fun v s1 ⟨x, H1, I1, r1, q1⟩ => ⟨σ, H1, I1, q1⟩) I.quiet hs
def tRet (te : TE) : TS := fun D σ H => te σ H D.rt
theorem ps_ret (he : PE X e te) : PS X (.Return (some e) pos) (tRet te) := by
  intro pins s σ H D I h
  exact wpAny_Return_some (thn (he pins s σ H _ I h) fun v s1 ⟨x, H1, I1, r1, q1⟩ => ⟨x, σ, H1, I1, r1, q1⟩)
def tIfS (c : TT) (t u : TS) : TS := fun D σ H => c σ H fun b H1 => if b = true then t D σ H1 else u D σ H1
theorem ps_if {c : Expr} {a b : List Stmt} {tc : TT} (hc : PT X c tc) (ha : PSs X a t) (hb : PSs X b u) : PS X (.If c a b pos) (tIfS tc t u) := by
  intro pins s σ H D I h
  refine wpAny_If (thn (hc pins s σ H _ I h) fun d s1 ⟨H1, I1, q1⟩ => ?_)
  cases d with
  | true => exact ha pins s1 σ H1 D I1 q1
  | false => exact hb pins s1 σ H1 D I1 q1
end

abbrev TG := V → St → Hp → (St → Hp → Prop) → Prop
abbrev TGs := List V → St → Hp → (St → Hp → Prop) → Prop
def PG (X : Cx) (target : Expr) (t : TG) : Prop :=
  ∀ (pins : List (Addr × Obj)) (s : Shared) (σ : St) (H : Hp) (v : V) (u : Value) (Q : St → Hp → Prop), Inv X pins σ H s → RelV v u → t v σ H Q →
    wpAny (model X.prog X.w) X.A (assign target X.env u) (fun _ s' => ∃ σ' H', Inv X pins σ' H' s' ∧ Q σ' H') X.xe s
/-- several targets, one after another -/
def PGs (X : Cx) (ts : List Expr) (t : TGs) : Prop :=
  ∀ (pins : List (Addr × Obj)) (s : Shared) (σ : St) (H : Hp) (vs : List V) (us : List Value) (Q : St → Hp → Prop), Inv X pins σ H s → Vals vs us → t vs σ H Q →
    wpAny (model X.prog X.w) X.A (assignInOrder ((assignEach ts X.env).map (·.2)) us) (fun _ s' => ∃ σ' H', Inv X pins σ' H' s' ∧ Q σ' H') X.xe s
/-- o[i] = v, by values -/
abbrev TSet := V → V → V → Hp → (Hp → Prop) → Prop
def PSet (X : Cx) (t : TSet) : Prop :=
  ∀ (pins : List (Addr × Obj)) (s : Shared) (σ : St) (H : Hp) (o i v : V) (ov iv u : Value) (Q : Hp → Prop), Inv X pins σ H s → RelV o ov → RelV i iv → RelV v u → t o i v H Q →
    wpAny (model X.prog X.w) X.A (setItem ov iv u) (fun _ s' => ∃ H', Inv X pins σ H' s' ∧ Q H') X.xe s
section
variable {X : Cx} {pos : Pos}
def gName (i : Nat) : TG := fun v σ H Q => Q (σ.set i (some v)) H
theorem pg_name {i : Nat} {x : Str} (hN : X.N.Nodup) (hi : X.N[i]? = some x) (hx : Loc X.env.scope x) (hf : X.fn x = true ∨ X.env.scope.names.lookup x = some .local := by first | exact .inl rfl | exact .inr rfl | assumption) : PG X (.Name x pos) (gName i) := by
  intro pins s σ H v u Q I r h
  exact wpAny_assign_Name (store_ok I hN hi hx r (fun s' I' => ⟨_, H, I', h⟩) hf)
def gNil : TGs := fun vs σ H Q => vs = [] ∧ Q σ H
def gCons (t : TG) (u : TGs) : TGs := fun vs σ H Q => ∃ v r, vs = v :: r ∧ t v σ H fun σ' H' => u r σ' H' Q
theorem pgs_nil : PGs X [] gNil := by
  intro pins s σ H vs us Q I r h
  obtain ⟨e, h⟩ := h
  subst e
  cases r
  exact assignInOrder_nil ⟨σ, H, I, h⟩
theorem pgs_cons {e : Expr} {es : List Expr} {t : TG} {u : TGs} (h1 : PG X e t) (h2 : PGs X es u)
    (hs : (assignEach (e :: es) X.env).map (·.2) = assign e X.env :: (assignEach es X.env).map (·.2) := by rfl) : PGs X (e :: es) (gCons t u) := by
  intro pins s σ H vs us Q I r h
  obtain ⟨v, vr, e1, h⟩ := h
  subst e1
  cases r with
  | cons r rr =>
    rw [hs]
    refine assignInOrder_cons (thn (h1 pins s σ H _ _ _ I r h) fun _ s1 ⟨σ1, H1, I1, q1⟩ => ?_)
    exact h2 pins s1 σ1 H1 _ _ Q I1 rr q1
/-- (a, b, ..) = a tuple of that length -/
def gTup (K : PySem.W.Frag) (n : Nat) (t : TGs) : TG := fun v σ H Q => ∃ a xs, v = .ref a ∧ SqT K H a xs ∧ xs.length = n ∧ t xs σ H Q
theorem pg_tup {es : List Expr} {k : Nat} {t : TGs} {n : Nat} (hc : X.calm = true) (h : PGs X es t)
    (hn : (assignEach es X.env).length = n := by rfl) (hst : (assignEach es X.env).findIdx? (·.1) = none := by rfl) : PG X (.Tuple es k pos) (gTup X.K n t) := by
  intro pins s σ H v u Q I r hw
  obtain ⟨a, xs, e1, hq, hl, hw⟩ := hw
  subst e1
  cases r
  obtain ⟨its, rv, ht, hz⟩ := I.tuple hq
  refine assign_Tuple_tuple (I.ok.hd hc) ht (by simp [hn, ← hl, rv.length]) hst fun h' hx => ?_
  have I1 : Inv X pins σ H { s with heap := h' } := I.kept (t' := s.toks) fun b o e => hx b o (Nat.ne_of_lt (Heap.lt_size e)) e
  exact h pins _ σ H xs _ Q I1 (by simpa using rv) hw
/-- o[i] = .. -/
def gSub (to ti : TE) (t : TSet) : TG := fun v σ H Q => to σ H fun o H1 => ti σ H1 fun i H2 => t o i v H2 fun H3 => Q σ H3
theorem pg_sub {o i : Expr} {to ti : TE} {t : TSet} (ho : PE X o to) (hi : PE X i ti) (hs : PSet X t)
    (ha : ∀ v, assign (.Subscript o i pos) X.env v = (do
      let ov ← holding [v] (eval o X.env)
      let iv ← holding [v, ov] (eval i X.env)
      standAt pos
      holding [v, ov, iv] (setItem ov iv v)
      release [v, ov, iv] []) := by intro _; rfl) : PG X (.Subscript o i pos) (gSub to ti t) := by
  intro pins s σ H v u Q I r h
  rw [ha]
  refine wpAny_bind (wpAny_holding (thn (ho pins s σ H _ I h) fun ov s1 ⟨x, H1, I1, r1, q1⟩ => ?_))
  refine wpAny_bind (wpAny_holding (thn (hi pins s1 σ H1 _ I1 q1) fun iv s2 ⟨y, H2, I2, r2, q2⟩ => ?_))
  refine wpAny_bind (wpAny_standAt (wpAny_bind (wpAny_holding (thn (hs pins s2 σ H2 x y v ov iv u _ I2 r1 r2 r q2) fun _ s3 ⟨H3, I3, q3⟩ => ?_))))
  exact wpAny_release ⟨σ, H3, I3, q3⟩
/-- target = value -/
def tAsg (te : TE) (g : TG) : TS := fun D σ H => te σ H fun x H1 => g x σ H1 D.nx
theorem ps_asg {tg e : Expr} {te : TE} {g : TG} (he : PE X e te) (hg : PG X tg g) (hs : swapsWithSole [tg] e pos.line X.env = pure false := by rfl) (hw : swappedStores [tg] e X.env = pure none := by rfl)
    (h1 : (assignEach [tg] X.env).map (·.2) = [assign tg X.env] := by rfl) : PS X (.Assign [tg] e pos) (tAsg te g) := by
  intro pins s σ H D I h
  refine wpAny_Assign_stores (thn (he pins s σ H _ I h) fun v s1 ⟨x, H1, I1, r1, q1⟩ => ?_) hs hw
  rw [h1]
  exact thn (hg pins s1 σ H1 x v _ I1 r1 q1) fun _ s2 q => q
/-- name = value -/
theorem ps_set {i : Nat} {x : Str} {e : Expr} {te : TE} {pos' : Pos} (hN : X.N.Nodup) (hi : X.N[i]? = some x) (hx : Loc X.env.scope x) (he : PE X e te) (hs : swapsWith e (some (.Name x pos')) pos.line X.env = pure false := by rfl) (hf : X.fn x = true ∨ X.env.scope.names.lookup x = some .local := by first | exact .inl rfl | exact .inr rfl | assumption) :
    PS X (.Assign [.Name x pos'] e pos) (tAsg te (gName i)) := by
  intro pins s σ H D I h
  refine wpAny_Assign_Name (thn (he pins s σ H _ I h) fun v s1 ⟨y, H1, I1, r1, q1⟩ => ?_) hs
  exact store_ok I1 hN hi hx r1 (fun s2 I2 => ⟨_, H1, I2, q1⟩) hf
end

section
variable {X : Cx} {pos : Pos}
end

/-- at turn i: it yields x (the heap may grow), or it stops -/
structure It where
  go : Nat → Hp → Prop
  yld : Nat → Hp → V → Hp → Prop
  stop : Nat → Hp → Prop
/-- the iterator's own objects may turn: they are not the frame's, not pinned, younger than the entry (or a comprehension's own) -/
def FpOk (X : Cx) (pins : List (Addr × Obj)) (H : Hp) (b : Addr) : Prop :=
  H b = none ∧ b ≠ X.env.locals ∧ b ∉ X.fs ∧ (b ∈ X.ex ∨ X.s_0.heap.objs.size ≤ b) ∧ (∀ x c, X.env.cells.lookup x = some c → c ≠ b) ∧ ∀ p ∈ X.pn ++ pins, p.1 ≠ b
theorem Inv.fpOk {X : Cx} {pins : List (Addr × Obj)} {σ : St} {H H' : Hp} {s : Shared} {b : Addr} (I : Inv X pins σ H s) (hb : s.heap.objs.size ≤ b) (hn : H' b = none) : FpOk X pins H' b := by
  refine ⟨hn, Nat.ne_of_gt (Nat.lt_of_lt_of_le I.lt hb), I.nofs hb, .inr (Nat.le_trans I.sz hb), fun x c e z => ?_, fun p hp z => ?_⟩
  · obtain ⟨v, q⟩ := I.cell x c e
    exact absurd (Nat.lt_of_lt_of_le q.lt (by rw [z]; exact hb)) (Nat.lt_irrefl _)
  · exact absurd (Nat.lt_of_lt_of_le (Heap.lt_size (I.pin p hp).1) (by rw [z]; exact hb)) (Nat.lt_irrefl _)
structure Turn (P : Program) (w : World) (K : PySem.W.Frag) (tg : Expr) (J : It) (fp : List Addr) (it : Addr) (tn : Nat → Heap → Prop) : Prop where
  mem : it ∈ fp
  obj : ∀ i h, tn i h → ∀ b ∈ fp, ∃ o, h.get? b = some o ∧ ∀ v, o.data ≠ .cell v
  keep : ∀ i h h', tn i h → (∀ b ∈ fp, ∀ o, h.get? b = some o → h'.get? b = some o) → tn i h'
  item : ∀ (X : Cx), X.prog = P → X.w = w → X.K = K → X.calm = true → ∀ (i : Nat) (pins : List (Addr × Obj)) (s : Shared) (σ : St) (H : Hp) (E : Value → Shared → Prop), Inv X pins σ H s → (∀ b ∈ fp, FpOk X pins H b) → tn i s.heap → J.go i H →
    wpAny (model P w) X.A (pyNext (.ref it)) (fun r s1 => ∃ u, r = some u ∧
      wpAny (model P w) X.A (letOwnedTupleGo tg (.ref it) u) (fun _ s2 => ∃ x H', Inv X pins σ H' s2 ∧ RelV x u ∧ J.yld i H x H' ∧ tn (i + 1) s2.heap ∧ ∀ b ∈ fp, H' b = none) E s1) E s
  done : ∀ (X : Cx), X.prog = P → X.w = w → X.K = K → X.calm = true → ∀ (i : Nat) (pins : List (Addr × Obj)) (s : Shared) (σ : St) (H : Hp) (E : Value → Shared → Prop), Inv X pins σ H s → (∀ b ∈ fp, FpOk X pins H b) → tn i s.heap → J.stop i H →
    wpAny (model P w) X.A (pyNext (.ref it)) (fun r s1 => r = none ∧ Inv X pins σ H s1) E s
  self : ∀ (A : Around) (i : Nat) (s : Shared) (Q : Value → Shared → Prop) (E : Value → Shared → Prop), tn i s.heap → Q (.ref it) s → wpAny (model P w) A (pyIter (.ref it)) Q E s
abbrev TI := St → Hp → (It → Hp → Prop) → Prop
/-- an iterator has come -/
def PIE (X : Cx) (pins : List (Addr × Obj)) (σ : St) (tg : Expr) (R : It → Hp → Prop) (itv : Value) (s2 : Shared) : Prop :=
  ∃ (it : Addr) (fp : List Addr) (tn : Nat → Heap → Prop) (J : It) (H' : Hp), itv = .ref it ∧ Inv X pins σ H' s2 ∧ Turn X.prog X.w X.K tg J fp it tn ∧ tn 0 s2.heap ∧ (∀ b ∈ fp, FpOk X pins H' b) ∧ R J H'
def PI (X : Cx) (tg iter : Expr) (wi : TI) : Prop :=
  ∀ (pins : List (Addr × Obj)) (s : Shared) (σ : St) (H : Hp) (R : It → Hp → Prop), Inv X pins σ H s → wi σ H R →
    wpAny (model X.prog X.w) X.A (eval iter X.env) (fun v s1 => wpAny (model X.prog X.w) X.A (pyIter v) (PIE X pins σ tg R) X.xe s1) X.xe s

/-- the step ahead of the store is nothing for an iterator that keeps no tuple -/
theorem go_of {M : Model} {A : Around} {E : Value → Shared → Prop} {s : Shared} {tg : Expr} {it : Addr} {u : Value} {o : Obj} {n : String} {vs : Array Value} {Q : Unit → Shared → Prop} (ho : s.heap.get? it = some o) (hc : o.cls = .type n) (hd : o.data = .fields vs)
    (hn : ["enumerate", "zip", "dict_itemiterator", "dict_reverseitemiterator", "odict_iterator", "itertools.zip_longest", "itertools.pairwise"].contains n = false) (hQ : Q () s) : wpAny M A (letOwnedTupleGo tg (.ref it) u) Q E s := by
  unfold letOwnedTupleGo
  cases tg <;> first
    | exact wpAny_pure hQ
    | (cases u <;> first
        | exact wpAny_pure hQ
        | (refine wpAny_bind (wpAny_load ho ?_)
           rw [hc, hd]
           show wpAny M A (if (["enumerate", "zip", "dict_itemiterator", "dict_reverseitemiterator", "odict_iterator", "itertools.zip_longest", "itertools.pairwise"].contains n && vs[0]? == some (rawInt _)) = true then _ else _) Q E s
           rw [if_neg (by intro h; rw [hn, Bool.false_and] at h; cases h)]
           exact wpAny_pure hQ))

/-- the list at a, as it stands at each turn (a loop may append to it) -/
def Itl (K : PySem.W.Frag) (a : Addr) : It :=
  ⟨fun i H => ∃ xs x, SqL K H a xs ∧ xs[i]? = some x, fun i H x H' => H' = H ∧ ∀ xs, SqL K H a xs → xs[i]? = some x, fun i H => ∃ xs, SqL K H a xs ∧ xs.length ≤ i⟩
def Itt (K : PySem.W.Frag) (a : Addr) : It :=
  ⟨fun i H => ∃ xs x, SqT K H a xs ∧ xs[i]? = some x, fun i H x H' => H' = H ∧ ∀ xs, SqT K H a xs → xs[i]? = some x, fun i H => ∃ xs, SqT K H a xs ∧ xs.length ≤ i⟩
/-- lo, lo + 1, .. (n of them) -/
def Itr (lo : Int) (n : Nat) : It := ⟨fun i _ => i < n, fun i H x H' => H' = H ∧ x = .int (lo + i), fun i _ => n ≤ i⟩
theorem turn_list {P : Program} {w : World} {K : PySem.W.Frag} {tg : Expr} (a it : Addr) : Turn P w K tg (Itl K a) [it] it (fun i h => h.IsListIter it a i) where
  mem := by simp
  obj := fun i h st b hb => by
    have e : b = it := by simpa using hb
    subst e
    obtain ⟨o, e, c, d⟩ := st
    exact ⟨o, e, fun v z => by rw [d] at z; cases z⟩
  keep := fun i h h' st k => st.at fun o e => k it (by simp) o e
  item := by
    intro X hP hw hK hc i pins s σ H E I hf st hg
    subst hP hw hK
    obtain ⟨xs, x, hq, hx⟩ := hg
    obtain ⟨its, rv, p, hz⟩ := I.list hq
    obtain ⟨u, hu, ru⟩ := rv.get hx
    obtain ⟨f0, f1, f2, f3, f4, f5⟩ := hf it (by simp)
    refine wpAny_pyNext_list_item st p.isList (x := u) (by simpa using hu) fun h' st' sb => ?_
    have I1 : Inv X pins σ H { s with heap := h' } := I.turned (t' := s.toks) (fun b o hb e => (sb.2 b hb).trans e) f0 f1 f3 f4 f5
    obtain ⟨o, e, c, d⟩ := id st'
    exact ⟨u, rfl, go_of (s := { s with heap := h' }) e c d (by decide) ⟨x, H, I1, ru, ⟨rfl, fun ys hy => by rw [I.list_inj hy hq]; exact hx⟩, st', fun b hb => (hf b hb).1⟩⟩
  done := by
    intro X hP hw hK hc i pins s σ H E I hf st hg
    subst hP hw hK
    obtain ⟨xs, hq, hx⟩ := hg
    obtain ⟨its, rv, p, hz⟩ := I.list hq
    obtain ⟨f0, f1, f2, f3, f4, f5⟩ := hf it (by simp)
    have hl := rv.length
    exact wpAny_pyNext_list_end (I.ok.hd hc) st p.isList (by simp; omega) fun h' eb => ⟨rfl, I.turned (t' := s.toks) (fun b o hb e => eb b o hb e) f0 f1 f3 f4 f5⟩
  self := fun _ _ _ _ _ st h => wpAny_pyIter_listiter st h
theorem turn_tuple {P : Program} {w : World} {K : PySem.W.Frag} {tg : Expr} (a it : Addr) : Turn P w K tg (Itt K a) [it] it (fun i h => h.IsTupleIter it a i) where
  mem := by simp
  obj := fun i h st b hb => by
    have e : b = it := by simpa using hb
    subst e
    obtain ⟨o, e, c, d⟩ := st
    exact ⟨o, e, fun v z => by rw [d] at z; cases z⟩
  keep := fun i h h' st k => st.at fun o e => k it (by simp) o e
  item := by
    intro X hP hw hK hc i pins s σ H E I hf st hg
    subst hP hw hK
    obtain ⟨xs, x, hq, hx⟩ := hg
    obtain ⟨its, rv, p, hz⟩ := I.tuple hq
    obtain ⟨u, hu, ru⟩ := rv.get hx
    obtain ⟨f0, f1, f2, f3, f4, f5⟩ := hf it (by simp)
    refine wpAny_pyNext_tuple_item st (show s.heap.IsTuple a its.toArray from p) (x := u) (by simpa using hu) fun h' st' sb => ?_
    have I1 : Inv X pins σ H { s with heap := h' } := I.turned (t' := s.toks) (fun b o hb e => (sb.2 b hb).trans e) f0 f1 f3 f4 f5
    obtain ⟨o, e, c, d⟩ := id st'
    exact ⟨u, rfl, go_of (s := { s with heap := h' }) e c d (by decide) ⟨x, H, I1, ru, ⟨rfl, fun ys hy => by rw [I.tuple_inj hy hq]; exact hx⟩, st', fun b hb => (hf b hb).1⟩⟩
  done := by
    intro X hP hw hK hc i pins s σ H E I hf st hg
    subst hP hw hK
    obtain ⟨xs, hq, hx⟩ := hg
    obtain ⟨its, rv, p, hz⟩ := I.tuple hq
    obtain ⟨f0, f1, f2, f3, f4, f5⟩ := hf it (by simp)
    have hl := rv.length
    exact wpAny_pyNext_tuple_end (I.ok.hd hc) st (show s.heap.IsTuple a its.toArray from p) (by simp; omega) fun h' eb => ⟨rfl, I.turned (t' := s.toks) (fun b o hb e => eb b o hb e) f0 f1 f3 f4 f5⟩
  self := fun _ _ _ _ _ st h => wpAny_pyIter_tupleiter st h
theorem turn_range {P : Program} {w : World} {K : PySem.W.Frag} {tg : Expr} (it : Addr) (lo : Int) (n : Nat) : Turn P w K tg (Itr lo n) [it] it (fun i h => IsRangeIter h it (lo + (i : Nat) * 1) ((n : Int) - (i : Nat)) 1) where
  mem := by simp
  obj := fun i h st b hb => by
    have e : b = it := by simpa using hb
    subst e
    exact ⟨_, st, fun v z => by
      have z' : Data.fields _ = Data.cell v := z
      cases z'⟩
  keep := fun i h h' st k => k it (by simp) _ st
  item := by
    intro X hP hw hK hc i pins s σ H E I hf st hg
    subst hP hw hK
    obtain ⟨f0, f1, f2, f3, f4, f5⟩ := hf it (by simp)
    have W := Walks.range (prog := X.prog) (w := X.w) (I.ok.hd hc) it lo 1 n
    refine W.item i s _ _ hg st fun v h' tk hv st' kk => ?_
    obtain ⟨t, rfl⟩ := hv
    have I1 : Inv X pins σ H { s with heap := h', toks := tk } := I.turned (fun b o hb e => kk b o (by simpa using hb) e) f0 f1 f3 f4 f5
    refine ⟨_, rfl, go_of (s := { s with heap := h', toks := tk }) (n := "range_iterator") st' rfl rfl (by decide) ⟨.int (lo + i), H, I1, ⟨t, ?_⟩, ⟨rfl, rfl⟩, st', fun b hb => (hf b hb).1⟩⟩
    rw [Int.mul_one]
  done := by
    intro X hP hw hK hc i pins s σ H E I hf st hg
    subst hP hw hK
    obtain ⟨f0, f1, f2, f3, f4, f5⟩ := hf it (by simp)
    exact wpAny_pyNext_range_end (I.ok.hd hc) st (by have : n ≤ i := hg; omega) fun h' eb => ⟨rfl, I.turned (t' := s.toks) (fun b o hb e => eb b o hb e) f0 f1 f3 f4 f5⟩
  self := fun _ _ _ _ _ st h => wpAny_pyIter_rangeiter st h
end L2

namespace L2
open PySem PySem.Spec PyProof.Rows
section
variable {X : Cx} {tg : Expr}
/-- a range object just made, walked -/
theorem range_it {pins : List (Addr × Obj)} {σ : St} {H : Hp} {s : Shared} {R : It → Hp → Prop} {E : Value → Shared → Prop} {lo hi : Int} {t u v : Tok} {tk : Nat} (I : Inv X pins σ H s) (h1 : -(2 ^ 62) ≤ lo) (h2 : lo < 2 ^ 62) (h3 : -(2 ^ 62) ≤ hi) (h4 : hi < 2 ^ 62)
    (q : R (Itr lo (hi - lo).toNat) H) : wpAny (model X.prog X.w) X.A (pyIter (.ref s.heap.objs.size)) (PIE X pins σ tg R) E { s with heap := s.heap.push { cls := .type "range", data := .fields #[.int lo t, .int hi u, .int 1 v] }, toks := tk } := by
  refine wpAny_pyIter_range (IsRange.new ..) (small_one h1 h2 h3 h4) ?_
  have I1 : Inv X pins σ H { s with heap := s.heap.push { cls := .type "range", data := .fields #[.int lo t, .int hi u, .int 1 v] }, toks := tk } := I.kept fun b o e => Heap.get?_push_of_some _ e
  refine ⟨(s.heap.push { cls := .type "range", data := .fields #[.int lo t, .int hi u, .int 1 v] }).objs.size, [(s.heap.push { cls := .type "range", data := .fields #[.int lo t, .int hi u, .int 1 v] }).objs.size], _, _, H, rfl,
    I1.kept (t' := tk) fun b o e => Heap.get?_push_of_some _ e, turn_range _ lo (hi - lo).toNat, ?_, fun b hb => ?_, q⟩
  · have e1 : lo + ((0 : Nat) : Int) * 1 = lo := by simp
    have e2 : (((hi - lo).toNat : Nat) : Int) - ((0 : Nat) : Int) = Builtin.Range.rangeSize lo hi 1 := by rw [rangeSize_one]; split <;> omega
    show IsRangeIter _ _ (lo + ((0 : Nat) : Int) * 1) ((((hi - lo).toNat : Nat) : Int) - ((0 : Nat) : Int)) 1
    rw [e1, e2]
    exact Heap.get?_push_size _ rfl
  · have e : b = (s.heap.push { cls := .type "range", data := .fields #[.int lo t, .int hi u, .int 1 v] }).objs.size := by simpa using hb
    subst e
    exact I1.fpOk (Nat.le_refl _) (I1.hok.fresh (Nat.le_refl _))
def iRng1 (ta : TA) : TI := fun σ H R => ta σ H fun vs H1 => ∃ j : Int, vs = [.int j] ∧ -(2 ^ 62) ≤ j ∧ j < 2 ^ 62 ∧ R (Itr 0 j.toNat) H1
theorem pi_range1 {a : Expr} {ta : TA} {p pos : Pos} (hg : Gl X "range") (hm : X.mg "range" = none) (ha : PA X [a] ta) (hs : starEach [a] X.env = [(false, eval a X.env)] := by rfl) : PI X tg (.Call (.Name "range" p) [a] [] pos) (iRng1 ta) := by
  intro pins s σ H R I h
  refine Call_ (ld_blt I hg hm boot_range (PyProof.Rows.callWith_type1 (thn (ha pos pins s σ H _ I h) fun us s1 ⟨vs, H1, I1, r1, q1⟩ => ?_) hs rfl))
  obtain ⟨j, e, q1, q2, q⟩ := q1
  subst e
  cases r1 with
  | cons r rr =>
    cases rr
    obtain ⟨t, rfl⟩ := r
    exact call_range_1 (range_it I1 (by omega) (by omega) q1 q2 (by simpa using q))
/-- W: the invariant by the turn and a measure; N: what the body is to reach -/
def tFor (wi : TI) (g : TG) (tb : TS) : TS := fun D σ H => wi σ H fun J H1 => ∃ W : Nat → Nat → St → Hp → Prop, (∃ m, W 0 m σ H1) ∧ ∀ i m σ H, W i m σ H →
  (J.stop i H ∧ D.nx σ H) ∨ (J.go i H ∧ ∃ N : St → Hp → Prop, (∀ σ' H', N σ' H' → ∃ m', m' < m ∧ W (i + 1) m' σ' H') ∧ ∀ x H', J.yld i H x H' → g x σ H' fun σ2 H2 => tb { D with nx := N, ct := N, bk := D.nx } σ2 H2)
/-- the records at fp as they stand -/
def pinsAt (fp : List Addr) (h : Heap) : List (Addr × Obj) := fp.filterMap fun b => (h.get? b).map fun o => (b, o)
theorem mem_pinsAt {fp : List Addr} {h : Heap} {b : Addr} {o : Obj} (hb : b ∈ fp) (e : h.get? b = some o) : (b, o) ∈ pinsAt fp h := List.mem_filterMap.mpr ⟨b, hb, by rw [e]; rfl⟩
theorem of_pinsAt {fp : List Addr} {h : Heap} {p : Addr × Obj} (hp : p ∈ pinsAt fp h) : p.1 ∈ fp ∧ h.get? p.1 = some p.2 := by
  obtain ⟨b, hb, e⟩ := List.mem_filterMap.mp hp
  cases q : h.get? b with
  | none => rw [q] at e; cases e
  | some o =>
    rw [q] at e
    have e' : (b, o) = p := Option.some.inj e
    subst e'
    exact ⟨hb, q⟩
theorem Inv.pinned {pins : List (Addr × Obj)} {σ : St} {H : Hp} {s : Shared} {fp : List Addr} (I : Inv X pins σ H s) (hf : ∀ b ∈ fp, FpOk X pins H b) (ho : ∀ b ∈ fp, ∃ o, s.heap.get? b = some o ∧ ∀ v, o.data ≠ .cell v) : Inv X (pins ++ pinsAt fp s.heap) σ H s :=
  I.pins_of fun p hp => (List.mem_append.mp hp).elim (fun z => I.pin p (List.mem_append_right _ z)) fun z => by
    obtain ⟨hb, e⟩ := of_pinsAt z
    obtain ⟨f0, f1, f2, _⟩ := hf p.1 hb
    obtain ⟨o, e', d⟩ := ho p.1 hb
    rw [e] at e'; cases e'
    exact ⟨e, f0, f1, f2, d⟩
theorem Inv.unpinned {pins pl : List (Addr × Obj)} {σ : St} {H : Hp} {s : Shared} (I : Inv X (pins ++ pl) σ H s) : Inv X pins σ H s := I.pins_of fun p hp => I.pin p (List.mem_append_right _ (List.mem_append_left _ hp))
theorem ps_for {iter : Expr} {body : List Stmt} {wi : TI} {g : TG} {tb : TS} {pos : Pos} (hp : PassesOwn (model X.prog X.w) X.A X.env X.xe) (hc : X.calm = true) (hi : PI X tg iter wi) (hg : PG X tg g) (hb : PSs X body tb)
    (hs : ∀ x, foldedSetIterable iter X.env x = pure x := by intro _; rfl) : PS X (.For tg iter body [] pos) (tFor wi g tb) := by
  intro pins s σ H D I h
  refine wpAny_For (thn (hi pins s σ H _ I h) fun v s1 h1 => thn h1 fun itv s2 h2 => ?_) hs
  obtain ⟨it, fp, tn, J, H2, e, I2, T, st2, f2, W, ⟨m0, w0⟩, turn⟩ := h2
  subst e
  -- what stays true of the iterator's objects through the loop
  have stat : ∀ {H' : Hp}, (∀ b ∈ fp, H' b = none) → ∀ b ∈ fp, FpOk X pins H' b := fun hn b hb => ⟨hn b hb, (f2 b hb).2⟩
  refine codeAny_forLoop_any (fun n s' => ∃ i σ' H', Inv X pins σ' H' s' ∧ tn i s'.heap ∧ (∀ b ∈ fp, H' b = none) ∧ W i n σ' H') ?_ m0 ⟨0, σ, H2, I2, st2, fun b hb => (f2 b hb).1, w0⟩
  rintro n s3 ⟨i, σ3, H3, I3, st3, fr3, w3⟩
  rcases turn i n σ3 H3 w3 with ⟨stop, qn⟩ | ⟨go, N, hN, step⟩
  · refine wpAny_passesOwn hp (thn (T.done X rfl rfl rfl hc i pins s3 σ3 H3 X.xe I3 (stat fr3) st3 stop) fun r s4 ⟨hr, I4⟩ => ?_)
    subst hr
    exact wpAny_execs_nil ⟨σ3, H3, I4, qn⟩
  · refine wpAny_passesOwn hp (thn (T.item X rfl rfl rfl hc i pins s3 σ3 H3 X.xe I3 (stat fr3) st3 go) fun r s4 ⟨u, hr, h4⟩ => ?_)
    subst hr
    refine wpAny_passesOwn hp (thn h4 fun _ s5 ⟨x, H5, I5, r5, y5, st5, fr5⟩ => ?_)
    have I5' := I5.pinned (stat fr5) (T.obj _ _ st5)
    refine wpAny_passesOwn hp (thn (hg _ s5 σ3 H5 x u _ I5' r5 (step x H5 y5)) fun _ s6 ⟨σ6, H6, I6, q6⟩ => ?_)
    refine wpAny_passesOwn hp (thn (hb _ s6 σ6 H6 _ I6 q6) fun f s7 q7 => ?_)
    have again : ∀ {σ7 : St} {H7 : Hp}, Inv X (pins ++ pinsAt fp s5.heap) σ7 H7 s7 → N σ7 H7 → ∃ m, m < n ∧ ∃ i σ' H', Inv X pins σ' H' s7 ∧ tn i s7.heap ∧ (∀ b ∈ fp, H' b = none) ∧ W i m σ' H' := fun {σ7 H7} I7 n7 => by
      obtain ⟨m', hm, w7⟩ := hN σ7 H7 n7
      refine ⟨m', hm, i + 1, σ7, H7, I7.unpinned, T.keep _ _ _ st5 fun b hb o e => (I7.pin (b, o) (List.mem_append_right _ (List.mem_append_right _ (mem_pinsAt hb e)))).1, fun b hb => ?_, w7⟩
      obtain ⟨o, e, d⟩ := T.obj _ _ st5 b hb
      exact (I7.pin (b, o) (List.mem_append_right _ (List.mem_append_right _ (mem_pinsAt hb e)))).2.1
    cases f with
    | next => obtain ⟨σ7, H7, I7, n7⟩ := q7; exact again I7 n7
    | cont => obtain ⟨σ7, H7, I7, n7⟩ := q7; exact again I7 n7
    | brk => obtain ⟨σ7, H7, I7, q7⟩ := q7; exact ⟨σ7, H7, I7.unpinned, q7⟩
    | ret v => obtain ⟨x7, σ7, H7, I7, r7, q7⟩ := q7; exact ⟨x7, σ7, H7, I7.unpinned, r7, q7⟩
end

end L2

namespace L2
open PySem PySem.Spec PyProof.Rows

abbrev R2 := V → V → Hp → VK → Prop
/-- a two-place operation on values: f is binaryOp op, inplaceOp op or compareOp op -/
def OpR (X : Cx) (f : Value → Value → Sem Value) (r : R2) : Prop :=
  ∀ (pins : List (Addr × Obj)) (s : Shared) (σ : St) (H : Hp) (x y : V) (v u : Value) (Q : VK), Inv X pins σ H s → RelV x v → RelV y u → r x y H Q →
    wpAny (model X.prog X.w) X.A (f v u) (EP X pins σ Q) X.xe s
/-- a call of a value that is known (a builtin, a type) with values -/
def CallR (X : Cx) (f : Value) (r : List V → Hp → VK → Prop) : Prop :=
  ∀ (pins : List (Addr × Obj)) (s : Shared) (σ : St) (H : Hp) (xs : List V) (us : List Value) (Q : VK), Inv X pins σ H s → Vals xs us → r xs H Q →
    wpAny (model X.prog X.w) X.A (call f us) (EP X pins σ Q) X.xe s
/-- a value's truth -/
def TruR (X : Cx) (r : V → Hp → (Bool → Hp → Prop) → Prop) : Prop :=
  ∀ (pins : List (Addr × Obj)) (s : Shared) (σ : St) (H : Hp) (x : V) (v : Value) (Q : Bool → Hp → Prop), Inv X pins σ H s → RelV x v → r x H Q →
    wpAny (model X.prog X.w) X.A (truthy v) (TP X pins σ Q) X.xe s

def tOp (r : R2) (ta tb : TE) : TE := fun σ H Q => ta σ H fun x H1 => tb σ H1 fun y H2 => r x y H2 Q
/-- ints in, under C, and a value out -/
def rI (C : Int → Int → Prop) (g : Int → Int → V) : R2 := fun x y H Q => ∃ i j, x = .int i ∧ y = .int j ∧ C i j ∧ Q (g i j) H
def rI0 (g : Int → Int → V) : R2 := fun x y H Q => ∃ i j, x = .int i ∧ y = .int j ∧ Q (g i j) H
section
variable {X : Cx} {a b c : Expr} {ta tb tc : TE} {pos : Pos}

theorem binT (ha : PE X a ta) (hb : PE X b tb) {pins : List (Addr × Obj)} {s : Shared} {σ : St} {H : Hp} {R : V → V → Hp → Prop} (I : Inv X pins σ H s)
    (h : ta σ H fun x H1 => tb σ H1 fun y H2 => R x y H2) {Q : Value → Shared → Prop} {f : Value → Value → Sem Value}
    (hf : ∀ v u s2 x y H2, Inv X pins σ H2 s2 → RelV x v → RelV y u → R x y H2 → wpAny (model X.prog X.w) X.A (f v u) Q X.xe s2) :
    wpAny (model X.prog X.w) X.A (eval a X.env) (fun v s₁ => wpAny (model X.prog X.w) X.A (eval b X.env) (fun u s₂ => wpAny (model X.prog X.w) X.A (f v u) Q X.xe s₂) X.xe s₁) X.xe s := by
  refine thn (ha pins s σ H _ I h) fun v s1 ⟨x, H1, I1, r1, q1⟩ => ?_
  refine thn (hb pins s1 σ H1 _ I1 q1) fun u s2 ⟨y, H2, I2, r2, q2⟩ => ?_
  exact hf v u s2 x y H2 I2 r1 r2 q2

theorem pe_op {op : Operator} {r : R2} (ho : OpR X (binaryOp op) r) (ha : PE X a ta) (hb : PE X b tb) : PE X (.BinOp a op b pos) (tOp r ta tb) := by
  intro pins s σ H Q I h
  exact wpAny_BinOp (binT ha hb I h fun v u s2 x y H2 I2 rx ry q => ho pins s2 σ H2 x y v u Q I2 rx ry q)
theorem opI {f : Value → Value → Sem Value} {C : Int → Int → Prop} {g : Int → Int → Int}
    (rule : ∀ (i j : Int) (t u : Tok) (s : Shared) (Q : Value → Shared → Prop) (E : Value → Shared → Prop), C i j → Q (.int (g i j) s.toks) { s with toks := s.toks + 1 } → wpAny (model X.prog X.w) X.A (f (.int i t) (.int j u)) Q E s) :
    OpR X f (rI C fun i j => .int (g i j)) := by
  intro pins s σ H x y v u Q I rx ry h
  obtain ⟨i, j, rfl, rfl, hc, q⟩ := h
  obtain ⟨t, rfl⟩ := rx
  obtain ⟨t', rfl⟩ := ry
  exact rule i j t t' s _ _ hc ⟨.int (g i j), H, I.tok _, ⟨_, rfl⟩, q⟩
theorem opI0 {f : Value → Value → Sem Value} {g : Int → Int → Int}
    (rule : ∀ (i j : Int) (t u : Tok) (s : Shared) (Q : Value → Shared → Prop) (E : Value → Shared → Prop), Q (.int (g i j) s.toks) { s with toks := s.toks + 1 } → wpAny (model X.prog X.w) X.A (f (.int i t) (.int j u)) Q E s) :
    OpR X f (rI0 fun i j => .int (g i j)) := by
  intro pins s σ H x y v u Q I rx ry h
  obtain ⟨i, j, rfl, rfl, q⟩ := h
  obtain ⟨t, rfl⟩ := rx
  obtain ⟨t', rfl⟩ := ry
  exact rule i j t t' s _ _ ⟨.int (g i j), H, I.tok _, ⟨_, rfl⟩, q⟩
theorem opB0 {f : Value → Value → Sem Value} {g : Int → Int → Bool}
    (rule : ∀ (i j : Int) (t u : Tok) (s : Shared) (Q : Value → Shared → Prop) (E : Value → Shared → Prop), Q (.bool (g i j)) s → wpAny (model X.prog X.w) X.A (f (.int i t) (.int j u)) Q E s) :
    OpR X f (rI0 fun i j => .bl (g i j)) := by
  intro pins s σ H x y v u Q I rx ry h
  obtain ⟨i, j, rfl, rfl, q⟩ := h
  obtain ⟨t, rfl⟩ := rx
  obtain ⟨t', rfl⟩ := ry
  exact rule i j t t' s _ _ ⟨.bl (g i j), H, I, rfl, q⟩

def CPow (i j : Int) : Prop := 0 ≤ j ∧ j ≤ 1000000 ∧ i.natAbs < 2 ^ 64
def CMul (i j : Int) : Prop := (-(2 ^ 64) < i ∧ i < 2 ^ 64) ∨ (-(2 ^ 64) < j ∧ j < 2 ^ 64)
theorem CMul.ok {i j : Int} (h : CMul i j) : IntMulOk i j := by
  rcases h with ⟨h1, h2⟩ | ⟨h1, h2⟩
  · exact .of_left (intBits_le_64 h1 h2)
  · exact .of_right (intBits_le_64 h1 h2)
theorem op_add : OpR X (binaryOp .Add) (rI0 fun i j => .int (i + j)) := opI0 fun _ _ _ _ _ _ _ q => add_int q
theorem op_sub : OpR X (binaryOp .Sub) (rI0 fun i j => .int (i - j)) := opI0 fun _ _ _ _ _ _ _ q => sub_int q
theorem op_mul : OpR X (binaryOp .Mult) (rI CMul fun i j => .int (i * j)) := opI fun _ _ _ _ _ _ _ hc q => mul_int q hc.ok
/-- % by a positive divisor of any size -/
theorem op_mod : OpR X (binaryOp .Mod) (rI (fun _ j => 0 < j) fun i j => .int (i % j)) := opI fun i j _ _ _ _ _ hc q => by
  have h1 : (0 : Int) < j := hc
  exact mod_int' (by omega) (by rw [Int.fmod_eq_emod_of_nonneg i (by omega)]; exact q)
theorem op_pow : OpR X (binaryOp .Pow) (rI CPow fun i j => .int (i ^ j.toNat)) := opI fun _ _ _ _ _ _ _ hc q => pow_int_small hc.1 hc.2.1 hc.2.2 q
end

section
variable {X : Cx} {a b c : Expr} {ta tb tc : TE} {pos : Pos}
theorem fin_bl {pins : List (Addr × Obj)} {σ : St} {H : Hp} {s : Shared} {Q : VK} {k k' : Bool} (I : Inv X pins σ H s) (q : Q (.bl k) H) (e : k = k') : EP X pins σ Q (.bool k') s := by
  subst e
  exact ⟨.bl k, H, I, rfl, q⟩
theorem op_lt : OpR X (compareOp .Lt) (rI0 fun i j => .bl (decide (i < j))) := opB0 fun _ _ _ _ _ _ _ q => lt_int q
theorem op_le : OpR X (compareOp .LtE) (rI0 fun i j => .bl (decide (i ≤ j))) := opB0 fun _ _ _ _ _ _ _ q => le_int q
theorem op_gt : OpR X (compareOp .Gt) (rI0 fun i j => .bl (decide (j < i))) := opB0 fun _ _ _ _ _ _ _ q => gt_int q
theorem op_ge : OpR X (compareOp .GtE) (rI0 fun i j => .bl (decide (j ≤ i))) := opB0 fun _ _ _ _ _ _ _ q => ge_int q
/-- the one string within the other -/
theorem op_in_str : OpR X (compareOp .In) (fun x y H Q => ∃ i j, x = .str i ∧ y = .str j ∧ Q (.bl (!(Builtin.Str.occurrences j i 0 j.length 1).isEmpty)) H) := by
  intro pins s σ H x y v u Q I rx ry h
  obtain ⟨i, j, rfl, rfl, q⟩ := h
  obtain ⟨t, rfl⟩ := rx
  obtain ⟨t', rfl⟩ := ry
  exact in_str (fin_bl I q rfl)

/-- is None, is not None: the right side a value none -/
theorem op_isN : OpR X (compareOp .Is) (fun x y H Q => y = .non ∧ Q (.bl (decide (x = .non))) H) := by
  intro pins s σ H x y v u Q I rx ry h
  obtain ⟨rfl, q⟩ := h
  cases ry
  refine is_none_gen (fin_bl I q ?_)
  cases x <;> first
    | (cases rx; rfl)
    | (obtain ⟨t, rfl⟩ := rx; rfl)
theorem op_notN : OpR X (compareOp .IsNot) (fun x y H Q => y = .non ∧ Q (.bl (!decide (x = .non))) H) := by
  intro pins s σ H x y v u Q I rx ry h
  obtain ⟨rfl, q⟩ := h
  cases ry
  refine isnot_none_gen (fin_bl I q ?_)
  cases x <;> first
    | (cases rx; rfl)
    | (obtain ⟨t, rfl⟩ := rx; rfl)

/-- two rules for one operation: by cases -/
theorem OpR.or {f : Value → Value → Sem Value} {r r' : R2} (h : OpR X f r) (h' : OpR X f r') : OpR X f (fun x y H Q => r x y H Q ∨ r' x y H Q) := by
  intro pins s σ H x y v u Q I rx ry q
  rcases q with q | q
  · exact h pins s σ H x y v u Q I rx ry q
  · exact h' pins s σ H x y v u Q I rx ry q

theorem nomark (b : Expr) {op : CmpOp} (h : op ≠ .In := by decide) (h2 : op ≠ .NotIn := by decide) : behindInMarks op b = false := by
  have e1 : (op == CmpOp.In) = false := by cases op <;> first | rfl | exact absurd rfl h
  have e2 : (op == CmpOp.NotIn) = false := by cases op <;> first | rfl | exact absurd rfl h2
  cases b <;> simp [behindInMarks, e1, e2]
/-- a comparison as a value; hm: nomark b, or (for in, not in) by with_unfolding_all rfl -/
theorem pe_cmpR {op : CmpOp} {r : R2} (ho : OpR X (compareOp op) r) (ha : PE X a ta) (hb : PE X b tb) (hm : behindInMarks op b = false) : PE X (.Compare a [op] [b] pos) (tOp r ta tb) := by
  intro pins s σ H Q I h
  exact wpAny_Compare1 (binT ha hb I h fun v u s2 x y H2 I2 rx ry q => ho pins s2 σ H2 x y v u Q I2 rx ry q) hm
/-- a reading of a value as a test -/
def tTest (t : TE) : TT := fun σ H Q => t σ H fun x H' => ∃ k, x = .bl k ∧ Q k H'
theorem pt_cmpR {op : CmpOp} {r : R2} (ho : OpR X (compareOp op) r) (ha : PE X a ta) (hb : PE X b tb) (hm : behindInMarks op b = false) : PT X (.Compare a [op] [b] pos) (tTest (tOp r ta tb)) := by
  intro pins s σ H Q I h
  refine wpAny_isTrue_Compare1 (thn (ha pins s σ H _ I h) fun v s1 ⟨x, H1, I1, r1, q1⟩ => thn (hb pins s1 σ H1 _ I1 q1) fun u s2 ⟨y, H2, I2, r2, q2⟩ =>
    thn (ho pins s2 σ H2 x y v u _ I2 r1 r2 q2) fun c s3 ⟨z, H3, I3, r3, k, e, q3⟩ => ?_) hm
  subst e
  cases r3
  exact wpAny_truthy_bool ⟨H3, I3, q3⟩
/-- a op1 b op2 c -/
def tChain (r r' : R2) (ta tb tc : TE) : TE := fun σ H Q => ta σ H fun x H1 => tb σ H1 fun y H2 => r x y H2 fun z H3 => ∃ k, z = .bl k ∧
  (if k = true then tc σ H3 fun w' H4 => r' y w' H4 Q else Q (.bl false) H3)
theorem pe_chain {op op' : CmpOp} {r r' : R2} (ho : OpR X (compareOp op) r) (ho' : OpR X (compareOp op') r') (ha : PE X a ta) (hb : PE X b tb) (hc : PE X c tc)
    (hm : lastMarks [op, op'] [b, c] = false := by with_unfolding_all rfl) : PE X (.Compare a [op, op'] [b, c] pos) (tChain r r' ta tb tc) := by
  intro pins s σ H Q I h
  refine Compare_chain (thn (ha pins s σ H _ I h) fun v s1 ⟨x, H1, I1, r1, q1⟩ => chain_link (thn (hb pins s1 σ H1 _ I1 q1) fun u s2 ⟨y, H2, I2, r2, q2⟩ =>
    thn (ho pins s2 σ H2 x y v u _ I2 r1 r2 q2) fun d s3 ⟨z, H3, I3, r3, k, e, q3⟩ => ?_)) hm
  subst e
  cases r3
  refine wpAny_truthy_bool ?_
  cases k with
  | false => exact ite_ff ⟨.bl false, H3, I3, rfl, q3⟩
  | true => exact ite_tt (chain_last (thn (hc pins s3 σ H3 _ I3 q3) fun w' s4 ⟨z', H4, I4, r4, q4⟩ => ho' pins s4 σ H4 y z' u w' Q I4 r2 r4 q4))
theorem pt_chain {op op' : CmpOp} {r r' : R2} (ho : OpR X (compareOp op) r) (ho' : OpR X (compareOp op') r') (ha : PE X a ta) (hb : PE X b tb) (hc : PE X c tc)
    (hm : lastMarks [op, op'] [b, c] = false := by with_unfolding_all rfl) : PT X (.Compare a [op, op'] [b, c] pos) (tTest (tChain r r' ta tb tc)) := by
  intro pins s σ H Q I h
  refine isTrue_chain (thn (ha pins s σ H _ I h) fun v s1 ⟨x, H1, I1, r1, q1⟩ => test_link (thn (hb pins s1 σ H1 _ I1 q1) fun u s2 ⟨y, H2, I2, r2, q2⟩ =>
    thn (ho pins s2 σ H2 x y v u _ I2 r1 r2 q2) fun d s3 ⟨z, H3, I3, r3, k, e, q3⟩ => ?_)) hm
  subst e
  cases r3
  refine wpAny_truthy_bool ?_
  cases k with
  | false =>
    obtain ⟨k', e', q'⟩ := q3
    cases e'
    exact ite_ff ⟨H3, I3, q'⟩
  | true =>
    refine ite_tt (test_last (thn (hc pins s3 σ H3 _ I3 q3) fun w' s4 ⟨z', H4, I4, r4, q4⟩ => thn (ho' pins s4 σ H4 y z' u w' _ I4 r2 r4 q4) fun d' s5 ⟨z2, H5, I5, r5, k2, e2, q5⟩ => ?_))
    subst e2
    cases r5
    exact wpAny_truthy_bool ⟨H5, I5, q5⟩

/-- a value's truth by the abstract heap -/
def TruV (K : PySem.W.Frag) (x : V) (H : Hp) (k : Bool) : Prop :=
  match x with
  | .non => k = false
  | .bl b => k = b
  | .int i => k = (i != 0)
  | .str y => y.length ≤ sizeLine ∧ k = ((y.length : Int) != 0)
  | .byt y => y.size ≤ sizeLine ∧ k = ((y.size : Int) != 0)
  | .ref p => (∃ xs, SqL K H p xs ∧ k = !xs.isEmpty) ∨ (∃ xs, SqT K H p xs ∧ k = !xs.isEmpty) ∨ ∃ kvs, H p = some (.dK kvs) ∧ k = !kvs.isEmpty
  | _ => False
theorem isEmpty_kv {κ : Type} {kvs : List (κ × V)} {vs : List (κ × Value)} (r : KV kvs vs) : (!vs.isEmpty) = !kvs.isEmpty := by
  cases r <;> rfl
theorem isEmpty_of {xs : List V} {its : List Value} (r : Vals xs its) : (!its.toArray.isEmpty) = !xs.isEmpty := by
  cases r <;> simp
theorem line63 : (sizeLine : Nat) < 2 ^ 63 := by rw [sizeLine_eq]; decide
theorem tru_ok : TruR X (fun x H Q => ∃ k, TruV X.K x H k ∧ Q k H) := by
  intro pins s σ H x v Q I rx h
  obtain ⟨k, e, q⟩ := h
  have hl := line63
  have hs : sizeLine = 16777216 := sizeLine_eq
  cases x with
  | non =>
    cases rx
    have e' : k = false := e
    subst e'
    exact truthy_none ⟨H, I, q⟩
  | bl b =>
    cases rx
    have e' : k = b := e
    subst e'
    exact wpAny_truthy_bool ⟨H, I, q⟩
  | int i =>
    obtain ⟨t, rfl⟩ := rx
    have e' : k = (i != 0) := e
    subst e'
    exact PySem.P.truthy_int ⟨H, I, q⟩
  | str y =>
    obtain ⟨t, rfl⟩ := rx
    obtain ⟨hy, e'⟩ : y.length ≤ sizeLine ∧ k = ((y.length : Int) != 0) := e
    subst e'
    exact PySem.P.truthy_str (by omega) ⟨H, I.tok _, q⟩
  | byt y =>
    obtain ⟨t, rfl⟩ := rx
    obtain ⟨hy, e'⟩ : y.size ≤ sizeLine ∧ k = ((y.size : Int) != 0) := e
    subst e'
    exact PySem.W.truthy_bytes (by omega) ⟨H, I.tok _, q⟩
  | ref p =>
    cases rx
    have e' : (∃ xs, SqL X.K H p xs ∧ k = !xs.isEmpty) ∨ (∃ xs, SqT X.K H p xs ∧ k = !xs.isEmpty) ∨ ∃ kvs, H p = some (.dK kvs) ∧ k = !kvs.isEmpty := e
    rcases e' with ⟨xs, hx, e'⟩ | ⟨xs, hx, e'⟩ | ⟨kvs, hx, e'⟩
    · subst e'
      obtain ⟨its, r, pl, hz⟩ := I.list hx
      have hlen := r.length
      exact wpAny_truthy_list pl.isList (by simp only [List.size_toArray]; omega) ⟨H, I.tok _, by rw [isEmpty_of r]; exact q⟩
    · subst e'
      obtain ⟨its, r, pl, hz⟩ := I.tuple hx
      have hlen := r.length
      exact truthy_tuple pl (by simp only [List.size_toArray]; omega) ⟨H, I.tok _, by rw [isEmpty_of r]; exact q⟩
    · subst e'
      obtain ⟨hz, hS, vs, r, m⟩ : kvs.length ≤ sizeLine ∧ (p == sysModules) = false ∧ ∃ vs, KV kvs vs ∧ s.heap.DictOf (mixKind X.prog X.w) p vs := I.hok p _ hx
      have hlen : kvs.length = vs.length := Paired.length r
      exact wpAny_truthy_dict hS m (by omega) ⟨H, I.tok _, by rw [isEmpty_kv r]; exact q⟩
  | _ => exact (show False from e).elim
/-- any expression whose test is its value's truth (a name, a call, a subscript, a field ..: he by fun _ => rfl) -/
theorem pt_truth (ha : PE X a ta) (he : ∀ whole, isTrue a X.env whole = (do let v ← whole; standAt a.pos; holding [v] (truthy v))) :
    PT X a (fun σ H Q => ta σ H fun x H' => ∃ k, TruV X.K x H' k ∧ Q k H') := by
  intro pins s σ H Q I h
  exact isTrue_plain (thn (ha pins s σ H _ I h) fun v s1 ⟨x, H1, I1, r1, q1⟩ => tru_ok pins s1 σ H1 x v Q I1 r1 q1) (he _)

theorem op_add_str : OpR X (binaryOp .Add) (fun x y H Q => ∃ i j, x = .str i ∧ y = .str j ∧ i.length + j.length ≤ sizeLine ∧ Q (.str (i ++ j)) H) := by
  intro pins s σ H x y v u Q I rx ry h
  obtain ⟨i, j, rfl, rfl, hz, q⟩ := h
  obtain ⟨t, rfl⟩ := rx
  obtain ⟨t', rfl⟩ := ry
  exact add_str (fun t' tk => ⟨.str (i ++ j), H, I.tok _, ⟨_, rfl⟩, q⟩) hz
theorem vals1 {x : V} {us : List Value} (r : Vals [x] us) : ∃ u, us = [u] ∧ RelV x u := by
  cases r with
  | cons r1 r2 => cases r2; exact ⟨_, rfl, r1⟩
theorem vals2 {x y : V} {us : List Value} (r : Vals [x, y] us) : ∃ u w', us = [u, w'] ∧ RelV x u ∧ RelV y w' := by
  cases r with
  | cons r1 r2 =>
    cases r2 with
    | cons r3 r4 => cases r4; exact ⟨_, _, rfl, r1, r3⟩
theorem call_max2 (hc : X.calm = true) : CallR X (.builtin "max") (fun xs H Q => ∃ i j, xs = [.int i, .int j] ∧ Q (.int (if j > i then j else i)) H) := by
  intro pins s σ H xs us Q I r h
  obtain ⟨i, j, rfl, q⟩ := h
  obtain ⟨u, w', rfl, ⟨t, rfl⟩, ⟨t', rfl⟩⟩ := vals2 r
  refine max_two_ints (I.ok.hd hc) fun h' tk k => ⟨_, H, I.kept k, ?_, q⟩
  by_cases hj : j > i
  · rw [if_pos hj, if_pos hj]; exact ⟨_, rfl⟩
  · rw [if_neg hj, if_neg hj]; exact ⟨_, rfl⟩
theorem call_min2 (hc : X.calm = true) : CallR X (.builtin "min") (fun xs H Q => ∃ i j, xs = [.int i, .int j] ∧ Q (.int (if j < i then j else i)) H) := by
  intro pins s σ H xs us Q I r h
  obtain ⟨i, j, rfl, q⟩ := h
  obtain ⟨u, w', rfl, ⟨t, rfl⟩, ⟨t', rfl⟩⟩ := vals2 r
  refine min_two_ints (I.ok.hd hc) fun h' tk k => ⟨_, H, I.kept k, ?_, q⟩
  by_cases hj : j < i
  · rw [if_pos hj, if_pos hj]; exact ⟨_, rfl⟩
  · rw [if_neg hj, if_neg hj]; exact ⟨_, rfl⟩
theorem call_int1 : CallR X (.type "int") (fun xs H Q => (∃ i, xs = [.int i] ∧ Q (.int i) H) ∨ ∃ k, xs = [.bl k] ∧ Q (.int (if k then 1 else 0)) H) := by
  intro pins s σ H xs us Q I r h
  rcases h with ⟨i, rfl, q⟩ | ⟨k, rfl, q⟩
  · obtain ⟨u, rfl, t, rfl⟩ := vals1 r
    exact call_int_int ⟨.int i, H, I, ⟨_, rfl⟩, q⟩
  · obtain ⟨u, rfl, r1⟩ := vals1 r
    cases r1
    exact call_int_bool ⟨.int (if k then 1 else 0), H, I.tok _, ⟨_, rfl⟩, q⟩
/-- len of a str, a bytes, a list, a tuple -/
def LenV (K : PySem.W.Frag) (x : V) (H : Hp) (n : Nat) : Prop :=
  match x with
  | .str y => y.length ≤ sizeLine ∧ n = y.length
  | .byt y => y.size ≤ sizeLine ∧ n = y.size
  | .ref p => (∃ xs, SqL K H p xs ∧ n = xs.length) ∨ ∃ xs, SqT K H p xs ∧ n = xs.length
  | _ => False
theorem call_len : CallR X (.builtin "len") (fun xs H Q => ∃ x n, xs = [x] ∧ LenV X.K x H n ∧ Q (.int n) H) := by
  intro pins s σ H xs us Q I r h
  obtain ⟨x, n, rfl, e, q⟩ := h
  obtain ⟨u, rfl, rx⟩ := vals1 r
  have hl := line63
  have hs : sizeLine = 16777216 := sizeLine_eq
  cases x with
  | str y =>
    obtain ⟨t, rfl⟩ := rx
    obtain ⟨hy, e'⟩ : y.length ≤ sizeLine ∧ n = y.length := e
    subst e'
    exact len_str (by omega) ⟨.int _, H, I.tok _, ⟨_, rfl⟩, q⟩
  | byt y =>
    obtain ⟨t, rfl⟩ := rx
    obtain ⟨hy, e'⟩ : y.size ≤ sizeLine ∧ n = y.size := e
    subst e'
    exact PySem.W.len_bytes (by omega) ⟨.int _, H, I.tok _, ⟨_, rfl⟩, q⟩
  | ref p =>
    cases rx
    have e' : (∃ xs, SqL X.K H p xs ∧ n = xs.length) ∨ ∃ xs, SqT X.K H p xs ∧ n = xs.length := e
    rcases e' with ⟨xs, hx, e'⟩ | ⟨xs, hx, e'⟩
    · subst e'
      obtain ⟨its, r', pl, hz⟩ := I.list hx
      have hlen := r'.length
      exact Calls.call_len_list pl.isList (by simp only [List.size_toArray]; omega) ⟨.int xs.length, H, I.tok _, ⟨_, by simp only [List.size_toArray]; rw [hlen]⟩, q⟩
    · subst e'
      obtain ⟨its, r', pl, hz⟩ := I.tuple hx
      have hlen := r'.length
      exact len_tuple pl (by simp only [List.size_toArray]; omega) ⟨.int xs.length, H, I.tok _, ⟨_, by simp only [List.size_toArray]; rw [hlen]⟩, q⟩
  | _ => exact (show False from e).elim
end
end L2

namespace L2
open PySem PySem.Spec PyProof.Rows

structure ObjM (h : Heap) (x dx C : Addr) (mA : Str → Option Value) : Prop where
  obj : h.get? x = some (PySem.W.instObj C dx)
  ns : h.Ns1 dx mA
  ne : dx ≠ x

theorem lookIn_ns {h : Heap} {dx : Addr} {mA : Str → Option Value} (n : h.Ns1 dx mA) : ∃ od, h.get? dx = some od ∧ ∀ name, PySem.W.lookIn name od = some (mA name) := by
  obtain ⟨o, es, ep, ho, hd, hk, _, hm⟩ := n
  refine ⟨o, ho, fun name => ?_⟩
  have e := hm name
  unfold nsFind findBy at e
  rw [← Array.find?_toList] at e
  unfold PySem.W.lookIn
  rw [hd]
  dsimp only
  split
  · rename_i y q
    rw [q] at e
    exact congrArg some e
  · rename_i q
    rw [q] at e
    have a : es.toList.any (·.refKey) = false := by
      rw [List.any_eq_false]
      intro y hy
      obtain ⟨z, t, hkey⟩ := hk y (Array.mem_toList_iff.mp hy)
      simp [DictEntry.refKey, hkey]
    have a' : ¬ es.toList.any (·.refKey) = true := by rw [a]; exact Bool.false_ne_true
    rw [if_neg a']
    exact congrArg some e

theorem ObjM.look {h : Heap} {x dx C : Addr} {mA : Str → Option Value} (I : ObjM h x dx C mA) : ∃ od, PySem.W.InstAt h x (PySem.W.instObj C dx) C (some od) ∧ ∀ name, PySem.W.lookIn name od = some (mA name) :=
  let ⟨od, ho, hl⟩ := lookIn_ns I.ns
  ⟨od, ⟨I.obj, rfl, rfl, ho⟩, hl⟩

section
variable {prog : Program} {w : World} {A : Around} {E : Value → Shared → Prop} {s : Shared} {K : PySem.W.Frag} {x dx C f : Addr} {mA : Str → Option Value} {name : Str} {v : Value}

end

section
variable {P : Program} {w : World} {H H' : Hp} {h h' : Heap} {a C dx : Addr} {fs fs' : List (Str × V)}
end

structure Cls (K : PySem.W.Frag) (C : Addr) : Prop where
  pg : PySem.W.plainGet K C Str.empty = true
  hd : PySem.W.hasDictIn K C = true
  po : PySem.W.plainOver K C = true
  sa : PySem.W.findIn K (.ref C) "__setattr__" = some (some (.builtin "object.__setattr__"))
theorem Cls.get {K : PySem.W.Frag} {C : Addr} (c : Cls K C) (f : Str) : PySem.W.plainGet K C f = true := c.pg
/-- a constant of the class -/
structure Con (K : PySem.W.Frag) (C : Addr) (f : Str) (v : V) (u : Value) : Prop where
  at_ : PySem.W.findIn K (.ref C) f = some (some u)
  rel : RelV v u
  get : PySem.W.specialIn K u "__get__" = some none
  cp : PySem.W.copiedNames.contains f = false
/-- a method: a plain def of the class or of one above it -/
structure Meth (K : PySem.W.Frag) (C : Addr) (m : Str) (f : Addr) : Prop where
  at_ : PySem.W.findIn K (.ref C) m = some (some (.ref f))
  fn : PySem.W.isFn K (.ref f) = true
  kp : PySem.W.keepIn K (.ref f) = true

section
variable {X : Cx} {pins : List (Addr × Obj)} {σ : St} {H : Hp} {s : Shared} {a C dx : Addr} {fs : List (Str × V)} {f : Str} {v : V} {A : Around} {E : Value → Shared → Prop}

/-- a new instance, tracked, without attributes -/
theorem Inv.made (I : Inv X pins σ H s) : Inv X pins σ (upd (upd H s.heap.objs.size (.own (s.heap.objs.size + 1))) (s.heap.objs.size + 1) (.ins C s.heap.objs.size []))
    { s with heap := (s.heap.push PySem.W.emptyDict).push (PySem.W.instObj C s.heap.objs.size) } := by
  have e1 : (s.heap.push PySem.W.emptyDict).get? s.heap.objs.size = some PySem.W.emptyDict := Heap.get?_push_size s.heap rfl
  have e2 : ((s.heap.push PySem.W.emptyDict).push (PySem.W.instObj C s.heap.objs.size)).get? (s.heap.objs.size + 1) = some (PySem.W.instObj C s.heap.objs.size) := by
    have := Heap.get?_push_size (s.heap.push PySem.W.emptyDict) (o := PySem.W.instObj C s.heap.objs.size) rfl
    rwa [Heap.size_push] at this
  have e3 : (s.heap.push PySem.W.emptyDict).Ns s.heap.objs.size (fun _ => none) := ⟨PySem.W.emptyDict, #[], _, e1, rfl, (fun e he => absurd he (by simp)), fun _ => rfl⟩
  have I1 := I.laid (a := s.heap.objs.size) (o := .own (s.heap.objs.size + 1)) (h' := s.heap.push PySem.W.emptyDict) (t' := s.toks) (fun b u q => Heap.get?_push_of_some _ q) (Nat.le_refl _) ⟨_, e1⟩
  refine I1.laid (a := s.heap.objs.size + 1) (o := .ins C s.heap.objs.size []) (t' := s.toks) (fun b u q => Heap.get?_push_of_some _ q) (Nat.le_of_eq (Heap.size_push _ _)) ?_
  have ne : s.heap.objs.size ≠ s.heap.objs.size + 1 := Nat.ne_of_lt (Nat.lt_succ_self _)
  refine ⟨by rw [upd_ne ne, upd_same], Nat.zero_le _, ne, e2, fun _ => none, (Heap.Ns1.of_empty e3).at fun o q => Heap.get?_push_of_some _ q, fun _ => True.intro, fun y hy => absurd rfl hy⟩

end

section
variable {X : Cx} {o e value : Expr} {f : Str} {pos pos' tpos : Pos} {ta tv : TE}
end

section
variable {X : Cx} {pins : List (Addr × Obj)} {σ : St} {H : Hp} {s : Shared} {A : Around} {E : Value → Shared → Prop} {Q : Value → Shared → Prop} {c : Value} {b : Bool}
/-- the type of a value, as the fragment's deciders take it; for an instance its class -/
inductive TyOf (K : PySem.W.Frag) (H : Hp) : V → Value → Prop where
  | non : TyOf K H .non (.type "NoneType")
  | bl (x : Bool) : TyOf K H (.bl x) (.type "bool")
  | int (i : Int) : TyOf K H (.int i) (.type "int")
  | str (x : Str) : TyOf K H (.str x) (.type "str")
  | flt (x : UInt64) : TyOf K H (.flt x) (.type "float")
  | lst {a : Addr} {xs : List V} (e : H a = some (.lst xs)) : TyOf K H (.ref a) (.type "list")
  | frz {a : Addr} {o : Obj} {xs : List V} (e : H a = some (.frz o (.lst xs))) : TyOf K H (.ref a) (.type "list")
  | tup {a : Addr} {xs : List V} (e : H a = some (.tup xs)) : TyOf K H (.ref a) (.type "tuple")
  | dK {a : Addr} {kvs : List (Key × V)} (e : H a = some (.dK kvs)) : TyOf K H (.ref a) (.type "dict")
  | dT {a : Addr} {kvs : List (List Key × V)} (e : H a = some (.dT kvs)) : TyOf K H (.ref a) (.type "dict")
  | ins {a C dx : Addr} {fs : List (Str × V)} (e : H a = some (.ins C dx fs)) (cl : Cls K C) (ha : PySem.W.findIn K (.ref C) "__class__" = some (some (.builtin "object.__class__")))
      (hn : PySem.W.specialIn K (.builtin "object.__class__") "__get__" = some (some (.builtin "getset_descriptor.__get__"))) (htk : PySem.W.takesIn K (.builtin "object.__class__") = some true)
      (hm : PySem.W.mroIn K C (.type "object") = some true) : TyOf K H (.ref a) (.ref C)
end
end L2

namespace L2
open PySem PySem.Spec PyProof.Rows

structure Room (k : Nat) (A : Around) : Prop where
  hd : A.handled = none
  dp : A.depth + 3 * k + 5 < recursionLimit
  un : A.units + 16 * k + 200 < cLine
  gd : A.guards = some []
theorem Room.mono {j k : Nat} {A : Around} (r : Room k A) (h : j ≤ k) : Room j A := ⟨r.hd, by have := r.dp; omega, by have := r.un; omega, r.gd⟩
theorem Room.deeper {k : Nat} {A : Around} (r : Room (k + 1) A) (env : Env) : Room k (A.deeper env) :=
  ⟨r.hd, by have := r.dp; show A.depth + 1 + 3 * k + 5 < _; omega, by have := r.un; show A.units + 3 + 16 * k + 200 < _; omega, r.gd⟩
theorem Room.in1 {k : Nat} {A : Around} (r : Room (k + 1) A) : Room k A.in1 :=
  ⟨r.hd, by have := r.dp; show A.depth + 3 * k + 5 < _; omega, by have := r.un; show A.units + 1 + 16 * k + 200 < _; omega, r.gd⟩
theorem Room.depth {k : Nat} {A : Around} (r : Room k A) : A.depth < recursionLimit := by have := r.dp; omega
theorem Room.units {k : Nat} {A : Around} (r : Room k A) : A.units + 64 < cLine := by have := r.un; omega
def tNil : TA := fun _ H Q => Q [] H
def tCons (ta : TE) (tr : TA) : TA := fun σ H Q => ta σ H fun x H1 => tr σ H1 fun xs H2 => Q (x :: xs) H2
section
variable {X : Cx} {e : Expr} {es : List Expr} {te : TE} {t : TA} {pos : Pos}
theorem pa_nil : PA X [] tNil := fun _ _ _ _ H Q I h => Calls.spliced_nil ⟨[], H, I, .nil, h⟩
theorem pa_cons (ha : PE X e te) (hr : PA X es t) (hs : starEach (e :: es) X.env = (false, eval e X.env) :: starEach es X.env := by rfl) : PA X (e :: es) (tCons te t) := by
  intro pos pins s σ H Q I h
  rw [hs]
  show wpAny _ _ (spliced ((false, eval e X.env) :: backTo pos (starEach es X.env))) _ _ s
  refine Calls.spliced_cons (thn (ha pins s σ H _ I h) fun u s1 ⟨x, H1, I1, r1, q1⟩ => ?_)
  exact thn (hr pos pins s1 σ H1 _ I1 q1) fun us s2 ⟨xs, H2, I2, r2, q2⟩ => ⟨x :: xs, H2, I2, .cons r1 r2, q2⟩

/-- a tuple, a list of written items -/
def tTup (t : TA) : TE := fun σ H Q => t σ H fun xs H1 => xs.length ≤ sizeLine ∧ ∀ p, H1 p = none → Q (.ref p) (upd H1 p (.tup xs))
def tLst (t : TA) : TE := fun σ H Q => t σ H fun xs H1 => xs.length ≤ sizeLine ∧ ∀ p, H1 p = none → Q (.ref p) (upd H1 p (.lst xs))
theorem pe_tup {x1} (h : PA X es t) : PE X (.Tuple es x1 pos) (tTup t) := by
  intro pins s σ H Q I hq
  refine wpAny_Tuple_spliced (thn (h pos pins s σ H _ I hq) fun us s1 ⟨xs, H1, I1, r, z, q⟩ => ⟨by rw [← r.length]; exact z, ?_⟩)
  have hf : H1 s1.heap.objs.size = none := I1.hok.fresh (Nat.le_refl _)
  refine ⟨.ref s1.heap.objs.size, upd H1 s1.heap.objs.size (.tup xs), I1.laid (t' := s1.toks) (fun b u e => Heap.get?_push_of_some _ e) (Nat.le_refl _) ?_, rfl, q _ hf⟩
  exact ⟨z, us, r, ⟨_, Heap.get?_push_size _ rfl, rfl, _, rfl, rfl⟩⟩
theorem pe_lst (h : PA X es t) : PE X (.List es pos) (tLst t) := by
  intro pins s σ H Q I hq
  refine wpAny_List_spliced (thn (h pos pins s σ H _ I hq) fun us s1 ⟨xs, H1, I1, r, z, q⟩ => ⟨by rw [← r.length]; exact z, ?_⟩)
  have hf : H1 s1.heap.objs.size = none := I1.hok.fresh (Nat.le_refl _)
  refine ⟨.ref s1.heap.objs.size, upd H1 s1.heap.objs.size (.lst xs), I1.laid (t' := s1.toks) (fun b u e => Heap.get?_push_of_some _ e) (Nat.le_refl _) ?_, rfl, q _ hf⟩
  exact ⟨z, us, 0, r, Heap.get?_push_size _ rfl⟩
end

/-- a def's promise: the bound arguments in the parameters' order, the heap, the wanted end, the wanted exception -/
abbrev Sp := List V → Hp → VK → XK → Prop
/-- how an exception lies behind a call (file 08 gives it): the callers' frames, abstract heap and state ahead of the call, the wish, the exception, the state -/
abbrev CXT := List Env → Hp → Shared → XK → Value → Shared → Prop

/-- the state at a call -/
structure Env0 (P : Program) (w : World) (K : PySem.W.Frag) (mg : Str → Option Value) (base : Heap) (A : Around) (outer : List Env) (s : Shared) (H : Hp) : Prop where
  frames : A.frames = some outer
  mod : Mod K mg base
  bs : ∀ b o, base.get? b = some o → s.heap.get? b = some o ∧ H b = none
  bsz : base.objs.size ≤ s.heap.objs.size
  funs : s.heap.FunFrames base outer
  frf : ∀ b ∈ frs outer, H b = none
  hok : HOk P w H s.heap
  bare : AllBare s.gens
/-- a call's end -/
def CE (outer : List Env) (P : Program) (w : World) (H : Hp) (s : Shared) (Q : VK) (u : Value) (s' : Shared) : Prop :=
  ∃ v H', s'.os = s.os ∧ AllBare s'.gens ∧ Un (frs outer) [] H H' s.heap s'.heap ∧ HOk P w H' s'.heap ∧ RelV v u ∧ Q v H'
def CR (CX : CXT) (outer : List Env) (P : Program) (w : World) (H : Hp) (s : Shared) (Q : VK) (E : XK) (r : Result) (s' : Shared) : Prop :=
  match r with
  | .ok (.ret u) => CE outer P w H s Q u s'
  | .ok _ => False
  | .error e => CX outer H s E e s'
structure FnOk (P : Program) (w : World) (K : PySem.W.Frag) (mg : Str → Option Value) (base : Heap) (CX : CXT) (k : Nat) (f : Addr) (fd : FuncData) (ps : List Str) (sp : Sp) : Prop where
  len : ∀ vs H Q E, sp vs H Q E → vs.length = ps.length
  run : ∀ (A : Around) (outer : List Env) (s : Shared) (H : Hp) (args : Args) (us : List Value) (vs : List V) (Q : VK) (E : XK), Room k A → Env0 P w K mg base A outer s H → BindsTo s fd args (ps.zip us) → Vals vs us → sp vs H Q E →
    codeAny (model P w) A (.call (.ref f) args) (CR CX outer P w H s Q E) s
theorem FnOk.mono {P : Program} {w : World} {K : PySem.W.Frag} {mg : Str → Option Value} {base : Heap} {CX : CXT} {j k : Nat} {f : Addr} {fd : FuncData} {ps : List Str} {sp : Sp} (F : FnOk P w K mg base CX j f fd ps sp) (h : j ≤ k) :
    FnOk P w K mg base CX k f fd ps sp := ⟨F.len, fun A outer s H args us vs Q E hr => F.run A outer s H args us vs Q E (hr.mono h)⟩
/-- a weaker promise -/
theorem FnOk.imp {P : Program} {w : World} {K : PySem.W.Frag} {mg : Str → Option Value} {base : Heap} {CX : CXT} {k : Nat} {f : Addr} {fd : FuncData} {ps : List Str} {sp sp' : Sp} (F : FnOk P w K mg base CX k f fd ps sp)
    (h : ∀ vs H Q E, sp' vs H Q E → sp vs H Q E) : FnOk P w K mg base CX k f fd ps sp' :=
  ⟨fun vs H Q E q => F.len vs H Q E (h _ _ _ _ q), fun A outer s H args us vs Q E hr he hb hv hs => F.run A outer s H args us vs Q E hr he hb hv (h _ _ _ _ hs)⟩

theorem Env0.in1 {P : Program} {w : World} {K : PySem.W.Frag} {mg : Str → Option Value} {base : Heap} {A : Around} {outer : List Env} {s : Shared} {H : Hp} (e : Env0 P w K mg base A outer s H) :
    Env0 P w K mg base A.in1 outer s H := ⟨e.frames, e.mod, e.bs, e.bsz, e.funs, e.frf, e.hok, e.bare⟩

section
variable {X : Cx} {pins : List (Addr × Obj)} {σ : St} {H : Hp} {s s' : Shared}
/-- from a body: what a callee wants -/
theorem Inv.env0 (I : Inv X pins σ H s) : Env0 X.prog X.w X.K X.mg X.base X.A X.stack s H :=
  ⟨I.ok.frames, I.ok.mod, I.bs, Nat.le_trans I.ok.bsz I.sz, I.stack, I.stkFree, I.hok, I.bare⟩
/-- behind a call -/
theorem Inv.after {Q : VK} {u : Value} (I : Inv X pins σ H s) (h : CE X.stack X.prog X.w H s Q u s') : EP X pins σ Q u s' := by
  obtain ⟨v, H', os, bare, un, hok, r, q⟩ := h
  obtain ⟨hh, g, d, t, os'⟩ := s'
  obtain rfl : os' = s.os := os
  exact ⟨v, H', I.call (h' := hh) (g' := g) (d' := d) (t' := t) (ch := []) un hok bare (fun b z => absurd z (by simp)), r, q⟩
end

/-- f(..): the written arguments, then the defaults dvs; E: what is wanted of an exception -/
def tCall (sp : Sp) (dvs : List V) (E : XK) (t : TA) : TE := fun σ H Q => t σ H fun vs H1 => sp (vs ++ dvs) H1 Q E
/-- how the parameters are bound: us the positional arguments, kw the keywords' values by name, ds the defaults that fill up -/
def Binds (K : PySem.W.Frag) (fd : FuncData) (ps : List Str) (ds : List Value) : Prop :=
  ∀ (s : Shared) (us : List Value), K.In s.heap → (us ++ ds).length = ps.length → BindsTo s fd ⟨us, []⟩ (ps.zip (us ++ ds))
/-- every parameter is given -/
theorem Binds.all {K : PySem.W.Frag} {fd : FuncData} {ps : List Str} (h : ∀ us : List Value, us.length = ps.length → bindArgs fd ⟨us, []⟩ = pure (ps.zip us)) : Binds K fd ps [] := fun s us _ hl => by
  rw [List.append_nil] at hl ⊢
  exact .of_eq (h us hl)

/-- an exception of a callee reaches what this body wants of exceptions -/
def Passes (CX : CXT) (X : Cx) (E : XK) : Prop := ∀ (pins : List (Addr × Obj)) (σ : St) (H : Hp) (s : Shared) (e : Value) (s' : Shared), Inv X pins σ H s → CX X.stack H s E e s' → X.xe e s'

section
variable {X : Cx} {CX : CXT} {k : Nat} {f C : Addr} {fd : FuncData} {ps : List Str} {sp : Sp} {dvs : List V} {ds : List Value} {E : XK} {x m : Str} {p pos apos : Pos} {e o : Expr} {es : List Expr} {ta : TE} {t : TA}

/-- the callee runs -/
theorem run_fn {pins : List (Addr × Obj)} {σ : St} {H : Hp} {s : Shared} {Q : VK} {us : List Value} {vs : List V} (F : FnOk X.prog X.w X.K X.mg X.base CX k f fd ps sp) (hr : Room k X.A) (hb : Binds X.K fd ps ds) (hd : Vals dvs ds) (hx : Passes CX X E)
    (I : Inv X pins σ H s) (r : Vals vs us) (h : sp (vs ++ dvs) H Q E) : wpAny (model X.prog X.w) X.A (call (.ref f) us) (EP X pins σ Q) X.xe s := by
  have r2 : Vals (vs ++ dvs) (us ++ ds) := r.append hd
  have hl : (us ++ ds).length = ps.length := by rw [← r2.length]; exact F.len _ _ _ _ h
  refine wpAny_call (codeAny_mono (F.run X.A X.stack s H ⟨us, []⟩ (us ++ ds) (vs ++ dvs) Q E hr I.env0 (hb s us I.kIn hl) r2 h) fun r s' hq => ?_)
  cases r with
  | error e => exact hx pins σ H s e s' I hq
  | ok fl =>
    cases fl with
    | ret u => exact I.after hq
    | next => exact False.elim hq
    | brk => exact False.elim hq
    | cont => exact False.elim hq

theorem pe_call (F : FnOk X.prog X.w X.K X.mg X.base CX k f fd ps sp) (hr : Room k X.A) (hg : Gl X x) (hm : X.mg x = some (.ref f)) (hk : PySem.W.keepIn X.K (.ref f) = true) (hb : Binds X.K fd ps ds) (hd : Vals dvs ds) (hx : Passes CX X E)
    (ha : PA X (e :: es) t) (hdb : (x == ("__debug__" : Str)) = false := by decide) (he : starEach (e :: es) X.env = (false, eval e X.env) :: starEach es X.env := by rfl) (hpl : (backTo pos (starEach es X.env)).any (·.1) = false := by rfl) :
    PE X (.Call (.Name x p) (e :: es) [] pos) (tCall sp dvs E t) := by
  intro pins s σ H Q I h
  refine wpAny_Call_Name_kw (ld_glob I hg hm ?_ hdb)
  refine PySem.W.callWith_K (h₀ := X.base) I.ok.mod.kin hk (thn (ha pos pins s σ H _ I h) fun us s1 ⟨vs, H1, I1, r, q⟩ => ⟨I1.kIn, ?_⟩) he hpl
  exact run_fn F hr hb hd hx I1 r q
/-- what a class must have to be made -/
structure Mk (K : PySem.W.Frag) (C f : Addr) : Prop where
  makes : PySem.W.makesIn K C = true
  init : PySem.W.findIn K (.ref C) "__init__" = some (some (.ref f))
  fn : PySem.W.isFn K (.ref f) = true
  kp : PySem.W.keepIn K (.ref C) = true

end

/-- the values of the keywords, from the left -/
def PK (X : Cx) (kws : List Keyword) (t : TA) : Prop :=
  ∀ (pos : Pos) (pins : List (Addr × Obj)) (s : Shared) (σ : St) (H : Hp) (Q : List V → Hp → Prop), Inv X pins σ H s → t σ H Q → wpAny (model X.prog X.w) X.A (evalAll ((backToKw pos (keywordEach kws X.env)).map (·.2))) (AP X pins σ Q) X.xe s
section
variable {X : Cx} {CX : CXT} {k : Nat} {f C : Addr} {fd : FuncData} {ps ks : List Str} {sp : Sp} {E : XK} {x m : Str} {p pos apos kpos : Pos} {e o : Expr} {es : List Expr} {kws : List Keyword} {te ta : TE} {t tk : TA} {nm : Option Str}
/-- how a call with keywords binds: g puts the positional values us and the keywords' values ws (names ks) in the parameters' order, defaults among them -/
structure KBinds (K : PySem.W.Frag) (fd : FuncData) (ps ks : List Str) (g : List Value → List Value → List Value) (gV : List V → List V → List V) : Prop where
  to : ∀ (s : Shared) (us ws : List Value), K.In s.heap → (g us ws).length = ps.length → BindsTo s fd ⟨us, ks.zip ws⟩ (ps.zip (g us ws))
  rel : ∀ {vs : List V} {us : List Value} {zs : List V} {ws : List Value}, Vals vs us → Vals zs ws → Vals (gV vs zs) (g us ws)
variable {g : List Value → List Value → List Value} {gV : List V → List V → List V}
end

/-- names: the parameters first -/
structure FnScope (N P : List Str) (sc : Scope) : Prop where
  kind : sc.kind = .function
  co : sc.isCoroutine = false
  gen : sc.isGenerator = false
  nd : N.Nodup
  pre : N.take P.length = P
  par : ∀ x ∈ P, sc.names.lookup x = some .local ∨ sc.names.lookup x = some .cell
  nofree : ∀ y ∈ sc.names, y.2 ≠ .free

theorem bindL_out {kindOf : Str → Option NameKind} {x : Str} : ∀ {binds : List (Str × Value)} {m : Str → Option Value}, (∀ v, (x, v) ∉ binds) → bindL kindOf binds m x = m x
  | [], _, _ => rfl
  | (n, v) :: r, m, h => by
    unfold bindL
    rw [bindL_out fun w hw => h w (List.mem_cons_of_mem _ hw)]
    split
    · have : x ≠ n := by rintro rfl; exact h v List.mem_cons_self
      simp [this]
    · rfl
theorem bindC_out {kindOf : Str → Option NameKind} {x : Str} : ∀ {binds : List (Str × Value)} {m : Str → Option Value}, (∀ v, (x, v) ∉ binds) → bindC kindOf binds m x = m x
  | [], _, _ => rfl
  | (n, v) :: r, m, h => by
    unfold bindC
    rw [bindC_out fun w hw => h w (List.mem_cons_of_mem _ hw)]
    split
    · rfl
    · have : x ≠ n := by rintro rfl; exact h v List.mem_cons_self
      simp [this]
theorem bindL_get {kindOf : Str → Option NameKind} {x : Str} {v : Value} : ∀ {P : List Str} {vs : List Value} {i : Nat} {m : Str → Option Value}, P.Nodup → P[i]? = some x → vs[i]? = some v → kindOf x = some .local →
    bindL kindOf (P.zip vs) m x = some v
  | [], _, _, _, _, h, _, _ => by simp at h
  | _ :: _, [], _, _, _, _, h, _ => by simp at h
  | p :: P, w :: vs, 0, m, nd, h1, h2, hk => by
    simp at h1 h2; subst h1; subst h2
    show bindL kindOf ((p, w) :: P.zip vs) m p = _
    unfold bindL
    rw [bindL_out fun v hv => (List.nodup_cons.mp nd).1 (List.of_mem_zip hv).1, if_pos hk]
    simp
  | p :: P, w :: vs, i + 1, m, nd, h1, h2, hk => by
    show bindL kindOf ((p, w) :: P.zip vs) m x = _
    unfold bindL
    exact bindL_get (i := i) (List.nodup_cons.mp nd).2 (by simpa using h1) (by simpa using h2) hk
theorem bindC_get {kindOf : Str → Option NameKind} {x : Str} {v : Value} : ∀ {P : List Str} {vs : List Value} {i : Nat} {m : Str → Option Value}, P.Nodup → P[i]? = some x → vs[i]? = some v → kindOf x ≠ some .local →
    bindC kindOf (P.zip vs) m x = some v
  | [], _, _, _, _, h, _, _ => by simp at h
  | _ :: _, [], _, _, _, _, h, _ => by simp at h
  | p :: P, w :: vs, 0, m, nd, h1, h2, hk => by
    simp at h1 h2; subst h1; subst h2
    show bindC kindOf ((p, w) :: P.zip vs) m p = _
    unfold bindC
    rw [bindC_out fun v hv => (List.nodup_cons.mp nd).1 (List.of_mem_zip hv).1, if_neg hk]
    simp
  | p :: P, w :: vs, i + 1, m, nd, h1, h2, hk => by
    show bindC kindOf ((p, w) :: P.zip vs) m x = _
    unfold bindC
    exact bindC_get (i := i) (List.nodup_cons.mp nd).2 (by simpa using h1) (by simpa using h2) hk

/-- the names' values at the entry -/
def start (N : List Str) (vs : List V) : St := vs.map some ++ List.replicate (N.length - vs.length) none

/-- the context of a def's body, at its entry; an exception leaves the frame, then lies as CX says -/
def cxOf (CX : CXT) (P : Program) (w : World) (K : PySem.W.Frag) (mg : Str → Option Value) (base : Heap) (N : List Str) (qual : Str) (scope : Scope) (f : Addr) (cd : Value) (A : Around) (outer : List Env) (s : Shared) (H : Hp) (E : XK) : Cx where
  prog := P
  w := w
  K := K
  mg := mg
  base := base
  A := A.deeper (envOfC qual scope s.heap.objs.size f cd)
  N := N
  s_0 := s
  H_0 := H
  env := envOfC qual scope s.heap.objs.size f cd
  outer := outer
  stack := envOfC qual scope s.heap.objs.size f cd :: outer
  ex := []
  calm := true
  fn := fun _ => true
  pn := []
  xe := fun e s' => wpAny (model P w) (A.deeper (envOfC qual scope s.heap.objs.size f cd)) (leaving (envOfC qual scope s.heap.objs.size f cd) e) (fun _ s'' => CX outer H s E e s'') (fun e' s'' => CX outer H s E e' s'') s'

theorem cell_has {sc : Scope} {n : Nat} {x : Str} (h : sc.names.lookup x = some .cell) : ∃ c, (cellsFrom n sc.names []).lookup x = some c := by
  have q := PySem.W.cellsFrom_some sc.names n [] (.inl h)
  exact Option.isSome_iff_exists.mp q

theorem inv_start {CX : CXT} {P : Program} {w : World} {K : PySem.W.Frag} {mg : Str → Option Value} {base : Heap} {N ps : List Str} {qual : Str} {scope : Scope} {f : Addr} {cd : Value} {A : Around} {outer : List Env} {s s1 : Shared} {H : Hp} {E : XK} {us : List Value} {vs : List V}
    (S : FnScope N ps scope) (hd : A.handled = none) (e0 : Env0 P w K mg base A outer s H) (hl : vs.length = ps.length) (r : Vals vs us)
    (x : InCallC s s.heap.objs.size (bindL (envOfC qual scope s.heap.objs.size f cd).kindOf (ps.zip us) fun _ => none) (cellsFrom (s.heap.objs.size + 1) scope.names []) (bindC (envOfC qual scope s.heap.objs.size f cd).kindOf (ps.zip us) fun _ => none) s1) :
    Inv (cxOf CX P w K mg base N qual scope f cd A outer s H E) [] (start N vs) H s1 := by
  have hpl : ps.length ≤ N.length := by have := congrArg List.length S.pre; rw [List.length_take] at this; omega
  obtain ⟨h1, tk, rfl, hk⟩ := x.done
  have noA : ∀ b : Addr, b ∉ (cxOf CX P w K mg base N qual scope f cd A outer s H E).ex := fun b z => absurd (show b ∈ ([] : List Addr) from z) (by simp)
  refine ⟨⟨e0.mod, S.kind, rfl, rfl, Nat.le_refl _, fun y z c h1 h2 => ?_, fun y hy => ?_, fun y c _ h => ?_, fun _ => hd, Around.frames_deeper e0.frames, .inr ⟨rfl, rfl⟩, fun b z => absurd z (noA b), e0.bs, e0.bsz, fun b _ _ => noA b, fun b z => absurd z (noA b), e0.funs, e0.frf⟩,
    rfl, e0.bare, Un.kept hk, ⟨_, x.toInCall.ns, fun i y v h1 h2 h3 => ?_⟩, fun y c h => ⟨_, x.cell y c h⟩, e0.hok.fresh (Nat.le_refl _), fun y c h => ?_, fun p hp => absurd (show p ∈ ([] : List (Addr × Obj)) from hp) (by simp), e0.hok.kept hk, ?_⟩
  · exact name_of_addr x.apart (PySem.mem_of_lookup h1) (PySem.mem_of_lookup h2)
  · have hy : scope.names.lookup y = some .cell ∨ scope.names.lookup y = some .free := hy
    rcases hy with hy | hy
    · exact cell_has hy
    · exact absurd rfl (S.nofree _ (PySem.mem_of_lookup hy))
  · exact Nat.le_of_lt (x.above y c (PySem.mem_of_lookup h))
  · have hi : i < vs.length := by
      unfold start at h2
      by_cases hi : i < vs.length
      · exact hi
      · rw [List.getElem?_append_right (by simpa using hi)] at h2
        rw [List.getElem?_replicate] at h2
        split at h2 <;> cases h2
    have ha : vs[i]? = some v := by
      unfold start at h2
      rw [List.getElem?_append_left (by simpa using hi), List.getElem?_map] at h2
      cases e : vs[i]? with
      | none => rw [e] at h2; cases h2
      | some a => rw [e] at h2; cases h2; rfl
    obtain ⟨u, hu, rv⟩ := r.get ha
    have hp : ps[i]? = some y := by
      rw [← S.pre, List.getElem?_take_of_lt (by omega)]; exact h1
    have ndP : ps.Nodup := by rw [← S.pre]; exact S.nd.sublist (List.take_sublist _ _)
    refine ⟨u, rv, ?_⟩
    rcases S.par y (List.mem_of_getElem? hp) with k | k
    · exact .inl ⟨k, bindL_get ndP hp hu k⟩
    · obtain ⟨c, e⟩ := cell_has (n := s.heap.objs.size + 1) k
      refine .inr ⟨.inl k, c, e, ?_⟩
      have q := x.cell y c e
      rw [bindC_get ndP hp hu (by show scope.names.lookup y ≠ _; rw [k]; decide)] at q
      exact q
  · exact e0.hok.fresh (Nat.le_of_lt (x.above y c (PySem.mem_of_lookup h)))
  · unfold start
    show _ = N.length
    rw [List.length_append, List.length_map, List.length_replicate]
    omega

/-- THE RULE: a def (or a method) of the text, by its body. The body's reading t is chosen for each entry; it is run at the parameters' values -/
theorem fn_of {CX : CXT} {P : Program} {w : World} {K : PySem.W.Frag} {mg : Str → Option Value} {base : Heap} {k : Nat} {f : Addr} {name qual : Str} {params : Arguments} {body : List Stmt} {scope : Scope} {dV kV doc pm cdv ct oc : Value} {an od : Option Addr}
    {osl : Array (Option Value)} {N ps : List Str} {sp : Sp} (lk : K.lookup f = some ⟨oc, od, .func (PySem.W.fnOf name qual params body scope dV kV doc pm an cdv ct), osl⟩) (hcd : PySem.W.codeIn K cdv qual = true) (S : FnScope N ps scope)
    (len : ∀ vs H Q E, sp vs H Q E → vs.length = ps.length)
    (hbody : ∀ (A : Around) (outer : List Env) (s : Shared) (H : Hp) (vs : List V) (Q : VK) (E : XK), Room k (A.deeper (envOfC qual scope s.heap.objs.size f cdv)) → sp vs H Q E →
      ∃ t, PSs (cxOf CX P w K mg base N qual scope f cdv A outer s H E) body t ∧ t { nx := fun _ H' => Q .non H', rt := Q } (start N vs) H) :
    FnOk P w K mg base CX (k + 1) f (PySem.W.fnOf name qual params body scope dV kV doc pm an cdv ct) ps sp := by
  refine ⟨len, fun A outer s H args us vs Q E hr e0 hb r hsp => ?_⟩
  have hl := len _ _ _ _ hsp
  have KX : K.In s.heap := e0.mod.kin.keeps fun b o e => (e0.bs b o e).1
  have lim : s.heap.NoLimit := e0.mod.nolimit.keeps fun b o e => (e0.bs b o e).1
  have hkind : ∀ y ∈ ps.zip us, scope.names.lookup y.1 = some .local ∨ (scope.names.lookup y.1 = some .cell ∧ ((cellsFrom (s.heap.objs.size + 1) scope.names []).lookup y.1).isSome = true) := fun ⟨n, v⟩ hy => by
    rcases S.par n (List.of_mem_zip hy).1 with q | q
    · exact .inl q
    · exact .inr ⟨q, PySem.W.cellsFrom_some _ _ _ (.inl q)⟩
  refine codeAny_call_function hr.depth (KX _ _ lk) rfl S.co S.gen rfl (PySem.W.codeRec_of KX hcd) (hb _ _ _ _ ?_)
  refine wpAny_newFunctionEnv_cells S.kind hkind fun env he s1 x => ?_
  subst he
  refine ⟨lim.keeps x.toInCall.keep, codeAny_func ?_⟩
  obtain ⟨t, ht, hq⟩ := hbody A outer s H vs Q E (hr.deeper _) hsp
  have I : Inv (cxOf CX P w K mg base N qual scope f cdv A outer s H E) [] (start N vs) H s1 := inv_start S hr.hd e0 hl r x
  refine wpAny_mono (ht [] s1 (start N vs) H _ I hq) (fun fl s' hs => ?_) fun e s' hs => hs
  have fin : ∀ {σ' : St} {H' : Hp} {v : V} {u : Value}, Inv (cxOf CX P w K mg base N qual scope f cdv A outer s H E) [] σ' H' s' → RelV v u → Q v H' → CE outer P w H s Q u s' :=
    fun {σ' H' v u} J rv q => ⟨v, H', J.os, J.bare, J.base, J.hok, rv, q⟩
  cases fl with
  | ret u =>
    obtain ⟨v, σ', H', J, rv, q⟩ := hs
    exact fin J rv q
  | next =>
    obtain ⟨σ', H', J, q⟩ := hs
    exact fin (v := V.non) (u := Value.none) J rfl q
  | brk =>
    obtain ⟨_, _, _, q⟩ := hs
    exact False.elim q
  | cont =>
    obtain ⟨_, _, _, q⟩ := hs
    exact False.elim q
end L2

namespace L2
open PySem PySem.Spec PyProof.Rows
section
variable {X : Cx} {x : Str} {p pos : Pos} {e : Expr} {es : List Expr} {t : TA} {id T : String} {r : List V → Hp → VK → Prop}

def tCB (r : List V → Hp → VK → Prop) (t : TA) : TE := fun σ H Q => t σ H fun vs H1 => r vs H1 Q
/-- f(e, ..), f a built-in function -/
theorem pe_callB (hc : CallR X (.builtin id) r) (hg : Gl X x) (hm : X.mg x = none) (hv : bootBuiltins x = some (.builtin id)) (ha : PA X (e :: es) t) (hn : x ≠ "__name__" := by decide) (hdb : (x == ("__debug__" : Str)) = false := by decide)
    (he : starEach (e :: es) X.env = (false, eval e X.env) :: starEach es X.env := by rfl) (hpl : (backTo pos (starEach es X.env)).any (·.1) = false := by rfl) : PE X (.Call (.Name x p) (e :: es) [] pos) (tCB r t) := by
  intro pins s σ H Q I h
  refine wpAny_Call_Name_kw (ld_blt I hg hm hv ?_ hn hdb)
  exact PyProof.Rows.callWith_builtin1 (thn (ha pos pins s σ H _ I h) fun us s1 ⟨vs, H1, I1, r1, q1⟩ => hc pins s1 σ H1 vs us Q I1 r1 q1) he hpl
/-- T(e, ..), T a built-in type -/
theorem pe_callTy (hc : CallR X (.type T) r) (hg : Gl X x) (hm : X.mg x = none) (hv : bootBuiltins x = some (.type T)) (ha : PA X (e :: es) t) (hn : x ≠ "__name__" := by decide) (hdb : (x == ("__debug__" : Str)) = false := by decide)
    (he : starEach (e :: es) X.env = (false, eval e X.env) :: starEach es X.env := by rfl) (hpl : (backTo pos (starEach es X.env)).any (·.1) = false := by rfl) : PE X (.Call (.Name x p) (e :: es) [] pos) (tCB r t) := by
  intro pins s σ H Q I h
  refine wpAny_Call_Name_kw (ld_blt I hg hm hv ?_ hn hdb)
  exact PyProof.Rows.callWith_type1 (thn (ha pos pins s σ H _ I h) fun us s1 ⟨vs, H1, I1, r1, q1⟩ => hc pins s1 σ H1 vs us Q I1 r1 q1) he hpl
end
end L2

namespace HT
open PySem PyProof.Rows

section
open PySem.SeqAt
open PySem.AutoSeq1 (wpAny_loadPart')
open PySem.MeetsSeq PySem.MeetsSeq2 PySem.MeetsSeq3

end

section
variable {prog : Program} {w : World} {A : Around} {E : Value → Shared → Prop} {s : Shared}

/-- t + u, t not empty -/
theorem cat_tup {t b : Addr} {vs ws : List Value} {Q : Value → Shared → Prop} (ht : IsTup s.heap t vs.toArray) (hb : IsTup s.heap b ws.toArray) (hv : vs ≠ [])
    (h1 : ws = [] → Q (.ref t) s) (h2 : ws ≠ [] → Q (.ref s.heap.objs.size) { s with heap := s.heap.push { cls := .type "tuple", data := .seq (vs ++ ws).toArray } })
    (hsz : vs.length + ws.length ≤ sizeLine) : wpAny (model prog w) A (binaryOp .Add (.ref t) (.ref b)) Q E s := by
  obtain ⟨⟨cls, dd, data, sl⟩, ho, hc, n, hd⟩ := id ht
  obtain ⟨⟨cls2, dd2, data2, sl2⟩, ho2, hc2, n2, hd2⟩ := id hb
  simp only at hc hd hc2 hd2
  subst hc hd hc2 hd2
  have e : vs.toArray ++ ws.toArray = (vs ++ ws).toArray := by simp
  by_cases hw : ws = []
  · exact concat_meets ⟨_, ho, rfl⟩ ⟨_, ho2, rfl⟩ noFill_tuple_add seq_tuple_add PySem.F.slot_tuple_add PySem.F.entry_tuple_add (PySem.F.args_tuple_add_2 _ _)
      (tuple_addW1 t b vs.toArray ws.toArray n n2 dd dd2 sl sl2 (by simpa using hv) (by simp [hw])) ⟨ho, ho2, h1 hw⟩
  · refine concat_meets ⟨_, ho, rfl⟩ ⟨_, ho2, rfl⟩ noFill_tuple_add seq_tuple_add PySem.F.slot_tuple_add PySem.F.entry_tuple_add (PySem.F.args_tuple_add_2 _ _)
      (tuple_addW2 t b vs.toArray ws.toArray n n2 dd dd2 sl sl2 (by simpa using hv) (by simpa using hw) (by rw [List.size_toArray, List.size_toArray]; exact hsz)) ⟨ho, ho2, ?_⟩
    rw [e]
    exact h2 hw

/-- a slice's bound as a place among n (d where it is left out) -/
def sIx (n d : Nat) : Option Int → Nat
  | none => d
  | some v => if v < 0 then (v + (n : Int)).toNat else min v.toNat n
theorem sIx_none (n d : Nat) : sIx n d none = d := rfl
theorem sIx_nat (n d k : Nat) : sIx n d (some (k : Int)) = min k n := by
  show (if (k : Int) < 0 then ((k : Int) + (n : Int)).toNat else min (k : Int).toNat n) = min k n
  rw [if_neg (by omega), Int.toNat_natCast]
theorem sIx_le (n d : Nat) (hd : d ≤ n) (o : Option Int) : sIx n d o ≤ n := by
  cases o with
  | none => exact hd
  | some v =>
    show (if v < 0 then (v + (n : Int)).toNat else min v.toNat n) ≤ n
    by_cases hv : v < 0
    · rw [if_pos hv]; omega
    · rw [if_neg hv]; exact Nat.min_le_right _ _
theorem clip_eq (v : Int) (n d : Nat) : (if v < 0 then max (v + (n : Int)) 0 else min v (n : Int)) = ((sIx n d (some v) : Nat) : Int) := by
  show (if v < 0 then max (v + (n : Int)) 0 else min v (n : Int)) = (((if v < 0 then (v + (n : Int)).toNat else min v.toNat n) : Nat) : Int)
  by_cases hv : v < 0
  · simp only [if_pos hv]; omega
  · simp only [if_neg hv]; omega
theorem adjust_gen (lo hi : Option Int) (n : Nat) : Builtin.Slice.sliceAdjust lo hi 1 (n : Int) = (((sIx n 0 lo : Nat) : Int), ((sIx n n hi : Nat) : Int)) := by
  have h1 : ¬ ((1 : Int) < 0) := by omega
  unfold Builtin.Slice.sliceAdjust
  simp only [h1, if_false]
  refine Prod.ext ?_ ?_
  · cases lo with
    | none => rfl
    | some v => exact clip_eq v n 0
  · cases hi with
    | none => rfl
    | some v => exact clip_eq v n n
theorem places_gen (i j : Nat) : Builtin.Slice.slicePlaces (i : Int) (j : Int) 1 = j - i := by
  unfold Builtin.Slice.slicePlaces
  have h1 : (1 : Int) > 0 := by omega
  simp only [h1, if_true, Int.ediv_one]
  split <;> omega
theorem slicePart_ {v : Value} {o : Option Int} {Q : Option Int → Shared → Prop} (p : IsPart v o) (h : Q o s) : wpAny (model prog w) A (Builtin.Slice.slicePartIndex v) Q E s := by
  cases p with
  | none => exact slicePart_none h
  | int i t => exact slicePart_int h
theorem sliceApplied_gen {sl : Addr} {vl vu : Value} {lo hi : Option Int} {n : Nat} {Q : Int × Int × Nat → Shared → Prop} (hs : s.heap.IsSliceOf sl vl vu .none) (pl : IsPart vl lo) (pu : IsPart vu hi)
    (h : Q (((sIx n 0 lo : Nat) : Int), 1, sIx n n hi - sIx n 0 lo) s) : wpAny (model prog w) A (Builtin.Slice.sliceApplied (.ref sl) (pure (n : Int))) Q E s := by
  obtain ⟨os, hos, hcs, hds⟩ := id hs
  unfold Builtin.Slice.sliceApplied Builtin.Slice.sliceFields
  refine wpAny_bind (wpAny_bind (wpAny_field hos hds (x := vl) rfl (wpAny_bind (wpAny_field hos hds (x := vu) rfl (wpAny_bind (wpAny_field hos hds (x := .none) rfl (wpAny_pure ?_)))))))
  refine wpAny_bind (slicePart_none ?_)
  show wpAny _ _ (if ((1 : Int) == 0) = true then _ else _) _ _ s
  rw [if_neg (by decide)]
  refine wpAny_bind (slicePart_ pl (wpAny_bind (slicePart_ pu (wpAny_bind (wpAny_pure ?_)))))
  show wpAny _ _ (match Builtin.Slice.sliceAdjust lo hi 1 (n : Int) with | (lo, hi) => pure (lo, (1 : Int), Builtin.Slice.slicePlaces lo hi 1)) _ _ s
  rw [adjust_gen lo hi n]
  show wpAny _ _ (pure (((sIx n 0 lo : Nat) : Int), (1 : Int), Builtin.Slice.slicePlaces ((sIx n 0 lo : Nat) : Int) ((sIx n n hi : Nat) : Int) 1)) _ _ s
  rw [places_gen]
  exact wpAny_pure h
theorem pick_gen (xs : Array Value) (i k : Nat) : ((List.range k).filterMap fun (m : Nat) => xs[((i : Int) + (m : Int) * 1).toNat]?).toArray = ((xs.toList.drop i).take k).toArray := by
  have e : (fun (m : Nat) => xs[((i : Int) + (m : Int) * 1).toNat]?) = fun m => xs[i + m]? := by
    funext m
    have : ((i : Int) + (m : Int) * 1).toNat = i + m := by omega
    rw [this]
  rw [e]
  have := pick_run xs i k
  rw [List.filterMap_map] at this
  have e2 : ((fun x => xs[x]?) ∘ fun x => i + x) = fun m => xs[i + m]? := rfl
  rw [e2] at this
  rw [this]

theorem getItem_tuple_cut {t sl : Addr} {items : Array Value} {vl vu : Value} {lo hi : Option Int} {Q : Value → Shared → Prop} (ht : IsTup s.heap t items) (hs : s.heap.IsSliceOf sl vl vu .none) (pl : IsPart vl lo) (pu : IsPart vu hi)
    (hw : ¬ (sIx items.size 0 lo = 0 ∧ sIx items.size items.size hi = items.size))
    (h : Q (.ref s.heap.objs.size) { s with heap := s.heap.push { cls := .type "tuple", data := .seq ((items.toList.drop (sIx items.size 0 lo)).take (sIx items.size items.size hi - sIx items.size 0 lo)).toArray } })
    (hsz : items.size ≤ sizeLine) : wpAny (model prog w) A (getItem (.ref t) (.ref sl)) Q E s := by
  have htake : sizeOk (.seq ((items.toList.drop (sIx items.size 0 lo)).take (sIx items.size items.size hi - sIx items.size 0 lo)).toArray) := by
    show ((items.toList.drop (sIx items.size 0 lo)).take (sIx items.size items.size hi - sIx items.size 0 lo)).toArray.size ≤ sizeLine
    rw [List.size_toArray, List.length_take, List.length_drop, Array.length_toList]
    omega
  have hj : sIx items.size items.size hi ≤ items.size := sIx_le _ _ (Nat.le_refl _) hi
  obtain ⟨os, hos, hcs, hds⟩ := id hs
  have hTs : s.TypeIs (.ref sl) "slice" := ⟨os, hos, hcs⟩
  unfold getItem
  try with_reducible refine wpAny_holding ?_
  first | refine wpAny_bind (wpAny_pure ?_) | skip
  refine wpAny_bind (wpAny_sequenceKey ht.typeIs (by decide) ?_)
  refine wpAny_bind (wpAny_callSpecial?_slot (name := Str.ofString "__getitem__") ht.typeIs PyProof.Rows.slot_tuple_getitem
    (wpAny_call_entry PyProof.Rows.slot_tuple_getitem ht.typeIs entry_tuple_getitem ?_ (args_tuple_getitem _ _)))
  show wpAny _ _ (Builtin.Tuple.tupleItemsOf (.ref t) >>= _) _ _ s
  refine wpAny_bind (tupleItemsOf_ ht ?_)
  refine wpAny_bind (wpAny_typeOf hTs ?_)
  rw [if_pos (by decide)]
  refine wpAny_bind (sliceApplied_gen hs pl pu ?_)
  have hno : ¬ ((((sIx items.size 0 lo : Nat) : Int) == 0 && (1 : Int) == 1 && (sIx items.size items.size hi - sIx items.size 0 lo) == items.size) = true) := by
    intro q
    rw [Bool.and_eq_true, Bool.and_eq_true] at q
    have q1 : ((sIx items.size 0 lo : Nat) : Int) = 0 := eq_of_beq q.1.1
    have q2 : sIx items.size items.size hi - sIx items.size 0 lo = items.size := eq_of_beq q.2
    exact hw ⟨by omega, by omega⟩
  show wpAny _ _ (if (((sIx items.size 0 lo : Nat) : Int) == 0 && (1 : Int) == 1 && (sIx items.size items.size hi - sIx items.size 0 lo) == items.size) = true then _ else _) _ _ s
  rw [if_neg hno, pick_gen]
  first
    | exact wpAny_bind (m := Builtin.Tuple.tupleExact _) (wpAny_newObj_type (wpAny_pure ⟨_, rfl, wpAny_pure h⟩) htake)
    | exact wpAny_bind (m := Builtin.Tuple.tupleExact _) (wpAny_newObj_type (wpAny_bind (wpAny_pure (wpAny_pure ⟨_, rfl, wpAny_pure h⟩))) htake)
    | exact wpAny_bind (wpAny_bind (m := Builtin.Tuple.tupleExact _) (wpAny_newObj_type (wpAny_pure (wpAny_pure ⟨_, rfl, wpAny_pure h⟩)) htake))
    | exact wpAny_bind (wpAny_bind (m := Builtin.Tuple.tupleExact _) (wpAny_newObj_type (wpAny_pure ⟨_, rfl, wpAny_pure h⟩) htake))
end
end HT

namespace L2
open PySem PySem.Spec PyProof.Rows

abbrev TO := St → Hp → (Option Int → Hp → Prop) → Prop
/-- a slice's part (left out, or an int) -/
def PO (X : Cx) (e : Option Expr) (t : TO) : Prop :=
  ∀ (pins : List (Addr × Obj)) (s : Shared) (σ : St) (H : Hp) (Q : Option Int → Hp → Prop), Inv X pins σ H s → t σ H Q →
    wpAny (model X.prog X.w) X.A (evalPart e X.env) (fun u s' => ∃ o H', Inv X pins σ H' s' ∧ IsPart u o ∧ Q o H') X.xe s
def tNoPart : TO := fun _ H Q => Q none H
def tPart (t : TE) : TO := fun σ H Q => t σ H fun x H1 => ∃ i, x = .int i ∧ Q (some i) H1

section
variable {X : Cx} {e : Expr} {te : TE} {lo hi : Option Expr} {tl th : TO} {pos p2 : Pos}

theorem po_none : PO X none tNoPart := by
  intro pins s σ H Q I h
  rw [evalPart_none]
  exact wpAny_pure ⟨none, H, I, .none, h⟩
theorem po_some (h : PE X e te) : PO X (some e) (tPart te) := by
  intro pins s σ H Q I hw
  rw [evalPart_some]
  refine thn (h pins s σ H _ I hw) fun u s1 ⟨x, H1, I1, r1, q1⟩ => ?_
  obtain ⟨i, rfl, q⟩ := q1
  obtain ⟨t, rfl⟩ := r1
  exact ⟨some i, H1, I1, .int i t, q⟩

/-- what a slice of a value is, by values: the slice object stands at sl -/
def SlR (X : Cx) (r : V → Option Int → Option Int → Hp → VK → Prop) : Prop :=
  ∀ (pins : List (Addr × Obj)) (s : Shared) (σ : St) (H : Hp) (x : V) (v vl vu : Value) (lo hi : Option Int) (sl : Addr) (Q : VK), Inv X pins σ H s → RelV x v → s.heap.IsSliceOf sl vl vu .none → IsPart vl lo → IsPart vu hi → r x lo hi H Q →
    ∃ T id, typeLookup (.type T) "__getitem__" = pure (some (.builtin id)) ∧ s.TypeIs v T ∧ wpAny (model X.prog X.w) X.A (getItem v (.ref sl)) (EP X pins σ Q) X.xe s
theorem SlR.or {r r' : V → Option Int → Option Int → Hp → VK → Prop} (h : SlR X r) (h' : SlR X r') : SlR X (fun x lo hi H Q => r x lo hi H Q ∨ r' x lo hi H Q) := by
  intro pins s σ H x v vl vu lo hi sl Q I rx hs pl pu q
  rcases q with q | q
  · exact h pins s σ H x v vl vu lo hi sl Q I rx hs pl pu q
  · exact h' pins s σ H x v vl vu lo hi sl Q I rx hs pl pu q
def tSl (r : V → Option Int → Option Int → Hp → VK → Prop) (te : TE) (tl th : TO) : TE := fun σ H Q => te σ H fun x H1 => tl σ H1 fun l H2 => th σ H2 fun u H3 => r x l u H3 Q
/-- a[lo:hi], any a -/
theorem pe_slice {r : V → Option Int → Option Int → Hp → VK → Prop} (hr : SlR X r) (he : PE X e te) (hl : PO X lo tl) (hu : PO X hi th) : PE X (.Subscript e (.Slice lo hi none p2) pos) (tSl r te tl th) := by
  intro pins s σ H Q I h
  refine Subscript_ (thn (he pins s σ H _ I h) fun v s1 ⟨x, H1, I1, r1, q1⟩ => ?_)
  refine wpAny_Slice (thn (hl pins s1 σ H1 _ I1 q1) fun vl s2 ⟨l, H2, I2, pl, q2⟩ => thn (hu pins s2 σ H2 _ I2 q2) fun vu s3 ⟨u, H3, I3, pu, q3⟩ => ?_)
  rw [evalPart_none]
  refine wpAny_pure ?_
  have I4 : Inv X pins σ H3 { s3 with heap := s3.heap.push { cls := .type "slice", data := .fields #[vl, vu, .none] } } := I3.kept (t' := s3.toks) fun b ob q => Heap.get?_push_of_some _ q
  obtain ⟨T, id, hT, ht, hg⟩ := hr pins { s3 with heap := s3.heap.push { cls := .type "slice", data := .fields #[vl, vu, .none] } } σ H3 x v vl vu l u s3.heap.objs.size Q I4 r1 (Heap.IsSliceOf.new ..) pl pu q3
  show wpAny (model X.prog X.w) X.A (subscriptTail e (.Slice lo hi none p2) v (.ref s3.heap.objs.size)) (EP X pins σ Q) X.xe { s3 with heap := s3.heap.push { cls := .type "slice", data := .fields #[vl, vu, .none] } }
  exact tail_any (ops := [.ref s3.heap.objs.size, v]) ht hT hg (by with_unfolding_all rfl)

/-- the items of xs[lo:hi] -/
def cutV (xs : List V) (lo hi : Option Int) : List V := (xs.drop (HT.sIx xs.length 0 lo)).take (HT.sIx xs.length xs.length hi - HT.sIx xs.length 0 lo)
theorem cutV_length (xs : List V) (lo hi : Option Int) : (cutV xs lo hi).length ≤ xs.length := by
  unfold cutV
  rw [List.length_take, List.length_drop]
  omega
/-- t[lo:hi], not the whole of it (the whole would be t itself) -/
def rSlT (K : PySem.W.Frag) : V → Option Int → Option Int → Hp → VK → Prop := fun x lo hi H Q => ∃ a xs, x = .ref a ∧ SqT K H a xs ∧
  ¬ (HT.sIx xs.length 0 lo = 0 ∧ HT.sIx xs.length xs.length hi = xs.length) ∧ ∀ p, H p = none → Q (.ref p) (upd H p (.tup (cutV xs lo hi)))
theorem sl_tup : SlR X (rSlT X.K) := by
  intro pins s σ H x v vl vu lo hi sl Q I rx hs pl pu h
  obtain ⟨a, xs, rfl, hx, hw, q⟩ := h
  cases rx
  obtain ⟨its, r, ht, hz⟩ := I.tuple hx
  have hlen : its.toArray.size = xs.length := by rw [List.size_toArray]; exact r.length.symm
  refine ⟨"tuple", _, PyProof.Rows.slot_tuple_getitem.lookup, ht.typeIs, ?_⟩
  refine HT.getItem_tuple_cut ht hs pl pu (by rw [hlen]; exact hw) ?_ (by rw [hlen]; exact hz)
  rw [hlen]
  refine ⟨.ref s.heap.objs.size, _, I.laid (t' := s.toks) (o := .tup (cutV xs lo hi)) (fun b ob q => Heap.get?_push_of_some _ q) (Nat.le_refl _) ?_, rfl, q _ (I.hok.fresh (Nat.le_refl _))⟩
  exact ⟨Nat.le_trans (cutV_length xs lo hi) hz, _, (r.drop (HT.sIx xs.length 0 lo)).take (HT.sIx xs.length xs.length hi - HT.sIx xs.length 0 lo), IsTupN.new _ _⟩

/-- t + u, t not empty: u empty gives t itself -/
def rCatT (K : PySem.W.Frag) : R2 := fun x y H Q => ∃ a b xs ys, x = .ref a ∧ y = .ref b ∧ SqT K H a xs ∧ SqT K H b ys ∧ xs ≠ [] ∧ xs.length + ys.length ≤ sizeLine ∧
  (ys = [] → Q (.ref a) H) ∧ (ys ≠ [] → ∀ p, H p = none → Q (.ref p) (upd H p (.tup (xs ++ ys))))
theorem Vals.nil_iff {xs : List V} {us : List Value} (r : Vals xs us) : us = [] ↔ xs = [] := by
  cases r with
  | nil => simp
  | cons _ _ => simp
theorem op_catT : OpR X (binaryOp .Add) (rCatT X.K) := by
  intro pins s σ H x y v u Q I rx ry h
  obtain ⟨a, b, xs, ys, rfl, rfl, ha, hb, hx, hz, q1, q2⟩ := h
  cases rx
  cases ry
  obtain ⟨its, r1, p1, _⟩ := I.tuple ha
  obtain ⟨its2, r2, p2, _⟩ := I.tuple hb
  refine HT.cat_tup p1 p2 (fun z => hx (r1.nil_iff.mp z)) (fun z => ⟨.ref a, H, I, rfl, q1 (r2.nil_iff.mp z)⟩) (fun z => ?_) (by rw [← r1.length, ← r2.length]; exact hz)
  refine ⟨.ref s.heap.objs.size, _, I.laid (t' := s.toks) (o := .tup (xs ++ ys)) (fun b ob q => Heap.get?_push_of_some _ q) (Nat.le_refl _) ?_, rfl, q2 (fun w => z (r2.nil_iff.mpr w)) _ (I.hok.fresh (Nat.le_refl _))⟩
  exact ⟨by rw [List.length_append]; exact hz, _, r1.append r2, IsTupN.new _ _⟩
end
end L2

namespace L2
open PySem PySem.Spec PyProof.Rows

/-- the place that an index of any sign means -/
def ixN (n : Nat) (i : Int) : Option Nat := if 0 ≤ i then (if i < n then some i.toNat else none) else if -(n : Int) ≤ i then some (i + n).toNat else none
def atI {α : Type} (xs : List α) (i : Int) : Option α := (ixN xs.length i).bind fun j => xs[j]?
theorem ixN_seq {n : Nat} {i : Int} {j : Nat} (h : ixN n i = some j) : seqIndex? i n = some j ∧ j < n ∧ -(n : Int) ≤ i ∧ i < n := by
  unfold ixN at h
  by_cases h0 : 0 ≤ i
  · rw [if_pos h0] at h
    by_cases h1 : i < n
    · rw [if_pos h1] at h
      have e : i.toNat = j := Option.some.inj h
      exact ⟨by rw [seqIndex_of h0 h1, e], by omega, by omega, h1⟩
    · rw [if_neg h1] at h; cases h
  · rw [if_neg h0] at h
    by_cases h1 : -(n : Int) ≤ i
    · rw [if_pos h1] at h
      have e : (i + n).toNat = j := Option.some.inj h
      exact ⟨by rw [seqIndex_neg (by omega) h1, e], by omega, h1, by omega⟩
    · rw [if_neg h1] at h; cases h
theorem atI_get {α : Type} {xs : List α} {i : Int} {v : α} (h : atI xs i = some v) : ∃ j, seqIndex? i xs.length = some j ∧ xs[j]? = some v ∧ j < xs.length ∧ -(xs.length : Int) ≤ i ∧ i < xs.length := by
  unfold atI at h
  cases e : ixN xs.length i with
  | none => rw [e] at h; cases h
  | some j =>
    rw [e] at h
    obtain ⟨h1, h2, h3, h4⟩ := ixN_seq e
    exact ⟨j, h1, h, h2, h3, h4⟩
/-- what stands as an index of a plain subscript -/
def PlainIx (b : Expr) : Prop := ∀ o i, subscripted b false o i = operate [o, i] (getItem o i)
/-- a subscript by values -/
def IxR (X : Cx) (r : R2) : Prop :=
  ∀ (value slice : Expr) (pins : List (Addr × Obj)) (s : Shared) (σ : St) (H : Hp) (x y : V) (v u : Value) (Q : VK), Inv X pins σ H s → RelV x v → RelV y u → r x y H Q →
    subscripted slice false v u = operate [v, u] (getItem v u) → wpAny (model X.prog X.w) X.A (subscriptTail value slice v u) (EP X pins σ Q) X.xe s
/-- a call of a builtin's method by values: the receiver, the arguments -/
def MtR (X : Cx) (id : String) (r : V → List V → Hp → VK → Prop) : Prop :=
  ∀ (pins : List (Addr × Obj)) (s : Shared) (σ : St) (H : Hp) (x : V) (xs : List V) (v : Value) (us : List Value) (Q : VK), Inv X pins σ H s → RelV x v → Vals xs us → r x xs H Q →
    wpAny (model X.prog X.w) X.A (call (.builtin id) (v :: us)) (EP X pins σ Q) X.xe s
section
variable {X : Cx} {a b : Expr} {ta tb : TE} {pos : Pos}
theorem IxR.or {r r' : R2} (h : IxR X r) (h' : IxR X r') : IxR X (fun x y H Q => r x y H Q ∨ r' x y H Q) := by
  intro value slice pins s σ H x y v u Q I rx ry q hs
  rcases q with q | q
  · exact h value slice pins s σ H x y v u Q I rx ry q hs
  · exact h' value slice pins s σ H x y v u Q I rx ry q hs
theorem MtR.or {id : String} {r r' : V → List V → Hp → VK → Prop} (h : MtR X id r) (h' : MtR X id r') : MtR X id (fun x xs H Q => r x xs H Q ∨ r' x xs H Q) := by
  intro pins s σ H x xs v us Q I rx rs q
  rcases q with q | q
  · exact h pins s σ H x xs v us Q I rx rs q
  · exact h' pins s σ H x xs v us Q I rx rs q
/-- a[b] -/
theorem pe_ix {r : R2} (hr : IxR X r) (ha : PE X a ta) (hb : PE X b tb) (hs : PlainIx b) : PE X (.Subscript a b pos) (tOp r ta tb) := by
  intro pins s σ H Q I h
  exact Subscript_ (binT ha hb I h fun v u s2 x y H2 I2 rx ry q => hr a b pins s2 σ H2 x y v u Q I2 rx ry q (hs _ _))

def rIxL (K : PySem.W.Frag) : R2 := fun x y H Q => ∃ p xs i v, x = .ref p ∧ y = .int i ∧ SqL K H p xs ∧ atI xs i = some v ∧ Q v H
def rIxT (K : PySem.W.Frag) : R2 := fun x y H Q => ∃ p xs i v, x = .ref p ∧ y = .int i ∧ SqT K H p xs ∧ atI xs i = some v ∧ Q v H
def rIxS : R2 := fun x y H Q => ∃ z i c, x = .str z ∧ y = .int i ∧ z.length ≤ sizeLine ∧ atI z.cps.toList i = some c ∧ Q (.str ⟨#[c]⟩) H
theorem ix_list : IxR X (rIxL X.K) := by
  intro value slice pins s σ H x y v u Q I rx ry h hs
  obtain ⟨p, xs, i, z, rfl, rfl, hq, he, q⟩ := h
  cases rx
  obtain ⟨t, rfl⟩ := ry
  obtain ⟨its, r, pl, hz⟩ := I.list hq
  obtain ⟨j, h1, h2, h3, h4, h5⟩ := atI_get he
  obtain ⟨w, ew, rw'⟩ := r.get h2
  have hl := r.length
  have hn := line63
  have fin : EP X pins σ Q w s := ⟨z, H, I, rw', q⟩
  by_cases h0 : 0 ≤ i
  · have hj : i.toNat = j := by
      rw [seqIndex_of h0 h5] at h1
      exact Option.some.inj h1
    exact item_listR pl.isList h0 (by omega) (by rw [hj]; simpa using ew) fin hs
  · have hj : (i + (its.toArray.size : Int)).toNat = j := by
      rw [seqIndex_neg (by omega) h4] at h1
      rw [List.size_toArray, ← hl]
      exact Option.some.inj h1
    exact subscriptTail_builtinR (x := w) pl.isList.typeIs slot_list_getitem.lookup
      (wpAny_getItem_list_neg (Q := fun r s' => r = w ∧ EP X pins σ Q r s') pl.isList (by omega) (by rw [List.size_toArray] <;> omega) (by omega) (by rw [hj]; simpa using ew) ⟨rfl, fin⟩) hs
theorem ix_tup : IxR X (rIxT X.K) := by
  intro value slice pins s σ H x y v u Q I rx ry h hs
  obtain ⟨p, xs, i, z, rfl, rfl, hq, he, q⟩ := h
  cases rx
  obtain ⟨t, rfl⟩ := ry
  obtain ⟨its, r, pl, hz⟩ := I.tuple hq
  obtain ⟨j, h1, h2, h3, h4, h5⟩ := atI_get he
  obtain ⟨w, ew, rw'⟩ := r.get h2
  have hl := r.length
  have hn := line63
  have fin : EP X pins σ Q w s := ⟨z, H, I, rw', q⟩
  exact subscriptTail_builtinR (x := w) pl.typeIs slot_tuple_getitem.lookup
    (getItem_tuple (j := j) (Q := fun r s' => r = w ∧ EP X pins σ Q r s') pl (by omega) (by omega) (by rw [List.size_toArray, ← hl]; exact h1) (by simpa using ew) ⟨rfl, fin⟩) hs
theorem ix_str : IxR X rIxS := by
  intro value slice pins s σ H x y v u Q I rx ry h hs
  obtain ⟨z, i, c, rfl, rfl, hz, he, q⟩ := h
  obtain ⟨t, rfl⟩ := rx
  obtain ⟨t', rfl⟩ := ry
  obtain ⟨j, h1, h2, h3, h4, h5⟩ := atI_get he
  have hl : z.cps.toList.length = z.length := by simp [Str.length]
  rw [hl] at h1 h4 h5
  have hn := line63
  exact tail_any (typeIs_str s z t) slot_str_getitem.lookup (getItem_str (c := c) (by
    have e1 : decide (i < -(2 ^ 63 : Int)) = false := decide_eq_false (by omega)
    have e2 : decide (i ≥ 2 ^ 63) = false := decide_eq_false (by omega)
    rw [e1, e2, Bool.or_false]) (by rw [h1]; simpa using h2) ⟨.str ⟨#[c]⟩, H, I.tok _, ⟨_, rfl⟩, q⟩) hs
/-- list, tuple or str -/
def rIx (K : PySem.W.Frag) : R2 := fun x y H Q => rIxL K x y H Q ∨ rIxT K x y H Q ∨ rIxS x y H Q
theorem ix_seq : IxR X (rIx X.K) := ix_list.or (ix_tup.or ix_str)

/-- the list's object behind a store -/
theorem mapSeq_set (its : List Value) (n j : Nat) (u : Value) : Obj.mapSeq (·.setIfInBounds j u) { cls := .type "list", data := .seq its.toArray n } = { cls := .type "list", data := .seq (its.set j u).toArray n } := by
  simp [Obj.mapSeq]
theorem Inv.lst {pins : List (Addr × Obj)} {σ : St} {H : Hp} {s : Shared} {p : Addr} {xs : List V} (I : Inv X pins σ H s) (h : H p = some (.lst xs)) :
    ∃ (its : List Value) (n : Nat), Vals xs its ∧ s.heap.get? p = some { cls := .type "list", data := .seq its.toArray n } ∧ xs.length ≤ sizeLine := by
  obtain ⟨z, its, n, r, e⟩ := I.hok p _ h
  exact ⟨its, n, r, e, z⟩
/-- the list at p is written by an update of its object -/
theorem Inv.lstUpd {pins : List (Addr × Obj)} {σ : St} {H : Hp} {s : Shared} {p : Addr} {xs ys : List V} {its its' : List Value} {n n' : Nat} {f : Obj → Obj} (I : Inv X pins σ H s) (h : H p = some (.lst xs))
    (ho : s.heap.get? p = some { cls := .type "list", data := .seq its.toArray n }) (hf : f { cls := .type "list", data := .seq its.toArray n } = { cls := .type "list", data := .seq its'.toArray n' }) (r : Vals ys its') (hz : ys.length ≤ sizeLine) (t : Nat) :
    Inv X pins σ (upd H p (.lst ys)) { s with heap := s.heap.update p f, toks := t } := by
  have e : (s.heap.update p f).get? p = some { cls := .type "list", data := .seq its'.toArray n' } := by
    rw [Heap.get?_update_self f ho (by rw [hf] <;> rfl), hf]
  refine I.write (x := p) (e := p) (by rw [h]; trivial) (.inl rfl) (fun b u hb q => (Heap.get?_update_other _ _ (Ne.symm hb)).trans q) ⟨_, e⟩ ?_
  exact ⟨hz, its', n', r, e⟩
def rSetL : V → V → V → Hp → (Hp → Prop) → Prop := fun o i v H Q => ∃ p xs k j, o = .ref p ∧ i = .int k ∧ H p = some (.lst xs) ∧ ixN xs.length k = some j ∧ Q (upd H p (.lst (xs.set j v)))
theorem set_list : PSet X rSetL := by
  intro pins s σ H o i v ov iv u Q I ro ri rv h
  obtain ⟨p, xs, k, j, rfl, rfl, hp, hj, q⟩ := h
  cases ro
  obtain ⟨t, rfl⟩ := ri
  obtain ⟨its, n, r, ho, hz⟩ := I.lst hp
  obtain ⟨h1, h2, h3, h4⟩ := ixN_seq hj
  have hl := r.length
  have hn := line63
  have I' : Inv X pins σ (upd H p (.lst (xs.set j v))) { s with heap := s.heap.update p (Obj.mapSeq (·.setIfInBounds j u)) } :=
    I.lstUpd hp ho (mapSeq_set its n j u) (r.set rv j) (by rw [List.length_set]; exact hz) s.toks
  by_cases h0 : 0 ≤ k
  · have hk : k.toNat = j := by
      rw [seqIndex_of h0 h4] at h1
      exact Option.some.inj h1
    exact PySem.W.ki_setAt ho h0 (by omega) (by rw [List.size_toArray, ← hl]; exact h4) (by rw [hk]; exact ⟨_, I', q⟩)
  · have hk : (k + (its.toArray.size : Int)).toNat = j := by
      rw [seqIndex_neg (by omega) h3] at h1
      rw [List.size_toArray, ← hl]
      exact Option.some.inj h1
    exact PySem.W.ki_setBack ho (by omega) (by rw [List.size_toArray, ← hl]; exact h3) (by omega) (by rw [hk]; exact ⟨_, I', q⟩)

theorem slice_bounds (lo hi : Option Int) (n : Nat) : (sliceBounds lo hi none n).1 = ((HT.sIx n 0 lo : Nat) : Int) ∧ (sliceBounds lo hi none n).2.1 = ((HT.sIx n n hi : Nat) : Int) ∧ (sliceBounds lo hi none n).2.2 = 1 := by
  refine ⟨?_, ?_, rfl⟩
  · cases lo with
    | none => simp [sliceBounds, HT.sIx]
    | some i =>
      simp only [sliceBounds, HT.sIx, Option.getD_none, show (1 : Int) > 0 by decide, if_true]
      by_cases h : i < 0
      · simp only [h, if_true] <;> omega
      · simp only [h, if_false] <;> omega
  · cases hi with
    | none => simp [sliceBounds, HT.sIx]
    | some i =>
      simp only [sliceBounds, HT.sIx, Option.getD_none, show (1 : Int) > 0 by decide, if_true]
      by_cases h : i < 0
      · simp only [h, if_true] <;> omega
      · simp only [h, if_false] <;> omega
theorem slicePick_cut (its : List Value) (lo hi : Option Int) : slicePick its.toArray lo hi none = ((its.drop (HT.sIx its.length 0 lo)).take (HT.sIx its.length its.length hi - HT.sIx its.length 0 lo)).toArray := by
  obtain ⟨h1, h2, h3⟩ := slice_bounds lo hi its.toArray.size
  unfold slicePick
  rw [h1, h2, h3]
  simp only [sliceRange_one, pick_run, List.size_toArray] <;> rfl
/-- xs[lo:hi] of a list: a new list -/
def rSlL (K : PySem.W.Frag) : V → Option Int → Option Int → Hp → VK → Prop := fun x lo hi H Q => ∃ a xs, x = .ref a ∧ SqL K H a xs ∧ ∀ p, H p = none → Q (.ref p) (upd H p (.lst (cutV xs lo hi)))
theorem sl_list : SlR X (rSlL X.K) := by
  intro pins s σ H x v vl vu lo hi sl Q I rx hs pl pu h
  obtain ⟨a, xs, rfl, hx, q⟩ := h
  cases rx
  obtain ⟨its, r, ht, hz⟩ := I.list hx
  have hlen := r.length
  refine ⟨"list", _, slot_list_getitem.lookup, ht.isList.typeIs, ?_⟩
  refine wpAny_getItem_list_slice ht.isList hs pl pu .none (by simp) ?_ (by rw [List.size_toArray] <;> omega)
  rw [slicePick_cut, ← hlen]
  refine ⟨.ref s.heap.objs.size, _, I.laid (t' := s.toks) (o := .lst (cutV xs lo hi)) (fun b ob q => Heap.get?_push_of_some _ q) (Nat.le_refl _) ?_, rfl, q _ (I.hok.fresh (Nat.le_refl _))⟩
  exact ⟨Nat.le_trans (cutV_length xs lo hi) hz, _, 0, (r.drop (HT.sIx xs.length 0 lo)).take (HT.sIx xs.length xs.length hi - HT.sIx xs.length 0 lo), Heap.get?_push_size _ rfl⟩

theorem CallR.or {f : Value} {r r' : List V → Hp → VK → Prop} (h : CallR X f r) (h' : CallR X f r') : CallR X f (fun xs H Q => r xs H Q ∨ r' xs H Q) := by
  intro pins s σ H xs us Q I rs q
  rcases q with q | q
  · exact h pins s σ H xs us Q I rs q
  · exact h' pins s σ H xs us Q I rs q
theorem call_list_of : CallR X (.type "list") (fun xs H Q => ∃ p ys, xs = [.ref p] ∧ (SqL X.K H p ys ∨ SqT X.K H p ys) ∧ ∀ l, H l = none → Q (.ref l) (upd H l (.lst ys))) := by
  intro pins s σ H xs us Q I r h
  obtain ⟨p, ys, rfl, hq, q⟩ := h
  obtain ⟨u, rfl, rx⟩ := vals1 r
  cases rx
  have fin : ∀ (its : List Value), Vals ys its → ys.length ≤ sizeLine → ∀ (h' : Heap) (c' : Nat), (∀ b o', s.heap.get? b = some o' → h'.get? b = some o') →
      h'.get? s.heap.objs.size = some { cls := .type "list", dict := none, data := .seq its.toArray c', slots := #[] } → EP X pins σ Q (.ref s.heap.objs.size) { s with heap := h' } := fun its r' hz h' c' kp e =>
    ⟨.ref s.heap.objs.size, _, I.laid (t' := s.toks) kp (Nat.le_refl _) (show ObjOk X.prog X.w _ h' _ (.lst ys) from ⟨hz, its, c', r', e⟩), rfl, q _ (I.hok.fresh (Nat.le_refl _))⟩
  rcases hq with hq | hq
  · obtain ⟨its, r', pl, hz⟩ := I.list hq
    have hlen := r'.length
    obtain ⟨o, ho, hc, n, hd⟩ := pl.isList
    exact call_list_seq p (.inl rfl) ho hc hd (fun h' c' kp e => fin its r' hz h' c' kp e) (by simp only [List.size_toArray] <;> omega)
  · obtain ⟨its, r', pl, hz⟩ := I.tuple hq
    have hlen := r'.length
    obtain ⟨o, ho, hc, n, hd⟩ := pl
    exact call_list_seq p (.inr rfl) ho hc hd (fun h' c' kp e => fin its r' hz h' c' kp e) (by simp only [List.size_toArray] <;> omega)
theorem call_tuple_of : CallR X (.type "tuple") (fun xs H Q => ∃ p ys, xs = [.ref p] ∧ ((SqL X.K H p ys ∧ ∀ l, H l = none → Q (.ref l) (upd H l (.tup ys))) ∨ (SqT X.K H p ys ∧ Q (.ref p) H))) := by
  intro pins s σ H xs us Q I r h
  obtain ⟨p, ys, rfl, h⟩ := h
  obtain ⟨u, rfl, rx⟩ := vals1 r
  cases rx
  rcases h with ⟨hq, q⟩ | ⟨hq, q⟩
  · obtain ⟨its, r', pl, hz⟩ := I.list hq
    have hlen := r'.length
    refine call_tuple_list pl.isList (fun h' kp => ?_) (by simp only [List.size_toArray] <;> omega)
    have I1 : Inv X pins σ H { s with heap := h' } := I.kept (t' := s.toks) kp
    have I2 : Inv X pins σ (upd H h'.objs.size (.tup ys)) { s with heap := h'.push { cls := .type "tuple", data := .seq its.toArray } } :=
      I1.laid (t' := s.toks) (fun b o e => Heap.get?_push_of_some _ e) (Nat.le_refl _) (show ObjOk X.prog X.w _ _ _ (.tup ys) from ⟨hz, its, r', IsTupN.new _ _⟩)
    exact ⟨.ref h'.objs.size, _, I2, rfl, q _ (I1.hok.fresh (Nat.le_refl _))⟩
  · obtain ⟨its, r', pl, hz⟩ := I.tuple hq
    exact call_tuple_same pl ⟨.ref p, H, I, rfl, q⟩

/-- the value is of that builtin type -/
def tyV (K : PySem.W.Frag) (T : String) (x : V) (H : Hp) : Prop := match x with
  | .str _ => T = "str"
  | .int _ => T = "int"
  | .ref p => (T = "list" ∧ ∃ xs, SqL K H p xs) ∨ (T = "tuple" ∧ ∃ o, K.lookup p = some o ∧ o.cls = .type "tuple" ∧ o.dict = none) ∨
      (T = "dict" ∧ ((∃ kvs, H p = some (.dK kvs)) ∨ ∃ kvs, H p = some (.dT kvs))) ∨ (T = "set" ∧ ∃ S n, H p = some (.set S n))
  | _ => False
theorem tyV_is {pins : List (Addr × Obj)} {σ : St} {H : Hp} {s : Shared} {T : String} {x : V} {v : Value} (I : Inv X pins σ H s) (r : RelV x v) (ty : tyV X.K T x H) :
    s.TypeIs v T ∧ ∀ a, v = .ref a → ∃ ob, s.heap.get? a = some ob ∧ ob.dict = none := by
  cases x with
  | str z =>
    obtain ⟨t, rfl⟩ := r
    cases (show T = "str" from ty)
    exact ⟨typeIs_str s z t, fun _ e => nomatch e⟩
  | int i =>
    obtain ⟨t, rfl⟩ := r
    cases (show T = "int" from ty)
    exact ⟨typeIs_int s i t, fun _ e => nomatch e⟩
  | ref p =>
    cases r
    rcases ty with ⟨rfl, xs, hq⟩ | ⟨rfl, o, hk, hc, hd⟩ | ⟨rfl, hk⟩ | ⟨rfl, S, n, hk⟩
    · obtain ⟨its, _, pl, _⟩ := I.list hq
      refine ⟨pl.isList.typeIs, fun a e => ?_⟩
      cases e
      obtain ⟨o, n, e, c, hd, _⟩ := pl
      exact ⟨o, e, hd⟩
    · refine ⟨⟨o, I.kIn p o hk, hc⟩, fun a e => ?_⟩
      cases e
      exact ⟨o, I.kIn _ o hk, hd⟩
    · have z : ∃ o, s.heap.get? p = some o ∧ o.ExactDict := by
        rcases hk with ⟨kvs, hk⟩ | ⟨kvs, hk⟩
        · obtain ⟨_, _, _, _, o, _, _, e, ex, _⟩ := I.hok p _ hk
          exact ⟨o, e, ex⟩
        · obtain ⟨_, _, _, _, o, _, _, e, ex, _⟩ := I.hok p _ hk
          exact ⟨o, e, ex⟩
      obtain ⟨o, e, ex⟩ := z
      refine ⟨⟨o, e, ex.1⟩, fun a e2 => ?_⟩
      cases e2
      exact ⟨o, e, ex.2.1⟩
    · obtain ⟨o, _, _, _, e, ex, _⟩ := I.hok p _ hk
      refine ⟨⟨o, e, ex.1⟩, fun a e2 => ?_⟩
      cases e2
      exact ⟨o, e, ex.2.1⟩
  | _ => exact False.elim ty
def tBM (K : PySem.W.Frag) (T : String) (r : V → List V → Hp → VK → Prop) (to : TE) (t : TA) : TE := fun σ H Q => to σ H fun x H1 => tyV K T x H1 ∧ t σ H1 fun xs H2 => r x xs H2 Q
variable {o e : Expr} {es : List Expr} {to : TE} {t : TA} {name : Str} {apos cpos : Pos} {T id : String} {r : V → List V → Hp → VK → Prop}
theorem pe_bm (pa : PlainAttrs T) (slot : Slot T name id) (hty : typeOf (.builtin id) = pure (.type "method_descriptor")) (hm : MtR X id r) (ho : PE X o to) (ha : PA X (e :: es) t)
    (hbase : attributeBase o name X.env (eval o X.env) = eval o X.env := by rfl)
    (hfew : ((backTo cpos (starEach (e :: es) X.env)).all (fun x => !x.1) && (backToKw cpos (keywordEach [] X.env)).all (fun x => x.1.isSome)
      && decide ((e :: es).length + ([] : List Keyword).length + (if ([] : List Keyword).isEmpty then 0 else 1) < 30)) = true := by rfl)
    (hline : (apos.endLine == cpos.line) = true := by rfl) (hs : starEach (e :: es) X.env = (false, eval e X.env) :: starEach es X.env := by rfl) (hplain : (backTo cpos (starEach es X.env)).any (·.1) = false := by rfl) :
    PE X (.Call (.Attribute o name apos) (e :: es) [] cpos) (tBM X.K T r to t) := by
  intro pins s σ H Q I h
  refine wpAny_Call_method_late hbase hfew hline rfl (thn (ho pins s σ H _ I h) fun v s1 ⟨x, H1, I1, r1, ty, q1⟩ => ?_)
  obtain ⟨h1, h2⟩ := tyV_is I1 r1 ty
  refine ⟨T, id, pa, slot, hty, h1, h2, ?_⟩
  have hA := ha cpos pins s1 σ H1 _ I1 q1
  rw [hs] at hA ⊢
  refine Calls.callWith_builtin (by show (false || (backTo cpos (starEach es X.env)).any (·.1)) = false; rw [hplain] <;> rfl) (Calls.evalArgs_plain ?_)
  exact thn hA fun us s2 ⟨vs, H2, I2, r2, q2⟩ => hm pins s2 σ H2 x vs v us Q I2 r1 r2 q2
end
end L2

namespace L2
open PySem PySem.Spec PyProof.Rows

def MtM (X : Cx) (id : String) (r : V → List V → Hp → VK → Prop) : Prop :=
  ∀ (pins : List (Addr × Obj)) (s : Shared) (σ : St) (H : Hp) (x : V) (xs : List V) (v : Value) (us : List Value) (Q : VK), Inv X pins σ H s → RelV x v → Vals xs us → r x xs H Q →
    wpAny (model X.prog X.w) X.A (call (.builtin id) (v :: us)) (EP X pins σ Q) X.xe s

theorem Vals.one : ∀ {x : V} {us : List Value}, Vals [x] us → ∃ u, us = [u] ∧ RelV x u
  | _, _, .cons r .nil => ⟨_, rfl, r⟩
theorem Vals.zero : ∀ {us : List Value}, Vals [] us → us = []
  | _, .nil => rfl
theorem Vals.eraseIdx : ∀ {xs : List V} {us : List Value} (i : Nat), Vals xs us → Vals (xs.eraseIdx i) (us.eraseIdx i)
  | _, _, _, .nil => .nil
  | _, _, 0, .cons _ t => t
  | _, _, i + 1, .cons r t => .cons r (Vals.eraseIdx i t)
theorem Vals.reverse {xs : List V} {us : List Value} (h : Vals xs us) : Vals xs.reverse us.reverse := by
  induction h with
  | nil => exact .nil
  | cons r t ih => rw [List.reverse_cons, List.reverse_cons]; exact Vals.append ih (.cons r .nil)
theorem Vals.rep {xs : List V} {us : List Value} (h : Vals xs us) : ∀ k : Nat, Vals (List.replicate k xs).flatten (List.replicate k us).flatten
  | 0 => .nil
  | k + 1 => by
    rw [List.replicate_succ, List.replicate_succ, List.flatten_cons, List.flatten_cons]
    exact Vals.append h (Vals.rep h k)
section
variable {X : Cx} {pins : List (Addr × Obj)} {σ : St} {H : Hp} {s : Shared} {l b : Addr} {xs ys zs : List V}

theorem Inv.lset {its its' : List Value} {n : Nat} {f : Array Value → Array Value} {t' : Nat} (I : Inv X pins σ H s) (hH : H l = some (.lst xs))
    (e : s.heap.get? l = some { cls := .type "list", data := .seq its.toArray n }) (hf : f its.toArray = its'.toArray) (hv : Vals ys its') (hz : ys.length ≤ sizeLine) :
    Inv X pins σ (upd H l (.lst ys)) { s with heap := s.heap.update l (Obj.mapSeq f), toks := t' } := by
  have q := PySem.IsL.update e f
  rw [hf] at q
  refine I.write (x := l) (e := l) (by rw [hH]; exact trivial) (.inl rfl) (fun b' u hb hu => (Heap.get?_update_other s.heap (Obj.mapSeq f) (Ne.symm hb)).trans hu) ⟨_, q⟩ ?_
  exact ⟨hz, its', _, hv, q⟩
theorem Inv.lnew {its : List Value} {t' : Nat} (I : Inv X pins σ H s) (hv : Vals ys its) (hz : ys.length ≤ sizeLine) :
    Inv X pins σ (upd H s.heap.objs.size (.lst ys)) { s with heap := s.heap.push { cls := .type "list", data := .seq its.toArray }, toks := t' } :=
  I.laid (fun _ _ q => Heap.get?_push_of_some _ q) (Nat.le_refl _) ⟨hz, its, 0, hv, Heap.get?_push_size _ rfl⟩
theorem Inv.fresh (I : Inv X pins σ H s) : H s.heap.objs.size = none := I.hok.fresh (Nat.le_refl _)
theorem Inv.lstM (I : Inv X pins σ H s) (hH : H l = some (.lst xs)) : xs.length ≤ sizeLine ∧ ∃ (its : List Value) (n : Nat), Vals xs its ∧ xs.length = its.length ∧ s.heap.get? l = some { cls := .type "list", data := .seq its.toArray n } := by
  obtain ⟨z, its, n, r, e⟩ := I.hok l _ hH
  exact ⟨z, its, n, r, r.length, e⟩

end

section
variable {X : Cx}

def rAppend : V → List V → Hp → VK → Prop := fun x vs H Q => ∃ l xs y, x = .ref l ∧ vs = [y] ∧ H l = some (.lst xs) ∧ xs.length < sizeLine ∧ Q .non (upd H l (.lst (xs ++ [y])))
theorem mt_append : MtM X "list.append" rAppend := by
  intro pins s σ H x vs v us Q I rx rv h
  obtain ⟨l, xs, y, rfl, rfl, hH, hz, q⟩ := h
  cases rx
  obtain ⟨u, rfl, ru⟩ := rv.one
  obtain ⟨z, its, n, r, hl, e⟩ := I.lstM hH
  refine call_meets F.slot_list_append ⟨_, e, rfl⟩ F.entry_list_append (F.args_list_append_2 _ _) (PySem.list_append l its.toArray n u (by rw [List.size_toArray]; omega)) ⟨e, ?_⟩
  refine ⟨.non, _, I.lset (its' := its ++ [u]) hH e (by simp) (r.append (.cons ru .nil)) ?_, rfl, q⟩
  rw [List.length_append, List.length_singleton]
  omega

end

section
variable {prog : Program} {w : World} {A : Around} {E : Value → Shared → Prop} {s : Shared}
set_option maxRecDepth 100000 in
end

section
variable {X : Cx}
end
end L2

namespace L2
open PySem PySem.Spec PyProof.Rows

theorem Vals.ints : ∀ {ns : List Int} {us : List Value}, Vals (ns.map V.int) us → IntsAre us ns
  | [], us, h => by
    rw [List.map_nil] at h
    cases h
    exact IntsAre.nil
  | n :: ns, us, h => by
    rw [List.map_cons] at h
    cases h with
    | cons r t =>
      obtain ⟨k, rfl⟩ := r
      exact IntsAre.cons n k (Vals.ints t)
theorem vals_of_ints : ∀ {us : List Value} {ns : List Int}, IntsAre us ns → Vals (ns.map V.int) us
  | _, _, .nil => by rw [List.map_nil]; exact Paired.nil
  | _, _, .cons n t h => by rw [List.map_cons]; exact Paired.cons (show RelV (V.int n) (Value.int n t) from ⟨t, rfl⟩) (vals_of_ints h)
theorem Vals.strs : ∀ {xs : List Str} {us : List Value}, Vals (xs.map V.str) us → StrsAre us xs
  | [], us, h => by
    rw [List.map_nil] at h
    cases h
    exact StrsAre.nil
  | x :: xs, us, h => by
    rw [List.map_cons] at h
    cases h with
    | cons r t =>
      obtain ⟨k, rfl⟩ := r
      exact StrsAre.cons x k (Vals.strs t)
theorem Vals.bls : ∀ {bs : List Bool} {us : List Value}, Vals (bs.map V.bl) us → us = bs.map Value.bool
  | [], us, h => by
    rw [List.map_nil] at h
    cases h
    rfl
  | b :: bs, us, h => by
    rw [List.map_cons] at h
    cases h with
    | cons r t =>
      cases r
      rw [Vals.bls t, List.map_cons]
theorem Vals.ref1 {a : Addr} {us : List Value} (r : Vals [V.ref a] us) : us = [Value.ref a] := by
  cases r with
  | cons r t =>
    cases t
    cases r
    rfl
section
variable {prog : Program} {w : World} {A : Around} {E : Value → Shared → Prop} {s : Shared} {l : Addr} {its : List Value} {ns : List Int} {Q : Value → Shared → Prop}
theorem max_raw (hh : A.handled = none) (hl : s.heap.IsList l its.toArray) (hi : IntsAre its ns) (hne : 0 < ns.length)
    (h : ∀ h' tk M t', (∀ b o, s.heap.get? b = some o → h'.get? b = some o) → M ∈ ns → (∀ a, a ∈ ns → a ≤ M) → Q (.int M t') { s with heap := h', toks := tk }) : wpAny (model prog w) A (call (.builtin "max") [.ref l]) Q E s := by
  obtain ⟨xs, e⟩ := hi.allInts.items
  have hn : numsOf (intItems xs).toList = ns := by rw [← e]; exact hi.numsOf
  rw [nums_intItems] at hn
  subst hn
  rw [e] at hl
  have hsz : 0 < xs.size := by simpa using hne
  refine PySem.max_intList hh hl hsz fun v h' tk hv hk => ?_
  obtain ⟨t, rfl⟩ := intItems_at hv
  obtain ⟨h1, h2⟩ := argBest_gt (numAt xs) (xs.size - 1)
  refine h h' tk _ t hk ?_ fun a ha => ?_
  · rw [numAt_eq]; exact PySem.getD_mem (by rw [List.length_map, Array.length_toList]; omega)
  · obtain ⟨j, hj, rfl⟩ := mem_getD ha
    rw [List.length_map, Array.length_toList] at hj
    rw [← numAt_eq]; exact h2 j (by omega)
end

section
variable {X : Cx}
/-- max(xs), min(xs) of a list of ints -/
def rMax (K : PySem.W.Frag) : List V → Hp → VK → Prop := fun vs H Q => ∃ (a : Addr) (ns : List Int), vs = [V.ref a] ∧ SqL K H a (ns.map V.int) ∧ 0 < ns.length ∧ ∀ m, m ∈ ns → (∀ y, y ∈ ns → y ≤ m) → Q (.int m) H
theorem cr_max (hc : X.calm = true) : CallR X (.builtin "max") (rMax X.K) := by
  intro pins s σ H vs us Q I r h
  obtain ⟨a, ns, rfl, hs, hne, q⟩ := h
  obtain ⟨its, rv, hl, _⟩ := I.list hs
  rw [Vals.ref1 r]
  exact max_raw (I.ok.hd hc) hl.isList rv.ints hne fun h' tk m t' hk h1 h2 => ⟨.int _, H, I.kept hk, ⟨_, rfl⟩, q m h1 h2⟩
end

section
variable {X : Cx}
end

section
variable {X : Cx}
end

theorem iter_any {prog : Program} {w : World} {A : Around} {E : Value → Shared → Prop} {s : Shared} {l : Addr} {items : Array Value} {Q : Value → Shared → Prop} (hl : s.heap.IsList l items)
    (h : ∀ s₂ : Shared, s₂ = { s with heap := s.heap.push { cls := .type "list_iterator", data := .fields #[.ref l, .int 0 0] } } →
      (s₂.heap.IsListIter s.heap.objs.size l 0 ∧ s₂.heap.IsList l items) → l ≠ s.heap.objs.size → Q (.ref s.heap.objs.size) s₂) : wpAny (model prog w) A (pyIter (.ref l)) Q E s := by
  have hlt : l < s.heap.objs.size := by obtain ⟨_, e, _⟩ := hl; exact Heap.lt_size e
  exact wpAny_pyIter_list hl (h _ rfl ⟨⟨_, Heap.get?_push_size _ rfl, rfl, rfl⟩, hl.push _⟩ (Nat.ne_of_lt hlt))
theorem truth_bools {prog : Program} {w : World} {A : Around} {bs : List Bool} {its : List Value} (e : its = bs.map Value.bool) :
    TruthOf prog w A (fun i v => its.toArray[i]? = some v) (fun i => bs.getD i false) := fun i v s Q E hv hq => by
  have hv' : its[i]? = some v := by simpa using hv
  rw [e, List.getElem?_map] at hv'
  obtain ⟨b, hb, rfl⟩ := Option.map_eq_some_iff.mp hv'
  have hg : bs.getD i false = b := by rw [List.getD_eq_getElem?_getD, hb] <;> rfl
  have hq' : Q (bs.getD i false) s := hq
  rw [hg] at hq'
  exact wpAny_truthy_bool hq'
theorem all_range : ∀ bs : List Bool, (List.range bs.length).all (fun i => bs.getD i false) = bs.all id
  | [] => rfl
  | b :: bs => by
    rw [List.length_cons, List.range_succ_eq_map, List.all_cons, List.all_map, List.all_cons, ← all_range bs]
    all_goals rfl
section
variable {X : Cx}
def rAll (K : PySem.W.Frag) : List V → Hp → VK → Prop := fun vs H Q => ∃ (a : Addr) (bs : List Bool), vs = [V.ref a] ∧ SqL K H a (bs.map V.bl) ∧ Q (.bl (bs.all id)) H
theorem cr_all (hc : X.calm = true) : CallR X (.builtin "all") (rAll X.K) := by
  intro pins s σ H vs us Q I r h
  obtain ⟨a, bs, rfl, hs, q⟩ := h
  obtain ⟨its, rv, hl, _⟩ := I.list hs
  rw [Vals.ref1 r]
  have hb := rv.bls
  refine call_all_walk (iter_any hl.isList fun s₂ e2 st hne => ?_)
  subst e2
  refine ⟨_, _, _, _, _, _, _, rfl, Walks.list (A := X.A.in1) (I.ok.hd hc) _ a hne its.toArray, st, truth_bools hb, fun h' tk hk => ?_⟩
  refine ⟨.bl _, H, I.kept fun b o eo => hk b o (fun hmem => ?_) (Heap.get?_push_of_some _ eo), ?_, q⟩
  · rcases List.mem_cons.mp hmem with e1 | hmem
    · exact absurd (e1 ▸ Heap.lt_size eo) (Nat.lt_irrefl _)
    · cases hmem
  · show Value.bool _ = Value.bool _
    rw [← all_range, hb, List.size_toArray, List.length_map]
end

mutual
inductive Dp (K : PySem.W.Frag) (H : Hp) : V → PyData → Prop
  | non : Dp K H .non .none
  | bl (b : Bool) : Dp K H (.bl b) (.bool b)
  | int (i : Int) : Dp K H (.int i) (.int i)
  | str (x : Str) : Dp K H (.str x) (.str x)
  | lst {a : Addr} {xs : List V} {ds : List PyData} : SqL K H a xs → DpAll K H xs ds → Dp K H (.ref a) (.list ds)
  | tup {a : Addr} {xs : List V} {ds : List PyData} : SqT K H a xs → DpAll K H xs ds → Dp K H (.ref a) (.tuple ds)
inductive DpAll (K : PySem.W.Frag) (H : Hp) : List V → List PyData → Prop
  | nil : DpAll K H [] []
  | cons {v : V} {vs : List V} {d : PyData} {ds : List PyData} : Dp K H v d → DpAll K H vs ds → DpAll K H (v :: vs) (d :: ds)
end
section
variable {X : Cx} {pins : List (Addr × Obj)} {σ : St} {H : Hp} {s : Shared}
mutual
theorem Dp.reads (I : Inv X pins σ H s) : ∀ (d : PyData) (v : V) (u : Value), Dp X.K H v d → RelV v u → ∃ as, Reads s.heap u d as
  | .none, _, _, h, r => by
    cases h
    cases r
    exact ⟨_, Reads.none⟩
  | .bool b, _, _, h, r => by
    cases h
    cases r
    exact ⟨_, Reads.bool b⟩
  | .int i, _, _, h, r => by
    cases h
    obtain ⟨t, rfl⟩ := r
    exact ⟨_, Reads.int i t⟩
  | .str x, _, _, h, r => by
    cases h
    obtain ⟨t, rfl⟩ := r
    exact ⟨_, Reads.str x t⟩
  | .list ds, _, _, h, r => by
    cases h with
    | lst hs ha =>
      cases r
      obtain ⟨its, rv, ⟨o, n, ho, hc, _, hd⟩, _⟩ := I.list hs
      obtain ⟨as, hr⟩ := Dp.readsAll I ds _ its ha rv
      exact ⟨_, Reads.list ho hc hd hr⟩
  | .tuple ds, _, _, h, r => by
    cases h with
    | tup hs ha =>
      cases r
      obtain ⟨its, rv, ⟨o, ho, hc, n, hd⟩, _⟩ := I.tuple hs
      obtain ⟨as, hr⟩ := Dp.readsAll I ds _ its ha rv
      exact ⟨_, Reads.tuple ho hc hd hr⟩
  | .dict _, _, _, h, _ => by cases h
theorem Dp.readsAll (I : Inv X pins σ H s) : ∀ (ds : List PyData) (vs : List V) (us : List Value), DpAll X.K H vs ds → Vals vs us → ∃ as, ReadsAll s.heap us ds as
  | [], _, _, h, r => by
    cases h
    cases r
    exact ⟨_, ReadsAll.nil⟩
  | d :: ds, _, _, h, r => by
    cases h with
    | cons h1 h2 =>
      cases r with
      | cons r1 r2 =>
        obtain ⟨as, q1⟩ := Dp.reads I d _ _ h1 r1
        obtain ⟨bs, q2⟩ := Dp.readsAll I ds _ _ h2 r2
        exact ⟨_, ReadsAll.cons q1 q2⟩
end
end
section
variable {X : Cx}
def rEqD (K : PySem.W.Frag) : R2 := fun x y H Q => ∃ d e, Dp K H x d ∧ Dp K H y e ∧ SeqAt.shaped d = true ∧ SeqAt.shaped e = true ∧ Q (.bl (PyData.eqv d e)) H
def rNeD (K : PySem.W.Frag) : R2 := fun x y H Q => ∃ d e, Dp K H x d ∧ Dp K H y e ∧ SeqAt.shaped d = true ∧ SeqAt.shaped e = true ∧ Q (.bl (!PyData.eqv d e)) H
theorem op_eqD (hu : X.A.units + 64 < cLine) : OpR X (compareOp .Eq) (rEqD X.K) := by
  intro pins s σ H x y v u Q I rx ry h
  obtain ⟨d, e, hd, he, sd, se, q⟩ := h
  obtain ⟨as, r1⟩ := Dp.reads I d x v hd rx
  obtain ⟨bs, r2⟩ := Dp.reads I e y u he ry
  exact SeqAt.compareEq_shaped r1 r2 sd se hu ⟨.bl _, H, I, rfl, q⟩
theorem op_neD (hu : X.A.units + 64 < cLine) : OpR X (compareOp .NotEq) (rNeD X.K) := by
  intro pins s σ H x y v u Q I rx ry h
  obtain ⟨d, e, hd, he, sd, se, q⟩ := h
  obtain ⟨as, r1⟩ := Dp.reads I d x v hd rx
  obtain ⟨bs, r2⟩ := Dp.reads I e y u he ry
  exact SeqAt.compareNe_shaped r1 r2 sd se hu ⟨.bl _, H, I, rfl, q⟩
end
end L2

namespace L2
open PySem PySem.Spec PyProof.Rows
abbrev CellAt (h : Heap) (c : Addr) (v : Option Value) : Prop := h.IsCell c v
def relS (scope sc : Scope) : Scope :=
  { scope with names := scope.names.map fun (n, k) => if (k == .free && sc.kind == .function && sc.names.lookup n == some .cell) then (n, .cell) else (n, k) }

def cloFrom (cells : List (Str × Addr)) : List (Str × NameKind) → List (Str × Addr) → List (Str × Addr)
  | [], acc => acc
  | (n, k) :: r, acc => if k == .free then cloFrom cells r ((n, (cells.lookup n).getD 0) :: acc) else cloFrom cells r acc

theorem closure_loop (env : Env) (f : Str × NameKind → List (Str × Addr) → Sem (ForInStep (List (Str × Addr))))
    (hf : ∀ n k c, f (n, k) c = if k == .free then (do let a ← cellOf env n; pure (.yield ((n, a) :: c))) else pure (.yield c)) :
    ∀ (names : List (Str × NameKind)) (acc : List (Str × Addr)), (∀ y ∈ names, y.2 = .free → ∃ c, env.cells.lookup y.1 = some c) → forIn names acc f = pure (cloFrom env.cells names acc)
  | [], acc, _ => by rw [List.forIn_nil]; rfl
  | (n, k) :: r, acc, h => by
    rw [List.forIn_cons, hf]
    have ih := fun acc => closure_loop env f hf r acc fun y hy => h y (List.mem_cons_of_mem _ hy)
    unfold cloFrom
    by_cases hk : (k == NameKind.free) = true
    · rw [if_pos hk, if_pos hk]
      obtain ⟨c, hc⟩ := h (n, k) List.mem_cons_self (by simpa using hk)
      have e : cellOf env n = pure c := by unfold cellOf; rw [hc]
      rw [e]
      have e2 : (env.cells.lookup n).getD 0 = c := by rw [hc]; rfl
      rw [e2]
      exact ih _
    · rw [if_neg hk, if_neg hk]
      exact ih _
theorem closure_ok {scope : Scope} {env : Env} (h : ∀ y ∈ scope.names, y.2 = .free → ∃ c, env.cells.lookup y.1 = some c) : closureFor scope env = pure (cloFrom env.cells scope.names []) := by
  simp only [closureFor]
  rw [closure_loop env _ (fun n k c => rfl) scope.names [] h]
  rfl

theorem mem_lookup {α : Type} : ∀ {l : List (Str × α)} {n : Str} {c : α}, (n, c) ∈ l → ∃ c', l.lookup n = some c'
  | (k, v) :: r, n, c, h => by
    rw [List.lookup_cons]
    cases hb : n == k with
    | true => exact ⟨_, rfl⟩
    | false =>
      rcases List.mem_cons.mp h with e | h
      · cases e; simp at hb
      · exact mem_lookup h

theorem cloFrom_mem {cells : List (Str × Addr)} : ∀ {names : List (Str × NameKind)} {acc : List (Str × Addr)} {n : Str} {c : Addr}, (n, c) ∈ cloFrom cells names acc → (n, c) ∈ acc ∨ ((n, .free) ∈ names ∧ c = (cells.lookup n).getD 0)
  | [], _, _, _, h => .inl h
  | (m, k) :: r, acc, n, c, h => by
    unfold cloFrom at h
    split at h
    · rename_i hk
      have hk : k = .free := by simpa using hk
      rcases cloFrom_mem h with h | ⟨h1, h2⟩
      · rcases List.mem_cons.mp h with e | h
        · cases e; exact .inr ⟨hk ▸ List.mem_cons_self, rfl⟩
        · exact .inl h
      · exact .inr ⟨List.mem_cons_of_mem _ h1, h2⟩
    · rcases cloFrom_mem h with h | ⟨h1, h2⟩
      · exact .inl h
      · exact .inr ⟨List.mem_cons_of_mem _ h1, h2⟩
theorem cloFrom_acc {cells : List (Str × Addr)} : ∀ {names : List (Str × NameKind)} {acc : List (Str × Addr)} {p : Str × Addr}, p ∈ acc → p ∈ cloFrom cells names acc
  | [], _, _, h => h
  | (m, k) :: r, acc, p, h => by
    unfold cloFrom
    split
    · exact cloFrom_acc (List.mem_cons_of_mem _ h)
    · exact cloFrom_acc h
theorem cloFrom_has {cells : List (Str × Addr)} : ∀ {names : List (Str × NameKind)} {acc : List (Str × Addr)} {n : Str}, (n, .free) ∈ names → (n, (cells.lookup n).getD 0) ∈ cloFrom cells names acc
  | (m, k) :: r, acc, n, h => by
    unfold cloFrom
    rcases List.mem_cons.mp h with e | h
    · cases e
      exact cloFrom_acc List.mem_cons_self
    · split
      · exact cloFrom_has h
      · exact cloFrom_has h

theorem cells_mem : ∀ {names : List (Str × NameKind)} {h : Heap} {acc : List (Str × Addr)} {x : Str} {c : Addr}, (x, c) ∈ cellsFrom h.objs.size names acc →
    (x, c) ∈ acc ∨ ((x, .cell) ∈ names ∧ h.objs.size ≤ c ∧ CellAt (pushCells h names) c none)
  | [], _, _, _, _, h => .inl h
  | (n, k) :: r, h, acc, x, c, hm => by
    unfold cellsFrom at hm
    unfold pushCells
    split at hm
    · rename_i hk
      rw [if_pos hk]
      have hk : k = .cell := by simpa using hk
      rw [← Heap.size_push h { cls := .type "cell", data := .cell none }] at hm
      rcases cells_mem hm with hm | ⟨h1, h2, h3⟩
      · rcases List.mem_cons.mp hm with e | hm
        · cases e
          exact .inr ⟨hk ▸ List.mem_cons_self, Nat.le_refl _, _, pushCells_keeps r _ _ _ (Heap.get?_push_size _ rfl), rfl⟩
        · exact .inl hm
      · rw [Heap.size_push] at h2
        exact .inr ⟨List.mem_cons_of_mem _ h1, Nat.le_of_succ_le h2, h3⟩
    · rename_i hk
      rw [if_neg hk]
      rcases cells_mem hm with hm | ⟨h1, h2, h3⟩
      · exact .inl hm
      · exact .inr ⟨List.mem_cons_of_mem _ h1, h2, h3⟩
theorem cells_acc : ∀ {names : List (Str × NameKind)} {n : Nat} {acc : List (Str × Addr)} {p : Str × Addr}, p ∈ acc → p ∈ cellsFrom n names acc
  | [], _, _, _, h => h
  | (m, k) :: r, n, acc, p, h => by
    unfold cellsFrom
    split
    · exact cells_acc (List.mem_cons_of_mem _ h)
    · exact cells_acc h
theorem cells_has : ∀ {names : List (Str × NameKind)} {n : Nat} {acc : List (Str × Addr)} {x : Str}, (x, .cell) ∈ names → ∃ c, (x, c) ∈ cellsFrom n names acc
  | (m, k) :: r, n, acc, x, h => by
    unfold cellsFrom
    rcases List.mem_cons.mp h with e | h
    · cases e
      exact ⟨n, cells_acc List.mem_cons_self⟩
    · split
      · exact cells_has h
      · exact cells_has h
theorem cells_inj : ∀ {names : List (Str × NameKind)} {h : Heap} {acc : List (Str × Addr)} {x y : Str} {c : Addr}, (∀ p ∈ acc, p.2 < h.objs.size) → (∀ x y c, (x, c) ∈ acc → (y, c) ∈ acc → x = y) →
    (x, c) ∈ cellsFrom h.objs.size names acc → (y, c) ∈ cellsFrom h.objs.size names acc → x = y
  | [], _, _, _, _, _, _, hi, h1, h2 => hi _ _ _ h1 h2
  | (n, k) :: r, h, acc, x, y, c, hl, hi, h1, h2 => by
    unfold cellsFrom at h1 h2
    split at h1
    · rename_i hk
      rw [if_pos hk] at h2
      rw [← Heap.size_push h { cls := .type "cell", data := .cell none }] at h1 h2
      refine cells_inj (h := h.push _) (fun p hp => ?_) (fun x y c a b => ?_) h1 h2
      · rw [Heap.size_push]
        rcases List.mem_cons.mp hp with rfl | hp
        · exact Nat.lt_succ_self _
        · exact Nat.lt_succ_of_lt (hl p hp)
      · rcases List.mem_cons.mp a with e | a <;> rcases List.mem_cons.mp b with e' | b
        · cases e; cases e'; rfl
        · cases e; exact absurd (hl _ b) (Nat.lt_irrefl _)
        · cases e'; exact absurd (hl _ a) (Nat.lt_irrefl _)
        · exact hi _ _ _ a b
    · rename_i hk
      rw [if_neg hk] at h2
      exact cells_inj hl hi h1 h2

theorem newEnv_comp {M : Model} {A : Around} {E : Value → Shared → Prop} {s : Shared} {scope : Scope} {globals : Addr} {closure : List (Str × Addr)} {qual : Str} {func : Option Addr} {code : Value} {around : Env} {builtins : Addr} {Q : Env → Shared → Prop}
    (h : Q (newEnv scope s.heap.objs.size globals (cellsFrom (s.heap.objs.size + 1) scope.names closure) qual func code (some around) builtins)
      { s with heap := pushCells (s.heap.push { cls := .type "dict", data := .dict #[] }) scope.names }) :
    wpAny M A (newFunctionEnv scope globals closure [] qual func code (some around) builtins) Q E s := by
  simp only [newFunctionEnv, Option.isSome_some, if_true]
  refine wpAny_bind (wpAny_alloc ?_)
  refine wpAny_bind (wpAny_layCells _ (fun n k c => rfl) scope.names closure _ _ ?_)
  rw [show ({ s with heap := s.heap.push { cls := .type "dict", data := .dict #[] } } : Shared).heap.objs.size = s.heap.objs.size + 1 from Heap.size_push ..]
  rw [List.forIn_nil]
  exact wpAny_bind (wpAny_pure (wpAny_pure h))

/-- every name of the written scope, in the scope that runs -/
theorem lookup_relS {sc : Scope} : ∀ {names : List (Str × NameKind)} {x : Str} {k : NameKind},
    (names.map fun (n, k) => if (k == NameKind.free && sc.kind == .function && sc.names.lookup n == some .cell) then (n, NameKind.cell) else (n, k)).lookup x = some k →
    ∃ k', names.lookup x = some k' ∧ (k = k' ∨ (k' = .free ∧ k = .cell))
  | [], _, _, h => by simp at h
  | (n, k₀) :: r, x, k, h => by
    have ih := @lookup_relS sc r x k
    have h' : List.lookup x ((if (k₀ == NameKind.free && sc.kind == .function && sc.names.lookup n == some .cell) = true then (n, NameKind.cell) else (n, k₀)) :: (r.map _)) = some k := h
    cases hx : x == n with
    | true =>
      simp only [List.lookup_cons, hx]
      by_cases hc : (k₀ == NameKind.free && sc.kind == .function && sc.names.lookup n == some .cell) = true
      · rw [if_pos hc] at h'
        simp only [List.lookup_cons, hx] at h'
        cases h'
        simp only [Bool.and_eq_true, beq_iff_eq] at hc
        exact ⟨k₀, rfl, .inr ⟨hc.1.1, rfl⟩⟩
      · rw [if_neg hc] at h'
        simp only [List.lookup_cons, hx] at h'
        cases h'
        exact ⟨_, rfl, .inl rfl⟩
    | false =>
      simp only [List.lookup_cons, hx]
      by_cases hc : (k₀ == NameKind.free && sc.kind == .function && sc.names.lookup n == some .cell) = true
      · rw [if_pos hc] at h'
        simp only [List.lookup_cons, hx] at h'
        exact ih h'
      · rw [if_neg hc] at h'
        simp only [List.lookup_cons, hx] at h'
        exact ih h'
/-- the names of a comprehension's block: its own (with their places in N), or captured -/
structure BlkOk (N : List Str) (sc scope : Scope) (own : List (Str × Nat)) : Prop where
  kind : scope.kind = .function
  uniq : ∀ y ∈ scope.names, scope.names.lookup y.1 = some y.2
  ix : ∀ p ∈ own, N[p.2]? = some p.1
  free : ∀ y ∈ scope.names, y.2 = .free → sc.names.lookup y.1 = some .cell ∨ sc.names.lookup y.1 = some .free
  own : ∀ y ∈ scope.names, y.2 = .local ∨ y.2 = .cell → y.1 ∈ own.map (·.1) ∨ y.1 ∉ N
/-- the slots of the block's own names forgotten -/
def wipe (σ : St) : List Nat → St
  | [] => σ
  | v :: vs => (wipe σ vs).set v none
theorem wipe_length (σ : St) : ∀ vs : List Nat, (wipe σ vs).length = σ.length
  | [] => rfl
  | v :: vs => by unfold wipe; rw [List.length_set, wipe_length σ vs]
theorem wipe_some {σ : St} {i : Nat} {x : V} : ∀ {vs : List Nat}, (wipe σ vs)[i]? = some (some x) → σ[i]? = some (some x) ∧ i ∉ vs
  | [], h => ⟨h, by simp⟩
  | v :: vs, h => by
    unfold wipe at h
    by_cases hi : v = i
    · subst hi
      by_cases hv : v < (wipe σ vs).length
      · rw [List.getElem?_set_self hv] at h; cases h
      · rw [List.getElem?_eq_none (by simpa using hv)] at h; cases h
    · rw [List.getElem?_set_ne hi] at h
      obtain ⟨h1, h2⟩ := wipe_some h
      exact ⟨h1, by simp only [List.mem_cons, not_or]; exact ⟨fun e => hi e.symm, h2⟩⟩

/-- the context of a block that starts at s, its iterator's objects at fp -/
abbrev Cx.blk (X : Cx) (s : Shared) (H : Hp) (scope : Scope) (cenv : Env) (fp : List Addr) : Cx := { X with s_0 := s, H_0 := H, env := cenv, outer := X.stack, ex := fp, fn := fun x => scope.names.lookup x == some .cell, pn := [], xe := fun _ _ => False }
section
variable {X : Cx} {pins : List (Addr × Obj)} {σ : St} {H : Hp} {s : Shared}
theorem block_start {scope : Scope} {own : List (Str × Nat)} {fp : List Addr} (I : Inv X pins σ H s) (ok : BlkOk X.N X.env.scope scope own) (hN : X.N.Nodup) (hfp : ∀ b ∈ fp, FpOk X pins H b ∧ b < s.heap.objs.size) :
    Inv (X.blk s H scope (compEnvC scope (cellsFrom (s.heap.objs.size + 1) scope.names (cloFrom X.env.cells scope.names [])) s.heap.objs.size X.env) fp) [] (wipe σ (own.map (·.2))) H { s with heap := pushCells (s.heap.push { cls := .type "dict", data := .dict #[] }) scope.names } := by
  have hfree : ∀ y ∈ scope.names, y.2 = .free → ∃ c, X.env.cells.lookup y.1 = some c := fun y hy e => by
    rcases ok.free y hy e with k | k
    · exact I.ok.has _ (.inl k)
    · exact I.ok.has _ (.inr k)
  generalize hcenv : compEnvC scope (cellsFrom (s.heap.objs.size + 1) scope.names (cloFrom X.env.cells scope.names [])) s.heap.objs.size X.env = cenv
  have kp : ∀ b o, s.heap.get? b = some o → (pushCells (s.heap.push { cls := .type "dict", data := .dict #[] }) scope.names).get? b = some o := fun b o e => pushCells_keeps _ _ _ _ (Heap.get?_push_of_some _ e)
  have hL : cenv.locals = s.heap.objs.size := by rw [← hcenv]; rfl
  have hcl : cenv.cells = cellsFrom (s.heap.objs.size + 1) scope.names (cloFrom X.env.cells scope.names []) := by rw [← hcenv]; rfl
  have hsc : cenv.scope = relS scope X.env.scope := by rw [← hcenv]; rfl
  rw [← Heap.size_push s.heap { cls := .type "dict", data := .dict #[] }] at hcl
  have cm : ∀ {y c}, (y, c) ∈ cloFrom X.env.cells scope.names [] → X.env.cells.lookup y = some c ∧ c < s.heap.objs.size := fun {y c} hm => by
    rcases cloFrom_mem hm with hm | ⟨h1, rfl⟩
    · cases hm
    · obtain ⟨c, hc⟩ := hfree _ h1 rfl
      rw [hc]
      obtain ⟨w, z⟩ := I.cell _ _ hc
      exact ⟨rfl, z.lt⟩
  have mem : ∀ {y c}, cenv.cells.lookup y = some c → (X.env.cells.lookup y = some c ∧ c < s.heap.objs.size) ∨ (s.heap.objs.size + 1 ≤ c ∧ CellAt (pushCells (s.heap.push { cls := .type "dict", data := .dict #[] }) scope.names) c none) := fun {y c} e => by
    rw [hcl] at e
    rcases cells_mem (PySem.mem_of_lookup e) with hm | ⟨_, h2, h3⟩
    · exact .inl (cm hm)
    · rw [Heap.size_push] at h2; exact .inr ⟨h2, h3⟩
  have look : ∀ {y}, scope.names.lookup y = some .free → ∃ c, cenv.cells.lookup y = some c ∧ X.env.cells.lookup y = some c := fun {y} hl => by
    have hy : (y, NameKind.free) ∈ scope.names := PySem.mem_of_lookup hl
    obtain ⟨c', e'⟩ := mem_lookup (cells_acc (names := scope.names) (n := (s.heap.push { cls := .type "dict", data := .dict #[] }).objs.size) (cloFrom_has (cells := X.env.cells) (acc := []) hy))
    rw [← hcl] at e'
    refine ⟨c', e', ?_⟩
    rw [hcl] at e'
    rcases cells_mem (PySem.mem_of_lookup e') with hm | ⟨h1, _, _⟩
    · exact (cm hm).1
    · have := ok.uniq _ h1
      rw [hl] at this; cases this
  have okB : (X.blk s H scope cenv fp).Ok := by
    refine ⟨I.ok.mod, by show cenv.scope.kind = _; rw [hsc]; exact ok.kind, by show cenv.globals = _; rw [← hcenv]; exact I.ok.glob, by show cenv.builtins = _; rw [← hcenv]; exact I.ok.blt, by show s.heap.objs.size ≤ cenv.locals; rw [hL]; exact Nat.le_refl _,
      fun y z c e1 e2 => ?_, fun y hy => ?_, fun y c z e => ?_, I.ok.hd, I.ok.frames, .inl rfl, fun b hb => ⟨?_, fun y c e z => ?_⟩, I.bs, Nat.le_trans I.ok.bsz I.sz, fun b o e hb => ?_, fun b hb z => ?_, I.stack, I.stkFree⟩
    · have e1 : cenv.cells.lookup y = some c := e1
      have e2 : cenv.cells.lookup z = some c := e2
      rw [hcl] at e1 e2
      refine cells_inj (fun p hp => ?_) (fun y z c a b => I.ok.inj y z c (cm a).1 (cm b).1) (PySem.mem_of_lookup e1) (PySem.mem_of_lookup e2)
      rw [Heap.size_push]
      exact Nat.lt_succ_of_lt (cm (y := p.1) (c := p.2) hp).2
    · show ∃ c, cenv.cells.lookup y = some c
      have key : ∀ k, cenv.kindOf y = some k → (k = .cell ∨ k = .free) → ∃ c, cenv.cells.lookup y = some c := fun k hk hk' => by
        unfold Env.kindOf at hk
        rw [hsc] at hk
        obtain ⟨k', e, r⟩ := lookup_relS hk
        have : k' = .cell ∨ k' = .free := by
          rcases r with rfl | ⟨rfl, _⟩
          · exact hk'
          · exact .inr rfl
        rcases this with rfl | rfl
        · obtain ⟨c, hm⟩ := cells_has (n := (s.heap.push { cls := .type "dict", data := .dict #[] }).objs.size) (acc := cloFrom X.env.cells scope.names []) (PySem.mem_of_lookup e)
          obtain ⟨c', e'⟩ := mem_lookup hm
          exact ⟨c', by rw [hcl]; exact e'⟩
        · obtain ⟨c, h1, _⟩ := look e
          exact ⟨c, h1⟩
      rcases hy with hy | hy
      · exact key _ hy (.inl rfl)
      · exact key _ hy (.inr rfl)
    · have z : (scope.names.lookup y == some NameKind.cell) = true := z
      have z : scope.names.lookup y = some .cell := by simpa using z
      have e : cenv.cells.lookup y = some c := e
      rw [hcl] at e
      rcases cells_mem (PySem.mem_of_lookup e) with hm | ⟨_, h2, _⟩
      · rcases cloFrom_mem hm with hm | ⟨h1, _⟩
        · cases hm
        · have q := ok.uniq _ h1
          rw [z] at q; cases q
      · rw [Heap.size_push] at h2
        exact Nat.le_of_succ_le h2
    · show b ≠ cenv.locals
      rw [hL]; exact Nat.ne_of_lt (hfp b hb).2
    · have e : cenv.cells.lookup y = some c := e
      rcases mem e with ⟨h1, _⟩ | ⟨h1, _⟩
      · exact (hfp b hb).1.2.2.2.2.1 y c h1 z
      · have h2 : s.heap.objs.size + 1 ≤ b := by rw [← z]; exact h1
        exact absurd (Nat.lt_of_lt_of_le (hfp b hb).2 (Nat.le_of_succ_le h2)) (Nat.lt_irrefl _)
    · rcases (hfp b hb).1.2.2.2.1 with z | z
      · exact I.ok.noex b o e z
      · exact absurd (Nat.lt_of_lt_of_le (Heap.lt_size e) (Nat.le_trans I.ok.bsz z)) (Nat.lt_irrefl _)
    · rcases List.mem_cons.mp (I.stkSub b z) with z | z
      · exact (hfp b hb).1.2.1 z
      · exact (hfp b hb).1.2.2.1 z
  refine ⟨okB, rfl, I.bare, Un.kept kp, ⟨fun _ => none, ?_, fun i y av e1 e2 e3 => ?_⟩, fun y c e => ?_, ?_, fun y c e => ?_, fun p hp => ?_, I.hok.kept kp, by rw [wipe_length]; exact I.len⟩
  · show Heap.Ns _ cenv.locals _
    rw [hL]
    exact Heap.Ns.keeps (Heap.Ns.new ..) fun b o e => pushCells_keeps _ _ _ _ e
  · obtain ⟨e2, hne⟩ := wipe_some e2
    have hfr : scope.names.lookup y = some .free ∧ (cenv.kindOf y = some .cell ∨ cenv.kindOf y = some .free) := by
      have key : ∀ k, cenv.scope.names.lookup y = some k → k = .local ∨ k = .cell ∨ k = .free → scope.names.lookup y = some .free ∧ (cenv.kindOf y = some .cell ∨ cenv.kindOf y = some .free) := fun k hk hk' => by
        have hk0 := hk
        rw [hsc] at hk
        obtain ⟨k', e, r⟩ := lookup_relS hk
        have no : ¬ (k' = .local ∨ k' = .cell) := fun hh => by
          rcases ok.own _ (PySem.mem_of_lookup e) hh with e' | e'
          · obtain ⟨p, hp, hpy⟩ := List.mem_map.mp e'
            have e3 := ok.ix p hp
            have : p.1 = y := hpy
            rw [this] at e3
            exact hne (List.mem_map.mpr ⟨p, hp, nodup_ix hN e3 e1⟩)
          · exact e' (List.mem_of_getElem? e1)
        rcases r with rfl | ⟨rfl, rfl⟩
        · rcases hk' with rfl | rfl | rfl
          · exact absurd (.inl rfl) no
          · exact absurd (.inr rfl) no
          · exact ⟨e, .inr hk0⟩
        · exact ⟨e, .inl hk0⟩
      have e3 : Vis cenv.scope y := e3
      rcases e3 with e3 | e3 | e3
      · exact key _ e3 (.inl rfl)
      · exact key _ e3 (.inr (.inl rfl))
      · exact key _ e3 (.inr (.inr rfl))
    obtain ⟨m, hn, hl⟩ := I.loc
    have hvis : Vis X.env.scope y := (ok.free _ (PySem.mem_of_lookup hfr.1) rfl).elim (fun k => .inr (.inl k)) (fun k => .inr (.inr k))
    obtain ⟨w, r, q⟩ := hl i y av e1 e2 hvis
    refine ⟨w, r, .inr ⟨hfr.2, ?_⟩⟩
    obtain ⟨c, h1, h2⟩ := look hfr.1
    rcases q with ⟨k, _⟩ | ⟨_, c', e', z⟩
    · have k : X.env.scope.names.lookup y = some .local := k
      rcases ok.free _ (PySem.mem_of_lookup hfr.1) rfl with k' | k' <;> rw [show X.env.scope.names.lookup y = _ from k'] at k <;> cases k
    · rw [h2] at e'; cases e'
      exact ⟨c, h1, z.keeps kp⟩
  · have e : cenv.cells.lookup y = some c := e
    rcases mem e with ⟨h1, _⟩ | ⟨_, z⟩
    · obtain ⟨w, z⟩ := I.cell y c h1
      exact ⟨w, z.keeps kp⟩
    · exact ⟨_, z⟩
  · show H cenv.locals = none
    rw [hL]; exact I.hok.fresh (Nat.le_refl _)
  · have e : cenv.cells.lookup y = some c := e
    rcases mem e with ⟨h1, _⟩ | ⟨h1, _⟩
    · exact I.freeC y c h1
    · exact I.hok.fresh (Nat.le_of_succ_le h1)
  · exact absurd (show p ∈ ([] : List (Addr × Obj)) ++ [] from hp) (by simp)

/-- an item appended to a tracked list -/
theorem app_ok {E : Value → Shared → Prop} {D : Addr} {xs : List V} {y : V} {v : Value} {Q : Value → Shared → Prop} (I : Inv X pins σ H s) (hD : H D = some (.lst xs)) (hz : xs.length < sizeLine) (r : RelV y v)
    (h : ∀ s', Inv X pins σ (upd H D (.lst (xs ++ [y]))) s' → Q .none s') : wpAny (model X.prog X.w) X.A (call (.builtin "list.append") [.ref D, v]) Q E s := by
  obtain ⟨hz', its, n, ri, e⟩ := I.hok D _ hD
  have hl := ri.length
  refine append_at (hsz := by rw [List.size_toArray]; omega) e fun h' sb ho' => ?_
  refine h { s with heap := h' } (I.write (t' := s.toks) (by rw [hD]; trivial) (.inl rfl) (fun b u hb q => (sb.2 b hb).trans q) ⟨_, ho'⟩ ⟨by rw [List.length_append]; exact hz, its ++ [v], n + 1, ri.append (.cons r .nil), ?_⟩)
  rw [ho']
  simp

/-- a clause's tests -/
def PTs (X : Cx) (ifs : List Expr) (t : TT) : Prop :=
  ∀ (pins : List (Addr × Obj)) (s : Shared) (σ : St) (H : Hp) (Q : Bool → Hp → Prop), Inv X pins σ H s → t σ H Q →
    wpAny (model X.prog X.w) X.A (forIn ifs true fun c r => if r = true then do let ok ← isTrue c X.env (eval c X.env); pure (ForInStep.yield ok) else pure (ForInStep.yield r)) (TP X pins σ Q) X.xe s
def tYes : TT := fun _ H Q => Q true H
theorem pts_nil : PTs X [] tYes := fun _ _ _ H _ I h => wpAny_tests_nil ⟨H, I, h⟩
theorem pts_one {c : Expr} {t : TT} (h : PT X c t) : PTs X [c] t := fun pins s σ H Q I hw => wpAny_tests_one (h pins s σ H Q I hw)
end

theorem thnF {α : Type} {t : Sem α} {Q Q' : α → Shared → Prop} {M : Model} {A : Around} {E : Value → Shared → Prop} {s : Shared} (h : wpAny M A t Q (fun _ _ => False) s) (hQ : ∀ a s, Q a s → Q' a s) : wpAny M A t Q' E s := wpAny_mono h hQ fun _ _ z => False.elim z

/-- the loop of a list comprehension's block, the target of any form (codeAny_compLoop_tests asks a target that no tuple goes to; statement and proof follow it, PyProof/CompMap.lean:41-61, with the step letOwnedTupleGo kept) -/
theorem compLoop_any {prog : Program} {w : World} {A : Around} {R : Result → Shared → Prop} {s : Shared} {elt target iter : Expr} {ifs : List Expr} {scope : Scope} {pos : Pos} {it acc : Value} {env : Env} (I : Nat → Shared → Prop)
    (turn : ∀ n s, I n s → wpAny (model prog w) A (pyNext it) (fun r s₁ => match r with
      | none => R (.ok .next) s₁
      | some v => wpAny (model prog w) A (letOwnedTupleGo target it v) (fun _ s₁' => wpAny (model prog w) A (assign target env v) (fun _ s₂ =>
          wpAny (model prog w) A (forIn ifs true fun c r => if r = true then do let ok ← isTrue c env (eval c env); pure (ForInStep.yield ok) else pure (ForInStep.yield r)) (fun ok s₃ =>
            if ok = true then wpAny (model prog w) A (eval elt env) (fun x s₄ =>
              wpAny (model prog w) A (call (.builtin "list.append") [acc, x]) (fun _ s₅ => ∃ m, m < n ∧ I m s₅) (notedBy (model prog w) A env fun e s' => R (.error e) s') s₄) (notedBy (model prog w) A env fun e s' => R (.error e) s') s₃
            else ∃ m, m < n ∧ I m s₃) (notedBy (model prog w) A env fun e s' => R (.error e) s') s₂) (notedBy (model prog w) A env fun e s' => R (.error e) s') s₁') (notedBy (model prog w) A env fun e s' => R (.error e) s') s₁) (notedBy (model prog w) A env fun e s' => R (.error e) s') s)
    (n : Nat) (h : I n s) :
    codeAny (model prog w) A (.compLoop (.ListComp elt [⟨target, iter, ifs, 0⟩] scope pos) 0 it acc env) R s := by
  refine codeAny_loop rfl I (fun n s hI => ?_) n h
  show wpAny _ A ((compTurn (.ListComp elt [⟨target, iter, ifs, 0⟩] scope pos) 0 it acc env).onRaise (fun x => do noteFrame x env; theTreesLotGoes x)) _ _ s
  refine wpAny_noted ?_
  rw [compTurn_list]
  refine wpAny_bind (wpAny_standAt (wpAny_bind (wpAny_mono (turn n s hI) (fun r s₁ h₁ => ?_) fun _ _ h' => h')))
  cases r with
  | none => exact wpAny_pure h₁
  | some v =>
    refine wpAny_bind (wpAny_mono h₁ (fun _ s₁' h₁' => ?_) fun _ _ h' => h')
    refine wpAny_bind (wpAny_mono h₁' (fun _ s₂ h₂ => wpAny_bind (wpAny_mono h₂ (fun ok s₃ h₃ => ?_) fun _ _ h' => h')) fun _ _ h' => h')
    cases ok with
    | false => exact wpAny_pure ⟨rfl, h₃⟩
    | true =>
      exact wpAny_bind (wpAny_bind (wpAny_mono h₃ (fun x s₄ h₄ => wpAny_bind (wpAny_mono h₄ (fun _ s₅ h₅ => wpAny_pure (wpAny_pure ⟨rfl, h₅⟩)) fun _ _ h' => h')) fun _ _ h' => h'))

section
variable {X : Cx}
/-- [elt for target in iter if ..]: D the new list; W by the turn and a measure, Nx what a turn is to reach -/
def tLc (wi : TI) (g : TG) (tt : TT) (te : TE) (vs : List Nat) : TE := fun σ H Q => wi σ H fun J H1 => ∀ D, H1 D = none → ∃ W : Nat → Nat → Hp → Prop, (∃ m, W 0 m (upd H1 D (.lst []))) ∧ ∀ i m H, W i m H →
  (J.stop i H ∧ Q (.ref D) H) ∨ (J.go i H ∧ ∃ Nx : Hp → Prop, (∀ H', Nx H' → ∃ m', m' < m ∧ W (i + 1) m' H') ∧ ∀ x H', J.yld i H x H' → g x (wipe σ vs) H' fun σ2 H2 => wipe σ2 vs = wipe σ vs ∧ tt σ2 H2 fun b H3 =>
    if b = true then te σ2 H3 fun y H4 => ∃ acc, H4 D = some (.lst acc) ∧ acc.length < sizeLine ∧ Nx (upd H4 D (.lst (acc ++ [y]))) else Nx H3)
theorem lc_core {pins : List (Addr × Obj)} {s : Shared} {σ : St} {H : Hp} {Q : VK} {elt tg iter : Expr} {ifs : List Expr} {scope : Scope} {own : List (Str × Nat)} {pos pos' : Pos} {wi : TI} {g : TG} {tt : TT} {te : TE} {use : Option (Value → Sem Unit)} {Qf : Value → Shared → Prop}
    (hc : X.calm = true) (hN : X.N.Nodup) (I : Inv X pins σ H s) (hi : PI X tg iter wi) (ok : BlkOk X.N X.env.scope scope own)
    (hg : ∀ (s : Shared) (H : Hp) (C : Addr) (cl : List (Str × Addr)) (fp : List Addr), PG (X.blk s H scope (compEnvC scope cl C X.env) fp) tg g) (ht : ∀ (s : Shared) (H : Hp) (C : Addr) (cl : List (Str × Addr)) (fp : List Addr), PTs (X.blk s H scope (compEnvC scope cl C X.env) fp) ifs tt)
    (he : ∀ (s : Shared) (H : Hp) (C : Addr) (cl : List (Str × Addr)) (fp : List Addr), PE (X.blk s H scope (compEnvC scope cl C X.env) fp) elt te) (hs : ∀ x, foldedSetIterable iter X.env x = pure x)
    (h : tLc wi g tt te (own.map (·.2)) σ H Q)
    (hRR : ∀ D C s' m H', Inv X pins σ H' s' → Q (.ref D) H' → s'.heap.Ns C m → FpOk X pins H' C → compPost (model X.prog X.w) X.A X.xe use Qf (.ref D) C (.ok .next) s') :
    wpAny (model X.prog X.w) X.A (comprehension (.ListComp elt [⟨tg, iter, ifs, 0⟩] scope pos) scope X.env pos' (newList []) false (eval iter X.env) use) Qf X.xe s := by
  have hfree : ∀ y ∈ scope.names, y.2 = .free → ∃ c, X.env.cells.lookup y.1 = some c := fun y hy e => by
    rcases ok.free y hy e with k | k
    · exact I.ok.has _ (.inl k)
    · exact I.ok.has _ (.inr k)
  refine wpAny_comprehension_free (use := use) rfl hs (closure_ok hfree) ok.kind (fun y hy e => by rw [ok.uniq y hy, e])
    (thn (hi pins s σ H _ I h) fun xv s1 hx => thn hx fun itv s2 h2 => ?_)
  obtain ⟨it, fp, tn, J, H2, e, I2, T, st2, f2, q⟩ := h2
  subst e
  refine wpAny_newObj_type (newEnv_comp ?_) (by show 0 ≤ sizeLine; decide)
  generalize hD : s2.heap.objs.size = D
  have hDn : H2 D = none := I2.hok.fresh (Nat.le_of_eq hD)
  obtain ⟨W, ⟨m0, w0⟩, turn⟩ := q D hDn
  -- the new list
  generalize hs3 : ({ s2 with heap := s2.heap.push { cls := .type "list", data := .seq ([] : List Value).toArray } } : Shared) = s3
  have I3 : Inv X pins σ (upd H2 D (.lst [])) s3 := by
    rw [← hs3]
    refine I2.laid (t' := s2.toks) (fun b o e => Heap.get?_push_of_some _ e) (Nat.le_of_eq hD) ⟨Nat.zero_le _, [], 0, .nil, ?_⟩
    rw [← hD]
    exact Heap.get?_push_size _ rfl
  have h3 : s3.heap = s2.heap.push { cls := .type "list", data := .seq ([] : List Value).toArray } := by rw [← hs3]
  have sz : ∀ b ∈ fp, b < s2.heap.objs.size := fun b hb => by
    obtain ⟨o, e, _⟩ := T.obj _ _ st2 b hb
    exact Heap.lt_size e
  have f3 : ∀ b ∈ fp, FpOk X pins (upd H2 D (.lst [])) b ∧ b < s3.heap.objs.size := fun b hb => by
    have hlt := sz b hb
    refine ⟨⟨?_, (f2 b hb).2⟩, by rw [h3, Heap.size_push]; exact Nat.lt_succ_of_lt hlt⟩
    rw [upd_ne (by rw [← hD]; exact Nat.ne_of_lt hlt)]
    exact (f2 b hb).1
  have st3 : tn 0 s3.heap := T.keep _ _ _ st2 fun b _ o e => by rw [h3]; exact Heap.get?_push_of_some _ e
  have I4 := block_start I3 ok hN f3
  have pg := hg s3 (upd H2 D (.lst [])) s3.heap.objs.size (cellsFrom (s3.heap.objs.size + 1) scope.names (cloFrom X.env.cells scope.names [])) fp
  have pt := ht s3 (upd H2 D (.lst [])) s3.heap.objs.size (cellsFrom (s3.heap.objs.size + 1) scope.names (cloFrom X.env.cells scope.names [])) fp
  have pe := he s3 (upd H2 D (.lst [])) s3.heap.objs.size (cellsFrom (s3.heap.objs.size + 1) scope.names (cloFrom X.env.cells scope.names [])) fp
  show codeAny _ _ (.compStart (.ListComp elt [⟨tg, iter, ifs, 0⟩] scope pos) 0 (.ref it) (.ref D) (compEnvC scope (cellsFrom (s3.heap.objs.size + 1) scope.names (cloFrom X.env.cells scope.names [])) s3.heap.objs.size X.env)) (compPost (model X.prog X.w) X.A X.xe use Qf (.ref D) s3.heap.objs.size) { s3 with heap := pushCells (s3.heap.push { cls := .type "dict", data := .dict #[] }) scope.names }
  have nfp : ∀ b ∈ fp, (upd H2 D (.lst [])) b = none := fun b hb => (f3 b hb).1.1
  generalize hce : compEnvC scope (cellsFrom (s3.heap.objs.size + 1) scope.names (cloFrom X.env.cells scope.names [])) s3.heap.objs.size X.env = ce at I4 pg pt pe ⊢
  have cL : ce.locals = s3.heap.objs.size := by subst hce; rfl
  generalize hH3 : upd H2 D (.lst []) = H3 at I3 I4 pg pt pe w0 nfp f3
  generalize hs4 : ({ s3 with heap := pushCells (s3.heap.push { cls := .type "dict", data := .dict #[] }) scope.names } : Shared) = s4 at I4 ⊢
  have st4 : tn 0 s4.heap := T.keep _ _ _ st3 fun b _ o e => by rw [← hs4]; exact pushCells_keeps _ _ _ _ (Heap.get?_push_of_some _ e)
  have stat : ∀ {σ' : St} {H' : Hp} {s' : Shared}, Inv (X.blk s3 H3 scope ce fp) [] σ' H' s' → (∀ b ∈ fp, H' b = none) → ∀ b ∈ fp, FpOk (X.blk s3 H3 scope ce fp) [] H' b := fun {σ' H' s'} I' hn b hb =>
    ⟨hn b hb, (I'.ok.exf b hb).1, I'.ok.exfs b hb, .inl hb, fun x c e => (I'.ok.exf b hb).2 x c e, fun p hp => absurd (show p ∈ ([] : List (Addr × Obj)) ++ [] from hp) (by simp)⟩
  have loop : codeAny (model X.prog X.w) X.A (.compLoop (.ListComp elt [⟨tg, iter, ifs, 0⟩] scope pos) 0 (.ref it) (.ref D) ce) (compPost (model X.prog X.w) X.A X.xe use Qf (.ref D) s3.heap.objs.size) s4 := by
    refine compLoop_any (fun n s' => ∃ i H', Inv (X.blk s3 H3 scope ce fp) [] (wipe σ (own.map (·.2))) H' s' ∧ tn i s'.heap ∧ (∀ b ∈ fp, H' b = none) ∧ W i n H') ?_ m0 ⟨0, H3, I4, st4, nfp, w0⟩
    rintro n s5 ⟨i, H5, I5, st5, n5, w5⟩
    rcases turn i n H5 w5 with ⟨stop, qq⟩ | ⟨go, Nx, hNx, step⟩
    · have td := T.done (X.blk s3 H3 scope ce fp) rfl rfl rfl hc i [] s5 _ H5 (fun _ _ => False) I5 (stat I5 n5) st5 stop
      refine thnF td fun r s6 ⟨hr, I6⟩ => ?_
      subst hr
      -- back in the def's context
      have I7 : Inv X pins σ H5 s6 := I3.call' (ch := fp) I6.os I6.base I6.hok I6.bare fun b hb => ⟨(f3 b hb).1.2.2.2.1, (f3 b hb).1.2.1, (f3 b hb).1.2.2.2.2.1, (f3 b hb).1.2.2.2.2.2⟩
      have nC : H5 s3.heap.objs.size = none := by
        have z : H5 ce.locals = none := I6.free
        rw [cL] at z
        exact z
      obtain ⟨m, hn, _⟩ := I6.loc
      have hn : s6.heap.Ns ce.locals m := hn
      rw [cL] at hn
      exact hRR D s3.heap.objs.size s6 m H5 I7 qq hn (I3.fpOk (Nat.le_refl _) nC)
    · have ti := T.item (X.blk s3 H3 scope ce fp) rfl rfl rfl hc i [] s5 _ H5 (fun _ _ => False) I5 (stat I5 n5) st5 go
      refine thnF ti fun r s6 ⟨u, hr, h6⟩ => ?_
      subst hr
      refine thnF h6 fun _ s7 ⟨x, H7, I7, r7, y7, st7, n7⟩ => ?_
      have I7' := I7.pinned (stat I7 n7) (T.obj _ _ st7)
      refine thnF (pg _ s7 _ H7 x u _ I7' r7 (step x H7 y7)) fun _ s8 ⟨σ8, H8, I8, hw8, q8⟩ => ?_
      refine thnF (pt _ s8 σ8 H8 _ I8 q8) fun b s9 ⟨H9, I9, q9⟩ => ?_
      -- the turn's end
      have fin : ∀ {s' : Shared} {H' : Hp}, Inv (X.blk s3 H3 scope ce fp) ([] ++ pinsAt fp s7.heap) σ8 H' s' → Nx H' → ∃ m, m < n ∧ ∃ i H', Inv (X.blk s3 H3 scope ce fp) [] (wipe σ (own.map (·.2))) H' s' ∧ tn i s'.heap ∧ (∀ b ∈ fp, H' b = none) ∧ W i m H' := fun {s' H'} I' nx => by
        obtain ⟨m', hm, w'⟩ := hNx H' nx
        have pin' : ∀ b ∈ fp, ∀ o, s7.heap.get? b = some o → s'.heap.get? b = some o ∧ H' b = none := fun b hb o e =>
          let z := I'.pin (b, o) (List.mem_append_right _ (List.mem_append_right _ (mem_pinsAt hb e)))
          ⟨z.1, z.2.1⟩
        have hl : (wipe σ (own.map (·.2))).length = σ8.length := by rw [← hw8, wipe_length]
        refine ⟨m', hm, i + 1, H', (I'.unpinned (pins := [])).weak hl (fun j v e => ?_), T.keep _ _ _ st7 fun b hb o e => (pin' b hb o e).1, fun b hb => ?_, w'⟩
        · rw [← hw8] at e
          exact (wipe_some e).1
        · obtain ⟨o, e, _⟩ := T.obj _ _ st7 b hb
          exact (pin' b hb o e).2
      cases b with
      | false =>
        simp only [Bool.false_eq_true, if_false] at q9 ⊢
        exact fin I9 q9
      | true =>
        simp only [if_true] at q9 ⊢
        refine thnF (pe _ s9 σ8 H9 _ I9 q9) fun z s10 ⟨yv, H10, I10, r10, acc, hD10, hz10, nx⟩ => ?_
        exact app_ok (X := X.blk s3 H3 scope ce fp) I10 hD10 hz10 r10 fun s11 I11 => fin I11 nx
  exact codeAny_compStart_list loop (T.self X.A 0 _ _ _ st4 loop)
/-- as a value -/
theorem pe_lc {elt tg iter : Expr} {ifs : List Expr} {scope : Scope} {own : List (Str × Nat)} {pos : Pos} {wi : TI} {g : TG} {tt : TT} {te : TE} (hc : X.calm = true) (hN : X.N.Nodup) (hi : PI X tg iter wi) (ok : BlkOk X.N X.env.scope scope own)
    (hg : ∀ (s : Shared) (H : Hp) (C : Addr) (cl : List (Str × Addr)) (fp : List Addr), PG (X.blk s H scope (compEnvC scope cl C X.env) fp) tg g) (ht : ∀ (s : Shared) (H : Hp) (C : Addr) (cl : List (Str × Addr)) (fp : List Addr), PTs (X.blk s H scope (compEnvC scope cl C X.env) fp) ifs tt)
    (he : ∀ (s : Shared) (H : Hp) (C : Addr) (cl : List (Str × Addr)) (fp : List Addr), PE (X.blk s H scope (compEnvC scope cl C X.env) fp) elt te) (hs : ∀ x, foldedSetIterable iter X.env x = pure x := by intro _; rfl) :
    PE X (.ListComp elt [⟨tg, iter, ifs, 0⟩] scope pos) (tLc wi g tt te (own.map (·.2))) := by
  intro pins s σ H Q I h
  rw [eval_ListComp]
  refine lc_core hc hN I hi ok hg ht he hs h fun D C s' m H' I' q hn f => ⟨m, hn, fun h'' sb => ?_⟩
  obtain ⟨f0, f1, f2, f3, f4, f5⟩ := f
  exact ⟨.ref D, H', I'.turned (t' := s'.toks) (fun b o hb e => (sb.2 b hb).trans e) f0 f1 f3 f4 f5, rfl, q⟩
/-- name = [..] on one line, the name a local -/
theorem ps_setLc {i : Nat} {y : Str} {py : Pos} {elt tg iter : Expr} {ifs : List Expr} {scope : Scope} {own : List (Str × Nat)} {pos spos : Pos} {wi : TI} {g : TG} {tt : TT} {te : TE} (hc : X.calm = true) (hN : X.N.Nodup) (hy : X.N[i]? = some y) (hyl : X.env.scope.names.lookup y = some .local)
    (hsw : swapsWith (.ListComp elt [⟨tg, iter, ifs, 0⟩] scope pos) (some (.Name y py)) spos.line X.env = pure true) (hi : PI X tg iter wi) (ok : BlkOk X.N X.env.scope scope own)
    (hg : ∀ (s : Shared) (H : Hp) (C : Addr) (cl : List (Str × Addr)) (fp : List Addr), PG (X.blk s H scope (compEnvC scope cl C X.env) fp) tg g) (ht : ∀ (s : Shared) (H : Hp) (C : Addr) (cl : List (Str × Addr)) (fp : List Addr), PTs (X.blk s H scope (compEnvC scope cl C X.env) fp) ifs tt)
    (he : ∀ (s : Shared) (H : Hp) (C : Addr) (cl : List (Str × Addr)) (fp : List Addr), PE (X.blk s H scope (compEnvC scope cl C X.env) fp) elt te) (hs : ∀ x, foldedSetIterable iter X.env x = pure x := by intro _; rfl) :
    PS X (.Assign [.Name y py] (.ListComp elt [⟨tg, iter, ifs, 0⟩] scope pos) spos) (tAsg (tLc wi g tt te (own.map (·.2))) (gName i)) := by
  intro pins s σ H D I h
  rw [exec_Assign_Name_used _ _ _ _ hsw]
  refine wpAny_bind (wpAny_standAt (wpAny_bind ?_))
  show wpAny _ X.A (do let _ ← comprehension (.ListComp elt [⟨tg, iter, ifs, 0⟩] scope pos) scope X.env (firstIterPos [⟨tg, iter, ifs, 0⟩] pos) (newList []) false (eval iter X.env) (some (assign (.Name y py) X.env))) _ _ s
  have h : tLc wi g tt te (own.map (·.2)) σ H (fun x H1 => gName i x σ H1 D.nx) := h
  refine wpAny_bind (thn (lc_core (Qf := fun _ s' => SP X pins D .next s') hc hN I hi ok hg ht he hs h fun L C s' m H' I' q hn f => ?_) fun _ s' hq => wpAny_pure (wpAny_pure hq))
  show wpAny _ _ (assign (.Name y py) X.env (.ref L)) _ _ _
  refine wpAny_assign_Name (store_ok2 (v := V.ref L) I' hN hy (.inl hyl) rfl (fun s2 I2 ⟨a, sb, ha⟩ => ?_) (.inr hyl))
  obtain ⟨f0, f1, f2, f3, f4, f5⟩ := f
  have haC : C ≠ a := by
    rcases ha with z | z
    · rw [z]; exact f1
    · exact fun e => f4 y a z e.symm
  refine ⟨m, hn.sameBut sb haC, fun h3 sb3 => ?_⟩
  exact ⟨_, H', I2.turned (t' := s2.toks) (fun b o hb e => (sb3.2 b hb).trans e) f0 f1 f3 f4 f5, q⟩
theorem sw_true {elt : Expr} {gs : List Comprehension} {scope : Scope} {pos py : Pos} {y : Str} {l : Nat} {env : Env} (hk : env.scope.kind = .function) (hy : env.scope.names.lookup y = some .local) (hl : (py.line == pos.line) = true)
    (ha : (scope.names.any fun (n, k) => n == y && (k == .local || k == .cell)) = false) : swapsWith (.ListComp elt gs scope pos) (some (.Name y py)) l env = pure true := by
  have ky : env.kindOf y = some .local := hy
  have hb : env.blockKind = .function := by unfold Env.blockKind; rw [hk]; rfl
  unfold swapsWith
  simp only [hb, ky, ha, Expr.pos, hl]
  rfl
end

def blkC (N : List Str) (sc scope : Scope) (own : List (Str × Nat)) : Bool :=
  (match scope.kind with | .function => true | _ => false) && (scope.names.all fun y => decide (scope.names.lookup y.1 = some y.2)) && (own.all fun p => decide (N[p.2]? = some p.1)) &&
    (scope.names.all fun y => match y.2 with
      | .free => (match sc.names.lookup y.1 with | some .cell => true | some .free => true | _ => false)
      | .local => decide (y.1 ∈ own.map (·.1)) || decide (y.1 ∉ N)
      | .cell => decide (y.1 ∈ own.map (·.1)) || decide (y.1 ∉ N)
      | _ => true)
theorem blkOk_by {N : List Str} {sc scope : Scope} {own : List (Str × Nat)} (h : blkC N sc scope own = true) : BlkOk N sc scope own := by
  unfold blkC at h
  simp only [Bool.and_eq_true, List.all_eq_true, decide_eq_true_eq] at h
  obtain ⟨⟨⟨h1, h2⟩, h3⟩, h4⟩ := h
  refine ⟨?_, h2, h3, fun y hy e => ?_, fun y hy e => ?_⟩
  · split at h1
    · assumption
    · cases h1
  · have q := h4 y hy
    simp only [e] at q
    split at q <;> first | exact .inl (by assumption) | exact .inr (by assumption) | cases q
  · have q := h4 y hy
    rcases e with e | e <;> (simp only [e, Bool.or_eq_true, decide_eq_true_eq] at q; exact q)
end L2

namespace L2
open PySem PySem.Spec PyProof.Rows

section
variable {prog : Program} {w : World} {A : Around} {R : Result → Shared → Prop} {s : Shared} {elt t0 i0 t1 i1 : Expr} {ifs0 ifs1 : List Expr} {scope : Scope} {pos : Pos} {it acc : Value} {env : Env}
end

section
variable {X : Cx}
end
end L2

namespace L2
open PySem PySem.Spec PyProof.Rows

section
variable {κ : Type} [DecidableEq κ]
def valV (kvs : List (κ × V)) (k : κ) : Option V := (kvs.find? fun kv => decide (kv.1 = k)).map (·.2)
/-- in its place, or at the end -/
def putK (kvs : List (κ × V)) (k : κ) (v : V) : List (κ × V) :=
  if (kvs.any fun kv => decide (kv.1 = k)) = true then kvs.map (fun kv => if kv.1 = k then (kv.1, v) else kv) else kvs ++ [(k, v)]
def dropK (kvs : List (κ × V)) (k : κ) : List (κ × V) := kvs.filter fun kv => decide (kv.1 ≠ k)

theorem valV_pos {p : κ × V} {r : List (κ × V)} {k : κ} (e : p.1 = k) : valV (p :: r) k = some p.2 := by simp [valV, List.find?_cons, e]
theorem valV_neg {p : κ × V} {r : List (κ × V)} {k : κ} (e : ¬ p.1 = k) : valV (p :: r) k = valV r k := by simp [valV, List.find?_cons, e]
theorem valV_any (k : κ) : ∀ kvs : List (κ × V), (kvs.any fun kv => decide (kv.1 = k)) = (valV kvs k).isSome
  | [] => rfl
  | p :: r => by
    rw [List.any_cons]
    by_cases e : p.1 = k
    · simp only [valV_pos e, decide_eq_true e, Bool.true_or, Option.isSome_some]
    · rw [valV_neg e, decide_eq_false e, Bool.false_or]; exact valV_any k r
theorem RelO.isSome_eq {o : Option V} {u : Option Value} (r : RelO o u) : o.isSome = u.isSome := by
  cases o with
  | none => cases u with
    | none => rfl
    | some _ => exact (show False from r).elim
  | some _ => cases u with
    | none => exact (show False from r).elim
    | some _ => rfl
theorem RelO.getD {o : Option V} {u : Option Value} {d : V} {d' : Value} (r : RelO o u) (rd : RelV d d') : RelV (o.getD d) (u.getD d') := by
  cases o with
  | none => cases u with
    | none => exact rd
    | some _ => exact (show False from r).elim
  | some _ => cases u with
    | none => exact (show False from r).elim
    | some _ => exact r

/-- raw tables of the same keys -/
theorem KV.val {kvs : List (κ × V)} {vs : List (κ × Value)} (r : KV kvs vs) (k : κ) : RelO (valV kvs k) (valueAt vs k) := by
  unfold KV at r
  induction r with
  | nil => exact True.intro
  | @cons p q ps qs h t ih =>
    obtain ⟨h1, h2⟩ := h
    by_cases e : p.1 = k
    · have e' : q.1 = k := h1.symm.trans e
      have b : valueAt (q :: qs) k = some q.2 := by simp [valueAt, List.find?_cons, e']
      rw [valV_pos e, b]; exact h2
    · have e' : ¬ q.1 = k := fun z => e (h1.trans z)
      have b : valueAt (q :: qs) k = valueAt qs k := by simp [valueAt, List.find?_cons, e']
      rw [valV_neg e, b]; exact ih
theorem KV.any {kvs : List (κ × V)} {vs : List (κ × Value)} (r : KV kvs vs) (k : κ) : (kvs.any fun kv => decide (kv.1 = k)) = vs.any fun kv => decide (kv.1 = k) := by
  unfold KV at r
  induction r with
  | nil => rfl
  | cons h t ih => rw [List.any_cons, List.any_cons, ih, h.1]
theorem KV.repl {kvs : List (κ × V)} {vs : List (κ × Value)} (r : KV kvs vs) (k : κ) {y : V} {u : Value} (ry : RelV y u) :
    KV (kvs.map fun kv => if kv.1 = k then (kv.1, y) else kv) (vs.map fun kv => if kv.1 = k then (kv.1, u) else kv) := by
  unfold KV at r ⊢
  induction r with
  | nil => exact .nil
  | @cons p q ps qs h t ih =>
    rw [List.map_cons, List.map_cons]
    refine .cons ?_ ih
    obtain ⟨h1, h2⟩ := h
    by_cases e : p.1 = k
    · rw [if_pos e, if_pos (h1.symm.trans e)]; exact ⟨h1, ry⟩
    · rw [if_neg e, if_neg (fun z => e (h1.trans z))]; exact ⟨h1, h2⟩
theorem KV.put {kvs : List (κ × V)} {vs : List (κ × Value)} (r : KV kvs vs) (k : κ) {y : V} {u : Value} (ry : RelV y u) : KV (putK kvs k y) (stored vs k u) := by
  unfold putK stored
  rw [r.any k]
  by_cases e : (vs.any fun kv => decide (kv.1 = k)) = true
  · rw [if_pos e, if_pos e]; exact r.repl k ry
  · rw [if_neg e, if_neg e]; exact Paired.snoc r ⟨rfl, ry⟩
theorem KV.drop {kvs : List (κ × V)} {vs : List (κ × Value)} (r : KV kvs vs) (k : κ) : KV (dropK kvs k) (without vs k) := by
  unfold KV at r ⊢
  unfold dropK without
  induction r with
  | nil => exact .nil
  | @cons p q ps qs h t ih =>
    obtain ⟨h1, h2⟩ := h
    rw [List.filter_cons, List.filter_cons]
    by_cases e : p.1 = k
    · have a : ¬ decide (p.1 ≠ k) = true := by simp [e]
      have b : ¬ decide (q.1 ≠ k) = true := by simp [h1.symm.trans e]
      rw [if_neg a, if_neg b]; exact ih
    · have e' : ¬ q.1 = k := fun z => e (h1.trans z)
      have a : decide (p.1 ≠ k) = true := by simp [e]
      have b : decide (q.1 ≠ k) = true := by simp [e']
      rw [if_pos a, if_pos b]; exact .cons ⟨h1, h2⟩ ih
theorem KV.keys {kvs : List (κ × V)} {vs : List (κ × Value)} (r : KV kvs vs) : kvs.map (·.1) = vs.map (·.1) := by
  unfold KV at r
  induction r with
  | nil => rfl
  | cons h t ih => rw [List.map_cons, List.map_cons, ih, h.1]
theorem KV.length {kvs : List (κ × V)} {vs : List (κ × Value)} (r : KV kvs vs) : kvs.length = vs.length := Paired.length r
end


/-- raw entries of a dict with tuple keys -/
abbrev KT (H : Hp) : List (List Key × V) → List (List Key × Addr × Value) → Prop := Paired fun p q => p.1 = q.1 ∧ H q.2.1 = some (.tup (p.1.map kV)) ∧ RelV p.2 q.2.2
theorem KT.val {H : Hp} {kvs : List (List Key × V)} {xs : List (List Key × Addr × Value)} (r : KT H kvs xs) (k : List Key) : RelO (valV kvs k) ((atKey xs k).map (·.2)) := by
  induction r with
  | nil => exact True.intro
  | @cons p q ps qs h t ih =>
    obtain ⟨h1, _, h2⟩ := h
    by_cases e : p.1 = k
    · have e' : q.1 = k := h1.symm.trans e
      have b : atKey (q :: qs) k = some q.2 := by simp [atKey, List.find?_cons, e']
      rw [valV_pos e, b]; exact h2
    · have e' : ¬ q.1 = k := fun z => e (h1.trans z)
      have b : atKey (q :: qs) k = atKey qs k := by simp [atKey, List.find?_cons, e']
      rw [valV_neg e, b]; exact ih
theorem KT.repl {H : Hp} {kvs : List (List Key × V)} {xs : List (List Key × Addr × Value)} (r : KT H kvs xs) (k : List Key) {y : V} {u : Value} (ry : RelV y u) :
    KT H (kvs.map fun kv => if kv.1 = k then (kv.1, y) else kv) (xs.map (putAt k u)) := by
  induction r with
  | nil => exact .nil
  | @cons p q ps qs h t ih =>
    rw [List.map_cons, List.map_cons]
    refine .cons ?_ ih
    obtain ⟨h1, h2, h3⟩ := h
    unfold putAt
    by_cases e : p.1 = k
    · rw [if_pos e, if_pos (h1.symm.trans e)]; exact ⟨h1, h2, ry⟩
    · rw [if_neg e, if_neg (fun z => e (h1.trans z))]; exact ⟨h1, h2, h3⟩
theorem KT.put {H : Hp} {kvs : List (List Key × V)} {xs : List (List Key × Addr × Value)} (r : KT H kvs xs) (k : List Key) {b : Addr} {y : V} {u : Value} (hb : H b = some (.tup (k.map kV))) (ry : RelV y u) :
    KT H (putK kvs k y) (storedH xs k b u) := by
  have e : (kvs.any fun kv => decide (kv.1 = k)) = (atKey xs k).isSome := by
    rw [valV_any, (r.val k).isSome_eq, Option.isSome_map]
  unfold putK storedH
  rw [e]
  by_cases q : (atKey xs k).isSome = true
  · rw [if_pos q, if_pos q]; exact r.repl k ry
  · rw [if_neg q, if_neg q]; exact Paired.snoc r ⟨rfl, hb, ry⟩
theorem KT.keeps {H H' : Hp} {kvs : List (List Key × V)} {xs : List (List Key × Addr × Value)} (r : KT H kvs xs) (ht : ∀ b ys, H b = some (.tup ys) → H' b = some (.tup ys)) : KT H' kvs xs :=
  Paired.mapP r fun _ _ z => ⟨z.1, ht _ _ z.2.1, z.2.2⟩

section
variable {P : Program} {w : World} {H : Hp} {h : Heap} {a : Addr}
end

/-- what the dict at a holds at the key y -/
def DGet (H : Hp) (a : Addr) (y : V) (r : Option V) : Prop :=
  (∃ kvs k, Rd H a (.dK kvs) ∧ y = kV k ∧ r = valV kvs k) ∨ ∃ kvs k b, Rd H a (.dT kvs) ∧ y = .ref b ∧ H b = some (.tup (k.map kV)) ∧ r = valV kvs k
/-- the heap behind a[y] = v -/
def DPut (H : Hp) (a : Addr) (y v : V) (H' : Hp) : Prop :=
  (∃ kvs k, H a = some (.dK kvs) ∧ y = kV k ∧ kvs.length < sizeLine ∧ H' = upd H a (.dK (putK kvs k v))) ∨
  ∃ kvs k b, H a = some (.dT kvs) ∧ y = .ref b ∧ H b = some (.tup (k.map kV)) ∧ kvs.length < sizeLine ∧ H' = upd H a (.dT (putK kvs k v))
theorem DGet.k {H : Hp} {a : Addr} {kvs : List (Key × V)} {k : Key} (e : H a = some (.dK kvs)) : DGet H a (kV k) (valV kvs k) := .inl ⟨kvs, k, .inl e, rfl, rfl⟩
theorem DGet.t {H : Hp} {a b : Addr} {kvs : List (List Key × V)} {k : List Key} (e : H a = some (.dT kvs)) (eb : H b = some (.tup (k.map kV))) : DGet H a (.ref b) (valV kvs k) := .inr ⟨kvs, k, b, .inl e, rfl, eb, rfl⟩
theorem DPut.k {H : Hp} {a : Addr} {kvs : List (Key × V)} {k : Key} {v : V} (e : H a = some (.dK kvs)) (hl : kvs.length < sizeLine) : DPut H a (kV k) v (upd H a (.dK (putK kvs k v))) := .inl ⟨kvs, k, e, rfl, hl, rfl⟩
theorem DPut.t {H : Hp} {a b : Addr} {kvs : List (List Key × V)} {k : List Key} {v : V} (e : H a = some (.dT kvs)) (eb : H b = some (.tup (k.map kV))) (hl : kvs.length < sizeLine) :
    DPut H a (.ref b) v (upd H a (.dT (putK kvs k v))) := .inr ⟨kvs, k, b, e, rfl, eb, hl, rfl⟩


section
variable {X : Cx} {pins : List (Addr × Obj)} {σ : St} {H : Hp} {s : Shared} {a : Addr} {y v : V} {u r : Value} {o : Option V} {A : Around} {E : Value → Shared → Prop}

end

section
variable {X : Cx} {pins : List (Addr × Obj)} {σ : St} {H : Hp} {s : Shared} {a : Addr} {kvs : List (Key × V)} {k : Key} {u : Value} {A : Around} {E : Value → Shared → Prop}
end


section
variable {X : Cx} {o i e value : Expr} {pos pos' tpos : Pos} {td ty tv : TE}
end


section
variable {X : Cx} {pos : Pos}
end

/-- a method call o.m(e) of a built-in, with one argument: what must be seen of the text -/
structure M1 (X : Cx) (o : Expr) (m : Str) (apos : Pos) (e : Expr) (cpos : Pos) : Prop where
  base : attributeBase o m X.env (eval o X.env) = eval o X.env
  few : ((backTo cpos (starEach [e] X.env)).all (fun x => !x.1) && (backToKw cpos (keywordEach [] X.env)).all (fun x => x.1.isSome)
    && decide (([e] : List Expr).length + ([] : List Keyword).length + (if ([] : List Keyword).isEmpty then 0 else 1) < 30)) = true
  line : (apos.endLine == cpos.line) = true
  trees : backTo cpos (starEach [e] X.env) = [(false, eval e X.env)]
structure M2 (X : Cx) (o : Expr) (m : Str) (apos : Pos) (e f : Expr) (cpos : Pos) : Prop where
  base : attributeBase o m X.env (eval o X.env) = eval o X.env
  few : ((backTo cpos (starEach [e, f] X.env)).all (fun x => !x.1) && (backToKw cpos (keywordEach [] X.env)).all (fun x => x.1.isSome)
    && decide (([e, f] : List Expr).length + ([] : List Keyword).length + (if ([] : List Keyword).isEmpty then 0 else 1) < 30)) = true
  line : (apos.endLine == cpos.line) = true
  trees : backTo cpos (starEach [e, f] X.env) = [(false, eval e X.env), (false, eval f X.env)]

section
variable {X : Cx} {pins : List (Addr × Obj)} {σ : St} {H : Hp} {s : Shared} {a : Addr} {y d : V} {u r : Value} {o : Option V} {A : Around} {E : Value → Shared → Prop}
end

section
variable {X : Cx} {o e f : Expr} {apos cpos : Pos} {td ty tx : TE}
end

section
variable {X : Cx} {pins : List (Addr × Obj)} {σ : St} {H : Hp} {s : Shared} {a : Addr} {kvs : List (Key × V)} {A : Around} {E : Value → Shared → Prop}
end


section
variable {X : Cx} {pins : List (Addr × Obj)} {σ : St} {H : Hp} {s : Shared} {a : Addr} {y : V} {u : Value} {A : Around} {E : Value → Shared → Prop}
end
end L2

namespace L2
open PySem PySem.Spec PyProof.Rows

section
variable {prog : Program} {w : World} {A : Around} {E : Value → Shared → Prop}
end

section
variable {X : Cx}
end
end L2

namespace L2
open PySem PySem.Spec PyProof.Rows

section
variable {X : Cx} {pins : List (Addr × Obj)} {σ : St} {H : Hp} {s : Shared} {h' : Heap}
/-- several records of ours have turned -/
theorem Inv.turnedL {t' : Nat} {ch : List Addr} (I : Inv X pins σ H s) (k : ∀ b o, b ∉ ch → s.heap.get? b = some o → h'.get? b = some o) (hf : ∀ b ∈ ch, FpOk X pins H b) : Inv X pins σ H { s with heap := h', toks := t' } := by
  have nit : ∀ b u, H b = some u → b ∉ ch := fun b u e z => by
    have q := (hf b z).1
    rw [q] at e; cases e
  refine I.step (g' := s.gens) (d' := s.drawn) (ch := ch) (fun b hb => ⟨(hf b hb).2.2.2.1, (hf b hb).2.1, (hf b hb).2.2.2.2.1, (hf b hb).2.2.2.2.2⟩) (fun b o _ _ hc e _ => k b o hc e) (fun b o _ _ hc e _ => ⟨o.slots, k b o hc e⟩)
    (fun _ _ _ _ n => n) (fun b o hc e => ⟨o, k b o hc e⟩) (fun _ _ e => e) (fun _ _ _ e => e) (fun b ps e => ⟨#[], by rw [e]; simp⟩) (fun m hm => ?_) (fun b u e => ?_) I.bare
  · obtain ⟨o, es, ep, ho, r⟩ := hm
    exact ⟨o, es, ep, k _ o (fun z => (hf _ z).2.1 rfl) ho, r⟩
  · refine (I.hok b u e).stay (fun c v hc q => k c v ?_ q) (fun _ q => q) fun _ _ q => q
    rcases hc with z | z
    · rw [z]; exact nit b u e
    · exact nit c _ z
/-- .. and one new object is laid -/
theorem Inv.turnedNew {t' : Nat} {ch : List Addr} {T : Addr} {ob : HO} (I : Inv X pins σ H s) (k : ∀ b o, b ∉ ch → s.heap.get? b = some o → h'.get? b = some o) (hf : ∀ b ∈ ch, FpOk X pins H b) (hT : s.heap.objs.size ≤ T)
    (new : ObjOk X.prog X.w (upd H T ob) h' T ob) : Inv X pins σ (upd H T ob) { s with heap := h', toks := t' } := by
  have hn : H T = none := I.hok.fresh hT
  have nit : ∀ b u, H b = some u → b ∉ ch := fun b u e z => by
    have q := (hf b z).1
    rw [q] at e; cases e
  refine I.step (g' := s.gens) (d' := s.drawn) (ch := ch) (fun b hb => ⟨(hf b hb).2.2.2.1, (hf b hb).2.1, (hf b hb).2.2.2.2.1, (hf b hb).2.2.2.2.2⟩) (fun b o _ _ hc e _ => k b o hc e) (fun b o _ _ hc e _ => ⟨o.slots, k b o hc e⟩)
    (fun b o _ e n => ?_) (fun b o hc e => ⟨o, k b o hc e⟩) (fun b xs e => ?_) (fun b o u e => ?_) (fun b ps e => ⟨#[], ?_⟩) (fun m hm => ?_) (fun b u e => ?_) I.bare
  · rw [upd_ne (Nat.ne_of_lt (Nat.lt_of_lt_of_le (Heap.lt_size e) hT))]; exact n
  · rw [upd_ne (ne_of_none e hn)]; exact e
  · rw [upd_ne (ne_of_none e hn)]; exact e
  · rw [upd_ne (ne_of_none e hn), e]; simp
  · obtain ⟨o, es, ep, ho, r⟩ := hm
    exact ⟨o, es, ep, k _ o (fun z => (hf _ z).2.1 rfl) ho, r⟩
  · by_cases hb : b = T
    · subst hb
      rw [upd_same] at e
      cases e
      exact new
    · rw [upd_ne hb] at e
      refine (I.hok b u e).stay (fun c v hc q => k c v ?_ q) (fun c q => by rw [upd_ne (ne_of_none q hn)]; exact q) fun c xs q => by rw [upd_ne (ne_of_none q hn)]; exact q
      rcases hc with z | z
      · rw [z]; exact nit b u e
      · exact nit c _ z

theorem Inv.unlock {d : Addr} {od : Obj} {u : HO} (I : Inv X pins σ H s) (h : H d = some (.frz od u)) (hn : ∀ o' u', X.H_0 d ≠ some (.frz o' u')) : Inv X pins σ (upd H d u) s := by
  have neH : ∀ b o, H b = some o → (∀ o' u', o ≠ .frz o' u') → b ≠ d := fun b o e hne z => by
    rw [z, h] at e
    cases e
    exact hne _ _ rfl
  have neN : ∀ b, H b = none → b ≠ d := fun b e z => by rw [z, h] at e; cases e
  refine ⟨I.ok, I.os, I.bare, ⟨I.base.keep, I.base.slot, fun b o e n hx => ?_, I.base.there, fun b xs e => ?_, fun b o x e => ?_, fun b ps e => ?_⟩, I.loc, I.cell, ?_, fun x c e => ?_, fun p hp => ?_, fun b o e => ?_, I.len⟩
  · rw [upd_ne (neN b (I.base.free b o e n hx))]; exact I.base.free b o e n hx
  · have q := I.base.tups b xs e
    rw [upd_ne (neH b _ q (fun _ _ z => nomatch z))]; exact q
  · have q := I.base.frzs b o x e
    rw [upd_ne (fun z => by rw [z] at e; exact hn _ _ e)]; exact q
  · obtain ⟨m, q⟩ := I.base.tbls b ps e
    exact ⟨m, by rw [upd_ne (neH b _ q (fun _ _ z => nomatch z))]; exact q⟩
  · rw [upd_ne (neN _ I.free)]; exact I.free
  · rw [upd_ne (neN c (I.freeC x c e))]; exact I.freeC x c e
  · obtain ⟨e, n, r⟩ := I.pin p hp
    exact ⟨e, by rw [upd_ne (neN _ n)]; exact n, r⟩
  · by_cases hb : b = d
    · rw [hb, upd_same] at e
      cases e
      rw [hb]
      obtain ⟨_, x⟩ := I.hok d _ h
      exact x.stay (fun c v _ q => q) (fun c q => by rw [upd_ne (neH c _ q (fun _ _ z => nomatch z))]; exact q) fun c xs q => by rw [upd_ne (neH c _ q (fun _ _ z => nomatch z))]; exact q
    · rw [upd_ne hb] at e
      exact (I.hok b o e).stay (fun c v _ q => q) (fun c q => by rw [upd_ne (neH c _ q (fun _ _ z => nomatch z))]; exact q) fun c xs q => by rw [upd_ne (neH c _ q (fun _ _ z => nomatch z))]; exact q
end
section
variable {X : Cx}
theorem pi_one {tg : Expr} {pins : List (Addr × Obj)} {σ : St} {H : Hp} {s : Shared} {R : It → Hp → Prop} {J : It} {tn : Nat → Heap → Prop} {tk : Nat} (I : Inv X pins σ H s) (o : Obj)
    (T : Turn X.prog X.w X.K tg J [s.heap.objs.size] s.heap.objs.size tn) (st : tn 0 (s.heap.push o)) (q : R J H) : PIE X pins σ tg R (.ref s.heap.objs.size) { s with heap := s.heap.push o, toks := tk } := by
  refine ⟨s.heap.objs.size, [s.heap.objs.size], tn, J, H, rfl, I.kept fun b ob e => Heap.get?_push_of_some _ e, T, st, fun b hb => ?_, q⟩
  have e : b = s.heap.objs.size := by simpa using hb
  subst e
  exact I.fpOk (Nat.le_refl _) (I.hok.fresh (Nat.le_refl _))
end

/-- range(i, j, c): small bounds, n items -/
def RgC (i j c : Int) (n : Nat) : Prop := c ≠ 0 ∧ c.natAbs < 1073741824 ∧ Builtin.Range.small i j c = true ∧ Builtin.Range.rangeSize i j c = n
theorem RgC.neg {i j : Int} (ha : -(2 ^ 62) ≤ i) (ha' : i < 2 ^ 62) (hb : -(2 ^ 62) ≤ j) (hb' : j < 2 ^ 62) : RgC i j (-1) (i - j).toNat :=
  ⟨by decide, by decide, PySem.W.small_down ha ha' hb hb', PySem.W.rangeSize_downNat i j⟩
section
variable {X : Cx} {tg : Expr}
end
section
variable {X : Cx} {tg : Expr}
end

def Its (x : Str) : It := ⟨fun i _ => i < x.cps.size, fun i H v H' => H' = H ∧ ∃ c, x.cps[i]? = some c ∧ v = .str ⟨#[c]⟩, fun i _ => x.cps.size ≤ i⟩
theorem turn_str {P : Program} {w : World} {K : PySem.W.Frag} {tg : Expr} (it : Addr) (x : Str) (t : Tok) (ty : String) (hty : ty = "str_ascii_iterator" ∨ ty = "str_iterator") :
    Turn P w K tg (Its x) [it] it (fun i h => h.IsStrIter it ty x t i) where
  mem := by simp
  obj := fun i h st b hb => by
    have e : b = it := by simpa using hb
    subst e
    obtain ⟨o, e, c, d⟩ := st
    exact ⟨o, e, fun v z => by rw [d] at z; cases z⟩
  keep := fun i h h' st k => let ⟨o, ho, r⟩ := st; ⟨o, k it (by simp) o ho, r⟩
  item := by
    intro X hP hw hK hc i pins s σ H E I hf st hg
    subst hP hw hK
    obtain ⟨f0, f1, f2, f3, f4, f5⟩ := hf it (by simp)
    have W : Walks X.prog X.w X.A it [it] [it] x.cps.size (SignAt x) (fun i h => h.IsStrIter it ty x t i) := by
      rcases hty with e | e
      · rw [e]; exact Walks.strAscii (I.ok.hd hc) it x t
      · rw [e]; exact Walks.strWide (I.ok.hd hc) it x t
    have hno : ["enumerate", "zip", "dict_itemiterator", "dict_reverseitemiterator", "odict_iterator", "itertools.zip_longest", "itertools.pairwise"].contains ty = false := by
      rcases hty with e | e
      · rw [e]; decide
      · rw [e]; decide
    refine W.item i s _ _ hg st fun v h' tk hv st' kk => ?_
    obtain ⟨c, u, hcx, rfl⟩ := hv
    have I1 : Inv X pins σ H { s with heap := h', toks := tk } := I.turned (fun b o hb e => kk b o (by simpa using hb) e) f0 f1 f3 f4 f5
    obtain ⟨oi, e, cc, dd⟩ := id st'
    exact ⟨_, rfl, go_of (s := { s with heap := h', toks := tk }) e cc dd hno ⟨.str ⟨#[c]⟩, H, I1, ⟨u, rfl⟩, ⟨rfl, c, hcx, rfl⟩, st', fun b hb => (hf b hb).1⟩⟩
  done := by
    intro X hP hw hK hc i pins s σ H E I hf st hg
    subst hP hw hK
    obtain ⟨f0, f1, f2, f3, f4, f5⟩ := hf it (by simp)
    have hx : x.cps[i]? = none := Array.getElem?_eq_none hg
    rcases hty with e | e
    · rw [e] at st
      exact wpAny_pyNext_ascii_end (I.ok.hd hc) st hx fun h' eb => ⟨rfl, I.turned (t' := s.toks) (fun b o hb e => eb b o hb e) f0 f1 f3 f4 f5⟩
    · rw [e] at st
      exact wpAny_pyNext_wide_end (I.ok.hd hc) st hx fun h' eb => ⟨rfl, I.turned (t' := s.toks) (fun b o hb e => eb b o hb e) f0 f1 f3 f4 f5⟩
  self := fun A i s Q E st h => by
    rcases hty with e | e
    · rw [e] at st; exact wpAny_pyIter_striter_ascii st h
    · rw [e] at st; exact wpAny_pyIter_striter_wide st h
def iStr (te : TE) : TI := fun σ H R => te σ H fun v H1 => ∃ x, v = .str x ∧ R (Its x) H1
theorem pi_str {X : Cx} {tg e : Expr} {te : TE} (he : PE X e te) : PI X tg e (iStr te) := by
  intro pins s σ H R I h
  refine thn (he pins s σ H _ I h) fun v s1 ⟨y, H1, I1, r1, x, ex, q⟩ => ?_
  subst ex
  obtain ⟨t, rfl⟩ := r1
  cases ha : x.cps.all (· < 128)
  · exact wpAny_pyIter_wide ha (pi_one (tk := s1.toks) I1 _ (turn_str _ x t "str_iterator" (.inr rfl)) ⟨_, Heap.get?_push_size _ rfl, rfl, rfl⟩ q)
  · exact wpAny_pyIter_ascii ha (pi_one (tk := s1.toks) I1 _ (turn_str _ x t "str_ascii_iterator" (.inl rfl)) ⟨_, Heap.get?_push_size _ rfl, rfl, rfl⟩ q)

section
variable {prog : Program} {w : World} {A : Around} {E : Value → Shared → Prop} {s : Shared}
end

section
variable {X : Cx} {pins : List (Addr × Obj)} {σ : St} {H : Hp} {s : Shared} {d : Addr} {o : Obj}
end

section
variable {P : Program} {w : World} {K : PySem.W.Frag} {tg : Expr} {d : Addr} {o : Obj} {es : Array DictEntry} {ep : Nat}
end

section
variable {X : Cx} {tg e : Expr} {td : TE} {apos cpos : Pos}
end

/-- the list at a as it stands at each turn, each item in a new pair -/
def Ite (K : PySem.W.Frag) (a : Addr) : It :=
  ⟨fun i H => ∃ (xs : List V) (x : V), SqL K H a xs ∧ xs[i]? = some x, fun i H v H' => ∃ T x, v = .ref T ∧ H T = none ∧ H' = upd H T (.tup [.int (i : Nat), x]) ∧ ∀ xs, SqL K H a xs → xs[i]? = some x, fun i H => ∃ xs : List V, SqL K H a xs ∧ xs.length ≤ i⟩
theorem turn_enum {P : Program} {w : World} {K : PySem.W.Frag} {elts : List Expr} {kk : Nat} {tpos : Pos} (a e it : Addr) :
    Turn P w K (.Tuple elts kk tpos) (Ite K a) [e, it] e (fun i h => (∃ old, IsEnum h e it ((i : Nat) : Int) old) ∧ h.IsListIter it a i ∧ e ≠ it) where
  mem := by simp
  obj := fun i h st b hb => by
    obtain ⟨⟨old, he⟩, ⟨o, ho, hc, hd⟩, _⟩ := st
    have e' : b = e ∨ b = it := by simpa using hb
    rcases e' with z | z
    · rw [z]; exact ⟨_, he, fun v q => nomatch q⟩
    · rw [z]; exact ⟨o, ho, fun v q => by rw [hd] at q; cases q⟩
  keep := fun i h h' st k => let ⟨⟨old, he⟩, hi, hne⟩ := st; ⟨⟨old, k e (by simp) _ he⟩, hi.at fun o q => k it (by simp) o q, hne⟩
  item := by
    intro X hP hw hK hc i pins s σ H E I hf st hg
    subst hP hw hK
    obtain ⟨⟨old, he⟩, hit, hne⟩ := st
    obtain ⟨xs, x, hq, hx⟩ := hg
    obtain ⟨its, rv, p, hz⟩ := I.list hq
    obtain ⟨u, hu, ru⟩ := rv.get hx
    have hel : e < s.heap.objs.size := Heap.lt_size he
    have hil : it < s.heap.objs.size := by obtain ⟨_, q, _⟩ := hit; exact Heap.lt_size q
    refine wpAny_pyNext_enum_item he hit p.isList (x := u) (by simpa using hu) hne fun h' ho hit' hT hsz hk => ?_
    refine ⟨_, rfl, wpAny_letOwnedTupleGo_enum (s := { s with heap := h', toks := s.toks + 1 }) ho fun h'' he' sb => ?_⟩
    have hT2 : h''.get? s.heap.objs.size = some { cls := .type "tuple", data := .seq #[.int i s.toks, u] } := (sb.2 _ (Nat.ne_of_gt hel)).trans hT
    have new : ObjOk X.prog X.w (upd H s.heap.objs.size (.tup [.int (i : Nat), x])) h'' s.heap.objs.size (.tup [.int (i : Nat), x]) :=
      ⟨by show 2 ≤ sizeLine; decide, [.int i s.toks, u], .cons ⟨_, rfl⟩ (.cons ru .nil), ⟨_, hT2, rfl, _, rfl, rfl⟩⟩
    have I1 : Inv X pins σ (upd H s.heap.objs.size (.tup [.int (i : Nat), x])) { s with heap := h'', toks := s.toks + 1 } :=
      I.turnedNew (ch := [e, it]) (fun b ob hb q => (sb.2 b (fun z => hb (by simp [z]))).trans (hk b ob (fun z => hb (by simp [z])) (fun z => hb (by simp [z])) q)) hf (Nat.le_refl _) new
    refine ⟨.ref s.heap.objs.size, _, I1, rfl, ⟨_, x, rfl, I.hok.fresh (Nat.le_refl _), rfl, fun ys hy => by rw [I.list_inj hy hq]; exact hx⟩, ⟨⟨u, ?_⟩, hit'.at fun o q => (sb.2 it (Ne.symm hne)).trans q, hne⟩, fun b hb => ?_⟩
    · have e1 : ((i + 1 : Nat) : Int) = (i : Int) + 1 := by omega
      rw [e1]; exact he'
    · have hb' : b < s.heap.objs.size := by
        have e' : b = e ∨ b = it := by simpa using hb
        rcases e' with z | z
        · rw [z]; exact hel
        · rw [z]; exact hil
      rw [upd_ne (Nat.ne_of_lt hb')]
      exact (hf b hb).1
  done := by
    intro X hP hw hK hc i pins s σ H E I hf st hg
    subst hP hw hK
    obtain ⟨⟨old, he⟩, hit, hne⟩ := st
    obtain ⟨xs, hq, hx⟩ := hg
    obtain ⟨its, rv, p, hz⟩ := I.list hq
    obtain ⟨f0, f1, f2, f3, f4, f5⟩ := hf it (by simp)
    have hl := rv.length
    exact wpAny_pyNext_enum_end (I.ok.hd hc) he hit p.isList (by simp; omega) fun h' eb => ⟨rfl, I.turned (t' := s.toks) (fun b o hb q => eb b o hb q) f0 f1 f3 f4 f5⟩
  self := fun A i s Q E st h => let ⟨⟨_, he⟩, _⟩ := st; wpAny_pyIter_enum he h
def iEnum (K : PySem.W.Frag) (ta : TA) : TI := fun σ H R => ta σ H fun vs H1 => ∃ a xs, vs = [.ref a] ∧ SqL K H1 a xs ∧ R (Ite K a) H1
theorem pi_enum {X : Cx} {e : Expr} {ta : TA} {p pos tpos : Pos} {elts : List Expr} {kk : Nat} (hg : Gl X "enumerate") (hm : X.mg "enumerate" = none) (ha : PA X [e] ta) (hs : starEach [e] X.env = [(false, eval e X.env)] := by rfl) :
    PI X (.Tuple elts kk tpos) (.Call (.Name "enumerate" p) [e] [] pos) (iEnum X.K ta) := by
  intro pins s σ H R I h
  refine Call_ (ld_blt I hg hm boot_enumerate (PyProof.Rows.callWith_type1 (thn (ha pos pins s σ H _ I h) fun us s1 ⟨vs, H1, I1, r1, q1⟩ => ?_) hs rfl))
  obtain ⟨a, xs, ex, hq, q⟩ := q1
  subst ex
  cases r1 with
  | cons r rr =>
    cases rr
    cases r
    obtain ⟨its, rv, p', hz⟩ := I1.list hq
    refine call_enumerate_list p'.isList fun h' he hit hsz hk => wpAny_pyIter_enum he ?_
    have I2 : Inv X pins σ H1 { s1 with heap := h' } := I1.kept (t' := s1.toks) hk
    refine ⟨s1.heap.objs.size + 1, [s1.heap.objs.size + 1, s1.heap.objs.size], _, _, H1, rfl, I2, turn_enum a (s1.heap.objs.size + 1) s1.heap.objs.size, ⟨⟨.none, he⟩, hit, Nat.succ_ne_self _⟩, fun b hb => ?_, q⟩
    have e' : b = s1.heap.objs.size + 1 ∨ b = s1.heap.objs.size := by simpa using hb
    have hle : s1.heap.objs.size ≤ b := by
      rcases e' with z | z
      · rw [z]; exact Nat.le_add_right _ _
      · rw [z]; exact Nat.le_refl _
    exact I1.fpOk hle (I1.hok.fresh hle)
theorem boot_zip5 : bootBuiltins "zip" = some (.type "zip") := by decide +kernel
end L2

section 
namespace Bits
open PySem PyProof.Rows

end Bits
end 

section 
namespace TL
open PySem PySem.Builtin PySem.Builtin.Str PySem.StrLaws

abbrev tl (x : Str) : List Nat := x.cps.toList
theorem len_tl (x : Str) : x.length = (tl x).length := by simp [tl, Str.length]
theorem ext_tl {x y : Str} (h : tl x = tl y) : x = y := Str.ext' (Array.toList_inj.mp h)
theorem tl_append (x y : Str) : tl (x ++ y) = tl x ++ tl y := by
  show (x ++ y).cps.toList = _
  rw [Str.cps_append, Array.toList_append]
theorem map_tl_inj : ∀ {l m : List Str}, l.map tl = m.map tl → l = m
  | [], [], _ => rfl
  | [], _ :: _, h => by simp at h
  | _ :: _, [], h => by simp at h
  | x :: l, y :: m, h => by
    rw [List.map_cons, List.map_cons] at h
    injection h with h1 h2
    rw [ext_tl h1, map_tl_inj h2]
/-- S stands at the head of l -/
def pre (S l : List Nat) : Bool := l.take S.length == S
/-- l cut at each S from the left; k signs are still to be passed over -/
def spl (S : List Nat) : Nat → List Nat → List Nat → List (List Nat)
  | _, acc, [] => [acc]
  | 0, acc, c :: r => if pre S (c :: r) = true then acc :: spl S (S.length - 1) [] r else spl S 0 (acc ++ [c]) r
  | k + 1, acc, _ :: r => spl S k acc r
/-- what stands before the first S, and behind it -/
def par (S : List Nat) : List Nat → List Nat → Option (List Nat × List Nat)
  | _, [] => none
  | acc, c :: r => if pre S (c :: r) = true then some (acc, (c :: r).drop S.length) else par S (acc ++ [c]) r

theorem spl_nil (S : List Nat) (k : Nat) (acc : List Nat) : spl S k acc [] = [acc] := by cases k <;> rfl
theorem spl_hit {S acc r : List Nat} {c : Nat} (h : pre S (c :: r) = true) : spl S 0 acc (c :: r) = acc :: spl S (S.length - 1) [] r := by
  show (if pre S (c :: r) = true then acc :: spl S (S.length - 1) [] r else spl S 0 (acc ++ [c]) r) = _
  rw [if_pos h]
theorem spl_miss {S acc r : List Nat} {c : Nat} (h : pre S (c :: r) = false) : spl S 0 acc (c :: r) = spl S 0 (acc ++ [c]) r := by
  show (if pre S (c :: r) = true then acc :: spl S (S.length - 1) [] r else spl S 0 (acc ++ [c]) r) = _
  rw [if_neg (by rw [h]; exact Bool.false_ne_true)]
theorem spl_pass (S : List Nat) : ∀ (k : Nat) (acc l : List Nat), spl S k acc l = spl S 0 acc (l.drop k)
  | 0, _, _ => by rw [List.drop_zero]
  | k + 1, acc, [] => by rw [List.drop_nil, spl_nil, spl_nil]
  | k + 1, acc, c :: r => by
    show spl S k acc r = spl S 0 acc (r.drop k)
    exact spl_pass S k acc r
theorem pre_nil {S : List Nat} (hS : S ≠ []) : pre S [] = false := by
  cases S with
  | nil => exact absurd rfl hS
  | cons s S => rfl
theorem pre_of_head {s c : Nat} (S r : List Nat) (h : c ≠ s) : pre (s :: S) (c :: r) = false := by
  cases hp : pre (s :: S) (c :: r) with
  | false => rfl
  | true =>
    have e : (c :: r).take (s :: S).length = s :: S := eq_of_beq hp
    rw [List.length_cons, List.take_succ_cons] at e
    injection e with e1 e2
    exact absurd e1 h
theorem pre_self (S r : List Nat) : pre S (S ++ r) = true := by
  show ((S ++ r).take S.length == S) = true
  have e : (S ++ r).take S.length = S := List.take_left
  rw [e] <;> exact beq_self_eq_true S

theorem getElem_drop_cons {L : List Nat} {a : Nat} (h : a < L.length) : ∃ c, L.drop a = c :: L.drop (a + 1) := ⟨L[a], List.drop_eq_getElem_cons h⟩
theorem spl_run (S L : List Nat) : ∀ (m a : Nat) (acc : List Nat), a + m ≤ L.length → (∀ k, a ≤ k → k < a + m → pre S (L.drop k) = false) →
    spl S 0 acc (L.drop a) = spl S 0 (acc ++ (L.drop a).take m) (L.drop (a + m))
  | 0, a, acc, _, _ => by rw [List.take_zero, List.append_nil, Nat.add_zero]
  | m + 1, a, acc, h, hn => by
    have hlt : a < L.length := by omega
    obtain ⟨c, e⟩ := getElem_drop_cons hlt
    have h0 := hn a (Nat.le_refl _) (by omega)
    have ih := spl_run S L m (a + 1) (acc ++ [c]) (by omega) (fun k h1 h2 => hn k (by omega) (by omega))
    have e2 : a + 1 + m = a + (m + 1) := by omega
    rw [e2] at ih
    rw [e] at h0
    rw [e, spl_miss h0, ih, List.take_succ_cons, List.append_assoc] <;> rfl
theorem drop_two (L : List Nat) (a b : Nat) : (L.drop a).drop b = L.drop (a + b) := by
  first
    | rw [List.drop_drop]
    | rw [List.drop_drop, Nat.add_comm]
theorem spl_at {S L : List Nat} (hS : S ≠ []) {c : Nat} {acc : List Nat} (h : pre S (L.drop c) = true) : spl S 0 acc (L.drop c) = acc :: spl S 0 [] (L.drop (c + S.length)) := by
  rw [← drop_two]
  cases e : L.drop c with
  | nil => rw [e, pre_nil hS] at h; cases h
  | cons d r =>
    rw [e] at h
    rw [spl_hit h, spl_pass]
    cases S with
    | nil => exact absurd rfl hS
    | cons s S => rfl
theorem at_iff {x y : Str} (hy : tl y ≠ []) (i : Nat) : At x y x.length i ↔ pre (tl y) ((tl x).drop i) = true := by
  have hx := len_tl x
  have hl := len_tl y
  constructor
  · intro h
    have h2 := h.2
    rw [subAt_eq, hl] at h2
    exact h2
  · intro h
    have e : ((tl x).drop i).take (tl y).length = tl y := eq_of_beq h
    have e1 := congrArg List.length e
    rw [List.length_take, List.length_drop] at e1
    have e2 : 0 < (tl y).length := List.length_pos_iff.mpr hy
    refine ⟨by omega, ?_⟩
    rw [subAt_eq, hl]
    exact h
theorem no_at {x y : Str} (hy : tl y ≠ []) {i : Nat} (h : ¬ At x y x.length i) : pre (tl y) ((tl x).drop i) = false := by
  cases hp : pre (tl y) ((tl x).drop i) with
  | false => rfl
  | true => exact absurd ((at_iff hy i).mpr hp) h
theorem len1 {y : Str} (hy : tl y ≠ []) : 1 ≤ y.length := by
  have e2 : 0 < (tl y).length := List.length_pos_iff.mpr hy
  rw [len_tl y]
  exact e2
theorem tl_strSub (x : Str) (i j : Nat) : tl (strSub x i j) = ((tl x).drop i).take (j - i) := strSub_toList x i j
theorem tl_strSub_end (x : Str) (i : Nat) : tl (strSub x i x.length) = (tl x).drop i := by
  rw [tl_strSub, len_tl x]
  exact List.take_of_length_le (by rw [List.length_drop] <;> omega)

theorem parts_spl {x y : Str} (hy : tl y ≠ []) : ∀ (cuts : List Nat) (a f : Nat), a ≤ (tl x).length → ChainG x y x.length a cuts f → (∀ k, f ≤ k → ¬ At x y x.length k) →
    (partsFrom x y.length a cuts).map tl = spl (tl y) 0 [] ((tl x).drop a)
  | [], a, f, ha, h, hn => by
    have e : f = a := h
    subst e
    show [tl (strSub x f x.length)] = _
    have run := spl_run (tl y) (tl x) ((tl x).length - f) f [] (by omega) (fun k h1 _ => no_at hy (hn k h1))
    have e2 : f + ((tl x).length - f) = (tl x).length := by omega
    rw [e2, List.drop_length, spl_nil, List.nil_append, List.take_of_length_le (by rw [List.length_drop] <;> omega)] at run
    rw [run, tl_strSub_end]
  | c :: r, a, f, ha, h, hn => by
    obtain ⟨h1, h2, h3, h4⟩ := h
    have hc : c + y.length ≤ x.length := h2.1
    have hx := len_tl x
    have hl := len_tl y
    have ih := parts_spl hy r (c + y.length) f (by omega) h4 hn
    show tl (strSub x a c) :: (partsFrom x y.length (c + y.length) r).map tl = _
    have run := spl_run (tl y) (tl x) (c - a) a [] (by omega) (fun k k1 k2 => no_at hy (h3 k k1 (by omega)))
    have e2 : a + (c - a) = c := by omega
    rw [e2, List.nil_append, spl_at hy ((at_iff hy c).mp h2)] at run
    rw [run, ih, tl_strSub, hl]

/-- hk: by kind_ok where the separator is plain -/
theorem split_spl (x y : Str) (hy : tl y ≠ []) (hk : ¬ Builtin.Str.strKind x < Builtin.Str.strKind y) : (Txt.split x y).map tl = spl (tl y) 0 [] (tl x) := by
  obtain ⟨f, g, hn⟩ := occ_tight x y (len1 hy)
  have key := parts_spl hy _ 0 f (Nat.zero_le _) g hn
  rw [List.drop_zero] at key
  have none_case : occurrences x y 0 x.length (x.length + 1) = [] → [x].map tl = spl (tl y) 0 [] (tl x) := fun ho => by
    rw [ho] at key
    rw [← key]
    show [tl x] = [tl (strSub x 0 x.length)]
    rw [sub_whole]
  unfold Txt.split
  by_cases h1 : (decide (x.length < y.length) || decide (Builtin.Str.strKind x < Builtin.Str.strKind y)) = true
  · rw [if_pos h1]
    have hlt : x.length < y.length := by
      simp only [Bool.or_eq_true, decide_eq_true_eq] at h1
      rcases h1 with h | h
      · exact h
      · exact absurd h hk
    refine none_case ?_
    cases ho : occurrences x y 0 x.length (x.length + 1) with
    | nil => rfl
    | cons c r =>
      rw [ho] at g
      have hc : c + y.length ≤ x.length := g.2.1.1
      omega
  · rw [if_neg h1]
    by_cases h2 : (occurrences x y 0 x.length (x.length + 1)).isEmpty = true
    · rw [if_pos h2]
      exact none_case (List.isEmpty_iff.mp h2)
    · rw [if_neg h2, partsBetween_eq]
      exact key
theorem kind_ok {x y : Str} (h : y.cps.all (· < 256) = true) : ¬ Builtin.Str.strKind x < Builtin.Str.strKind y := by
  have e : Builtin.Str.strKind y = 1 := by unfold PySem.Builtin.Str.strKind; rw [if_pos h]
  rw [e]
  unfold PySem.Builtin.Str.strKind
  split
  · omega
  · split <;> omega

/-- a part that the separator does not begin in, then the separator -/
theorem spl_part {S p rest acc : List Nat} (hS : S ≠ []) (h : ∀ i, i < p.length → pre S ((p ++ (S ++ rest)).drop i) = false) :
    spl S 0 acc (p ++ (S ++ rest)) = (acc ++ p) :: spl S 0 [] rest := by
  have run := spl_run S (p ++ (S ++ rest)) p.length 0 acc (by rw [List.length_append]; omega) (fun k _ k2 => h k (by omega))
  have ed : (p ++ (S ++ rest)).drop p.length = S ++ rest := List.drop_left
  rw [List.drop_zero, Nat.zero_add, List.take_left] at run
  rw [run, spl_at hS (by rw [ed]; exact pre_self S rest), ← drop_two, ed, List.drop_left]
theorem spl_last {S p acc : List Nat} (h : ∀ i, i < p.length → pre S (p.drop i) = false) : spl S 0 acc p = [acc ++ p] := by
  have run := spl_run S p p.length 0 acc (by omega) (fun k _ k2 => h k (by omega))
  rw [List.drop_zero, Nat.zero_add, List.drop_length, spl_nil, List.take_length] at run
  exact run
/-- the separator's first sign is not in the part -/
theorem free_of {s : Nat} {S p q : List Nat} (h : s ∉ p) : ∀ i, i < p.length → pre (s :: S) ((p ++ q).drop i) = false := fun i hi => by
  have hlt : i < (p ++ q).length := by rw [List.length_append]; omega
  have e : (p ++ q).drop i = (p ++ q)[i] :: (p ++ q).drop (i + 1) := List.drop_eq_getElem_cons hlt
  rw [e]
  refine pre_of_head _ _ fun z => h ?_
  have e1 : (p ++ q)[i] = p[i] := List.getElem_append_left hi
  rw [← z, e1]
  exact List.getElem_mem hi
theorem spl_part1 {s : Nat} {S p rest acc : List Nat} (h : s ∉ p) : spl (s :: S) 0 acc (p ++ (s :: S ++ rest)) = (acc ++ p) :: spl (s :: S) 0 [] rest :=
  spl_part (by simp) (free_of h)
theorem spl_last1 {s : Nat} {S p acc : List Nat} (h : s ∉ p) : spl (s :: S) 0 acc p = [acc ++ p] := spl_last fun i hi => by
  have z := free_of (S := S) (q := []) h i hi
  rw [List.append_nil] at z
  exact z
/-- joined lists -/
def joinL (S : List Nat) : List (List Nat) → List Nat
  | [] => []
  | [p] => p
  | p :: q :: r => p ++ (S ++ joinL S (q :: r))
theorem tl_join (y : Str) : ∀ parts : List Str, tl (Str.join y parts) = joinL (tl y) (parts.map tl)
  | [] => rfl
  | [_] => rfl
  | x :: z :: r => by
    show tl (x ++ y ++ Str.join y (z :: r)) = tl x ++ (tl y ++ joinL (tl y) ((z :: r).map tl))
    rw [tl_append, tl_append, tl_join y (z :: r), List.append_assoc]
theorem spl_join {s : Nat} {S : List Nat} : ∀ {parts : List (List Nat)}, parts ≠ [] → (∀ p ∈ parts, s ∉ p) → spl (s :: S) 0 [] (joinL (s :: S) parts) = parts
  | [], h, _ => absurd rfl h
  | [p], _, hp => by
    show spl (s :: S) 0 [] p = [p]
    rw [spl_last1 (hp p (List.mem_singleton.mpr rfl)), List.nil_append]
  | p :: q :: r, _, hp => by
    show spl (s :: S) 0 [] (p ++ (s :: S ++ joinL (s :: S) (q :: r))) = p :: q :: r
    rw [spl_part1 (hp p (List.mem_cons_self ..)), List.nil_append, spl_join (by simp) fun z hz => hp z (List.mem_cons_of_mem _ hz)]
theorem join_eq (y : Str) (parts : List Str) : Txt.join y parts = Str.join y parts := glued_eq_join y parts
/-- THE READ-BACK: a joined text, split -/
theorem split_join {y : Str} {s : Nat} {S : List Nat} (ey : tl y = s :: S) (hk : y.cps.all (· < 256) = true) {parts : List Str} (hne : parts ≠ []) (hp : ∀ p ∈ parts, s ∉ tl p) :
    Txt.split (Txt.join y parts) y = parts := by
  refine map_tl_inj ?_
  rw [split_spl _ y (by rw [ey]; simp) (kind_ok hk), join_eq, tl_join, ey]
  refine spl_join (fun e => hne (List.map_eq_nil_iff.mp e)) fun p h => ?_
  obtain ⟨z, hz, rfl⟩ := List.mem_map.mp h
  exact hp z hz
end TL
end 

namespace L2
open PySem PySem.Spec PyProof.Rows

/-- a list of texts, of numbered texts -/
theorem vals_strs : ∀ l : List (Str × Tok), Vals ((l.map (·.1)).map V.str) (strValues l)
  | [] => .nil
  | p :: r => .cons ⟨p.2, rfl⟩ (vals_strs r)
theorem strs_of_vals : ∀ {ys : List Str} {us : List Value}, Vals (ys.map V.str) us → StrsAre us ys
  | [], _, .nil => .nil
  | y :: ys, _, .cons r t => by
    obtain ⟨k, rfl⟩ := r
    exact .cons y k (strs_of_vals t)

/-- a new list of texts, tracked -/
def rNewStrs (ys : List Str) : Hp → VK → Prop := fun H Q => ∀ p, H p = none → Q (.ref p) (upd H p (.lst (ys.map V.str)))

section
variable {X : Cx} {pins : List (Addr × Obj)} {σ : St} {H : Hp} {s : Shared} {Q : VK}
theorem laid_strs {l : List (Str × Tok)} {ys : List Str} {k : Nat} (I : Inv X pins σ H s) (e : l.map (·.1) = ys) (hz : ys.length ≤ sizeLine) (h : rNewStrs ys H Q) :
    EP X pins σ Q (.ref s.heap.objs.size) { s with toks := k, heap := s.heap.push { cls := .type "list", data := .seq (strValues l).toArray } } := by
  have hp := I.hok.fresh (Nat.le_refl _)
  refine ⟨.ref s.heap.objs.size, upd H s.heap.objs.size (.lst (ys.map V.str)), I.laid (fun b u q => Heap.get?_push_of_some _ q) (Nat.le_refl _) ⟨by rw [List.length_map]; exact hz, strValues l, _, ?_, Heap.get?_push_size _ rfl⟩, rfl, h _ hp⟩
  rw [← e]
  exact vals_strs l
end

section
variable {X : Cx}

/-- x.split(sep) -/
theorem mt_split : MtR X "str.split" (fun x xs H Q => ∃ a b, x = .str a ∧ xs = [.str b] ∧ (b.length == 0) = false ∧ a.length + 2 ≤ sizeLine ∧ rNewStrs (Txt.split a b) H Q) := by
  intro pins s σ H x xs v us Q I rx rs h
  obtain ⟨a, b, rfl, rfl, hb, hz, h⟩ := h
  obtain ⟨t, rfl⟩ := rx
  cases rs with
  | cons r1 rs =>
    cases rs
    obtain ⟨u, rfl⟩ := r1
    have hl : (Txt.split a b).length ≤ sizeLine := Nat.le_trans (PyProof.Rows.split_le a b) hz
    have hn : (Builtin.Str.partsBetween a (Builtin.Str.occurrences a b 0 a.length (a.length + 1)) b.length).length ≤ sizeLine := by
      have e1 := StrLaws.occ_length_le a b 0 a.length (a.length + 1)
      rw [length_partsBetween]; omega
    cases h1 : (decide (a.length < b.length) || decide (Builtin.Str.strKind a < Builtin.Str.strKind b))
    · cases hf : (Builtin.Str.occurrences a b 0 a.length (a.length + 1)).isEmpty
      · refine call_meets F.slot_str_split (typeIs_str _ _ _) F.entry_str_split (F.args_str_split_2 _ _) (meets_str_split_sep a b t u h1 hb hf (by omega) hn) ?_
        show EP X pins σ Q (.ref s.heap.objs.size) { s with toks := _, heap := s.heap.push { cls := .type "list", data := .seq (strsFrom s.toks (Builtin.Str.partsBetween a (Builtin.Str.occurrences a b 0 a.length (a.length + 1)) b.length)).toArray } }
        rw [strsFrom_eq]
        exact laid_strs (ys := Txt.split a b) I ((numbered_texts _ _).trans ((if_neg (ne_true_of_eq_false h1)).trans (if_neg (ne_true_of_eq_false hf))).symm) hl h
      · refine call_meets F.slot_str_split (typeIs_str _ _ _) F.entry_str_split (F.args_str_split_2 _ _) (meets_str_split_not_found a b t u h1 hb hf) ?_
        exact laid_strs (l := [(a, t)]) (ys := Txt.split a b) (k := s.toks) I ((if_neg (ne_true_of_eq_false h1)).trans (if_pos hf)).symm hl h
    · refine call_meets F.slot_str_split (typeIs_str _ _ _) F.entry_str_split (F.args_str_split_2 _ _) (meets_str_split_cannot_occur a b t u h1) ?_
      exact laid_strs (l := [(a, t)]) (ys := Txt.split a b) (k := s.toks) I (if_pos h1).symm hl h

/-- sep.join(a list | a tuple of texts) -/
theorem mt_join : MtR X "str.join" (fun x xs H Q => ∃ a p, ∃ ys : List Str, x = .str a ∧ xs = [.ref p] ∧ (SqL X.K H p (ys.map V.str) ∨ SqT X.K H p (ys.map V.str)) ∧
    (ys.map (·.length)).sum + ys.length * a.length ≤ 16777216 ∧ Q (.str (Txt.join a ys)) H) := by
  intro pins s σ H x xs v us Q I rx rs h
  obtain ⟨a, p, ys, rfl, rfl, hp, hz, h⟩ := h
  obtain ⟨t, rfl⟩ := rx
  cases rs with
  | cons r1 rs =>
    cases rs
    cases r1
    rcases hp with hp | hp
    · obtain ⟨its, r, ⟨o, n, ho, hc, _, hd⟩, _⟩ := I.list hp
      exact PyProof.Rows.join_list (items := its.toArray) ⟨o, ho, hc, n, hd⟩ (by rw [List.toList_toArray]; exact strs_of_vals r) hz fun t' k => ⟨.str _, H, I.tok k, ⟨t', rfl⟩, h⟩
    · obtain ⟨its, r, ht, _⟩ := I.tuple hp
      exact PyProof.Rows.join_tuple (items := its.toArray) ht (by rw [List.toList_toArray]; exact strs_of_vals r) hz fun t' k => ⟨.str _, H, I.tok k, ⟨t', rfl⟩, h⟩

end

section
variable {X : Cx} {o e : Expr} {to te : TE}
def tM1 (r : V → List V → Hp → VK → Prop) (to te : TE) : TE := fun σ H Q => to σ H fun x H1 => (∃ a, x = .str a) ∧ te σ H1 fun y H2 => r x [y] H2 Q
theorem pe_m1 {id : String} {name : Str} {apos pos : Pos} {r : V → List V → Hp → VK → Prop} (slot : Slot "str" name id) (ty : typeOf (.builtin id) = pure (.type "method_descriptor")) (rule : MtR X id r) (ho : PE X o to) (he : PE X e te)
    (hs : starEach [e] X.env = [(false, eval e X.env)] := by rfl) (hbase : attributeBase o name X.env (eval o X.env) = eval o X.env := by rfl) (hline : (apos.endLine == pos.line) = true := by rfl) :
    PE X (.Call (.Attribute o name apos) [e] [] pos) (tM1 r to te) := by
  intro pins s σ H Q I h
  refine PySem.Call_method1 hbase hs hline (thn (ho pins s σ H _ I h) fun v s1 ⟨x, H1, I1, r1, q1⟩ => ?_)
  obtain ⟨⟨a, rfl⟩, q1⟩ := q1
  obtain ⟨t, rfl⟩ := _root_.id r1
  refine ⟨"str", _, F.plainAttrs_str, slot, ty, typeIs_str _ _ _, (fun _ e => nomatch e), Calls.callWith_builtin rfl (Calls.evalArgs_plain (Calls.spliced_cons ?_))⟩
  exact thn (he pins s1 σ H1 _ I1 q1) fun u s2 ⟨y, H2, I2, r2, q2⟩ => Calls.spliced_nil (rule pins s2 σ H2 _ [y] _ [u] Q I2 r1 (.cons r2 .nil) q2)

theorem pe_split {apos pos : Pos} (ho : PE X o to) (he : PE X e te) (hs : starEach [e] X.env = [(false, eval e X.env)] := by rfl) (hbase : attributeBase o "split" X.env (eval o X.env) = eval o X.env := by rfl) (hline : (apos.endLine == pos.line) = true := by rfl) :
    PE X (.Call (.Attribute o "split" apos) [e] [] pos) (tM1 (fun x xs H Q => ∃ a b, x = .str a ∧ xs = [.str b] ∧ (b.length == 0) = false ∧ a.length + 2 ≤ sizeLine ∧ rNewStrs (Txt.split a b) H Q) to te) :=
  pe_m1 F.slot_str_split F.type_str_split mt_split ho he hs hbase hline
theorem pe_join {apos pos : Pos} (ho : PE X o to) (he : PE X e te) (hs : starEach [e] X.env = [(false, eval e X.env)] := by rfl) (hbase : attributeBase o "join" X.env (eval o X.env) = eval o X.env := by rfl) (hline : (apos.endLine == pos.line) = true := by rfl) :
    PE X (.Call (.Attribute o "join" apos) [e] [] pos) (tM1 (fun x xs H Q => ∃ a p, ∃ ys : List Str, x = .str a ∧ xs = [.ref p] ∧ (SqL X.K H p (ys.map V.str) ∨ SqT X.K H p (ys.map V.str)) ∧
      (ys.map (·.length)).sum + ys.length * a.length ≤ 16777216 ∧ Q (.str (Txt.join a ys)) H) to te) :=
  pe_m1 F.slot_str_join F.type_str_join mt_join ho he hs hbase hline
end
end L2

namespace L2
open PySem PySem.Spec PyProof.Rows

section
variable {X : Cx}
end

theorem IsPart.raw {v : Value} {o : Option Int} (p : IsPart v o) : ∃ l : Option (Int × Tok), v = partValue l ∧ l.map (·.1) = o := by
  cases p with
  | none => exact ⟨none, rfl, rfl⟩
  | int i t => exact ⟨some (i, t), rfl, rfl⟩

/-- a part, clipped, as the text's slice reckons it -/
def clipS (n d : Nat) : Option Int → Int
  | none => (d : Int)
  | some i => max 0 (min (if i < 0 then i + (n : Int) else i) (n : Int))
theorem clipS_eq (n d : Nat) (o : Option Int) : clipS n d o = ((HT.sIx n d o : Nat) : Int) := by
  cases o with
  | none => rfl
  | some v =>
    show max (0 : Int) (min (if v < 0 then v + (n : Int) else v) (n : Int)) = (((if v < 0 then (v + (n : Int)).toNat else min v.toNat n) : Nat) : Int)
    by_cases hv : v < 0
    · simp only [if_pos hv]
      omega
    · simp only [if_neg hv]
      omega
theorem sidx_clip (a b : Option Int) (n : Nat) : Builtin.Str.strSliceIndices a b 1 n = sliceRange (clipS n 0 a) (clipS n n b) 1 := by
  have h1 : ((1 : Int) > 0) = True := by simp
  cases a <;> cases b <;> first
    | rfl
    | (simp only [Builtin.Str.strSliceIndices, clipS, h1, if_true]; rfl)
    | simp [Builtin.Str.strSliceIndices, clipS]
theorem sidx (a b : Option Int) (n : Nat) : Builtin.Str.strSliceIndices a b 1 n = (List.range (HT.sIx n n b - HT.sIx n 0 a)).map (fun k => HT.sIx n 0 a + k) := by
  rw [sidx_clip, clipS_eq, clipS_eq]
  generalize HT.sIx n 0 a = p
  generalize HT.sIx n n b = q
  simp only [sliceRange, show ((1 : Int) > 0) = True from by simp, if_true]
  by_cases hlt : (p : Int) < q
  · have e3 : (((q : Int) - p + 1 - 1) / 1).toNat = q - p := by first | omega | (simp; done) | (simp; omega)
    simp only [hlt, if_true, e3]
    refine List.map_congr_left fun k _ => ?_
    omega
  · have : q - p = 0 := by omega
    simp [hlt, this]

/-- z[lo:hi] -/
def cutS (z : Str) (lo hi : Option Int) : Str :=
  ⟨((z.cps.toList.drop (HT.sIx z.length 0 lo)).take (HT.sIx z.length z.length hi - HT.sIx z.length 0 lo)).toArray⟩
theorem sliceText_cut (z : Str) (lo hi : Option Int) : PySem.StrLaws.sliceText z lo hi = cutS z lo hi := by
  have h1 : HT.sIx z.length 0 lo ≤ z.length := HT.sIx_le _ _ (Nat.zero_le _) _
  have h2 : HT.sIx z.length z.length hi ≤ z.length := HT.sIx_le _ _ (Nat.le_refl _) _
  have hp : HT.sIx z.length 0 lo ≤ max (HT.sIx z.length 0 lo) (HT.sIx z.length z.length hi) := Nat.le_max_left _ _
  have hq : max (HT.sIx z.length 0 lo) (HT.sIx z.length z.length hi) ≤ z.length := Nat.max_le.mpr ⟨h1, h2⟩
  have hd : max (HT.sIx z.length 0 lo) (HT.sIx z.length z.length hi) - HT.sIx z.length 0 lo = HT.sIx z.length z.length hi - HT.sIx z.length 0 lo := by omega
  have e : Builtin.Str.strSliceIndices lo hi 1 z.length =
      Builtin.Str.strSliceIndices (some ((HT.sIx z.length 0 lo : Nat) : Int)) (some ((max (HT.sIx z.length 0 lo) (HT.sIx z.length z.length hi) : Nat) : Int)) 1 z.length := by
    rw [PySem.StrLaws.strSliceIndices_plain hp hq, hd, sidx]
  have e2 : PySem.StrLaws.sliceText z lo hi =
      PySem.StrLaws.sliceText z (some ((HT.sIx z.length 0 lo : Nat) : Int)) (some ((max (HT.sIx z.length 0 lo) (HT.sIx z.length z.length hi) : Nat) : Int)) := by
    unfold PySem.StrLaws.sliceText
    rw [e]
  rw [e2, PySem.StrLaws.sliceText_nat z hp hq, hd]
  rfl
theorem cutS_length (z : Str) (lo hi : Option Int) : (cutS z lo hi).length ≤ z.length := by
  show (((z.cps.toList.drop (HT.sIx z.length 0 lo)).take (HT.sIx z.length z.length hi - HT.sIx z.length 0 lo)).toArray).size ≤ z.cps.size
  rw [List.size_toArray, List.length_take, List.length_drop, Array.length_toList]
  omega
def rSlS : V → Option Int → Option Int → Hp → VK → Prop := fun x lo hi H Q => ∃ z, x = .str z ∧ z.length ≤ sizeLine ∧ Q (.str (cutS z lo hi)) H
theorem sl_str {X : Cx} : SlR X rSlS := by
  intro pins s σ H x v vl vu lo hi sl Q I rx hs pl pu h
  obtain ⟨z, rfl, hz, q⟩ := h
  obtain ⟨t, rfl⟩ := rx
  obtain ⟨os, hos, hcs, hds⟩ := hs
  obtain ⟨l, rfl, rfl⟩ := IsPart.raw pl
  obtain ⟨u, rfl, rfl⟩ := IsPart.raw pu
  refine ⟨"str", _, F.slot_str_getitem.lookup, typeIs_str _ _ _, ?_⟩
  refine wpAny_getItem_str_slice (l := l) (u := u) (st := none) ⟨os, hos, hcs, hds⟩ rfl ?_
  have hl : (PySem.StrLaws.sliceText z (l.map (·.1)) (u.map (·.1))).length ≤ sizeLine := by
    rw [sliceText_cut]
    exact Nat.le_trans (cutS_length z _ _) hz
  rw [← sliceText_cut] at q
  unfold PySem.StrLaws.sliceText at q hl
  show Made.post (if ((1 : Int) == 1 && (Builtin.Str.strSliceIndices (l.map (·.1)) (u.map (·.1)) 1 z.length).length == z.length) = true then Made.val (.str z t)
    else Made.str ⟨((Builtin.Str.strSliceIndices (l.map (·.1)) (u.map (·.1)) 1 z.length).filterMap (z.cps[·]?)).toArray⟩) (EP X pins σ Q) s
  by_cases c : ((1 : Int) == 1 && (Builtin.Str.strSliceIndices (l.map (·.1)) (u.map (·.1)) 1 z.length).length == z.length) = true
  · rw [if_pos c] at q ⊢
    exact ⟨.str z, H, I, ⟨t, rfl⟩, q⟩
  · rw [if_neg c] at q hl ⊢
    exact ⟨hl, .str _, H, I.tok _, ⟨_, rfl⟩, q⟩
end L2

namespace Att
open PySem PySem.W PySem.Calls PyProof.Rows

theorem ints_of_wellAll {P : Params} {h : Heap} : ∀ (ns : List Int) (vs : List Value), WellAll P h vs (ns.map WData.int) → IntsAre vs ns := by
  intro ns
  induction ns with
  | nil =>
    intro vs w
    rw [List.map_nil] at w
    cases w
    exact .nil
  | cons n ns ih =>
    intro vs w
    rw [List.map_cons] at w
    cases w with
    | cons a b =>
      cases a
      exact .cons _ _ (ih _ b)

theorem script_of {l : OpenLaw} {n : Nat} (hn : l.most = some n) {P : Params} {h : Heap} {args : List WData} {vals : List Value}
    (hpre : l.row.toRowW.claim.pre args = true) (hwl : WellAll P h vals args) :
    ∃ a vs ns, vals = [Value.ref a] ∧ args = [WData.list (ns.map WData.int)] ∧ h.get? a = some { cls := .type "list", data := .seq vs.toArray } ∧ IntsAre vs ns ∧ ns.length ≤ n := by
  have hsh : WShape.hasAll [] args [.list .int] = true := (pre_splitW hpre).1
  have hc : l.pre.holds [] { args := args } = true := (pre_splitW hpre).2
  obtain ⟨d, r, rfl, h1, h2⟩ := hasAllW_cons hsh
  obtain rfl := hasAllW_nil h2
  obtain ⟨xs, rfl, h3⟩ := hasW_list h1
  obtain ⟨ns, rfl⟩ := items_int h3
  have hlen : ns.length ≤ n := by
    unfold OpenLaw.pre at hc
    have h4 : (WTm.not (.lt (.lit (.int (n : Int))) (.len (.arg 0)))).holds [] { args := [.list (ns.map .int)] } = true := by
      have h4 := (holds_andW hc).1
      rw [hn] at h4
      exact h4
    have h5 := condW_of h4 (w_not (w_lt w_lit (w_len_list (w_arg rfl))))
    rw [List.length_map] at h5
    refine Nat.le_of_not_lt fun q => ?_
    have q' : (n : Int) < ((ns.length : Nat) : Int) := by omega
    first
      | (rw [decide_eq_true q'] at h5; exact absurd h5 (by decide))
      | (simp at h5; omega)
  cases hwl with
  | cons w1 w2 =>
    cases w2
    cases w1 with
    | list ho hall => exact ⟨_, _, ns, rfl, rfl, ho, ints_of_wellAll ns _ hall, hlen⟩

theorem post_true (l : OpenLaw) (args : List WData) : l.row.toRowW.claim.post args (.bool true) args = true :=
  postW_of (r := l.row.toRowW) (X := (true == true))
    (show WShape.has [] (.bool true) .bool = true by first | rfl | decide | simp [WShape.has, WShape.arms, WShape.armsAll])
    (show (WTm.eq .res (.lit (.bool true))).value [] { args := args, res := some (.bool true), after := args } = some (.bool (true == true)) from w_eq_bool (w_res rfl) w_lit) rfl

/-- the same from a codeAny of the CALL (for a layer whose function contracts speak of calls) -/
theorem attach_call {l : OpenLaw} {n : Nat} {q : Program} {loose : List Str} {XP : (Str → Option Value) → Heap → Prop} {YP : World → Heap → Prop} {d : DefRec}
    (hn : l.most = some n) (hdf : d.params.defaults = [])
    (call : ∀ (w : World) (s₀ s₁ : Shared) (mg mb : Str → Option Value) (fa : Addr) (o : Obj) (pm cd doc : Value) (a : Addr) (vs : List Value) (ns : List Int),
      Ground q loose [] XP w s₀ mg mb s₁.heap → YP w s₁.heap →
      s₁.heap.get? fa = some o → o.data = .func (docDef d.name d.params d.body d.scope pm cd doc) → s₁.heap.CodeRec cd d.name → mg d.name = some (.ref fa) →
      s₁.heap.get? a = some { cls := .type "list", data := .seq vs.toArray } → IntsAre vs ns → ns.length ≤ n → s₁.gens = #[] →
      codeAny (model l.prog w) callerA (.call (.ref fa) ⟨[.ref a], []⟩) (fun r s' => r = .ok (.ret (.bool true)) ∧ OldK s₁.heap s'.heap ∧ s'.os = s₁.os ∧ AllBare s'.gens) s₁) :
    WalkO q loose XP YP l.row.toRowW d [] (fun f vs => PySem.call f vs) := by
  intro w s₀ s₁ mg mb G Y fa o pm cd doc dV kV ho hd hcd hD hmg hg args vals as hpre hlay hrd hwl hlo
  obtain rfl : dV = .none := Dflts.none hD hdf
  obtain rfl : kV = .none := Dflts.noKw hD
  obtain ⟨a, vs, ns, rfl, rfl, hobj, hints, hlen⟩ := script_of hn hpre hwl
  refine enter_call (codeAny_mono (call w s₀ s₁ mg mb fa o pm cd doc a vs ns G Y ho (fd_plain hd) hcd hmg hobj hints hlen hg) fun r s' hq => ?_)
  obtain ⟨rfl, h2, h3, h4⟩ := hq
  exact ⟨.inl ⟨.bool true, .bool true, [], rfl, fun _ => rfl, .bool true, post_true l _, fun _ => ⟨List.Pairwise.nil, fun _ hm => (nomatch hm)⟩⟩, h2, h3, h4⟩

section
variable {prog : Program} {w : World} {A : Around} {E : Value → Shared → Prop} {s : Shared} {K : Frag}

end
end Att

namespace L2
open PySem PySem.Spec PyProof.Rows

theorem vals_ints : ∀ {vs : List Value} {ns : List Int}, IntsAre vs ns → Vals (ns.map V.int) vs
  | _, _, .nil => .nil
  | _, _, .cons n t h => .cons ⟨t, rfl⟩ (vals_ints h)

/-- nothing is tracked but the script, known to the object (or it is an object of the module) -/
def Only (H : Hp) : Prop := ∀ b, H b = none ∨ ∃ o xs, H b = some (.frz o (.lst xs))

/-- THE HEAD: the law's promise, at the heap behind the top. F, the promise of the law's def, may use that base is part of the heap (so K.In base, base.Ns mainGlobals mg stand in Mod) -/
theorem law_call {P : Program} {w : World} {K : PySem.W.Frag} {mg mb : Str → Option Value} {CX : CXT} {k : Nat} {fa a : Addr} {fd : FuncData} {x : Str} {sp : Sp} {s₁ : Shared} {vs : List Value} {ns : List Int}
    (KX : K.In s₁.heap) (hns : s₁.heap.Ns mainGlobals mg) (hb : s₁.heap.Ns builtinsNs mb) (hbb : ∀ x : Str, x ≠ "__name__" → mb x = bootBuiltins x) (hlim : s₁.heap.NoLimit) (hg : s₁.gens = #[])
    (ha : s₁.heap.get? a = some { cls := .type "list", data := .seq vs.toArray }) (hi : IntsAre vs ns) (hl : ns.length ≤ sizeLine) (hr : Room k callerA)
    (F : ∀ base : Heap, K.In base → base.Ns mainGlobals mg → FnOk P w K mg base CX k fa fd [x] sp) (hbind : ∀ (s : Shared) (u : Value), BindsTo s fd ⟨[u], []⟩ [(x, u)])
    (hsp : ∀ H : Hp, Only H → SqL K H a (ns.map V.int) → sp [.ref a] H (fun v _ => v = .bl true) fun _ _ _ => False)
    (hCX : ∀ H e s', CX [] H s₁ (fun _ _ _ => False) e s' → False) :
    codeAny (model P w) callerA (.call (.ref fa) ⟨[.ref a], []⟩) (fun r s' => r = .ok (.ret (.bool true)) ∧ OldK s₁.heap s'.heap ∧ s'.os = s₁.os ∧ AllBare s'.gens) s₁ := by
  have rv := vals_ints hi
  have lenV := hi.length
  -- from an abstract heap in which nothing but the script may be tracked
  have core : ∀ H : Hp, Only H → SqL K H a (ns.map V.int) → HOk P w H s₁.heap → (∀ b, H b ≠ none → b = a) → (H a ≠ none → K.lookup a = none) →
      codeAny (model P w) callerA (.call (.ref fa) ⟨[.ref a], []⟩) (fun r s' => r = .ok (.ret (.bool true)) ∧ OldK s₁.heap s'.heap ∧ s'.os = s₁.os ∧ AllBare s'.gens) s₁ := by
    intro H hO hS hok hA hK
    have base_of : ∀ {b : Addr} {o : Obj}, s₁.heap.get? b = some o → H b = none → (hidT s₁.heap H).get? b = some o := fun e n => hidT_get e n
    have noA : ∀ {b : Addr} {o : Obj} {es : Array DictEntry} {ep : Nat}, s₁.heap.get? b = some o → o.data = .dict es ep → H b = none := fun {b o es ep} e d => by
      cases q : H b with
      | none => rfl
      | some u =>
        have e' : b = a := hA b (by rw [q]; simp)
        subst e'
        rw [ha] at e; cases e
        have d' : Data.seq vs.toArray _ = Data.dict es ep := d
        cases d'
    have nsK : ∀ {b : Addr} {m : Str → Option Value}, s₁.heap.Ns b m → (hidT s₁.heap H).Ns b m := fun {b m} ⟨o, es, ep, e, d, r⟩ => ⟨o, es, ep, base_of e (noA e d), d, r⟩
    have hKb : K.In (hidT s₁.heap H) := fun b o e => base_of (KX b o e) (by
      cases q : H b with
      | none => rfl
      | some u =>
        have e' : b = a := hA b (by rw [q]; simp)
        subst e'
        rw [hK (by rw [q]; simp)] at e; cases e)
    have hM : Mod K mg (hidT s₁.heap H) := ⟨hKb, nsK hns, ⟨mb, nsK hb, hbb⟩, let ⟨mc, h1, h2⟩ := hlim; ⟨mc, nsK h1, h2⟩⟩
    have e0 : Env0 P w K mg (hidT s₁.heap H) callerA [] s₁ H := ⟨rfl, hM, fun b o e => of_hidT e, Nat.le_of_eq (hidT_size _ _), trivial, fun b hb => absurd (show b ∈ ([] : List Addr) from hb) (by simp), hok, .of_eq hg⟩
    refine codeAny_mono ((F _ hKb (nsK hns)).run callerA [] s₁ H ⟨[.ref a], []⟩ [.ref a] [.ref a] _ _ hr e0 (hbind s₁ (.ref a)) (.cons rfl .nil) (hsp H hO hS)) fun r s' h => ?_
    cases r with
    | error e => exact (hCX H e s' h).elim
    | ok fl =>
      cases fl with
      | next => exact False.elim h
      | brk => exact False.elim h
      | cont => exact False.elim h
      | ret u =>
        obtain ⟨v, H', os, bare, un, hok', r', q⟩ := h
        have q' : v = .bl true := q
        subst q'
        obtain rfl : u = Value.bool true := r'
        refine ⟨rfl, OldK.of_keep fun b o e => ?_, os, bare⟩
        cases q : H b with
        | none => exact un.keep b o e q (by intro z; exact absurd (show b ∈ ([] : List Addr) from z) (by simp)) (by simp)
        | some u =>
          rcases hO b with z | ⟨ob, xs, z⟩
          · rw [q] at z; cases z
          · have z2 := un.frzs b ob _ z
            obtain ⟨e1, _⟩ := hok b _ z
            obtain ⟨e2, _⟩ := hok' b _ z2
            rw [e] at e1; cases e1
            exact e2
  cases hk : K.lookup a with
  | some o =>
    -- the script is one of the module's own objects
    have e := KX a o hk
    rw [ha] at e
    cases e
    refine core (fun _ => none) (fun _ => .inl rfl) (.inr ⟨_, vs.toArray, _, hk, rfl, rfl, rfl, by rw [List.size_toArray, lenV]; exact hl, by simpa using rv⟩) (fun b u z => by have z' : (none : Option HO) = some u := z; cases z') (fun b z => absurd rfl z) fun z => absurd rfl z
  | none =>
    refine core (fun b => if b = a then some (.frz { cls := .type "list", data := .seq vs.toArray } (.lst (ns.map V.int))) else none) (fun b => ?_) (.inl (.inr ⟨{ cls := .type "list", data := .seq vs.toArray }, if_pos rfl⟩)) (fun b u z => ?_) (fun b z => ?_) fun _ => hk
    · by_cases hb : b = a
      · exact .inr ⟨_, _, if_pos hb⟩
      · exact .inl (if_neg hb)
    · by_cases hb : b = a
      · have z' := (if_pos hb).symm.trans z
        cases z'
        subst hb
        exact ⟨ha, by rw [List.length_map]; exact hl, vs, _, rv, ha⟩
      · have z' := (if_neg hb).symm.trans z
        cases z'
    · by_cases hb : b = a
      · exact hb
      · exact absurd (if_neg hb) z
end L2

namespace L2
open PySem PySem.Spec PyProof.Rows

/-- the goal that k_head leaves (case hc), from the law's promise. F gives the function object fd (K's own) once, then the promise over every base -/
theorem walk_of {l : PySem.W.OpenLaw} {n k : Nat} {q : Program} {loose : List Str} {XP : (Str → Option Value) → Heap → Prop} {YP : World → Heap → Prop} {d : DefRec} {K : Params → PySem.W.Frag} {CX : World → CXT} {sp : World → Sp} {x : Str}
    (hn : l.most = some n) (hn2 : n ≤ sizeLine) (hdf : d.params.defaults = []) (hr : Room k callerA)
    (hY : ∀ (w : World) (h : Heap), YP w h → (K w.params).In h)
    (F : ∀ (w : World) (mg : Str → Option Value) (fa : Addr) (h : Heap), (K w.params).In h → h.Ns mainGlobals mg → mg d.name = some (.ref fa) →
      ∃ fd : FuncData, (∀ (s : Shared) (u : Value), BindsTo s fd ⟨[u], []⟩ [(x, u)]) ∧
        ∀ base : Heap, (K w.params).In base → base.Ns mainGlobals mg → FnOk l.prog w (K w.params) mg base (CX w) k fa fd [x] (sp w))
    (hsp : ∀ (w : World) (H : Hp) (a : Addr) (ns : List Int), ns.length ≤ n → Only H → SqL (K w.params) H a (ns.map V.int) → sp w [.ref a] H (fun v _ => v = .bl true) fun _ _ _ => False)
    (hCX : ∀ (w : World) (H : Hp) (s : Shared) (e : Value) (s' : Shared), CX w [] H s (fun _ _ _ => False) e s' → False) :
    PySem.W.WalkO q loose XP YP l.row.toRowW d [] (fun f vs => PySem.call f vs) := by
  refine Att.attach_call hn hdf fun w s₀ s₁ mg mb fa o pm cd doc a vs ns G Y ho hd hcd hmg hobj hints hlen hg => ?_
  have KX := hY w _ Y
  obtain ⟨fd, hb, hF⟩ := F w mg fa _ KX G.T.g hmg
  exact law_call KX G.T.g G.T.b G.T.builtins G.T.nolimit hg hobj hints (Nat.le_trans hlen hn2) hr hF hb (fun H hO hS => hsp w H a ns hlen hO hS) fun H e s' => hCX w H s₁ e s'
end L2


namespace L2
open PySem PySem.Spec PyProof.Rows

def defArgs (s : Stmt) : Arguments := match s with
  | .FunctionDef _ a _ _ _ _ _ _ _ _ => a
  | _ => { posonlyargs := [], args := [], vararg := none, kwonlyargs := [], kw_defaults := [], kwarg := none, defaults := [] }
def defBody (s : Stmt) : List Stmt := match s with
  | .FunctionDef _ _ b _ _ _ _ _ _ _ => b
  | _ => []
def defScope (s : Stmt) : Scope := match s with
  | .FunctionDef _ _ _ _ _ _ sc _ _ _ => sc
  | _ => { kind := .function, names := [], isGenerator := false, isCoroutine := false }

abbrev CX0 : CXT := fun _ _ _ _ _ _ => False
abbrev E0 : XK := fun _ _ _ => False
theorem pass0 {X : Cx} : Passes CX0 X E0 := fun _ _ _ _ _ _ _ h => h.elim

structure Fun (K : PySem.W.Frag) (x qual : Str) (st : Stmt) (f : Addr) (fd : FuncData) : Prop where
  ex : ∃ (oc : Value) (od : Option Addr) (kV doc pm : Value) (an : Option Addr) (cdv ct : Value) (osl : Array (Option Value)),
    fd = PySem.W.fnOf x qual (defArgs st) (defBody st) (defScope st) .none kV doc pm an cdv ct ∧ K.lookup f = some ⟨oc, od, .func fd, osl⟩ ∧ PySem.W.codeIn K cdv qual = true
  kp : PySem.W.keepIn K (.ref f) = true
section
variable {P : Program} {w : World} {K : PySem.W.Frag} {mg : Str → Option Value} {base : Heap}
/-- THE RULE for a def: its body as a term of rules, and the reading of that term -/
theorem Fun.ok {x qual : Str} {st : Stmt} {f : Addr} {fd : FuncData} {N ps : List Str} {k : Nat} {sp : Sp} (F : Fun K x qual st f fd) (S : FnScope N ps (defScope st)) (len : ∀ vs H Q E, sp vs H Q E → vs.length = ps.length)
    (hbody : ∀ (cdv : Value) (A : Around) (outer : List Env) (s : Shared) (H : Hp) (vs : List V) (Q : VK) (E : XK), Room k (A.deeper (envOfC qual (defScope st) s.heap.objs.size f cdv)) → sp vs H Q E →
      ∃ t, PSs (cxOf CX0 P w K mg base N qual (defScope st) f cdv A outer s H E).nox (defBody st) t ∧ t { nx := fun _ H' => Q .non H', rt := Q } (start N vs) H) : FnOk P w K mg base CX0 (k + 1) f fd ps sp := by
  obtain ⟨oc, od, kV, doc, pm, an, cdv, ct, osl, rfl, lk, hcd⟩ := F.ex
  refine fn_of lk hcd S len fun A outer s H vs Q E hr hsp => ?_
  obtain ⟨t, h, q⟩ := hbody cdv A outer s H vs Q E hr hsp
  exact ⟨t, h.nox, q⟩
/-- how its arguments bind (no defaults): h is «fun _ _ _ _ _ _ us hl => match us, hl with | [_, _], _ => rfl», one _ a parameter -/
theorem Fun.binds {x qual : Str} {st : Stmt} {f : Addr} {fd : FuncData} {ps : List Str} (F : Fun K x qual st f fd)
    (h : ∀ (kV doc pm : Value) (an : Option Addr) (cdv ct : Value) (us : List Value), us.length = ps.length → bindArgs (PySem.W.fnOf x qual (defArgs st) (defBody st) (defScope st) .none kV doc pm an cdv ct) ⟨us, []⟩ = pure (ps.zip us)) : Binds K fd ps [] := by
  obtain ⟨oc, od, kV, doc, pm, an, cdv, ct, osl, rfl, lk, hcd⟩ := F.ex
  exact .all (h kV doc pm an cdv ct)
theorem fun_mk {x qual : Str} {st : Stmt} {f : Addr} {oc : Value} {od an : Option Addr} {osl : Array (Option Value)} {kV doc pm cdv ct : Value} (l : K.lookup f = some ⟨oc, od, .func (PySem.W.fnOf x qual (defArgs st) (defBody st) (defScope st) .none kV doc pm an cdv ct), osl⟩)
    (c : PySem.W.codeIn K cdv qual = true) (k : PySem.W.keepIn K (.ref f) = true) : Fun K x qual st f (PySem.W.fnOf x qual (defArgs st) (defBody st) (defScope st) .none kV doc pm an cdv ct) := ⟨⟨oc, od, kV, doc, pm, an, cdv, ct, osl, rfl, l, c⟩, k⟩
end
section
variable {X : Cx}
theorem pv (i : Nat) {x : Str} {pos : Pos} (hN : X.N[i]? = some x := by rfl) (hv : Vis X.env.scope x := by first | exact Or.inl rfl | exact Or.inr (Or.inl rfl) | exact Or.inr (Or.inr rfl)) (hd : (x == ("__debug__" : Str)) = false := by decide)
    (hcd : (x == ("__classdict__" : Str)) = false := by decide) : PE X (.Name x pos) (tVar i) := pe_var hN hv hd hcd
end

theorem iteF {A B : Prop} (h : B) : if false = true then A else B := by
  rw [if_neg Bool.false_ne_true]
  exact h
theorem iteT {A B : Prop} (h : A) : if true = true then A else B := by
  rw [if_pos rfl]
  exact h
/-- all that was tracked is as it was -/
def Same (H H' : Hp) : Prop := ∀ b o, H b = some o → H' b = some o
theorem Same.refl (H : Hp) : Same H H := fun _ _ h => h
theorem Same.trans {H H1 H2 : Hp} (a : Same H H1) (b : Same H1 H2) : Same H H2 := fun c o h => b c o (a c o h)
theorem Same.free {H H' : Hp} (e : Same H H') {l : Addr} (h : H' l = Option.none) : H l = Option.none := by
  cases q : H l with
  | none => rfl
  | some o =>
    rw [e l o q] at h
    cases h
theorem Same.seq {K : PySem.W.Frag} {H H' : Hp} {a : Addr} {xs : List V} (e : Same H H') (h : SqL K H a xs) : SqL K H' a xs := by
  rcases h with (h | ⟨o, h⟩) | h
  · exact .inl (.inl (e _ _ h))
  · exact .inl (.inr ⟨o, e _ _ h⟩)
  · exact .inr h

section
variable {κ : Type} [DecidableEq κ]
end
/-- a new instance and its __init__ leave all that was tracked as it was -/
theorem Same.made {H H1 : Hp} {x dx C : Addr} (nx : H x = Option.none) (nd : H dx = Option.none) (k : ∀ b o, (upd (upd H dx (.own x)) x (.ins C dx [])) b = some o → b ≠ x → H1 b = some o) : Same H H1 := fun b o e =>
  k b o (by rw [upd_ne (ne_of_none e nx), upd_ne (ne_of_none e nd)]; exact e) (ne_of_none e nx)
end L2

set_option Elab.async false
set_option linter.all false
set_option maxRecDepth 100000
set_option maxHeartbeats 4000000
namespace PD
open PySem L2

def kD : Key → PyData
  | .inl i => .int i
  | .inr x => .str x
mutual
inductive Rp (K : PySem.W.Frag) (H : Hp) : V → PyData → Prop
  | non : Rp K H .non .none
  | bl (b : Bool) : Rp K H (.bl b) (.bool b)
  | int (i : Int) : Rp K H (.int i) (.int i)
  | str (x : Str) : Rp K H (.str x) (.str x)
  | lst {a : Addr} {xs : List V} {ds : List PyData} : SqL K H a xs → RpAll K H xs ds → Rp K H (.ref a) (.list ds)
  | tup {a : Addr} {xs : List V} {ds : List PyData} : SqT K H a xs → RpAll K H xs ds → Rp K H (.ref a) (.tuple ds)
  | dct {a : Addr} {kvs : List (Key × V)} {es : List (PyData × PyData)} : Rd H a (.dK kvs) → RpKV K H kvs es → Rp K H (.ref a) (.dict es)
inductive RpAll (K : PySem.W.Frag) (H : Hp) : List V → List PyData → Prop
  | nil : RpAll K H [] []
  | cons {v : V} {vs : List V} {d : PyData} {ds : List PyData} : Rp K H v d → RpAll K H vs ds → RpAll K H (v :: vs) (d :: ds)
inductive RpKV (K : PySem.W.Frag) (H : Hp) : List (Key × V) → List (PyData × PyData) → Prop
  | nil : RpKV K H [] []
  | cons {k : Key} {v : V} {d : PyData} {vs : List (Key × V)} {ds : List (PyData × PyData)} : Rp K H v d → RpKV K H vs ds → RpKV K H ((k, v) :: vs) ((kD k, d) :: ds)
end
theorem sqT_same {K : PySem.W.Frag} {H H' : Hp} {a : Addr} {xs : List V} (e : Same H H') (h : SqT K H a xs) : SqT K H' a xs := by
  rcases h with (h | ⟨o, h⟩) | h
  · exact .inl (.inl (e _ _ h))
  · exact .inl (.inr ⟨o, e _ _ h⟩)
  · exact .inr h
theorem rd_same {H H' : Hp} {a : Addr} {u : HO} (e : Same H H') (h : Rd H a u) : Rd H' a u := by
  rcases h with h | ⟨o, h⟩
  · exact .inl (e _ _ h)
  · exact .inr ⟨o, e _ _ h⟩
section
variable {K : PySem.W.Frag} {H H' : Hp}
mutual
theorem Rp.mono (e : Same H H') : ∀ {v : V} {d : PyData}, Rp K H v d → Rp K H' v d
  | _, _, .non => .non
  | _, _, .bl b => .bl b
  | _, _, .int i => .int i
  | _, _, .str x => .str x
  | _, _, .lst h hs => .lst (e.seq h) (RpAll.mono e hs)
  | _, _, .tup h hs => .tup (sqT_same e h) (RpAll.mono e hs)
  | _, _, .dct h hs => .dct (rd_same e h) (RpKV.mono e hs)
theorem RpAll.mono (e : Same H H') : ∀ {vs : List V} {ds : List PyData}, RpAll K H vs ds → RpAll K H' vs ds
  | _, _, .nil => .nil
  | _, _, .cons h hs => .cons (Rp.mono e h) (RpAll.mono e hs)
theorem RpKV.mono (e : Same H H') : ∀ {vs : List (Key × V)} {ds : List (PyData × PyData)}, RpKV K H vs ds → RpKV K H' vs ds
  | _, _, .nil => .nil
  | _, _, .cons h hs => .cons (Rp.mono e h) (RpKV.mono e hs)
end
theorem RpAll.length : ∀ {vs : List V} {ds : List PyData}, RpAll K H vs ds → vs.length = ds.length
  | _, _, .nil => rfl
  | _, _, .cons _ hs => congrArg (· + 1) (RpAll.length hs)
theorem RpAll.get : ∀ {vs : List V} {ds : List PyData} {i : Nat} {v : V}, RpAll K H vs ds → vs[i]? = some v → ∃ d, ds[i]? = some d ∧ Rp K H v d
  | _, _, i, _, .nil, e => by simp at e
  | _, _, 0, _, .cons h _, e => by simp at e; subst e; exact ⟨_, rfl, h⟩
  | _, _, i + 1, v, .cons _ hs, e => by
    obtain ⟨d, h1, h2⟩ := RpAll.get (i := i) (v := v) hs (by simpa using e)
    exact ⟨d, by simpa using h1, h2⟩
theorem RpAll.get' : ∀ {vs : List V} {ds : List PyData} {i : Nat} {d : PyData}, RpAll K H vs ds → ds[i]? = some d → ∃ v, vs[i]? = some v ∧ Rp K H v d
  | _, _, i, _, .nil, e => by simp at e
  | _, _, 0, _, .cons h _, e => by simp at e; subst e; exact ⟨_, rfl, h⟩
  | _, _, i + 1, v, .cons _ hs, e => by
    obtain ⟨d, h1, h2⟩ := RpAll.get' (i := i) (d := v) hs (by simpa using e)
    exact ⟨d, by simpa using h1, h2⟩
theorem RpAll.append : ∀ {vs ws : List V} {ds es : List PyData}, RpAll K H vs ds → RpAll K H ws es → RpAll K H (vs ++ ws) (ds ++ es)
  | _, _, _, _, .nil, s => s
  | _, _, _, _, .cons h hs, s => .cons h (RpAll.append hs s)
theorem RpAll.set : ∀ {vs : List V} {ds : List PyData} (i : Nat) {v : V} {d : PyData}, RpAll K H vs ds → Rp K H v d → RpAll K H (vs.set i v) (ds.set i d)
  | _, _, _, _, _, .nil, _ => .nil
  | _, _, 0, _, _, .cons _ hs, h => .cons h hs
  | _, _, i + 1, _, _, .cons g hs, h => .cons g (RpAll.set i hs h)
theorem RpAll.take : ∀ {vs : List V} {ds : List PyData} (n : Nat), RpAll K H vs ds → RpAll K H (vs.take n) (ds.take n)
  | _, _, 0, _ => .nil
  | _, _, _ + 1, .nil => .nil
  | _, _, n + 1, .cons h hs => .cons h (RpAll.take n hs)
theorem RpAll.drop : ∀ {vs : List V} {ds : List PyData} (n : Nat), RpAll K H vs ds → RpAll K H (vs.drop n) (ds.drop n)
  | _, _, 0, h => h
  | _, _, _ + 1, .nil => .nil
  | _, _, n + 1, .cons _ hs => RpAll.drop n hs
theorem RpAll.ints : ∀ {vs : List V} {ns : List Int}, RpAll K H vs (ns.map PyData.int) → vs = ns.map V.int
  | _, [], .nil => rfl
  | _, n :: ns, .cons h hs => by
    cases h
    rw [RpAll.ints hs]; rfl
theorem RpAll.of_ints : ∀ (ns : List Int), RpAll K H (ns.map V.int) (ns.map PyData.int)
  | [] => .nil
  | n :: ns => .cons (.int n) (RpAll.of_ints ns)
theorem RpAll.bls : ∀ {vs : List V} {ns : List Bool}, RpAll K H vs (ns.map PyData.bool) → vs = ns.map V.bl
  | _, [], .nil => rfl
  | _, n :: ns, .cons h hs => by
    cases h
    rw [RpAll.bls hs]; rfl
end

/-- the entries of a dict whose keys are tuples -/
inductive RpKT (K : PySem.W.Frag) (H : Hp) : List (List Key × V) → List (PyData × PyData) → Prop
  | nil : RpKT K H [] []
  | cons {k : List Key} {v : V} {d : PyData} {vs : List (List Key × V)} {ds : List (PyData × PyData)} : Rp K H v d → RpKT K H vs ds → RpKT K H ((k, v) :: vs) ((.tuple (k.map kD), d) :: ds)
theorem RpKT.mono {K : PySem.W.Frag} {H H' : Hp} (e : Same H H') : ∀ {vs : List (List Key × V)} {ds : List (PyData × PyData)}, RpKT K H vs ds → RpKT K H' vs ds
  | _, _, .nil => .nil
  | _, _, .cons h hs => .cons (h.mono e) (RpKT.mono e hs)
inductive Sl where
  | un | fz (d : PyData) | mu (d : PyData) | ex (c : Str) | mt (es : List (PyData × PyData))
abbrev En := List Sl
inductive Mo (K : PySem.W.Frag) (G H : Hp) (a : Addr) : PyData → Prop
  | lst {xs : List V} {ds : List PyData} : H a = some (.lst xs) → RpAll K G xs ds → Mo K G H a (.list ds)
  | dct {kvs : List (Key × V)} {es : List (PyData × PyData)} : H a = some (.dK kvs) → RpKV K G kvs es → Mo K G H a (.dict es)
theorem Mo.some {K : PySem.W.Frag} {G H : Hp} {a : Addr} {d : PyData} (m : Mo K G H a d) : ∃ o, H a = some o := by
  cases m with
  | lst h _ => exact ⟨_, h⟩
  | dct h _ => exact ⟨_, h⟩
theorem Mo.nodT {K : PySem.W.Frag} {G H : Hp} {a : Addr} {d : PyData} (m : Mo K G H a d) (kvs : List (List Key × V)) : H a ≠ Option.some (HO.dT kvs) := by
  cases m with
  | lst h _ => rw [h]; intro z; cases z
  | dct h _ => rw [h]; intro z; cases z
theorem Mo.mono {K : PySem.W.Frag} {G H G' H' : Hp} {a : Addr} {d : PyData} (e : Same G G') (h : H' a = H a) (m : Mo K G H a d) : Mo K G' H' a d := by
  cases m with
  | lst h1 h2 => exact .lst (h.trans h1) (h2.mono e)
  | dct h1 h2 => exact .dct (h.trans h1) (h2.mono e)
theorem Mo.rp {K : PySem.W.Frag} {G H : Hp} {a : Addr} {d : PyData} {o : HO} (m : Mo K G H a d) (e : Same G H) : Rp K H (.ref a) d := by
  cases m with
  | lst h1 h2 => exact .lst (SqL.of h1) (h2.mono e)
  | dct h1 h2 => exact .dct (.inl h1) (h2.mono e)
/-- G grows; what is new in it was nothing in B -/
def Gr (B G G' : Hp) : Prop := Same G G' ∧ ∀ b, G b = none → G' b ≠ none → B b = none
theorem Gr.refl (B G : Hp) : Gr B G G := ⟨Same.refl G, fun _ h h' => absurd h h'⟩
theorem Gr.trans {B G G1 G2 : Hp} (a : Gr B G G1) (b : Gr B G1 G2) : Gr B G G2 := ⟨a.1.trans b.1, fun c h h' => by
  cases q : G1 c with
  | none => exact b.2 c q h'
  | some o => exact a.2 c h (by rw [q]; simp)⟩
theorem Gr.none {B G G' : Hp} (g : Gr B G G') {a : Addr} {o : HO} (h : G a = Option.none) (hb : B a = some o) : G' a = Option.none := by
  cases q : G' a with
  | none => rfl
  | some u =>
    have := g.2 a h (by rw [q]; simp)
    rw [hb] at this; cases this
/-- the slots that hold a changing dict of tuple keys: one at most -/
structure Mts (K : PySem.W.Frag) (B G H : Hp) (σ : St) (ε : En) : Prop where
  mts : ∀ (i : Nat) (es : List (PyData × PyData)), ε[i]? = some (.mt es) → ∃ a kvs, σ[i]? = some (some (.ref a)) ∧ G a = none ∧ B a = none ∧ H a = some (.dT kvs) ∧ RpKT K G kvs es
  dtt : ∀ (i j : Nat) (es fs : List (PyData × PyData)), ε[i]? = some (.mt es) → ε[j]? = some (.mt fs) → i = j
theorem Mts.less {K : PySem.W.Frag} {B G H : Hp} {σ σ' : St} {ε ε' : En} (r : Mts K B G H σ ε) (h : ∀ (j : Nat) (es : List (PyData × PyData)), ε'[j]? = some (.mt es) → ε[j]? = some (.mt es) ∧ σ'[j]? = σ[j]?) : Mts K B G H σ' ε' :=
  ⟨fun i es q => by
    obtain ⟨h1, h2⟩ := h i es q
    rw [h2]; exact r.mts i es h1, fun i j es fs q1 q2 => r.dtt i j es fs (h i es q1).1 (h j fs q2).1⟩
theorem mt_set {ε : En} {i j : Nat} {s : Sl} {es : List (PyData × PyData)} (hs : ∀ es, s ≠ .mt es) (h : (ε.set i s)[j]? = some (.mt es)) : i ≠ j ∧ ε[j]? = some (.mt es) := by
  by_cases hj : i = j
  · subst hj
    rw [List.getElem?_set] at h
    simp only [if_true] at h
    split at h
    · cases h; exact absurd rfl (hs es)
    · cases h
  · rw [List.getElem?_set_ne hj] at h
    exact ⟨hj, h⟩
theorem Mts.set {K : PySem.W.Frag} {B G H : Hp} {σ : St} {ε : En} {i : Nat} {s : Sl} {w : Option V} (r : Mts K B G H σ ε) (hs : ∀ es, s ≠ .mt es) : Mts K B G H (σ.set i w) (ε.set i s) :=
  r.less fun j es h => ⟨(mt_set hs h).2, by rw [List.getElem?_set_ne (mt_set hs h).1]⟩
theorem Mts.set' {K : PySem.W.Frag} {B G H : Hp} {σ : St} {ε : En} {i : Nat} {s : Sl} (r : Mts K B G H σ ε) (hs : ∀ es, s ≠ .mt es) : Mts K B G H σ (ε.set i s) :=
  r.less fun j es h => ⟨(mt_set hs h).2, rfl⟩
theorem Mts.move {K : PySem.W.Frag} {B G H B' G' H' : Hp} {σ : St} {ε : En} (r : Mts K B G H σ ε) (e : Same G G') (h : ∀ (a : Addr) (kvs : List (List Key × V)), G a = none → B a = none → H a = some (.dT kvs) → G' a = none ∧ B' a = none ∧ H' a = some (.dT kvs)) : Mts K B' G' H' σ ε :=
  ⟨fun i es q => by
    obtain ⟨a, kvs, h1, h2, h3, h4, h5⟩ := r.mts i es q
    obtain ⟨k1, k2, k3⟩ := h a kvs h2 h3 h4
    exact ⟨a, kvs, h1, k1, k2, k3, h5.mono e⟩, r.dtt⟩
theorem Mts.none {K : PySem.W.Frag} {B G H : Hp} {σ : St} {ε : En} (h : ∀ (j : Nat) (es : List (PyData × PyData)), ε[j]? ≠ some (.mt es)) : Mts K B G H σ ε := ⟨fun i es q => absurd q (h i es), fun i j es fs q => absurd q (h i es)⟩
structure Rep (K : PySem.W.Frag) (B G H : Hp) (z : Option (Option V)) (σ : St) (ε : En) : Prop where
  bg : Same B H
  sub : Same G H
  z0 : ∀ d : PyData, ε[0]? = some (.mu d) → σ[0]? = z
  len : ε.length ≤ σ.length
  fzs : ∀ (i : Nat) (d : PyData), ε[i]? = some (.fz d) → ∃ v, σ[i]? = some (some v) ∧ Rp K G v d
  mus : ∀ (i : Nat) (d : PyData), ε[i]? = some (.mu d) → ∃ a, σ[i]? = some (some (.ref a)) ∧ G a = none ∧ B a = none ∧ Mo K G H a d
  dis : ∀ (i j : Nat) (d e : PyData) (a : Addr), i ≠ j → ε[i]? = some (.mu d) → ε[j]? = some (.mu e) → σ[i]? = some (some (.ref a)) → σ[j]? = some (some (.ref a)) → False
  exs : ∀ (i : Nat) (c : Str), ε[i]? = some (.ex c) → ∃ a o u C, σ[i]? = some (some (.ref a)) ∧ G a = some (.frz o u) ∧ o.cls = .ref C ∧ PySem.W.nsIn K mainGlobals c = some (some (.ref C))
  ms : Mts K B G H σ ε

/-- a step that makes new objects alone -/
structure Grow (G H G' H' : Hp) : Prop where
  gg : Same G G'
  hh : Same H H'
  gh : Same G' H'
  fr : ∀ b, G b = none → G' b ≠ none → H b = none
theorem Grow.refl {G H : Hp} (e : Same G H) : Grow G H G H := ⟨Same.refl _, Same.refl _, e, fun _ h h' => absurd h h'⟩
theorem Grow.gr {B G H G' H' : Hp} (g : Grow G H G' H') (e : Same B H) : Gr B G G' := ⟨g.gg, fun b h h' => e.free (g.fr b h h')⟩
theorem Grow.rep {K : PySem.W.Frag} {B G H G' H' : Hp} {z : Option (Option V)} {σ : St} {ε : En} (g : Grow G H G' H') (r : Rep K B G H z σ ε) : Rep K B G' H' z σ ε where
  bg := r.bg.trans g.hh
  sub := g.gh
  z0 := r.z0
  len := r.len
  fzs := fun i d h => by
    obtain ⟨v, h1, h2⟩ := r.fzs i d h
    exact ⟨v, h1, h2.mono g.gg⟩
  mus := fun i d h => by
    obtain ⟨a, h1, h2, h3, h4⟩ := r.mus i d h
    obtain ⟨o, ho⟩ := h4.some
    refine ⟨a, h1, ?_, h3, h4.mono g.gg (by rw [g.hh a o ho, ho])⟩
    cases q : G' a with
    | none => rfl
    | some u =>
      have := g.fr a h2 (by rw [q]; simp)
      rw [ho] at this; cases this
  dis := r.dis
  exs := fun i c h => by
    obtain ⟨a, o, u, C, h1, h2, h3⟩ := r.exs i c h
    exact ⟨a, o, u, C, h1, g.gg _ _ h2, h3⟩
  ms := r.ms.move g.gg fun a kvs h1 h2 h3 => by
    refine ⟨?_, h2, g.hh _ _ h3⟩
    cases q : G' a with
    | none => rfl
    | some u =>
      have := g.fr a h1 (by rw [q]; simp)
      rw [h3] at this; cases this
/-- a new object, frozen at once -/
theorem grow_new {G H : Hp} {p : Addr} {o : HO} (e : Same G H) (h : H p = none) : Grow G H (upd G p o) (upd H p o) where
  gg := fun b u q => by
    have : b ≠ p := fun z => by subst z; rw [e.free h] at q; cases q
    rw [upd_ne this]; exact q
  hh := fun b u q => by
    have : b ≠ p := ne_of_none q h
    rw [upd_ne this]; exact q
  gh := fun b u q => by
    by_cases z : b = p
    · subst z; rw [upd_same] at q ⊢; exact q
    · rw [upd_ne z] at q ⊢; exact e b u q
  fr := fun b q q' => by
    by_cases z : b = p
    · subst z; exact h
    · rw [upd_ne z] at q'; exact absurd q q'
theorem same_new {H : Hp} {p : Addr} {o : HO} (h : H p = none) : Same H (upd H p o) := fun b u q => by
    have : b ≠ p := ne_of_none q h
    rw [upd_ne this]; exact q

abbrev Ef := En → Option (PyData × En)
abbrev Af := En → Option (List PyData × En)
abbrev Tf := En → Option (Bool × En)
inductive Out where
  | nx (ε : En) | rt (d : PyData) (ε : En) | bk (ε : En) | ct (ε : En) | rf (d : PyData) (ε : En)
abbrev Sf := En → Option Out
def tF (K : PySem.W.Frag) (f : Ef) : TE := fun σ H Q => ∃ B G z ε d ε', Rep K B G H z σ ε ∧ f ε = some (d, ε') ∧ ∀ v G' H', Gr B G G' → Rep K B G' H' z σ ε' → Rp K G' v d → Q v H'
def tAF (K : PySem.W.Frag) (f : Af) : TA := fun σ H Q => ∃ B G z ε d ε', Rep K B G H z σ ε ∧ f ε = some (d, ε') ∧ ∀ v G' H', Gr B G G' → Rep K B G' H' z σ ε' → RpAll K G' v d → Q v H'
def tTF (K : PySem.W.Frag) (f : Tf) : TT := fun σ H Q => ∃ B G z ε b ε', Rep K B G H z σ ε ∧ f ε = some (b, ε') ∧ ∀ G' H', Gr B G G' → Rep K B G' H' z σ ε' → Q b H'
/-- a fresh object that nothing else holds -/
def tFrF (K : PySem.W.Frag) (f : Ef) : TE := fun σ H Q => ∃ B G z ε d ε', Rep K B G H z σ ε ∧ f ε = some (d, ε') ∧ ∀ p G' H', Gr B G G' → Rep K B G' H' z σ ε' → G' p = none → B p = none → Mo K G' H' p d →
  (∀ (i : Nat) (e : PyData), ε'[i]? = some (.mu e) → σ[i]? ≠ some (some (.ref p))) → Q (.ref p) H'
def OutOk (K : PySem.W.Frag) (B G : Hp) (z : Option (Option V)) (D : Ends) : Out → Prop
  | .nx ε' => ∀ G' σ' H', Gr B G G' → Rep K B G' H' z σ' ε' → D.nx σ' H'
  | .rt d ε' => ∀ v G' σ' H', Gr B G G' → Rep K B G' H' z σ' ε' → Rp K G' v d → D.rt v H'
  | .bk ε' => ∀ G' σ' H', Gr B G G' → Rep K B G' H' z σ' ε' → D.bk σ' H'
  | .ct ε' => ∀ G' σ' H', Gr B G G' → Rep K B G' H' z σ' ε' → D.ct σ' H'
  | .rf d ε' => ∀ p G' σ' H', Gr B G G' → Rep K B G' H' z σ' ε' → G' p = none → B p = none → Mo K G' H' p d → D.rt (.ref p) H'
theorem OutOk.gr {K : PySem.W.Frag} {B G G1 : Hp} {z : Option (Option V)} {D : Ends} {o : Out} (g : Gr B G G1) (h : OutOk K B G z D o) : OutOk K B G1 z D o := by
  cases o with
  | nx ε => exact fun G' σ' H' g' r => h G' σ' H' (g.trans g') r
  | rt d ε => exact fun v G' σ' H' g' r p => h v G' σ' H' (g.trans g') r p
  | bk ε => exact fun G' σ' H' g' r => h G' σ' H' (g.trans g') r
  | ct ε => exact fun G' σ' H' g' r => h G' σ' H' (g.trans g') r
  | rf d ε => exact fun p G' σ' H' g' r h1 h2 h3 => h p G' σ' H' (g.trans g') r h1 h2 h3
def tSF (K : PySem.W.Frag) (f : Sf) : TS := fun D σ H => ∃ B G z ε o, Rep K B G H z σ ε ∧ f ε = some o ∧ OutOk K B G z D o
structure Ev (X : Cx) (e : Expr) (f : Ef) : Prop where
  p : PE X e (tF X.K f)
structure Fv (X : Cx) (e : Expr) (f : Ef) : Prop where
  p : PE X e (tFrF X.K f)
structure Av (X : Cx) (es : List Expr) (f : Af) : Prop where
  p : PA X es (tAF X.K f)
structure Tv (X : Cx) (e : Expr) (f : Tf) : Prop where
  p : PT X e (tTF X.K f)
structure Sv (X : Cx) (e : Stmt) (f : Sf) : Prop where
  p : PS X e (tSF X.K f)
structure Bv (X : Cx) (e : List Stmt) (f : Sf) : Prop where
  p : PSs X e (tSF X.K f)
section
variable {X : Cx}
theorem pe_mono {e : Expr} {t t' : TE} (h : PE X e t) (m : ∀ σ H Q, t' σ H Q → t σ H Q) : PE X e t' := fun pins s σ H Q I q => h pins s σ H Q I (m σ H Q q)
theorem pa_mono {e : List Expr} {t t' : TA} (h : PA X e t) (m : ∀ σ H Q, t' σ H Q → t σ H Q) : PA X e t' := fun pos pins s σ H Q I q => h pos pins s σ H Q I (m σ H Q q)
theorem pt_mono {e : Expr} {t t' : TT} (h : PT X e t) (m : ∀ σ H Q, t' σ H Q → t σ H Q) : PT X e t' := fun pins s σ H Q I q => h pins s σ H Q I (m σ H Q q)
theorem pw_mono {e : Expr} {t t' : TT} (h : PW X e t) (m : ∀ σ H Q, t' σ H Q → t σ H Q) : PW X e t' := fun w pins s σ H Q I q => h w pins s σ H Q I (m σ H Q q)
theorem ps_mono {e : Stmt} {t t' : TS} (h : PS X e t) (m : ∀ D σ H, t' D σ H → t D σ H) : PS X e t' := fun pins s σ H D I q => h pins s σ H D I (m D σ H q)
theorem pss_mono {e : List Stmt} {t t' : TS} (h : PSs X e t) (m : ∀ D σ H, t' D σ H → t D σ H) : PSs X e t' := fun pins s σ H D I q => h pins s σ H D I (m D σ H q)
end

theorem freeze {K : PySem.W.Frag} {B G H : Hp} {z : Option (Option V)} {σ : St} {ε : En} {p : Addr} {d : PyData} (r : Rep K B G H z σ ε) (hg : G p = none) (hb : B p = none) (m : Mo K G H p d)
    (hn : ∀ (i : Nat) (e : PyData), ε[i]? = some (.mu e) → σ[i]? ≠ some (some (.ref p))) :
    ∃ G', Gr B G G' ∧ Rep K B G' H z σ ε ∧ Rp K G' (.ref p) d := by
  obtain ⟨o, ho⟩ := m.some
  have sg : Same G (upd G p o) := same_new hg
  refine ⟨upd G p o, ⟨sg, fun b h h' => ?_⟩, ⟨r.bg, fun b u q => ?_, r.z0, r.len, fun i e h => ?_, fun i e h => ?_, r.dis, fun i c h => ?_, r.ms.move sg fun a kvs h1 h2 h3 => ⟨by
    have : a ≠ p := fun z => m.nodT kvs (by rw [← z]; exact h3)
    rw [upd_ne this]; exact h1, h2, h3⟩⟩, ?_⟩
  · by_cases e : b = p
    · subst e; exact hb
    · rw [upd_ne e] at h'; exact absurd h h'
  · by_cases e : b = p
    · subst e; rw [upd_same] at q; cases q; exact ho
    · rw [upd_ne e] at q; exact r.sub b u q
  · obtain ⟨v, h1, h2⟩ := r.fzs i e h
    exact ⟨v, h1, h2.mono sg⟩
  · obtain ⟨a, h1, h2, h3, h4⟩ := r.mus i e h
    have : a ≠ p := fun q => hn i e h (by rw [h1, q])
    exact ⟨a, h1, by rw [upd_ne this]; exact h2, h3, h4.mono sg rfl⟩
  · obtain ⟨a, o', u, C, h1, h2, h3⟩ := r.exs i c h
    exact ⟨a, o', u, C, h1, sg _ _ h2, h3⟩
  · cases m with
    | lst h1 h2 =>
      rw [h1] at ho; cases ho
      exact .lst (SqL.of upd_same) (h2.mono sg)
    | dct h1 h2 =>
      rw [h1] at ho; cases ho
      exact .dct (.inl upd_same) (h2.mono sg)
theorem Rep.set_fz {K : PySem.W.Frag} {B G H : Hp} {z : Option (Option V)} {σ : St} {ε : En} {i : Nat} {v : V} {d : PyData} (r : Rep K B G H z σ ε) (h : Rp K G v d) : Rep K B G H z (σ.set i (some v)) (ε.set i (.fz d)) where
  bg := r.bg
  sub := r.sub
  z0 := fun e q => by
    by_cases hj : i = 0
    · subst hj
      rw [List.getElem?_set] at q
      simp only [if_true] at q
      split at q <;> cases q
    · rw [List.getElem?_set_ne hj] at q ⊢; exact r.z0 e q
  len := by rw [List.length_set, List.length_set]; exact r.len
  fzs := fun j e q => by
    by_cases hj : i = j
    · subst hj
      have hl : i < ε.length := by
        by_cases hl : i < ε.length
        · exact hl
        · rw [List.getElem?_eq_none (by simpa using hl)] at q; cases q
      rw [List.getElem?_set_self hl] at q
      cases q
      exact ⟨v, by rw [List.getElem?_set_self (Nat.lt_of_lt_of_le hl r.len)], h⟩
    · rw [List.getElem?_set_ne hj] at q ⊢
      exact r.fzs j e q
  mus := fun j e q => by
    by_cases hj : i = j
    · subst hj
      by_cases hl : i < ε.length
      · rw [List.getElem?_set_self hl] at q; cases q
      · rw [List.getElem?_eq_none (by simpa using hl)] at q; cases q
    · rw [List.getElem?_set_ne hj] at q ⊢
      exact r.mus j e q
  dis := fun j k d' e' a hjk q1 q2 s1 s2 => by
    by_cases hj : i = j
    · subst hj
      by_cases hl : i < ε.length
      · rw [List.getElem?_set_self hl] at q1; cases q1
      · rw [List.getElem?_eq_none (by simpa using hl)] at q1; cases q1
    · by_cases hk : i = k
      · subst hk
        by_cases hl : i < ε.length
        · rw [List.getElem?_set_self hl] at q2; cases q2
        · rw [List.getElem?_eq_none (by simpa using hl)] at q2; cases q2
      · rw [List.getElem?_set_ne hj] at q1 s1
        rw [List.getElem?_set_ne hk] at q2 s2
        exact r.dis j k d' e' a hjk q1 q2 s1 s2
  exs := fun j c q => by
    by_cases hj : i = j
    · subst hj
      by_cases hl : i < ε.length
      · rw [List.getElem?_set_self hl] at q; cases q
      · rw [List.getElem?_eq_none (by simpa using hl)] at q; cases q
    · rw [List.getElem?_set_ne hj] at q ⊢
      exact r.exs j c q
  ms := r.ms.set fun _ z => by cases z
theorem Rep.set_mu {K : PySem.W.Frag} {B G H : Hp} {z : Option (Option V)} {σ : St} {ε : En} {i : Nat} {p : Addr} {d : PyData} (r : Rep K B G H z σ ε) (hi : i ≠ 0) (hg : G p = none) (hb : B p = none) (m : Mo K G H p d)
    (hn : ∀ (i : Nat) (e : PyData), ε[i]? = some (.mu e) → σ[i]? ≠ some (some (.ref p))) : Rep K B G H z (σ.set i (some (.ref p))) (ε.set i (.mu d)) where
  bg := r.bg
  sub := r.sub
  z0 := fun e q => by rw [List.getElem?_set_ne hi] at q ⊢; exact r.z0 e q
  len := by rw [List.length_set, List.length_set]; exact r.len
  fzs := fun j e q => by
    by_cases hj : i = j
    · subst hj
      by_cases hl : i < ε.length
      · rw [List.getElem?_set_self hl] at q; cases q
      · rw [List.getElem?_eq_none (by simpa using hl)] at q; cases q
    · rw [List.getElem?_set_ne hj] at q ⊢
      exact r.fzs j e q
  mus := fun j e q => by
    by_cases hj : i = j
    · subst hj
      have hl : i < ε.length := by
        by_cases hl : i < ε.length
        · exact hl
        · rw [List.getElem?_eq_none (by simpa using hl)] at q; cases q
      rw [List.getElem?_set_self hl] at q
      cases q
      exact ⟨p, by rw [List.getElem?_set_self (Nat.lt_of_lt_of_le hl r.len)], hg, hb, m⟩
    · rw [List.getElem?_set_ne hj] at q ⊢
      exact r.mus j e q
  dis := fun j k d' e' a hjk q1 q2 s1 s2 => by
    by_cases hj : i = j
    · subst hj
      have hl : i < ε.length := by
        by_cases hl : i < ε.length
        · exact hl
        · rw [List.getElem?_eq_none (by simpa using hl)] at q1; cases q1
      rw [List.getElem?_set_self (Nat.lt_of_lt_of_le hl r.len)] at s1
      have ep : p = a := by cases s1; rfl
      subst ep
      rw [List.getElem?_set_ne hjk] at q2 s2
      exact hn k e' q2 s2
    · by_cases hk : i = k
      · subst hk
        have hl : i < ε.length := by
          by_cases hl : i < ε.length
          · exact hl
          · rw [List.getElem?_eq_none (by simpa using hl)] at q2; cases q2
        rw [List.getElem?_set_self (Nat.lt_of_lt_of_le hl r.len)] at s2
        have ep : p = a := by cases s2; rfl
        subst ep
        rw [List.getElem?_set_ne hj] at q1 s1
        exact hn j d' q1 s1
      · rw [List.getElem?_set_ne hj] at q1 s1
        rw [List.getElem?_set_ne hk] at q2 s2
        exact r.dis j k d' e' a hjk q1 q2 s1 s2
  exs := fun j c q => by
    by_cases hj : i = j
    · subst hj
      by_cases hl : i < ε.length
      · rw [List.getElem?_set_self hl] at q; cases q
      · rw [List.getElem?_eq_none (by simpa using hl)] at q; cases q
    · rw [List.getElem?_set_ne hj] at q ⊢
      exact r.exs j c q
  ms := r.ms.set fun _ z => by cases z
/-- a mutable slot's object is stored into -/
theorem Rep.store {K : PySem.W.Frag} {B G H : Hp} {z : Option (Option V)} {σ : St} {ε : En} {i : Nat} {a : Addr} {d d' : PyData} {o : HO} (r : Rep K B G H z σ ε) (hi : ε[i]? = some (.mu d)) (ha : σ[i]? = some (some (.ref a)))
    (m : Mo K G (upd H a o) a d') : Rep K B G (upd H a o) z σ (ε.set i (.mu d')) := by
  obtain ⟨a', h1, hg, hb, hm⟩ := r.mus i d hi
  have ea : a' = a := by rw [ha] at h1; cases h1; rfl
  subst ea
  have hl : i < ε.length := by
    by_cases hl : i < ε.length
    · exact hl
    · rw [List.getElem?_eq_none (by simpa using hl)] at hi; cases hi
  refine ⟨fun b u q => ?_, fun b u q => ?_, (fun e q => by
    by_cases hj : i = 0
    · subst hj; exact r.z0 d hi
    · rw [List.getElem?_set_ne hj] at q; exact r.z0 e q), by rw [List.length_set]; exact r.len, fun j e q => ?_, fun j e q => ?_, fun j k d1 e1 b hjk q1 q2 s1 s2 => ?_, fun j c q => ?_, (r.ms.set' fun _ z => by cases z).move (Same.refl G) fun b kvs h1 h2 h3 => ⟨h1, h2, by
    have : b ≠ a' := fun z => hm.nodT kvs (by rw [← z]; exact h3)
    rw [upd_ne this]; exact h3⟩⟩
  · have : b ≠ a' := ne_of_none q hb
    rw [upd_ne this]; exact r.bg b u q
  · have : b ≠ a' := ne_of_none q hg
    rw [upd_ne this]; exact r.sub b u q
  · by_cases hj : i = j
    · subst hj; rw [List.getElem?_set_self hl] at q; cases q
    · rw [List.getElem?_set_ne hj] at q; exact r.fzs j e q
  · by_cases hj : i = j
    · subst hj; rw [List.getElem?_set_self hl] at q; cases q
      exact ⟨a', ha, hg, hb, m⟩
    · rw [List.getElem?_set_ne hj] at q
      obtain ⟨b, g1, g2, g3, g4⟩ := r.mus j e q
      have hne : b ≠ a' := fun eb => r.dis i j d e a' hj hi q ha (by rw [g1, eb])
      exact ⟨b, g1, g2, g3, g4.mono (Same.refl G) (upd_ne hne)⟩
  · have f : ∀ (j : Nat) (d1 : PyData), (ε.set i (Sl.mu d'))[j]? = some (.mu d1) → ∃ d2, ε[j]? = some (.mu d2) := fun j d1 q => by
      by_cases hj : i = j
      · subst hj; exact ⟨d, hi⟩
      · rw [List.getElem?_set_ne hj] at q; exact ⟨d1, q⟩
    obtain ⟨d2, e2⟩ := f j d1 q1
    obtain ⟨d3, e3⟩ := f k e1 q2
    exact r.dis j k d2 d3 b hjk e2 e3 s1 s2
  · by_cases hj : i = j
    · subst hj; rw [List.getElem?_set_self hl] at q; cases q
    · rw [List.getElem?_set_ne hj] at q; exact r.exs j c q
end PD

set_option Elab.async false
set_option linter.all false
set_option maxRecDepth 100000
set_option maxHeartbeats 4000000
namespace PD
open PySem L2

def notStar : Expr → Bool
  | .Starred _ _ => false
  | _ => true
def noStars : List Expr → Bool
  | [] => true
  | e :: es => notStar e && noStars es
theorem star_ok {e : Expr} {es : List Expr} {env : Env} (h : notStar e = true) : starEach (e :: es) env = (false, eval e env) :: starEach es env := by
  cases e <;> first | rfl | cases h
theorem back_ok {e : Expr} {es : List Expr} {env : Env} {pos : Pos} (h : notStar e = true) : backTo pos (starEach (e :: es) env) = (false, eval e env) :: backTo pos (starEach es env) := by rw [star_ok h]; rfl
theorem plain_ok {env : Env} {pos : Pos} : ∀ {es : List Expr}, noStars es = true → (backTo pos (starEach es env)).any (·.1) = false
  | [], _ => rfl
  | e :: es, h => by
    have h' : notStar e = true ∧ noStars es = true := by simpa [noStars] using h
    rw [back_ok h'.1]
    show (false || (backTo pos (starEach es env)).any (·.1)) = false
    rw [plain_ok h'.2]; rfl

def fC (d : PyData) : Ef := fun ε => some (d, ε)
def fVar (i : Nat) : Ef := fun ε => match ε[i]? with
  | some (.fz d) => some (d, ε)
  | some (.mu d) => some (d, ε.set i (.fz d))
  | _ => none
def fBin (g : PyData → PyData → Option PyData) (fa fb : Ef) : Ef := fun ε => (fa ε).bind fun p => (fb p.2).bind fun q => (g p.1 q.1).map fun c => (c, q.2)
def fUn (g : PyData → Option PyData) (fa : Ef) : Ef := fun ε => (fa ε).bind fun p => (g p.1).map fun c => (c, p.2)
def dTrue : PyData → Option Bool
  | .bool b => some b
  | _ => none
def fAnd (fa fb : Ef) : Ef := fun ε => (fa ε).bind fun p => (dTrue p.1).bind fun b => if b = true then fb p.2 else some (.bool false, p.2)
def fOr (fa fb : Ef) : Ef := fun ε => (fa ε).bind fun p => (dTrue p.1).bind fun b => if b = true then some (.bool true, p.2) else fb p.2
def dNot : PyData → Option PyData := fun d => (dTrue d).map fun b => .bool (!b)
def fChain (g g' : PyData → PyData → Option PyData) (fa fb fc : Ef) : Ef := fun ε => (fa ε).bind fun p => (fb p.2).bind fun q => (g p.1 q.1).bind fun c => (dTrue c).bind fun b =>
  if b = true then (fc q.2).bind fun r => (g' q.1 r.1).map fun c' => (c', r.2) else some (.bool false, q.2)
def fIfE (t : Tf) (fa fb : Ef) : Ef := fun ε => (t ε).bind fun p => if p.1 = true then fa p.2 else fb p.2
def fNil : Af := fun ε => some ([], ε)
def fCons (fa : Ef) (fs : Af) : Af := fun ε => (fa ε).bind fun p => (fs p.2).map fun q => (p.1 :: q.1, q.2)
def fCall (F : List PyData → Option PyData) (fa : Af) : Ef := fun ε => (fa ε).bind fun p => (F p.1).map fun c => (c, p.2)
/-- tests -/
def gVal (fa : Ef) : Tf := fun ε => (fa ε).bind fun p => (dTrue p.1).map fun b => (b, p.2)
def gAnd (a b : Tf) : Tf := fun ε => (a ε).bind fun p => if p.1 = true then b p.2 else some (false, p.2)
def gOr (a b : Tf) : Tf := fun ε => (a ε).bind fun p => if p.1 = true then some (true, p.2) else b p.2
def gNot (a : Tf) : Tf := fun ε => (a ε).map fun p => (!p.1, p.2)
def dTru : PyData → Option Bool
  | .none => some false
  | .bool b => some b
  | .int i => some (i != 0)
  | .str x => if x.length ≤ sizeLine then some ((x.length : Int) != 0) else none
  | .list ds => some (!ds.isEmpty)
  | .tuple ds => some (!ds.isEmpty)
  | .dict _ => none
def gTru (fa : Ef) : Tf := fun ε => (fa ε).bind fun p => (dTru p.1).map fun b => (b, p.2)

def OpD (K : PySem.W.Frag) (r : R2) (g : PyData → PyData → Option PyData) : Prop :=
  ∀ (v w : V) (d e c : PyData) (G H : Hp) (Q : VK), Rp K G v d → Rp K G w e → Same G H → g d e = some c → (∀ u G' H', Grow G H G' H' → Rp K G' u c → Q u H') → r v w H Q
def CaD (K : PySem.W.Frag) (r : List V → Hp → VK → Prop) (g : List PyData → Option PyData) : Prop :=
  ∀ (vs : List V) (ds : List PyData) (c : PyData) (G H : Hp) (Q : VK), RpAll K G vs ds → Same G H → g ds = some c → (∀ u G' H', Grow G H G' H' → Rp K G' u c → Q u H') → r vs H Q

section
variable {X : Cx} {a b e c : Expr} {es : List Expr} {fa fb fc : Ef} {ga gb : Tf} {fs : Af} {pos : Pos}
theorem ev_c {v : V} {d : PyData} (h : PE X e (tC v)) (hr : ∀ G, Rp X.K G v d) : Ev X e (fC d) := ⟨pe_mono h fun σ H Q ⟨B, G, z, ε, d', ε', r, ef, q⟩ => by
  cases ef
  exact q v G H (Gr.refl _ _) r (hr G)⟩
theorem ev_int {i : Int} {j} : Ev X (.Constant (.int i) j pos) (fC (.int i)) := ev_c pe_int fun _ => .int i
theorem ev_bl {i : Bool} {j} : Ev X (.Constant (.bool i) j pos) (fC (.bool i)) := ev_c pe_bl fun _ => .bl i
theorem ev_non {j} : Ev X (.Constant .none j pos) (fC .none) := ev_c pe_non fun _ => .non
theorem ev_str {i : Str} {j} : Ev X (.Constant (.str i) j pos) (fC (.str i)) := ev_c pe_str fun _ => .str i
theorem ev_var (i : Nat) (h : PE X e (tVar i)) : Ev X e (fVar i) := ⟨pe_mono h fun σ H Q ⟨B, G, z, ε, d', ε', r, ef, q⟩ => by
  unfold fVar at ef
  cases hi : ε[i]? with
  | none => rw [hi] at ef; cases ef
  | some sl =>
    rw [hi] at ef
    cases sl with
    | un => cases ef
    | ex c => cases ef
    | mt c => cases ef
    | fz d =>
      obtain ⟨rfl, rfl⟩ := Prod.mk.inj (Option.some.inj ef)
      obtain ⟨v, h1, h2⟩ := r.fzs i d hi
      exact ⟨v, h1, q v G H (Gr.refl _ _) r h2⟩
    | mu d =>
      obtain ⟨rfl, rfl⟩ := Prod.mk.inj (Option.some.inj ef)
      obtain ⟨p, h1, hg, hb, m⟩ := r.mus i d hi
      have hl : i < ε.length := by
        by_cases hl : i < ε.length
        · exact hl
        · rw [List.getElem?_eq_none (by simpa using hl)] at hi; cases hi
      have r1 : Rep X.K B G H z σ (ε.set i .un) := ⟨r.bg, r.sub, (fun e q => by
          by_cases hj : i = 0
          · subst hj; rw [List.getElem?_set_self hl] at q; cases q
          · rw [List.getElem?_set_ne hj] at q; exact r.z0 e q), by rw [List.length_set]; exact r.len, fun j e q => by
          by_cases hj : i = j
          · subst hj; rw [List.getElem?_set_self hl] at q; cases q
          · rw [List.getElem?_set_ne hj] at q; exact r.fzs j e q, fun j e q => by
          by_cases hj : i = j
          · subst hj; rw [List.getElem?_set_self hl] at q; cases q
          · rw [List.getElem?_set_ne hj] at q; exact r.mus j e q, fun j k d1 e1 a hjk q1 q2 s1 s2 => by
          by_cases hj : i = j
          · subst hj; rw [List.getElem?_set_self hl] at q1; cases q1
          · by_cases hk : i = k
            · subst hk; rw [List.getElem?_set_self hl] at q2; cases q2
            · rw [List.getElem?_set_ne hj] at q1
              rw [List.getElem?_set_ne hk] at q2
              exact r.dis j k d1 e1 a hjk q1 q2 s1 s2, fun j c q => by
          by_cases hj : i = j
          · subst hj; rw [List.getElem?_set_self hl] at q; cases q
          · rw [List.getElem?_set_ne hj] at q; exact r.exs j c q, r.ms.set' fun _ z => by cases z⟩
      obtain ⟨G', g1, r2, rp⟩ := freeze r1 hg hb m fun j e q s => by
        by_cases hj : i = j
        · subst hj; rw [List.getElem?_set_self hl] at q; cases q
        · rw [List.getElem?_set_ne hj] at q
          exact r.dis i j d e p hj hi q h1 s
      refine ⟨.ref p, h1, q _ G' H g1 ⟨r2.bg, r2.sub, (fun e q => by
          by_cases hj : i = 0
          · subst hj; rw [List.getElem?_set_self hl] at q; cases q
          · rw [List.getElem?_set_ne hj] at q; exact r.z0 e q), by rw [List.length_set]; exact r.len, fun j e q => ?_, fun j e q => ?_, fun j k d1 e1 a hjk q1 q2 s1 s2 => ?_, fun j c q => ?_, by
          have := r2.ms.set' (i := i) (s := .fz d) fun _ z => by cases z
          rw [List.set_set] at this; exact this⟩ rp⟩
      · by_cases hj : i = j
        · subst hj; rw [List.getElem?_set_self hl] at q; cases q
          exact ⟨_, h1, rp⟩
        · rw [List.getElem?_set_ne hj] at q
          exact r2.fzs j e (by rw [List.getElem?_set_ne hj]; exact q)
      · by_cases hj : i = j
        · subst hj; rw [List.getElem?_set_self hl] at q; cases q
        · rw [List.getElem?_set_ne hj] at q
          exact r2.mus j e (by rw [List.getElem?_set_ne hj]; exact q)
      · by_cases hj : i = j
        · subst hj; rw [List.getElem?_set_self hl] at q1; cases q1
        · by_cases hk : i = k
          · subst hk; rw [List.getElem?_set_self hl] at q2; cases q2
          · rw [List.getElem?_set_ne hj] at q1
            rw [List.getElem?_set_ne hk] at q2
            exact r.dis j k d1 e1 a hjk q1 q2 s1 s2
      · by_cases hj : i = j
        · subst hj; rw [List.getElem?_set_self hl] at q; cases q
        · rw [List.getElem?_set_ne hj] at q
          exact r2.exs j c (by rw [List.getElem?_set_ne hj]; exact q)⟩
theorem bin_read {r : R2} {g : PyData → PyData → Option PyData} (hd : OpD X.K r g) {σ : St} {H : Hp} {Q : VK} (h : tF X.K (fBin g fa fb) σ H Q) : tOp r (tF X.K fa) (tF X.K fb) σ H Q := by
  obtain ⟨B, G, z, ε, d, ε', rep, ef, q⟩ := h
  obtain ⟨⟨d1, ε1⟩, e1, ef1⟩ := Option.bind_eq_some_iff.mp ef
  obtain ⟨⟨d2, ε2⟩, e2, ef2⟩ := Option.bind_eq_some_iff.mp ef1
  obtain ⟨c, e3, ef3⟩ := Option.map_eq_some_iff.mp ef2
  obtain ⟨rfl, rfl⟩ := Prod.mk.inj ef3
  refine ⟨B, G, z, ε, d1, ε1, rep, e1, fun v1 G1 H1 g1 r1 p1 => ?_⟩
  refine ⟨B, G1, z, ε1, d2, ε2, r1, e2, fun v2 G2 H2 g2 r2 p2 => ?_⟩
  exact hd v1 v2 d1 d2 c G2 H2 _ (p1.mono g2.1) p2 r2.sub e3 fun u G3 H3 g3 p3 => q u G3 H3 ((g1.trans g2).trans (g3.gr r2.bg)) (g3.rep r2) p3
theorem ev_op {op : Operator} {r : R2} {g : PyData → PyData → Option PyData} (ho : OpR X (binaryOp op) r) (hd : OpD X.K r g) (ha : Ev X a fa) (hb : Ev X b fb) : Ev X (.BinOp a op b pos) (fBin g fa fb) :=
  ⟨pe_mono (pe_op ho ha.p hb.p) fun _ _ _ h => bin_read hd h⟩
theorem ev_cmp {op : CmpOp} {r : R2} {g : PyData → PyData → Option PyData} (ho : OpR X (compareOp op) r) (hd : OpD X.K r g) (ha : Ev X a fa) (hb : Ev X b fb) (hm : behindInMarks op b = false) : Ev X (.Compare a [op] [b] pos) (fBin g fa fb) :=
  ⟨pe_mono (pe_cmpR ho ha.p hb.p hm) fun _ _ _ h => bin_read hd h⟩
theorem dTrue_some {d : PyData} {b : Bool} (h : dTrue d = some b) : d = .bool b := by
  cases d <;> simp [dTrue] at h
  rw [h]
theorem ev_and {rest : List Expr} (ha : Ev X a fa) (hb : Ev X (.BoolOp .And (b :: rest) pos) fb) : Ev X (.BoolOp .And (a :: b :: rest) pos) (fAnd fa fb) :=
  ⟨pe_mono (pe_and ha.p hb.p) fun σ H Q ⟨B, G, z, ε, d, ε', rep, ef, q⟩ => by
    obtain ⟨⟨d1, ε1⟩, e1, ef1⟩ := Option.bind_eq_some_iff.mp ef
    obtain ⟨c, e3, ef2⟩ := Option.bind_eq_some_iff.mp ef1
    refine ⟨B, G, z, ε, d1, ε1, rep, e1, fun v1 G1 H1 g1 r1 p1 => ?_⟩
    cases dTrue_some e3
    cases p1
    refine ⟨c, rfl, ?_⟩
    cases c with
    | true =>
      rw [if_pos rfl] at ef2 ⊢
      exact ⟨B, G1, z, ε1, d, ε', r1, ef2, fun v2 G2 H2 g2 r2 p2 => q v2 G2 H2 (g1.trans g2) r2 p2⟩
    | false =>
      rw [if_neg Bool.false_ne_true] at ef2 ⊢
      obtain ⟨rfl, rfl⟩ := Prod.mk.inj (Option.some.inj ef2)
      exact q _ G1 H1 g1 r1 (.bl _)⟩
theorem ev_or {rest : List Expr} (ha : Ev X a fa) (hb : Ev X (.BoolOp .Or (b :: rest) pos) fb) : Ev X (.BoolOp .Or (a :: b :: rest) pos) (fOr fa fb) :=
  ⟨pe_mono (pe_or ha.p hb.p) fun σ H Q ⟨B, G, z, ε, d, ε', rep, ef, q⟩ => by
    obtain ⟨⟨d1, ε1⟩, e1, ef1⟩ := Option.bind_eq_some_iff.mp ef
    obtain ⟨c, e3, ef2⟩ := Option.bind_eq_some_iff.mp ef1
    refine ⟨B, G, z, ε, d1, ε1, rep, e1, fun v1 G1 H1 g1 r1 p1 => ?_⟩
    cases dTrue_some e3
    cases p1
    refine ⟨c, rfl, ?_⟩
    cases c with
    | true =>
      rw [if_pos rfl] at ef2 ⊢
      obtain ⟨rfl, rfl⟩ := Prod.mk.inj (Option.some.inj ef2)
      exact q _ G1 H1 g1 r1 (.bl _)
    | false =>
      rw [if_neg Bool.false_ne_true] at ef2 ⊢
      exact ⟨B, G1, z, ε1, d, ε', r1, ef2, fun v2 G2 H2 g2 r2 p2 => q v2 G2 H2 (g1.trans g2) r2 p2⟩⟩
theorem ev_one {op} (ha : Ev X a fa) : Ev X (.BoolOp op [a] pos) fa := ⟨pe_one ha.p⟩
theorem ev_not (ha : Ev X a fa) : Ev X (.UnaryOp .Not a pos) (fUn dNot fa) :=
  ⟨pe_mono (pe_not ha.p) fun σ H Q ⟨B, G, z, ε, d, ε', rep, ef, q⟩ => by
    obtain ⟨⟨d1, ε1⟩, e1, ef1⟩ := Option.bind_eq_some_iff.mp ef
    obtain ⟨c, e3, ef2⟩ := Option.map_eq_some_iff.mp ef1
    obtain ⟨k, e4, e5⟩ := Option.map_eq_some_iff.mp e3
    refine ⟨B, G, z, ε, d1, ε1, rep, e1, fun v1 G1 H1 g1 r1 p1 => ?_⟩
    cases dTrue_some e4
    cases p1
    obtain ⟨rfl, rfl⟩ := Prod.mk.inj ef2
    cases e5
    exact ⟨k, rfl, q _ G1 H1 g1 r1 (.bl _)⟩⟩
theorem chain_read {r r' : R2} {g g' : PyData → PyData → Option PyData} (hd : OpD X.K r g) (hd' : OpD X.K r' g') {σ : St} {H : Hp} {Q : VK} (h : tF X.K (fChain g g' fa fb fc) σ H Q) : tChain r r' (tF X.K fa) (tF X.K fb) (tF X.K fc) σ H Q := by
  obtain ⟨B, G, z, ε, d, ε', rep, ef, q⟩ := h
  obtain ⟨⟨d1, ε1⟩, e1, ef1⟩ := Option.bind_eq_some_iff.mp ef
  obtain ⟨⟨d2, ε2⟩, e2, ef2⟩ := Option.bind_eq_some_iff.mp ef1
  obtain ⟨c, e3, ef3⟩ := Option.bind_eq_some_iff.mp ef2
  obtain ⟨k, e4, ef4⟩ := Option.bind_eq_some_iff.mp ef3
  refine ⟨B, G, z, ε, d1, ε1, rep, e1, fun v1 G1 H1 g1 r1 p1 => ?_⟩
  refine ⟨B, G1, z, ε1, d2, ε2, r1, e2, fun v2 G2 H2 g2 r2 p2 => ?_⟩
  refine hd v1 v2 d1 d2 c G2 H2 _ (p1.mono g2.1) p2 r2.sub e3 fun u G3 H3 g3 p3 => ?_
  cases dTrue_some e4
  cases p3
  refine ⟨k, rfl, ?_⟩
  have r3 := g3.rep r2
  have gg := (g1.trans g2).trans (g3.gr r2.bg)
  cases k with
  | true =>
    rw [if_pos rfl] at ef4 ⊢
    obtain ⟨⟨d4, ε4⟩, e5, ef5⟩ := Option.bind_eq_some_iff.mp ef4
    obtain ⟨c', e6, ef6⟩ := Option.map_eq_some_iff.mp ef5
    obtain ⟨rfl, rfl⟩ := Prod.mk.inj ef6
    refine ⟨B, G3, z, ε2, d4, ε4, r3, e5, fun v4 G4 H4 g4 r4 p4 => ?_⟩
    exact hd' v2 v4 d2 d4 c' G4 H4 _ ((p2.mono g3.gg).mono g4.1) p4 r4.sub e6 fun u5 G5 H5 g5 p5 => q u5 G5 H5 ((gg.trans g4).trans (g5.gr r4.bg)) (g5.rep r4) p5
  | false =>
    rw [if_neg Bool.false_ne_true] at ef4 ⊢
    obtain ⟨rfl, rfl⟩ := Prod.mk.inj (Option.some.inj ef4)
    exact q _ G3 H3 gg r3 (.bl _)
theorem ev_chain {op op' : CmpOp} {r r' : R2} {g g' : PyData → PyData → Option PyData} (ho : OpR X (compareOp op) r) (ho' : OpR X (compareOp op') r') (hd : OpD X.K r g) (hd' : OpD X.K r' g') (ha : Ev X a fa) (hb : Ev X b fb) (hc : Ev X c fc)
    (hm : lastMarks [op, op'] [b, c] = false := by with_unfolding_all rfl) : Ev X (.Compare a [op, op'] [b, c] pos) (fChain g g' fa fb fc) :=
  ⟨pe_mono (pe_chain ho ho' ha.p hb.p hc.p hm) fun _ _ _ h => chain_read hd hd' h⟩
theorem av_nil : Av X [] fNil := ⟨pa_mono pa_nil fun σ H Q ⟨B, G, z, ε, d', ε', r, ef, q⟩ => by
  cases ef
  exact q [] G H (Gr.refl _ _) r .nil⟩
theorem av_cons (ha : Ev X e fa) (hr : Av X es fs) (hs : starEach (e :: es) X.env = (false, eval e X.env) :: starEach es X.env := by exact star_ok rfl) : Av X (e :: es) (fCons fa fs) :=
  ⟨pa_mono (pa_cons ha.p hr.p hs) fun σ H Q ⟨B, G, z, ε, d', ε', r, ef, q⟩ => by
    obtain ⟨⟨d1, ε1⟩, e1, ef1⟩ := Option.bind_eq_some_iff.mp ef
    obtain ⟨⟨d2, ε2⟩, e2, ef2⟩ := Option.map_eq_some_iff.mp ef1
    obtain ⟨rfl, rfl⟩ := Prod.mk.inj ef2
    refine ⟨B, G, z, ε, d1, ε1, r, e1, fun v1 G1 H1 g1 r1 p1 => ?_⟩
    exact ⟨B, G1, z, ε1, d2, ε2, r1, e2, fun v2 G2 H2 g2 r2 p2 => q _ G2 H2 (g1.trans g2) r2 (.cons (p1.mono g2.1) p2)⟩⟩
/-- a built-in's call -/
theorem call_read {r : List V → Hp → VK → Prop} {g : List PyData → Option PyData} (hd : CaD X.K r g) {σ : St} {H : Hp} {Q : VK} (h : tF X.K (fCall g fs) σ H Q) : tCB r (tAF X.K fs) σ H Q := by
  obtain ⟨B, G, z, ε, d, ε', rep, ef, q⟩ := h
  obtain ⟨⟨d1, ε1⟩, e1, ef1⟩ := Option.bind_eq_some_iff.mp ef
  obtain ⟨c, e3, ef2⟩ := Option.map_eq_some_iff.mp ef1
  obtain ⟨rfl, rfl⟩ := Prod.mk.inj ef2
  refine ⟨B, G, z, ε, d1, ε1, rep, e1, fun v1 G1 H1 g1 r1 p1 => ?_⟩
  exact hd v1 d1 c G1 H1 _ p1 r1.sub e3 fun u G3 H3 g3 p3 => q u G3 H3 (g1.trans (g3.gr r1.bg)) (g3.rep r1) p3
theorem ev_callB {id : String} {x : Str} {p : Pos} {r : List V → Hp → VK → Prop} {g : List PyData → Option PyData} (hc : CallR X (.builtin id) r) (hd : CaD X.K r g) (hg : Gl X x) (hm : X.mg x = none) (hv : bootBuiltins x = some (.builtin id)) (ha : Av X (e :: es) fs)
    (hn : x ≠ "__name__" := by decide) (hdb : (x == ("__debug__" : Str)) = false := by decide)
    (he : starEach (e :: es) X.env = (false, eval e X.env) :: starEach es X.env := by exact star_ok rfl) (hpl : (backTo pos (starEach es X.env)).any (·.1) = false := by exact plain_ok rfl) : Ev X (.Call (.Name x p) (e :: es) [] pos) (fCall g fs) :=
  ⟨pe_mono (pe_callB hc hg hm hv ha.p hn hdb he hpl) fun _ _ _ h => call_read hd h⟩
theorem ev_callTy {id : String} {x : Str} {p : Pos} {r : List V → Hp → VK → Prop} {g : List PyData → Option PyData} (hc : CallR X (.type id) r) (hd : CaD X.K r g) (hg : Gl X x) (hm : X.mg x = none) (hv : bootBuiltins x = some (.type id)) (ha : Av X (e :: es) fs)
    (hn : x ≠ "__name__" := by decide) (hdb : (x == ("__debug__" : Str)) = false := by decide)
    (he : starEach (e :: es) X.env = (false, eval e X.env) :: starEach es X.env := by exact star_ok rfl) (hpl : (backTo pos (starEach es X.env)).any (·.1) = false := by exact plain_ok rfl) : Ev X (.Call (.Name x p) (e :: es) [] pos) (fCall g fs) :=
  ⟨pe_mono (pe_callTy hc hg hm hv ha.p hn hdb he hpl) fun _ _ _ h => call_read hd h⟩
theorem tv_cmp {op : CmpOp} {r : R2} {g : PyData → PyData → Option PyData} (ho : OpR X (compareOp op) r) (hd : OpD X.K r g) (ha : Ev X a fa) (hb : Ev X b fb) (hm : behindInMarks op b = false) : Tv X (.Compare a [op] [b] pos) (gVal (fBin g fa fb)) :=
  ⟨pt_mono (pt_cmpR ho ha.p hb.p hm) fun σ H Q ⟨B, G, z, ε, d, ε', rep, ef, q⟩ => by
    obtain ⟨⟨d1, ε1⟩, e1, ef1⟩ := Option.bind_eq_some_iff.mp ef
    obtain ⟨c, e3, ef2⟩ := Option.map_eq_some_iff.mp ef1
    obtain ⟨rfl, rfl⟩ := Prod.mk.inj ef2
    refine bin_read hd ⟨B, G, z, ε, d1, ε1, rep, e1, fun v1 G1 H1 g1 r1 p1 => ?_⟩
    cases dTrue_some e3
    cases p1
    exact ⟨c, rfl, q G1 H1 g1 r1⟩⟩
theorem tv_chain {op op' : CmpOp} {r r' : R2} {g g' : PyData → PyData → Option PyData} (ho : OpR X (compareOp op) r) (ho' : OpR X (compareOp op') r') (hd : OpD X.K r g) (hd' : OpD X.K r' g') (ha : Ev X a fa) (hb : Ev X b fb) (hc : Ev X c fc)
    (hm : lastMarks [op, op'] [b, c] = false := by with_unfolding_all rfl) : Tv X (.Compare a [op, op'] [b, c] pos) (gVal (fChain g g' fa fb fc)) :=
  ⟨pt_mono (pt_chain ho ho' ha.p hb.p hc.p hm) fun σ H Q ⟨B, G, z, ε, d, ε', rep, ef, q⟩ => by
    obtain ⟨⟨d1, ε1⟩, e1, ef1⟩ := Option.bind_eq_some_iff.mp ef
    obtain ⟨c, e3, ef2⟩ := Option.map_eq_some_iff.mp ef1
    obtain ⟨rfl, rfl⟩ := Prod.mk.inj ef2
    refine chain_read hd hd' ⟨B, G, z, ε, d1, ε1, rep, e1, fun v1 G1 H1 g1 r1 p1 => ?_⟩
    cases dTrue_some e3
    cases p1
    exact ⟨c, rfl, q G1 H1 g1 r1⟩⟩
theorem tv_not (ha : Tv X a ga) : Tv X (.UnaryOp .Not a pos) (gNot ga) :=
  ⟨pt_mono (pt_not ha.p) fun σ H Q ⟨B, G, z, ε, d, ε', rep, ef, q⟩ => by
    obtain ⟨⟨d1, ε1⟩, e1, ef1⟩ := Option.map_eq_some_iff.mp ef
    obtain ⟨rfl, rfl⟩ := Prod.mk.inj ef1
    exact ⟨B, G, z, ε, d1, ε1, rep, e1, fun G1 H1 g1 r1 => q G1 H1 g1 r1⟩⟩
structure Wv (X : Cx) (e : Expr) (f : Tf) : Prop where
  p : PW X e (tTF X.K f)
theorem wv_and1 (ha : Tv X a ga) : Wv X (.BoolOp .And [a] pos) ga := ⟨pw_and1 ha.p⟩
theorem wv_or1 (ha : Tv X a ga) : Wv X (.BoolOp .Or [a] pos) ga := ⟨pw_or1 ha.p⟩
theorem wv_and {rest : List Expr} (ha : Tv X a ga) (hb : Wv X (.BoolOp .And (b :: rest) pos) gb) : Wv X (.BoolOp .And (a :: b :: rest) pos) (gAnd ga gb) :=
  ⟨pw_mono (pw_and ha.p hb.p) fun σ H Q ⟨B, G, z, ε, d, ε', rep, ef, q⟩ => by
    obtain ⟨⟨d1, ε1⟩, e1, ef1⟩ := Option.bind_eq_some_iff.mp ef
    refine ⟨B, G, z, ε, d1, ε1, rep, e1, fun G1 H1 g1 r1 => ?_⟩
    cases d1 with
    | true =>
      rw [if_pos rfl] at ef1 ⊢
      exact ⟨B, G1, z, ε1, d, ε', r1, ef1, fun G2 H2 g2 r2 => q G2 H2 (g1.trans g2) r2⟩
    | false =>
      rw [if_neg Bool.false_ne_true] at ef1 ⊢
      obtain ⟨rfl, rfl⟩ := Prod.mk.inj (Option.some.inj ef1)
      exact q G1 H1 g1 r1⟩
theorem wv_or {rest : List Expr} (ha : Tv X a ga) (hb : Wv X (.BoolOp .Or (b :: rest) pos) gb) : Wv X (.BoolOp .Or (a :: b :: rest) pos) (gOr ga gb) :=
  ⟨pw_mono (pw_or ha.p hb.p) fun σ H Q ⟨B, G, z, ε, d, ε', rep, ef, q⟩ => by
    obtain ⟨⟨d1, ε1⟩, e1, ef1⟩ := Option.bind_eq_some_iff.mp ef
    refine ⟨B, G, z, ε, d1, ε1, rep, e1, fun G1 H1 g1 r1 => ?_⟩
    cases d1 with
    | true =>
      rw [if_pos rfl] at ef1 ⊢
      obtain ⟨rfl, rfl⟩ := Prod.mk.inj (Option.some.inj ef1)
      exact q G1 H1 g1 r1
    | false =>
      rw [if_neg Bool.false_ne_true] at ef1 ⊢
      exact ⟨B, G1, z, ε1, d, ε', r1, ef1, fun G2 H2 g2 r2 => q G2 H2 (g1.trans g2) r2⟩⟩
theorem tv_w (h : Wv X a ga) : Tv X a ga := ⟨PW.pt h.p⟩
theorem tru_read {d : PyData} {b : Bool} {v : V} {K : PySem.W.Frag} {G H : Hp} (r : Rp K G v d) (s : Same G H) (h : dTru d = some b) : TruV K v H b := by
  cases r with
  | non => cases h; rfl
  | bl _ => cases h; rfl
  | int _ => cases h; rfl
  | str x =>
    have h' : (if x.length ≤ sizeLine then some ((x.length : Int) != 0) else none) = some b := h
    by_cases hl : x.length ≤ sizeLine
    · rw [if_pos hl] at h'; cases h'; exact ⟨hl, rfl⟩
    · rw [if_neg hl] at h'; cases h'
  | lst h1 h2 =>
    cases h
    refine .inl ⟨_, s.seq h1, ?_⟩
    have := h2.length
    rename_i xs ds
    cases xs <;> cases ds <;> simp at this ⊢
  | tup h1 h2 =>
    cases h
    refine .inr (.inl ⟨_, sqT_same s h1, ?_⟩)
    have := h2.length
    rename_i xs ds
    cases xs <;> cases ds <;> simp at this ⊢
  | dct _ _ => cases h
theorem tv_tru (ha : Ev X a fa) (he : ∀ whole, isTrue a X.env whole = (do let v ← whole; standAt a.pos; holding [v] (truthy v)) := by intro _; rfl) : Tv X a (gTru fa) :=
  ⟨pt_mono (pt_truth ha.p he) fun σ H Q ⟨B, G, z, ε, d, ε', rep, ef, q⟩ => by
    obtain ⟨⟨d1, ε1⟩, e1, ef1⟩ := Option.bind_eq_some_iff.mp ef
    obtain ⟨c, e3, ef2⟩ := Option.map_eq_some_iff.mp ef1
    obtain ⟨rfl, rfl⟩ := Prod.mk.inj ef2
    exact ⟨B, G, z, ε, d1, ε1, rep, e1, fun v1 G1 H1 g1 r1 p1 => ⟨c, tru_read p1 r1.sub e3, q G1 H1 g1 r1⟩⟩⟩
theorem ev_of_fv (h : Fv X e fa) : Ev X e fa := ⟨pe_mono h.p fun σ H Q ⟨B, G, z, ε, d, ε', rep, ef, q⟩ =>
  ⟨B, G, z, ε, d, ε', rep, ef, fun p G1 H1 g1 r1 hg hb m hn => by
    obtain ⟨G2, g2, r2, rp⟩ := freeze r1 hg hb m hn
    exact q _ G2 H1 (g1.trans g2) r2 rp⟩⟩
def dTup (ds : List PyData) : Option PyData := if ds.length ≤ sizeLine then some (.tuple ds) else none
def dLst (ds : List PyData) : Option PyData := if ds.length ≤ sizeLine then some (.list ds) else none
theorem ev_tup {x1} (h : Av X es fs) : Ev X (.Tuple es x1 pos) (fCall dTup fs) :=
  ⟨pe_mono (pe_tup h.p) fun σ H Q ⟨B, G, z, ε, d, ε', rep, ef, q⟩ => by
    obtain ⟨⟨d1, ε1⟩, e1, ef1⟩ := Option.bind_eq_some_iff.mp ef
    obtain ⟨c, e3, ef2⟩ := Option.map_eq_some_iff.mp ef1
    obtain ⟨rfl, rfl⟩ := Prod.mk.inj ef2
    unfold dTup at e3
    split at e3
    · cases e3
      rename_i hl
      refine ⟨B, G, z, ε, d1, ε1, rep, e1, fun v1 G1 H1 g1 r1 p1 => ⟨by rw [p1.length]; exact hl, fun p hp => ?_⟩⟩
      have gn := grow_new (o := HO.tup v1) r1.sub hp
      exact q _ _ _ (g1.trans (gn.gr r1.bg)) (gn.rep r1) (.tup (SqT.of upd_same) (p1.mono gn.gg))
    · cases e3⟩
theorem nomu {K : PySem.W.Frag} {B G H : Hp} {z : Option (Option V)} {σ : St} {ε : En} {p : Addr} (r : Rep K B G H z σ ε) (hp : H p = none) : ∀ (i : Nat) (e : PyData), ε[i]? = some (.mu e) → σ[i]? ≠ some (some (.ref p)) := fun i e hi hs => by
  obtain ⟨a, h1, _, _, h4⟩ := r.mus i e hi
  obtain ⟨o, ho⟩ := h4.some
  rw [hs] at h1; cases h1
  rw [hp] at ho; cases ho
/-- a new object that isn't frozen -/
theorem rep_new {K : PySem.W.Frag} {B G H : Hp} {z : Option (Option V)} {σ : St} {ε : En} {p : Addr} {o : HO} (r : Rep K B G H z σ ε) (hp : H p = none) : Rep K B G (upd H p o) z σ ε :=
  (Grow.mk (Same.refl G) (same_new hp) (r.sub.trans (same_new hp)) (fun _ h h' => absurd h h')).rep r
theorem fv_lst (h : Av X es fs) : Fv X (.List es pos) (fCall dLst fs) :=
  ⟨pe_mono (pe_lst h.p) fun σ H Q ⟨B, G, z, ε, d, ε', rep, ef, q⟩ => by
    obtain ⟨⟨d1, ε1⟩, e1, ef1⟩ := Option.bind_eq_some_iff.mp ef
    obtain ⟨c, e3, ef2⟩ := Option.map_eq_some_iff.mp ef1
    obtain ⟨rfl, rfl⟩ := Prod.mk.inj ef2
    unfold dLst at e3
    split at e3
    · cases e3
      rename_i hl
      refine ⟨B, G, z, ε, d1, ε1, rep, e1, fun v1 G1 H1 g1 r1 p1 => ⟨by rw [p1.length]; exact hl, fun p hp => ?_⟩⟩
      exact q p G1 _ g1 (rep_new r1 hp) (r1.sub.free hp) (r1.bg.free hp) (.lst upd_same p1) (nomu r1 hp)
    · cases e3⟩
theorem ev_lst (h : Av X es fs) : Ev X (.List es pos) (fCall dLst fs) := ev_of_fv (fv_lst h)
end
end PD

set_option Elab.async false
set_option linter.all false
set_option maxRecDepth 100000
set_option maxHeartbeats 4000000
namespace PD
open PySem L2

def sSeq (f g : Sf) : Sf := fun ε => (f ε).bind fun o => match o with
  | .nx ε' => g ε'
  | o => some o
def sPass : Sf := fun ε => some (.nx ε)
def sDrop (fa : Ef) : Sf := fun ε => (fa ε).map fun p => .nx p.2
def sRet (fa : Ef) : Sf := fun ε => (fa ε).map fun p => .rt p.1 p.2
def sRetF (fa : Ef) : Sf := fun ε => (fa ε).map fun p => .rf p.1 p.2
def sIf (t : Tf) (a b : Sf) : Sf := fun ε => (t ε).bind fun p => if p.1 = true then a p.2 else b p.2
def sAsg (i : Nat) (fa : Ef) : Sf := fun ε => (fa ε).map fun p => .nx (p.2.set i (.fz p.1))
def sAsgM (i : Nat) (fa : Ef) : Sf := fun ε => (fa ε).map fun p => .nx (p.2.set i (.mu p.1))
def bName (i : Nat) (d : PyData) (ε : En) : Option En := some (ε.set i (.fz d))
def bNames : List Nat → List PyData → En → Option En
  | [], [], ε => some ε
  | i :: is, d :: ds, ε => bNames is ds (ε.set i (.fz d))
  | _, _, _ => none
def bTup (is : List Nat) (d : PyData) (ε : En) : Option En := match d with
  | .tuple ds => bNames is ds ε
  | _ => none
def sAsgT (is : List Nat) (fa : Ef) : Sf := fun ε => (fa ε).bind fun p => (bTup is p.1 p.2).map .nx
def loopF (bind : PyData → En → Option En) (body : Sf) : List PyData → En → Option Out
  | [], ε => some (.nx ε)
  | d :: ds, ε => (bind d ε).bind fun ε1 => (body ε1).bind fun o => match o with
    | .nx ε2 => loopF bind body ds ε2
    | .ct ε2 => loopF bind body ds ε2
    | .bk ε2 => some (.nx ε2)
    | .rt d ε2 => some (.rt d ε2)
    | .rf d ε2 => some (.rf d ε2)
def sFor (src : Af) (bind : PyData → En → Option En) (body : Sf) : Sf := fun ε => (src ε).bind fun p => loopF bind body p.1 p.2
def clr (ε : En) : List Nat → En
  | [] => ε
  | v :: vs => (clr ε vs).set v .un
def compF (bind : PyData → En → Option En) (cond : Tf) (elt : Ef) (vs : List Nat) : List PyData → En → Option (List PyData × En)
  | [], ε => some ([], ε)
  | d :: ds, ε => (bind d ε).bind fun ε1 => (cond ε1).bind fun p => if p.1 = true then (elt p.2).bind fun q => (compF bind cond elt vs ds (clr q.2 vs)).map fun r => (q.1 :: r.1, r.2) else compF bind cond elt vs ds (clr p.2 vs)
def fComp (src : Af) (bind : PyData → En → Option En) (cond : Tf) (elt : Ef) (vs : List Nat) : Ef := fun ε => (src ε).bind fun p => (compF bind cond elt vs p.1 (clr p.2 vs)).bind fun r => (dLst r.1).map fun d => (d, r.2)

section
variable {X : Cx} {st : Stmt} {rest : List Stmt} {f g : Sf} {e : Expr} {fa : Ef} {ga : Tf} {pos : Pos}
theorem bv_nil : Bv X [] sPass := ⟨pss_mono pss_nil fun D σ H ⟨B, G, z, ε, o, r, ef, k⟩ => by
  cases ef
  exact k G σ H (Gr.refl _ _) r⟩
theorem bv_cons (h1 : Sv X st f) (h2 : Bv X rest g) : Bv X (st :: rest) (sSeq f g) := ⟨pss_mono (pss_cons h1.p h2.p) fun D σ H ⟨B, G, z, ε, o, r, ef, k⟩ => by
  obtain ⟨o1, e1, ef1⟩ := Option.bind_eq_some_iff.mp ef
  refine ⟨B, G, z, ε, o1, r, e1, ?_⟩
  cases o1 with
  | nx ε1 => exact fun G' σ' H' g1 r1 => ⟨B, G', z, ε1, o, r1, ef1, k.gr g1⟩
  | rt d ε1 => cases ef1; exact k
  | bk ε1 => cases ef1; exact k
  | ct ε1 => cases ef1; exact k
  | rf d ε1 => cases ef1; exact k⟩
theorem bv_one (h1 : Sv X st f) : Bv X [st] f := ⟨pss_one h1.p⟩
theorem sv_ret (he : Ev X e fa) : Sv X (.Return (some e) pos) (sRet fa) := ⟨ps_mono (ps_ret he.p) fun D σ H ⟨B, G, z, ε, o, r, ef, k⟩ => by
  obtain ⟨⟨d1, ε1⟩, e1, ef1⟩ := Option.map_eq_some_iff.mp ef
  subst ef1
  exact ⟨B, G, z, ε, d1, ε1, r, e1, fun v G' H' g1 r1 p1 => k v G' σ H' g1 r1 p1⟩⟩
theorem sv_retF (he : Fv X e fa) : Sv X (.Return (some e) pos) (sRetF fa) := ⟨ps_mono (ps_ret he.p) fun D σ H ⟨B, G, z, ε, o, r, ef, k⟩ => by
  obtain ⟨⟨d1, ε1⟩, e1, ef1⟩ := Option.map_eq_some_iff.mp ef
  subst ef1
  exact ⟨B, G, z, ε, d1, ε1, r, e1, fun p G' H' g1 r1 h1 h2 h3 _ => k p G' σ H' g1 r1 h1 h2 h3⟩⟩
theorem sv_if {c : Expr} {a b : List Stmt} (hc : Tv X c ga) (ha : Bv X a f) (hb : Bv X b g) : Sv X (.If c a b pos) (sIf ga f g) := ⟨ps_mono (ps_if hc.p ha.p hb.p) fun D σ H ⟨B, G, z, ε, o, r, ef, k⟩ => by
  obtain ⟨⟨d1, ε1⟩, e1, ef1⟩ := Option.bind_eq_some_iff.mp ef
  refine ⟨B, G, z, ε, d1, ε1, r, e1, fun G1 H1 g1 r1 => ?_⟩
  cases d1 with
  | true =>
    rw [if_pos rfl] at ef1 ⊢
    exact ⟨B, G1, z, ε1, o, r1, ef1, k.gr g1⟩
  | false =>
    rw [if_neg Bool.false_ne_true] at ef1 ⊢
    exact ⟨B, G1, z, ε1, o, r1, ef1, k.gr g1⟩⟩
theorem asg_read {i : Nat} {D : Ends} {σ : St} {H : Hp} (h : tSF X.K (sAsg i fa) D σ H) : tAsg (tF X.K fa) (gName i) D σ H := by
  obtain ⟨B, G, z, ε, o, r, ef, k⟩ := h
  obtain ⟨⟨d1, ε1⟩, e1, ef1⟩ := Option.map_eq_some_iff.mp ef
  subst ef1
  exact ⟨B, G, z, ε, d1, ε1, r, e1, fun v G' H' g1 r1 p1 => k G' _ H' g1 (r1.set_fz p1)⟩
theorem asgM_read {i : Nat} (hi : i ≠ 0) {D : Ends} {σ : St} {H : Hp} (h : tSF X.K (sAsgM i fa) D σ H) : tAsg (tFrF X.K fa) (gName i) D σ H := by
  obtain ⟨B, G, z, ε, o, r, ef, k⟩ := h
  obtain ⟨⟨d1, ε1⟩, e1, ef1⟩ := Option.map_eq_some_iff.mp ef
  subst ef1
  exact ⟨B, G, z, ε, d1, ε1, r, e1, fun p G' H' g1 r1 h1 h2 h3 h4 => k G' _ H' g1 (r1.set_mu hi h1 h2 h3 h4)⟩
theorem sv_set (i : Nat) {x : Str} {pos' : Pos} (hi0 : True) (hN : X.N.Nodup) (hi : X.N[i]? = some x) (hx : Loc X.env.scope x) (he : Ev X e fa) (hs : swapsWith e (some (.Name x pos')) pos.line X.env = pure false := by rfl) (hf : X.fn x = true ∨ X.env.scope.names.lookup x = some .local := by first | exact .inl rfl | exact .inr rfl | assumption) :
    Sv X (.Assign [.Name x pos'] e pos) (sAsg i fa) := ⟨ps_mono (ps_set hN hi hx he.p hs hf) fun _ _ _ h => asg_read h⟩
theorem sv_setM (i : Nat) {x : Str} {pos' : Pos} (hi0 : i ≠ 0) (hN : X.N.Nodup) (hi : X.N[i]? = some x) (hx : Loc X.env.scope x) (he : Fv X e fa) (hs : swapsWith e (some (.Name x pos')) pos.line X.env = pure false := by rfl) (hf : X.fn x = true ∨ X.env.scope.names.lookup x = some .local := by first | exact .inl rfl | exact .inr rfl | assumption) :
    Sv X (.Assign [.Name x pos'] e pos) (sAsgM i fa) := ⟨ps_mono (ps_set hN hi hx he.p hs hf) fun _ _ _ h => asgM_read hi0 h⟩
structure Gv (X : Cx) (tg : Expr) (g : TG) : Prop where
  p : PG X tg g
structure Gvs (X : Cx) (ts : List Expr) (g : TGs) : Prop where
  p : PGs X ts g
theorem gv_name {i : Nat} {x : Str} (hN : X.N.Nodup) (hi : X.N[i]? = some x) (hx : Loc X.env.scope x) (hf : X.fn x = true ∨ X.env.scope.names.lookup x = some .local := by first | exact .inl rfl | exact .inr rfl | assumption) : Gv X (.Name x pos) (gName i) := ⟨pg_name hN hi hx hf⟩
theorem gvs_nil : Gvs X [] gNil := ⟨pgs_nil⟩
theorem gvs_cons {e : Expr} {es : List Expr} {t : TG} {u : TGs} (h1 : Gv X e t) (h2 : Gvs X es u) (hs : (assignEach (e :: es) X.env).map (·.2) = assign e X.env :: (assignEach es X.env).map (·.2) := by rfl) : Gvs X (e :: es) (gCons t u) := ⟨pgs_cons h1.p h2.p hs⟩
theorem gv_tup {es : List Expr} {k : Nat} {t : TGs} {n : Nat} (hc : X.calm = true) (h : Gvs X es t) (hn : (assignEach es X.env).length = n := by rfl) (hst : (assignEach es X.env).findIdx? (·.1) = none := by rfl) : Gv X (.Tuple es k pos) (gTup X.K n t) := ⟨pg_tup hc h.p hn hst⟩
def gNames : List Nat → TGs
  | [] => gNil
  | i :: is => gCons (gName i) (gNames is)
theorem gNames_ok {K : PySem.W.Frag} : ∀ (is : List Nat) (ds : List PyData) (vs : List V) {B G H : Hp} {z : Option (Option V)} {σ : St} {ε ε' : En} {Q : St → Hp → Prop}, 0 ∉ is → Rep K B G H z σ ε → RpAll K G vs ds → bNames is ds ε = some ε' →
    (∀ σ', Rep K B G H z σ' ε' → σ'.length = σ.length → (∀ j, j ∉ is → σ'[j]? = σ[j]?) → Q σ' H) → gNames is vs σ H Q
  | [], [], _, _, _, _, _, _, _, _, _, _, r, .nil, e, q => by
    cases e
    exact ⟨rfl, q _ r rfl fun _ _ => rfl⟩
  | i :: is, d :: ds, _, B, G, H, z, σ, ε, ε', Q, h0, r, .cons p ps, e, q => by
    have hi : i ≠ 0 := fun z => h0 (by rw [z]; exact List.mem_cons_self ..)
    refine ⟨_, _, rfl, gNames_ok is ds _ (fun z => h0 (List.mem_cons_of_mem _ z)) (r.set_fz p) ps e fun σ' r' l k => q σ' r' (by rw [l, List.length_set]) fun j hj => ?_⟩
    rw [k j (fun z => hj (List.mem_cons_of_mem _ z)), List.getElem?_set_ne (fun z => hj (by rw [z]; exact List.mem_cons_self ..))]
  | [], _ :: _, _, _, _, _, _, _, _, _, _, _, _, _, e, _ => by cases e
  | _ :: _, [], _, _, _, _, _, _, _, _, _, _, _, _, e, _ => by cases e
theorem wipe_length (ε : St) : ∀ (vs : List Nat), (wipe ε vs).length = ε.length
  | [] => rfl
  | v :: vs => by show ((wipe ε vs).set v none).length = _; rw [List.length_set, wipe_length ε vs]
theorem wipe_get (σ : St) : ∀ (vs : List Nat) (j : Nat), (wipe σ vs)[j]? = if j ∈ vs then (σ[j]?).map (fun _ => none) else σ[j]?
  | [], j => by simp [wipe]
  | v :: vs, j => by
    show ((wipe σ vs).set v none)[j]? = _
    rw [List.getElem?_set]
    by_cases h : v = j
    · subst h
      rw [if_pos rfl, if_pos (List.mem_cons_self ..)]
      rw [wipe_length]
      by_cases hv : v < σ.length
      · rw [if_pos hv, List.getElem?_eq_getElem hv]; rfl
      · rw [if_neg hv, List.getElem?_eq_none (by omega)]; rfl
    · rw [if_neg h, wipe_get σ vs j]
      by_cases hj : j ∈ vs
      · rw [if_pos hj, if_pos (List.mem_cons_of_mem _ hj)]
      · rw [if_neg hj, if_neg (by simp only [List.mem_cons, not_or]; exact ⟨fun z => h z.symm, hj⟩)]
theorem wipe_eq {σ σ' : St} {vs : List Nat} (hl : σ'.length = σ.length) (h : ∀ j, j ∉ vs → σ'[j]? = σ[j]?) : wipe σ' vs = wipe σ vs := by
  apply List.ext_getElem?
  intro j
  rw [wipe_get, wipe_get]
  by_cases hj : j ∈ vs
  · rw [if_pos hj, if_pos hj]
    by_cases hv : j < σ.length
    · rw [List.getElem?_eq_getElem hv, List.getElem?_eq_getElem (by omega)]; rfl
    · rw [List.getElem?_eq_none (by omega), List.getElem?_eq_none (by omega)]
  · rw [if_neg hj, if_neg hj, h j hj]
/-- a target and what it binds -/
def TgOk (K : PySem.W.Frag) (g : TG) (bind : PyData → En → Option En) (vs : List Nat) : Prop :=
  ∀ (B G H : Hp) (z : Option (Option V)) (σ : St) (ε ε' : En) (v : V) (d : PyData) (Q : St → Hp → Prop), Rep K B G H z σ ε → Rp K G v d → bind d ε = some ε' → (∀ σ', Rep K B G H z σ' ε' → wipe σ' vs = wipe σ vs → Q σ' H) → g v σ H Q
theorem tg_name {K : PySem.W.Frag} {i : Nat} (h0 : i ≠ 0) : TgOk K (gName i) (bName i) [i] := fun B G H z σ ε ε' v d Q r p e q => by
  cases e
  refine q _ (r.set_fz p) (wipe_eq (by rw [List.length_set]) fun j hj => ?_)
  rw [List.getElem?_set_ne (fun z => hj (by rw [z]; exact List.mem_singleton.mpr rfl))]
theorem tg_tup {K : PySem.W.Frag} {n : Nat} {is : List Nat} (h0 : 0 ∉ is) (hn : n = is.length) : TgOk K (gTup K n (gNames is)) (bTup is) is := fun B G H z σ ε ε' v d Q r p e q => by
  cases p with
  | tup h1 h2 =>
    have hl : ∀ (is : List Nat) (ds : List PyData) (ε ε' : En), bNames is ds ε = some ε' → ds.length = is.length := by
      intro is
      induction is with
      | nil => intro ds ε ε' h; cases ds with
        | nil => rfl
        | cons _ _ => cases h
      | cons i is ih => intro ds ε ε' h; cases ds with
        | nil => cases h
        | cons d ds => exact congrArg (· + 1) (ih ds _ _ h)
    refine ⟨_, _, rfl, sqT_same r.sub h1, by rw [h2.length, hn]; exact hl _ _ _ _ e, ?_⟩
    exact gNames_ok is _ _ h0 r h2 e fun σ' r' l k => q σ' r' (wipe_eq l k)
  | non => cases e
  | bl _ => cases e
  | int _ => cases e
  | str _ => cases e
  | lst _ _ => cases e
  | dct _ _ => cases e
structure Walks (K : PySem.W.Frag) (G : Hp) (J : It) (ds : List PyData) : Prop where
  go : ∀ i H, Same G H → i < ds.length → J.go i H
  yld : ∀ i G1 H x H', Same G G1 → Same G1 H → i < ds.length → J.yld i H x H' → ∃ d G2, ds[i]? = some d ∧ Grow G1 H G2 H' ∧ Rp K G2 x d
  stop : ∀ i H, Same G H → ds.length ≤ i → J.stop i H
def tIF (K : PySem.W.Frag) (f : Af) : TI := fun σ H R => ∃ B G z ε ds ε', Rep K B G H z σ ε ∧ f ε = some (ds, ε') ∧ ∀ J G' H', Gr B G G' → Rep K B G' H' z σ ε' → Walks K G' J ds → R J H'
structure Iv (X : Cx) (tg iter : Expr) (f : Af) : Prop where
  p : PI X tg iter (tIF X.K f)
theorem sv_for {tg iter : Expr} {body : List Stmt} {src : Af} {g : TG} {bind : PyData → En → Option En} {vs : List Nat} (hp : PassesOwn (model X.prog X.w) X.A X.env X.xe) (hc : X.calm = true) (hi : Iv X tg iter src) (hg : Gv X tg g) (ht : TgOk X.K g bind vs) (hb : Bv X body f)
    (hs : ∀ x, foldedSetIterable iter X.env x = pure x := by intro _; rfl) : Sv X (.For tg iter body [] pos) (sFor src bind f) :=
  ⟨ps_mono (ps_for hp hc hi.p hg.p hb.p hs) fun D σ H ⟨B, G, z, ε, o, r, ef, k⟩ => by
    obtain ⟨⟨ds, ε1⟩, e1, ef1⟩ := Option.bind_eq_some_iff.mp ef
    refine ⟨B, G, z, ε, ds, ε1, r, e1, fun J G1 H1 g1 r1 w => ?_⟩
    refine ⟨fun i m σ H => i ≤ ds.length ∧ m = ds.length - i ∧ ∃ G' ε', Gr B G1 G' ∧ Rep X.K B G' H z σ ε' ∧ loopF bind f (ds.drop i) ε' = some o, ⟨_, Nat.zero_le _, rfl, G1, ε1, Gr.refl _ _, r1, by simpa using ef1⟩, ?_⟩
    rintro i m σ2 H2 ⟨hil, rfl, G2, ε2, g2, r2, e2⟩
    by_cases hlt : i < ds.length
    · refine .inr ⟨w.go i H2 (g2.1.trans r2.sub) hlt, fun σ' H' => i + 1 ≤ ds.length ∧ ∃ G' ε', Gr B G1 G' ∧ Rep X.K B G' H' z σ' ε' ∧ loopF bind f (ds.drop (i + 1)) ε' = some o, fun σ' H' ⟨h1, h2⟩ => ⟨_, by omega, h1, rfl, h2⟩, fun x H' y => ?_⟩
      obtain ⟨d, G3, hd, gr3, p3⟩ := w.yld i G2 H2 x H' g2.1 r2.sub hlt y
      have hdr : ds.drop i = d :: ds.drop (i + 1) := by
        rw [List.drop_eq_getElem_cons hlt]
        rw [List.getElem?_eq_getElem hlt] at hd
        cases hd; rfl
      rw [hdr] at e2
      obtain ⟨ε3, e3, e4⟩ := Option.bind_eq_some_iff.mp e2
      obtain ⟨o1, e5, e6⟩ := Option.bind_eq_some_iff.mp e4
      refine ht B G3 H' z σ2 ε2 ε3 x d _ (gr3.rep r2) p3 e3 fun σ' r' _ => ⟨B, G3, z, ε3, o1, r', e5, ?_⟩
      have gg : Gr B G1 G3 := g2.trans (gr3.gr r2.bg)
      cases o1 with
      | nx ε4 => exact fun G4 σ4 H4 g4 r4 => ⟨hlt, G4, ε4, gg.trans g4, r4, e6⟩
      | ct ε4 => exact fun G4 σ4 H4 g4 r4 => ⟨hlt, G4, ε4, gg.trans g4, r4, e6⟩
      | bk ε4 => cases e6; exact fun G4 σ4 H4 g4 r4 => k G4 σ4 H4 (g1.trans (gg.trans g4)) r4
      | rt d4 ε4 => cases e6; exact fun v G4 σ4 H4 g4 r4 p4 => k v G4 σ4 H4 (g1.trans (gg.trans g4)) r4 p4
      | rf d4 ε4 => cases e6; exact fun v G4 σ4 H4 g4 r4 p1 p2 p3 => k v G4 σ4 H4 (g1.trans (gg.trans g4)) r4 p1 p2 p3
    · have e : i = ds.length := by omega
      subst e
      rw [List.drop_length] at e2
      cases e2
      exact .inl ⟨w.stop _ H2 (g2.1.trans r2.sub) (Nat.le_refl _), k G2 σ2 H2 (g1.trans g2) r2⟩⟩
theorem clr_length (ε : En) : ∀ (vs : List Nat), (clr ε vs).length = ε.length
  | [] => rfl
  | v :: vs => by show ((clr ε vs).set v Sl.un).length = _; rw [List.length_set, clr_length ε vs]
theorem clr_get (ε : En) : ∀ (vs : List Nat) (j : Nat), (clr ε vs)[j]? = if j ∈ vs then (ε[j]?).map (fun _ => Sl.un) else ε[j]?
  | [], j => by simp [clr]
  | v :: vs, j => by
    show ((clr ε vs).set v Sl.un)[j]? = _
    rw [List.getElem?_set]
    by_cases h : v = j
    · subst h
      rw [if_pos rfl, if_pos (List.mem_cons_self ..)]
      rw [clr_length]
      by_cases hv : v < ε.length
      · rw [if_pos hv, List.getElem?_eq_getElem hv]; rfl
      · rw [if_neg hv, List.getElem?_eq_none (by omega)]; rfl
    · rw [if_neg h, clr_get ε vs j]
      by_cases hj : j ∈ vs
      · rw [if_pos hj, if_pos (List.mem_cons_of_mem _ hj)]
      · rw [if_neg hj, if_neg (by simp only [List.mem_cons, not_or]; exact ⟨fun z => h z.symm, hj⟩)]
theorem clr_some {ε : En} {vs : List Nat} {j : Nat} {s : Sl} (h : (clr ε vs)[j]? = some s) (hs : s ≠ .un) : j ∉ vs ∧ ε[j]? = some s := by
  rw [clr_get] at h
  by_cases hj : j ∈ vs
  · rw [if_pos hj] at h
    cases q : ε[j]? with
    | none => rw [q] at h; cases h
    | some t => rw [q] at h; cases h; exact absurd rfl hs
  · rw [if_neg hj] at h; exact ⟨hj, h⟩
/-- the slots of another frame that agree where something is known -/
theorem Rep.agree {K : PySem.W.Frag} {B G H : Hp} {z : Option (Option V)} {σ σ' : St} {ε ε' : En} (r : Rep K B G H z σ ε) (hl : ε'.length ≤ σ'.length) (h : ∀ (j : Nat) (s : Sl), s ≠ .un → ε'[j]? = some s → ε[j]? = some s ∧ σ'[j]? = σ[j]?) : Rep K B G H z σ' ε' where
  bg := r.bg
  sub := r.sub
  z0 := fun e q => by
    obtain ⟨h1, h2⟩ := h 0 _ (by intro z; cases z) q
    rw [h2]; exact r.z0 e h1
  len := hl
  fzs := fun i d q => by
    obtain ⟨h1, h2⟩ := h i _ (by intro z; cases z) q
    rw [h2]; exact r.fzs i d h1
  mus := fun i d q => by
    obtain ⟨h1, h2⟩ := h i _ (by intro z; cases z) q
    rw [h2]; exact r.mus i d h1
  dis := fun i j d e a hij q1 q2 s1 s2 => by
    obtain ⟨h1, h2⟩ := h i _ (by intro z; cases z) q1
    obtain ⟨h3, h4⟩ := h j _ (by intro z; cases z) q2
    exact r.dis i j d e a hij h1 h3 (h2 ▸ s1) (h4 ▸ s2)
  exs := fun i c q => by
    obtain ⟨h1, h2⟩ := h i _ (by intro z; cases z) q
    rw [h2]; exact r.exs i c h1
  ms := r.ms.less fun i es q => h i _ (by intro z; cases z) q
/-- another background: one more object that nothing here holds -/
theorem Rep.back {K : PySem.W.Frag} {B G H : Hp} {z : Option (Option V)} {σ : St} {ε : En} {D : Addr} {o : HO} (r : Rep K B G H z σ ε) (hD : H D = some o) (hk : ∀ kvs, o ≠ .dT kvs) (hn : ∀ (i : Nat) (e : PyData), ε[i]? = some (.mu e) → σ[i]? ≠ some (some (.ref D))) : Rep K (upd B D o) G H z σ ε where
  bg := fun b u q => by
    by_cases e : b = D
    · subst e; rw [upd_same] at q; cases q; exact hD
    · rw [upd_ne e] at q; exact r.bg b u q
  sub := r.sub
  z0 := r.z0
  len := r.len
  fzs := r.fzs
  mus := fun i d q => by
    obtain ⟨a, h1, h2, h3, h4⟩ := r.mus i d q
    have : a ≠ D := fun e => hn i d q (by rw [h1, e])
    exact ⟨a, h1, h2, by rw [upd_ne this]; exact h3, h4⟩
  dis := r.dis
  exs := r.exs
  ms := r.ms.move (Same.refl G) fun a kvs h1 h2 h3 => ⟨h1, by
    have : a ≠ D := fun e => by subst e; rw [hD] at h3; exact hk kvs (Option.some.inj h3)
    rw [upd_ne this]; exact h2, h3⟩
theorem Rep.unback {K : PySem.W.Frag} {B G H : Hp} {z : Option (Option V)} {σ : St} {ε : En} {D : Addr} {o : HO} (r : Rep K (upd B D o) G H z σ ε) (hB : B D = none) : Rep K B G H z σ ε where
  bg := fun b u q => r.bg b u (by rw [upd_ne (ne_of_none q hB)]; exact q)
  sub := r.sub
  z0 := r.z0
  len := r.len
  fzs := r.fzs
  mus := fun i d q => by
    obtain ⟨a, h1, h2, h3, h4⟩ := r.mus i d q
    by_cases e : a = D
    · subst e; rw [upd_same] at h3; cases h3
    · rw [upd_ne e] at h3
      exact ⟨a, h1, h2, h3, h4⟩
  dis := r.dis
  exs := r.exs
  ms := r.ms.move (Same.refl G) fun a kvs h1 h2 h3 => ⟨h1, by
    by_cases e : a = D
    · subst e; rw [upd_same] at h2; cases h2
    · rw [upd_ne e] at h2; exact h2, h3⟩
theorem Gr.unback {B G G' : Hp} {D : Addr} {o : HO} (g : Gr (upd B D o) G G') : Gr B G G' := ⟨g.1, fun b h h' => by
  have q := g.2 b h h'
  by_cases e : b = D
  · subst e; rw [upd_same] at q; cases q
  · rw [upd_ne e] at q; exact q⟩
/-- a store into an object that nothing here holds -/
theorem Rep.other {K : PySem.W.Frag} {B G H : Hp} {z : Option (Option V)} {σ : St} {ε : En} {D : Addr} {o : HO} (r : Rep K B G H z σ ε) (hB : B D = none) (hG : G D = none) (hk : ∀ kvs, H D ≠ some (.dT kvs)) (hn : ∀ (i : Nat) (e : PyData), ε[i]? = some (.mu e) → σ[i]? ≠ some (some (.ref D))) : Rep K B G (upd H D o) z σ ε where
  bg := fun b u q => by rw [upd_ne (ne_of_none q hB)]; exact r.bg b u q
  sub := fun b u q => by rw [upd_ne (ne_of_none q hG)]; exact r.sub b u q
  z0 := r.z0
  len := r.len
  fzs := r.fzs
  mus := fun i d q => by
    obtain ⟨a, h1, h2, h3, h4⟩ := r.mus i d q
    have : a ≠ D := fun e => hn i d q (by rw [h1, e])
    exact ⟨a, h1, h2, h3, h4.mono (Same.refl _) (upd_ne this)⟩
  dis := r.dis
  exs := r.exs
  ms := r.ms.move (Same.refl G) fun a kvs h1 h2 h3 => ⟨h1, h2, by
    have : a ≠ D := fun e => hk kvs (by rw [← e]; exact h3)
    rw [upd_ne this]; exact h3⟩
theorem mu_back {K : PySem.W.Frag} {B G H : Hp} {z : Option (Option V)} {σ : St} {ε : En} {D : Addr} {o : HO} (r : Rep K (upd B D o) G H z σ ε) : ∀ (i : Nat) (e : PyData), ε[i]? = some (.mu e) → σ[i]? ≠ some (some (.ref D)) := fun i e q s => by
  obtain ⟨a, h1, h2, h3, h4⟩ := r.mus i e q
  rw [s] at h1; cases h1
  rw [upd_same] at h3; cases h3
theorem lc_read {src : Af} {g : TG} {bind : PyData → En → Option En} {cond : Tf} {elt : Ef} {vs : List Nat} (h0 : 0 ∉ vs) (ht : TgOk X.K g bind vs) {σ : St} {H : Hp} {Q : VK} (h : tFrF X.K (fComp src bind cond elt vs) σ H Q) :
    tLc (tIF X.K src) g (tTF X.K cond) (tF X.K elt) vs σ H Q := by
  obtain ⟨B, G, z, ε, d, ε', r, ef, q⟩ := h
  obtain ⟨⟨ds, ε1⟩, e1, ef1⟩ := Option.bind_eq_some_iff.mp ef
  obtain ⟨⟨ys, ε2⟩, e2, ef2⟩ := Option.bind_eq_some_iff.mp ef1
  obtain ⟨d2, e3, ef3⟩ := Option.map_eq_some_iff.mp ef2
  obtain ⟨rfl, rfl⟩ := Prod.mk.inj ef3
  unfold dLst at e3
  by_cases hsz : ys.length ≤ sizeLine
  case neg => rw [if_neg hsz] at e3; cases e3
  rw [if_pos hsz] at e3
  cases e3
  refine ⟨B, G, z, ε, ds, ε1, r, e1, fun J G1 H1 g1 r1 w D hD => ?_⟩
  have hGD := r1.sub.free hD
  have hBD := r1.bg.free hD
  refine ⟨fun i m H => i ≤ ds.length ∧ m = ds.length - i ∧ ∃ G' εi acc as zs, Gr B G1 G' ∧ Rep X.K B G' H z (wipe σ vs) εi ∧ H D = some (.lst acc) ∧ RpAll X.K G' acc as ∧ G' D = none ∧
      (∀ (i : Nat) (e : PyData), εi[i]? = some (.mu e) → (wipe σ vs)[i]? ≠ some (some (.ref D))) ∧ (∀ j ∈ vs, ∀ s, εi[j]? = some s → s = .un) ∧ compF bind cond elt vs (ds.drop i) εi = some (zs, ε2) ∧ as ++ zs = ys,
    ⟨_, Nat.zero_le _, rfl, G1, clr ε1 vs, [], [], ys, Gr.refl _ _, ?_, upd_same, .nil, hGD, ?_, ?_, by simpa using e2, rfl⟩, ?_⟩
  · refine (rep_new r1 hD).agree (by rw [clr_length, wipe_length]; exact r1.len) fun j s hs hj => ?_
    obtain ⟨h1, h2⟩ := clr_some hj hs
    exact ⟨h2, by rw [wipe_get, if_neg h1]⟩
  · intro i e hi hs
    obtain ⟨h1, h2⟩ := clr_some hi (by intro z; cases z)
    rw [wipe_get, if_neg h1] at hs
    exact nomu r1 hD i e h2 hs
  · intro j hj s hs
    rw [clr_get, if_pos hj] at hs
    cases q : ε1[j]? with
    | none => rw [q] at hs; cases hs
    | some t => rw [q] at hs; cases hs; rfl
  · rintro i m H2 ⟨hil, rfl, G2, εi, acc, as, zs, g2, r2, hacc, pacc, hG2, hmu, hun, ec, hap⟩
    by_cases hlt : i < ds.length
    · refine .inr ⟨w.go i H2 (g2.1.trans r2.sub) hlt, fun H => i + 1 ≤ ds.length ∧ ∃ G' εi acc as zs, Gr B G1 G' ∧ Rep X.K B G' H z (wipe σ vs) εi ∧ H D = some (.lst acc) ∧ RpAll X.K G' acc as ∧ G' D = none ∧
      (∀ (i : Nat) (e : PyData), εi[i]? = some (.mu e) → (wipe σ vs)[i]? ≠ some (some (.ref D))) ∧ (∀ j ∈ vs, ∀ s, εi[j]? = some s → s = .un) ∧ compF bind cond elt vs (ds.drop (i + 1)) εi = some (zs, ε2) ∧ as ++ zs = ys, fun H' ⟨h1, h2⟩ => ⟨_, by omega, h1, rfl, h2⟩, fun x H' y => ?_⟩
      obtain ⟨dd, G3, hd, gr3, p3⟩ := w.yld i G2 H2 x H' g2.1 r2.sub hlt y
      have hdr : ds.drop i = dd :: ds.drop (i + 1) := by
        rw [List.drop_eq_getElem_cons hlt]
        rw [List.getElem?_eq_getElem hlt] at hd
        cases hd; rfl
      rw [hdr] at ec
      obtain ⟨ε3, e3, e4⟩ := Option.bind_eq_some_iff.mp ec
      obtain ⟨⟨b, ε4⟩, e5, e6⟩ := Option.bind_eq_some_iff.mp e4
      have r3 := (r2.back hacc (fun _ z => by cases z) hmu)
      have hacc' : H' D = some (.lst acc) := gr3.hh _ _ hacc
      have r3' : Rep X.K (upd B D (.lst acc)) G3 H' z (wipe σ vs) εi := gr3.rep r3
      have gg3 : Gr (upd B D (.lst acc)) G2 G3 := gr3.gr r3.bg
      refine ht _ G3 H' z (wipe σ vs) εi ε3 x dd _ r3' p3 e3 fun σ' r' hw => ⟨?_, ?_⟩
      · rw [hw]
        apply List.ext_getElem?
        intro j
        rw [wipe_get, wipe_get]
        by_cases hj : j ∈ vs
        · rw [if_pos hj, if_pos hj]
          cases σ[j]? <;> rfl
        · rw [if_neg hj]
      refine ⟨_, G3, z, ε3, b, ε4, r', e5, fun G4 H4 g4 r4 => ?_⟩
      -- back in the comprehension's frame
      have back : ∀ {G5 H5 : Hp} {ε5 : En}, Rep X.K (upd B D (.lst acc)) G5 H5 z σ' ε5 → Rep X.K (upd B D (.lst acc)) G5 H5 z (wipe σ vs) (clr ε5 vs) := fun {G5 H5 ε5} r5 => by
        have hlen : σ'.length = (wipe σ vs).length := by
          have := congrArg List.length hw
          rw [wipe_length, wipe_length] at this
          exact this
        refine r5.agree (by rw [clr_length, ← hlen]; exact r5.len) fun j s hs hj => ?_
        obtain ⟨h1, h2⟩ := clr_some hj hs
        refine ⟨h2, ?_⟩
        have := congrArg (fun l : St => l[j]?) hw
        simp only [wipe_get, if_neg h1] at this
        rw [wipe_get, if_neg h1]
        exact this.symm
      have hclr : ∀ (ε5 : En), ∀ j ∈ vs, ∀ s, (clr ε5 vs)[j]? = some s → s = .un := fun ε5 j hj s hs => by
        rw [clr_get, if_pos hj] at hs
        cases q : ε5[j]? with
        | none => rw [q] at hs; cases hs
        | some t => rw [q] at hs; cases hs; rfl
      cases b with
      | false =>
        rw [if_neg Bool.false_ne_true] at e6
        refine iteF ?_
        have g5 : Gr B G1 G4 := g2.trans ((gg3.trans g4).unback)
        have r5 := back r4
        exact ⟨hlt, G4, clr ε4 vs, acc, as, zs, g5, r5.unback hBD, r4.bg _ _ upd_same, pacc.mono ((gg3.trans g4).1), (gg3.trans g4).none hG2 upd_same, mu_back r5, hclr ε4, e6, hap⟩
      | true =>
        rw [if_pos rfl] at e6
        refine iteT ?_
        obtain ⟨⟨y1, ε5⟩, e7, e8⟩ := Option.bind_eq_some_iff.mp e6
        obtain ⟨⟨zs', ε6⟩, e9, e10⟩ := Option.map_eq_some_iff.mp e8
        obtain ⟨rfl, rfl⟩ := Prod.mk.inj e10
        refine ⟨_, G4, z, ε4, y1, ε5, r4, e7, fun v5 G5 H5 g5 r5 p5 => ?_⟩
        have gg := (gg3.trans g4).trans g5
        have r6 := back r5
        have hG5 : G5 D = none := gg.none hG2 upd_same
        have hl : acc.length < sizeLine := by
          have h1 := pacc.length
          have h2 := congrArg List.length hap
          rw [List.length_append, List.length_cons] at h2
          omega
        refine ⟨acc, r5.bg _ _ upd_same, hl, hlt, G5, clr ε5 vs, acc ++ [v5], as ++ [y1], zs', g2.trans gg.unback, ?_, upd_same, (pacc.mono gg.1).append (.cons p5 .nil), hG5, mu_back r6, hclr ε5, e9, by rw [List.append_assoc]; exact hap⟩
        exact (r6.unback hBD).other hBD hG5 (fun _ z => by rw [r5.bg _ _ upd_same] at z; cases z) (mu_back r6)
    · have e : i = ds.length := by omega
      subst e
      rw [List.drop_length] at ec
      cases ec
      rw [List.append_nil] at hap
      subst hap
      refine .inl ⟨w.stop _ H2 (g2.1.trans r2.sub) (Nat.le_refl _), ?_⟩
      have hrr : ∀ (j : Nat) (s : Sl), s ≠ .un → ε2[j]? = some s → ε2[j]? = some s ∧ σ[j]? = (wipe σ vs)[j]? := fun j s hs hj => by
        refine ⟨hj, ?_⟩
        by_cases hv : j ∈ vs
        · exact absurd (hun j hv s hj) hs
        · rw [wipe_get, if_neg hv]
      have r5 : Rep X.K B G2 H2 z σ ε2 := r2.agree (by have := r2.len; rw [wipe_length] at this; exact this) hrr
      refine q D G2 H2 (g1.trans g2) r5 hG2 hBD (.lst hacc pacc) fun i e hi => ?_
      rw [(hrr i _ (by intro z; cases z) hi).2]
      exact hmu i e hi
end
end PD

set_option Elab.async false
set_option linter.all false
set_option maxRecDepth 100000
set_option maxHeartbeats 4000000
namespace PD
open PySem L2

/-- a def that changes nothing: its value by its arguments' data -/
def spP (K : PySem.W.Frag) (n : Nat) (F : List PyData → Option PyData) : Sp := fun vs H Q _ => ∃ G ds d, vs.length = n ∧ Same G H ∧ RpAll K G vs ds ∧ F ds = some d ∧ ∀ v G' H', Same H H' → Same G' H' → Gr H G G' → Rp K G' v d → Q v H'
/-- one that hands back a new object that nothing else holds -/
def spN (K : PySem.W.Frag) (n : Nat) (F : List PyData → Option PyData) : Sp := fun vs H Q _ => ∃ G ds d, vs.length = n ∧ Same G H ∧ RpAll K G vs ds ∧ F ds = some d ∧ ∀ p G' H', Same H H' → Same G' H' → Gr H G G' → G' p = none → H p = none → Mo K G' H' p d → Q (.ref p) H'
def rm (H : Hp) (a : Addr) : Hp := fun b => if b = a then none else H b
/-- one that changes its first argument alone -/
def spR (K : PySem.W.Frag) (n : Nat) (F : PyData → List PyData → Option (PyData × PyData)) : Sp := fun vs H Q _ => ∃ G a ws r ds d r', vs = .ref a :: ws ∧ vs.length = n ∧ Same G H ∧ G a = none ∧ Mo K G H a r ∧ RpAll K G ws ds ∧ F r ds = some (d, r') ∧
  ∀ v G' H', Same (rm H a) H' → Same G' H' → Gr (rm H a) G G' → G' a = none → Mo K G' H' a r' → Rp K G' v d → Q v H'
def start0 (n : Nat) (ds : List PyData) : En := ds.map Sl.fz ++ List.replicate (n - ds.length) Sl.un
def startR (n : Nat) (r : PyData) (ds : List PyData) : En := Sl.mu r :: (ds.map Sl.fz ++ List.replicate (n - (ds.length + 1)) Sl.un)
def outP : Option Out → Option PyData
  | some (.rt d _) => some d
  | some (.nx _) => some .none
  | _ => none
def outN : Option Out → Option PyData
  | some (.rf d _) => some d
  | _ => none
def sl0 (ε : En) (d : PyData) : Option (PyData × PyData) := match (ε[0]? : Option Sl) with
  | some (Sl.mu r) => some (d, r)
  | _ => none
def outR : Option Out → Option (PyData × PyData)
  | some (.rt d ε) => sl0 ε d
  | some (.nx ε) => sl0 ε .none
  | _ => none
def runP (n : Nat) (fb : Sf) (ds : List PyData) : Option PyData := outP (fb (start0 n ds))
def runN (n : Nat) (fb : Sf) (ds : List PyData) : Option PyData := outN (fb (start0 n ds))
def runR (n : Nat) (fb : Sf) (r : PyData) (ds : List PyData) : Option (PyData × PyData) := outR (fb (startR n r ds))
theorem get_map_rep {α β : Type} (xs : List α) (f : α → β) (n : Nat) (u : β) (i : Nat) (y : β) (h : (xs.map f ++ List.replicate n u)[i]? = some y) : (∃ x, xs[i]? = some x ∧ y = f x) ∨ y = u := by
  rw [List.getElem?_append] at h
  split at h
  · rw [List.getElem?_map] at h
    obtain ⟨x, h1, h2⟩ := Option.map_eq_some_iff.mp h
    exact .inl ⟨x, h1, h2.symm⟩
  · rw [List.getElem?_replicate] at h
    split at h
    · cases h; exact .inr rfl
    · cases h
theorem start_get {N : List Str} {vs : List V} {i : Nat} {v : V} (h : vs[i]? = some v) : (L2.start N vs)[i]? = some (some v) := by
  unfold L2.start
  have hl : i < vs.length := by
    by_cases hl : i < vs.length
    · exact hl
    · rw [List.getElem?_eq_none (by omega)] at h; cases h
  rw [List.getElem?_append_left (by simpa using hl), List.getElem?_map, h]; rfl
theorem rep_start {K : PySem.W.Frag} {G H : Hp} {N : List Str} {vs : List V} {ds : List PyData} (s : Same G H) (h : RpAll K G vs ds) : Rep K H G H ((L2.start N vs)[0]?) (L2.start N vs) (start0 N.length ds) where
  bg := Same.refl H
  sub := s
  z0 := fun _ _ => rfl
  len := by
    have := h.length
    simp [L2.start, start0]; omega
  fzs := fun i d q => by
    rcases get_map_rep ds Sl.fz _ Sl.un i _ q with ⟨x, h1, h2⟩ | h2
    · cases h2
      obtain ⟨v, h3, h4⟩ := h.get' h1
      exact ⟨v, start_get h3, h4⟩
    · cases h2
  mus := fun i d q => by
    rcases get_map_rep ds Sl.fz _ Sl.un i _ q with ⟨x, h1, h2⟩ | h2
    · cases h2
    · cases h2
  dis := fun i j d e a _ q => by
    rcases get_map_rep ds Sl.fz _ Sl.un i _ q with ⟨x, h1, h2⟩ | h2
    · cases h2
    · cases h2
  exs := fun i c q => by
    rcases get_map_rep ds Sl.fz _ Sl.un i _ q with ⟨x, h1, h2⟩ | h2
    · cases h2
    · cases h2
  ms := Mts.none fun i es q => by
    rcases get_map_rep ds Sl.fz _ Sl.un i _ q with ⟨x, h1, h2⟩ | h2
    · cases h2
    · cases h2
theorem same_rm (H : Hp) (a : Addr) : Same (rm H a) H := fun b o q => by
  unfold rm at q
  split at q
  · cases q
  · exact q
theorem rep_startR {K : PySem.W.Frag} {G H : Hp} {N : List Str} {a : Addr} {ws : List V} {r : PyData} {ds : List PyData} (s : Same G H) (hg : G a = none) (m : Mo K G H a r) (h : RpAll K G ws ds) (hN : ws.length + 1 ≤ N.length) :
    Rep K (rm H a) G H (some (some (.ref a))) (L2.start N (.ref a :: ws)) (startR N.length r ds) where
  bg := same_rm H a
  sub := s
  z0 := fun _ _ => rfl
  len := by
    have := h.length
    simp [L2.start, startR]; omega
  fzs := fun i d q => by
    cases i with
    | zero => cases q
    | succ i =>
      rcases get_map_rep ds Sl.fz _ Sl.un i _ q with ⟨x, h1, h2⟩ | h2
      · cases h2
        obtain ⟨v, h3, h4⟩ := h.get' h1
        exact ⟨v, start_get h3, h4⟩
      · cases h2
  mus := fun i d q => by
    cases i with
    | zero => cases q; exact ⟨a, rfl, hg, by simp [rm], m⟩
    | succ i =>
      rcases get_map_rep ds Sl.fz _ Sl.un i _ q with ⟨x, h1, h2⟩ | h2
      · cases h2
      · cases h2
  dis := fun i j d e b hij q1 q2 => by
    have z : ∀ (i : Nat) (d : PyData), (startR N.length r ds)[i]? = some (Sl.mu d) → i = 0 := fun i d q => by
      cases i with
      | zero => rfl
      | succ i =>
        rcases get_map_rep ds Sl.fz _ Sl.un i _ q with ⟨x, h1, h2⟩ | h2
        · cases h2
        · cases h2
    exact absurd ((z i d q1).trans (z j e q2).symm) hij
  exs := fun i c q => by
    cases i with
    | zero => cases q
    | succ i =>
      rcases get_map_rep ds Sl.fz _ Sl.un i _ q with ⟨x, h1, h2⟩ | h2
      · cases h2
      · cases h2
  ms := Mts.none fun i es q => by
    cases i with
    | zero => cases q
    | succ i =>
      rcases get_map_rep ds Sl.fz _ Sl.un i _ q with ⟨x, h1, h2⟩ | h2
      · cases h2
      · cases h2
section
variable {P : Program} {w : World} {K : PySem.W.Frag} {mg : Str → Option Value} {base : Heap}
/-- the context of a def's body -/
abbrev bodyX (P : Program) (w : World) (K : PySem.W.Frag) (mg : Str → Option Value) (base : Heap) (N : List Str) (qual : Str) (sc : Scope) (f : Addr) (cdv : Value) (A : Around) (outer : List Env) (s : Shared) (H : Hp) (E : XK) : Cx :=
  (cxOf CX0 P w K mg base N qual sc f cdv A outer s H E).nox
theorem fun_pure {x qual : Str} {st : Stmt} {f : Addr} {fd : FuncData} {N ps : List Str} {k : Nat} {fb : Sf} (F : Fun K x qual st f fd) (S : FnScope N ps (defScope st))
    (hb : ∀ (cdv : Value) (A : Around) (outer : List Env) (s : Shared) (H : Hp) (E : XK), Room k (A.deeper (PyProof.Rows.envOfC qual (defScope st) s.heap.objs.size f cdv)) → Bv (bodyX P w K mg base N qual (defScope st) f cdv A outer s H E) (defBody st) fb) :
    FnOk P w K mg base CX0 (k + 1) f fd ps (spP K ps.length (runP N.length fb)) := by
  refine F.ok S (fun vs H Q E ⟨G, ds, d, h, _⟩ => h) fun cdv A outer s H vs Q E hr ⟨G, ds, d, hl, hs, hp, he, q⟩ => ⟨_, (hb cdv A outer s H E hr).p, ?_⟩
  unfold runP at he
  cases ho : fb (start0 N.length ds) with
  | none => rw [ho] at he; cases he
  | some o =>
    rw [ho] at he
    refine ⟨H, G, _, _, o, rep_start hs hp, ho, ?_⟩
    cases o with
    | nx ε => cases he; exact fun G' σ' H' g r => q .non G' H' r.bg r.sub g .non
    | rt d' ε => cases he; exact fun v G' σ' H' g r p => q v G' H' r.bg r.sub g p
    | bk ε => cases he
    | ct ε => cases he
    | rf d' ε => cases he
theorem fun_new {x qual : Str} {st : Stmt} {f : Addr} {fd : FuncData} {N ps : List Str} {k : Nat} {fb : Sf} (F : Fun K x qual st f fd) (S : FnScope N ps (defScope st))
    (hb : ∀ (cdv : Value) (A : Around) (outer : List Env) (s : Shared) (H : Hp) (E : XK), Room k (A.deeper (PyProof.Rows.envOfC qual (defScope st) s.heap.objs.size f cdv)) → Bv (bodyX P w K mg base N qual (defScope st) f cdv A outer s H E) (defBody st) fb) :
    FnOk P w K mg base CX0 (k + 1) f fd ps (spN K ps.length (runN N.length fb)) := by
  refine F.ok S (fun vs H Q E ⟨G, ds, d, h, _⟩ => h) fun cdv A outer s H vs Q E hr ⟨G, ds, d, hl, hs, hp, he, q⟩ => ⟨_, (hb cdv A outer s H E hr).p, ?_⟩
  unfold runN at he
  cases ho : fb (start0 N.length ds) with
  | none => rw [ho] at he; cases he
  | some o =>
    rw [ho] at he
    refine ⟨H, G, _, _, o, rep_start hs hp, ho, ?_⟩
    cases o with
    | nx ε => cases he
    | rt d' ε => cases he
    | bk ε => cases he
    | ct ε => cases he
    | rf d' ε => cases he; exact fun p G' σ' H' g r h1 h2 h3 => q p G' H' r.bg r.sub g h1 h2 h3
theorem fun_row {x qual : Str} {st : Stmt} {f : Addr} {fd : FuncData} {N ps : List Str} {k : Nat} {fb : Sf} (F : Fun K x qual st f fd) (S : FnScope N ps (defScope st)) (hN : ps.length ≤ N.length)
    (hb : ∀ (cdv : Value) (A : Around) (outer : List Env) (s : Shared) (H : Hp) (E : XK), Room k (A.deeper (PyProof.Rows.envOfC qual (defScope st) s.heap.objs.size f cdv)) → Bv (bodyX P w K mg base N qual (defScope st) f cdv A outer s H E) (defBody st) fb) :
    FnOk P w K mg base CX0 (k + 1) f fd ps (spR K ps.length (runR N.length fb)) := by
  refine F.ok S (fun vs H Q E ⟨G, a, ws, r, ds, d, r', _, h, _⟩ => h) fun cdv A outer s H vs Q E hr ⟨G, a, ws, r, ds, d, r', hv, hl, hs, hg, hm, hp, he, q⟩ => ⟨_, (hb cdv A outer s H E hr).p, ?_⟩
  subst hv
  unfold runR at he
  cases ho : fb (startR N.length r ds) with
  | none => rw [ho] at he; cases he
  | some o =>
    rw [ho] at he
    refine ⟨rm H a, G, _, _, o, rep_startR hs hg hm hp (by rw [List.length_cons] at hl; omega), ho, ?_⟩
    have fin : ∀ (ε : En) (v : V) (d0 : PyData) (G' : Hp) (σ' : L2.St) (H' : Hp), sl0 ε d0 = some (d, r') → Gr (rm H a) G G' → Rep K (rm H a) G' H' (some (some (.ref a))) σ' ε → Rp K G' v d0 → Q v H' := fun ε v d0 G' σ' H' e g r p => by
      unfold sl0 at e
      cases h0 : ε[0]? with
      | none => rw [h0] at e; cases e
      | some sl =>
        rw [h0] at e
        cases sl with
        | un => cases e
        | ex c => cases e
        | mt c => cases e
        | fz d => cases e
        | mu d' =>
          cases e
          obtain ⟨a', h1, h2, h3, h4⟩ := r.mus 0 _ h0
          rw [r.z0 _ h0] at h1
          cases h1
          exact q v G' H' r.bg r.sub g h2 h4 p
    cases o with
    | nx ε => exact fun G' σ' H' g r => fin ε .non .none G' σ' H' he g r .non
    | rt d' ε => exact fun v G' σ' H' g r p => fin ε v d' G' σ' H' he g r p
    | bk ε => cases he
    | ct ε => cases he
    | rf d' ε => cases he
end
def gd (n : Nat) (F : List PyData → Option PyData) : List PyData → Option PyData := fun ds => if ds.length = n then F ds else none
section
variable {X : Cx} {k n : Nat} {f : Addr} {fd : FuncData} {ps : List Str} {x y : Str} {p pos pos' : Pos} {e : Expr} {es : List Expr} {fs : Af}
theorem ev_call {F : List PyData → Option PyData} (G : FnOk X.prog X.w X.K X.mg X.base CX0 k f fd ps (spP X.K n F)) (hr : Room k X.A) (hg : Gl X x) (hm : X.mg x = some (.ref f)) (hk : PySem.W.keepIn X.K (.ref f) = true) (hb : Binds X.K fd ps []) (hl : (e :: es).length = n)
    (ha : Av X (e :: es) fs) (hdb : (x == ("__debug__" : Str)) = false := by decide) (he : starEach (e :: es) X.env = (false, eval e X.env) :: starEach es X.env := by exact star_ok rfl) (hpl : (backTo pos (starEach es X.env)).any (·.1) = false := by exact plain_ok rfl) :
    Ev X (.Call (.Name x p) (e :: es) [] pos) (fCall (gd n F) fs) :=
  ⟨pe_mono (pe_call G hr hg hm hk hb .nil pass0 ha.p hdb he hpl) fun σ H Q ⟨B, G, z, ε, d, ε', rep, ef, q⟩ => by
    obtain ⟨⟨d1, ε1⟩, e1, ef1⟩ := Option.bind_eq_some_iff.mp ef
    obtain ⟨c, e3, ef2⟩ := Option.map_eq_some_iff.mp ef1
    obtain ⟨rfl, rfl⟩ := Prod.mk.inj ef2
    refine ⟨B, G, z, ε, d1, ε1, rep, e1, fun vs G1 H1 g1 r1 p1 => ?_⟩
    by_cases hd : d1.length = n
    case neg => simp [gd, hd] at e3
    simp only [gd, hd, if_true] at e3
    refine ⟨G1, d1, c, by rw [List.append_nil, p1.length]; exact hd, r1.sub, by rw [List.append_nil]; exact p1, e3, fun v G' H' s1 s2 g2 p2 => ?_⟩
    have gw : Grow G1 H1 G' H' := ⟨g2.1, s1, s2, g2.2⟩
    exact q v G' H' (g1.trans (gw.gr r1.bg)) (gw.rep r1) p2⟩
theorem fv_call {F : List PyData → Option PyData} (G : FnOk X.prog X.w X.K X.mg X.base CX0 k f fd ps (spN X.K n F)) (hr : Room k X.A) (hg : Gl X x) (hm : X.mg x = some (.ref f)) (hk : PySem.W.keepIn X.K (.ref f) = true) (hb : Binds X.K fd ps []) (hl : (e :: es).length = n)
    (ha : Av X (e :: es) fs) (hdb : (x == ("__debug__" : Str)) = false := by decide) (he : starEach (e :: es) X.env = (false, eval e X.env) :: starEach es X.env := by exact star_ok rfl) (hpl : (backTo pos (starEach es X.env)).any (·.1) = false := by exact plain_ok rfl) :
    Fv X (.Call (.Name x p) (e :: es) [] pos) (fCall (gd n F) fs) :=
  ⟨pe_mono (pe_call G hr hg hm hk hb .nil pass0 ha.p hdb he hpl) fun σ H Q ⟨B, G, z, ε, d, ε', rep, ef, q⟩ => by
    obtain ⟨⟨d1, ε1⟩, e1, ef1⟩ := Option.bind_eq_some_iff.mp ef
    obtain ⟨c, e3, ef2⟩ := Option.map_eq_some_iff.mp ef1
    obtain ⟨rfl, rfl⟩ := Prod.mk.inj ef2
    refine ⟨B, G, z, ε, d1, ε1, rep, e1, fun vs G1 H1 g1 r1 p1 => ?_⟩
    by_cases hd : d1.length = n
    case neg => simp [gd, hd] at e3
    simp only [gd, hd, if_true] at e3
    refine ⟨G1, d1, c, by rw [List.append_nil, p1.length]; exact hd, r1.sub, by rw [List.append_nil]; exact p1, e3, fun v G' H' s1 s2 g2 h1 h2 h3 => ?_⟩
    have gw : Grow G1 H1 G' H' := ⟨g2.1, s1, s2, g2.2⟩
    exact q v G' H' (g1.trans (gw.gr r1.bg)) (gw.rep r1) h1 (r1.bg.free h2) h3 (nomu r1 h2)⟩
/-- f(row, ..): row a slot that f changes -/
def fRow (i n : Nat) (F : PyData → List PyData → Option (PyData × PyData)) (fs : Af) : Ef := fun ε => match ε[i]? with
  | some (.mu _) => (fs ε).bind fun q => match q.2[i]? with
    | some (.mu r) => if q.1.length + 1 = n then (F r q.1).map fun t => (t.1, q.2.set i (.mu t.2)) else none
    | _ => none
  | _ => none
theorem ev_row (i : Nat) {F : PyData → List PyData → Option (PyData × PyData)} (G : FnOk X.prog X.w X.K X.mg X.base CX0 k f fd ps (spR X.K n F)) (hr : Room k X.A) (hg : Gl X x) (hm : X.mg x = some (.ref f)) (hk : PySem.W.keepIn X.K (.ref f) = true) (hb : Binds X.K fd ps [])
    (hv : PE X (.Name y pos') (tVar i)) (ha : Av X es fs) (hst : starEach (.Name y pos' :: es) X.env = (false, eval (.Name y pos') X.env) :: starEach es X.env := by exact star_ok rfl)
    (hdb : (x == ("__debug__" : Str)) = false := by decide) (hpl : (backTo pos (starEach es X.env)).any (·.1) = false := by exact plain_ok rfl) :
    Ev X (.Call (.Name x p) (.Name y pos' :: es) [] pos) (fRow i n F fs) :=
  ⟨pe_mono (pe_call G hr hg hm hk hb .nil pass0 (pa_cons hv ha.p hst) hdb hst hpl) fun σ H Q ⟨B, G, z, ε, d, ε', rep, ef, q⟩ => by
    unfold fRow at ef
    cases h0 : ε[i]? with
    | none => rw [h0] at ef; cases ef
    | some sl =>
      rw [h0] at ef
      cases sl with
      | un => cases ef
      | ex c => cases ef
      | mt c => cases ef
      | fz d => cases ef
      | mu r0 =>
        obtain ⟨a, ha, _⟩ := rep.mus i r0 h0
        obtain ⟨⟨d1, ε1⟩, e1, ef1⟩ := Option.bind_eq_some_iff.mp ef
        refine ⟨.ref a, ha, B, G, z, ε, d1, ε1, rep, e1, fun vs G1 H1 g1 r1 p1 => ?_⟩
        simp only at ef1
        cases h1 : ε1[i]? with
        | none => rw [h1] at ef1; cases ef1
        | some sl =>
          rw [h1] at ef1
          cases sl with
          | un => cases ef1
          | ex c => cases ef1
          | mt c => cases ef1
          | fz d => cases ef1
          | mu r1' =>
            simp only at ef1
            by_cases hd : d1.length + 1 = n
            case neg => rw [if_neg hd] at ef1; cases ef1
            rw [if_pos hd] at ef1
            obtain ⟨⟨c, r2⟩, e3, ef3⟩ := Option.map_eq_some_iff.mp ef1
            obtain ⟨rfl, rfl⟩ := Prod.mk.inj ef3
            obtain ⟨a', ha', hg', hb', hm'⟩ := r1.mus i r1' h1
            rw [ha] at ha'
            cases ha'
            refine ⟨G1, a, vs, r1', d1, c, r2, by rw [List.append_nil], by rw [List.append_nil, List.length_cons, p1.length]; exact hd, r1.sub, hg', hm', p1, e3, fun v G' H' s1 s2 g2 hga hma p2 => ?_⟩
            have hl : i < ε1.length := by
              by_cases hl : i < ε1.length
              · exact hl
              · rw [List.getElem?_eq_none (by omega)] at h1; cases h1
            refine q v G' H' (g1.trans ⟨g2.1, fun b h h' => ?_⟩) ⟨fun b o h => ?_, s2, (fun e q => by
              by_cases hj : i = 0
              · subst hj; exact r1.z0 _ h1
              · rw [List.getElem?_set_ne hj] at q; exact r1.z0 e q), by rw [List.length_set]; exact r1.len, fun j e h => ?_, fun j e h => ?_, fun j l d1 e1 b hjl q1 q2 t1 t2 => ?_, fun j c' h => ?_, (r1.ms.set' fun _ z => by cases z).move g2.1 fun b kvs k2 k3 k4 => by
              have eb : b ≠ a := fun eb => hm'.nodT kvs (by rw [← eb]; exact k4)
              have hrm : rm H1 a b = some (.dT kvs) := by simp only [rm, if_neg eb]; exact k4
              exact ⟨g2.none k2 hrm, k3, s1 b _ hrm⟩⟩ p2
            · have h3 := g2.2 b h h'
              by_cases eb : b = a
              · subst eb; exact hb'
              · simp only [rm, if_neg eb] at h3; exact r1.bg.free h3
            · have eb : b ≠ a := ne_of_none h hb'
              exact s1 b o (by simp only [rm, if_neg eb]; exact r1.bg b o h)
            · by_cases hj : i = j
              · subst hj; rw [List.getElem?_set_self hl] at h; cases h
              · rw [List.getElem?_set_ne hj] at h
                obtain ⟨v, k1, k2⟩ := r1.fzs j e h
                exact ⟨v, k1, k2.mono g2.1⟩
            · by_cases hj : i = j
              · subst hj; rw [List.getElem?_set_self hl] at h; cases h
                exact ⟨a, ha, hga, hb', hma⟩
              · rw [List.getElem?_set_ne hj] at h
                obtain ⟨b, k1, k2, k3, k4⟩ := r1.mus j e h
                obtain ⟨o, ho⟩ := k4.some
                have eb : b ≠ a := fun eb => r1.dis i j r1' e a hj h1 h ha (by rw [k1, eb])
                have hrm : rm H1 a b = some o := by simp only [rm, if_neg eb]; exact ho
                exact ⟨b, k1, g2.none k2 hrm, k3, k4.mono g2.1 (by rw [s1 b o hrm, ho])⟩
            · have fq : ∀ (j : Nat) (d1 : PyData), (ε1.set i (Sl.mu r2))[j]? = some (.mu d1) → ∃ d2, ε1[j]? = some (.mu d2) := fun j d1 q => by
                by_cases hj : i = j
                · subst hj; exact ⟨r1', h1⟩
                · rw [List.getElem?_set_ne hj] at q; exact ⟨d1, q⟩
              obtain ⟨d2, e2⟩ := fq j d1 q1
              obtain ⟨d3, e3⟩ := fq l e1 q2
              exact r1.dis j l d2 d3 b hjl e2 e3 t1 t2
            · by_cases hj : i = j
              · subst hj; rw [List.getElem?_set_self hl] at h; cases h
              · rw [List.getElem?_set_ne hj] at h
                obtain ⟨b, o, u, C, k1, k2, k3⟩ := r1.exs j c' h
                exact ⟨b, o, u, C, k1, g2.1 _ _ k2, k3⟩⟩
end
theorem atI_all {K : PySem.W.Frag} {G : Hp} {xs : List V} {ds : List PyData} (h : RpAll K G xs ds) {i : Int} {d : PyData} (e : atI ds i = some d) : ∃ v, atI xs i = some v ∧ Rp K G v d := by
  unfold atI at e ⊢
  rw [h.length]
  obtain ⟨j, h1, h2⟩ := Option.bind_eq_some_iff.mp e
  obtain ⟨v, h3, h4⟩ := h.get' h2
  exact ⟨v, by rw [h1]; exact h3, h4⟩
section
variable {X : Cx} {x : Str} {pos pos' pos2 apos cpos : Pos} {e b : Expr} {fa fb : Ef}
def asList (ε : En) (i : Nat) : Option (List PyData) := match ε[i]? with
  | some (.mu (.list ds)) => some ds
  | _ => none
theorem asList_some {ε : En} {i : Nat} {ds : List PyData} (h : asList ε i = some ds) : ε[i]? = some (.mu (.list ds)) := by
  unfold asList at h
  cases q : ε[i]? with
  | none => rw [q] at h; cases h
  | some s =>
    rw [q] at h
    cases s with
    | un => cases h
    | ex c => cases h
    | mt c => cases h
    | fz d => cases h
    | mu d => cases d <;> cases h <;> rfl
def dInt : PyData → Option Int
  | .int i => some i
  | _ => none
theorem dInt_some {d : PyData} {i : Int} (h : dInt d = some i) : d = .int i := by cases d <;> cases h <;> rfl
/-- x[b] -/
def fIxM (i : Nat) (fb : Ef) : Ef := fun ε => (asList ε i).bind fun _ => (fb ε).bind fun q => (asList q.2 i).bind fun ds => (dInt q.1).bind fun j => (atI ds j).map fun d => (d, q.2)
theorem ev_ixM (i : Nat) (hv : PE X (.Name x pos') (tVar i)) (hb : Ev X b fb) (hs : PlainIx b) : Ev X (.Subscript (.Name x pos') b pos) (fIxM i fb) :=
  ⟨pe_mono (pe_ix ix_list hv hb.p hs) fun σ H Q ⟨B, G, z, ε, d, ε', rep, ef, q⟩ => by
    obtain ⟨ds0, e0, ef0⟩ := Option.bind_eq_some_iff.mp ef
    obtain ⟨⟨d1, ε1⟩, e1, ef1⟩ := Option.bind_eq_some_iff.mp ef0
    obtain ⟨ds, e2, ef2⟩ := Option.bind_eq_some_iff.mp ef1
    obtain ⟨j, e3, ef3⟩ := Option.bind_eq_some_iff.mp ef2
    obtain ⟨c, e4, ef4⟩ := Option.map_eq_some_iff.mp ef3
    obtain ⟨rfl, rfl⟩ := Prod.mk.inj ef4
    obtain ⟨a, ha, _⟩ := rep.mus i _ (asList_some e0)
    refine ⟨.ref a, ha, B, G, z, ε, d1, ε1, rep, e1, fun v G1 H1 g1 r1 p1 => ?_⟩
    obtain ⟨a', ha', hg', hb', hm'⟩ := r1.mus i _ (asList_some e2)
    rw [ha] at ha'
    cases ha'
    cases dInt_some e3
    cases p1
    cases hm' with
    | lst h1 h2 =>
      obtain ⟨v, h3, h4⟩ := atI_all h2 e4
      exact ⟨a, _, j, v, rfl, rfl, SqL.of h1, h3, q v G1 H1 g1 r1 h4⟩⟩
/-- x[b] = e -/
def sSetM (i : Nat) (fa fb : Ef) : Sf := fun ε => (fa ε).bind fun p => (asList p.2 i).bind fun _ => (fb p.2).bind fun q => (asList q.2 i).bind fun ds => (dInt q.1).bind fun j => (ixN ds.length j).map fun k => .nx (q.2.set i (.mu (.list (ds.set k p.1))))
theorem sv_setIx (i : Nat) (he : Ev X e fa) (hv : PE X (.Name x pos') (tVar i)) (hb : Ev X b fb) (hs : swapsWithSole [.Subscript (.Name x pos') b pos2] e pos.line X.env = pure false := by rfl) (hw : swappedStores [.Subscript (.Name x pos') b pos2] e X.env = pure none := by rfl)
    (h1 : (assignEach [.Subscript (.Name x pos') b pos2] X.env).map (·.2) = [assign (.Subscript (.Name x pos') b pos2) X.env] := by rfl)
    (ha : ∀ v, assign (.Subscript (.Name x pos') b pos2) X.env v = (do
      let ov ← holding [v] (eval (.Name x pos') X.env)
      let iv ← holding [v, ov] (eval b X.env)
      standAt pos2
      holding [v, ov, iv] (setItem ov iv v)
      release [v, ov, iv] []) := by intro _; rfl) :
    Sv X (.Assign [.Subscript (.Name x pos') b pos2] e pos) (sSetM i fa fb) :=
  ⟨ps_mono (ps_asg he.p (pg_sub hv hb.p set_list ha) hs hw h1) fun D σ H ⟨B, G, z, ε, o, rep, ef, k⟩ => by
    obtain ⟨⟨d0, ε0⟩, e0, ef0⟩ := Option.bind_eq_some_iff.mp ef
    obtain ⟨ds0, e1, ef1⟩ := Option.bind_eq_some_iff.mp ef0
    obtain ⟨⟨d1, ε1⟩, e2, ef2⟩ := Option.bind_eq_some_iff.mp ef1
    obtain ⟨ds, e3, ef3⟩ := Option.bind_eq_some_iff.mp ef2
    obtain ⟨j, e4, ef4⟩ := Option.bind_eq_some_iff.mp ef3
    obtain ⟨l, e5, ef5⟩ := Option.map_eq_some_iff.mp ef4
    subst ef5
    refine ⟨B, G, z, ε, d0, ε0, rep, e0, fun v G1 H1 g1 r1 p1 => ?_⟩
    obtain ⟨a, ha, _⟩ := r1.mus i _ (asList_some e1)
    refine ⟨.ref a, ha, B, G1, z, ε0, d1, ε1, r1, e2, fun v2 G2 H2 g2 r2 p2 => ?_⟩
    obtain ⟨a', ha', hg', hb', hm'⟩ := r2.mus i _ (asList_some e3)
    rw [ha] at ha'
    cases ha'
    cases dInt_some e4
    cases p2
    cases hm' with
    | lst h1 h2 =>
      refine ⟨a, _, j, l, rfl, rfl, h1, by rw [h2.length]; exact e5, k G2 σ _ (g1.trans g2) (r2.store (asList_some e3) ha (.lst upd_same (h2.set l (p1.mono g2.1))))⟩⟩
/-- x.append(e) -/
def sAppM (i : Nat) (fa : Ef) : Sf := fun ε => (asList ε i).bind fun _ => (fa ε).bind fun p => (asList p.2 i).bind fun ds => if ds.length < sizeLine then some (.nx (p.2.set i (.mu (.list (ds ++ [p.1]))))) else none
theorem sv_app (i : Nat) (hv : PE X (.Name x pos') (tVar i)) (he : Ev X e fa) (hs : swapsWith (.Call (.Attribute (.Name x pos') "append" apos) [e] [] cpos) none pos.line X.env = pure false := by rfl)
    (hst : starEach [e] X.env = (false, eval e X.env) :: starEach [] X.env := by exact star_ok rfl)
    (hpe : ∀ {t : TA}, PA X [e] t → PE X (.Call (.Attribute (.Name x pos') "append" apos) [e] [] cpos) (tBM X.K "list" rAppend (tVar i) t)) :
    Sv X (.Expr (.Call (.Attribute (.Name x pos') "append" apos) [e] [] cpos) pos) (sAppM i fa) :=
  ⟨ps_mono (ps_expr (hpe (pa_cons he.p pa_nil hst)) hs) fun D σ H ⟨B, G, z, ε, o, rep, ef, k⟩ => by
    obtain ⟨ds0, e0, ef0⟩ := Option.bind_eq_some_iff.mp ef
    obtain ⟨⟨d1, ε1⟩, e1, ef1⟩ := Option.bind_eq_some_iff.mp ef0
    obtain ⟨ds, e2, ef2⟩ := Option.bind_eq_some_iff.mp ef1
    by_cases hz : ds.length < sizeLine
    case neg => simp [hz] at ef2
    rw [if_pos hz] at ef2
    cases ef2
    obtain ⟨a, ha, hg0, hb0, hm0⟩ := rep.mus i _ (asList_some e0)
    cases hm0 with
    | lst h10 h20 =>
      refine ⟨.ref a, ha, .inl ⟨rfl, _, SqL.of h10⟩, B, G, z, ε, d1, ε1, rep, e1, fun v G1 H1 g1 r1 p1 => ?_⟩
      obtain ⟨a', ha', hg', hb', hm'⟩ := r1.mus i _ (asList_some e2)
      rw [ha] at ha'
      cases ha'
      cases hm' with
      | lst h1 h2 =>
        exact ⟨a, _, v, rfl, rfl, h1, by rw [h2.length]; exact hz, k G1 σ _ g1 (r1.store (asList_some e2) ha (.lst upd_same (h2.append (.cons p1 .nil))))⟩⟩
end
end PD

set_option Elab.async false
set_option linter.all false
set_option maxRecDepth 100000
set_option maxHeartbeats 4000000
namespace PD
open PySem L2

section
variable {X : Cx} {tg e : Expr} {es : List Expr} {fa : Ef} {fs : Af} {p pos tpos : Pos}
def iSeq (K : PySem.W.Frag) (tl : TE) : TI := fun σ H R => tl σ H fun x H1 => ∃ a, x = .ref a ∧ (((∃ xs, SqL K H1 a xs) ∧ R (Itl K a) H1) ∨ ((∃ xs, SqT K H1 a xs) ∧ R (Itt K a) H1))
theorem pi_seq {l : Expr} {tl : TE} (hl : PE X l tl) : PI X tg l (iSeq X.K tl) := by
  intro pins s σ H R I h
  refine thn (hl pins s σ H _ I h) fun v s1 ⟨x, H1, I1, r1, q1⟩ => ?_
  obtain ⟨a, e, ⟨⟨xs, hq⟩, q⟩ | ⟨⟨xs, hq⟩, q⟩⟩ := q1
  · subst e
    cases r1
    obtain ⟨its, rv, p, hz⟩ := I1.list hq
    refine wpAny_pyIter_list p.isList ?_
    refine ⟨s1.heap.objs.size, [s1.heap.objs.size], _, _, H1, rfl, I1.kept (t' := s1.toks) fun b o e => Heap.get?_push_of_some _ e, turn_list a _, ⟨_, Heap.get?_push_size _ rfl, rfl, rfl⟩, fun b hb => ?_, q⟩
    have e : b = s1.heap.objs.size := by simpa using hb
    subst e
    exact I1.fpOk (Nat.le_refl _) (I1.hok.fresh (Nat.le_refl _))
  · subst e
    cases r1
    obtain ⟨its, rv, p, hz⟩ := I1.tuple hq
    refine wpAny_pyIter_tuple (show s1.heap.IsTuple a its.toArray from p) ?_
    refine ⟨s1.heap.objs.size, [s1.heap.objs.size], _, _, H1, rfl, I1.kept (t' := s1.toks) fun b o e => Heap.get?_push_of_some _ e, turn_tuple a _, ⟨_, Heap.get?_push_size _ rfl, rfl, rfl⟩, fun b hb => ?_, q⟩
    have e : b = s1.heap.objs.size := by simpa using hb
    subst e
    exact I1.fpOk (Nat.le_refl _) (I1.hok.fresh (Nat.le_refl _))
def dSeq : PyData → Option (List PyData)
  | .list ds => some ds
  | .tuple ds => some ds
  | _ => none
def fSrc (fa : Ef) : Af := fun ε => (fa ε).bind fun p => (dSeq p.1).map fun ds => (ds, p.2)
theorem walks_list {K : PySem.W.Frag} {G : Hp} {a : Addr} {xs : List V} {ds : List PyData} (h : SqL K G a xs) (h2 : RpAll K G xs ds) : Walks K G (Itl K a) ds where
  go := fun i H s hi => by
    have hx : i < xs.length := by rw [h2.length]; exact hi
    exact ⟨xs, xs[i], s.seq h, by simp [hx]⟩
  yld := fun i G1 H x H' s1 s2 hi y => by
    obtain ⟨rfl, y⟩ := y
    obtain ⟨d, h3, h4⟩ := h2.get (y xs ((s1.trans s2).seq h))
    exact ⟨d, G1, h3, Grow.refl s2, h4.mono s1⟩
  stop := fun i H s hi => ⟨xs, s.seq h, by rw [h2.length]; exact hi⟩
theorem walks_tup {K : PySem.W.Frag} {G : Hp} {a : Addr} {xs : List V} {ds : List PyData} (h : SqT K G a xs) (h2 : RpAll K G xs ds) : Walks K G (Itt K a) ds where
  go := fun i H s hi => by
    have hx : i < xs.length := by rw [h2.length]; exact hi
    exact ⟨xs, xs[i], sqT_same s h, by simp [hx]⟩
  yld := fun i G1 H x H' s1 s2 hi y => by
    obtain ⟨rfl, y⟩ := y
    obtain ⟨d, h3, h4⟩ := h2.get (y xs (sqT_same (s1.trans s2) h))
    exact ⟨d, G1, h3, Grow.refl s2, h4.mono s1⟩
  stop := fun i H s hi => ⟨xs, sqT_same s h, by rw [h2.length]; exact hi⟩
theorem pi_mono {iter : Expr} {t t' : TI} (h : PI X tg iter t) (m : ∀ σ H R, t' σ H R → t σ H R) : PI X tg iter t' := fun pins s σ H R I q => h pins s σ H R I (m σ H R q)
theorem iv_seq (he : Ev X e fa) : Iv X tg e (fSrc fa) := ⟨pi_mono (pi_seq he.p) fun σ H R ⟨B, G, z, ε, ds, ε', r, ef, q⟩ => by
  obtain ⟨⟨d1, ε1⟩, e1, ef1⟩ := Option.bind_eq_some_iff.mp ef
  obtain ⟨ds', e2, ef2⟩ := Option.map_eq_some_iff.mp ef1
  obtain ⟨rfl, rfl⟩ := Prod.mk.inj ef2
  refine ⟨B, G, z, ε, d1, ε1, r, e1, fun v G1 H1 g1 r1 p1 => ?_⟩
  cases p1 with
  | lst h1 h2 => cases e2; exact ⟨_, rfl, .inl ⟨⟨_, r1.sub.seq h1⟩, q _ G1 H1 g1 r1 (walks_list h1 h2)⟩⟩
  | tup h1 h2 => cases e2; exact ⟨_, rfl, .inr ⟨⟨_, sqT_same r1.sub h1⟩, q _ G1 H1 g1 r1 (walks_tup h1 h2)⟩⟩
  | non => cases e2
  | bl _ => cases e2
  | int _ => cases e2
  | str _ => cases e2
  | dct _ _ => cases e2⟩
def rangeD (lo : Int) (n : Nat) : List PyData := (List.range n).map fun (k : Nat) => PyData.int (lo + (k : Int))
theorem walks_range {K : PySem.W.Frag} {G : Hp} (lo : Int) (n : Nat) : Walks K G (Itr lo n) (rangeD lo n) where
  go := fun i H s hi => by show i < n; simpa [rangeD] using hi
  yld := fun i G1 H x H' s1 s2 hi y => by
    obtain ⟨rfl, rfl⟩ := y
    have hn : i < n := by simpa [rangeD] using hi
    exact ⟨.int (lo + i), G1, by simp [rangeD, hn], Grow.refl s2, .int _⟩
  stop := fun i H s hi => by show n ≤ i; simpa [rangeD] using hi
def dR (j : Int) : Bool := decide (-(2 ^ 62) ≤ j) && decide (j < 2 ^ 62)
def fRng1 (fs : Af) : Af := fun ε => (fs ε).bind fun p => match p.1 with
  | [.int j] => if dR j = true then some (rangeD 0 j.toNat, p.2) else none
  | _ => none
def fRng2 (fs : Af) : Af := fun ε => (fs ε).bind fun p => match p.1 with
  | [.int i, .int j] => if dR i = true ∧ dR j = true then some (rangeD i (j - i).toNat, p.2) else none
  | _ => none
theorem dR_iff {j : Int} (h : dR j = true) : -(2 ^ 62) ≤ j ∧ j < 2 ^ 62 := by
  simp only [dR, Bool.and_eq_true, decide_eq_true_eq] at h; exact h
theorem iv_range1 {a : Expr} (hg : Gl X "range") (hm : X.mg "range" = none) (ha : Av X [a] fs) (hs : starEach [a] X.env = [(false, eval a X.env)] := by rfl) : Iv X tg (.Call (.Name "range" p) [a] [] pos) (fRng1 fs) :=
  ⟨pi_mono (pi_range1 hg hm ha.p hs) fun σ H R ⟨B, G, z, ε, ds, ε', r, ef, q⟩ => by
    obtain ⟨⟨d1, ε1⟩, e1, ef1⟩ := Option.bind_eq_some_iff.mp ef
    refine ⟨B, G, z, ε, d1, ε1, r, e1, fun v G1 H1 g1 r1 p1 => ?_⟩
    simp only at ef1
    split at ef1
    · rename_i j
      split at ef1
      · rename_i hj
        cases ef1
        obtain ⟨h1, h2⟩ := dR_iff hj
        cases p1 with
        | cons p ps =>
          cases ps
          cases p
          exact ⟨j, rfl, h1, h2, q _ G1 H1 g1 r1 (walks_range 0 j.toNat)⟩
      · cases ef1
    · cases ef1⟩
/-- enumerate(a list) -/
def enumD (ds : List PyData) : List PyData := ds.zipIdx.map fun t => PyData.tuple [.int (t.2 : Nat), t.1]
def fEnum (fs : Af) : Af := fun ε => (fs ε).bind fun p => match p.1 with
  | [.list ds] => some (enumD ds, p.2)
  | _ => none
theorem walks_enum {K : PySem.W.Frag} {G : Hp} {a : Addr} {xs : List V} {ds : List PyData} (h : SqL K G a xs) (h2 : RpAll K G xs ds) : Walks K G (Ite K a) (enumD ds) where
  go := fun i H s hi => by
    have hx : i < xs.length := by rw [h2.length]; simpa [enumD] using hi
    exact ⟨xs, xs[i], s.seq h, by simp [hx]⟩
  yld := fun i G1 H x H' s1 s2 hi y => by
    obtain ⟨T, v, rfl, hT, rfl, y⟩ := y
    obtain ⟨d, h3, h4⟩ := h2.get (y xs ((s1.trans s2).seq h))
    have gn := grow_new (o := HO.tup [.int (i : Nat), v]) s2 hT
    refine ⟨.tuple [.int (i : Nat), d], _, ?_, gn, .tup (SqT.of upd_same) (.cons (.int _) (.cons ((h4.mono s1).mono gn.gg) .nil))⟩
    have hl : i < ds.length := by
      by_cases hl : i < ds.length
      · exact hl
      · rw [List.getElem?_eq_none (by omega)] at h3; cases h3
    rw [List.getElem?_eq_getElem hl] at h3
    cases h3
    simp [enumD, hl]
  stop := fun i H s hi => ⟨xs, s.seq h, by rw [h2.length]; simpa [enumD] using hi⟩
theorem iv_enum {elts : List Expr} {kk : Nat} (hg : Gl X "enumerate") (hm : X.mg "enumerate" = none) (ha : Av X [e] fs) (hs : starEach [e] X.env = [(false, eval e X.env)] := by rfl) : Iv X (.Tuple elts kk tpos) (.Call (.Name "enumerate" p) [e] [] pos) (fEnum fs) :=
  ⟨pi_mono (pi_enum hg hm ha.p hs) fun σ H R ⟨B, G, z, ε, ds, ε', r, ef, q⟩ => by
    obtain ⟨⟨d1, ε1⟩, e1, ef1⟩ := Option.bind_eq_some_iff.mp ef
    refine ⟨B, G, z, ε, d1, ε1, r, e1, fun v G1 H1 g1 r1 p1 => ?_⟩
    simp only at ef1
    split at ef1
    · cases ef1
      cases p1 with
      | cons p ps =>
        cases ps
        cases p with
        | lst h1 h2 => exact ⟨_, _, rfl, r1.sub.seq h1, q _ G1 H1 g1 r1 (walks_enum h1 h2)⟩
    · cases ef1⟩
end
section
variable {X : Cx}
def gYes : Tf := fun ε => some (true, ε)
theorem pts_mono {e : List Expr} {t t' : TT} (h : PTs X e t) (m : ∀ σ H Q, t' σ H Q → t σ H Q) : PTs X e t' := fun pins s σ H Q I q => h pins s σ H Q I (m σ H Q q)
structure Tvs (X : Cx) (e : List Expr) (f : Tf) : Prop where
  p : PTs X e (tTF X.K f)
theorem tvs_nil : Tvs X [] gYes := Tvs.mk <| pts_mono pts_nil fun σ H Q ⟨B, G, z, ε, b, ε', r, ef, q⟩ => by
  cases ef
  exact q G H (Gr.refl _ _) r
theorem tvs_one {c : Expr} {ga : Tf} (h : Tv X c ga) : Tvs X [c] ga := ⟨pts_one h.p⟩
theorem fv_lc {elt tg iter : Expr} {ifs : List Expr} {scope : Scope} (own : List (Str × Nat)) {pos : Pos} {src : Af} {g : TG} {bind : PyData → En → Option En} {cond : Tf} {fe : Ef} (h0 : 0 ∉ own.map (·.2)) (ht : TgOk X.K g bind (own.map (·.2))) (hc : X.calm = true) (hN : X.N.Nodup) (hi : Iv X tg iter src) (ok : BlkOk X.N X.env.scope scope own)
    (hg : ∀ (s : Shared) (H : Hp) (C : Addr) (cl : List (Str × Addr)) (fp : List Addr), Gv (X.blk s H scope (compEnvC scope cl C X.env) fp) tg g)
    (hts : ∀ (s : Shared) (H : Hp) (C : Addr) (cl : List (Str × Addr)) (fp : List Addr), Tvs (X.blk s H scope (compEnvC scope cl C X.env) fp) ifs cond)
    (he : ∀ (s : Shared) (H : Hp) (C : Addr) (cl : List (Str × Addr)) (fp : List Addr), Ev (X.blk s H scope (compEnvC scope cl C X.env) fp) elt fe) (hs : ∀ x, foldedSetIterable iter X.env x = pure x := by intro _; rfl) :
    Fv X (.ListComp elt [⟨tg, iter, ifs, 0⟩] scope pos) (fComp src bind cond fe (own.map (·.2))) :=
  ⟨pe_mono (pe_lc hc hN hi.p ok (fun s H C cl fp => (hg s H C cl fp).p) (fun s H C cl fp => (hts s H C cl fp).p) (fun s H C cl fp => (he s H C cl fp).p) hs) fun _ _ _ h => lc_read h0 ht h⟩
theorem fr_of_f {K : PySem.W.Frag} {f : Ef} {σ : L2.St} {H : Hp} {Q : VK} (h : tF K f σ H Q) : tFrF K f σ H Q := by
  obtain ⟨B, G, z, ε, d, ε', rep, ef, q⟩ := h
  exact ⟨B, G, z, ε, d, ε', rep, ef, fun p G1 H1 g1 r1 hg hb m hn => by
    obtain ⟨G2, g2, r2, rp⟩ := freeze r1 hg hb m hn
    exact q _ G2 H1 (g1.trans g2) r2 rp⟩
theorem sv_setLc (i : Nat) {y : Str} {py : Pos} {elt tg iter : Expr} {ifs : List Expr} {scope : Scope} (own : List (Str × Nat)) {pos spos : Pos} {src : Af} {g : TG} {bind : PyData → En → Option En} {cond : Tf} {fe : Ef} (hi0 : i ≠ 0) (h0 : 0 ∉ own.map (·.2)) (ht : TgOk X.K g bind (own.map (·.2))) (hc : X.calm = true) (hN : X.N.Nodup) (hy : X.N[i]? = some y) (hyl : X.env.scope.names.lookup y = some .local)
    (hsw : swapsWith (.ListComp elt [⟨tg, iter, ifs, 0⟩] scope pos) (some (.Name y py)) spos.line X.env = pure true) (hi : Iv X tg iter src) (ok : BlkOk X.N X.env.scope scope own)
    (hg : ∀ (s : Shared) (H : Hp) (C : Addr) (cl : List (Str × Addr)) (fp : List Addr), Gv (X.blk s H scope (compEnvC scope cl C X.env) fp) tg g)
    (hts : ∀ (s : Shared) (H : Hp) (C : Addr) (cl : List (Str × Addr)) (fp : List Addr), Tvs (X.blk s H scope (compEnvC scope cl C X.env) fp) ifs cond)
    (he : ∀ (s : Shared) (H : Hp) (C : Addr) (cl : List (Str × Addr)) (fp : List Addr), Ev (X.blk s H scope (compEnvC scope cl C X.env) fp) elt fe) (hs : ∀ x, foldedSetIterable iter X.env x = pure x := by intro _; rfl) :
    Sv X (.Assign [.Name y py] (.ListComp elt [⟨tg, iter, ifs, 0⟩] scope pos) spos) (sAsg i (fComp src bind cond fe (own.map (·.2)))) :=
  ⟨ps_mono (ps_setLc hc hN hy hyl hsw hi.p ok (fun s H C cl fp => (hg s H C cl fp).p) (fun s H C cl fp => (hts s H C cl fp).p) (fun s H C cl fp => (he s H C cl fp).p) hs) fun D σ H h => lc_read h0 ht (fr_of_f (asg_read h))⟩
end

def dII (g : Int → Int → Option PyData) : PyData → PyData → Option PyData
  | .int i, .int j => g i j
  | _, _ => none
theorem dII_some {g : Int → Int → Option PyData} {d e c : PyData} (h : dII g d e = some c) : ∃ i j, d = .int i ∧ e = .int j ∧ g i j = some c := by
  cases d <;> cases e <;> first | exact ⟨_, _, rfl, rfl, h⟩ | cases h
theorem opd_ii {K : PySem.W.Frag} {C : Int → Int → Prop} {f : Int → Int → V} {g : Int → Int → Option PyData} (h : ∀ i j c, g i j = some c → C i j ∧ ∀ G, Rp K G (f i j) c) : OpD K (rI C f) (dII g) := fun v w d e c G H Q p1 p2 s eq q => by
  obtain ⟨i, j, rfl, rfl, e3⟩ := dII_some eq
  cases p1
  cases p2
  obtain ⟨h1, h2⟩ := h i j c e3
  exact ⟨i, j, rfl, rfl, h1, q _ G H (Grow.refl s) (h2 G)⟩
theorem opd_i0 {K : PySem.W.Frag} {f : Int → Int → V} {g : Int → Int → Option PyData} (h : ∀ i j c, g i j = some c → ∀ G, Rp K G (f i j) c) : OpD K (rI0 f) (dII g) := fun v w d e c G H Q p1 p2 s eq q => by
  obtain ⟨i, j, rfl, rfl, e3⟩ := dII_some eq
  cases p1
  cases p2
  exact ⟨i, j, rfl, rfl, q _ G H (Grow.refl s) (h i j c e3 G)⟩
section
variable {X : Cx}
def dSub : PyData → PyData → Option PyData := dII fun i j => some (.int (i - j))
theorem od_sub {K : PySem.W.Frag} : OpD K (rI0 fun i j => .int (i - j)) dSub := opd_i0 fun i j c h G => by cases h; exact .int _
def dMul : PyData → PyData → Option PyData := dII fun i j => if (-(2 ^ 64) < i ∧ i < 2 ^ 64) ∨ (-(2 ^ 64) < j ∧ j < 2 ^ 64) then some (.int (i * j)) else none
theorem od_mul {K : PySem.W.Frag} : OpD K (rI CMul fun i j => .int (i * j)) dMul := opd_ii fun i j c h => by
  by_cases hc : (-(2 ^ 64) < i ∧ i < 2 ^ 64) ∨ (-(2 ^ 64) < j ∧ j < 2 ^ 64)
  · simp only [if_pos hc] at h; cases h; exact ⟨hc, fun G => .int _⟩
  · simp only [if_neg hc] at h; cases h
/-- // by a positive divisor of some thirty figures at most -/
def CDivB (i j : Int) : Prop := 0 < j ∧ j < 2 ^ 200
theorem op_fdivB : OpR X (binaryOp .FloorDiv) (rI CDivB fun i j => .int (i / j)) := opI fun i j _ _ _ _ _ hc q => by
  have h1 : (0 : Int) < j := hc.1
  have h2 : j < 2 ^ 200 := hc.2
  refine PyProof.Rows.floordiv_int (by omega) (by rw [Int.fdiv_eq_ediv_of_nonneg i (by omega)]; exact q) (.inl (PyProof.noPylong_of_log2 ?_))
  have h3 : j.natAbs < 2 ^ 200 := by omega
  have h4 : j.natAbs ≠ 0 := by omega
  have h5 := (Nat.log2_lt h4).mpr h3
  omega
def dFdiv : PyData → PyData → Option PyData := dII fun i j => if 0 < j ∧ j < 2 ^ 200 then some (.int (i / j)) else none
theorem od_fdiv {K : PySem.W.Frag} : OpD K (rI CDivB fun i j => .int (i / j)) dFdiv := opd_ii fun i j c h => by
  by_cases hc : 0 < j ∧ j < 2 ^ 200
  · simp only [if_pos hc] at h; cases h; exact ⟨hc, fun G => .int _⟩
  · simp only [if_neg hc] at h; cases h
def dMod : PyData → PyData → Option PyData := dII fun i j => if 0 < j then some (.int (i % j)) else none
theorem od_mod {K : PySem.W.Frag} : OpD K (rI (fun _ j => 0 < j) fun i j => .int (i % j)) dMod := opd_ii fun i j c h => by
  by_cases hc : 0 < j
  · simp only [if_pos hc] at h; cases h; exact ⟨hc, fun G => .int _⟩
  · simp only [if_neg hc] at h; cases h
def dPow : PyData → PyData → Option PyData := dII fun i j => if 0 ≤ j ∧ j ≤ 1000000 ∧ i.natAbs < 2 ^ 64 then some (.int (i ^ j.toNat)) else none
theorem od_pow {K : PySem.W.Frag} : OpD K (rI CPow fun i j => .int (i ^ j.toNat)) dPow := opd_ii fun i j c h => by
  by_cases hc : 0 ≤ j ∧ j ≤ 1000000 ∧ i.natAbs < 2 ^ 64
  · simp only [if_pos hc] at h; cases h; exact ⟨hc, fun G => .int _⟩
  · simp only [if_neg hc] at h; cases h
def dLt : PyData → PyData → Option PyData := dII fun i j => some (.bool (decide (i < j)))
def dLe : PyData → PyData → Option PyData := dII fun i j => some (.bool (decide (i ≤ j)))
def dGt : PyData → PyData → Option PyData := dII fun i j => some (.bool (decide (j < i)))
def dGe : PyData → PyData → Option PyData := dII fun i j => some (.bool (decide (j ≤ i)))
theorem od_lt {K : PySem.W.Frag} : OpD K (rI0 fun i j => .bl (decide (i < j))) dLt := opd_i0 fun i j c h G => by cases h; exact .bl _
theorem od_le {K : PySem.W.Frag} : OpD K (rI0 fun i j => .bl (decide (i ≤ j))) dLe := opd_i0 fun i j c h G => by cases h; exact .bl _
theorem od_gt {K : PySem.W.Frag} : OpD K (rI0 fun i j => .bl (decide (j < i))) dGt := opd_i0 fun i j c h G => by cases h; exact .bl _
theorem od_ge {K : PySem.W.Frag} : OpD K (rI0 fun i j => .bl (decide (j ≤ i))) dGe := opd_i0 fun i j c h G => by cases h; exact .bl _

mutual
theorem dp_of {K : PySem.W.Frag} {H : Hp} : ∀ {v : V} {d : PyData}, Rp K H v d → d.canLay0 = true → Dp K H v d
  | _, _, .non, _ => .non
  | _, _, .bl b, _ => .bl b
  | _, _, .int i, _ => .int i
  | _, _, .str x, _ => .str x
  | _, _, .lst h hs, e => .lst h (dps_of hs (by simpa [PyData.canLay0] using e))
  | _, _, .tup h hs, e => .tup h (dps_of hs (by simpa [PyData.canLay0] using e))
  | _, _, .dct h hs, e => by simp [PyData.canLay0] at e
theorem dps_of {K : PySem.W.Frag} {H : Hp} : ∀ {vs : List V} {ds : List PyData}, RpAll K H vs ds → PyData.canLayAll0 ds = true → DpAll K H vs ds
  | _, _, .nil, _ => .nil
  | _, _, .cons h hs, e => by
    have e' := by simpa [PyData.canLayAll0] using e
    exact .cons (dp_of h e'.1) (dps_of hs e'.2)
end
def sh (d : PyData) : Bool := SeqAt.shaped d
def dEq (d e : PyData) : Option PyData := if sh d = true ∧ sh e = true then some (.bool (PyData.eqv d e)) else none
def dNe (d e : PyData) : Option PyData := if sh d = true ∧ sh e = true then some (.bool (!PyData.eqv d e)) else none
theorem od_eq {K : PySem.W.Frag} : OpD K (rEqD K) dEq := fun v w d e c G H Q p1 p2 s eq q => by
  unfold dEq at eq
  split at eq
  · rename_i h
    cases eq
    exact ⟨d, e, dp_of (p1.mono s) (SeqAt.canLay_of_shaped h.1), dp_of (p2.mono s) (SeqAt.canLay_of_shaped h.2), h.1, h.2, q _ G H (Grow.refl s) (.bl _)⟩
  · cases eq
theorem od_ne {K : PySem.W.Frag} : OpD K (rNeD K) dNe := fun v w d e c G H Q p1 p2 s eq q => by
  unfold dNe at eq
  split at eq
  · rename_i h
    cases eq
    exact ⟨d, e, dp_of (p1.mono s) (SeqAt.canLay_of_shaped h.1), dp_of (p2.mono s) (SeqAt.canLay_of_shaped h.2), h.1, h.2, q _ G H (Grow.refl s) (.bl _)⟩
  · cases eq
def isNone : PyData → Bool
  | .none => true
  | _ => false
def dIs : PyData → PyData → Option PyData
  | d, .none => some (.bool (isNone d))
  | _, _ => none
def dIsNot : PyData → PyData → Option PyData
  | d, .none => some (.bool (!isNone d))
  | _, _ => none
theorem isNone_of {K : PySem.W.Frag} {G : Hp} {v : V} {d : PyData} (h : Rp K G v d) : decide (v = .non) = isNone d := by
  cases h <;> simp [isNone]
theorem od_is {K : PySem.W.Frag} : OpD K (fun x y H Q => y = .non ∧ Q (.bl (decide (x = .non))) H) dIs := fun v w d e c G H Q p1 p2 s eq q => by
  cases p2 with
  | non =>
    have : some (PyData.bool (isNone d)) = some c := by cases d <;> exact eq
    cases this
    exact ⟨rfl, by rw [isNone_of p1]; exact q _ G H (Grow.refl s) (.bl _)⟩
  | _ => cases d <;> cases eq
theorem od_isnot {K : PySem.W.Frag} : OpD K (fun x y H Q => y = .non ∧ Q (.bl (!decide (x = .non))) H) dIsNot := fun v w d e c G H Q p1 p2 s eq q => by
  cases p2 with
  | non =>
    have : some (PyData.bool (!isNone d)) = some c := by cases d <;> exact eq
    cases this
    exact ⟨rfl, by rw [isNone_of p1]; exact q _ G H (Grow.refl s) (.bl _)⟩
  | _ => cases d <;> cases eq
def rCatS (K : PySem.W.Frag) : R2 := fun x y H Q => ∃ l b xs zs, x = .ref l ∧ y = .ref b ∧ SqL K H l xs ∧ SqL K H b zs ∧ xs.length + zs.length ≤ sizeLine ∧ ∀ p, H p = none → Q (.ref p) (upd H p (.lst (xs ++ zs)))
theorem op_catS : OpR X (binaryOp .Add) (rCatS X.K) := by
  intro pins s σ H x y v u Q I rx ry h
  obtain ⟨l, b, xs, zs, rfl, rfl, hH, hB, hz, q⟩ := h
  cases rx
  cases ry
  obtain ⟨its, r, ⟨⟨cls, dd, data, sl⟩, n, ho, hc, _, hd⟩, _⟩ := I.list hH
  obtain ⟨its2, r2, ⟨⟨cls2, dd2, data2, sl2⟩, n2, ho2, hc2, _, hd2⟩, _⟩ := I.list hB
  simp only at hc hd hc2 hd2
  subst hc hd hc2 hd2
  have ea : its.toArray ++ its2.toArray = (its ++ its2).toArray := by simp
  refine concat_meets ⟨_, ho, rfl⟩ ⟨_, ho2, rfl⟩ noFill_list_add seq_list_add PySem.F.slot_list_add PySem.F.entry_list_add (PySem.F.args_list_add_2 _ _) (PyProof.Rows.list_addW l b its.toArray its2.toArray n n2 dd dd2 sl sl2 (by simp only [List.size_toArray]; rw [← r.length, ← r2.length]; exact hz)) ⟨ho, ho2, ?_⟩
  rw [ea]
  exact ⟨.ref _, _, I.lnew (t' := s.toks) (r.append r2) (by rw [List.length_append]; exact hz), rfl, q _ I.fresh⟩
def rCatT0 (K : PySem.W.Frag) : R2 := fun x y H Q => ∃ a b xs ys, x = .ref a ∧ y = .ref b ∧ SqT K H a xs ∧ SqT K H b ys ∧ xs = [] ∧ Q (.ref b) H
theorem op_catT0 : OpR X (binaryOp .Add) (rCatT0 X.K) := by
  intro pins s σ H x y v u Q I rx ry h
  obtain ⟨a, b, xs, ys, rfl, rfl, ha, hb, hx, q⟩ := h
  cases rx
  cases ry
  obtain ⟨its, r1, ⟨⟨cls, dd, data, sl⟩, ho, hc, n, hd⟩, _⟩ := I.tuple ha
  obtain ⟨its2, r2, ⟨⟨cls2, dd2, data2, sl2⟩, ho2, hc2, n2, hd2⟩, _⟩ := I.tuple hb
  simp only at hc hd hc2 hd2
  subst hc hd hc2 hd2
  have hi : its = [] := r1.nil_iff.mpr hx
  exact concat_meets ⟨_, ho, rfl⟩ ⟨_, ho2, rfl⟩ noFill_tuple_add seq_tuple_add PySem.F.slot_tuple_add PySem.F.entry_tuple_add (PySem.F.args_tuple_add_2 _ _)
      (PyProof.Rows.tuple_addW0 a b its.toArray its2.toArray n n2 dd dd2 sl sl2 (by simp [hi])) ⟨ho, ho2, ⟨.ref b, H, I, rfl, q⟩⟩
def rPlus (K : PySem.W.Frag) : R2 := fun x y H Q => rI0 (fun i j => .int (i + j)) x y H Q ∨ (∃ i j, x = .str i ∧ y = .str j ∧ i.length + j.length ≤ sizeLine ∧ Q (.str (i ++ j)) H) ∨ rCatS K x y H Q ∨ rCatT K x y H Q ∨ rCatT0 K x y H Q
theorem op_plus : OpR X (binaryOp .Add) (rPlus X.K) := by
  intro pins s σ H x y v u Q I rx ry h
  rcases h with h | h | h | h | h
  · exact op_add pins s σ H x y v u Q I rx ry h
  · exact op_add_str pins s σ H x y v u Q I rx ry h
  · exact op_catS pins s σ H x y v u Q I rx ry h
  · exact op_catT pins s σ H x y v u Q I rx ry h
  · exact op_catT0 pins s σ H x y v u Q I rx ry h
def dAdd : PyData → PyData → Option PyData
  | .int i, .int j => some (.int (i + j))
  | .str a, .str b => if a.length + b.length ≤ sizeLine then some (.str (a ++ b)) else none
  | .list a, .list b => if a.length + b.length ≤ sizeLine then some (.list (a ++ b)) else none
  | .tuple a, .tuple b => if a.length + b.length ≤ sizeLine then some (.tuple (a ++ b)) else none
  | _, _ => none
theorem od_add {K : PySem.W.Frag} : OpD K (rPlus K) dAdd := fun v w d e c G H Q p1 p2 s eq q => by
  cases p1 with
  | int i =>
    cases p2 with
    | int j => cases eq; exact .inl ⟨i, j, rfl, rfl, q _ G H (Grow.refl s) (.int _)⟩
    | _ => cases eq
  | str i =>
    cases p2 with
    | str j =>
      by_cases h : i.length + j.length ≤ sizeLine
      · simp only [dAdd, if_pos h] at eq; cases eq; exact .inr (.inl ⟨i, j, rfl, rfl, h, q _ G H (Grow.refl s) (.str _)⟩)
      · simp only [dAdd, if_neg h] at eq; cases eq
    | _ => cases eq
  | @lst a xs ds h1 h2 =>
    cases p2 with
    | @lst b ys es h3 h4 =>
      by_cases h : ds.length + es.length ≤ sizeLine
      · simp only [dAdd, if_pos h] at eq; cases eq
        refine .inr (.inr (.inl ⟨a, b, xs, ys, rfl, rfl, s.seq h1, s.seq h3, by rw [h2.length, h4.length]; exact h, fun p hp => ?_⟩))
        have gn := grow_new (o := HO.lst (xs ++ ys)) s hp
        exact q _ _ _ gn (.lst (SqL.of upd_same) ((h2.append h4).mono gn.gg))
      · simp only [dAdd, if_neg h] at eq; cases eq
    | _ => cases eq
  | @tup a xs ds h1 h2 =>
    cases p2 with
    | @tup b ys es h3 h4 =>
      by_cases h : ds.length + es.length ≤ sizeLine
      · simp only [dAdd, if_pos h] at eq; cases eq
        by_cases hx : xs = []
        · subst hx
          cases h2
          exact .inr (.inr (.inr (.inr ⟨a, b, _, ys, rfl, rfl, sqT_same s h1, sqT_same s h3, rfl, q _ G H (Grow.refl s) (by rw [List.nil_append]; exact .tup h3 h4)⟩)))
        · refine .inr (.inr (.inr (.inl ⟨a, b, xs, ys, rfl, rfl, sqT_same s h1, sqT_same s h3, hx, by rw [h2.length, h4.length]; exact h, fun hy => ?_, fun hy p hp => ?_⟩)))
          · subst hy
            cases h4
            exact q _ G H (Grow.refl s) (by rw [List.append_nil]; exact .tup h1 h2)
          · have gn := grow_new (o := HO.tup (xs ++ ys)) s hp
            exact q _ _ _ gn (.tup (SqT.of upd_same) ((h2.append h4).mono gn.gg))
      · simp only [dAdd, if_neg h] at eq; cases eq
    | _ => cases eq
  | _ => cases eq
end
end PD

set_option Elab.async false
set_option linter.all false
set_option maxRecDepth 100000
set_option maxHeartbeats 4000000
namespace PD
open PySem L2

section
variable {X : Cx} {e a b : Expr} {es : List Expr} {fa fb fc : Ef} {fs : Af} {pos p p2 : Pos}
def dLen : List PyData → Option PyData
  | [.list ds] => some (.int ds.length)
  | [.tuple ds] => some (.int ds.length)
  | [.str x] => if x.length ≤ sizeLine then some (.int x.length) else none
  | _ => none
theorem cd_len {K : PySem.W.Frag} : CaD K (fun xs H Q => ∃ x n, xs = [x] ∧ LenV K x H n ∧ Q (.int n) H) dLen := fun vs ds c G H Q ps s eq q => by
  cases ps with
  | nil => cases eq
  | cons p ps =>
    cases ps with
    | cons _ _ => cases p <;> cases eq
    | nil =>
      cases p with
      | lst h1 h2 => cases eq; exact ⟨_, _, rfl, .inl ⟨_, s.seq h1, rfl⟩, by rw [h2.length]; exact q _ G H (Grow.refl s) (.int _)⟩
      | tup h1 h2 => cases eq; exact ⟨_, _, rfl, .inr ⟨_, sqT_same s h1, rfl⟩, by rw [h2.length]; exact q _ G H (Grow.refl s) (.int _)⟩
      | str x =>
        by_cases h : x.length ≤ sizeLine
        · simp only [dLen, if_pos h] at eq; cases eq; exact ⟨_, _, rfl, ⟨h, rfl⟩, q _ G H (Grow.refl s) (.int _)⟩
        · simp only [dLen, if_neg h] at eq; cases eq
      | _ => cases eq
def dIntOf : List PyData → Option PyData
  | [.int i] => some (.int i)
  | [.bool k] => some (.int (if k then 1 else 0))
  | _ => none
theorem cd_int {K : PySem.W.Frag} : CaD K (fun xs H Q => (∃ i, xs = [.int i] ∧ Q (.int i) H) ∨ ∃ k, xs = [.bl k] ∧ Q (.int (if k then 1 else 0)) H) dIntOf := fun vs ds c G H Q ps s eq q => by
  cases ps with
  | nil => cases eq
  | cons p ps =>
    cases ps with
    | cons _ _ => cases p <;> cases eq
    | nil =>
      cases p with
      | int i => cases eq; exact .inl ⟨_, rfl, q _ G H (Grow.refl s) (.int _)⟩
      | bl i => cases eq; exact .inr ⟨_, rfl, q _ G H (Grow.refl s) (.int _)⟩
      | _ => cases eq
def dListOf : List PyData → Option PyData
  | [.list ds] => some (.list ds)
  | [.tuple ds] => some (.list ds)
  | _ => none
theorem cd_list {K : PySem.W.Frag} : CaD K (fun xs H Q => ∃ p ys, xs = [.ref p] ∧ (SqL K H p ys ∨ SqT K H p ys) ∧ ∀ l, H l = none → Q (.ref l) (upd H l (.lst ys))) dListOf := fun vs ds c G H Q ps s eq q => by
  cases ps with
  | nil => cases eq
  | cons p ps =>
    cases ps with
    | cons _ _ => cases p <;> cases eq
    | nil =>
      cases p with
      | lst h1 h2 =>
        cases eq
        refine ⟨_, _, rfl, .inl (s.seq h1), fun l hl => ?_⟩
        exact q _ _ _ (grow_new s hl) (.lst (SqL.of upd_same) (h2.mono (grow_new s hl).gg))
      | tup h1 h2 =>
        cases eq
        refine ⟨_, _, rfl, .inr (sqT_same s h1), fun l hl => ?_⟩
        exact q _ _ _ (grow_new s hl) (.lst (SqL.of upd_same) (h2.mono (grow_new s hl).gg))
      | _ => cases eq
def dTupOf : List PyData → Option PyData
  | [.list ds] => some (.tuple ds)
  | [.tuple ds] => some (.tuple ds)
  | _ => none
theorem cd_tuple {K : PySem.W.Frag} : CaD K (fun xs H Q => ∃ p ys, xs = [.ref p] ∧ ((SqL K H p ys ∧ ∀ l, H l = none → Q (.ref l) (upd H l (.tup ys))) ∨ (SqT K H p ys ∧ Q (.ref p) H))) dTupOf := fun vs ds c G H Q ps s eq q => by
  cases ps with
  | nil => cases eq
  | cons p ps =>
    cases ps with
    | cons _ _ => cases p <;> cases eq
    | nil =>
      cases p with
      | lst h1 h2 =>
        cases eq
        refine ⟨_, _, rfl, .inl ⟨s.seq h1, fun l hl => ?_⟩⟩
        exact q _ _ _ (grow_new s hl) (.tup (SqT.of upd_same) (h2.mono (grow_new s hl).gg))
      | tup h1 h2 =>
        cases eq
        exact ⟨_, _, rfl, .inr ⟨sqT_same s h1, q _ G H (Grow.refl s) (.tup h1 h2)⟩⟩
      | _ => cases eq
def dInts : List PyData → Option (List Int)
  | [] => some []
  | .int i :: ds => (dInts ds).map (i :: ·)
  | _ :: _ => none
theorem dInts_some : ∀ {ds : List PyData} {ns : List Int}, dInts ds = some ns → ds = ns.map PyData.int
  | [], _, h => by cases h; rfl
  | .int i :: ds, _, h => by
    obtain ⟨ms, h1, h2⟩ := Option.map_eq_some_iff.mp h
    subst h2
    rw [dInts_some h1]; rfl
  | .none :: _, _, h => by cases h
  | .bool _ :: _, _, h => by cases h
  | .str _ :: _, _, h => by cases h
  | .list _ :: _, _, h => by cases h
  | .tuple _ :: _, _, h => by cases h
  | .dict _ :: _, _, h => by cases h
/-- the greatest of a list that isn't empty -/
def greatest : List Int → Int
  | [] => 0
  | n :: ns => ns.foldl max n
theorem foldl_max_ge : ∀ (ns : List Int) (n : Int), n ≤ ns.foldl max n ∧ ∀ y ∈ ns, y ≤ ns.foldl max n
  | [], n => ⟨Int.le_refl _, fun _ h => by cases h⟩
  | m :: ns, n => by
    obtain ⟨h1, h2⟩ := foldl_max_ge ns (max n m)
    refine ⟨?_, fun y hy => ?_⟩
    · show n ≤ ns.foldl max (max n m); omega
    · show y ≤ ns.foldl max (max n m)
      rcases List.mem_cons.mp hy with rfl | hy
      · omega
      · exact h2 y hy
theorem foldl_max_mem : ∀ (ns : List Int) (n : Int), ns.foldl max n = n ∨ ns.foldl max n ∈ ns
  | [], n => .inl rfl
  | m :: ns, n => by
    rcases foldl_max_mem ns (max n m) with h | h
    · show ns.foldl max (max n m) = n ∨ ns.foldl max (max n m) ∈ m :: ns
      rw [h]
      by_cases c : m ≤ n
      · left; omega
      · right; have : max n m = m := by omega
        rw [this]; exact List.mem_cons_self ..
    · exact .inr (List.mem_cons_of_mem _ h)
theorem greatest_ge {ns : List Int} {y : Int} (h : y ∈ ns) : y ≤ greatest ns := by
  cases ns with
  | nil => cases h
  | cons n ns =>
    obtain ⟨h1, h2⟩ := foldl_max_ge ns n
    rcases List.mem_cons.mp h with rfl | h
    · exact h1
    · exact h2 y h
theorem greatest_mem {ns : List Int} (h : ns ≠ []) : greatest ns ∈ ns := by
  cases ns with
  | nil => exact absurd rfl h
  | cons n ns =>
    rcases foldl_max_mem ns n with h | h
    · show ns.foldl max n ∈ n :: ns
      rw [h]; exact List.mem_cons_self ..
    · exact List.mem_cons_of_mem _ h
theorem greatest_one {ns : List Int} {m : Int} (hm : m ∈ ns) (hle : ∀ y ∈ ns, y ≤ m) : greatest ns = m :=
  Int.le_antisymm (hle _ (greatest_mem (by intro z; rw [z] at hm; cases hm))) (greatest_ge hm)
def dMax : List PyData → Option PyData
  | [.list ds] => (dInts ds).bind fun ns => if ns = [] then none else some (.int (greatest ns))
  | [.int i, .int j] => some (.int (if j > i then j else i))
  | _ => none
def rMaxD (K : PySem.W.Frag) : List V → Hp → VK → Prop := fun vs H Q => rMax K vs H Q ∨ ∃ i j, vs = [.int i, .int j] ∧ Q (.int (if j > i then j else i)) H
theorem cr_maxD (hc : X.calm = true) : CallR X (.builtin "max") (rMaxD X.K) := by
  intro pins s σ H vs us Q I r h
  rcases h with h | h
  · exact cr_max hc pins s σ H vs us Q I r h
  · exact call_max2 hc pins s σ H vs us Q I r h
theorem cd_max {K : PySem.W.Frag} : CaD K (rMaxD K) dMax := fun vs ds c G H Q ps s eq q => by
  cases ps with
  | nil => cases eq
  | cons p ps =>
    cases ps with
    | nil =>
      cases p with
      | lst h1 h2 =>
        obtain ⟨ns, e1, e2⟩ := Option.bind_eq_some_iff.mp eq
        by_cases hn : ns = []
        · rw [if_pos hn] at e2; cases e2
        · rw [if_neg hn] at e2
          cases e2
          cases dInts_some e1
          refine .inl ⟨_, ns, rfl, by rw [← h2.ints]; exact s.seq h1, ?_, fun m hm hle => ?_⟩
          · cases ns with
            | nil => exact absurd rfl hn
            | cons _ _ => exact Nat.succ_pos _
          · rw [← greatest_one hm hle]; exact q _ G H (Grow.refl s) (.int _)
      | _ => cases eq
    | cons p' ps =>
      cases ps with
      | nil =>
        cases p with
        | int i =>
          cases p' with
          | int j => cases eq; exact .inr ⟨i, j, rfl, q _ G H (Grow.refl s) (.int _)⟩
          | _ => cases eq
        | _ => cases eq
      | cons _ _ => cases p <;> first | cases eq | (cases p' <;> cases eq)
def fCallK (F : List PyData → List PyData → Option PyData) (fs fk : Af) : Ef := fun ε => (fs ε).bind fun p => (fk p.2).bind fun q => (F p.1 q.1).map fun c => (c, q.2)
structure Kv (X : Cx) (kws : List Keyword) (f : Af) : Prop where
  p : PK X kws (tAF X.K f)
def tyName : PyData → String
  | .none => "NoneType"
  | .bool _ => "bool"
  | .int _ => "int"
  | .str _ => "str"
  | .list _ => "list"
  | .tuple _ => "tuple"
  | .dict _ => "dict"
def isSub (t c : String) : Bool := t == c || (t == "bool" && c == "int")
theorem isinst_d {c : String} {b : Bool} {v : V} {d : PyData} {E : Value → Shared → Prop} {Q : Value → Shared → Prop} {pins : List (Addr × Obj)} {σ : L2.St} {H : Hp} {s : Shared} {u : Value} {A : Around} (I : Inv X pins σ H s) (rx : RelV v u) (rp : Rp X.K H v d) (e : PySem.W.kitOne X.K (.type (tyName d)) (.type c) = some b) (h : ∀ tk, Q (.bool b) { s with toks := tk }) :
    wpAny (model X.prog X.w) A (call (.builtin "isinstance") [u, .type c]) Q E s := by
  cases rp with
  | non => cases (show u = Value.none from rx); exact PySem.W.kia_one PySem.W.kitx_none I.kIn True.intro e (fun z => nomatch z) h
  | bl y => cases (show u = Value.bool y from rx); exact PySem.W.kia_one PySem.W.kitx_bool I.kIn True.intro e (fun z => nomatch z) h
  | int i => obtain ⟨t, q⟩ := (show ∃ t, u = Value.int i t from rx); cases q; exact PySem.W.kia_one PySem.W.kitx_int I.kIn True.intro e (fun z => nomatch z) h
  | str y => obtain ⟨t, q⟩ := (show ∃ t, u = Value.str y t from rx); cases q; exact PySem.W.kia_one PySem.W.kitx_str I.kIn True.intro e (fun z => nomatch z) h
  | @lst a xs ds h1 h2 =>
    cases (show u = Value.ref a from rx)
    obtain ⟨its, r, ⟨o, n, ho, hc, _, hd⟩, _⟩ := I.list h1
    exact PySem.W.kia_one PySem.W.kitx_list I.kIn ⟨o, ho, hc⟩ e (fun z => nomatch z) h
  | @tup a xs ds h1 h2 =>
    cases (show u = Value.ref a from rx)
    obtain ⟨its, r, ⟨o, ho, hc, n, hd⟩, _⟩ := I.tuple h1
    exact PySem.W.kia_one PySem.W.kitx_tuple I.kIn ⟨o, ho, hc⟩ e (fun z => nomatch z) h
  | @dct a kvs es h1 h2 =>
    cases (show u = Value.ref a from rx)
    have ok : ObjOk X.prog X.w H s.heap a (.dK kvs) := by
      rcases h1 with h1 | ⟨o, h1⟩
      · exact I.hok a _ h1
      · exact (I.hok a _ h1).2
    obtain ⟨_, _, vs, _, p⟩ := ok
    obtain ⟨o, es, ep, h3, h4, _⟩ := p
    exact PySem.W.kia_one PySem.W.kitx_dict I.kIn ⟨o, h3, h4.1⟩ e (fun z => nomatch z) h
def fIsi (c : String) (fa : Ef) : Ef := fun ε => (fa ε).map fun p => (.bool (isSub (tyName p.1) c), p.2)
/-- what isinstance asks of the table of classes -/
def IsiOk (K : PySem.W.Frag) (c : String) : Prop := ∀ d : PyData, PySem.W.kitOne K (.type (tyName d)) (.type c) = some (isSub (tyName d) c)
def rIsi (K : PySem.W.Frag) (c : String) : List V → Hp → VK → Prop := fun vs H Q => ∃ v d, vs = [v, .ty c] ∧ Rp K H v d ∧ PySem.W.kitOne K (.type (tyName d)) (.type c) = some (isSub (tyName d) c) ∧ Q (.bl (isSub (tyName d) c)) H
theorem cr_isi {c : String} : CallR X (.builtin "isinstance") (rIsi X.K c) := by
  intro pins s σ H vs us Q I r h
  obtain ⟨v, d, rfl, rp, e, q⟩ := h
  cases r with
  | cons r rr =>
    cases rr with
    | cons r' rr =>
      cases rr
      cases r'
      exact isinst_d I r rp e fun tk => ⟨.bl _, H, I.tok _, rfl, q⟩
theorem ev_isi {x y : Str} {c : String} {py : Pos} (hT : IsiOk X.K c) (hg : Gl X x) (hm : X.mg x = none) (hv : bootBuiltins x = some (.builtin "isinstance")) (hy : PE X (.Name y py) (tC (.ty c))) (ha : Ev X e fa)
    (hn : x ≠ "__name__" := by decide) (hdb : (x == ("__debug__" : Str)) = false := by decide)
    (he : starEach [e, .Name y py] X.env = (false, eval e X.env) :: starEach [.Name y py] X.env := by exact star_ok rfl) (he2 : starEach [.Name y py] X.env = (false, eval (.Name y py) X.env) :: starEach [] X.env := by exact star_ok rfl)
    (hpl : (backTo pos (starEach [.Name y py] X.env)).any (·.1) = false := by exact plain_ok rfl) : Ev X (.Call (.Name x p) [e, .Name y py] [] pos) (fIsi c fa) :=
  ⟨pe_mono (pe_callB cr_isi hg hm hv (pa_cons ha.p (pa_cons hy pa_nil he2) he) hn hdb he hpl) fun σ H Q ⟨B, G, z, ε, d, ε', rep, ef, q⟩ => by
    obtain ⟨⟨d1, ε1⟩, e1, ef1⟩ := Option.map_eq_some_iff.mp ef
    obtain ⟨rfl, rfl⟩ := Prod.mk.inj ef1
    refine ⟨B, G, z, ε, d1, ε1, rep, e1, fun v G1 H1 g1 r1 p1 => ?_⟩
    exact ⟨v, d1, rfl, p1.mono r1.sub, hT d1, q _ G1 H1 g1 r1 (.bl _)⟩⟩
def dIx : PyData → PyData → Option PyData
  | .list ds, .int i => atI ds i
  | .tuple ds, .int i => atI ds i
  | .str x, .int i => if x.length ≤ sizeLine then (atI x.cps.toList i).map fun c => .str ⟨#[c]⟩ else none
  | _, _ => none
theorem od_ix {K : PySem.W.Frag} : OpD K (rIx K) dIx := fun v w d e c G H Q p1 p2 s eq q => by
  cases p1 with
  | lst h1 h2 =>
    cases p2 with
    | int i =>
      obtain ⟨v, h3, h4⟩ := atI_all h2 eq
      exact .inl ⟨_, _, i, v, rfl, rfl, s.seq h1, h3, q _ G H (Grow.refl s) h4⟩
    | _ => cases eq
  | tup h1 h2 =>
    cases p2 with
    | int i =>
      obtain ⟨v, h3, h4⟩ := atI_all h2 eq
      exact .inr (.inl ⟨_, _, i, v, rfl, rfl, sqT_same s h1, h3, q _ G H (Grow.refl s) h4⟩)
    | _ => cases eq
  | str x =>
    cases p2 with
    | int i =>
      by_cases h : x.length ≤ sizeLine
      · simp only [dIx, if_pos h] at eq
        obtain ⟨n, h1, h2⟩ := Option.map_eq_some_iff.mp eq
        subst h2
        exact .inr (.inr ⟨x, i, n, rfl, rfl, h, h1, q _ G H (Grow.refl s) (.str _)⟩)
      · simp only [dIx, if_neg h] at eq; cases eq
    | _ => cases eq
  | _ => cases p2 <;> cases eq
theorem ev_ix (ha : Ev X a fa) (hb : Ev X b fb) (hs : PlainIx b) : Ev X (.Subscript a b pos) (fBin dIx fa fb) := ⟨pe_mono (pe_ix ix_seq ha.p hb.p hs) fun _ _ _ h => bin_read od_ix h⟩
abbrev Of := En → Option (Option Int × En)
def tOF (K : PySem.W.Frag) (f : Of) : TO := fun σ H Q => ∃ B G z ε d ε', Rep K B G H z σ ε ∧ f ε = some (d, ε') ∧ ∀ G' H', Gr B G G' → Rep K B G' H' z σ ε' → Q d H'
structure Ov (X : Cx) (e : Option Expr) (f : Of) : Prop where
  p : PO X e (tOF X.K f)
def oNone : Of := fun ε => some (none, ε)
def oSome (fa : Ef) : Of := fun ε => (fa ε).bind fun p => (dInt p.1).map fun i => (some i, p.2)
theorem po_mono {o : Option Expr} {t t' : TO} (h : PO X o t) (m : ∀ σ H Q, t' σ H Q → t σ H Q) : PO X o t' := fun pins s σ H Q I q => h pins s σ H Q I (m σ H Q q)
theorem ov_none : Ov X none oNone := ⟨po_mono po_none fun σ H Q ⟨B, G, z, ε, b, ε', r, ef, q⟩ => by
  cases ef
  exact q G H (Gr.refl _ _) r⟩
theorem ov_some (ha : Ev X a fa) : Ov X (some a) (oSome fa) := ⟨po_mono (po_some ha.p) fun σ H Q ⟨B, G, z, ε, d, ε', rep, ef, q⟩ => by
  obtain ⟨⟨d1, ε1⟩, e1, ef1⟩ := Option.bind_eq_some_iff.mp ef
  obtain ⟨i, e2, ef2⟩ := Option.map_eq_some_iff.mp ef1
  obtain ⟨rfl, rfl⟩ := Prod.mk.inj ef2
  refine ⟨B, G, z, ε, d1, ε1, rep, e1, fun v G1 H1 g1 r1 p1 => ?_⟩
  cases dInt_some e2
  cases p1
  exact ⟨i, rfl, q G1 H1 g1 r1⟩⟩
theorem getItem_tuple_whole {prog : Program} {w : World} {A : Around} {E : Value → Shared → Prop} {s : Shared} {t sl : Addr} {items : Array Value} {vl vu : Value} {lo hi : Option Int} {Q : Value → Shared → Prop} (ht : PyProof.Rows.IsTup s.heap t items) (hs : s.heap.IsSliceOf sl vl vu .none) (pl : IsPart vl lo) (pu : IsPart vu hi)
    (hw : HT.sIx items.size 0 lo = 0 ∧ HT.sIx items.size items.size hi = items.size)
    (h : Q (.ref t) s) : wpAny (model prog w) A (getItem (.ref t) (.ref sl)) Q E s := by
  obtain ⟨os, hos, hcs, hds⟩ := id hs
  have hTs : s.TypeIs (.ref sl) "slice" := ⟨os, hos, hcs⟩
  unfold getItem
  try with_reducible refine wpAny_holding ?_
  first | refine wpAny_bind (wpAny_pure ?_) | skip
  refine wpAny_bind (wpAny_sequenceKey ht.typeIs (by decide) ?_)
  refine wpAny_bind (wpAny_callSpecial?_slot (name := Str.ofString "__getitem__") ht.typeIs PyProof.Rows.slot_tuple_getitem
    (wpAny_call_entry PyProof.Rows.slot_tuple_getitem ht.typeIs PyProof.Rows.entry_tuple_getitem ?_ (PyProof.Rows.args_tuple_getitem _ _)))
  show wpAny _ _ (Builtin.Tuple.tupleItemsOf (.ref t) >>= _) _ _ s
  refine wpAny_bind (PyProof.Rows.tupleItemsOf_ ht ?_)
  refine wpAny_bind (wpAny_typeOf hTs ?_)
  rw [if_pos (by decide)]
  refine wpAny_bind (HT.sliceApplied_gen hs pl pu ?_)
  have hyes : (((HT.sIx items.size 0 lo : Nat) : Int) == 0 && (1 : Int) == 1 && (HT.sIx items.size items.size hi - HT.sIx items.size 0 lo) == items.size) = true := by
    rw [hw.1, hw.2]; simp
  show wpAny _ _ (if (((HT.sIx items.size 0 lo : Nat) : Int) == 0 && (1 : Int) == 1 && (HT.sIx items.size items.size hi - HT.sIx items.size 0 lo) == items.size) = true then _ else _) _ _ s
  rw [if_pos hyes]
  refine wpAny_bind (m := Builtin.Tuple.tupleIsExact (.ref t)) ?_
  refine wpAny_bind (wpAny_typeOf ht.typeIs (wpAny_pure ?_))
  rw [if_pos (by decide)]
  exact wpAny_bind (wpAny_rule (wpAny_pure ⟨_, rfl, wpAny_pure h⟩))
def rSlTW (K : PySem.W.Frag) : V → Option Int → Option Int → Hp → VK → Prop := fun x lo hi H Q => ∃ a xs, x = .ref a ∧ SqT K H a xs ∧ (HT.sIx xs.length 0 lo = 0 ∧ HT.sIx xs.length xs.length hi = xs.length) ∧ Q (.ref a) H
theorem sl_tupW : SlR X (rSlTW X.K) := by
  intro pins s σ H x v vl vu lo hi sl Q I rx hs pl pu h
  obtain ⟨a, xs, rfl, hx, hw, q⟩ := h
  cases rx
  obtain ⟨its, r, ht, hz⟩ := I.tuple hx
  have hlen : its.toArray.size = xs.length := by rw [List.size_toArray]; exact r.length.symm
  refine ⟨"tuple", _, PyProof.Rows.slot_tuple_getitem.lookup, ht.typeIs, ?_⟩
  exact getItem_tuple_whole ht hs pl pu (by rw [hlen]; exact hw) ⟨.ref a, H, I, rfl, q⟩
def rSlA (K : PySem.W.Frag) : V → Option Int → Option Int → Hp → VK → Prop := fun x lo hi H Q => rSlL K x lo hi H Q ∨ rSlT K x lo hi H Q ∨ rSlTW K x lo hi H Q ∨ rSlS x lo hi H Q
theorem sl_any : SlR X (rSlA X.K) := by
  intro pins s σ H x v vl vu lo hi sl Q I rx hs pl pu h
  rcases h with h | h | h | h
  · exact sl_list pins s σ H x v vl vu lo hi sl Q I rx hs pl pu h
  · exact sl_tup pins s σ H x v vl vu lo hi sl Q I rx hs pl pu h
  · exact sl_tupW pins s σ H x v vl vu lo hi sl Q I rx hs pl pu h
  · exact sl_str pins s σ H x v vl vu lo hi sl Q I rx hs pl pu h
def cutD (xs : List PyData) (lo hi : Option Int) : List PyData := (xs.drop (HT.sIx xs.length 0 lo)).take (HT.sIx xs.length xs.length hi - HT.sIx xs.length 0 lo)
def dSl : PyData → Option Int → Option Int → Option PyData
  | .list ds, lo, hi => some (.list (cutD ds lo hi))
  | .tuple ds, lo, hi => some (.tuple (cutD ds lo hi))
  | .str x, lo, hi => if x.length ≤ sizeLine then some (.str (cutS x lo hi)) else none
  | _, _, _ => none
theorem cut_all {K : PySem.W.Frag} {G : Hp} {xs : List V} {ds : List PyData} (h : RpAll K G xs ds) (lo hi : Option Int) : RpAll K G (cutV xs lo hi) (cutD ds lo hi) := by
  unfold cutV cutD
  rw [h.length]
  exact (h.drop _).take _
def fSl (fa : Ef) (fl fh : Of) : Ef := fun ε => (fa ε).bind fun p => (fl p.2).bind fun q => (fh q.2).bind fun r => (dSl p.1 q.1 r.1).map fun d => (d, r.2)
theorem sl_read {K : PySem.W.Frag} {G H : Hp} {v : V} {d c : PyData} {lo hi : Option Int} {Q : VK} (p : Rp K G v d) (s : Same G H) (eq : dSl d lo hi = some c) (q : ∀ u G' H', Grow G H G' H' → Rp K G' u c → Q u H') : rSlA K v lo hi H Q := by
  cases p with
  | lst h1 h2 =>
    cases eq
    exact .inl ⟨_, _, rfl, s.seq h1, fun l hl => q _ _ _ (grow_new s hl) (.lst (SqL.of upd_same) ((cut_all h2 lo hi).mono (grow_new s hl).gg))⟩
  | @tup a xs ds h1 h2 =>
    cases eq
    by_cases hw : HT.sIx xs.length 0 lo = 0 ∧ HT.sIx xs.length xs.length hi = xs.length
    · refine .inr (.inr (.inl ⟨_, _, rfl, sqT_same s h1, hw, ?_⟩))
      have : cutD ds lo hi = ds := by
        unfold cutD
        rw [← h2.length, hw.1, hw.2, h2.length]; simp
      rw [this] at q
      exact q _ G H (Grow.refl s) (.tup h1 h2)
    · exact .inr (.inl ⟨_, _, rfl, sqT_same s h1, hw, fun l hl => q _ _ _ (grow_new s hl) (.tup (SqT.of upd_same) ((cut_all h2 lo hi).mono (grow_new s hl).gg))⟩)
  | str x =>
    by_cases h : x.length ≤ sizeLine
    · simp only [dSl, if_pos h] at eq; cases eq
      exact .inr (.inr (.inr ⟨x, rfl, h, q _ G H (Grow.refl s) (.str _)⟩))
    · simp only [dSl, if_neg h] at eq; cases eq
  | _ => cases eq
theorem ev_sl {lo hi : Option Expr} {fl fh : Of} (ha : Ev X a fa) (hl : Ov X lo fl) (hh : Ov X hi fh) : Ev X (.Subscript a (.Slice lo hi none p2) pos) (fSl fa fl fh) := ⟨pe_mono (pe_slice sl_any ha.p hl.p hh.p) fun σ H Q ⟨B, G, z, ε, d, ε', rep, ef, q⟩ => by
  obtain ⟨⟨d1, ε1⟩, e1, ef1⟩ := Option.bind_eq_some_iff.mp ef
  obtain ⟨⟨d2, ε2⟩, e2, ef2⟩ := Option.bind_eq_some_iff.mp ef1
  obtain ⟨⟨d3, ε3⟩, e3, ef3⟩ := Option.bind_eq_some_iff.mp ef2
  obtain ⟨c, e4, ef4⟩ := Option.map_eq_some_iff.mp ef3
  obtain ⟨rfl, rfl⟩ := Prod.mk.inj ef4
  refine ⟨B, G, z, ε, d1, ε1, rep, e1, fun v G1 H1 g1 r1 p1 => ?_⟩
  refine ⟨B, G1, z, ε1, d2, ε2, r1, e2, fun G2 H2 g2 r2 => ?_⟩
  refine ⟨B, G2, z, ε2, d3, ε3, r2, e3, fun G3 H3 g3 r3 => ?_⟩
  exact sl_read ((p1.mono g2.1).mono g3.1) r3.sub e4 fun u G4 H4 g4 p4 => q u G4 H4 (((g1.trans g2).trans g3).trans (g4.gr r3.bg)) (g4.rep r3) p4⟩
end
end PD

set_option Elab.async false
set_option linter.all false
set_option maxRecDepth 100000
set_option maxHeartbeats 4000000
namespace PD
open PySem L2
def kit0 (t c : String) : Option Bool := if (Value.type t == Value.type c) = true then some true else if PySem.W.kitMeta c = true then (PySem.fastBuiltinMro t).map (·.contains (Value.type c)) else none
theorem kit0_eq (K : PySem.W.Frag) (t c : String) : PySem.W.kitOne K (.type t) (.type c) = kit0 t c := rfl
theorem isi_of {c : String} (h : (["NoneType", "bool", "int", "str", "list", "tuple", "dict"].all fun t => decide (kit0 t c = some (isSub t c))) = true) (K : PySem.W.Frag) : IsiOk K c := fun d => by
  rw [kit0_eq]
  have h' := List.all_eq_true.mp h (tyName d) (by cases d <;> simp [tyName])
  exact of_decide_eq_true h'
theorem isi_int (K : PySem.W.Frag) : IsiOk K "int" := isi_of (by decide +kernel) K
theorem isi_bool (K : PySem.W.Frag) : IsiOk K "bool" := isi_of (by decide +kernel) K
theorem isi_str (K : PySem.W.Frag) : IsiOk K "str" := isi_of (by decide +kernel) K
theorem isi_tuple (K : PySem.W.Frag) : IsiOk K "tuple" := isi_of (by decide +kernel) K
section
variable {X : Cx}
/-- a name of a built-in class as a value -/
theorem pe_ty {x : Str} {c : String} {pos : Pos} (hg : Gl X x) (hm : X.mg x = none) (hv : bootBuiltins x = some (.type c)) (hn : x ≠ "__name__" := by decide) (hd : (x == ("__debug__" : Str)) = false := by decide) : PE X (.Name x pos) (tC (.ty c)) := pe_bltn hg hm hv rfl hn hd
end
end PD

set_option Elab.async false
set_option linter.all false
set_option maxRecDepth 100000
set_option maxHeartbeats 4000000
namespace PD
open PySem L2

section
variable {ε ε1 ε2 ε3 : En} {f g : Sf} {fa fb fc : Ef} {fs fk : Af} {ga gb : Tf} {d e c d1 d2 d3 r r' : PyData} {ds es : List PyData} {o : Option Out} {i j n : Nat} {b : Bool}
theorem sSeq_nx (h : f ε = some (.nx ε1)) (h2 : g ε1 = o) : sSeq f g ε = o := by unfold sSeq; rw [h]; exact h2
theorem sSeq_rt (h : f ε = some (.rt d ε1)) : sSeq f g ε = some (.rt d ε1) := by unfold sSeq; rw [h]; rfl
theorem sIf_t (h : ga ε = some (true, ε1)) (h2 : f ε1 = o) : sIf ga f g ε = o := by unfold sIf; rw [h]; exact h2
theorem sIf_f (h : ga ε = some (false, ε1)) (h2 : g ε1 = o) : sIf ga f g ε = o := by unfold sIf; rw [h]; exact h2
theorem sAsg_ok (h : fa ε = some (d, ε1)) : sAsg i fa ε = some (.nx (ε1.set i (.fz d))) := by unfold sAsg; rw [h]; rfl
theorem sAsgM_ok (h : fa ε = some (d, ε1)) : sAsgM i fa ε = some (.nx (ε1.set i (.mu d))) := by unfold sAsgM; rw [h]; rfl
theorem sRet_ok (h : fa ε = some (d, ε1)) : sRet fa ε = some (.rt d ε1) := by unfold sRet; rw [h]; rfl
theorem sRetF_ok (h : fa ε = some (d, ε1)) : sRetF fa ε = some (.rf d ε1) := by unfold sRetF; rw [h]; rfl
theorem fBin_ok {q : PyData → PyData → Option PyData} (ha : fa ε = some (d1, ε1)) (hb : fb ε1 = some (d2, ε2)) (hq : q d1 d2 = some c) : fBin q fa fb ε = some (c, ε2) := by unfold fBin; rw [ha]; simp only [Option.bind_some, hb, hq, Option.map_some]
theorem fUn_ok {q : PyData → Option PyData} (ha : fa ε = some (d1, ε1)) (hq : q d1 = some c) : fUn q fa ε = some (c, ε1) := by unfold fUn; rw [ha]; simp only [Option.bind_some, hq, Option.map_some]
theorem fCall_ok {q : List PyData → Option PyData} (ha : fs ε = some (ds, ε1)) (hq : q ds = some c) : fCall q fs ε = some (c, ε1) := by unfold fCall; rw [ha]; simp only [Option.bind_some, hq, Option.map_some]
theorem fCallK_ok {q : List PyData → List PyData → Option PyData} (ha : fs ε = some (ds, ε1)) (hb : fk ε1 = some (es, ε2)) (hq : q ds es = some c) : fCallK q fs fk ε = some (c, ε2) := by unfold fCallK; rw [ha]; simp only [Option.bind_some, hb, hq, Option.map_some]
theorem fCons_ok (ha : fa ε = some (d, ε1)) (hb : fs ε1 = some (ds, ε2)) : fCons fa fs ε = some (d :: ds, ε2) := by unfold fCons; rw [ha]; simp only [Option.bind_some, hb, Option.map_some]
theorem gd_ok {F : List PyData → Option PyData} (hl : ds.length = n) (h : F ds = some c) : gd n F ds = some c := by unfold gd; rw [if_pos hl]; exact h
theorem fAnd_t (ha : fa ε = some (.bool true, ε1)) {p : Option (PyData × En)} (hb : fb ε1 = p) : fAnd fa fb ε = p := by unfold fAnd; rw [ha]; exact hb
theorem fOr_t (ha : fa ε = some (.bool true, ε1)) : fOr fa fb ε = some (.bool true, ε1) := by unfold fOr; rw [ha]; rfl
theorem fOr_f (ha : fa ε = some (.bool false, ε1)) {p : Option (PyData × En)} (hb : fb ε1 = p) : fOr fa fb ε = p := by unfold fOr; rw [ha]; exact hb
theorem gVal_ok (h : fa ε = some (.bool b, ε1)) : gVal fa ε = some (b, ε1) := by unfold gVal; rw [h]; rfl
theorem gVal_t (h : fa ε = some (.bool b, ε1)) (hb : b = true) : gVal fa ε = some (true, ε1) := by subst hb; exact gVal_ok h
theorem gVal_f (h : fa ε = some (.bool b, ε1)) (hb : b = false) : gVal fa ε = some (false, ε1) := by subst hb; exact gVal_ok h
theorem gTru_bool (h : fa ε = some (.bool b, ε1)) : gTru fa ε = some (b, ε1) := by unfold gTru; rw [h]; rfl
theorem gAnd_t {p : Option (Bool × En)} (h : ga ε = some (true, ε1)) (h2 : gb ε1 = p) : gAnd ga gb ε = p := by unfold gAnd; rw [h]; exact h2
theorem gAnd_f (h : ga ε = some (false, ε1)) : gAnd ga gb ε = some (false, ε1) := by unfold gAnd; rw [h]; rfl
theorem gOr_f {p : Option (Bool × En)} (h : ga ε = some (false, ε1)) (h2 : gb ε1 = p) : gOr ga gb ε = p := by unfold gOr; rw [h]; exact h2
theorem fIxM_ok {k : Int} (h0 : asList ε i = some es) (hb : fb ε = some (.int k, ε1)) (h1 : asList ε1 i = some ds) (h2 : atI ds k = some d) : fIxM i fb ε = some (d, ε1) := by
  unfold fIxM; rw [h0]; simp only [Option.bind_some, hb, h1, dInt, h2, Option.map_some]
theorem sSetM_ok {k : Int} {l : Nat} (ha : fa ε = some (d, ε1)) (h0 : asList ε1 i = some es) (hb : fb ε1 = some (.int k, ε2)) (h1 : asList ε2 i = some ds) (h2 : ixN ds.length k = some l) : sSetM i fa fb ε = some (.nx (ε2.set i (.mu (.list (ds.set l d))))) := by
  unfold sSetM; rw [ha]; simp only [Option.bind_some, h0, hb, h1, dInt, h2, Option.map_some]
theorem sAppM_ok (h0 : asList ε i = some es) (ha : fa ε = some (d, ε1)) (h1 : asList ε1 i = some ds) (hl : ds.length < sizeLine) : sAppM i fa ε = some (.nx (ε1.set i (.mu (.list (ds ++ [d]))))) := by
  unfold sAppM; rw [h0]; simp only [Option.bind_some, ha, h1, if_pos hl]
theorem fRow_ok {F : PyData → List PyData → Option (PyData × PyData)} {r0 : PyData} (h0 : ε[i]? = some (.mu r0)) (ha : fs ε = some (ds, ε1)) (h1 : ε1[i]? = some (.mu r)) (hl : ds.length + 1 = n) (h2 : F r ds = some (d, r')) : fRow i n F fs ε = some (d, ε1.set i (.mu r')) := by
  unfold fRow; rw [h0]; simp only [ha, Option.bind_some, h1, if_pos hl, h2, Option.map_some]
theorem fSrc_ok (ha : fa ε = some (d, ε1)) (h : dSeq d = some ds) : fSrc fa ε = some (ds, ε1) := by unfold fSrc; rw [ha]; simp only [Option.bind_some, h, Option.map_some]
theorem fRng1_ok {k : Int} (ha : fs ε = some ([.int k], ε1)) (h : dR k = true) : fRng1 fs ε = some (rangeD 0 k.toNat, ε1) := by unfold fRng1; rw [ha]; simp only [Option.bind_some, if_pos h]
theorem fSl_ok {fl fh : Of} {lo hi : Option Int} (ha : fa ε = some (d, ε1)) (hl : fl ε1 = some (lo, ε2)) (hh : fh ε2 = some (hi, ε3)) (h : dSl d lo hi = some c) : fSl fa fl fh ε = some (c, ε3) := by
  unfold fSl; rw [ha]; simp only [Option.bind_some, hl, hh, h, Option.map_some]
theorem fComp_ok {bind : PyData → En → Option En} {vs : List Nat} (hs : fs ε = some (ds, ε1)) (h : compF bind ga fa vs ds (clr ε1 vs) = some (es, ε2)) (hl : es.length ≤ sizeLine) : fComp fs bind ga fa vs ε = some (.list es, ε2) := by
  unfold fComp; rw [hs]; simp only [Option.bind_some, h, dLst, if_pos hl, Option.map_some]
theorem runP_ok {fb : Sf} (h : fb (start0 n ds) = some (.rt d ε)) : runP n fb ds = some d := by unfold runP; rw [h]; rfl
theorem runR_ok {fb : Sf} (h : fb (startR n r ds) = some (.rt d ε)) (h2 : ε[0]? = some (.mu r')) : runR n fb r ds = some (d, r') := by unfold runR; rw [h]; simp only [outR, sl0, h2]
theorem comp_inv {bind : PyData → En → Option En} {vs : List Nat} (Inv : En → Prop) (Pr : PyData → Prop) : ∀ (ds : List PyData) (ε : En), (∀ d ∈ ds, ∀ ε, Inv ε → ∃ ε1 ε2 ε3 y, bind d ε = some ε1 ∧ ga ε1 = some (true, ε2) ∧ fa ε2 = some (y, ε3) ∧ Pr y ∧ Inv (clr ε3 vs)) → Inv ε →
    ∃ ys ε', compF bind ga fa vs ds ε = some (ys, ε') ∧ ys.length = ds.length ∧ (∀ y ∈ ys, Pr y) ∧ Inv ε'
  | [], ε, _, h => ⟨[], ε, rfl, rfl, (fun _ h => by cases h), h⟩
  | d :: ds, ε, hs, h => by
    obtain ⟨ε1, ε2, ε3, y, e1, e2, e3, hy, h2⟩ := hs d (List.mem_cons_self ..) ε h
    obtain ⟨ys, ε', e4, hl, hp, h3⟩ := comp_inv Inv Pr ds (clr ε3 vs) (fun d hd => hs d (List.mem_cons_of_mem _ hd)) h2
    refine ⟨y :: ys, ε', ?_, congrArg (· + 1) hl, fun z hz => ?_, h3⟩
    · show ((bind d ε).bind fun ε1 => _) = _
      rw [e1]; simp only [Option.bind_some, e2, if_true, e3, e4, Option.map_some]
    · rcases List.mem_cons.mp hz with rfl | hz
      · exact hy
      · exact hp z hz
theorem eqv_int (a b : Int) : PyData.eqv (.int a) (.int b) = (a == b) := by simp [PyData.eqv]
theorem dEq_int {a b : Int} : dEq (.int a) (.int b) = some (.bool (a == b)) := by
  show some (PyData.bool (PyData.eqv (.int a) (.int b))) = _
  rw [eqv_int]
theorem dNe_int {a b : Int} : dNe (.int a) (.int b) = some (.bool (!(a == b))) := by
  show some (PyData.bool (!PyData.eqv (.int a) (.int b))) = _
  rw [eqv_int]
theorem dMul_l {a b : Int} (h1 : -18446744073709551616 < a) (h2 : a < 18446744073709551616) : dMul (.int a) (.int b) = some (.int (a * b)) := by
  show (if (-(2 ^ 64) < a ∧ a < 2 ^ 64) ∨ (-(2 ^ 64) < b ∧ b < 2 ^ 64) then some (PyData.int (a * b)) else none) = _
  rw [if_pos (.inl ⟨h1, h2⟩)]
theorem dMod_ok {a m : Int} (h : 0 < m) : dMod (.int a) (.int m) = some (.int (a % m)) := by
  show (if 0 < m then some (PyData.int (a % m)) else none) = _
  rw [if_pos h]
theorem dFdiv_ok {a m : Int} (h : 0 < m) (h2 : m < 2 ^ 200) : dFdiv (.int a) (.int m) = some (.int (a / m)) := by
  show (if 0 < m ∧ m < 2 ^ 200 then some (PyData.int (a / m)) else none) = _
  rw [if_pos ⟨h, h2⟩]
theorem canLay_ints (ns : List Int) : PyData.canLayAll0 (ns.map PyData.int) = true := by
  induction ns with
  | nil => rfl
  | cons n ns ih => simpa [PyData.canLayAll0, PyData.canLay0] using ih
theorem depth_ints (ns : List Int) : PyData.depthAll (ns.map PyData.int) = 0 := by
  induction ns with
  | nil => rfl
  | cons n ns ih => simpa [PyData.depthAll, PyData.depth] using ih
theorem sh_ints (ns : List Int) : sh (.list (ns.map PyData.int)) = true := by
  simp [sh, SeqAt.shaped, PyData.canLay0, PyData.depth, canLay_ints, depth_ints]
theorem sh_can {d : PyData} (h : sh d = true) : d.canLay0 = true := SeqAt.canLay_of_shaped h
theorem dNe_self {d : PyData} (h : sh d = true) : dNe d d = some (.bool false) := by
  unfold dNe
  rw [if_pos ⟨h, h⟩, SeqAt.eqv_refl d (sh_can h)]; rfl
theorem sizeLine_big {n : Nat} (h : n ≤ 100000) : n ≤ sizeLine := by rw [sizeLine_eq]; omega
theorem sizeLine_lt {n : Nat} (h : n < 100000) : n < sizeLine := by rw [sizeLine_eq]; omega
end
end PD

set_option Elab.async false
set_option linter.all false
set_option maxRecDepth 100000
set_option maxHeartbeats 4000000
namespace PD
open PySem L2

section
variable {prog : Program} {w : World} {A : Around} {I : Addr} {fp wr : List Addr} {n : Nat} {P : Nat → Value → Prop} {St : Nat → Heap → Prop}
end
section
variable {prog : Program} {w : World} {A : Around} {E : Value → Shared → Prop} {s : Shared}
end
end PD

set_option Elab.async false
set_option linter.all false
set_option maxRecDepth 100000
set_option maxHeartbeats 4000000
namespace PD
open PySem L2
section
variable {X : Cx} {e a b : Expr} {es : List Expr} {fa fb fc : Ef} {fs : Af} {x y : Str} {pos pos' p : Pos}
/-- xs + ys as a new list that nothing holds -/
def dCat : PyData → PyData → Option PyData
  | .list a, .list b => if a.length + b.length ≤ sizeLine then some (.list (a ++ b)) else none
  | _, _ => none
theorem fv_cat (ha : Ev X a fa) (hb : Ev X b fb) : Fv X (.BinOp a .Add b pos) (fBin dCat fa fb) :=
  ⟨pe_mono (pe_op op_catS ha.p hb.p) fun σ H Q ⟨B, G, z, ε, d, ε', rep, ef, q⟩ => by
    obtain ⟨⟨d1, ε1⟩, e1, ef1⟩ := Option.bind_eq_some_iff.mp ef
    obtain ⟨⟨d2, ε2⟩, e2, ef2⟩ := Option.bind_eq_some_iff.mp ef1
    obtain ⟨c, e3, ef3⟩ := Option.map_eq_some_iff.mp ef2
    obtain ⟨rfl, rfl⟩ := Prod.mk.inj ef3
    refine ⟨B, G, z, ε, d1, ε1, rep, e1, fun v1 G1 H1 g1 r1 p1 => ?_⟩
    refine ⟨B, G1, z, ε1, d2, ε2, r1, e2, fun v2 G2 H2 g2 r2 p2 => ?_⟩
    have p1' := p1.mono g2.1
    cases p1' with
    | @lst l1 xs ds h1 h2 =>
      cases p2 with
      | @lst l2 ys es h3 h4 =>
        by_cases h : ds.length + es.length ≤ sizeLine
        · simp only [dCat, if_pos h] at e3; cases e3
          refine ⟨l1, l2, xs, ys, rfl, rfl, r2.sub.seq h1, r2.sub.seq h3, by rw [h2.length, h4.length]; exact h, fun l hl => ?_⟩
          exact q l G2 _ (g1.trans g2) (rep_new r2 hl) (r2.sub.free hl) (r2.bg.free hl) (.lst upd_same (h2.append h4)) (nomu r2 hl)
        · simp only [dCat, if_neg h] at e3; cases e3
      | _ => cases e3
    | _ => cases e3⟩
end
end PD

set_option Elab.async false
set_option linter.all false
set_option maxRecDepth 100000
set_option maxHeartbeats 4000000
namespace PD
open PySem L2
section
variable {X : Cx} {e a b : Expr} {es : List Expr} {fa fb fc : Ef} {fs : Af} {x y : Str} {pos pos' p p2 apos cpos : Pos}
def rInD (K : PySem.W.Frag) (neg : Bool) : R2 := fun x y H Q => ∃ d c ds, Dp K H x d ∧ Dp K H y c ∧ (c = .list ds ∨ c = .tuple ds) ∧ SeqAt.shaped d = true ∧ SeqAt.shaped c = true ∧ Q (.bl (if neg then !ds.any (fun z => PyData.eqv z d) else ds.any fun z => PyData.eqv z d)) H
theorem room_in {A : Around} {d : PyData} {ds : List PyData} (hd : SeqAt.shaped d = true) (hu : A.units + 70 < cLine) : A.units + 1 + min (PyData.depthAll ds) d.depth < cLine := by
  have h1 := SeqAt.depth_of_shaped hd
  have h2 : min (PyData.depthAll ds) d.depth ≤ d.depth := Nat.min_le_right _ _
  omega
theorem canAll_of {ds : List PyData} : (SeqAt.shaped (.list ds) = true ∨ SeqAt.shaped (.tuple ds) = true) → PyData.canLayAll0 ds = true := fun h => by
  rcases h with h | h
  · simpa [PyData.canLay0] using SeqAt.canLay_of_shaped h
  · simpa [PyData.canLay0] using SeqAt.canLay_of_shaped h
theorem op_inD (hu : X.A.units + 70 < cLine) : OpR X (compareOp .In) (rInD X.K false) := by
  intro pins s σ H x y v u Q I rx ry h
  obtain ⟨d, c, ds, hd, hc, hcd, sd, sc, q⟩ := h
  obtain ⟨as, r1⟩ := Dp.reads I d x v hd rx
  obtain ⟨bs, r2⟩ := Dp.reads I c y u hc ry
  rcases hcd with rfl | rfl
  · exact SeqAt.in_list_reads r2 r1 (canAll_of (.inl sc)) (SeqAt.canLay_of_shaped sd) (room_in sd hu) ⟨.bl _, H, I, rfl, q⟩
  · exact SeqAt.in_tuple_reads r2 r1 (canAll_of (.inr sc)) (SeqAt.canLay_of_shaped sd) (room_in sd hu) ⟨.bl _, H, I, rfl, q⟩
def dInG (neg : Bool) (d c : PyData) : Option PyData := (dSeq c).bind fun ds => if sh d = true ∧ sh c = true then some (.bool (if neg then !ds.any (fun z => PyData.eqv z d) else ds.any fun z => PyData.eqv z d)) else none
def dIn : PyData → PyData → Option PyData := dInG false
theorem od_inG {K : PySem.W.Frag} (neg : Bool) : OpD K (rInD K neg) (dInG neg) := fun v w d c r G H Q p1 p2 s eq q => by
  obtain ⟨ds, e1, e2⟩ := Option.bind_eq_some_iff.mp eq
  split at e2
  · rename_i h
    cases e2
    refine ⟨d, c, ds, dp_of (p1.mono s) (SeqAt.canLay_of_shaped h.1), dp_of (p2.mono s) (SeqAt.canLay_of_shaped h.2), ?_, h.1, h.2, q _ G H (Grow.refl s) (.bl _)⟩
    cases c <;> cases e1
    · exact .inl rfl
    · exact .inr rfl
  · cases e2
theorem od_in {K : PySem.W.Frag} : OpD K (rInD K false) dIn := od_inG false
theorem room70 {k : Nat} {A : Around} (r : Room k A) : A.units + 70 < cLine := by have := r.un; omega
def dNeg : PyData → Option PyData
  | .int i => some (.int (-i))
  | _ => none
end
end PD

set_option Elab.async false
set_option linter.all false
set_option maxRecDepth 100000
set_option maxHeartbeats 4000000
namespace PD
open PySem L2
section
variable {X : Cx} {e a b : Expr} {fa fb fc : Ef} {fs : Af} {x y : Str} {pos pos' p p2 : Pos}
end
end PD

set_option Elab.async false
set_option linter.all false
set_option maxRecDepth 100000
set_option maxHeartbeats 4000000
namespace PD
open PySem L2
/-- the iterator at it over items: st k h: it stands ahead of the k-th item in h; what it leans on lies in fp -/
structure Wk (P : Program) (w : World) (it : Addr) (fp : List Addr) (items : List Value) (st : Nat → Heap → Prop) : Prop where
  mem : it ∈ fp
  ob : ∀ k h, st k h → ∃ o, h.get? it = some o ∧ ∀ v, o.data ≠ .cell v
  keep : ∀ k h h', st k h → (∀ b ∈ fp, ∀ o, h.get? b = some o → h'.get? b = some o) → st k h'
  item : ∀ (A : Around) (E : Value → Shared → Prop) (s : Shared) (Q : Value → Shared → Prop) (k : Nat) (x : Value), st k s.heap → items[k]? = some x → (∀ h', st (k + 1) h' → Heap.SameBut it s.heap h' → Q x { s with heap := h' }) → wpAny (model P w) A (Builtin.SmallTypes.nextOf (.ref it)) Q E s
  done : ∀ (A : Around) (E : Value → Shared → Prop) (s : Shared) (Q : Value → Shared → Prop) (k : Nat), A.handled = none → st k s.heap → items[k]? = none → (∀ h' e, Heap.ExtBut it s.heap h' → (∃ o, h'.get? e = some o ∧ o.cls = .type "StopIteration") → E (.ref e) { s with heap := h' }) → wpAny (model P w) A (Builtin.SmallTypes.nextOf (.ref it)) Q E s
section
variable {P : Program} {w : World}
theorem wk_list {it l : Addr} {its : List Value} (hne : l ≠ it) : Wk P w it [it, l] its fun k h => h.IsListIter it l k ∧ h.IsList l its.toArray where
  mem := List.mem_cons_self ..
  ob := fun k h ⟨⟨o, e, _, d⟩, _⟩ => ⟨o, e, fun v q => by rw [d] at q; cases q⟩
  keep := fun k h h' ⟨⟨o, e, c, d⟩, ⟨o2, e2, r2⟩⟩ hk => ⟨⟨o, hk it (by simp) o e, c, d⟩, ⟨o2, hk l (by simp) o2 e2, r2⟩⟩
  item := fun A E s Q k x ⟨h1, h2⟩ hx hQ => wpAny_nextOf_list_item h1 h2 (by simpa using hx) fun h' g sb => hQ h' ⟨g, h2.extBut sb.extBut hne⟩ sb
  done := fun A E s Q k hh ⟨h1, h2⟩ hx hE => wpAny_nextOf_list_end hh h1 h2 (by simpa using hx) hE
/-- a tuple's iterator: its next, by hand -/
theorem tup_next {A : Around} {E : Value → Shared → Prop} {s : Shared} {it t : Addr} {k : Nat} {its : List Value} {Q : Value → Shared → Prop} (hi : s.heap.IsTupleIter it t k) (ht : s.heap.IsTuple t its.toArray)
    (h1 : ∀ x, its[k]? = some x → ∀ h', h'.IsTupleIter it t (k + 1) → Heap.SameBut it s.heap h' → Q x { s with heap := h' })
    (h2 : its[k]? = none → A.handled = none ∧ ∀ h' e, Heap.ExtBut it s.heap h' → (∃ o, h'.get? e = some o ∧ o.cls = .type "StopIteration") → E (.ref e) { s with heap := h' }) :
    wpAny (model P w) A (Builtin.SmallTypes.nextOf (.ref it)) Q E s := by
  obtain ⟨oi, ei, ci, di⟩ := id hi
  obtain ⟨ot, et, _, nt, dt⟩ := ht
  unfold Builtin.SmallTypes.nextOf
  refine wpAny_bind (wpAny_callSpecial?_slot (name := Str.ofString "__next__") hi.typeIs F.slot_tuple_iterator_next (wpAny_call_entry F.slot_tuple_iterator_next hi.typeIs F.entry_tuple_iterator_next ?_ (F.args_tuple_iterator_next_1 _)))
  show wpAny _ _ (field (.ref it) 0 >>= _) _ _ s; refine wpAny_bind (wpAny_field ei di (x := .ref t) rfl ?_)
  show wpAny _ _ (if (Value.ref t == Value.none) = true then _ else _) _ _ s; rw [if_neg (by intro z; cases z)]
  show wpAny _ _ (field (.ref it) 1 >>= _) _ _ s; refine wpAny_bind (wpAny_field ei di (x := .int k 0) rfl ?_)
  show wpAny _ _ (seqItems? (.ref t) >>= _) _ _ s; refine wpAny_bind (wpAny_seqItems et dt ?_)
  cases hx : its[k]? with
  | some x =>
    have hx' : its.toArray[k]? = some x := by simpa using hx
    simp only [Int.toNat_natCast, hx']
    refine wpAny_bind (wpAny_setField ei di (by simp) (wpAny_pure ⟨x, rfl, wpAny_pure (h1 x hx _ ⟨_, Heap.get?_update_self _ ei (Obj.isFreed_of_fields (Obj.data_mapFields di _)), (Obj.cls_mapFields ..).trans ci, ?_⟩ (Heap.SameBut.update ..))⟩))
    rw [Obj.data_mapFields di]; simp [rawInt]
  | none =>
    have hx' : its.toArray[k]? = none := by simpa using hx
    obtain ⟨hh, hE⟩ := h2 hx
    simp only [Int.toNat_natCast, hx']
    refine wpAny_bind (wpAny_rule (wpAny_bind (wpAny_setField ei di (by simp) ?_))); show wpAny _ _ (newExc (.type "StopIteration") [] >>= _) _ _ _
    refine wpAny_bind ?_; simp only [newExc, newTuple]; refine wpAny_bind (wpAny_newObj_type ?_ (by show (0 : Nat) ≤ _; omega))
    refine wpAny_bind (m := firstArgMember _ _) (wpAny_of_eq (a := Value.none) (by first | rfl | (simp only [firstArgMember]; rfl)) ?_); refine wpAny_newObj_type ?_ (by size_fits)
    simp only [raiseNew]; refine wpAny_bind (wpAny_handled ?_); rw [show A.in1.handled = none from hh]
    exact wpAny_bind (wpAny_pure (wpAny_throw (hE _ _ (((Heap.SameBut.update ..).extBut.push _).push _) ⟨_, Heap.get?_push_size _ rfl, rfl⟩)))
theorem wk_tup {it l : Addr} {its : List Value} (hne : l ≠ it) : Wk P w it [it, l] its fun k h => h.IsTupleIter it l k ∧ h.IsTuple l its.toArray where
  mem := List.mem_cons_self ..
  ob := fun k h ⟨⟨o, e, _, d⟩, _⟩ => ⟨o, e, fun v q => by rw [d] at q; cases q⟩
  keep := fun k h h' ⟨⟨o, e, c, d⟩, ⟨o2, e2, r2⟩⟩ hk => ⟨⟨o, hk it (by simp) o e, c, d⟩, ⟨o2, hk l (by simp) o2 e2, r2⟩⟩
  item := fun A E s Q k x ⟨h1, h2⟩ hx hQ => tup_next h1 h2 (fun y hy h' g sb => by rw [hx] at hy; cases hy; exact hQ h' ⟨g, h2.extBut sb.extBut hne⟩ sb) fun z => by rw [hx] at z; cases z
  done := fun A E s Q k hh ⟨h1, h2⟩ hx hE => tup_next h1 h2 (fun y hy => by rw [hx] at hy; cases hy) fun _ => ⟨hh, hE⟩
structure Apart (z TI TO i1 i2 : Addr) (f1 f2 : List Addr) : Prop where
  nd : [z, TI, TO, i1, i2].Nodup
  z1 : z ∉ f1
  z2 : z ∉ f2
  t1 : TO ∉ f1
  t2 : TO ∉ f2
  i1 : i1 ∉ f2
  i2 : i2 ∉ f1
theorem zipStep {A : Around} {E : Value → Shared → Prop} {s : Shared} {z TI TO i1 i2 : Addr} {f1 f2 : List Addr} {xs ys : List Value} {st1 st2 : Nat → Heap → Prop} {k : Nat} {a b : Value} {Q : Fin → Shared → Prop} (D : Apart z TI TO i1 i2 f1 f2) (W1 : Wk P w i1 f1 xs st1) (W2 : Wk P w i2 f2 ys st2)
    (hz : IsZip s.heap z TI TO .none) (hTI : IsPair s.heap TI (.ref i1) (.ref i2)) (hTO : IsPair s.heap TO a b) (h1 : st1 k s.heap) (h2 : st2 k s.heap)
    (go : ∀ x y, xs[k]? = some x → ys[k]? = some y → ∀ h', IsZip h' z TI TO (rawInt s.heap.objs.size) → IsPair h' TO x y → st1 (k + 1) h' → st2 (k + 1) h' → IsPair h' s.heap.objs.size x y →
      (∀ c o, c ≠ z → c ≠ TO → c ≠ i1 → c ≠ i2 → s.heap.get? c = some o → h'.get? c = some o) → Q (.done (.ret (.ref s.heap.objs.size))) { s with heap := h' })
    (no : (xs[k]? = none ∨ ys[k]? = none) → A.handled = none ∧ ∀ h' e, (∀ c o, c ≠ z → c ≠ TO → c ≠ i1 → c ≠ i2 → s.heap.get? c = some o → h'.get? c = some o) → (∃ o, h'.get? e = some o ∧ o.cls = .type "StopIteration") → E (.ref e) { s with heap := h' }) :
    wpAny (model P w) A (Builtin.«zip.__next__» ⟨[.ref z], []⟩) Q E s := by
  have nd := D.nd
  simp only [List.nodup_cons, List.mem_cons, List.not_mem_nil, or_false, not_or, List.nodup_nil, and_true, not_false_eq_true] at nd
  obtain ⟨⟨zTI, zTO, zi1, zi2⟩, ⟨TITO, TIi1, TIi2⟩, ⟨TOi1, TOi2⟩, i12⟩ := nd
  have in1 : ∀ b ∈ f1, b ≠ z ∧ b ≠ TO ∧ b ≠ i2 := fun b hb => ⟨fun e => D.z1 (e ▸ hb), fun e => D.t1 (e ▸ hb), fun e => D.i2 (e ▸ hb)⟩
  have in2 : ∀ b ∈ f2, b ≠ z ∧ b ≠ TO ∧ b ≠ i1 := fun b hb => ⟨fun e => D.z2 (e ▸ hb), fun e => D.t2 (e ▸ hb), fun e => D.i1 (e ▸ hb)⟩
  show wpAny _ _ (field (.ref z) 2 >>= _) _ _ _; refine wpAny_bind (wpAny_field hz rfl (x := .bool false) rfl ?_)
  show wpAny _ _ (field (.ref z) 3 >>= _) _ _ _; refine wpAny_bind (wpAny_field hz rfl (x := .ref TI) rfl (wpAny_bind (wpAny_seqItems hTI rfl ?_)))
  show wpAny _ _ (Builtin.SmallTypes.ownedTupleIsFree (.ref z) >>= _) _ _ _; refine wpAny_bind ?_; unfold Builtin.SmallTypes.ownedTupleIsFree
  refine wpAny_bind (wpAny_field hz rfl (x := .none) rfl (wpAny_pure ?_)); simp only [if_true]
  refine wpAny_bind (wpAny_rule (wpAny_bind (wpAny_field hz rfl (x := .ref TO) rfl (wpAny_bind (wpAny_setField_rec hz (by simp) fun g1 hz1 s1 => ?_)))))
  have hz1' : IsZip g1 z TI TO .ellipsis := hz1
  have a1 : st1 k g1 := W1.keep k _ _ h1 fun b hb o e => s1.extBut b o (in1 b hb).1 e
  have a2 : st2 k g1 := W2.keep k _ _ h2 fun b hb o e => s1.extBut b o (in2 b hb).1 e
  have aTO : IsPair g1 TO a b := s1.extBut _ _ (Ne.symm zTO) hTO
  refine wpAny_bind ?_; simp only [List.zipIdx_cons, List.zipIdx_nil, List.forIn_cons, List.forIn_nil]
  refine wpAny_bind (wpAny_bind (wpAny_onRaise ?_)); show wpAny _ _ (Builtin.SmallTypes.nextOf (.ref i1) >>= _) _ _ _
  refine wpAny_bind ?_
  cases hx : xs[k]? with
  | none =>
    obtain ⟨hh, hE⟩ := no (.inl hx)
    refine W1.done _ _ _ _ k hh a1 hx fun g2 e s2 ⟨oe, he, ce⟩ => ?_
    have hz2 : IsZip g2 z TI TO .ellipsis := s2 _ _ zi1 hz1'
    have ez : e ≠ z := fun q => by subst q; rw [hz2] at he; cases he; simp at ce
    exact wpAny_setField_rec hz2 (by simp) fun g3 _ s3 => hE g3 e (fun c o c1 _ c3 _ q => s3.extBut _ _ c1 (s2 _ _ c3 (s1.extBut _ _ c1 q))) ⟨oe, s3.extBut _ _ ez he, ce⟩
  | some x =>
    refine W1.item _ _ _ _ k x a1 hx fun g2 b1 s2 => wpAny_pure ?_
    have bTO : IsPair g2 TO a b := s2.extBut _ _ TOi1 aTO
    refine wpAny_bind (wpAny_seqItems bTO rfl (wpAny_bind (wpAny_updateSeq_pair bTO fun g3 cTO s3 => wpAny_bind (wpAny_letGo (wpAny_pure ?_)))))
    have cTO' : IsPair g3 TO x b := cTO
    have c2 : st2 k g3 := W2.keep k _ _ a2 fun b hb o e => s3.extBut b o (in2 b hb).2.1 (s2.extBut b o (in2 b hb).2.2 e)
    have c1 : st1 (k + 1) g3 := W1.keep _ _ _ b1 fun b hb o e => s3.extBut b o (in1 b hb).2.1 e
    have hz3 : IsZip g3 z TI TO .ellipsis := s3.extBut _ _ zTO (s2.extBut _ _ zi1 hz1')
    refine wpAny_bind (wpAny_bind (wpAny_onRaise ?_)); show wpAny _ _ (Builtin.SmallTypes.nextOf (.ref i2) >>= _) _ _ _
    refine wpAny_bind ?_
    cases hy : ys[k]? with
    | none =>
      obtain ⟨hh, hE⟩ := no (.inr hy)
      refine W2.done _ _ _ _ k hh c2 hy fun g4 e s4 ⟨oe, he, ce⟩ => ?_
      have hz4 : IsZip g4 z TI TO .ellipsis := s4 _ _ zi2 hz3
      have ez : e ≠ z := fun q => by subst q; rw [hz4] at he; cases he; simp at ce
      exact wpAny_setField_rec hz4 (by simp) fun g5 _ s5 => hE g5 e (fun c o d1 d2 d3 d4 q => s5.extBut _ _ d1 (s4 _ _ d4 (s3.extBut _ _ d2 (s2.extBut _ _ d3 (s1.extBut _ _ d1 q))))) ⟨oe, s5.extBut _ _ ez he, ce⟩
    | some y =>
      refine W2.item _ _ _ _ k y c2 hy fun g4 d2 s4 => wpAny_pure ?_
      have dTO : IsPair g4 TO x b := s4.extBut _ _ TOi2 cTO'
      refine wpAny_bind (wpAny_seqItems dTO rfl (wpAny_bind (wpAny_updateSeq_pair dTO fun g5 eTO s5 => wpAny_bind (wpAny_letGo (wpAny_pure (wpAny_pure ?_))))))
      have eTO' : IsPair g5 TO x y := eTO
      refine wpAny_bind (wpAny_seqItems eTO' rfl (wpAny_bind (wpAny_newTuple ?_)))
      have sz : g5.objs.size = s.heap.objs.size := by rw [s5.1, s4.1, s3.1, s2.1, s1.1]
      have hz5 : IsZip g5 z TI TO .ellipsis := s5.extBut _ _ zTO (s4.extBut _ _ zi2 hz3)
      have zlt : z < g5.objs.size := Heap.lt_size hz5
      show wpAny _ _ (Builtin.SmallTypes.ownedTupleHandOut (.ref z) (.ref g5.objs.size) >>= _) _ _ _; refine wpAny_bind ?_; unfold Builtin.SmallTypes.ownedTupleHandOut
      have hz6 : IsZip (g5.push { cls := .type "tuple", data := .seq #[x, y] }) z TI TO .ellipsis := Heap.get?_push_of_some _ hz5
      refine wpAny_bind (wpAny_setField_rec hz6 (by simp) fun g7 hz7 s7 => ?_)
      have hz7' : IsZip g7 z TI TO (rawInt g5.objs.size) := hz7
      refine wpAny_setField_rec hz7' (by simp) fun g8 hz8 s8 => ?_
      have hz8' : IsZip g8 z TI TO (rawInt g5.objs.size) := hz8
      have up : ∀ c o, c ≠ z → g5.get? c = some o → g8.get? c = some o := fun c o c1 q => s8.extBut _ _ c1 (s7.extBut _ _ c1 (Heap.get?_push_of_some _ q))
      have hT : IsPair g8 g5.objs.size x y := s8.extBut _ _ (Nat.ne_of_gt zlt) (s7.extBut _ _ (Nat.ne_of_gt zlt) (Heap.get?_push_size _ rfl))
      have e1 : st1 (k + 1) g8 := W1.keep _ _ _ c1 fun b hb o e => up b o (in1 b hb).1 (s5.extBut b o (in1 b hb).2.1 (s4.extBut b o (in1 b hb).2.2 e))
      have e2 : st2 (k + 1) g8 := W2.keep _ _ _ d2 fun b hb o e => up b o (in2 b hb).1 (s5.extBut b o (in2 b hb).2.1 e)
      rw [sz] at hz8' hT
      refine wpAny_pure ?_
      show Q (.done (.ret (.ref g5.objs.size))) _
      rw [sz]
      exact go x y hx hy g8 hz8' (up _ _ (Ne.symm zTO) eTO') e1 e2 hT fun c o f1 f2 f3 f4 q => up c o f1 (s5.extBut _ _ f2 (s4.extBut _ _ f4 (s3.extBut _ _ f2 (s2.extBut _ _ f3 (s1.extBut _ _ f1 q)))))
end
end PD

set_option Elab.async false
set_option linter.all false
set_option maxRecDepth 100000
set_option maxHeartbeats 4000000
namespace PD
open PySem L2
def Sq (K : PySem.W.Frag) (H : Hp) : Bool → Addr → List V → Prop
  | true, a, xs => SqT K H a xs
  | false, a, xs => SqL K H a xs
def IsSq (h : Heap) : Bool → Addr → List Value → Prop
  | true, a, its => h.IsTuple a its.toArray
  | false, a, its => h.IsList a its.toArray
def IsIt (h : Heap) : Bool → Addr → Addr → Nat → Prop
  | true, it, a, k => h.IsTupleIter it a k
  | false, it, a, k => h.IsListIter it a k
def itO : Bool → Addr → Obj
  | true, a => { cls := .type "tuple_iterator", data := .fields #[.ref a, .int 0 0] }
  | false, a => { cls := .type "list_iterator", data := .fields #[.ref a, .int 0 0] }
theorem IsSq.push {h : Heap} {b : Bool} {a : Addr} {its : List Value} (x : IsSq h b a its) (o : Obj) : IsSq (h.push o) b a its := by
  cases b
  · exact Heap.IsList.push x o
  · exact Heap.IsTuple.push x o
theorem IsSq.lt {h : Heap} {b : Bool} {a : Addr} {its : List Value} (x : IsSq h b a its) : a < h.objs.size := by
  cases b <;> exact let ⟨_, e, _⟩ := x; Heap.lt_size e
theorem IsIt.lt {h : Heap} {b : Bool} {i a : Addr} {k : Nat} (x : IsIt h b i a k) : i < h.objs.size := by
  cases b <;> exact let ⟨_, e, _⟩ := x; Heap.lt_size e
theorem IsIt.ob {h : Heap} {b : Bool} {i a : Addr} {k : Nat} (x : IsIt h b i a k) : ∃ o, h.get? i = some o ∧ ∀ v, o.data ≠ .cell v := by
  cases b <;> exact let ⟨o, e, _, d⟩ := x; ⟨o, e, fun v q => by rw [d] at q; cases q⟩
theorem IsIt.at {h h' : Heap} {b : Bool} {i a : Addr} {k : Nat} (x : IsIt h b i a k) (f : ∀ o, h.get? i = some o → h'.get? i = some o) : IsIt h' b i a k := by
  cases b <;> exact let ⟨o, e, r⟩ := x; ⟨o, f o e, r⟩
theorem IsIt.of {h : Heap} {b : Bool} {i a : Addr} (e : h.get? i = some (itO b a)) : IsIt h b i a 0 := by
  cases b <;> exact ⟨_, e, rfl, rfl⟩
theorem Sq.same {K : PySem.W.Frag} {H H' : Hp} {b : Bool} {a : Addr} {xs : List V} (e : Same H H') (h : Sq K H b a xs) : Sq K H' b a xs := by
  cases b
  · exact e.seq h
  · exact sqT_same e h
section
variable {X : Cx} {pins : List (Addr × Obj)} {σ : St} {H : Hp} {s : Shared} {b : Bool} {a : Addr} {xs ys : List V}
theorem inv_sq (I : Inv X pins σ H s) (h : Sq X.K H b a xs) : ∃ its : List Value, Vals xs its ∧ IsSq s.heap b a its := by
  cases b
  · obtain ⟨its, r, p, _⟩ := I.list h
    exact ⟨its, r, p.isList⟩
  · obtain ⟨its, r, p, _⟩ := I.tuple h
    exact ⟨its, r, p⟩
theorem sq_inj (I : Inv X pins σ H s) (h : Sq X.K H b a xs) (h' : Sq X.K H b a ys) : xs = ys := by
  cases b
  · exact I.list_inj h h'
  · exact I.tuple_inj h h'
end
section
variable {P : Program} {w : World}
theorem wk_sq (b : Bool) {it l : Addr} {its : List Value} (hne : l ≠ it) : Wk P w it [it, l] its fun k h => IsIt h b it l k ∧ IsSq h b l its := by
  cases b
  · exact wk_list hne
  · exact wk_tup hne
theorem iter_sq {A : Around} {E : Value → Shared → Prop} {s : Shared} {b : Bool} {l : Addr} {its : List Value} {Q : Value → Shared → Prop} (hl : IsSq s.heap b l its) (hQ : Q (.ref s.heap.objs.size) { s with heap := s.heap.push (itO b l) }) :
    wpAny (model P w) A (pyIter (.ref l)) Q E s := by
  cases b
  · exact wpAny_pyIter_list hl hQ
  · exact wpAny_pyIter_tuple hl hQ
def zPair (x y : Value) : Obj := { cls := .type "tuple", data := .seq #[x, y] }
def zObj (n : Nat) : Obj := { cls := .type "zip", data := .fields #[.none, .bool false, .bool false, .ref (n + 2), .ref (n + 3)] }
def zHeap (h : Heap) (b1 b2 : Bool) (l1 l2 : Addr) : Heap :=
  ((((h.push (itO b1 l1)).push (itO b2 l2)).push (zPair (.ref h.objs.size) (.ref (h.objs.size + 1)))).push (zPair .none .none)).push (zObj h.objs.size)
theorem zip_made (b1 b2 : Bool) (l1 l2 : Addr) (xs ys : List Value) :
    Meets (Builtin.«zip.__new__» ⟨[.type "zip", .ref l1, .ref l2], []⟩) fun _ R s => IsSq s.heap b1 l1 xs ∧ IsSq s.heap b2 l2 ys ∧ R (.ok (.ret (.ref (s.heap.objs.size + 4)))) { s with heap := zHeap s.heap b1 b2 l1 l2 } :=
  .of_wp fun P w A R s ⟨h1, h2, h⟩ => by
    obtain ⟨hp, g, d, tk, os⟩ := s
    have sub := sub_zip
    have q1 : IsSq (Shared.heap ⟨hp, g, d, tk, os⟩) b1 l1 xs := h1
    have q2 : IsSq (Shared.heap ⟨hp.push (itO b1 l1), g, d, tk, os⟩) b2 l2 ys := h2.push _
    wp_walk using iter_sq q1, iter_sq q2
    refine ⟨_, rfl, ?_⟩
    simp only [Heap.size_push]
    exact h
theorem zip_call {A : Around} {E : Value → Shared → Prop} {s : Shared} {b1 b2 : Bool} {l1 l2 : Addr} {xs ys : List Value} {Q : Value → Shared → Prop} (h1 : IsSq s.heap b1 l1 xs) (h2 : IsSq s.heap b2 l2 ys)
    (k : let n := s.heap.objs.size; ∀ h', IsZip h' (n + 4) (n + 2) (n + 3) .none → IsPair h' (n + 2) (.ref n) (.ref (n + 1)) → IsPair h' (n + 3) .none .none → IsIt h' b1 n l1 0 → IsIt h' b2 (n + 1) l2 0 → (∀ c o, s.heap.get? c = some o → h'.get? c = some o) → Q (.ref (n + 4)) { s with heap := h' }) :
    wpAny (model P w) A (call (.type "zip") [.ref l1, .ref l2]) Q E s := by
  refine callType_new F.called_zip (by decide) (F.typeCall_zip_2 _ _) (F.newCall_zip_2 _ _) (fun obj => F.args_object_init_3 obj _ _) F.entry_zip_new (zip_made b1 b2 l1 l2 xs ys) ⟨h1, h2, ?_⟩
  have a : ∀ {g : Heap} {m : Nat} {o : Obj}, g.objs.size = m → o.isFreed = false → (g.push o).get? m = some o := fun e f => by subst e; exact Heap.get?_push_size _ f
  have up : ∀ {g : Heap} {c : Addr} {o : Obj} (u : Obj), g.get? c = some o → (g.push u).get? c = some o := fun u e => Heap.get?_push_of_some _ e
  have n0 : (itO b1 l1).isFreed = false := by cases b1 <;> rfl
  have n1 : (itO b2 l2).isFreed = false := by cases b2 <;> rfl
  have z5 : (zHeap s.heap b1 b2 l1 l2).get? (s.heap.objs.size + 4) = some (zObj s.heap.objs.size) := a (by simp only [Heap.size_push]) rfl
  refine ⟨⟨_, z5, rfl⟩, k _ z5 ?_ ?_ (.of ?_) (.of ?_) ?_⟩
  · exact up _ (up _ (a (by simp only [Heap.size_push]) rfl))
  · exact up _ (a (by simp only [Heap.size_push]) rfl)
  · exact up _ (up _ (up _ (up _ (a rfl n0))))
  · exact up _ (up _ (up _ (a (by simp only [Heap.size_push]) n1)))
  · exact fun c o e => up _ (up _ (up _ (up _ (up _ e))))
def Itq (K : PySem.W.Frag) (b1 b2 : Bool) (a b : Addr) : It where
  go i H := ∃ (xs ys : List V) (x y : V), Sq K H b1 a xs ∧ Sq K H b2 b ys ∧ xs[i]? = some x ∧ ys[i]? = some y
  yld i H v H' := ∃ T x y, v = .ref T ∧ H T = none ∧ H' = upd H T (.tup [x, y]) ∧ (∀ xs, Sq K H b1 a xs → xs[i]? = some x) ∧ ∀ ys, Sq K H b2 b ys → ys[i]? = some y
  stop i H := ∃ xs ys : List V, Sq K H b1 a xs ∧ Sq K H b2 b ys ∧ (xs.length ≤ i ∨ ys.length ≤ i)
structure ZSt (b1 b2 : Bool) (a b z TI TO i1 i2 : Addr) (i : Nat) (h : Heap) : Prop where
  z : IsZip h z TI TO .none
  ti : IsPair h TI (.ref i1) (.ref i2)
  to : ∃ x y, IsPair h TO x y
  i1 : IsIt h b1 i1 a i
  i2 : IsIt h b2 i2 b i
theorem five {z TI TO i1 i2 c : Addr} {p : Addr → Prop} (hc : c ∈ [z, TI, TO, i1, i2]) (h1 : p z) (h2 : p TI) (h3 : p TO) (h4 : p i1) (h5 : p i2) : p c := by
  simp only [List.mem_cons, List.not_mem_nil, or_false] at hc
  rcases hc with rfl | rfl | rfl | rfl | rfl <;> assumption
theorem turn_zq {K : PySem.W.Frag} {elts : List Expr} {kk : Nat} {tpos : Pos} {b1 b2 : Bool} {a b z TI TO i1 i2 : Addr} (D : Apart z TI TO i1 i2 [i1, a] [i2, b]) (na : a ≠ i1) (nb : b ≠ i2) :
    Turn P w K (.Tuple elts kk tpos) (Itq K b1 b2 a b) [z, TI, TO, i1, i2] z (ZSt b1 b2 a b z TI TO i1 i2) where
  mem := List.mem_cons_self ..
  obj := fun i h S c hc => by
    obtain ⟨x, y, hTO⟩ := S.to
    exact five (p := fun c => ∃ o, h.get? c = some o ∧ ∀ v, o.data ≠ .cell v) hc ⟨_, S.z, fun _ q => nomatch q⟩ ⟨_, S.ti, fun _ q => nomatch q⟩ ⟨_, hTO, fun _ q => nomatch q⟩ S.i1.ob S.i2.ob
  keep := fun i h h' S k => by
    obtain ⟨x, y, hTO⟩ := S.to
    exact ⟨k z (by simp) _ S.z, k TI (by simp) _ S.ti, ⟨x, y, k TO (by simp) _ hTO⟩, S.i1.at fun o => k i1 (by simp) o, S.i2.at fun o => k i2 (by simp) o⟩
  item := by
    intro X hP hw hK hc i pins s σ H E I hf S hg
    subst hP hw hK
    obtain ⟨xs, ys, x, y, q1, q2, hx, hy⟩ := hg
    obtain ⟨us, r1, p1⟩ := inv_sq I q1
    obtain ⟨vs, r2, p2⟩ := inv_sq I q2
    obtain ⟨u, hu, ru⟩ := r1.get hx
    obtain ⟨v, hv, rv⟩ := r2.get hy
    obtain ⟨x0, y0, hTO⟩ := S.to
    have nd := D.nd
    simp only [List.nodup_cons, List.mem_cons, List.not_mem_nil, or_false, not_or, List.nodup_nil, and_true, not_false_eq_true] at nd
    obtain ⟨⟨zTI, zTO, zi1, zi2⟩, ⟨TITO, TIi1, TIi2⟩, ⟨TOi1, TOi2⟩, i12⟩ := nd
    have lz : z < s.heap.objs.size := Heap.lt_size S.z
    have tz : s.TypeIs (.ref z) "zip" := ⟨_, S.z, rfl⟩
    unfold pyNext
    refine wpAny_bind (wpAny_attempt (wpAny_callSpecial?_slot (name := Str.ofString "__next__") tz F.slot_zip_next (wpAny_call_entry F.slot_zip_next tz F.entry_zip_next ?_ (F.args_zip_next_1 _))))
    refine zipStep D (wk_sq b1 na) (wk_sq b2 nb) S.z S.ti hTO ⟨S.i1, p1⟩ ⟨S.i2, p2⟩ (fun x' y' ex ey h' z' TO' j1 j2 hT hk => ?_) fun e => ?_
    · rw [hu] at ex; rw [hv] at ey; cases ex; cases ey
      refine ⟨_, rfl, wpAny_pure ⟨_, rfl, wpAny_letOwnedTupleGo_zip (s := { s with heap := h' }) z' fun g z'' sb => ?_⟩⟩
      have hT2 : g.get? s.heap.objs.size = some { cls := .type "tuple", data := .seq #[u, v] } := (sb.2 _ (Nat.ne_of_gt lz)).trans hT
      have ob : ObjOk X.prog X.w (upd H s.heap.objs.size (.tup [x, y])) g s.heap.objs.size (.tup [x, y]) := ⟨by show 2 ≤ sizeLine; decide, [u, v], .cons ru (.cons rv .nil), ⟨_, hT2, rfl, _, rfl, rfl⟩⟩
      have out : ∀ {c : Addr}, c ∉ [z, TI, TO, i1, i2] → c ≠ z ∧ c ≠ TO ∧ c ≠ i1 ∧ c ≠ i2 := fun hb => by
        simp only [List.mem_cons, List.not_mem_nil, or_false, not_or] at hb
        exact ⟨hb.1, hb.2.2.1, hb.2.2.2.1, hb.2.2.2.2⟩
      have I1 : Inv X pins σ (upd H s.heap.objs.size (.tup [x, y])) { s with heap := g } := I.turnedNew (t' := s.toks) (ch := [z, TI, TO, i1, i2]) (fun c o hb q => by
        obtain ⟨n1, n2, n3, n4⟩ := out hb
        exact (sb.2 c n1).trans (hk c o n1 n2 n3 n4 q)) hf (Nat.le_refl _) ob
      refine ⟨.ref s.heap.objs.size, _, I1, rfl, ⟨_, x, y, rfl, I.hok.fresh (Nat.le_refl _), rfl, fun l hl => by rw [sq_inj I hl q1]; exact hx, fun l hl => by rw [sq_inj I hl q2]; exact hy⟩, ⟨z'', ?_, ⟨u, v, ?_⟩, ?_, ?_⟩, fun c hm => ?_⟩
      · exact (sb.2 _ (Ne.symm zTI)).trans (hk _ _ (Ne.symm zTI) TITO TIi1 TIi2 S.ti)
      · exact (sb.2 _ (Ne.symm zTO)).trans TO'
      · exact j1.1.at fun o q => (sb.2 _ (Ne.symm zi1)).trans q
      · exact j2.1.at fun o q => (sb.2 _ (Ne.symm zi2)).trans q
      · have lc : c < s.heap.objs.size := five (p := (· < s.heap.objs.size)) hm lz (Heap.lt_size S.ti) (Heap.lt_size hTO) S.i1.lt S.i2.lt
        rw [upd_ne (Nat.ne_of_lt lc)]
        exact (hf c hm).1
    · rw [hu, hv] at e
      rcases e with e | e <;> cases e
  done := by
    intro X hP hw hK hc i pins s σ H E I hf S hg
    subst hP hw hK
    obtain ⟨xs, ys, q1, q2, he⟩ := hg
    obtain ⟨us, r1, p1⟩ := inv_sq I q1
    obtain ⟨vs, r2, p2⟩ := inv_sq I q2
    obtain ⟨x0, y0, hTO⟩ := S.to
    have l1 := r1.length
    have l2 := r2.length
    have tz : s.TypeIs (.ref z) "zip" := ⟨_, S.z, rfl⟩
    unfold pyNext
    refine wpAny_bind (wpAny_attempt (wpAny_callSpecial?_slot (name := Str.ofString "__next__") tz F.slot_zip_next (wpAny_call_entry F.slot_zip_next tz F.entry_zip_next ?_ (F.args_zip_next_1 _))))
    refine zipStep D (wk_sq b1 na) (wk_sq b2 nb) S.z S.ti hTO ⟨S.i1, p1⟩ ⟨S.i2, p2⟩ (fun x' y' ex ey => ?_) fun _ => ⟨I.ok.hd hc, fun h' e hk ⟨o, ho, co⟩ => ?_⟩
    · exfalso
      rcases he with he | he
      · rw [List.getElem?_eq_none (by omega)] at ex; cases ex
      · rw [List.getElem?_eq_none (by omega)] at ey; cases ey
    · refine wpAny_bind (wpAny_isInstance (T := "StopIteration") (b := true) ⟨o, ho, co⟩ isSubtype_stop (wpAny_pure ⟨rfl, I.turnedL (t' := s.toks) (ch := [z, TI, TO, i1, i2]) (fun c o hb q => ?_) hf⟩))
      simp only [List.mem_cons, List.not_mem_nil, or_false, not_or] at hb
      exact hk c o hb.1 hb.2.2.1 hb.2.2.2.1 hb.2.2.2.2 q
  self := fun A i s Q E S h => wpAny_pyIter_zip S.z h
theorem apart_new {n a b : Nat} (ha : a < n) (hb : b < n) : Apart (n + 4) (n + 2) (n + 3) n (n + 1) [n, a] [n + 1, b] := by
  constructor <;> simp only [List.nodup_cons, List.mem_cons, List.not_mem_nil, or_false, not_or, List.nodup_nil, and_true, not_false_eq_true] <;> (repeat' apply And.intro) <;> first | exact Nat.ne_of_gt (by omega) | exact Nat.ne_of_lt (by omega)
end
def iZq (K : PySem.W.Frag) (ta : TA) : TI := fun σ H R => ta σ H fun vs H1 => ∃ b1 b2 a b xs ys, vs = [.ref a, .ref b] ∧ Sq K H1 b1 a xs ∧ Sq K H1 b2 b ys ∧ R (Itq K b1 b2 a b) H1
theorem pi_zq {X : Cx} {e e2 : Expr} {ta : TA} {p pos tpos : Pos} {elts : List Expr} {kk : Nat} (hg : Gl X "zip") (hm : X.mg "zip" = none) (ha : PA X [e, e2] ta)
    (hs : starEach [e, e2] X.env = (false, eval e X.env) :: starEach [e2] X.env) (hpl : (backTo pos (starEach [e2] X.env)).any (·.1) = false) :
    PI X (.Tuple elts kk tpos) (.Call (.Name "zip" p) [e, e2] [] pos) (iZq X.K ta) := by
  intro pins s σ H R I h
  refine PyProof.Rows.Call_ (ld_blt I hg hm boot_zip5 (PyProof.Rows.callWith_type1 (thn (ha pos pins s σ H _ I h) fun us s1 ⟨vs, H1, I1, r1, q1⟩ => ?_) hs hpl))
  obtain ⟨b1, b2, a, b, xs, ys, rfl, q1, q2, q⟩ := q1
  cases r1 with
  | cons r rr =>
    cases rr with
    | cons r' rr =>
      cases rr; cases r; cases r'
      obtain ⟨us, _, p1⟩ := inv_sq I1 q1
      obtain ⟨ws, _, p2⟩ := inv_sq I1 q2
      refine zip_call p1 p2 fun h' hz hTI hTO j1 j2 hk => wpAny_pyIter_zip hz ?_
      have I2 : Inv X pins σ H1 { s1 with heap := h' } := I1.kept (t' := s1.toks) hk
      refine ⟨_, _, _, _, H1, rfl, I2, turn_zq (apart_new p1.lt p2.lt) (Nat.ne_of_lt p1.lt) (Nat.ne_of_lt (Nat.lt_succ_of_lt p2.lt)), ⟨hz, hTI, ⟨_, _, hTO⟩, j1, j2⟩, fun c hm => ?_, q⟩
      have le : s1.heap.objs.size ≤ c := five (p := (s1.heap.objs.size ≤ ·)) hm (Nat.le_add_right _ _) (Nat.le_add_right _ _) (Nat.le_add_right _ _) (Nat.le_refl _) (Nat.le_add_right _ _)
      exact I1.fpOk le (I1.hok.fresh le)
def zipD : List PyData → List PyData → List PyData
  | x :: xs, y :: ys => .tuple [x, y] :: zipD xs ys
  | _, _ => []
def seqD : PyData → Option (Bool × List PyData)
  | .list ds => some (false, ds)
  | .tuple ds => some (true, ds)
  | _ => none
def fZip (fs : Af) : Af := fun ε => (fs ε).bind fun p => match p.1 with
  | [d, e] => (seqD d).bind fun x => (seqD e).map fun y => (zipD x.2 y.2, p.2)
  | _ => none
theorem zipD_get : ∀ (xs ys : List PyData) (i : Nat) (x y : PyData), xs[i]? = some x → ys[i]? = some y → (zipD xs ys)[i]? = some (.tuple [x, y])
  | [], _, i, _, _, h, _ => by simp at h
  | _ :: _, [], i, _, _, _, h => by simp at h
  | a :: xs, b :: ys, 0, x, y, h1, h2 => by simp at h1 h2; subst h1; subst h2; rfl
  | a :: xs, b :: ys, i + 1, x, y, h1, h2 => by
    simp only [zipD, List.getElem?_cons_succ] at h1 h2 ⊢
    exact zipD_get xs ys i x y h1 h2
theorem zipD_length : ∀ (xs ys : List PyData), (zipD xs ys).length = min xs.length ys.length
  | [], _ => by simp [zipD]
  | _ :: _, [] => by simp [zipD]
  | a :: xs, b :: ys => by simp only [zipD, List.length_cons, zipD_length xs ys]; omega
theorem rp_seq {K : PySem.W.Frag} {G : Hp} {v : V} {d : PyData} {t : Bool × List PyData} (h : Rp K G v d) (e : seqD d = some t) : ∃ a xs, v = .ref a ∧ Sq K G t.1 a xs ∧ RpAll K G xs t.2 := by
  cases h with
  | lst h1 h2 => cases e; exact ⟨_, _, rfl, h1, h2⟩
  | tup h1 h2 => cases e; exact ⟨_, _, rfl, h1, h2⟩
  | _ => cases e
theorem walks_zq {K : PySem.W.Frag} {G : Hp} {b1 b2 : Bool} {a b : Addr} {xs ys : List V} {ds es : List PyData} (h1 : Sq K G b1 a xs) (p1 : RpAll K G xs ds) (h2 : Sq K G b2 b ys) (p2 : RpAll K G ys es) : Walks K G (Itq K b1 b2 a b) (zipD ds es) where
  go := fun i H s hi => by
    rw [zipD_length] at hi
    have l1 := p1.length
    have l2 := p2.length
    have i1 : i < xs.length := by omega
    have i2 : i < ys.length := by omega
    exact ⟨xs, ys, xs[i], ys[i], h1.same s, h2.same s, by simp [i1], by simp [i2]⟩
  yld := fun i G1 H x H' s1 s2 hi y => by
    obtain ⟨T, u, v, rfl, hT, rfl, y1, y2⟩ := y
    obtain ⟨d, e1, r1⟩ := p1.get (y1 xs (h1.same (s1.trans s2)))
    obtain ⟨e, e2, r2⟩ := p2.get (y2 ys (h2.same (s1.trans s2)))
    have gn := grow_new (o := HO.tup [u, v]) s2 hT
    exact ⟨.tuple [d, e], _, zipD_get _ _ _ _ _ e1 e2, gn, .tup (SqT.of upd_same) (.cons ((r1.mono s1).mono gn.gg) (.cons ((r2.mono s1).mono gn.gg) .nil))⟩
  stop := fun i H s hi => by
    rw [zipD_length] at hi
    have l1 := p1.length
    have l2 := p2.length
    exact ⟨xs, ys, h1.same s, h2.same s, by omega⟩
theorem iv_zip {X : Cx} {e e2 : Expr} {fs : Af} {p pos tpos : Pos} {elts : List Expr} {kk : Nat} (hg : Gl X "zip") (hm : X.mg "zip" = none) (ha : Av X [e, e2] fs)
    (hs : starEach [e, e2] X.env = (false, eval e X.env) :: starEach [e2] X.env := by rfl) (hpl : (backTo pos (starEach [e2] X.env)).any (·.1) = false := by rfl) : Iv X (.Tuple elts kk tpos) (.Call (.Name "zip" p) [e, e2] [] pos) (fZip fs) :=
  ⟨pi_mono (pi_zq hg hm ha.p hs hpl) fun σ H R ⟨B, G, z, ε, ds, ε', r, ef, q⟩ => by
    obtain ⟨⟨d1, ε1⟩, e1, ef1⟩ := Option.bind_eq_some_iff.mp ef
    refine ⟨B, G, z, ε, d1, ε1, r, e1, fun v G1 H1 g1 r1 p1 => ?_⟩
    simp only at ef1
    split at ef1
    · obtain ⟨x, ex, ef2⟩ := Option.bind_eq_some_iff.mp ef1
      obtain ⟨y, ey, ef3⟩ := Option.map_eq_some_iff.mp ef2
      obtain ⟨rfl, rfl⟩ := Prod.mk.inj ef3
      cases p1 with
      | cons u us =>
        cases us with
        | cons u' us =>
          cases us
          obtain ⟨a, xs, rfl, h1, k1⟩ := rp_seq u ex
          obtain ⟨b, ys, rfl, h2, k2⟩ := rp_seq u' ey
          exact ⟨_, _, a, b, xs, ys, rfl, h1.same r1.sub, h2.same r1.sub, q _ G1 H1 g1 r1 (walks_zq h1 k1 h2 k2)⟩
    · cases ef1⟩
/-- nothing is promised where the mirror tells nothing -/
theorem fnOk_none {P : Program} {w : World} {K : PySem.W.Frag} {mg : Str → Option Value} {base : Heap} {k : Nat} {f : Addr} {fd : FuncData} {ps : List Str} : FnOk P w K mg base CX0 k f fd ps (spP K ps.length fun _ => none) :=
  ⟨fun _ _ _ _ ⟨_, _, _, h, _⟩ => h, fun _ _ _ _ _ _ _ _ _ _ _ _ _ ⟨_, _, _, _, _, _, h, _⟩ => nomatch h⟩
end PD

set_option Elab.async false
set_option linter.all false
set_option maxRecDepth 100000
set_option maxHeartbeats 4000000
namespace PD
open PySem L2
def sNo : Sf := fun _ => none
section
variable {X : Cx}
theorem sv_no {e : Stmt} : Sv X e sNo := ⟨fun _ _ _ _ _ _ ⟨_, _, _, _, _, _, ef, _⟩ => nomatch ef⟩
theorem rp_kt {K : PySem.W.Frag} {G : Hp} {a : Addr} {its : Array Value} {n : Nat} {sl : Array (Option Value)} {xs : List V} {ds : List PyData} (hk : K.lookup a = some ⟨.type "tuple", none, .seq its n, sl⟩) (hz : its.size ≤ sizeLine) (r : Vals xs its.toList) (p : RpAll K G xs ds) : Rp K G (.ref a) (.tuple ds) :=
  .tup (.inr ⟨_, its, n, hk, rfl, rfl, rfl, hz, r⟩) p
theorem ev_globS {x : Str} {y : Str} {t : Nat} {pos : Pos} (hg : Gl X x) (hm : X.mg x = some (.str y t)) (hd : (x == ("__debug__" : Str)) = false := by decide) : Ev X (.Name x pos) (fC (.str y)) := ev_c (pe_glob (v := .str y) hg hm ⟨_, rfl⟩ hd) fun _ => .str y
end
end PD

set_option Elab.async false
set_option linter.all false
set_option maxRecDepth 100000
set_option maxHeartbeats 4000000
namespace PD
open PySem L2
abbrev KVs := List (PyData × PyData)
def keyD : PyData → Option Key
  | .int i => some (.inl i)
  | .str x => some (.inr x)
  | _ => none
def isKey (k : Key) : PyData → Bool
  | .int i => decide (Sum.inl i = k)
  | .str x => decide (Sum.inr x = k)
  | _ => false
theorem isKey_kD (k j : Key) : isKey k (kD j) = decide (j = k) := by cases j <;> rfl
def getD (es : KVs) (k : Key) : Option PyData := (es.find? fun e => isKey k e.1).map (·.2)
def putD (es : KVs) (k : Key) (v : PyData) : KVs := if (es.any fun e => isKey k e.1) = true then es.map (fun e => if isKey k e.1 = true then (e.1, v) else e) else es ++ [(kD k, v)]
section
variable {K : PySem.W.Frag} {G : Hp}
theorem RpKV.length : ∀ {vs : List (Key × V)} {ds : KVs}, RpKV K G vs ds → vs.length = ds.length
  | _, _, .nil => rfl
  | _, _, .cons _ hs => congrArg (· + 1) (RpKV.length hs)
theorem RpKV.get (k : Key) : ∀ {vs : List (Key × V)} {ds : KVs}, RpKV K G vs ds → (valV vs k = none ∧ getD ds k = none) ∨ ∃ v d, valV vs k = some v ∧ getD ds k = some d ∧ Rp K G v d
  | _, _, .nil => .inl ⟨rfl, rfl⟩
  | _, _, .cons (k := j) (v := v) (d := d) (vs := vs) (ds := ds) h hs => by
    by_cases e : j = k
    · refine .inr ⟨v, d, valV_pos e, ?_, h⟩
      unfold getD
      rw [List.find?_cons, show isKey k (kD j) = true by rw [isKey_kD]; exact decide_eq_true e]
      rfl
    · have hg : getD ((kD j, d) :: ds) k = getD ds k := by
        unfold getD
        rw [List.find?_cons, show isKey k (kD j) = false by rw [isKey_kD]; exact decide_eq_false e]
      rw [hg, valV_neg (p := (j, v)) e]
      exact RpKV.get k hs
theorem RpKV.anyk (k : Key) : ∀ {vs : List (Key × V)} {ds : KVs}, RpKV K G vs ds → (vs.any fun kv => decide (kv.1 = k)) = ds.any fun e => isKey k e.1
  | _, _, .nil => rfl
  | _, _, .cons (k := j) h hs => by simp only [List.any_cons, isKey_kD, RpKV.anyk k hs]
theorem RpKV.mapk (k : Key) {v : V} {d : PyData} (p : Rp K G v d) : ∀ {vs : List (Key × V)} {ds : KVs}, RpKV K G vs ds → RpKV K G (vs.map fun kv => if kv.1 = k then (kv.1, v) else kv) (ds.map fun e => if isKey k e.1 = true then (e.1, d) else e)
  | _, _, .nil => .nil
  | _, _, .cons (k := j) (v := u) (d := c) h hs => by
    simp only [List.map_cons, isKey_kD]
    by_cases e : j = k
    · rw [if_pos e, if_pos (decide_eq_true e)]; exact .cons p (RpKV.mapk k p hs)
    · rw [if_neg e, if_neg (by rw [decide_eq_false e]; simp)]; exact .cons h (RpKV.mapk k p hs)
theorem RpKV.snoc (k : Key) {v : V} {d : PyData} (p : Rp K G v d) : ∀ {vs : List (Key × V)} {ds : KVs}, RpKV K G vs ds → RpKV K G (vs ++ [(k, v)]) (ds ++ [(kD k, d)])
  | _, _, .nil => .cons p .nil
  | _, _, .cons h hs => .cons h (RpKV.snoc k p hs)
theorem RpKV.put (k : Key) {v : V} {d : PyData} (p : Rp K G v d) {vs : List (Key × V)} {ds : KVs} (h : RpKV K G vs ds) : RpKV K G (putK vs k v) (putD ds k d) := by
  unfold putK putD
  rw [h.anyk k]
  split
  · exact h.mapk k p
  · exact h.snoc k p
end
def asDict (ε : En) (i : Nat) : Option KVs := match ε[i]? with
  | some (.mu (.dict es)) => some es
  | _ => none
def fDict0 : Ef := fun ε => some (.dict [], ε)
/-- d[b] = a -/
def sPutM (i : Nat) (fa fb : Ef) : Sf := fun ε => (fa ε).bind fun p => (asDict p.2 i).bind fun _ => (fb p.2).bind fun q => (asDict q.2 i).bind fun es => (keyD q.1).bind fun k => if es.length < sizeLine then some (.nx (q.2.set i (.mu (.dict (putD es k p.1))))) else none
/-- d.get(a, b) -/
def fGetM (i : Nat) (fa fb : Ef) : Ef := fun ε => (asDict ε i).bind fun _ => (fa ε).bind fun p => (fb p.2).bind fun q => (asDict q.2 i).bind fun es => (keyD p.1).map fun k => ((getD es k).getD q.1, q.2)
/-- d[a] -/
def fAtM (i : Nat) (fa : Ef) : Ef := fun ε => (asDict ε i).bind fun _ => (fa ε).bind fun p => (asDict p.2 i).bind fun es => (keyD p.1).bind fun k => (getD es k).map fun d => (d, p.2)
section
variable {X : Cx} {fa fb : Ef} {a b : Expr} {x : Str} {pos pos' pos2 apos cpos : Pos}
end
end PD

set_option Elab.async false
set_option linter.all false
set_option maxRecDepth 100000
set_option maxHeartbeats 4000000
namespace PD
open PySem L2

def tblOf (led : Bool) (L : List Nat) : SetTable := { mask := if L.length ≤ 4 then 7 else 31, place := L.toArray, dummies := #[], finger := 0, led := led, moves := if L.length ≤ 4 then 0 else 1, plain := true }
def insN (k : Nat) (L : List Nat) : List Nat := L.filter (fun x => decide (x < k)) ++ k :: L.filter (fun x => decide (k < x))
def subsOf : List Nat → List (List Nat)
  | [] => [[]]
  | x :: xs => subsOf xs ++ (subsOf xs).map (x :: ·)
def subs7 : List (List Nat) := subsOf [0, 1, 2, 3, 4, 5, 6]
def midT (led : Bool) (k : Nat) (L : List Nat) : SetTable := { tblOf led L with place := (insN k L).toArray }
def posN (k : Nat) (L : List Nat) : Nat := (L.filter (fun x => decide (x < k))).length
def okAdd (b : Bool) (k : Nat) (L : List Nat) : Bool :=
  decide ((tblOf b L).freeSlot (k : Int) = some (k, false)) && decide ((tblOf b L).put k = (midT b k L, posN k L)) && (midT b k L).fits (L.length + 1) &&
  decide (subs7.contains (insN k L) = true) && decide ((insN k L).length = L.length + 1) &&
  (if L.length = 4 then (midT b k L).tooFull && decide ((midT b k L).relaid ((insN k L).map fun (n : Nat) => (n : Int)).toArray (SetTable.grown 5) = some (tblOf b (insN k L), #[0, 1, 2, 3, 4])) && coversAll #[0, 1, 2, 3, 4] 5 && (tblOf b (insN k L)).fits 5
   else !(midT b k L).tooFull && decide (midT b k L = tblOf b (insN k L)))
theorem small_all : (subs7.all fun L => [true, false].all fun b => (List.range 7).all fun k => L.contains k || okAdd b k L) = true := by decide +kernel
theorem small_add {L : List Nat} (hL : L ∈ subs7) (b : Bool) {k : Nat} (hk : k < 7) (hn : k ∉ L) : okAdd b k L = true := by
  have h := List.all_eq_true.mp small_all L hL
  have h2 := List.all_eq_true.mp h b (by cases b <;> simp)
  have h3 := List.all_eq_true.mp h2 k (List.mem_range.mpr hk)
  rcases (Bool.or_eq_true _ _).mp h3 with h4 | h4
  · exact absurd (by simpa using h4) hn
  · exact h4
theorem subs_fact : (subs7.all fun L => decide (L.length ≤ 7) && L.all (fun x => decide (x < 7)) && decide (L.Pairwise (· < ·))) = true := by decide +kernel
theorem subs_len {L : List Nat} (hL : L ∈ subs7) : L.length ≤ 7 ∧ (∀ x ∈ L, x < 7) ∧ L.Pairwise (· < ·) := by
  have h := List.all_eq_true.mp subs_fact L hL
  simp only [Bool.and_eq_true, decide_eq_true_eq, List.all_eq_true] at h
  exact ⟨h.1.1, h.1.2, h.2⟩
theorem fits_all : (subs7.all fun L => [true, false].all fun b => (tblOf b L).fits L.length) = true := by decide +kernel
theorem tbl_fits {L : List Nat} (hL : L ∈ subs7) (b : Bool) : (tblOf b L).fits L.length = true :=
  List.all_eq_true.mp (List.all_eq_true.mp fits_all L hL) b (by cases b <;> simp)
end PD

set_option Elab.async false
set_option linter.all false
set_option maxRecDepth 100000
set_option maxHeartbeats 4000000
namespace PD
open PySem L2

inductive Ents : List (Int × Value) → List Nat → Prop
  | nil : Ents [] []
  | cons {k : Nat} {t : Tok} {es : List (Int × Value)} {L : List Nat} : Ents es L → Ents (((k : Int), Value.int k t) :: es) (k :: L)
theorem Ents.length : ∀ {es : List (Int × Value)} {L : List Nat}, Ents es L → es.length = L.length
  | _, _, .nil => rfl
  | _, _, .cons h => congrArg (· + 1) h.length
theorem Ents.append : ∀ {es fs : List (Int × Value)} {L M : List Nat}, Ents es L → Ents fs M → Ents (es ++ fs) (L ++ M)
  | _, _, _, _, .nil, h => h
  | _, _, _, _, .cons g, h => .cons (g.append h)
theorem Ents.take : ∀ {es : List (Int × Value)} {L : List Nat} (n : Nat), Ents es L → Ents (es.take n) (L.take n)
  | _, _, 0, _ => .nil
  | _, _, n + 1, .nil => .nil
  | _, _, n + 1, .cons g => .cons (g.take n)
theorem Ents.drop : ∀ {es : List (Int × Value)} {L : List Nat} (n : Nat), Ents es L → Ents (es.drop n) (L.drop n)
  | _, _, 0, h => h
  | _, _, n + 1, .nil => .nil
  | _, _, n + 1, .cons g => g.drop n
theorem Ents.get : ∀ {es : List (Int × Value)} {L : List Nat} {i : Nat} {e : Int × Value}, Ents es L → es[i]? = some e → ∃ (k : Nat) (t : Tok), L[i]? = some k ∧ e = ((k : Int), Value.int k t)
  | _, _, i, e, .nil, h => by simp at h
  | _, _, 0, e, .cons g, h => by simp at h; exact ⟨_, _, rfl, h.symm⟩
  | _, _, i + 1, e, .cons g, h => by
    obtain ⟨k, t, h1, h2⟩ := Ents.get (i := i) (e := e) g (by simpa using h)
    exact ⟨k, t, by simpa using h1, h2⟩
theorem Ents.mem {es : List (Int × Value)} {L : List Nat} {e : Int × Value} (h : Ents es L) (he : e ∈ es) : ∃ (k : Nat) (t : Tok), k ∈ L ∧ e = ((k : Int), Value.int k t) := by
  obtain ⟨i, hi, rfl⟩ := List.getElem_of_mem he
  obtain ⟨k, t, h1, h2⟩ := h.get (List.getElem?_eq_getElem hi)
  exact ⟨k, t, List.mem_of_getElem? h1, h2⟩
theorem Ents.of_mem : ∀ {es : List (Int × Value)} {L : List Nat} {k : Nat}, Ents es L → k ∈ L → ∃ t : Tok, ((k : Int), Value.int k t) ∈ es
  | _, _, k, .nil, h => by cases h
  | _, _, k, .cons g, h => by
    rcases List.mem_cons.mp h with rfl | h
    · exact ⟨_, List.mem_cons_self ..⟩
    · obtain ⟨t, ht⟩ := g.of_mem h
      exact ⟨t, List.mem_cons_of_mem _ ht⟩
theorem Ents.fsts : ∀ {es : List (Int × Value)} {L : List Nat}, Ents es L → es.map (·.1) = L.map fun (n : Nat) => (n : Int)
  | _, _, .nil => rfl
  | _, _, .cons g => by rw [List.map_cons, List.map_cons, g.fsts]
/-- rising lists: the lesser ones stand ahead -/
theorem take_pos {L : List Nat} (h : L.Pairwise (· < ·)) (k : Nat) : L.take (posN k L) = L.filter (fun x => decide (x < k)) ∧ (k ∉ L → L.drop (posN k L) = L.filter (fun x => decide (k < x))) := by
  unfold posN
  induction L with
  | nil => exact ⟨rfl, fun _ => rfl⟩
  | cons x xs ih =>
    obtain ⟨h1, h2⟩ := List.pairwise_cons.mp h
    obtain ⟨i1, i2⟩ := ih h2
    by_cases hx : x < k
    · rw [List.filter_cons_of_pos (by simpa using hx), List.length_cons, List.take_succ_cons, List.drop_succ_cons, i1]
      refine ⟨rfl, fun hn => ?_⟩
      rw [List.filter_cons_of_neg (by simp; omega)]
      exact i2 fun z => hn (List.mem_cons_of_mem _ z)
    · have hnil : xs.filter (fun x => decide (x < k)) = [] := by
        rw [List.filter_eq_nil_iff]
        intro y hy
        have := h1 y hy
        simp; omega
      rw [List.filter_cons_of_neg (by simpa using hx), hnil]
      refine ⟨rfl, fun hn => ?_⟩
      rw [List.length_nil, List.drop_zero]
      symm
      rw [List.filter_eq_self]
      intro y hy
      rcases List.mem_cons.mp hy with rfl | hy
      · have : y ≠ k := fun z => hn (by rw [z]; exact List.mem_cons_self ..)
        simp; omega
      · have := h1 y hy
        have : x ≠ k := fun z => hn (by rw [z]; exact List.mem_cons_self ..)
        simp; omega
theorem toList_insertAt {α : Type} (xs : Array α) (p : Nat) (x : α) (hp : p ≤ xs.size) : (SetTable.insertAt xs p x).toList = xs.toList.take p ++ x :: xs.toList.drop p := by
  unfold SetTable.insertAt
  rw [Array.toList_append, Array.toList_push, Array.toList_extract, Array.toList_extract, List.append_assoc]
  simp only [List.extract_eq_drop_take, List.drop_zero, Nat.sub_zero, Array.size_eq_length_toList, List.cons_append, List.nil_append]
  rw [List.take_of_length_le (l := xs.toList.drop p) (by rw [List.length_drop]; exact Nat.le_refl _)]
theorem Ents.insert {es : Array (Int × Value)} {L : List Nat} (h : Ents es.toList L) (hp : L.Pairwise (· < ·)) {k : Nat} (hk : k ∉ L) (t : Tok) : Ents (SetTable.insertAt es (posN k L) ((k : Int), Value.int k t)).toList (insN k L) := by
  have hl : posN k L ≤ es.size := by
    have := h.length
    rw [Array.length_toList] at this
    rw [this]; exact List.length_filter_le _ _
  rw [toList_insertAt _ _ _ hl]
  unfold insN
  obtain ⟨t1, t2⟩ := take_pos hp k
  rw [← t1, ← t2 hk]
  exact (h.take _).append (.cons (h.drop _))
/-- a set of these, at its address -/
def SmallSet (led : Bool) (h : Heap) (a : Addr) (L : List Nat) : Prop := ∃ o es ep, h.get? a = some o ∧ o.ExactSet ∧ o.data = .set es ep (tblOf led L) ∧ Ents es.toList L ∧ L ∈ subs7
section
variable {prog : Program} {w : World} {A : Around} {E : Value → Shared → Prop} {s : Shared} {a : Addr} {led : Bool} {L : List Nat}
theorem hash_small {k : Nat} (hk : k < 7) : hashInt (k : Int) = k := by
  have : ∀ k : Fin 7, hashInt ((k : Nat) : Int) = ((k : Nat) : Int) := by decide +kernel
  exact this ⟨k, hk⟩
theorem Ents.elems {es : List (Int × Value)} (h : Ents es L) (hL : L ∈ subs7) : ElemsOf (intKind prog w) es := fun e he => by
  obtain ⟨k, t, hk, rfl⟩ := h.mem he
  exact ⟨⟨(k : Int), by simp [intKind, Value.isInt], (hash_small ((subs_len hL).2.1 k hk)).symm⟩, rfl⟩
theorem find_small {es : List (Int × Value)} (h : Ents es L) {k : Nat} : (es.findIdx? fun e => (intKind prog w).is (k : Int) e.2) = none ↔ k ∉ L := by
  rw [List.findIdx?_eq_none_iff]
  constructor
  · intro hf hk
    obtain ⟨t, ht⟩ := h.of_mem hk
    have := hf _ ht
    have h2 : Value.isInt (k : Int) (Value.int k t) = false := this
    simp [Value.isInt] at h2
  · intro hk e he
    obtain ⟨j, t, hj, rfl⟩ := h.mem he
    show Value.isInt (k : Int) (Value.int j t) = false
    have : (k : Int) ≠ (j : Int) := fun z => hk (by have : k = j := by omega
                                                    rw [this]; exact hj)
    simp [Value.isInt]
    omega
end
end PD

set_option Elab.async false
set_option linter.all false
set_option maxRecDepth 100000
set_option maxHeartbeats 4000000
namespace PD
open PySem L2
section
variable {prog : Program} {w : World} {A : Around} {E : Value → Shared → Prop} {s : Shared} {a : Addr} {led : Bool} {L : List Nat}
theorem SmallSet.typeIs (h : SmallSet led s.heap a L) : s.TypeIs (.ref a) "set" := let ⟨o, _, _, ho, hc, _⟩ := h; ⟨o, ho, hc.1⟩
theorem SmallSet.at {h h' : Heap} (x : SmallSet led h a L) (f : ∀ o, h.get? a = some o → h'.get? a = some o) : SmallSet led h' a L := let ⟨o, es, ep, ho, r⟩ := x; ⟨o, es, ep, f o ho, r⟩
theorem SmallSet.lt {h : Heap} (x : SmallSet led h a L) : a < h.objs.size := let ⟨o, _, _, ho, _⟩ := x; Heap.lt_size ho
theorem put_at {h : Heap} {o : Obj} {es es' : Array (Int × Value)} {ep : Nat} {t t' : SetTable} (ho : h.get? a = some o) (hd : o.data = .set es ep t) :
    (h.update a (Obj.putSet es' t')).get? a = some { o with data := .set es' (ep + 1) t' } := by
  have := Heap.get?_update_self (Obj.putSet es' t') ho (by rw [putSet_of es' t' hd]; rfl)
  rw [putSet_of es' t' hd] at this; exact this
def addN (k : Nat) (L : List Nat) : List Nat := if k ∈ L then L else insN k L
theorem setAdd_small {k : Nat} {t : Tok} {Q : Bool → Shared → Prop} (hk : k < 7) (hS : SmallSet led s.heap a L)
    (h : ∀ b h', Heap.SameBut a s.heap h' → SmallSet led h' a (addN k L) → Q b { s with heap := h' }) :
    wpAny (model prog w) A (setAddHashed a (.int k t) ((intKind prog w).hash (k : Int))) Q E s := by
  obtain ⟨o, es, ep, ho, hex, hd, hen, hL⟩ := hS
  obtain ⟨l7, lt7, hpw⟩ := subs_len hL
  have hel : ElemsOf (intKind prog w) es.toList := hen.elems hL
  have hlen : es.size = L.length := by rw [← Array.length_toList]; exact hen.length
  have hf : (tblOf led L).fits es.size = true := by rw [hlen]; exact tbl_fits hL led
  have hb : es.size < scanBound := by rw [hlen]; show L.length < 4096; omega
  have hkey : (intKind prog w).is (k : Int) (.int k t) = true := by simp [intKind, Value.isInt]
  have hsc : (Value.int k t).scannable = true := rfl
  unfold setAddHashed setAddHashedIn
  refine wpAny_holding (wpAny_bind (wpAny_setState_of ho hd hf ?_))
  dsimp only
  rw [byScan_of hsc hb hel]
  simp only [↓reduceIte]
  unfold setAddByScan
  refine wpAny_bind ?_
  refine wpAny_bind (wpAny_rule ?_)
  refine wpAny_bind (wpAny_setScan_of hkey ho hd hf hel ?_)
  have hfind := find_small (prog := prog) (w := w) hen (k := k)
  cases hr : List.findIdx? (fun e => (intKind prog w).is (k : Int) e.2) es.toList with
  | some j =>
    have hin : k ∈ L := by
      by_cases z : k ∈ L
      · exact z
      · rw [hfind.mpr z] at hr; cases hr
    dsimp only
    refine wpAny_pure (wpAny_pure ?_)
    have e : s = { s with heap := s.heap } := by cases s; rfl
    rw [e]
    exact h _ s.heap (Heap.SameBut.refl a s.heap) ⟨o, es, ep, ho, hex, by rw [show addN k L = L from if_pos hin]; exact hd, by rw [show addN k L = L from if_pos hin]; exact hen, by rw [show addN k L = L from if_pos hin]; exact hL⟩
  | none =>
    have hin : k ∉ L := hfind.mp hr
    have hadd : addN k L = insN k L := if_neg hin
    have ok := small_add hL led hk hin
    unfold okAdd at ok
    simp only [Bool.and_eq_true, decide_eq_true_eq] at ok
    obtain ⟨⟨⟨⟨⟨f1, f2⟩, f3⟩, f4⟩, f5⟩, f6⟩ := ok
    have hsub : insN k L ∈ subs7 := by simpa using f4
    have hhash : (intKind prog w).hash (k : Int) = (k : Int) := hash_small hk
    have hlay : layNew (tblOf led L) es ((intKind prog w).hash (k : Int)) (.int k t) = (SetTable.insertAt es (posN k L) ((k : Int), .int k t), midT led k L, false, false) := by
      rw [hhash]
      unfold layNew
      rw [f1]
      dsimp only
      rw [f2]
      dsimp only
      have hs1 : (SetTable.insertAt es (posN k L) ((k : Int), Value.int k t)).size = L.length + 1 := by
        rw [← Array.length_toList, (hen.insert hpw hin t).length, f5]
      rw [hs1]
      unfold SetTable.orStandIn
      rw [if_pos f3, f3]; rfl
    rw [hlay]
    dsimp only
    have hen1 := hen.insert hpw hin t
    generalize hes1 : SetTable.insertAt es (posN k L) ((k : Int), Value.int k t) = es1 at hen1
    have hs1 : es1.size = L.length + 1 := by rw [← Array.length_toList, hen1.length, f5]
    have hz1 : es1.size ≤ sizeLine := fits_of_scanBound (by rw [hs1]; show L.length + 1 < 4096; omega)
    refine wpAny_bind (wpAny_pure ?_)
    rw [show (midT led k L).plain = true from rfl]
    simp only [↓reduceIte]
    refine wpAny_bind ?_
    rw [hashByValue_scannable 8 hsc]
    refine wpAny_pure ?_
    simp only [plainKind, ↓reduceIte]
    refine wpAny_bind (wpAny_storeSet_of ho hd ?_ hz1)
    have hp1 := put_at (es' := es1) (t' := midT led k L) ho hd
    have sb1 := Heap.SameBut.update s.heap a (Obj.putSet es1 (midT led k L))
    by_cases h4 : L.length = 4
    · rw [if_pos h4] at f6
      simp only [Bool.and_eq_true, decide_eq_true_eq] at f6
      obtain ⟨⟨⟨g1, g2⟩, g3⟩, g4⟩ := f6
      rw [g1]
      simp only [Bool.not_false, Bool.and_self, ↓reduceIte]
      have h5 : es1.size = 5 := by omega
      have hrel : relayAll (midT led k L) es1 (SetTable.grown es1.size) = (es1, tblOf led (insN k L), false) := by
        unfold relayAll
        have hm : es1.map (·.1) = ((insN k L).map fun (n : Nat) => (n : Int)).toArray := by
          apply Array.toList_inj.mp
          rw [Array.toList_map, hen1.fsts]
        rw [hm, h5, g2]
        dsimp only
        have hfm : (#[0, 1, 2, 3, 4] : Array Nat).filterMap (fun x => es1[x]?) = es1 := by
          apply Array.toList_inj.mp
          rw [Array.toList_filterMap]
          obtain ⟨l⟩ := es1
          match l, h5 with
          | [x0, x1, x2, x3, x4], _ => rfl
        rw [hfm, h5, g3, g4]
        rfl
      rw [hrel]
      dsimp only
      refine wpAny_bind (wpAny_pure ?_)
      refine wpAny_bind (wpAny_storeSet_of hp1 rfl ?_ hz1)
      refine wpAny_pure (wpAny_pure ?_)
      have hp2 := put_at (es' := es1) (t' := tblOf led (insN k L)) hp1 rfl
      rw [hadd] at h
      exact h true _ (sb1.trans (Heap.SameBut.update _ a _)) ⟨_, es1, ep + 1 + 1, hp2, hex, rfl, hen1, hsub⟩
    · rw [if_neg h4] at f6
      simp only [Bool.and_eq_true, Bool.not_eq_true', decide_eq_true_eq] at f6
      rw [f6.1]
      simp only [Bool.and_false, Bool.false_eq_true, ↓reduceIte]
      refine wpAny_pure (wpAny_pure ?_)
      rw [hadd] at h
      exact h true _ sb1 ⟨_, es1, ep + 1, hp1, hex, by rw [f6.2], hen1, hsub⟩
def byText (w : World) : Bool := w.params.followText "set-order"
end
end PD

set_option Elab.async false
set_option linter.all false
set_option maxRecDepth 100000
set_option maxHeartbeats 4000000
namespace PD
open PySem L2
theorem slot_si_next : Slot "set_iterator" "__next__" "set_iterator.__next__" :=
  .of (owner := "set_iterator") (n := "__next__") (by rw [typeLookup_type, builtinLookup_eq_fast]; kernel_rfl) (by decide +kernel) (by decide +kernel) (by decide +kernel)
    (by first | exact .inl (by decide +kernel) | exact .inr (by decide +kernel)) (by rw [isSubtype_type]; kernel_rfl)
theorem entry_si_next : entryFor table "set_iterator.__next__" = some Builtin.«set_iterator.__next__» := entryFor_of_tree (by kernel_rfl)
theorem owner_si : Manifest.owners.lookup (String.ofList ['r', 'o', 't', 'a', 'r', 'e', 't', 'i', '_', 't', 'e', 's'].reverse) = some Manifest.sig_set_iterator := by kernel_rfl
theorem args_si_next (a : Value) : argsOk "set_iterator.__next__" ⟨[a], []⟩ := by
  unfold argsOk; rw [signature?_of (id := "set_iterator.__next__") (n := ['_', '_', 't', 'x', 'e', 'n', '_', '_']) (o := ['r', 'o', 't', 'a', 'r', 'e', 't', 'i', '_', 't', 'e', 's']) (by kernel_rfl) owner_si]; kernel_rfl
theorem slot_si_iter : Slot "set_iterator" "__iter__" "set_iterator.__iter__" :=
  .of (owner := "set_iterator") (n := "__iter__") (by rw [typeLookup_type, builtinLookup_eq_fast]; kernel_rfl) (by decide +kernel) (by decide +kernel) (by decide +kernel)
    (by first | exact .inl (by decide +kernel) | exact .inr (by decide +kernel)) (by rw [isSubtype_type]; kernel_rfl)
theorem entry_si_iter : entryFor table "set_iterator.__iter__" = some Builtin.«dict_keyiterator.__iter__» :=
  entryFor_alias (id' := "dict_keyiterator.__iter__") (by kernel_rfl) rfl (by decide +kernel) (by kernel_rfl)
theorem args_si_iter (a : Value) : argsOk "set_iterator.__iter__" ⟨[a], []⟩ := by
  unfold argsOk; rw [signature?_of (id := "set_iterator.__iter__") (n := ['_', '_', 'r', 'e', 't', 'i', '_', '_']) (o := ['r', 'o', 't', 'a', 'r', 'e', 't', 'i', '_', 't', 'e', 's']) (by kernel_rfl) owner_si]; kernel_rfl
theorem entry_set_iter : entryFor table "set.__iter__" = some Builtin.«frozenset.__iter__» :=
  entryFor_alias (id' := "frozenset.__iter__") (by kernel_rfl) rfl (by decide +kernel) (by kernel_rfl)
/-- the walk by the text's own order -/
theorem pick_go {α : Type} (next : Nat → Nat) : ∀ (fuel k : Nat) (left : List α) (out : Array α), left.length = fuel → (pickOrder.go next fuel k left out).toList.Perm (out.toList ++ left)
  | 0, k, left, out, h => by
    have : left = [] := List.length_eq_zero_iff.mp h
    subst this
    show out.toList.Perm (out.toList ++ [])
    rw [List.append_nil]
  | fuel + 1, k, left, out, h => by
    have hlt : next k % left.length < left.length := Nat.mod_lt _ (by omega)
    unfold pickOrder.go
    rw [List.getElem?_eq_getElem hlt]
    dsimp only
    have ih := pick_go next fuel (k + 1) (left.eraseIdx (next k % left.length)) (out.push left[next k % left.length]) (by rw [List.length_eraseIdx_of_lt hlt]; omega)
    refine ih.trans ?_
    rw [Array.toList_push, List.append_assoc]
    refine List.Perm.append_left _ ?_
    generalize next k % left.length = j at hlt
    rw [List.eraseIdx_eq_take_drop_succ]
    have : left = left.take j ++ left[j] :: left.drop (j + 1) := by
      rw [← List.drop_eq_getElem_cons hlt, List.take_append_drop]
    conv => rhs; rw [this]
    exact (show (left[j] :: (left.take j ++ left.drop (j + 1))).Perm _ from List.perm_middle.symm)
theorem pick_perm {α : Type} (next : Nat → Nat) (xs : Array α) : (pickOrder next xs).toList.Perm xs.toList := by
  have := pick_go next xs.size 0 xs.toList #[] (by rw [Array.length_toList])
  simpa [pickOrder] using this
def walkOf (w : World) (a : Addr) (ep : Nat) (es : Array (Int × Value)) : Array (Int × Value) := if byText w = true then pickOrder (w.params.setOrder a ep) es else es
theorem walk_perm (w : World) (a : Addr) (ep : Nat) (es : Array (Int × Value)) : (walkOf w a ep es).toList.Perm es.toList := by
  unfold walkOf; split
  · exact pick_perm _ _
  · exact List.Perm.refl _
theorem walk_size (w : World) (a : Addr) (ep : Nat) (es : Array (Int × Value)) : (walkOf w a ep es).size = es.size := by
  rw [← Array.length_toList, (walk_perm w a ep es).length_eq, Array.length_toList]
def slotN (L : List Nat) : Nat → Nat
  | 0 => 0
  | j + 1 => L.getD j 0 + 1
def slotAt (w : World) (L : List Nat) (i : Nat) : Nat := if byText w = true then 0 else slotN L i
theorem below_all : (subs7.all fun L => (List.range (L.length + 1)).all fun i => decide (SetTable.below L.toArray (slotN L i) = i)) = true := by decide +kernel
theorem below_at {L : List Nat} (hL : L ∈ subs7) {i : Nat} (hi : i ≤ L.length) : SetTable.below L.toArray (slotN L i) = i := by
  have h := List.all_eq_true.mp below_all L hL
  have h2 := List.all_eq_true.mp h i (List.mem_range.mpr (by omega))
  simpa using h2
/-- the set as it stands, walked with nothing changed -/
structure SmallAt (w : World) (h : Heap) (a : Addr) (L : List Nat) (es : Array (Int × Value)) (ep : Nat) : Prop where
  ob : ∃ o, h.get? a = some o ∧ o.ExactSet ∧ o.data = .set es ep (tblOf (!byText w) L)
  ents : Ents es.toList L
  sub : L ∈ subs7
theorem SmallSet.fix {w : World} {h : Heap} {a : Addr} {L : List Nat} (x : SmallSet (!byText w) h a L) : ∃ es ep, SmallAt w h a L es ep := let ⟨o, es, ep, ho, hc, hd, he, hL⟩ := x; ⟨es, ep, ⟨o, ho, hc, hd⟩, he, hL⟩
theorem SmallAt.at {w : World} {h h' : Heap} {a : Addr} {L : List Nat} {es : Array (Int × Value)} {ep : Nat} (x : SmallAt w h a L es ep) (f : ∀ o, h.get? a = some o → h'.get? a = some o) : SmallAt w h' a L es ep :=
  let ⟨⟨o, ho, r⟩, e, l⟩ := x; ⟨⟨o, f o ho, r⟩, e, l⟩
theorem SmallAt.size {w : World} {h : Heap} {a : Addr} {L : List Nat} {es : Array (Int × Value)} {ep : Nat} (x : SmallAt w h a L es ep) : es.size = L.length := by rw [← Array.length_toList]; exact x.ents.length
def IsSetIter (h : Heap) (it a : Addr) (slot i n ep : Nat) : Prop := ∃ o, h.get? it = some o ∧ o.cls = .type "set_iterator" ∧ o.data = .fields #[.int slot 0, .int i 0, .ref a, .int n 0, .int ep 0]
section
variable {prog : Program} {w : World} {A : Around} {E : Value → Shared → Prop} {s : Shared} {a it : Addr} {L : List Nat} {es : Array (Int × Value)} {ep : Nat}
theorem IsSetIter.typeIs {slot i n : Nat} (x : IsSetIter s.heap it a slot i n ep) : s.TypeIs (.ref it) "set_iterator" := let ⟨o, ho, hc, _⟩ := x; ⟨o, ho, hc⟩
theorem IsSetIter.at {h h' : Heap} {slot i n : Nat} (x : IsSetIter h it a slot i n ep) (f : ∀ o, h.get? it = some o → h'.get? it = some o) : IsSetIter h' it a slot i n ep := let ⟨o, ho, r⟩ := x; ⟨o, f o ho, r⟩
theorem byText_ask {Q : Bool → Shared → Prop} (h : Q (byText w) s) : wpAny (model prog w) A setsByText Q E s := by
  unfold setsByText
  exact wpAny_bind (wpAny_askSetting (wpAny_pure h))
theorem iter_small {Q : Value → Shared → Prop} (hm : SmallAt w s.heap a L es ep)
    (hQ : Q (.ref s.heap.objs.size) { s with heap := s.heap.push { cls := .type "set_iterator", data := .fields #[.int 0 0, .int 0 0, .ref a, .int (L.length : Nat) 0, .int ep 0] } }) :
    wpAny (model prog w) A (pyIter (.ref a)) Q E s := by
  obtain ⟨o, ho, hex, hd⟩ := hm.ob
  have hT : s.TypeIs (.ref a) "set" := ⟨o, ho, hex.1⟩
  have hf : (tblOf (!byText w) L).fits es.size = true := by rw [hm.size]; exact tbl_fits hm.sub _
  refine wpAny_pyIter_slot hT F.slot_set_iter (wpAny_call_entry F.slot_set_iter hT entry_set_iter ?_ (F.args_set_iter_1 _))
  unfold Builtin.«frozenset.__iter__»
  refine wpAny_bind ?_
  unfold Builtin.Frozenset.slot0 slotArgs
  simp only [List.isEmpty_nil, Bool.not_true, Bool.false_eq_true, ↓reduceIte, bind_assoc, List.length_nil, bne_self_eq_false]
  unfold Builtin.Frozenset.addrOf
  refine wpAny_bind (wpAny_pure ?_)
  try dsimp only
  refine wpAny_bind (wpAny_pure ?_)
  try dsimp only
  refine wpAny_pure ?_
  unfold Builtin.Frozenset.sizeOf
  refine wpAny_bind (wpAny_bind (wpAny_setEntries_of ho hd hf (wpAny_pure ?_)))
  refine wpAny_bind ?_
  unfold setDrawn
  refine wpAny_bind (wpAny_setState_of ho hd hf ?_)
  refine wpAny_bind (byText_ask ?_)
  refine wpAny_pure ?_
  rw [if_neg (by cases byText w <;> exact Bool.false_ne_true)]
  refine wpAny_bind (wpAny_pure ?_)
  refine wpAny_bind (wpAny_setEpoch_of ho hd hf ?_)
  refine wpAny_bind (wpAny_newObj_type (wpAny_pure ⟨_, rfl, "set_iterator", _, ⟨_, Heap.get?_push_size _ rfl, rfl⟩, slot_si_next.lookup, ?_⟩))
  have hsz := hm.size
  simpa [rawInt, hsz] using hQ
theorem self_small {slot i n : Nat} {Q : Value → Shared → Prop} (hit : IsSetIter s.heap it a slot i n ep) (h : Q (.ref it) s) : wpAny (model prog w) A (pyIter (.ref it)) Q E s := by
  refine wpAny_pyIter_slot hit.typeIs slot_si_iter (wpAny_call_entry slot_si_iter hit.typeIs entry_si_iter ?_ (args_si_iter _))
  show wpAny _ _ (ret (.ref it)) _ _ s
  exact wpAny_pure ⟨_, rfl, "set_iterator", _, hit.typeIs, slot_si_next.lookup, h⟩
end
end PD

set_option Elab.async false
set_option linter.all false
set_option maxRecDepth 100000
set_option maxHeartbeats 4000000
namespace PD
open PySem L2
section
variable {prog : Program} {w : World} {A : Around} {E : Value → Shared → Prop} {s : Shared} {a it : Addr} {L : List Nat} {es : Array (Int × Value)} {ep : Nat}
theorem setNext_small {i : Nat} {Q : Option (Value × Nat) → Shared → Prop} (hm : SmallAt w s.heap a L es ep) (hi : i ≤ L.length)
    (h : Q (((walkOf w a ep es)[i]?).map fun e => (e.2, slotAt w L (i + 1))) s) :
    wpAny (model prog w) A (setNext a (slotAt w L i) i ep) Q E s := by
  obtain ⟨o, ho, hex, hd⟩ := hm.ob
  have hf : (tblOf (!byText w) L).fits es.size = true := by rw [hm.size]; exact tbl_fits hm.sub _
  unfold setNext
  refine wpAny_bind (wpAny_setState_of ho hd hf ?_)
  dsimp only
  refine wpAny_bind (byText_ask ?_)
  cases hb : byText w with
  | true =>
    simp only [↓reduceIte, bne_self_eq_false, Bool.false_eq_true]
    refine wpAny_bind ?_
    unfold setWalk
    rw [hb] at hd hf
    refine wpAny_bind (wpAny_setState_of ho hd hf ?_)
    dsimp only
    refine wpAny_bind (byText_ask ?_)
    rw [hb]
    simp only [↓reduceIte]
    refine wpAny_bind (wpAny_askSetting (wpAny_pure ?_))
    refine wpAny_pure ?_
    unfold walkOf slotAt at h
    rw [hb] at h
    have h1 : Q (Option.map (fun e => (e.snd, 0)) (pickOrder (w.params.setOrder a ep) es)[i]?) s := by simpa using h
    have h' : Q (Option.map (fun e => (e.snd, 0)) (pickOrder ((model prog w).w.params.setOrder a ep) es)[i]?) s := h1
    simpa [slotAt, hb] using h'
  | false =>
    simp only [Bool.false_eq_true, ↓reduceIte]
    rw [if_neg (by exact Bool.false_ne_true)]
    refine wpAny_bind (wpAny_pure ?_)
    refine wpAny_pure ?_
    have hbl : SetTable.below (tblOf (!false) L).place (slotAt w L i) = i := by
      have : slotAt w L i = slotN L i := by unfold slotAt; rw [hb]; rfl
      rw [this]; exact below_at hm.sub hi
    rw [hbl]
    have hpl : (tblOf (!false) L).place[i]? = L[i]? := by show L.toArray[i]? = _; simp
    rw [hpl]
    have hw : walkOf w a ep es = es := by unfold walkOf; rw [hb]; rfl
    rw [hw] at h
    cases hL : L[i]? with
    | none =>
      have : es[i]? = none := by
        rw [Array.getElem?_eq_none_iff, hm.size]
        exact List.getElem?_eq_none_iff.mp hL
      rw [this] at h ⊢
      exact h
    | some j =>
      obtain ⟨hlt, hj⟩ := List.getElem?_eq_some_iff.mp hL
      have hlt' : i < es.size := by rw [hm.size]; exact hlt
      rw [Array.getElem?_eq_getElem hlt'] at h ⊢
      have hs : slotAt w L (i + 1) = j + 1 := by
        unfold slotAt; rw [hb]
        show L.getD i 0 + 1 = j + 1
        rw [List.getD_eq_getElem?_getD, hL]; rfl
      rw [hs] at h
      exact h
theorem next_small {i : Nat} {Q : Option Value → Shared → Prop} (hit : IsSetIter s.heap it a (slotAt w L i) i L.length ep) (hne : a ≠ it) (hm : SmallAt w s.heap a L es ep) {e : Int × Value} (hx : (walkOf w a ep es)[i]? = some e)
    (hQ : ∀ h', IsSetIter h' it a (slotAt w L (i + 1)) (i + 1) L.length ep → Heap.SameBut it s.heap h' → Q (some e.2) { s with heap := h' }) :
    wpAny (model prog w) A (pyNext (.ref it)) Q E s := by
  obtain ⟨o, ho, hc, hd⟩ := id hit
  obtain ⟨os, hos, hexs, hds⟩ := hm.ob
  have hf : (tblOf (!byText w) L).fits es.size = true := by rw [hm.size]; exact tbl_fits hm.sub _
  have hi : i ≤ L.length := by
    have := (Array.getElem?_eq_some_iff.mp hx).1
    rw [walk_size, hm.size] at this; omega
  unfold pyNext
  refine wpAny_bind (wpAny_attempt (wpAny_callSpecial?_slot (name := Str.ofString "__next__") hit.typeIs slot_si_next
    (wpAny_call_entry slot_si_next hit.typeIs entry_si_next ?_ (args_si_next _))))
  unfold Builtin.«set_iterator.__next__»
  refine wpAny_bind ?_
  unfold slotArgs
  simp only [List.isEmpty_nil, Bool.not_true, Bool.false_eq_true, ↓reduceIte, List.length_nil, bne_self_eq_false]
  refine wpAny_pure ?_
  dsimp only
  refine wpAny_bind (wpAny_fieldsOf ho hd ?_)
  dsimp only
  refine wpAny_bind (wpAny_setEntries_of hos hds hf ?_)
  rw [if_neg (by rw [hm.size]; simp)]
  refine wpAny_bind ?_
  simp only [Int.toNat_natCast]
  refine setNext_small hm hi ?_
  rw [hx]
  dsimp only [Option.map_some]
  refine wpAny_bind (wpAny_setField ho hd (by simp) ?_)
  have ho1 := Heap.get?_update_self (Obj.mapFields (·.setIfInBounds 0 (rawInt (slotAt w L (i + 1))))) ho (Obj.isFreed_of_fields (Obj.data_mapFields hd _))
  have hd1 := Obj.data_mapFields hd (fun vs => vs.setIfInBounds 0 (rawInt (slotAt w L (i + 1))))
  refine wpAny_bind (wpAny_setField ho1 hd1 (by simp) ?_)
  have ho2 := Heap.get?_update_self (Obj.mapFields (·.setIfInBounds 1 (rawInt ((i : Int) + 1)))) ho1 (Obj.isFreed_of_fields (Obj.data_mapFields hd1 _))
  have hd2 := Obj.data_mapFields hd1 (fun vs => vs.setIfInBounds 1 (rawInt ((i : Int) + 1)))
  refine wpAny_pure ⟨_, rfl, wpAny_pure (hQ _ ⟨_, ho2, ?_, ?_⟩ ((Heap.SameBut.update ..).trans (Heap.SameBut.update ..)))⟩
  · exact (Obj.cls_mapFields ..).trans ((Obj.cls_mapFields ..).trans hc)
  · rw [hd2]; simp [rawInt]
theorem end_small {i : Nat} {Q : Option Value → Shared → Prop} (hh : A.handled = none) (hit : IsSetIter s.heap it a (slotAt w L i) i L.length ep) (hm : SmallAt w s.heap a L es ep) (hi : i = L.length)
    (hQ : ∀ h', Heap.ExtBut it s.heap h' → Q none { s with heap := h' }) :
    wpAny (model prog w) A (pyNext (.ref it)) Q E s := by
  obtain ⟨o, ho, hc, hd⟩ := id hit
  obtain ⟨os, hos, hexs, hds⟩ := hm.ob
  have hf : (tblOf (!byText w) L).fits es.size = true := by rw [hm.size]; exact tbl_fits hm.sub _
  have hx : (walkOf w a ep es)[i]? = none := by
    rw [Array.getElem?_eq_none_iff, walk_size, hm.size]; omega
  unfold pyNext
  refine wpAny_bind (wpAny_attempt (wpAny_callSpecial?_slot (name := Str.ofString "__next__") hit.typeIs slot_si_next
    (wpAny_call_entry slot_si_next hit.typeIs entry_si_next ?_ (args_si_next _))))
  unfold Builtin.«set_iterator.__next__»
  refine wpAny_bind ?_
  unfold slotArgs
  simp only [List.isEmpty_nil, Bool.not_true, Bool.false_eq_true, ↓reduceIte, List.length_nil, bne_self_eq_false]
  refine wpAny_pure ?_
  dsimp only
  refine wpAny_bind (wpAny_fieldsOf ho hd ?_)
  dsimp only
  refine wpAny_bind (wpAny_setEntries_of hos hds hf ?_)
  rw [if_neg (by rw [hm.size]; simp)]
  refine wpAny_bind ?_
  simp only [Int.toNat_natCast]
  refine setNext_small hm (by omega) ?_
  rw [hx]
  dsimp only [Option.map_none]
  refine wpAny_bind (wpAny_setField ho hd (by simp) ?_)
  show wpAny _ _ (newExc (.type "StopIteration") [] >>= _) _ _ _
  refine wpAny_bind ?_
  simp only [newExc, newTuple]
  refine wpAny_bind (wpAny_newObj_type ?_ (by size_fits))
  refine wpAny_bind (m := firstArgMember _ _) (wpAny_of_eq (a := Value.none) (by first | rfl | (simp only [firstArgMember]; rfl)) ?_)
  refine wpAny_newObj_type ?_ (by size_fits)
  simp only [raiseNew]
  refine wpAny_bind (wpAny_handled ?_)
  rw [show A.in1.handled = none from hh]
  refine wpAny_bind (wpAny_pure (wpAny_throw ?_))
  refine wpAny_bind (wpAny_isInstance (T := "StopIteration") (b := true) ⟨_, Heap.get?_push_size _ rfl, rfl⟩ isSubtype_stop ?_)
  exact wpAny_pure (hQ _ (((Heap.SameBut.update ..).extBut.push _).push _))
theorem walks_small (hh : A.handled = none) (I : Addr) (hne : a ≠ I) (L : List Nat) (es : Array (Int × Value)) (ep : Nat) :
    PySem.Walks prog w A I [I, a] [I] L.length (fun i v => ∃ e, (walkOf w a ep es)[i]? = some e ∧ v = e.2) (fun i h => IsSetIter h I a (slotAt w L i) i L.length ep ∧ SmallAt w h a L es ep) where
  sub := fun b hb => by simp at hb; simp [hb]
  frame := fun _ _ _ st hk => ⟨st.1.at fun o e => hk I (by simp) o e, st.2.at fun o e => hk a (by simp) o e⟩
  item := fun i s Q E hi st hQ => by
    have hlt : i < (walkOf w a ep es).size := by rw [walk_size, st.2.size]; exact hi
    refine next_small st.1 hne st.2 (Array.getElem?_eq_getElem hlt) fun h' hit' hs' => ?_
    exact hQ _ h' s.toks ⟨_, Array.getElem?_eq_getElem hlt, rfl⟩ ⟨hit', st.2.at fun o e => hs'.extBut a o hne e⟩ fun b o hb e => hs'.extBut b o (fun h => hb (by simp [h])) e
  done := fun s Q E st hQ => end_small hh st.1 st.2 rfl fun h' he' => hQ h' s.toks fun b o hb e => he' b o (fun h => hb (by simp [h])) e
  self := fun _ _ _ _ st hQ => self_small st.1 hQ
theorem hint_small (hT : s.TypeIs (.ref a) "set") {Q : Bool → Shared → Prop} (h : Q false s) : wpAny (model prog w) A (Builtin.List.listLengthHint (.ref a)) Q E s := by
  unfold Builtin.List.listLengthHint
  refine wpAny_bind (wpAny_specialOf hT PySem.F.slot_set_len.lookup ?_)
  generalize hid : ("set.__len__" : String) = id0
  wp_delta
  rw [show splitId id0 = some ("set", "__len__") from by subst hid; decide +kernel]
  subst hid
  refine wpAny_bind (wpAny_isInstance (T := "set") (b := true) hT (by rw [isSubtype_type]; kernel_rfl) ?_)
  refine wpAny_ite_split (fun hab => absurd hab (by decide)) (fun _ => ?_)
  refine wpAny_ite_split (fun _ => ?_) (fun hab => absurd (by decide +kernel) hab)
  refine wpAny_bind (wpAny_typeOf hT ?_)
  exact wpAny_pure h
theorem src_small : PySem.W.KdlSrc prog w "set" a a L.length (fun i v => ∃ e, (walkOf w a ep es)[i]? = some e ∧ v = e.2) (fun h => SmallAt w h a L es ep) where
  type := fun _ hm => let ⟨o, ho, hc, _⟩ := hm.ob; ⟨o, ho, hc.1⟩
  there := fun _ hm => let ⟨o, ho, _⟩ := hm.ob; ⟨Heap.lt_size ho, Heap.lt_size ho⟩
  keep := fun _ _ hm hk => hm.at fun o e => hk a (.inl rfl) o e
  notList := by decide
  notTuple := by decide
  hint := fun _ _ _ _ hm hq => hint_small (let ⟨o, ho, hc, _⟩ := hm.ob; ⟨o, ho, hc.1⟩) hq
  iter := fun A s hh hm => ⟨_, _, (fun _ _ hq => iter_small hm hq), walks_small hh _ (let ⟨o, ho, _⟩ := hm.ob; Nat.ne_of_lt (Heap.lt_size ho)) L es ep, ⟨_, Heap.get?_push_size _ rfl, rfl, by
    have : slotAt w L 0 = 0 := by unfold slotAt; split <;> rfl
    rw [this]; rfl⟩, hm.at fun o e => Heap.get?_push_of_some _ e⟩
end
end PD

set_option Elab.async false
set_option linter.all false
set_option maxRecDepth 100000
set_option maxHeartbeats 4000000
namespace PD
open PySem L2

theorem hok_many {P : Program} {w : World} {H H' : Hp} {h h' : Heap} (x : HOk P w H h) (k : ∀ b u, h.get? b = some u → h'.get? b = some u) (hs : Same H H') (new : ∀ a o, H a = none → H' a = some o → ObjOk P w H' h' a o) : HOk P w H' h' := fun a o e => by
  cases q : H a with
  | none => exact new a o q e
  | some u =>
    have : u = o := by have := hs a u q; rw [e] at this; cases this; rfl
    subst this
    exact (x a u q).stay (fun b u _ r => k b u r) (fun b r => hs b _ r) fun b xs r => hs b _ r
theorem inv_many {X : Cx} {pins : List (Addr × Obj)} {σ : List (Option V)} {H H' : Hp} {s : Shared} {h' : Heap} {t' : Nat} (I : Inv X pins σ H s) (k : ∀ b u, s.heap.get? b = some u → h'.get? b = some u) (hs : Same H H')
    (hn : ∀ b, H b = none → H' b ≠ none → s.heap.get? b = none) (new : ∀ a o, H a = none → H' a = some o → ObjOk X.prog X.w H' h' a o) : Inv X pins σ H' { s with heap := h', toks := t' } :=
  I.un ⟨fun b u q _ _ _ => k b u q, fun b u q _ _ _ => ⟨u.slots, k b u q⟩, fun b u q n _ => by
    cases e : H' b with
    | none => rfl
    | some v => exact absurd ((hn b n (by rw [e]; simp)).symm.trans q) (by simp), fun b u q _ => ⟨u, k b u q⟩, fun b xs q => hs b _ q, fun b o u q => hs b _ q, fun b ps q => ⟨#[], by rw [hs b _ q]; simp⟩⟩ (hok_many I.hok k hs new)

def setO (w : World) (a : Addr) (L : List Nat) : HO := .ext fun h => SmallSet (!byText w) h a L
theorem setO_ok {P : Program} {w : World} {H : Hp} {h : Heap} {a : Addr} {L : List Nat} (x : SmallSet (!byText w) h a L) : ObjOk P w H h a (setO w a L) :=
  ⟨x, let ⟨o, _, _, ho, _⟩ := x; ⟨o, ho⟩, fun _ _ y f => y.at f⟩
theorem setO_get {P : Program} {w : World} {H : Hp} {h : Heap} {a : Addr} {L : List Nat} (x : HOk P w H h) (e : H a = some (setO w a L)) : SmallSet (!byText w) h a L := (x a _ e).1
section
variable {X : Cx} {pins : List (Addr × Obj)} {s : Shared} {σ : L2.St} {H : Hp}
def rSortedSet (w : World) : List V → Hp → VK → Prop := fun vs H Q => ∃ a L, vs = [V.ref a] ∧ H a = some (setO w a L) ∧ ∀ p, H p = none → Q (.ref p) (upd H p (.lst (L.map fun (n : Nat) => V.int n)))
theorem ents_vals : ∀ {es : List (Int × Value)} {L : List Nat}, Ents es L → PyProof.Rows.IntsAre (es.map (·.2)) (L.map fun (n : Nat) => (n : Int))
  | _, _, .nil => .nil
  | _, _, .cons g => .cons _ _ (ents_vals g)
theorem intsAre_perm {l l' : List Value} (p : l'.Perm l) : ∀ {ns : List Int}, PyProof.Rows.IntsAre l ns → ∃ ns', PyProof.Rows.IntsAre l' ns' ∧ ns'.Perm ns := by
  induction p with
  | nil => intro ns h; exact ⟨ns, h, .refl _⟩
  | cons x _ ih => intro ns h; cases h with
    | cons n t h => obtain ⟨ns', h1, h2⟩ := ih h; exact ⟨n :: ns', .cons n t h1, h2.cons _⟩
  | swap x y l => intro ns h; cases h with
    | cons n t h => cases h with
      | cons m u h => exact ⟨_, .cons _ _ (.cons _ _ h), .swap _ _ _⟩
  | trans _ _ ih1 ih2 => intro ns h; obtain ⟨a, h1, h2⟩ := ih2 h; obtain ⟨b, h3, h4⟩ := ih1 h1; exact ⟨b, h3, h4.trans h2⟩
end
section
variable {prog : Program} {w : World} {A : Around} {E : Value → Shared → Prop} {s : Shared} {T : String} {r d : Addr} {n : Nat} {P : Nat → Value → Prop} {OK : Heap → Prop}
theorem fresh_of {h h' : Heap} (hk : ∀ b o, h.get? b = some o → h'.get? b = some o) {B : Addr} (hB : h'.objs.size ≤ B) : h.get? B = none := by
  cases e : h.get? B with
  | none => rfl
  | some o => exact absurd (Heap.lt_size (hk B o e)) (Nat.not_lt.mpr hB)
theorem sorted_src_ints (K : PySem.W.KdlSrc prog w T r d n P OK) (hh : A.handled = none) (hok : OK s.heap) (hn : n ≤ sizeLine) {ns : List Int} {Q : Value → Shared → Prop}
    (hI : ∀ acc : List Value, acc.length = n → (∀ j v, acc[j]? = some v → P j v) → ∃ ms, PyProof.Rows.IntsAre acc ms ∧ ms.Perm ns)
    (h : ∀ (h' : Heap) (tk : Nat) (B : Addr) (out : Array Value) (ns' : List Int) (e : Nat), (∀ b o, s.heap.get? b = some o → h'.get? b = some o) → s.heap.get? B = none → h'.get? B = some (PyProof.Rows.seqObj "list" out e) →
      PyProof.Rows.IntsAre out.toList ns' → ns'.Perm ns → ns'.Pairwise (· ≤ ·) → Q (.ref B) { s with heap := h', toks := tk }) :
    wpAny (model prog w) A (call (.builtin "sorted") [.ref r]) Q E s := by
  refine PySem.Calls.call_function_entry PyProof.Rows.kind_sorted PyProof.Rows.plain_sorted PyProof.Rows.entry_sorted (PyProof.Rows.args_sorted1 _) ?_
  unfold Builtin.«sorted»
  refine wpAny_bind (m := checkCount "sorted" 1 1 _) (wpAny_pure ?_)
  refine wpAny_bind (PySem.W.kdu_collect (A := A.in1) K hh hok hn fun h' tk acc hk hacc => ?_)
  obtain ⟨ms, hms, hp⟩ := hI acc.toList (by rw [Array.length_toList]; exact hacc.1) fun j v e => hacc.2 j v (by rw [← Array.getElem?_toList]; exact e)
  have hlen : acc.toList.length ≤ sizeLine := by rw [Array.length_toList]; rw [show acc.size = n from hacc.1]; exact hn
  refine wpAny_bind (wpAny_newList ?_ hlen)
  have hoL : (h'.push (PyProof.Rows.seqObj "list" acc.toList.toArray 0)).get? h'.objs.size = some (PyProof.Rows.seqObj "list" acc.toList.toArray 0) := Heap.get?_push_size _ rfl
  refine wpAny_bind (wpAny_holding (wpAny_call_entry PyProof.Rows.slot_list_sort ⟨_, hoL, rfl⟩ PyProof.Rows.entry_list_sort (PyProof.Rows.list_sort_treeAny (s := { s with heap := h'.push (PyProof.Rows.seqObj "list" acc.toList.toArray 0), toks := tk }) hoL hms hlen fun out ns' a1 a2 a3 => ⟨_, rfl, ?_⟩) (PyProof.Rows.args_list_sort _)))
  obtain ⟨e, he⟩ := PyProof.Rows.sortedHeap_at (vs := acc.toList) (out := out) hoL
  refine wpAny_pure ⟨_, rfl, h _ tk _ out ns' e (fun b o q => ?_) (fresh_of hk (Nat.le_refl _)) he a1 (a2.trans hp) a3⟩
  have hb := Heap.lt_size (hk b o q)
  rw [PyProof.Rows.sortedHeap_old (Nat.ne_of_lt hb) (by rw [PyProof.Rows.size_push']; exact Nat.lt_succ_of_lt hb), Heap.get?_push_ne _ _ _ (Nat.ne_of_lt hb)]
  exact hk b o q
end
end PD

set_option Elab.async false
set_option linter.all false
set_option maxRecDepth 100000
set_option maxHeartbeats 4000000
namespace PD
open PySem L2 PyProof.Rows

/-- the sorted row, by a key -/
def sortK (κ : KeyOrd) (kd : PyData → κ.α) (ds : List PyData) : List PyData := ds.mergeSort fun a b => !κ.blt (kd b) (kd a)
def dk1 : PyData → Int ⊕ List Nat
  | .int i => .inl i
  | .str x => .inr x.cps.toList
  | _ => .inl 0
def dkT : PyData → List (Int ⊕ List Nat)
  | .tuple ds => ds.map dk1
  | _ => []
def sortT (ds : List PyData) : List PyData := sortK (PyProof.Rows.listOrd PyProof.Rows.itemOrd) dkT ds
end PD

set_option Elab.async false
set_option linter.all false
set_option maxRecDepth 100000
set_option maxHeartbeats 4000000
namespace PD
open PySem L2 PyProof.Rows
section
variable {X : Cx} {pins : List (Addr × Obj)} {s : Shared} {σ : L2.St} {H G : Hp}
end
end PD

set_option Elab.async false
set_option linter.all false
set_option maxRecDepth 100000
set_option maxHeartbeats 4000000
namespace PD
open PySem L2
section
variable {X : Cx}
end
end PD

set_option Elab.async false
set_option linter.all false
set_option maxRecDepth 100000
set_option maxHeartbeats 4000000
namespace PD
open PySem L2
def setFold (L : List Nat) : List PyData → Option (List Nat)
  | [] => some L
  | .int i :: ds => if 0 ≤ i ∧ i < 7 then setFold (addN i.toNat L) ds else none
  | _ :: _ => none
theorem setFold_cons {L M : List Nat} {d : PyData} {ds : List PyData} (h : setFold L (d :: ds) = some M) : ∃ k : Nat, d = .int (k : Nat) ∧ k < 7 ∧ setFold (addN k L) ds = some M := by
  cases d with
  | int i =>
    have h : (if 0 ≤ i ∧ i < 7 then setFold (addN i.toNat L) ds else none) = some M := h
    by_cases hi : 0 ≤ i ∧ i < 7
    · rw [if_pos hi] at h
      exact ⟨i.toNat, by rw [Int.toNat_of_nonneg hi.1], by omega, h⟩
    · rw [if_neg hi] at h; cases h
  | _ => cases h
abbrev Cf := En → Option (List Nat × En)
def fSetC (src : Af) (bind : PyData → En → Option En) (cond : Tf) (elt : Ef) (vs : List Nat) : Cf := fun ε => (src ε).bind fun p => (compF bind cond elt vs p.1 (clr p.2 vs)).bind fun r => (setFold [] r.1).map fun L => (L, r.2)
theorem objOk_get {P : Program} {w : World} {H : Hp} {h : Heap} {a : Addr} {o : HO} (x : ObjOk P w H h a o) : ∃ ob, h.get? a = some ob := by
  cases o with
  | lst xs => obtain ⟨_, _, _, _, e⟩ := x; exact ⟨_, e⟩
  | tup xs => obtain ⟨_, _, _, ob, e, _⟩ := x; exact ⟨_, e⟩
  | dK kvs => obtain ⟨_, _, _, _, o, _, _, e, _⟩ := x; exact ⟨_, e⟩
  | dT kvs => obtain ⟨_, _, _, _, o, _, _, e, _⟩ := x; exact ⟨_, e⟩
  | set S n => obtain ⟨o, _, _, _, e, _⟩ := x; exact ⟨_, e⟩
  | ins C dx fs => obtain ⟨_, _, _, e, _⟩ := x; exact ⟨_, e⟩
  | own y => exact x
  | xd fs => obtain ⟨_, ⟨_, _, _, e, _⟩, _⟩ := x; exact ⟨_, e⟩
  | rng lo hi => obtain ⟨_, _, _, e⟩ := x; exact ⟨_, e⟩
  | frz ob u => obtain ⟨e, _⟩ := x; exact ⟨_, e⟩
  | tbl ps => exact ⟨_, (show h.get? a = some _ from x)⟩
  | met f y => exact ⟨_, (show h.get? a = some _ from x)⟩
  | ext φ => obtain ⟨_, e, _⟩ := x; exact e
theorem hok_none {P : Program} {w : World} {H : Hp} {h : Heap} (x : HOk P w H h) {B : Addr} (hB : h.get? B = none) : H B = none := by
  cases e : H B with
  | none => rfl
  | some o => obtain ⟨ob, hob⟩ := objOk_get (x B o e); rw [hB] at hob; cases hob
section
variable {X : Cx}
def intL (L : List Nat) : List PyData := L.map fun (n : Nat) => PyData.int n
theorem intL_all {K : PySem.W.Frag} {G : Hp} : ∀ (L : List Nat), RpAll K G (L.map fun (n : Nat) => V.int n) (intL L)
  | [] => .nil
  | n :: L => .cons (.int _) (intL_all L)
theorem cr_sortedSet (hc : X.calm = true) : CallR X (.builtin "sorted") (rSortedSet X.w) := by
  intro pins s σ H vs us Q I r h
  obtain ⟨a, L, rfl, ha, q⟩ := h
  rw [Vals.ref1 r]
  obtain ⟨es, ep, hm⟩ := (setO_get I.hok ha).fix
  have hL7 := (subs_len hm.sub).1
  have hz : L.length ≤ sizeLine := sizeLine_big (by omega)
  refine sorted_src_ints (src_small (L := L) (es := es) (ep := ep)) (I.ok.hd hc) hm hz (ns := L.map fun (n : Nat) => (n : Int)) (fun acc hl hP => ?_) fun h' tk B out ns' e hk hB hg h1 h2 h3 => ?_
  · have hp : (walkOf X.w a ep es).toList.Perm es.toList := walk_perm ..
    have hacc : acc = (walkOf X.w a ep es).toList.map (·.2) := by
      apply List.ext_getElem?
      intro j
      rw [List.getElem?_map, Array.getElem?_toList (xs := walkOf X.w a ep es)]
      cases e : acc[j]? with
      | none =>
        have : L.length ≤ j := by rw [← hl]; exact List.getElem?_eq_none_iff.mp e
        rw [Array.getElem?_eq_none_iff.mpr (by rw [walk_size, hm.size]; exact this)]; rfl
      | some v => obtain ⟨x, h1, h2⟩ := hP j v e; rw [h1, h2]; rfl
    rw [hacc]
    obtain ⟨ms, m1, m2⟩ := intsAre_perm (hp.map (·.2)) (ents_vals hm.ents)
    exact ⟨ms, m1, m2⟩
  · have hup : (L.map fun (n : Nat) => (n : Int)).Pairwise (· ≤ ·) := by
      rw [List.pairwise_map]
      exact (subs_len hm.sub).2.2.imp fun h => by omega
    have e2 : ns' = L.map fun (n : Nat) => (n : Int) := List.Perm.eq_of_pairwise (fun _ _ _ _ a b => Int.le_antisymm a b) h3 hup h2
    subst e2
    have hBn : H B = none := hok_none I.hok hB
    refine ⟨.ref B, upd H B (.lst (L.map fun (n : Nat) => V.int n)), inv_many I hk (same_new hBn) (fun b hb hb' => ?_) (fun c o hc ho => ?_), rfl, q B hBn⟩
    · by_cases z : b = B
      · rw [z]; exact hB
      · rw [upd_ne z] at hb'; exact absurd hb hb'
    · by_cases z : c = B
      · subst z
        rw [upd_same] at ho
        cases ho
        refine ⟨by rw [List.length_map]; exact hz, out.toList, e, ?_, ?_⟩
        · have := vals_of_ints h1
          rwa [List.map_map] at this
        · rw [hg, Array.toArray_toList]
      · rw [upd_ne z] at ho; rw [hc] at ho; cases ho
def fSorted (f : Cf) : Ef := fun ε => (f ε).map fun p => (.list (intL p.1), p.2)
end
end PD

set_option Elab.async false
set_option linter.all false
set_option maxRecDepth 100000
set_option maxHeartbeats 4000000
namespace PD
open PySem L2
section
variable {X : Cx}
def pairD (t : Int × Int) : PyData := .tuple [.int t.1, .int t.2]
end
end PD

set_option Elab.async false
set_option linter.all false
set_option maxRecDepth 100000
set_option maxHeartbeats 4000000
namespace PD
open PySem L2
section
variable {X : Cx} {a b e : Expr} {fa fb : Ef} {fs : Af} {pos apos cpos p : Pos}
def intKV : KVs → Option (List (Int × Int))
  | [] => some []
  | (.int k, .int v) :: es => (intKV es).map ((k, v) :: ·)
  | _ :: _ => none
def fItemsS (fa : Ef) : Ef := fun ε => (fa ε).bind fun p => match p.1 with
  | .dict es => (intKV es).map fun ps => (.list (sortT (ps.map pairD)), p.2)
  | _ => none
def dBools : List PyData → Option (List Bool)
  | [] => some []
  | .bool i :: ds => (dBools ds).map (i :: ·)
  | _ :: _ => none
theorem dBools_some : ∀ {ds : List PyData} {ns : List Bool}, dBools ds = some ns → ds = ns.map PyData.bool
  | [], _, h => by cases h; rfl
  | .bool i :: ds, _, h => by
    obtain ⟨ns, h1, rfl⟩ := Option.map_eq_some_iff.mp h
    rw [dBools_some h1]; rfl
  | .none :: _, _, h => by cases h
  | .int _ :: _, _, h => by cases h
  | .str _ :: _, _, h => by cases h
  | .list _ :: _, _, h => by cases h
  | .tuple _ :: _, _, h => by cases h
  | .dict _ :: _, _, h => by cases h
theorem dBools_map (ns : List Bool) : dBools (ns.map PyData.bool) = some ns := by
  induction ns with
  | nil => rfl
  | cons n ns ih => show (dBools (ns.map PyData.bool)).map (n :: ·) = _; rw [ih]; rfl
end
end PD

set_option Elab.async false
set_option linter.all false
set_option maxRecDepth 100000
set_option maxHeartbeats 4000000
namespace PD
open PySem L2
section
variable {ε ε1 ε2 : En} {f : Sf} {ga gb : Tf} {fa fb fc : Ef} {bind : PyData → En → Option En} {vs : List Nat}
theorem comp_map {α : Type} (D : α → PyData) (p : α → Bool) (q : α → PyData) : ∀ (as : List α), (∀ a ∈ as, ∃ ε1, bind (D a) ε = some ε1 ∧ ga ε1 = some (p a, ε1) ∧ (p a = true → fa ε1 = some (q a, ε1)) ∧ clr ε1 vs = ε) →
    compF bind ga fa vs (as.map D) ε = some ((as.filter p).map q, ε)
  | [], _ => rfl
  | a :: as, h => by
    obtain ⟨ε1, h1, h2, h3, h4⟩ := h a (List.mem_cons_self ..)
    have ih := comp_map D p q as fun x hx => h x (List.mem_cons_of_mem _ hx)
    show ((bind (D a) ε).bind fun ε1 => (ga ε1).bind fun p => if p.1 = true then (fa p.2).bind fun q => (compF bind ga fa vs (as.map D) (clr q.2 vs)).map fun r => (q.1 :: r.1, r.2) else compF bind ga fa vs (as.map D) (clr p.2 vs)) = _
    rw [h1]
    simp only [Option.bind_some]
    rw [h2]
    simp only [Option.bind_some]
    cases hp : p a with
    | true =>
      rw [if_pos rfl, h3 hp]
      simp only [Option.bind_some]
      rw [h4, ih, List.filter_cons_of_pos hp]; rfl
    | false =>
      rw [if_neg Bool.false_ne_true, h4, ih, List.filter_cons_of_neg (by rw [hp]; exact Bool.false_ne_true)]
section
variable {β : Type} (emb : β → PyData)
/-- the keys: none twice, from 0 to 6 -/
structure Ks (ps : List (Int × β)) : Prop where
  nd : (ps.map (·.1)).Nodup
  rg : ∀ k ∈ ps.map (·.1), 0 ≤ k ∧ k < 7
end
end
end PD

set_option Elab.async false
set_option linter.all false
set_option maxRecDepth 100000
set_option maxHeartbeats 4000000
namespace PD
open PySem L2
theorem mem_insN {k : Nat} {L : List Nat} {j : Nat} (hk : k ∉ L) : j ∈ insN k L ↔ j = k ∨ j ∈ L := by
  unfold insN
  simp only [List.mem_append, List.mem_cons, List.mem_filter, decide_eq_true_eq]
  constructor
  · rintro (⟨a, _⟩ | rfl | ⟨a, _⟩)
    · exact .inr a
    · exact .inl rfl
    · exact .inr a
  · rintro (rfl | h)
    · exact .inr (.inl rfl)
    · rcases Nat.lt_trichotomy j k with h1 | h1 | h1
      · exact .inl ⟨h, h1⟩
      · exact .inr (.inl h1)
      · exact .inr (.inr ⟨h, h1⟩)
theorem mem_addN {k : Nat} {L : List Nat} {j : Nat} : j ∈ addN k L ↔ j = k ∨ j ∈ L := by
  unfold addN
  by_cases h : k ∈ L
  · rw [if_pos h]
    exact ⟨.inr, fun z => z.elim (fun e => e ▸ h) id⟩
  · rw [if_neg h]; exact mem_insN h
theorem insN_up {k : Nat} {L : List Nat} (h : L.Pairwise (· < ·)) : (insN k L).Pairwise (· < ·) := by
  unfold insN
  rw [List.pairwise_append]
  refine ⟨h.filter _, ?_, fun a ha b hb => ?_⟩
  · rw [List.pairwise_cons]
    refine ⟨fun b hb => ?_, h.filter _⟩
    simpa using (List.mem_filter.mp hb).2
  · have h1 : a < k := by simpa using (List.mem_filter.mp ha).2
    rcases List.mem_cons.mp hb with rfl | hb
    · exact h1
    · have : k < b := by simpa using (List.mem_filter.mp hb).2
      omega
theorem addN_up {k : Nat} {L : List Nat} (h : L.Pairwise (· < ·)) : (addN k L).Pairwise (· < ·) := by
  unfold addN
  split
  · exact h
  · exact insN_up h
theorem setFold_ints : ∀ (ns : List Int) (L : List Nat), L.Pairwise (· < ·) → (∀ n ∈ ns, 0 ≤ n ∧ n < 7) → ∃ M, setFold L (ns.map PyData.int) = some M ∧ M.Pairwise (· < ·) ∧ ∀ j, j ∈ M ↔ j ∈ L ∨ (j : Int) ∈ ns
  | [], L, h, _ => ⟨L, rfl, h, fun j => by simp⟩
  | n :: ns, L, h, hr => by
    have hn := hr n (List.mem_cons_self ..)
    obtain ⟨M, e, h1, h2⟩ := setFold_ints ns (addN n.toNat L) (addN_up h) fun m hm => hr m (List.mem_cons_of_mem _ hm)
    refine ⟨M, ?_, h1, fun j => ?_⟩
    · show (if 0 ≤ n ∧ n < 7 then setFold (addN n.toNat L) (ns.map PyData.int) else none) = _
      rw [if_pos hn]; exact e
    · rw [h2, mem_addN, List.mem_cons]
      constructor
      · rintro ((rfl | h) | h)
        · exact .inr (.inl (Int.toNat_of_nonneg hn.1))
        · exact .inl h
        · exact .inr (.inr h)
      · rintro (h | h | h)
        · exact .inl (.inr h)
        · exact .inl (.inl (by omega))
        · exact .inr h
theorem rising_eq {M N : List Nat} (h1 : M.Pairwise (· < ·)) (h2 : N.Pairwise (· < ·)) (h : ∀ j, j ∈ M ↔ j ∈ N) : M = N :=
  List.Perm.eq_of_pairwise (fun a b _ _ x y => absurd (Nat.lt_trans x y) (Nat.lt_irrefl _)) h1 h2 ((List.perm_ext_iff_of_nodup (h1.imp fun {a b} h e => by omega) (h2.imp fun {a b} h e => by omega)).mpr h)
end PD

set_option Elab.async false
set_option linter.all false
set_option maxRecDepth 100000
set_option maxHeartbeats 4000000
namespace PD
open PySem L2
def clrO (vs : List Nat) : Out → Out
  | .nx ε => .nx (clr ε vs)
  | .ct ε => .ct (clr ε vs)
  | .bk ε => .bk (clr ε vs)
  | o => o
def sClr (vs : List Nat) (f : Sf) : Sf := fun ε => (f ε).map (clrO vs)
def sPre (vs : List Nat) (f : Sf) : Sf := fun ε => f (clr ε vs)
theorem Rep.clr {K : PySem.W.Frag} {B G H : Hp} {z : Option (Option V)} {σ : St} {ε : En} (r : Rep K B G H z σ ε) (vs : List Nat) : Rep K B G H z σ (PD.clr ε vs) :=
  r.agree (by rw [clr_length]; exact r.len) fun j s hs hj => ⟨(clr_some hj hs).2, rfl⟩
theorem OutOk.clr {K : PySem.W.Frag} {B G : Hp} {z : Option (Option V)} {D : Ends} {o : Out} (vs : List Nat) (h : OutOk K B G z D (clrO vs o)) : OutOk K B G z D o := by
  cases o with
  | nx ε => exact fun G' σ' H' g' r => h G' σ' H' g' (r.clr vs)
  | rt d ε => exact h
  | bk ε => exact fun G' σ' H' g' r => h G' σ' H' g' (r.clr vs)
  | ct ε => exact fun G' σ' H' g' r => h G' σ' H' g' (r.clr vs)
  | rf d ε => exact h
section
variable {X : Cx} {st : Stmt} {rest : List Stmt} {f : Sf} {vs : List Nat}
theorem bv_clr (h : Bv X rest f) : Bv X rest (sClr vs f) := ⟨pss_mono h.p fun D σ H ⟨B, G, z, ε, o, r, ef, k⟩ => by
  obtain ⟨o1, e1, rfl⟩ := Option.map_eq_some_iff.mp ef
  exact ⟨B, G, z, ε, o1, r, e1, k.clr vs⟩⟩
theorem sv_pre (h : Sv X st f) : Sv X st (sPre vs f) := ⟨ps_mono h.p fun D σ H ⟨B, G, z, ε, o, r, ef, k⟩ => ⟨B, G, z, PD.clr ε vs, o, r.clr vs, ef, k⟩⟩
end
section
variable {bind : PyData → En → Option En} {f : Sf} {ε : En}
theorem loop_same {α : Type} (D : α → PyData) : ∀ (as : List α), (∀ a ∈ as, (bind (D a) ε).bind f = some (.nx ε)) → loopF bind f (as.map D) ε = some (.nx ε)
  | [], _ => rfl
  | a :: as, h => by
    have h1 := h a (List.mem_cons_self ..)
    have ih := loop_same D as fun x hx => h x (List.mem_cons_of_mem _ hx)
    obtain ⟨ε1, e1, e2⟩ := Option.bind_eq_some_iff.mp h1
    show ((bind (D a) ε).bind fun ε1 => (f ε1).bind _) = _
    rw [e1]; simp only [Option.bind_some]; rw [e2]; exact ih
/-- a comprehension turn by turn -/
def compStep (bind : PyData → En → Option En) (ga : Tf) (fa : Ef) (vs : List Nat) (d : PyData) (ε : En) : Option (Option PyData × En) := (bind d ε).bind fun ε1 => (ga ε1).bind fun p => if p.1 = true then (fa p.2).map fun q => (some q.1, clr q.2 vs) else some (none, clr p.2 vs)
theorem comp_fm {ga : Tf} {fa : Ef} {vs : List Nat} {α : Type} (D : α → PyData) (q : α → Option PyData) : ∀ (as : List α), (∀ a ∈ as, compStep bind ga fa vs (D a) ε = some (q a, ε)) → compF bind ga fa vs (as.map D) ε = some (as.filterMap q, ε)
  | [], _ => rfl
  | a :: as, h => by
    have h1 := h a (List.mem_cons_self ..)
    have ih := comp_fm (ga := ga) (fa := fa) (vs := vs) D q as fun x hx => h x (List.mem_cons_of_mem _ hx)
    show ((bind (D a) ε).bind fun ε1 => (ga ε1).bind fun p => if p.1 = true then (fa p.2).bind fun q => (compF bind ga fa vs (as.map D) (clr q.2 vs)).map fun r => (q.1 :: r.1, r.2) else compF bind ga fa vs (as.map D) (clr p.2 vs)) = _
    unfold compStep at h1
    obtain ⟨ε1, e1, h2⟩ := Option.bind_eq_some_iff.mp h1
    obtain ⟨⟨b, ε2⟩, e2, h3⟩ := Option.bind_eq_some_iff.mp h2
    rw [e1]; simp only [Option.bind_some]; rw [e2]; simp only [Option.bind_some]
    cases b with
    | true =>
      rw [if_pos rfl] at h3 ⊢
      obtain ⟨⟨y, ε3⟩, e3, h4⟩ := Option.map_eq_some_iff.mp h3
      obtain ⟨e4, e5⟩ := Prod.mk.inj h4
      rw [e3]; simp only [Option.bind_some]
      simp only at e5
      rw [e5, ih, List.filterMap_cons_some e4.symm]; rfl
    | false =>
      rw [if_neg Bool.false_ne_true] at h3 ⊢
      obtain ⟨e4, e5⟩ := Prod.mk.inj (Option.some.inj h3)
      simp only at e5 ⊢
      rw [e5, ih, List.filterMap_cons_none e4.symm]
theorem comp_all {ga : Tf} {fa : Ef} {vs : List Nat} {α : Type} (D : α → PyData) (q : α → PyData) (as : List α) (h : ∀ a ∈ as, compStep bind ga fa vs (D a) ε = some (some (q a), ε)) : compF bind ga fa vs (as.map D) ε = some (as.map q, ε) := by
  rw [comp_fm D (fun a => some (q a)) as h]
  congr 2
  exact List.filterMap_eq_map ▸ rfl
variable {ds : List PyData} {ε0 : En}
theorem loop_id {α : Type} (D : α → PyData) (as : List α) (hd : ds = as.map D) (h : ∀ a ∈ as, (bind (D a) ε0).bind f = some (.nx ε0)) : loopF bind f ds ε0 = some (.nx ε0) := by
  subst hd
  exact loop_same D as h
theorem comp_goM {ga : Tf} {fa : Ef} {vs : List Nat} {α : Type} (D : α → PyData) (q : α → PyData) (as : List α) (hd : ds = as.map D) (h : ∀ a ∈ as, compStep bind ga fa vs (D a) ε0 = some (some (q a), ε0)) : compF bind ga fa vs ds ε0 = some (as.map q, ε0) := by
  subst hd
  exact comp_all D q as h
theorem loop_ex {α β : Type} (D : α → PyData) (env : β → En) (P : Nat → β → Prop) : ∀ (as : List α) (b : β), P as.length b → (∀ a ∈ as, ∀ n b, P (n + 1) b → ∃ b', P n b' ∧ (bind (D a) (env b)).bind f = some (.nx (env b'))) →
    ∃ b', P 0 b' ∧ loopF bind f (as.map D) (env b) = some (.nx (env b'))
  | [], b, hb, _ => ⟨b, hb, rfl⟩
  | a :: as, b, hb, h => by
    obtain ⟨b1, h1, e⟩ := h a (List.mem_cons_self ..) as.length b hb
    obtain ⟨b2, h2, e3⟩ := loop_ex D env P as b1 h1 fun y hy => h y (List.mem_cons_of_mem _ hy)
    obtain ⟨ε1, e1, e2⟩ := Option.bind_eq_some_iff.mp e
    refine ⟨b2, h2, ?_⟩
    show ((bind (D a) (env b)).bind fun ε1 => (f ε1).bind _) = _
    rw [e1]; simp only [Option.bind_some]; rw [e2]; exact e3
theorem loop_foldN {α β : Type} (D : α → PyData) (step : β → α → β) (env : β → En) (P : Nat → β → Prop) : ∀ (as : List α) (b : β), P as.length b → (∀ a ∈ as, ∀ n b, P (n + 1) b → P n (step b a) ∧ (bind (D a) (env b)).bind f = some (.nx (env (step b a)))) →
    loopF bind f (as.map D) (env b) = some (.nx (env (as.foldl step b)))
  | [], b, _, _ => rfl
  | a :: as, b, hb, h => by
    obtain ⟨hb', e⟩ := h a (List.mem_cons_self ..) as.length b hb
    obtain ⟨ε1, e1, e2⟩ := Option.bind_eq_some_iff.mp e
    have e3 := loop_foldN D step env P as (step b a) hb' fun y hy => h y (List.mem_cons_of_mem _ hy)
    show ((bind (D a) (env b)).bind fun ε1 => (f ε1).bind _) = _
    rw [e1]; simp only [Option.bind_some]; rw [e2]; exact e3
theorem loop_goN {α β : Type} (D : α → PyData) (step : β → α → β) (env : β → En) (P : Nat → β → Prop) (as : List α) (b : β) (hd : ds = as.map D) (h0 : ε0 = env b) (hP : P as.length b) (h : ∀ a ∈ as, ∀ n b, P (n + 1) b → P n (step b a) ∧ (bind (D a) (env b)).bind f = some (.nx (env (step b a)))) :
    loopF bind f ds ε0 = some (.nx (env (as.foldl step b))) := by
  subst hd h0
  exact loop_foldN D step env P as b hP h
end
end PD

set_option Elab.async false
set_option linter.all false
set_option maxRecDepth 100000
set_option maxHeartbeats 4000000
namespace PD
open PySem L2
section
variable {ε : En} {f g : Sf} {fa fb fc : Ef} {fs fk : Af} {ga gb : Tf} {bind : PyData → En → Option En} {vs : List Nat} {i n : Nat}
theorem qSeq : sSeq f g ε = (f ε).bind fun o => match o with | .nx ε' => g ε' | o => some o := rfl
theorem qPass : sPass ε = some (.nx ε) := rfl
theorem qDrop : sDrop fa ε = (fa ε).map fun p => .nx p.2 := rfl
theorem qRet : sRet fa ε = (fa ε).map fun p => .rt p.1 p.2 := rfl
theorem qRetF : sRetF fa ε = (fa ε).map fun p => .rf p.1 p.2 := rfl
theorem qIf : sIf ga f g ε = (ga ε).bind fun p => if p.1 = true then f p.2 else g p.2 := rfl
theorem qAsg : sAsg i fa ε = (fa ε).map fun p => .nx (p.2.set i (.fz p.1)) := rfl
theorem qAsgM : sAsgM i fa ε = (fa ε).map fun p => .nx (p.2.set i (.mu p.1)) := rfl
theorem qbName {d : PyData} : bName i d ε = some (ε.set i (.fz d)) := rfl
theorem qNames0 : bNames [] [] ε = some ε := rfl
theorem qNamesS {is : List Nat} {d : PyData} {ds : List PyData} : bNames (i :: is) (d :: ds) ε = bNames is ds (ε.set i (.fz d)) := rfl
theorem qTup {is : List Nat} {ds : List PyData} : bTup is (.tuple ds) ε = bNames is ds ε := rfl
theorem qAsgT {is : List Nat} : sAsgT is fa ε = (fa ε).bind fun p => (bTup is p.1 p.2).map .nx := rfl
theorem qFor : sFor fs bind f ε = (fs ε).bind fun p => loopF bind f p.1 p.2 := rfl
theorem qPre : sPre vs f ε = f (clr ε vs) := rfl
theorem qClr : sClr vs f ε = (f ε).map (clrO vs) := rfl
theorem qClrN : clrO vs (.nx ε) = .nx (clr ε vs) := rfl
theorem qClrC : clrO vs (.ct ε) = .ct (clr ε vs) := rfl
theorem qClrB : clrO vs (.bk ε) = .bk (clr ε vs) := rfl
theorem qClrR {d : PyData} : clrO vs (.rt d ε) = .rt d ε := rfl
theorem qClrF {d : PyData} : clrO vs (.rf d ε) = .rf d ε := rfl
theorem qclr0 : clr ε [] = ε := rfl
theorem qclrS {v : Nat} : clr ε (v :: vs) = (clr ε vs).set v .un := rfl
theorem qC {d : PyData} : fC d ε = some (d, ε) := rfl
theorem qVar : fVar i ε = match ε[i]? with | some (.fz d) => some (d, ε) | some (.mu d) => some (d, ε.set i (.fz d)) | _ => none := rfl
theorem qBin {q : PyData → PyData → Option PyData} : fBin q fa fb ε = (fa ε).bind fun p => (fb p.2).bind fun r => (q p.1 r.1).map fun c => (c, r.2) := rfl
theorem qUn {q : PyData → Option PyData} : fUn q fa ε = (fa ε).bind fun p => (q p.1).map fun c => (c, p.2) := rfl
theorem qAnd : fAnd fa fb ε = (fa ε).bind fun p => (dTrue p.1).bind fun b => if b = true then fb p.2 else some (.bool false, p.2) := rfl
theorem qOr : fOr fa fb ε = (fa ε).bind fun p => (dTrue p.1).bind fun b => if b = true then some (.bool true, p.2) else fb p.2 := rfl
theorem qTrue {b : Bool} : dTrue (.bool b) = some b := rfl
theorem qNot {b : Bool} : dNot (.bool b) = some (.bool (!b)) := rfl
theorem qIfE : fIfE ga fa fb ε = (ga ε).bind fun p => if p.1 = true then fa p.2 else fb p.2 := rfl
theorem qNil : fNil ε = some ([], ε) := rfl
theorem qCons : fCons fa fs ε = (fa ε).bind fun p => (fs p.2).map fun r => (p.1 :: r.1, r.2) := rfl
theorem qCall {F : List PyData → Option PyData} : fCall F fs ε = (fs ε).bind fun p => (F p.1).map fun c => (c, p.2) := rfl
theorem qCallK {F : List PyData → List PyData → Option PyData} : fCallK F fs fk ε = (fs ε).bind fun p => (fk p.2).bind fun r => (F p.1 r.1).map fun c => (c, r.2) := rfl
theorem qgd1 {F : List PyData → Option PyData} {a : PyData} : gd 1 F [a] = F [a] := rfl
theorem qgd2 {F : List PyData → Option PyData} {a b : PyData} : gd 2 F [a, b] = F [a, b] := rfl
theorem qgd3 {F : List PyData → Option PyData} {a b c : PyData} : gd 3 F [a, b, c] = F [a, b, c] := rfl
theorem qgd4 {F : List PyData → Option PyData} {a b c d : PyData} : gd 4 F [a, b, c, d] = F [a, b, c, d] := rfl
theorem qgd5 {F : List PyData → Option PyData} {a b c d e : PyData} : gd 5 F [a, b, c, d, e] = F [a, b, c, d, e] := rfl
theorem qgd6 {F : List PyData → Option PyData} {a b c d e k : PyData} : gd 6 F [a, b, c, d, e, k] = F [a, b, c, d, e, k] := rfl
theorem qgVal : gVal fa ε = (fa ε).bind fun p => (dTrue p.1).map fun b => (b, p.2) := rfl
theorem qgAnd : gAnd ga gb ε = (ga ε).bind fun p => if p.1 = true then gb p.2 else some (false, p.2) := rfl
theorem qgOr : gOr ga gb ε = (ga ε).bind fun p => if p.1 = true then some (true, p.2) else gb p.2 := rfl
theorem qgNot : gNot ga ε = (ga ε).map fun p => (!p.1, p.2) := rfl
theorem qgTru : gTru fa ε = (fa ε).bind fun p => (dTru p.1).map fun b => (b, p.2) := rfl
theorem qgYes : gYes ε = some (true, ε) := rfl
theorem qTruB {b : Bool} : dTru (.bool b) = some b := rfl
theorem qTruN : dTru .none = some false := rfl
theorem qTruL {ds : List PyData} : dTru (.list ds) = some (!ds.isEmpty) := by cases ds <;> rfl
theorem qTruT {ds : List PyData} : dTru (.tuple ds) = some (!ds.isEmpty) := by cases ds <;> rfl
theorem qSl {fl fh : Of} : fSl fa fl fh ε = (fa ε).bind fun p => (fl p.2).bind fun q => (fh q.2).bind fun r => (dSl p.1 q.1 r.1).map fun d => (d, r.2) := rfl
theorem qoN : oNone ε = some (none, ε) := rfl
theorem qoS : oSome fa ε = (fa ε).bind fun p => (dInt p.1).map fun i => (some i, p.2) := rfl
theorem qInt {k : Int} : dInt (.int k) = some k := rfl
theorem qIsi {s : String} : fIsi s fa ε = (fa ε).map fun p => (.bool (isSub (tyName p.1) s), p.2) := rfl
theorem qSrc : fSrc fa ε = (fa ε).bind fun p => (dSeq p.1).map fun ds => (ds, p.2) := rfl
theorem qSeqL {ds : List PyData} : dSeq (.list ds) = some ds := rfl
theorem qSeqT {ds : List PyData} : dSeq (.tuple ds) = some ds := rfl
theorem qRow {F : PyData → List PyData → Option (PyData × PyData)} : fRow i n F fs ε = match ε[i]? with
  | some (.mu _) => (fs ε).bind fun q => match q.2[i]? with
    | some (.mu r) => if q.1.length + 1 = n then (F r q.1).map fun t => (t.1, q.2.set i (.mu t.2)) else none
    | _ => none
  | _ => none := rfl
theorem qComp : fComp fs bind ga fa vs ε = (fs ε).bind fun p => (compF bind ga fa vs p.1 (clr p.2 vs)).bind fun r => (dLst r.1).map fun d => (d, r.2) := rfl
theorem qIxM : fIxM i fb ε = (asList ε i).bind fun _ => (fb ε).bind fun q => (asList q.2 i).bind fun ds => (dInt q.1).bind fun j => (atI ds j).map fun d => (d, q.2) := rfl
theorem qAppM : sAppM i fa ε = (asList ε i).bind fun _ => (fa ε).bind fun p => (asList p.2 i).bind fun ds => if ds.length < sizeLine then some (.nx (p.2.set i (.mu (.list (ds ++ [p.1]))))) else none := rfl
theorem qAsL : asList ε i = match ε[i]? with | some (.mu (.list ds)) => some ds | _ => none := rfl
theorem qAsD : asDict ε i = match ε[i]? with | some (.mu (.dict ds)) => some ds | _ => none := rfl
theorem qDict0 : fDict0 ε = some (.dict [], ε) := rfl
theorem qPutM : sPutM i fa fb ε = (fa ε).bind fun p => (asDict p.2 i).bind fun _ => (fb p.2).bind fun q => (asDict q.2 i).bind fun es => (keyD q.1).bind fun k => if es.length < sizeLine then some (.nx (q.2.set i (.mu (.dict (putD es k p.1))))) else none := rfl
theorem qGetM : fGetM i fa fb ε = (asDict ε i).bind fun _ => (fa ε).bind fun p => (fb p.2).bind fun q => (asDict q.2 i).bind fun es => (keyD p.1).map fun k => ((getD es k).getD q.1, q.2) := rfl
theorem qAtM : fAtM i fa ε = (asDict ε i).bind fun _ => (fa ε).bind fun p => (asDict p.2 i).bind fun es => (keyD p.1).bind fun k => (getD es k).map fun d => (d, p.2) := rfl
theorem qKeyI {k : Int} : keyD (.int k) = some (.inl k) := rfl
theorem qKeyS {x : Str} : keyD (.str x) = some (.inr x) := rfl
theorem qoutP {d : PyData} : outP (some (.rt d ε)) = some d := rfl
theorem qoutPn : outP (some (.nx ε)) = some .none := rfl
theorem qoutN {d : PyData} : outN (some (.rf d ε)) = some d := rfl
theorem qoutR {d r : PyData} {rest : En} : outR (some (.rt d (.mu r :: rest))) = some (d, r) := rfl
theorem qoutRn {r : PyData} {rest : En} : outR (some (.nx (.mu r :: rest))) = some (.none, r) := rfl
theorem qEnum : fEnum fs ε = (fs ε).bind fun p => match p.1 with | [.list ds] => some (enumD ds, p.2) | _ => none := rfl
theorem qRng1 : fRng1 fs ε = (fs ε).bind fun p => match p.1 with | [.int j] => if dR j = true then some (rangeD 0 j.toNat, p.2) else none | _ => none := rfl
theorem qRng2 : fRng2 fs ε = (fs ε).bind fun p => match p.1 with | [.int i, .int j] => if dR i = true ∧ dR j = true then some (rangeD i (j - i).toNat, p.2) else none | _ => none := rfl
theorem qSetC : fSetC fs bind ga fa vs ε = (fs ε).bind fun p => (compF bind ga fa vs p.1 (clr p.2 vs)).bind fun r => (setFold [] r.1).map fun L => (L, r.2) := rfl
theorem qSortedC {c : Cf} : fSorted c ε = (c ε).map fun p => (.list (intL p.1), p.2) := rfl
theorem qItemsS : fItemsS fa ε = (fa ε).bind fun p => match p.1 with | .dict es => (intKV es).map fun ps => (.list (sortT (ps.map pairD)), p.2) | _ => none := rfl
theorem qChain {g g' : PyData → PyData → Option PyData} : fChain g g' fa fb fc ε = (fa ε).bind fun p => (fb p.2).bind fun q => (g p.1 q.1).bind fun c => (dTrue c).bind fun b => if b = true then (fc q.2).bind fun r => (g' q.1 r.1).map fun c' => (c', r.2) else some (.bool false, q.2) := rfl
theorem qAddI {a b : Int} : dAdd (.int a) (.int b) = some (.int (a + b)) := rfl
theorem qSubI {a b : Int} : dSub (.int a) (.int b) = some (.int (a - b)) := rfl
theorem qLt {a b : Int} : dLt (.int a) (.int b) = some (.bool (decide (a < b))) := rfl
theorem qLe {a b : Int} : dLe (.int a) (.int b) = some (.bool (decide (a ≤ b))) := rfl
theorem qGt {a b : Int} : dGt (.int a) (.int b) = some (.bool (decide (b < a))) := rfl
theorem qGe {a b : Int} : dGe (.int a) (.int b) = some (.bool (decide (b ≤ a))) := rfl
theorem qIs {d : PyData} : dIs d .none = some (.bool (isNone d)) := rfl
theorem qIsNot {d : PyData} : dIsNot d .none = some (.bool (!isNone d)) := rfl
theorem qNeg {a : Int} : dNeg (.int a) = some (.int (-a)) := rfl
theorem qMax2 {a b : Int} : dMax [.int a, .int b] = some (.int (if b > a then b else a)) := rfl
theorem qIntB {b : Bool} : dIntOf [.bool b] = some (.int (if b then 1 else 0)) := rfl
theorem qIntI {b : Int} : dIntOf [.int b] = some (.int b) := rfl
theorem qLenL {ds : List PyData} : dLen [.list ds] = some (.int ds.length) := rfl
theorem qLenT {ds : List PyData} : dLen [.tuple ds] = some (.int ds.length) := rfl
theorem qTupL {ds : List PyData} : dTupOf [.list ds] = some (.tuple ds) := rfl
theorem qTupT {ds : List PyData} : dTupOf [.tuple ds] = some (.tuple ds) := rfl
theorem qListL {ds : List PyData} : dListOf [.list ds] = some (.list ds) := rfl
theorem qListT {ds : List PyData} : dListOf [.tuple ds] = some (.list ds) := rfl
theorem qSlL {ds : List PyData} {lo hi : Option Int} : dSl (.list ds) lo hi = some (.list (cutD ds lo hi)) := rfl
theorem qSlT {ds : List PyData} {lo hi : Option Int} : dSl (.tuple ds) lo hi = some (.tuple (cutD ds lo hi)) := rfl
theorem qdTup0 : dTup [] = some (.tuple []) := by unfold dTup; rw [if_pos (sizeLine_big (by simp))]
theorem qdTup1 {a : PyData} : dTup [a] = some (.tuple [a]) := by unfold dTup; rw [if_pos (sizeLine_big (by simp))]
theorem qdTup2 {a b : PyData} : dTup [a, b] = some (.tuple [a, b]) := by unfold dTup; rw [if_pos (sizeLine_big (by simp))]
theorem qdTup3 {a b c : PyData} : dTup [a, b, c] = some (.tuple [a, b, c]) := by unfold dTup; rw [if_pos (sizeLine_big (by simp))]
theorem qdTup4 {a b c d : PyData} : dTup [a, b, c, d] = some (.tuple [a, b, c, d]) := by unfold dTup; rw [if_pos (sizeLine_big (by simp))]
theorem qdTup5 {a b c d e : PyData} : dTup [a, b, c, d, e] = some (.tuple [a, b, c, d, e]) := by unfold dTup; rw [if_pos (sizeLine_big (by simp))]
theorem qdTup6 {a b c d e k : PyData} : dTup [a, b, c, d, e, k] = some (.tuple [a, b, c, d, e, k]) := by unfold dTup; rw [if_pos (sizeLine_big (by simp))]
theorem qdTup7 {a b c d e k l : PyData} : dTup [a, b, c, d, e, k, l] = some (.tuple [a, b, c, d, e, k, l]) := by unfold dTup; rw [if_pos (sizeLine_big (by simp))]
theorem qdLst {ds : List PyData} (h : ds.length ≤ 100000) : dLst ds = some (.list ds) := by unfold dLst; rw [if_pos (sizeLine_big h)]
theorem qAddL {a b : List PyData} (h : a.length + b.length ≤ 100000) : dAdd (.list a) (.list b) = some (.list (a ++ b)) := by
  show (if a.length + b.length ≤ sizeLine then some (PyData.list (a ++ b)) else none) = _
  rw [if_pos (sizeLine_big h)]
theorem qIxT {ds : List PyData} {k : Int} : dIx (.tuple ds) (.int k) = atI ds k := rfl
theorem qIxL {ds : List PyData} {k : Int} : dIx (.list ds) (.int k) = atI ds k := rfl
theorem at0 {a : PyData} {l : List PyData} : atI (a :: l) 0 = some a := by
  unfold atI ixN
  rw [if_pos (by decide), if_pos (by rw [List.length_cons]; omega)]; rfl
theorem atS {a : PyData} {l : List PyData} (k : Nat) : atI (a :: l) ((k + 1 : Nat) : Int) = atI l (k : Nat) := by
  unfold atI ixN
  rw [List.length_cons, if_pos (show (0 : Int) ≤ ((k + 1 : Nat) : Int) by omega), if_pos (show (0 : Int) ≤ ((k : Nat) : Int) by omega)]
  by_cases h : k < l.length
  · rw [if_pos (by omega), if_pos (by omega)]; simp
  · rw [if_neg (by omega), if_neg (by omega)]; rfl
theorem at1 {a b : PyData} {l : List PyData} : atI (a :: b :: l) 1 = some b := (atS 0).trans at0
theorem at2 {a b c : PyData} {l : List PyData} : atI (a :: b :: c :: l) 2 = some c := (atS 1).trans at1
theorem at3 {a b c d : PyData} {l : List PyData} : atI (a :: b :: c :: d :: l) 3 = some d := (atS 2).trans at2
theorem at4 {a b c d e : PyData} {l : List PyData} : atI (a :: b :: c :: d :: e :: l) 4 = some e := (atS 3).trans at3
theorem at5 {a b c d e k : PyData} {l : List PyData} : atI (a :: b :: c :: d :: e :: k :: l) 5 = some k := (atS 4).trans at4
theorem at6 {a b c d e k j : PyData} {l : List PyData} : atI (a :: b :: c :: d :: e :: k :: j :: l) 6 = some j := (atS 5).trans at5
theorem cutTo (xs : List PyData) (k : Nat) : cutD xs none (some (k : Int)) = xs.take k := by
  unfold cutD
  rw [HT.sIx_none, HT.sIx_nat, List.drop_zero, Nat.sub_zero]
  by_cases h : k ≤ xs.length
  · rw [Nat.min_eq_left h]
  · rw [Nat.min_eq_right (by omega), List.take_of_length_le (Nat.le_refl _), List.take_of_length_le (by omega)]
theorem cutFrom (xs : List PyData) (k : Nat) : cutD xs (some (k : Int)) none = xs.drop k := by
  unfold cutD
  rw [HT.sIx_none, HT.sIx_nat]
  by_cases h : k ≤ xs.length
  · rw [Nat.min_eq_left h, List.take_of_length_le (by rw [List.length_drop]; omega)]
  · rw [Nat.min_eq_right (by omega), List.drop_of_length_le (by omega), List.drop_of_length_le (by omega)]; simp
theorem cutT1 (xs : List PyData) : cutD xs none (some 1) = xs.take 1 := cutTo xs 1
theorem cutT2 (xs : List PyData) : cutD xs none (some 2) = xs.take 2 := cutTo xs 2
theorem cutT3 (xs : List PyData) : cutD xs none (some 3) = xs.take 3 := cutTo xs 3
theorem cutT4 (xs : List PyData) : cutD xs none (some 4) = xs.take 4 := cutTo xs 4
theorem cutF1 (xs : List PyData) : cutD xs (some 1) none = xs.drop 1 := cutFrom xs 1
theorem cutF2 (xs : List PyData) : cutD xs (some 2) none = xs.drop 2 := cutFrom xs 2
theorem cutF3 (xs : List PyData) : cutD xs (some 3) none = xs.drop 3 := cutFrom xs 3
end
end PD

set_option Elab.async false
set_option linter.all false
set_option maxRecDepth 100000
set_option maxHeartbeats 4000000
namespace PD
open PySem L2
section
variable {X : Cx} {tg a b e : Expr} {es : List Expr} {fa fb : Ef} {fs : Af} {p pos tpos : Pos}
theorem ev_globI {x : Str} {k : Int} {t : Nat} {pos : Pos} (hg : Gl X x) (hm : X.mg x = some (.int k t)) (hd : (x == ("__debug__" : Str)) = false := by decide) : Ev X (.Name x pos) (fC (.int k)) := ev_c (pe_glob (v := .int k) hg hm ⟨_, rfl⟩ hd) fun _ => .int k
def signs (x : Str) : List PyData := x.cps.toList.map fun c => .str ⟨#[c]⟩
def dSigns : PyData → Option (List PyData)
  | .str x => some (signs x)
  | _ => none
def fSrcS (fa : Ef) : Af := fun ε => (fa ε).bind fun p => (dSigns p.1).map fun ds => (ds, p.2)
theorem walks_str {K : PySem.W.Frag} {G : Hp} (x : Str) : Walks K G (Its x) (signs x) where
  go := fun i H s hi => by unfold signs at hi; rw [List.length_map] at hi; show i < x.cps.size; simpa using hi
  yld := fun i G1 H v H' s1 s2 hi y => by
    obtain ⟨rfl, c, hc, rfl⟩ := y
    refine ⟨.str ⟨#[c]⟩, G1, ?_, Grow.refl s2, .str _⟩
    unfold signs
    rw [List.getElem?_map]
    have : x.cps.toList[i]? = some c := by simpa using hc
    rw [this]; rfl
  stop := fun i H s hi => by unfold signs at hi; rw [List.length_map] at hi; show x.cps.size ≤ i; simpa using hi
theorem iv_str (he : Ev X e fa) : Iv X tg e (fSrcS fa) := ⟨pi_mono (pi_str he.p) fun σ H R ⟨B, G, z, ε, ds, ε', r, ef, q⟩ => by
  obtain ⟨⟨d1, ε1⟩, e1, ef1⟩ := Option.bind_eq_some_iff.mp ef
  obtain ⟨ds', e2, ef2⟩ := Option.map_eq_some_iff.mp ef1
  obtain ⟨rfl, rfl⟩ := Prod.mk.inj ef2
  refine ⟨B, G, z, ε, d1, ε1, r, e1, fun v G1 H1 g1 r1 p1 => ?_⟩
  cases p1 with
  | str x => cases e2; exact ⟨x, rfl, q _ G1 H1 g1 r1 (walks_str x)⟩
  | _ => cases e2⟩
def dInS : PyData → PyData → Option PyData
  | .str a, .str b => some (.bool (!(Builtin.Str.occurrences b a 0 b.length 1).isEmpty))
  | _, _ => none
theorem od_inS {K : PySem.W.Frag} : OpD K (fun x y H Q => ∃ i j, x = .str i ∧ y = .str j ∧ Q (.bl (!(Builtin.Str.occurrences j i 0 j.length 1).isEmpty)) H) dInS := fun v w d e c G H Q p1 p2 s eq q => by
  cases p1 with
  | str a =>
    cases p2 with
    | str b => cases eq; exact ⟨a, b, rfl, rfl, q _ G H (Grow.refl s) (.bl _)⟩
    | _ => cases eq
  | _ => cases eq
theorem in_sign (z : Str) (c : Nat) : dInS (.str ⟨#[c]⟩) (.str z) = some (.bool (decide (c ∈ z.cps.toList))) := by
  show some (PyData.bool _) = _
  rw [PySem.StrLaws.found_one z c]
def dStrs : List PyData → Option (List Str)
  | [] => some []
  | .str x :: ds => (dStrs ds).map (x :: ·)
  | _ :: _ => none
theorem dStrs_rp {K : PySem.W.Frag} {G : Hp} : ∀ {vs : List V} {ds : List PyData} {xs : List Str}, RpAll K G vs ds → dStrs ds = some xs → vs = xs.map V.str
  | _, _, _, .nil, h => by cases h; rfl
  | _, _, _, .cons p ps, h => by
    cases p with
    | str x =>
      obtain ⟨ns, h1, rfl⟩ := Option.map_eq_some_iff.mp h
      rw [dStrs_rp ps h1]; rfl
    | _ => cases h
theorem dStrs_map : ∀ (xs : List Str), dStrs (xs.map PyData.str) = some xs
  | [] => rfl
  | x :: xs => by show (dStrs (xs.map PyData.str)).map (x :: ·) = _; rw [dStrs_map xs]; rfl
def dJoin : PyData → PyData → Option PyData
  | .str a, .list ds => (dStrs ds).bind fun ys => if (ys.map (·.length)).sum + ys.length * a.length ≤ 16777216 then some (.str (Txt.join a ys)) else none
  | _, _ => none
theorem ev_join {apos : Pos} (ha : Ev X a fa) (hb : Ev X b fb) (hs : starEach [b] X.env = [(false, eval b X.env)] := by rfl) (hbase : attributeBase a "join" X.env (eval a X.env) = eval a X.env := by rfl) (hline : (apos.endLine == pos.line) = true := by rfl) :
    Ev X (.Call (.Attribute a "join" apos) [b] [] pos) (fBin dJoin fa fb) :=
  ⟨pe_mono (pe_join ha.p hb.p hs hbase hline) fun σ H Q ⟨B, G, z, ε, d, ε', rep, ef, q⟩ => by
    obtain ⟨⟨d1, ε1⟩, e1, ef1⟩ := Option.bind_eq_some_iff.mp ef
    obtain ⟨⟨d2, ε2⟩, e2, ef2⟩ := Option.bind_eq_some_iff.mp ef1
    obtain ⟨c, e3, ef3⟩ := Option.map_eq_some_iff.mp ef2
    obtain ⟨rfl, rfl⟩ := Prod.mk.inj ef3
    refine ⟨B, G, z, ε, d1, ε1, rep, e1, fun v1 G1 H1 g1 r1 p1 => ?_⟩
    cases p1 with
    | str a =>
      refine ⟨⟨a, rfl⟩, B, G1, z, ε1, d2, ε2, r1, e2, fun v2 G2 H2 g2 r2 p2 => ?_⟩
      cases p2 with
      | lst h1 h2 =>
        obtain ⟨ys, e4, e5⟩ := Option.bind_eq_some_iff.mp e3
        by_cases hc : (ys.map (·.length)).sum + ys.length * a.length ≤ 16777216
        · rw [if_pos hc] at e5
          cases e5
          have hx := dStrs_rp h2 e4
          subst hx
          exact ⟨a, _, ys, rfl, rfl, .inl (r2.sub.seq h1), hc, q _ G2 H2 (g1.trans g2) r2 (.str _)⟩
        · rw [if_neg hc] at e5; cases e5
      | _ => cases e3
    | _ => cases e3⟩
end
end PD

set_option Elab.async false
set_option linter.all false
set_option maxRecDepth 100000
set_option maxHeartbeats 4000000
namespace PD
open PySem L2 PySem.Spec PyProof.Rows
section
variable {prog : Program} {w : World} {A : Around} {E : Value → Shared → Prop}
end


end PD

set_option Elab.async false
set_option linter.all false
set_option maxRecDepth 100000
set_option maxHeartbeats 4000000
namespace PD
open PySem L2 PySem.Spec PyProof.Rows
section
variable {X : Cx}
end
inductive RpKs (K : PySem.W.Frag) (G : Hp) : List (Key × V) → List (Key × PyData) → Prop
  | nil : RpKs K G [] []
  | cons {k : Key} {v : V} {d : PyData} {vs : List (Key × V)} {ds : List (Key × PyData)} : Rp K G v d → RpKs K G vs ds → RpKs K G ((k, v) :: vs) ((k, d) :: ds)
end PD

set_option Elab.async false
set_option linter.all false
set_option maxRecDepth 100000
set_option maxHeartbeats 4000000
namespace PD
open PySem L2 PyProof.Rows PyProof.Rows.KTD
structure TabK (K : PySem.W.Frag) (a : Addr) (D : List (Str × Value)) : Prop where
  sys : (a == sysModules) = false
  ex : ∃ o es ep, K.lookup a = some o ∧ o.ExactDict ∧ o.data = .dict es ep ∧ Rows (fun d v => d = v) es.toList D
section
variable {prog : Program} {w : World} {A : Around} {E : Value → Shared → Prop} {s : Shared} {K : PySem.W.Frag} {a : Addr} {D : List (Str × Value)} {k : Str} {tk : Tok}
theorem dictGet_tab {Q : Option Value → Shared → Prop} (T : TabK K a D) (X : K.In s.heap) (h : Q (datumAt k D) { s with toks := s.toks + 1 }) : wpAny (model prog w) A (dictGet a (.str k tk)) Q E s := by
  obtain ⟨_, o, es, ep, ho, hc, hd, hr⟩ := T
  have ho := X _ _ ho
  unfold dictGet
  try with_reducible refine wpAny_holding ?_
  refine wpAny_bind (wpAny_pyHash_str (wpAny_bind (kt_dictFind_strs (s := { s with toks := s.toks + 1 }) ho hd (by obtain ⟨l⟩ := es; simpa using hr.exact) ?_)))
  have hq : Q (findBy (fun k v => v.isStr k) es k) { s with toks := s.toks + 1 } := by
    have hf : findBy (fun k v => v.isStr k) es k = (es.toList.find? fun e => e.key.isStr k).map (·.val) := by
      obtain ⟨l⟩ := es
      simp [findBy]
    rw [hf]
    cases hat : datumAt k D with
    | some d => obtain ⟨v, hv, hfl⟩ := hr.find_some hat; rw [hv]; subst hfl; rw [hat] at h; exact h
    | none => rw [hr.find_none hat]; rw [hat] at h; exact h
  rw [findBy_of_findIdx?] at hq
  cases hi : es.findIdx? fun e => e.key.isStr k with
  | none => rw [hi] at hq; exact wpAny_pure hq
  | some i => rw [hi] at hq; exact wpAny_bind (wpAny_dictEntries (s := { s with toks := s.toks + 1 }) ho hd (wpAny_pure hq))
theorem TabK.typeIs (T : TabK K a D) (X : K.In s.heap) : s.TypeIs (.ref a) "dict" := let ⟨_, o, _, _, ho, hc, _⟩ := T; ⟨o, X _ _ ho, hc.1⟩
theorem TabK.noDict {h : Heap} (T : TabK K a D) (X : K.In h) : ∀ b, Value.ref a = .ref b → ∃ ob, h.get? b = some ob ∧ ob.dict = none :=
  fun b e => by injection e with e; subst e; exact let ⟨_, o, _, _, ho, hc, _⟩ := T; ⟨o, X _ _ ho, hc.2.1⟩
theorem meets_tab1 : MeetsIn prog w (Builtin.«dict.get» ⟨[.ref a, .str k tk], []⟩) (fun _ R s => TabK K a D ∧ K.In s.heap ∧ R (.ok (.ret ((datumAt k D).getD .none))) { s with toks := s.toks + 1 }) :=
  .of_wp fun A R s ⟨T, X, h⟩ => by
    show wpAny _ _ (dictGet a (.str k tk) >>= _) _ _ s
    refine wpAny_bind (dictGet_tab T X ?_)
    cases hat : datumAt k D with
    | some v => rw [hat] at h; exact wpAny_pure ⟨v, rfl, h⟩
    | none =>
      rw [hat] at h
      show wpAny _ _ (Builtin.Dict.missed a (.str k tk) >>= _) _ _ _
      exact wpAny_bind (wpAny_missed_other T.sys (wpAny_pure ⟨.none, rfl, h⟩))
theorem get1_tab {Q : Value → Shared → Prop} (T : TabK K a D) (X : K.In s.heap) (h : Q ((datumAt k D).getD .none) { s with toks := s.toks + 1 }) : wpAny (model prog w) A (call (.builtin "dict.get") [.ref a, .str k tk]) Q E s :=
  call_meetsIn PySem.F.slot_dict_get (T.typeIs X) PySem.F.entry_dict_get (PySem.F.args_dict_get_2 _ _) (meets_tab1 (K := K) (D := D)) ⟨T, X, h⟩
end
/-- the table as data -/
inductive RpTab (K : PySem.W.Frag) : List (Str × Value) → List (Str × PyData) → Prop
  | nil : RpTab K [] []
  | cons {x : Str} {v : Value} {d : PyData} {D : List (Str × Value)} {L : List (Str × PyData)} (u : V) : RelV u v → (∀ G, Rp K G u d) → RpTab K D L → RpTab K ((x, v) :: D) ((x, d) :: L)
theorem RpTab.at {K : PySem.W.Frag} (k : Str) : ∀ {D : List (Str × Value)} {L : List (Str × PyData)}, RpTab K D L → (datumAt k D = none ∧ datumAt k L = none) ∨ ∃ v d u, datumAt k D = some v ∧ datumAt k L = some d ∧ RelV u v ∧ ∀ G, Rp K G u d
  | _, _, .nil => .inl ⟨rfl, rfl⟩
  | _, _, .cons (x := x) (v := v) (d := d) (D := D) (L := L) u r p t => by
    by_cases h : k = x
    · refine .inr ⟨v, d, u, ?_, ?_, r, p⟩ <;> simp [datumAt, h]
    · have e1 : datumAt k ((x, v) :: D) = datumAt k D := by simp [datumAt, h]
      have e2 : datumAt k ((x, d) :: L) = datumAt k L := by simp [datumAt, h]
      rw [e1, e2]; exact RpTab.at k t
def dTabGet (L : List (Str × PyData)) : PyData → Option PyData
  | .str k => some ((datumAt k L).getD .none)
  | _ => none
section
variable {X : Cx} {e : Expr} {fa : Ef} {x : Str} {a : Addr} {D : List (Str × Value)} {L : List (Str × PyData)} {p apos cpos : Pos}
theorem ev_tabGet (hg : Gl X x) (hm : X.mg x = some (.ref a)) (T : TabK X.K a D) (R : RpTab X.K D L) (he : Ev X e fa) (m : M1 X (.Name x p) "get" apos e cpos) (hd : (x == ("__debug__" : Str)) = false := by decide) :
    Ev X (.Call (.Attribute (.Name x p) "get" apos) [e] [] cpos) (fUn (dTabGet L) fa) := ⟨by
  intro pins s σ H Q I ⟨B, G, z, ε, d, ε', rep, ef, q⟩
  obtain ⟨⟨d1, ε1⟩, e1, ef1⟩ := Option.bind_eq_some_iff.mp ef
  obtain ⟨c, e3, ef2⟩ := Option.map_eq_some_iff.mp ef1
  obtain ⟨rfl, rfl⟩ := Prod.mk.inj ef2
  refine wpAny_Call_method m.base m.few m.line PySem.F.plainAttrs_dict PySem.F.slot_dict_get PySem.F.type_dict_get (ld_glob I hg hm ?_ hd)
  refine ⟨T.typeIs I.kIn, T.noDict I.kIn, ?_⟩
  rw [m.trees]
  have h1 := he.p pins s σ H (fun v1 H1 => ∃ k, v1 = .str k ∧ dTabGet L (.str k) = some c ∧ ∀ u, (∀ G, Rp X.K G u c) → Q u H1) I ⟨B, G, z, ε, d1, ε1, rep, e1, fun v1 G1 H1 g1 r1 p1 => by
    cases p1 with
    | str k => exact ⟨k, rfl, e3, fun u pu => q u G1 H1 g1 r1 (pu G1)⟩
    | _ => cases e3⟩
  refine Calls.callWith_builtin rfl (Calls.evalArgs_plain (Calls.spliced_cons (thn h1 fun iv s2 ⟨y, H2, I2, ry, k, ey, ec, q2⟩ => Calls.spliced_nil ?_)))
  subst ey
  obtain ⟨t, rfl⟩ := ry
  refine get1_tab T I2.kIn ?_
  have ec' : (datumAt k L).getD .none = c := Option.some.inj ec
  rcases R.at k with ⟨h1, h2⟩ | ⟨v, d, u, h1, h2, h3, h4⟩
  · rw [h1]; rw [h2] at ec'
    have : PyData.none = c := ec'
    subst this
    exact ⟨.non, H2, I2.tok _, rfl, q2 _ fun G => .non⟩
  · rw [h1]; rw [h2] at ec'
    have : d = c := ec'
    subst this
    exact ⟨u, H2, I2.tok _, h3, q2 _ h4⟩⟩
end
end PD

set_option Elab.async false
set_option linter.all false
set_option maxRecDepth 100000
set_option maxHeartbeats 4000000
namespace PD
open PySem L2
def dAll : List PyData → Option PyData
  | [.list ds] => (dBools ds).map fun ns => .bool (ns.all id)
  | _ => none
theorem cd_all {K : PySem.W.Frag} : CaD K (rAll K) dAll := fun vs ds c G H Q ps s eq q => by
  cases ps with
  | nil => cases eq
  | cons p ps =>
    cases ps with
    | cons _ _ => cases p <;> cases eq
    | nil =>
      cases p with
      | lst h1 h2 =>
        obtain ⟨ns, e1, rfl⟩ := Option.map_eq_some_iff.mp eq
        cases dBools_some e1
        have := h2.bls
        subst this
        exact ⟨_, ns, rfl, s.seq h1, q _ G H (Grow.refl s) (.bl _)⟩
      | _ => cases eq
theorem dAll_bools (bs : List Bool) : dAll [.list (bs.map PyData.bool)] = some (.bool (bs.all id)) := by
  show (dBools (bs.map PyData.bool)).map _ = _
  rw [dBools_map]; rfl
section
variable {X : Cx} {x : Str} {e e' : Expr} {pos pos' apos cpos : Pos} {fa fb : Ef}
end
end PD

set_option Elab.async false
set_option linter.all false
set_option maxRecDepth 100000
set_option maxHeartbeats 4000000
namespace PD
open PySem L2 PySem.Spec PyProof.Rows
def addAll (L : List Nat) (vs : List Nat) : List Nat := vs.foldl (fun L k => addN k L) L
section
variable {prog : Program} {w : World} {A : Around} {E : Value → Shared → Prop} {s : Shared}
theorem code_set_new_led (a : Value) {Q₁ : Value → Shared → Prop}
    (h : Q₁ (.ref s.heap.objs.size) { s with heap := s.heap.push { cls := .type "set", dict := none, data := .set #[] 0 (.fresh 0 0 (!byText w)) } }) :
    codeAny (model prog w) A (.call (.builtin "set.__new__") ⟨[.type "set", a], []⟩) (wants Q₁ E) s := by
  refine codeAny_of_tree ?_
  show wpAny _ A.in1 (do checkBuiltinCall "set.__new__" ⟨[.type "set", a], []⟩; again (.builtin "set.__new__" ⟨[.type "set", a], []⟩)) _ _ s
  refine wpAny_bind (wpAny_of_eq (PySem.F.newCall_set_1 a) (wpAny_pure ⟨plainId_quiet PySem.F.plain_set_new _, codeAny_builtin PySem.F.entry_set_new ?_⟩))
  rw [Around.under_plainId PySem.F.plain_set_new _]
  unfold Builtin.«set.__new__» Builtin.Frozenset.newClass
  have hsub := sub_set_self
  obtain ⟨hp, g, d, tk, os⟩ := s
  dsimp only
  wp_walk
  refine wpAny_askSetting (wpAny_pure ?_)
  dsimp only
  simp only [newObj]
  refine wpAny_bind (wpAny_alloc (wpAny_pure ?_))
  exact wpAny_pure h
theorem update_small {R : Result → Shared → Prop} {I : Addr} {fp wr : List Addr} {n : Nat} {P : Nat → Value → Prop} {St : Nat → Heap → Prop} {led : Bool} (W : PySem.Walks prog w A.in1 I fp wr n P St) (S : Addr) (hSf : S ∉ fp) :
    ∀ (vs : List Nat) (i : Nat) (s : Shared) (L : List Nat), n = i + vs.length → (∀ (j k : Nat), vs[j]? = some k → k < 7 ∧ ∀ v, P (i + j) v → ∃ t, v = .int k t) → St i s.heap → SmallSet led s.heap S L →
      (∀ h' tk, (∀ b o, b ∉ S :: wr → s.heap.get? b = some o → h'.get? b = some o) → SmallSet led h' S (addAll L vs) → R (.ok (.ret .none)) { s with heap := h', toks := tk }) →
      codeAny (model prog w) A (.builtin "set.update.loop" ⟨[.ref S, .ref I], []⟩) R s := by
  have hSw : S ∉ wr := fun h => hSf (W.sub _ h)
  intro vs
  induction vs with
  | nil =>
    intro i s L hn _ hst hS hR
    have hin : n = i := by simpa using hn
    subst hin
    refine codeAny_builtin PyProof.Rows.F.entry_set_update_loop ?_
    rw [Around.under_plainId PyProof.Rows.F.plain_set_update_loop _]
    show wpAny _ A.in1 (pyNext (.ref I) >>= _) _ _ s
    refine wpAny_bind (W.done s _ _ hst fun h' tk hm => ?_)
    show wpAny _ A.in1 (ret Value.none) _ _ _
    exact wpAny_pure (hR h' tk (fun b o hb e => hm b o (fun z => hb (List.mem_cons_of_mem _ z)) e) (hS.at fun o e => hm S o hSw e))
  | cons k vs ih =>
    intro i s L hn hv hst hS hR
    obtain ⟨hk7, hk⟩ := hv 0 k rfl
    refine codeAny_builtin PyProof.Rows.F.entry_set_update_loop ?_
    rw [Around.under_plainId PyProof.Rows.F.plain_set_update_loop _]
    show wpAny _ A.in1 (pyNext (.ref I) >>= _) _ _ s
    refine wpAny_bind (W.item i s _ _ (by rw [hn, List.length_cons]; omega) hst fun v h1 tk hP hst' hm => ?_)
    obtain ⟨t, rfl⟩ := hk v hP
    have hS1 : SmallSet led h1 S L := hS.at fun o e => hm S o hSw e
    show wpAny _ A.in1 (holding [Value.int k t] (setAdd S (.int k t)) >>= _) _ _ _
    refine wpAny_bind (wpAny_holding ?_)
    unfold setAdd
    refine wpAny_holding ?_
    refine wpAny_bind ((intKind prog w).pyHash (k := (k : Int)) (intKind_is _ _ _ _) ?_)
    refine setAdd_small (s := { s with heap := h1, toks := tk + 1 }) hk7 hS1 fun b h2 hsb hS2 => ?_
    refine wpAny_pure ⟨plainId_quiet PyProof.Rows.F.plain_set_update_loop _, ih (i + 1) _ (addN k L) (by rw [hn, List.length_cons]; omega) (fun j m e => ?_) (W.frame _ h1 _ hst' fun b hb o e => ?_) hS2 fun h3 tk3 hm3 hS3 => ?_⟩
    · have := hv (j + 1) m e
      rwa [show i + (j + 1) = i + 1 + j by omega] at this
    · rw [hsb.2 b (fun h : b = S => hSf (by rw [← h]; exact hb))]; exact e
    · refine hR h3 tk3 (fun b o hb e => hm3 b o hb ?_) hS3
      rw [hsb.2 b (fun h : b = S => hb (by rw [h]; exact List.mem_cons_self))]
      exact hm b o (fun z => hb (List.mem_cons_of_mem _ z)) e
theorem walks_sq (hh : A.handled = none) (b : Bool) (I ax : Addr) (hne : ax ≠ I) (items : List Value) :
    PySem.Walks prog w A I [I, ax] [I] items.length (fun i v => items[i]? = some v) (fun i h => IsIt h b I ax i ∧ IsSq h b ax items) := by
  cases b with
  | false => have := PySem.Walks.list (prog := prog) (w := w) hh I ax hne items.toArray; simpa [IsIt, IsSq] using this
  | true => have := PySem.Walks.tuple (prog := prog) (w := w) hh I ax hne items.toArray; simpa [IsIt, IsSq] using this
def sqT : Bool → String
  | true => "tuple"
  | false => "list"
theorem call_set_small {b : Bool} {l : Addr} {its : List Value} {vs : List Nat} {Q : Value → Shared → Prop} (hh : A.handled = none) (hl : IsSq s.heap b l its) (hi : PyProof.Rows.IntsAre its (vs.map fun (n : Nat) => (n : Int))) (h7 : ∀ k ∈ vs, k < 7)
    (h : ∀ (h' : Heap) (tk : Nat), SmallSet (!byText w) h' s.heap.objs.size (addAll [] vs) → (∀ b o, s.heap.get? b = some o → h'.get? b = some o) → Q (.ref s.heap.objs.size) { s with heap := h', toks := tk }) :
    wpAny (model prog w) A (call (.type "set") [.ref l]) Q E s := by
  obtain ⟨c, tl, hmro⟩ := PySem.F.called_set.mro
  have hmade := PySem.F.called_set.made
  have hsub := PySem.F.called_set.sub
  refine wpAny_call (codeAny_of_tree ?_)
  show wpAny _ _ (callAny (.type "set") _) _ _ _
  refine wpAny_pure ⟨Code.quiet_builtin _ (by decide +kernel), codeAny_builtin PySem.F.entry_type_call ?_⟩
  rw [Around.under_plain (weight_type_call_type "set" [.ref l] []) rfl]
  have h1 := PySem.F.called_set.notType
  have h2 := PySem.F.called_set.canCreate
  have hct := PySem.F.typeCall_set_1 (.ref l)
  repeat (any_goals (first | assumption | wp_step))
  refine codeAny_mono (code_set_new_led (.ref l) (E := E) (Q₁ := fun obj s₁ => obj = .ref s.heap.objs.size ∧ s₁ = { s with heap := s.heap.push { cls := .type "set", dict := none, data := .set #[] 0 (.fresh 0 0 (!byText w)) } }) ⟨rfl, rfl⟩) fun r s₁ hr => ?_
  cases r with
  | error e => exact hr
  | ok fl =>
    cases fl with
    | ret obj =>
      obtain ⟨rfl, rfl⟩ := hr
      generalize hO : ({ cls := .type "set", dict := none, data := .set #[] 0 (.fresh 0 0 (!byText w)) } : Obj) = O
      have hfr : O.isFreed = false := by rw [← hO]; rfl
      have hS : (s.heap.push O).get? s.heap.objs.size = some O := Heap.get?_push_size _ hfr
      have hS0 : SmallSet (!byText w) (s.heap.push O) s.heap.objs.size [] := ⟨O, #[], 0, hS, by rw [← hO]; exact ⟨rfl, rfl, rfl⟩, by rw [← hO]; rfl, .nil, by decide +kernel⟩
      have hT : Shared.TypeIs { s with heap := s.heap.push O } (.ref s.heap.objs.size) "set" := ⟨_, hS, by rw [← hO]⟩
      have hli := PySem.F.called_set.init.lookup
      have hbi := PySem.F.called_set.init.bind (.ref s.heap.objs.size)
      repeat (any_goals (first | assumption | wp_step))
      refine codeAny_mono (codeAny_call_builtin (R := wants (fun r s₂ => r = .none ∧ ∃ h' tk, s₂ = { s with heap := h', toks := tk } ∧ SmallSet (!byText w) h' s.heap.objs.size (addAll [] vs) ∧ (∀ b o, s.heap.get? b = some o → h'.get? b = some o)) E) PySem.F.called_set.init.plain PySem.F.entry_set_init (check_set_init_1 hT ?_)) fun r₂ s₂ hr₂ => ?_
      · obtain ⟨ol, hol, hcl⟩ : ∃ o, s.heap.get? l = some o ∧ o.cls = .type (sqT b) := by
          cases b <;> (obtain ⟨o, h1, h2, _⟩ := hl; exact ⟨o, h1, h2⟩)
        have hol' : (s.heap.push O).get? l = some ol := Heap.get?_push_of_some _ hol
        have hTl : Shared.TypeIs { s with heap := s.heap.push O } (.ref l) (sqT b) := ⟨ol, hol', hcl⟩
        have hsls : isSubtype (.type (sqT b)) (.type "set") = pure false := by cases b; exact PySem.F.sub_list_set; exact PySem.F.sub_tuple_set
        have hslf : isSubtype (.type (sqT b)) (.type "frozenset") = pure false := by cases b; exact PySem.F.sub_list_frozenset; exact PySem.F.sub_tuple_frozenset
        have hne : (Value.type (sqT b) == Value.type "dict") = false := by cases b <;> decide
        have hl1 : IsSq (s.heap.push O) b l its := hl.push _
        have hlS : l < s.heap.objs.size := Heap.lt_size hol
        have hh3 : A.in1.in1.in1.handled = none := by simp [hh]
        have hneI : l ≠ (s.heap.push O).objs.size := by rw [Heap.size_push]; exact Nat.ne_of_lt (Nat.lt_succ_of_lt hlS)
        have hSf : s.heap.objs.size ∉ [(s.heap.push O).objs.size, l] := by
          rw [Heap.size_push]; simp only [List.mem_cons, List.mem_singleton, List.not_mem_nil, or_false, not_or]
          exact ⟨Nat.ne_of_lt (Nat.lt_succ_self _), Nat.ne_of_gt hlS⟩
        have hlen : its.length = vs.length := by have := hi.length; simpa using this
        have hfin : ∀ b, b < s.heap.objs.size → b ≠ (s.heap.push O).objs.size := fun b hb => by rw [Heap.size_push]; exact Nat.ne_of_lt (Nat.lt_succ_of_lt hb)
        have hS0' : ∀ I : Obj, SmallSet (!byText w) ((s.heap.push O).push I) s.heap.objs.size [] := fun I => hS0.at fun o e => Heap.get?_push_of_some _ e
        have hup : ∀ (I : Obj) b o, s.heap.get? b = some o → ((s.heap.push O).push I).get? b = some o := fun I b o e => Heap.get?_push_of_some _ (Heap.get?_push_of_some _ e)
        have hit : ((s.heap.push O).push (itO b l)).get? (s.heap.push O).objs.size = some (itO b l) := Heap.get?_push_size _ (by cases b <;> rfl)
        subst hO
        unfold Builtin.«set.__init__» noKeywords Builtin.Frozenset.updateFrom
        generalize hPI : pyIter = PI
        wp_walk using wpAny_typeOf hTl
        subst hPI
        refine iter_sq (s := { s with heap := _ }) hl1 ?_
        refine wpAny_bind (wpAny_runValue ?_)
        refine update_small (walks_sq hh3 b _ l hneI its) s.heap.objs.size hSf vs 0 _ [] (by omega) (fun j k e => ⟨h7 k (List.mem_of_getElem? e), fun v hv => ?_⟩)
          ⟨IsIt.of hit, hl1.push _⟩ (hS0' _) fun h' tk hm hS' => ?_
        · obtain ⟨t, e2⟩ := PyProof.Rows.IntsAre.int_at hi (0 + j) v hv
          refine ⟨t, ?_⟩
          rw [e2]
          congr 1
          rw [List.getD_eq_getElem?_getD, List.getElem?_map, show 0 + j = j by omega, e]; rfl
        · show wpAny _ _ _ _ _ _
          refine wpAny_pure ?_
          show wpAny _ _ (ret Value.none) _ _ _
          refine wpAny_pure ⟨rfl, h', tk, rfl, hS', fun b o e => ?_⟩
          have hb : b < s.heap.objs.size := Heap.lt_size e
          have hb1 : b ≠ s.heap.objs.size := Nat.ne_of_lt hb
          exact hm b o (by simp only [List.mem_cons, List.mem_singleton, List.not_mem_nil, or_false, not_or]; exact ⟨hb1, hfin b hb⟩) (hup _ b o e)
      · cases r₂ with
        | error e => exact hr₂
        | ok fl₂ =>
          cases fl₂ with
          | ret r =>
            obtain ⟨rfl, h', tk, rfl, hS', hk'⟩ := hr₂
            repeat (any_goals (first | assumption | wp_step))
            exact h _ _ hS' hk'
          | _ => exact hr₂.elim
    | _ => exact hr.elim
end
section
variable {X : Cx} {e a : Expr} {fa : Ef} {fs : Af} {pos p p2 p3 pos' : Pos}
def rSetOf (w : World) (K : PySem.W.Frag) : List V → Hp → VK → Prop := fun xs H Q => ∃ b a vs, xs = [V.ref a] ∧ Sq K H b a (vs.map fun (n : Nat) => V.int n) ∧ (∀ k ∈ vs, k < 7) ∧ ∀ p, H p = none → Q (.ref p) (upd H p (setO w p (addAll [] vs)))
theorem vals_ints : ∀ {ns : List Nat} {us : List Value}, Vals (ns.map fun (n : Nat) => V.int n) us → PyProof.Rows.IntsAre us (ns.map fun (n : Nat) => (n : Int))
  | [], _, .nil => .nil
  | _ :: _, _, .cons r h => by obtain ⟨t, rfl⟩ := r; exact .cons _ t (vals_ints h)
theorem cr_setOf (hc : X.calm = true) : CallR X (.type "set") (rSetOf X.w X.K) := by
  intro pins s σ H vs us Q I r h
  obtain ⟨b, a, ns, rfl, ha, h7, q⟩ := h
  rw [Vals.ref1 r]
  obtain ⟨its, hv, hsq⟩ := inv_sq I ha
  refine call_set_small (I.ok.hd hc) hsq (vals_ints hv) h7 fun h' tk hS hk => ?_
  exact ⟨.ref s.heap.objs.size, _, I.laid (t' := tk) (o := setO X.w s.heap.objs.size (addAll [] ns)) hk (Nat.le_refl _) (setO_ok hS), rfl, q _ (I.hok.fresh (Nat.le_refl _))⟩
theorem setFold_nats {ds : List PyData} : ∀ {L M : List Nat}, setFold L ds = some M → ∃ vs : List Nat, ds = vs.map (fun (n : Nat) => PyData.int n) ∧ (∀ k ∈ vs, k < 7) ∧ M = addAll L vs := by
  induction ds with
  | nil => intro L M h; cases h; exact ⟨[], rfl, by simp, rfl⟩
  | cons d ds ih =>
    intro L M h
    obtain ⟨k, rfl, hk, h2⟩ := setFold_cons h
    obtain ⟨vs, rfl, h3, rfl⟩ := ih h2
    exact ⟨k :: vs, rfl, by simpa [hk] using h3, rfl⟩
theorem rpNats {K : PySem.W.Frag} {G : Hp} : ∀ {vs : List Nat} {xs : List V}, RpAll K G xs (vs.map fun (n : Nat) => PyData.int n) → xs = vs.map fun (n : Nat) => V.int n
  | [], _, .nil => rfl
  | _ :: _, _, .cons h t => by cases h; rw [rpNats t]; rfl
/-- sorted(set(e)) -/
def fSortedSet (fa : Ef) : Ef := fun ε => (fa ε).bind fun p => (seqD p.1).bind fun t => (setFold [] t.2).map fun L => (.list (intL L), p.2)
theorem ev_sortedSet (hc : X.calm = true) (hg : Gl X "sorted") (hm : X.mg "sorted" = none) (hg2 : Gl X "set") (hm2 : X.mg "set" = none) (ha : Ev X a fa) (hst : notStar a = true := by rfl) :
    Ev X (.Call (.Name "sorted" p) [.Call (.Name "set" p2) [a] [] p3] [] pos) (fSortedSet fa) :=
  ⟨pe_mono (pe_callB (cr_sortedSet hc) hg hm (by decide +kernel) (pa_cons (pe_callTy (cr_setOf hc) hg2 hm2 (by decide +kernel) (pa_cons ha.p pa_nil (star_ok hst)) (by decide) (by decide) (star_ok hst) (by exact plain_ok rfl)) pa_nil (by exact star_ok rfl)) (by decide) (by decide) (by exact star_ok rfl) (by exact plain_ok rfl)) fun σ H Q h => by
    obtain ⟨B, G, z, ε, d, ε', rep, ef, q⟩ := h
    obtain ⟨⟨d1, ε1⟩, e1, ef1⟩ := Option.bind_eq_some_iff.mp ef
    obtain ⟨⟨b, ds⟩, e2, ef2⟩ := Option.bind_eq_some_iff.mp ef1
    obtain ⟨L, e3, ef3⟩ := Option.map_eq_some_iff.mp ef2
    obtain ⟨rfl, rfl⟩ := Prod.mk.inj ef3
    obtain ⟨vs, rfl, h7, rfl⟩ := setFold_nats e3
    refine ⟨B, G, z, ε, d1, ε1, rep, e1, fun v G1 H1 g1 r1 p1 => ?_⟩
    obtain ⟨s, xs, rfl, hs, hx⟩ := rp_seq p1 e2
    cases rpNats hx
    refine ⟨b, s, vs, rfl, hs.same r1.sub, h7, fun D hD => ?_⟩
    refine ⟨D, _, rfl, upd_same, fun p hp => ?_⟩
    have hDp : p ≠ D := fun z => by rw [z, upd_same] at hp; cases hp
    have hp1 : H1 p = none := by rwa [upd_ne hDp] at hp
    have r2 := rep_new (o := setO X.w D (addAll [] vs)) r1 hD
    have gn := grow_new (o := HO.lst ((addAll [] vs).map fun (n : Nat) => V.int n)) r2.sub hp
    exact q _ _ _ (g1.trans (gn.gr r2.bg)) (gn.rep r2) (.lst (SqL.of upd_same) (intL_all _))⟩
end
end PD

set_option Elab.async false
set_option linter.all false
set_option maxRecDepth 100000
set_option maxHeartbeats 4000000
namespace PD
open PySem L2 PySem.Spec PyProof.Rows
section
variable {X : Cx} {e a : Expr} {fa : Ef} {fs : Af} {pos p p2 p3 pos' : Pos}
end
section
variable {prog : Program} {w : World} {A : Around} {E : Value → Shared → Prop} {s : Shared} {r : Addr} {a b c : Int} {t u v : Tok} {n : Nat}
end
section
variable {X : Cx} {e a : Expr} {fa : Ef} {fs : Af} {pos p p2 p3 pos' : Pos}
end
end PD

set_option Elab.async false
set_option linter.all false
set_option maxRecDepth 100000
set_option maxHeartbeats 4000000
namespace PD
open PySem L2 PySem.Spec PyProof.Rows
section
variable {X : Cx}
def rEmp (K : PySem.W.Frag) (neg : Bool) : R2 := fun x y H Q => ∃ a b xs, x = .ref a ∧ y = .ref b ∧ SqL K H a xs ∧ SqL K H b [] ∧ Q (.bl (if neg then !xs.isEmpty else xs.isEmpty)) H
theorem op_eqE (hu : X.A.units + 64 < cLine) : OpR X (compareOp .Eq) (rEmp X.K false) := by
  intro pins s σ H x y v u Q I rx ry h
  obtain ⟨a, b, xs, rfl, rfl, ha, hb, q⟩ := h
  cases rx; cases ry
  obtain ⟨its, r1, p1, _⟩ := I.list ha
  obtain ⟨jts, r2, p2, _⟩ := I.list hb
  cases r2
  cases xs with
  | nil =>
    cases r1
    refine SeqAt.eq_listAt (e := fun _ => true) p1.isList p2.isList rfl (by omega) (fun j h1 _ => by simp at h1) ?_
    exact ⟨.bl true, H, I, rfl, q⟩
  | cons z zs =>
    cases r1
    refine SeqAt.eq_list_lengthsAt p1.isList p2.isList (by simp) (by omega) ?_
    exact ⟨.bl false, H, I, rfl, q⟩
def dEmp (neg : Bool) : PyData → PyData → Option PyData
  | .list ds, .list [] => some (.bool (if neg then !ds.isEmpty else ds.isEmpty))
  | _, _ => none
abbrev dEqE : PyData → PyData → Option PyData := dEmp false
theorem od_emp {K : PySem.W.Frag} (neg : Bool) : OpD K (rEmp K neg) (dEmp neg) := by
  intro v w d e c G H Q p1 p2 sm hg q
  match d, e, hg, p1, p2 with
  | .list ds, .list [], hg, .lst h1 a1, .lst h2 a2 =>
    cases hg
    cases a2
    have hl : ∀ {xs : List V}, RpAll K G xs ds → xs.isEmpty = ds.isEmpty := fun h => by cases h <;> rfl
    refine ⟨_, _, _, rfl, rfl, Sq.same (b := false) sm h1, Sq.same (b := false) sm h2, ?_⟩
    rw [hl a1]
    exact q _ _ _ (.refl sm) (.bl _)
end
end PD

set_option Elab.async false
set_option linter.all false
set_option maxRecDepth 100000
set_option maxHeartbeats 4000000
namespace PD
open PySem L2 PySem.Spec PyProof.Rows
def Flies (P : Program) (w : World) (outer : List Env) (H : Hp) (s : Shared) (ea C : Addr) (H' : Hp) (s' : Shared) : Prop :=
  s'.os = s.os ∧ AllBare s'.gens ∧
  (∃ (B : Heap) (t : Addr), Heap.FlyingW B outer ea (.ref C) (.ref t) s'.heap ∧ HOk P w H' B ∧ (∀ b o, s.heap.get? b = some o → H b = none → b ∉ frs outer → B.get? b = some o) ∧ (∀ b o, s.heap.get? b = some o → b ∉ frs outer → ∃ o', B.get? b = some o')) ∧
  (∀ b o, s.heap.get? b = some o → H b = none → b ∈ frs outer → ∃ sl, s'.heap.get? b = some { o with slots := sl }) ∧
  (∀ b o, s.heap.get? b = some o → H b = none → H' b = none) ∧ (∀ b xs, H b = some (.tup xs) → H' b = some (.tup xs)) ∧ (∀ b o u, H b = some (.frz o u) → H' b = some (.frz o u)) ∧ (∀ b ps, H b = some (.tbl ps) → ∃ more, H' b = some (.tbl (ps ++ more)))
def CXE (P : Program) (w : World) : CXT := fun outer H s E e s' => ∃ ea C H', e = .ref ea ∧ Flies P w outer H s ea C H' s' ∧ E (.ref C) none H'
/-- what stands behind it, once it has landed -/
theorem Flies.un {P : Program} {w : World} {outer : List Env} {H H' : Hp} {s s' : Shared} {ea C : Addr} {h'' : Heap} (F : Flies P w outer H s ea C H' s') (k : ∀ B t, Heap.FlyingW B outer ea (.ref C) (.ref t) s'.heap → B.StaysIn h'') (u : s'.heap.UpToSlots h'') (hfr : ∀ b o, s.heap.get? b = some o → b ∈ frs outer → H b = none) :
    Un (frs outer) [] H H' s.heap h'' ∧ HOk P w H' h'' := by
  obtain ⟨_, _, ⟨B, t, hfl, hok, h1, h2⟩, h3, h4, h5, h6, h7⟩ := F
  have hst := k B t hfl
  have hsl : ∀ b o, s.heap.get? b = some o → H b = none → b ∈ frs outer → ∃ sl, h''.get? b = some { o with slots := sl } := fun b o e n hb => by
    obtain ⟨sl, e1⟩ := h3 b o e n hb
    obtain ⟨_, o', ho', hnf⟩ := hfl.2.2.1.mem hb
    rw [e1] at ho'
    cases ho'
    obtain ⟨sl', e2⟩ := u b _ e1 hnf
    exact ⟨sl', e2⟩
  refine ⟨⟨fun b o e n hb _ => hst b o (h1 b o e n hb), fun b o e n hb _ => hsl b o e n hb, fun b o e n _ => h4 b o e n, fun b o e _ => ?_, h5, h6, h7⟩, hok.kept hst⟩
  by_cases hb : b ∈ frs outer
  · obtain ⟨sl, e2⟩ := hsl b o e (hfr b o e hb) hb
    exact ⟨_, e2⟩
  · obtain ⟨o', e1⟩ := h2 b o e hb
    exact ⟨o', hst b o' e1⟩
section
variable {P : Program} {w : World} {K : PySem.W.Frag} {mg : Str → Option Value} {base : Heap} {N : List Str} {qual : Str} {sc : Scope} {f : Addr} {cdv : Value} {A : Around} {outer : List Env} {s : Shared} {H : Hp} {E : XK}
end
end PD

set_option Elab.async false
set_option linter.all false
set_option maxRecDepth 100000
set_option maxHeartbeats 4000000
namespace PD
open PySem L2
inductive XR (α : Type) where
  | ok (a : α) | ex (c : Str) (ε : En)
abbrev XEf := En → Option (XR (PyData × En))
abbrev XAf := En → Option (XR (List PyData × En))
abbrev XSf := En → Option (XR Out)
abbrev Wish := Addr → L2.St → Hp → Prop
/-- what is wanted of exceptions in a body -/
structure XPs (X : Cx) (Ex : Wish) : Prop where
  pass : ∀ (pins : List (Addr × Obj)) (σ : L2.St) (H1 H2 : Hp) (s1 s2 : Shared) (ea C : Addr), Inv X pins σ H1 s1 → Flies X.prog X.w X.stack H1 s1 ea C H2 s2 → Ex C σ H2 → X.xe (.ref ea) s2
structure XOk (X : Cx) (Ex : Wish) : Prop extends XPs X Ex where
  made : ∀ (pins : List (Addr × Obj)) (σ : L2.St) (H1 : Hp) (s1 : Shared) (h2 : Heap) (ea C : Addr) (vs : List Value), Inv X pins σ H1 s1 → Heap.MadeExcOf s1.heap h2 ea (.ref C) vs → Ex C σ H1 → X.xe (.ref ea) { s1 with heap := h2 }
def tXF (K : PySem.W.Frag) (ce : Str → Addr) (Ex : Wish) (f : XEf) : TE := fun σ H Q => ∃ B G z ε r, Rep K B G H z σ ε ∧ f ε = some r ∧ match r with
  | .ok p => ∀ v G' H', Gr B G G' → Rep K B G' H' z σ p.2 → Rp K G' v p.1 → Q v H'
  | .ex c ε' => ∀ G' H', Gr B G G' → Rep K B G' H' z σ ε' → Ex (ce c) σ H'
def tXA (K : PySem.W.Frag) (ce : Str → Addr) (Ex : Wish) (f : XAf) : TA := fun σ H Q => ∃ B G z ε r, Rep K B G H z σ ε ∧ f ε = some r ∧ match r with
  | .ok p => ∀ v G' H', Gr B G G' → Rep K B G' H' z σ p.2 → RpAll K G' v p.1 → Q v H'
  | .ex c ε' => ∀ G' H', Gr B G G' → Rep K B G' H' z σ ε' → Ex (ce c) σ H'
def XOut (K : PySem.W.Frag) (ce : Str → Addr) (Ex : Wish) (B G : Hp) (z : Option (Option V)) (D : Ends) : XR Out → Prop
  | .ok o => OutOk K B G z D o
  | .ex c ε' => ∀ G' σ' H', Gr B G G' → Rep K B G' H' z σ' ε' → Ex (ce c) σ' H'
theorem XOut.gr {K : PySem.W.Frag} {ce : Str → Addr} {Ex : Wish} {B G G1 : Hp} {z : Option (Option V)} {D : Ends} {o : XR Out} (g : Gr B G G1) (h : XOut K ce Ex B G z D o) : XOut K ce Ex B G1 z D o := by
  cases o with
  | ok o => exact OutOk.gr g h
  | ex c ε => exact fun G' σ' H' g' r' => h G' σ' H' (g.trans g') r'
def tXS (K : PySem.W.Frag) (ce : Str → Addr) (Ex : Wish) (f : XSf) : TS := fun D σ H => ∃ B G z ε r, Rep K B G H z σ ε ∧ f ε = some r ∧ XOut K ce Ex B G z D r
structure EvX (ce : Str → Addr) (Ex : Wish) (X : Cx) (e : Expr) (f : XEf) : Prop where
  p : PE X e (tXF X.K ce Ex f)
structure AvX (ce : Str → Addr) (Ex : Wish) (X : Cx) (es : List Expr) (f : XAf) : Prop where
  p : PA X es (tXA X.K ce Ex f)
structure SvX (ce : Str → Addr) (Ex : Wish) (X : Cx) (e : Stmt) (f : XSf) : Prop where
  p : PS X e (tXS X.K ce Ex f)
structure BvX (ce : Str → Addr) (Ex : Wish) (X : Cx) (e : List Stmt) (f : XSf) : Prop where
  p : PSs X e (tXS X.K ce Ex f)
abbrev XF := List PyData → Option (Except Str PyData)
def spX (K : PySem.W.Frag) (ce : Str → Addr) (n : Nat) (F : XF) : Sp := fun vs H Q E => ∃ G ds r, vs.length = n ∧ Same G H ∧ RpAll K G vs ds ∧ F ds = some r ∧ match r with
  | .ok d => ∀ v G' H', Same H H' → Same G' H' → Gr H G G' → Rp K G' v d → Q v H'
  | .error c => ∀ G' H', Same H H' → Same G' H' → Gr H G G' → E (.ref (ce c)) none H'
section
variable {ce : Str → Addr} {Ex : Wish} {X : Cx} {e a b : Expr} {es : List Expr} {st : Stmt} {rest : List Stmt} {fa fb : XEf} {fs : XAf} {f g : XSf} {pos p : Pos}
variable {k n : Nat} {fn : Addr} {fd : FuncData} {ps : List Str} {x : Str} {sp : Sp} {t : TA}
end
def bmV : List Value := [.type "ValueError", .type "Exception", .type "BaseException", .type "object"]
/-- an own class of errors, as it lies in the known part of the heap; bm: its mro behind itself -/
structure ExcK (K : PySem.W.Frag) (C : Addr) (bm : List Value) : Prop where
  obj : ∃ (N : Addr) (nm q : Str) (bs : List Value) (hdct : Bool) (sn : List Str) (sub : List Value) (ab : Bool) (col : Option Bool) (dd : Option Addr) (k0 k1 k2 k3 k5 : Option Value) (oN : Obj),
    K.lookup C = some (excClassObj nm q C N bs bm hdct sn sub ab col dd k0 k1 k2 k3 k5 "ValueError.__new__") ∧ K.lookup N = some oN ∧ ∀ h : Heap, K.In h → (∃ mN, h.Ns N mN ∧ mN "__init__" = none) ∧ OwnTail h bmV bm
section
variable {ce : Str → Addr} {Ex : Wish} {X : Cx} {e : Expr} {pos cpos np : Pos} {x : Str} {bm : List Value}
end
section
variable {P : Program} {w : World} {K : PySem.W.Frag} {mg : Str → Option Value} {base : Heap}
end
end PD

set_option Elab.async false
set_option linter.all false
set_option maxRecDepth 100000
set_option maxHeartbeats 4000000
namespace PD
open PySem L2 PySem.Spec PyProof.Rows
end PD

set_option Elab.async false
set_option linter.all false
set_option maxRecDepth 100000
set_option maxHeartbeats 4000000
namespace PD
open PySem L2 PySem.Spec PyProof.Rows
section
variable {X : Cx}
end
end PD

set_option Elab.async false
set_option linter.all false
set_option maxRecDepth 100000
set_option maxHeartbeats 4000000
namespace PD
open PySem L2 PySem.Spec PyProof.Rows PyProof.Rows.KTD
section
variable {prog : Program} {w : World} {A : Around} {E : Value → Shared → Prop} {s : Shared} {K : PySem.W.Frag} {a : Addr} {D : List (Str × Value)} {k : Str} {tk : Tok}
end
section
variable {ce : Str → Addr} {Ex : Wish} {X : Cx} {e b : Expr} {es : List Expr} {p1 p2 p3 p4 p5 p6 p7 : Pos} {y xt : Str} {fk : Ef} {fs : XAf} {n k : Nat} {D : List (Str × Value)} {ta : Addr} {ps : List Str}
/-- what the functions of the table promise -/
structure FnTab (P : Program) (w : World) (K : PySem.W.Frag) (mg : Str → Option Value) (base : Heap) (ce : Str → Addr) (k n : Nat) (ps : List Str) (D : List (Str × Value)) (Fs : List (Str × XF)) : Prop where
  fn : ∀ w' F, datumAt w' Fs = some F → ∃ f fd, datumAt w' D = some (.ref f) ∧ PySem.W.keepIn K (.ref f) = true ∧ Binds K fd ps [] ∧ FnOk P w K mg base (CXE P w) k f fd ps (spX K ce n F)
end
end PD

set_option Elab.async false
set_option linter.all false
set_option maxRecDepth 100000
set_option maxHeartbeats 4000000
namespace PD
open PySem L2 PySem.Spec PyProof.Rows
section
variable {ce : Str → Addr} {Ex : Wish} {X : Cx} {st : Stmt} {rest : List Stmt}
end
section
variable {ce : Str → Addr} {Ex : Wish} {X : Cx} {st : Stmt} {rest : List Stmt} {f : XSf} {vs : List Nat} {pos : Pos}
end
abbrev Cx.inEx (X : Cx) (v : Value) : Cx := { X with A := X.A.mark (some v), calm := false }
section
variable {X : Cx} {pins : List (Addr × Obj)} {σ : L2.St} {H : Hp} {s : Shared} {v : Value}
end
section
variable {M : Model} {A : Around} {E : Value → Shared → Prop}
variable {nm q : Str} {C N : Addr} {bs bm : List Value} {hdct : Bool} {sn : List Str} {sub : List Value} {ab : Bool} {col : Option Bool} {dd : Option Addr} {k0 k1 k2 k3 k5 : Option Value} {newId : String}
variable {nm' q' : Str} {C' N' : Addr} {bs' bm' : List Value} {hdct' : Bool} {sn' : List Str} {sub' : List Value} {ab' : Bool} {col' : Option Bool} {dd' : Option Addr} {k0' k1' k2' k3' k5' : Option Value} {newId' : String}
end
end PD

set_option Elab.async false
set_option linter.all false
set_option maxRecDepth 100000
set_option maxHeartbeats 4000000
namespace PD
open PySem L2 PySem.Spec PyProof.Rows
theorem Flies.split {P : Program} {w : World} {outer : List Env} {H H' : Hp} {s s' : Shared} {ea C : Addr} (F : Flies P w outer H s ea C H' s') (hfr : ∀ b o, s.heap.get? b = some o → b ∈ frs outer → H b = none) :
    ∃ B t, Heap.FlyingW B outer ea (.ref C) (.ref t) s'.heap ∧ ∀ h'', B.StaysIn h'' → s'.heap.UpToSlots h'' → Un (frs outer) [] H H' s.heap h'' ∧ HOk P w H' h'' := by
  obtain ⟨f1, f2, ⟨B, t, hfl, hok, h1, h2⟩, rest⟩ := F
  refine ⟨B, t, hfl, fun h'' hst u => ?_⟩
  obtain ⟨h3, h4, h5, h6, h7⟩ := rest
  have hsl : ∀ b o, s.heap.get? b = some o → H b = none → b ∈ frs outer → ∃ sl, h''.get? b = some { o with slots := sl } := fun b o e n hb => by
    obtain ⟨sl, e1⟩ := h3 b o e n hb
    obtain ⟨_, o', ho', hnf⟩ := hfl.2.2.1.mem hb
    rw [e1] at ho'
    cases ho'
    obtain ⟨sl', e2⟩ := u b _ e1 hnf
    exact ⟨sl', e2⟩
  refine ⟨⟨fun b o e n hb _ => hst b o (h1 b o e n hb), fun b o e n hb _ => hsl b o e n hb, fun b o e n _ => h4 b o e n, fun b o e _ => ?_, h5, h6, h7⟩, hok.kept hst⟩
  by_cases hb : b ∈ frs outer
  · obtain ⟨sl, e2⟩ := hsl b o e (hfr b o e hb) hb
    exact ⟨_, e2⟩
  · obtain ⟨o', e1⟩ := h2 b o e hb
    exact ⟨o', hst b o' e1⟩
/-- the own classes of errors: to each its own names in its mro -/
structure ClsOk (K : PySem.W.Frag) (ce : Str → Addr) (names : List Str) (sup : List (Str × List Str)) : Prop where
  cls : ∀ c cs, (c, cs) ∈ sup → ∃ bm, ExcK K (ce c) bm ∧ ∀ c' ∈ names, (Value.ref (ce c) :: bm).contains (.ref (ce c')) = cs.contains c'
/-- the clauses: except C: suite -/
inductive HvL (ce : Str → Addr) (names : List Str) (X : Cx) : List ExceptHandler → List (Str × Sf) → Prop
  | nil : HvL ce names X [] []
  | cons {x c : Str} {np hpos : Pos} {b₀ : Stmt} {suite : List Stmt} {f : Sf} {bm : List Value} {rest : List ExceptHandler} {ms : List (Str × Sf)} (hg : Gl X x) (hm : X.mg x = some (.ref (ce c))) (hd : (x == ("__debug__" : Str)) = false) (hn : c ∈ names) (O : ExcK X.K (ce c) bm) (hb : ∀ v, Bv (Cx.inEx X v).nox (b₀ :: suite) f) :
      HvL ce names X rest ms → HvL ce names X (.ExceptHandler (some (.Name x np)) none (b₀ :: suite) hpos :: rest) ((c, f) :: ms)
section
variable {ce : Str → Addr} {names : List Str} {sup : List (Str × List Str)} {X : Cx} {body : List Stmt} {hs : List ExceptHandler} {ms : List (Str × Sf)} {fb : XSf} {pos : Pos}
end
end PD

set_option Elab.async false
set_option linter.all false
set_option maxRecDepth 100000
set_option maxHeartbeats 4000000
namespace PD
open PySem L2 PySem.Spec PyProof.Rows PyProof.Rows.KTD
section
variable {P : Program} {w : World} {K : PySem.W.Frag} {mg : Str → Option Value} {base : Heap} {k n : Nat} {f : Addr} {fd : FuncData} {ps : List Str} {ce : Str → Addr}
end
end PD

set_option Elab.async false
set_option linter.all false
set_option maxRecDepth 100000
set_option maxHeartbeats 4000000
namespace PD
open PySem L2 PySem.Spec PyProof.Rows
section
variable {X : Cx}
end
end PD
namespace PD
open PySem L2 PySem.Spec PyProof.Rows
end PD

set_option Elab.async false
set_option linter.all false
set_option maxRecDepth 100000
set_option maxHeartbeats 4000000
namespace PD
open PySem L2
end PD

set_option Elab.async false
set_option linter.all false
set_option maxRecDepth 100000
set_option maxHeartbeats 4000000
namespace PD
open PySem L2 PySem.Spec PyProof.Rows
section
variable {X : Cx}
end
end PD

set_option Elab.async false
set_option linter.all false
set_option maxRecDepth 100000
set_option maxHeartbeats 4000000
namespace PD
open PySem L2 PySem.Spec PyProof.Rows
section
variable {X : Cx} {pos : Pos} {keys : List (Option Expr)} {values : List Expr}
end
end PD

set_option Elab.async false
set_option linter.all false
set_option maxRecDepth 100000
set_option maxHeartbeats 4000000
namespace PD
open PySem L2
section
variable {P : Program} {w : World}
def Its (K : PySem.W.Frag) (x : Str) (b2 : Bool) (b : Addr) : It where
  go i H := ∃ (ys : List V) (c : Nat) (y : V), Sq K H b2 b ys ∧ x.cps[i]? = some c ∧ ys[i]? = some y
  yld i H v H' := ∃ T c y, v = .ref T ∧ H T = none ∧ H' = upd H T (.tup [.str ⟨#[c]⟩, y]) ∧ x.cps[i]? = some c ∧ ∀ ys, Sq K H b2 b ys → ys[i]? = some y
  stop i H := ∃ ys : List V, Sq K H b2 b ys ∧ (x.cps.size ≤ i ∨ ys.length ≤ i)
structure ZStS (x : Str) (t : Tok) (b2 : Bool) (b z TI TO i1 i2 : Addr) (i : Nat) (h : Heap) : Prop where
  z : IsZip h z TI TO .none
  ti : IsPair h TI (.ref i1) (.ref i2)
  to : ∃ x y, IsPair h TO x y
  i1 : h.IsStrIter i1 "str_ascii_iterator" x t i
  i2 : IsIt h b2 i2 b i
end
end PD

set_option Elab.async false
set_option linter.all false
set_option maxRecDepth 100000
set_option maxHeartbeats 4000000
namespace PD
open PySem L2 PySem.Spec PyProof.Rows
end PD

set_option Elab.async false
set_option linter.all false
set_option maxRecDepth 100000
set_option maxHeartbeats 4000000
namespace PD
open PySem L2 PySem.Spec PyProof.Rows
section
variable {prog : Program} {w : World} {A : Around} {E : Value → Shared → Prop}
end
section
variable {X : Cx}
end
end PD

set_option Elab.async false
set_option linter.all false
set_option maxRecDepth 100000
set_option maxHeartbeats 4000000
namespace PD
open PySem L2 PySem.Spec PyProof.Rows
section
variable {X : Cx} {o e : Expr} {to : TE} {t : TA} {r : V → List V → Hp → VK → Prop} {apos cpos : Pos} {name : Str} {id : String}
end
section
variable {X : Cx} {o e : Expr} {fo fe : Ef} {apos cpos : Pos}
end
end PD

set_option Elab.async false
set_option linter.all false
set_option maxRecDepth 100000
set_option maxHeartbeats 4000000
namespace PD
open PySem L2 PySem.Spec PyProof.Rows
section
variable {X : Cx} {a b : Expr} {fa fb : Ef} {pos : Pos}
def mulB (i j : Int) : Bool := !(decide (Builtin.Int.intBits i > shortFactorBits) && decide (Builtin.Int.intBits j > shortFactorBits) && Builtin.Int.intTooBig (Builtin.Int.intBits i + Builtin.Int.intBits j))
theorem mulB_ok {i j : Int} (h : mulB i j = true) : IntMulOk i j := by
  unfold mulB at h
  unfold IntMulOk
  intro z
  rw [z] at h
  cases h
theorem op_mulB : OpR X (binaryOp .Mult) (rI (fun i j => mulB i j = true) fun i j => .int (i * j)) := opI fun _ _ _ _ _ _ _ hc q => mul_int q (mulB_ok hc)
def dMulB : PyData → PyData → Option PyData := dII fun i j => if mulB i j = true then some (.int (i * j)) else none
theorem od_mulB {K : PySem.W.Frag} : OpD K (rI (fun i j => mulB i j = true) fun i j => .int (i * j)) dMulB := opd_ii fun i j c h => by
  by_cases hc : mulB i j = true
  · simp only [if_pos hc] at h; cases h; exact ⟨hc, fun G => .int _⟩
  · simp only [if_neg hc] at h; cases h
end
end PD

set_option Elab.async false
set_option linter.all false
set_option maxRecDepth 100000
set_option maxHeartbeats 4000000
namespace PD
open PySem L2 PySem.Spec PyProof.Rows
section
variable {X : Cx}
end
end PD

set_option Elab.async false
set_option linter.all false
set_option maxRecDepth 100000
set_option maxHeartbeats 4000000
namespace PD
open PySem L2 PySem.Spec PyProof.Rows
section
variable {prog : Program} {w : World} {A : Around} {E : Value → Shared → Prop} {s : Shared} {T : String} {r d : Addr} {n : Nat} {P : Nat → Value → Prop} {OK : Heap → Prop}
end
section
variable {X : Cx}
end
end PD

set_option Elab.async false
set_option linter.all false
set_option maxRecDepth 100000
set_option maxHeartbeats 4000000
namespace PD
open PySem L2 PySem.Spec PyProof.Rows PySem.W PySem.Calls Builtin.ObjectAttr Builtin.Getset_descriptor
/-- what the known part tells of an own class of errors -/
structure ExcQ (K : Frag) (C : Addr) : Prop where
  ga : findIn K (.ref C) "__getattribute__" = some (some (.builtin "BaseException.__getattribute__"))
  gt : findIn K (.ref C) "__getattr__" = some none
  cl : findIn K (.ref C) "__class__" = some (some (.builtin "object.__class__"))
  gg : specialIn K (.builtin "object.__class__") "__get__" = some (some (.builtin "getset_descriptor.__get__"))
  tk : takesIn K (.builtin "object.__class__") = some true
  ob : mroIn K C (.type "object") = some true
  be : mroIn K C (.type "BaseException") = some true
section
variable {prog : Program} {w : World} {A : Around} {E : Value → Shared → Prop} {K : Frag} {h : Heap} {g : Array GenState} {d : Drawn} {t : Nat} {os : OsState} {x C : Addr} {o : Obj}
end
end PD

set_option Elab.async false
set_option linter.all false
set_option maxRecDepth 100000
set_option maxHeartbeats 4000000
namespace PD
open PySem L2 PySem.Spec PyProof.Rows
theorem objOk_some {P : Program} {w : World} {H : Hp} {h : Heap} {a : Addr} {o : HO} (x : ObjOk P w H h a o) : ∃ u, h.get? a = some u := by
  cases o with
  | lst xs => exact ⟨_, x.2.choose_spec.choose_spec.2⟩
  | tup xs => obtain ⟨_, _, _, ob, z, _⟩ := x; exact ⟨ob, z⟩
  | dK kvs => obtain ⟨_, _, _, _, ob, _, _, z, _⟩ := x; exact ⟨ob, z⟩
  | dT kvs => obtain ⟨_, _, _, _, ob, _, _, z, _⟩ := x; exact ⟨ob, z⟩
  | set S n => obtain ⟨ob, _, _, _, z, _⟩ := x; exact ⟨ob, z⟩
  | ins C dx fs => obtain ⟨_, _, _, z, _⟩ := x; exact ⟨_, z⟩
  | own y => exact x
  | xd fs => obtain ⟨_, ⟨ob, _, _, z, _⟩, _⟩ := x; exact ⟨ob, z⟩
  | rng lo hi => obtain ⟨_, _, _, z⟩ := x; exact ⟨_, z⟩
  | frz ob u => exact ⟨_, x.1⟩
  | tbl ps => exact ⟨_, x⟩
  | met f y => exact ⟨_, x⟩
  | ext φ => exact x.2.1
/-- a thing that is known to its object -/
def known (a : Addr) (o : Obj) : HO := .frz o (.ext fun h => h.get? a = some o)
section
variable {X : Cx} {pins : List (Addr × Obj)} {σ : L2.St} {H : Hp} {s : Shared}
end
/-- an exception that has landed is new -/
theorem Flies.new {P : Program} {w : World} {outer : List Env} {H H' : Hp} {s s' : Shared} {ea C : Addr} (F : Flies P w outer H s ea C H' s') : s.heap.get? ea = none ∧ H' ea = none := by
  obtain ⟨_, _, ⟨B, t, hfl, hok, h1, h2⟩, _⟩ := F
  have hB : B.get? ea = none := hfl.2.1
  constructor
  · cases q : s.heap.get? ea with
    | none => rfl
    | some o =>
      by_cases hb : ea ∈ frs outer
      · obtain ⟨_, o', ho', hnf⟩ := hfl.2.2.1.mem hb
        obtain ⟨oe, vs, he, _, hd, _⟩ := hfl.first
        rw [he] at ho'
        cases ho'
        exact absurd hd (hnf _)
      · obtain ⟨o', e⟩ := h2 ea o q hb
        rw [hB] at e; cases e
  · cases q : H' ea with
    | none => rfl
    | some u =>
      obtain ⟨o, e⟩ := objOk_some (hok ea u q)
      rw [hB] at e; cases e
section
variable {ce : Str → Addr} {names : List Str} {sup : List (Str × List Str)} {X : Cx} {body : List Stmt} {fb : XSf} {pos : Pos}
end
end PD

set_option Elab.async false
set_option linter.all false
set_option maxRecDepth 100000
set_option maxHeartbeats 4000000
namespace PD
open PySem L2 PySem.Spec PyProof.Rows
def isA (t c : Str) : Bool := t == c || t == "HouseError" || t == "ValueError"
/-- of which classes the exceptions cs are -/
def TellsE (K : PySem.W.Frag) (cs : List Str) (t : Str) (v : Value) : Prop :=
  PySem.W.kitOne K (.type "NoneType") v = some false ∧ ∀ c ∈ cs, ∀ C, PySem.W.nsIn K mainGlobals c = some (some (.ref C)) → PySem.W.kitOne K (.ref C) v = some (isA t c)
/-- what the name of what was caught can hold -/
inductive CauV (K : PySem.W.Frag) (H : Hp) (cs : List Str) : V → Option Str → Prop
  | non : CauV K H cs .non none
  | ex {a C : Addr} {o : Obj} {u : HO} {c : Str} (h : H a = some (.frz o u)) (hc : o.cls = .ref C) (hn : PySem.W.nsIn K mainGlobals c = some (some (.ref C))) (hm : c ∈ cs) : CauV K H cs (.ref a) (some c)
theorem CauV.mono {K : PySem.W.Frag} {H H' : Hp} {cs : List Str} {v : V} {q : Option Str} (e : Same H H') (h : CauV K H cs v q) : CauV K H' cs v q := by
  cases h with
  | non => exact .non
  | ex h hc hn hm => exact .ex (e _ _ h) hc hn hm
section
variable {X : Cx} {pins : List (Addr × Obj)} {σ : L2.St} {H : Hp} {s : Shared} {A : Around} {E : Value → Shared → Prop} {cs : List Str}
end
section
variable {X : Cx} {cs ts : List Str} {x y : Str} {p py pos : Pos} {i : Nat}
/-- a row of names of classes -/
structure CvL (X : Cx) (cs : List Str) (es : List Expr) (ts : List Str) (ws : List V) : Prop where
  p : PA X es (fun _ H Q => Q ws H)
  t : ∀ its : List Value, Vals ws its → Paired (fun t w => TellsE X.K cs t w) ts its
end
end PD

set_option Elab.async false
set_option linter.all false
set_option maxRecDepth 100000
set_option maxHeartbeats 4000000
namespace PD
open PySem L2
def keysL : List PyData → Option (List Key)
  | [] => some []
  | d :: ds => (keyD d).bind fun k => (keysL ds).map fun ks => k :: ks
theorem keysL_kD : ∀ (k : List Key), keysL (k.map kD) = some k
  | [] => rfl
  | .inl i :: ks => by show ((keysL (ks.map kD)).map fun l => Sum.inl i :: l) = _; rw [keysL_kD ks]; rfl
  | .inr i :: ks => by show ((keysL (ks.map kD)).map fun l => Sum.inr i :: l) = _; rw [keysL_kD ks]; rfl
def isKeyT (k : List Key) : PyData → Bool
  | .tuple ds => decide (keysL ds = some k)
  | _ => false
theorem isKeyT_kD (k j : List Key) : isKeyT k (.tuple (j.map kD)) = decide (j = k) := by
  show decide (keysL (j.map kD) = some k) = _
  rw [keysL_kD]; simp
def hasT (es : KVs) (k : List Key) : Bool := es.any fun e => isKeyT k e.1
def putT (es : KVs) (k : List Key) (v : PyData) : KVs := if hasT es k = true then es.map (fun e => if isKeyT k e.1 = true then (e.1, v) else e) else es ++ [(.tuple (k.map kD), v)]
section
variable {K : PySem.W.Frag} {G : Hp}
theorem RpKT.length : ∀ {vs : List (List Key × V)} {ds : KVs}, RpKT K G vs ds → vs.length = ds.length
  | _, _, .nil => rfl
  | _, _, .cons _ hs => congrArg (· + 1) (RpKT.length hs)
theorem RpKT.anyk (k : List Key) : ∀ {vs : List (List Key × V)} {ds : KVs}, RpKT K G vs ds → (vs.any fun kv => decide (kv.1 = k)) = hasT ds k
  | _, _, .nil => rfl
  | _, _, .cons (k := j) h hs => by
    have := RpKT.anyk k hs
    unfold hasT at this ⊢
    simp only [List.any_cons, isKeyT_kD, this]
theorem RpKT.mapk (k : List Key) {v : V} {d : PyData} (p : Rp K G v d) : ∀ {vs : List (List Key × V)} {ds : KVs}, RpKT K G vs ds → RpKT K G (vs.map fun kv => if kv.1 = k then (kv.1, v) else kv) (ds.map fun e => if isKeyT k e.1 = true then (e.1, d) else e)
  | _, _, .nil => .nil
  | _, _, .cons (k := j) (v := u) (d := c) h hs => by
    simp only [List.map_cons, isKeyT_kD]
    by_cases e : j = k
    · rw [if_pos e, if_pos (decide_eq_true e)]; exact .cons p (RpKT.mapk k p hs)
    · rw [if_neg e, if_neg (by rw [decide_eq_false e]; simp)]; exact .cons h (RpKT.mapk k p hs)
theorem RpKT.snoc (k : List Key) {v : V} {d : PyData} (p : Rp K G v d) : ∀ {vs : List (List Key × V)} {ds : KVs}, RpKT K G vs ds → RpKT K G (vs ++ [(k, v)]) (ds ++ [(.tuple (k.map kD), d)])
  | _, _, .nil => .cons p .nil
  | _, _, .cons h hs => .cons h (RpKT.snoc k p hs)
theorem RpKT.put (k : List Key) {v : V} {d : PyData} (p : Rp K G v d) {vs : List (List Key × V)} {ds : KVs} (h : RpKT K G vs ds) : RpKT K G (putK vs k v) (putT ds k d) := by
  unfold putK putT
  rw [h.anyk k]
  split
  · exact h.mapk k p
  · exact h.snoc k p
end
abbrev TKf := En → Option (List Key × En)
def tKF (K : PySem.W.Frag) (f : TKf) : TE := fun σ H Q => ∃ B G z ε k ε', Rep K B G H z σ ε ∧ f ε = some (k, ε') ∧ ∀ b G' H', Gr B G G' → Rep K B G' H' z σ ε' → H' b = some (.tup (k.map kV)) → Q (.ref b) H'
structure TKv (X : Cx) (e : Expr) (f : TKf) : Prop where
  p : PE X e (tKF X.K f)
section
variable {X : Cx} {fa fb : Ef} {fk : TKf} {a b : Expr} {x : Str} {pos pos' pos2 p2 : Pos}
end
end PD

set_option Elab.async false
set_option linter.all false
set_option maxRecDepth 100000
set_option maxHeartbeats 4000000
namespace PD
open PySem L2
section
variable {X : Cx} {a : Expr} {fa fb : Ef} {pos p2 : Pos}
end
end PD

set_option Elab.async false
set_option linter.all false
set_option maxRecDepth 100000
set_option maxHeartbeats 4000000
namespace PD
open PySem L2
section
variable {X : Cx} {c : Expr} {body : List Stmt} {t : Tf} {f : Sf} {pos : Pos}
end
end PD

set_option Elab.async false
set_option linter.all false
set_option maxRecDepth 100000
set_option maxHeartbeats 4000000
namespace PD
open PySem L2
end PD

set_option Elab.async false
set_option linter.all false
set_option maxRecDepth 100000
set_option maxHeartbeats 4000000
namespace PD
open PySem L2
section
variable {X : Cx}
end
section
variable {K : PySem.W.Frag} {G : Hp} {d : Addr} {od : Obj} {kvs : List (Key × V)}
theorem ne_lock (hd : G d = some (.frz od (.dK kvs))) {a : Addr} {u : HO} (h : G a = some u) (hu : u ≠ .frz od (.dK kvs)) : upd G d (.dK kvs) a = some u := by
  have : a ≠ d := fun e => by subst e; rw [hd] at h; exact hu (Option.some.inj h).symm
  rw [upd_ne this]; exact h
theorem sqL_unlock (hd : G d = some (.frz od (.dK kvs))) {a : Addr} {xs : List V} (h : SqL K G a xs) : SqL K (upd G d (.dK kvs)) a xs := by
  rcases h with (h | ⟨o, h⟩) | h
  · exact .inl (.inl (ne_lock hd h (by intro z; cases z)))
  · exact .inl (.inr ⟨o, ne_lock hd h (by intro z; cases z)⟩)
  · exact .inr h
theorem sqT_unlock (hd : G d = some (.frz od (.dK kvs))) {a : Addr} {xs : List V} (h : SqT K G a xs) : SqT K (upd G d (.dK kvs)) a xs := by
  rcases h with (h | ⟨o, h⟩) | h
  · exact .inl (.inl (ne_lock hd h (by intro z; cases z)))
  · exact .inl (.inr ⟨o, ne_lock hd h (by intro z; cases z)⟩)
  · exact .inr h
theorem rd_unlock (hd : G d = some (.frz od (.dK kvs))) {a : Addr} {es : List (Key × V)} (h : Rd G a (.dK es)) : Rd (upd G d (.dK kvs)) a (.dK es) := by
  by_cases e : a = d
  · subst e
    rcases h with h | ⟨o, h⟩
    · rw [hd] at h; cases h
    · rw [hd] at h; cases h; exact .inl upd_same
  · rcases h with h | ⟨o, h⟩
    · exact .inl (by rw [upd_ne e]; exact h)
    · exact .inr ⟨o, by rw [upd_ne e]; exact h⟩
mutual
theorem Rp.unlock (hd : G d = some (.frz od (.dK kvs))) : ∀ {v : V} {c : PyData}, Rp K G v c → Rp K (upd G d (.dK kvs)) v c
  | _, _, .non => .non
  | _, _, .bl b => .bl b
  | _, _, .int i => .int i
  | _, _, .str x => .str x
  | _, _, .lst h hs => .lst (sqL_unlock hd h) (RpAll.unlock hd hs)
  | _, _, .tup h hs => .tup (sqT_unlock hd h) (RpAll.unlock hd hs)
  | _, _, .dct h hs => .dct (rd_unlock hd h) (RpKV.unlock hd hs)
theorem RpAll.unlock (hd : G d = some (.frz od (.dK kvs))) : ∀ {vs : List V} {ds : List PyData}, RpAll K G vs ds → RpAll K (upd G d (.dK kvs)) vs ds
  | _, _, .nil => .nil
  | _, _, .cons h hs => .cons (Rp.unlock hd h) (RpAll.unlock hd hs)
theorem RpKV.unlock (hd : G d = some (.frz od (.dK kvs))) : ∀ {vs : List (Key × V)} {ds : List (PyData × PyData)}, RpKV K G vs ds → RpKV K (upd G d (.dK kvs)) vs ds
  | _, _, .nil => .nil
  | _, _, .cons h hs => .cons (Rp.unlock hd h) (RpKV.unlock hd hs)
end
theorem RpKT.unlock (hd : G d = some (.frz od (.dK kvs))) : ∀ {vs : List (List Key × V)} {ds : List (PyData × PyData)}, RpKT K G vs ds → RpKT K (upd G d (.dK kvs)) vs ds
  | _, _, .nil => .nil
  | _, _, .cons h hs => .cons (Rp.unlock hd h) (RpKT.unlock hd hs)
def noEx : Sl → Bool
  | .ex _ => false
  | _ => true
theorem Rep.unlock {B H : Hp} {z : Option (Option V)} {σ : L2.St} {ε : En} (r : Rep K B G H z σ ε) (hd : G d = some (.frz od (.dK kvs))) (hB : B d = none) (hx : ε.all noEx = true) : Rep K B (upd G d (.dK kvs)) (upd H d (.dK kvs)) z σ ε where
  bg := fun b u q => by rw [upd_ne (ne_of_none q hB)]; exact r.bg b u q
  sub := fun b u q => by
    by_cases e : b = d
    · subst e; rw [upd_same] at q ⊢; exact q
    · rw [upd_ne e] at q ⊢; exact r.sub b u q
  z0 := r.z0
  len := r.len
  fzs := fun i c q => by
    obtain ⟨v, h1, h2⟩ := r.fzs i c q
    exact ⟨v, h1, h2.unlock hd⟩
  mus := fun i c q => by
    obtain ⟨a, h1, h2, h3, h4⟩ := r.mus i c q
    have e : a ≠ d := fun e => by subst e; rw [hd] at h2; cases h2
    refine ⟨a, h1, by rw [upd_ne e]; exact h2, h3, ?_⟩
    cases h4 with
    | lst g1 g2 => exact .lst (by rw [upd_ne e]; exact g1) (g2.unlock hd)
    | dct g1 g2 => exact .dct (by rw [upd_ne e]; exact g1) (g2.unlock hd)
  dis := r.dis
  exs := fun i c q => by
    have := List.all_eq_true.mp hx _ (List.mem_of_getElem? q)
    cases this
  ms := ⟨fun i es q => by
    obtain ⟨a, ks, h1, h2, h3, h4, h5⟩ := r.ms.mts i es q
    have e : a ≠ d := fun e => by subst e; rw [hd] at h2; cases h2
    exact ⟨a, ks, h1, by rw [upd_ne e]; exact h2, h3, by rw [upd_ne e]; exact h4, h5.unlock hd⟩, r.ms.dtt⟩
end
section
variable {X : Cx}
end
end PD

set_option Elab.async false
set_option linter.all false
set_option maxRecDepth 100000
set_option maxHeartbeats 4000000
namespace PD
open PySem L2
section
variable {X : Cx}
theorem RpKV.vals {K : PySem.W.Frag} {G : Hp} : ∀ {kvs : List (Key × V)} {es : KVs}, RpKV K G kvs es → RpAll K G (kvs.map (·.2)) (es.map (·.2))
  | _, _, .nil => .nil
  | _, _, .cons h t => .cons h (RpKV.vals t)
end
section
open PySem.Spec PyProof.Rows
variable {P : Program} {w : World} {K : PySem.W.Frag} {mg : Str → Option Value} {base : Heap}
end
def tAL (K : PySem.W.Frag) (i : Nat) (fs : Af) : TA := fun σ H Q => ∃ B G z ε ds ε' a, Rep K B G H z σ ε ∧ fs ε = some (ds, ε') ∧ σ[i]? = some (some (.ref a)) ∧ ∀ vs G' H', Gr B G G' → Rep K B G' H' z σ ε' → RpAll K G' vs ds → Q (vs ++ [.ref a]) H'
structure AvL (X : Cx) (i : Nat) (es : List Expr) (fs : Af) : Prop where
  p : PA X es (tAL X.K i fs)
section
variable {X : Cx} {k n : Nat} {f : Addr} {fd : FuncData} {ps : List Str} {x y : Str} {p pos pos' : Pos} {e : Expr} {es : List Expr} {fs : Af} {fa : Ef}
end
end PD

set_option Elab.async false
set_option linter.all false
set_option maxRecDepth 100000
set_option maxHeartbeats 4000000
namespace PD
open PySem L2 PySem.Spec PyProof.Rows
section
variable {X : Cx} {a b e : Expr} {es : List Expr} {fa fb : Ef} {fs : Af} {pos : Pos}
def intT (i : Int) : Str := Str.ofString (toString i)
def rStr : List V → Hp → VK → Prop := fun vs H Q => (∃ i, vs = [V.int i] ∧ i.natAbs.log2 < 1920 ∧ Q (.str (intT i)) H) ∨ ∃ x, vs = [V.str x] ∧ Q (.str x) H
theorem cr_str : CallR X (.type "str") rStr := by
  intro pins s σ H vs us Q I r h
  rcases h with ⟨i, rfl, hi, q⟩ | ⟨x, rfl, q⟩
  · obtain ⟨u, rfl, t, rfl⟩ := vals1 r
    exact PySem.P.str_of_int hi ⟨.str _, H, I.tok _, ⟨_, rfl⟩, q⟩
  · obtain ⟨u, rfl, t, rfl⟩ := vals1 r
    exact PySem.P.str_of_str ⟨.str x, H, I, ⟨_, rfl⟩, q⟩
def dStr : List PyData → Option PyData
  | [.int i] => if i.natAbs.log2 < 1920 then some (.str (intT i)) else none
  | [.str x] => some (.str x)
  | _ => none
theorem cd_str {K : PySem.W.Frag} : CaD K rStr dStr := by
  intro vs ds c G H Q hv sm hg q
  unfold dStr at hg
  split at hg
  · split at hg
    · rename_i i h
      cases hg
      cases hv with
      | cons h1 t =>
        cases t; cases h1
        exact .inl ⟨_, rfl, h, q _ G H (Grow.refl sm) (.str _)⟩
    · cases hg
  · cases hg
    cases hv with
    | cons h1 t =>
      cases t; cases h1
      exact .inr ⟨_, rfl, q _ G H (Grow.refl sm) (.str _)⟩
  · cases hg
def dMin2 : List PyData → Option PyData
  | [.int i, .int j] => some (.int (if j < i then j else i))
  | _ => none
theorem cd_min2 {K : PySem.W.Frag} : CaD K (fun xs H Q => ∃ i j, xs = [.int i, .int j] ∧ Q (.int (if j < i then j else i)) H) dMin2 := by
  intro vs ds c G H Q hv sm hg q
  unfold dMin2 at hg
  split at hg
  · cases hg
    cases hv with
    | cons h1 t => cases t with
      | cons h2 t =>
        cases t; cases h1; cases h2
        exact ⟨_, _, rfl, q _ G H (Grow.refl sm) (.int _)⟩
  · cases hg
def dSplit : PyData → PyData → Option PyData
  | .str x, .str y => if (y.length == 0) = false ∧ x.length + 2 ≤ sizeLine then some (.list ((Txt.split x y).map PyData.str)) else none
  | _, _ => none
theorem rp_strs {K : PySem.W.Frag} {G : Hp} : ∀ (xs : List Str), RpAll K G (xs.map V.str) (xs.map PyData.str)
  | [] => .nil
  | x :: xs => .cons (.str x) (rp_strs xs)
theorem ev_split {apos : Pos} (ha : Ev X a fa) (hb : Ev X b fb) (hs : starEach [b] X.env = [(false, eval b X.env)] := by rfl) (hbase : attributeBase a "split" X.env (eval a X.env) = eval a X.env := by rfl) (hline : (apos.endLine == pos.line) = true := by rfl) :
    Ev X (.Call (.Attribute a "split" apos) [b] [] pos) (fBin dSplit fa fb) :=
  ⟨pe_mono (pe_split ha.p hb.p hs hbase hline) fun σ H Q ⟨B, G, z, ε, d, ε', rep, ef, q⟩ => by
    obtain ⟨⟨d1, ε1⟩, e1, ef1⟩ := Option.bind_eq_some_iff.mp ef
    obtain ⟨⟨d2, ε2⟩, e2, ef2⟩ := Option.bind_eq_some_iff.mp ef1
    obtain ⟨c, e3, ef3⟩ := Option.map_eq_some_iff.mp ef2
    obtain ⟨rfl, rfl⟩ := Prod.mk.inj ef3
    refine ⟨B, G, z, ε, d1, ε1, rep, e1, fun v1 G1 H1 g1 r1 p1 => ?_⟩
    cases p1 with
    | str x =>
      refine ⟨⟨x, rfl⟩, B, G1, z, ε1, d2, ε2, r1, e2, fun v2 G2 H2 g2 r2 p2 => ?_⟩
      cases p2 with
      | str y =>
        simp only [dSplit] at e3
        split at e3
        · rename_i hc
          cases e3
          refine ⟨x, y, rfl, rfl, hc.1, hc.2, fun p hp => ?_⟩
          have gn := grow_new (o := HO.lst ((Txt.split x y).map V.str)) r2.sub hp
          exact q _ _ _ ((g1.trans g2).trans (gn.gr r2.bg)) (gn.rep r2) (.lst (SqL.of upd_same) (rp_strs _))
        · cases e3
      | _ => cases e3
    | _ => cases e3⟩
theorem mt_indexS : MtR X "str.index" (fun x xs H Q => ∃ a b, x = .str a ∧ xs = [.str b] ∧ ∃ i rest, Builtin.Str.occurrences a b 0 a.length 1 = i :: rest ∧ Q (.int i) H) := by
  intro pins s σ H x xs v us Q I rx rs h
  obtain ⟨a, b, rfl, rfl, i, rest, ho, h⟩ := h
  obtain ⟨t, rfl⟩ := rx
  cases rs with
  | cons r1 rs =>
    cases rs
    obtain ⟨u, rfl⟩ := r1
    exact PySem.call_gives PySem.F.slot_str_index (typeIs_str _ _ _) PySem.F.entry_str_index (PySem.F.args_str_index_2 _ _) (gives_str_index a b t u i rest ho) ⟨.int i, H, I.tok _, ⟨_, rfl⟩, h⟩
def dIndexS : PyData → PyData → Option PyData
  | .str x, .str y => match Builtin.Str.occurrences x y 0 x.length 1 with
    | i :: _ => some (.int i)
    | [] => none
  | _, _ => none
theorem ev_indexS {apos : Pos} (ha : Ev X a fa) (hb : Ev X b fb) (hs : starEach [b] X.env = [(false, eval b X.env)] := by rfl) (hbase : attributeBase a "index" X.env (eval a X.env) = eval a X.env := by rfl) (hline : (apos.endLine == pos.line) = true := by rfl) :
    Ev X (.Call (.Attribute a "index" apos) [b] [] pos) (fBin dIndexS fa fb) :=
  ⟨pe_mono (pe_m1 PySem.F.slot_str_index PySem.F.type_str_index mt_indexS ha.p hb.p hs hbase hline) fun σ H Q ⟨B, G, z, ε, d, ε', rep, ef, q⟩ => by
    obtain ⟨⟨d1, ε1⟩, e1, ef1⟩ := Option.bind_eq_some_iff.mp ef
    obtain ⟨⟨d2, ε2⟩, e2, ef2⟩ := Option.bind_eq_some_iff.mp ef1
    obtain ⟨c, e3, ef3⟩ := Option.map_eq_some_iff.mp ef2
    obtain ⟨rfl, rfl⟩ := Prod.mk.inj ef3
    refine ⟨B, G, z, ε, d1, ε1, rep, e1, fun v1 G1 H1 g1 r1 p1 => ?_⟩
    cases p1 with
    | str x =>
      refine ⟨⟨x, rfl⟩, B, G1, z, ε1, d2, ε2, r1, e2, fun v2 G2 H2 g2 r2 p2 => ?_⟩
      cases p2 with
      | str y =>
        simp only [dIndexS] at e3
        split at e3
        · rename_i i rest ho
          cases e3
          exact ⟨x, y, rfl, rfl, i, rest, ho, q _ G2 H2 (g1.trans g2) r2 (.int _)⟩
        · cases e3
      | _ => cases e3
    | _ => cases e3⟩
def tStar (K : PySem.W.Frag) (te : TE) : TA := fun σ H Q => te σ H fun v H1 => ∃ l xs, v = .ref l ∧ (SqL K H1 l xs ∨ SqT K H1 l xs) ∧ Q xs H1
theorem pa_star {te : TE} {p : Pos} (he : PE X e te) : PA X [.Starred e p] (tStar X.K te) := by
  intro pos pins s σ H Q I h
  refine PySem.W.items_star (rest := []) (thn (he pins s σ H _ I h) fun u s1 ⟨x, H1, I1, r1, l, xs, ex, hsq, q⟩ => ?_)
  subst ex
  obtain rfl : u = Value.ref l := r1
  have fin : ∀ (its : List Value), Vals xs its → ∀ h', (∀ b o, s1.heap.get? b = some o → h'.get? b = some o) → wpAny (model X.prog X.w) X.A (spliced (backTo pos (starEach [] X.env))) (fun vs s₃ => AP X pins σ Q (its ++ vs) s₃) X.xe { s1 with heap := h' } := fun its r h' hk =>
    Calls.spliced_nil (by rw [List.append_nil]; exact ⟨xs, H1, I1.kept (t' := s1.toks) hk, r, q⟩)
  rcases hsq with hsq | hsq
  · obtain ⟨its, r, ⟨o, n, ho, hc, hd, hs⟩, z⟩ := I1.list hsq
    have zl : its.toArray.size ≤ sizeLine := by rw [List.size_toArray, ← r.length]; exact z
    refine wpAny_bind (wpAny_specialOf (⟨o, ho, hc⟩ : s1.TypeIs (.ref l) "list") PySem.F.slot_list_iter.lookup (wpAny_pure ⟨rfl, ?_⟩))
    exact wpAny_collect_seq l (.inl rfl) ho hc hs (fun h' hk => fin its r h' hk) zl
  · obtain ⟨its, r, ⟨o, ho, hc, n, hs⟩, z⟩ := I1.tuple hsq
    have zl : its.toArray.size ≤ sizeLine := by rw [List.size_toArray, ← r.length]; exact z
    refine wpAny_bind (wpAny_specialOf (⟨o, ho, hc⟩ : s1.TypeIs (.ref l) "tuple") PySem.F.slot_tuple_iter.lookup (wpAny_pure ⟨rfl, ?_⟩))
    exact wpAny_collect_seq l (.inr rfl) ho hc hs (fun h' hk => fin its r h' hk) zl
def fStar (fa : Ef) : Af := fun ε => (fa ε).bind fun p => match p.1 with
  | .list ds => some (ds, p.2)
  | .tuple ds => some (ds, p.2)
  | _ => none
theorem av_star {p : Pos} (ha : Ev X e fa) : Av X [.Starred e p] (fStar fa) :=
  ⟨pa_mono (pa_star ha.p) fun σ H Q ⟨B, G, z, ε, d, ε', rep, ef, q⟩ => by
    obtain ⟨⟨d1, ε1⟩, e1, ef1⟩ := Option.bind_eq_some_iff.mp ef
    refine ⟨B, G, z, ε, d1, ε1, rep, e1, fun v1 G1 H1 g1 r1 p1 => ?_⟩
    cases p1 with
    | lst h1 h2 => cases ef1; exact ⟨_, _, rfl, .inl (r1.sub.seq h1), q _ G1 H1 g1 r1 h2⟩
    | tup h1 h2 => cases ef1; exact ⟨_, _, rfl, .inr (sqT_same r1.sub h1), q _ G1 H1 g1 r1 h2⟩
    | _ => cases ef1⟩
end
end PD

set_option maxHeartbeats 4000000
namespace PR
open PySem L2 PD
def tab_DEED_PARTS : List (Str × PyData) := [("claim", (.tuple [(.str "house"), (.str "name"), (.str "name")])), ("renew", (.tuple [(.str "house"), (.str "name")])), ("back", (.tuple [(.str "house"), (.str "name")])), ("carry", (.tuple [(.str "place")])), ("copy", (.tuple [(.str "place")])), ("lose", (.tuple [(.str "place")])), ("fall", (.tuple [(.str "house")])), ("rise", (.tuple [(.str "house")])), ("part", (.tuple [(.str "houses")])), ("heal", (.tuple [])), ("round", (.tuple []))]
def tab_ENTRY_PARTS : List (Str × PyData) := [("ask", (.tuple [(.str "name"), (.str "number"), (.str "name"), (.str "number")])), ("got", (.tuple [(.str "name"), (.str "number"), (.str "house"), (.str "number")])), ("no", (.tuple [(.str "name"), (.str "number"), (.str "house")])), ("back", (.tuple [(.str "name"), (.str "number")])), ("word", (.tuple [(.str "name"), (.str "house"), (.str "number"), (.str "number")])), ("free", (.tuple [(.str "name"), (.str "house"), (.str "number")]))]
def B_is_whole : Sf := (sRet (fAnd (fIsi "int" (fVar 0)) (fUn dNot (fIsi "bool" (fVar 0)))))
def M_is_whole : List PyData → Option PyData := runP 1 B_is_whole
def B_is_house : Sf := (sRet (fAnd (fCall (gd 1 M_is_whole) (fCons (fVar 1) fNil)) (fChain dLe dLt (fC (.int 0)) (fVar 1) (fVar 0))))
def M_is_house : List PyData → Option PyData := runP 2 B_is_house
theorem ap_is_house (a0 a1 : PyData) : M_is_house [a0, a1] = outP (B_is_house [.fz a0, .fz a1]) := rfl
def B_is_name : Sf := (sSeq (sIf (gOr (gNot (gTru (fIsi "str" (fVar 0)))) (gNot (gVal (fChain dLe dLe (fC (.int 1)) (fCall dLen (fCons (fVar 0) fNil)) (fC (.int 8)))))) (sRet (fC (.bool false))) sPass)
  (sRet (fCall dAll (fCons (fComp (fSrcS (fVar 0)) (bName 1) gYes (fBin dInS (fVar 1) (fC (.str "abcdefghijklmnopqrstuvwxyz"))) [1]) fNil))))
def M_is_name : List PyData → Option PyData := runP 2 B_is_name
theorem ap_is_name (a0 : PyData) : M_is_name [a0] = outP (B_is_name [.fz a0, .un]) := rfl
def B_is_side : Sf := (sSeq (sIf (gOr (gNot (gTru (fIsi "tuple" (fVar 1)))) (gNot (gVal (fChain dLt dLt (fC (.int 0)) (fCall dLen (fCons (fVar 1) fNil)) (fVar 0))))) (sRet (fC (.bool false))) sPass)
  (sSeq (sIf (gNot (gTru (fCall dAll (fCons (fComp (fSrc (fVar 1)) (bName 2) gYes (fCall (gd 2 M_is_house) (fCons (fVar 0) (fCons (fVar 2) fNil))) [2]) fNil)))) (sRet (fC (.bool false))) sPass)
  (sRet (fBin dEq (fCall dListOf (fCons (fVar 1) fNil)) (fSortedSet (fVar 1))))))
def M_is_side : List PyData → Option PyData := runP 3 B_is_side
theorem ap_is_side (a0 a1 : PyData) : M_is_side [a0, a1] = outP (B_is_side [.fz a0, .fz a1, .un]) := rfl
def B_is_part : Sf := (sSeq (sIf (gVal (fBin dEq (fVar 1) (fC (.str "house")))) (sRet (fCall (gd 2 M_is_house) (fCons (fVar 0) (fCons (fVar 2) fNil)))) sPass)
  (sSeq (sIf (gVal (fBin dEq (fVar 1) (fC (.str "name")))) (sRet (fCall (gd 1 M_is_name) (fCons (fVar 2) fNil))) sPass)
  (sSeq (sIf (gVal (fBin dEq (fVar 1) (fC (.str "place")))) (sRet (fAnd (fCall (gd 1 M_is_whole) (fCons (fVar 2) fNil)) (fBin dGe (fVar 2) (fC (.int 0))))) sPass)
  (sSeq (sIf (gVal (fBin dEq (fVar 1) (fC (.str "number")))) (sRet (fAnd (fCall (gd 1 M_is_whole) (fCons (fVar 2) fNil)) (fBin dGe (fVar 2) (fC (.int 1))))) sPass)
  (sRet (fCall (gd 2 M_is_side) (fCons (fVar 0) (fCons (fVar 2) fNil))))))))
def M_is_part : List PyData → Option PyData := runP 3 B_is_part
theorem ap_is_part (a0 a1 a2 : PyData) : M_is_part [a0, a1, a2] = outP (B_is_part [.fz a0, .fz a1, .fz a2]) := rfl
def B_are_parts : Sf := (sSeq (sIf (gVal (fBin dNe (fCall dLen (fCons (fVar 2) fNil)) (fCall dLen (fCons (fVar 1) fNil)))) (sRet (fC (.bool false))) sPass)
  (sRet (fCall dAll (fCons (fComp (fZip (fCons (fVar 1) (fCons (fVar 2) fNil))) (bTup [3, 4]) gYes (fCall (gd 3 M_is_part) (fCons (fVar 0) (fCons (fVar 3) (fCons (fVar 4) fNil)))) [3, 4]) fNil))))
def M_are_parts : List PyData → Option PyData := runP 5 B_are_parts
theorem ap_are_parts (a0 a1 a2 : PyData) : M_are_parts [a0, a1, a2] = outP (B_are_parts [.fz a0, .fz a1, .fz a2, .un, .un]) := rfl
def B_has_first_word : Sf := (sRet (fAnd (fIsi "tuple" (fVar 0)) (fAnd (fBin dGt (fCall dLen (fCons (fVar 0) fNil)) (fC (.int 0))) (fIsi "str" (fBin dIx (fVar 0) (fC (.int 0)))))))
def M_has_first_word : List PyData → Option PyData := runP 1 B_has_first_word
theorem ap_has_first_word (a0 : PyData) : M_has_first_word [a0] = outP (B_has_first_word [.fz a0]) := rfl
def B_is_deed : Sf := (sSeq (sIf (gNot (gTru (fCall (gd 1 M_has_first_word) (fCons (fVar 1) fNil)))) (sRet (fC (.bool false))) sPass)
  (sSeq (sAsg 2 (fUn (dTabGet tab_DEED_PARTS) (fBin dIx (fVar 1) (fC (.int 0)))))
  (sRet (fAnd (fBin dIsNot (fVar 2) (fC .none)) (fCall (gd 3 M_are_parts) (fCons (fVar 0) (fCons (fVar 2) (fCons (fSl (fVar 1) (oSome (fC (.int 1))) oNone) fNil))))))))
def M_is_deed : List PyData → Option PyData := runP 3 B_is_deed
theorem ap_is_deed (a0 a1 : PyData) : M_is_deed [a0, a1] = outP (B_is_deed [.fz a0, .fz a1, .un]) := rfl
def B_is_entry : Sf := (sSeq (sIf (gNot (gTru (fCall (gd 1 M_has_first_word) (fCons (fVar 1) fNil)))) (sRet (fC (.bool false))) sPass)
  (sSeq (sAsg 2 (fUn (dTabGet tab_ENTRY_PARTS) (fBin dIx (fVar 1) (fC (.int 0)))))
  (sRet (fAnd (fBin dIsNot (fVar 2) (fC .none)) (fCall (gd 3 M_are_parts) (fCons (fVar 0) (fCons (fVar 2) (fCons (fSl (fVar 1) (oSome (fC (.int 1))) oNone) fNil))))))))
def M_is_entry : List PyData → Option PyData := runP 3 B_is_entry
theorem ap_is_entry (a0 a1 : PyData) : M_is_entry [a0, a1] = outP (B_is_entry [.fz a0, .fz a1, .un]) := rfl
def B_show_part : Sf := (sSeq (sIf (gTru (fIsi "tuple" (fVar 0))) (sRet (fBin dJoin (fC (.str ",")) (fComp (fSrc (fVar 0)) (bName 1) gYes (fCall dStr (fCons (fVar 1) fNil)) [1]))) sPass)
  (sRet (fCall dStr (fCons (fVar 0) fNil))))
def M_show_part : List PyData → Option PyData := runP 2 B_show_part
def B_show_words : Sf := (sRet (fBin dJoin (fC (.str " ")) (fComp (fSrc (fVar 0)) (bName 1) gYes (fCall (gd 1 M_show_part) (fCons (fVar 1) fNil)) [1])))
def M_show_words : List PyData → Option PyData := runP 2 B_show_words
def B_show_deed : Sf := (sRet (fCall (gd 1 M_show_words) (fCons (fVar 0) fNil)))
def M_show_deed : List PyData → Option PyData := runP 1 B_show_deed
theorem ap_show_deed (a0 : PyData) : M_show_deed [a0] = outP (B_show_deed [.fz a0]) := rfl
def B_show_log : Sf := (sSeq (sIf (gNot (gTru (fVar 0))) (sRet (fC (.str "-"))) sPass)
  (sRet (fBin dJoin (fC (.str "\n")) (fComp (fSrc (fVar 0)) (bName 1) gYes (fCall (gd 1 M_show_words) (fCons (fVar 1) fNil)) [1]))))
def M_show_log : List PyData → Option PyData := runP 2 B_show_log
def B_is_number_text : Sf := (sSeq (sIf (gOr (gVal (fBin dEq (fVar 0) (fC (.str "")))) (gNot (gTru (fCall dAll (fCons (fComp (fSrcS (fVar 0)) (bName 1) gYes (fBin dInS (fVar 1) (fC (.str "0123456789"))) [1]) fNil))))) (sRet (fC (.bool false))) sPass)
  (sRet (fOr (fBin dEq (fVar 0) (fC (.str "0"))) (fBin dNe (fBin dIx (fVar 0) (fC (.int 0))) (fC (.str "0"))))))
def M_is_number_text : List PyData → Option PyData := runP 2 B_is_number_text
theorem ap_is_number_text (a0 : PyData) : M_is_number_text [a0] = outP (B_is_number_text [.fz a0, .un]) := rfl
def B_number_of : Sf := (sSeq (sAsg 1 (fC (.int 0)))
  (sSeq (sPre [2] (sFor (fSrcS (fVar 0)) (bName 2) (sClr [2] (sAsg 1 (fBin dAdd (fBin dMul (fVar 1) (fC (.int 10))) (fBin dIndexS (fC (.str "0123456789")) (fVar 2)))))))
  (sRet (fVar 1))))
def M_number_of : List PyData → Option PyData := runP 3 B_number_of
theorem ap_number_of (a0 : PyData) : M_number_of [a0] = outP (B_number_of [.fz a0, .un, .un]) := rfl
def B_read_number : Sf := (sSeq (sIf (gNot (gTru (fCall (gd 1 M_is_number_text) (fCons (fVar 0) fNil)))) sNo sPass)
  (sRet (fCall (gd 1 M_number_of) (fCons (fVar 0) fNil))))
def M_read_number : List PyData → Option PyData := runP 1 B_read_number
theorem ap_read_number (a0 : PyData) : M_read_number [a0] = outP (B_read_number [.fz a0]) := rfl
def B_read_part : Sf := (sSeq (sIf (gVal (fBin dEq (fVar 0) (fC (.str "name")))) (sRet (fVar 1)) sPass)
  (sSeq (sIf (gVal (fBin dEq (fVar 0) (fC (.str "houses")))) (sRet (fCall dTupOf (fCons (fComp (fSrc (fBin dSplit (fVar 1) (fC (.str ",")))) (bName 2) gYes (fCall (gd 1 M_read_number) (fCons (fVar 2) fNil)) [2]) fNil))) sPass)
  (sRet (fCall (gd 1 M_read_number) (fCons (fVar 1) fNil)))))
def M_read_part : List PyData → Option PyData := runP 3 B_read_part
theorem ap_read_part (a0 a1 : PyData) : M_read_part [a0, a1] = outP (B_read_part [.fz a0, .fz a1, .un]) := rfl
def B_read_words : Sf := (sSeq (sIf (gOr (gVal (fBin dIs (fVar 0) (fC .none))) (gVal (fBin dNe (fCall dLen (fCons (fVar 1) fNil)) (fBin dAdd (fCall dLen (fCons (fVar 0) fNil)) (fC (.int 1)))))) sNo sPass)
  (sSeq (sAsg 2 (fComp (fZip (fCons (fVar 0) (fCons (fSl (fVar 1) (oSome (fC (.int 1))) oNone) fNil))) (bTup [3, 4]) gYes (fCall (gd 2 M_read_part) (fCons (fVar 3) (fCons (fVar 4) fNil))) [3, 4]))
  (sRet (fCall dTup (fCons (fBin dIx (fVar 1) (fC (.int 0))) (fStar (fVar 2)))))))
def M_read_words : List PyData → Option PyData := runP 5 B_read_words
theorem ap_read_words (a0 a1 : PyData) : M_read_words [a0, a1] = outP (B_read_words [.fz a0, .fz a1, .un, .un, .un]) := rfl
def B_read_deed : Sf := (sSeq (sAsg 2 (fBin dSplit (fVar 1) (fC (.str " "))))
  (sSeq (sAsg 3 (fCall (gd 2 M_read_words) (fCons (fUn (dTabGet tab_DEED_PARTS) (fBin dIx (fVar 2) (fC (.int 0)))) (fCons (fVar 2) fNil))))
  (sSeq (sIf (gNot (gTru (fCall (gd 2 M_is_deed) (fCons (fVar 0) (fCons (fVar 3) fNil))))) sNo sPass)
  (sRet (fVar 3)))))
def M_read_deed : List PyData → Option PyData := runP 4 B_read_deed
theorem ap_read_deed (a0 a1 : PyData) : M_read_deed [a0, a1] = outP (B_read_deed [.fz a0, .fz a1, .un, .un]) := rfl
def B_read_entry : Sf := (sSeq (sAsg 2 (fBin dSplit (fVar 1) (fC (.str " "))))
  (sSeq (sAsg 3 (fCall (gd 2 M_read_words) (fCons (fUn (dTabGet tab_ENTRY_PARTS) (fBin dIx (fVar 2) (fC (.int 0)))) (fCons (fVar 2) fNil))))
  (sSeq (sIf (gNot (gTru (fCall (gd 2 M_is_entry) (fCons (fVar 0) (fCons (fVar 3) fNil))))) sNo sPass)
  (sRet (fVar 3)))))
def M_read_entry : List PyData → Option PyData := runP 4 B_read_entry
theorem ap_read_entry (a0 a1 : PyData) : M_read_entry [a0, a1] = outP (B_read_entry [.fz a0, .fz a1, .un, .un]) := rfl
def B_read_log : Sf := (sSeq (sIf (gVal (fBin dEq (fVar 1) (fC (.str "-")))) (sRet (fCall dTup fNil)) sPass)
  (sRet (fCall dTupOf (fCons (fComp (fSrc (fBin dSplit (fVar 1) (fC (.str "\n")))) (bName 2) gYes (fCall (gd 2 M_read_entry) (fCons (fVar 0) (fCons (fVar 2) fNil))) [2]) fNil))))
def M_read_log : List PyData → Option PyData := runP 3 B_read_log
theorem ap_read_log (a0 a1 : PyData) : M_read_log [a0, a1] = outP (B_read_log [.fz a0, .fz a1, .un]) := rfl
def B_law_mixed : Sf := (sSeq (sAsg 2 (fBin dMod (fBin dMul (fBin dAdd (fBin dAdd (fBin dMod (fVar 0) (fC (.int 2147483647))) (fBin dMul (fC (.int 7919)) (fVar 1))) (fC (.int 1))) (fC (.int 48271))) (fC (.int 2147483647))))
  (sSeq (sAsg 2 (fBin dMod (fBin dMul (fVar 2) (fVar 2)) (fC (.int 2147483629))))
  (sRet (fBin dFdiv (fBin dMod (fBin dMul (fBin dAdd (fVar 2) (fBin dMul (fC (.int 40692)) (fBin dAdd (fVar 1) (fC (.int 3))))) (fC (.int 69621))) (fC (.int 2147483579))) (fC (.int 8))))))
def M_law_mixed : List PyData → Option PyData := runP 3 B_law_mixed
theorem ap_law_mixed (a0 a1 : PyData) : M_law_mixed [a0, a1] = outP (B_law_mixed [.fz a0, .fz a1, .un]) := rfl
def B_law_pot : Sf := (sRetF (fCall dLst (fCons (fBin dMulB (fBin dMod (fVar 0) (fBin dMulB (fBin dMulB (fBin dMulB (fBin dPow (fC (.int 10)) (fC (.int 50))) (fBin dPow (fC (.int 10)) (fC (.int 50)))) (fBin dPow (fC (.int 10)) (fC (.int 50)))) (fBin dPow (fC (.int 10)) (fC (.int 50))))) (fCall dIntOf (fCons (fBin dGe (fVar 0) (fBin dPow (fC (.int 10)) (fC (.int 18)))) fNil))) (fCons (fVar 0) (fCons (fC (.int 0)) fNil)))))
def M_law_pot : List PyData → Option PyData := runN 1 B_law_pot
theorem ap_law_pot (a0 : PyData) : M_law_pot [a0] = outN (B_law_pot [.fz a0]) := rfl
def B_law_take : Sf := (sSeq (sSetM 0 (fBin dAdd (fIxM 0 (fC (.int 2))) (fC (.int 1))) (fC (.int 2)))
  (sSeq (sIf (gVal (fBin dGt (fIxM 0 (fC (.int 0))) (fC (.int 0)))) (sSeq (sAsg 2 (fBin dMod (fIxM 0 (fC (.int 0))) (fVar 1)))
  (sSeq (sSetM 0 (fBin dFdiv (fIxM 0 (fC (.int 0))) (fVar 1)) (fC (.int 0)))
  (sRet (fVar 2)))) sPass)
  (sRet (fBin dMod (fCall (gd 2 M_law_mixed) (fCons (fIxM 0 (fC (.int 1))) (fCons (fIxM 0 (fC (.int 2))) fNil))) (fVar 1)))))
def M_law_take : PyData → List PyData → Option (PyData × PyData) := runR 3 B_law_take
def B_law_name : Sf := (sSeq (sAsg 1 (fC (.str "abcdefghijklmnopqrstuvwxyz")))
  (sSeq (sIf (gVal (fBin dEq (fRow 0 2 M_law_take (fCons (fC (.int 4)) fNil)) (fC (.int 0)))) (sRet (fBin dIx (fCall dLst (fCons (fC (.str "ab")) (fCons (fC (.str "round")) (fCons (fC (.str "heal")) (fCons (fC (.str "ask")) (fCons (fC (.str "a")) (fCons (fC (.str "zzzzzzzz")) (fCons (fC (.str "joe")) (fCons (fC (.str "no")) fNil))))))))) (fRow 0 2 M_law_take (fCons (fC (.int 8)) fNil)))) sPass)
  (sRet (fBin dJoin (fC (.str "")) (fComp (fRng1 (fCons (fBin dAdd (fC (.int 1)) (fRow 0 2 M_law_take (fCons (fC (.int 8)) fNil))) fNil)) (bName 2) gYes (fBin dIx (fVar 1) (fRow 0 2 M_law_take (fCons (fC (.int 26)) fNil))) [2])))))
def M_law_name : PyData → List PyData → Option (PyData × PyData) := runR 3 B_law_name
def B_law_number : Sf := (sSeq (sAsg 2 (fBin dAdd (fBin dAdd (fBin dMul (fRow 0 2 M_law_take (fCons (fBin dPow (fC (.int 10)) (fC (.int 8))) fNil)) (fBin dPow (fC (.int 10)) (fC (.int 20)))) (fBin dMul (fRow 0 2 M_law_take (fCons (fBin dPow (fC (.int 10)) (fC (.int 10))) fNil)) (fBin dPow (fC (.int 10)) (fC (.int 10))))) (fRow 0 2 M_law_take (fCons (fBin dPow (fC (.int 10)) (fC (.int 10))) fNil))))
  (sRet (fBin dAdd (fVar 1) (fBin dIx (fCall dLst (fCons (fRow 0 2 M_law_take (fCons (fC (.int 10)) fNil)) (fCons (fRow 0 2 M_law_take (fCons (fC (.int 10)) fNil)) (fCons (fRow 0 2 M_law_take (fCons (fC (.int 300)) fNil)) (fCons (fBin dSub (fVar 2) (fVar 1)) fNil))))) (fRow 0 2 M_law_take (fCons (fC (.int 4)) fNil))))))
def M_law_number : PyData → List PyData → Option (PyData × PyData) := runR 3 B_law_number
theorem ap_law_number (a0 a1 : PyData) : M_law_number a0 [a1] = outR (B_law_number [.mu a0, .fz a1, .un]) := rfl
def B_law_any_deed : Sf := (sSeq (sAsg 2 (fRow 0 2 M_law_take (fCons (fVar 1) fNil)))
  (sSeq (sAsg 3 (fCall dLst (fCons (fC (.str "claim")) (fCons (fC (.str "renew")) (fCons (fC (.str "back")) (fCons (fC (.str "carry")) (fCons (fC (.str "copy")) (fCons (fC (.str "lose")) (fCons (fC (.str "fall")) (fCons (fC (.str "rise")) (fCons (fC (.str "part")) (fCons (fC (.str "heal")) (fCons (fC (.str "round")) fNil)))))))))))))
  (sSeq (sAsg 4 (fBin dIx (fVar 3) (fRow 0 2 M_law_take (fCons (fC (.int 11)) fNil))))
  (sSeq (sIf (gVal (fBin dEq (fVar 4) (fC (.str "claim")))) (sRet (fCall dTup (fCons (fVar 4) (fCons (fVar 2) (fCons (fRow 0 1 M_law_name fNil) (fCons (fRow 0 1 M_law_name fNil) fNil)))))) sPass)
  (sSeq (sIf (gVal (fBin dIn (fVar 4) (fCall dTup (fCons (fC (.str "renew")) (fCons (fC (.str "back")) fNil))))) (sRet (fCall dTup (fCons (fVar 4) (fCons (fVar 2) (fCons (fRow 0 1 M_law_name fNil) fNil))))) sPass)
  (sSeq (sIf (gVal (fBin dIn (fVar 4) (fCall dTup (fCons (fC (.str "carry")) (fCons (fC (.str "copy")) (fCons (fC (.str "lose")) fNil)))))) (sRet (fCall dTup (fCons (fVar 4) (fCons (fRow 0 2 M_law_number (fCons (fC (.int 0)) fNil)) fNil)))) sPass)
  (sSeq (sIf (gVal (fBin dIn (fVar 4) (fCall dTup (fCons (fC (.str "fall")) (fCons (fC (.str "rise")) fNil))))) (sRet (fCall dTup (fCons (fVar 4) (fCons (fVar 2) fNil)))) sPass)
  (sSeq (sAsg 5 (fCall dTupOf (fCons (fComp (fRng1 (fCons (fVar 1) fNil)) (bName 6) (gVal (fBin dEq (fRow 0 2 M_law_take (fCons (fC (.int 2)) fNil)) (fC (.int 0)))) (fVar 6) [6]) fNil)))
  (sSeq (sIf (gAnd (gVal (fBin dEq (fVar 4) (fC (.str "part")))) (gVal (fChain dLt dLt (fC (.int 0)) (fCall dLen (fCons (fVar 5) fNil)) (fVar 1)))) (sRet (fCall dTup (fCons (fVar 4) (fCons (fVar 5) fNil)))) sPass)
  (sRet (fBin dIx (fCall dLst (fCons (fCall dTup (fCons (fC (.str "heal")) fNil)) (fCons (fCall dTup (fCons (fC (.str "round")) fNil)) fNil))) (fRow 0 2 M_law_take (fCons (fC (.int 2)) fNil)))))))))))))
def M_law_any_deed : PyData → List PyData → Option (PyData × PyData) := runR 7 B_law_any_deed
theorem ap_law_any_deed (a0 a1 : PyData) : M_law_any_deed a0 [a1] = outR (B_law_any_deed [.mu a0, .fz a1, .un, .un, .un, .un, .un]) := rfl
def B_law_any_entry : Sf := (sSeq (sAsg 2 (fRow 0 2 M_law_take (fCons (fVar 1) fNil)))
  (sSeq (sAsg 3 (fRow 0 1 M_law_name fNil))
  (sSeq (sAsg 4 (fCall dMax (fCons (fC (.int 1)) (fCons (fRow 0 2 M_law_number (fCons (fC (.int 1)) fNil)) fNil))))
  (sSeq (sAsg 5 (fCall dMax (fCons (fC (.int 1)) (fCons (fRow 0 2 M_law_number (fCons (fC (.int 1)) fNil)) fNil))))
  (sSeq (sAsgM 6 (fCall dLst (fCons (fCall dTup (fCons (fC (.str "ask")) (fCons (fVar 3) (fCons (fVar 4) (fCons (fRow 0 1 M_law_name fNil) (fCons (fVar 5) fNil)))))) (fCons (fCall dTup (fCons (fC (.str "got")) (fCons (fVar 3) (fCons (fVar 4) (fCons (fVar 2) (fCons (fVar 5) fNil)))))) fNil))))
  (sSeq (sAsgM 6 (fBin dCat (fVar 6) (fCall dLst (fCons (fCall dTup (fCons (fC (.str "no")) (fCons (fVar 3) (fCons (fVar 4) (fCons (fVar 2) fNil))))) (fCons (fCall dTup (fCons (fC (.str "back")) (fCons (fVar 3) (fCons (fVar 4) fNil)))) (fCons (fCall dTup (fCons (fC (.str "word")) (fCons (fVar 3) (fCons (fVar 2) (fCons (fVar 4) (fCons (fVar 5) fNil)))))) fNil))))))
  (sSeq (sAppM 6 (fCall dTup (fCons (fC (.str "free")) (fCons (fVar 3) (fCons (fVar 2) (fCons (fVar 4) fNil))))))
  (sRet (fIxM 6 (fRow 0 2 M_law_take (fCons (fC (.int 6)) fNil)))))))))))
def M_law_any_entry : PyData → List PyData → Option (PyData × PyData) := runR 7 B_law_any_entry
theorem ap_law_any_entry (a0 a1 : PyData) : M_law_any_entry a0 [a1] = outR (B_law_any_entry [.mu a0, .fz a1, .un, .un, .un, .un, .un]) := rfl
def B_law_shown : Sf := (sSeq (sAsgM 1 (fCall dLst fNil))
  (sSeq (sPre [2] (sFor (fSrc (fVar 0)) (bName 2) (sClr [2] (sIf (gTru (fIsi "tuple" (fVar 2))) (sAppM 1 (fBin dJoin (fC (.str ",")) (fComp (fSrc (fVar 2)) (bName 3) gYes (fCall dStr (fCons (fVar 3) fNil)) [3]))) (sAppM 1 (fCall dStr (fCons (fVar 2) fNil)))))))
  (sRet (fBin dJoin (fC (.str " ")) (fVar 1)))))
def M_law_shown : List PyData → Option PyData := runP 4 B_law_shown
theorem ap_law_shown (a0 : PyData) : M_law_shown [a0] = outP (B_law_shown [.fz a0, .un, .un, .un]) := rfl
def B_law_same (M : List PyData → Option PyData) : Sf := (sSeq (sIf (gTru (fIsi "tuple" (fVar 1))) (sSeq (sIf (gOr (gNot (gTru (fIsi "tuple" (fVar 0)))) (gVal (fBin dNe (fCall dLen (fCons (fVar 0) fNil)) (fCall dLen (fCons (fVar 1) fNil))))) (sRet (fC (.bool false))) sPass)
  (sRet (fBin dEqE (fComp (fRng1 (fCons (fCall dLen (fCons (fVar 1) fNil)) fNil)) (bName 2) (gNot (gTru (fCall (gd 2 M) (fCons (fBin dIx (fVar 0) (fVar 2)) (fCons (fBin dIx (fVar 1) (fVar 2)) fNil))))) (fVar 2) [2]) (fCall dLst fNil)))) sPass)
  (sSeq (sIf (gTru (fIsi "str" (fVar 1))) (sRet (fAnd (fIsi "str" (fVar 0)) (fBin dEq (fVar 0) (fVar 1)))) sPass)
  (sRet (fAnd (fIsi "int" (fVar 0)) (fAnd (fUn dNot (fIsi "bool" (fVar 0))) (fBin dEq (fVar 0) (fVar 1)))))))
def Mn_law_same : Nat → List PyData → Option PyData
  | 0 => fun _ => none
  | n + 1 => runP 3 (B_law_same (Mn_law_same n))
def M_law_same : List PyData → Option PyData := Mn_law_same 6
def B_law_deed_right : Sf := (sSeq (sAsg 2 (fCall (gd 1 M_law_shown) (fCons (fVar 1) fNil)))
  (sSeq (sIf (gOr (gNot (gTru (fCall (gd 2 M_law_same) (fCons (fCall (gd 1 M_show_deed) (fCons (fVar 1) fNil)) (fCons (fVar 2) fNil))))) (gNot (gTru (fCall (gd 2 M_law_same) (fCons (fCall (gd 2 M_read_deed) (fCons (fVar 0) (fCons (fVar 2) fNil))) (fCons (fVar 1) fNil)))))) (sRet (fC (.bool false))) sPass)
  (sRet (fAnd (fCall (gd 2 M_law_same) (fCons (fCall (gd 2 M_read_deed) (fCons (fVar 0) (fCons (fCall (gd 1 M_show_deed) (fCons (fVar 1) fNil)) fNil))) (fCons (fVar 1) fNil))) (fBin dEq (fCall (gd 2 M_read_deed) (fCons (fCall dMin2 (fCons (fC (.int 7)) (fCons (fBin dAdd (fVar 0) (fC (.int 1))) fNil))) (fCons (fVar 2) fNil))) (fVar 1))))))
def M_law_deed_right : List PyData → Option PyData := runP 3 B_law_deed_right
theorem ap_law_deed_right (a0 a1 : PyData) : M_law_deed_right [a0, a1] = outP (B_law_deed_right [.fz a0, .fz a1, .un]) := rfl
def B_law_log_right : Sf := (sSeq (sAsg 2 (fBin dJoin (fC (.str "\n")) (fComp (fSrc (fVar 1)) (bName 3) gYes (fCall (gd 1 M_law_shown) (fCons (fVar 3) fNil)) [3])))
  (sSeq (sIf (gVal (fBin dEq (fVar 1) (fCall dTup fNil))) (sAsg 2 (fC (.str "-"))) sPass)
  (sSeq (sIf (gOr (gNot (gTru (fCall (gd 2 M_law_same) (fCons (fCall (gd 1 M_show_log) (fCons (fVar 1) fNil)) (fCons (fVar 2) fNil))))) (gNot (gTru (fCall (gd 2 M_law_same) (fCons (fCall (gd 2 M_read_log) (fCons (fVar 0) (fCons (fVar 2) fNil))) (fCons (fVar 1) fNil)))))) (sRet (fC (.bool false))) sPass)
  (sRet (fAnd (fCall (gd 2 M_law_same) (fCons (fCall (gd 2 M_read_log) (fCons (fVar 0) (fCons (fCall (gd 1 M_show_log) (fCons (fVar 1) fNil)) fNil))) (fCons (fVar 1) fNil))) (fBin dEq (fCall (gd 1 M_show_log) (fCons (fCall (gd 2 M_read_log) (fCons (fVar 0) (fCons (fVar 2) fNil))) fNil)) (fVar 2)))))))
def M_law_log_right : List PyData → Option PyData := runP 4 B_law_log_right
theorem ap_law_log_right (a0 a1 : PyData) : M_law_log_right [a0, a1] = outP (B_law_log_right [.fz a0, .fz a1, .un, .un]) := rfl
def B_law_short_log : Sf := (sSeq (sAsgM 2 (fCall dLst fNil))
  (sSeq (sPre [3, 4, 5, 6, 7] (sFor (fRng1 (fCons (fBin dAdd (fC (.int 100)) (fRow 0 2 M_law_take (fCons (fC (.int 101)) fNil))) fNil)) (bName 3) (sClr [3, 4, 5, 6, 7] (sSeq (sAsg 4 (fBin dAdd (fBin dIx (fC (.str "abz")) (fRow 0 2 M_law_take (fCons (fC (.int 3)) fNil))) (fBin dIx (fCall dLst (fCons (fC (.str "")) (fCons (fC (.str "a")) (fCons (fC (.str "z")) fNil)))) (fRow 0 2 M_law_take (fCons (fC (.int 3)) fNil)))))
  (sSeq (sAsg 5 (fBin dAdd (fC (.int 1)) (fRow 0 2 M_law_take (fCons (fC (.int 9)) fNil))))
  (sSeq (sAsg 6 (fRow 0 2 M_law_take (fCons (fVar 1) fNil)))
  (sSeq (sAsgM 7 (fCall dLst (fCons (fCall dTup (fCons (fC (.str "back")) (fCons (fVar 4) (fCons (fVar 5) fNil)))) (fCons (fCall dTup (fCons (fC (.str "free")) (fCons (fVar 4) (fCons (fVar 6) (fCons (fVar 5) fNil))))) (fCons (fCall dTup (fCons (fC (.str "no")) (fCons (fVar 4) (fCons (fVar 5) (fCons (fVar 6) fNil))))) fNil)))))
  (sSeq (sAppM 7 (fCall dTup (fCons (fC (.str "word")) (fCons (fVar 4) (fCons (fVar 6) (fCons (fVar 5) (fCons (fBin dAdd (fC (.int 1)) (fRow 0 2 M_law_take (fCons (fC (.int 9)) fNil))) fNil)))))))
  (sAppM 2 (fIxM 7 (fRow 0 2 M_law_take (fCons (fC (.int 4)) fNil))))))))))))
  (sRet (fCall dTupOf (fCons (fVar 2) fNil)))))
def M_law_short_log : PyData → List PyData → Option (PyData × PyData) := runR 8 B_law_short_log
theorem ap_law_short_log (a0 a1 : PyData) : M_law_short_log a0 [a1] = outR (B_law_short_log [.mu a0, .fz a1, .un, .un, .un, .un, .un, .un]) := rfl
def B_law : Sf := (sSeq (sPre [2, 1, 3, 4, 5, 6] (sFor (fEnum (fCons (fBin dAdd (fSl (fVar 0) oNone (oSome (fC (.int 10)))) (fCall dLst (fCons (fCall dLen (fCons (fVar 0) fNil)) fNil))) fNil)) (bTup [1, 2]) (sClr [2, 1, 3, 4, 5, 6] (sSeq (sAsgM 3 (fCall (gd 1 M_law_pot) (fCons (fVar 2) fNil)))
  (sSeq (sAsg 4 (fBin dAdd (fC (.int 1)) (fRow 3 2 M_law_take (fCons (fC (.int 7)) fNil))))
  (sSeq (sIf (gAnd (gVal (fBin dEq (fVar 1) (fC (.int 0)))) (gNot (gTru (fCall (gd 2 M_law_log_right) (fCons (fVar 4) (fCons (fRow 3 2 M_law_short_log (fCons (fVar 4) fNil)) fNil)))))) (sRet (fC (.bool false))) sPass)
  (sSeq (sPre [5] (sFor (fRng1 (fCons (fC (.int 6)) fNil)) (bName 5) (sClr [5] (sIf (gNot (gTru (fCall (gd 2 M_law_deed_right) (fCons (fVar 4) (fCons (fRow 3 2 M_law_any_deed (fCons (fVar 4) fNil)) fNil))))) (sRet (fC (.bool false))) sPass))))
  (sSeq (sAsg 6 (fRow 3 2 M_law_take (fCons (fBin dIx (fCall dLst (fCons (fC (.int 13)) (fCons (fC (.int 50)) fNil))) (fCall dIntOf (fCons (fBin dEq (fRow 3 2 M_law_take (fCons (fC (.int 8)) fNil)) (fC (.int 0))) fNil))) fNil)))
  (sIf (gNot (gTru (fCall (gd 2 M_law_log_right) (fCons (fVar 4) (fCons (fCall dTupOf (fCons (fComp (fRng1 (fCons (fVar 6) fNil)) (bName 1) gYes (fRow 3 2 M_law_any_entry (fCons (fVar 4) fNil)) [1]) fNil)) fNil))))) (sRet (fC (.bool false))) sPass)))))))))
  (sSeq (sIf (gOr (gNot (gTru (fCall (gd 2 M_law_deed_right) (fCons (fC (.int 1)) (fCons (fCall dTup (fCons (fC (.str "carry")) (fCons (fBin dSub (fBin dPow (fC (.int 10)) (fC (.int 30))) (fC (.int 1))) fNil))) fNil))))) (gNot (gTru (fCall (gd 2 M_law_deed_right) (fCons (fC (.int 4)) (fCons (fCall dTup (fCons (fC (.str "part")) (fCons (fCall dTup (fCons (fC (.int 0)) (fCons (fC (.int 2)) (fCons (fC (.int 3)) fNil)))) fNil))) fNil)))))) (sRet (fC (.bool false))) sPass)
  (sRet (fAnd (fBin dEq (fCall (gd 1 M_show_log) (fCons (fCall dTup fNil) fNil)) (fC (.str "-"))) (fBin dEq (fCall (gd 2 M_read_log) (fCons (fC (.int 1)) (fCons (fC (.str "-")) fNil))) (fCall dTup fNil))))))
def M_law : List PyData → Option PyData := runP 7 B_law
theorem ap_law (a0 : PyData) : M_law [a0] = outP (B_law [.fz a0, .un, .un, .un, .un, .un, .un]) := rfl
local macro_rules | `(tactic| walk_at "lf") => `(tactic| first | with_reducible rfl | assumption | exact dMod_ok (by omega) | exact dFdiv_ok (by omega) (by omega) | exact dMul_l (by omega) (by omega) | exact dEq_int | exact dNe_int | rfl)
local macro_rules | `(tactic| walk_at "go") => `(tactic| repeat' (first
  | with_reducible apply sSeq_nx | with_reducible apply sAsg_ok | with_reducible apply sAsgM_ok | with_reducible apply sRet_ok | with_reducible apply sRetF_ok | with_reducible apply fBin_ok | with_reducible apply fCall_ok | with_reducible apply fCallK_ok | with_reducible apply fCons_ok
  | with_reducible apply fIxM_ok | with_reducible apply sSetM_ok | with_reducible refine gd_ok rfl ?_ | walk_at "lf"))
theorem ix_in {ds : List PyData} {g : Int} (h0 : 0 ≤ g) (h1 : g < ds.length) : ∃ d, dIx (.list ds) (.int g) = some d ∧ d ∈ ds := by
  have hl : g.toNat < ds.length := by omega
  refine ⟨ds[g.toNat], ?_, List.getElem_mem hl⟩
  show atI ds g = _
  unfold atI ixN
  rw [if_pos h0, if_pos h1]
  simp [hl]
def nmB (x : Str) : Bool := decide (1 ≤ x.cps.size ∧ x.cps.size ≤ 8) && x.cps.toList.all fun c => decide (97 ≤ c ∧ c ≤ 122)
/-- a text that can be laid out, and is a name -/
def okS (x : Str) : Prop := PyData.strOk x = true ∧ nmB x = true
/-- an entry of a log -/
inductive E6 where
  | ask (nm : Str) (n : Int) (p : Str) (u : Int) | got (nm : Str) (n h u : Int) | no (nm : Str) (n h : Int) | back (nm : Str) (n : Int) | word (nm : Str) (h n u : Int) | free (nm : Str) (h n : Int)
  deriving DecidableEq
def E6.d : E6 → PyData
  | .ask nm n p u => .tuple [.str "ask", .str nm, .int n, .str p, .int u]
  | .got nm n h u => .tuple [.str "got", .str nm, .int n, .int h, .int u]
  | .no nm n h => .tuple [.str "no", .str nm, .int n, .int h]
  | .back nm n => .tuple [.str "back", .str nm, .int n]
  | .word nm h n u => .tuple [.str "word", .str nm, .int h, .int n, .int u]
  | .free nm h n => .tuple [.str "free", .str nm, .int h, .int n]
def E6.nm : E6 → Str
  | .ask nm _ _ _ => nm | .got nm _ _ _ => nm | .no nm _ _ => nm | .back nm _ => nm | .word nm _ _ _ => nm | .free nm _ _ => nm
def E6.kd : E6 → Str
  | .ask .. => "ask" | .got .. => "got" | .no .. => "no" | .back .. => "back" | .word .. => "word" | .free .. => "free"
def E6.Wf (m : Int) : E6 → Prop
  | .ask nm n p u => okS nm ∧ 1 ≤ n ∧ okS p ∧ 1 ≤ u
  | .got nm n h u => okS nm ∧ 1 ≤ n ∧ 0 ≤ h ∧ h < m ∧ 1 ≤ u
  | .no nm n h => okS nm ∧ 1 ≤ n ∧ 0 ≤ h ∧ h < m
  | .back nm n => okS nm ∧ 1 ≤ n
  | .word nm h n u => okS nm ∧ 1 ≤ n ∧ 0 ≤ h ∧ h < m ∧ 1 ≤ u
  | .free nm h n => okS nm ∧ 1 ≤ n ∧ 0 ≤ h ∧ h < m
theorem E6.Wf.nm {m : Int} {e : E6} (h : e.Wf m) : okS e.nm := by cases e <;> exact h.1
local macro_rules | `(tactic| walk_at "ev") => `(tactic| simp only [qSeq, qPass, qDrop, qRet, qRetF, qIf, qAsg, qAsgM, qbName, qNames0, qNamesS, qTup, qAsgT, qFor, qPre, qClr, qClrN, qClrC, qClrB, qClrR, qClrF, qclr0, qclrS, qC, qVar, qBin, qUn, qAnd, qOr, qTrue, qNot, qIfE, qNil, qCons, qCall, qCallK,
  qgd1, qgd2, qgd3, qgd4, qgd5, qgd6, qgVal, qgAnd, qgOr, qgNot, qgTru, qgYes, qTruB, qTruN, qTruL, qTruT, qSl, qoN, qoS, qInt, qIsi, qSrc, qSeqL, qSeqT, qRow, qComp, qIxM, qAppM, qAsL, qAsD, qDict0, qPutM, qGetM, qAtM, qKeyI, qKeyS, qEnum, qRng1, qRng2, qSetC, qSortedC, qItemsS, qChain, qoutP, qoutPn, qoutN, qoutR, qoutRn,
  qAddI, qSubI, qLt, qLe, qGt, qGe, qIs, qIsNot, qNeg, qMax2, qIntB, qIntI, qLenL, qLenT, qTupL, qTupT, qListL, qListT, qSlL, qSlT, qdTup0, qdTup1, qdTup2, qdTup3, qdTup4, qdTup5, qdTup6, qdTup7, qIxT, qIxL, at0, at1, at2, at3, at4, at5, at6, cutT1, cutT2, cutT3, cutT4, cutF1, cutF2, cutF3, dEq_int, dNe_int,
  isNone, tyName, Option.bind_some, Option.map_some, Option.bind_none, Option.map_none, List.getElem?_cons_zero, List.getElem?_cons_succ, List.set_cons_zero, List.set_cons_succ, List.take_succ_cons, List.take_zero, List.drop_succ_cons, List.drop_zero, List.map_cons, List.map_nil, List.length_cons, List.length_nil, List.isEmpty_cons, List.isEmpty_nil, Nat.reduceAdd, if_true, if_false, reduceIte, Bool.false_eq_true, Bool.not_true, Bool.not_false, decide_true, decide_false, Bool.true_and, Bool.false_and, Bool.and_true, Bool.and_false, and_self, *])
local macro_rules | `(tactic| walk_at "ex") => `(tactic| (walk_at "ev"; try rfl))
def strK (x : Str) : Prop := PyData.strOk x = true ∧ x.length ≤ 1000
def fine1 : PyData → Prop
  | .str x => strK x
  | .tuple ds => ds.length ≤ 1000
  | _ => True
theorem shS {x : Str} (h : PyData.strOk x = true) : sh (.str x) = true := by simp [sh, SeqAt.shaped, PyData.canLay0, PyData.depth, h]
theorem dEqS {x y : Str} (hx : PyData.strOk x = true) (hy : PyData.strOk y = true) : dEq (.str x) (.str y) = some (.bool (x == y)) := by
  unfold dEq
  rw [if_pos ⟨shS hx, shS hy⟩]; simp [PyData.eqv]
def wholeB : PyData → Bool
  | .int _ => true
  | _ => false
theorem is_whole_eq (d : PyData) : M_is_whole [d] = some (.bool (wholeB d)) := by cases d <;> rfl
def houseB (m : Int) : PyData → Bool
  | .int i => decide (0 ≤ i) && decide (i < m)
  | _ => false
theorem is_house_eq (m : Int) (d : PyData) : M_is_house [.int m, d] = some (.bool (houseB m d)) := by
  have e := is_whole_eq d
  rw [ap_is_house]; unfold B_is_house
  cases d with
  | int i =>
    replace e : M_is_whole [.int i] = some (.bool true) := e
    cases h : decide (0 ≤ i) with
    | true => cases h2 : decide (i < m) <;> (walk_at "ev"; simp [houseB, h, h2])
    | false => walk_at "ev"; simp [houseB, h]
  | _ =>
    simp only [wholeB] at e
    walk_at "ev"; rfl
theorem letters_eq : ("abcdefghijklmnopqrstuvwxyz" : Str).cps.toList = (List.range 26).map (· + 97) := by decide +kernel
theorem in_lettersB (c : Nat) : decide (c ∈ ("abcdefghijklmnopqrstuvwxyz" : Str).cps.toList) = decide (97 ≤ c ∧ c ≤ 122) := by
  rw [letters_eq]
  apply Bool.eq_iff_iff.mpr
  rw [decide_eq_true_eq, decide_eq_true_eq, List.mem_map]
  constructor
  · rintro ⟨a, h, rfl⟩; have := List.mem_range.mp h; omega
  · intro h; exact ⟨c - 97, List.mem_range.mpr (by omega), by omega⟩
def nameB : PyData → Bool
  | .str x => nmB x
  | _ => false
theorem is_name_eq {d : PyData} (hf : fine1 d) : M_is_name [d] = some (.bool (nameB d)) := by
  rw [ap_is_name]; unfold B_is_name
  cases d with
  | str x =>
    have q1 : dLen [.str x] = some (.int x.length) := by
      show (if x.length ≤ sizeLine then some (PyData.int x.length) else none) = _
      rw [if_pos (sizeLine_big (by have := hf.2; omega))]
    have i1 : isSub "str" "str" = true := by decide
    have qS : ∀ (fa : Ef) (ε : En), fSrcS fa ε = (fa ε).bind fun p => (dSigns p.1).map fun ds => (ds, p.2) := fun _ _ => rfl
    have qD : dSigns (.str x) = some (signs x) := rfl
    by_cases hl : 1 ≤ x.length ∧ x.length ≤ 8
    · have q2 : (1 : Int) ≤ (x.length : Int) := by omega
      have q3 : (x.length : Int) ≤ 8 := by omega
      walk_at "ev"
      rw [comp_goM (fun c : Nat => PyData.str ⟨#[c]⟩) (fun c => .bool (decide (97 ≤ c ∧ c ≤ 122))) x.cps.toList ?hd ?turn]
      case hd => rfl
      case turn =>
        intro c hc
        have e := in_sign "abcdefghijklmnopqrstuvwxyz" c
        rw [in_lettersB] at e
        unfold compStep
        walk_at "ev"
      have hlen : x.cps.toList.length ≤ 8 := by rw [Array.length_toList]; exact hl.2
      have e : x.cps.toList.map (fun c => PyData.bool (decide (97 ≤ c ∧ c ≤ 122))) = (x.cps.toList.map fun c => decide (97 ≤ c ∧ c ≤ 122)).map PyData.bool := by rw [List.map_map]; rfl
      rw [e]
      have q5 := qdLst (ds := (x.cps.toList.map fun c => decide (97 ≤ c ∧ c ≤ 122)).map PyData.bool) (by rw [List.length_map, List.length_map]; omega)
      have q6 := dAll_bools (x.cps.toList.map fun c => decide (97 ≤ c ∧ c ≤ 122))
      clear e qS qD
      walk_at "ev"
      congr 2
      show _ = nmB x
      have hl' : 1 ≤ x.cps.size ∧ x.cps.size ≤ 8 := hl
      unfold nmB
      rw [decide_eq_true hl', Bool.true_and, List.all_map]; rfl
    · have hn : nameB (.str x) = false := by
        show nmB x = false
        unfold nmB
        rw [show decide (1 ≤ x.cps.size ∧ x.cps.size ≤ 8) = false from decide_eq_false hl, Bool.false_and]
      rw [hn]
      by_cases h1 : (1 : Int) ≤ (x.length : Int)
      · have h2 : ¬ (x.length : Int) ≤ 8 := by omega
        walk_at "ev"
      · walk_at "ev"
  | _ => rfl
def risB : List Int → Bool
  | a :: b :: l => decide (a < b) && risB (b :: l)
  | _ => true
theorem risB_iff : ∀ {ns : List Int}, risB ns = true ↔ ns.Pairwise (· < ·)
  | [] => by simp [risB]
  | [a] => by simp [risB]
  | a :: b :: l => by
    rw [risB, Bool.and_eq_true, decide_eq_true_eq, risB_iff (ns := b :: l), List.pairwise_cons (a := a)]
    constructor
    · rintro ⟨h, p⟩
      refine ⟨fun y hy => ?_, p⟩
      rcases List.mem_cons.mp hy with rfl | hy
      · exact h
      · exact Int.lt_trans h ((List.pairwise_cons.mp p).1 y hy)
    · rintro ⟨h, p⟩
      exact ⟨h b (List.mem_cons_self ..), p⟩
def intsOf (ds : List PyData) : List Int := ds.filterMap fun d => match d with
  | .int i => some i
  | _ => none
theorem ints_of_houses {m : Int} : ∀ {ds : List PyData}, ds.all (houseB m) = true → ds = (intsOf ds).map PyData.int ∧ ∀ n ∈ intsOf ds, 0 ≤ n ∧ n < m
  | [], _ => ⟨rfl, by simp [intsOf]⟩
  | d :: ds, h => by
    rw [List.all_cons, Bool.and_eq_true] at h
    obtain ⟨h1, h2⟩ := h
    obtain ⟨e, hr⟩ := ints_of_houses h2
    cases d with
    | int i =>
      simp only [houseB, Bool.and_eq_true, decide_eq_true_eq] at h1
      have hc : intsOf (.int i :: ds) = i :: intsOf ds := rfl
      rw [hc]
      refine ⟨by rw [List.map_cons, ← e], fun n hn => ?_⟩
      rcases List.mem_cons.mp hn with rfl | hn
      · exact h1
      · exact hr n hn
    | _ => simp [houseB] at h1
def sideB (m : Int) : PyData → Bool
  | .tuple ds => (decide (0 < ds.length) && decide ((ds.length : Int) < m)) && (ds.all (houseB m) && risB (intsOf ds))
  | _ => false
theorem eqvAll_ints : ∀ (a b : List Int), PyData.eqvAll (a.map PyData.int) (b.map PyData.int) = decide (a = b)
  | [], [] => rfl
  | [], _ :: _ => rfl
  | _ :: _, [] => rfl
  | x :: a, y :: b => by
    show (PyData.eqv (.int x) (.int y) && PyData.eqvAll (a.map PyData.int) (b.map PyData.int)) = _
    rw [eqvAll_ints a b, eqv_int]
    apply Bool.eq_iff_iff.mpr
    rw [Bool.and_eq_true, beq_iff_eq, decide_eq_true_eq, decide_eq_true_eq, List.cons.injEq]
theorem dEq_intL (a b : List Int) : dEq (.list (a.map PyData.int)) (.list (b.map PyData.int)) = some (.bool (decide (a = b))) := by
  unfold dEq
  rw [if_pos ⟨sh_ints a, sh_ints b⟩]
  show some (PyData.bool (PyData.eqvAll _ _)) = _
  rw [eqvAll_ints]
theorem sorted_rising {ns : List Int} {M : List Nat} (hM : M.Pairwise (· < ·)) (hm : ∀ j : Nat, j ∈ M ↔ (j : Int) ∈ ns) (h0 : ∀ n ∈ ns, 0 ≤ n) : decide (ns = M.map fun (n : Nat) => (n : Int)) = risB ns := by
  apply Bool.eq_iff_iff.mpr
  rw [decide_eq_true_eq, risB_iff]
  constructor
  · intro h
    rw [h, List.pairwise_map]
    exact hM.imp fun h => by omega
  · intro h
    have e : ns = (ns.map Int.toNat).map fun (n : Nat) => (n : Int) := by
      rw [List.map_map]
      conv => lhs; rw [← List.map_id ns]
      apply List.map_congr_left
      intro n hn
      show n = ((n.toNat : Nat) : Int)
      have := h0 n hn
      omega
    have e2 : ns.map Int.toNat = M := by
      refine rising_eq ?_ hM fun j => ?_
      · rw [List.pairwise_map]
        exact (List.Pairwise.and_mem.mp h).imp fun ⟨ha, hb, hab⟩ => by have := h0 _ ha; have := h0 _ hb; omega
      · rw [hm j, List.mem_map]
        constructor
        · rintro ⟨a, ha, rfl⟩; have := h0 a ha; rwa [Int.toNat_of_nonneg this]
        · intro hj; exact ⟨j, hj, by omega⟩
    rw [e2] at e
    exact e
theorem is_side_eq {m : Int} (hm : m ≤ 7) {d : PyData} (hf : fine1 d) : M_is_side [.int m, d] = some (.bool (sideB m d)) := by
  rw [ap_is_side]; unfold B_is_side
  cases d with
  | tuple ds =>
    have hlen : ds.length ≤ 1000 := hf
    have i1 : isSub "tuple" "tuple" = true := by decide
    cases h1 : decide (0 < ds.length) with
    | false =>
      have h1' : ¬ (0 : Int) < (ds.length : Int) := by have := of_decide_eq_false h1; omega
      have hs : sideB m (.tuple ds) = false := by simp only [sideB, h1, Bool.false_and]
      rw [hs]
      walk_at "ev"
    | true =>
      have h1' : (0 : Int) < (ds.length : Int) := by have := of_decide_eq_true h1; omega
      cases h2 : decide ((ds.length : Int) < m) with
      | false =>
        have h2' : ¬ (ds.length : Int) < m := of_decide_eq_false h2
        have hs : sideB m (.tuple ds) = false := by simp only [sideB, h2, Bool.and_false, Bool.false_and]
        rw [hs]
        walk_at "ev"
      | true =>
        have h2' : (ds.length : Int) < m := of_decide_eq_true h2
        walk_at "ev"
        rw [comp_goM (fun d : PyData => d) (fun d => .bool (houseB m d)) ds ?hd ?turn]
        case hd => rw [List.map_id']
        case turn =>
          intro d _
          have e := is_house_eq m d
          unfold compStep
          walk_at "ev"
        have e : ds.map (fun d => PyData.bool (houseB m d)) = (ds.map fun d => houseB m d).map PyData.bool := by rw [List.map_map]; rfl
        rw [e]
        have q5 := qdLst (ds := (ds.map fun d => houseB m d).map PyData.bool) (by rw [List.length_map, List.length_map]; omega)
        have q6 := dAll_bools (ds.map fun d => houseB m d)
        have q7 : (ds.map fun d => houseB m d).all id = ds.all (houseB m) := by rw [List.all_map]; rfl
        rw [q7] at q6
        clear e q7
        cases h3 : ds.all (houseB m) with
        | false =>
          rw [h3] at q6
          have hs : sideB m (.tuple ds) = false := by simp only [sideB, h3, Bool.and_false, Bool.false_and]
          rw [hs]
          walk_at "ev"
        | true =>
          rw [h3] at q6
          obtain ⟨e, hr⟩ := ints_of_houses h3
          have hs : sideB m (.tuple ds) = risB (intsOf ds) := by simp only [sideB, h1, h2, h3, Bool.true_and]
          rw [hs]
          obtain ⟨M, hM1, hM2, hM3⟩ := setFold_ints (intsOf ds) [] .nil fun n hn => ⟨(hr n hn).1, by have := (hr n hn).2; omega⟩
          rw [← e] at hM1
          have hq : dEq (.list ds) (.list (intL M)) = some (.bool (risB (intsOf ds))) := by
            have : intL M = (M.map fun (n : Nat) => (n : Int)).map PyData.int := by unfold intL; rw [List.map_map]; rfl
            conv => lhs; rw [e, this, dEq_intL]
            rw [sorted_rising hM2 (fun j => by rw [hM3 j]; simp) fun n hn => (hr n hn).1]
          have hst : ∀ (fa : Ef) (ε : En), fSortedSet fa ε = (fa ε).bind fun p => (seqD p.1).bind fun t => (setFold [] t.2).map fun L => (.list (intL L), p.2) := fun _ _ => rfl
          have hsd : seqD (.tuple ds) = some (true, ds) := rfl
          clear e hr hM2 hM3
          walk_at "ev"
  | _ => rfl
def partB (m : Int) (k : Str) (d : PyData) : Bool :=
  if k == "house" then houseB m d else if k == "name" then nameB d else if k == "place" then (match d with | .int i => decide (0 ≤ i) | _ => false) else if k == "number" then (match d with | .int i => decide (1 ≤ i) | _ => false) else sideB m d
theorem is_part_eq {m : Int} (hm : m ≤ 7) {k : Str} (hk : PyData.strOk k = true) {d : PyData} (hf : fine1 d) : M_is_part [.int m, .str k, d] = some (.bool (partB m k d)) := by
  have e1 := dEqS (y := "house") hk (by decide +kernel)
  have e2 := dEqS (y := "name") hk (by decide +kernel)
  have e3 := dEqS (y := "place") hk (by decide +kernel)
  have e4 := dEqS (y := "number") hk (by decide +kernel)
  have c1 := is_house_eq m d
  have c2 := is_name_eq hf
  have c3 := is_whole_eq d
  have c4 := is_side_eq hm hf
  rw [ap_is_part]; unfold B_is_part
  unfold partB
  cases b1 : (k == "house") with
  | true => rw [b1] at e1; walk_at "ev"
  | false =>
    rw [b1] at e1
    cases b2 : (k == "name") with
    | true => rw [b2] at e2; walk_at "ev"
    | false =>
      rw [b2] at e2
      cases b3 : (k == "place") with
      | true =>
        rw [b3] at e3
        cases d with
        | int i => replace c3 : M_is_whole [.int i] = some (.bool true) := c3; walk_at "ev"
        | _ => (simp only [wholeB] at c3; walk_at "ev")
      | false =>
        rw [b3] at e3
        cases b4 : (k == "number") with
        | true =>
          rw [b4] at e4
          cases d with
          | int i => replace c3 : M_is_whole [.int i] = some (.bool true) := c3; walk_at "ev"
          | _ => (simp only [wholeB] at c3; walk_at "ev")
        | false => rw [b4] at e4; walk_at "ev"
def partsB (m : Int) (ks : List Str) (ds : List PyData) : Bool := decide (ds.length = ks.length) && (ks.zip ds).all fun t => partB m t.1 t.2
theorem zipD_eq : ∀ (ks : List Str) (ds : List PyData), zipD (ks.map PyData.str) ds = (ks.zip ds).map fun t => PyData.tuple [.str t.1, t.2]
  | [], _ => by cases ‹List PyData› <;> rfl
  | _ :: _, [] => rfl
  | k :: ks, d :: ds => by
    show PyData.tuple [.str k, d] :: zipD (ks.map PyData.str) ds = _
    rw [zipD_eq ks ds]; rfl
theorem are_parts_eq {m : Int} (hm : m ≤ 7) {ks : List Str} (hk : ∀ k ∈ ks, PyData.strOk k = true) (hl : ks.length ≤ 100) {ds : List PyData} (hf : ∀ d ∈ ds, fine1 d) : M_are_parts [.int m, .tuple (ks.map .str), .tuple ds] = some (.bool (partsB m ks ds)) := by
  have qZ : ∀ (fs : Af) (ε : En), fZip fs ε = (fs ε).bind fun p => match p.1 with
    | [d, e] => (seqD d).bind fun x => (seqD e).map fun y => (zipD x.2 y.2, p.2)
    | _ => none := fun _ _ => rfl
  have s1 : ∀ ds, seqD (.tuple ds) = some (true, ds) := fun _ => rfl
  have n1 : dNe (.int (ds.length : Nat)) (.int ((ks.map PyData.str).length : Nat)) = some (.bool (!decide (ds.length = ks.length))) := by
    rw [List.length_map, dNe_int]
    congr 3
    apply Bool.eq_iff_iff.mpr
    rw [beq_iff_eq, decide_eq_true_eq]; omega
  rw [ap_are_parts]; unfold B_are_parts
  unfold partsB
  cases hd : decide (ds.length = ks.length) with
  | false => rw [hd] at n1; walk_at "ev"
  | true =>
    rw [hd] at n1
    have z2 := zipD_eq ks ds
    walk_at "ev"
    have hlen := of_decide_eq_true hd
    rw [comp_goM (fun t : Str × PyData => PyData.tuple [.str t.1, t.2]) (fun t => .bool (partB m t.1 t.2)) (ks.zip ds) ?hd ?turn]
    case hd => rfl
    case turn =>
      intro t ht
      have hz := List.of_mem_zip (a := t.1) (b := t.2) ht
      have e := is_part_eq hm (hk t.1 hz.1) (hf t.2 hz.2)
      unfold compStep
      walk_at "ev"
    have e : (ks.zip ds).map (fun t => PyData.bool (partB m t.1 t.2)) = ((ks.zip ds).map fun t => partB m t.1 t.2).map PyData.bool := by rw [List.map_map]; rfl
    rw [e]
    have hzl : (ks.zip ds).length ≤ 100 := by rw [List.length_zip]; omega
    have q5 := qdLst (ds := ((ks.zip ds).map fun t => partB m t.1 t.2).map PyData.bool) (by rw [List.length_map, List.length_map]; omega)
    have q6 := dAll_bools ((ks.zip ds).map fun t => partB m t.1 t.2)
    have q7 : ((ks.zip ds).map fun t => partB m t.1 t.2).all id = (ks.zip ds).all fun t => partB m t.1 t.2 := by rw [List.all_map]; rfl
    rw [q7] at q6
    clear e q7 hlen
    walk_at "ev"
def fine : PyData → Prop
  | .tuple ds => ds.length ≤ 1000 ∧ ∀ d ∈ ds, fine1 d
  | _ => True
def deedKinds : List (Str × List Str) := [("claim", ["house", "name", "name"]), ("renew", ["house", "name"]), ("back", ["house", "name"]), ("carry", ["place"]), ("copy", ["place"]), ("lose", ["place"]), ("fall", ["house"]), ("rise", ["house"]), ("part", ["houses"]), ("heal", []), ("round", [])]
def kindsIn : List (Str × List Str) → Str → Option (List Str)
  | [], _ => none
  | (x, ks) :: L, w => if w = x then some ks else kindsIn L w
def deedB (m : Int) : PyData → Bool
  | .tuple (.str w :: ds) => match kindsIn deedKinds w with
    | some ks => partsB m ks ds
    | none => false
  | _ => false
theorem tab_of (L : List (Str × List Str)) (w : Str) : dTabGet (L.map fun t => (t.1, PyData.tuple (t.2.map .str))) (.str w) = some (match kindsIn L w with | some ks => .tuple (ks.map .str) | none => .none) := by
  show some _ = some _
  congr 1
  induction L with
  | nil => rfl
  | cons t L ih =>
    obtain ⟨x, ks⟩ := t
    rw [List.map_cons]
    unfold PyProof.Rows.KTD.datumAt kindsIn
    by_cases hx : w = x
    · rw [if_pos hx, if_pos (decide_eq_true hx)]; rfl
    · rw [if_neg hx, if_neg (by simpa using hx)]; exact ih
theorem tab_deed (w : Str) : dTabGet tab_DEED_PARTS (.str w) = some (match kindsIn deedKinds w with | some ks => .tuple (ks.map .str) | none => .none) := tab_of deedKinds w
theorem kinds_ok {L : List (Str × List Str)} (h : (L.all fun t => t.2.all (fun k => PyData.strOk k) && decide (t.2.length ≤ 100)) = true) {w : Str} {ks : List Str} (e : kindsIn L w = some ks) : (∀ k ∈ ks, PyData.strOk k = true) ∧ ks.length ≤ 100 := by
  induction L with
  | nil => cases e
  | cons t L ih =>
    obtain ⟨x, ls⟩ := t
    rw [List.all_cons, Bool.and_eq_true] at h
    unfold kindsIn at e
    by_cases hx : w = x
    · rw [if_pos hx] at e
      cases e
      have := h.1
      rw [Bool.and_eq_true, List.all_eq_true, decide_eq_true_eq] at this
      exact this
    · rw [if_neg hx] at e; exact ih h.2 e
def firstStr : PyData → Bool
  | .tuple (.str _ :: _) => true
  | _ => false
theorem first_word_eq (d : PyData) : M_has_first_word [d] = some (.bool (firstStr d)) := by
  cases d with
  | tuple ds => cases ds with
    | nil => rfl
    | cons x ds =>
      have i1 : isSub "tuple" "tuple" = true := by decide
      have g1 : (0 : Int) < ((ds.length + 1 : Nat) : Int) := by omega
      rw [ap_has_first_word]; unfold B_has_first_word
      cases x with
      | str w => have i2 : isSub "str" "str" = true := by decide
                 walk_at "ev"; rfl
      | none => have i2 : isSub "NoneType" "str" = false := by decide
                walk_at "ev"; rfl
      | bool b => have i2 : isSub "bool" "str" = false := by decide
                  walk_at "ev"; rfl
      | int b => have i2 : isSub "int" "str" = false := by decide
                 walk_at "ev"; rfl
      | list b => have i2 : isSub "list" "str" = false := by decide
                  walk_at "ev"; rfl
      | tuple b => have i2 : isSub "tuple" "str" = false := by decide
                   walk_at "ev"; rfl
      | dict b => have i2 : isSub "dict" "str" = false := by decide
                  walk_at "ev"; rfl
  | _ => rfl
theorem deedB_false {m : Int} {d : PyData} (h : firstStr d = false) : deedB m d = false := by
  unfold deedB
  split
  · simp [firstStr] at h
  · rfl
theorem is_deed_eq {m : Int} (hm : m ≤ 7) {d : PyData} (hf : fine d) : M_is_deed [.int m, d] = some (.bool (deedB m d)) := by
  have hw := first_word_eq d
  rw [ap_is_deed]; unfold B_is_deed
  cases hs : firstStr d with
  | false =>
    rw [hs] at hw
    rw [deedB_false hs]
    walk_at "ev"
  | true =>
    rw [hs] at hw
    obtain ⟨w, ds, rfl⟩ : ∃ w ds, d = .tuple (.str w :: ds) := by
      unfold firstStr at hs
      split at hs
      · exact ⟨_, _, rfl⟩
      · cases hs
    have ht := tab_deed w
    show _ = some (PyData.bool (match kindsIn deedKinds w with | some ks => partsB m ks ds | none => false))
    cases hk : kindsIn deedKinds w with
    | none => rw [hk] at ht; walk_at "ev"
    | some ks =>
      rw [hk] at ht
      obtain ⟨k1, k2⟩ := kinds_ok (by decide +kernel) hk
      have e := are_parts_eq hm k1 k2 fun d hd => hf.2 d (List.mem_cons_of_mem _ hd)
      clear hk k1
      walk_at "ev"
def entKinds : List (Str × List Str) := [("ask", ["name", "number", "name", "number"]), ("got", ["name", "number", "house", "number"]), ("no", ["name", "number", "house"]), ("back", ["name", "number"]), ("word", ["name", "house", "number", "number"]), ("free", ["name", "house", "number"])]
def entryB (m : Int) : PyData → Bool
  | .tuple (.str w :: ds) => match kindsIn entKinds w with
    | some ks => partsB m ks ds
    | none => false
  | _ => false
theorem tab_entry (w : Str) : dTabGet tab_ENTRY_PARTS (.str w) = some (match kindsIn entKinds w with | some ks => .tuple (ks.map .str) | none => .none) := tab_of entKinds w
theorem entryB_false {m : Int} {d : PyData} (h : firstStr d = false) : entryB m d = false := by
  unfold entryB
  split
  · simp [firstStr] at h
  · rfl
theorem is_entry_eq {m : Int} (hm : m ≤ 7) {d : PyData} (hf : fine d) : M_is_entry [.int m, d] = some (.bool (entryB m d)) := by
  have hw := first_word_eq d
  rw [ap_is_entry]; unfold B_is_entry
  cases hs : firstStr d with
  | false =>
    rw [hs] at hw
    rw [entryB_false hs]
    walk_at "ev"
  | true =>
    rw [hs] at hw
    obtain ⟨w, ds, rfl⟩ : ∃ w ds, d = .tuple (.str w :: ds) := by
      unfold firstStr at hs
      split at hs
      · exact ⟨_, _, rfl⟩
      · cases hs
    have ht := tab_entry w
    show _ = some (PyData.bool (match kindsIn entKinds w with | some ks => partsB m ks ds | none => false))
    cases hk : kindsIn entKinds w with
    | none => rw [hk] at ht; walk_at "ev"
    | some ks =>
      rw [hk] at ht
      obtain ⟨k1, k2⟩ := kinds_ok (by decide +kernel) hk
      have e := are_parts_eq hm k1 k2 fun d hd => hf.2 d (List.mem_cons_of_mem _ hd)
      clear hk k1
      walk_at "ev"
def jn (c : Nat) : List (List Nat) → List Nat
  | [] => []
  | [a] => a
  | a :: b :: r => a ++ c :: jn c (b :: r)
theorem join_list (c : Nat) : ∀ ws : List Str, (Str.join ⟨#[c]⟩ ws).cps.toList = jn c (ws.map fun w => w.cps.toList)
  | [] => rfl
  | [a] => rfl
  | a :: b :: r => by
    have ih := join_list c (b :: r)
    show ((a ++ (⟨#[c]⟩ : Str)) ++ Str.join ⟨#[c]⟩ (b :: r)).cps.toList = a.cps.toList ++ c :: jn c ((b :: r).map fun w => w.cps.toList)
    rw [← ih, Str.cps_append, Str.cps_append, Array.toList_append, Array.toList_append, List.append_assoc]; rfl
theorem cut_first {c : Nat} : ∀ {a a' x x' : List Nat}, c ∉ a → c ∉ a' → a ++ c :: x = a' ++ c :: x' → a = a' ∧ x = x'
  | [], [], x, x', _, _, h => by simp at h; exact ⟨rfl, h⟩
  | [], b :: a', x, x', _, h2, h => by
    simp only [List.nil_append, List.cons_append, List.cons.injEq] at h
    exact absurd (by rw [h.1]; exact List.mem_cons_self ..) h2
  | b :: a, [], x, x', h1, _, h => by
    simp only [List.nil_append, List.cons_append, List.cons.injEq] at h
    exact absurd (by rw [← h.1]; exact List.mem_cons_self ..) h1
  | b :: a, b' :: a', x, x', h1, h2, h => by
    simp only [List.cons_append, List.cons.injEq] at h
    obtain ⟨e1, e2⟩ := cut_first (fun z => h1 (List.mem_cons_of_mem _ z)) (fun z => h2 (List.mem_cons_of_mem _ z)) h.2
    exact ⟨by rw [h.1, e1], e2⟩
theorem jn_inj {c : Nat} : ∀ {A B : List (List Nat)}, A ≠ [] → B ≠ [] → (∀ w ∈ A, c ∉ w) → (∀ w ∈ B, c ∉ w) → jn c A = jn c B → A = B
  | [], _, h, _, _, _, _ => absurd rfl h
  | _, [], _, h, _, _, _ => absurd rfl h
  | [a], [b], _, _, _, _, h => by rw [show a = b from h]
  | [a], b :: b' :: r, _, _, h1, _, h => by
    have h : a = b ++ c :: jn c (b' :: r) := h
    exact absurd (by rw [h]; simp) (h1 a (List.mem_cons_self ..))
  | a :: a' :: r, [b], _, _, _, h2, h => by
    have h : a ++ c :: jn c (a' :: r) = b := h
    exact absurd (by rw [← h]; simp) (h2 b (List.mem_cons_self ..))
  | a :: a' :: r, b :: b' :: q, _, _, h1, h2, h => by
    have h : a ++ c :: jn c (a' :: r) = b ++ c :: jn c (b' :: q) := h
    obtain ⟨e1, e2⟩ := cut_first (h1 a (List.mem_cons_self ..)) (h2 b (List.mem_cons_self ..)) h
    have e3 := jn_inj (A := a' :: r) (B := b' :: q) (by simp) (by simp) (fun w hw => h1 w (List.mem_cons_of_mem _ hw)) (fun w hw => h2 w (List.mem_cons_of_mem _ hw)) e2
    rw [e1, e3]
theorem map_cps_inj : ∀ {A B : List Str}, A.map (fun w => w.cps.toList) = B.map (fun w => w.cps.toList) → A = B
  | [], [], _ => rfl
  | [], _ :: _, h => by simp at h
  | _ :: _, [], h => by simp at h
  | a :: A, b :: B, h => by
    simp only [List.map_cons, List.cons.injEq] at h
    rw [Str.ext' (Array.toList_inj.mp h.1), map_cps_inj h.2]
theorem split_ne (x y : Str) : Txt.split x y ≠ [] := by
  unfold Txt.split
  split
  · simp
  · split
    · simp
    · rw [PySem.StrLaws.partsBetween_eq]
      obtain ⟨p, r, e⟩ := PySem.StrLaws.partsFrom_ne x y.length 0 (Builtin.Str.occurrences x y 0 x.length (x.length + 1))
      rw [e]; simp
theorem split_join {c : Nat} {ws : List Str} (hne : ws ≠ []) (hf : ∀ w ∈ ws, c ∉ w.cps.toList) : Txt.split (Str.join ⟨#[c]⟩ ws) ⟨#[c]⟩ = ws := by
  have h1 := PySem.StrLaws.join_split (Str.join ⟨#[c]⟩ ws) ⟨#[c]⟩
  have h2 := PySem.StrLaws.split_free (Str.join ⟨#[c]⟩ ws) c
  have h3 := split_ne (Str.join ⟨#[c]⟩ ws) ⟨#[c]⟩
  generalize Txt.split (Str.join ⟨#[c]⟩ ws) ⟨#[c]⟩ = A at h1 h2 h3
  apply map_cps_inj
  refine jn_inj (c := c) (by simpa using h3) (by simpa using hne) (fun w hw => ?_) (fun w hw => ?_) ?_
  · obtain ⟨s, hs, rfl⟩ := List.mem_map.mp hw; exact h2 s hs
  · obtain ⟨s, hs, rfl⟩ := List.mem_map.mp hw; exact hf s hs
  · rw [← join_list, ← join_list, h1]
def dg (k : Nat) : List Nat := (Nat.toDigits 10 k).map Char.toNat
theorem dg_small {k : Nat} (h : k < 10) : dg k = [48 + k] := by unfold dg; rw [Nat.toDigits_of_lt_base h]; simp [Nat.toNat_digitChar_of_lt_ten h]
theorem dg_big {k : Nat} (h : 10 ≤ k) : dg k = dg (k / 10) ++ [48 + k % 10] := by
  unfold dg
  rw [Nat.toDigits_of_base_le (by decide) h, List.map_append]
  simp [Nat.toNat_digitChar_of_lt_ten (Nat.mod_lt k (by decide : 0 < 10))]
theorem intT_list (k : Nat) : (intT (k : Int)).cps.toList = dg k := by
  have e : toString (k : Int) = Nat.repr k := rfl
  unfold intT dg
  rw [e, Str.ofString_eq_toList, Nat.toList_repr]
def numF (l : List Nat) : Nat := l.foldl (fun a c => a * 10 + (c - 48)) 0
theorem num_dg (k : Nat) : numF (dg k) = k := by
  induction k using Nat.strongRecOn with
  | ind k ih =>
    by_cases h : k < 10
    · rw [dg_small h]; show 0 * 10 + (48 + k - 48) = k; omega
    · have e := ih (k / 10) (by omega)
      unfold numF at e ⊢
      rw [dg_big (by omega), List.foldl_append, e]
      show k / 10 * 10 + (48 + k % 10 - 48) = k
      omega
theorem dg_rg (k : Nat) : ∀ c ∈ dg k, 48 ≤ c ∧ c ≤ 57 := by
  induction k using Nat.strongRecOn with
  | ind k ih =>
    intro c hc
    by_cases h : k < 10
    · rw [dg_small h] at hc; rw [List.mem_singleton.mp hc]; omega
    · rw [dg_big (by omega)] at hc
      rcases List.mem_append.mp hc with hc | hc
      · exact ih (k / 10) (by omega) c hc
      · rw [List.mem_singleton.mp hc]; omega
theorem dg_head (k : Nat) : ∃ a l, dg k = a :: l ∧ (0 < k → a ≠ 48) := by
  induction k using Nat.strongRecOn with
  | ind k ih =>
    by_cases h : k < 10
    · exact ⟨_, _, dg_small h, fun _ => by omega⟩
    · obtain ⟨a, l, e, ha⟩ := ih (k / 10) (by omega)
      exact ⟨a, l ++ [48 + k % 10], by rw [dg_big (by omega), e]; rfl, fun _ => ha (by omega)⟩
theorem dg_len : ∀ (n k : Nat), k < 10 ^ (n + 1) → (dg k).length ≤ n + 1
  | 0, k, h => by rw [dg_small (by simpa using h)]; exact Nat.le_refl _
  | n + 1, k, h => by
    by_cases hk : k < 10
    · rw [dg_small hk]; show 1 ≤ _; omega
    · rw [dg_big (by omega), List.length_append]
      have := dg_len n (k / 10) (by rw [Nat.pow_succ] at h; omega)
      show _ + 1 ≤ _; omega
theorem len_toList (x : Str) : x.length = x.cps.toList.length := by rw [Array.length_toList]; rfl
/-- a number's text -/
theorem numT_facts {n : Int} (h0 : 0 ≤ n) (h1 : n < 10000000000000000000000000000000) : (∀ c ∈ (intT n).cps.toList, 48 ≤ c ∧ c ≤ 57) ∧ (intT n).length ≤ 31 ∧ numF (intT n).cps.toList = n.toNat ∧ n.natAbs.log2 < 1920 := by
  obtain ⟨k, rfl⟩ := Int.eq_ofNat_of_zero_le h0
  rw [len_toList, intT_list]
  refine ⟨dg_rg k, dg_len 30 k (by show k < 10 ^ 31; omega), num_dg k, ?_⟩
  show k.log2 < 1920
  rcases Nat.eq_zero_or_pos k with rfl | hk
  · decide
  · rw [Nat.log2_lt (by omega)]
    exact Nat.lt_of_lt_of_le (show k < 10000000000000000000000000000000 by omega) (by decide +kernel)
theorem ok_ascii {x : Str} (h : ∀ c ∈ x.cps.toList, c ≤ 127) : PyData.strOk x = true := by
  simp only [PyData.strOk]
  rw [← Array.all_toList]
  simp only [List.all_eq_true, decide_eq_true_eq]
  intro c hc
  have := h c hc; omega
theorem seq_stepP {a b : Sf} {ε ε1 : En} {o : Option PyData} (h : a ε = some (.nx ε1)) (h2 : outP (b ε1) = o) : outP (sSeq a b ε) = o := by
  subst h2
  unfold sSeq
  rw [h]
  rfl
theorem clr47 {f : Sf} {ε : En} {o : Out} {vs : List Nat} (h : f ε = some o) : sClr vs f ε = some (clrO vs o) := by unfold sClr; rw [h]; rfl
theorem gNot47 {ga : Tf} {ε ε1 : En} {b : Bool} (h : ga ε = some (b, ε1)) : gNot ga ε = some (!b, ε1) := by unfold gNot; rw [h]; rfl
theorem asg47 {i : Nat} {f : Ef} {d : PyData} {ε ε1 ε2 : En} (h : f ε = some (d, ε1)) (he : ε1.set i (.fz d) = ε2) : sAsg i f ε = some (.nx ε2) := by subst he; exact sAsg_ok h
theorem fZip_ok47 {fs : Af} {ε ε1 : En} {d e : PyData} {x y : Bool × List PyData} (ha : fs ε = some ([d, e], ε1)) (hd : seqD d = some x) (he : seqD e = some y) : fZip fs ε = some (zipD x.2 y.2, ε1) := by
  unfold fZip; rw [ha]; simp only [Option.bind_some, hd, he, Option.map_some]
theorem dMul_r {a b : Int} (h1 : -18446744073709551616 < b) (h2 : b < 18446744073709551616) : dMul (.int a) (.int b) = some (.int (a * b)) := by
  show (if _ then some (PyData.int (a * b)) else none) = _
  rw [if_pos (.inr ⟨by simpa using h1, by simpa using h2⟩)]
theorem mixed_ok (c k : Int) : ∃ v, M_law_mixed [.int c, .int k] = some (.int v) ∧ 0 ≤ v := by
  have e1 := dMod_ok (a := c) (m := 2147483647) (by decide)
  have e2 := dMul_l (a := 7919) (b := k) (by decide) (by decide)
  have e3 := dMul_r (a := c % 2147483647 + 7919 * k + 1) (b := 48271) (by decide) (by decide)
  have e4 := dMod_ok (a := (c % 2147483647 + 7919 * k + 1) * 48271) (m := 2147483647) (by decide)
  have q0 : 0 ≤ (c % 2147483647 + 7919 * k + 1) * 48271 % 2147483647 := Int.emod_nonneg _ (by decide)
  have q1 : (c % 2147483647 + 7919 * k + 1) * 48271 % 2147483647 < 2147483647 := Int.emod_lt_of_pos _ (by decide)
  generalize (c % 2147483647 + 7919 * k + 1) * 48271 % 2147483647 = x at e4 q0 q1
  have e5 := dMul_l (a := x) (b := x) (by omega) (by omega)
  have e6 := dMod_ok (a := x * x) (m := 2147483629) (by decide)
  generalize x * x % 2147483629 = y at e6
  have e7 := dMul_l (a := 40692) (b := k + 3) (by decide) (by decide)
  have e8 := dMul_r (a := y + 40692 * (k + 3)) (b := 69621) (by decide) (by decide)
  have e9 := dMod_ok (a := (y + 40692 * (k + 3)) * 69621) (m := 2147483579) (by decide)
  have q2 : 0 ≤ (y + 40692 * (k + 3)) * 69621 % 2147483579 := Int.emod_nonneg _ (by decide)
  generalize (y + 40692 * (k + 3)) * 69621 % 2147483579 = w at e9 q2
  have e10 := dFdiv_ok (a := w) (m := 8) (by decide) (by decide)
  refine ⟨w / 8, ?_, Int.ediv_nonneg q2 (by decide)⟩
  rw [ap_law_mixed]; unfold B_law_mixed
  clear q0 q1 q2
  walk_at "ev"
def PotOk (d : PyData) : Prop := ∃ a c k, d = .list [.int a, .int c, .int k]
theorem mulB_b (i : Int) (b : Bool) : mulB i (if b = true then 1 else 0) = true := by
  have h : (decide (Builtin.Int.intBits (if b = true then (1 : Int) else 0) > shortFactorBits)) = false := by cases b <;> decide +kernel
  unfold mulB
  rw [h]
  simp
theorem dMulB_ok {i j : Int} (h : mulB i j = true) : dMulB (.int i) (.int j) = some (.int (i * j)) := by
  show (if mulB i j = true then some (PyData.int (i * j)) else none) = _
  rw [if_pos h]
theorem pot_ok (n : Int) : ∃ r, M_law_pot [.int n] = some r ∧ PotOk r := by
  have p1 : dMulB (.int (10 ^ (50 : Int).toNat)) (.int (10 ^ (50 : Int).toNat)) = some (.int (10 ^ (50 : Int).toNat * 10 ^ (50 : Int).toNat)) := dMulB_ok (by decide +kernel)
  have p2 : dMulB (.int (10 ^ (50 : Int).toNat * 10 ^ (50 : Int).toNat)) (.int (10 ^ (50 : Int).toNat)) = some (.int (10 ^ (50 : Int).toNat * 10 ^ (50 : Int).toNat * 10 ^ (50 : Int).toNat)) := dMulB_ok (by decide +kernel)
  have p3 : dMulB (.int (10 ^ (50 : Int).toNat * 10 ^ (50 : Int).toNat * 10 ^ (50 : Int).toNat)) (.int (10 ^ (50 : Int).toNat)) = some (.int (10 ^ (50 : Int).toNat * 10 ^ (50 : Int).toNat * 10 ^ (50 : Int).toNat * 10 ^ (50 : Int).toNat)) := dMulB_ok (by decide +kernel)
  have w1 : dPow (.int 10) (.int 50) = some (.int (10 ^ (50 : Int).toNat)) := by
    show (if (0 : Int) ≤ 50 ∧ (50 : Int) ≤ 1000000 ∧ (10 : Int).natAbs < 2 ^ 64 then some (PyData.int (10 ^ (50 : Int).toNat)) else none) = _
    rw [if_pos (by decide)]
  have w2 : dPow (.int 10) (.int 18) = some (.int (10 ^ (18 : Int).toNat)) := by
    show (if (0 : Int) ≤ 18 ∧ (18 : Int) ≤ 1000000 ∧ (10 : Int).natAbs < 2 ^ 64 then some (PyData.int (10 ^ (18 : Int).toNat)) else none) = _
    rw [if_pos (by decide)]
  have pos : 0 < (10 : Int) ^ (50 : Int).toNat * 10 ^ (50 : Int).toNat * 10 ^ (50 : Int).toNat * 10 ^ (50 : Int).toNat := by decide +kernel
  generalize (10 : Int) ^ (50 : Int).toNat * 10 ^ (50 : Int).toNat * 10 ^ (50 : Int).toNat * 10 ^ (50 : Int).toNat = P at p3 pos
  have m1 := dMod_ok (a := n) (m := P) pos
  have g1 : dGe (.int n) (.int (10 ^ (18 : Int).toNat)) = some (.bool (decide (10 ^ (18 : Int).toNat ≤ n))) := rfl
  generalize (10 : Int) ^ (50 : Int).toNat * 10 ^ (50 : Int).toNat * 10 ^ (50 : Int).toNat = P3 at p2 p3
  generalize (10 : Int) ^ (50 : Int).toNat * 10 ^ (50 : Int).toNat = P2 at p1 p2
  generalize (10 : Int) ^ (50 : Int).toNat = P1 at w1 p1 p2 p3
  generalize (10 : Int) ^ (18 : Int).toNat = P0 at w2 g1
  generalize decide (P0 ≤ n) = b at g1
  have i1 : dIntOf [.bool b] = some (.int (if b = true then 1 else 0)) := by cases b <;> rfl
  have k1 : dMulB (.int (n % P)) (.int (if b = true then 1 else 0)) = some (.int (n % P * (if b = true then 1 else 0))) := dMulB_ok (mulB_b _ _)
  generalize n % P = R at m1 k1
  generalize (if b = true then (1 : Int) else 0) = c at i1 k1
  have q1 : dLst [.int (R * c), .int n, .int 0] = some (.list [.int (R * c), .int n, .int 0]) := qdLst (by simp)
  refine ⟨.list [.int (R * c), .int n, .int 0], ?_, _, _, _, rfl⟩
  rw [ap_law_pot]; unfold B_law_pot
  clear pos
  walk_at "ev"
local macro_rules | `(tactic| walk_at "lf") => `(tactic| first | with_reducible rfl | assumption | exact dMod_ok (by omega) | exact dFdiv_ok (by omega) (by omega) | exact dEq_int | exact dNe_int | rfl)
local macro_rules | `(tactic| walk_at "go") => `(tactic| repeat' (first
  | with_reducible apply sSeq_nx | with_reducible apply sAsg_ok | with_reducible apply sAsgM_ok | with_reducible apply sRet_ok | with_reducible apply sRetF_ok | with_reducible apply fBin_ok | with_reducible apply fCall_ok | with_reducible apply fCallK_ok | with_reducible apply fCons_ok
  | with_reducible apply fIxM_ok | with_reducible apply sSetM_ok | with_reducible refine gd_ok rfl ?_ | walk_at "lf"))
theorem take_ok {r : PyData} (hr : PotOk r) {m : Int} (h0 : 0 < m) (h1 : m < 2 ^ 200) : ∃ v r', M_law_take r [.int m] = some (.int v, r') ∧ 0 ≤ v ∧ v < m ∧ PotOk r' := by
  obtain ⟨a, c, k, rfl⟩ := hr
  obtain ⟨w, hw, w0⟩ := mixed_ok c (k + 1)
  cases hc : decide (0 < a) with
  | true =>
    refine ⟨a % m, .list [.int (a / m), .int c, .int (k + 1)], runR_ok (ε := ?e) ?_ ?_, Int.emod_nonneg _ (by omega), Int.emod_lt_of_pos _ h0, _, _, _, rfl⟩
    rotate_left
    · unfold B_law_take
      refine' sSeq_nx ?_ (sSeq_rt (sIf_t (gVal_t (fBin_ok ?_ ?_ ?_) hc) ?_))
      all_goals walk_at "go"
    · rfl
  | false =>
    refine ⟨w % m, .list [.int a, .int c, .int (k + 1)], runR_ok (ε := ?e2) ?_ ?_, Int.emod_nonneg _ (by omega), Int.emod_lt_of_pos _ h0, _, _, _, rfl⟩
    rotate_left
    · unfold B_law_take
      refine' sSeq_nx ?_ (sSeq_nx (sIf_f (gVal_f (fBin_ok ?_ ?_ ?_) hc) ?_) ?_)
      all_goals walk_at "go"
    · rfl
inductive Pt where
  | nm (x : Str) | num (n : Int) | side (hs : List Int)
def Pt.d : Pt → PyData
  | .nm x => .str x
  | .num n => .int n
  | .side hs => .tuple (hs.map PyData.int)
def Pt.t : Pt → Str
  | .nm x => x
  | .num n => intT n
  | .side hs => Str.join ⟨#[44]⟩ (hs.map intT)
def numOk (n : Int) : Prop := 0 ≤ n ∧ n < 10000000000000000000000000000000
def Pt.Ok : Pt → Prop
  | .nm x => okS x
  | .num n => numOk n
  | .side hs => hs ≠ [] ∧ hs.length ≤ 7 ∧ ∀ h ∈ hs, 0 ≤ h ∧ h < 10
def rowD (ps : List Pt) : PyData := .tuple (ps.map Pt.d)
def rowT (ps : List Pt) : Str := Str.join ⟨#[32]⟩ (ps.map Pt.t)
theorem mem_jn {c : Nat} : ∀ {ws : List (List Nat)} {x : Nat}, x ∈ jn c ws → x = c ∨ ∃ w ∈ ws, x ∈ w
  | [], _, h => by cases h
  | [a], x, h => .inr ⟨a, List.mem_cons_self .., h⟩
  | a :: b :: r, x, h => by
    rcases List.mem_append.mp (show x ∈ a ++ c :: jn c (b :: r) from h) with h | h
    · exact .inr ⟨a, List.mem_cons_self .., h⟩
    · rcases List.mem_cons.mp h with h | h
      · exact .inl h
      · rcases mem_jn h with h | ⟨w, hw, h⟩
        · exact .inl h
        · exact .inr ⟨w, List.mem_cons_of_mem _ hw, h⟩
theorem sum_le {b : Nat} : ∀ {xs : List Str}, (∀ x ∈ xs, x.length ≤ b) → (xs.map (·.length)).sum ≤ xs.length * b
  | [], _ => Nat.zero_le _
  | x :: xs, h => by
    rw [List.map_cons, List.sum_cons, List.length_cons, Nat.succ_mul]
    have := h x (List.mem_cons_self ..)
    have := sum_le (xs := xs) fun y hy => h y (List.mem_cons_of_mem _ hy)
    omega
theorem join_len {c b : Nat} {xs : List Str} (h : ∀ x ∈ xs, x.length ≤ b) : (Str.join ⟨#[c]⟩ xs).length ≤ xs.length * (b + 1) := by
  have h1 := PySem.StrLaws.join_length_le ⟨#[c]⟩ xs
  have h2 := sum_le h
  have e : (⟨#[c]⟩ : Str).length = 1 := rfl
  rw [e] at h1
  rw [Nat.mul_succ]
  omega
theorem join_strs {y : Str} {xs : List Str} {b : Nat} (h : ∀ x ∈ xs, x.length ≤ b) (hy : y.length ≤ 1) (hb : xs.length * (b + 1) ≤ 16777216) : dJoin (.str y) (.list (xs.map PyData.str)) = some (.str (Str.join y xs)) := by
  show ((dStrs (xs.map PyData.str)).bind fun ys => if (ys.map (·.length)).sum + ys.length * y.length ≤ 16777216 then some (PyData.str (Txt.join y ys)) else none) = _
  have h2 := sum_le h
  have h3 : xs.length * y.length ≤ xs.length := Nat.le_trans (Nat.mul_le_mul_left _ hy) (by omega)
  rw [Nat.mul_succ] at hb
  rw [dStrs_map, Option.bind_some, TL.join_eq, if_pos (by omega)]
theorem okS_chars {x : Str} (h : okS x) : (∀ c ∈ x.cps.toList, 97 ≤ c ∧ c ≤ 122) ∧ 1 ≤ x.length ∧ x.length ≤ 8 := by
  have := h.2
  unfold nmB at this
  simp only [Bool.and_eq_true, decide_eq_true_eq, List.all_eq_true] at this
  exact ⟨this.2, this.1⟩
theorem pt_clean {p : Pt} (h : p.Ok) : (∀ c ∈ p.t.cps.toList, 44 ≤ c ∧ c ≤ 122) ∧ p.t.length ≤ 300 := by
  cases p with
  | nm x =>
    obtain ⟨h1, h2, h3⟩ := okS_chars h
    exact ⟨fun c hc => by have := h1 c hc; omega, by show x.length ≤ _; omega⟩
  | num n =>
    obtain ⟨h1, h2, _⟩ := numT_facts h.1 h.2
    exact ⟨fun c hc => by have := h1 c hc; omega, by show (intT n).length ≤ _; omega⟩
  | side hs =>
    obtain ⟨h0, h1, h2⟩ := h
    have h3 : ∀ x ∈ hs.map intT, (∀ c ∈ x.cps.toList, 48 ≤ c ∧ c ≤ 57) ∧ x.length ≤ 31 := fun x hx => by
      obtain ⟨n, hn, rfl⟩ := List.mem_map.mp hx
      obtain ⟨a, b, _⟩ := numT_facts (h2 n hn).1 (by have := (h2 n hn).2; omega)
      exact ⟨a, b⟩
    refine ⟨fun c hc => ?_, ?_⟩
    · rw [show (Pt.side hs).t.cps.toList = jn 44 ((hs.map intT).map fun w => w.cps.toList) from join_list 44 _] at hc
      rcases mem_jn hc with rfl | ⟨w, hw, hc⟩
      · omega
      · obtain ⟨x, hx, rfl⟩ := List.mem_map.mp hw
        have := (h3 x hx).1 c hc; omega
    · have := join_len (c := 44) fun x hx => (h3 x hx).2
      rw [List.length_map] at this
      show (Str.join ⟨#[44]⟩ (hs.map intT)).length ≤ _
      omega
theorem comp_all {α : Type} {bind : PyData → En → Option En} {fa : Ef} {vs : List Nat} {ε : En} (D : α → PyData) (q : α → PyData) (as : List α) (h : ∀ a ∈ as, ∃ ε1, bind (D a) ε = some ε1 ∧ fa ε1 = some (q a, ε1) ∧ clr ε1 vs = ε) :
    compF bind gYes fa vs (as.map D) ε = some (as.map q, ε) := by
  have e := comp_map (ε := ε) (bind := bind) (ga := gYes) (fa := fa) (vs := vs) D (fun _ => true) q as (fun a ha => by
    obtain ⟨ε1, h1, h2, h3⟩ := h a ha
    exact ⟨ε1, h1, rfl, fun _ => h2, h3⟩)
  rw [List.filter_eq_self.mpr (fun _ _ => rfl)] at e
  exact e
theorem comma : ("," : Str) = ⟨#[44]⟩ := by decide +kernel
theorem blank : (" " : Str) = ⟨#[32]⟩ := by decide +kernel
theorem feed : ("\n" : Str) = ⟨#[10]⟩ := by decide +kernel
theorem dStr_int {n : Int} (h : n.natAbs.log2 < 1920) : dStr [.int n] = some (.str (intT n)) := by
  show (if n.natAbs.log2 < 1920 then some (PyData.str (intT n)) else none) = _
  rw [if_pos h]
theorem side_comp {hs : List Int} (h2 : ∀ h ∈ hs, 0 ≤ h ∧ h < 10) {i : Nat} {ε : En} (hb : ∀ d, bName i d ε = some (ε.set i (.fz d))) (hv : ∀ d, fVar i (ε.set i (.fz d)) = some (d, ε.set i (.fz d))) (hc : ∀ d, clr (ε.set i (.fz d)) [i] = ε) :
    compF (bName i) gYes (fCall dStr (fCons (fVar i) fNil)) [i] (hs.map PyData.int) ε = some ((hs.map intT).map PyData.str, ε) := by
  have e := comp_all (ε := ε) (bind := bName i) (fa := fCall dStr (fCons (fVar i) fNil)) (vs := [i]) PyData.int (fun n => .str (intT n)) hs (fun n hn => by
    obtain ⟨_, _, _, l⟩ := numT_facts (h2 n hn).1 (by have := (h2 n hn).2; omega)
    exact ⟨_, hb _, fCall_ok (fCons_ok (hv _) rfl) (dStr_int l), hc _⟩)
  rw [e, List.map_map]; rfl
theorem side_join {hs : List Int} (h1 : hs.length ≤ 7) (h2 : ∀ h ∈ hs, 0 ≤ h ∧ h < 10) : dJoin (.str ",") (.list ((hs.map intT).map PyData.str)) = some (.str (Pt.side hs).t) := by
  rw [comma]
  refine join_strs (b := 31) (fun x hx => ?_) (by decide) (by rw [List.length_map]; omega)
  obtain ⟨n, hn, rfl⟩ := List.mem_map.mp hx
  obtain ⟨_, b, _⟩ := numT_facts (h2 n hn).1 (by have := (h2 n hn).2; omega)
  exact b
theorem show_part_eq {p : Pt} (h : p.Ok) : M_show_part [p.d] = some (.str p.t) := by
  cases p with
  | nm x => exact runP_ok (sSeq_nx (sIf_f rfl rfl) (sRet_ok rfl))
  | num n =>
    obtain ⟨_, _, _, l⟩ := numT_facts h.1 h.2
    exact runP_ok (sSeq_nx (sIf_f rfl rfl) (sRet_ok (fCall_ok (fCons_ok rfl rfl) (dStr_int l))))
  | side hs =>
    obtain ⟨h0, h1, h2⟩ := h
    exact runP_ok (sSeq_rt (sIf_t rfl (sRet_ok (fBin_ok rfl (fComp_ok (ε1 := [.fz (.tuple (hs.map PyData.int)), .un]) (fSrc_ok rfl rfl) (side_comp h2 (fun _ => rfl) (fun _ => rfl) (fun _ => rfl)) (by rw [List.length_map, List.length_map]; exact sizeLine_big (by omega))) (side_join h1 h2)))))
theorem row_bound {ps : List Pt} (h : ∀ p ∈ ps, p.Ok) : ∀ x ∈ ps.map Pt.t, x.length ≤ 300 := fun x hx => by
  obtain ⟨p, hp, rfl⟩ := List.mem_map.mp hx
  exact (pt_clean (h p hp)).2
theorem show_words_eq {ps : List Pt} (h : ∀ p ∈ ps, p.Ok) (hl : ps.length ≤ 10) : M_show_words [rowD ps] = some (.str (rowT ps)) := by
  have e := comp_all (ε := [.fz (rowD ps), .un]) (bind := bName 1) (fa := fCall (gd 1 M_show_part) (fCons (fVar 1) fNil)) (vs := [1]) Pt.d (fun p => .str p.t) ps (fun p hp => ⟨_, rfl, fCall_ok (fCons_ok rfl rfl) (gd_ok rfl (show_part_eq (h p hp))), rfl⟩)
  rw [show ps.map (fun p => PyData.str p.t) = (ps.map Pt.t).map PyData.str by rw [List.map_map]; rfl] at e
  exact runP_ok (sRet_ok (fBin_ok rfl (fComp_ok (ε1 := [.fz (rowD ps), .un]) (fSrc_ok rfl rfl) e (by rw [List.length_map, List.length_map]; exact sizeLine_big (by omega))) (by rw [blank]; exact join_strs (row_bound h) (by decide) (by rw [List.length_map]; omega))))
theorem row_len {ps : List Pt} (h : ∀ p ∈ ps, p.Ok) (hl : ps.length ≤ 10) : (rowT ps).length ≤ 3010 := by
  have := join_len (c := 32) (row_bound h)
  rw [List.length_map] at this
  show (Str.join ⟨#[32]⟩ (ps.map Pt.t)).length ≤ _
  omega
theorem row_chars {ps : List Pt} (h : ∀ p ∈ ps, p.Ok) : ∀ c ∈ (rowT ps).cps.toList, 32 ≤ c ∧ c ≤ 122 := fun c hc => by
  rw [show (rowT ps).cps.toList = jn 32 ((ps.map Pt.t).map fun w => w.cps.toList) from join_list 32 _] at hc
  rcases mem_jn hc with rfl | ⟨w, hw, hc⟩
  · omega
  · obtain ⟨x, hx, rfl⟩ := List.mem_map.mp hw
    obtain ⟨p, hp, rfl⟩ := List.mem_map.mp hx
    have := (pt_clean (h p hp)).1 c hc; omega
/-- rows of a log -/
def RowsOk (rs : List (List Pt)) : Prop := ∀ ps ∈ rs, (∀ p ∈ ps, p.Ok) ∧ ps.length ≤ 10 ∧ ps ≠ []
def logRD (rs : List (List Pt)) : PyData := .tuple (rs.map rowD)
def logT (rs : List (List Pt)) : Str := if rs = [] then "-" else Str.join ⟨#[10]⟩ (rs.map rowT)
theorem rows_bound {rs : List (List Pt)} (h : RowsOk rs) : ∀ x ∈ rs.map rowT, x.length ≤ 3010 := fun x hx => by
  obtain ⟨p, hp, rfl⟩ := List.mem_map.mp hx
  exact row_len (h p hp).1 (h p hp).2.1
theorem rows_join {rs : List (List Pt)} (h : RowsOk rs) (hl : rs.length ≤ 1000) : dJoin (.str "\n") (.list ((rs.map rowT).map PyData.str)) = some (.str (Str.join ⟨#[10]⟩ (rs.map rowT))) := by
  rw [feed]
  exact join_strs (rows_bound h) (by decide) (by rw [List.length_map]; omega)
theorem show_log_eq {rs : List (List Pt)} (h : RowsOk rs) (hl : rs.length ≤ 1000) : M_show_log [logRD rs] = some (.str (logT rs)) := by
  cases rs with
  | nil => exact runP_ok (sSeq_rt (sIf_t rfl (sRet_ok rfl)))
  | cons r rs =>
    have e := comp_all (ε := [.fz (logRD (r :: rs)), .un]) (bind := bName 1) (fa := fCall (gd 1 M_show_words) (fCons (fVar 1) fNil)) (vs := [1]) rowD (fun p => .str (rowT p)) (r :: rs) (fun p hp => ⟨_, rfl, fCall_ok (fCons_ok rfl rfl) (gd_ok rfl (show_words_eq (h p hp).1 (h p hp).2.1)), rfl⟩)
    rw [show (r :: rs).map (fun p => PyData.str (rowT p)) = ((r :: rs).map rowT).map PyData.str by rw [List.map_map]; rfl] at e
    exact runP_ok (sSeq_nx (sIf_f rfl rfl) (sRet_ok (fBin_ok rfl (fComp_ok (ε1 := [.fz (logRD (r :: rs)), .un]) (fSrc_ok rfl rfl) e (by rw [List.length_map, List.length_map]; exact sizeLine_big (by omega))) (rows_join h hl))))
theorem law_shown_eq {ps : List Pt} (h : ∀ p ∈ ps, p.Ok) (hl : ps.length ≤ 10) : M_law_shown [rowD ps] = some (.str (rowT ps)) := by
  rw [ap_law_shown]; unfold B_law_shown
  refine seq_stepP (ε1 := [.fz (rowD ps), .mu (.list (([] : List Str).map PyData.str)), .un, .un]) rfl ?_
  have lp : ∃ b : List Str, b = ps.map Pt.t ∧ loopF (bName 2) (sClr [2] (sIf (gTru (fIsi "tuple" (fVar 2))) (sAppM 1 (fBin dJoin (fC (.str ",")) (fComp (fSrc (fVar 2)) (bName 3) gYes (fCall dStr (fCons (fVar 3) fNil)) [3]))) (sAppM 1 (fCall dStr (fCons (fVar 2) fNil))))) (ps.map Pt.d) [.fz (rowD ps), .mu (.list (([] : List Str).map PyData.str)), .un, .un] = some (.nx [.fz (rowD ps), .mu (.list (b.map PyData.str)), .un, .un]) := by
    have e := loop_goN (bind := bName 2) (f := sClr [2] (sIf (gTru (fIsi "tuple" (fVar 2))) (sAppM 1 (fBin dJoin (fC (.str ",")) (fComp (fSrc (fVar 2)) (bName 3) gYes (fCall dStr (fCons (fVar 3) fNil)) [3]))) (sAppM 1 (fCall dStr (fCons (fVar 2) fNil)))))
      Pt.d (fun (b : List Str) p => b ++ [p.t]) (fun b => [.fz (rowD ps), .mu (.list (b.map PyData.str)), .un, .un]) (fun k b => b.length + k ≤ 10) ps [] rfl rfl (by show 0 + ps.length ≤ 10; omega) (fun p hp k b hb => by
        refine ⟨by rw [List.length_append]; show b.length + 1 + k ≤ 10; omega, ?_⟩
        have hz : (b.map PyData.str).length < sizeLine := by rw [List.length_map]; exact sizeLine_lt (by omega)
        have ap : some (Out.nx ([Sl.fz (rowD ps), .mu (.list (b.map PyData.str ++ [.str p.t])), .un, .un])) = some (.nx [.fz (rowD ps), .mu (.list ((b ++ [p.t]).map PyData.str)), .un, .un]) := by rw [List.map_append]; rfl
        have hp := h p hp
        have b1 : bName 2 p.d [.fz (rowD ps), .mu (.list (b.map PyData.str)), .un, .un] = some [.fz (rowD ps), .mu (.list (b.map PyData.str)), .fz p.d, .un] := rfl
        rw [b1, Option.bind_some]
        cases p with
        | nm x =>
          refine Eq.trans ?_ ap
          exact (clr47 (sIf_f rfl (sAppM_ok rfl (fCall_ok (fCons_ok rfl rfl) rfl) rfl hz))).trans rfl
        | num n =>
          obtain ⟨_, _, _, l⟩ := numT_facts hp.1 hp.2
          refine Eq.trans ?_ ap
          exact (clr47 (sIf_f rfl (sAppM_ok rfl (fCall_ok (fCons_ok rfl rfl) (dStr_int l)) rfl hz))).trans rfl
        | side hs =>
          obtain ⟨h0, h1, h2⟩ := hp
          refine Eq.trans ?_ ap
          exact (clr47 (sIf_t rfl (sAppM_ok rfl (fBin_ok rfl (fComp_ok (ε1 := [.fz (rowD ps), .mu (.list (b.map PyData.str)), .fz (.tuple (hs.map PyData.int)), .un]) (fSrc_ok rfl rfl) (side_comp h2 (fun _ => rfl) (fun _ => rfl) (fun _ => rfl)) (by rw [List.length_map, List.length_map]; exact sizeLine_big (by omega))) (side_join h1 h2)) rfl hz))).trans rfl)
    have fe : ∀ (qs : List Pt) (b : List Str), qs.foldl (fun (b : List Str) p => b ++ [p.t]) b = b ++ qs.map Pt.t := by
      intro qs
      induction qs with
      | nil => intro b; simp
      | cons q qs ih => intro b; rw [List.foldl_cons, ih, List.append_assoc]; rfl
    rw [fe] at e
    exact ⟨_, rfl, by rw [e]; rfl⟩
  obtain ⟨b, rfl, lp⟩ := lp
  have src : fSrc (fVar 0) [.fz (rowD ps), .mu (.list (([] : List Str).map PyData.str)), .un, .un] = some (ps.map Pt.d, [.fz (rowD ps), .mu (.list (([] : List Str).map PyData.str)), .un, .un]) := rfl
  refine seq_stepP (ε1 := [.fz (rowD ps), .mu (.list ((ps.map Pt.t).map PyData.str)), .un, .un]) ?_ ?_
  · have c0 : clr [.fz (rowD ps), .mu (.list (([] : List Str).map PyData.str)), .un, .un] [2] = [.fz (rowD ps), .mu (.list (([] : List Str).map PyData.str)), .un, .un] := rfl
    rw [qPre, qFor, c0, src]
    exact lp
  · have j : dJoin (.str " ") (.list ((ps.map Pt.t).map PyData.str)) = some (.str (rowT ps)) := by rw [blank]; exact join_strs (row_bound h) (by decide) (by rw [List.length_map]; omega)
    exact (congrArg outP (sRet_ok (fBin_ok rfl rfl j))).trans rfl
theorem figs_eq : ("0123456789" : Str).cps.toList = (List.range 10).map (· + 48) := by decide +kernel
theorem in_figs {c : Nat} (h : 48 ≤ c ∧ c ≤ 57) : dInS (.str ⟨#[c]⟩) (.str "0123456789") = some (.bool true) := by
  rw [in_sign, figs_eq]
  congr 2
  rw [decide_eq_true_eq, List.mem_map]
  exact ⟨c - 48, List.mem_range.mpr (by omega), by omega⟩
theorem occ_figs : (List.range 10).all (fun k => decide (Builtin.Str.occurrences "0123456789" ⟨#[k + 48]⟩ 0 ("0123456789" : Str).length 1 = [k])) = true := by decide +kernel
theorem idx_figs {c : Nat} (h : 48 ≤ c ∧ c ≤ 57) : dIndexS (.str "0123456789") (.str ⟨#[c]⟩) = some (.int ((c - 48 : Nat) : Int)) := by
  have e := occ_figs
  rw [List.all_eq_true] at e
  have e := e (c - 48) (List.mem_range.mpr (by omega))
  rw [decide_eq_true_eq, show c - 48 + 48 = c by omega] at e
  show (match Builtin.Str.occurrences "0123456789" ⟨#[c]⟩ 0 ("0123456789" : Str).length 1 with
    | i :: _ => some (PyData.int i)
    | [] => none) = _
  rw [e]
theorem num_str_ok {n : Int} (h : numOk n) : PyData.strOk (intT n) = true := ok_ascii fun c hc => by have := (numT_facts h.1 h.2).1 c hc; omega
theorem number_of_eq {n : Int} (h : numOk n) : M_number_of [.str (intT n)] = some (.int n) := by
  obtain ⟨h1, h2, h3, _⟩ := numT_facts h.1 h.2
  rw [ap_number_of]; unfold B_number_of
  refine seq_stepP (ε1 := [.fz (.str (intT n)), .fz (.int ((0 : Nat) : Int)), .un]) rfl ?_
  have e := loop_goN (bind := bName 2) (f := sClr [2] (sAsg 1 (fBin dAdd (fBin dMul (fVar 1) (fC (.int 10))) (fBin dIndexS (fC (.str "0123456789")) (fVar 2)))))
    (fun c : Nat => PyData.str ⟨#[c]⟩) (fun (a c : Nat) => a * 10 + (c - 48)) (fun a => [.fz (.str (intT n)), .fz (.int (a : Int)), .un]) (fun _ _ => True) (intT n).cps.toList 0 rfl rfl trivial (fun c hc k a _ => ⟨trivial, by
      have b1 : bName 2 (.str ⟨#[c]⟩) [.fz (.str (intT n)), .fz (.int (a : Int)), .un] = some [.fz (.str (intT n)), .fz (.int (a : Int)), .fz (.str ⟨#[c]⟩)] := rfl
      rw [b1, Option.bind_some]
      have m1 : dMul (.int (a : Int)) (.int 10) = some (.int ((a : Int) * 10)) := dMul_r (by decide) (by decide)
      have q : dAdd (.int ((a : Int) * 10)) (.int ((c - 48 : Nat) : Int)) = some (.int ((a * 10 + (c - 48) : Nat) : Int)) := by
        show some (PyData.int ((a : Int) * 10 + ((c - 48 : Nat) : Int))) = _
        congr 2
      exact (clr47 (sAsg_ok (fBin_ok (fBin_ok rfl rfl m1) (fBin_ok rfl rfl (idx_figs (h1 c hc))) q))).trans rfl⟩)
  have c0 : clr [.fz (.str (intT n)), .fz (.int ((0 : Nat) : Int)), .un] [2] = [.fz (.str (intT n)), .fz (.int ((0 : Nat) : Int)), .un] := rfl
  refine seq_stepP (ε1 := [.fz (.str (intT n)), .fz (.int n), .un]) ?_ rfl
  rw [qPre, qFor, c0]
  show loopF (bName 2) _ (signs (intT n)) _ = _
  unfold signs
  rw [e]
  have e3 : List.foldl (fun (a c : Nat) => a * 10 + (c - 48)) 0 (intT n).cps.toList = n.toNat := h3
  rw [e3, Int.toNat_of_nonneg h.1]
theorem intT_zero : intT 0 = "0" := by decide +kernel
theorem is_number_text_eq {n : Int} (h : numOk n) : M_is_number_text [.str (intT n)] = some (.bool true) := by
  obtain ⟨h1, h2, h3, _⟩ := numT_facts h.1 h.2
  obtain ⟨k, rfl⟩ := Int.eq_ofNat_of_zero_le h.1
  obtain ⟨a, l, e1, e2⟩ := dg_head k
  have hl := intT_list k
  rw [ap_is_number_text]; unfold B_is_number_text
  have hok := num_str_ok h
  have ne1 : dEq (.str (intT (k : Int))) (.str "") = some (.bool false) := by
    rw [dEqS hok (by decide +kernel)]
    congr 2
    rw [beq_eq_false_iff_ne]
    intro z
    rw [z, e1] at hl
    exact absurd hl (by show ¬ ([] : List Nat) = _; simp)
  have cmp := comp_all (ε := [.fz (.str (intT (k : Int))), .un]) (bind := bName 1) (fa := fBin dInS (fVar 1) (fC (.str "0123456789"))) (vs := [1]) (fun c : Nat => PyData.str ⟨#[c]⟩) (fun _ => .bool true) (intT (k : Int)).cps.toList (fun c hc => ⟨_, rfl, fBin_ok rfl rfl (in_figs (h1 c hc)), rfl⟩)
  have hln : (intT (k : Int)).cps.toList.length ≤ 31 := by rw [← len_toList]; exact h2
  have all1 : dAll [.list ((intT (k : Int)).cps.toList.map fun _ => PyData.bool true)] = some (.bool true) := by
    have q := dAll_bools ((intT (k : Int)).cps.toList.map fun _ => true)
    rw [List.map_map] at q
    have q2 : ((intT (k : Int)).cps.toList.map fun _ => true).all id = true := by rw [List.all_map, List.all_eq_true]; intro _ _; rfl
    rw [q2] at q
    exact q
  have t1 : gOr (gVal (fBin dEq (fVar 0) (fC (.str "")))) (gNot (gTru (fCall dAll (fCons (fComp (fSrcS (fVar 0)) (bName 1) gYes (fBin dInS (fVar 1) (fC (.str "0123456789"))) [1]) fNil)))) [.fz (.str (intT (k : Int))), .un] = some (false, [.fz (.str (intT (k : Int))), .un]) :=
    gOr_f (gVal_ok (fBin_ok rfl rfl ne1)) (gNot47 (gTru_bool (fCall_ok (fCons_ok (fComp_ok (ε1 := [.fz (.str (intT (k : Int))), .un]) (ds := signs (intT (k : Int))) rfl cmp (by rw [List.length_map]; exact sizeLine_big (by omega))) rfl) all1)))
  refine seq_stepP (sIf_f t1 rfl) ?_
  by_cases hk : k = 0
  · subst hk
    have z : dEq (.str (intT ((0 : Nat) : Int))) (.str "0") = some (.bool true) := by
      rw [show intT ((0 : Nat) : Int) = "0" from intT_zero, dEqS (by decide +kernel) (by decide +kernel), beq_self_eq_true]
    exact (congrArg outP (sRet_ok (fOr_t (fBin_ok rfl rfl z)))).trans rfl
  · have z1 : dEq (.str (intT (k : Int))) (.str "0") = some (.bool (intT (k : Int) == "0")) := dEqS hok (by decide +kernel)
    have z0 : (intT (k : Int) == ("0" : Str)) = false := by
      rw [beq_eq_false_iff_ne]
      intro z
      rw [z, e1] at hl
      have : ("0" : Str).cps.toList = [48] := by decide +kernel
      rw [this] at hl
      exact e2 (by omega) (List.cons.inj hl).1.symm
    rw [z0] at z1
    have z2 : dIx (.str (intT (k : Int))) (.int 0) = some (.str ⟨#[a]⟩) := by
      show (if (intT (k : Int)).length ≤ sizeLine then (atI (intT (k : Int)).cps.toList 0).map fun c => PyData.str ⟨#[c]⟩ else none) = _
      have at0 : atI (a :: l) 0 = some a := by
        unfold atI ixN
        rw [if_pos (by decide), if_pos (by rw [List.length_cons]; omega)]; rfl
      rw [if_pos (sizeLine_big (by omega)), hl, e1, at0]; rfl
    have ha : 48 ≤ a ∧ a ≤ 57 := dg_rg k a (by rw [e1]; exact List.mem_cons_self ..)
    have z3 : dNe (.str ⟨#[a]⟩) (.str "0") = some (.bool true) := by
      unfold dNe
      have hs1 : PyData.strOk (⟨#[a]⟩ : Str) = true := ok_ascii fun c hc => by
        have : c = a := by simpa using hc
        omega
      rw [if_pos ⟨shS hs1, shS (by decide +kernel)⟩]
      have : ((⟨#[a]⟩ : Str) == "0") = false := by
        rw [beq_eq_false_iff_ne]
        intro z
        have z := congrArg (fun s : Str => s.cps.toList) z
        have e0 : ("0" : Str).cps.toList = [48] := by decide +kernel
        rw [e0] at z
        exact e2 (by omega) (by simpa using z)
      simp [PyData.eqv, this]
    exact (congrArg outP (sRet_ok (fOr_f (fBin_ok rfl rfl z1) (fBin_ok (fBin_ok rfl rfl z2) rfl z3)))).trans rfl
theorem read_number_eq {n : Int} (h : numOk n) : M_read_number [.str (intT n)] = some (.int n) := by
  rw [ap_read_number]; unfold B_read_number
  refine seq_stepP (sIf_f (gNot47 (gTru_bool (fCall_ok (fCons_ok rfl rfl) (gd_ok rfl (is_number_text_eq h))))) rfl) ?_
  exact (congrArg outP (sRet_ok (fCall_ok (fCons_ok rfl rfl) (gd_ok rfl (number_of_eq h))))).trans rfl
inductive KP (m : Int) : Str → Pt → Prop
  | name {x : Str} : okS x → KP m "name" (.nm x)
  | house {h : Int} : 0 ≤ h → h < m → KP m "house" (.num h)
  | place {n : Int} : numOk n → KP m "place" (.num n)
  | number {n : Int} : numOk n → 1 ≤ n → KP m "number" (.num n)
  | houses {hs : List Int} : hs ≠ [] → (hs.length : Int) < m → (∀ h ∈ hs, 0 ≤ h ∧ h < m) → risB hs = true → KP m "houses" (.side hs)
theorem KP.ok {m : Int} (hm : m ≤ 7) {k : Str} {p : Pt} (h : KP m k p) : p.Ok := by
  cases h with
  | name h => exact h
  | house a b => exact ⟨a, by omega⟩
  | place a => exact a
  | number a _ => exact a
  | houses a b c d => exact ⟨a, by omega, fun h hh => by have := c h hh; omega⟩
theorem KP.mono {m m' : Int} (hm : m ≤ m') {k : Str} {p : Pt} (h : KP m k p) : KP m' k p := by
  cases h with
  | name h => exact .name h
  | house a b => exact .house a (by omega)
  | place a => exact .place a
  | number a b => exact .number a b
  | houses a b c d => exact .houses a (by omega) (fun h hh => by have := c h hh; omega) d
theorem kinds_ne : (("name" : Str) == "name") = true ∧ (("house" : Str) == "name") = false ∧ (("house" : Str) == "houses") = false ∧ (("place" : Str) == "name") = false ∧ (("place" : Str) == "houses") = false ∧ (("number" : Str) == "name") = false ∧ (("number" : Str) == "houses") = false ∧ (("houses" : Str) == "name") = false ∧ (("houses" : Str) == "houses") = true := by decide +kernel
theorem kind_oks : PyData.strOk "name" = true ∧ PyData.strOk "house" = true ∧ PyData.strOk "place" = true ∧ PyData.strOk "number" = true ∧ PyData.strOk "houses" = true := by decide +kernel
theorem read_num_part {k : Str} {n : Int} (h : numOk n) (hk : PyData.strOk k = true) (h1 : (k == "name") = false) (h2 : (k == "houses") = false) : M_read_part [.str k, .str (intT n)] = some (.int n) := by
  obtain ⟨o1, o2, o3, o4, o5⟩ := kind_oks
  have e1 := dEqS hk o1
  have e2 := dEqS hk o5
  rw [h1] at e1; rw [h2] at e2
  rw [ap_read_part]; unfold B_read_part
  refine seq_stepP (sIf_f (gVal_ok (fBin_ok rfl rfl e1)) rfl) (seq_stepP (sIf_f (gVal_ok (fBin_ok rfl rfl e2)) rfl) ?_)
  exact (congrArg outP (sRet_ok (fCall_ok (fCons_ok rfl (rfl)) (gd_ok rfl (read_number_eq h))))).trans rfl
theorem dSplit_ok {c : Nat} {ws : List Str} {b : Nat} (hne : ws ≠ []) (hf : ∀ w ∈ ws, c ∉ w.cps.toList) (hb : ∀ w ∈ ws, w.length ≤ b) (hl : ws.length * (b + 1) ≤ 10000000) : dSplit (.str (Str.join ⟨#[c]⟩ ws)) (.str ⟨#[c]⟩) = some (.list (ws.map PyData.str)) := by
  have h1 := join_len (c := c) hb
  show (if ((⟨#[c]⟩ : Str).length == 0) = false ∧ (Str.join ⟨#[c]⟩ ws).length + 2 ≤ sizeLine then some (PyData.list ((Txt.split (Str.join ⟨#[c]⟩ ws) ⟨#[c]⟩).map PyData.str)) else none) = _
  rw [if_pos ⟨rfl, Nat.le_trans (show _ ≤ 10000002 by omega) (by decide)⟩, split_join hne hf]
theorem read_part_eq {m : Int} (hm : m ≤ 7) {k : Str} {p : Pt} (h : KP m k p) : M_read_part [.str k, .str p.t] = some p.d := by
  obtain ⟨o1, o2, o3, o4, o5⟩ := kind_oks
  obtain ⟨k1, k2, k3, k4, k5, k6, k7, k8, k9⟩ := kinds_ne
  cases h with
  | name h =>
    have e1 := dEqS o1 o1
    rw [k1] at e1
    rw [ap_read_part]; unfold B_read_part
    exact (congrArg outP (sSeq_rt (sIf_t (gVal_ok (fBin_ok rfl rfl e1)) (sRet_ok rfl)))).trans rfl
  | house a b => exact read_num_part ⟨a, by omega⟩ o2 k2 k3
  | place a => exact read_num_part a o3 k4 k5
  | number a b => exact read_num_part a o4 k6 k7
  | @houses hs a b c d =>
    have e1 := dEqS o5 o1
    have e2 := dEqS o5 o5
    rw [k8] at e1; rw [k9] at e2
    have h3 : ∀ x ∈ hs.map intT, (∀ c ∈ x.cps.toList, 48 ≤ c ∧ c ≤ 57) ∧ x.length ≤ 31 := fun x hx => by
      obtain ⟨n, hn, rfl⟩ := List.mem_map.mp hx
      obtain ⟨a, b, _⟩ := numT_facts (c n hn).1 (by have := (c n hn).2; omega)
      exact ⟨a, b⟩
    have sp : dSplit (.str (Pt.side hs).t) (.str ",") = some (.list ((hs.map intT).map PyData.str)) := by
      rw [comma]
      exact dSplit_ok (b := 31) (by simpa using a) (fun w hw z => by have := (h3 w hw).1 44 z; omega) (fun w hw => (h3 w hw).2) (by rw [List.length_map]; omega)
    have cmp := comp_all (ε := [.fz (.str "houses"), .fz (.str (Pt.side hs).t), .un]) (bind := bName 2) (fa := fCall (gd 1 M_read_number) (fCons (fVar 2) fNil)) (vs := [2]) (fun n => PyData.str (intT n)) PyData.int hs (fun n hn => ⟨_, rfl, fCall_ok (fCons_ok rfl rfl) (gd_ok rfl (read_number_eq ⟨(c n hn).1, by have := (c n hn).2; omega⟩)), rfl⟩)
    rw [show hs.map (fun n => PyData.str (intT n)) = (hs.map intT).map PyData.str by rw [List.map_map]; rfl] at cmp
    rw [ap_read_part]; unfold B_read_part
    refine seq_stepP (sIf_f (gVal_ok (fBin_ok rfl rfl e1)) rfl) ?_
    exact (congrArg outP (sSeq_rt (sIf_t (gVal_ok (fBin_ok rfl rfl e2)) (sRet_ok (fCall_ok (fCons_ok (fComp_ok (ε1 := [.fz (.str "houses"), .fz (.str (Pt.side hs).t), .un]) (fSrc_ok (fBin_ok rfl rfl sp) rfl) cmp (by rw [List.length_map]; exact sizeLine_big (by omega))) rfl) rfl))))).trans rfl
theorem zip_kp : ∀ (ks : List Str) (ps : List Pt), zipD (ks.map PyData.str) ((ps.map Pt.t).map PyData.str) = (ks.zip ps).map fun t => .tuple [.str t.1, .str t.2.t]
  | [], _ => by cases ‹List Pt› <;> rfl
  | _ :: _, [] => rfl
  | k :: ks, p :: ps => by
    show PyData.tuple [.str k, .str p.t] :: zipD (ks.map PyData.str) ((ps.map Pt.t).map PyData.str) = _
    rw [zip_kp ks ps]; rfl
theorem zip_d : ∀ (ks : List Str) (ps : List Pt), ks.length = ps.length → (ks.zip ps).map (fun t => t.2.d) = ps.map Pt.d
  | [], [], _ => rfl
  | [], _ :: _, h => by simp at h
  | _ :: _, [], h => by simp at h
  | k :: ks, p :: ps, h => by
    rw [List.zip_cons_cons, List.map_cons, List.map_cons, zip_d ks ps (by simpa using h)]
theorem read_words_eq {m : Int} (hm : m ≤ 7) {ks : List Str} {w : Str} {ps : List Pt} (hl : ks.length = ps.length) (h9 : ps.length ≤ 9) (h : ∀ t ∈ ks.zip ps, KP m t.1 t.2) : M_read_words [.tuple (ks.map PyData.str), .list ((w :: ps.map Pt.t).map PyData.str)] = some (rowD (.nm w :: ps)) := by
  rw [ap_read_words]; unfold B_read_words
  have ne : dNe (.int (((w :: ps.map Pt.t).map PyData.str).length : Nat)) (.int (((ks.map PyData.str).length : Nat) + 1)) = some (.bool false) := by
    have : (((w :: ps.map Pt.t).map PyData.str).length : Int) = ((ks.map PyData.str).length : Nat) + 1 := by simp [hl]
    rw [this]; exact dNe_self rfl
  refine seq_stepP (ε1 := [.fz (.tuple (ks.map PyData.str)), .fz (.list ((w :: ps.map Pt.t).map PyData.str)), .un, .un, .un]) (sIf_f (gOr_f (gVal_ok (fBin_ok rfl rfl rfl)) (gVal_ok (fBin_ok (fCall_ok (fCons_ok rfl rfl) rfl) (fBin_ok (fCall_ok (fCons_ok rfl rfl) rfl) rfl rfl) ne))) rfl) ?_
  have cmp := comp_all (ε := [.fz (.tuple (ks.map PyData.str)), .fz (.list ((w :: ps.map Pt.t).map PyData.str)), .un, .un, .un]) (bind := bTup [3, 4]) (fa := fCall (gd 2 M_read_part) (fCons (fVar 3) (fCons (fVar 4) fNil))) (vs := [3, 4]) (fun t : Str × Pt => PyData.tuple [.str t.1, .str t.2.t]) (fun t => t.2.d) (ks.zip ps) (fun t ht => ⟨_, rfl, fCall_ok (fCons_ok rfl (fCons_ok rfl rfl)) (gd_ok rfl (read_part_eq hm (h t ht))), rfl⟩)
  rw [← zip_kp, zip_d ks ps hl] at cmp
  have cut : dSl (.list ((w :: ps.map Pt.t).map PyData.str)) (some 1) none = some (.list ((ps.map Pt.t).map PyData.str)) := by
    show some (PyData.list (cutD ((w :: ps.map Pt.t).map PyData.str) (some 1) none)) = _
    rw [List.map_cons, cutF1]; rfl
  refine seq_stepP (ε1 := [.fz (.tuple (ks.map PyData.str)), .fz (.list ((w :: ps.map Pt.t).map PyData.str)), .fz (.list (ps.map Pt.d)), .un, .un]) (asg47 (fComp_ok (ε1 := [.fz (.tuple (ks.map PyData.str)), .fz (.list ((w :: ps.map Pt.t).map PyData.str)), .un, .un, .un]) (fZip_ok47 (x := (true, ks.map PyData.str)) (y := (false, (ps.map Pt.t).map PyData.str)) (fCons_ok rfl (fCons_ok (fSl_ok rfl rfl rfl cut) rfl)) rfl rfl) cmp (by rw [List.length_map]; exact sizeLine_big (by omega))) rfl) ?_
  have tp : dTup (.str w :: ps.map Pt.d) = some (rowD (.nm w :: ps)) := by
    show (if (PyData.str w :: ps.map Pt.d).length ≤ sizeLine then some (PyData.tuple (.str w :: ps.map Pt.d)) else none) = _
    rw [if_pos (sizeLine_big (by rw [List.length_cons, List.length_map]; omega))]; rfl
  have i0 : dIx (.list ((w :: ps.map Pt.t).map PyData.str)) (.int 0) = some (.str w) := by
    show atI (PyData.str w :: (ps.map Pt.t).map PyData.str) 0 = _
    exact at0
  exact (congrArg outP (sRet_ok (fCall_ok (fCons_ok (fBin_ok rfl rfl i0) rfl) tp))).trans rfl
def GR (K : List (Str × List Str)) (m : Int) (w : Str) (ps : List Pt) : Prop := okS w ∧ ∃ ks, kindsIn K w = some ks ∧ ks.length = ps.length ∧ ps.length ≤ 9 ∧ ∀ t ∈ ks.zip ps, KP m t.1 t.2
theorem zip_snd : ∀ {ks : List Str} {ps : List Pt}, ks.length = ps.length → ∀ p ∈ ps, ∃ k, (k, p) ∈ ks.zip ps
  | [], [], _, _, h => by cases h
  | [], _ :: _, h, _, _ => by simp at h
  | _ :: _, [], h, _, _ => by simp at h
  | k :: ks, q :: ps, hl, p, h => by
    rw [List.zip_cons_cons]
    rcases List.mem_cons.mp h with rfl | h
    · exact ⟨k, List.mem_cons_self ..⟩
    · obtain ⟨j, hj⟩ := zip_snd (by simpa using hl) p h
      exact ⟨j, List.mem_cons_of_mem _ hj⟩
theorem GR.mono {K : List (Str × List Str)} {m m' : Int} (hm : m ≤ m') {w : Str} {ps : List Pt} (h : GR K m w ps) : GR K m' w ps := by
  obtain ⟨h1, ks, h2, h3, h4, h5⟩ := h
  exact ⟨h1, ks, h2, h3, h4, fun t ht => (h5 t ht).mono hm⟩
theorem GR.ok {K : List (Str × List Str)} {m : Int} (hm : m ≤ 7) {w : Str} {ps : List Pt} (h : GR K m w ps) : (∀ p ∈ Pt.nm w :: ps, p.Ok) ∧ (Pt.nm w :: ps).length ≤ 10 := by
  obtain ⟨h1, ks, h2, h3, h4, h5⟩ := h
  refine ⟨fun p hp => ?_, by rw [List.length_cons]; omega⟩
  rcases List.mem_cons.mp hp with rfl | hp
  · exact h1
  · obtain ⟨k, hk⟩ := zip_snd h3 p hp
    exact (h5 _ hk).ok hm
theorem part_kp {m : Int} {k : Str} {p : Pt} (h : KP m k p) : partB m k p.d = true := by
  have e1 : (("name" : Str) == "house") = false := by decide +kernel
  have e2 : (("name" : Str) == "name") = true := by decide +kernel
  have e3 : (("house" : Str) == "house") = true := by decide +kernel
  have e4 : (("place" : Str) == "house") = false ∧ (("place" : Str) == "name") = false ∧ (("place" : Str) == "place") = true := by decide +kernel
  have e5 : (("number" : Str) == "house") = false ∧ (("number" : Str) == "name") = false ∧ (("number" : Str) == "place") = false ∧ (("number" : Str) == "number") = true := by decide +kernel
  have e6 : (("houses" : Str) == "house") = false ∧ (("houses" : Str) == "name") = false ∧ (("houses" : Str) == "place") = false ∧ (("houses" : Str) == "number") = false := by decide +kernel
  unfold partB
  cases h with
  | name h => simp only [e1, e2, Bool.false_eq_true, if_false, if_true]; exact h.2
  | house a b => simp only [e3, if_true]; simp [Pt.d, houseB, a, b]
  | place a => simp only [e4.1, e4.2.1, e4.2.2, Bool.false_eq_true, if_false, if_true]; simp [Pt.d, a.1]
  | number a b => simp only [e5.1, e5.2.1, e5.2.2.1, e5.2.2.2, Bool.false_eq_true, if_false, if_true]; simp [Pt.d, b]
  | @houses hs a b c d =>
    simp only [e6.1, e6.2.1, e6.2.2.1, e6.2.2.2, Bool.false_eq_true, if_false]
    have i1 : intsOf (hs.map PyData.int) = hs := by
      unfold intsOf
      rw [List.filterMap_map]
      show hs.filterMap (fun n => some n) = hs
      simp
    have i2 : (hs.map PyData.int).all (houseB m) = true := by
      rw [List.all_map, List.all_eq_true]
      intro n hn
      simp [houseB, c n hn]
    have i3 : 0 < hs.length := List.length_pos_iff.mpr a
    show ((decide (0 < (hs.map PyData.int).length) && decide (((hs.map PyData.int).length : Int) < m)) && ((hs.map PyData.int).all (houseB m) && risB (intsOf (hs.map PyData.int)))) = true
    rw [i1, i2, d, List.length_map, decide_eq_true i3, decide_eq_true b]; rfl
theorem all_kp {m : Int} : ∀ {ks : List Str} {ps : List Pt}, (∀ t ∈ ks.zip ps, KP m t.1 t.2) → ((ks.zip (ps.map Pt.d)).all fun t => partB m t.1 t.2) = true
  | [], _, _ => by simp
  | _ :: _, [], _ => rfl
  | k :: ks, p :: ps, h => by
    rw [List.map_cons, List.zip_cons_cons, List.all_cons, Bool.and_eq_true]
    exact ⟨part_kp (h (k, p) (List.mem_cons_self ..)), all_kp fun t ht => h t (List.mem_cons_of_mem _ ht)⟩
theorem parts_kp {m : Int} {ks : List Str} {ps : List Pt} (hl : ks.length = ps.length) (h : ∀ t ∈ ks.zip ps, KP m t.1 t.2) : partsB m ks (ps.map Pt.d) = true := by
  unfold partsB
  rw [all_kp h, Bool.and_true, decide_eq_true_eq, List.length_map]
  first | exact hl | exact hl.symm
theorem fine_row {ps : List Pt} (h : ∀ p ∈ ps, p.Ok) (hl : ps.length ≤ 10) : fine (rowD ps) := by
  refine ⟨by rw [List.length_map]; omega, fun d hd => ?_⟩
  obtain ⟨p, hp, rfl⟩ := List.mem_map.mp hd
  have hp := h p hp
  cases p with
  | nm x => exact ⟨hp.1, by have := (okS_chars hp).2.2; show x.length ≤ _; omega⟩
  | num n => trivial
  | side hs => show (hs.map PyData.int).length ≤ 1000; rw [List.length_map]; have := hp.2.1; omega
theorem split_row {ps : List Pt} (h : ∀ p ∈ ps, p.Ok) (hl : ps.length ≤ 10) (hne : ps ≠ []) : dSplit (.str (rowT ps)) (.str " ") = some (.list ((ps.map Pt.t).map PyData.str)) := by
  rw [blank]
  refine dSplit_ok (b := 300) (by simpa using hne) (fun w hw z => ?_) (row_bound h) (by rw [List.length_map]; omega)
  obtain ⟨p, hp, rfl⟩ := List.mem_map.mp hw
  have := (pt_clean (h p hp)).1 32 z; omega
theorem read_deed_eq {m : Int} (hm : m ≤ 7) {w : Str} {ps : List Pt} (h : GR deedKinds m w ps) : M_read_deed [.int m, .str (rowT (.nm w :: ps))] = some (rowD (.nm w :: ps)) := by
  obtain ⟨o1, o2⟩ := h.ok hm
  have sp := split_row o1 o2 (by simp)
  obtain ⟨h1, ks, h2, h3, h4, h5⟩ := h
  have rw1 := read_words_eq hm (w := w) h3 h4 h5
  have tb := tab_deed w
  rw [h2] at tb
  have isd := is_deed_eq hm (fine_row o1 o2)
  have dB : deedB m (rowD (.nm w :: ps)) = true := by
    show (match kindsIn deedKinds w with | some ks => partsB m ks (ps.map Pt.d) | none => false) = true
    rw [h2]; exact parts_kp h3 h5
  rw [dB] at isd
  have i0 : dIx (.list (((Pt.nm w :: ps).map Pt.t).map PyData.str)) (.int 0) = some (.str w) := by
    show atI (PyData.str w :: (ps.map Pt.t).map PyData.str) 0 = _
    exact at0
  rw [ap_read_deed]; unfold B_read_deed
  refine seq_stepP (asg47 (fBin_ok rfl rfl sp) rfl) (seq_stepP (ε1 := [.fz (.int m), .fz (.str (rowT (.nm w :: ps))), .fz (.list (((Pt.nm w :: ps).map Pt.t).map PyData.str)), .fz (rowD (.nm w :: ps))]) (asg47 (fCall_ok (fCons_ok (fUn_ok (fBin_ok rfl rfl i0) tb) (fCons_ok rfl rfl)) (gd_ok rfl rw1)) rfl) (seq_stepP (sIf_f (gNot47 (gTru_bool (fCall_ok (fCons_ok rfl (fCons_ok rfl rfl)) (gd_ok rfl isd)))) rfl) rfl))
theorem read_entry_eq {m : Int} (hm : m ≤ 7) {w : Str} {ps : List Pt} (h : GR entKinds m w ps) : M_read_entry [.int m, .str (rowT (.nm w :: ps))] = some (rowD (.nm w :: ps)) := by
  obtain ⟨o1, o2⟩ := h.ok hm
  have sp := split_row o1 o2 (by simp)
  obtain ⟨h1, ks, h2, h3, h4, h5⟩ := h
  have rw1 := read_words_eq hm (w := w) h3 h4 h5
  have tb := tab_entry w
  rw [h2] at tb
  have isd := is_entry_eq hm (fine_row o1 o2)
  have dB : entryB m (rowD (.nm w :: ps)) = true := by
    show (match kindsIn entKinds w with | some ks => partsB m ks (ps.map Pt.d) | none => false) = true
    rw [h2]; exact parts_kp h3 h5
  rw [dB] at isd
  have i0 : dIx (.list (((Pt.nm w :: ps).map Pt.t).map PyData.str)) (.int 0) = some (.str w) := by
    show atI (PyData.str w :: (ps.map Pt.t).map PyData.str) 0 = _
    exact at0
  rw [ap_read_entry]; unfold B_read_entry
  refine seq_stepP (asg47 (fBin_ok rfl rfl sp) rfl) (seq_stepP (ε1 := [.fz (.int m), .fz (.str (rowT (.nm w :: ps))), .fz (.list (((Pt.nm w :: ps).map Pt.t).map PyData.str)), .fz (rowD (.nm w :: ps))]) (asg47 (fCall_ok (fCons_ok (fUn_ok (fBin_ok rfl rfl i0) tb) (fCons_ok rfl rfl)) (gd_ok rfl rw1)) rfl) (seq_stepP (sIf_f (gNot47 (gTru_bool (fCall_ok (fCons_ok rfl (fCons_ok rfl rfl)) (gd_ok rfl isd)))) rfl) rfl))
def LogOk (m : Int) (rs : List (List Pt)) : Prop := ∀ r ∈ rs, ∃ w ps, r = .nm w :: ps ∧ GR entKinds m w ps
theorem LogOk.rows {m : Int} (hm : m ≤ 7) {rs : List (List Pt)} (h : LogOk m rs) : RowsOk rs := fun r hr => by
  obtain ⟨w, ps, rfl, hg⟩ := h r hr
  obtain ⟨a, b⟩ := hg.ok hm
  exact ⟨a, b, by simp⟩
theorem jn_head {c x : Nat} {l : List Nat} {r : List (List Nat)} : ∃ l', jn c ((x :: l) :: r) = x :: l' := by
  cases r with
  | nil => exact ⟨l, rfl⟩
  | cons b r => exact ⟨_, rfl⟩
theorem row_head {w : Str} {ps : List Pt} (h : okS w) : ∃ c l, (rowT (.nm w :: ps)).cps.toList = c :: l ∧ 97 ≤ c := by
  obtain ⟨h1, h2, _⟩ := okS_chars h
  rw [show (rowT (.nm w :: ps)).cps.toList = jn 32 (((Pt.nm w :: ps).map Pt.t).map fun w => w.cps.toList) from join_list 32 _]
  cases hw : w.cps.toList with
  | nil => rw [len_toList, hw] at h2; exact absurd h2 (by simp)
  | cons c l =>
    obtain ⟨l', e⟩ := jn_head (c := 32) (x := c) (l := l) (r := (ps.map Pt.t).map fun w => w.cps.toList)
    refine ⟨c, l', ?_, (h1 c (by rw [hw]; exact List.mem_cons_self ..)).1⟩
    rw [List.map_cons, List.map_cons]
    show jn 32 (w.cps.toList :: _) = _
    rw [hw]; exact e
theorem log_text_ok {m : Int} (hm : m ≤ 7) {rs : List (List Pt)} (h : LogOk m rs) : PyData.strOk (logT rs) = true := by
  unfold logT
  split
  · decide +kernel
  · refine ok_ascii fun c hc => ?_
    rw [show (Str.join ⟨#[10]⟩ (rs.map rowT)).cps.toList = jn 10 ((rs.map rowT).map fun w => w.cps.toList) from join_list 10 _] at hc
    rcases mem_jn hc with rfl | ⟨w, hw, hc⟩
    · omega
    · obtain ⟨x, hx, rfl⟩ := List.mem_map.mp hw
      obtain ⟨r, hr, rfl⟩ := List.mem_map.mp hx
      have := row_chars (h.rows hm r hr).1 c hc; omega
theorem dash : ("-" : Str).cps.toList = [45] := by decide +kernel
theorem read_log_eq {m : Int} (hm : m ≤ 7) {rs : List (List Pt)} (h : LogOk m rs) (hl : rs.length ≤ 1000) : M_read_log [.int m, .str (logT rs)] = some (logRD rs) := by
  have hok := log_text_ok hm h
  have e0 := dEqS hok (show PyData.strOk ("-" : Str) = true by decide +kernel)
  rw [ap_read_log]; unfold B_read_log
  cases rs with
  | nil =>
    have e1 : (logT [] == ("-" : Str)) = true := by show (("-" : Str) == "-") = true; exact beq_self_eq_true _
    rw [e1] at e0
    exact (congrArg outP (sSeq_rt (sIf_t (gVal_ok (fBin_ok rfl rfl e0)) (sRet_ok rfl)))).trans rfl
  | cons r rs =>
    have e1 : (logT (r :: rs) == ("-" : Str)) = false := by
      rw [beq_eq_false_iff_ne]
      intro z
      obtain ⟨w, ps, rfl, hg⟩ := h r (List.mem_cons_self ..)
      obtain ⟨c, l, ec, hc⟩ := row_head (ps := ps) hg.1
      have z := congrArg (fun s : Str => s.cps.toList) z
      rw [dash] at z
      have e2 : (logT ((.nm w :: ps) :: rs)).cps.toList = jn 10 (((((.nm w :: ps) :: rs)).map rowT).map fun w => w.cps.toList) := join_list 10 _
      rw [e2, List.map_cons, List.map_cons, ec] at z
      obtain ⟨l', e3⟩ := jn_head (c := 10) (x := c) (l := l) (r := (rs.map rowT).map fun w => w.cps.toList)
      rw [e3] at z
      have := (List.cons.inj z).1
      omega
    rw [e1] at e0
    have sp : dSplit (.str (logT (r :: rs))) (.str "\n") = some (.list (((r :: rs).map rowT).map PyData.str)) := by
      rw [feed]
      have : logT (r :: rs) = Str.join ⟨#[10]⟩ ((r :: rs).map rowT) := rfl
      rw [this]
      refine dSplit_ok (b := 3010) (by simp) (fun x hx z => ?_) (rows_bound (h.rows hm)) (by rw [List.length_map]; omega)
      obtain ⟨q, hq, rfl⟩ := List.mem_map.mp hx
      have := row_chars (h.rows hm q hq).1 10 z; omega
    have cmp := comp_all (ε := [.fz (.int m), .fz (.str (logT (r :: rs))), .un]) (bind := bName 2) (fa := fCall (gd 2 M_read_entry) (fCons (fVar 0) (fCons (fVar 2) fNil))) (vs := [2]) (fun q => PyData.str (rowT q)) rowD (r :: rs) (fun q hq => by
      obtain ⟨w, ps, rfl, hg⟩ := h q hq
      exact ⟨_, rfl, fCall_ok (fCons_ok rfl (fCons_ok rfl rfl)) (gd_ok rfl (read_entry_eq hm hg)), rfl⟩)
    rw [show (r :: rs).map (fun q => PyData.str (rowT q)) = ((r :: rs).map rowT).map PyData.str by rw [List.map_map]; rfl] at cmp
    refine seq_stepP (sIf_f (gVal_ok (fBin_ok rfl rfl e0)) rfl) ?_
    exact (congrArg outP (sRet_ok (fCall_ok (fCons_ok (fComp_ok (ε1 := [.fz (.int m), .fz (.str (logT (r :: rs))), .un]) (fSrc_ok (fBin_ok rfl rfl sp) rfl) cmp (by rw [List.length_map]; exact sizeLine_big (by omega))) rfl) rfl))).trans rfl
theorem same_str {n : Nat} {x : Str} (h : PyData.strOk x = true) : Mn_law_same (n + 1) [.str x, .str x] = some (.bool true) := by
  show runP 3 (B_law_same (Mn_law_same n)) [.str x, .str x] = _
  exact runP_ok (sSeq_nx (sIf_f rfl rfl) (sSeq_rt (sIf_t rfl (sRet_ok (fAnd_t rfl (fBin_ok rfl rfl (by rw [dEqS h h, beq_self_eq_true])))))))
theorem same_int {n : Nat} {i : Int} : Mn_law_same (n + 1) [.int i, .int i] = some (.bool true) := by
  show runP 3 (B_law_same (Mn_law_same n)) [.int i, .int i] = _
  exact runP_ok (sSeq_nx (sIf_f rfl rfl) (sSeq_nx (sIf_f rfl rfl) (sRet_ok (fAnd_t rfl (fAnd_t rfl (fBin_ok rfl rfl (by rw [dEq_int, beq_self_eq_true])))))))
theorem at_tup {ds : List PyData} {k : Nat} (hk : k < ds.length) : dIx (.tuple ds) (.int (0 + (k : Int))) = some ds[k] := by
  show atI ds (0 + (k : Int)) = _
  unfold atI ixN
  rw [if_pos (by omega), if_pos (by omega)]
  have : (0 + (k : Int)).toNat = k := by omega
  rw [this, Option.bind_some, List.getElem?_eq_getElem hk]
theorem same_tup {n : Nat} {ds : List PyData} (hl : ds.length ≤ 5000) (h : ∀ d ∈ ds, Mn_law_same n [d, d] = some (.bool true)) : Mn_law_same (n + 1) [.tuple ds, .tuple ds] = some (.bool true) := by
  show runP 3 (B_law_same (Mn_law_same n)) [.tuple ds, .tuple ds] = _
  have hr : dR (ds.length : Nat) = true := by simp only [dR, Bool.and_eq_true, decide_eq_true_eq]; omega
  have f1 := comp_map (ε := [.fz (.tuple ds), .fz (.tuple ds), .un]) (bind := bName 2) (ga := gNot (gTru (fCall (gd 2 (Mn_law_same n)) (fCons (fBin dIx (fVar 0) (fVar 2)) (fCons (fBin dIx (fVar 1) (fVar 2)) fNil))))) (fa := fVar 2) (vs := [2]) (fun k : Nat => PyData.int (0 + (k : Int))) (fun _ => false) (fun _ => .none) (List.range ds.length) (fun k hk => by
    have hk := List.mem_range.mp hk
    exact ⟨_, rfl, gNot47 (gTru_bool (fCall_ok (fCons_ok (fBin_ok rfl rfl (at_tup hk)) (fCons_ok (fBin_ok rfl rfl (at_tup hk)) rfl)) (gd_ok rfl (h _ (List.getElem_mem hk))))), fun z => (by cases z), rfl⟩)
  have e0 : ((List.range ds.length).filter fun _ => false) = [] := by rw [List.filter_eq_nil_iff]; intro a _ z; cases z
  rw [e0] at f1
  have hne : dNe (.int (ds.length : Nat)) (.int (ds.length : Nat)) = some (.bool false) := dNe_self rfl
  have rg : fRng1 (fCons (fCall dLen (fCons (fVar 1) fNil)) fNil) [.fz (.tuple ds), .fz (.tuple ds), .un] = some ((List.range ds.length).map fun k : Nat => PyData.int (0 + (k : Int)), [.fz (.tuple ds), .fz (.tuple ds), .un]) := fRng1_ok (fCons_ok (ε1 := [.fz (.tuple ds), .fz (.tuple ds), .un]) (fCall_ok (ds := [.tuple ds]) rfl rfl) rfl) hr
  have l0 : fCall dLen (fCons (fVar 0) fNil) [.fz (.tuple ds), .fz (.tuple ds), .un] = some (.int (ds.length : Nat), [.fz (.tuple ds), .fz (.tuple ds), .un]) := rfl
  have l1 : fCall dLen (fCons (fVar 1) fNil) [.fz (.tuple ds), .fz (.tuple ds), .un] = some (.int (ds.length : Nat), [.fz (.tuple ds), .fz (.tuple ds), .un]) := rfl
  have i0 : gNot (gTru (fIsi "tuple" (fVar 0))) [.fz (.tuple ds), .fz (.tuple ds), .un] = some (false, [.fz (.tuple ds), .fz (.tuple ds), .un]) := rfl
  exact runP_ok (sSeq_rt (sIf_t rfl (sSeq_nx (sIf_f (gOr_f i0 (gVal_ok (fBin_ok l0 l1 hne))) rfl) (sRet_ok (fBin_ok (fComp_ok (ε1 := [.fz (.tuple ds), .fz (.tuple ds), .un]) rg f1 (sizeLine_big (by simp))) rfl rfl)))))
theorem same_part {n : Nat} {p : Pt} (h : p.Ok) : Mn_law_same (n + 2) [p.d, p.d] = some (.bool true) := by
  cases p with
  | nm x => exact same_str h.1
  | num i => exact same_int
  | side hs =>
    refine same_tup (by rw [List.length_map]; have := h.2.1; omega) fun d hd => ?_
    obtain ⟨i, _, rfl⟩ := List.mem_map.mp hd
    exact same_int
theorem same_row {n : Nat} {ps : List Pt} (h : ∀ p ∈ ps, p.Ok) (hl : ps.length ≤ 10) : Mn_law_same (n + 3) [rowD ps, rowD ps] = some (.bool true) :=
  same_tup (by rw [List.length_map]; omega) fun d hd => by
    obtain ⟨p, hp, rfl⟩ := List.mem_map.mp hd
    exact same_part (h p hp)
theorem same_log {rs : List (List Pt)} (h : RowsOk rs) (hl : rs.length ≤ 1000) : M_law_same [logRD rs, logRD rs] = some (.bool true) :=
  same_tup (n := 5) (by rw [List.length_map]; omega) fun d hd => by
    obtain ⟨r, hr, rfl⟩ := List.mem_map.mp hd
    exact same_row (n := 2) (h r hr).1 (h r hr).2.1
theorem can_part {p : Pt} (h : p.Ok) : p.d.canLay0 = true ∧ p.d.depth ≤ 1 := by
  cases p with
  | nm x => exact ⟨by simpa [Pt.d, PyData.canLay0] using h.1, by simp [Pt.d, PyData.depth]⟩
  | num i => exact ⟨rfl, by simp [Pt.d, PyData.depth]⟩
  | side hs =>
    have key : ∀ hs : List Int, PyData.canLayAll0 (hs.map PyData.int) = true ∧ PyData.depthAll (hs.map PyData.int) = 0 := by
      intro hs
      induction hs with
      | nil => exact ⟨rfl, by simp [PyData.depthAll]⟩
      | cons a hs ih => simp [PyData.canLayAll0, PyData.canLay0, PyData.depthAll, PyData.depth, ih.1, ih.2]
    exact ⟨by simpa [Pt.d, PyData.canLay0] using (key hs).1, by simp [Pt.d, PyData.depth, (key hs).2]⟩
theorem can_row {ps : List Pt} (h : ∀ p ∈ ps, p.Ok) : (rowD ps).canLay0 = true ∧ (rowD ps).depth ≤ 2 := by
  have key : ∀ ps : List Pt, (∀ p ∈ ps, p.Ok) → PyData.canLayAll0 (ps.map Pt.d) = true ∧ PyData.depthAll (ps.map Pt.d) ≤ 1 := by
    intro ps
    induction ps with
    | nil => intro _; exact ⟨rfl, by simp [PyData.depthAll]⟩
    | cons p ps ih =>
      intro h
      obtain ⟨a, b⟩ := can_part (h p (List.mem_cons_self ..))
      obtain ⟨c, d⟩ := ih fun q hq => h q (List.mem_cons_of_mem _ hq)
      simp only [List.map_cons, PyData.canLayAll0, PyData.depthAll, a, c, Bool.and_self, true_and]
      omega
  obtain ⟨a, b⟩ := key ps h
  exact ⟨by simpa [rowD, PyData.canLay0] using a, by simp only [rowD, PyData.depth]; omega⟩
theorem sh_row {ps : List Pt} (h : ∀ p ∈ ps, p.Ok) : sh (rowD ps) = true := by
  obtain ⟨a, b⟩ := can_row h
  simp only [sh, SeqAt.shaped, a, Bool.true_and]
  exact decide_eq_true (by omega)
theorem sh_logR {rs : List (List Pt)} (h : RowsOk rs) : sh (logRD rs) = true := by
  have key : ∀ rs : List (List Pt), RowsOk rs → PyData.canLayAll0 (rs.map rowD) = true ∧ PyData.depthAll (rs.map rowD) ≤ 2 := by
    intro rs
    induction rs with
    | nil => intro _; exact ⟨rfl, by simp [PyData.depthAll]⟩
    | cons p ps ih =>
      intro h
      obtain ⟨a, b⟩ := can_row (h p (List.mem_cons_self ..)).1
      obtain ⟨c, d⟩ := ih fun q hq => h q (List.mem_cons_of_mem _ hq)
      simp only [List.map_cons, PyData.canLayAll0, PyData.depthAll, a, c, Bool.and_self, true_and]
      omega
  obtain ⟨a, b⟩ := key rs h
  simp only [sh, SeqAt.shaped, logRD, PyData.canLay0, PyData.depth, a, Bool.true_and]
  exact decide_eq_true (by omega)
theorem dEq_me {d : PyData} (h : sh d = true) : dEq d d = some (.bool true) := by
  unfold dEq
  rw [if_pos ⟨h, h⟩, SeqAt.eqv_refl d (sh_can h)]
theorem row_text_ok {ps : List Pt} (h : ∀ p ∈ ps, p.Ok) : PyData.strOk (rowT ps) = true := ok_ascii fun c hc => by have := row_chars h c hc; omega
theorem deed_right_eq {m : Int} (h0 : 1 ≤ m) (hm : m ≤ 7) {w : Str} {ps : List Pt} (h : GR deedKinds m w ps) : M_law_deed_right [.int m, rowD (.nm w :: ps)] = some (.bool true) := by
  obtain ⟨o1, o2⟩ := h.ok hm
  have e1 := law_shown_eq o1 o2
  have e2 : M_show_deed [rowD (.nm w :: ps)] = some (.str (rowT (.nm w :: ps))) := by
    rw [ap_show_deed]; unfold B_show_deed
    exact (congrArg outP (sRet_ok (fCall_ok (fCons_ok rfl rfl) (gd_ok rfl (show_words_eq o1 o2))))).trans rfl
  have e3 := read_deed_eq hm h
  obtain ⟨m', hm1, hm2, hm3⟩ : ∃ m' : Int, dMin2 [.int 7, .int (m + 1)] = some (.int m') ∧ m ≤ m' ∧ m' ≤ 7 := ⟨_, rfl, by split <;> omega, by split <;> omega⟩
  have e4 := read_deed_eq hm3 (h.mono hm2)
  have s1 : M_law_same [.str (rowT (.nm w :: ps)), .str (rowT (.nm w :: ps))] = some (.bool true) := same_str (n := 5) (row_text_ok o1)
  have s2 : M_law_same [rowD (.nm w :: ps), rowD (.nm w :: ps)] = some (.bool true) := same_row (n := 3) o1 o2
  have s3 := dEq_me (sh_row o1)
  generalize rowD (.nm w :: ps) = D at *
  generalize rowT (.nm w :: ps) = T at *
  rw [ap_law_deed_right]; unfold B_law_deed_right
  refine seq_stepP (asg47 (ε2 := [.fz (.int m), .fz D, .fz (.str T)]) (fCall_ok (fCons_ok rfl rfl) (gd_ok rfl e1)) rfl) ?_
  refine seq_stepP (sIf_f (gOr_f (gNot47 (gTru_bool (fCall_ok (fCons_ok (fCall_ok (fCons_ok rfl rfl) (gd_ok rfl e2)) (fCons_ok rfl rfl)) (gd_ok rfl s1)))) (gNot47 (gTru_bool (fCall_ok (fCons_ok (fCall_ok (fCons_ok rfl (fCons_ok rfl rfl)) (gd_ok rfl e3)) (fCons_ok rfl rfl)) (gd_ok rfl s2))))) rfl) ?_
  exact (congrArg outP (sRet_ok (fAnd_t (fCall_ok (fCons_ok (fCall_ok (fCons_ok rfl (fCons_ok (fCall_ok (fCons_ok rfl rfl) (gd_ok rfl e2)) rfl)) (gd_ok rfl e3)) (fCons_ok rfl rfl)) (gd_ok rfl s2)) (fBin_ok (fCall_ok (fCons_ok (fCall_ok (fCons_ok rfl (fCons_ok (fBin_ok rfl rfl rfl) rfl)) hm1) (fCons_ok rfl rfl)) (gd_ok rfl e4)) rfl s3)))).trans rfl
theorem log_right_eq {m : Int} (hm : m ≤ 7) {rs : List (List Pt)} (h : LogOk m rs) (hl : rs.length ≤ 1000) : M_law_log_right [.int m, logRD rs] = some (.bool true) := by
  have hR := h.rows hm
  have e1 := comp_all (ε := [.fz (.int m), .fz (logRD rs), .un, .un]) (bind := bName 3) (fa := fCall (gd 1 M_law_shown) (fCons (fVar 3) fNil)) (vs := [3]) rowD (fun q => .str (rowT q)) rs (fun q hq => ⟨_, rfl, fCall_ok (fCons_ok rfl rfl) (gd_ok rfl (law_shown_eq (hR q hq).1 (hR q hq).2.1)), rfl⟩)
  rw [show rs.map (fun q => PyData.str (rowT q)) = (rs.map rowT).map PyData.str by rw [List.map_map]; rfl] at e1
  have j := rows_join hR hl
  have e2 := show_log_eq hR hl
  have e3 := read_log_eq hm h hl
  have s1 : M_law_same [.str (logT rs), .str (logT rs)] = some (.bool true) := same_str (n := 5) (log_text_ok hm h)
  have s2 := same_log hR hl
  have s3 : dEq (.str (logT rs)) (.str (logT rs)) = some (.bool true) := dEq_me (shS (log_text_ok hm h))
  have st1 : sAsg 2 (fBin dJoin (fC (.str "\n")) (fComp (fSrc (fVar 1)) (bName 3) gYes (fCall (gd 1 M_law_shown) (fCons (fVar 3) fNil)) [3])) [.fz (.int m), .fz (logRD rs), .un, .un] = some (.nx [.fz (.int m), .fz (logRD rs), .fz (.str (Str.join ⟨#[10]⟩ (rs.map rowT))), .un]) :=
    asg47 (fBin_ok rfl (fComp_ok (ε1 := [.fz (.int m), .fz (logRD rs), .un, .un]) (fSrc_ok rfl rfl) e1 (by rw [List.length_map, List.length_map]; exact sizeLine_big (by omega))) j) rfl
  have q : dEq (logRD rs) (.tuple []) = some (.bool (decide (rs = []))) := by
    unfold dEq
    rw [if_pos ⟨sh_logR hR, rfl⟩]
    cases rs with
    | nil => rfl
    | cons r rs => simp [logRD, PyData.eqv, PyData.eqvAll]
  have st2 : sIf (gVal (fBin dEq (fVar 1) (fCall dTup fNil))) (sAsg 2 (fC (.str "-"))) sPass [.fz (.int m), .fz (logRD rs), .fz (.str (Str.join ⟨#[10]⟩ (rs.map rowT))), .un] = some (.nx [.fz (.int m), .fz (logRD rs), .fz (.str (logT rs)), .un]) := by
    by_cases hn : rs = []
    · rw [decide_eq_true hn] at q
      refine sIf_t (gVal_ok (fBin_ok rfl rfl q)) ?_
      unfold logT
      rw [if_pos hn]; rfl
    · rw [decide_eq_false hn] at q
      refine sIf_f (gVal_ok (fBin_ok rfl rfl q)) ?_
      unfold logT
      rw [if_neg hn]; rfl
  rw [ap_law_log_right]; unfold B_law_log_right
  refine seq_stepP st1 (seq_stepP st2 ?_)
  clear st1 st2 q e1 j
  generalize logRD rs = D at *
  generalize logT rs = T at *
  refine seq_stepP (sIf_f (gOr_f (gNot47 (gTru_bool (fCall_ok (fCons_ok (fCall_ok (fCons_ok rfl rfl) (gd_ok rfl e2)) (fCons_ok rfl rfl)) (gd_ok rfl s1)))) (gNot47 (gTru_bool (fCall_ok (fCons_ok (fCall_ok (fCons_ok rfl (fCons_ok rfl rfl)) (gd_ok rfl e3)) (fCons_ok rfl rfl)) (gd_ok rfl s2))))) rfl) ?_
  exact (congrArg outP (sRet_ok (fAnd_t (fCall_ok (fCons_ok (fCall_ok (fCons_ok rfl (fCons_ok (fCall_ok (fCons_ok rfl rfl) (gd_ok rfl e2)) rfl)) (gd_ok rfl e3)) (fCons_ok rfl rfl)) (gd_ok rfl s2)) (fBin_ok (fCall_ok (fCons_ok (fCall_ok (fCons_ok rfl (fCons_ok rfl rfl)) (gd_ok rfl e3)) rfl) (gd_ok rfl e2)) rfl s3)))).trans rfl
theorem str_cat (a b : Str) : (a ++ b).cps = a.cps ++ b.cps := rfl
theorem join_letters : ∀ (cs : List Nat), Str.join "" (cs.map fun c => (⟨#[c]⟩ : Str)) = ⟨cs.toArray⟩
  | [] => rfl
  | [c] => rfl
  | c :: d :: cs => by
    have ih := join_letters (d :: cs)
    show (⟨#[c]⟩ : Str) ++ ("" : Str) ++ Str.join "" ((d :: cs).map fun c => (⟨#[c]⟩ : Str)) = _
    rw [ih]
    have : (((⟨#[c]⟩ : Str) ++ ("" : Str)) ++ (⟨(d :: cs).toArray⟩ : Str)).cps = (⟨(c :: d :: cs).toArray⟩ : Str).cps := by
      rw [str_cat, str_cat]
      show #[c] ++ #[] ++ (d :: cs).toArray = _
      simp
    cases h : (((⟨#[c]⟩ : Str) ++ ("" : Str)) ++ (⟨(d :: cs).toArray⟩ : Str)) with
    | mk x => rw [h] at this; simp only at this; rw [this]
theorem letter_at {v : Int} (h0 : 0 ≤ v) (h1 : v < 26) : dIx (.str "abcdefghijklmnopqrstuvwxyz") (.int v) = some (.str ⟨#[97 + v.toNat]⟩) := by
  show (if ("abcdefghijklmnopqrstuvwxyz" : Str).length ≤ sizeLine then (atI ("abcdefghijklmnopqrstuvwxyz" : Str).cps.toList v).map fun c => PyData.str ⟨#[c]⟩ else none) = _
  rw [if_pos (sizeLine_big (by decide +kernel)), letters_eq]
  unfold atI ixN
  have hl : v.toNat < 26 := by omega
  rw [if_pos h0, if_pos (by simpa using h1)]
  simp [hl, Nat.add_comm]
theorem ok_letters {cs : List Nat} (h : ∀ c ∈ cs, 97 ≤ c ∧ c ≤ 122) (h1 : 1 ≤ cs.length) (h8 : cs.length ≤ 8) : okS ⟨cs.toArray⟩ := by
  constructor
  · simp only [PyData.strOk, List.all_toArray, List.all_eq_true, decide_eq_true_eq]
    intro c hc; have := h c hc; omega
  · simp only [nmB, Bool.and_eq_true, decide_eq_true_eq, List.all_eq_true]
    refine ⟨?_, fun c hc => h c hc⟩
    simpa using ⟨h1, h8⟩
theorem strs_of {ys : List PyData} (h : ∀ y ∈ ys, ∃ c : Nat, y = .str ⟨#[c]⟩ ∧ 97 ≤ c ∧ c ≤ 122) : ∃ cs : List Nat, ys = (cs.map fun c => (⟨#[c]⟩ : Str)).map PyData.str ∧ ∀ c ∈ cs, 97 ≤ c ∧ c ≤ 122 := by
  induction ys with
  | nil => exact ⟨[], rfl, by simp⟩
  | cons y ys ih =>
    obtain ⟨c, rfl, hc⟩ := h y (List.mem_cons_self ..)
    obtain ⟨cs, rfl, hcs⟩ := ih fun y hy => h y (List.mem_cons_of_mem _ hy)
    exact ⟨c :: cs, rfl, fun x hx => by
      rcases List.mem_cons.mp hx with rfl | hx
      · exact hc
      · exact hcs x hx⟩
theorem join_ok {cs : List Nat} (h8 : cs.length ≤ 8) : dJoin (.str "") (.list ((cs.map fun c => (⟨#[c]⟩ : Str)).map PyData.str)) = some (.str ⟨cs.toArray⟩) := by
  show ((dStrs ((cs.map fun c => (⟨#[c]⟩ : Str)).map PyData.str)).bind fun ys => if (ys.map (·.length)).sum + ys.length * ("" : Str).length ≤ 16777216 then some (PyData.str (Txt.join "" ys)) else none) = _
  rw [dStrs_map, Option.bind_some, TL.join_eq, join_letters, if_pos]
  have hs : ∀ cs : List Nat, ((cs.map fun c => (⟨#[c]⟩ : Str)).map (·.length)).sum = cs.length := by
    intro cs
    induction cs with
    | nil => rfl
    | cons c cs ih => rw [List.map_cons, List.map_cons, List.sum_cons, ih, List.length_cons]; show 1 + _ = _; omega
  rw [hs, List.length_map, show ("" : Str).length = 0 from rfl]; omega
theorem drawP {ε : En} {r : PyData} (i : Nat) (hi : ε[i]? = some (.mu r)) (hr : PotOk r) {m : Int} (h0 : 0 < m) (h1 : m < 2 ^ 200) {fm : Ef} (hm : fm ε = some (.int m, ε)) :
    ∃ v r', fRow i 2 M_law_take (fCons fm fNil) ε = some (.int v, ε.set i (.mu r')) ∧ 0 ≤ v ∧ v < m ∧ PotOk r' := by
  obtain ⟨v, r', e, hv0, hv1, hr'⟩ := take_ok hr h0 h1
  exact ⟨v, r', fRow_ok hi (fCons_ok hm rfl) hi rfl e, hv0, hv1, hr'⟩
theorem ten8 : dPow (.int 10) (.int 8) = some (.int 100000000) := rfl
theorem ten10 : dPow (.int 10) (.int 10) = some (.int 10000000000) := rfl
theorem ten20 : dPow (.int 10) (.int 20) = some (.int 100000000000000000000) := rfl
theorem name47_ok {r : PyData} (hr : PotOk r) : ∃ (nm : Str) (r' : PyData), M_law_name r [] = some (.str nm, r') ∧ okS nm ∧ PotOk r' := by
  obtain ⟨g, r1, e1, g0, g1, hr1⟩ := drawP (ε := [.mu r, .fz (.str "abcdefghijklmnopqrstuvwxyz"), .un]) 0 rfl hr (m := 4) (by decide) (by decide) (fm := fC (.int 4)) rfl
  have t0 : gVal (fBin dEq (fRow 0 2 M_law_take (fCons (fC (.int 4)) fNil)) (fC (.int 0))) [.mu r, .fz (.str "abcdefghijklmnopqrstuvwxyz"), .un] = some (g == 0, [.mu r1, .fz (.str "abcdefghijklmnopqrstuvwxyz"), .un]) := gVal_ok (fBin_ok e1 rfl dEq_int)
  rw [show M_law_name r [] = outR (B_law_name [.mu r, .un, .un]) from rfl]
  cases hg : g == 0 with
  | true =>
    rw [hg] at t0
    obtain ⟨v, r2, e2, v0, v1, hr2⟩ := drawP (ε := [.mu r1, .fz (.str "abcdefghijklmnopqrstuvwxyz"), .un]) 0 rfl hr1 (m := 8) (by decide) (by decide) (fm := fC (.int 8)) rfl
    obtain ⟨d, hd, hm⟩ := ix_in (ds := [.str "ab", .str "round", .str "heal", .str "ask", .str "a", .str "zzzzzzzz", .str "joe", .str "no"]) v0 v1
    obtain ⟨nm, rfl, hs⟩ : ∃ nm : Str, d = .str nm ∧ okS nm := by
      simp only [List.mem_cons, List.not_mem_nil, or_false] at hm
      rcases hm with rfl | rfl | rfl | rfl | rfl | rfl | rfl | rfl <;> exact ⟨_, rfl, by unfold okS; decide +kernel⟩
    refine ⟨nm, r2, ?_, hs, hr2⟩
    unfold B_law_name
    exact (congrArg outR (sSeq_nx (ε1 := [.mu r, .fz (.str "abcdefghijklmnopqrstuvwxyz"), .un]) rfl (sSeq_rt (sIf_t t0 (sRet_ok (fBin_ok (fCall_ok rfl (qdLst (by simp))) e2 hd)))))).trans rfl
  | false =>
    rw [hg] at t0
    obtain ⟨v, r2, e2, v0, v1, hr2⟩ := drawP (ε := [.mu r1, .fz (.str "abcdefghijklmnopqrstuvwxyz"), .un]) 0 rfl hr1 (m := 8) (by decide) (by decide) (fm := fC (.int 8)) rfl
    obtain ⟨ys, ε', e3, hl, hp, q, rfl, hq⟩ := comp_inv (bind := bName 2) (ga := gYes) (fa := fBin dIx (fVar 1) (fRow 0 2 M_law_take (fCons (fC (.int 26)) fNil))) (vs := [2]) (fun ε => ∃ q, ε = [.mu q, .fz (.str "abcdefghijklmnopqrstuvwxyz"), .un] ∧ PotOk q) (fun y => ∃ c : Nat, y = .str ⟨#[c]⟩ ∧ 97 ≤ c ∧ c ≤ 122) (rangeD 0 (1 + v).toNat) [.mu r2, .fz (.str "abcdefghijklmnopqrstuvwxyz"), .un] (by
      rintro d _ ε ⟨q, rfl, hq⟩
      obtain ⟨g, q', e3, g0, g1, hq'⟩ := drawP (ε := [.mu q, .fz (.str "abcdefghijklmnopqrstuvwxyz"), .fz d]) 0 rfl hq (m := 26) (by decide) (by decide) (fm := fC (.int 26)) rfl
      exact ⟨_, _, _, _, rfl, rfl, fBin_ok rfl e3 (letter_at g0 g1), ⟨97 + g.toNat, rfl, by omega, by omega⟩, q', rfl, hq'⟩) ⟨r2, rfl, hr2⟩
    obtain ⟨cs, rfl, hcs⟩ := strs_of hp
    have hlen : cs.length = (1 + v).toNat := by simpa [rangeD] using hl
    refine ⟨⟨cs.toArray⟩, q, ?_, ok_letters hcs (by omega) (by omega), hq⟩
    unfold B_law_name
    refine (congrArg outR (sSeq_nx (ε1 := [.mu r, .fz (.str "abcdefghijklmnopqrstuvwxyz"), .un]) rfl (sSeq_nx (sIf_f t0 rfl) (sRet_ok (fBin_ok rfl (fComp_ok (fRng1_ok (fCons_ok (fBin_ok rfl e2 rfl) rfl) ?_) e3 (sizeLine_big ?_)) (join_ok (by omega))))))).trans rfl
    · simp only [dR, Bool.and_eq_true, decide_eq_true_eq]; omega
    · rw [List.length_map, List.length_map, hlen]; omega
theorem number47_ok {r : PyData} (hr : PotOk r) {least : Int} (l0 : 0 ≤ least) (l1 : least ≤ 1) : ∃ (n : Int) (r' : PyData), M_law_number r [.int least] = some (.int n, r') ∧ numOk n ∧ PotOk r' := by
  obtain ⟨a, r1, e1, a0, a1, hr1⟩ := drawP (ε := [.mu r, .fz (.int least), .un]) 0 rfl hr (m := 100000000) (by decide) (by decide) (fm := fBin dPow (fC (.int 10)) (fC (.int 8))) (fBin_ok rfl rfl ten8)
  obtain ⟨b, r2, e2, b0, b1, hr2⟩ := drawP (ε := [.mu r1, .fz (.int least), .un]) 0 rfl hr1 (m := 10000000000) (by decide) (by decide) (fm := fBin dPow (fC (.int 10)) (fC (.int 10))) (fBin_ok rfl rfl ten10)
  obtain ⟨c, r3, e3, c0, c1, hr3⟩ := drawP (ε := [.mu r2, .fz (.int least), .un]) 0 rfl hr2 (m := 10000000000) (by decide) (by decide) (fm := fBin dPow (fC (.int 10)) (fC (.int 10))) (fBin_ok rfl rfl ten10)
  have m1 := dMul_l (a := a) (b := 100000000000000000000) (by omega) (by omega)
  have m2 := dMul_l (a := b) (b := 10000000000) (by omega) (by omega)
  have hf0 : 0 ≤ a * 100000000000000000000 + b * 10000000000 + c := by omega
  have hf1 : a * 100000000000000000000 + b * 10000000000 + c < 1000000000000000000000000000000 := by omega
  have st1 : sAsg 2 (fBin dAdd (fBin dAdd (fBin dMul (fRow 0 2 M_law_take (fCons (fBin dPow (fC (.int 10)) (fC (.int 8))) fNil)) (fBin dPow (fC (.int 10)) (fC (.int 20)))) (fBin dMul (fRow 0 2 M_law_take (fCons (fBin dPow (fC (.int 10)) (fC (.int 10))) fNil)) (fBin dPow (fC (.int 10)) (fC (.int 10))))) (fRow 0 2 M_law_take (fCons (fBin dPow (fC (.int 10)) (fC (.int 10))) fNil))) [.mu r, .fz (.int least), .un] = some (.nx [.mu r3, .fz (.int least), .fz (.int (a * 100000000000000000000 + b * 10000000000 + c))]) :=
    asg47 (fBin_ok (fBin_ok (fBin_ok e1 (fBin_ok rfl rfl ten20) m1) (fBin_ok e2 (fBin_ok rfl rfl ten10) m2) rfl) e3 rfl) rfl
  generalize a * 100000000000000000000 + b * 10000000000 + c = f at hf0 hf1 st1
  obtain ⟨x, r4, e4, x0, x1, hr4⟩ := drawP (ε := [.mu r3, .fz (.int least), .fz (.int f)]) 0 rfl hr3 (m := 10) (by decide) (by decide) (fm := fC (.int 10)) rfl
  obtain ⟨y, r5, e5, y0, y1, hr5⟩ := drawP (ε := [.mu r4, .fz (.int least), .fz (.int f)]) 0 rfl hr4 (m := 10) (by decide) (by decide) (fm := fC (.int 10)) rfl
  obtain ⟨z, r6, e6, z0, z1, hr6⟩ := drawP (ε := [.mu r5, .fz (.int least), .fz (.int f)]) 0 rfl hr5 (m := 300) (by decide) (by decide) (fm := fC (.int 300)) rfl
  obtain ⟨g, r7, e7, g0, g1, hr7⟩ := drawP (ε := [.mu r6, .fz (.int least), .fz (.int f)]) 0 rfl hr6 (m := 4) (by decide) (by decide) (fm := fC (.int 4)) rfl
  obtain ⟨v, hv, v0, v1⟩ : ∃ v : Int, dIx (.list [.int x, .int y, .int z, .int (f - least)]) (.int g) = some (.int v) ∧ 0 ≤ least + v ∧ least + v < 10000000000000000000000000000000 := by
    have : g = 0 ∨ g = 1 ∨ g = 2 ∨ g = 3 := by omega
    rcases this with rfl | rfl | rfl | rfl
    · exact ⟨x, rfl, by omega, by omega⟩
    · exact ⟨y, rfl, by omega, by omega⟩
    · exact ⟨z, rfl, by omega, by omega⟩
    · exact ⟨f - least, rfl, by omega, by omega⟩
  refine ⟨least + v, r7, ?_, ⟨v0, v1⟩, hr7⟩
  rw [ap_law_number]; unfold B_law_number
  exact (congrArg outR (sSeq_nx st1 (sRet_ok (fBin_ok rfl (fBin_ok (fCall_ok (fCons_ok e4 (fCons_ok e5 (fCons_ok e6 (fCons_ok (fBin_ok rfl rfl rfl) rfl)))) (qdLst (by simp))) e7 hv) rfl)))).trans rfl
theorem sub_comp {a1 a2 a3 a4 : Sl} : ∀ (ks : List Nat) (q : PyData), PotOk q → ∃ (is : List Int) (q' : PyData), compF (bName 6) (gVal (fBin dEq (fRow 0 2 M_law_take (fCons (fC (.int 2)) fNil)) (fC (.int 0)))) (fVar 6) [6] (ks.map fun (k : Nat) => PyData.int (0 + (k : Int))) [.mu q, a1, a2, a3, a4, .un, .un] = some (is.map PyData.int, [.mu q', a1, a2, a3, a4, .un, .un]) ∧ PotOk q' ∧ is.Sublist (ks.map fun (k : Nat) => (k : Int))
  | [], q, hq => ⟨[], q, rfl, hq, List.Sublist.refl _⟩
  | k :: ks, q, hq => by
    obtain ⟨g, q1, e1, g0, g1, hq1⟩ := drawP (ε := [.mu q, a1, a2, a3, a4, .un, .fz (.int (0 + (k : Int)))]) 0 rfl hq (m := 2) (by decide) (by decide) (fm := fC (.int 2)) rfl
    obtain ⟨is, q2, e2, hq2, hs⟩ := sub_comp (a1 := a1) (a2 := a2) (a3 := a3) (a4 := a4) ks q1 hq1
    have t0 : gVal (fBin dEq (fRow 0 2 M_law_take (fCons (fC (.int 2)) fNil)) (fC (.int 0))) [.mu q, a1, a2, a3, a4, .un, .fz (.int (0 + (k : Int)))] = some (g == 0, [.mu q1, a1, a2, a3, a4, .un, .fz (.int (0 + (k : Int)))]) := gVal_ok (fBin_ok e1 rfl dEq_int)
    have b1 : bName 6 (PyData.int (0 + (k : Int))) [.mu q, a1, a2, a3, a4, .un, .un] = some [.mu q, a1, a2, a3, a4, .un, .fz (.int (0 + (k : Int)))] := rfl
    have hz : (0 : Int) + (k : Int) = k := by omega
    cases hg : g == 0 with
    | true =>
      rw [hg] at t0
      refine ⟨(k : Int) :: is, q2, ?_, hq2, hs.cons_cons _⟩
      show ((bName 6 (PyData.int (0 + (k : Int))) _).bind fun ε1 => _) = _
      rw [b1]; simp only [Option.bind_some, t0, if_true]
      show ((some (PyData.int (0 + (k : Int)), [.mu q1, a1, a2, a3, a4, .un, .fz (.int (0 + (k : Int)))]) : Option (PyData × En)).bind fun p => (compF _ _ _ _ (ks.map fun (k : Nat) => PyData.int (0 + (k : Int))) (clr p.2 [6])).map fun r => (p.1 :: r.1, r.2)) = _
      rw [Option.bind_some]
      show ((compF _ _ _ _ (ks.map fun (k : Nat) => PyData.int (0 + (k : Int))) [.mu q1, a1, a2, a3, a4, .un, .un]).map fun r => (PyData.int (0 + (k : Int)) :: r.1, r.2)) = _
      rw [e2, hz]; rfl
    | false =>
      rw [hg] at t0
      refine ⟨is, q2, ?_, hq2, hs.cons _⟩
      show ((bName 6 (PyData.int (0 + (k : Int))) _).bind fun ε1 => _) = _
      rw [b1]; simp only [Option.bind_some, t0, Bool.false_eq_true, if_false]
      exact e2
theorem dIn_strs {a : Str} {bs : List Str} (ha : PyData.strOk a = true) (hb : ∀ b ∈ bs, PyData.strOk b = true) : dIn (.str a) (.tuple (bs.map PyData.str)) = some (.bool (bs.any fun b => b == a)) := by
  have key : ∀ bs : List Str, (∀ b ∈ bs, PyData.strOk b = true) → PyData.canLayAll0 (bs.map PyData.str) = true ∧ PyData.depthAll (bs.map PyData.str) = 0 := by
    intro bs
    induction bs with
    | nil => intro _; exact ⟨rfl, by simp [PyData.depthAll]⟩
    | cons b bs ih =>
      intro h
      obtain ⟨c, d⟩ := ih fun x hx => h x (List.mem_cons_of_mem _ hx)
      simp [PyData.canLayAll0, PyData.canLay0, PyData.depthAll, PyData.depth, c, d, h b (List.mem_cons_self ..)]
  obtain ⟨k1, k2⟩ := key bs hb
  have s2 : sh (.tuple (bs.map PyData.str)) = true := by
    simp only [sh, SeqAt.shaped, PyData.canLay0, PyData.depth, k1, k2, Bool.true_and]
    decide
  show (if sh (.str a) = true ∧ sh (.tuple (bs.map PyData.str)) = true then some (PyData.bool ((bs.map PyData.str).any fun z => PyData.eqv z (.str a))) else none) = _
  rw [if_pos ⟨shS ha, s2⟩, List.any_map]
  congr 3
def W11 : List Str := ["claim", "renew", "back", "carry", "copy", "lose", "fall", "rise", "part", "heal", "round"]
theorem w11_ok : (W11.all fun w => PyData.strOk w && nmB w) = true := by decide +kernel
theorem w11_get {g : Int} (g0 : 0 ≤ g) (g1 : g < 11) : ∃ w, w ∈ W11 ∧ okS w ∧ dIx (.list (W11.map PyData.str)) (.int g) = some (.str w) := by
  obtain ⟨n, rfl⟩ := Int.eq_ofNat_of_zero_le g0
  have hn : n < W11.length := by show n < 11; omega
  refine ⟨W11[n], List.getElem_mem hn, ?_, ?_⟩
  · have := w11_ok
    rw [List.all_eq_true] at this
    have := this _ (List.getElem_mem hn)
    rw [Bool.and_eq_true] at this
    exact this
  · show atI (W11.map PyData.str) (n : Int) = _
    unfold atI ixN
    rw [if_pos (by omega), if_pos (by rw [List.length_map]; omega)]
    show (some ((n : Int).toNat)).bind _ = _
    rw [Option.bind_some, Int.toNat_natCast, List.getElem?_map, List.getElem?_eq_getElem hn]; rfl
/-- what the law asks of a deed's word -/
structure Tests (w : Str) (a b c d e : Bool) : Prop where
  t1 : (w == "claim") = a
  t2 : ([("renew" : Str), "back"].any fun x => x == w) = b
  t3 : ([("carry" : Str), "copy", "lose"].any fun x => x == w) = c
  t4 : ([("fall" : Str), "rise"].any fun x => x == w) = d
  t5 : (w == "part") = e
def DT1 : Sf := (sIf (gVal (fBin dEq (fVar 4) (fC (.str "claim")))) (sRet (fCall dTup (fCons (fVar 4) (fCons (fVar 2) (fCons (fRow 0 1 M_law_name fNil) (fCons (fRow 0 1 M_law_name fNil) fNil)))))) sPass)
def DT2 : Sf := (sIf (gVal (fBin dIn (fVar 4) (fCall dTup (fCons (fC (.str "renew")) (fCons (fC (.str "back")) fNil))))) (sRet (fCall dTup (fCons (fVar 4) (fCons (fVar 2) (fCons (fRow 0 1 M_law_name fNil) fNil))))) sPass)
def DT3 : Sf := (sIf (gVal (fBin dIn (fVar 4) (fCall dTup (fCons (fC (.str "carry")) (fCons (fC (.str "copy")) (fCons (fC (.str "lose")) fNil)))))) (sRet (fCall dTup (fCons (fVar 4) (fCons (fRow 0 2 M_law_number (fCons (fC (.int 0)) fNil)) fNil)))) sPass)
def DT4 : Sf := (sIf (gVal (fBin dIn (fVar 4) (fCall dTup (fCons (fC (.str "fall")) (fCons (fC (.str "rise")) fNil))))) (sRet (fCall dTup (fCons (fVar 4) (fCons (fVar 2) fNil)))) sPass)
def DT5 : Sf := (sSeq (sAsg 5 (fCall dTupOf (fCons (fComp (fRng1 (fCons (fVar 1) fNil)) (bName 6) (gVal (fBin dEq (fRow 0 2 M_law_take (fCons (fC (.int 2)) fNil)) (fC (.int 0)))) (fVar 6) [6]) fNil)))
  (sSeq (sIf (gAnd (gVal (fBin dEq (fVar 4) (fC (.str "part")))) (gVal (fChain dLt dLt (fC (.int 0)) (fCall dLen (fCons (fVar 5) fNil)) (fVar 1)))) (sRet (fCall dTup (fCons (fVar 4) (fCons (fVar 5) fNil)))) sPass)
  (sRet (fBin dIx (fCall dLst (fCons (fCall dTup (fCons (fC (.str "heal")) fNil)) (fCons (fCall dTup (fCons (fC (.str "round")) fNil)) fNil))) (fRow 0 2 M_law_take (fCons (fC (.int 2)) fNil))))))
def ED47 (r : PyData) (m h : Int) (w : Str) : En := [.mu r, .fz (.int m), .fz (.int h), .fz (.list (W11.map PyData.str)), .fz (.str w), .un, .un]
theorem t_eq {w v : Str} {b : Bool} {ε : En} (hw : okS w) (hv : PyData.strOk v = true) (h : (w == v) = b) (h4 : fVar 4 ε = some (.str w, ε)) : gVal (fBin dEq (fVar 4) (fC (.str v))) ε = some (b, ε) := gVal_ok (fBin_ok h4 rfl (by rw [dEqS hw.1 hv, h]))
theorem gr_claim {m h : Int} (h0 : 0 ≤ h) (h1 : h < m) {x y : Str} (hx : okS x) (hy : okS y) : GR deedKinds m "claim" [.num h, .nm x, .nm y] := by
  refine ⟨by unfold okS; decide +kernel, ["house", "name", "name"], by decide +kernel, rfl, by simp, fun t ht => ?_⟩
  simp only [List.zip_cons_cons, List.zip_nil_right, List.mem_cons, List.not_mem_nil, or_false] at ht
  rcases ht with rfl | rfl | rfl
  · exact .house h0 h1
  · exact .name hx
  · exact .name hy
theorem gr_hn {m h : Int} (h0 : 0 ≤ h) (h1 : h < m) {w x : Str} (hw : w = "renew" ∨ w = "back") (hx : okS x) : GR deedKinds m w [.num h, .nm x] := by
  refine ⟨by rcases hw with rfl | rfl <;> (unfold okS; decide +kernel), ["house", "name"], by rcases hw with rfl | rfl <;> decide +kernel, rfl, by simp, fun t ht => ?_⟩
  simp only [List.zip_cons_cons, List.zip_nil_right, List.mem_cons, List.not_mem_nil, or_false] at ht
  rcases ht with rfl | rfl
  · exact .house h0 h1
  · exact .name hx
theorem gr_place {m n : Int} (hn : numOk n) {w : Str} (hw : w = "carry" ∨ w = "copy" ∨ w = "lose") : GR deedKinds m w [.num n] := by
  refine ⟨by rcases hw with rfl | rfl | rfl <;> (unfold okS; decide +kernel), ["place"], by rcases hw with rfl | rfl | rfl <;> decide +kernel, rfl, by simp, fun t ht => ?_⟩
  simp only [List.zip_cons_cons, List.zip_nil_right, List.mem_cons, List.not_mem_nil, or_false] at ht
  subst ht
  exact .place hn
theorem gr_house {m h : Int} (h0 : 0 ≤ h) (h1 : h < m) {w : Str} (hw : w = "fall" ∨ w = "rise") : GR deedKinds m w [.num h] := by
  refine ⟨by rcases hw with rfl | rfl <;> (unfold okS; decide +kernel), ["house"], by rcases hw with rfl | rfl <;> decide +kernel, rfl, by simp, fun t ht => ?_⟩
  simp only [List.zip_cons_cons, List.zip_nil_right, List.mem_cons, List.not_mem_nil, or_false] at ht
  subst ht
  exact .house h0 h1
theorem gr_part {m : Int} {hs : List Int} (a : hs ≠ []) (b : (hs.length : Int) < m) (c : ∀ h ∈ hs, 0 ≤ h ∧ h < m) (d : risB hs = true) : GR deedKinds m "part" [.side hs] := by
  refine ⟨by unfold okS; decide +kernel, ["houses"], by decide +kernel, rfl, by simp, fun t ht => ?_⟩
  simp only [List.zip_cons_cons, List.zip_nil_right, List.mem_cons, List.not_mem_nil, or_false] at ht
  subst ht
  exact .houses a b c d
theorem gr_none {m : Int} {w : Str} (hw : w = "heal" ∨ w = "round") : GR deedKinds m w [] := by
  refine ⟨by rcases hw with rfl | rfl <;> (unfold okS; decide +kernel), [], by rcases hw with rfl | rfl <;> decide +kernel, rfl, by simp, fun t ht => ?_⟩
  simp at ht
abbrev DeedOut (m : Int) (o : Option (PyData × PyData)) : Prop := ∃ w ps r', o = some (rowD (.nm w :: ps), r') ∧ GR deedKinds m w ps ∧ PotOk r'
theorem dt5_ok {r : PyData} (hr : PotOk r) {m h : Int} (m0 : 1 ≤ m) (m1 : m ≤ 7) {w : Str} (hw : okS w) : DeedOut m (outR (DT5 (ED47 r m h w))) := by
  obtain ⟨is, r1, e1, hr1, hs⟩ := sub_comp (a1 := .fz (.int m)) (a2 := .fz (.int h)) (a3 := .fz (.list (W11.map PyData.str))) (a4 := .fz (.str w)) (List.range m.toNat) r hr
  have hd : dR m = true := by simp only [dR, Bool.and_eq_true, decide_eq_true_eq]; omega
  have hl : is.length ≤ m.toNat := by have := hs.length_le; simpa using this
  have st1 : sAsg 5 (fCall dTupOf (fCons (fComp (fRng1 (fCons (fVar 1) fNil)) (bName 6) (gVal (fBin dEq (fRow 0 2 M_law_take (fCons (fC (.int 2)) fNil)) (fC (.int 0)))) (fVar 6) [6]) fNil)) (ED47 r m h w) = some (.nx [.mu r1, .fz (.int m), .fz (.int h), .fz (.list (W11.map PyData.str)), .fz (.str w), .fz (.tuple (is.map PyData.int)), .un]) :=
    asg47 (fCall_ok (fCons_ok (fComp_ok (fRng1_ok (fCons_ok rfl rfl) hd) e1 (by rw [List.length_map]; exact sizeLine_big (by omega))) rfl) rfl) rfl
  have hmem : ∀ i ∈ is, 0 ≤ i ∧ i < m := fun i hi => by
    obtain ⟨k, hk, rfl⟩ := List.mem_map.mp (hs.subset hi)
    have := List.mem_range.mp hk
    omega
  have hris : risB is = true := by
    rw [risB_iff]
    refine List.Pairwise.sublist hs ?_
    rw [List.pairwise_map]
    exact List.pairwise_lt_range.imp fun h => by omega
  obtain ⟨g, r2, e2, g0, g1, hr2⟩ := drawP (ε := [.mu r1, .fz (.int m), .fz (.int h), .fz (.list (W11.map PyData.str)), .fz (.str w), .fz (.tuple (is.map PyData.int)), .un]) 0 rfl hr1 (m := 2) (by decide) (by decide) (fm := fC (.int 2)) rfl
  obtain ⟨w2, hw2, e3⟩ : ∃ w2 : Str, (w2 = "heal" ∨ w2 = "round") ∧ dIx (.list [.tuple [.str "heal"], .tuple [.str "round"]]) (.int g) = some (rowD [.nm w2]) := by
    have : g = 0 ∨ g = 1 := by omega
    rcases this with rfl | rfl
    · exact ⟨"heal", .inl rfl, rfl⟩
    · exact ⟨"round", .inr rfl, rfl⟩
  have last : (sRet (fBin dIx (fCall dLst (fCons (fCall dTup (fCons (fC (.str "heal")) fNil)) (fCons (fCall dTup (fCons (fC (.str "round")) fNil)) fNil))) (fRow 0 2 M_law_take (fCons (fC (.int 2)) fNil)))) [.mu r1, .fz (.int m), .fz (.int h), .fz (.list (W11.map PyData.str)), .fz (.str w), .fz (.tuple (is.map PyData.int)), .un] = some (.rt (rowD [.nm w2]) [.mu r2, .fz (.int m), .fz (.int h), .fz (.list (W11.map PyData.str)), .fz (.str w), .fz (.tuple (is.map PyData.int)), .un]) :=
    sRet_ok (fBin_ok (fCall_ok rfl (qdLst (by simp))) e2 e3)
  have done : ∀ {ga : Tf} {fa : Sf}, ga [.mu r1, .fz (.int m), .fz (.int h), .fz (.list (W11.map PyData.str)), .fz (.str w), .fz (.tuple (is.map PyData.int)), .un] = some (false, [.mu r1, .fz (.int m), .fz (.int h), .fz (.list (W11.map PyData.str)), .fz (.str w), .fz (.tuple (is.map PyData.int)), .un]) →
      DeedOut m (outR (sSeq (sAsg 5 (fCall dTupOf (fCons (fComp (fRng1 (fCons (fVar 1) fNil)) (bName 6) (gVal (fBin dEq (fRow 0 2 M_law_take (fCons (fC (.int 2)) fNil)) (fC (.int 0)))) (fVar 6) [6]) fNil))) (sSeq (sIf ga fa sPass) (sRet (fBin dIx (fCall dLst (fCons (fCall dTup (fCons (fC (.str "heal")) fNil)) (fCons (fCall dTup (fCons (fC (.str "round")) fNil)) fNil))) (fRow 0 2 M_law_take (fCons (fC (.int 2)) fNil))))) (ED47 r m h w))) := fun hg =>
    ⟨w2, [], r2, (congrArg outR (sSeq_nx st1 (sSeq_nx (sIf_f hg rfl) last))).trans rfl, gr_none hw2, hr2⟩
  unfold DT5
  cases hp : w == "part" with
  | false =>
    have te := t_eq (w := w) (v := "part") (b := false) (ε := [.mu r1, .fz (.int m), .fz (.int h), .fz (.list (W11.map PyData.str)), .fz (.str w), .fz (.tuple (is.map PyData.int)), .un]) hw (by decide +kernel) hp rfl
    exact done (gAnd_f te)
  | true =>
    have te := t_eq (w := w) (v := "part") (b := true) (ε := [.mu r1, .fz (.int m), .fz (.int h), .fz (.list (W11.map PyData.str)), .fz (.str w), .fz (.tuple (is.map PyData.int)), .un]) hw (by decide +kernel) hp rfl
    have hw' : w = "part" := by simpa using hp
    have ln : dLen [.tuple (is.map PyData.int)] = some (.int is.length) := by show some (PyData.int (is.map PyData.int).length) = _; rw [List.length_map]
    have ch : fChain dLt dLt (fC (.int 0)) (fCall dLen (fCons (fVar 5) fNil)) (fVar 1) [.mu r1, .fz (.int m), .fz (.int h), .fz (.list (W11.map PyData.str)), .fz (.str w), .fz (.tuple (is.map PyData.int)), .un] = some (.bool (decide (0 < (is.length : Int)) && decide ((is.length : Int) < m)), [.mu r1, .fz (.int m), .fz (.int h), .fz (.list (W11.map PyData.str)), .fz (.str w), .fz (.tuple (is.map PyData.int)), .un]) := by
      have c1 : fCall dLen (fCons (fVar 5) fNil) [.mu r1, .fz (.int m), .fz (.int h), .fz (.list (W11.map PyData.str)), .fz (.str w), .fz (.tuple (is.map PyData.int)), .un] = some (.int is.length, [.mu r1, .fz (.int m), .fz (.int h), .fz (.list (W11.map PyData.str)), .fz (.str w), .fz (.tuple (is.map PyData.int)), .un]) := fCall_ok rfl ln
      have d1 : dLt (.int 0) (.int is.length) = some (.bool (decide (0 < (is.length : Int)))) := rfl
      have d2 : dLt (.int is.length) (.int m) = some (.bool (decide ((is.length : Int) < m))) := rfl
      cases q : decide (0 < (is.length : Int)) with
      | false => rw [q] at d1; walk_at "ev"
      | true => rw [q] at d1; walk_at "ev"
    cases hq : (decide (0 < (is.length : Int)) && decide ((is.length : Int) < m)) with
    | false => rw [hq] at ch; exact done (gAnd_t te (gVal_ok ch))
    | true =>
      rw [hq] at ch
      rw [Bool.and_eq_true, decide_eq_true_eq, decide_eq_true_eq] at hq
      subst hw'
      exact ⟨"part", [.side is], r1, (congrArg outR (sSeq_nx st1 (sSeq_rt (sIf_t (gAnd_t te (gVal_ok ch)) (sRet_ok (fCall_ok (fCons_ok rfl (fCons_ok rfl rfl)) rfl)))))).trans rfl, gr_part (fun z => by rw [z] at hq; exact absurd hq.1 (by decide)) hq.2 hmem hris, hr1⟩
theorem w_one {w : Str} {vs : List Str} (h : (vs.any fun x => x == w) = true) : w ∈ vs := by
  rw [List.any_eq_true] at h
  obtain ⟨x, hx, e⟩ := h
  have : x = w := by simpa using e
  rw [← this]; exact hx
theorem any_deed_ok {r : PyData} (hr : PotOk r) {m : Int} (m0 : 1 ≤ m) (m1 : m ≤ 7) : DeedOut m (M_law_any_deed r [.int m]) := by
  obtain ⟨h, r1, e1, h0, h1, hr1⟩ := drawP (ε := [.mu r, .fz (.int m), .un, .un, .un, .un, .un]) 0 rfl hr (m := m) (by omega) (by omega) (fm := fVar 1) rfl
  obtain ⟨g, r2, e2, g0, g1, hr2⟩ := drawP (ε := [.mu r1, .fz (.int m), .fz (.int h), .fz (.list (W11.map PyData.str)), .un, .un, .un]) 0 rfl hr1 (m := 11) (by decide) (by decide) (fm := fC (.int 11)) rfl
  obtain ⟨w, hw, hok, e3⟩ := w11_get g0 g1
  rw [ap_law_any_deed]; unfold B_law_any_deed
  refine Eq.mpr (congrArg (DeedOut m) (congrArg outR (sSeq_nx (ε1 := [.mu r1, .fz (.int m), .fz (.int h), .un, .un, .un, .un]) (asg47 e1 rfl) (sSeq_nx (ε1 := [.mu r1, .fz (.int m), .fz (.int h), .fz (.list (W11.map PyData.str)), .un, .un, .un]) (asg47 (fCall_ok (ds := W11.map PyData.str) rfl (qdLst (by decide))) rfl) (sSeq_nx (ε1 := ED47 r2 m h w) (asg47 (fBin_ok rfl e2 e3) rfl) rfl))))) ?_
  show DeedOut m (outR (sSeq DT1 (sSeq DT2 (sSeq DT3 (sSeq DT4 DT5))) (ED47 r2 m h w)))
  have k1 := dIn_strs (a := w) (bs := ["renew", "back"]) hok.1 (by decide +kernel)
  have k2 := dIn_strs (a := w) (bs := ["carry", "copy", "lose"]) hok.1 (by decide +kernel)
  have k3 := dIn_strs (a := w) (bs := ["fall", "rise"]) hok.1 (by decide +kernel)
  cases t1 : w == "claim" with
  | true =>
    have t1' := t_eq (ε := ED47 r2 m h w) hok (show PyData.strOk "claim" = true by decide +kernel) t1 rfl
    obtain ⟨x, r3, e4, hx, hr3⟩ := name47_ok hr2
    obtain ⟨y, r4, e5, hy, hr4⟩ := name47_ok hr3
    have hw' : w = "claim" := by simpa using t1
    subst hw'
    refine ⟨"claim", [.num h, .nm x, .nm y], r4, ?_, gr_claim h0 h1 hx hy, hr4⟩
    exact (congrArg outR (sSeq_rt (sIf_t t1' (sRet_ok (fCall_ok (fCons_ok rfl (fCons_ok rfl (fCons_ok (fRow_ok (ε1 := ED47 r2 m h "claim") rfl rfl rfl rfl e4) (fCons_ok (fRow_ok (ε1 := ED47 r3 m h "claim") rfl rfl rfl rfl e5) rfl)))) rfl))))).trans rfl
  | false =>
    have t1' := t_eq (ε := ED47 r2 m h w) hok (show PyData.strOk "claim" = true by decide +kernel) t1 rfl
    have s1 : DT1 (ED47 r2 m h w) = some (.nx (ED47 r2 m h w)) := sIf_f t1' rfl
    cases t2 : [("renew" : Str), "back"].any fun x => x == w with
    | true =>
      rw [t2] at k1
      obtain ⟨x, r3, e4, hx, hr3⟩ := name47_ok hr2
      have hw' : w = "renew" ∨ w = "back" := by simpa using w_one t2
      refine ⟨w, [.num h, .nm x], r3, ?_, gr_hn h0 h1 hw' hx, hr3⟩
      exact (congrArg outR (sSeq_nx s1 (sSeq_rt (sIf_t (gVal_ok (fBin_ok rfl (fCall_ok rfl rfl) k1)) (sRet_ok (fCall_ok (fCons_ok rfl (fCons_ok rfl (fCons_ok (fRow_ok (ε1 := ED47 r2 m h w) rfl rfl rfl rfl e4) rfl))) rfl)))))).trans rfl
    | false =>
      rw [t2] at k1
      have s2 : DT2 (ED47 r2 m h w) = some (.nx (ED47 r2 m h w)) := sIf_f (gVal_ok (fBin_ok rfl (fCall_ok rfl rfl) k1)) rfl
      cases t3 : [("carry" : Str), "copy", "lose"].any fun x => x == w with
      | true =>
        rw [t3] at k2
        obtain ⟨n, r3, e4, hn, hr3⟩ := number47_ok hr2 (least := 0) (by decide) (by decide)
        have hw' : w = "carry" ∨ w = "copy" ∨ w = "lose" := by simpa using w_one t3
        refine ⟨w, [.num n], r3, ?_, gr_place hn hw', hr3⟩
        exact (congrArg outR (sSeq_nx s1 (sSeq_nx s2 (sSeq_rt (sIf_t (gVal_ok (fBin_ok rfl (fCall_ok rfl rfl) k2)) (sRet_ok (fCall_ok (fCons_ok rfl (fCons_ok (fRow_ok (ε1 := ED47 r2 m h w) rfl rfl rfl rfl e4) rfl)) rfl))))))).trans rfl
      | false =>
        rw [t3] at k2
        have s3 : DT3 (ED47 r2 m h w) = some (.nx (ED47 r2 m h w)) := sIf_f (gVal_ok (fBin_ok rfl (fCall_ok rfl rfl) k2)) rfl
        cases t4 : [("fall" : Str), "rise"].any fun x => x == w with
        | true =>
          rw [t4] at k3
          have hw' : w = "fall" ∨ w = "rise" := by simpa using w_one t4
          refine ⟨w, [.num h], r2, ?_, gr_house h0 h1 hw', hr2⟩
          exact (congrArg outR (sSeq_nx s1 (sSeq_nx s2 (sSeq_nx s3 (sSeq_rt (sIf_t (gVal_ok (fBin_ok rfl (fCall_ok rfl rfl) k3)) (sRet_ok (fCall_ok (fCons_ok rfl (fCons_ok rfl rfl)) rfl)))))))).trans rfl
        | false =>
          rw [t4] at k3
          have s4 : DT4 (ED47 r2 m h w) = some (.nx (ED47 r2 m h w)) := sIf_f (gVal_ok (fBin_ok rfl (fCall_ok rfl rfl) k3)) rfl
          have := dt5_ok hr2 (h := h) m0 m1 hok
          rw [show outR (sSeq DT1 (sSeq DT2 (sSeq DT3 (sSeq DT4 DT5))) (ED47 r2 m h w)) = outR (DT5 (ED47 r2 m h w)) from congrArg outR (sSeq_nx s1 (sSeq_nx s2 (sSeq_nx s3 (sSeq_nx s4 rfl))))]
          exact this
theorem seq_stepR {a b : Sf} {ε ε1 : En} {o : Option (PyData × PyData)} (h : a ε = some (.nx ε1)) (h2 : outR (b ε1) = o) : outR (sSeq a b ε) = o := by
  subst h2
  unfold sSeq
  rw [h]
  rfl
theorem ge_ask {m : Int} {x p : Str} {n u : Int} (hx : okS x) (hn : numOk n) (n1 : 1 ≤ n) (hp : okS p) (hu : numOk u) (u1 : 1 ≤ u) : GR entKinds m "ask" [.nm x, .num n, .nm p, .num u] := by
  refine ⟨by unfold okS; decide +kernel, ["name", "number", "name", "number"], by decide +kernel, rfl, by simp, fun t ht => ?_⟩
  simp only [List.zip_cons_cons, List.zip_nil_right, List.mem_cons, List.not_mem_nil, or_false] at ht
  rcases ht with rfl | rfl | rfl | rfl
  · exact .name hx
  · exact .number hn n1
  · exact .name hp
  · exact .number hu u1
theorem ge_got {m h : Int} {x : Str} {n u : Int} (hx : okS x) (hn : numOk n) (n1 : 1 ≤ n) (h0 : 0 ≤ h) (h1 : h < m) (hu : numOk u) (u1 : 1 ≤ u) : GR entKinds m "got" [.nm x, .num n, .num h, .num u] := by
  refine ⟨by unfold okS; decide +kernel, ["name", "number", "house", "number"], by decide +kernel, rfl, by simp, fun t ht => ?_⟩
  simp only [List.zip_cons_cons, List.zip_nil_right, List.mem_cons, List.not_mem_nil, or_false] at ht
  rcases ht with rfl | rfl | rfl | rfl
  · exact .name hx
  · exact .number hn n1
  · exact .house h0 h1
  · exact .number hu u1
theorem ge_no {m h : Int} {x : Str} {n : Int} (hx : okS x) (hn : numOk n) (n1 : 1 ≤ n) (h0 : 0 ≤ h) (h1 : h < m) : GR entKinds m "no" [.nm x, .num n, .num h] := by
  refine ⟨by unfold okS; decide +kernel, ["name", "number", "house"], by decide +kernel, rfl, by simp, fun t ht => ?_⟩
  simp only [List.zip_cons_cons, List.zip_nil_right, List.mem_cons, List.not_mem_nil, or_false] at ht
  rcases ht with rfl | rfl | rfl
  · exact .name hx
  · exact .number hn n1
  · exact .house h0 h1
theorem ge_back {m : Int} {x : Str} {n : Int} (hx : okS x) (hn : numOk n) (n1 : 1 ≤ n) : GR entKinds m "back" [.nm x, .num n] := by
  refine ⟨by unfold okS; decide +kernel, ["name", "number"], by decide +kernel, rfl, by simp, fun t ht => ?_⟩
  simp only [List.zip_cons_cons, List.zip_nil_right, List.mem_cons, List.not_mem_nil, or_false] at ht
  rcases ht with rfl | rfl
  · exact .name hx
  · exact .number hn n1
theorem ge_word {m h : Int} {x : Str} {n u : Int} (hx : okS x) (hn : numOk n) (n1 : 1 ≤ n) (h0 : 0 ≤ h) (h1 : h < m) (hu : numOk u) (u1 : 1 ≤ u) : GR entKinds m "word" [.nm x, .num h, .num n, .num u] := by
  refine ⟨by unfold okS; decide +kernel, ["name", "house", "number", "number"], by decide +kernel, rfl, by simp, fun t ht => ?_⟩
  simp only [List.zip_cons_cons, List.zip_nil_right, List.mem_cons, List.not_mem_nil, or_false] at ht
  rcases ht with rfl | rfl | rfl | rfl
  · exact .name hx
  · exact .house h0 h1
  · exact .number hn n1
  · exact .number hu u1
theorem ge_free {m h : Int} {x : Str} {n : Int} (hx : okS x) (hn : numOk n) (n1 : 1 ≤ n) (h0 : 0 ≤ h) (h1 : h < m) : GR entKinds m "free" [.nm x, .num h, .num n] := by
  refine ⟨by unfold okS; decide +kernel, ["name", "house", "number"], by decide +kernel, rfl, by simp, fun t ht => ?_⟩
  simp only [List.zip_cons_cons, List.zip_nil_right, List.mem_cons, List.not_mem_nil, or_false] at ht
  rcases ht with rfl | rfl | rfl
  · exact .name hx
  · exact .house h0 h1
  · exact .number hn n1
theorem max1 {n : Int} (h : numOk n) : ∃ u, dMax [.int 1, .int n] = some (.int u) ∧ numOk u ∧ 1 ≤ u := by
  obtain ⟨a, b⟩ := h
  by_cases hc : n > 1
  · exact ⟨n, by rw [qMax2, if_pos hc], ⟨a, b⟩, by omega⟩
  · exact ⟨1, by rw [qMax2, if_neg hc], ⟨by decide, by decide⟩, by decide⟩
theorem pick_row {P : List Pt → Prop} {rs : List (List Pt)} (h : ∀ r ∈ rs, P r) {g : Int} (g0 : 0 ≤ g) (g1 : g < rs.length) : ∃ r, atI (rs.map rowD) g = some (rowD r) ∧ P r := by
  obtain ⟨n, rfl⟩ := Int.eq_ofNat_of_zero_le g0
  have hn : n < rs.length := by omega
  refine ⟨rs[n], ?_, h _ (List.getElem_mem hn)⟩
  unfold atI ixN
  rw [if_pos (by omega), if_pos (by rw [List.length_map]; omega)]
  show (some ((n : Int).toNat)).bind _ = _
  rw [Option.bind_some, Int.toNat_natCast, List.getElem?_map, List.getElem?_eq_getElem hn]; rfl
abbrev EntOk (m : Int) (r : List Pt) : Prop := ∃ w ps, r = .nm w :: ps ∧ GR entKinds m w ps
theorem any_entry_ok {r : PyData} (hr : PotOk r) {m : Int} (m0 : 1 ≤ m) (m1 : m ≤ 7) : ∃ q r', M_law_any_entry r [.int m] = some (rowD q, r') ∧ EntOk m q ∧ PotOk r' := by
  obtain ⟨h, r1, e1, h0, h1, hr1⟩ := drawP (ε := [.mu r, .fz (.int m), .un, .un, .un, .un, .un]) 0 rfl hr (m := m) (by omega) (by omega) (fm := fVar 1) rfl
  obtain ⟨x, r2, e2, hx, hr2⟩ := name47_ok hr1
  obtain ⟨n', r3, e3, hn', hr3⟩ := number47_ok hr2 (least := 1) (by decide) (by decide)
  obtain ⟨n, e4, hn, n1⟩ := max1 hn'
  obtain ⟨u', r4, e5, hu', hr4⟩ := number47_ok hr3 (least := 1) (by decide) (by decide)
  obtain ⟨u, e6, hu, u1⟩ := max1 hu'
  obtain ⟨p, r5, e7, hp, hr5⟩ := name47_ok hr4
  obtain ⟨g, r6, e8, g0, g1, hr6⟩ := drawP (ε := [.mu r5, .fz (.int m), .fz (.int h), .fz (.str x), .fz (.int n), .fz (.int u), .mu (.list ([[.nm "ask", .nm x, .num n, .nm p, .num u], [.nm "got", .nm x, .num n, .num h, .num u], [.nm "no", .nm x, .num n, .num h], [.nm "back", .nm x, .num n], [.nm "word", .nm x, .num h, .num n, .num u], [.nm "free", .nm x, .num h, .num n]].map rowD))]) 0 rfl hr5 (m := 6) (by decide) (by decide) (fm := fC (.int 6)) rfl
  obtain ⟨q, e9, hq⟩ := pick_row (P := EntOk m) (rs := [[.nm "ask", .nm x, .num n, .nm p, .num u], [.nm "got", .nm x, .num n, .num h, .num u], [.nm "no", .nm x, .num n, .num h], [.nm "back", .nm x, .num n], [.nm "word", .nm x, .num h, .num n, .num u], [.nm "free", .nm x, .num h, .num n]]) (fun r hr => by
    simp only [List.mem_cons, List.not_mem_nil, or_false] at hr
    rcases hr with rfl | rfl | rfl | rfl | rfl | rfl
    · exact ⟨_, _, rfl, ge_ask hx hn n1 hp hu u1⟩
    · exact ⟨_, _, rfl, ge_got hx hn n1 h0 h1 hu u1⟩
    · exact ⟨_, _, rfl, ge_no hx hn n1 h0 h1⟩
    · exact ⟨_, _, rfl, ge_back hx hn n1⟩
    · exact ⟨_, _, rfl, ge_word hx hn n1 h0 h1 hu u1⟩
    · exact ⟨_, _, rfl, ge_free hx hn n1 h0 h1⟩) g0 g1
  have stF : sAppM 6 (fCall dTup (fCons (fC (.str "free")) (fCons (fVar 3) (fCons (fVar 2) (fCons (fVar 4) fNil))))) [.mu r5, .fz (.int m), .fz (.int h), .fz (.str x), .fz (.int n), .fz (.int u), .mu (.list ([[.nm "ask", .nm x, .num n, .nm p, .num u], [.nm "got", .nm x, .num n, .num h, .num u], [.nm "no", .nm x, .num n, .num h], [.nm "back", .nm x, .num n], [.nm "word", .nm x, .num h, .num n, .num u]].map rowD))] = some (.nx [.mu r5, .fz (.int m), .fz (.int h), .fz (.str x), .fz (.int n), .fz (.int u), .mu (.list ([[.nm "ask", .nm x, .num n, .nm p, .num u], [.nm "got", .nm x, .num n, .num h, .num u], [.nm "no", .nm x, .num n, .num h], [.nm "back", .nm x, .num n], [.nm "word", .nm x, .num h, .num n, .num u], [.nm "free", .nm x, .num h, .num n]].map rowD))]) := by
    rw [sAppM_ok (es := ([[.nm "ask", .nm x, .num n, .nm p, .num u], [.nm "got", .nm x, .num n, .num h, .num u], [.nm "no", .nm x, .num n, .num h], [.nm "back", .nm x, .num n], [.nm "word", .nm x, .num h, .num n, .num u]].map rowD)) (ds := ([[.nm "ask", .nm x, .num n, .nm p, .num u], [.nm "got", .nm x, .num n, .num h, .num u], [.nm "no", .nm x, .num n, .num h], [.nm "back", .nm x, .num n], [.nm "word", .nm x, .num h, .num n, .num u]].map rowD)) (d := rowD [.nm "free", .nm x, .num h, .num n]) rfl (fCall_ok (ds := [.str "free", .str x, .int h, .int n]) rfl rfl) rfl (sizeLine_lt (show (5 : Nat) < 100000 by decide))]; rfl
  refine ⟨q, r6, ?_, hq, hr6⟩
  rw [ap_law_any_entry]; unfold B_law_any_entry
  refine (congrArg outR (sSeq_nx (ε1 := [.mu r1, .fz (.int m), .fz (.int h), .un, .un, .un, .un]) (asg47 e1 rfl) (sSeq_nx (ε1 := [.mu r2, .fz (.int m), .fz (.int h), .fz (.str x), .un, .un, .un]) (asg47 (fRow_ok (ε1 := [.mu r1, .fz (.int m), .fz (.int h), .un, .un, .un, .un]) rfl rfl rfl rfl e2) rfl)
    (sSeq_nx (ε1 := [.mu r3, .fz (.int m), .fz (.int h), .fz (.str x), .fz (.int n), .un, .un]) (asg47 (fCall_ok (fCons_ok rfl (fCons_ok (fRow_ok (ε1 := [.mu r2, .fz (.int m), .fz (.int h), .fz (.str x), .un, .un, .un]) rfl (fCons_ok rfl rfl) rfl rfl e3) rfl)) e4) rfl)
    (sSeq_nx (ε1 := [.mu r4, .fz (.int m), .fz (.int h), .fz (.str x), .fz (.int n), .fz (.int u), .un]) (asg47 (fCall_ok (fCons_ok rfl (fCons_ok (fRow_ok (ε1 := [.mu r3, .fz (.int m), .fz (.int h), .fz (.str x), .fz (.int n), .un, .un]) rfl (fCons_ok rfl rfl) rfl rfl e5) rfl)) e6) rfl)
    (sSeq_nx (ε1 := [.mu r5, .fz (.int m), .fz (.int h), .fz (.str x), .fz (.int n), .fz (.int u), .mu (.list ([[.nm "ask", .nm x, .num n, .nm p, .num u], [.nm "got", .nm x, .num n, .num h, .num u]].map rowD))]) ?_
    (sSeq_nx (ε1 := [.mu r5, .fz (.int m), .fz (.int h), .fz (.str x), .fz (.int n), .fz (.int u), .mu (.list ([[.nm "ask", .nm x, .num n, .nm p, .num u], [.nm "got", .nm x, .num n, .num h, .num u], [.nm "no", .nm x, .num n, .num h], [.nm "back", .nm x, .num n], [.nm "word", .nm x, .num h, .num n, .num u]].map rowD))]) rfl
    (sSeq_nx (ε1 := [.mu r5, .fz (.int m), .fz (.int h), .fz (.str x), .fz (.int n), .fz (.int u), .mu (.list ([[.nm "ask", .nm x, .num n, .nm p, .num u], [.nm "got", .nm x, .num n, .num h, .num u], [.nm "no", .nm x, .num n, .num h], [.nm "back", .nm x, .num n], [.nm "word", .nm x, .num h, .num n, .num u], [.nm "free", .nm x, .num h, .num n]].map rowD))]) stF
    (sRet_ok (fIxM_ok rfl e8 rfl e9)))))))))).trans rfl
  exact sAsgM_ok (ε1 := [.mu r5, .fz (.int m), .fz (.int h), .fz (.str x), .fz (.int n), .fz (.int u), .un]) (fCall_ok (fCons_ok (fCall_ok (fCons_ok rfl (fCons_ok rfl (fCons_ok rfl (fCons_ok (fRow_ok (ε1 := [.mu r4, .fz (.int m), .fz (.int h), .fz (.str x), .fz (.int n), .fz (.int u), .un]) rfl rfl rfl rfl e7) (fCons_ok rfl rfl))))) rfl) (fCons_ok rfl rfl)) (qdLst (by simp)))
def SB47 : Sf := (sClr [3, 4, 5, 6, 7] (sSeq (sAsg 4 (fBin dAdd (fBin dIx (fC (.str "abz")) (fRow 0 2 M_law_take (fCons (fC (.int 3)) fNil))) (fBin dIx (fCall dLst (fCons (fC (.str "")) (fCons (fC (.str "a")) (fCons (fC (.str "z")) fNil)))) (fRow 0 2 M_law_take (fCons (fC (.int 3)) fNil)))))
  (sSeq (sAsg 5 (fBin dAdd (fC (.int 1)) (fRow 0 2 M_law_take (fCons (fC (.int 9)) fNil))))
  (sSeq (sAsg 6 (fRow 0 2 M_law_take (fCons (fVar 1) fNil)))
  (sSeq (sAsgM 7 (fCall dLst (fCons (fCall dTup (fCons (fC (.str "back")) (fCons (fVar 4) (fCons (fVar 5) fNil)))) (fCons (fCall dTup (fCons (fC (.str "free")) (fCons (fVar 4) (fCons (fVar 6) (fCons (fVar 5) fNil))))) (fCons (fCall dTup (fCons (fC (.str "no")) (fCons (fVar 4) (fCons (fVar 5) (fCons (fVar 6) fNil))))) fNil)))))
  (sSeq (sAppM 7 (fCall dTup (fCons (fC (.str "word")) (fCons (fVar 4) (fCons (fVar 6) (fCons (fVar 5) (fCons (fBin dAdd (fC (.int 1)) (fRow 0 2 M_law_take (fCons (fC (.int 9)) fNil))) fNil)))))))
  (sAppM 2 (fIxM 7 (fRow 0 2 M_law_take (fCons (fC (.int 4)) fNil))))))))))
theorem abz_at {v : Int} (v0 : 0 ≤ v) (v1 : v < 3) : ∃ a : Str, dIx (.str "abz") (.int v) = some (.str a) ∧ (a = "a" ∨ a = "b" ∨ a = "z") := by
  have : v = 0 ∨ v = 1 ∨ v = 2 := by omega
  rcases this with rfl | rfl | rfl
  · exact ⟨"a", rfl, .inl rfl⟩
  · exact ⟨"b", rfl, .inr (.inl rfl)⟩
  · exact ⟨"z", rfl, .inr (.inr rfl)⟩
theorem eaz_at {v : Int} (v0 : 0 ≤ v) (v1 : v < 3) : ∃ a : Str, dIx (.list [.str "", .str "a", .str "z"]) (.int v) = some (.str a) ∧ (a = "" ∨ a = "a" ∨ a = "z") := by
  have : v = 0 ∨ v = 1 ∨ v = 2 := by omega
  rcases this with rfl | rfl | rfl
  · exact ⟨"", rfl, .inl rfl⟩
  · exact ⟨"a", rfl, .inr (.inl rfl)⟩
  · exact ⟨"z", rfl, .inr (.inr rfl)⟩
theorem az_cat {a b : Str} (ha : a = "a" ∨ a = "b" ∨ a = "z") (hb : b = "" ∨ b = "a" ∨ b = "z") : ∃ nm, dAdd (.str a) (.str b) = some (.str nm) ∧ okS nm := by
  rcases ha with rfl | rfl | rfl <;> rcases hb with rfl | rfl | rfl <;> exact ⟨_, rfl, by unfold okS; decide +kernel⟩
def ES47 (r : PyData) (m : Int) (rs : List (List Pt)) (k x y z w : Sl) : En := [.mu r, .fz (.int m), .mu (.list (rs.map rowD)), k, x, y, z, w]
theorem short_turn {r : PyData} (hr : PotOk r) {m : Int} (m0 : 1 ≤ m) (m1 : m ≤ 7) {rs : List (List Pt)} (hl : rs.length ≤ 900) (d : PyData) : ∃ q r', (bName 3 d (ES47 r m rs .un .un .un .un .un)).bind SB47 = some (.nx (ES47 r' m (rs ++ [q]) .un .un .un .un .un)) ∧ EntOk m q ∧ PotOk r' := by
  have b1 : bName 3 d (ES47 r m rs .un .un .un .un .un) = some (ES47 r m rs (.fz d) .un .un .un .un) := rfl
  rw [b1, Option.bind_some]
  obtain ⟨a, r1, e1, a0, a1, hr1⟩ := drawP (ε := ES47 r m rs (.fz d) .un .un .un .un) 0 rfl hr (m := 3) (by decide) (by decide) (fm := fC (.int 3)) rfl
  obtain ⟨s, e2, hs⟩ := abz_at a0 a1
  obtain ⟨b, r2, e3, c0, c1, hr2⟩ := drawP (ε := ES47 r1 m rs (.fz d) .un .un .un .un) 0 rfl hr1 (m := 3) (by decide) (by decide) (fm := fC (.int 3)) rfl
  obtain ⟨t, e4, ht⟩ := eaz_at c0 c1
  obtain ⟨x, e5, hx⟩ := az_cat hs ht
  obtain ⟨v, r3, e6, v0, v1, hr3⟩ := drawP (ε := ES47 r2 m rs (.fz d) (.fz (.str x)) .un .un .un) 0 rfl hr2 (m := 9) (by decide) (by decide) (fm := fC (.int 9)) rfl
  have n0 : numOk (1 + v) := ⟨by omega, by omega⟩
  have n1 : 1 ≤ 1 + v := by omega
  have st2 : sAsg 5 (fBin dAdd (fC (.int 1)) (fRow 0 2 M_law_take (fCons (fC (.int 9)) fNil))) (ES47 r2 m rs (.fz d) (.fz (.str x)) .un .un .un) = some (.nx (ES47 r3 m rs (.fz d) (.fz (.str x)) (.fz (.int (1 + v))) .un .un)) := asg47 (fBin_ok rfl e6 rfl) rfl
  generalize 1 + v = n at n0 n1 st2
  obtain ⟨h, r4, e7, h0, h1, hr4⟩ := drawP (ε := ES47 r3 m rs (.fz d) (.fz (.str x)) (.fz (.int n)) .un .un) 0 rfl hr3 (m := m) (by omega) (by omega) (fm := fVar 1) rfl
  obtain ⟨w, r5, e8, w0, w1, hr5⟩ := drawP (ε := ES47 r4 m rs (.fz d) (.fz (.str x)) (.fz (.int n)) (.fz (.int h)) (.mu (.list ([[.nm "back", .nm x, .num n], [.nm "free", .nm x, .num h, .num n], [.nm "no", .nm x, .num n, .num h]].map rowD)))) 0 rfl hr4 (m := 9) (by decide) (by decide) (fm := fC (.int 9)) rfl
  have u0 : numOk (1 + w) := ⟨by omega, by omega⟩
  have u1 : 1 ≤ 1 + w := by omega
  have st5 : sAppM 7 (fCall dTup (fCons (fC (.str "word")) (fCons (fVar 4) (fCons (fVar 6) (fCons (fVar 5) (fCons (fBin dAdd (fC (.int 1)) (fRow 0 2 M_law_take (fCons (fC (.int 9)) fNil))) fNil)))))) (ES47 r4 m rs (.fz d) (.fz (.str x)) (.fz (.int n)) (.fz (.int h)) (.mu (.list ([[.nm "back", .nm x, .num n], [.nm "free", .nm x, .num h, .num n], [.nm "no", .nm x, .num n, .num h]].map rowD)))) = some (.nx (ES47 r5 m rs (.fz d) (.fz (.str x)) (.fz (.int n)) (.fz (.int h)) (.mu (.list ([[.nm "back", .nm x, .num n], [.nm "free", .nm x, .num h, .num n], [.nm "no", .nm x, .num n, .num h], [.nm "word", .nm x, .num h, .num n, .num (1 + w)]].map rowD))))) :=
    by
    rw [sAppM_ok (es := ([[.nm "back", .nm x, .num n], [.nm "free", .nm x, .num h, .num n], [.nm "no", .nm x, .num n, .num h]].map rowD)) (ds := ([[.nm "back", .nm x, .num n], [.nm "free", .nm x, .num h, .num n], [.nm "no", .nm x, .num n, .num h]].map rowD)) (d := rowD [.nm "word", .nm x, .num h, .num n, .num (1 + w)]) rfl (fCall_ok (ds := [.str "word", .str x, .int h, .int n, .int (1 + w)]) (fCons_ok rfl (fCons_ok rfl (fCons_ok rfl (fCons_ok rfl (fCons_ok (fBin_ok rfl e8 rfl) rfl))))) rfl) rfl (sizeLine_lt (show (3 : Nat) < 100000 by decide))]; rfl
  generalize 1 + w = u at u0 u1 st5
  obtain ⟨g, r6, e9, g0, g1, hr6⟩ := drawP (ε := ES47 r5 m rs (.fz d) (.fz (.str x)) (.fz (.int n)) (.fz (.int h)) (.mu (.list ([[.nm "back", .nm x, .num n], [.nm "free", .nm x, .num h, .num n], [.nm "no", .nm x, .num n, .num h], [.nm "word", .nm x, .num h, .num n, .num u]].map rowD)))) 0 rfl hr5 (m := 4) (by decide) (by decide) (fm := fC (.int 4)) rfl
  obtain ⟨q, e10, hq⟩ := pick_row (P := EntOk m) (rs := [[.nm "back", .nm x, .num n], [.nm "free", .nm x, .num h, .num n], [.nm "no", .nm x, .num n, .num h], [.nm "word", .nm x, .num h, .num n, .num u]]) (fun r hr => by
    simp only [List.mem_cons, List.not_mem_nil, or_false] at hr
    rcases hr with rfl | rfl | rfl | rfl
    · exact ⟨_, _, rfl, ge_back hx n0 n1⟩
    · exact ⟨_, _, rfl, ge_free hx n0 n1 h0 h1⟩
    · exact ⟨_, _, rfl, ge_no hx n0 n1 h0 h1⟩
    · exact ⟨_, _, rfl, ge_word hx n0 n1 h0 h1 u0 u1⟩) g0 g1
  refine ⟨q, r6, ?_, hq, hr6⟩
  have st6 : sAppM 2 (fIxM 7 (fRow 0 2 M_law_take (fCons (fC (.int 4)) fNil))) (ES47 r5 m rs (.fz d) (.fz (.str x)) (.fz (.int n)) (.fz (.int h)) (.mu (.list ([[.nm "back", .nm x, .num n], [.nm "free", .nm x, .num h, .num n], [.nm "no", .nm x, .num n, .num h], [.nm "word", .nm x, .num h, .num n, .num u]].map rowD)))) = some (.nx (ES47 r6 m (rs ++ [q]) (.fz d) (.fz (.str x)) (.fz (.int n)) (.fz (.int h)) (.mu (.list ([[.nm "back", .nm x, .num n], [.nm "free", .nm x, .num h, .num n], [.nm "no", .nm x, .num n, .num h], [.nm "word", .nm x, .num h, .num n, .num u]].map rowD))))) := by
    rw [sAppM_ok (es := rs.map rowD) (ds := rs.map rowD) rfl (fIxM_ok rfl e9 rfl e10) rfl (by rw [List.length_map]; exact sizeLine_lt (by omega))]
    unfold ES47
    rw [List.map_append]; rfl
  exact (clr47 (sSeq_nx (ε1 := ES47 r2 m rs (.fz d) (.fz (.str x)) .un .un .un) (asg47 (fBin_ok (fBin_ok rfl e1 e2) (fBin_ok (fCall_ok rfl (qdLst (by simp))) e3 e4) e5) rfl) (sSeq_nx st2 (sSeq_nx (ε1 := ES47 r4 m rs (.fz d) (.fz (.str x)) (.fz (.int n)) (.fz (.int h)) .un) (asg47 e7 rfl)
    (sSeq_nx (ε1 := ES47 r4 m rs (.fz d) (.fz (.str x)) (.fz (.int n)) (.fz (.int h)) (.mu (.list ([[.nm "back", .nm x, .num n], [.nm "free", .nm x, .num h, .num n], [.nm "no", .nm x, .num n, .num h]].map rowD)))) rfl (sSeq_nx st5 st6)))))).trans rfl
theorem short_ok {r : PyData} (hr : PotOk r) {m : Int} (m0 : 1 ≤ m) (m1 : m ≤ 7) : ∃ rs r', M_law_short_log r [.int m] = some (logRD rs, r') ∧ LogOk m rs ∧ rs.length ≤ 1000 ∧ PotOk r' := by
  obtain ⟨v, r1, e1, v0, v1, hr1⟩ := drawP (ε := ES47 r m [] .un .un .un .un .un) 0 rfl hr (m := 101) (by decide) (by decide) (fm := fC (.int 101)) rfl
  obtain ⟨k, rfl⟩ := Int.eq_ofNat_of_zero_le v0
  have lp := loop_ex (bind := bName 3) (f := SB47) (fun (j : Nat) => PyData.int (0 + (j : Int))) (fun b : List (List Pt) × PyData => ES47 b.2 m b.1 .un .un .un .un .un) (fun n b => LogOk m b.1 ∧ b.1.length + n ≤ 300 ∧ PotOk b.2) (List.range (100 + k)) ([], r1) ⟨fun _ h => (nomatch h), by rw [List.length_range]; show 0 + (100 + k) ≤ 300; omega, hr1⟩ (by
    rintro j _ n ⟨rs, q⟩ ⟨h1, h2, h3⟩
    simp only at h1 h2 h3
    obtain ⟨x, q', e, hx, hq'⟩ := short_turn h3 m0 m1 (rs := rs) (by omega) (.int (0 + (j : Int)))
    refine ⟨(rs ++ [x], q'), ⟨fun y hy => ?_, by show (rs ++ [x]).length + n ≤ 300; rw [List.length_append]; show rs.length + 1 + n ≤ 300; omega, hq'⟩, e⟩
    rcases List.mem_append.mp hy with hy | hy
    · exact h1 y hy
    · rw [List.mem_singleton.mp hy]; exact hx)
  obtain ⟨⟨rs, r2⟩, ⟨h1, h2, h3⟩, e2⟩ := lp
  simp only at h1 h2 h3 e2
  refine ⟨rs, r2, ?_, h1, by omega, h3⟩
  have hd : dR (100 + (k : Int)) = true := by simp only [dR, Bool.and_eq_true, decide_eq_true_eq]; omega
  have hn : (100 + (k : Int)).toNat = 100 + k := by omega
  rw [ap_law_short_log]; unfold B_law_short_log
  refine seq_stepR (ε1 := ES47 r m [] .un .un .un .un .un) (sAsgM_ok (fCall_ok (fs := fNil) rfl (qdLst (ds := []) (by simp)))) (seq_stepR (ε1 := ES47 r2 m rs .un .un .un .un .un) ?_ rfl)
  have c0 : clr (ES47 r m [] .un .un .un .un .un) [3, 4, 5, 6, 7] = ES47 r m [] .un .un .un .un .un := rfl
  have rg : fRng1 (fCons (fBin dAdd (fC (.int 100)) (fRow 0 2 M_law_take (fCons (fC (.int 101)) fNil))) fNil) (ES47 r m [] .un .un .un .un .un) = some (rangeD 0 (100 + (k : Int)).toNat, ES47 r1 m [] .un .un .un .un .un) := fRng1_ok (fCons_ok (fBin_ok rfl e1 rfl) rfl) hd
  rw [qPre, qFor, c0, rg, hn]
  exact e2
def E47 (S : PyData) (k n : Int) (r : PyData) (m : Int) (x y : Sl) : En := [.fz S, .fz (.int k), .fz (.int n), .mu r, .fz (.int m), x, y]
def S3_47 : Sf := (sIf (gAnd (gVal (fBin dEq (fVar 1) (fC (.int 0)))) (gNot (gTru (fCall (gd 2 M_law_log_right) (fCons (fVar 4) (fCons (fRow 3 2 M_law_short_log (fCons (fVar 4) fNil)) fNil)))))) (sRet (fC (.bool false))) sPass)
def DB_47 : Sf := (sClr [5] (sIf (gNot (gTru (fCall (gd 2 M_law_deed_right) (fCons (fVar 4) (fCons (fRow 3 2 M_law_any_deed (fCons (fVar 4) fNil)) fNil))))) (sRet (fC (.bool false))) sPass))
def S5_47 : Sf := (sAsg 6 (fRow 3 2 M_law_take (fCons (fBin dIx (fCall dLst (fCons (fC (.int 13)) (fCons (fC (.int 50)) fNil))) (fCall dIntOf (fCons (fBin dEq (fRow 3 2 M_law_take (fCons (fC (.int 8)) fNil)) (fC (.int 0))) fNil))) fNil)))
def S6_47 : Sf := (sIf (gNot (gTru (fCall (gd 2 M_law_log_right) (fCons (fVar 4) (fCons (fCall dTupOf (fCons (fComp (fRng1 (fCons (fVar 6) fNil)) (bName 1) gYes (fRow 3 2 M_law_any_entry (fCons (fVar 4) fNil)) [1]) fNil)) fNil))))) (sRet (fC (.bool false))) sPass)
def CB_47 : Sf := (sClr [2, 1, 3, 4, 5, 6] (sSeq (sAsgM 3 (fCall (gd 1 M_law_pot) (fCons (fVar 2) fNil)))
  (sSeq (sAsg 4 (fBin dAdd (fC (.int 1)) (fRow 3 2 M_law_take (fCons (fC (.int 7)) fNil))))
  (sSeq S3_47 (sSeq (sPre [5] (sFor (fRng1 (fCons (fC (.int 6)) fNil)) (bName 5) DB_47)) (sSeq S5_47 S6_47))))))
theorem s3_47 {S : PyData} {k n : Int} {r : PyData} (hr : PotOk r) {m : Int} (m0 : 1 ≤ m) (m1 : m ≤ 7) : ∃ r', S3_47 (E47 S k n r m .un .un) = some (.nx (E47 S k n r' m .un .un)) ∧ PotOk r' := by
  obtain ⟨rs, r1, e1, h1, h2, hr1⟩ := short_ok hr m0 m1
  have e2 := log_right_eq m1 h1 h2
  have t0 : gVal (fBin dEq (fVar 1) (fC (.int 0))) (E47 S k n r m .un .un) = some (k == 0, E47 S k n r m .un .un) := gVal_ok (fBin_ok rfl rfl dEq_int)
  cases hk : k == 0 with
  | false => rw [hk] at t0; exact ⟨r, sIf_f (gAnd_f t0) rfl, hr⟩
  | true =>
    rw [hk] at t0
    exact ⟨r1, sIf_f (gAnd_t t0 (gNot47 (gTru_bool (fCall_ok (fCons_ok rfl (fCons_ok (fRow_ok (ε1 := E47 S k n r m .un .un) rfl (fCons_ok rfl rfl) rfl rfl e1) rfl)) (gd_ok rfl e2))))) rfl, hr1⟩
theorem s4_47 {S : PyData} {k n : Int} {r : PyData} (hr : PotOk r) {m : Int} (m0 : 1 ≤ m) (m1 : m ≤ 7) : ∃ r', (sPre [5] (sFor (fRng1 (fCons (fC (.int 6)) fNil)) (bName 5) DB_47)) (E47 S k n r m .un .un) = some (.nx (E47 S k n r' m .un .un)) ∧ PotOk r' := by
  obtain ⟨r', hr', e⟩ := loop_ex (bind := bName 5) (f := DB_47) (fun (j : Nat) => PyData.int (0 + (j : Int))) (fun q => E47 S k n q m .un .un) (fun _ q => PotOk q) (List.range 6) r hr (by
    intro j _ _ q hq
    obtain ⟨w, ps, q', e1, hg, hq'⟩ := any_deed_ok hq m0 m1
    have e2 := deed_right_eq m0 m1 hg
    refine ⟨q', hq', ?_⟩
    have b1 : bName 5 (PyData.int (0 + (j : Int))) (E47 S k n q m .un .un) = some (E47 S k n q m (.fz (.int (0 + (j : Int)))) .un) := rfl
    rw [b1, Option.bind_some]
    exact (clr47 (sIf_f (gNot47 (gTru_bool (fCall_ok (fCons_ok rfl (fCons_ok (fRow_ok (ε1 := E47 S k n q m (.fz (.int (0 + (j : Int)))) .un) rfl (fCons_ok rfl rfl) rfl rfl e1) rfl)) (gd_ok rfl e2)))) rfl)).trans rfl)
  refine ⟨r', ?_, hr'⟩
  have c0 : clr (E47 S k n r m .un .un) [5] = E47 S k n r m .un .un := rfl
  have rg : fRng1 (fCons (fC (.int 6)) fNil) (E47 S k n r m .un .un) = some (rangeD 0 6, E47 S k n r m .un .un) := fRng1_ok (k := 6) (fCons_ok rfl rfl) (by decide)
  rw [qPre, qFor, c0, rg]
  exact e
theorem rows_of {m : Int} : ∀ (ys : List PyData), (∀ y ∈ ys, ∃ q, y = rowD q ∧ EntOk m q) → ∃ rs, ys = rs.map rowD ∧ LogOk m rs
  | [], _ => ⟨[], rfl, fun _ h => (nomatch h)⟩
  | y :: ys, h => by
    obtain ⟨q, rfl, hq⟩ := h y (List.mem_cons_self ..)
    obtain ⟨rs, rfl, hrs⟩ := rows_of ys fun y hy => h y (List.mem_cons_of_mem _ hy)
    exact ⟨q :: rs, rfl, fun x hx => by
      rcases List.mem_cons.mp hx with rfl | hx
      · exact hq
      · exact hrs x hx⟩
theorem s56_47 {S : PyData} {k n : Int} {r : PyData} (hr : PotOk r) {m : Int} (m0 : 1 ≤ m) (m1 : m ≤ 7) : ∃ r' x, (sSeq S5_47 S6_47) (E47 S k n r m .un .un) = some (.nx [.fz S, .un, .fz (.int n), .mu r', .fz (.int m), .un, x]) := by
  obtain ⟨g, r1, e1, g0, g1, hr1⟩ := drawP (ε := E47 S k n r m .un .un) 3 rfl hr (m := 8) (by decide) (by decide) (fm := fC (.int 8)) rfl
  obtain ⟨z, hz, z0, z1⟩ : ∃ z : Int, (do
      let b ← dIntOf [.bool (g == 0)]
      dIx (.list [.int 13, .int 50]) b) = some (.int z) ∧ 0 < z ∧ z ≤ 50 := by
    cases g == 0 with
    | true => exact ⟨50, rfl, by decide, by decide⟩
    | false => exact ⟨13, rfl, by decide, by decide⟩
  obtain ⟨b, e2, e3⟩ := Option.bind_eq_some_iff.mp hz
  obtain ⟨v, r2, e4, v0, v1, hr2⟩ := take_ok hr1 (m := z) z0 (by omega)
  have st5 : S5_47 (E47 S k n r m .un .un) = some (.nx (E47 S k n r2 m .un (.fz (.int v)))) :=
    asg47 (fRow_ok (ε1 := E47 S k n r1 m .un .un) rfl (fCons_ok (fBin_ok (fCall_ok rfl (qdLst (by simp))) (fCall_ok (fCons_ok (fBin_ok e1 rfl dEq_int) rfl) e2) e3) rfl) rfl rfl e4) rfl
  obtain ⟨ys, ε', e5, hl, hp, q, rfl, hq⟩ := comp_inv (bind := bName 1) (ga := gYes) (fa := fRow 3 2 M_law_any_entry (fCons (fVar 4) fNil)) (vs := [1]) (fun ε => ∃ q, ε = [.fz S, .un, .fz (.int n), .mu q, .fz (.int m), .un, .fz (.int v)] ∧ PotOk q) (fun y => ∃ q, y = rowD q ∧ EntOk m q) (rangeD 0 v.toNat) [.fz S, .un, .fz (.int n), .mu r2, .fz (.int m), .un, .fz (.int v)] (by
      rintro d _ ε ⟨q, rfl, hq⟩
      obtain ⟨x, q', e6, hx, hq'⟩ := any_entry_ok hq m0 m1
      exact ⟨_, _, _, _, rfl, rfl, fRow_ok rfl (fCons_ok rfl rfl) rfl rfl e6, ⟨x, rfl, hx⟩, q', rfl, hq'⟩) ⟨r2, rfl, hr2⟩
  obtain ⟨rs, rfl, hrs⟩ := rows_of ys hp
  have hlen : rs.length = v.toNat := by simpa [rangeD] using hl
  have hd : dR v = true := by simp only [dR, Bool.and_eq_true, decide_eq_true_eq]; omega
  have e7 := log_right_eq m1 hrs (by omega)
  refine ⟨q, .fz (.int v), sSeq_nx st5 ?_⟩
  exact sIf_f (gNot47 (gTru_bool (fCall_ok (fCons_ok rfl (fCons_ok (fCall_ok (fCons_ok (fComp_ok (ε1 := E47 S k n r2 m .un (.fz (.int v))) (fRng1_ok (fCons_ok rfl rfl) hd) e5 (by rw [List.length_map]; exact sizeLine_big (by omega))) rfl) rfl) rfl)) (gd_ok rfl e7)))) rfl
theorem cell47 {S : PyData} (t : Int × Nat) : (bTup [1, 2] (PyData.tuple [.int (t.2 : Nat), .int t.1]) [.fz S, .un, .un, .un, .un, .un, .un]).bind CB_47 = some (.nx [.fz S, .un, .un, .un, .un, .un, .un]) := by
  obtain ⟨n, k⟩ := t
  have b1 : bTup [1, 2] (PyData.tuple [.int (k : Nat), .int n]) [.fz S, .un, .un, .un, .un, .un, .un] = some [.fz S, .fz (.int (k : Nat)), .fz (.int n), .un, .un, .un, .un] := rfl
  rw [b1, Option.bind_some]
  obtain ⟨r, e0, hr⟩ := pot_ok n
  have st1 : sAsgM 3 (fCall (gd 1 M_law_pot) (fCons (fVar 2) fNil)) [.fz S, .fz (.int (k : Nat)), .fz (.int n), .un, .un, .un, .un] = some (.nx [.fz S, .fz (.int (k : Nat)), .fz (.int n), .mu r, .un, .un, .un]) := sAsgM_ok (ε1 := [.fz S, .fz (.int (k : Nat)), .fz (.int n), .un, .un, .un, .un]) (fCall_ok (fCons_ok rfl rfl) (gd_ok rfl e0))
  obtain ⟨v, r1, e1, v0, v1, hr1⟩ := drawP (ε := [.fz S, .fz (.int (k : Nat)), .fz (.int n), .mu r, .un, .un, .un]) 3 rfl hr (m := 7) (by decide) (by decide) (fm := fC (.int 7)) rfl
  have m0 : 1 ≤ 1 + v := by omega
  have m1 : 1 + v ≤ 7 := by omega
  have st2 : sAsg 4 (fBin dAdd (fC (.int 1)) (fRow 3 2 M_law_take (fCons (fC (.int 7)) fNil))) [.fz S, .fz (.int (k : Nat)), .fz (.int n), .mu r, .un, .un, .un] = some (.nx (E47 S (k : Nat) n r1 (1 + v) .un .un)) := asg47 (fBin_ok rfl e1 rfl) rfl
  generalize 1 + v = m at m0 m1 st2
  obtain ⟨r2, e2, hr2⟩ := s3_47 (S := S) (k := (k : Nat)) (n := n) hr1 m0 m1
  obtain ⟨r3, e3, hr3⟩ := s4_47 (S := S) (k := (k : Nat)) (n := n) hr2 m0 m1
  obtain ⟨r4, x, e4⟩ := s56_47 (S := S) (k := (k : Nat)) (n := n) hr3 m0 m1
  exact (clr47 (sSeq_nx st1 (sSeq_nx st2 (sSeq_nx e2 (sSeq_nx e3 e4))))).trans rfl
theorem ten30 : dPow (.int 10) (.int 30) = some (.int 1000000000000000000000000000000) := rfl
theorem law_true (ns : List Int) (hl : ns.length ≤ 63) : M_law [.list (ns.map .int)] = some (.bool true) := by
  rw [ap_law]; unfold B_law
  have hc : cutD (ns.map PyData.int) none (some 10) = (ns.take 10).map PyData.int := by have := cutTo (ns.map PyData.int) 10; rw [List.map_take]; exact this
  have hq1 : dLst [.int (ns.length : Int)] = some (.list ([(ns.length : Int)].map .int)) := qdLst (by simp)
  have hn : dLen [.list (ns.map PyData.int)] = some (.int ns.length) := by show some (PyData.int (ns.map PyData.int).length) = _; rw [List.length_map]
  have hadd : dAdd (.list ((ns.take 10).map .int)) (.list ([(ns.length : Int)].map .int)) = some (.list ((ns.take 10 ++ [(ns.length : Int)]).map .int)) := by
    rw [qAddL (by simp; omega), List.map_append]
  have hs : dSl (.list (ns.map PyData.int)) none (some 10) = some (.list ((ns.take 10).map PyData.int)) := by show some (PyData.list (cutD _ _ _)) = _; rw [hc]
  generalize hS : PyData.list (ns.map PyData.int) = S at hn hs
  have src : fEnum (fCons (fBin dAdd (fSl (fVar 0) oNone (oSome (fC (.int 10)))) (fCall dLst (fCons (fCall dLen (fCons (fVar 0) fNil)) fNil))) fNil) [.fz S, .un, .un, .un, .un, .un, .un] = some (enumD ((ns.take 10 ++ [(ns.length : Int)]).map .int), [.fz S, .un, .un, .un, .un, .un, .un]) := by
    have : (fCons (fBin dAdd (fSl (fVar 0) oNone (oSome (fC (.int 10)))) (fCall dLst (fCons (fCall dLen (fCons (fVar 0) fNil)) fNil))) fNil) [.fz S, .un, .un, .un, .un, .un, .un] = some ([.list ((ns.take 10 ++ [(ns.length : Int)]).map .int)], [.fz S, .un, .un, .un, .un, .un, .un]) := fCons_ok (fBin_ok (fSl_ok rfl rfl rfl hs) (fCall_ok (fCons_ok (fCall_ok (fCons_ok rfl rfl) hn) rfl) hq1) hadd) rfl
    unfold fEnum
    rw [this]; rfl
  have d1 := deed_right_eq (m := 1) (by decide) (by decide) (gr_place (m := 1) (n := 999999999999999999999999999999) ⟨by decide, by decide⟩ (.inl rfl))
  have d2 := deed_right_eq (m := 4) (by decide) (by decide) (gr_part (m := 4) (hs := [0, 2, 3]) (by decide) (by decide) (by decide) (by decide))
  have d3 := show_log_eq (rs := []) (fun _ h => (nomatch h)) (by simp)
  have d4 := read_log_eq (m := 1) (by decide) (rs := []) (fun _ h => (nomatch h)) (by simp)
  have q1 : dEq (.str (logT [])) (.str "-") = some (.bool true) := by
    rw [show logT [] = ("-" : Str) from rfl, dEqS (by decide +kernel) (by decide +kernel), beq_self_eq_true]
  have q2 : dEq (logRD []) (.tuple []) = some (.bool true) := rfl
  refine seq_stepP (ε1 := [.fz S, .un, .un, .un, .un, .un, .un]) ?_ ?_
  · have c0 : clr [.fz S, .un, .un, .un, .un, .un, .un] [2, 1, 3, 4, 5, 6] = [.fz S, .un, .un, .un, .un, .un, .un] := rfl
    rw [qPre, qFor, c0, src]
    refine loop_id (fun t : Int × Nat => PyData.tuple [.int (t.2 : Nat), .int t.1]) ((ns.take 10 ++ [(ns.length : Int)]).zipIdx) ?_ fun t _ => cell47 t
    unfold enumD
    rw [List.zipIdx_map, List.map_map]; rfl
  · refine seq_stepP (ε1 := [.fz S, .un, .un, .un, .un, .un, .un]) (sIf_f (gOr_f (gNot47 (gTru_bool (fCall_ok (fCons_ok rfl (fCons_ok (fCall_ok (fCons_ok rfl (fCons_ok (fBin_ok (fBin_ok rfl rfl ten30) rfl rfl) rfl)) rfl) rfl)) (gd_ok rfl d1)))) (gNot47 (gTru_bool (fCall_ok (fCons_ok rfl (fCons_ok (fCall_ok (fCons_ok rfl (fCons_ok (fCall_ok rfl rfl) rfl)) rfl) rfl)) (gd_ok rfl d2))))) rfl) ?_
    exact congrArg outP (sRet_ok (fAnd_t (fBin_ok (fCall_ok (fCons_ok rfl rfl) (gd_ok rfl d3)) rfl q1) (fBin_ok (fCall_ok (fCons_ok rfl (fCons_ok rfl rfl)) (gd_ok rfl d4)) rfl q2)))
def top (i : Nat) : Stmt := PySem.Challenge.pw_onename_k47_deeds_and_logs_written.main.body.getD i (.Pass ⟨0, 0, 0, 0⟩)
abbrev s_is_whole : Stmt := top 7
abbrev N_is_whole : List Str := ["thing"]
abbrev P_is_whole : List Str := ["thing"]
abbrev s_is_house : Stmt := top 8
abbrev N_is_house : List Str := ["many", "thing"]
abbrev P_is_house : List Str := ["many", "thing"]
abbrev s_is_name : Stmt := top 9
abbrev N_is_name : List Str := ["thing", "sign"]
abbrev P_is_name : List Str := ["thing"]
abbrev s_is_side : Stmt := top 10
abbrev N_is_side : List Str := ["many", "thing", "part"]
abbrev P_is_side : List Str := ["many", "thing"]
abbrev s_is_part : Stmt := top 11
abbrev N_is_part : List Str := ["many", "kind", "thing"]
abbrev P_is_part : List Str := ["many", "kind", "thing"]
abbrev s_are_parts : Stmt := top 12
abbrev N_are_parts : List Str := ["many", "kinds", "parts", "kind", "part"]
abbrev P_are_parts : List Str := ["many", "kinds", "parts"]
abbrev s_has_first_word : Stmt := top 13
abbrev N_has_first_word : List Str := ["thing"]
abbrev P_has_first_word : List Str := ["thing"]
abbrev s_is_deed : Stmt := top 14
abbrev N_is_deed : List Str := ["many", "thing", "kinds"]
abbrev P_is_deed : List Str := ["many", "thing"]
abbrev s_is_entry : Stmt := top 17
abbrev N_is_entry : List Str := ["many", "thing", "kinds"]
abbrev P_is_entry : List Str := ["many", "thing"]
abbrev s_show_part : Stmt := top 21
abbrev N_show_part : List Str := ["part", "house"]
abbrev P_show_part : List Str := ["part"]
abbrev s_show_words : Stmt := top 22
abbrev N_show_words : List Str := ["parts", "part"]
abbrev P_show_words : List Str := ["parts"]
abbrev s_show_deed : Stmt := top 23
abbrev N_show_deed : List Str := ["deed"]
abbrev P_show_deed : List Str := ["deed"]
abbrev s_show_log : Stmt := top 24
abbrev N_show_log : List Str := ["log", "entry"]
abbrev P_show_log : List Str := ["log"]
abbrev s_is_number_text : Stmt := top 25
abbrev N_is_number_text : List Str := ["word", "sign"]
abbrev P_is_number_text : List Str := ["word"]
abbrev s_number_of : Stmt := top 26
abbrev N_number_of : List Str := ["word", "number", "figure"]
abbrev P_number_of : List Str := ["word"]
abbrev s_read_number : Stmt := top 27
abbrev N_read_number : List Str := ["word"]
abbrev P_read_number : List Str := ["word"]
abbrev s_read_part : Stmt := top 28
abbrev N_read_part : List Str := ["kind", "word", "house"]
abbrev P_read_part : List Str := ["kind", "word"]
abbrev s_read_words : Stmt := top 29
abbrev N_read_words : List Str := ["kinds", "words", "parts", "kind", "word"]
abbrev P_read_words : List Str := ["kinds", "words"]
abbrev s_read_deed : Stmt := top 30
abbrev N_read_deed : List Str := ["many", "text", "words", "deed"]
abbrev P_read_deed : List Str := ["many", "text"]
abbrev s_read_entry : Stmt := top 31
abbrev N_read_entry : List Str := ["many", "text", "words", "entry"]
abbrev P_read_entry : List Str := ["many", "text"]
abbrev s_read_log : Stmt := top 32
abbrev N_read_log : List Str := ["many", "text", "line"]
abbrev P_read_log : List Str := ["many", "text"]
abbrev s_law_mixed : Stmt := top 34
abbrev N_law_mixed : List Str := ["cell", "k", "number"]
abbrev P_law_mixed : List Str := ["cell", "k"]
abbrev s_law_pot : Stmt := top 35
abbrev N_law_pot : List Str := ["cell"]
abbrev P_law_pot : List Str := ["cell"]
abbrev s_law_take : Stmt := top 36
abbrev N_law_take : List Str := ["pot", "many", "told"]
abbrev P_law_take : List Str := ["pot", "many"]
abbrev s_law_name : Stmt := top 37
abbrev N_law_name : List Str := ["pot", "letters", "k"]
abbrev P_law_name : List Str := ["pot"]
abbrev s_law_number : Stmt := top 38
abbrev N_law_number : List Str := ["pot", "least", "far"]
abbrev P_law_number : List Str := ["pot", "least"]
abbrev s_law_any_deed : Stmt := top 39
abbrev N_law_any_deed : List Str := ["pot", "many", "house", "words", "word", "side", "other"]
abbrev P_law_any_deed : List Str := ["pot", "many"]
abbrev s_law_any_entry : Stmt := top 40
abbrev N_law_any_entry : List Str := ["pot", "many", "house", "name", "number", "until", "some"]
abbrev P_law_any_entry : List Str := ["pot", "many"]
abbrev s_law_shown : Stmt := top 41
abbrev N_law_shown : List Str := ["deed", "words", "part", "house"]
abbrev P_law_shown : List Str := ["deed"]
abbrev s_law_same : Stmt := top 42
abbrev N_law_same : List Str := ["found", "due", "k"]
abbrev P_law_same : List Str := ["found", "due"]
abbrev s_law_deed_right : Stmt := top 43
abbrev N_law_deed_right : List Str := ["many", "deed", "due"]
abbrev P_law_deed_right : List Str := ["many", "deed"]
abbrev s_law_log_right : Stmt := top 44
abbrev N_law_log_right : List Str := ["many", "log", "due", "entry"]
abbrev P_law_log_right : List Str := ["many", "log"]
abbrev s_law_short_log : Stmt := top 45
abbrev N_law_short_log : List Str := ["pot", "many", "found", "k", "name", "number", "house", "some"]
abbrev P_law_short_log : List Str := ["pot", "many"]
abbrev s_law : Stmt := top 46
abbrev N_law : List Str := ["script", "k", "cell", "pot", "many", "turn", "size"]
abbrev P_law : List Str := ["script"]
structure Ad where
  is_whole : Addr
  d_is_whole : FuncData
  is_house : Addr
  d_is_house : FuncData
  is_name : Addr
  d_is_name : FuncData
  is_side : Addr
  d_is_side : FuncData
  is_part : Addr
  d_is_part : FuncData
  are_parts : Addr
  d_are_parts : FuncData
  has_first_word : Addr
  d_has_first_word : FuncData
  is_deed : Addr
  d_is_deed : FuncData
  is_entry : Addr
  d_is_entry : FuncData
  show_part : Addr
  d_show_part : FuncData
  show_words : Addr
  d_show_words : FuncData
  show_deed : Addr
  d_show_deed : FuncData
  show_log : Addr
  d_show_log : FuncData
  is_number_text : Addr
  d_is_number_text : FuncData
  number_of : Addr
  d_number_of : FuncData
  read_number : Addr
  d_read_number : FuncData
  read_part : Addr
  d_read_part : FuncData
  read_words : Addr
  d_read_words : FuncData
  read_deed : Addr
  d_read_deed : FuncData
  read_entry : Addr
  d_read_entry : FuncData
  read_log : Addr
  d_read_log : FuncData
  law_mixed : Addr
  d_law_mixed : FuncData
  law_pot : Addr
  d_law_pot : FuncData
  law_take : Addr
  d_law_take : FuncData
  law_name : Addr
  d_law_name : FuncData
  law_number : Addr
  d_law_number : FuncData
  law_any_deed : Addr
  d_law_any_deed : FuncData
  law_any_entry : Addr
  d_law_any_entry : FuncData
  law_shown : Addr
  d_law_shown : FuncData
  law_same : Addr
  d_law_same : FuncData
  law_deed_right : Addr
  d_law_deed_right : FuncData
  law_log_right : Addr
  d_law_log_right : FuncData
  law_short_log : Addr
  d_law_short_log : FuncData
  law : Addr
  d_law : FuncData
  g_DEED_PARTS : Addr
  D_DEED_PARTS : List (Str × Value)
  t_EMPTY_LOG : Nat
  g_ENTRY_PARTS : Addr
  D_ENTRY_PARTS : List (Str × Value)
  t_FIGURES : Nat
  t_LETTERS : Nat
  t_LONGEST_NAME : Nat
structure Txt (K : PySem.W.Frag) (mg : Str → Option Value) (A : Ad) : Prop where
  F_is_whole : Fun K "is_whole" "is_whole" s_is_whole A.is_whole A.d_is_whole
  m_is_whole : mg "is_whole" = some (.ref A.is_whole)
  b_is_whole : Binds K A.d_is_whole P_is_whole []
  F_is_house : Fun K "is_house" "is_house" s_is_house A.is_house A.d_is_house
  m_is_house : mg "is_house" = some (.ref A.is_house)
  b_is_house : Binds K A.d_is_house P_is_house []
  F_is_name : Fun K "is_name" "is_name" s_is_name A.is_name A.d_is_name
  m_is_name : mg "is_name" = some (.ref A.is_name)
  b_is_name : Binds K A.d_is_name P_is_name []
  F_is_side : Fun K "is_side" "is_side" s_is_side A.is_side A.d_is_side
  m_is_side : mg "is_side" = some (.ref A.is_side)
  b_is_side : Binds K A.d_is_side P_is_side []
  F_is_part : Fun K "is_part" "is_part" s_is_part A.is_part A.d_is_part
  m_is_part : mg "is_part" = some (.ref A.is_part)
  b_is_part : Binds K A.d_is_part P_is_part []
  F_are_parts : Fun K "are_parts" "are_parts" s_are_parts A.are_parts A.d_are_parts
  m_are_parts : mg "are_parts" = some (.ref A.are_parts)
  b_are_parts : Binds K A.d_are_parts P_are_parts []
  F_has_first_word : Fun K "has_first_word" "has_first_word" s_has_first_word A.has_first_word A.d_has_first_word
  m_has_first_word : mg "has_first_word" = some (.ref A.has_first_word)
  b_has_first_word : Binds K A.d_has_first_word P_has_first_word []
  F_is_deed : Fun K "is_deed" "is_deed" s_is_deed A.is_deed A.d_is_deed
  m_is_deed : mg "is_deed" = some (.ref A.is_deed)
  b_is_deed : Binds K A.d_is_deed P_is_deed []
  F_is_entry : Fun K "is_entry" "is_entry" s_is_entry A.is_entry A.d_is_entry
  m_is_entry : mg "is_entry" = some (.ref A.is_entry)
  b_is_entry : Binds K A.d_is_entry P_is_entry []
  F_show_part : Fun K "show_part" "show_part" s_show_part A.show_part A.d_show_part
  m_show_part : mg "show_part" = some (.ref A.show_part)
  b_show_part : Binds K A.d_show_part P_show_part []
  F_show_words : Fun K "show_words" "show_words" s_show_words A.show_words A.d_show_words
  m_show_words : mg "show_words" = some (.ref A.show_words)
  b_show_words : Binds K A.d_show_words P_show_words []
  F_show_deed : Fun K "show_deed" "show_deed" s_show_deed A.show_deed A.d_show_deed
  m_show_deed : mg "show_deed" = some (.ref A.show_deed)
  b_show_deed : Binds K A.d_show_deed P_show_deed []
  F_show_log : Fun K "show_log" "show_log" s_show_log A.show_log A.d_show_log
  m_show_log : mg "show_log" = some (.ref A.show_log)
  b_show_log : Binds K A.d_show_log P_show_log []
  F_is_number_text : Fun K "is_number_text" "is_number_text" s_is_number_text A.is_number_text A.d_is_number_text
  m_is_number_text : mg "is_number_text" = some (.ref A.is_number_text)
  b_is_number_text : Binds K A.d_is_number_text P_is_number_text []
  F_number_of : Fun K "number_of" "number_of" s_number_of A.number_of A.d_number_of
  m_number_of : mg "number_of" = some (.ref A.number_of)
  b_number_of : Binds K A.d_number_of P_number_of []
  F_read_number : Fun K "read_number" "read_number" s_read_number A.read_number A.d_read_number
  m_read_number : mg "read_number" = some (.ref A.read_number)
  b_read_number : Binds K A.d_read_number P_read_number []
  F_read_part : Fun K "read_part" "read_part" s_read_part A.read_part A.d_read_part
  m_read_part : mg "read_part" = some (.ref A.read_part)
  b_read_part : Binds K A.d_read_part P_read_part []
  F_read_words : Fun K "read_words" "read_words" s_read_words A.read_words A.d_read_words
  m_read_words : mg "read_words" = some (.ref A.read_words)
  b_read_words : Binds K A.d_read_words P_read_words []
  F_read_deed : Fun K "read_deed" "read_deed" s_read_deed A.read_deed A.d_read_deed
  m_read_deed : mg "read_deed" = some (.ref A.read_deed)
  b_read_deed : Binds K A.d_read_deed P_read_deed []
  F_read_entry : Fun K "read_entry" "read_entry" s_read_entry A.read_entry A.d_read_entry
  m_read_entry : mg "read_entry" = some (.ref A.read_entry)
  b_read_entry : Binds K A.d_read_entry P_read_entry []
  F_read_log : Fun K "read_log" "read_log" s_read_log A.read_log A.d_read_log
  m_read_log : mg "read_log" = some (.ref A.read_log)
  b_read_log : Binds K A.d_read_log P_read_log []
  F_law_mixed : Fun K "_law_mixed" "_law_mixed" s_law_mixed A.law_mixed A.d_law_mixed
  m_law_mixed : mg "_law_mixed" = some (.ref A.law_mixed)
  b_law_mixed : Binds K A.d_law_mixed P_law_mixed []
  F_law_pot : Fun K "_law_pot" "_law_pot" s_law_pot A.law_pot A.d_law_pot
  m_law_pot : mg "_law_pot" = some (.ref A.law_pot)
  b_law_pot : Binds K A.d_law_pot P_law_pot []
  F_law_take : Fun K "_law_take" "_law_take" s_law_take A.law_take A.d_law_take
  m_law_take : mg "_law_take" = some (.ref A.law_take)
  b_law_take : Binds K A.d_law_take P_law_take []
  F_law_name : Fun K "_law_name" "_law_name" s_law_name A.law_name A.d_law_name
  m_law_name : mg "_law_name" = some (.ref A.law_name)
  b_law_name : Binds K A.d_law_name P_law_name []
  F_law_number : Fun K "_law_number" "_law_number" s_law_number A.law_number A.d_law_number
  m_law_number : mg "_law_number" = some (.ref A.law_number)
  b_law_number : Binds K A.d_law_number P_law_number []
  F_law_any_deed : Fun K "_law_any_deed" "_law_any_deed" s_law_any_deed A.law_any_deed A.d_law_any_deed
  m_law_any_deed : mg "_law_any_deed" = some (.ref A.law_any_deed)
  b_law_any_deed : Binds K A.d_law_any_deed P_law_any_deed []
  F_law_any_entry : Fun K "_law_any_entry" "_law_any_entry" s_law_any_entry A.law_any_entry A.d_law_any_entry
  m_law_any_entry : mg "_law_any_entry" = some (.ref A.law_any_entry)
  b_law_any_entry : Binds K A.d_law_any_entry P_law_any_entry []
  F_law_shown : Fun K "_law_shown" "_law_shown" s_law_shown A.law_shown A.d_law_shown
  m_law_shown : mg "_law_shown" = some (.ref A.law_shown)
  b_law_shown : Binds K A.d_law_shown P_law_shown []
  F_law_same : Fun K "_law_same" "_law_same" s_law_same A.law_same A.d_law_same
  m_law_same : mg "_law_same" = some (.ref A.law_same)
  b_law_same : Binds K A.d_law_same P_law_same []
  F_law_deed_right : Fun K "_law_deed_right" "_law_deed_right" s_law_deed_right A.law_deed_right A.d_law_deed_right
  m_law_deed_right : mg "_law_deed_right" = some (.ref A.law_deed_right)
  b_law_deed_right : Binds K A.d_law_deed_right P_law_deed_right []
  F_law_log_right : Fun K "_law_log_right" "_law_log_right" s_law_log_right A.law_log_right A.d_law_log_right
  m_law_log_right : mg "_law_log_right" = some (.ref A.law_log_right)
  b_law_log_right : Binds K A.d_law_log_right P_law_log_right []
  F_law_short_log : Fun K "_law_short_log" "_law_short_log" s_law_short_log A.law_short_log A.d_law_short_log
  m_law_short_log : mg "_law_short_log" = some (.ref A.law_short_log)
  b_law_short_log : Binds K A.d_law_short_log P_law_short_log []
  F_law : Fun K "law" "law" s_law A.law A.d_law
  m_law : mg "law" = some (.ref A.law)
  b_law : Binds K A.d_law P_law []
  n_all : mg "all" = none
  n_bool : mg "bool" = none
  n_enumerate : mg "enumerate" = none
  n_int : mg "int" = none
  n_isinstance : mg "isinstance" = none
  n_len : mg "len" = none
  n_list : mg "list" = none
  n_max : mg "max" = none
  n_min : mg "min" = none
  n_range : mg "range" = none
  n_set : mg "set" = none
  n_sorted : mg "sorted" = none
  n_str : mg "str" = none
  n_tuple : mg "tuple" = none
  n_zip : mg "zip" = none
  m_g_EMPTY_LOG : mg "EMPTY_LOG" = some (.str "-" A.t_EMPTY_LOG)
  m_g_FIGURES : mg "FIGURES" = some (.str "0123456789" A.t_FIGURES)
  m_g_LETTERS : mg "LETTERS" = some (.str "abcdefghijklmnopqrstuvwxyz" A.t_LETTERS)
  m_g_LONGEST_NAME : mg "LONGEST_NAME" = some (.int 8 A.t_LONGEST_NAME)
  m_g_DEED_PARTS : mg "DEED_PARTS" = some (.ref A.g_DEED_PARTS)
  p_g_DEED_PARTS : TabK K A.g_DEED_PARTS A.D_DEED_PARTS
  r_g_DEED_PARTS : RpTab K A.D_DEED_PARTS tab_DEED_PARTS
  m_g_ENTRY_PARTS : mg "ENTRY_PARTS" = some (.ref A.g_ENTRY_PARTS)
  p_g_ENTRY_PARTS : TabK K A.g_ENTRY_PARTS A.D_ENTRY_PARTS
  r_g_ENTRY_PARTS : RpTab K A.D_ENTRY_PARTS tab_ENTRY_PARTS
section
variable {P : Program} {w : World} {K : PySem.W.Frag} {mg : Str → Option Value} {base : Heap} {A : Ad}
theorem sc_is_whole : FnScope N_is_whole P_is_whole (defScope s_is_whole) := ⟨rfl, rfl, rfl, by decide +kernel, rfl, by decide +kernel, by decide +kernel⟩
theorem ok_is_whole (T : Txt K mg A) : FnOk P w K mg base CX0 1 A.is_whole A.d_is_whole P_is_whole (spP K 1 M_is_whole) :=
  fun_pure (k := 0) (N := N_is_whole) (ps := P_is_whole) (fb := B_is_whole) T.F_is_whole sc_is_whole fun cdv _ outer s H E hr =>
      (bv_one (sv_ret (ev_and (ev_isi (isi_int _) rfl T.n_isinstance PyProof.Rows.boot_isinstance (pe_ty rfl T.n_int (by decide +kernel)) (ev_var 0 (pv 0))) (ev_one (ev_not (ev_isi (isi_bool _) rfl T.n_isinstance PyProof.Rows.boot_isinstance (pe_ty rfl T.n_bool (by decide +kernel)) (ev_var 0 (pv 0))))))))
theorem sc_is_house : FnScope N_is_house P_is_house (defScope s_is_house) := ⟨rfl, rfl, rfl, by decide +kernel, rfl, by decide +kernel, by decide +kernel⟩
theorem ok_is_house (T : Txt K mg A) : FnOk P w K mg base CX0 2 A.is_house A.d_is_house P_is_house (spP K 2 M_is_house) :=
  fun_pure (k := 1) (N := N_is_house) (ps := P_is_house) (fb := B_is_house) T.F_is_house sc_is_house fun cdv _ outer s H E hr =>
      (bv_one (sv_ret (ev_and (ev_call (ok_is_whole T) (hr.mono (by decide)) rfl T.m_is_whole T.F_is_whole.kp T.b_is_whole rfl (av_cons (ev_var 1 (pv 1)) av_nil)) (ev_one (ev_chain op_le op_lt od_le od_lt ev_int (ev_var 1 (pv 1)) (ev_var 0 (pv 0)))))))
theorem sc_is_name : FnScope N_is_name P_is_name (defScope s_is_name) := ⟨rfl, rfl, rfl, by decide +kernel, rfl, by decide +kernel, by decide +kernel⟩
theorem ok_is_name (T : Txt K mg A) : FnOk P w K mg base CX0 1 A.is_name A.d_is_name P_is_name (spP K 1 M_is_name) :=
  fun_pure (k := 0) (N := N_is_name) (ps := P_is_name) (fb := B_is_name) T.F_is_name sc_is_name fun cdv _ outer s H E hr =>
      (bv_cons (sv_if (tv_w (wv_or (tv_not (tv_tru (ev_isi (isi_str _) rfl T.n_isinstance PyProof.Rows.boot_isinstance (pe_ty rfl T.n_str (by decide +kernel)) (ev_var 0 (pv 0))))) (wv_or1 (tv_not (tv_chain op_le op_le od_le od_le ev_int (ev_callB call_len cd_len rfl T.n_len (by decide +kernel) (av_cons (ev_var 0 (pv 0)) av_nil)) (ev_globI rfl T.m_g_LONGEST_NAME)))))) (bv_one (sv_ret ev_bl)) bv_nil)
      (bv_one (sv_ret (ev_callB (cr_all rfl) cd_all rfl T.n_all (by decide +kernel) (av_cons (ev_of_fv (fv_lc [("sign", 1)] (by decide) (tg_name (by decide)) rfl sc_is_name.nd (iv_str (ev_var 0 (pv 0))) (blkOk_by (own := [("sign", 1)]) (N := N_is_name) (sc := defScope s_is_name) (by decide +kernel)) (fun _ _ _ _ _ => (gv_name (i := 1) sc_is_name.nd rfl (by first | exact Or.inl rfl | exact Or.inr rfl))) (fun _ _ _ _ _ => tvs_nil) (fun _ _ _ _ _ => (ev_cmp op_in_str od_inS (ev_var 1 (pv 1)) (ev_globS rfl T.m_g_LETTERS) rfl)))) av_nil)))))
theorem sc_is_side : FnScope N_is_side P_is_side (defScope s_is_side) := ⟨rfl, rfl, rfl, by decide +kernel, rfl, by decide +kernel, by decide +kernel⟩
theorem ok_is_side (T : Txt K mg A) : FnOk P w K mg base CX0 3 A.is_side A.d_is_side P_is_side (spP K 2 M_is_side) :=
  fun_pure (k := 2) (N := N_is_side) (ps := P_is_side) (fb := B_is_side) T.F_is_side sc_is_side fun cdv _ outer s H E hr =>
      (bv_cons (sv_if (tv_w (wv_or (tv_not (tv_tru (ev_isi (isi_tuple _) rfl T.n_isinstance PyProof.Rows.boot_isinstance (pe_ty rfl T.n_tuple (by decide +kernel)) (ev_var 1 (pv 1))))) (wv_or1 (tv_not (tv_chain op_lt op_lt od_lt od_lt ev_int (ev_callB call_len cd_len rfl T.n_len (by decide +kernel) (av_cons (ev_var 1 (pv 1)) av_nil)) (ev_var 0 (pv 0))))))) (bv_one (sv_ret ev_bl)) bv_nil)
      (bv_cons (sv_if (tv_not (tv_tru (ev_callB (cr_all rfl) cd_all rfl T.n_all (by decide +kernel) (av_cons (ev_of_fv (fv_lc [("part", 2)] (by decide) (tg_name (by decide)) rfl sc_is_side.nd (iv_seq (ev_var 1 (pv 1))) (blkOk_by (own := [("part", 2)]) (N := N_is_side) (sc := defScope s_is_side) (by decide +kernel)) (fun _ _ _ _ _ => (gv_name (i := 2) sc_is_side.nd rfl (by first | exact Or.inl rfl | exact Or.inr rfl))) (fun _ _ _ _ _ => tvs_nil) (fun _ _ _ _ _ => (ev_call (ok_is_house T) (hr.mono (by decide)) rfl T.m_is_house T.F_is_house.kp T.b_is_house rfl (av_cons (ev_var 0 (pv 0)) (av_cons (ev_var 2 (pv 2)) av_nil)))))) av_nil)))) (bv_one (sv_ret ev_bl)) bv_nil)
      (bv_one (sv_ret (ev_cmp (op_eqD hr.units) od_eq (ev_callTy call_list_of cd_list rfl T.n_list (by decide +kernel) (av_cons (ev_var 1 (pv 1)) av_nil)) (ev_sortedSet rfl rfl T.n_sorted rfl T.n_set (ev_var 1 (pv 1))) (nomark _))))))
theorem sc_is_part : FnScope N_is_part P_is_part (defScope s_is_part) := ⟨rfl, rfl, rfl, by decide +kernel, rfl, by decide +kernel, by decide +kernel⟩
theorem ok_is_part (T : Txt K mg A) : FnOk P w K mg base CX0 4 A.is_part A.d_is_part P_is_part (spP K 3 M_is_part) :=
  fun_pure (k := 3) (N := N_is_part) (ps := P_is_part) (fb := B_is_part) T.F_is_part sc_is_part fun cdv _ outer s H E hr =>
      (bv_cons (sv_if (tv_cmp (op_eqD hr.units) od_eq (ev_var 1 (pv 1)) ev_str (nomark _)) (bv_one (sv_ret (ev_call (ok_is_house T) (hr.mono (by decide)) rfl T.m_is_house T.F_is_house.kp T.b_is_house rfl (av_cons (ev_var 0 (pv 0)) (av_cons (ev_var 2 (pv 2)) av_nil))))) bv_nil)
      (bv_cons (sv_if (tv_cmp (op_eqD hr.units) od_eq (ev_var 1 (pv 1)) ev_str (nomark _)) (bv_one (sv_ret (ev_call (ok_is_name T) (hr.mono (by decide)) rfl T.m_is_name T.F_is_name.kp T.b_is_name rfl (av_cons (ev_var 2 (pv 2)) av_nil)))) bv_nil)
      (bv_cons (sv_if (tv_cmp (op_eqD hr.units) od_eq (ev_var 1 (pv 1)) ev_str (nomark _)) (bv_one (sv_ret (ev_and (ev_call (ok_is_whole T) (hr.mono (by decide)) rfl T.m_is_whole T.F_is_whole.kp T.b_is_whole rfl (av_cons (ev_var 2 (pv 2)) av_nil)) (ev_one (ev_cmp op_ge od_ge (ev_var 2 (pv 2)) ev_int (nomark _)))))) bv_nil)
      (bv_cons (sv_if (tv_cmp (op_eqD hr.units) od_eq (ev_var 1 (pv 1)) ev_str (nomark _)) (bv_one (sv_ret (ev_and (ev_call (ok_is_whole T) (hr.mono (by decide)) rfl T.m_is_whole T.F_is_whole.kp T.b_is_whole rfl (av_cons (ev_var 2 (pv 2)) av_nil)) (ev_one (ev_cmp op_ge od_ge (ev_var 2 (pv 2)) ev_int (nomark _)))))) bv_nil)
      (bv_one (sv_ret (ev_call (ok_is_side T) (hr.mono (by decide)) rfl T.m_is_side T.F_is_side.kp T.b_is_side rfl (av_cons (ev_var 0 (pv 0)) (av_cons (ev_var 2 (pv 2)) av_nil)))))))))
theorem sc_are_parts : FnScope N_are_parts P_are_parts (defScope s_are_parts) := ⟨rfl, rfl, rfl, by decide +kernel, rfl, by decide +kernel, by decide +kernel⟩
theorem ok_are_parts (T : Txt K mg A) : FnOk P w K mg base CX0 5 A.are_parts A.d_are_parts P_are_parts (spP K 3 M_are_parts) :=
  fun_pure (k := 4) (N := N_are_parts) (ps := P_are_parts) (fb := B_are_parts) T.F_are_parts sc_are_parts fun cdv _ outer s H E hr =>
      (bv_cons (sv_if (tv_cmp (op_neD hr.units) od_ne (ev_callB call_len cd_len rfl T.n_len (by decide +kernel) (av_cons (ev_var 2 (pv 2)) av_nil)) (ev_callB call_len cd_len rfl T.n_len (by decide +kernel) (av_cons (ev_var 1 (pv 1)) av_nil)) (nomark _)) (bv_one (sv_ret ev_bl)) bv_nil)
      (bv_one (sv_ret (ev_callB (cr_all rfl) cd_all rfl T.n_all (by decide +kernel) (av_cons (ev_of_fv (fv_lc [("kind", 3), ("part", 4)] (by decide) (tg_tup (is := [3, 4]) (by decide) rfl) rfl sc_are_parts.nd (iv_zip rfl T.n_zip (av_cons (ev_var 1 (pv 1)) (av_cons (ev_var 2 (pv 2)) av_nil))) (blkOk_by (own := [("kind", 3), ("part", 4)]) (N := N_are_parts) (sc := defScope s_are_parts) (by decide +kernel)) (fun _ _ _ _ _ => (gv_tup rfl (gvs_cons (gv_name (i := 3) sc_are_parts.nd rfl (by first | exact Or.inl rfl | exact Or.inr rfl)) (gvs_cons (gv_name (i := 4) sc_are_parts.nd rfl (by first | exact Or.inl rfl | exact Or.inr rfl)) gvs_nil)))) (fun _ _ _ _ _ => tvs_nil) (fun _ _ _ _ _ => (ev_call (ok_is_part T) (hr.mono (by decide)) rfl T.m_is_part T.F_is_part.kp T.b_is_part rfl (av_cons (ev_var 0 (pv 0)) (av_cons (ev_var 3 (pv 3)) (av_cons (ev_var 4 (pv 4)) av_nil))))))) av_nil)))))
theorem sc_has_first_word : FnScope N_has_first_word P_has_first_word (defScope s_has_first_word) := ⟨rfl, rfl, rfl, by decide +kernel, rfl, by decide +kernel, by decide +kernel⟩
theorem ok_has_first_word (T : Txt K mg A) : FnOk P w K mg base CX0 1 A.has_first_word A.d_has_first_word P_has_first_word (spP K 1 M_has_first_word) :=
  fun_pure (k := 0) (N := N_has_first_word) (ps := P_has_first_word) (fb := B_has_first_word) T.F_has_first_word sc_has_first_word fun cdv _ outer s H E hr =>
      (bv_one (sv_ret (ev_and (ev_isi (isi_tuple _) rfl T.n_isinstance PyProof.Rows.boot_isinstance (pe_ty rfl T.n_tuple (by decide +kernel)) (ev_var 0 (pv 0))) (ev_and (ev_cmp op_gt od_gt (ev_callB call_len cd_len rfl T.n_len (by decide +kernel) (av_cons (ev_var 0 (pv 0)) av_nil)) ev_int (nomark _)) (ev_one (ev_isi (isi_str _) rfl T.n_isinstance PyProof.Rows.boot_isinstance (pe_ty rfl T.n_str (by decide +kernel)) (ev_ix (ev_var 0 (pv 0)) ev_int (fun _ _ => rfl))))))))
theorem sc_is_deed : FnScope N_is_deed P_is_deed (defScope s_is_deed) := ⟨rfl, rfl, rfl, by decide +kernel, rfl, by decide +kernel, by decide +kernel⟩
theorem ok_is_deed (T : Txt K mg A) : FnOk P w K mg base CX0 6 A.is_deed A.d_is_deed P_is_deed (spP K 2 M_is_deed) :=
  fun_pure (k := 5) (N := N_is_deed) (ps := P_is_deed) (fb := B_is_deed) T.F_is_deed sc_is_deed fun cdv _ outer s H E hr =>
      (bv_cons (sv_if (tv_not (tv_tru (ev_call (ok_has_first_word T) (hr.mono (by decide)) rfl T.m_has_first_word T.F_has_first_word.kp T.b_has_first_word rfl (av_cons (ev_var 1 (pv 1)) av_nil)))) (bv_one (sv_ret ev_bl)) bv_nil)
      (bv_cons (sv_set 2 (by decide) sc_is_deed.nd rfl (by first | exact Or.inl rfl | exact Or.inr rfl) (ev_tabGet rfl T.m_g_DEED_PARTS T.p_g_DEED_PARTS T.r_g_DEED_PARTS (ev_ix (ev_var 1 (pv 1)) ev_int (fun _ _ => rfl)) ⟨rfl, rfl, rfl, rfl⟩))
      (bv_one (sv_ret (ev_and (ev_cmp op_notN od_isnot (ev_var 2 (pv 2)) ev_non (nomark _)) (ev_one (ev_call (ok_are_parts T) (hr.mono (by decide)) rfl T.m_are_parts T.F_are_parts.kp T.b_are_parts rfl (av_cons (ev_var 0 (pv 0)) (av_cons (ev_var 2 (pv 2)) (av_cons (ev_sl (ev_var 1 (pv 1)) (ov_some ev_int) ov_none) av_nil))))))))))
theorem sc_is_entry : FnScope N_is_entry P_is_entry (defScope s_is_entry) := ⟨rfl, rfl, rfl, by decide +kernel, rfl, by decide +kernel, by decide +kernel⟩
theorem ok_is_entry (T : Txt K mg A) : FnOk P w K mg base CX0 6 A.is_entry A.d_is_entry P_is_entry (spP K 2 M_is_entry) :=
  fun_pure (k := 5) (N := N_is_entry) (ps := P_is_entry) (fb := B_is_entry) T.F_is_entry sc_is_entry fun cdv _ outer s H E hr =>
      (bv_cons (sv_if (tv_not (tv_tru (ev_call (ok_has_first_word T) (hr.mono (by decide)) rfl T.m_has_first_word T.F_has_first_word.kp T.b_has_first_word rfl (av_cons (ev_var 1 (pv 1)) av_nil)))) (bv_one (sv_ret ev_bl)) bv_nil)
      (bv_cons (sv_set 2 (by decide) sc_is_entry.nd rfl (by first | exact Or.inl rfl | exact Or.inr rfl) (ev_tabGet rfl T.m_g_ENTRY_PARTS T.p_g_ENTRY_PARTS T.r_g_ENTRY_PARTS (ev_ix (ev_var 1 (pv 1)) ev_int (fun _ _ => rfl)) ⟨rfl, rfl, rfl, rfl⟩))
      (bv_one (sv_ret (ev_and (ev_cmp op_notN od_isnot (ev_var 2 (pv 2)) ev_non (nomark _)) (ev_one (ev_call (ok_are_parts T) (hr.mono (by decide)) rfl T.m_are_parts T.F_are_parts.kp T.b_are_parts rfl (av_cons (ev_var 0 (pv 0)) (av_cons (ev_var 2 (pv 2)) (av_cons (ev_sl (ev_var 1 (pv 1)) (ov_some ev_int) ov_none) av_nil))))))))))
theorem sc_show_part : FnScope N_show_part P_show_part (defScope s_show_part) := ⟨rfl, rfl, rfl, by decide +kernel, rfl, by decide +kernel, by decide +kernel⟩
theorem ok_show_part (T : Txt K mg A) : FnOk P w K mg base CX0 1 A.show_part A.d_show_part P_show_part (spP K 1 M_show_part) :=
  fun_pure (k := 0) (N := N_show_part) (ps := P_show_part) (fb := B_show_part) T.F_show_part sc_show_part fun cdv _ outer s H E hr =>
      (bv_cons (sv_if (tv_tru (ev_isi (isi_tuple _) rfl T.n_isinstance PyProof.Rows.boot_isinstance (pe_ty rfl T.n_tuple (by decide +kernel)) (ev_var 0 (pv 0)))) (bv_one (sv_ret (ev_join ev_str (ev_of_fv (fv_lc [("house", 1)] (by decide) (tg_name (by decide)) rfl sc_show_part.nd (iv_seq (ev_var 0 (pv 0))) (blkOk_by (own := [("house", 1)]) (N := N_show_part) (sc := defScope s_show_part) (by decide +kernel)) (fun _ _ _ _ _ => (gv_name (i := 1) sc_show_part.nd rfl (by first | exact Or.inl rfl | exact Or.inr rfl))) (fun _ _ _ _ _ => tvs_nil) (fun _ _ _ _ _ => (ev_callTy cr_str cd_str rfl T.n_str (by decide +kernel) (av_cons (ev_var 1 (pv 1)) av_nil)))))))) bv_nil)
      (bv_one (sv_ret (ev_callTy cr_str cd_str rfl T.n_str (by decide +kernel) (av_cons (ev_var 0 (pv 0)) av_nil)))))
theorem sc_show_words : FnScope N_show_words P_show_words (defScope s_show_words) := ⟨rfl, rfl, rfl, by decide +kernel, rfl, by decide +kernel, by decide +kernel⟩
theorem ok_show_words (T : Txt K mg A) : FnOk P w K mg base CX0 2 A.show_words A.d_show_words P_show_words (spP K 1 M_show_words) :=
  fun_pure (k := 1) (N := N_show_words) (ps := P_show_words) (fb := B_show_words) T.F_show_words sc_show_words fun cdv _ outer s H E hr =>
      (bv_one (sv_ret (ev_join ev_str (ev_of_fv (fv_lc [("part", 1)] (by decide) (tg_name (by decide)) rfl sc_show_words.nd (iv_seq (ev_var 0 (pv 0))) (blkOk_by (own := [("part", 1)]) (N := N_show_words) (sc := defScope s_show_words) (by decide +kernel)) (fun _ _ _ _ _ => (gv_name (i := 1) sc_show_words.nd rfl (by first | exact Or.inl rfl | exact Or.inr rfl))) (fun _ _ _ _ _ => tvs_nil) (fun _ _ _ _ _ => (ev_call (ok_show_part T) (hr.mono (by decide)) rfl T.m_show_part T.F_show_part.kp T.b_show_part rfl (av_cons (ev_var 1 (pv 1)) av_nil))))))))
theorem sc_show_deed : FnScope N_show_deed P_show_deed (defScope s_show_deed) := ⟨rfl, rfl, rfl, by decide +kernel, rfl, by decide +kernel, by decide +kernel⟩
theorem ok_show_deed (T : Txt K mg A) : FnOk P w K mg base CX0 3 A.show_deed A.d_show_deed P_show_deed (spP K 1 M_show_deed) :=
  fun_pure (k := 2) (N := N_show_deed) (ps := P_show_deed) (fb := B_show_deed) T.F_show_deed sc_show_deed fun cdv _ outer s H E hr =>
      (bv_one (sv_ret (ev_call (ok_show_words T) (hr.mono (by decide)) rfl T.m_show_words T.F_show_words.kp T.b_show_words rfl (av_cons (ev_var 0 (pv 0)) av_nil))))
theorem sc_show_log : FnScope N_show_log P_show_log (defScope s_show_log) := ⟨rfl, rfl, rfl, by decide +kernel, rfl, by decide +kernel, by decide +kernel⟩
theorem ok_show_log (T : Txt K mg A) : FnOk P w K mg base CX0 3 A.show_log A.d_show_log P_show_log (spP K 1 M_show_log) :=
  fun_pure (k := 2) (N := N_show_log) (ps := P_show_log) (fb := B_show_log) T.F_show_log sc_show_log fun cdv _ outer s H E hr =>
      (bv_cons (sv_if (tv_not (tv_tru (ev_var 0 (pv 0)))) (bv_one (sv_ret (ev_globS rfl T.m_g_EMPTY_LOG))) bv_nil)
      (bv_one (sv_ret (ev_join ev_str (ev_of_fv (fv_lc [("entry", 1)] (by decide) (tg_name (by decide)) rfl sc_show_log.nd (iv_seq (ev_var 0 (pv 0))) (blkOk_by (own := [("entry", 1)]) (N := N_show_log) (sc := defScope s_show_log) (by decide +kernel)) (fun _ _ _ _ _ => (gv_name (i := 1) sc_show_log.nd rfl (by first | exact Or.inl rfl | exact Or.inr rfl))) (fun _ _ _ _ _ => tvs_nil) (fun _ _ _ _ _ => (ev_call (ok_show_words T) (hr.mono (by decide)) rfl T.m_show_words T.F_show_words.kp T.b_show_words rfl (av_cons (ev_var 1 (pv 1)) av_nil)))))))))
theorem sc_is_number_text : FnScope N_is_number_text P_is_number_text (defScope s_is_number_text) := ⟨rfl, rfl, rfl, by decide +kernel, rfl, by decide +kernel, by decide +kernel⟩
theorem ok_is_number_text (T : Txt K mg A) : FnOk P w K mg base CX0 1 A.is_number_text A.d_is_number_text P_is_number_text (spP K 1 M_is_number_text) :=
  fun_pure (k := 0) (N := N_is_number_text) (ps := P_is_number_text) (fb := B_is_number_text) T.F_is_number_text sc_is_number_text fun cdv _ outer s H E hr =>
      (bv_cons (sv_if (tv_w (wv_or (tv_cmp (op_eqD hr.units) od_eq (ev_var 0 (pv 0)) ev_str (nomark _)) (wv_or1 (tv_not (tv_tru (ev_callB (cr_all rfl) cd_all rfl T.n_all (by decide +kernel) (av_cons (ev_of_fv (fv_lc [("sign", 1)] (by decide) (tg_name (by decide)) rfl sc_is_number_text.nd (iv_str (ev_var 0 (pv 0))) (blkOk_by (own := [("sign", 1)]) (N := N_is_number_text) (sc := defScope s_is_number_text) (by decide +kernel)) (fun _ _ _ _ _ => (gv_name (i := 1) sc_is_number_text.nd rfl (by first | exact Or.inl rfl | exact Or.inr rfl))) (fun _ _ _ _ _ => tvs_nil) (fun _ _ _ _ _ => (ev_cmp op_in_str od_inS (ev_var 1 (pv 1)) (ev_globS rfl T.m_g_FIGURES) rfl)))) av_nil))))))) (bv_one (sv_ret ev_bl)) bv_nil)
      (bv_one (sv_ret (ev_or (ev_cmp (op_eqD hr.units) od_eq (ev_var 0 (pv 0)) ev_str (nomark _)) (ev_one (ev_cmp (op_neD hr.units) od_ne (ev_ix (ev_var 0 (pv 0)) ev_int (fun _ _ => rfl)) ev_str (nomark _)))))))
theorem sc_number_of : FnScope N_number_of P_number_of (defScope s_number_of) := ⟨rfl, rfl, rfl, by decide +kernel, rfl, by decide +kernel, by decide +kernel⟩
theorem ok_number_of (T : Txt K mg A) : FnOk P w K mg base CX0 1 A.number_of A.d_number_of P_number_of (spP K 1 M_number_of) :=
  fun_pure (k := 0) (N := N_number_of) (ps := P_number_of) (fb := B_number_of) T.F_number_of sc_number_of fun cdv _ outer s H E hr =>
      (bv_cons (sv_set 1 (by decide) sc_number_of.nd rfl (by first | exact Or.inl rfl | exact Or.inr rfl) ev_int)
      (bv_cons (sv_pre (vs := [2]) (sv_for PassesOwn.never rfl (iv_str (ev_var 0 (pv 0))) (gv_name (i := 2) sc_number_of.nd rfl (by first | exact Or.inl rfl | exact Or.inr rfl)) (tg_name (by decide)) (bv_clr (vs := [2]) (bv_one (sv_set 1 (by decide) sc_number_of.nd rfl (by first | exact Or.inl rfl | exact Or.inr rfl) (ev_op op_plus od_add (ev_op op_mul od_mul (ev_var 1 (pv 1)) ev_int) (ev_indexS (ev_globS rfl T.m_g_FIGURES) (ev_var 2 (pv 2)))))))))
      (bv_one (sv_ret (ev_var 1 (pv 1))))))
theorem sc_read_number : FnScope N_read_number P_read_number (defScope s_read_number) := ⟨rfl, rfl, rfl, by decide +kernel, rfl, by decide +kernel, by decide +kernel⟩
theorem ok_read_number (T : Txt K mg A) : FnOk P w K mg base CX0 2 A.read_number A.d_read_number P_read_number (spP K 1 M_read_number) :=
  fun_pure (k := 1) (N := N_read_number) (ps := P_read_number) (fb := B_read_number) T.F_read_number sc_read_number fun cdv _ outer s H E hr =>
      (bv_cons (sv_if (tv_not (tv_tru (ev_call (ok_is_number_text T) (hr.mono (by decide)) rfl T.m_is_number_text T.F_is_number_text.kp T.b_is_number_text rfl (av_cons (ev_var 0 (pv 0)) av_nil)))) (bv_one sv_no) bv_nil)
      (bv_one (sv_ret (ev_call (ok_number_of T) (hr.mono (by decide)) rfl T.m_number_of T.F_number_of.kp T.b_number_of rfl (av_cons (ev_var 0 (pv 0)) av_nil)))))
theorem sc_read_part : FnScope N_read_part P_read_part (defScope s_read_part) := ⟨rfl, rfl, rfl, by decide +kernel, rfl, by decide +kernel, by decide +kernel⟩
theorem ok_read_part (T : Txt K mg A) : FnOk P w K mg base CX0 3 A.read_part A.d_read_part P_read_part (spP K 2 M_read_part) :=
  fun_pure (k := 2) (N := N_read_part) (ps := P_read_part) (fb := B_read_part) T.F_read_part sc_read_part fun cdv _ outer s H E hr =>
      (bv_cons (sv_if (tv_cmp (op_eqD hr.units) od_eq (ev_var 0 (pv 0)) ev_str (nomark _)) (bv_one (sv_ret (ev_var 1 (pv 1)))) bv_nil)
      (bv_cons (sv_if (tv_cmp (op_eqD hr.units) od_eq (ev_var 0 (pv 0)) ev_str (nomark _)) (bv_one (sv_ret (ev_callTy call_tuple_of cd_tuple rfl T.n_tuple (by decide +kernel) (av_cons (ev_of_fv (fv_lc [("house", 2)] (by decide) (tg_name (by decide)) rfl sc_read_part.nd (iv_seq (ev_split (ev_var 1 (pv 1)) ev_str)) (blkOk_by (own := [("house", 2)]) (N := N_read_part) (sc := defScope s_read_part) (by decide +kernel)) (fun _ _ _ _ _ => (gv_name (i := 2) sc_read_part.nd rfl (by first | exact Or.inl rfl | exact Or.inr rfl))) (fun _ _ _ _ _ => tvs_nil) (fun _ _ _ _ _ => (ev_call (ok_read_number T) (hr.mono (by decide)) rfl T.m_read_number T.F_read_number.kp T.b_read_number rfl (av_cons (ev_var 2 (pv 2)) av_nil))))) av_nil)))) bv_nil)
      (bv_one (sv_ret (ev_call (ok_read_number T) (hr.mono (by decide)) rfl T.m_read_number T.F_read_number.kp T.b_read_number rfl (av_cons (ev_var 1 (pv 1)) av_nil))))))
theorem sc_read_words : FnScope N_read_words P_read_words (defScope s_read_words) := ⟨rfl, rfl, rfl, by decide +kernel, rfl, by decide +kernel, by decide +kernel⟩
theorem ok_read_words (T : Txt K mg A) : FnOk P w K mg base CX0 4 A.read_words A.d_read_words P_read_words (spP K 2 M_read_words) :=
  fun_pure (k := 3) (N := N_read_words) (ps := P_read_words) (fb := B_read_words) T.F_read_words sc_read_words fun cdv _ outer s H E hr =>
      (bv_cons (sv_if (tv_w (wv_or (tv_cmp op_isN od_is (ev_var 0 (pv 0)) ev_non (nomark _)) (wv_or1 (tv_cmp (op_neD hr.units) od_ne (ev_callB call_len cd_len rfl T.n_len (by decide +kernel) (av_cons (ev_var 1 (pv 1)) av_nil)) (ev_op op_plus od_add (ev_callB call_len cd_len rfl T.n_len (by decide +kernel) (av_cons (ev_var 0 (pv 0)) av_nil)) ev_int) (nomark _))))) (bv_one sv_no) bv_nil)
      (bv_cons (sv_setLc 2 [("kind", 3), ("word", 4)] (by decide) (by decide) (tg_tup (is := [3, 4]) (by decide) rfl) rfl sc_read_words.nd rfl rfl (sw_true rfl rfl rfl (by decide +kernel)) (iv_zip rfl T.n_zip (av_cons (ev_var 0 (pv 0)) (av_cons (ev_sl (ev_var 1 (pv 1)) (ov_some ev_int) ov_none) av_nil))) (blkOk_by (own := [("kind", 3), ("word", 4)]) (N := N_read_words) (sc := defScope s_read_words) (by decide +kernel)) (fun _ _ _ _ _ => (gv_tup rfl (gvs_cons (gv_name (i := 3) sc_read_words.nd rfl (by first | exact Or.inl rfl | exact Or.inr rfl)) (gvs_cons (gv_name (i := 4) sc_read_words.nd rfl (by first | exact Or.inl rfl | exact Or.inr rfl)) gvs_nil)))) (fun _ _ _ _ _ => tvs_nil) (fun _ _ _ _ _ => (ev_call (ok_read_part T) (hr.mono (by decide)) rfl T.m_read_part T.F_read_part.kp T.b_read_part rfl (av_cons (ev_var 3 (pv 3)) (av_cons (ev_var 4 (pv 4)) av_nil)))))
      (bv_one (sv_ret (ev_tup (av_cons (ev_ix (ev_var 1 (pv 1)) ev_int (fun _ _ => rfl)) (av_star (ev_var 2 (pv 2)))))))))
theorem sc_read_deed : FnScope N_read_deed P_read_deed (defScope s_read_deed) := ⟨rfl, rfl, rfl, by decide +kernel, rfl, by decide +kernel, by decide +kernel⟩
theorem ok_read_deed (T : Txt K mg A) : FnOk P w K mg base CX0 7 A.read_deed A.d_read_deed P_read_deed (spP K 2 M_read_deed) :=
  fun_pure (k := 6) (N := N_read_deed) (ps := P_read_deed) (fb := B_read_deed) T.F_read_deed sc_read_deed fun cdv _ outer s H E hr =>
      (bv_cons (sv_set 2 (by decide) sc_read_deed.nd rfl (by first | exact Or.inl rfl | exact Or.inr rfl) (ev_split (ev_var 1 (pv 1)) ev_str))
      (bv_cons (sv_set 3 (by decide) sc_read_deed.nd rfl (by first | exact Or.inl rfl | exact Or.inr rfl) (ev_call (ok_read_words T) (hr.mono (by decide)) rfl T.m_read_words T.F_read_words.kp T.b_read_words rfl (av_cons (ev_tabGet rfl T.m_g_DEED_PARTS T.p_g_DEED_PARTS T.r_g_DEED_PARTS (ev_ix (ev_var 2 (pv 2)) ev_int (fun _ _ => rfl)) ⟨rfl, rfl, rfl, rfl⟩) (av_cons (ev_var 2 (pv 2)) av_nil))))
      (bv_cons (sv_if (tv_not (tv_tru (ev_call (ok_is_deed T) (hr.mono (by decide)) rfl T.m_is_deed T.F_is_deed.kp T.b_is_deed rfl (av_cons (ev_var 0 (pv 0)) (av_cons (ev_var 3 (pv 3)) av_nil))))) (bv_one sv_no) bv_nil)
      (bv_one (sv_ret (ev_var 3 (pv 3)))))))
theorem sc_read_entry : FnScope N_read_entry P_read_entry (defScope s_read_entry) := ⟨rfl, rfl, rfl, by decide +kernel, rfl, by decide +kernel, by decide +kernel⟩
theorem ok_read_entry (T : Txt K mg A) : FnOk P w K mg base CX0 7 A.read_entry A.d_read_entry P_read_entry (spP K 2 M_read_entry) :=
  fun_pure (k := 6) (N := N_read_entry) (ps := P_read_entry) (fb := B_read_entry) T.F_read_entry sc_read_entry fun cdv _ outer s H E hr =>
      (bv_cons (sv_set 2 (by decide) sc_read_entry.nd rfl (by first | exact Or.inl rfl | exact Or.inr rfl) (ev_split (ev_var 1 (pv 1)) ev_str))
      (bv_cons (sv_set 3 (by decide) sc_read_entry.nd rfl (by first | exact Or.inl rfl | exact Or.inr rfl) (ev_call (ok_read_words T) (hr.mono (by decide)) rfl T.m_read_words T.F_read_words.kp T.b_read_words rfl (av_cons (ev_tabGet rfl T.m_g_ENTRY_PARTS T.p_g_ENTRY_PARTS T.r_g_ENTRY_PARTS (ev_ix (ev_var 2 (pv 2)) ev_int (fun _ _ => rfl)) ⟨rfl, rfl, rfl, rfl⟩) (av_cons (ev_var 2 (pv 2)) av_nil))))
      (bv_cons (sv_if (tv_not (tv_tru (ev_call (ok_is_entry T) (hr.mono (by decide)) rfl T.m_is_entry T.F_is_entry.kp T.b_is_entry rfl (av_cons (ev_var 0 (pv 0)) (av_cons (ev_var 3 (pv 3)) av_nil))))) (bv_one sv_no) bv_nil)
      (bv_one (sv_ret (ev_var 3 (pv 3)))))))
theorem sc_read_log : FnScope N_read_log P_read_log (defScope s_read_log) := ⟨rfl, rfl, rfl, by decide +kernel, rfl, by decide +kernel, by decide +kernel⟩
theorem ok_read_log (T : Txt K mg A) : FnOk P w K mg base CX0 8 A.read_log A.d_read_log P_read_log (spP K 2 M_read_log) :=
  fun_pure (k := 7) (N := N_read_log) (ps := P_read_log) (fb := B_read_log) T.F_read_log sc_read_log fun cdv _ outer s H E hr =>
      (bv_cons (sv_if (tv_cmp (op_eqD hr.units) od_eq (ev_var 1 (pv 1)) (ev_globS rfl T.m_g_EMPTY_LOG) (nomark _)) (bv_one (sv_ret (ev_tup av_nil))) bv_nil)
      (bv_one (sv_ret (ev_callTy call_tuple_of cd_tuple rfl T.n_tuple (by decide +kernel) (av_cons (ev_of_fv (fv_lc [("line", 2)] (by decide) (tg_name (by decide)) rfl sc_read_log.nd (iv_seq (ev_split (ev_var 1 (pv 1)) ev_str)) (blkOk_by (own := [("line", 2)]) (N := N_read_log) (sc := defScope s_read_log) (by decide +kernel)) (fun _ _ _ _ _ => (gv_name (i := 2) sc_read_log.nd rfl (by first | exact Or.inl rfl | exact Or.inr rfl))) (fun _ _ _ _ _ => tvs_nil) (fun _ _ _ _ _ => (ev_call (ok_read_entry T) (hr.mono (by decide)) rfl T.m_read_entry T.F_read_entry.kp T.b_read_entry rfl (av_cons (ev_var 0 (pv 0)) (av_cons (ev_var 2 (pv 2)) av_nil)))))) av_nil)))))
theorem sc_law_mixed : FnScope N_law_mixed P_law_mixed (defScope s_law_mixed) := ⟨rfl, rfl, rfl, by decide +kernel, rfl, by decide +kernel, by decide +kernel⟩
theorem ok_law_mixed (T : Txt K mg A) : FnOk P w K mg base CX0 1 A.law_mixed A.d_law_mixed P_law_mixed (spP K 2 M_law_mixed) :=
  fun_pure (k := 0) (N := N_law_mixed) (ps := P_law_mixed) (fb := B_law_mixed) T.F_law_mixed sc_law_mixed fun cdv _ outer s H E hr =>
      (bv_cons (sv_set 2 (by decide) sc_law_mixed.nd rfl (by first | exact Or.inl rfl | exact Or.inr rfl) (ev_op op_mod od_mod (ev_op op_mul od_mul (ev_op op_plus od_add (ev_op op_plus od_add (ev_op op_mod od_mod (ev_var 0 (pv 0)) ev_int) (ev_op op_mul od_mul ev_int (ev_var 1 (pv 1)))) ev_int) ev_int) ev_int))
      (bv_cons (sv_set 2 (by decide) sc_law_mixed.nd rfl (by first | exact Or.inl rfl | exact Or.inr rfl) (ev_op op_mod od_mod (ev_op op_mul od_mul (ev_var 2 (pv 2)) (ev_var 2 (pv 2))) ev_int))
      (bv_one (sv_ret (ev_op op_fdivB od_fdiv (ev_op op_mod od_mod (ev_op op_mul od_mul (ev_op op_plus od_add (ev_var 2 (pv 2)) (ev_op op_mul od_mul ev_int (ev_op op_plus od_add (ev_var 1 (pv 1)) ev_int))) ev_int) ev_int) ev_int)))))
theorem sc_law_pot : FnScope N_law_pot P_law_pot (defScope s_law_pot) := ⟨rfl, rfl, rfl, by decide +kernel, rfl, by decide +kernel, by decide +kernel⟩
theorem ok_law_pot (T : Txt K mg A) : FnOk P w K mg base CX0 1 A.law_pot A.d_law_pot P_law_pot (spN K 1 M_law_pot) :=
  fun_new (k := 0) (N := N_law_pot) (ps := P_law_pot) (fb := B_law_pot) T.F_law_pot sc_law_pot fun cdv _ outer s H E hr =>
      (bv_one (sv_retF (fv_lst (av_cons (ev_op op_mulB od_mulB (ev_op op_mod od_mod (ev_var 0 (pv 0)) (ev_op op_mulB od_mulB (ev_op op_mulB od_mulB (ev_op op_mulB od_mulB (ev_op op_pow od_pow ev_int ev_int) (ev_op op_pow od_pow ev_int ev_int)) (ev_op op_pow od_pow ev_int ev_int)) (ev_op op_pow od_pow ev_int ev_int))) (ev_callTy call_int1 cd_int rfl T.n_int (by decide +kernel) (av_cons (ev_cmp op_ge od_ge (ev_var 0 (pv 0)) (ev_op op_pow od_pow ev_int ev_int) (nomark _)) av_nil))) (av_cons (ev_var 0 (pv 0)) (av_cons ev_int av_nil))))))
theorem sc_law_take : FnScope N_law_take P_law_take (defScope s_law_take) := ⟨rfl, rfl, rfl, by decide +kernel, rfl, by decide +kernel, by decide +kernel⟩
theorem ok_law_take (T : Txt K mg A) : FnOk P w K mg base CX0 2 A.law_take A.d_law_take P_law_take (spR K 2 M_law_take) :=
  fun_row (k := 1) (N := N_law_take) (ps := P_law_take) (fb := B_law_take) T.F_law_take sc_law_take (by decide) fun cdv _ outer s H E hr =>
      (bv_cons (sv_setIx 0 (ev_op op_plus od_add (ev_ixM 0 (pv 0) ev_int (fun _ _ => rfl)) ev_int) (pv 0) ev_int)
      (bv_cons (sv_if (tv_cmp op_gt od_gt (ev_ixM 0 (pv 0) ev_int (fun _ _ => rfl)) ev_int (nomark _)) (bv_cons (sv_set 2 (by decide) sc_law_take.nd rfl (by first | exact Or.inl rfl | exact Or.inr rfl) (ev_op op_mod od_mod (ev_ixM 0 (pv 0) ev_int (fun _ _ => rfl)) (ev_var 1 (pv 1))))
      (bv_cons (sv_setIx 0 (ev_op op_fdivB od_fdiv (ev_ixM 0 (pv 0) ev_int (fun _ _ => rfl)) (ev_var 1 (pv 1))) (pv 0) ev_int)
      (bv_one (sv_ret (ev_var 2 (pv 2)))))) bv_nil)
      (bv_one (sv_ret (ev_op op_mod od_mod (ev_call (ok_law_mixed T) (hr.mono (by decide)) rfl T.m_law_mixed T.F_law_mixed.kp T.b_law_mixed rfl (av_cons (ev_ixM 0 (pv 0) ev_int (fun _ _ => rfl)) (av_cons (ev_ixM 0 (pv 0) ev_int (fun _ _ => rfl)) av_nil))) (ev_var 1 (pv 1)))))))
theorem sc_law_name : FnScope N_law_name P_law_name (defScope s_law_name) := ⟨rfl, rfl, rfl, by decide +kernel, rfl, by decide +kernel, by decide +kernel⟩
theorem ok_law_name (T : Txt K mg A) : FnOk P w K mg base CX0 3 A.law_name A.d_law_name P_law_name (spR K 1 M_law_name) :=
  fun_row (k := 2) (N := N_law_name) (ps := P_law_name) (fb := B_law_name) T.F_law_name sc_law_name (by decide) fun cdv _ outer s H E hr =>
      (bv_cons (sv_set 1 (by decide) sc_law_name.nd rfl (by first | exact Or.inl rfl | exact Or.inr rfl) ev_str)
      (bv_cons (sv_if (tv_cmp (op_eqD hr.units) od_eq (ev_row 0 (ok_law_take T) (hr.mono (by decide)) rfl T.m_law_take T.F_law_take.kp T.b_law_take (pv 0) (av_cons ev_int av_nil)) ev_int (nomark _)) (bv_one (sv_ret (ev_ix (ev_lst (av_cons ev_str (av_cons ev_str (av_cons ev_str (av_cons ev_str (av_cons ev_str (av_cons ev_str (av_cons ev_str (av_cons ev_str av_nil))))))))) (ev_row 0 (ok_law_take T) (hr.mono (by decide)) rfl T.m_law_take T.F_law_take.kp T.b_law_take (pv 0) (av_cons ev_int av_nil)) (fun _ _ => rfl)))) bv_nil)
      (bv_one (sv_ret (ev_join ev_str (ev_of_fv (fv_lc [("k", 2)] (by decide) (tg_name (by decide)) rfl sc_law_name.nd (iv_range1 rfl T.n_range (av_cons (ev_op op_plus od_add ev_int (ev_row 0 (ok_law_take T) (hr.mono (by decide)) rfl T.m_law_take T.F_law_take.kp T.b_law_take (pv 0) (av_cons ev_int av_nil))) av_nil)) (blkOk_by (own := [("k", 2)]) (N := N_law_name) (sc := defScope s_law_name) (by decide +kernel)) (fun _ _ _ _ _ => (gv_name (i := 2) sc_law_name.nd rfl (by first | exact Or.inl rfl | exact Or.inr rfl))) (fun _ _ _ _ _ => tvs_nil) (fun _ _ _ _ _ => (ev_ix (ev_var 1 (pv 1)) (ev_row 0 (ok_law_take T) (hr.mono (by decide)) rfl T.m_law_take T.F_law_take.kp T.b_law_take (pv 0) (av_cons ev_int av_nil)) (fun _ _ => rfl))))))))))
theorem sc_law_number : FnScope N_law_number P_law_number (defScope s_law_number) := ⟨rfl, rfl, rfl, by decide +kernel, rfl, by decide +kernel, by decide +kernel⟩
theorem ok_law_number (T : Txt K mg A) : FnOk P w K mg base CX0 3 A.law_number A.d_law_number P_law_number (spR K 2 M_law_number) :=
  fun_row (k := 2) (N := N_law_number) (ps := P_law_number) (fb := B_law_number) T.F_law_number sc_law_number (by decide) fun cdv _ outer s H E hr =>
      (bv_cons (sv_set 2 (by decide) sc_law_number.nd rfl (by first | exact Or.inl rfl | exact Or.inr rfl) (ev_op op_plus od_add (ev_op op_plus od_add (ev_op op_mul od_mul (ev_row 0 (ok_law_take T) (hr.mono (by decide)) rfl T.m_law_take T.F_law_take.kp T.b_law_take (pv 0) (av_cons (ev_op op_pow od_pow ev_int ev_int) av_nil)) (ev_op op_pow od_pow ev_int ev_int)) (ev_op op_mul od_mul (ev_row 0 (ok_law_take T) (hr.mono (by decide)) rfl T.m_law_take T.F_law_take.kp T.b_law_take (pv 0) (av_cons (ev_op op_pow od_pow ev_int ev_int) av_nil)) (ev_op op_pow od_pow ev_int ev_int))) (ev_row 0 (ok_law_take T) (hr.mono (by decide)) rfl T.m_law_take T.F_law_take.kp T.b_law_take (pv 0) (av_cons (ev_op op_pow od_pow ev_int ev_int) av_nil))))
      (bv_one (sv_ret (ev_op op_plus od_add (ev_var 1 (pv 1)) (ev_ix (ev_lst (av_cons (ev_row 0 (ok_law_take T) (hr.mono (by decide)) rfl T.m_law_take T.F_law_take.kp T.b_law_take (pv 0) (av_cons ev_int av_nil)) (av_cons (ev_row 0 (ok_law_take T) (hr.mono (by decide)) rfl T.m_law_take T.F_law_take.kp T.b_law_take (pv 0) (av_cons ev_int av_nil)) (av_cons (ev_row 0 (ok_law_take T) (hr.mono (by decide)) rfl T.m_law_take T.F_law_take.kp T.b_law_take (pv 0) (av_cons ev_int av_nil)) (av_cons (ev_op op_sub od_sub (ev_var 2 (pv 2)) (ev_var 1 (pv 1))) av_nil))))) (ev_row 0 (ok_law_take T) (hr.mono (by decide)) rfl T.m_law_take T.F_law_take.kp T.b_law_take (pv 0) (av_cons ev_int av_nil)) (fun _ _ => rfl))))))
theorem sc_law_any_deed : FnScope N_law_any_deed P_law_any_deed (defScope s_law_any_deed) := ⟨rfl, rfl, rfl, by decide +kernel, rfl, by decide +kernel, by decide +kernel⟩
theorem ok_law_any_deed (T : Txt K mg A) : FnOk P w K mg base CX0 4 A.law_any_deed A.d_law_any_deed P_law_any_deed (spR K 2 M_law_any_deed) :=
  fun_row (k := 3) (N := N_law_any_deed) (ps := P_law_any_deed) (fb := B_law_any_deed) T.F_law_any_deed sc_law_any_deed (by decide) fun cdv _ outer s H E hr =>
      (bv_cons (sv_set 2 (by decide) sc_law_any_deed.nd rfl (by first | exact Or.inl rfl | exact Or.inr rfl) (ev_row 0 (ok_law_take T) (hr.mono (by decide)) rfl T.m_law_take T.F_law_take.kp T.b_law_take (pv 0) (av_cons (ev_var 1 (pv 1)) av_nil)))
      (bv_cons (sv_set 3 (by decide) sc_law_any_deed.nd rfl (by first | exact Or.inl rfl | exact Or.inr rfl) (ev_lst (av_cons ev_str (av_cons ev_str (av_cons ev_str (av_cons ev_str (av_cons ev_str (av_cons ev_str (av_cons ev_str (av_cons ev_str (av_cons ev_str (av_cons ev_str (av_cons ev_str av_nil)))))))))))))
      (bv_cons (sv_set 4 (by decide) sc_law_any_deed.nd rfl (by first | exact Or.inl rfl | exact Or.inr rfl) (ev_ix (ev_var 3 (pv 3)) (ev_row 0 (ok_law_take T) (hr.mono (by decide)) rfl T.m_law_take T.F_law_take.kp T.b_law_take (pv 0) (av_cons ev_int av_nil)) (fun _ _ => rfl)))
      (bv_cons (sv_if (tv_cmp (op_eqD hr.units) od_eq (ev_var 4 (pv 4)) ev_str (nomark _)) (bv_one (sv_ret (ev_tup (av_cons (ev_var 4 (pv 4)) (av_cons (ev_var 2 (pv 2)) (av_cons (ev_row 0 (ok_law_name T) (hr.mono (by decide)) rfl T.m_law_name T.F_law_name.kp T.b_law_name (pv 0) av_nil) (av_cons (ev_row 0 (ok_law_name T) (hr.mono (by decide)) rfl T.m_law_name T.F_law_name.kp T.b_law_name (pv 0) av_nil) av_nil))))))) bv_nil)
      (bv_cons (sv_if (tv_cmp (op_inD (room70 hr)) od_in (ev_var 4 (pv 4)) (ev_tup (av_cons ev_str (av_cons ev_str av_nil))) rfl) (bv_one (sv_ret (ev_tup (av_cons (ev_var 4 (pv 4)) (av_cons (ev_var 2 (pv 2)) (av_cons (ev_row 0 (ok_law_name T) (hr.mono (by decide)) rfl T.m_law_name T.F_law_name.kp T.b_law_name (pv 0) av_nil) av_nil)))))) bv_nil)
      (bv_cons (sv_if (tv_cmp (op_inD (room70 hr)) od_in (ev_var 4 (pv 4)) (ev_tup (av_cons ev_str (av_cons ev_str (av_cons ev_str av_nil)))) rfl) (bv_one (sv_ret (ev_tup (av_cons (ev_var 4 (pv 4)) (av_cons (ev_row 0 (ok_law_number T) (hr.mono (by decide)) rfl T.m_law_number T.F_law_number.kp T.b_law_number (pv 0) (av_cons ev_int av_nil)) av_nil))))) bv_nil)
      (bv_cons (sv_if (tv_cmp (op_inD (room70 hr)) od_in (ev_var 4 (pv 4)) (ev_tup (av_cons ev_str (av_cons ev_str av_nil))) rfl) (bv_one (sv_ret (ev_tup (av_cons (ev_var 4 (pv 4)) (av_cons (ev_var 2 (pv 2)) av_nil))))) bv_nil)
      (bv_cons (sv_set 5 (by decide) sc_law_any_deed.nd rfl (by first | exact Or.inl rfl | exact Or.inr rfl) (ev_callTy call_tuple_of cd_tuple rfl T.n_tuple (by decide +kernel) (av_cons (ev_of_fv (fv_lc [("other", 6)] (by decide) (tg_name (by decide)) rfl sc_law_any_deed.nd (iv_range1 rfl T.n_range (av_cons (ev_var 1 (pv 1)) av_nil)) (blkOk_by (own := [("other", 6)]) (N := N_law_any_deed) (sc := defScope s_law_any_deed) (by decide +kernel)) (fun _ _ _ _ _ => (gv_name (i := 6) sc_law_any_deed.nd rfl (by first | exact Or.inl rfl | exact Or.inr rfl))) (fun _ _ _ _ _ => (tvs_one (tv_cmp (op_eqD hr.units) od_eq (ev_row 0 (ok_law_take T) (hr.mono (by decide)) rfl T.m_law_take T.F_law_take.kp T.b_law_take (pv 0) (av_cons ev_int av_nil)) ev_int (nomark _)))) (fun _ _ _ _ _ => (ev_var 6 (pv 6))))) av_nil)))
      (bv_cons (sv_if (tv_w (wv_and (tv_cmp (op_eqD hr.units) od_eq (ev_var 4 (pv 4)) ev_str (nomark _)) (wv_and1 (tv_chain op_lt op_lt od_lt od_lt ev_int (ev_callB call_len cd_len rfl T.n_len (by decide +kernel) (av_cons (ev_var 5 (pv 5)) av_nil)) (ev_var 1 (pv 1)))))) (bv_one (sv_ret (ev_tup (av_cons (ev_var 4 (pv 4)) (av_cons (ev_var 5 (pv 5)) av_nil))))) bv_nil)
      (bv_one (sv_ret (ev_ix (ev_lst (av_cons (ev_tup (av_cons ev_str av_nil)) (av_cons (ev_tup (av_cons ev_str av_nil)) av_nil))) (ev_row 0 (ok_law_take T) (hr.mono (by decide)) rfl T.m_law_take T.F_law_take.kp T.b_law_take (pv 0) (av_cons ev_int av_nil)) (fun _ _ => rfl)))))))))))))
theorem sc_law_any_entry : FnScope N_law_any_entry P_law_any_entry (defScope s_law_any_entry) := ⟨rfl, rfl, rfl, by decide +kernel, rfl, by decide +kernel, by decide +kernel⟩
theorem ok_law_any_entry (T : Txt K mg A) : FnOk P w K mg base CX0 4 A.law_any_entry A.d_law_any_entry P_law_any_entry (spR K 2 M_law_any_entry) :=
  fun_row (k := 3) (N := N_law_any_entry) (ps := P_law_any_entry) (fb := B_law_any_entry) T.F_law_any_entry sc_law_any_entry (by decide) fun cdv _ outer s H E hr =>
      (bv_cons (sv_set 2 (by decide) sc_law_any_entry.nd rfl (by first | exact Or.inl rfl | exact Or.inr rfl) (ev_row 0 (ok_law_take T) (hr.mono (by decide)) rfl T.m_law_take T.F_law_take.kp T.b_law_take (pv 0) (av_cons (ev_var 1 (pv 1)) av_nil)))
      (bv_cons (sv_set 3 (by decide) sc_law_any_entry.nd rfl (by first | exact Or.inl rfl | exact Or.inr rfl) (ev_row 0 (ok_law_name T) (hr.mono (by decide)) rfl T.m_law_name T.F_law_name.kp T.b_law_name (pv 0) av_nil))
      (bv_cons (sv_set 4 (by decide) sc_law_any_entry.nd rfl (by first | exact Or.inl rfl | exact Or.inr rfl) (ev_callB (cr_maxD rfl) cd_max rfl T.n_max (by decide +kernel) (av_cons ev_int (av_cons (ev_row 0 (ok_law_number T) (hr.mono (by decide)) rfl T.m_law_number T.F_law_number.kp T.b_law_number (pv 0) (av_cons ev_int av_nil)) av_nil))))
      (bv_cons (sv_set 5 (by decide) sc_law_any_entry.nd rfl (by first | exact Or.inl rfl | exact Or.inr rfl) (ev_callB (cr_maxD rfl) cd_max rfl T.n_max (by decide +kernel) (av_cons ev_int (av_cons (ev_row 0 (ok_law_number T) (hr.mono (by decide)) rfl T.m_law_number T.F_law_number.kp T.b_law_number (pv 0) (av_cons ev_int av_nil)) av_nil))))
      (bv_cons (sv_setM 6 (by decide) sc_law_any_entry.nd rfl (by first | exact Or.inl rfl | exact Or.inr rfl) (fv_lst (av_cons (ev_tup (av_cons ev_str (av_cons (ev_var 3 (pv 3)) (av_cons (ev_var 4 (pv 4)) (av_cons (ev_row 0 (ok_law_name T) (hr.mono (by decide)) rfl T.m_law_name T.F_law_name.kp T.b_law_name (pv 0) av_nil) (av_cons (ev_var 5 (pv 5)) av_nil)))))) (av_cons (ev_tup (av_cons ev_str (av_cons (ev_var 3 (pv 3)) (av_cons (ev_var 4 (pv 4)) (av_cons (ev_var 2 (pv 2)) (av_cons (ev_var 5 (pv 5)) av_nil)))))) av_nil))))
      (bv_cons (sv_setM 6 (by decide) sc_law_any_entry.nd rfl (by first | exact Or.inl rfl | exact Or.inr rfl) (fv_cat (ev_var 6 (pv 6)) (ev_lst (av_cons (ev_tup (av_cons ev_str (av_cons (ev_var 3 (pv 3)) (av_cons (ev_var 4 (pv 4)) (av_cons (ev_var 2 (pv 2)) av_nil))))) (av_cons (ev_tup (av_cons ev_str (av_cons (ev_var 3 (pv 3)) (av_cons (ev_var 4 (pv 4)) av_nil)))) (av_cons (ev_tup (av_cons ev_str (av_cons (ev_var 3 (pv 3)) (av_cons (ev_var 2 (pv 2)) (av_cons (ev_var 4 (pv 4)) (av_cons (ev_var 5 (pv 5)) av_nil)))))) av_nil))))))
      (bv_cons (sv_app 6 (pv 6) (ev_tup (av_cons ev_str (av_cons (ev_var 3 (pv 3)) (av_cons (ev_var 2 (pv 2)) (av_cons (ev_var 4 (pv 4)) av_nil))))) (hpe := fun ha => pe_bm PySem.F.plainAttrs_list PySem.F.slot_list_append PySem.F.type_list_append mt_append (pv 6) ha))
      (bv_one (sv_ret (ev_ixM 6 (pv 6) (ev_row 0 (ok_law_take T) (hr.mono (by decide)) rfl T.m_law_take T.F_law_take.kp T.b_law_take (pv 0) (av_cons ev_int av_nil)) (fun _ _ => rfl)))))))))))
theorem sc_law_shown : FnScope N_law_shown P_law_shown (defScope s_law_shown) := ⟨rfl, rfl, rfl, by decide +kernel, rfl, by decide +kernel, by decide +kernel⟩
theorem ok_law_shown (T : Txt K mg A) : FnOk P w K mg base CX0 1 A.law_shown A.d_law_shown P_law_shown (spP K 1 M_law_shown) :=
  fun_pure (k := 0) (N := N_law_shown) (ps := P_law_shown) (fb := B_law_shown) T.F_law_shown sc_law_shown fun cdv _ outer s H E hr =>
      (bv_cons (sv_setM 1 (by decide) sc_law_shown.nd rfl (by first | exact Or.inl rfl | exact Or.inr rfl) (fv_lst av_nil))
      (bv_cons (sv_pre (vs := [2]) (sv_for PassesOwn.never rfl (iv_seq (ev_var 0 (pv 0))) (gv_name (i := 2) sc_law_shown.nd rfl (by first | exact Or.inl rfl | exact Or.inr rfl)) (tg_name (by decide)) (bv_clr (vs := [2]) (bv_one (sv_if (tv_tru (ev_isi (isi_tuple _) rfl T.n_isinstance PyProof.Rows.boot_isinstance (pe_ty rfl T.n_tuple (by decide +kernel)) (ev_var 2 (pv 2)))) (bv_one (sv_app 1 (pv 1) (ev_join ev_str (ev_of_fv (fv_lc [("house", 3)] (by decide) (tg_name (by decide)) rfl sc_law_shown.nd (iv_seq (ev_var 2 (pv 2))) (blkOk_by (own := [("house", 3)]) (N := N_law_shown) (sc := defScope s_law_shown) (by decide +kernel)) (fun _ _ _ _ _ => (gv_name (i := 3) sc_law_shown.nd rfl (by first | exact Or.inl rfl | exact Or.inr rfl))) (fun _ _ _ _ _ => tvs_nil) (fun _ _ _ _ _ => (ev_callTy cr_str cd_str rfl T.n_str (by decide +kernel) (av_cons (ev_var 3 (pv 3)) av_nil)))))) (hpe := fun ha => pe_bm PySem.F.plainAttrs_list PySem.F.slot_list_append PySem.F.type_list_append mt_append (pv 1) ha))) (bv_one (sv_app 1 (pv 1) (ev_callTy cr_str cd_str rfl T.n_str (by decide +kernel) (av_cons (ev_var 2 (pv 2)) av_nil)) (hpe := fun ha => pe_bm PySem.F.plainAttrs_list PySem.F.slot_list_append PySem.F.type_list_append mt_append (pv 1) ha))))))))
      (bv_one (sv_ret (ev_join ev_str (ev_var 1 (pv 1)))))))
theorem sc_law_same : FnScope N_law_same P_law_same (defScope s_law_same) := ⟨rfl, rfl, rfl, by decide +kernel, rfl, by decide +kernel, by decide +kernel⟩
theorem okn_law_same (T : Txt K mg A) : ∀ n, FnOk P w K mg base CX0 (0 + n) A.law_same A.d_law_same P_law_same (spP K 2 (Mn_law_same n))
  | 0 => fnOk_none
  | n + 1 => fun_pure (k := 0 + n) (N := N_law_same) (ps := P_law_same) (fb := B_law_same (Mn_law_same n)) T.F_law_same sc_law_same fun cdv _ outer s H E hr =>
      (bv_cons (sv_if (tv_tru (ev_isi (isi_tuple _) rfl T.n_isinstance PyProof.Rows.boot_isinstance (pe_ty rfl T.n_tuple (by decide +kernel)) (ev_var 1 (pv 1)))) (bv_cons (sv_if (tv_w (wv_or (tv_not (tv_tru (ev_isi (isi_tuple _) rfl T.n_isinstance PyProof.Rows.boot_isinstance (pe_ty rfl T.n_tuple (by decide +kernel)) (ev_var 0 (pv 0))))) (wv_or1 (tv_cmp (op_neD hr.units) od_ne (ev_callB call_len cd_len rfl T.n_len (by decide +kernel) (av_cons (ev_var 0 (pv 0)) av_nil)) (ev_callB call_len cd_len rfl T.n_len (by decide +kernel) (av_cons (ev_var 1 (pv 1)) av_nil)) (nomark _))))) (bv_one (sv_ret ev_bl)) bv_nil)
      (bv_one (sv_ret (ev_cmp (op_eqE hr.units) (od_emp false) (ev_of_fv (fv_lc [("k", 2)] (by decide) (tg_name (by decide)) rfl sc_law_same.nd (iv_range1 rfl T.n_range (av_cons (ev_callB call_len cd_len rfl T.n_len (by decide +kernel) (av_cons (ev_var 1 (pv 1)) av_nil)) av_nil)) (blkOk_by (own := [("k", 2)]) (N := N_law_same) (sc := defScope s_law_same) (by decide +kernel)) (fun _ _ _ _ _ => (gv_name (i := 2) sc_law_same.nd rfl (by first | exact Or.inl rfl | exact Or.inr rfl))) (fun _ _ _ _ _ => (tvs_one (tv_not (tv_tru (ev_call (okn_law_same T n) (hr.mono (by omega)) rfl T.m_law_same T.F_law_same.kp T.b_law_same rfl (av_cons (ev_ix (ev_var 0 (pv 0)) (ev_var 2 (pv 2)) (fun _ _ => rfl)) (av_cons (ev_ix (ev_var 1 (pv 1)) (ev_var 2 (pv 2)) (fun _ _ => rfl)) av_nil))))))) (fun _ _ _ _ _ => (ev_var 2 (pv 2))))) (ev_lst av_nil) (nomark _))))) bv_nil)
      (bv_cons (sv_if (tv_tru (ev_isi (isi_str _) rfl T.n_isinstance PyProof.Rows.boot_isinstance (pe_ty rfl T.n_str (by decide +kernel)) (ev_var 1 (pv 1)))) (bv_one (sv_ret (ev_and (ev_isi (isi_str _) rfl T.n_isinstance PyProof.Rows.boot_isinstance (pe_ty rfl T.n_str (by decide +kernel)) (ev_var 0 (pv 0))) (ev_one (ev_cmp (op_eqD hr.units) od_eq (ev_var 0 (pv 0)) (ev_var 1 (pv 1)) (nomark _)))))) bv_nil)
      (bv_one (sv_ret (ev_and (ev_isi (isi_int _) rfl T.n_isinstance PyProof.Rows.boot_isinstance (pe_ty rfl T.n_int (by decide +kernel)) (ev_var 0 (pv 0))) (ev_and (ev_not (ev_isi (isi_bool _) rfl T.n_isinstance PyProof.Rows.boot_isinstance (pe_ty rfl T.n_bool (by decide +kernel)) (ev_var 0 (pv 0)))) (ev_one (ev_cmp (op_eqD hr.units) od_eq (ev_var 0 (pv 0)) (ev_var 1 (pv 1)) (nomark _)))))))))
theorem ok_law_same (T : Txt K mg A) : FnOk P w K mg base CX0 6 A.law_same A.d_law_same P_law_same (spP K 2 M_law_same) := okn_law_same T 6
theorem sc_law_deed_right : FnScope N_law_deed_right P_law_deed_right (defScope s_law_deed_right) := ⟨rfl, rfl, rfl, by decide +kernel, rfl, by decide +kernel, by decide +kernel⟩
theorem ok_law_deed_right (T : Txt K mg A) : FnOk P w K mg base CX0 8 A.law_deed_right A.d_law_deed_right P_law_deed_right (spP K 2 M_law_deed_right) :=
  fun_pure (k := 7) (N := N_law_deed_right) (ps := P_law_deed_right) (fb := B_law_deed_right) T.F_law_deed_right sc_law_deed_right fun cdv _ outer s H E hr =>
      (bv_cons (sv_set 2 (by decide) sc_law_deed_right.nd rfl (by first | exact Or.inl rfl | exact Or.inr rfl) (ev_call (ok_law_shown T) (hr.mono (by decide)) rfl T.m_law_shown T.F_law_shown.kp T.b_law_shown rfl (av_cons (ev_var 1 (pv 1)) av_nil)))
      (bv_cons (sv_if (tv_w (wv_or (tv_not (tv_tru (ev_call (ok_law_same T) (hr.mono (by decide)) rfl T.m_law_same T.F_law_same.kp T.b_law_same rfl (av_cons (ev_call (ok_show_deed T) (hr.mono (by decide)) rfl T.m_show_deed T.F_show_deed.kp T.b_show_deed rfl (av_cons (ev_var 1 (pv 1)) av_nil)) (av_cons (ev_var 2 (pv 2)) av_nil))))) (wv_or1 (tv_not (tv_tru (ev_call (ok_law_same T) (hr.mono (by decide)) rfl T.m_law_same T.F_law_same.kp T.b_law_same rfl (av_cons (ev_call (ok_read_deed T) (hr.mono (by decide)) rfl T.m_read_deed T.F_read_deed.kp T.b_read_deed rfl (av_cons (ev_var 0 (pv 0)) (av_cons (ev_var 2 (pv 2)) av_nil))) (av_cons (ev_var 1 (pv 1)) av_nil)))))))) (bv_one (sv_ret ev_bl)) bv_nil)
      (bv_one (sv_ret (ev_and (ev_call (ok_law_same T) (hr.mono (by decide)) rfl T.m_law_same T.F_law_same.kp T.b_law_same rfl (av_cons (ev_call (ok_read_deed T) (hr.mono (by decide)) rfl T.m_read_deed T.F_read_deed.kp T.b_read_deed rfl (av_cons (ev_var 0 (pv 0)) (av_cons (ev_call (ok_show_deed T) (hr.mono (by decide)) rfl T.m_show_deed T.F_show_deed.kp T.b_show_deed rfl (av_cons (ev_var 1 (pv 1)) av_nil)) av_nil))) (av_cons (ev_var 1 (pv 1)) av_nil))) (ev_one (ev_cmp (op_eqD hr.units) od_eq (ev_call (ok_read_deed T) (hr.mono (by decide)) rfl T.m_read_deed T.F_read_deed.kp T.b_read_deed rfl (av_cons (ev_callB (call_min2 rfl) cd_min2 rfl T.n_min (by decide +kernel) (av_cons ev_int (av_cons (ev_op op_plus od_add (ev_var 0 (pv 0)) ev_int) av_nil))) (av_cons (ev_var 2 (pv 2)) av_nil))) (ev_var 1 (pv 1)) (nomark _))))))))
theorem sc_law_log_right : FnScope N_law_log_right P_law_log_right (defScope s_law_log_right) := ⟨rfl, rfl, rfl, by decide +kernel, rfl, by decide +kernel, by decide +kernel⟩
theorem ok_law_log_right (T : Txt K mg A) : FnOk P w K mg base CX0 9 A.law_log_right A.d_law_log_right P_law_log_right (spP K 2 M_law_log_right) :=
  fun_pure (k := 8) (N := N_law_log_right) (ps := P_law_log_right) (fb := B_law_log_right) T.F_law_log_right sc_law_log_right fun cdv _ outer s H E hr =>
      (bv_cons (sv_set 2 (by decide) sc_law_log_right.nd rfl (by first | exact Or.inl rfl | exact Or.inr rfl) (ev_join ev_str (ev_of_fv (fv_lc [("entry", 3)] (by decide) (tg_name (by decide)) rfl sc_law_log_right.nd (iv_seq (ev_var 1 (pv 1))) (blkOk_by (own := [("entry", 3)]) (N := N_law_log_right) (sc := defScope s_law_log_right) (by decide +kernel)) (fun _ _ _ _ _ => (gv_name (i := 3) sc_law_log_right.nd rfl (by first | exact Or.inl rfl | exact Or.inr rfl))) (fun _ _ _ _ _ => tvs_nil) (fun _ _ _ _ _ => (ev_call (ok_law_shown T) (hr.mono (by decide)) rfl T.m_law_shown T.F_law_shown.kp T.b_law_shown rfl (av_cons (ev_var 3 (pv 3)) av_nil)))))))
      (bv_cons (sv_if (tv_cmp (op_eqD hr.units) od_eq (ev_var 1 (pv 1)) (ev_tup av_nil) (nomark _)) (bv_one (sv_set 2 (by decide) sc_law_log_right.nd rfl (by first | exact Or.inl rfl | exact Or.inr rfl) ev_str)) bv_nil)
      (bv_cons (sv_if (tv_w (wv_or (tv_not (tv_tru (ev_call (ok_law_same T) (hr.mono (by decide)) rfl T.m_law_same T.F_law_same.kp T.b_law_same rfl (av_cons (ev_call (ok_show_log T) (hr.mono (by decide)) rfl T.m_show_log T.F_show_log.kp T.b_show_log rfl (av_cons (ev_var 1 (pv 1)) av_nil)) (av_cons (ev_var 2 (pv 2)) av_nil))))) (wv_or1 (tv_not (tv_tru (ev_call (ok_law_same T) (hr.mono (by decide)) rfl T.m_law_same T.F_law_same.kp T.b_law_same rfl (av_cons (ev_call (ok_read_log T) (hr.mono (by decide)) rfl T.m_read_log T.F_read_log.kp T.b_read_log rfl (av_cons (ev_var 0 (pv 0)) (av_cons (ev_var 2 (pv 2)) av_nil))) (av_cons (ev_var 1 (pv 1)) av_nil)))))))) (bv_one (sv_ret ev_bl)) bv_nil)
      (bv_one (sv_ret (ev_and (ev_call (ok_law_same T) (hr.mono (by decide)) rfl T.m_law_same T.F_law_same.kp T.b_law_same rfl (av_cons (ev_call (ok_read_log T) (hr.mono (by decide)) rfl T.m_read_log T.F_read_log.kp T.b_read_log rfl (av_cons (ev_var 0 (pv 0)) (av_cons (ev_call (ok_show_log T) (hr.mono (by decide)) rfl T.m_show_log T.F_show_log.kp T.b_show_log rfl (av_cons (ev_var 1 (pv 1)) av_nil)) av_nil))) (av_cons (ev_var 1 (pv 1)) av_nil))) (ev_one (ev_cmp (op_eqD hr.units) od_eq (ev_call (ok_show_log T) (hr.mono (by decide)) rfl T.m_show_log T.F_show_log.kp T.b_show_log rfl (av_cons (ev_call (ok_read_log T) (hr.mono (by decide)) rfl T.m_read_log T.F_read_log.kp T.b_read_log rfl (av_cons (ev_var 0 (pv 0)) (av_cons (ev_var 2 (pv 2)) av_nil))) av_nil)) (ev_var 2 (pv 2)) (nomark _)))))))))
theorem sc_law_short_log : FnScope N_law_short_log P_law_short_log (defScope s_law_short_log) := ⟨rfl, rfl, rfl, by decide +kernel, rfl, by decide +kernel, by decide +kernel⟩
theorem ok_law_short_log (T : Txt K mg A) : FnOk P w K mg base CX0 3 A.law_short_log A.d_law_short_log P_law_short_log (spR K 2 M_law_short_log) :=
  fun_row (k := 2) (N := N_law_short_log) (ps := P_law_short_log) (fb := B_law_short_log) T.F_law_short_log sc_law_short_log (by decide) fun cdv _ outer s H E hr =>
      (bv_cons (sv_setM 2 (by decide) sc_law_short_log.nd rfl (by first | exact Or.inl rfl | exact Or.inr rfl) (fv_lst av_nil))
      (bv_cons (sv_pre (vs := [3, 4, 5, 6, 7]) (sv_for PassesOwn.never rfl (iv_range1 rfl T.n_range (av_cons (ev_op op_plus od_add ev_int (ev_row 0 (ok_law_take T) (hr.mono (by decide)) rfl T.m_law_take T.F_law_take.kp T.b_law_take (pv 0) (av_cons ev_int av_nil))) av_nil)) (gv_name (i := 3) sc_law_short_log.nd rfl (by first | exact Or.inl rfl | exact Or.inr rfl)) (tg_name (by decide)) (bv_clr (vs := [3, 4, 5, 6, 7]) (bv_cons (sv_set 4 (by decide) sc_law_short_log.nd rfl (by first | exact Or.inl rfl | exact Or.inr rfl) (ev_op op_plus od_add (ev_ix ev_str (ev_row 0 (ok_law_take T) (hr.mono (by decide)) rfl T.m_law_take T.F_law_take.kp T.b_law_take (pv 0) (av_cons ev_int av_nil)) (fun _ _ => rfl)) (ev_ix (ev_lst (av_cons ev_str (av_cons ev_str (av_cons ev_str av_nil)))) (ev_row 0 (ok_law_take T) (hr.mono (by decide)) rfl T.m_law_take T.F_law_take.kp T.b_law_take (pv 0) (av_cons ev_int av_nil)) (fun _ _ => rfl))))
      (bv_cons (sv_set 5 (by decide) sc_law_short_log.nd rfl (by first | exact Or.inl rfl | exact Or.inr rfl) (ev_op op_plus od_add ev_int (ev_row 0 (ok_law_take T) (hr.mono (by decide)) rfl T.m_law_take T.F_law_take.kp T.b_law_take (pv 0) (av_cons ev_int av_nil))))
      (bv_cons (sv_set 6 (by decide) sc_law_short_log.nd rfl (by first | exact Or.inl rfl | exact Or.inr rfl) (ev_row 0 (ok_law_take T) (hr.mono (by decide)) rfl T.m_law_take T.F_law_take.kp T.b_law_take (pv 0) (av_cons (ev_var 1 (pv 1)) av_nil)))
      (bv_cons (sv_setM 7 (by decide) sc_law_short_log.nd rfl (by first | exact Or.inl rfl | exact Or.inr rfl) (fv_lst (av_cons (ev_tup (av_cons ev_str (av_cons (ev_var 4 (pv 4)) (av_cons (ev_var 5 (pv 5)) av_nil)))) (av_cons (ev_tup (av_cons ev_str (av_cons (ev_var 4 (pv 4)) (av_cons (ev_var 6 (pv 6)) (av_cons (ev_var 5 (pv 5)) av_nil))))) (av_cons (ev_tup (av_cons ev_str (av_cons (ev_var 4 (pv 4)) (av_cons (ev_var 5 (pv 5)) (av_cons (ev_var 6 (pv 6)) av_nil))))) av_nil)))))
      (bv_cons (sv_app 7 (pv 7) (ev_tup (av_cons ev_str (av_cons (ev_var 4 (pv 4)) (av_cons (ev_var 6 (pv 6)) (av_cons (ev_var 5 (pv 5)) (av_cons (ev_op op_plus od_add ev_int (ev_row 0 (ok_law_take T) (hr.mono (by decide)) rfl T.m_law_take T.F_law_take.kp T.b_law_take (pv 0) (av_cons ev_int av_nil))) av_nil)))))) (hpe := fun ha => pe_bm PySem.F.plainAttrs_list PySem.F.slot_list_append PySem.F.type_list_append mt_append (pv 7) ha))
      (bv_one (sv_app 2 (pv 2) (ev_ixM 7 (pv 7) (ev_row 0 (ok_law_take T) (hr.mono (by decide)) rfl T.m_law_take T.F_law_take.kp T.b_law_take (pv 0) (av_cons ev_int av_nil)) (fun _ _ => rfl)) (hpe := fun ha => pe_bm PySem.F.plainAttrs_list PySem.F.slot_list_append PySem.F.type_list_append mt_append (pv 2) ha)))))))))))
      (bv_one (sv_ret (ev_callTy call_tuple_of cd_tuple rfl T.n_tuple (by decide +kernel) (av_cons (ev_var 2 (pv 2)) av_nil))))))
theorem sc_law : FnScope N_law P_law (defScope s_law) := ⟨rfl, rfl, rfl, by decide +kernel, rfl, by decide +kernel, by decide +kernel⟩
theorem ok_law (T : Txt K mg A) : FnOk P w K mg base CX0 10 A.law A.d_law P_law (spP K 1 M_law) :=
  fun_pure (k := 9) (N := N_law) (ps := P_law) (fb := B_law) T.F_law sc_law fun cdv _ outer s H E hr =>
      (bv_cons (sv_pre (vs := [2, 1, 3, 4, 5, 6]) (sv_for PassesOwn.never rfl (iv_enum rfl T.n_enumerate (av_cons (ev_op op_plus od_add (ev_sl (ev_var 0 (pv 0)) ov_none (ov_some ev_int)) (ev_lst (av_cons (ev_callB call_len cd_len rfl T.n_len (by decide +kernel) (av_cons (ev_var 0 (pv 0)) av_nil)) av_nil))) av_nil)) (gv_tup rfl (gvs_cons (gv_name (i := 1) sc_law.nd rfl (by first | exact Or.inl rfl | exact Or.inr rfl)) (gvs_cons (gv_name (i := 2) sc_law.nd rfl (by first | exact Or.inl rfl | exact Or.inr rfl)) gvs_nil))) (tg_tup (is := [1, 2]) (by decide) rfl) (bv_clr (vs := [2, 1, 3, 4, 5, 6]) (bv_cons (sv_setM 3 (by decide) sc_law.nd rfl (by first | exact Or.inl rfl | exact Or.inr rfl) (fv_call (ok_law_pot T) (hr.mono (by decide)) rfl T.m_law_pot T.F_law_pot.kp T.b_law_pot rfl (av_cons (ev_var 2 (pv 2)) av_nil)))
      (bv_cons (sv_set 4 (by decide) sc_law.nd rfl (by first | exact Or.inl rfl | exact Or.inr rfl) (ev_op op_plus od_add ev_int (ev_row 3 (ok_law_take T) (hr.mono (by decide)) rfl T.m_law_take T.F_law_take.kp T.b_law_take (pv 3) (av_cons ev_int av_nil))))
      (bv_cons (sv_if (tv_w (wv_and (tv_cmp (op_eqD hr.units) od_eq (ev_var 1 (pv 1)) ev_int (nomark _)) (wv_and1 (tv_not (tv_tru (ev_call (ok_law_log_right T) (hr.mono (by decide)) rfl T.m_law_log_right T.F_law_log_right.kp T.b_law_log_right rfl (av_cons (ev_var 4 (pv 4)) (av_cons (ev_row 3 (ok_law_short_log T) (hr.mono (by decide)) rfl T.m_law_short_log T.F_law_short_log.kp T.b_law_short_log (pv 3) (av_cons (ev_var 4 (pv 4)) av_nil)) av_nil)))))))) (bv_one (sv_ret ev_bl)) bv_nil)
      (bv_cons (sv_pre (vs := [5]) (sv_for PassesOwn.never rfl (iv_range1 rfl T.n_range (av_cons ev_int av_nil)) (gv_name (i := 5) sc_law.nd rfl (by first | exact Or.inl rfl | exact Or.inr rfl)) (tg_name (by decide)) (bv_clr (vs := [5]) (bv_one (sv_if (tv_not (tv_tru (ev_call (ok_law_deed_right T) (hr.mono (by decide)) rfl T.m_law_deed_right T.F_law_deed_right.kp T.b_law_deed_right rfl (av_cons (ev_var 4 (pv 4)) (av_cons (ev_row 3 (ok_law_any_deed T) (hr.mono (by decide)) rfl T.m_law_any_deed T.F_law_any_deed.kp T.b_law_any_deed (pv 3) (av_cons (ev_var 4 (pv 4)) av_nil)) av_nil))))) (bv_one (sv_ret ev_bl)) bv_nil)))))
      (bv_cons (sv_set 6 (by decide) sc_law.nd rfl (by first | exact Or.inl rfl | exact Or.inr rfl) (ev_row 3 (ok_law_take T) (hr.mono (by decide)) rfl T.m_law_take T.F_law_take.kp T.b_law_take (pv 3) (av_cons (ev_ix (ev_lst (av_cons ev_int (av_cons ev_int av_nil))) (ev_callTy call_int1 cd_int rfl T.n_int (by decide +kernel) (av_cons (ev_cmp (op_eqD hr.units) od_eq (ev_row 3 (ok_law_take T) (hr.mono (by decide)) rfl T.m_law_take T.F_law_take.kp T.b_law_take (pv 3) (av_cons ev_int av_nil)) ev_int (nomark _)) av_nil)) (fun _ _ => rfl)) av_nil)))
      (bv_one (sv_if (tv_not (tv_tru (ev_call (ok_law_log_right T) (hr.mono (by decide)) rfl T.m_law_log_right T.F_law_log_right.kp T.b_law_log_right rfl (av_cons (ev_var 4 (pv 4)) (av_cons (ev_callTy call_tuple_of cd_tuple rfl T.n_tuple (by decide +kernel) (av_cons (ev_of_fv (fv_lc [("k", 1)] (by decide) (tg_name (by decide)) rfl sc_law.nd (iv_range1 rfl T.n_range (av_cons (ev_var 6 (pv 6)) av_nil)) (blkOk_by (own := [("k", 1)]) (N := N_law) (sc := defScope s_law) (by decide +kernel)) (fun _ _ _ _ _ => (gv_name (i := 1) sc_law.nd rfl (by first | exact Or.inl rfl | exact Or.inr rfl))) (fun _ _ _ _ _ => tvs_nil) (fun _ _ _ _ _ => (ev_row 3 (ok_law_any_entry T) (hr.mono (by decide)) rfl T.m_law_any_entry T.F_law_any_entry.kp T.b_law_any_entry (pv 3) (av_cons (ev_var 4 (pv 4)) av_nil))))) av_nil)) av_nil))))) (bv_one (sv_ret ev_bl)) bv_nil))))))))))
      (bv_cons (sv_if (tv_w (wv_or (tv_not (tv_tru (ev_call (ok_law_deed_right T) (hr.mono (by decide)) rfl T.m_law_deed_right T.F_law_deed_right.kp T.b_law_deed_right rfl (av_cons ev_int (av_cons (ev_tup (av_cons ev_str (av_cons (ev_op op_sub od_sub (ev_op op_pow od_pow ev_int ev_int) ev_int) av_nil))) av_nil))))) (wv_or1 (tv_not (tv_tru (ev_call (ok_law_deed_right T) (hr.mono (by decide)) rfl T.m_law_deed_right T.F_law_deed_right.kp T.b_law_deed_right rfl (av_cons ev_int (av_cons (ev_tup (av_cons ev_str (av_cons (ev_tup (av_cons ev_int (av_cons ev_int (av_cons ev_int av_nil)))) av_nil))) av_nil)))))))) (bv_one (sv_ret ev_bl)) bv_nil)
      (bv_one (sv_ret (ev_and (ev_cmp (op_eqD hr.units) od_eq (ev_call (ok_show_log T) (hr.mono (by decide)) rfl T.m_show_log T.F_show_log.kp T.b_show_log rfl (av_cons (ev_tup av_nil) av_nil)) ev_str (nomark _)) (ev_one (ev_cmp (op_eqD hr.units) od_eq (ev_call (ok_read_log T) (hr.mono (by decide)) rfl T.m_read_log T.F_read_log.kp T.b_read_log rfl (av_cons ev_int (av_cons ev_str av_nil))) (ev_tup av_nil) (nomark _))))))))
end
theorem all_mk {l : PySem.W.OpenLaw} {w : World} {K : PySem.W.Frag} {h : Heap} {mg : Str → Option Value} {fa : Addr} (X : K.In h) (G : h.Ns mainGlobals mg) (hfa : mg "law" = some (.ref fa))
    {f0 f1 f2 f3 f4 f5 f6 f7 f8 f9 f10 f11 f12 f13 f14 f15 f16 f17 f18 f19 f20 f21 f22 f23 f24 f25 f26 f27 f28 f29 f30 f31 f32 f33 : Addr} {od0 an0 od1 an1 od2 an2 od3 an3 od4 an4 od5 an5 od6 an6 od7 an7 od8 an8 od9 an9 od10 an10 od11 an11 od12 an12 od13 an13 od14 an14 od15 an15 od16 an16 od17 an17 od18 an18 od19 an19 od20 an20 od21 an21 od22 an22 od23 an23 od24 an24 od25 an25 od26 an26 od27 an27 od28 an28 od29 an29 od30 an30 od31 an31 od32 an32 od33 an33 : Option Addr} {sl0 sl1 sl2 sl3 sl4 sl5 sl6 sl7 sl8 sl9 sl10 sl11 sl12 sl13 sl14 sl15 sl16 sl17 sl18 sl19 sl20 sl21 sl22 sl23 sl24 sl25 sl26 sl27 sl28 sl29 sl30 sl31 sl32 sl33 : Array (Option Value)} {oc0 kV0 dc0 pm0 cd0 ct0 oc1 kV1 dc1 pm1 cd1 ct1 oc2 kV2 dc2 pm2 cd2 ct2 oc3 kV3 dc3 pm3 cd3 ct3 oc4 kV4 dc4 pm4 cd4 ct4 oc5 kV5 dc5 pm5 cd5 ct5 oc6 kV6 dc6 pm6 cd6 ct6 oc7 kV7 dc7 pm7 cd7 ct7 oc8 kV8 dc8 pm8 cd8 ct8 oc9 kV9 dc9 pm9 cd9 ct9 oc10 kV10 dc10 pm10 cd10 ct10 oc11 kV11 dc11 pm11 cd11 ct11 oc12 kV12 dc12 pm12 cd12 ct12 oc13 kV13 dc13 pm13 cd13 ct13 oc14 kV14 dc14 pm14 cd14 ct14 oc15 kV15 dc15 pm15 cd15 ct15 oc16 kV16 dc16 pm16 cd16 ct16 oc17 kV17 dc17 pm17 cd17 ct17 oc18 kV18 dc18 pm18 cd18 ct18 oc19 kV19 dc19 pm19 cd19 ct19 oc20 kV20 dc20 pm20 cd20 ct20 oc21 kV21 dc21 pm21 cd21 ct21 oc22 kV22 dc22 pm22 cd22 ct22 oc23 kV23 dc23 pm23 cd23 ct23 oc24 kV24 dc24 pm24 cd24 ct24 oc25 kV25 dc25 pm25 cd25 ct25 oc26 kV26 dc26 pm26 cd26 ct26 oc27 kV27 dc27 pm27 cd27 ct27 oc28 kV28 dc28 pm28 cd28 ct28 oc29 kV29 dc29 pm29 cd29 ct29 oc30 kV30 dc30 pm30 cd30 ct30 oc31 kV31 dc31 pm31 cd31 ct31 oc32 kV32 dc32 pm32 cd32 ct32 oc33 kV33 dc33 pm33 cd33 ct33 : Value}
    (a0 : PySem.W.nsIn K mainGlobals "is_whole" = some (some (.ref f0))) (l0 : K.lookup f0 = some ⟨oc0, od0, .func (PySem.W.fnOf "is_whole" "is_whole" (defArgs s_is_whole) (defBody s_is_whole) (defScope s_is_whole) .none kV0 dc0 pm0 an0 cd0 ct0), sl0⟩) (c0 : PySem.W.codeIn K cd0 "is_whole" = true) (k0 : PySem.W.keepIn K (.ref f0) = true)
    (a1 : PySem.W.nsIn K mainGlobals "is_house" = some (some (.ref f1))) (l1 : K.lookup f1 = some ⟨oc1, od1, .func (PySem.W.fnOf "is_house" "is_house" (defArgs s_is_house) (defBody s_is_house) (defScope s_is_house) .none kV1 dc1 pm1 an1 cd1 ct1), sl1⟩) (c1 : PySem.W.codeIn K cd1 "is_house" = true) (k1 : PySem.W.keepIn K (.ref f1) = true)
    (a2 : PySem.W.nsIn K mainGlobals "is_name" = some (some (.ref f2))) (l2 : K.lookup f2 = some ⟨oc2, od2, .func (PySem.W.fnOf "is_name" "is_name" (defArgs s_is_name) (defBody s_is_name) (defScope s_is_name) .none kV2 dc2 pm2 an2 cd2 ct2), sl2⟩) (c2 : PySem.W.codeIn K cd2 "is_name" = true) (k2 : PySem.W.keepIn K (.ref f2) = true)
    (a3 : PySem.W.nsIn K mainGlobals "is_side" = some (some (.ref f3))) (l3 : K.lookup f3 = some ⟨oc3, od3, .func (PySem.W.fnOf "is_side" "is_side" (defArgs s_is_side) (defBody s_is_side) (defScope s_is_side) .none kV3 dc3 pm3 an3 cd3 ct3), sl3⟩) (c3 : PySem.W.codeIn K cd3 "is_side" = true) (k3 : PySem.W.keepIn K (.ref f3) = true)
    (a4 : PySem.W.nsIn K mainGlobals "is_part" = some (some (.ref f4))) (l4 : K.lookup f4 = some ⟨oc4, od4, .func (PySem.W.fnOf "is_part" "is_part" (defArgs s_is_part) (defBody s_is_part) (defScope s_is_part) .none kV4 dc4 pm4 an4 cd4 ct4), sl4⟩) (c4 : PySem.W.codeIn K cd4 "is_part" = true) (k4 : PySem.W.keepIn K (.ref f4) = true)
    (a5 : PySem.W.nsIn K mainGlobals "are_parts" = some (some (.ref f5))) (l5 : K.lookup f5 = some ⟨oc5, od5, .func (PySem.W.fnOf "are_parts" "are_parts" (defArgs s_are_parts) (defBody s_are_parts) (defScope s_are_parts) .none kV5 dc5 pm5 an5 cd5 ct5), sl5⟩) (c5 : PySem.W.codeIn K cd5 "are_parts" = true) (k5 : PySem.W.keepIn K (.ref f5) = true)
    (a6 : PySem.W.nsIn K mainGlobals "has_first_word" = some (some (.ref f6))) (l6 : K.lookup f6 = some ⟨oc6, od6, .func (PySem.W.fnOf "has_first_word" "has_first_word" (defArgs s_has_first_word) (defBody s_has_first_word) (defScope s_has_first_word) .none kV6 dc6 pm6 an6 cd6 ct6), sl6⟩) (c6 : PySem.W.codeIn K cd6 "has_first_word" = true) (k6 : PySem.W.keepIn K (.ref f6) = true)
    (a7 : PySem.W.nsIn K mainGlobals "is_deed" = some (some (.ref f7))) (l7 : K.lookup f7 = some ⟨oc7, od7, .func (PySem.W.fnOf "is_deed" "is_deed" (defArgs s_is_deed) (defBody s_is_deed) (defScope s_is_deed) .none kV7 dc7 pm7 an7 cd7 ct7), sl7⟩) (c7 : PySem.W.codeIn K cd7 "is_deed" = true) (k7 : PySem.W.keepIn K (.ref f7) = true)
    (a8 : PySem.W.nsIn K mainGlobals "is_entry" = some (some (.ref f8))) (l8 : K.lookup f8 = some ⟨oc8, od8, .func (PySem.W.fnOf "is_entry" "is_entry" (defArgs s_is_entry) (defBody s_is_entry) (defScope s_is_entry) .none kV8 dc8 pm8 an8 cd8 ct8), sl8⟩) (c8 : PySem.W.codeIn K cd8 "is_entry" = true) (k8 : PySem.W.keepIn K (.ref f8) = true)
    (a9 : PySem.W.nsIn K mainGlobals "show_part" = some (some (.ref f9))) (l9 : K.lookup f9 = some ⟨oc9, od9, .func (PySem.W.fnOf "show_part" "show_part" (defArgs s_show_part) (defBody s_show_part) (defScope s_show_part) .none kV9 dc9 pm9 an9 cd9 ct9), sl9⟩) (c9 : PySem.W.codeIn K cd9 "show_part" = true) (k9 : PySem.W.keepIn K (.ref f9) = true)
    (a10 : PySem.W.nsIn K mainGlobals "show_words" = some (some (.ref f10))) (l10 : K.lookup f10 = some ⟨oc10, od10, .func (PySem.W.fnOf "show_words" "show_words" (defArgs s_show_words) (defBody s_show_words) (defScope s_show_words) .none kV10 dc10 pm10 an10 cd10 ct10), sl10⟩) (c10 : PySem.W.codeIn K cd10 "show_words" = true) (k10 : PySem.W.keepIn K (.ref f10) = true)
    (a11 : PySem.W.nsIn K mainGlobals "show_deed" = some (some (.ref f11))) (l11 : K.lookup f11 = some ⟨oc11, od11, .func (PySem.W.fnOf "show_deed" "show_deed" (defArgs s_show_deed) (defBody s_show_deed) (defScope s_show_deed) .none kV11 dc11 pm11 an11 cd11 ct11), sl11⟩) (c11 : PySem.W.codeIn K cd11 "show_deed" = true) (k11 : PySem.W.keepIn K (.ref f11) = true)
    (a12 : PySem.W.nsIn K mainGlobals "show_log" = some (some (.ref f12))) (l12 : K.lookup f12 = some ⟨oc12, od12, .func (PySem.W.fnOf "show_log" "show_log" (defArgs s_show_log) (defBody s_show_log) (defScope s_show_log) .none kV12 dc12 pm12 an12 cd12 ct12), sl12⟩) (c12 : PySem.W.codeIn K cd12 "show_log" = true) (k12 : PySem.W.keepIn K (.ref f12) = true)
    (a13 : PySem.W.nsIn K mainGlobals "is_number_text" = some (some (.ref f13))) (l13 : K.lookup f13 = some ⟨oc13, od13, .func (PySem.W.fnOf "is_number_text" "is_number_text" (defArgs s_is_number_text) (defBody s_is_number_text) (defScope s_is_number_text) .none kV13 dc13 pm13 an13 cd13 ct13), sl13⟩) (c13 : PySem.W.codeIn K cd13 "is_number_text" = true) (k13 : PySem.W.keepIn K (.ref f13) = true)
    (a14 : PySem.W.nsIn K mainGlobals "number_of" = some (some (.ref f14))) (l14 : K.lookup f14 = some ⟨oc14, od14, .func (PySem.W.fnOf "number_of" "number_of" (defArgs s_number_of) (defBody s_number_of) (defScope s_number_of) .none kV14 dc14 pm14 an14 cd14 ct14), sl14⟩) (c14 : PySem.W.codeIn K cd14 "number_of" = true) (k14 : PySem.W.keepIn K (.ref f14) = true)
    (a15 : PySem.W.nsIn K mainGlobals "read_number" = some (some (.ref f15))) (l15 : K.lookup f15 = some ⟨oc15, od15, .func (PySem.W.fnOf "read_number" "read_number" (defArgs s_read_number) (defBody s_read_number) (defScope s_read_number) .none kV15 dc15 pm15 an15 cd15 ct15), sl15⟩) (c15 : PySem.W.codeIn K cd15 "read_number" = true) (k15 : PySem.W.keepIn K (.ref f15) = true)
    (a16 : PySem.W.nsIn K mainGlobals "read_part" = some (some (.ref f16))) (l16 : K.lookup f16 = some ⟨oc16, od16, .func (PySem.W.fnOf "read_part" "read_part" (defArgs s_read_part) (defBody s_read_part) (defScope s_read_part) .none kV16 dc16 pm16 an16 cd16 ct16), sl16⟩) (c16 : PySem.W.codeIn K cd16 "read_part" = true) (k16 : PySem.W.keepIn K (.ref f16) = true)
    (a17 : PySem.W.nsIn K mainGlobals "read_words" = some (some (.ref f17))) (l17 : K.lookup f17 = some ⟨oc17, od17, .func (PySem.W.fnOf "read_words" "read_words" (defArgs s_read_words) (defBody s_read_words) (defScope s_read_words) .none kV17 dc17 pm17 an17 cd17 ct17), sl17⟩) (c17 : PySem.W.codeIn K cd17 "read_words" = true) (k17 : PySem.W.keepIn K (.ref f17) = true)
    (a18 : PySem.W.nsIn K mainGlobals "read_deed" = some (some (.ref f18))) (l18 : K.lookup f18 = some ⟨oc18, od18, .func (PySem.W.fnOf "read_deed" "read_deed" (defArgs s_read_deed) (defBody s_read_deed) (defScope s_read_deed) .none kV18 dc18 pm18 an18 cd18 ct18), sl18⟩) (c18 : PySem.W.codeIn K cd18 "read_deed" = true) (k18 : PySem.W.keepIn K (.ref f18) = true)
    (a19 : PySem.W.nsIn K mainGlobals "read_entry" = some (some (.ref f19))) (l19 : K.lookup f19 = some ⟨oc19, od19, .func (PySem.W.fnOf "read_entry" "read_entry" (defArgs s_read_entry) (defBody s_read_entry) (defScope s_read_entry) .none kV19 dc19 pm19 an19 cd19 ct19), sl19⟩) (c19 : PySem.W.codeIn K cd19 "read_entry" = true) (k19 : PySem.W.keepIn K (.ref f19) = true)
    (a20 : PySem.W.nsIn K mainGlobals "read_log" = some (some (.ref f20))) (l20 : K.lookup f20 = some ⟨oc20, od20, .func (PySem.W.fnOf "read_log" "read_log" (defArgs s_read_log) (defBody s_read_log) (defScope s_read_log) .none kV20 dc20 pm20 an20 cd20 ct20), sl20⟩) (c20 : PySem.W.codeIn K cd20 "read_log" = true) (k20 : PySem.W.keepIn K (.ref f20) = true)
    (a21 : PySem.W.nsIn K mainGlobals "_law_mixed" = some (some (.ref f21))) (l21 : K.lookup f21 = some ⟨oc21, od21, .func (PySem.W.fnOf "_law_mixed" "_law_mixed" (defArgs s_law_mixed) (defBody s_law_mixed) (defScope s_law_mixed) .none kV21 dc21 pm21 an21 cd21 ct21), sl21⟩) (c21 : PySem.W.codeIn K cd21 "_law_mixed" = true) (k21 : PySem.W.keepIn K (.ref f21) = true)
    (a22 : PySem.W.nsIn K mainGlobals "_law_pot" = some (some (.ref f22))) (l22 : K.lookup f22 = some ⟨oc22, od22, .func (PySem.W.fnOf "_law_pot" "_law_pot" (defArgs s_law_pot) (defBody s_law_pot) (defScope s_law_pot) .none kV22 dc22 pm22 an22 cd22 ct22), sl22⟩) (c22 : PySem.W.codeIn K cd22 "_law_pot" = true) (k22 : PySem.W.keepIn K (.ref f22) = true)
    (a23 : PySem.W.nsIn K mainGlobals "_law_take" = some (some (.ref f23))) (l23 : K.lookup f23 = some ⟨oc23, od23, .func (PySem.W.fnOf "_law_take" "_law_take" (defArgs s_law_take) (defBody s_law_take) (defScope s_law_take) .none kV23 dc23 pm23 an23 cd23 ct23), sl23⟩) (c23 : PySem.W.codeIn K cd23 "_law_take" = true) (k23 : PySem.W.keepIn K (.ref f23) = true)
    (a24 : PySem.W.nsIn K mainGlobals "_law_name" = some (some (.ref f24))) (l24 : K.lookup f24 = some ⟨oc24, od24, .func (PySem.W.fnOf "_law_name" "_law_name" (defArgs s_law_name) (defBody s_law_name) (defScope s_law_name) .none kV24 dc24 pm24 an24 cd24 ct24), sl24⟩) (c24 : PySem.W.codeIn K cd24 "_law_name" = true) (k24 : PySem.W.keepIn K (.ref f24) = true)
    (a25 : PySem.W.nsIn K mainGlobals "_law_number" = some (some (.ref f25))) (l25 : K.lookup f25 = some ⟨oc25, od25, .func (PySem.W.fnOf "_law_number" "_law_number" (defArgs s_law_number) (defBody s_law_number) (defScope s_law_number) .none kV25 dc25 pm25 an25 cd25 ct25), sl25⟩) (c25 : PySem.W.codeIn K cd25 "_law_number" = true) (k25 : PySem.W.keepIn K (.ref f25) = true)
    (a26 : PySem.W.nsIn K mainGlobals "_law_any_deed" = some (some (.ref f26))) (l26 : K.lookup f26 = some ⟨oc26, od26, .func (PySem.W.fnOf "_law_any_deed" "_law_any_deed" (defArgs s_law_any_deed) (defBody s_law_any_deed) (defScope s_law_any_deed) .none kV26 dc26 pm26 an26 cd26 ct26), sl26⟩) (c26 : PySem.W.codeIn K cd26 "_law_any_deed" = true) (k26 : PySem.W.keepIn K (.ref f26) = true)
    (a27 : PySem.W.nsIn K mainGlobals "_law_any_entry" = some (some (.ref f27))) (l27 : K.lookup f27 = some ⟨oc27, od27, .func (PySem.W.fnOf "_law_any_entry" "_law_any_entry" (defArgs s_law_any_entry) (defBody s_law_any_entry) (defScope s_law_any_entry) .none kV27 dc27 pm27 an27 cd27 ct27), sl27⟩) (c27 : PySem.W.codeIn K cd27 "_law_any_entry" = true) (k27 : PySem.W.keepIn K (.ref f27) = true)
    (a28 : PySem.W.nsIn K mainGlobals "_law_shown" = some (some (.ref f28))) (l28 : K.lookup f28 = some ⟨oc28, od28, .func (PySem.W.fnOf "_law_shown" "_law_shown" (defArgs s_law_shown) (defBody s_law_shown) (defScope s_law_shown) .none kV28 dc28 pm28 an28 cd28 ct28), sl28⟩) (c28 : PySem.W.codeIn K cd28 "_law_shown" = true) (k28 : PySem.W.keepIn K (.ref f28) = true)
    (a29 : PySem.W.nsIn K mainGlobals "_law_same" = some (some (.ref f29))) (l29 : K.lookup f29 = some ⟨oc29, od29, .func (PySem.W.fnOf "_law_same" "_law_same" (defArgs s_law_same) (defBody s_law_same) (defScope s_law_same) .none kV29 dc29 pm29 an29 cd29 ct29), sl29⟩) (c29 : PySem.W.codeIn K cd29 "_law_same" = true) (k29 : PySem.W.keepIn K (.ref f29) = true)
    (a30 : PySem.W.nsIn K mainGlobals "_law_deed_right" = some (some (.ref f30))) (l30 : K.lookup f30 = some ⟨oc30, od30, .func (PySem.W.fnOf "_law_deed_right" "_law_deed_right" (defArgs s_law_deed_right) (defBody s_law_deed_right) (defScope s_law_deed_right) .none kV30 dc30 pm30 an30 cd30 ct30), sl30⟩) (c30 : PySem.W.codeIn K cd30 "_law_deed_right" = true) (k30 : PySem.W.keepIn K (.ref f30) = true)
    (a31 : PySem.W.nsIn K mainGlobals "_law_log_right" = some (some (.ref f31))) (l31 : K.lookup f31 = some ⟨oc31, od31, .func (PySem.W.fnOf "_law_log_right" "_law_log_right" (defArgs s_law_log_right) (defBody s_law_log_right) (defScope s_law_log_right) .none kV31 dc31 pm31 an31 cd31 ct31), sl31⟩) (c31 : PySem.W.codeIn K cd31 "_law_log_right" = true) (k31 : PySem.W.keepIn K (.ref f31) = true)
    (a32 : PySem.W.nsIn K mainGlobals "_law_short_log" = some (some (.ref f32))) (l32 : K.lookup f32 = some ⟨oc32, od32, .func (PySem.W.fnOf "_law_short_log" "_law_short_log" (defArgs s_law_short_log) (defBody s_law_short_log) (defScope s_law_short_log) .none kV32 dc32 pm32 an32 cd32 ct32), sl32⟩) (c32 : PySem.W.codeIn K cd32 "_law_short_log" = true) (k32 : PySem.W.keepIn K (.ref f32) = true)
    (a33 : PySem.W.nsIn K mainGlobals "law" = some (some (.ref f33))) (l33 : K.lookup f33 = some ⟨oc33, od33, .func (PySem.W.fnOf "law" "law" (defArgs s_law) (defBody s_law) (defScope s_law) .none kV33 dc33 pm33 an33 cd33 ct33), sl33⟩) (c33 : PySem.W.codeIn K cd33 "law" = true) (k33 : PySem.W.keepIn K (.ref f33) = true)
    (z_all : PySem.W.nsIn K mainGlobals "all" = some none)
    (z_bool : PySem.W.nsIn K mainGlobals "bool" = some none)
    (z_enumerate : PySem.W.nsIn K mainGlobals "enumerate" = some none)
    (z_int : PySem.W.nsIn K mainGlobals "int" = some none)
    (z_isinstance : PySem.W.nsIn K mainGlobals "isinstance" = some none)
    (z_len : PySem.W.nsIn K mainGlobals "len" = some none)
    (z_list : PySem.W.nsIn K mainGlobals "list" = some none)
    (z_max : PySem.W.nsIn K mainGlobals "max" = some none)
    (z_min : PySem.W.nsIn K mainGlobals "min" = some none)
    (z_range : PySem.W.nsIn K mainGlobals "range" = some none)
    (z_set : PySem.W.nsIn K mainGlobals "set" = some none)
    (z_sorted : PySem.W.nsIn K mainGlobals "sorted" = some none)
    (z_str : PySem.W.nsIn K mainGlobals "str" = some none)
    (z_tuple : PySem.W.nsIn K mainGlobals "tuple" = some none)
    (z_zip : PySem.W.nsIn K mainGlobals "zip" = some none)
    {cEMPTY_LOG : Nat} {cFIGURES : Nat} {cLETTERS : Nat} {cLONGEST_NAME : Nat} {cDEED_PARTS : Addr} {DEED_PARTS_ep : Nat} {DEED_PARTS_h0 : Int} {DEED_PARTS_t0 : Nat} {DEED_PARTS_r0 : Addr} {DEED_PARTS_h1 : Int} {DEED_PARTS_t1 : Nat} {DEED_PARTS_r1 : Addr} {DEED_PARTS_h2 : Int} {DEED_PARTS_t2 : Nat} {DEED_PARTS_r2 : Addr} {DEED_PARTS_h3 : Int} {DEED_PARTS_t3 : Nat} {DEED_PARTS_r3 : Addr} {DEED_PARTS_h4 : Int} {DEED_PARTS_t4 : Nat} {DEED_PARTS_r4 : Addr} {DEED_PARTS_h5 : Int} {DEED_PARTS_t5 : Nat} {DEED_PARTS_r5 : Addr} {DEED_PARTS_h6 : Int} {DEED_PARTS_t6 : Nat} {DEED_PARTS_r6 : Addr} {DEED_PARTS_h7 : Int} {DEED_PARTS_t7 : Nat} {DEED_PARTS_r7 : Addr} {DEED_PARTS_h8 : Int} {DEED_PARTS_t8 : Nat} {DEED_PARTS_r8 : Addr} {DEED_PARTS_h9 : Int} {DEED_PARTS_t9 : Nat} {DEED_PARTS_r9 : Addr} {DEED_PARTS_h10 : Int} {DEED_PARTS_t10 : Nat} {DEED_PARTS_r10 : Addr} {DEED_PARTS_r0_0t : Nat} {DEED_PARTS_r0_1t : Nat} {DEED_PARTS_r0_2t : Nat} {DEED_PARTS_r0n : Nat} {DEED_PARTS_r0s : Array (Option Value)} {DEED_PARTS_r1_0t : Nat} {DEED_PARTS_r1_1t : Nat} {DEED_PARTS_r1n : Nat} {DEED_PARTS_r1s : Array (Option Value)} {DEED_PARTS_r2_0t : Nat} {DEED_PARTS_r2_1t : Nat} {DEED_PARTS_r2n : Nat} {DEED_PARTS_r2s : Array (Option Value)} {DEED_PARTS_r3_0t : Nat} {DEED_PARTS_r3n : Nat} {DEED_PARTS_r3s : Array (Option Value)} {DEED_PARTS_r4_0t : Nat} {DEED_PARTS_r4n : Nat} {DEED_PARTS_r4s : Array (Option Value)} {DEED_PARTS_r5_0t : Nat} {DEED_PARTS_r5n : Nat} {DEED_PARTS_r5s : Array (Option Value)} {DEED_PARTS_r6_0t : Nat} {DEED_PARTS_r6n : Nat} {DEED_PARTS_r6s : Array (Option Value)} {DEED_PARTS_r7_0t : Nat} {DEED_PARTS_r7n : Nat} {DEED_PARTS_r7s : Array (Option Value)} {DEED_PARTS_r8_0t : Nat} {DEED_PARTS_r8n : Nat} {DEED_PARTS_r8s : Array (Option Value)} {DEED_PARTS_r9n : Nat} {DEED_PARTS_r9s : Array (Option Value)} {DEED_PARTS_r10n : Nat} {DEED_PARTS_r10s : Array (Option Value)} {cENTRY_PARTS : Addr} {ENTRY_PARTS_ep : Nat} {ENTRY_PARTS_h0 : Int} {ENTRY_PARTS_t0 : Nat} {ENTRY_PARTS_r0 : Addr} {ENTRY_PARTS_h1 : Int} {ENTRY_PARTS_t1 : Nat} {ENTRY_PARTS_r1 : Addr} {ENTRY_PARTS_h2 : Int} {ENTRY_PARTS_t2 : Nat} {ENTRY_PARTS_r2 : Addr} {ENTRY_PARTS_h3 : Int} {ENTRY_PARTS_t3 : Nat} {ENTRY_PARTS_r3 : Addr} {ENTRY_PARTS_h4 : Int} {ENTRY_PARTS_t4 : Nat} {ENTRY_PARTS_r4 : Addr} {ENTRY_PARTS_h5 : Int} {ENTRY_PARTS_t5 : Nat} {ENTRY_PARTS_r5 : Addr} {ENTRY_PARTS_r0_0t : Nat} {ENTRY_PARTS_r0_1t : Nat} {ENTRY_PARTS_r0_2t : Nat} {ENTRY_PARTS_r0_3t : Nat} {ENTRY_PARTS_r0n : Nat} {ENTRY_PARTS_r0s : Array (Option Value)} {ENTRY_PARTS_r1_0t : Nat} {ENTRY_PARTS_r1_1t : Nat} {ENTRY_PARTS_r1_2t : Nat} {ENTRY_PARTS_r1_3t : Nat} {ENTRY_PARTS_r1n : Nat} {ENTRY_PARTS_r1s : Array (Option Value)} {ENTRY_PARTS_r2_0t : Nat} {ENTRY_PARTS_r2_1t : Nat} {ENTRY_PARTS_r2_2t : Nat} {ENTRY_PARTS_r2n : Nat} {ENTRY_PARTS_r2s : Array (Option Value)} {ENTRY_PARTS_r3_0t : Nat} {ENTRY_PARTS_r3_1t : Nat} {ENTRY_PARTS_r3n : Nat} {ENTRY_PARTS_r3s : Array (Option Value)} {ENTRY_PARTS_r4_0t : Nat} {ENTRY_PARTS_r4_1t : Nat} {ENTRY_PARTS_r4_2t : Nat} {ENTRY_PARTS_r4_3t : Nat} {ENTRY_PARTS_r4n : Nat} {ENTRY_PARTS_r4s : Array (Option Value)} {ENTRY_PARTS_r5_0t : Nat} {ENTRY_PARTS_r5_1t : Nat} {ENTRY_PARTS_r5_2t : Nat} {ENTRY_PARTS_r5n : Nat} {ENTRY_PARTS_r5s : Array (Option Value)}
    (aEMPTY_LOG : PySem.W.nsIn K mainGlobals "EMPTY_LOG" = some (some (.str "-" cEMPTY_LOG)))
    (aFIGURES : PySem.W.nsIn K mainGlobals "FIGURES" = some (some (.str "0123456789" cFIGURES)))
    (aLETTERS : PySem.W.nsIn K mainGlobals "LETTERS" = some (some (.str "abcdefghijklmnopqrstuvwxyz" cLETTERS)))
    (aLONGEST_NAME : PySem.W.nsIn K mainGlobals "LONGEST_NAME" = some (some (.int 8 cLONGEST_NAME)))
    (aDEED_PARTS : PySem.W.nsIn K mainGlobals "DEED_PARTS" = some (some (.ref cDEED_PARTS)))
    (yDEED_PARTS : (cDEED_PARTS == sysModules) = false)
    (dDEED_PARTS : K.lookup cDEED_PARTS = some ⟨.type "dict", none, .dict #[⟨DEED_PARTS_h0, .str "claim" DEED_PARTS_t0, .ref DEED_PARTS_r0⟩, ⟨DEED_PARTS_h1, .str "renew" DEED_PARTS_t1, .ref DEED_PARTS_r1⟩, ⟨DEED_PARTS_h2, .str "back" DEED_PARTS_t2, .ref DEED_PARTS_r2⟩, ⟨DEED_PARTS_h3, .str "carry" DEED_PARTS_t3, .ref DEED_PARTS_r3⟩, ⟨DEED_PARTS_h4, .str "copy" DEED_PARTS_t4, .ref DEED_PARTS_r4⟩, ⟨DEED_PARTS_h5, .str "lose" DEED_PARTS_t5, .ref DEED_PARTS_r5⟩, ⟨DEED_PARTS_h6, .str "fall" DEED_PARTS_t6, .ref DEED_PARTS_r6⟩, ⟨DEED_PARTS_h7, .str "rise" DEED_PARTS_t7, .ref DEED_PARTS_r7⟩, ⟨DEED_PARTS_h8, .str "part" DEED_PARTS_t8, .ref DEED_PARTS_r8⟩, ⟨DEED_PARTS_h9, .str "heal" DEED_PARTS_t9, .ref DEED_PARTS_r9⟩, ⟨DEED_PARTS_h10, .str "round" DEED_PARTS_t10, .ref DEED_PARTS_r10⟩] DEED_PARTS_ep, #[]⟩)
    (hDEED_PARTS_r0 : K.lookup DEED_PARTS_r0 = some ⟨.type "tuple", none, .seq #[.str "house" DEED_PARTS_r0_0t, .str "name" DEED_PARTS_r0_1t, .str "name" DEED_PARTS_r0_2t] DEED_PARTS_r0n, DEED_PARTS_r0s⟩)
    (hDEED_PARTS_r1 : K.lookup DEED_PARTS_r1 = some ⟨.type "tuple", none, .seq #[.str "house" DEED_PARTS_r1_0t, .str "name" DEED_PARTS_r1_1t] DEED_PARTS_r1n, DEED_PARTS_r1s⟩)
    (hDEED_PARTS_r2 : K.lookup DEED_PARTS_r2 = some ⟨.type "tuple", none, .seq #[.str "house" DEED_PARTS_r2_0t, .str "name" DEED_PARTS_r2_1t] DEED_PARTS_r2n, DEED_PARTS_r2s⟩)
    (hDEED_PARTS_r3 : K.lookup DEED_PARTS_r3 = some ⟨.type "tuple", none, .seq #[.str "place" DEED_PARTS_r3_0t] DEED_PARTS_r3n, DEED_PARTS_r3s⟩)
    (hDEED_PARTS_r4 : K.lookup DEED_PARTS_r4 = some ⟨.type "tuple", none, .seq #[.str "place" DEED_PARTS_r4_0t] DEED_PARTS_r4n, DEED_PARTS_r4s⟩)
    (hDEED_PARTS_r5 : K.lookup DEED_PARTS_r5 = some ⟨.type "tuple", none, .seq #[.str "place" DEED_PARTS_r5_0t] DEED_PARTS_r5n, DEED_PARTS_r5s⟩)
    (hDEED_PARTS_r6 : K.lookup DEED_PARTS_r6 = some ⟨.type "tuple", none, .seq #[.str "house" DEED_PARTS_r6_0t] DEED_PARTS_r6n, DEED_PARTS_r6s⟩)
    (hDEED_PARTS_r7 : K.lookup DEED_PARTS_r7 = some ⟨.type "tuple", none, .seq #[.str "house" DEED_PARTS_r7_0t] DEED_PARTS_r7n, DEED_PARTS_r7s⟩)
    (hDEED_PARTS_r8 : K.lookup DEED_PARTS_r8 = some ⟨.type "tuple", none, .seq #[.str "houses" DEED_PARTS_r8_0t] DEED_PARTS_r8n, DEED_PARTS_r8s⟩)
    (hDEED_PARTS_r9 : K.lookup DEED_PARTS_r9 = some ⟨.type "tuple", none, .seq #[] DEED_PARTS_r9n, DEED_PARTS_r9s⟩)
    (hDEED_PARTS_r10 : K.lookup DEED_PARTS_r10 = some ⟨.type "tuple", none, .seq #[] DEED_PARTS_r10n, DEED_PARTS_r10s⟩)
    (aENTRY_PARTS : PySem.W.nsIn K mainGlobals "ENTRY_PARTS" = some (some (.ref cENTRY_PARTS)))
    (yENTRY_PARTS : (cENTRY_PARTS == sysModules) = false)
    (dENTRY_PARTS : K.lookup cENTRY_PARTS = some ⟨.type "dict", none, .dict #[⟨ENTRY_PARTS_h0, .str "ask" ENTRY_PARTS_t0, .ref ENTRY_PARTS_r0⟩, ⟨ENTRY_PARTS_h1, .str "got" ENTRY_PARTS_t1, .ref ENTRY_PARTS_r1⟩, ⟨ENTRY_PARTS_h2, .str "no" ENTRY_PARTS_t2, .ref ENTRY_PARTS_r2⟩, ⟨ENTRY_PARTS_h3, .str "back" ENTRY_PARTS_t3, .ref ENTRY_PARTS_r3⟩, ⟨ENTRY_PARTS_h4, .str "word" ENTRY_PARTS_t4, .ref ENTRY_PARTS_r4⟩, ⟨ENTRY_PARTS_h5, .str "free" ENTRY_PARTS_t5, .ref ENTRY_PARTS_r5⟩] ENTRY_PARTS_ep, #[]⟩)
    (hENTRY_PARTS_r0 : K.lookup ENTRY_PARTS_r0 = some ⟨.type "tuple", none, .seq #[.str "name" ENTRY_PARTS_r0_0t, .str "number" ENTRY_PARTS_r0_1t, .str "name" ENTRY_PARTS_r0_2t, .str "number" ENTRY_PARTS_r0_3t] ENTRY_PARTS_r0n, ENTRY_PARTS_r0s⟩)
    (hENTRY_PARTS_r1 : K.lookup ENTRY_PARTS_r1 = some ⟨.type "tuple", none, .seq #[.str "name" ENTRY_PARTS_r1_0t, .str "number" ENTRY_PARTS_r1_1t, .str "house" ENTRY_PARTS_r1_2t, .str "number" ENTRY_PARTS_r1_3t] ENTRY_PARTS_r1n, ENTRY_PARTS_r1s⟩)
    (hENTRY_PARTS_r2 : K.lookup ENTRY_PARTS_r2 = some ⟨.type "tuple", none, .seq #[.str "name" ENTRY_PARTS_r2_0t, .str "number" ENTRY_PARTS_r2_1t, .str "house" ENTRY_PARTS_r2_2t] ENTRY_PARTS_r2n, ENTRY_PARTS_r2s⟩)
    (hENTRY_PARTS_r3 : K.lookup ENTRY_PARTS_r3 = some ⟨.type "tuple", none, .seq #[.str "name" ENTRY_PARTS_r3_0t, .str "number" ENTRY_PARTS_r3_1t] ENTRY_PARTS_r3n, ENTRY_PARTS_r3s⟩)
    (hENTRY_PARTS_r4 : K.lookup ENTRY_PARTS_r4 = some ⟨.type "tuple", none, .seq #[.str "name" ENTRY_PARTS_r4_0t, .str "house" ENTRY_PARTS_r4_1t, .str "number" ENTRY_PARTS_r4_2t, .str "number" ENTRY_PARTS_r4_3t] ENTRY_PARTS_r4n, ENTRY_PARTS_r4s⟩)
    (hENTRY_PARTS_r5 : K.lookup ENTRY_PARTS_r5 = some ⟨.type "tuple", none, .seq #[.str "name" ENTRY_PARTS_r5_0t, .str "house" ENTRY_PARTS_r5_1t, .str "number" ENTRY_PARTS_r5_2t] ENTRY_PARTS_r5n, ENTRY_PARTS_r5s⟩)
    : ∃ fd : FuncData, (∀ (s : Shared) (v : Value), BindsTo s fd ⟨[v], []⟩ [("script", v)]) ∧ ∀ base : Heap, K.In base → base.Ns mainGlobals mg → FnOk l.prog w K mg base CX0 10 fa fd ["script"] (spP K 1 M_law) := by
  have e := hfa.symm.trans (PySem.W.mg_of X G a33)
  cases e
  have F0 := fun_mk (st := s_is_whole) l0 c0 k0
  have b0 := F0.binds (ps := P_is_whole) fun _ _ _ _ _ _ us hl => match us, hl with | [_], _ => rfl
  have F1 := fun_mk (st := s_is_house) l1 c1 k1
  have b1 := F1.binds (ps := P_is_house) fun _ _ _ _ _ _ us hl => match us, hl with | [_, _], _ => rfl
  have F2 := fun_mk (st := s_is_name) l2 c2 k2
  have b2 := F2.binds (ps := P_is_name) fun _ _ _ _ _ _ us hl => match us, hl with | [_], _ => rfl
  have F3 := fun_mk (st := s_is_side) l3 c3 k3
  have b3 := F3.binds (ps := P_is_side) fun _ _ _ _ _ _ us hl => match us, hl with | [_, _], _ => rfl
  have F4 := fun_mk (st := s_is_part) l4 c4 k4
  have b4 := F4.binds (ps := P_is_part) fun _ _ _ _ _ _ us hl => match us, hl with | [_, _, _], _ => rfl
  have F5 := fun_mk (st := s_are_parts) l5 c5 k5
  have b5 := F5.binds (ps := P_are_parts) fun _ _ _ _ _ _ us hl => match us, hl with | [_, _, _], _ => rfl
  have F6 := fun_mk (st := s_has_first_word) l6 c6 k6
  have b6 := F6.binds (ps := P_has_first_word) fun _ _ _ _ _ _ us hl => match us, hl with | [_], _ => rfl
  have F7 := fun_mk (st := s_is_deed) l7 c7 k7
  have b7 := F7.binds (ps := P_is_deed) fun _ _ _ _ _ _ us hl => match us, hl with | [_, _], _ => rfl
  have F8 := fun_mk (st := s_is_entry) l8 c8 k8
  have b8 := F8.binds (ps := P_is_entry) fun _ _ _ _ _ _ us hl => match us, hl with | [_, _], _ => rfl
  have F9 := fun_mk (st := s_show_part) l9 c9 k9
  have b9 := F9.binds (ps := P_show_part) fun _ _ _ _ _ _ us hl => match us, hl with | [_], _ => rfl
  have F10 := fun_mk (st := s_show_words) l10 c10 k10
  have b10 := F10.binds (ps := P_show_words) fun _ _ _ _ _ _ us hl => match us, hl with | [_], _ => rfl
  have F11 := fun_mk (st := s_show_deed) l11 c11 k11
  have b11 := F11.binds (ps := P_show_deed) fun _ _ _ _ _ _ us hl => match us, hl with | [_], _ => rfl
  have F12 := fun_mk (st := s_show_log) l12 c12 k12
  have b12 := F12.binds (ps := P_show_log) fun _ _ _ _ _ _ us hl => match us, hl with | [_], _ => rfl
  have F13 := fun_mk (st := s_is_number_text) l13 c13 k13
  have b13 := F13.binds (ps := P_is_number_text) fun _ _ _ _ _ _ us hl => match us, hl with | [_], _ => rfl
  have F14 := fun_mk (st := s_number_of) l14 c14 k14
  have b14 := F14.binds (ps := P_number_of) fun _ _ _ _ _ _ us hl => match us, hl with | [_], _ => rfl
  have F15 := fun_mk (st := s_read_number) l15 c15 k15
  have b15 := F15.binds (ps := P_read_number) fun _ _ _ _ _ _ us hl => match us, hl with | [_], _ => rfl
  have F16 := fun_mk (st := s_read_part) l16 c16 k16
  have b16 := F16.binds (ps := P_read_part) fun _ _ _ _ _ _ us hl => match us, hl with | [_, _], _ => rfl
  have F17 := fun_mk (st := s_read_words) l17 c17 k17
  have b17 := F17.binds (ps := P_read_words) fun _ _ _ _ _ _ us hl => match us, hl with | [_, _], _ => rfl
  have F18 := fun_mk (st := s_read_deed) l18 c18 k18
  have b18 := F18.binds (ps := P_read_deed) fun _ _ _ _ _ _ us hl => match us, hl with | [_, _], _ => rfl
  have F19 := fun_mk (st := s_read_entry) l19 c19 k19
  have b19 := F19.binds (ps := P_read_entry) fun _ _ _ _ _ _ us hl => match us, hl with | [_, _], _ => rfl
  have F20 := fun_mk (st := s_read_log) l20 c20 k20
  have b20 := F20.binds (ps := P_read_log) fun _ _ _ _ _ _ us hl => match us, hl with | [_, _], _ => rfl
  have F21 := fun_mk (st := s_law_mixed) l21 c21 k21
  have b21 := F21.binds (ps := P_law_mixed) fun _ _ _ _ _ _ us hl => match us, hl with | [_, _], _ => rfl
  have F22 := fun_mk (st := s_law_pot) l22 c22 k22
  have b22 := F22.binds (ps := P_law_pot) fun _ _ _ _ _ _ us hl => match us, hl with | [_], _ => rfl
  have F23 := fun_mk (st := s_law_take) l23 c23 k23
  have b23 := F23.binds (ps := P_law_take) fun _ _ _ _ _ _ us hl => match us, hl with | [_, _], _ => rfl
  have F24 := fun_mk (st := s_law_name) l24 c24 k24
  have b24 := F24.binds (ps := P_law_name) fun _ _ _ _ _ _ us hl => match us, hl with | [_], _ => rfl
  have F25 := fun_mk (st := s_law_number) l25 c25 k25
  have b25 := F25.binds (ps := P_law_number) fun _ _ _ _ _ _ us hl => match us, hl with | [_, _], _ => rfl
  have F26 := fun_mk (st := s_law_any_deed) l26 c26 k26
  have b26 := F26.binds (ps := P_law_any_deed) fun _ _ _ _ _ _ us hl => match us, hl with | [_, _], _ => rfl
  have F27 := fun_mk (st := s_law_any_entry) l27 c27 k27
  have b27 := F27.binds (ps := P_law_any_entry) fun _ _ _ _ _ _ us hl => match us, hl with | [_, _], _ => rfl
  have F28 := fun_mk (st := s_law_shown) l28 c28 k28
  have b28 := F28.binds (ps := P_law_shown) fun _ _ _ _ _ _ us hl => match us, hl with | [_], _ => rfl
  have F29 := fun_mk (st := s_law_same) l29 c29 k29
  have b29 := F29.binds (ps := P_law_same) fun _ _ _ _ _ _ us hl => match us, hl with | [_, _], _ => rfl
  have F30 := fun_mk (st := s_law_deed_right) l30 c30 k30
  have b30 := F30.binds (ps := P_law_deed_right) fun _ _ _ _ _ _ us hl => match us, hl with | [_, _], _ => rfl
  have F31 := fun_mk (st := s_law_log_right) l31 c31 k31
  have b31 := F31.binds (ps := P_law_log_right) fun _ _ _ _ _ _ us hl => match us, hl with | [_, _], _ => rfl
  have F32 := fun_mk (st := s_law_short_log) l32 c32 k32
  have b32 := F32.binds (ps := P_law_short_log) fun _ _ _ _ _ _ us hl => match us, hl with | [_, _], _ => rfl
  have F33 := fun_mk (st := s_law) l33 c33 k33
  have b33 := F33.binds (ps := P_law) fun _ _ _ _ _ _ us hl => match us, hl with | [_], _ => rfl
  have T : Txt K mg ⟨f0, _, f1, _, f2, _, f3, _, f4, _, f5, _, f6, _, f7, _, f8, _, f9, _, f10, _, f11, _, f12, _, f13, _, f14, _, f15, _, f16, _, f17, _, f18, _, f19, _, f20, _, f21, _, f22, _, f23, _, f24, _, f25, _, f26, _, f27, _, f28, _, f29, _, f30, _, f31, _, f32, _, fa, _, cDEED_PARTS, [("claim", .ref DEED_PARTS_r0), ("renew", .ref DEED_PARTS_r1), ("back", .ref DEED_PARTS_r2), ("carry", .ref DEED_PARTS_r3), ("copy", .ref DEED_PARTS_r4), ("lose", .ref DEED_PARTS_r5), ("fall", .ref DEED_PARTS_r6), ("rise", .ref DEED_PARTS_r7), ("part", .ref DEED_PARTS_r8), ("heal", .ref DEED_PARTS_r9), ("round", .ref DEED_PARTS_r10)], cEMPTY_LOG, cENTRY_PARTS, [("ask", .ref ENTRY_PARTS_r0), ("got", .ref ENTRY_PARTS_r1), ("no", .ref ENTRY_PARTS_r2), ("back", .ref ENTRY_PARTS_r3), ("word", .ref ENTRY_PARTS_r4), ("free", .ref ENTRY_PARTS_r5)], cFIGURES, cLETTERS, cLONGEST_NAME⟩ := ⟨F0, PySem.W.mg_of X G a0, b0, F1, PySem.W.mg_of X G a1, b1, F2, PySem.W.mg_of X G a2, b2, F3, PySem.W.mg_of X G a3, b3, F4, PySem.W.mg_of X G a4, b4, F5, PySem.W.mg_of X G a5, b5, F6, PySem.W.mg_of X G a6, b6, F7, PySem.W.mg_of X G a7, b7, F8, PySem.W.mg_of X G a8, b8, F9, PySem.W.mg_of X G a9, b9, F10, PySem.W.mg_of X G a10, b10, F11, PySem.W.mg_of X G a11, b11, F12, PySem.W.mg_of X G a12, b12, F13, PySem.W.mg_of X G a13, b13, F14, PySem.W.mg_of X G a14, b14, F15, PySem.W.mg_of X G a15, b15, F16, PySem.W.mg_of X G a16, b16, F17, PySem.W.mg_of X G a17, b17, F18, PySem.W.mg_of X G a18, b18, F19, PySem.W.mg_of X G a19, b19, F20, PySem.W.mg_of X G a20, b20, F21, PySem.W.mg_of X G a21, b21, F22, PySem.W.mg_of X G a22, b22, F23, PySem.W.mg_of X G a23, b23, F24, PySem.W.mg_of X G a24, b24, F25, PySem.W.mg_of X G a25, b25, F26, PySem.W.mg_of X G a26, b26, F27, PySem.W.mg_of X G a27, b27, F28, PySem.W.mg_of X G a28, b28, F29, PySem.W.mg_of X G a29, b29, F30, PySem.W.mg_of X G a30, b30, F31, PySem.W.mg_of X G a31, b31, F32, PySem.W.mg_of X G a32, b32, F33, PySem.W.mg_of X G a33, b33, PySem.W.mg_none_of X G z_all, PySem.W.mg_none_of X G z_bool, PySem.W.mg_none_of X G z_enumerate, PySem.W.mg_none_of X G z_int, PySem.W.mg_none_of X G z_isinstance, PySem.W.mg_none_of X G z_len, PySem.W.mg_none_of X G z_list, PySem.W.mg_none_of X G z_max, PySem.W.mg_none_of X G z_min, PySem.W.mg_none_of X G z_range, PySem.W.mg_none_of X G z_set, PySem.W.mg_none_of X G z_sorted, PySem.W.mg_none_of X G z_str, PySem.W.mg_none_of X G z_tuple, PySem.W.mg_none_of X G z_zip, PySem.W.mg_of X G aEMPTY_LOG, PySem.W.mg_of X G aFIGURES, PySem.W.mg_of X G aLETTERS, PySem.W.mg_of X G aLONGEST_NAME, PySem.W.mg_of X G aDEED_PARTS, ⟨yDEED_PARTS, _, _, _, dDEED_PARTS, ⟨rfl, rfl, rfl⟩, rfl, (.cons rfl rfl (.cons rfl rfl (.cons rfl rfl (.cons rfl rfl (.cons rfl rfl (.cons rfl rfl (.cons rfl rfl (.cons rfl rfl (.cons rfl rfl (.cons rfl rfl (.cons rfl rfl .nil)))))))))))⟩, (.cons (.ref _) rfl (fun G => (rp_kt (xs := [.str "house", .str "name", .str "name"]) hDEED_PARTS_r0 (sizeLine_big (n := 3) (by decide)) (.cons ⟨_, rfl⟩ (.cons ⟨_, rfl⟩ (.cons ⟨_, rfl⟩ .nil))) (.cons (.str _) (.cons (.str _) (.cons (.str _) .nil))))) (.cons (.ref _) rfl (fun G => (rp_kt (xs := [.str "house", .str "name"]) hDEED_PARTS_r1 (sizeLine_big (n := 2) (by decide)) (.cons ⟨_, rfl⟩ (.cons ⟨_, rfl⟩ .nil)) (.cons (.str _) (.cons (.str _) .nil)))) (.cons (.ref _) rfl (fun G => (rp_kt (xs := [.str "house", .str "name"]) hDEED_PARTS_r2 (sizeLine_big (n := 2) (by decide)) (.cons ⟨_, rfl⟩ (.cons ⟨_, rfl⟩ .nil)) (.cons (.str _) (.cons (.str _) .nil)))) (.cons (.ref _) rfl (fun G => (rp_kt (xs := [.str "place"]) hDEED_PARTS_r3 (sizeLine_big (n := 1) (by decide)) (.cons ⟨_, rfl⟩ .nil) (.cons (.str _) .nil))) (.cons (.ref _) rfl (fun G => (rp_kt (xs := [.str "place"]) hDEED_PARTS_r4 (sizeLine_big (n := 1) (by decide)) (.cons ⟨_, rfl⟩ .nil) (.cons (.str _) .nil))) (.cons (.ref _) rfl (fun G => (rp_kt (xs := [.str "place"]) hDEED_PARTS_r5 (sizeLine_big (n := 1) (by decide)) (.cons ⟨_, rfl⟩ .nil) (.cons (.str _) .nil))) (.cons (.ref _) rfl (fun G => (rp_kt (xs := [.str "house"]) hDEED_PARTS_r6 (sizeLine_big (n := 1) (by decide)) (.cons ⟨_, rfl⟩ .nil) (.cons (.str _) .nil))) (.cons (.ref _) rfl (fun G => (rp_kt (xs := [.str "house"]) hDEED_PARTS_r7 (sizeLine_big (n := 1) (by decide)) (.cons ⟨_, rfl⟩ .nil) (.cons (.str _) .nil))) (.cons (.ref _) rfl (fun G => (rp_kt (xs := [.str "houses"]) hDEED_PARTS_r8 (sizeLine_big (n := 1) (by decide)) (.cons ⟨_, rfl⟩ .nil) (.cons (.str _) .nil))) (.cons (.ref _) rfl (fun G => (rp_kt (xs := []) hDEED_PARTS_r9 (sizeLine_big (n := 0) (by decide)) .nil .nil)) (.cons (.ref _) rfl (fun G => (rp_kt (xs := []) hDEED_PARTS_r10 (sizeLine_big (n := 0) (by decide)) .nil .nil)) .nil))))))))))), PySem.W.mg_of X G aENTRY_PARTS, ⟨yENTRY_PARTS, _, _, _, dENTRY_PARTS, ⟨rfl, rfl, rfl⟩, rfl, (.cons rfl rfl (.cons rfl rfl (.cons rfl rfl (.cons rfl rfl (.cons rfl rfl (.cons rfl rfl .nil))))))⟩, (.cons (.ref _) rfl (fun G => (rp_kt (xs := [.str "name", .str "number", .str "name", .str "number"]) hENTRY_PARTS_r0 (sizeLine_big (n := 4) (by decide)) (.cons ⟨_, rfl⟩ (.cons ⟨_, rfl⟩ (.cons ⟨_, rfl⟩ (.cons ⟨_, rfl⟩ .nil)))) (.cons (.str _) (.cons (.str _) (.cons (.str _) (.cons (.str _) .nil)))))) (.cons (.ref _) rfl (fun G => (rp_kt (xs := [.str "name", .str "number", .str "house", .str "number"]) hENTRY_PARTS_r1 (sizeLine_big (n := 4) (by decide)) (.cons ⟨_, rfl⟩ (.cons ⟨_, rfl⟩ (.cons ⟨_, rfl⟩ (.cons ⟨_, rfl⟩ .nil)))) (.cons (.str _) (.cons (.str _) (.cons (.str _) (.cons (.str _) .nil)))))) (.cons (.ref _) rfl (fun G => (rp_kt (xs := [.str "name", .str "number", .str "house"]) hENTRY_PARTS_r2 (sizeLine_big (n := 3) (by decide)) (.cons ⟨_, rfl⟩ (.cons ⟨_, rfl⟩ (.cons ⟨_, rfl⟩ .nil))) (.cons (.str _) (.cons (.str _) (.cons (.str _) .nil))))) (.cons (.ref _) rfl (fun G => (rp_kt (xs := [.str "name", .str "number"]) hENTRY_PARTS_r3 (sizeLine_big (n := 2) (by decide)) (.cons ⟨_, rfl⟩ (.cons ⟨_, rfl⟩ .nil)) (.cons (.str _) (.cons (.str _) .nil)))) (.cons (.ref _) rfl (fun G => (rp_kt (xs := [.str "name", .str "house", .str "number", .str "number"]) hENTRY_PARTS_r4 (sizeLine_big (n := 4) (by decide)) (.cons ⟨_, rfl⟩ (.cons ⟨_, rfl⟩ (.cons ⟨_, rfl⟩ (.cons ⟨_, rfl⟩ .nil)))) (.cons (.str _) (.cons (.str _) (.cons (.str _) (.cons (.str _) .nil)))))) (.cons (.ref _) rfl (fun G => (rp_kt (xs := [.str "name", .str "house", .str "number"]) hENTRY_PARTS_r5 (sizeLine_big (n := 3) (by decide)) (.cons ⟨_, rfl⟩ (.cons ⟨_, rfl⟩ (.cons ⟨_, rfl⟩ .nil))) (.cons (.str _) (.cons (.str _) (.cons (.str _) .nil))))) .nil))))))⟩
  exact ⟨_, fun s v => .of_eq rfl, fun base _ _ => ok_law T⟩
theorem walk {l : PySem.W.OpenLaw} {q : Program} {loose : List Str} {XP : (Str → Option Value) → Heap → Prop} {YP : World → Heap → Prop} {d : DefRec} {K : Params → PySem.W.Frag} (hn : l.most = some 63) (hdf : d.params.defaults = [])
    (hY : ∀ (w : World) (h : Heap), YP w h → (K w.params).In h)
    (F : ∀ (w : World) (mg : Str → Option Value) (fa : Addr) (h : Heap), (K w.params).In h → h.Ns mainGlobals mg → mg d.name = some (.ref fa) →
      ∃ fd : FuncData, (∀ (s : Shared) (u : Value), BindsTo s fd ⟨[u], []⟩ [("script", u)]) ∧ ∀ base : Heap, (K w.params).In base → base.Ns mainGlobals mg → FnOk l.prog w (K w.params) mg base CX0 10 fa fd ["script"] (spP (K w.params) 1 M_law)) :
    PySem.W.WalkO q loose XP YP l.row.toRowW d [] (fun f vs => PySem.call f vs) :=
  L2.walk_of (n := 63) (k := 10) (x := "script") (CX := fun _ => CX0) (sp := fun w => spP (K w.params) 1 M_law) hn (by decide) hdf ⟨rfl, by decide, by decide, rfl⟩ hY F (fun _ H a ns hl _ hS => ⟨H, [.list (ns.map .int)], .bool true, rfl, Same.refl H, .cons (.lst hS (.of_ints ns)) .nil, law_true ns hl, fun v G' H' _ _ _ p => by cases p; rfl⟩) fun _ _ _ _ _ z => z
end PR
open PySem PySem.W PyProof.Rows
set_option maxRecDepth 100000 in
set_option maxHeartbeats 0 in
theorem PySem.Challenge.cw_onename_k47_deeds_and_logs_written_holds : PySem.Challenge.rw_onename_k47_deeds_and_logs_written.Holds := by
  w_on; o_law; k_head; (case hw => w_witness2)
  k_fill
  refine PR.walk (l := PySem.Challenge.rw_onename_k47_deeds_and_logs_written) rfl rfl (fun w h Y => PySem.W.kIn_of Y) ?F
  case F =>
    intro w mg fa h KX G hmg
    refine' PR.all_mk KX G hmg ?a0 ?l0 ?c0 ?k0 ?a1 ?l1 ?c1 ?k1 ?a2 ?l2 ?c2 ?k2 ?a3 ?l3 ?c3 ?k3 ?a4 ?l4 ?c4 ?k4 ?a5 ?l5 ?c5 ?k5 ?a6 ?l6 ?c6 ?k6 ?a7 ?l7 ?c7 ?k7 ?a8 ?l8 ?c8 ?k8 ?a9 ?l9 ?c9 ?k9 ?a10 ?l10 ?c10 ?k10 ?a11 ?l11 ?c11 ?k11 ?a12 ?l12 ?c12 ?k12 ?a13 ?l13 ?c13 ?k13 ?a14 ?l14 ?c14 ?k14 ?a15 ?l15 ?c15 ?k15 ?a16 ?l16 ?c16 ?k16 ?a17 ?l17 ?c17 ?k17 ?a18 ?l18 ?c18 ?k18 ?a19 ?l19 ?c19 ?k19 ?a20 ?l20 ?c20 ?k20 ?a21 ?l21 ?c21 ?k21 ?a22 ?l22 ?c22 ?k22 ?a23 ?l23 ?c23 ?k23 ?a24 ?l24 ?c24 ?k24 ?a25 ?l25 ?c25 ?k25 ?a26 ?l26 ?c26 ?k26 ?a27 ?l27 ?c27 ?k27 ?a28 ?l28 ?c28 ?k28 ?a29 ?l29 ?c29 ?k29 ?a30 ?l30 ?c30 ?k30 ?a31 ?l31 ?c31 ?k31 ?a32 ?l32 ?c32 ?k32 ?a33 ?l33 ?c33 ?k33 ?z_all ?z_bool ?z_enumerate ?z_int ?z_isinstance ?z_len ?z_list ?z_max ?z_min ?z_range ?z_set ?z_sorted ?z_str ?z_tuple ?z_zip ?aEMPTY_LOG ?aFIGURES ?aLETTERS ?aLONGEST_NAME ?aDEED_PARTS ?yDEED_PARTS ?dDEED_PARTS ?hDEED_PARTS_r0 ?hDEED_PARTS_r1 ?hDEED_PARTS_r2 ?hDEED_PARTS_r3 ?hDEED_PARTS_r4 ?hDEED_PARTS_r5 ?hDEED_PARTS_r6 ?hDEED_PARTS_r7 ?hDEED_PARTS_r8 ?hDEED_PARTS_r9 ?hDEED_PARTS_r10 ?aENTRY_PARTS ?yENTRY_PARTS ?dENTRY_PARTS ?hENTRY_PARTS_r0 ?hENTRY_PARTS_r1 ?hENTRY_PARTS_r2 ?hENTRY_PARTS_r3 ?hENTRY_PARTS_r4 ?hENTRY_PARTS_r5
    (case a0 => k_is)
    (case l0 => k_is)
    (case c0 => k_is)
    (case k0 => k_is)
    (case a1 => k_is)
    (case l1 => k_is)
    (case c1 => k_is)
    (case k1 => k_is)
    (case a2 => k_is)
    (case l2 => k_is)
    (case c2 => k_is)
    (case k2 => k_is)
    (case a3 => k_is)
    (case l3 => k_is)
    (case c3 => k_is)
    (case k3 => k_is)
    (case a4 => k_is)
    (case l4 => k_is)
    (case c4 => k_is)
    (case k4 => k_is)
    (case a5 => k_is)
    (case l5 => k_is)
    (case c5 => k_is)
    (case k5 => k_is)
    (case a6 => k_is)
    (case l6 => k_is)
    (case c6 => k_is)
    (case k6 => k_is)
    (case a7 => k_is)
    (case l7 => k_is)
    (case c7 => k_is)
    (case k7 => k_is)
    (case a8 => k_is)
    (case l8 => k_is)
    (case c8 => k_is)
    (case k8 => k_is)
    (case a9 => k_is)
    (case l9 => k_is)
    (case c9 => k_is)
    (case k9 => k_is)
    (case a10 => k_is)
    (case l10 => k_is)
    (case c10 => k_is)
    (case k10 => k_is)
    (case a11 => k_is)
    (case l11 => k_is)
    (case c11 => k_is)
    (case k11 => k_is)
    (case a12 => k_is)
    (case l12 => k_is)
    (case c12 => k_is)
    (case k12 => k_is)
    (case a13 => k_is)
    (case l13 => k_is)
    (case c13 => k_is)
    (case k13 => k_is)
    (case a14 => k_is)
    (case l14 => k_is)
    (case c14 => k_is)
    (case k14 => k_is)
    (case a15 => k_is)
    (case l15 => k_is)
    (case c15 => k_is)
    (case k15 => k_is)
    (case a16 => k_is)
    (case l16 => k_is)
    (case c16 => k_is)
    (case k16 => k_is)
    (case a17 => k_is)
    (case l17 => k_is)
    (case c17 => k_is)
    (case k17 => k_is)
    (case a18 => k_is)
    (case l18 => k_is)
    (case c18 => k_is)
    (case k18 => k_is)
    (case a19 => k_is)
    (case l19 => k_is)
    (case c19 => k_is)
    (case k19 => k_is)
    (case a20 => k_is)
    (case l20 => k_is)
    (case c20 => k_is)
    (case k20 => k_is)
    (case a21 => k_is)
    (case l21 => k_is)
    (case c21 => k_is)
    (case k21 => k_is)
    (case a22 => k_is)
    (case l22 => k_is)
    (case c22 => k_is)
    (case k22 => k_is)
    (case a23 => k_is)
    (case l23 => k_is)
    (case c23 => k_is)
    (case k23 => k_is)
    (case a24 => k_is)
    (case l24 => k_is)
    (case c24 => k_is)
    (case k24 => k_is)
    (case a25 => k_is)
    (case l25 => k_is)
    (case c25 => k_is)
    (case k25 => k_is)
    (case a26 => k_is)
    (case l26 => k_is)
    (case c26 => k_is)
    (case k26 => k_is)
    (case a27 => k_is)
    (case l27 => k_is)
    (case c27 => k_is)
    (case k27 => k_is)
    (case a28 => k_is)
    (case l28 => k_is)
    (case c28 => k_is)
    (case k28 => k_is)
    (case a29 => k_is)
    (case l29 => k_is)
    (case c29 => k_is)
    (case k29 => k_is)
    (case a30 => k_is)
    (case l30 => k_is)
    (case c30 => k_is)
    (case k30 => k_is)
    (case a31 => k_is)
    (case l31 => k_is)
    (case c31 => k_is)
    (case k31 => k_is)
    (case a32 => k_is)
    (case l32 => k_is)
    (case c32 => k_is)
    (case k32 => k_is)
    (case a33 => k_is)
    (case l33 => k_is)
    (case c33 => k_is)
    (case k33 => k_is)
    (case z_all => k_is)
    (case z_bool => k_is)
    (case z_enumerate => k_is)
    (case z_int => k_is)
    (case z_isinstance => k_is)
    (case z_len => k_is)
    (case z_list => k_is)
    (case z_max => k_is)
    (case z_min => k_is)
    (case z_range => k_is)
    (case z_set => k_is)
    (case z_sorted => k_is)
    (case z_str => k_is)
    (case z_tuple => k_is)
    (case z_zip => k_is)
    (case aEMPTY_LOG => k_is)
    (case aFIGURES => k_is)
    (case aLETTERS => k_is)
    (case aLONGEST_NAME => k_is)
    (case aDEED_PARTS => k_is)
    (case yDEED_PARTS => first | k_is | decide)
    (case dDEED_PARTS => k_is)
    (case hDEED_PARTS_r0 => k_is)
    (case hDEED_PARTS_r1 => k_is)
    (case hDEED_PARTS_r2 => k_is)
    (case hDEED_PARTS_r3 => k_is)
    (case hDEED_PARTS_r4 => k_is)
    (case hDEED_PARTS_r5 => k_is)
    (case hDEED_PARTS_r6 => k_is)
    (case hDEED_PARTS_r7 => k_is)
    (case hDEED_PARTS_r8 => k_is)
    (case hDEED_PARTS_r9 => k_is)
    (case hDEED_PARTS_r10 => k_is)
    (case aENTRY_PARTS => k_is)
    (case yENTRY_PARTS => first | k_is | decide)
    (case dENTRY_PARTS => k_is)
    (case hENTRY_PARTS_r0 => k_is)
    (case hENTRY_PARTS_r1 => k_is)
    (case hENTRY_PARTS_r2 => k_is)
    (case hENTRY_PARTS_r3 => k_is)
    (case hENTRY_PARTS_r4 => k_is)
    (case hENTRY_PARTS_r5 => k_is)
