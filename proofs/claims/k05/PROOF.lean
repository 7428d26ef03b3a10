import PyProof.Rows.All
import Wide.All
import OpenK.AllK
import Wide.FinOn
import PyProof.EqAt
import PyProof.EqKinds
import PyProof.TupleCall
import KE.BitLaws
import PySem.SetOps
import PyProof.SetScanFacts
import PyProof.SetKind
import PyProof.DictKinds
import PyProof.TupleKey
import PyProof.IsRules
import PyProof.DictStraight
import PyProof.CollectStr
import PyProof.SetRoads
import KE.KSortTupG
import PyProof.Rows.SortWalk
import KE.KSortKey
import KE.KLam
import PyProof.Rows.SetFrom
import PyProof.Rows.TupAdd
import PyProof.P3In
import KE.KRevSl
import PyProof.AttrMissSeq
import PyProof.DictUpdate
import PyProof.Draws
import PyProof.EnumMake
import PyProof.WalksMore
import PyProof.WalkInts
import KE.KListMore
import PyProof.StrOps2
import PyProof.ZipIter
import KE.KTurns
import KE.IntBitsLaws
import PyProof.ListMulRoad
import PyProof.FactsAll.tuple_2
import PyProof.FactsAll.tuple_1
import PyProof.DictCompW
import OpenK.KOwn
import KE.KTryMore
import KE.KIsAll
import PyProof.RulesDel
import PyProof.RulesAs
import PyProof.ExcArgsOwn
import KE.KNest
import KE.KDictList
import PySem.Challenge.RW_wholesides_k05_faces_and_holders
set_option Elab.async false
set_option linter.all false
set_option maxRecDepth 100000
namespace L2
open PySem PySem.Spec PyProof.Rows

abbrev Key := Sum Int Str
def keyIs : Key → Value → Bool
  | .inl k, v => Value.isInt k v
  | .inr x, v => Value.isStrOf x v
def keyH (w : World) : Key → Int
  | .inl k => hashInt k
  | .inr x => hashStr w x
theorem keyIs_shape : ∀ {k : Key} {v : Value}, keyIs k v = true → (∃ i t, k = Sum.inl i ∧ v = Value.int i t) ∨ (∃ x t, k = Sum.inr x ∧ v = Value.str x t)
  | .inl i, v, h => by
    obtain ⟨t, e⟩ := Value.isInt_shape (k := i) (v := v) h
    exact .inl ⟨i, t, rfl, e⟩
  | .inr x, v, h => by
    obtain ⟨t, e⟩ := Value.isStrOf_shape (x := x) (v := v) h
    exact .inr ⟨x, t, rfl, e⟩
theorem keyIs_int (i : Int) (t : Tok) : keyIs (.inl i) (.int i t) = true := by simp [keyIs, Value.isInt]
theorem keyIs_str (x : Str) (t : Tok) : keyIs (.inr x) (.str x t) = true := by simp [keyIs, Value.isStrOf]
theorem key_ll (a b : Int) : decide ((Sum.inl a : Key) = Sum.inl b) = (a == b) := by
  by_cases e : a = b
  · subst e; simp
  · have h : ¬ (Sum.inl a : Key) = Sum.inl b := fun q => e (Sum.inl.inj q)
    rw [decide_eq_false h]
    exact (beq_eq_false_iff_ne.mpr e).symm
theorem key_rr (a b : Str) : decide ((Sum.inr a : Key) = Sum.inr b) = decide (a = b) := by
  by_cases e : a = b
  · subst e; simp
  · have h : ¬ (Sum.inr a : Key) = Sum.inr b := fun q => e (Sum.inr.inj q)
    rw [decide_eq_false h, decide_eq_false e]
theorem key_lr (a : Int) (b : Str) : decide ((Sum.inl a : Key) = Sum.inr b) = false := decide_eq_false (fun q => nomatch q)
theorem key_rl (a : Str) (b : Int) : decide ((Sum.inr a : Key) = Sum.inl b) = false := decide_eq_false (fun q => nomatch q)

def mixKind (prog : Program) (w : World) : PySem.KeyKind prog w Key where
  is := keyIs
  hash := keyH w
  inj := fun v a b ha hb => by
    rcases keyIs_shape ha with ⟨i, t, rfl, rfl⟩ | ⟨x, t, rfl, rfl⟩
    · rcases keyIs_shape hb with ⟨j, u, rfl, e⟩ | ⟨y, u, rfl, e⟩
      · injection e with e1 _; rw [e1]
      · exact nomatch e
    · rcases keyIs_shape hb with ⟨j, u, rfl, e⟩ | ⟨y, u, rfl, e⟩
      · exact nomatch e
      · injection e with e1 _; rw [e1]
  byValue := fun k v h => by
    rcases keyIs_shape h with ⟨i, t, rfl, rfl⟩ | ⟨x, t, rfl, rfl⟩ <;> rfl
  pyHash := fun hv h => by
    rcases keyIs_shape hv with ⟨i, t, rfl, rfl⟩ | ⟨x, t, rfl, rfl⟩
    · exact wpAny_pyHash_int h
    · exact wpAny_pyHash_str h
  eqBool := fun hu hv h => by
    rcases keyIs_shape hu with ⟨i, t, rfl, rfl⟩ | ⟨x, t, rfl, rfl⟩
    · rcases keyIs_shape hv with ⟨j, u, rfl, rfl⟩ | ⟨y, u, rfl, rfl⟩
      · rw [key_ll] at h; exact wpAny_eqBool_int h
      · rw [key_lr] at h; exact SeqAt.EqAt.int_str i t y u _ _ _ _ h
    · rcases keyIs_shape hv with ⟨j, u, rfl, rfl⟩ | ⟨y, u, rfl, rfl⟩
      · rw [key_rl] at h; exact SeqAt.EqAt.str_int x t j u _ _ _ _ h
      · rw [key_rr] at h; exact wpAny_eqBool_str h
  «strs» := fun k x t v h => by
    rcases keyIs_shape h with ⟨i, u, rfl, e⟩ | ⟨y, u, rfl, e⟩
    · exact nomatch e
    · injection e with e1 _
      subst e1
      cases v <;> rfl

theorem mixKind_int (prog : Program) (w : World) (i : Int) (t : Tok) : (mixKind prog w).is (.inl i) (.int i t) = true := keyIs_int i t
theorem mixKind_str (prog : Program) (w : World) (x : Str) (t : Tok) : (mixKind prog w).is (.inr x) (.str x t) = true := keyIs_str x t
end L2

namespace L2
open PySem PySem.Spec PyProof.Rows

inductive V where
  | non | bl (b : Bool) | int (i : Int) | str (x : Str) | byt (b : Array UInt8) | flt (b : UInt64) | ref (a : Addr) | ty (n : String)
  deriving DecidableEq

def RelV : V → Value → Prop
  | .non, u => u = Value.none
  | .bl b, u => u = Value.bool b
  | .int i, u => ∃ t, u = Value.int i t
  | .str x, u => ∃ t, u = Value.str x t
  | .byt b, u => ∃ t, u = Value.bytes b t
  | .flt b, u => ∃ t, u = Value.float b t
  | .ref a, u => u = Value.ref a
  | .ty n, u => u = Value.type n

abbrev Vals : List V → List Value → Prop := Paired RelV
theorem Vals.length {xs : List V} {us : List Value} (r : Vals xs us) : xs.length = us.length := Paired.length r
theorem Vals.get : ∀ {xs : List V} {us : List Value} {i : Nat} {x : V}, Vals xs us → xs[i]? = some x → ∃ u, us[i]? = some u ∧ RelV x u
  | _, _, _, _, .nil, e => by simp at e
  | _, _, 0, _, .cons r _, e => by simp at e; subst e; exact ⟨_, rfl, r⟩
  | _, _, i + 1, x, .cons _ t, e => by
    obtain ⟨u, h1, h2⟩ := Vals.get (i := i) (x := x) t (by simpa using e)
    exact ⟨u, by simpa using h1, h2⟩
theorem Vals.set {x : V} {u : Value} (r : RelV x u) : ∀ {xs : List V} {us : List Value} (i : Nat), Vals xs us → Vals (xs.set i x) (us.set i u)
  | _, _, _, .nil => .nil
  | _, _, 0, .cons _ t => .cons r t
  | _, _, i + 1, .cons q t => .cons q (Vals.set r i t)
theorem Vals.append : ∀ {xs ys : List V} {us ws : List Value}, Vals xs us → Vals ys ws → Vals (xs ++ ys) (us ++ ws)
  | _, _, _, _, .nil, s => s
  | _, _, _, _, .cons r t, s => .cons r (Vals.append t s)
theorem Vals.take : ∀ {xs : List V} {us : List Value} (n : Nat), Vals xs us → Vals (xs.take n) (us.take n)
  | _, _, 0, _ => .nil
  | _, _, _ + 1, .nil => .nil
  | _, _, n + 1, .cons r t => .cons r (Vals.take n t)
theorem Vals.drop : ∀ {xs : List V} {us : List Value} (n : Nat), Vals xs us → Vals (xs.drop n) (us.drop n)
  | _, _, 0, r => r
  | _, _, _ + 1, .nil => .nil
  | _, _, n + 1, .cons _ t => Vals.drop n t
def RelO : Option V → Option Value → Prop
  | some v, some u => RelV v u
  | none, none => True
  | _, _ => False
def KV {κ : Type} : List (κ × V) → List (κ × Value) → Prop := Paired fun (p : κ × V) (q : κ × Value) => p.1 = q.1 ∧ RelV p.2 q.2

def kV : Key → V
  | .inl i => .int i
  | .inr x => .str x

inductive HO where
  /-- a list -/
  | lst (xs : List V)
  /-- a tuple (never changes) -/
  | tup (xs : List V)
  /-- a dict whose keys are ints and texts; one whose keys are tuples of ints and texts (the empty one is both) -/
  | dK (kvs : List (Key × V)) | dT (kvs : List (List Key × V))
  /-- a set of ints: its members, its size -/
  | set (S : Int → Bool) (n : Nat)
  /-- an instance of the class at C, its dict at dx, its attributes -/
  | ins (C dx : Addr) (fs : List (Str × V))
  /-- the dict of the instance at x -/
  | own (x : Addr)
  /-- the dict of an exception -/
  | xd (fs : List (Str × V))
  /-- a bound method, f of x -/
  | met (f x : Addr)
  /-- a range object lo, lo + 1, .. below hi -/
  | rng (lo hi : Int)
  /-- a thing that is known to the object (the script; a dict while a loop walks it): read, never written while it is so -/
  | frz (o : Obj) (u : HO)
  /-- a code object's table -/
  | tbl (ps : Array Value)
  /-- any other thing, by what is true of its one object (a def of one's own: SetO a S n := HO.ext fun h => ..) -/
  | ext (φ : Heap → Prop)
  /-- a code object, as it is (never changes) -/
  | cod (o : Obj)
  /-- a code object's table whose code objects are of lambdas by this name -/
  | lam (q : Str)
def Fix : HO → Prop
  | .tup _ => True
  | .cod _ => True
  | _ => False

abbrev Hp := Addr → Option HO
def upd (H : Hp) (a : Addr) (o : HO) : Hp := fun b => if b = a then some o else H b
theorem upd_same {H : Hp} {a : Addr} {o : HO} : upd H a o a = some o := by unfold upd; rw [if_pos rfl]
theorem upd_ne {H : Hp} {a b : Addr} {o : HO} (h : b ≠ a) : upd H a o b = H b := by unfold upd; rw [if_neg h]
theorem ne_of {H : Hp} {a b : Addr} {o u : HO} (h : H a = some o) (h' : H b = some u) (d : o ≠ u) : a ≠ b := by
  intro e; subst e; rw [h] at h'; exact d (Option.some.inj h')
theorem ne_of_none {H : Hp} {a b : Addr} {o : HO} (h : H a = some o) (h' : H b = none) : a ≠ b := by
  intro e; subst e; rw [h] at h'; cases h'

section
variable (P : Program) (w : World)
def ObjOk (H : Hp) (h : Heap) (a : Addr) : HO → Prop
  | .lst xs => xs.length ≤ sizeLine ∧ ∃ (its : List Value) (n : Nat), Vals xs its ∧ h.get? a = some { cls := .type "list", data := .seq its.toArray n }
  | .tup xs => xs.length ≤ sizeLine ∧ ∃ its : List Value, Vals xs its ∧ IsTup h a its.toArray
  | .dK kvs => kvs.length ≤ sizeLine ∧ (a == sysModules) = false ∧ ∃ vs, KV kvs vs ∧ h.DictOf (mixKind P w) a vs
  | .dT kvs => kvs.length ≤ sizeLine ∧ (a == sysModules) = false ∧ ∃ xs : List (List Key × Addr × Value),
      Paired (fun (p : List Key × V) (q : List Key × Addr × Value) => p.1 = q.1 ∧ H q.2.1 = some (.tup (p.1.map kV)) ∧ RelV p.2 q.2.2) kvs xs ∧
      ∃ o es ep, h.get? a = some o ∧ o.ExactDict ∧ o.data = .dict es ep ∧ es.toList = xs.map (entryOfKey (tupleKind (mixKind P w))) ∧ (xs.map (·.1)).Nodup
  | .set S n => h.SetOf (intKind P w) a S n
  | .ins C dx fs => H dx = some (.own a) ∧ fs.length ≤ 1000 ∧ dx ≠ a ∧ h.get? a = some (PySem.W.instObj C dx) ∧
      ∃ mA, h.Ns1 dx mA ∧ (∀ f, RelO (fs.lookup f) (mA f)) ∧ PySem.Within mA (fs.map (·.1))
  | .own _ => ∃ o, h.get? a = some o
  | .xd fs => ∃ mA, h.Ns1 a mA ∧ ∀ f, RelO (fs.lookup f) (mA f)
  | .rng lo hi => ∃ t u v, h.get? a = some { cls := .type "range", data := .fields #[.int lo t, .int hi u, .int 1 v] }
  | .frz o u => h.get? a = some o ∧ ObjOk H h a u
  | .tbl ps => h.get? a = some { cls := .none, data := .fields ps }
  | .met f x => h.get? a = some (PySem.W.methodObj (.ref f) (.ref x))
  | .ext φ => φ h ∧ (∃ o, h.get? a = some o) ∧ ∀ h1 h2 : Heap, φ h1 → (∀ o, h1.get? a = some o → h2.get? a = some o) → φ h2
  | .cod o => h.get? a = some o
  | .lam q => ∃ more : Array Value, h.get? a = some { cls := .none, data := .fields more } ∧ TriplesOk more.toList ∧ ∀ (pos : Pos) (cv : Value), codeAmong pos more.toList = some cv →
      ∃ (c : Addr) (o : Obj) (vs : Array Value) (t : Tok), cv = .ref c ∧ H c = some (.cod o) ∧ o.data = .fields vs ∧ vs[1]? = some (.str q t)
def HOk (H : Hp) (h : Heap) : Prop := ∀ a o, H a = some o → ObjOk P w H h a o
end

section
variable {P : Program} {w : World} {H H' : Hp} {h h' : Heap} {a : Addr} {o : HO}
theorem ObjOk.lt (x : ObjOk P w H h a o) : a < h.objs.size := by
  cases o with
  | lst xs => obtain ⟨_, _, _, _, e⟩ := x; exact Heap.lt_size e
  | tup xs => obtain ⟨_, _, _, p⟩ := x; exact p.lt
  | dK kvs => obtain ⟨_, _, _, _, o, _, _, e, _⟩ := x; exact Heap.lt_size e
  | dT kvs => obtain ⟨_, _, _, _, o, _, _, e, _⟩ := x; exact Heap.lt_size e
  | set S n => obtain ⟨o, _, _, _, e, _⟩ := x; exact Heap.lt_size e
  | ins C dx fs => obtain ⟨_, _, _, e, _⟩ := x; exact Heap.lt_size e
  | own y => obtain ⟨_, e⟩ := x; exact Heap.lt_size e
  | xd fs => obtain ⟨_, ⟨_, _, _, e, _⟩, _⟩ := x; exact Heap.lt_size e
  | rng lo hi => obtain ⟨_, _, _, e⟩ := x; exact Heap.lt_size e
  | frz ob u => obtain ⟨e, _⟩ := x; exact Heap.lt_size e
  | tbl ps => exact Heap.lt_size (show h.get? a = some _ from x)
  | met f y => exact Heap.lt_size (show h.get? a = some _ from x)
  | ext φ => obtain ⟨_, ⟨_, e⟩, _⟩ := x; exact Heap.lt_size e
  | cod ob => exact Heap.lt_size (show h.get? a = some _ from x)
  | lam q => obtain ⟨_, e, _⟩ := x; exact Heap.lt_size e
theorem Paired.mapP {α β : Type} {F G : α → β → Prop} : ∀ {l₁ : List α} {l₂ : List β}, Paired F l₁ l₂ → (∀ a b, F a b → G a b) → Paired G l₁ l₂
  | _, _, .nil, _ => .nil
  | _, _, .cons r t, f => .cons (f _ _ r) (Paired.mapP t f)
theorem ObjOk.stay (x : ObjOk P w H h a o) (k : ∀ b u, (b = a ∨ H b = some (.own a)) → h.get? b = some u → h'.get? b = some u)
    (ho : ∀ b, H b = some (.own a) → H' b = some (.own a)) (ht : ∀ b u, Fix u → H b = some u → H' b = some u) : ObjOk P w H' h' a o := by
  induction o with
  | lst xs => obtain ⟨z, its, n, r, e⟩ := x; exact ⟨z, its, n, r, k _ _ (.inl rfl) e⟩
  | tup xs => obtain ⟨z, its, r, ob, e, c⟩ := x; exact ⟨z, its, r, ob, k _ _ (.inl rfl) e, c⟩
  | dK kvs => obtain ⟨z, y, vs, r, ob, es, ep, e, c⟩ := x; exact ⟨z, y, vs, r, ob, es, ep, k _ _ (.inl rfl) e, c⟩
  | dT kvs =>
    obtain ⟨z, y, xs, r, ob, es, ep, e, c⟩ := x
    exact ⟨z, y, xs, Paired.mapP r fun p q z => ⟨z.1, ht _ _ trivial z.2.1, z.2.2⟩, ob, es, ep, k _ _ (.inl rfl) e, c⟩
  | set S n => obtain ⟨ob, es, ep, t, e, c⟩ := x; exact ⟨ob, es, ep, t, k _ _ (.inl rfl) e, c⟩
  | ins C dx fs =>
    obtain ⟨d, z, ne, e, mA, ⟨od, es, ep, e2, c⟩, r⟩ := x
    exact ⟨ho _ d, z, ne, k _ _ (.inl rfl) e, mA, ⟨od, es, ep, k _ _ (.inr d) e2, c⟩, r⟩
  | own y => obtain ⟨ob, e⟩ := x; exact ⟨ob, k _ _ (.inl rfl) e⟩
  | xd fs => obtain ⟨mA, ⟨od, es, ep, e, c⟩, r⟩ := x; exact ⟨mA, ⟨od, es, ep, k _ _ (.inl rfl) e, c⟩, r⟩
  | rng lo hi => obtain ⟨t, u, v, e⟩ := x; exact ⟨t, u, v, k _ _ (.inl rfl) e⟩
  | frz ob u ih => obtain ⟨e, q⟩ := x; exact ⟨k _ _ (.inl rfl) e, ih q⟩
  | tbl ps =>
    have e : h.get? a = some { cls := .none, data := .fields ps } := x
    show h'.get? a = some { cls := .none, data := .fields ps }
    exact k a _ (.inl rfl) e
  | met f y =>
    have e : h.get? a = some (PySem.W.methodObj (.ref f) (.ref y)) := x
    show h'.get? a = some (PySem.W.methodObj (.ref f) (.ref y))
    exact k a _ (.inl rfl) e
  | ext φ => obtain ⟨p, ⟨o, e⟩, st⟩ := x; exact ⟨st _ _ p fun o q => k _ _ (.inl rfl) q, ⟨o, k _ _ (.inl rfl) e⟩, st⟩
  | cod ob =>
    have e : h.get? a = some ob := x
    show h'.get? a = some ob
    exact k a _ (.inl rfl) e
  | lam q =>
    obtain ⟨more, e, tr, z⟩ := x
    exact ⟨more, k _ _ (.inl rfl) e, tr, fun pos cv hc => let ⟨c, o, vs, t, e1, e2, r⟩ := z pos cv hc; ⟨c, o, vs, t, e1, ht c _ trivial e2, r⟩⟩
theorem HOk.lt (x : HOk P w H h) (e : H a = some o) : a < h.objs.size := (x a o e).lt
theorem HOk.fresh (x : HOk P w H h) (e : h.objs.size ≤ a) : H a = none := by
  cases q : H a with
  | none => rfl
  | some u => exact absurd (Nat.lt_of_lt_of_le (x.lt q) e) (Nat.lt_irrefl _)
theorem HOk.kept (x : HOk P w H h) (k : ∀ b u, h.get? b = some u → h'.get? b = some u) : HOk P w H h' := fun a o e =>
  (x a o e).stay (fun b u _ q => k b u q) (fun _ q => q) fun _ _ _ q => q
theorem HOk.laid (x : HOk P w H h) (k : ∀ b u, h.get? b = some u → h'.get? b = some u) (hp : h.objs.size ≤ a) (new : ObjOk P w (upd H a o) h' a o) : HOk P w (upd H a o) h' := fun b u e => by
  have hn := x.fresh hp
  by_cases hb : b = a
  · subst hb; rw [upd_same] at e; cases e; exact new
  · rw [upd_ne hb] at e
    exact (x b u e).stay (fun c v _ q => k c v q) (fun c q => by rw [upd_ne (ne_of_none q hn)]; exact q) fun c xs _ q => by rw [upd_ne (ne_of_none q hn)]; exact q
end

def Rd (H : Hp) (a : Addr) (u : HO) : Prop := H a = some u ∨ ∃ o, H a = some (.frz o u)
theorem Rd.of {H : Hp} {a : Addr} {u : HO} (h : H a = some u) : Rd H a u := .inl h
theorem Rd.ok {P : Program} {w : World} {H : Hp} {h : Heap} {a : Addr} {u : HO} (r : Rd H a u) (x : HOk P w H h) : ObjOk P w H h a u := by
  rcases r with r | ⟨o, r⟩
  · exact x a u r
  · obtain ⟨_, q⟩ := x a _ r
    exact q
def Mut : Option HO → Prop
  | some (.lst _) => True
  | some (.dK _) => True
  | some (.dT _) => True
  | some (.set _ _) => True
  | some (.ins _ _ _) => True
  | some (.ext _) => True
  | some (.lam _) => True
  | _ => False
section
variable {P : Program} {w : World} {H : Hp} {h h' : Heap} {x e : Addr} {o' : HO}
theorem HOk.write (ok : HOk P w H h) (mu : Mut (H x)) (he : e = x ∨ H e = some (.own x)) (k : ∀ b u, b ≠ e → h.get? b = some u → h'.get? b = some u) (heo : ∃ u, h'.get? e = some u)
    (new : ObjOk P w (upd H x o') h' x o') : HOk P w (upd H x o') h' := fun b u q => by
  have nown : ∀ c y, H c = some (.own y) → c ≠ x := fun c y r z => by subst z; rw [r] at mu; exact mu
  have ntup : ∀ c u, Fix u → H c = some u → c ≠ x := fun c u f r z => by subst z; rw [r] at mu; cases u <;> first | exact f | exact mu
  by_cases hb : b = x
  · subst hb; rw [upd_same] at q; cases q; exact new
  · rw [upd_ne hb] at q
    by_cases hbe : b = e
    · have q' : H b = some (.own x) := by
        rcases he with z | z
        · exact absurd (hbe.trans z) hb
        · rw [hbe]; exact z
      rw [q] at q'; cases q'
      obtain ⟨v, hv⟩ := heo
      exact ⟨v, by rw [hbe]; exact hv⟩
    · refine (ok b u q).stay (fun c v hc r => k c v ?_ r) (fun c r => by rw [upd_ne (nown c b r)]; exact r) fun c xs f r => by rw [upd_ne (ntup c xs f r)]; exact r
      rcases hc with rfl | hc
      · exact hbe
      · rintro rfl
        rcases he with z | z
        · exact nown c b hc z
        · rw [hc] at z; cases z; exact hb rfl
end

structure Un (fs ex : List Addr) (H H' : Hp) (h h' : Heap) : Prop where
  keep : ∀ b o, h.get? b = some o → H b = none → b ∉ fs → b ∉ ex → h'.get? b = some o
  slot : ∀ b o, h.get? b = some o → H b = none → b ∈ fs → b ∉ ex → ∃ sl, h'.get? b = some { o with slots := sl }
  free : ∀ b o, h.get? b = some o → H b = none → b ∉ ex → H' b = none
  there : ∀ b o, h.get? b = some o → b ∉ ex → ∃ o', h'.get? b = some o'
  tups : ∀ b xs, H b = some (.tup xs) → H' b = some (.tup xs)
  frzs : ∀ b o u, H b = some (.frz o u) → H' b = some (.frz o u)
  tbls : ∀ b ps, H b = some (.tbl ps) → ∃ more, H' b = some (.tbl (ps ++ more))
section
variable {fs fs' ex ex' : List Addr} {H H1 H2 : Hp} {h h1 h2 h' : Heap} {a x e : Addr} {o : HO}
theorem Un.any (u : Un fs ex H H1 h h1) {b : Addr} {ob : Obj} (q : h.get? b = some ob) (n : H b = none) (hx : b ∉ ex) : ∃ sl, h1.get? b = some { ob with slots := sl } := by
  by_cases hb : b ∈ fs
  · exact u.slot b ob q n hb hx
  · exact ⟨ob.slots, u.keep b ob q n hb hx⟩
theorem Un.trans (a : Un fs ex H H1 h h1) (b : Un fs ex H1 H2 h1 h2) : Un fs ex H H2 h h2 where
  keep := fun c ob q n hc hx => b.keep c ob (a.keep c ob q n hc hx) (a.free c ob q n hx) hc hx
  slot := fun c ob q n hc hx => by
    obtain ⟨sl, e1⟩ := a.slot c ob q n hc hx
    obtain ⟨sl', e2⟩ := b.slot c _ e1 (a.free c ob q n hx) hc hx
    exact ⟨sl', e2⟩
  free := fun c ob q n hx => by
    obtain ⟨o', e1⟩ := a.there c ob q hx
    exact b.free c o' e1 (a.free c ob q n hx) hx
  there := fun c ob q hx => by
    obtain ⟨o', e1⟩ := a.there c ob q hx
    exact b.there c o' e1 hx
  tups := fun c xs q => b.tups c xs (a.tups c xs q)
  frzs := fun c ob xs q => b.frzs c ob xs (a.frzs c ob xs q)
  tbls := fun c ps q => by
    obtain ⟨m1, e1⟩ := a.tbls c ps q
    obtain ⟨m2, e2⟩ := b.tbls c _ e1
    exact ⟨m1 ++ m2, by rw [e2, Array.append_assoc]⟩
theorem Un.kept (k : ∀ b u, h.get? b = some u → h'.get? b = some u) : Un fs ex H H h h' :=
  ⟨fun b ob q _ _ _ => k b ob q, fun b ob q _ _ _ => ⟨ob.slots, k b ob q⟩, fun _ _ _ n _ => n, fun b ob q _ => ⟨ob, k b ob q⟩, fun _ _ q => q, fun _ _ _ q => q, fun _ ps q => ⟨#[], by rw [q]; simp⟩⟩
theorem Un.refl : Un fs ex H H h h := Un.kept fun _ _ q => q
theorem Un.laid (k : ∀ b u, h.get? b = some u → h'.get? b = some u) (hp : h.objs.size ≤ a) (hn : H a = none) : Un fs ex H (upd H a o) h h' where
  keep := fun b u q _ _ _ => k b u q
  slot := fun b u q _ _ _ => ⟨u.slots, k b u q⟩
  free := fun b u q n _ => by rw [upd_ne (Nat.ne_of_lt (Nat.lt_of_lt_of_le (Heap.lt_size q) hp))]; exact n
  there := fun b u q _ => ⟨u, k b u q⟩
  tups := fun b xs q => by rw [upd_ne (ne_of_none q hn)]; exact q
  frzs := fun b u xs q => by rw [upd_ne (ne_of_none q hn)]; exact q
  tbls := fun b ps q => ⟨#[], by rw [upd_ne (ne_of_none q hn), q]; simp⟩
theorem Un.write (mu : Mut (H x)) (he : e = x ∨ H e = some (.own x)) (k : ∀ b u, b ≠ e → h.get? b = some u → h'.get? b = some u) (heo : ∃ u, h'.get? e = some u) : Un fs ex H (upd H x o) h h' := by
  have hx : ∀ b, H b = none → b ≠ x := fun b n z => by subst z; rw [n] at mu; exact mu
  have hb : ∀ b, H b = none → b ≠ e := fun b n z => by
    subst z
    rcases he with r | r
    · exact hx b n r
    · rw [n] at r; cases r
  have hm : ∀ b u, H b = some u → ¬ Mut (some u) → b ≠ x := fun b u q nm z => by subst z; rw [q] at mu; exact nm mu
  refine ⟨fun b u q n _ _ => k b u (hb b n) q, fun b u q n _ _ => ⟨u.slots, k b u (hb b n) q⟩, fun b u q n _ => by rw [upd_ne (hx b n)]; exact n, fun b u q _ => ?_,
    fun b xs q => by rw [upd_ne (hm b _ q fun z => z)]; exact q, fun b u xs q => by rw [upd_ne (hm b _ q fun z => z)]; exact q, fun b ps q => ⟨#[], by rw [upd_ne (hm b _ q fun z => z), q]; simp⟩⟩
  by_cases hbe : b = e
  · subst hbe; exact heo
  · exact ⟨u, k b u hbe q⟩
theorem Un.mono (u : Un fs ex H H1 h h1) (hs : ∀ b ∈ fs, b ∈ fs') (hx : ∀ b ∈ ex, b ∈ ex') : Un fs' ex' H H1 h h1 :=
  ⟨fun b ob q n hb he => u.keep b ob q n (fun z => hb (hs b z)) fun z => he (hx b z), fun _ _ q n _ he => u.any q n fun z => he (hx _ z), fun b ob q n he => u.free b ob q n fun z => he (hx b z), fun b ob q he => u.there b ob q fun z => he (hx b z), u.tups, u.frzs, u.tbls⟩
end

def trk (h : Heap) (H : Hp) : List Addr := (List.range h.objs.size).filter fun a => (H a).isSome
def hidT (h : Heap) (H : Hp) : Heap := PySem.W.hideAll h (trk h H)
theorem hidT_size (h : Heap) (H : Hp) : (hidT h H).objs.size = h.objs.size := PySem.W.hideAll_size _ _
theorem hidT_get {h : Heap} {H : Hp} {b : Addr} {o : Obj} (e : h.get? b = some o) (n : H b = none) : (hidT h H).get? b = some o :=
  PySem.W.hideAll_get _ e fun hm => by
    have q : (H b).isSome = true := (List.mem_filter.mp hm).2
    rw [n] at q; simp at q
theorem of_hidT {h : Heap} {H : Hp} {b : Addr} {o : Obj} (e : (hidT h H).get? b = some o) : h.get? b = some o ∧ H b = none := by
  have e' : h.get? b = some o := PySem.W.of_hideAll (trk h H) e
  refine ⟨e', ?_⟩
  cases q : H b with
  | none => rfl
  | some x =>
    have hm : b ∈ trk h H := List.mem_filter.mpr ⟨List.mem_range.mpr (Heap.lt_size e'), by simp [q]⟩
    have z : (hidT h H).get? b = none := PySem.W.hideAll_none (trk h H) hm
    rw [z] at e; cases e

def allNews (g h : Heap) (L : Addr) : List (Addr × Obj) := (List.range h.objs.size).filterMap fun a => if a = L ∨ (g.get? a).isSome = true then none else (h.get? a).map fun o => (a, o)
def rest (g h : Heap) (L d : Addr) : List (Addr × Obj) := (allNews g h L).filter fun p => decide (p.1 ≠ d)
end L2

namespace L2
open PySem PySem.Spec PyProof.Rows

structure Mod (K : PySem.W.Frag) (mg : Str → Option Value) (base : Heap) : Prop where
  kin : K.In base
  glob : base.Ns mainGlobals mg
  blt : ∃ mb, base.Ns builtinsNs mb ∧ ∀ x : Str, x ≠ "__name__" → mb x = bootBuiltins x
  nolimit : base.NoLimit

structure Cx where
  prog : Program
  w : World
  K : PySem.W.Frag
  mg : Str → Option Value
  base : Heap
  A : Around
  N : List Str
  s_0 : Shared
  H_0 : Hp
  env : Env
  outer : List Env
  stack : List Env
  ex : List Addr
  fn : Str → Bool
  calm : Bool
  pn : List (Addr × Obj)
  xe : Value → Shared → Prop
def frs (l : List Env) : List Addr := l.filterMap (·.frame)
abbrev Cx.fs (X : Cx) : List Addr := frs X.outer

def Vis (sc : Scope) (x : Str) : Prop := sc.names.lookup x = some .local ∨ sc.names.lookup x = some .cell ∨ sc.names.lookup x = some .free
def Loc (sc : Scope) (x : Str) : Prop := sc.names.lookup x = some .local ∨ sc.names.lookup x = some .cell
def Look (env : Env) (h : Heap) (m : Str → Option Value) (x : Str) (u : Value) : Prop :=
  (env.kindOf x = some .local ∧ m x = some u) ∨ ((env.kindOf x = some .cell ∨ env.kindOf x = some .free) ∧ ∃ c, env.cells.lookup x = some c ∧ h.IsCell c (some u))

structure Cx.Ok (X : Cx) : Prop where
  mod : Mod X.K X.mg X.base
  kind : X.env.scope.kind = .function
  glob : X.env.globals = mainGlobals
  blt : X.env.builtins = builtinsNs
  above : X.s_0.heap.objs.size ≤ X.env.locals
  inj : ∀ x y c, X.env.cells.lookup x = some c → X.env.cells.lookup y = some c → x = y
  has : ∀ x, (X.env.kindOf x = some .cell ∨ X.env.kindOf x = some .free) → ∃ c, X.env.cells.lookup x = some c
  cab : ∀ x c, X.fn x = true → X.env.cells.lookup x = some c → X.s_0.heap.objs.size ≤ c
  hd : X.calm = true → X.A.handled = none
  frames : X.A.frames = some X.stack
  stk : X.stack = X.outer ∨ (X.stack = X.env :: X.outer ∧ X.env.frame = some X.env.locals)
  exf : ∀ b ∈ X.ex, b ≠ X.env.locals ∧ ∀ x c, X.env.cells.lookup x = some c → c ≠ b
  bs : ∀ b o, X.base.get? b = some o → X.s_0.heap.get? b = some o ∧ X.H_0 b = none
  bsz : X.base.objs.size ≤ X.s_0.heap.objs.size
  noex : ∀ b o, X.base.get? b = some o → b ∉ X.ex
  exfs : ∀ b ∈ X.ex, b ∉ X.fs
  funs : X.s_0.heap.FunFrames X.base X.outer
  frf : ∀ b ∈ X.fs, X.H_0 b = none

structure Inv (X : Cx) (pins : List (Addr × Obj)) (σ : List (Option V)) (H : Hp) (s : Shared) : Prop where
  ok : X.Ok
  os : s.os = X.s_0.os
  bare : AllBare s.gens
  base : Un X.fs X.ex X.H_0 H X.s_0.heap s.heap
  loc : ∃ m, s.heap.Ns X.env.locals m ∧ ∀ (i : Nat) (x : Str) (v : V), X.N[i]? = some x → σ[i]? = some (some v) → Vis X.env.scope x → ∃ u, RelV v u ∧ Look X.env s.heap m x u
  cell : ∀ x c, X.env.cells.lookup x = some c → ∃ v, s.heap.IsCell c v
  free : H X.env.locals = none
  freeC : ∀ x c, X.env.cells.lookup x = some c → H c = none
  pin : ∀ p ∈ X.pn ++ pins, s.heap.get? p.1 = some p.2 ∧ H p.1 = none ∧ p.1 ≠ X.env.locals ∧ p.1 ∉ X.fs ∧ ∀ v, p.2.data ≠ .cell v
  hok : HOk X.prog X.w H s.heap
  len : σ.length = X.N.length

section
variable {X : Cx} {pins : List (Addr × Obj)} {σ : List (Option V)} {H H' : Hp} {s : Shared} {h' : Heap}

theorem Cx.Ok.nofr (ok : X.Ok) {b : Addr} {o : Obj} (e : X.base.get? b = some o) : b ∉ X.fs := fun hb => by
  have := (ok.funs.mem hb).1
  rw [e] at this; cases this
theorem Inv.bs (I : Inv X pins σ H s) : ∀ b o, X.base.get? b = some o → s.heap.get? b = some o ∧ H b = none := fun b o e =>
  ⟨I.base.keep b o (I.ok.bs b o e).1 (I.ok.bs b o e).2 (I.ok.nofr e) (I.ok.noex b o e), I.base.free b o (I.ok.bs b o e).1 (I.ok.bs b o e).2 (I.ok.noex b o e)⟩
theorem Inv.bk (I : Inv X pins σ H s) : ∀ b o, X.base.get? b = some o → s.heap.get? b = some o := fun b o e => (I.bs b o e).1
theorem Inv.mod (I : Inv X pins σ H s) : Mod X.K X.mg X.base := I.ok.mod
theorem Inv.kIn (I : Inv X pins σ H s) : X.K.In s.heap := I.ok.mod.kin.keeps I.bk
theorem Inv.nolimit (I : Inv X pins σ H s) : s.heap.NoLimit := I.ok.mod.nolimit.keeps I.bk
theorem Inv.fr (I : Inv X pins σ H s) : ∃ m, Fr X.base X.env.locals s.heap m :=
  let ⟨m, hn, _⟩ := I.loc
  ⟨m, hn, I.bk, Nat.le_trans I.ok.bsz I.ok.above⟩
theorem Inv.lt (I : Inv X pins σ H s) : X.env.locals < s.heap.objs.size := let ⟨_, hn, _⟩ := I.loc; hn.lt
theorem Inv.sz (I : Inv X pins σ H s) : X.s_0.heap.objs.size ≤ s.heap.objs.size := Nat.le_trans I.ok.above (Nat.le_of_lt I.lt)
theorem Inv.nofs (I : Inv X pins σ H s) {a : Addr} (h : s.heap.objs.size ≤ a) : a ∉ X.fs := fun hb => by
  obtain ⟨_, o, ho, _⟩ := I.ok.funs.mem hb
  exact absurd (Nat.lt_of_lt_of_le (Heap.lt_size ho) (Nat.le_trans I.sz h)) (Nat.lt_irrefl _)
theorem Inv.cne (I : Inv X pins σ H s) : ∀ x c, X.env.cells.lookup x = some c → c ≠ X.env.locals := fun x c e z => by
  obtain ⟨v, o, ho, hd⟩ := I.cell x c e
  obtain ⟨m, ⟨o', es, ep, ho', hd', _⟩, _⟩ := I.loc
  rw [z, ho'] at ho; cases ho; rw [hd'] at hd; cases hd
theorem Inv.funs (I : Inv X pins σ H s) : s.heap.FunFrames X.base X.outer := by
  have all : ∀ (l : List Env), (∀ b ∈ frs l, b ∈ X.fs) → X.s_0.heap.FunFrames X.base l → s.heap.FunFrames X.base l := by
    intro l
    induction l with
    | nil => intro _ _; trivial
    | cons env r ih =>
      intro hs hl
      obtain ⟨hk, ⟨L, o, hf, hn, ho, hd⟩, hr⟩ := hl
      have hL : L ∈ X.fs := hs L (by unfold frs; rw [List.filterMap_cons, hf]; exact List.mem_cons_self)
      obtain ⟨sl, e⟩ := I.base.slot L o ho (I.ok.frf L hL) hL fun z => I.ok.exfs L z hL
      exact ⟨hk, ⟨L, _, hf, hn, e, hd⟩, ih (fun b hb => hs b (by unfold frs; rw [List.filterMap_cons, hf]; exact List.mem_cons_of_mem _ hb)) hr⟩
  exact all X.outer (fun _ hb => hb) I.ok.funs

theorem Inv.stack (I : Inv X pins σ H s) : s.heap.FunFrames X.base X.stack := by
  rcases I.ok.stk with e | ⟨e, hf⟩
  · rw [e]; exact I.funs
  · rw [e]
    obtain ⟨m, hn, _⟩ := I.loc
    refine .cons (by rw [I.ok.kind]; decide) hf hn ?_ I.funs
    exact Heap.get?_none_of_le (Nat.le_trans I.ok.bsz I.ok.above)
theorem Inv.stkSub (I : Inv X pins σ H s) : ∀ b ∈ frs X.stack, b ∈ X.env.locals :: X.fs := fun b hb => by
  rcases I.ok.stk with e | ⟨e, hf⟩
  · rw [e] at hb; exact List.mem_cons_of_mem _ hb
  · rw [e] at hb
    unfold frs at hb
    rw [List.filterMap_cons, hf] at hb
    exact hb
theorem Inv.stkFree (I : Inv X pins σ H s) : ∀ b ∈ frs X.stack, H b = none := fun b hb => by
  rcases List.mem_cons.mp (I.stkSub b hb) with e | hb
  · rw [e]; exact I.free
  · obtain ⟨_, o, ho, _⟩ := I.ok.funs.mem hb
    exact I.base.free b o ho (I.ok.frf b hb) fun z => I.ok.exfs b z hb

theorem Inv.step {g' : Array GenState} {t' : Nat} {d' : Drawn} {ch : List Addr} (I : Inv X pins σ H s)
    (hch : ∀ b ∈ ch, (b ∈ X.ex ∨ X.s_0.heap.objs.size ≤ b) ∧ b ≠ X.env.locals ∧ (∀ x c, X.env.cells.lookup x = some c → c ≠ b) ∧ ∀ p ∈ X.pn ++ pins, p.1 ≠ b)
    (keep : ∀ b o, b ≠ X.env.locals → b ∉ X.fs → b ∉ ch → s.heap.get? b = some o → H b = none → h'.get? b = some o)
    (slot : ∀ b o, b ≠ X.env.locals → b ∈ X.fs → b ∉ ch → s.heap.get? b = some o → H b = none → ∃ sl, h'.get? b = some { o with slots := sl }) (free : ∀ b o, b ∉ ch → s.heap.get? b = some o → H b = none → H' b = none)
    (there : ∀ b o, b ∉ ch → s.heap.get? b = some o → ∃ o', h'.get? b = some o')
    (tups : ∀ b xs, H b = some (.tup xs) → H' b = some (.tup xs)) (frzs : ∀ b o u, H b = some (.frz o u) → H' b = some (.frz o u)) (tbls : ∀ b ps, H b = some (.tbl ps) → ∃ more, H' b = some (.tbl (ps ++ more)))
    (ns : ∀ m, s.heap.Ns X.env.locals m → h'.Ns X.env.locals m) (hok : HOk X.prog X.w H' h') (hg : AllBare g') :
    Inv X pins σ H' { s with heap := h', gens := g', drawn := d', toks := t' } := by
  have neL : ∀ b o, X.s_0.heap.get? b = some o → b ≠ X.env.locals := fun b o e => Nat.ne_of_lt (Nat.lt_of_lt_of_le (Heap.lt_size e) I.ok.above)
  have neC : ∀ b o, X.s_0.heap.get? b = some o → b ∉ X.ex → b ∉ ch := fun b o e hx hb => by
    rcases (hch b hb).1 with z | z
    · exact hx z
    · exact absurd (Nat.lt_of_lt_of_le (Heap.lt_size e) z) (Nat.lt_irrefl _)
  have cellK : ∀ x c, X.env.cells.lookup x = some c → ∀ v, s.heap.IsCell c v → h'.IsCell c v := fun x c e v ⟨o, ho, hd⟩ => by
    have nch : c ∉ ch := fun z => (hch c z).2.2.1 x c e rfl
    by_cases hc : c ∈ X.fs
    · obtain ⟨sl, q⟩ := slot c o (I.cne x c e) hc nch ho (I.freeC x c e)
      exact ⟨_, q, hd⟩
    · exact ⟨o, keep c o (I.cne x c e) hc nch ho (I.freeC x c e), hd⟩
  refine ⟨I.ok, I.os, hg, ⟨fun b o e n hb hx => ?_, fun b o e n hb hx => ?_, fun b o e n hx => ?_, fun b o e hx => ?_, fun b xs e => tups b xs (I.base.tups b xs e), fun b o xs e => frzs b o xs (I.base.frzs b o xs e), fun b ps e => ?_⟩, ?_, fun x c e => ?_, ?_, fun x c e => ?_, fun p hp => ?_, hok, I.len⟩
  · exact keep b o (neL b o e) hb (neC b o e hx) (I.base.keep b o e n hb hx) (I.base.free b o e n hx)
  · obtain ⟨sl, e1⟩ := I.base.slot b o e n hb hx
    obtain ⟨sl', e2⟩ := slot b _ (neL b o e) hb (neC b o e hx) e1 (I.base.free b o e n hx)
    exact ⟨sl', e2⟩
  · obtain ⟨o', e1⟩ := I.base.there b o e hx
    exact free b o' (neC b o e hx) e1 (I.base.free b o e n hx)
  · obtain ⟨o', e1⟩ := I.base.there b o e hx
    exact there b o' (neC b o e hx) e1
  · obtain ⟨m1, e1⟩ := I.base.tbls b ps e
    obtain ⟨m2, e2⟩ := tbls b _ e1
    exact ⟨m1 ++ m2, by rw [e2, Array.append_assoc]⟩
  · obtain ⟨m, hn, hl⟩ := I.loc
    refine ⟨m, ns m hn, fun i x v e1 e2 e3 => ?_⟩
    obtain ⟨u, r, l⟩ := hl i x v e1 e2 e3
    refine ⟨u, r, ?_⟩
    rcases l with l | ⟨k, c, e, z⟩
    · exact .inl l
    · exact .inr ⟨k, c, e, cellK x c e _ z⟩
  · obtain ⟨v, z⟩ := I.cell x c e
    exact ⟨v, cellK x c e v z⟩
  · obtain ⟨m, ⟨o, _, _, ho, _⟩, _⟩ := I.loc
    exact free _ o (fun z => (hch _ z).2.1 rfl) ho I.free
  · obtain ⟨v, o, ho, hd⟩ := I.cell x c e
    exact free c o (fun z => (hch c z).2.2.1 x c e rfl) ho (I.freeC x c e)
  · obtain ⟨e, n, ne, nf, d⟩ := I.pin p hp
    have nch : p.1 ∉ ch := fun z => (hch p.1 z).2.2.2 p hp rfl
    exact ⟨keep p.1 p.2 ne nf nch e n, free p.1 p.2 nch e n, ne, nf, d⟩
theorem Inv.un {t' : Nat} (I : Inv X pins σ H s) (u : Un X.fs [] H H' s.heap h') (hok : HOk X.prog X.w H' h') : Inv X pins σ H' { s with heap := h', toks := t' } := by
  obtain ⟨m, ⟨o, es, ep, ho, r⟩, _⟩ := id I.loc
  obtain ⟨sl, hL⟩ := u.any ho I.free (by simp)
  exact I.step (g' := s.gens) (d' := s.drawn) (ch := []) (fun _ z => nomatch z) (fun b o _ hb _ e n => u.keep b o e n hb (by simp)) (fun b o _ hb _ e n => u.slot b o e n hb (by simp)) (fun b o _ e n => u.free b o e n (by simp)) (fun b o _ e => u.there b o e (by simp)) u.tups u.frzs u.tbls (fun m' hm => by
    obtain ⟨o', es', ep', ho', r'⟩ := hm
    rw [ho] at ho'; cases ho'
    exact ⟨_, es', ep', hL, r'⟩) hok I.bare
theorem Inv.call {g' : Array GenState} {t' : Nat} {d' : Drawn} {ch : List Addr} (I : Inv X pins σ H s) (u : Un (frs X.stack) ch H H' s.heap h') (hok : HOk X.prog X.w H' h') (hg : AllBare g')
    (hch : ∀ b ∈ ch, (b ∈ X.ex ∨ X.s_0.heap.objs.size ≤ b) ∧ b ≠ X.env.locals ∧ (∀ x c, X.env.cells.lookup x = some c → c ≠ b) ∧ ∀ p ∈ X.pn ++ pins, p.1 ≠ b) :
    Inv X pins σ H' { s with heap := h', gens := g', drawn := d', toks := t' } := by
  obtain ⟨m, ⟨o, es, ep, ho, r⟩, _⟩ := id I.loc
  obtain ⟨sl, hL⟩ := u.any ho I.free fun z => (hch _ z).2.1 rfl
  exact I.step (ch := ch) hch (fun b o hL hb hc e n => u.keep b o e n (fun z => (List.mem_cons.mp (I.stkSub b z)).elim hL hb) hc) (fun b o _ _ hc e n => u.any e n hc) (fun b o hc e n => u.free b o e n hc) (fun b o hc e => u.there b o e hc) u.tups u.frzs u.tbls (fun m' hm => by
    obtain ⟨o', es', ep', ho', r'⟩ := hm
    rw [ho] at ho'; cases ho'
    exact ⟨_, es', ep', hL, r'⟩) hok hg
theorem Inv.turned {t' : Nat} {it : Addr} (I : Inv X pins σ H s) (k : ∀ b o, b ≠ it → s.heap.get? b = some o → h'.get? b = some o) (hn : H it = none) (hL : it ≠ X.env.locals)
    (h1 : it ∈ X.ex ∨ X.s_0.heap.objs.size ≤ it) (h2 : ∀ x c, X.env.cells.lookup x = some c → c ≠ it) (h3 : ∀ p ∈ X.pn ++ pins, p.1 ≠ it) : Inv X pins σ H { s with heap := h', toks := t' } := by
  have nit : ∀ b u, H b = some u → b ≠ it := fun b u e z => by rw [z, hn] at e; cases e
  refine I.step (g' := s.gens) (d' := s.drawn) (ch := [it]) (fun b hb => ?_) (fun b o _ _ hc e _ => k b o (fun z => hc (by simp [z])) e) (fun b o _ _ hc e _ => ⟨o.slots, k b o (fun z => hc (by simp [z])) e⟩) (fun _ _ _ _ n => n)
    (fun b o hc e => ⟨o, k b o (fun z => hc (by simp [z])) e⟩) (fun _ _ e => e) (fun _ _ _ e => e) (fun b ps e => ⟨#[], by rw [e]; simp⟩) (fun m hm => ?_) (fun b u e => ?_) I.bare
  · have e : b = it := by simpa using hb
    subst e
    exact ⟨h1, hL, h2, h3⟩
  · obtain ⟨o, es, ep, ho, r⟩ := hm
    exact ⟨o, es, ep, k _ o (Ne.symm hL) ho, r⟩
  · refine (I.hok b u e).stay (fun c v hc q => k c v ?_ q) (fun _ q => q) fun _ _ _ q => q
    rcases hc with z | z
    · rw [z]; exact nit b u e
    · exact nit c _ z
theorem Inv.tok (I : Inv X pins σ H s) (t : Nat) : Inv X pins σ H { s with toks := t } := I.un (h' := s.heap) (t' := t) Un.refl I.hok
theorem Inv.kept {t' : Nat} (I : Inv X pins σ H s) (k : ∀ b u, s.heap.get? b = some u → h'.get? b = some u) : Inv X pins σ H { s with heap := h', toks := t' } := I.un (Un.kept k) (I.hok.kept k)
theorem Inv.laid {a : Addr} {o : HO} {t' : Nat} (I : Inv X pins σ H s) (k : ∀ b u, s.heap.get? b = some u → h'.get? b = some u) (hp : s.heap.objs.size ≤ a) (new : ObjOk X.prog X.w (upd H a o) h' a o) :
    Inv X pins σ (upd H a o) { s with heap := h', toks := t' } := I.un (Un.laid k hp (I.hok.fresh hp)) (I.hok.laid k hp new)
theorem Inv.write {x e : Addr} {o : HO} {t' : Nat} (I : Inv X pins σ H s) (mu : Mut (H x)) (he : e = x ∨ H e = some (.own x)) (k : ∀ b u, b ≠ e → s.heap.get? b = some u → h'.get? b = some u) (heo : ∃ u, h'.get? e = some u)
    (new : ObjOk X.prog X.w (upd H x o) h' x o) : Inv X pins σ (upd H x o) { s with heap := h', toks := t' } := I.un (Un.write mu he k heo) (I.hok.write mu he k heo new)
theorem Inv.weak {σ' : List (Option V)} (I : Inv X pins σ H s) (hl : σ'.length = σ.length) (w : ∀ (i : Nat) v, σ'[i]? = some (some v) → σ[i]? = some (some v)) : Inv X pins σ' H s :=
  ⟨I.ok, I.os, I.bare, I.base, let ⟨m, hn, hl'⟩ := I.loc; ⟨m, hn, fun i x v e1 e2 e3 => hl' i x v e1 (w i v e2) e3⟩, I.cell, I.free, I.freeC, I.pin, I.hok, hl.trans I.len⟩
theorem Inv.pins_of {pins' : List (Addr × Obj)} (I : Inv X pins σ H s) (h : ∀ p ∈ pins', s.heap.get? p.1 = some p.2 ∧ H p.1 = none ∧ p.1 ≠ X.env.locals ∧ p.1 ∉ X.fs ∧ ∀ v, p.2.data ≠ .cell v) : Inv X pins' σ H s :=
  ⟨I.ok, I.os, I.bare, I.base, I.loc, I.cell, I.free, I.freeC, fun p hp => (List.mem_append.mp hp).elim (fun z => I.pin p (List.mem_append_left _ z)) (h p), I.hok, I.len⟩

theorem nodup_ix {N : List Str} (hN : N.Nodup) {i j : Nat} {x : Str} (a : N[i]? = some x) (b : N[j]? = some x) : i = j := by
  obtain ⟨h1, e1⟩ := List.getElem?_eq_some_iff.mp a
  obtain ⟨h2, e2⟩ := List.getElem?_eq_some_iff.mp b
  exact (List.getElem_inj hN).mp (e1.trans e2.symm)

theorem store_ok2 {M : Model} {A : Around} {E : Value → Shared → Prop} {i : Nat} {x : Str} {v : V} {u : Value} {Q : Unit → Shared → Prop} (I : Inv X pins σ H s) (hN : X.N.Nodup) (hi : X.N[i]? = some x) (hx : Loc X.env.scope x) (r : RelV v u)
    (h : ∀ s', Inv X pins (σ.set i (some v)) H s' → (∃ a, Heap.SameBut a s.heap s'.heap ∧ (a = X.env.locals ∨ X.env.cells.lookup x = some a)) → Q () s') (hf : X.fn x = true ∨ X.env.scope.names.lookup x = some .local := by first | exact .inl rfl | exact .inr rfl | assumption) : wpAny M A (storeName X.env x u) Q E s := by
  obtain ⟨m, hn, hl⟩ := id I.loc
  have hcls : (X.env.scope.kind == .class || (X.env.scope.kind == .module && X.env.locals != X.env.globals)) = false := by rw [I.ok.kind]; rfl
  have hiσ : i < σ.length := by rw [I.len]; exact (List.getElem?_eq_some_iff.mp hi).1
  have cne := I.cne
  have tracked : ∀ {a : Addr} {h' : Heap}, (∃ o, s.heap.get? a = some o ∧ H a = none) → Heap.SameBut a s.heap h' → HOk X.prog X.w H h' := fun {a h'} ha hs b ob e => by
    obtain ⟨_, _, hfree⟩ := ha
    refine (I.hok b ob e).stay (fun c w' hc q => (hs.2 c ?_).trans q) (fun _ q => q) fun _ _ _ q => q
    rintro rfl
    rcases hc with rfl | hc
    · rw [hfree] at e; cases e
    · rw [hfree] at hc; cases hc
  rcases hx with hk | hk
  · refine wpAny_storeName_local hk hn (fun h' hn' hs => ?_) hcls
    obtain ⟨oL, _, _, hoL, _⟩ := id hn
    refine h _ ⟨I.ok, I.os, I.bare, ⟨fun b o e n hb hx => ?_, fun b o e n hb hx => ?_, I.base.free, fun b o e hx => ?_, I.base.tups, I.base.frzs, I.base.tbls⟩, ⟨_, hn', fun j y v' e1 e2 e3 => ?_⟩, fun y c e => ?_, I.free, I.freeC, fun p hp => ?_, tracked ⟨oL, hoL, I.free⟩ hs, by simpa using I.len⟩ ⟨_, hs, .inl rfl⟩
    · exact (hs.2 b (Nat.ne_of_lt (Nat.lt_of_lt_of_le (Heap.lt_size e) I.ok.above))).trans (I.base.keep b o e n hb hx)
    · obtain ⟨sl, e1⟩ := I.base.slot b o e n hb hx
      exact ⟨sl, (hs.2 b (Nat.ne_of_lt (Nat.lt_of_lt_of_le (Heap.lt_size e) I.ok.above))).trans e1⟩
    · obtain ⟨o', e1⟩ := I.base.there b o e hx
      exact ⟨o', (hs.2 b (Nat.ne_of_lt (Nat.lt_of_lt_of_le (Heap.lt_size e) I.ok.above))).trans e1⟩
    · by_cases hj : j = i
      · subst hj
        rw [hi] at e1; cases e1
        rw [List.getElem?_set_self hiσ] at e2
        cases e2
        exact ⟨u, r, .inl ⟨hk, by simp⟩⟩
      · rw [List.getElem?_set_ne (Ne.symm hj)] at e2
        obtain ⟨u', r', q⟩ := hl j y v' e1 e2 e3
        refine ⟨u', r', ?_⟩
        rcases q with ⟨k, e⟩ | ⟨k, c, e, z⟩
        · refine .inl ⟨k, ?_⟩
          have : y ≠ x := fun e => hj (nodup_ix hN e1 (e ▸ hi))
          simp [this, e]
        · exact .inr ⟨k, c, e, z.sameBut hs (cne y c e)⟩
    · obtain ⟨w', z⟩ := I.cell y c e
      exact ⟨w', z.sameBut hs (cne y c e)⟩
    · obtain ⟨e, n, ne, nf, d⟩ := I.pin p hp
      exact ⟨(hs.2 p.1 ne).trans e, n, ne, nf, d⟩
  · have hfn : X.fn x = true := by
      rcases hf with z | z
      · exact z
      · rw [z] at hk; cases hk
    obtain ⟨c, hc⟩ := I.ok.has x (.inl hk)
    obtain ⟨w', z⟩ := I.cell x c hc
    refine wpAny_storeName_cell I.ok.kind hk hc z (fun h' hc' hs => ?_)
    obtain ⟨oc, hoc, hocd⟩ := id z
    refine h { s with heap := h' } ⟨I.ok, I.os, I.bare, ⟨fun b o e n hb hx => ?_, fun b o e n hb hx => ?_, I.base.free, fun b o e hx => ?_, I.base.tups, I.base.frzs, I.base.tbls⟩, ⟨m, hn.sameBut hs (Ne.symm (cne x c hc)), fun j y v' e1 e2 e3 => ?_⟩, fun y c' e => ?_, I.free, I.freeC, fun p hp => ?_, tracked ⟨oc, hoc, I.freeC x c hc⟩ hs, by simpa using I.len⟩ ⟨c, hs, .inr hc⟩
    · exact (hs.2 b (Nat.ne_of_lt (Nat.lt_of_lt_of_le (Heap.lt_size e) (I.ok.cab x c hfn hc)))).trans (I.base.keep b o e n hb hx)
    · obtain ⟨sl, e1⟩ := I.base.slot b o e n hb hx
      exact ⟨sl, (hs.2 b (Nat.ne_of_lt (Nat.lt_of_lt_of_le (Heap.lt_size e) (I.ok.cab x c hfn hc)))).trans e1⟩
    · obtain ⟨o', e1⟩ := I.base.there b o e hx
      exact ⟨o', (hs.2 b (Nat.ne_of_lt (Nat.lt_of_lt_of_le (Heap.lt_size e) (I.ok.cab x c hfn hc)))).trans e1⟩
    · by_cases hj : j = i
      · subst hj
        rw [hi] at e1; cases e1
        rw [List.getElem?_set_self hiσ] at e2
        cases e2
        exact ⟨u, r, .inr ⟨.inl hk, c, hc, hc'⟩⟩
      · rw [List.getElem?_set_ne (Ne.symm hj)] at e2
        obtain ⟨u', r', q⟩ := hl j y v' e1 e2 e3
        refine ⟨u', r', ?_⟩
        rcases q with q | ⟨k, c', e, z'⟩
        · exact .inl q
        · refine .inr ⟨k, c', e, z'.sameBut hs ?_⟩
          rintro rfl
          exact hj (nodup_ix hN e1 (I.ok.inj _ _ _ e hc ▸ hi))
    · by_cases hcc : c' = c
      · subst hcc; exact ⟨_, hc'⟩
      · obtain ⟨w2, z2⟩ := I.cell y c' e
        exact ⟨w2, z2.sameBut hs hcc⟩
    · obtain ⟨e, n, ne, nf, d⟩ := I.pin p hp
      refine ⟨(hs.2 p.1 ?_).trans e, n, ne, nf, d⟩
      intro q
      rw [q, hoc] at e
      have q' : oc = p.2 := Option.some.inj e
      exact d w' (by rw [← q']; exact hocd)
theorem store_ok {M : Model} {A : Around} {E : Value → Shared → Prop} {i : Nat} {x : Str} {v : V} {u : Value} {Q : Unit → Shared → Prop} (I : Inv X pins σ H s) (hN : X.N.Nodup) (hi : X.N[i]? = some x) (hx : Loc X.env.scope x) (r : RelV v u)
    (h : ∀ s', Inv X pins (σ.set i (some v)) H s' → Q () s') (hf : X.fn x = true ∨ X.env.scope.names.lookup x = some .local := by first | exact .inl rfl | exact .inr rfl | assumption) : wpAny M A (storeName X.env x u) Q E s :=
  store_ok2 I hN hi hx r (fun s' I' _ => h s' I') hf
theorem Inv.call' {s' : Shared} {ch : List Addr} (I : Inv X pins σ H s) (ho : s'.os = s.os) (u : Un (frs X.stack) ch H H' s.heap s'.heap) (hok : HOk X.prog X.w H' s'.heap) (hg : AllBare s'.gens)
    (hch : ∀ b ∈ ch, (b ∈ X.ex ∨ X.s_0.heap.objs.size ≤ b) ∧ b ≠ X.env.locals ∧ (∀ x c, X.env.cells.lookup x = some c → c ≠ b) ∧ ∀ p ∈ X.pn ++ pins, p.1 ≠ b) : Inv X pins σ H' s' := by
  obtain ⟨h', g', d', t', o'⟩ := s'
  have e : o' = s.os := ho
  subst e
  exact I.call (g' := g') (t' := t') (d' := d') u hok hg hch
end

abbrev XK := Value → Option Addr → Hp → Prop
abbrev St := List (Option V)
abbrev VK := V → Hp → Prop
abbrev TE := St → Hp → VK → Prop
abbrev TT := St → Hp → (Bool → Hp → Prop) → Prop
abbrev TA := St → Hp → (List V → Hp → Prop) → Prop
structure Ends where
  nx : St → Hp → Prop
  rt : VK
  bk : St → Hp → Prop := fun _ _ => False
  ct : St → Hp → Prop := fun _ _ => False
abbrev TS := Ends → St → Hp → Prop

def EP (X : Cx) (pins : List (Addr × Obj)) (σ : St) (Q : VK) (u : Value) (s' : Shared) : Prop := ∃ v H', Inv X pins σ H' s' ∧ RelV v u ∧ Q v H'
def TP (X : Cx) (pins : List (Addr × Obj)) (σ : St) (Q : Bool → Hp → Prop) (b : Bool) (s' : Shared) : Prop := ∃ H', Inv X pins σ H' s' ∧ Q b H'
def AP (X : Cx) (pins : List (Addr × Obj)) (σ : St) (Q : List V → Hp → Prop) (us : List Value) (s' : Shared) : Prop := ∃ vs H', Inv X pins σ H' s' ∧ Vals vs us ∧ Q vs H'
def SP (X : Cx) (pins : List (Addr × Obj)) (D : Ends) (f : Flow) (s' : Shared) : Prop :=
  match f with
  | .next => ∃ σ' H', Inv X pins σ' H' s' ∧ D.nx σ' H'
  | .brk => ∃ σ' H', Inv X pins σ' H' s' ∧ D.bk σ' H'
  | .cont => ∃ σ' H', Inv X pins σ' H' s' ∧ D.ct σ' H'
  | .ret u => ∃ v σ' H', Inv X pins σ' H' s' ∧ RelV v u ∧ D.rt v H'

def PE (X : Cx) (e : Expr) (t : TE) : Prop :=
  ∀ (pins : List (Addr × Obj)) (s : Shared) (σ : St) (H : Hp) (Q : VK), Inv X pins σ H s → t σ H Q → wpAny (model X.prog X.w) X.A (eval e X.env) (EP X pins σ Q) X.xe s
def PT (X : Cx) (e : Expr) (t : TT) : Prop :=
  ∀ (pins : List (Addr × Obj)) (s : Shared) (σ : St) (H : Hp) (Q : Bool → Hp → Prop), Inv X pins σ H s → t σ H Q → wpAny (model X.prog X.w) X.A (isTrue e X.env (eval e X.env)) (TP X pins σ Q) X.xe s
def PW (X : Cx) (e : Expr) (t : TT) : Prop :=
  ∀ (whole : Sem Value) (pins : List (Addr × Obj)) (s : Shared) (σ : St) (H : Hp) (Q : Bool → Hp → Prop), Inv X pins σ H s → t σ H Q → wpAny (model X.prog X.w) X.A (isTrue e X.env whole) (TP X pins σ Q) X.xe s
theorem PW.pt {X : Cx} {e : Expr} {t : TT} (h : PW X e t) : PT X e t := h _
def PA (X : Cx) (es : List Expr) (t : TA) : Prop :=
  ∀ (pos : Pos) (pins : List (Addr × Obj)) (s : Shared) (σ : St) (H : Hp) (Q : List V → Hp → Prop), Inv X pins σ H s → t σ H Q → wpAny (model X.prog X.w) X.A (spliced (backTo pos (starEach es X.env))) (AP X pins σ Q) X.xe s
def PS (X : Cx) (st : Stmt) (t : TS) : Prop :=
  ∀ (pins : List (Addr × Obj)) (s : Shared) (σ : St) (H : Hp) (D : Ends), Inv X pins σ H s → t D σ H → wpAny (model X.prog X.w) X.A (exec st X.env) (SP X pins D) X.xe s
def PSs (X : Cx) (st : List Stmt) (t : TS) : Prop :=
  ∀ (pins : List (Addr × Obj)) (s : Shared) (σ : St) (H : Hp) (D : Ends), Inv X pins σ H s → t D σ H → wpAny (model X.prog X.w) X.A (execs st X.env) (SP X pins D) X.xe s
theorem thn {α : Type} {t : Sem α} {Q Q' : α → Shared → Prop} {M : Model} {A : Around} {E : Value → Shared → Prop} {s : Shared} (h : wpAny M A t Q E s) (hQ : ∀ a s, Q a s → Q' a s) : wpAny M A t Q' E s := wpAny_mono h hQ fun _ _ x => x
end L2

namespace L2
open PySem PySem.Spec PyProof.Rows
section
variable {X : Cx}

def tVar (i : Nat) : TE := fun σ H Q => ∃ v, σ[i]? = some (some v) ∧ Q v H
def tC (v : V) : TE := fun _ H Q => Q v H
theorem pe_var {i : Nat} {x : Str} {pos : Pos} (hN : X.N[i]? = some x) (hv : Vis X.env.scope x) (hd : (x == ("__debug__" : Str)) = false := by decide) (hcd : (x == ("__classdict__" : Str)) = false := by decide) : PE X (.Name x pos) (tVar i) := by
  intro pins s σ H Q I h
  obtain ⟨v, e, h⟩ := h
  obtain ⟨m, hn, hl⟩ := I.loc
  obtain ⟨u, r, l⟩ := hl i x v hN e hv
  have fin : EP X pins σ Q u s := ⟨v, H, I, r, h⟩
  rcases l with ⟨hk, hm⟩ | ⟨hk, c, hc, hcell⟩
  · exact wpAny_Name (wpAny_loadName_local I.ok.kind hk hn hm fin) hd
  · rcases hk with hk | hk
    · exact wpAny_Name (wpAny_loadName_cell I.ok.kind hk hc hcell fin) hd
    · exact wpAny_Name (wpAny_loadName_free I.ok.kind hk hc hcell fin hcd) hd
theorem pe_int {i j pos} : PE X (.Constant (.int i) j pos) (tC (.int i)) := fun _ _ _ H _ I h => wpAny_Constant_int ⟨.int i, H, I.tok _, ⟨_, rfl⟩, h⟩
theorem pe_bl {b j pos} : PE X (.Constant (.bool b) j pos) (tC (.bl b)) := fun _ _ _ H _ I h => Constant_bool ⟨.bl b, H, I, rfl, h⟩
def Gl (X : Cx) (x : Str) : Prop := X.env.kindOf x = some .globalImplicit
theorem ld_glob {E : Value → Shared → Prop} {pins : List (Addr × Obj)} {s : Shared} {σ : St} {H : Hp} {x : Str} {u : Value} {pos : Pos} {Q : Value → Shared → Prop} (I : Inv X pins σ H s) (hg : Gl X x) (hm : X.mg x = some u) (h : Q u s)
    (hd : (x == ("__debug__" : Str)) = false := by decide) : wpAny (model X.prog X.w) X.A (eval (.Name x pos) X.env) Q E s :=
  Calls.Name_function_global I.ok.kind hg (Calls.loadGlobal_global (by rw [I.ok.glob]; exact I.mod.glob.keeps I.bk) hm h) hd
theorem ld_blt {E : Value → Shared → Prop} {pins : List (Addr × Obj)} {s : Shared} {σ : St} {H : Hp} {x : Str} {u : Value} {pos : Pos} {Q : Value → Shared → Prop} (I : Inv X pins σ H s) (hg : Gl X x) (hm : X.mg x = none) (hv : bootBuiltins x = some u) (h : Q u s)
    (hn : x ≠ "__name__" := by decide) (hd : (x == ("__debug__" : Str)) = false := by decide) : wpAny (model X.prog X.w) X.A (eval (.Name x pos) X.env) Q E s := by
  obtain ⟨mb, h1, h2⟩ := I.mod.blt
  exact Calls.Name_function_global I.ok.kind hg (Calls.loadGlobal_builtin (by rw [I.ok.glob]; exact I.mod.glob.keeps I.bk) hm (by rw [I.ok.blt]; exact h1.keeps I.bk) ((h2 x hn).trans hv) h) hd
theorem pe_bltn {x : Str} {v : V} {u : Value} {pos : Pos} (hg : Gl X x) (hm : X.mg x = none) (hv : bootBuiltins x = some u) (r : RelV v u) (hn : x ≠ "__name__" := by decide) (hd : (x == ("__debug__" : Str)) = false := by decide) : PE X (.Name x pos) (tC v) :=
  fun _ _ _ H _ I h => ld_blt I hg hm hv ⟨v, H, I, r, h⟩ hn hd

variable {a b : Expr} {ta tb : TE} {pos : Pos}
def PC (X : Cx) (op : CmpOp) (a b : Expr) (t : TE) : Prop :=
  ∀ (pins : List (Addr × Obj)) (s : Shared) (σ : St) (H : Hp) (Q : VK), Inv X pins σ H s → t σ H Q →
    wpAny (model X.prog X.w) X.A (eval a X.env) (fun v s₁ => wpAny (model X.prog X.w) X.A (eval b X.env) (fun u s₂ => wpAny (model X.prog X.w) X.A (compareOp op v u) (EP X pins σ Q) X.xe s₂) X.xe s₁) X.xe s
def tB (t : TE) : TT := fun σ H Q => t σ H fun x H1 => ∃ c, x = .bl c ∧ Q c H1
theorem pt_val {e : Expr} {t : TE} (h : PE X e t) (he : ∀ whole, isTrue e X.env whole = (do let v ← whole; standAt e.pos; holding [v] (truthy v)) := by intro _; rfl) : PT X e (tB t) := by
  intro pins s σ H Q I hw
  refine isTrue_plain (thn (h pins s σ H _ I hw) fun v s1 ⟨x, H1, I1, r1, q1⟩ => ?_) (he _)
  obtain ⟨d, rfl, q⟩ := q1
  cases r1
  exact wpAny_truthy_bool ⟨H1, I1, q⟩

variable {tA tB' : TT} {rest : List Expr}
def tAnd (t u : TT) : TT := fun σ H Q => t σ H fun c H1 => if c = true then u σ H1 Q else Q false H1
def tOr (t u : TT) : TT := fun σ H Q => t σ H fun c H1 => if c = true then Q true H1 else u σ H1 Q
def tNot (t : TT) : TT := fun σ H Q => t σ H fun c H1 => Q (!c) H1
theorem pw_and1 (ha : PT X a tA) : PW X (.BoolOp .And [a] pos) tA := by
  intro wh pins s σ H Q I h
  refine isTrue_and (thn (ha pins s σ H Q I h) fun c s1 e => ?_)
  cases c with
  | true => exact isTrue_and_nil e
  | false => exact e
theorem pw_or1 (ha : PT X a tA) : PW X (.BoolOp .Or [a] pos) tA := by
  intro wh pins s σ H Q I h
  refine isTrue_or (thn (ha pins s σ H Q I h) fun c s1 e => ?_)
  cases c with
  | false => exact isTrue_or_nil e
  | true => exact e
theorem pw_and (ha : PT X a tA) (hb : PW X (.BoolOp .And (b :: rest) pos) tB') : PW X (.BoolOp .And (a :: b :: rest) pos) (tAnd tA tB') := by
  intro wh pins s σ H Q I h
  refine isTrue_and (thn (ha pins s σ H _ I h) fun c s1 ⟨H1, I1, q1⟩ => ?_)
  cases c with
  | true => exact hb wh pins s1 σ H1 Q I1 q1
  | false => exact ⟨H1, I1, q1⟩
theorem pw_or (ha : PT X a tA) (hb : PW X (.BoolOp .Or (b :: rest) pos) tB') : PW X (.BoolOp .Or (a :: b :: rest) pos) (tOr tA tB') := by
  intro wh pins s σ H Q I h
  refine isTrue_or (thn (ha pins s σ H _ I h) fun c s1 ⟨H1, I1, q1⟩ => ?_)
  cases c with
  | true => exact ⟨H1, I1, q1⟩
  | false => exact hb wh pins s1 σ H1 Q I1 q1
theorem pt_not (ha : PT X a tA) : PT X (.UnaryOp .Not a pos) (tNot tA) := by
  intro pins s σ H Q I h
  exact isTrue_not (ha pins s σ H (fun c H1 => Q (!c) H1) I h)
end
end L2

namespace L2
open PySem PySem.Spec PyProof.Rows

def SqL (K : PySem.W.Frag) (H : Hp) (a : Addr) (xs : List V) : Prop :=
  Rd H a (.lst xs) ∨
    ∃ (o : Obj) (its : Array Value) (n : Nat), K.lookup a = some o ∧ o.cls = .type "list" ∧ o.dict = none ∧ o.data = .seq its n ∧ its.size ≤ sizeLine ∧ Vals xs its.toList
def SqT (K : PySem.W.Frag) (H : Hp) (a : Addr) (xs : List V) : Prop :=
  Rd H a (.tup xs) ∨
    ∃ (o : Obj) (its : Array Value) (n : Nat), K.lookup a = some o ∧ o.cls = .type "tuple" ∧ o.data = .seq its n ∧ its.size ≤ sizeLine ∧ Vals xs its.toList
def absV : Value → Option V
  | .none => some .non
  | .bool b => some (.bl b)
  | .int i _ => some (.int i)
  | .str x _ => some (.str x)
  | .bytes b _ => some (.byt b)
  | .float b _ => some (.flt b)
  | .ref a => some (.ref a)
  | .type n => some (.ty n)
  | _ => none
theorem RelV.abs {x : V} {u : Value} (r : RelV x u) : absV u = some x := by
  cases x with
  | non => cases r; rfl
  | bl _ => cases r; rfl
  | int _ => obtain ⟨t, rfl⟩ := r; rfl
  | str _ => obtain ⟨t, rfl⟩ := r; rfl
  | byt _ => obtain ⟨t, rfl⟩ := r; rfl
  | flt _ => obtain ⟨t, rfl⟩ := r; rfl
  | ref _ => cases r; rfl
  | ty _ => cases r; rfl
theorem RelV.inj {x y : V} {u : Value} (r : RelV x u) (q : RelV y u) : x = y := Option.some.inj (r.abs.symm.trans q.abs)
theorem Vals.inj : ∀ {xs ys : List V} {us : List Value}, Vals xs us → Vals ys us → xs = ys
  | _, _, _, .nil, .nil => rfl
  | _, _, _, .cons r t, .cons r' t' => by rw [r.inj r', Vals.inj t t']
section
variable {X : Cx} {pins : List (Addr × Obj)} {σ : St} {H : Hp} {s : Shared} {a : Addr} {xs ys : List V}
theorem SqL.of {K : PySem.W.Frag} (h : H a = some (.lst xs)) : SqL K H a xs := .inl (.inl h)
theorem SqT.of {K : PySem.W.Frag} (h : H a = some (.tup xs)) : SqT K H a xs := .inl (.inl h)
theorem Inv.list (I : Inv X pins σ H s) (h : SqL X.K H a xs) : ∃ its : List Value, Vals xs its ∧ PlainL s.heap a its.toArray ∧ xs.length ≤ sizeLine := by
  rcases h with h | ⟨o, its, n, hk, hc, hd, hs, hz, r⟩
  · obtain ⟨z, its, n, r, e⟩ := h.ok I.hok
    exact ⟨its, r, ⟨_, n, e, rfl, rfl, rfl⟩, z⟩
  · refine ⟨its.toList, r, ⟨o, n, I.kIn a o hk, hc, hd, by simpa using hs⟩, ?_⟩
    have e := r.length
    simp only [Array.length_toList] at e
    omega
theorem Inv.tuple (I : Inv X pins σ H s) (h : SqT X.K H a xs) : ∃ its : List Value, Vals xs its ∧ IsTup s.heap a its.toArray ∧ xs.length ≤ sizeLine := by
  rcases h with h | ⟨o, its, n, hk, hc, hs, hz, r⟩
  · obtain ⟨z, its, r, p⟩ := h.ok I.hok
    exact ⟨its, r, p, z⟩
  · refine ⟨its.toList, r, ⟨o, I.kIn a o hk, hc, n, by simpa using hs⟩, ?_⟩
    have e := r.length
    simp only [Array.length_toList] at e
    omega
theorem Inv.list_inj (I : Inv X pins σ H s) (h : SqL X.K H a xs) (h' : SqL X.K H a ys) : xs = ys := by
  obtain ⟨its, r, ⟨o, n, e, _, _, d⟩, _⟩ := I.list h
  obtain ⟨its', r', ⟨o', n', e', _, _, d'⟩, _⟩ := I.list h'
  rw [e] at e'; cases e'
  rw [d] at d'
  injection d' with d1 _
  have : its = its' := by simpa using congrArg Array.toList d1
  subst this
  exact r.inj r'
theorem Inv.tuple_inj (I : Inv X pins σ H s) (h : SqT X.K H a xs) (h' : SqT X.K H a ys) : xs = ys := by
  obtain ⟨its, r, ⟨o, e, _, n, d⟩, _⟩ := I.tuple h
  obtain ⟨its', r', ⟨o', e', _, n', d'⟩, _⟩ := I.tuple h'
  rw [e] at e'; cases e'
  rw [d] at d'
  injection d' with d1 _
  have : its = its' := by simpa using congrArg Array.toList d1
  subst this
  exact r.inj r'
end

abbrev Cx.wish (X : Cx) (E : Value → Shared → Prop) : Cx := { X with xe := E }
abbrev Cx.nox (X : Cx) : Cx := X.wish fun _ _ => False
theorem Cx.Ok.wish {X : Cx} (ok : X.Ok) (E : Value → Shared → Prop) : (X.wish E).Ok :=
  ⟨ok.mod, ok.kind, ok.glob, ok.blt, ok.above, ok.inj, ok.has, ok.cab, ok.hd, ok.frames, ok.stk, ok.exf, ok.bs, ok.bsz, ok.noex, ok.exfs, ok.funs, ok.frf⟩
theorem Cx.Ok.unwish {X : Cx} {E : Value → Shared → Prop} (ok : (X.wish E).Ok) : X.Ok :=
  ⟨ok.mod, ok.kind, ok.glob, ok.blt, ok.above, ok.inj, ok.has, ok.cab, ok.hd, ok.frames, ok.stk, ok.exf, ok.bs, ok.bsz, ok.noex, ok.exfs, ok.funs, ok.frf⟩
section
variable {X : Cx} {pins : List (Addr × Obj)} {σ : St} {H : Hp} {s : Shared} {E : Value → Shared → Prop}
theorem Inv.wish (I : Inv X pins σ H s) (E : Value → Shared → Prop) : Inv (X.wish E) pins σ H s := ⟨I.ok.wish E, I.os, I.bare, I.base, I.loc, I.cell, I.free, I.freeC, I.pin, I.hok, I.len⟩
theorem Inv.unwish (I : Inv (X.wish E) pins σ H s) : Inv X pins σ H s := ⟨I.ok.unwish, I.os, I.bare, I.base, I.loc, I.cell, I.free, I.freeC, I.pin, I.hok, I.len⟩
theorem SP.unwish {D : Ends} {f : Flow} {s' : Shared} (h : SP (X.wish E) pins D f s') : SP X pins D f s' := by
  cases f with
  | next => obtain ⟨σ', H', I, q⟩ := h; exact ⟨σ', H', I.unwish, q⟩
  | brk => obtain ⟨σ', H', I, q⟩ := h; exact ⟨σ', H', I.unwish, q⟩
  | cont => obtain ⟨σ', H', I, q⟩ := h; exact ⟨σ', H', I.unwish, q⟩
  | ret u => obtain ⟨v, σ', H', I, r, q⟩ := h; exact ⟨v, σ', H', I.unwish, r, q⟩
theorem PE.nox {e : Expr} {t : TE} (h : PE X.nox e t) : PE X e t := fun pins s σ H Q I hw =>
  wpAny_mono (h pins s σ H Q (I.wish _) hw) (fun _ _ ⟨v, H', I', r, q⟩ => ⟨v, H', I'.unwish, r, q⟩) fun _ _ z => False.elim z
theorem PT.nox {e : Expr} {t : TT} (h : PT X.nox e t) : PT X e t := fun pins s σ H Q I hw =>
  wpAny_mono (h pins s σ H Q (I.wish _) hw) (fun _ _ ⟨H', I', q⟩ => ⟨H', I'.unwish, q⟩) fun _ _ z => False.elim z
theorem PSs.nox {st : List Stmt} {t : TS} (h : PSs X.nox st t) : PSs X st t := fun pins s σ H D I hw =>
  wpAny_mono (h pins s σ H D (I.wish _) hw) (fun _ _ q => q.unwish) fun _ _ z => False.elim z
end

section
variable {X : Cx} {st : Stmt} {rest : List Stmt} {t u : TS} {e : Expr} {te : TE} {pos : Pos}
def tNext : TS := fun D σ H => D.nx σ H
def tSeq (t u : TS) : TS := fun D σ H => t { D with nx := u D } σ H
theorem pss_nil : PSs X [] tNext := fun _ _ σ H _ I h => wpAny_execs_nil ⟨σ, H, I, h⟩
theorem pss_cons (h1 : PS X st t) (h2 : PSs X rest u) : PSs X (st :: rest) (tSeq t u) := by
  intro pins s σ H D I h
  refine wpAny_execs_cons (thn (h1 pins s σ H { D with nx := u D } I h) fun f s1 q => ?_)
  cases f with
  | next =>
    obtain ⟨σ', H', I', q⟩ := q
    exact h2 pins s1 σ' H' D I' q
  | ret v => exact q
  | brk => exact q
  | cont => exact q
theorem pss_one (h1 : PS X st t) : PSs X [st] t := by
  intro pins s σ H D I h
  refine wpAny_execs_cons (thn (h1 pins s σ H D I h) fun f s1 q => ?_)
  cases f with
  | next => exact wpAny_execs_nil q
  | ret v => exact q
  | brk => exact q
  | cont => exact q
theorem Inv.quiet {pins : List (Addr × Obj)} {σ : St} {H : Hp} {s : Shared} (I : Inv X pins σ H s) : interactive X.env = false := by simp [interactive, I.ok.kind]
def tDrop (te : TE) : TS := fun D σ H => te σ H fun _ H1 => D.nx σ H1
theorem ps_expr (he : PE X e te) (hs : swapsWith e none pos.line X.env = pure false := by rfl) : PS X (.Expr e pos) (tDrop te) := by
  intro pins s σ H D I h
  exact wpAny_Expr_any (thn (he pins s σ H _ I h) fun v s1 ⟨x, H1, I1, r1, q1⟩ => ⟨σ, H1, I1, q1⟩) I.quiet hs
def tRet (te : TE) : TS := fun D σ H => te σ H D.rt
theorem ps_ret (he : PE X e te) : PS X (.Return (some e) pos) (tRet te) := by
  intro pins s σ H D I h
  exact wpAny_Return_some (thn (he pins s σ H _ I h) fun v s1 ⟨x, H1, I1, r1, q1⟩ => ⟨x, σ, H1, I1, r1, q1⟩)
def tIfS (c : TT) (t u : TS) : TS := fun D σ H => c σ H fun b H1 => if b = true then t D σ H1 else u D σ H1
theorem ps_if {c : Expr} {a b : List Stmt} {tc : TT} (hc : PT X c tc) (ha : PSs X a t) (hb : PSs X b u) : PS X (.If c a b pos) (tIfS tc t u) := by
  intro pins s σ H D I h
  refine wpAny_If (thn (hc pins s σ H _ I h) fun d s1 ⟨H1, I1, q1⟩ => ?_)
  cases d with
  | true => exact ha pins s1 σ H1 D I1 q1
  | false => exact hb pins s1 σ H1 D I1 q1
end

abbrev TG := V → St → Hp → (St → Hp → Prop) → Prop
abbrev TGs := List V → St → Hp → (St → Hp → Prop) → Prop
def PG (X : Cx) (target : Expr) (t : TG) : Prop :=
  ∀ (pins : List (Addr × Obj)) (s : Shared) (σ : St) (H : Hp) (v : V) (u : Value) (Q : St → Hp → Prop), Inv X pins σ H s → RelV v u → t v σ H Q →
    wpAny (model X.prog X.w) X.A (assign target X.env u) (fun _ s' => ∃ σ' H', Inv X pins σ' H' s' ∧ Q σ' H') X.xe s
def PGs (X : Cx) (ts : List Expr) (t : TGs) : Prop :=
  ∀ (pins : List (Addr × Obj)) (s : Shared) (σ : St) (H : Hp) (vs : List V) (us : List Value) (Q : St → Hp → Prop), Inv X pins σ H s → Vals vs us → t vs σ H Q →
    wpAny (model X.prog X.w) X.A (assignInOrder ((assignEach ts X.env).map (·.2)) us) (fun _ s' => ∃ σ' H', Inv X pins σ' H' s' ∧ Q σ' H') X.xe s
abbrev TSet := V → V → V → Hp → (Hp → Prop) → Prop
def PSet (X : Cx) (t : TSet) : Prop :=
  ∀ (pins : List (Addr × Obj)) (s : Shared) (σ : St) (H : Hp) (o i v : V) (ov iv u : Value) (Q : Hp → Prop), Inv X pins σ H s → RelV o ov → RelV i iv → RelV v u → t o i v H Q →
    wpAny (model X.prog X.w) X.A (setItem ov iv u) (fun _ s' => ∃ H', Inv X pins σ H' s' ∧ Q H') X.xe s
abbrev TIp := V → V → Hp → VK → Prop
def PIp (X : Cx) (op : Operator) (t : TIp) : Prop :=
  ∀ (pins : List (Addr × Obj)) (s : Shared) (σ : St) (H : Hp) (x y : V) (v u : Value) (Q : VK), Inv X pins σ H s → RelV x v → RelV y u → t x y H Q →
    wpAny (model X.prog X.w) X.A (inplaceOp op v u) (EP X pins σ Q) X.xe s
section
variable {X : Cx} {pos : Pos}
def gName (i : Nat) : TG := fun v σ H Q => Q (σ.set i (some v)) H
theorem pg_name {i : Nat} {x : Str} (hN : X.N.Nodup) (hi : X.N[i]? = some x) (hx : Loc X.env.scope x) (hf : X.fn x = true ∨ X.env.scope.names.lookup x = some .local := by first | exact .inl rfl | exact .inr rfl | assumption) : PG X (.Name x pos) (gName i) := by
  intro pins s σ H v u Q I r h
  exact wpAny_assign_Name (store_ok I hN hi hx r (fun s' I' => ⟨_, H, I', h⟩) hf)
def gNil : TGs := fun vs σ H Q => vs = [] ∧ Q σ H
def gCons (t : TG) (u : TGs) : TGs := fun vs σ H Q => ∃ v r, vs = v :: r ∧ t v σ H fun σ' H' => u r σ' H' Q
theorem pgs_nil : PGs X [] gNil := by
  intro pins s σ H vs us Q I r h
  obtain ⟨e, h⟩ := h
  subst e
  cases r
  exact assignInOrder_nil ⟨σ, H, I, h⟩
theorem pgs_cons {e : Expr} {es : List Expr} {t : TG} {u : TGs} (h1 : PG X e t) (h2 : PGs X es u)
    (hs : (assignEach (e :: es) X.env).map (·.2) = assign e X.env :: (assignEach es X.env).map (·.2) := by rfl) : PGs X (e :: es) (gCons t u) := by
  intro pins s σ H vs us Q I r h
  obtain ⟨v, vr, e1, h⟩ := h
  subst e1
  cases r with
  | cons r rr =>
    rw [hs]
    refine assignInOrder_cons (thn (h1 pins s σ H _ _ _ I r h) fun _ s1 ⟨σ1, H1, I1, q1⟩ => ?_)
    exact h2 pins s1 σ1 H1 _ _ Q I1 rr q1
def gTup (K : PySem.W.Frag) (n : Nat) (t : TGs) : TG := fun v σ H Q => ∃ a xs, v = .ref a ∧ SqT K H a xs ∧ xs.length = n ∧ t xs σ H Q
theorem pg_tup {es : List Expr} {k : Nat} {t : TGs} {n : Nat} (hc : X.calm = true) (h : PGs X es t)
    (hn : (assignEach es X.env).length = n := by rfl) (hst : (assignEach es X.env).findIdx? (·.1) = none := by rfl) : PG X (.Tuple es k pos) (gTup X.K n t) := by
  intro pins s σ H v u Q I r hw
  obtain ⟨a, xs, e1, hq, hl, hw⟩ := hw
  subst e1
  cases r
  obtain ⟨its, rv, ht, hz⟩ := I.tuple hq
  refine assign_Tuple_tuple (I.ok.hd hc) ht (by simp [hn, ← hl, rv.length]) hst fun h' hx => ?_
  have I1 : Inv X pins σ H { s with heap := h' } := I.kept (t' := s.toks) fun b o e => hx b o (Nat.ne_of_lt (Heap.lt_size e)) e
  exact h pins _ σ H xs _ Q I1 (by simpa using rv) hw
def gSub (to ti : TE) (t : TSet) : TG := fun v σ H Q => to σ H fun o H1 => ti σ H1 fun i H2 => t o i v H2 fun H3 => Q σ H3
theorem pg_sub {o i : Expr} {to ti : TE} {t : TSet} (ho : PE X o to) (hi : PE X i ti) (hs : PSet X t)
    (ha : ∀ v, assign (.Subscript o i pos) X.env v = (do
      let ov ← holding [v] (eval o X.env)
      let iv ← holding [v, ov] (eval i X.env)
      standAt pos
      holding [v, ov, iv] (setItem ov iv v)
      release [v, ov, iv] []) := by intro _; rfl) : PG X (.Subscript o i pos) (gSub to ti t) := by
  intro pins s σ H v u Q I r h
  rw [ha]
  refine wpAny_bind (wpAny_holding (thn (ho pins s σ H _ I h) fun ov s1 ⟨x, H1, I1, r1, q1⟩ => ?_))
  refine wpAny_bind (wpAny_holding (thn (hi pins s1 σ H1 _ I1 q1) fun iv s2 ⟨y, H2, I2, r2, q2⟩ => ?_))
  refine wpAny_bind (wpAny_standAt (wpAny_bind (wpAny_holding (thn (hs pins s2 σ H2 x y v ov iv u _ I2 r1 r2 r q2) fun _ s3 ⟨H3, I3, q3⟩ => ?_))))
  exact wpAny_release ⟨σ, H3, I3, q3⟩
def tAsg (te : TE) (g : TG) : TS := fun D σ H => te σ H fun x H1 => g x σ H1 D.nx
theorem ps_asg {tg e : Expr} {te : TE} {g : TG} (he : PE X e te) (hg : PG X tg g) (hs : swapsWithSole [tg] e pos.line X.env = pure false := by rfl) (hw : swappedStores [tg] e X.env = pure none := by rfl)
    (h1 : (assignEach [tg] X.env).map (·.2) = [assign tg X.env] := by rfl) : PS X (.Assign [tg] e pos) (tAsg te g) := by
  intro pins s σ H D I h
  refine wpAny_Assign_stores (thn (he pins s σ H _ I h) fun v s1 ⟨x, H1, I1, r1, q1⟩ => ?_) hs hw
  rw [h1]
  exact thn (hg pins s1 σ H1 x v _ I1 r1 q1) fun _ s2 q => q
theorem ps_set {i : Nat} {x : Str} {e : Expr} {te : TE} {pos' : Pos} (hN : X.N.Nodup) (hi : X.N[i]? = some x) (hx : Loc X.env.scope x) (he : PE X e te) (hs : swapsWith e (some (.Name x pos')) pos.line X.env = pure false := by rfl) (hf : X.fn x = true ∨ X.env.scope.names.lookup x = some .local := by first | exact .inl rfl | exact .inr rfl | assumption) :
    PS X (.Assign [.Name x pos'] e pos) (tAsg te (gName i)) := by
  intro pins s σ H D I h
  refine wpAny_Assign_Name (thn (he pins s σ H _ I h) fun v s1 ⟨y, H1, I1, r1, q1⟩ => ?_) hs
  exact store_ok I1 hN hi hx r1 (fun s2 I2 => ⟨_, H1, I2, q1⟩) hf
def PGet (X : Cx) (t : V → V → Hp → VK → Prop) : Prop :=
  ∀ (pins : List (Addr × Obj)) (s : Shared) (σ : St) (H : Hp) (o i : V) (ov iv : Value) (Q : VK), Inv X pins σ H s → RelV o ov → RelV i iv → t o i H Q →
    wpAny (model X.prog X.w) X.A (getItem ov iv) (EP X pins σ Q) X.xe s
end

section
variable {X : Cx} {pos : Pos}
end

structure It where
  go : Nat → Hp → Prop
  yld : Nat → Hp → V → Hp → Prop
  stop : Nat → Hp → Prop
def FpOk (X : Cx) (pins : List (Addr × Obj)) (H : Hp) (b : Addr) : Prop :=
  H b = none ∧ b ≠ X.env.locals ∧ b ∉ X.fs ∧ (b ∈ X.ex ∨ X.s_0.heap.objs.size ≤ b) ∧ (∀ x c, X.env.cells.lookup x = some c → c ≠ b) ∧ ∀ p ∈ X.pn ++ pins, p.1 ≠ b
theorem Inv.fpOk {X : Cx} {pins : List (Addr × Obj)} {σ : St} {H H' : Hp} {s : Shared} {b : Addr} (I : Inv X pins σ H s) (hb : s.heap.objs.size ≤ b) (hn : H' b = none) : FpOk X pins H' b := by
  refine ⟨hn, Nat.ne_of_gt (Nat.lt_of_lt_of_le I.lt hb), I.nofs hb, .inr (Nat.le_trans I.sz hb), fun x c e z => ?_, fun p hp z => ?_⟩
  · obtain ⟨v, q⟩ := I.cell x c e
    exact absurd (Nat.lt_of_lt_of_le q.lt (by rw [z]; exact hb)) (Nat.lt_irrefl _)
  · exact absurd (Nat.lt_of_lt_of_le (Heap.lt_size (I.pin p hp).1) (by rw [z]; exact hb)) (Nat.lt_irrefl _)
structure Turn (P : Program) (w : World) (K : PySem.W.Frag) (tg : Expr) (J : It) (fp : List Addr) (it : Addr) (tn : Nat → Heap → Prop) : Prop where
  mem : it ∈ fp
  obj : ∀ i h, tn i h → ∀ b ∈ fp, ∃ o, h.get? b = some o ∧ ∀ v, o.data ≠ .cell v
  keep : ∀ i h h', tn i h → (∀ b ∈ fp, ∀ o, h.get? b = some o → h'.get? b = some o) → tn i h'
  item : ∀ (X : Cx), X.prog = P → X.w = w → X.K = K → X.calm = true → ∀ (i : Nat) (pins : List (Addr × Obj)) (s : Shared) (σ : St) (H : Hp) (E : Value → Shared → Prop), Inv X pins σ H s → (∀ b ∈ fp, FpOk X pins H b) → tn i s.heap → J.go i H →
    wpAny (model P w) X.A (pyNext (.ref it)) (fun r s1 => ∃ u, r = some u ∧
      wpAny (model P w) X.A (letOwnedTupleGo tg (.ref it) u) (fun _ s2 => ∃ x H', Inv X pins σ H' s2 ∧ RelV x u ∧ J.yld i H x H' ∧ tn (i + 1) s2.heap ∧ ∀ b ∈ fp, H' b = none) E s1) E s
  done : ∀ (X : Cx), X.prog = P → X.w = w → X.K = K → X.calm = true → ∀ (i : Nat) (pins : List (Addr × Obj)) (s : Shared) (σ : St) (H : Hp) (E : Value → Shared → Prop), Inv X pins σ H s → (∀ b ∈ fp, FpOk X pins H b) → tn i s.heap → J.stop i H →
    wpAny (model P w) X.A (pyNext (.ref it)) (fun r s1 => r = none ∧ Inv X pins σ H s1) E s
  self : ∀ (A : Around) (i : Nat) (s : Shared) (Q : Value → Shared → Prop) (E : Value → Shared → Prop), tn i s.heap → Q (.ref it) s → wpAny (model P w) A (pyIter (.ref it)) Q E s
abbrev TI := St → Hp → (It → Hp → Prop) → Prop
def PIE (X : Cx) (pins : List (Addr × Obj)) (σ : St) (tg : Expr) (R : It → Hp → Prop) (itv : Value) (s2 : Shared) : Prop :=
  ∃ (it : Addr) (fp : List Addr) (tn : Nat → Heap → Prop) (J : It) (H' : Hp), itv = .ref it ∧ Inv X pins σ H' s2 ∧ Turn X.prog X.w X.K tg J fp it tn ∧ tn 0 s2.heap ∧ (∀ b ∈ fp, FpOk X pins H' b) ∧ R J H'
def PI (X : Cx) (tg iter : Expr) (wi : TI) : Prop :=
  ∀ (pins : List (Addr × Obj)) (s : Shared) (σ : St) (H : Hp) (R : It → Hp → Prop), Inv X pins σ H s → wi σ H R →
    wpAny (model X.prog X.w) X.A (eval iter X.env) (fun v s1 => wpAny (model X.prog X.w) X.A (pyIter v) (PIE X pins σ tg R) X.xe s1) X.xe s

theorem go_of {M : Model} {A : Around} {E : Value → Shared → Prop} {s : Shared} {tg : Expr} {it : Addr} {u : Value} {o : Obj} {n : String} {vs : Array Value} {Q : Unit → Shared → Prop} (ho : s.heap.get? it = some o) (hc : o.cls = .type n) (hd : o.data = .fields vs)
    (hn : ["enumerate", "zip", "dict_itemiterator", "dict_reverseitemiterator", "odict_iterator", "itertools.zip_longest", "itertools.pairwise"].contains n = false) (hQ : Q () s) : wpAny M A (letOwnedTupleGo tg (.ref it) u) Q E s := by
  unfold letOwnedTupleGo
  cases tg <;> first
    | exact wpAny_pure hQ
    | (cases u <;> first
        | exact wpAny_pure hQ
        | (refine wpAny_bind (wpAny_load ho ?_)
           rw [hc, hd]
           show wpAny M A (if (["enumerate", "zip", "dict_itemiterator", "dict_reverseitemiterator", "odict_iterator", "itertools.zip_longest", "itertools.pairwise"].contains n && vs[0]? == some (rawInt _)) = true then _ else _) Q E s
           rw [if_neg (by intro h; rw [hn, Bool.false_and] at h; cases h)]
           exact wpAny_pure hQ))

def Itl (K : PySem.W.Frag) (a : Addr) : It :=
  ⟨fun i H => ∃ xs x, SqL K H a xs ∧ xs[i]? = some x, fun i H x H' => H' = H ∧ ∀ xs, SqL K H a xs → xs[i]? = some x, fun i H => ∃ xs, SqL K H a xs ∧ xs.length ≤ i⟩
def Itt (K : PySem.W.Frag) (a : Addr) : It :=
  ⟨fun i H => ∃ xs x, SqT K H a xs ∧ xs[i]? = some x, fun i H x H' => H' = H ∧ ∀ xs, SqT K H a xs → xs[i]? = some x, fun i H => ∃ xs, SqT K H a xs ∧ xs.length ≤ i⟩
def Itr (lo : Int) (n : Nat) : It := ⟨fun i _ => i < n, fun i H x H' => H' = H ∧ x = .int (lo + i), fun i _ => n ≤ i⟩
theorem turn_list {P : Program} {w : World} {K : PySem.W.Frag} {tg : Expr} (a it : Addr) : Turn P w K tg (Itl K a) [it] it (fun i h => h.IsListIter it a i) where
  mem := by simp
  obj := fun i h st b hb => by
    have e : b = it := by simpa using hb
    subst e
    obtain ⟨o, e, c, d⟩ := st
    exact ⟨o, e, fun v z => by rw [d] at z; cases z⟩
  keep := fun i h h' st k => st.at fun o e => k it (by simp) o e
  item := by
    intro X hP hw hK hc i pins s σ H E I hf st hg
    subst hP hw hK
    obtain ⟨xs, x, hq, hx⟩ := hg
    obtain ⟨its, rv, p, hz⟩ := I.list hq
    obtain ⟨u, hu, ru⟩ := rv.get hx
    obtain ⟨f0, f1, f2, f3, f4, f5⟩ := hf it (by simp)
    refine wpAny_pyNext_list_item st p.isList (x := u) (by simpa using hu) fun h' st' sb => ?_
    have I1 : Inv X pins σ H { s with heap := h' } := I.turned (t' := s.toks) (fun b o hb e => (sb.2 b hb).trans e) f0 f1 f3 f4 f5
    obtain ⟨o, e, c, d⟩ := id st'
    exact ⟨u, rfl, go_of (s := { s with heap := h' }) e c d (by decide) ⟨x, H, I1, ru, ⟨rfl, fun ys hy => by rw [I.list_inj hy hq]; exact hx⟩, st', fun b hb => (hf b hb).1⟩⟩
  done := by
    intro X hP hw hK hc i pins s σ H E I hf st hg
    subst hP hw hK
    obtain ⟨xs, hq, hx⟩ := hg
    obtain ⟨its, rv, p, hz⟩ := I.list hq
    obtain ⟨f0, f1, f2, f3, f4, f5⟩ := hf it (by simp)
    have hl := rv.length
    exact wpAny_pyNext_list_end (I.ok.hd hc) st p.isList (by simp; omega) fun h' eb => ⟨rfl, I.turned (t' := s.toks) (fun b o hb e => eb b o hb e) f0 f1 f3 f4 f5⟩
  self := fun _ _ _ _ _ st h => wpAny_pyIter_listiter st h
theorem turn_tuple {P : Program} {w : World} {K : PySem.W.Frag} {tg : Expr} (a it : Addr) : Turn P w K tg (Itt K a) [it] it (fun i h => h.IsTupleIter it a i) where
  mem := by simp
  obj := fun i h st b hb => by
    have e : b = it := by simpa using hb
    subst e
    obtain ⟨o, e, c, d⟩ := st
    exact ⟨o, e, fun v z => by rw [d] at z; cases z⟩
  keep := fun i h h' st k => st.at fun o e => k it (by simp) o e
  item := by
    intro X hP hw hK hc i pins s σ H E I hf st hg
    subst hP hw hK
    obtain ⟨xs, x, hq, hx⟩ := hg
    obtain ⟨its, rv, p, hz⟩ := I.tuple hq
    obtain ⟨u, hu, ru⟩ := rv.get hx
    obtain ⟨f0, f1, f2, f3, f4, f5⟩ := hf it (by simp)
    refine wpAny_pyNext_tuple_item st (show s.heap.IsTuple a its.toArray from p) (x := u) (by simpa using hu) fun h' st' sb => ?_
    have I1 : Inv X pins σ H { s with heap := h' } := I.turned (t' := s.toks) (fun b o hb e => (sb.2 b hb).trans e) f0 f1 f3 f4 f5
    obtain ⟨o, e, c, d⟩ := id st'
    exact ⟨u, rfl, go_of (s := { s with heap := h' }) e c d (by decide) ⟨x, H, I1, ru, ⟨rfl, fun ys hy => by rw [I.tuple_inj hy hq]; exact hx⟩, st', fun b hb => (hf b hb).1⟩⟩
  done := by
    intro X hP hw hK hc i pins s σ H E I hf st hg
    subst hP hw hK
    obtain ⟨xs, hq, hx⟩ := hg
    obtain ⟨its, rv, p, hz⟩ := I.tuple hq
    obtain ⟨f0, f1, f2, f3, f4, f5⟩ := hf it (by simp)
    have hl := rv.length
    exact wpAny_pyNext_tuple_end (I.ok.hd hc) st (show s.heap.IsTuple a its.toArray from p) (by simp; omega) fun h' eb => ⟨rfl, I.turned (t' := s.toks) (fun b o hb e => eb b o hb e) f0 f1 f3 f4 f5⟩
  self := fun _ _ _ _ _ st h => wpAny_pyIter_tupleiter st h
theorem turn_range {P : Program} {w : World} {K : PySem.W.Frag} {tg : Expr} (it : Addr) (lo : Int) (n : Nat) : Turn P w K tg (Itr lo n) [it] it (fun i h => IsRangeIter h it (lo + (i : Nat) * 1) ((n : Int) - (i : Nat)) 1) where
  mem := by simp
  obj := fun i h st b hb => by
    have e : b = it := by simpa using hb
    subst e
    exact ⟨_, st, fun v z => by
      have z' : Data.fields _ = Data.cell v := z
      cases z'⟩
  keep := fun i h h' st k => k it (by simp) _ st
  item := by
    intro X hP hw hK hc i pins s σ H E I hf st hg
    subst hP hw hK
    obtain ⟨f0, f1, f2, f3, f4, f5⟩ := hf it (by simp)
    have W := Walks.range (prog := X.prog) (w := X.w) (I.ok.hd hc) it lo 1 n
    refine W.item i s _ _ hg st fun v h' tk hv st' kk => ?_
    obtain ⟨t, rfl⟩ := hv
    have I1 : Inv X pins σ H { s with heap := h', toks := tk } := I.turned (fun b o hb e => kk b o (by simpa using hb) e) f0 f1 f3 f4 f5
    refine ⟨_, rfl, go_of (s := { s with heap := h', toks := tk }) (n := "range_iterator") st' rfl rfl (by decide) ⟨.int (lo + i), H, I1, ⟨t, ?_⟩, ⟨rfl, rfl⟩, st', fun b hb => (hf b hb).1⟩⟩
    rw [Int.mul_one]
  done := by
    intro X hP hw hK hc i pins s σ H E I hf st hg
    subst hP hw hK
    obtain ⟨f0, f1, f2, f3, f4, f5⟩ := hf it (by simp)
    exact wpAny_pyNext_range_end (I.ok.hd hc) st (by have : n ≤ i := hg; omega) fun h' eb => ⟨rfl, I.turned (t' := s.toks) (fun b o hb e => eb b o hb e) f0 f1 f3 f4 f5⟩
  self := fun _ _ _ _ _ st h => wpAny_pyIter_rangeiter st h
end L2

namespace L2
open PySem PySem.Spec PyProof.Rows
section
variable {X : Cx} {tg : Expr}
def iList (K : PySem.W.Frag) (tl : TE) : TI := fun σ H R => tl σ H fun x H1 => ∃ a, x = .ref a ∧ (∃ xs, SqL K H1 a xs) ∧ R (Itl K a) H1
def iTup (K : PySem.W.Frag) (tl : TE) : TI := fun σ H R => tl σ H fun x H1 => ∃ a, x = .ref a ∧ (∃ xs, SqT K H1 a xs) ∧ R (Itt K a) H1
theorem pi_list {l : Expr} {tl : TE} (hl : PE X l tl) : PI X tg l (iList X.K tl) := by
  intro pins s σ H R I h
  refine thn (hl pins s σ H _ I h) fun v s1 ⟨x, H1, I1, r1, q1⟩ => ?_
  obtain ⟨a, e, ⟨xs, hq⟩, q⟩ := q1
  subst e
  cases r1
  obtain ⟨its, rv, p, hz⟩ := I1.list hq
  refine wpAny_pyIter_list p.isList ?_
  refine ⟨s1.heap.objs.size, [s1.heap.objs.size], _, _, H1, rfl, I1.kept (t' := s1.toks) fun b o e => Heap.get?_push_of_some _ e, turn_list a _, ⟨_, Heap.get?_push_size _ rfl, rfl, rfl⟩, fun b hb => ?_, q⟩
  have e : b = s1.heap.objs.size := by simpa using hb
  subst e
  exact I1.fpOk (Nat.le_refl _) (I1.hok.fresh (Nat.le_refl _))
theorem pi_tup {l : Expr} {tl : TE} (hl : PE X l tl) : PI X tg l (iTup X.K tl) := by
  intro pins s σ H R I h
  refine thn (hl pins s σ H _ I h) fun v s1 ⟨x, H1, I1, r1, q1⟩ => ?_
  obtain ⟨a, e, ⟨xs, hq⟩, q⟩ := q1
  subst e
  cases r1
  obtain ⟨its, rv, p, hz⟩ := I1.tuple hq
  refine wpAny_pyIter_tuple (show s1.heap.IsTuple a its.toArray from p) ?_
  refine ⟨s1.heap.objs.size, [s1.heap.objs.size], _, _, H1, rfl, I1.kept (t' := s1.toks) fun b o e => Heap.get?_push_of_some _ e, turn_tuple a _, ⟨_, Heap.get?_push_size _ rfl, rfl, rfl⟩, fun b hb => ?_, q⟩
  have e : b = s1.heap.objs.size := by simpa using hb
  subst e
  exact I1.fpOk (Nat.le_refl _) (I1.hok.fresh (Nat.le_refl _))
theorem range_it {pins : List (Addr × Obj)} {σ : St} {H : Hp} {s : Shared} {R : It → Hp → Prop} {E : Value → Shared → Prop} {lo hi : Int} {t u v : Tok} {tk : Nat} (I : Inv X pins σ H s) (h1 : -(2 ^ 62) ≤ lo) (h2 : lo < 2 ^ 62) (h3 : -(2 ^ 62) ≤ hi) (h4 : hi < 2 ^ 62)
    (q : R (Itr lo (hi - lo).toNat) H) : wpAny (model X.prog X.w) X.A (pyIter (.ref s.heap.objs.size)) (PIE X pins σ tg R) E { s with heap := s.heap.push { cls := .type "range", data := .fields #[.int lo t, .int hi u, .int 1 v] }, toks := tk } := by
  refine wpAny_pyIter_range (IsRange.new ..) (small_one h1 h2 h3 h4) ?_
  have I1 : Inv X pins σ H { s with heap := s.heap.push { cls := .type "range", data := .fields #[.int lo t, .int hi u, .int 1 v] }, toks := tk } := I.kept fun b o e => Heap.get?_push_of_some _ e
  refine ⟨(s.heap.push { cls := .type "range", data := .fields #[.int lo t, .int hi u, .int 1 v] }).objs.size, [(s.heap.push { cls := .type "range", data := .fields #[.int lo t, .int hi u, .int 1 v] }).objs.size], _, _, H, rfl,
    I1.kept (t' := tk) fun b o e => Heap.get?_push_of_some _ e, turn_range _ lo (hi - lo).toNat, ?_, fun b hb => ?_, q⟩
  · have e1 : lo + ((0 : Nat) : Int) * 1 = lo := by simp
    have e2 : (((hi - lo).toNat : Nat) : Int) - ((0 : Nat) : Int) = Builtin.Range.rangeSize lo hi 1 := by rw [rangeSize_one]; split <;> omega
    show IsRangeIter _ _ (lo + ((0 : Nat) : Int) * 1) ((((hi - lo).toNat : Nat) : Int) - ((0 : Nat) : Int)) 1
    rw [e1, e2]
    exact Heap.get?_push_size _ rfl
  · have e : b = (s.heap.push { cls := .type "range", data := .fields #[.int lo t, .int hi u, .int 1 v] }).objs.size := by simpa using hb
    subst e
    exact I1.fpOk (Nat.le_refl _) (I1.hok.fresh (Nat.le_refl _))
def iRng1 (ta : TA) : TI := fun σ H R => ta σ H fun vs H1 => ∃ j : Int, vs = [.int j] ∧ -(2 ^ 62) ≤ j ∧ j < 2 ^ 62 ∧ R (Itr 0 j.toNat) H1
theorem pi_range1 {a : Expr} {ta : TA} {p pos : Pos} (hg : Gl X "range") (hm : X.mg "range" = none) (ha : PA X [a] ta) (hs : starEach [a] X.env = [(false, eval a X.env)] := by rfl) : PI X tg (.Call (.Name "range" p) [a] [] pos) (iRng1 ta) := by
  intro pins s σ H R I h
  refine Call_ (ld_blt I hg hm boot_range (PyProof.Rows.callWith_type1 (thn (ha pos pins s σ H _ I h) fun us s1 ⟨vs, H1, I1, r1, q1⟩ => ?_) hs rfl))
  obtain ⟨j, e, q1, q2, q⟩ := q1
  subst e
  cases r1 with
  | cons r rr =>
    cases rr
    obtain ⟨t, rfl⟩ := r
    exact call_range_1 (range_it I1 (by omega) (by omega) q1 q2 (by simpa using q))
def tFor (wi : TI) (g : TG) (tb : TS) : TS := fun D σ H => wi σ H fun J H1 => ∃ W : Nat → Nat → St → Hp → Prop, (∃ m, W 0 m σ H1) ∧ ∀ i m σ H, W i m σ H →
  (J.stop i H ∧ D.nx σ H) ∨ (J.go i H ∧ ∃ N : St → Hp → Prop, (∀ σ' H', N σ' H' → ∃ m', m' < m ∧ W (i + 1) m' σ' H') ∧ ∀ x H', J.yld i H x H' → g x σ H' fun σ2 H2 => tb { D with nx := N, ct := N, bk := D.nx } σ2 H2)
def pinsAt (fp : List Addr) (h : Heap) : List (Addr × Obj) := fp.filterMap fun b => (h.get? b).map fun o => (b, o)
theorem mem_pinsAt {fp : List Addr} {h : Heap} {b : Addr} {o : Obj} (hb : b ∈ fp) (e : h.get? b = some o) : (b, o) ∈ pinsAt fp h := List.mem_filterMap.mpr ⟨b, hb, by rw [e]; rfl⟩
theorem of_pinsAt {fp : List Addr} {h : Heap} {p : Addr × Obj} (hp : p ∈ pinsAt fp h) : p.1 ∈ fp ∧ h.get? p.1 = some p.2 := by
  obtain ⟨b, hb, e⟩ := List.mem_filterMap.mp hp
  cases q : h.get? b with
  | none => rw [q] at e; cases e
  | some o =>
    rw [q] at e
    have e' : (b, o) = p := Option.some.inj e
    subst e'
    exact ⟨hb, q⟩
theorem Inv.pinned {pins : List (Addr × Obj)} {σ : St} {H : Hp} {s : Shared} {fp : List Addr} (I : Inv X pins σ H s) (hf : ∀ b ∈ fp, FpOk X pins H b) (ho : ∀ b ∈ fp, ∃ o, s.heap.get? b = some o ∧ ∀ v, o.data ≠ .cell v) : Inv X (pins ++ pinsAt fp s.heap) σ H s :=
  I.pins_of fun p hp => (List.mem_append.mp hp).elim (fun z => I.pin p (List.mem_append_right _ z)) fun z => by
    obtain ⟨hb, e⟩ := of_pinsAt z
    obtain ⟨f0, f1, f2, _⟩ := hf p.1 hb
    obtain ⟨o, e', d⟩ := ho p.1 hb
    rw [e] at e'; cases e'
    exact ⟨e, f0, f1, f2, d⟩
theorem Inv.unpinned {pins pl : List (Addr × Obj)} {σ : St} {H : Hp} {s : Shared} (I : Inv X (pins ++ pl) σ H s) : Inv X pins σ H s := I.pins_of fun p hp => I.pin p (List.mem_append_right _ (List.mem_append_left _ hp))
theorem ps_for {iter : Expr} {body : List Stmt} {wi : TI} {g : TG} {tb : TS} {pos : Pos} (hp : PassesOwn (model X.prog X.w) X.A X.env X.xe) (hc : X.calm = true) (hi : PI X tg iter wi) (hg : PG X tg g) (hb : PSs X body tb)
    (hs : ∀ x, foldedSetIterable iter X.env x = pure x := by intro _; rfl) : PS X (.For tg iter body [] pos) (tFor wi g tb) := by
  intro pins s σ H D I h
  refine wpAny_For (thn (hi pins s σ H _ I h) fun v s1 h1 => thn h1 fun itv s2 h2 => ?_) hs
  obtain ⟨it, fp, tn, J, H2, e, I2, T, st2, f2, W, ⟨m0, w0⟩, turn⟩ := h2
  subst e
  -- what stays true of the iterator's objects through the loop
  have stat : ∀ {H' : Hp}, (∀ b ∈ fp, H' b = none) → ∀ b ∈ fp, FpOk X pins H' b := fun hn b hb => ⟨hn b hb, (f2 b hb).2⟩
  refine codeAny_forLoop_any (fun n s' => ∃ i σ' H', Inv X pins σ' H' s' ∧ tn i s'.heap ∧ (∀ b ∈ fp, H' b = none) ∧ W i n σ' H') ?_ m0 ⟨0, σ, H2, I2, st2, fun b hb => (f2 b hb).1, w0⟩
  rintro n s3 ⟨i, σ3, H3, I3, st3, fr3, w3⟩
  rcases turn i n σ3 H3 w3 with ⟨stop, qn⟩ | ⟨go, N, hN, step⟩
  · refine wpAny_passesOwn hp (thn (T.done X rfl rfl rfl hc i pins s3 σ3 H3 X.xe I3 (stat fr3) st3 stop) fun r s4 ⟨hr, I4⟩ => ?_)
    subst hr
    exact wpAny_execs_nil ⟨σ3, H3, I4, qn⟩
  · refine wpAny_passesOwn hp (thn (T.item X rfl rfl rfl hc i pins s3 σ3 H3 X.xe I3 (stat fr3) st3 go) fun r s4 ⟨u, hr, h4⟩ => ?_)
    subst hr
    refine wpAny_passesOwn hp (thn h4 fun _ s5 ⟨x, H5, I5, r5, y5, st5, fr5⟩ => ?_)
    have I5' := I5.pinned (stat fr5) (T.obj _ _ st5)
    refine wpAny_passesOwn hp (thn (hg _ s5 σ3 H5 x u _ I5' r5 (step x H5 y5)) fun _ s6 ⟨σ6, H6, I6, q6⟩ => ?_)
    refine wpAny_passesOwn hp (thn (hb _ s6 σ6 H6 _ I6 q6) fun f s7 q7 => ?_)
    have again : ∀ {σ7 : St} {H7 : Hp}, Inv X (pins ++ pinsAt fp s5.heap) σ7 H7 s7 → N σ7 H7 → ∃ m, m < n ∧ ∃ i σ' H', Inv X pins σ' H' s7 ∧ tn i s7.heap ∧ (∀ b ∈ fp, H' b = none) ∧ W i m σ' H' := fun {σ7 H7} I7 n7 => by
      obtain ⟨m', hm, w7⟩ := hN σ7 H7 n7
      refine ⟨m', hm, i + 1, σ7, H7, I7.unpinned, T.keep _ _ _ st5 fun b hb o e => (I7.pin (b, o) (List.mem_append_right _ (List.mem_append_right _ (mem_pinsAt hb e)))).1, fun b hb => ?_, w7⟩
      obtain ⟨o, e, d⟩ := T.obj _ _ st5 b hb
      exact (I7.pin (b, o) (List.mem_append_right _ (List.mem_append_right _ (mem_pinsAt hb e)))).2.1
    cases f with
    | next => obtain ⟨σ7, H7, I7, n7⟩ := q7; exact again I7 n7
    | cont => obtain ⟨σ7, H7, I7, n7⟩ := q7; exact again I7 n7
    | brk => obtain ⟨σ7, H7, I7, q7⟩ := q7; exact ⟨σ7, H7, I7.unpinned, q7⟩
    | ret v => obtain ⟨x7, σ7, H7, I7, r7, q7⟩ := q7; exact ⟨x7, σ7, H7, I7.unpinned, r7, q7⟩
end

theorem for_list {K : PySem.W.Frag} {a : Addr} {xs : List V} {g : TG} {tb : TS} {D : Ends} {σ : St} {H : Hp} (Pv : Nat → St → Hp → Prop) (h0 : Pv 0 σ H) (hl : ∀ i σ H, i ≤ xs.length → Pv i σ H → SqL K H a xs)
    (hs : ∀ i x σ H, xs[i]? = some x → Pv i σ H → g x σ H fun σ2 H2 => tb { D with nx := Pv (i + 1), ct := Pv (i + 1), bk := D.nx } σ2 H2) (hd : ∀ σ H, Pv xs.length σ H → D.nx σ H) :
    ∃ W : Nat → Nat → St → Hp → Prop, (∃ m, W 0 m σ H) ∧ ∀ i m σ H, W i m σ H →
      ((Itl K a).stop i H ∧ D.nx σ H) ∨ ((Itl K a).go i H ∧ ∃ N : St → Hp → Prop, (∀ σ' H', N σ' H' → ∃ m', m' < m ∧ W (i + 1) m' σ' H') ∧ ∀ x H', (Itl K a).yld i H x H' → g x σ H' fun σ2 H2 => tb { D with nx := N, ct := N, bk := D.nx } σ2 H2) := by
  refine ⟨fun i m σ H => m = xs.length - i ∧ i ≤ xs.length ∧ Pv i σ H, ⟨xs.length, by simp, Nat.zero_le _, h0⟩, ?_⟩
  rintro i m σ H ⟨rfl, hi, p⟩
  have q := hl i σ H hi p
  by_cases hlt : i < xs.length
  · refine .inr ⟨⟨xs, xs[i], q, by simp [hlt]⟩, Pv (i + 1), fun σ' H' p' => ⟨xs.length - (i + 1), by omega, rfl, hlt, p'⟩, fun x H' y => ?_⟩
    obtain ⟨e, y⟩ := y
    subst e
    exact hs i x σ _ (y xs q) p
  · have e : i = xs.length := by omega
    subst e
    exact .inl ⟨⟨xs, q, Nat.le_refl _⟩, hd σ H p⟩
theorem for_tup {K : PySem.W.Frag} {a : Addr} {xs : List V} {g : TG} {tb : TS} {D : Ends} {σ : St} {H : Hp} (Pv : Nat → St → Hp → Prop) (h0 : Pv 0 σ H) (hl : ∀ i σ H, i ≤ xs.length → Pv i σ H → SqT K H a xs)
    (hs : ∀ i x σ H, xs[i]? = some x → Pv i σ H → g x σ H fun σ2 H2 => tb { D with nx := Pv (i + 1), ct := Pv (i + 1), bk := D.nx } σ2 H2) (hd : ∀ σ H, Pv xs.length σ H → D.nx σ H) :
    ∃ W : Nat → Nat → St → Hp → Prop, (∃ m, W 0 m σ H) ∧ ∀ i m σ H, W i m σ H →
      ((Itt K a).stop i H ∧ D.nx σ H) ∨ ((Itt K a).go i H ∧ ∃ N : St → Hp → Prop, (∀ σ' H', N σ' H' → ∃ m', m' < m ∧ W (i + 1) m' σ' H') ∧ ∀ x H', (Itt K a).yld i H x H' → g x σ H' fun σ2 H2 => tb { D with nx := N, ct := N, bk := D.nx } σ2 H2) := by
  refine ⟨fun i m σ H => m = xs.length - i ∧ i ≤ xs.length ∧ Pv i σ H, ⟨xs.length, by simp, Nat.zero_le _, h0⟩, ?_⟩
  rintro i m σ H ⟨rfl, hi, p⟩
  have q := hl i σ H hi p
  by_cases hlt : i < xs.length
  · refine .inr ⟨⟨xs, xs[i], q, by simp [hlt]⟩, Pv (i + 1), fun σ' H' p' => ⟨xs.length - (i + 1), by omega, rfl, hlt, p'⟩, fun x H' y => ?_⟩
    obtain ⟨e, y⟩ := y
    subst e
    exact hs i x σ _ (y xs q) p
  · have e : i = xs.length := by omega
    subst e
    exact .inl ⟨⟨xs, q, Nat.le_refl _⟩, hd σ H p⟩
theorem for_range {lo : Int} {n : Nat} {g : TG} {tb : TS} {D : Ends} {σ : St} {H : Hp} (Pv : Nat → St → Hp → Prop) (h0 : Pv 0 σ H)
    (hs : ∀ i σ H, i < n → Pv i σ H → g (.int (lo + i)) σ H fun σ2 H2 => tb { D with nx := Pv (i + 1), ct := Pv (i + 1), bk := D.nx } σ2 H2) (hd : ∀ σ H, Pv n σ H → D.nx σ H) :
    ∃ W : Nat → Nat → St → Hp → Prop, (∃ m, W 0 m σ H) ∧ ∀ i m σ H, W i m σ H →
      ((Itr lo n).stop i H ∧ D.nx σ H) ∨ ((Itr lo n).go i H ∧ ∃ N : St → Hp → Prop, (∀ σ' H', N σ' H' → ∃ m', m' < m ∧ W (i + 1) m' σ' H') ∧ ∀ x H', (Itr lo n).yld i H x H' → g x σ H' fun σ2 H2 => tb { D with nx := N, ct := N, bk := D.nx } σ2 H2) := by
  refine ⟨fun i m σ H => m = n - i ∧ i ≤ n ∧ Pv i σ H, ⟨n, by simp, Nat.zero_le _, h0⟩, ?_⟩
  rintro i m σ H ⟨rfl, hi, p⟩
  by_cases hlt : i < n
  · refine .inr ⟨hlt, Pv (i + 1), fun σ' H' p' => ⟨n - (i + 1), by omega, rfl, hlt, p'⟩, fun x H' y => ?_⟩
    obtain ⟨e, y⟩ := y
    subst e y
    exact hs i σ _ hlt p
  · have e : i = n := by omega
    subst e
    exact .inl ⟨Nat.le_refl _, hd σ H p⟩
end L2

namespace L2
open PySem PySem.Spec PyProof.Rows

abbrev R2 := V → V → Hp → VK → Prop
def OpR (X : Cx) (f : Value → Value → Sem Value) (r : R2) : Prop :=
  ∀ (pins : List (Addr × Obj)) (s : Shared) (σ : St) (H : Hp) (x y : V) (v u : Value) (Q : VK), Inv X pins σ H s → RelV x v → RelV y u → r x y H Q →
    wpAny (model X.prog X.w) X.A (f v u) (EP X pins σ Q) X.xe s
def UnR (X : Cx) (f : Value → Sem Value) (r : V → Hp → VK → Prop) : Prop :=
  ∀ (pins : List (Addr × Obj)) (s : Shared) (σ : St) (H : Hp) (x : V) (v : Value) (Q : VK), Inv X pins σ H s → RelV x v → r x H Q →
    wpAny (model X.prog X.w) X.A (f v) (EP X pins σ Q) X.xe s
def CallR (X : Cx) (f : Value) (r : List V → Hp → VK → Prop) : Prop :=
  ∀ (pins : List (Addr × Obj)) (s : Shared) (σ : St) (H : Hp) (xs : List V) (us : List Value) (Q : VK), Inv X pins σ H s → Vals xs us → r xs H Q →
    wpAny (model X.prog X.w) X.A (call f us) (EP X pins σ Q) X.xe s
def tOp (r : R2) (ta tb : TE) : TE := fun σ H Q => ta σ H fun x H1 => tb σ H1 fun y H2 => r x y H2 Q
def tUn (r : V → Hp → VK → Prop) (ta : TE) : TE := fun σ H Q => ta σ H fun x H1 => r x H1 Q
def rI (C : Int → Int → Prop) (g : Int → Int → V) : R2 := fun x y H Q => ∃ i j, x = .int i ∧ y = .int j ∧ C i j ∧ Q (g i j) H
def rI0 (g : Int → Int → V) : R2 := fun x y H Q => ∃ i j, x = .int i ∧ y = .int j ∧ Q (g i j) H
def rU (g : Int → V) : V → Hp → VK → Prop := fun x H Q => ∃ i, x = .int i ∧ Q (g i) H

section
variable {X : Cx} {a b c : Expr} {ta tb tc : TE} {pos : Pos}

theorem binT (ha : PE X a ta) (hb : PE X b tb) {pins : List (Addr × Obj)} {s : Shared} {σ : St} {H : Hp} {R : V → V → Hp → Prop} (I : Inv X pins σ H s)
    (h : ta σ H fun x H1 => tb σ H1 fun y H2 => R x y H2) {Q : Value → Shared → Prop} {f : Value → Value → Sem Value}
    (hf : ∀ v u s2 x y H2, Inv X pins σ H2 s2 → RelV x v → RelV y u → R x y H2 → wpAny (model X.prog X.w) X.A (f v u) Q X.xe s2) :
    wpAny (model X.prog X.w) X.A (eval a X.env) (fun v s₁ => wpAny (model X.prog X.w) X.A (eval b X.env) (fun u s₂ => wpAny (model X.prog X.w) X.A (f v u) Q X.xe s₂) X.xe s₁) X.xe s := by
  refine thn (ha pins s σ H _ I h) fun v s1 ⟨x, H1, I1, r1, q1⟩ => ?_
  refine thn (hb pins s1 σ H1 _ I1 q1) fun u s2 ⟨y, H2, I2, r2, q2⟩ => ?_
  exact hf v u s2 x y H2 I2 r1 r2 q2

theorem pe_op {op : Operator} {r : R2} (ho : OpR X (binaryOp op) r) (ha : PE X a ta) (hb : PE X b tb) : PE X (.BinOp a op b pos) (tOp r ta tb) := by
  intro pins s σ H Q I h
  exact wpAny_BinOp (binT ha hb I h fun v u s2 x y H2 I2 rx ry q => ho pins s2 σ H2 x y v u Q I2 rx ry q)
theorem pe_un {op : UnaryOp} {r : V → Hp → VK → Prop} (ho : UnR X (unaryOp op) r) (ha : PE X a ta) : PE X (.UnaryOp op a pos) (tUn r ta) := by
  intro pins s σ H Q I h
  exact UnaryOp_ (thn (ha pins s σ H _ I h) fun v s1 ⟨x, H1, I1, r1, q1⟩ => ho pins s1 σ H1 x v Q I1 r1 q1)
theorem opI {f : Value → Value → Sem Value} {C : Int → Int → Prop} {g : Int → Int → Int}
    (rule : ∀ (i j : Int) (t u : Tok) (s : Shared) (Q : Value → Shared → Prop) (E : Value → Shared → Prop), C i j → Q (.int (g i j) s.toks) { s with toks := s.toks + 1 } → wpAny (model X.prog X.w) X.A (f (.int i t) (.int j u)) Q E s) :
    OpR X f (rI C fun i j => .int (g i j)) := by
  intro pins s σ H x y v u Q I rx ry h
  obtain ⟨i, j, rfl, rfl, hc, q⟩ := h
  obtain ⟨t, rfl⟩ := rx
  obtain ⟨t', rfl⟩ := ry
  exact rule i j t t' s _ _ hc ⟨.int (g i j), H, I.tok _, ⟨_, rfl⟩, q⟩
theorem opI0 {f : Value → Value → Sem Value} {g : Int → Int → Int}
    (rule : ∀ (i j : Int) (t u : Tok) (s : Shared) (Q : Value → Shared → Prop) (E : Value → Shared → Prop), Q (.int (g i j) s.toks) { s with toks := s.toks + 1 } → wpAny (model X.prog X.w) X.A (f (.int i t) (.int j u)) Q E s) :
    OpR X f (rI0 fun i j => .int (g i j)) := by
  intro pins s σ H x y v u Q I rx ry h
  obtain ⟨i, j, rfl, rfl, q⟩ := h
  obtain ⟨t, rfl⟩ := rx
  obtain ⟨t', rfl⟩ := ry
  exact rule i j t t' s _ _ ⟨.int (g i j), H, I.tok _, ⟨_, rfl⟩, q⟩
theorem opB0 {f : Value → Value → Sem Value} {g : Int → Int → Bool}
    (rule : ∀ (i j : Int) (t u : Tok) (s : Shared) (Q : Value → Shared → Prop) (E : Value → Shared → Prop), Q (.bool (g i j)) s → wpAny (model X.prog X.w) X.A (f (.int i t) (.int j u)) Q E s) :
    OpR X f (rI0 fun i j => .bl (g i j)) := by
  intro pins s σ H x y v u Q I rx ry h
  obtain ⟨i, j, rfl, rfl, q⟩ := h
  obtain ⟨t, rfl⟩ := rx
  obtain ⟨t', rfl⟩ := ry
  exact rule i j t t' s _ _ ⟨.bl (g i j), H, I, rfl, q⟩

def CDivN (i j : Int) : Prop := j ≠ 0 ∧ j.natAbs < 1073741824
def CPow (i j : Int) : Prop := 0 ≤ j ∧ j ≤ 1000000 ∧ i.natAbs < 2 ^ 64
def CMul (i j : Int) : Prop := (-(2 ^ 64) < i ∧ i < 2 ^ 64) ∨ (-(2 ^ 64) < j ∧ j < 2 ^ 64)
theorem CMul.ok {i j : Int} (h : CMul i j) : IntMulOk i j := by
  rcases h with ⟨h1, h2⟩ | ⟨h1, h2⟩
  · exact .of_left (intBits_le_64 h1 h2)
  · exact .of_right (intBits_le_64 h1 h2)
theorem two_pow_nn (k : Nat) : (0 : Int) ≤ 2 ^ k := by
  rw [two_pow_cast]
  exact Int.natCast_nonneg _

theorem op_add : OpR X (binaryOp .Add) (rI0 fun i j => .int (i + j)) := opI0 fun _ _ _ _ _ _ _ q => add_int q
theorem op_sub : OpR X (binaryOp .Sub) (rI0 fun i j => .int (i - j)) := opI0 fun _ _ _ _ _ _ _ q => sub_int q
theorem op_mul : OpR X (binaryOp .Mult) (rI CMul fun i j => .int (i * j)) := opI fun _ _ _ _ _ _ _ hc q => mul_int q hc.ok
theorem op_fdivN : OpR X (binaryOp .FloorDiv) (rI CDivN fun i j => .int (i.fdiv j)) := opI fun _ _ _ _ _ _ _ hc q => floordiv_int hc.1 q (.inl (PyProof.noPylong_small hc.2))
theorem op_modN : OpR X (binaryOp .Mod) (rI (fun _ j => j ≠ 0) fun i j => .int (i.fmod j)) := opI fun _ _ _ _ _ _ _ hc q => mod_int' hc q
theorem op_pow : OpR X (binaryOp .Pow) (rI CPow fun i j => .int (i ^ j.toNat)) := opI fun _ _ _ _ _ _ _ hc q => pow_int_small hc.1 hc.2.1 hc.2.2 q
theorem op_shl : OpR X (binaryOp .LShift) (rI CPow fun i j => .int (i * 2 ^ j.toNat)) := opI fun _ _ _ _ _ _ _ hc q => lshift_int_small hc.1 hc.2.1 hc.2.2 q
theorem op_shr : OpR X (binaryOp .RShift) (rI (fun _ j => 0 ≤ j) fun i j => .int (i / 2 ^ j.toNat)) := opI fun i j _ _ _ _ _ hc q =>
  rshift_int hc (by rw [Int.fdiv_eq_ediv_of_nonneg i (two_pow_nn _)]; exact q)
theorem op_and : OpR X (binaryOp .BitAnd) (rI0 fun i j => .int (Builtin.bitAnd i j)) := opI0 fun _ _ _ _ _ _ _ q => and_int q
theorem unI {f : Value → Sem Value} {g : Int → Int}
    (rule : ∀ (i : Int) (t : Tok) (s : Shared) (Q : Value → Shared → Prop) (E : Value → Shared → Prop), Q (.int (g i) s.toks) { s with toks := s.toks + 1 } → wpAny (model X.prog X.w) X.A (f (.int i t)) Q E s) :
    UnR X f (rU fun i => .int (g i)) := by
  intro pins s σ H x v Q I rx h
  obtain ⟨i, rfl, q⟩ := h
  obtain ⟨t, rfl⟩ := rx
  exact rule i t s _ _ ⟨.int (g i), H, I.tok _, ⟨_, rfl⟩, q⟩
theorem un_neg : UnR X (unaryOp .USub) (rU fun i => .int (-i)) := unI fun _ _ _ _ _ q => neg_int q
end

def scal : V → V → Bool
  | .non, .non => true | .non, .int _ => true | .int _, .non => true | .non, .bl _ => true | .bl _, .non => true | .non, .str _ => true | .str _, .non => true
  | .int _, .int _ => true | .bl _, .bl _ => true | .str _, .str _ => true | .byt _, .byt _ => true
  | .int _, .str _ => true | .str _, .int _ => true | .bl _, .str _ => true | .str _, .bl _ => true
  | _, _ => false
def rEq : R2 := fun x y H Q => scal x y = true ∧ Q (.bl (decide (x = y))) H
def rNe : R2 := fun x y H Q => scal x y = true ∧ Q (.bl (!decide (x = y))) H

theorem dec_int {i j : Int} : decide (V.int i = V.int j) = (i == j) := by
  rw [Bool.eq_iff_iff]
  simp
theorem dec_bl {i j : Bool} : decide (V.bl i = V.bl j) = (i == j) := by
  rw [Bool.eq_iff_iff]
  simp
theorem dec_str {i j : Str} : decide (V.str i = V.str j) = (i == j) := by
  rw [Bool.eq_iff_iff]
  simp
theorem dec_byt {i j : Array UInt8} : decide (V.byt i = V.byt j) = (i.toList == j.toList) := by
  rw [Bool.eq_iff_iff]
  cases i
  cases j
  simp

section
variable {X : Cx} {a b c : Expr} {ta tb tc : TE} {pos : Pos}
theorem fin_bl {pins : List (Addr × Obj)} {σ : St} {H : Hp} {s : Shared} {Q : VK} {k k' : Bool} (I : Inv X pins σ H s) (q : Q (.bl k) H) (e : k = k') : EP X pins σ Q (.bool k') s := by
  subst e
  exact ⟨.bl k, H, I, rfl, q⟩
theorem op_eq : OpR X (compareOp .Eq) rEq := by
  intro pins s σ H x y v u Q I rx ry h
  obtain ⟨hs, q⟩ := h
  cases x with
  | non =>
    cases rx
    cases y with
    | non => cases ry; exact PySem.EqNone.eq_none_none (fin_bl I q (by simp))
    | bl j => cases ry; exact PySem.EqNone.eq_none_bool (fin_bl I q (by simp))
    | int j => obtain ⟨t', rfl⟩ := ry; exact PySem.EqNone.eq_none_int (fin_bl I q (by simp))
    | str j => obtain ⟨t', rfl⟩ := ry; exact PySem.EqNone.eq_none_str (fin_bl I q (by simp))
    | _ => exact absurd (show false = true from hs) Bool.false_ne_true
  | bl i =>
    cases rx
    cases y with
    | non => cases ry; exact PySem.EqNone.eq_bool_none (fin_bl I q (by simp))
    | bl j => cases ry; exact eq_bool (fin_bl I q dec_bl)
    | str j => obtain ⟨t', rfl⟩ := ry; exact PySem.EqMixed.eq_bool_str (fin_bl I q (by simp))
    | _ => exact absurd (show false = true from hs) Bool.false_ne_true
  | int i =>
    obtain ⟨t, rfl⟩ := rx
    cases y with
    | non => cases ry; exact PySem.EqNone.eq_int_none (fin_bl I q (by simp))
    | int j => obtain ⟨t', rfl⟩ := ry; exact eq_int (fin_bl I q dec_int)
    | str j => obtain ⟨t', rfl⟩ := ry; exact PySem.EqMixed.eq_int_str (fin_bl I q (by simp))
    | _ => exact absurd (show false = true from hs) Bool.false_ne_true
  | str i =>
    obtain ⟨t, rfl⟩ := rx
    cases y with
    | non => cases ry; exact PySem.EqNone.eq_str_none (fin_bl I q (by simp))
    | bl j => cases ry; exact PySem.EqMixed.eq_str_bool (fin_bl I q (by simp))
    | int j => obtain ⟨t', rfl⟩ := ry; exact PySem.EqMixed.eq_str_int (fin_bl I q (by simp))
    | str j => obtain ⟨t', rfl⟩ := ry; exact eq_str (fin_bl I q dec_str)
    | _ => exact absurd (show false = true from hs) Bool.false_ne_true
  | byt i =>
    obtain ⟨t, rfl⟩ := rx
    cases y with
    | byt j => obtain ⟨t', rfl⟩ := ry; exact PySem.W.eq_bytes (fin_bl I q dec_byt)
    | _ => exact absurd (show false = true from hs) Bool.false_ne_true
  | _ => cases y <;> exact absurd (show false = true from hs) Bool.false_ne_true
theorem op_ne : OpR X (compareOp .NotEq) rNe := by
  intro pins s σ H x y v u Q I rx ry h
  obtain ⟨hs, q⟩ := h
  cases x with
  | non =>
    cases rx
    cases y with
    | non => cases ry; exact PySem.EqNone.ne_none_none (fin_bl I q (by simp))
    | bl j => cases ry; exact PySem.EqNone.ne_none_bool (fin_bl I q (by simp))
    | int j => obtain ⟨t', rfl⟩ := ry; exact PySem.EqNone.ne_none_int (fin_bl I q (by simp))
    | str j => obtain ⟨t', rfl⟩ := ry; exact PySem.EqNone.ne_none_str (fin_bl I q (by simp))
    | _ => exact absurd (show false = true from hs) Bool.false_ne_true
  | bl i =>
    cases rx
    cases y with
    | non => cases ry; exact PySem.EqNone.ne_bool_none (fin_bl I q (by simp))
    | bl j => cases ry; exact ne_bool (fin_bl I q (congrArg not dec_bl))
    | str j => obtain ⟨t', rfl⟩ := ry; exact PySem.EqMixed.ne_bool_str (fin_bl I q (by simp))
    | _ => exact absurd (show false = true from hs) Bool.false_ne_true
  | int i =>
    obtain ⟨t, rfl⟩ := rx
    cases y with
    | non => cases ry; exact PySem.EqNone.ne_int_none (fin_bl I q (by simp))
    | int j => obtain ⟨t', rfl⟩ := ry; exact ne_int (fin_bl I q (congrArg not dec_int))
    | str j => obtain ⟨t', rfl⟩ := ry; exact PySem.EqMixed.ne_int_str (fin_bl I q (by simp))
    | _ => exact absurd (show false = true from hs) Bool.false_ne_true
  | str i =>
    obtain ⟨t, rfl⟩ := rx
    cases y with
    | non => cases ry; exact PySem.EqNone.ne_str_none (fin_bl I q (by simp))
    | bl j => cases ry; exact PySem.EqMixed.ne_str_bool (fin_bl I q (by simp))
    | int j => obtain ⟨t', rfl⟩ := ry; exact PySem.EqMixed.ne_str_int (fin_bl I q (by simp))
    | str j => obtain ⟨t', rfl⟩ := ry; exact ne_str (fin_bl I q (congrArg not dec_str))
    | _ => exact absurd (show false = true from hs) Bool.false_ne_true
  | byt i =>
    obtain ⟨t, rfl⟩ := rx
    cases y with
    | byt j => obtain ⟨t', rfl⟩ := ry; exact PySem.W.ne_bytes (fin_bl I q (congrArg not dec_byt))
    | _ => exact absurd (show false = true from hs) Bool.false_ne_true
  | _ => cases y <;> exact absurd (show false = true from hs) Bool.false_ne_true

theorem op_lt : OpR X (compareOp .Lt) (rI0 fun i j => .bl (decide (i < j))) := opB0 fun _ _ _ _ _ _ _ q => lt_int q
theorem op_gt : OpR X (compareOp .Gt) (rI0 fun i j => .bl (decide (j < i))) := opB0 fun _ _ _ _ _ _ _ q => gt_int q
theorem op_ge : OpR X (compareOp .GtE) (rI0 fun i j => .bl (decide (j ≤ i))) := opB0 fun _ _ _ _ _ _ _ q => ge_int q
theorem OpR.or {f : Value → Value → Sem Value} {r r' : R2} (h : OpR X f r) (h' : OpR X f r') : OpR X f (fun x y H Q => r x y H Q ∨ r' x y H Q) := by
  intro pins s σ H x y v u Q I rx ry q
  rcases q with q | q
  · exact h pins s σ H x y v u Q I rx ry q
  · exact h' pins s σ H x y v u Q I rx ry q

theorem nomark (b : Expr) {op : CmpOp} (h : op ≠ .In := by decide) (h2 : op ≠ .NotIn := by decide) : behindInMarks op b = false := by
  have e1 : (op == CmpOp.In) = false := by cases op <;> first | rfl | exact absurd rfl h
  have e2 : (op == CmpOp.NotIn) = false := by cases op <;> first | rfl | exact absurd rfl h2
  cases b <;> simp [behindInMarks, e1, e2]
theorem pe_cmpR {op : CmpOp} {r : R2} (ho : OpR X (compareOp op) r) (ha : PE X a ta) (hb : PE X b tb) (hm : behindInMarks op b = false) : PE X (.Compare a [op] [b] pos) (tOp r ta tb) := by
  intro pins s σ H Q I h
  exact wpAny_Compare1 (binT ha hb I h fun v u s2 x y H2 I2 rx ry q => ho pins s2 σ H2 x y v u Q I2 rx ry q) hm
def tTest (t : TE) : TT := fun σ H Q => t σ H fun x H' => ∃ k, x = .bl k ∧ Q k H'
theorem pt_cmpR {op : CmpOp} {r : R2} (ho : OpR X (compareOp op) r) (ha : PE X a ta) (hb : PE X b tb) (hm : behindInMarks op b = false) : PT X (.Compare a [op] [b] pos) (tTest (tOp r ta tb)) := by
  intro pins s σ H Q I h
  refine wpAny_isTrue_Compare1 (thn (ha pins s σ H _ I h) fun v s1 ⟨x, H1, I1, r1, q1⟩ => thn (hb pins s1 σ H1 _ I1 q1) fun u s2 ⟨y, H2, I2, r2, q2⟩ =>
    thn (ho pins s2 σ H2 x y v u _ I2 r1 r2 q2) fun c s3 ⟨z, H3, I3, r3, k, e, q3⟩ => ?_) hm
  subst e
  cases r3
  exact wpAny_truthy_bool ⟨H3, I3, q3⟩
theorem line63 : (sizeLine : Nat) < 2 ^ 63 := by rw [sizeLine_eq]; decide
theorem vals1 {x : V} {us : List Value} (r : Vals [x] us) : ∃ u, us = [u] ∧ RelV x u := by
  cases r with
  | cons r1 r2 => cases r2; exact ⟨_, rfl, r1⟩
theorem call_abs : CallR X (.builtin "abs") (fun xs H Q => ∃ i, xs = [.int i] ∧ Q (.int (if i < 0 then -i else i)) H) := by
  intro pins s σ H xs us Q I r h
  obtain ⟨i, rfl, q⟩ := h
  obtain ⟨u, rfl, t, rfl⟩ := vals1 r
  exact call_abs_int fun u tk => ⟨.int (if i < 0 then -i else i), H, I.tok _, ⟨_, rfl⟩, q⟩
def LenV (K : PySem.W.Frag) (x : V) (H : Hp) (n : Nat) : Prop :=
  match x with
  | .str y => y.length ≤ sizeLine ∧ n = y.length
  | .byt y => y.size ≤ sizeLine ∧ n = y.size
  | .ref p => (∃ xs, SqL K H p xs ∧ n = xs.length) ∨ ∃ xs, SqT K H p xs ∧ n = xs.length
  | _ => False
theorem call_len : CallR X (.builtin "len") (fun xs H Q => ∃ x n, xs = [x] ∧ LenV X.K x H n ∧ Q (.int n) H) := by
  intro pins s σ H xs us Q I r h
  obtain ⟨x, n, rfl, e, q⟩ := h
  obtain ⟨u, rfl, rx⟩ := vals1 r
  have hl := line63
  have hs : sizeLine = 16777216 := sizeLine_eq
  cases x with
  | str y =>
    obtain ⟨t, rfl⟩ := rx
    obtain ⟨hy, e'⟩ : y.length ≤ sizeLine ∧ n = y.length := e
    subst e'
    exact len_str (by omega) ⟨.int _, H, I.tok _, ⟨_, rfl⟩, q⟩
  | byt y =>
    obtain ⟨t, rfl⟩ := rx
    obtain ⟨hy, e'⟩ : y.size ≤ sizeLine ∧ n = y.size := e
    subst e'
    exact PySem.W.len_bytes (by omega) ⟨.int _, H, I.tok _, ⟨_, rfl⟩, q⟩
  | ref p =>
    cases rx
    have e' : (∃ xs, SqL X.K H p xs ∧ n = xs.length) ∨ ∃ xs, SqT X.K H p xs ∧ n = xs.length := e
    rcases e' with ⟨xs, hx, e'⟩ | ⟨xs, hx, e'⟩
    · subst e'
      obtain ⟨its, r', pl, hz⟩ := I.list hx
      have hlen := r'.length
      exact Calls.call_len_list pl.isList (by simp only [List.size_toArray]; omega) ⟨.int xs.length, H, I.tok _, ⟨_, by simp only [List.size_toArray]; rw [hlen]⟩, q⟩
    · subst e'
      obtain ⟨its, r', pl, hz⟩ := I.tuple hx
      have hlen := r'.length
      exact len_tuple pl (by simp only [List.size_toArray]; omega) ⟨.int xs.length, H, I.tok _, ⟨_, by simp only [List.size_toArray]; rw [hlen]⟩, q⟩
  | _ => exact (show False from e).elim
end
end L2

namespace L2
open PySem PySem.Spec PyProof.Rows

structure ObjM (h : Heap) (x dx C : Addr) (mA : Str → Option Value) : Prop where
  obj : h.get? x = some (PySem.W.instObj C dx)
  ns : h.Ns1 dx mA
  ne : dx ≠ x

theorem lookIn_ns {h : Heap} {dx : Addr} {mA : Str → Option Value} (n : h.Ns1 dx mA) : ∃ od, h.get? dx = some od ∧ ∀ name, PySem.W.lookIn name od = some (mA name) := by
  obtain ⟨o, es, ep, ho, hd, hk, _, hm⟩ := n
  refine ⟨o, ho, fun name => ?_⟩
  have e := hm name
  unfold nsFind findBy at e
  rw [← Array.find?_toList] at e
  unfold PySem.W.lookIn
  rw [hd]
  dsimp only
  split
  · rename_i y q
    rw [q] at e
    exact congrArg some e
  · rename_i q
    rw [q] at e
    have a : es.toList.any (·.refKey) = false := by
      rw [List.any_eq_false]
      intro y hy
      obtain ⟨z, t, hkey⟩ := hk y (Array.mem_toList_iff.mp hy)
      simp [DictEntry.refKey, hkey]
    have a' : ¬ es.toList.any (·.refKey) = true := by rw [a]; exact Bool.false_ne_true
    rw [if_neg a']
    exact congrArg some e

theorem ObjM.look {h : Heap} {x dx C : Addr} {mA : Str → Option Value} (I : ObjM h x dx C mA) : ∃ od, PySem.W.InstAt h x (PySem.W.instObj C dx) C (some od) ∧ ∀ name, PySem.W.lookIn name od = some (mA name) :=
  let ⟨od, ho, hl⟩ := lookIn_ns I.ns
  ⟨od, ⟨I.obj, rfl, rfl, ho⟩, hl⟩

section
variable {prog : Program} {w : World} {A : Around} {E : Value → Shared → Prop} {s : Shared} {K : PySem.W.Frag} {x dx C f : Addr} {mA : Str → Option Value} {name : Str} {v : Value}

theorem set_map {ns : List Str} {Q : Unit → Shared → Prop} (X : K.In s.heap) (I : ObjM s.heap x dx C mA)
    (hs : PySem.W.findIn K (.ref C) "__setattr__" = some (some (.builtin "object.__setattr__"))) (hp : PySem.W.plainOver K C = true) (ht : PySem.W.takerIn K C name = some none) (hh : PySem.W.hasDictIn K C = true)
    (hw : PySem.Within mA ns) (hsz : ns.length ≤ sizeLine)
    (h : ∀ h', ObjM h' x dx C (fun y => if y = name then some v else mA y) → Heap.SameBut dx s.heap h' → Q () { s with heap := h', toks := s.toks + 2 }) :
    wpAny (model prog w) A (setAttr (.ref x) name v) Q E s := by
  obtain ⟨od, J, hl⟩ := I.look
  refine PySem.W.set_plain X J hs (PySem.W.osa_open (s := { s with toks := s.toks + 1 }) (r := none) X J hp ht fun b => ?_)
  obtain ⟨cd, hc, hd'⟩ := PySem.W.any_some hh
  have hx : s.heap.get? x = some ⟨.ref C, some dx, .plain, #[]⟩ := I.obj
  refine wpAny_bind (wpAny_pure (wpAny_bind (wpAny_bind (wpAny_loadPart hx (wpAny_bind (PySem.W.Looks.here (s := { s with toks := s.toks + 1 }) (PySem.W.looks_clsIn X hc) ?_))))))
  rw [hd']
  refine wpAny_pure (a := some dx) (wpAny_bind (wpAny_pure (wpAny_bind ?_)))
  refine wpAny_nsSet1 (s := { s with toks := s.toks + 1 }) I.ns fun h' hn2 hs2 => ?_
  obtain ⟨oD, esD, epD, hoD, hdD, hcD⟩ := hn2.count (PySem.Within.cons name v hw)
  refine wpAny_bind (wpAny_lookBehind hoD (by rw [hdD]; exact pastItsLine_dict (Nat.le_trans hcD (by rw [List.length_cons]; omega))) ?_)
  exact wpAny_pure (h _ ⟨(hs2.2 _ (Ne.symm I.ne)).trans I.obj, hn2, I.ne⟩ hs2)

end

section
variable {P : Program} {w : World} {H H' : Hp} {h h' : Heap} {a C dx : Addr} {fs fs' : List (Str × V)}
theorem ins_get (hok : HOk P w H h) (e : H a = some (.ins C dx fs)) : ∃ mA, ObjM h a dx C mA ∧ (∀ f, RelO (fs.lookup f) (mA f)) ∧ PySem.Within mA (fs.map (·.1)) ∧ fs.length ≤ 1000 ∧ H dx = some (.own a) := by
  obtain ⟨d, z, ne, ob, mA, n, r, q⟩ := (show ObjOk P w H h a (.ins C dx fs) from hok a _ e)
  exact ⟨mA, ⟨ob, n, ne⟩, r, q, z, d⟩
end

structure Cls (K : PySem.W.Frag) (C : Addr) : Prop where
  pg : PySem.W.plainGet K C Str.empty = true
  hd : PySem.W.hasDictIn K C = true
  po : PySem.W.plainOver K C = true
  sa : PySem.W.findIn K (.ref C) "__setattr__" = some (some (.builtin "object.__setattr__"))
theorem Cls.get {K : PySem.W.Frag} {C : Addr} (c : Cls K C) (f : Str) : PySem.W.plainGet K C f = true := c.pg
structure Con (K : PySem.W.Frag) (C : Addr) (f : Str) (v : V) (u : Value) : Prop where
  at_ : PySem.W.findIn K (.ref C) f = some (some u)
  rel : RelV v u
  get : PySem.W.specialIn K u "__get__" = some none
  cp : PySem.W.copiedNames.contains f = false
structure Meth (K : PySem.W.Frag) (C : Addr) (m : Str) (f : Addr) : Prop where
  at_ : PySem.W.findIn K (.ref C) m = some (some (.ref f))
  fn : PySem.W.isFn K (.ref f) = true
  kp : PySem.W.keepIn K (.ref f) = true

section
variable {X : Cx} {pins : List (Addr × Obj)} {σ : St} {H : Hp} {s : Shared} {a C dx : Addr} {fs : List (Str × V)} {f : Str} {v : V} {A : Around} {E : Value → Shared → Prop}

theorem Inv.made (I : Inv X pins σ H s) : Inv X pins σ (upd (upd H s.heap.objs.size (.own (s.heap.objs.size + 1))) (s.heap.objs.size + 1) (.ins C s.heap.objs.size []))
    { s with heap := (s.heap.push PySem.W.emptyDict).push (PySem.W.instObj C s.heap.objs.size) } := by
  have e1 : (s.heap.push PySem.W.emptyDict).get? s.heap.objs.size = some PySem.W.emptyDict := Heap.get?_push_size s.heap rfl
  have e2 : ((s.heap.push PySem.W.emptyDict).push (PySem.W.instObj C s.heap.objs.size)).get? (s.heap.objs.size + 1) = some (PySem.W.instObj C s.heap.objs.size) := by
    have := Heap.get?_push_size (s.heap.push PySem.W.emptyDict) (o := PySem.W.instObj C s.heap.objs.size) rfl
    rwa [Heap.size_push] at this
  have e3 : (s.heap.push PySem.W.emptyDict).Ns s.heap.objs.size (fun _ => none) := ⟨PySem.W.emptyDict, #[], _, e1, rfl, (fun e he => absurd he (by simp)), fun _ => rfl⟩
  have I1 := I.laid (a := s.heap.objs.size) (o := .own (s.heap.objs.size + 1)) (h' := s.heap.push PySem.W.emptyDict) (t' := s.toks) (fun b u q => Heap.get?_push_of_some _ q) (Nat.le_refl _) ⟨_, e1⟩
  refine I1.laid (a := s.heap.objs.size + 1) (o := .ins C s.heap.objs.size []) (t' := s.toks) (fun b u q => Heap.get?_push_of_some _ q) (Nat.le_of_eq (Heap.size_push _ _)) ?_
  have ne : s.heap.objs.size ≠ s.heap.objs.size + 1 := Nat.ne_of_lt (Nat.lt_succ_self _)
  refine ⟨by rw [upd_ne ne, upd_same], Nat.zero_le _, ne, e2, fun _ => none, (Heap.Ns1.of_empty e3).at fun o q => Heap.get?_push_of_some _ q, fun _ => True.intro, fun y hy => absurd rfl hy⟩

end

section
variable {X : Cx} {o e value : Expr} {f : Str} {pos pos' tpos : Pos} {ta tv : TE}
end

section
variable {X : Cx} {pins : List (Addr × Obj)} {σ : St} {H : Hp} {s : Shared} {A : Around} {E : Value → Shared → Prop} {Q : Value → Shared → Prop} {c : Value} {b : Bool}
inductive TyOf (K : PySem.W.Frag) (H : Hp) : V → Value → Prop where
  | non : TyOf K H .non (.type "NoneType")
  | bl (x : Bool) : TyOf K H (.bl x) (.type "bool")
  | int (i : Int) : TyOf K H (.int i) (.type "int")
  | str (x : Str) : TyOf K H (.str x) (.type "str")
  | flt (x : UInt64) : TyOf K H (.flt x) (.type "float")
  | lst {a : Addr} {xs : List V} (e : H a = some (.lst xs)) : TyOf K H (.ref a) (.type "list")
  | frz {a : Addr} {o : Obj} {xs : List V} (e : H a = some (.frz o (.lst xs))) : TyOf K H (.ref a) (.type "list")
  | tup {a : Addr} {xs : List V} (e : H a = some (.tup xs)) : TyOf K H (.ref a) (.type "tuple")
  | dK {a : Addr} {kvs : List (Key × V)} (e : H a = some (.dK kvs)) : TyOf K H (.ref a) (.type "dict")
  | dT {a : Addr} {kvs : List (List Key × V)} (e : H a = some (.dT kvs)) : TyOf K H (.ref a) (.type "dict")
  | ins {a C dx : Addr} {fs : List (Str × V)} (e : H a = some (.ins C dx fs)) (cl : Cls K C) (ha : PySem.W.findIn K (.ref C) "__class__" = some (some (.builtin "object.__class__")))
      (hn : PySem.W.specialIn K (.builtin "object.__class__") "__get__" = some (some (.builtin "getset_descriptor.__get__"))) (htk : PySem.W.takesIn K (.builtin "object.__class__") = some true)
      (hm : PySem.W.mroIn K C (.type "object") = some true) : TyOf K H (.ref a) (.ref C)
theorem isinst_ok {x : V} {u t : Value} (I : Inv X pins σ H s) (rx : RelV x u) (ty : TyOf X.K H x t) (e : PySem.W.kitOne X.K t c = some b) (h : ∀ tk, Q (.bool b) { s with toks := tk }) :
    wpAny (model X.prog X.w) A (call (.builtin "isinstance") [u, c]) Q E s := by
  cases ty with
  | non => cases (show u = Value.none from rx); exact PySem.W.kia_one PySem.W.kitx_none I.kIn True.intro e (fun z => nomatch z) h
  | bl y => cases (show u = Value.bool y from rx); exact PySem.W.kia_one PySem.W.kitx_bool I.kIn True.intro e (fun z => nomatch z) h
  | int i => obtain ⟨t, q⟩ := (show ∃ t, u = Value.int i t from rx); cases q; exact PySem.W.kia_one PySem.W.kitx_int I.kIn True.intro e (fun z => nomatch z) h
  | str y => obtain ⟨t, q⟩ := (show ∃ t, u = Value.str y t from rx); cases q; exact PySem.W.kia_one PySem.W.kitx_str I.kIn True.intro e (fun z => nomatch z) h
  | flt y => obtain ⟨t, q⟩ := (show ∃ t, u = Value.float y t from rx); cases q; exact PySem.W.kia_one PySem.W.kitx_float I.kIn True.intro e (fun z => nomatch z) h
  | @lst a xs ea =>
    cases (show u = Value.ref a from rx)
    obtain ⟨_, _, n, _, h1⟩ := (show ObjOk X.prog X.w H s.heap a (.lst xs) from I.hok a _ ea)
    exact PySem.W.kia_one PySem.W.kitx_list I.kIn ⟨_, h1, rfl⟩ e (fun z => nomatch z) h
  | @frz a ob xs ea =>
    cases (show u = Value.ref a from rx)
    obtain ⟨_, _, _, n, _, h1⟩ := (show ObjOk X.prog X.w H s.heap a (.frz ob (.lst xs)) from I.hok a _ ea)
    exact PySem.W.kia_one PySem.W.kitx_list I.kIn ⟨_, h1, rfl⟩ e (fun z => nomatch z) h
  | @tup a xs ea =>
    cases (show u = Value.ref a from rx)
    obtain ⟨_, _, _, p⟩ := (show ObjOk X.prog X.w H s.heap a (.tup xs) from I.hok a _ ea)
    obtain ⟨o, h1, h2, _⟩ := p
    exact PySem.W.kia_one PySem.W.kitx_tuple I.kIn ⟨o, h1, h2⟩ e (fun z => nomatch z) h
  | @dK a kvs ea =>
    cases (show u = Value.ref a from rx)
    obtain ⟨_, _, vs, _, p⟩ := (show ObjOk X.prog X.w H s.heap a (.dK kvs) from I.hok a _ ea)
    obtain ⟨o, es, ep, h1, h2, _⟩ := p
    exact PySem.W.kia_one PySem.W.kitx_dict I.kIn ⟨o, h1, h2.1⟩ e (fun z => nomatch z) h
  | @dT a kvs ea =>
    cases (show u = Value.ref a from rx)
    obtain ⟨_, _, xs, _, o, es, ep, h1, h2, _⟩ := (show ObjOk X.prog X.w H s.heap a (.dT kvs) from I.hok a _ ea)
    exact PySem.W.kia_one PySem.W.kitx_dict I.kIn ⟨o, h1, h2.1⟩ e (fun z => nomatch z) h
  | @ins a C dx fs ea cl ha hn htk hm =>
    cases (show u = Value.ref a from rx)
    obtain ⟨mA, O, _⟩ := ins_get I.hok ea
    obtain ⟨od, J, _⟩ := O.look
    exact PySem.W.kia_one (PySem.W.kitx_own (cl.get _) cl.hd ha hn htk hm) I.kIn J e (fun z => nomatch z) h
end
end L2

namespace L2
open PySem PySem.Spec PyProof.Rows

structure Room (k : Nat) (A : Around) : Prop where
  hd : A.handled = none
  dp : A.depth + 3 * k + 5 < recursionLimit
  un : A.units + 16 * k + 200 < cLine
  gd : A.guards = some []
theorem Room.mono {j k : Nat} {A : Around} (r : Room k A) (h : j ≤ k) : Room j A := ⟨r.hd, by have := r.dp; omega, by have := r.un; omega, r.gd⟩
theorem Room.deeper {k : Nat} {A : Around} (r : Room (k + 1) A) (env : Env) : Room k (A.deeper env) :=
  ⟨r.hd, by have := r.dp; show A.depth + 1 + 3 * k + 5 < _; omega, by have := r.un; show A.units + 3 + 16 * k + 200 < _; omega, r.gd⟩
theorem Room.in1 {k : Nat} {A : Around} (r : Room (k + 1) A) : Room k A.in1 :=
  ⟨r.hd, by have := r.dp; show A.depth + 3 * k + 5 < _; omega, by have := r.un; show A.units + 1 + 16 * k + 200 < _; omega, r.gd⟩
theorem Room.depth {k : Nat} {A : Around} (r : Room k A) : A.depth < recursionLimit := by have := r.dp; omega
theorem Room.units {k : Nat} {A : Around} (r : Room k A) : A.units + 64 < cLine := by have := r.un; omega
def tNil : TA := fun _ H Q => Q [] H
def tCons (ta : TE) (tr : TA) : TA := fun σ H Q => ta σ H fun x H1 => tr σ H1 fun xs H2 => Q (x :: xs) H2
section
variable {X : Cx} {e : Expr} {es : List Expr} {te : TE} {t : TA} {pos : Pos}
theorem pa_nil : PA X [] tNil := fun _ _ _ _ H Q I h => Calls.spliced_nil ⟨[], H, I, .nil, h⟩
theorem pa_cons (ha : PE X e te) (hr : PA X es t) (hs : starEach (e :: es) X.env = (false, eval e X.env) :: starEach es X.env := by rfl) : PA X (e :: es) (tCons te t) := by
  intro pos pins s σ H Q I h
  rw [hs]
  show wpAny _ _ (spliced ((false, eval e X.env) :: backTo pos (starEach es X.env))) _ _ s
  refine Calls.spliced_cons (thn (ha pins s σ H _ I h) fun u s1 ⟨x, H1, I1, r1, q1⟩ => ?_)
  exact thn (hr pos pins s1 σ H1 _ I1 q1) fun us s2 ⟨xs, H2, I2, r2, q2⟩ => ⟨x :: xs, H2, I2, .cons r1 r2, q2⟩

def tTup (t : TA) : TE := fun σ H Q => t σ H fun xs H1 => xs.length ≤ sizeLine ∧ ∀ p, H1 p = none → Q (.ref p) (upd H1 p (.tup xs))
def tLst (t : TA) : TE := fun σ H Q => t σ H fun xs H1 => xs.length ≤ sizeLine ∧ ∀ p, H1 p = none → Q (.ref p) (upd H1 p (.lst xs))
theorem pe_tup {x1} (h : PA X es t) : PE X (.Tuple es x1 pos) (tTup t) := by
  intro pins s σ H Q I hq
  refine wpAny_Tuple_spliced (thn (h pos pins s σ H _ I hq) fun us s1 ⟨xs, H1, I1, r, z, q⟩ => ⟨by rw [← r.length]; exact z, ?_⟩)
  have hf : H1 s1.heap.objs.size = none := I1.hok.fresh (Nat.le_refl _)
  refine ⟨.ref s1.heap.objs.size, upd H1 s1.heap.objs.size (.tup xs), I1.laid (t' := s1.toks) (fun b u e => Heap.get?_push_of_some _ e) (Nat.le_refl _) ?_, rfl, q _ hf⟩
  exact ⟨z, us, r, ⟨_, Heap.get?_push_size _ rfl, rfl, _, rfl⟩⟩
theorem pe_lst (h : PA X es t) : PE X (.List es pos) (tLst t) := by
  intro pins s σ H Q I hq
  refine wpAny_List_spliced (thn (h pos pins s σ H _ I hq) fun us s1 ⟨xs, H1, I1, r, z, q⟩ => ⟨by rw [← r.length]; exact z, ?_⟩)
  have hf : H1 s1.heap.objs.size = none := I1.hok.fresh (Nat.le_refl _)
  refine ⟨.ref s1.heap.objs.size, upd H1 s1.heap.objs.size (.lst xs), I1.laid (t' := s1.toks) (fun b u e => Heap.get?_push_of_some _ e) (Nat.le_refl _) ?_, rfl, q _ hf⟩
  exact ⟨z, us, 0, r, Heap.get?_push_size _ rfl⟩
end

abbrev Sp := List V → Hp → VK → XK → Prop
abbrev CXT := List Env → Hp → Shared → XK → Value → Shared → Prop

structure Env0 (P : Program) (w : World) (K : PySem.W.Frag) (mg : Str → Option Value) (base : Heap) (A : Around) (outer : List Env) (s : Shared) (H : Hp) : Prop where
  frames : A.frames = some outer
  mod : Mod K mg base
  bs : ∀ b o, base.get? b = some o → s.heap.get? b = some o ∧ H b = none
  bsz : base.objs.size ≤ s.heap.objs.size
  funs : s.heap.FunFrames base outer
  frf : ∀ b ∈ frs outer, H b = none
  hok : HOk P w H s.heap
  bare : AllBare s.gens
def CE (outer : List Env) (P : Program) (w : World) (H : Hp) (s : Shared) (Q : VK) (u : Value) (s' : Shared) : Prop :=
  ∃ v H', s'.os = s.os ∧ AllBare s'.gens ∧ Un (frs outer) [] H H' s.heap s'.heap ∧ HOk P w H' s'.heap ∧ RelV v u ∧ Q v H'
def CR (CX : CXT) (outer : List Env) (P : Program) (w : World) (H : Hp) (s : Shared) (Q : VK) (E : XK) (r : Result) (s' : Shared) : Prop :=
  match r with
  | .ok (.ret u) => CE outer P w H s Q u s'
  | .ok _ => False
  | .error e => CX outer H s E e s'
structure FnOk (P : Program) (w : World) (K : PySem.W.Frag) (mg : Str → Option Value) (base : Heap) (CX : CXT) (k : Nat) (f : Addr) (fd : FuncData) (ps : List Str) (sp : Sp) : Prop where
  len : ∀ vs H Q E, sp vs H Q E → vs.length = ps.length
  run : ∀ (A : Around) (outer : List Env) (s : Shared) (H : Hp) (args : Args) (us : List Value) (vs : List V) (Q : VK) (E : XK), Room k A → Env0 P w K mg base A outer s H → BindsTo s fd args (ps.zip us) → Vals vs us → sp vs H Q E →
    codeAny (model P w) A (.call (.ref f) args) (CR CX outer P w H s Q E) s
theorem FnOk.mono {P : Program} {w : World} {K : PySem.W.Frag} {mg : Str → Option Value} {base : Heap} {CX : CXT} {j k : Nat} {f : Addr} {fd : FuncData} {ps : List Str} {sp : Sp} (F : FnOk P w K mg base CX j f fd ps sp) (h : j ≤ k) :
    FnOk P w K mg base CX k f fd ps sp := ⟨F.len, fun A outer s H args us vs Q E hr => F.run A outer s H args us vs Q E (hr.mono h)⟩
theorem FnOk.imp {P : Program} {w : World} {K : PySem.W.Frag} {mg : Str → Option Value} {base : Heap} {CX : CXT} {k : Nat} {f : Addr} {fd : FuncData} {ps : List Str} {sp sp' : Sp} (F : FnOk P w K mg base CX k f fd ps sp)
    (h : ∀ vs H Q E, sp' vs H Q E → sp vs H Q E) : FnOk P w K mg base CX k f fd ps sp' :=
  ⟨fun vs H Q E q => F.len vs H Q E (h _ _ _ _ q), fun A outer s H args us vs Q E hr he hb hv hs => F.run A outer s H args us vs Q E hr he hb hv (h _ _ _ _ hs)⟩

theorem Env0.in1 {P : Program} {w : World} {K : PySem.W.Frag} {mg : Str → Option Value} {base : Heap} {A : Around} {outer : List Env} {s : Shared} {H : Hp} (e : Env0 P w K mg base A outer s H) :
    Env0 P w K mg base A.in1 outer s H := ⟨e.frames, e.mod, e.bs, e.bsz, e.funs, e.frf, e.hok, e.bare⟩

section
variable {X : Cx} {pins : List (Addr × Obj)} {σ : St} {H : Hp} {s s' : Shared}
theorem Inv.env0 (I : Inv X pins σ H s) : Env0 X.prog X.w X.K X.mg X.base X.A X.stack s H :=
  ⟨I.ok.frames, I.ok.mod, I.bs, Nat.le_trans I.ok.bsz I.sz, I.stack, I.stkFree, I.hok, I.bare⟩
theorem Inv.after {Q : VK} {u : Value} (I : Inv X pins σ H s) (h : CE X.stack X.prog X.w H s Q u s') : EP X pins σ Q u s' := by
  obtain ⟨v, H', os, bare, un, hok, r, q⟩ := h
  obtain ⟨hh, g, d, t, os'⟩ := s'
  obtain rfl : os' = s.os := os
  exact ⟨v, H', I.call (h' := hh) (g' := g) (d' := d) (t' := t) (ch := []) un hok bare (fun b z => absurd z (by simp)), r, q⟩
end

def tCall (sp : Sp) (dvs : List V) (E : XK) (t : TA) : TE := fun σ H Q => t σ H fun vs H1 => sp (vs ++ dvs) H1 Q E
def Binds (K : PySem.W.Frag) (fd : FuncData) (ps : List Str) (ds : List Value) : Prop :=
  ∀ (s : Shared) (us : List Value), K.In s.heap → (us ++ ds).length = ps.length → BindsTo s fd ⟨us, []⟩ (ps.zip (us ++ ds))
theorem Binds.all {K : PySem.W.Frag} {fd : FuncData} {ps : List Str} (h : ∀ us : List Value, us.length = ps.length → bindArgs fd ⟨us, []⟩ = pure (ps.zip us)) : Binds K fd ps [] := fun s us _ hl => by
  rw [List.append_nil] at hl ⊢
  exact .of_eq (h us hl)

def Passes (CX : CXT) (X : Cx) (E : XK) : Prop := ∀ (pins : List (Addr × Obj)) (σ : St) (H : Hp) (s : Shared) (e : Value) (s' : Shared), Inv X pins σ H s → CX X.stack H s E e s' → X.xe e s'

section
variable {X : Cx} {CX : CXT} {k : Nat} {f C : Addr} {fd : FuncData} {ps : List Str} {sp : Sp} {dvs : List V} {ds : List Value} {E : XK} {x m : Str} {p pos apos : Pos} {e o : Expr} {es : List Expr} {ta : TE} {t : TA}

theorem run_fn {pins : List (Addr × Obj)} {σ : St} {H : Hp} {s : Shared} {Q : VK} {us : List Value} {vs : List V} (F : FnOk X.prog X.w X.K X.mg X.base CX k f fd ps sp) (hr : Room k X.A) (hb : Binds X.K fd ps ds) (hd : Vals dvs ds) (hx : Passes CX X E)
    (I : Inv X pins σ H s) (r : Vals vs us) (h : sp (vs ++ dvs) H Q E) : wpAny (model X.prog X.w) X.A (call (.ref f) us) (EP X pins σ Q) X.xe s := by
  have r2 : Vals (vs ++ dvs) (us ++ ds) := r.append hd
  have hl : (us ++ ds).length = ps.length := by rw [← r2.length]; exact F.len _ _ _ _ h
  refine wpAny_call (codeAny_mono (F.run X.A X.stack s H ⟨us, []⟩ (us ++ ds) (vs ++ dvs) Q E hr I.env0 (hb s us I.kIn hl) r2 h) fun r s' hq => ?_)
  cases r with
  | error e => exact hx pins σ H s e s' I hq
  | ok fl =>
    cases fl with
    | ret u => exact I.after hq
    | next => exact False.elim hq
    | brk => exact False.elim hq
    | cont => exact False.elim hq

theorem pe_call (F : FnOk X.prog X.w X.K X.mg X.base CX k f fd ps sp) (hr : Room k X.A) (hg : Gl X x) (hm : X.mg x = some (.ref f)) (hk : PySem.W.keepIn X.K (.ref f) = true) (hb : Binds X.K fd ps ds) (hd : Vals dvs ds) (hx : Passes CX X E)
    (ha : PA X (e :: es) t) (hdb : (x == ("__debug__" : Str)) = false := by decide) (he : starEach (e :: es) X.env = (false, eval e X.env) :: starEach es X.env := by rfl) (hpl : (backTo pos (starEach es X.env)).any (·.1) = false := by rfl) :
    PE X (.Call (.Name x p) (e :: es) [] pos) (tCall sp dvs E t) := by
  intro pins s σ H Q I h
  refine wpAny_Call_Name_kw (ld_glob I hg hm ?_ hdb)
  refine PySem.W.callWith_K (h₀ := X.base) I.ok.mod.kin hk (thn (ha pos pins s σ H _ I h) fun us s1 ⟨vs, H1, I1, r, q⟩ => ⟨I1.kIn, ?_⟩) he hpl
  exact run_fn F hr hb hd hx I1 r q
structure Mk (K : PySem.W.Frag) (C f : Addr) : Prop where
  makes : PySem.W.makesIn K C = true
  init : PySem.W.findIn K (.ref C) "__init__" = some (some (.ref f))
  fn : PySem.W.isFn K (.ref f) = true
  kp : PySem.W.keepIn K (.ref C) = true

end

def PK (X : Cx) (kws : List Keyword) (t : TA) : Prop :=
  ∀ (pos : Pos) (pins : List (Addr × Obj)) (s : Shared) (σ : St) (H : Hp) (Q : List V → Hp → Prop), Inv X pins σ H s → t σ H Q → wpAny (model X.prog X.w) X.A (evalAll ((backToKw pos (keywordEach kws X.env)).map (·.2))) (AP X pins σ Q) X.xe s
section
variable {X : Cx} {CX : CXT} {k : Nat} {f C : Addr} {fd : FuncData} {ps ks : List Str} {sp : Sp} {E : XK} {x m : Str} {p pos apos kpos : Pos} {e o : Expr} {es : List Expr} {kws : List Keyword} {te ta : TE} {t tk : TA} {nm : Option Str}
structure KBinds (K : PySem.W.Frag) (fd : FuncData) (ps ks : List Str) (g : List Value → List Value → List Value) (gV : List V → List V → List V) : Prop where
  to : ∀ (s : Shared) (us ws : List Value), K.In s.heap → (g us ws).length = ps.length → BindsTo s fd ⟨us, ks.zip ws⟩ (ps.zip (g us ws))
  rel : ∀ {vs : List V} {us : List Value} {zs : List V} {ws : List Value}, Vals vs us → Vals zs ws → Vals (gV vs zs) (g us ws)
variable {g : List Value → List Value → List Value} {gV : List V → List V → List V}
end

structure FnScope (N P : List Str) (sc : Scope) : Prop where
  kind : sc.kind = .function
  co : sc.isCoroutine = false
  gen : sc.isGenerator = false
  nd : N.Nodup
  pre : N.take P.length = P
  par : ∀ x ∈ P, sc.names.lookup x = some .local ∨ sc.names.lookup x = some .cell
  nofree : ∀ y ∈ sc.names, y.2 ≠ .free

theorem bindL_out {kindOf : Str → Option NameKind} {x : Str} : ∀ {binds : List (Str × Value)} {m : Str → Option Value}, (∀ v, (x, v) ∉ binds) → bindL kindOf binds m x = m x
  | [], _, _ => rfl
  | (n, v) :: r, m, h => by
    unfold bindL
    rw [bindL_out fun w hw => h w (List.mem_cons_of_mem _ hw)]
    split
    · have : x ≠ n := by rintro rfl; exact h v List.mem_cons_self
      simp [this]
    · rfl
theorem bindC_out {kindOf : Str → Option NameKind} {x : Str} : ∀ {binds : List (Str × Value)} {m : Str → Option Value}, (∀ v, (x, v) ∉ binds) → bindC kindOf binds m x = m x
  | [], _, _ => rfl
  | (n, v) :: r, m, h => by
    unfold bindC
    rw [bindC_out fun w hw => h w (List.mem_cons_of_mem _ hw)]
    split
    · rfl
    · have : x ≠ n := by rintro rfl; exact h v List.mem_cons_self
      simp [this]
theorem bindL_get {kindOf : Str → Option NameKind} {x : Str} {v : Value} : ∀ {P : List Str} {vs : List Value} {i : Nat} {m : Str → Option Value}, P.Nodup → P[i]? = some x → vs[i]? = some v → kindOf x = some .local →
    bindL kindOf (P.zip vs) m x = some v
  | [], _, _, _, _, h, _, _ => by simp at h
  | _ :: _, [], _, _, _, _, h, _ => by simp at h
  | p :: P, w :: vs, 0, m, nd, h1, h2, hk => by
    simp at h1 h2; subst h1; subst h2
    show bindL kindOf ((p, w) :: P.zip vs) m p = _
    unfold bindL
    rw [bindL_out fun v hv => (List.nodup_cons.mp nd).1 (List.of_mem_zip hv).1, if_pos hk]
    simp
  | p :: P, w :: vs, i + 1, m, nd, h1, h2, hk => by
    show bindL kindOf ((p, w) :: P.zip vs) m x = _
    unfold bindL
    exact bindL_get (i := i) (List.nodup_cons.mp nd).2 (by simpa using h1) (by simpa using h2) hk
theorem bindC_get {kindOf : Str → Option NameKind} {x : Str} {v : Value} : ∀ {P : List Str} {vs : List Value} {i : Nat} {m : Str → Option Value}, P.Nodup → P[i]? = some x → vs[i]? = some v → kindOf x ≠ some .local →
    bindC kindOf (P.zip vs) m x = some v
  | [], _, _, _, _, h, _, _ => by simp at h
  | _ :: _, [], _, _, _, _, h, _ => by simp at h
  | p :: P, w :: vs, 0, m, nd, h1, h2, hk => by
    simp at h1 h2; subst h1; subst h2
    show bindC kindOf ((p, w) :: P.zip vs) m p = _
    unfold bindC
    rw [bindC_out fun v hv => (List.nodup_cons.mp nd).1 (List.of_mem_zip hv).1, if_neg hk]
    simp
  | p :: P, w :: vs, i + 1, m, nd, h1, h2, hk => by
    show bindC kindOf ((p, w) :: P.zip vs) m x = _
    unfold bindC
    exact bindC_get (i := i) (List.nodup_cons.mp nd).2 (by simpa using h1) (by simpa using h2) hk

def start (N : List Str) (vs : List V) : St := vs.map some ++ List.replicate (N.length - vs.length) none

def cxOf (CX : CXT) (P : Program) (w : World) (K : PySem.W.Frag) (mg : Str → Option Value) (base : Heap) (N : List Str) (qual : Str) (scope : Scope) (f : Addr) (cd : Value) (A : Around) (outer : List Env) (s : Shared) (H : Hp) (E : XK) : Cx where
  prog := P
  w := w
  K := K
  mg := mg
  base := base
  A := A.deeper (envOfC qual scope s.heap.objs.size f cd)
  N := N
  s_0 := s
  H_0 := H
  env := envOfC qual scope s.heap.objs.size f cd
  outer := outer
  stack := envOfC qual scope s.heap.objs.size f cd :: outer
  ex := []
  calm := true
  fn := fun _ => true
  pn := []
  xe := fun e s' => wpAny (model P w) (A.deeper (envOfC qual scope s.heap.objs.size f cd)) (leaving (envOfC qual scope s.heap.objs.size f cd) e) (fun _ s'' => CX outer H s E e s'') (fun e' s'' => CX outer H s E e' s'') s'

theorem cell_has {sc : Scope} {n : Nat} {x : Str} (h : sc.names.lookup x = some .cell) : ∃ c, (cellsFrom n sc.names []).lookup x = some c := by
  have q := PySem.W.cellsFrom_some sc.names n [] (.inl h)
  exact Option.isSome_iff_exists.mp q

theorem inv_start {CX : CXT} {P : Program} {w : World} {K : PySem.W.Frag} {mg : Str → Option Value} {base : Heap} {N ps : List Str} {qual : Str} {scope : Scope} {f : Addr} {cd : Value} {A : Around} {outer : List Env} {s s1 : Shared} {H : Hp} {E : XK} {us : List Value} {vs : List V}
    (S : FnScope N ps scope) (hd : A.handled = none) (e0 : Env0 P w K mg base A outer s H) (hl : vs.length = ps.length) (r : Vals vs us)
    (x : InCallC s s.heap.objs.size (bindL (envOfC qual scope s.heap.objs.size f cd).kindOf (ps.zip us) fun _ => none) (cellsFrom (s.heap.objs.size + 1) scope.names []) (bindC (envOfC qual scope s.heap.objs.size f cd).kindOf (ps.zip us) fun _ => none) s1) :
    Inv (cxOf CX P w K mg base N qual scope f cd A outer s H E) [] (start N vs) H s1 := by
  have hpl : ps.length ≤ N.length := by have := congrArg List.length S.pre; rw [List.length_take] at this; omega
  obtain ⟨h1, tk, rfl, hk⟩ := x.done
  have noA : ∀ b : Addr, b ∉ (cxOf CX P w K mg base N qual scope f cd A outer s H E).ex := fun b z => absurd (show b ∈ ([] : List Addr) from z) (by simp)
  refine ⟨⟨e0.mod, S.kind, rfl, rfl, Nat.le_refl _, fun y z c h1 h2 => ?_, fun y hy => ?_, fun y c _ h => ?_, fun _ => hd, Around.frames_deeper e0.frames, .inr ⟨rfl, rfl⟩, fun b z => absurd z (noA b), e0.bs, e0.bsz, fun b _ _ => noA b, fun b z => absurd z (noA b), e0.funs, e0.frf⟩,
    rfl, e0.bare, Un.kept hk, ⟨_, x.toInCall.ns, fun i y v h1 h2 h3 => ?_⟩, fun y c h => ⟨_, x.cell y c h⟩, e0.hok.fresh (Nat.le_refl _), fun y c h => ?_, fun p hp => absurd (show p ∈ ([] : List (Addr × Obj)) from hp) (by simp), e0.hok.kept hk, ?_⟩
  · exact name_of_addr x.apart (PySem.mem_of_lookup h1) (PySem.mem_of_lookup h2)
  · have hy : scope.names.lookup y = some .cell ∨ scope.names.lookup y = some .free := hy
    rcases hy with hy | hy
    · exact cell_has hy
    · exact absurd rfl (S.nofree _ (PySem.mem_of_lookup hy))
  · exact Nat.le_of_lt (x.above y c (PySem.mem_of_lookup h))
  · have hi : i < vs.length := by
      unfold start at h2
      by_cases hi : i < vs.length
      · exact hi
      · rw [List.getElem?_append_right (by simpa using hi)] at h2
        rw [List.getElem?_replicate] at h2
        split at h2 <;> cases h2
    have ha : vs[i]? = some v := by
      unfold start at h2
      rw [List.getElem?_append_left (by simpa using hi), List.getElem?_map] at h2
      cases e : vs[i]? with
      | none => rw [e] at h2; cases h2
      | some a => rw [e] at h2; cases h2; rfl
    obtain ⟨u, hu, rv⟩ := r.get ha
    have hp : ps[i]? = some y := by
      rw [← S.pre, List.getElem?_take_of_lt (by omega)]; exact h1
    have ndP : ps.Nodup := by rw [← S.pre]; exact S.nd.sublist (List.take_sublist _ _)
    refine ⟨u, rv, ?_⟩
    rcases S.par y (List.mem_of_getElem? hp) with k | k
    · exact .inl ⟨k, bindL_get ndP hp hu k⟩
    · obtain ⟨c, e⟩ := cell_has (n := s.heap.objs.size + 1) k
      refine .inr ⟨.inl k, c, e, ?_⟩
      have q := x.cell y c e
      rw [bindC_get ndP hp hu (by show scope.names.lookup y ≠ _; rw [k]; decide)] at q
      exact q
  · exact e0.hok.fresh (Nat.le_of_lt (x.above y c (PySem.mem_of_lookup h)))
  · unfold start
    show _ = N.length
    rw [List.length_append, List.length_map, List.length_replicate]
    omega

theorem fn_of {CX : CXT} {P : Program} {w : World} {K : PySem.W.Frag} {mg : Str → Option Value} {base : Heap} {k : Nat} {f : Addr} {name qual : Str} {params : Arguments} {body : List Stmt} {scope : Scope} {dV kV doc pm cdv ct oc : Value} {an od : Option Addr}
    {osl : Array (Option Value)} {N ps : List Str} {sp : Sp} (lk : K.lookup f = some ⟨oc, od, .func (PySem.W.fnOf name qual params body scope dV kV doc pm an cdv ct), osl⟩) (hcd : PySem.W.codeIn K cdv qual = true) (S : FnScope N ps scope)
    (len : ∀ vs H Q E, sp vs H Q E → vs.length = ps.length)
    (hbody : ∀ (A : Around) (outer : List Env) (s : Shared) (H : Hp) (vs : List V) (Q : VK) (E : XK), Room k (A.deeper (envOfC qual scope s.heap.objs.size f cdv)) → sp vs H Q E →
      ∃ t, PSs (cxOf CX P w K mg base N qual scope f cdv A outer s H E) body t ∧ t { nx := fun _ H' => Q .non H', rt := Q } (start N vs) H) :
    FnOk P w K mg base CX (k + 1) f (PySem.W.fnOf name qual params body scope dV kV doc pm an cdv ct) ps sp := by
  refine ⟨len, fun A outer s H args us vs Q E hr e0 hb r hsp => ?_⟩
  have hl := len _ _ _ _ hsp
  have KX : K.In s.heap := e0.mod.kin.keeps fun b o e => (e0.bs b o e).1
  have lim : s.heap.NoLimit := e0.mod.nolimit.keeps fun b o e => (e0.bs b o e).1
  have hkind : ∀ y ∈ ps.zip us, scope.names.lookup y.1 = some .local ∨ (scope.names.lookup y.1 = some .cell ∧ ((cellsFrom (s.heap.objs.size + 1) scope.names []).lookup y.1).isSome = true) := fun ⟨n, v⟩ hy => by
    rcases S.par n (List.of_mem_zip hy).1 with q | q
    · exact .inl q
    · exact .inr ⟨q, PySem.W.cellsFrom_some _ _ _ (.inl q)⟩
  refine codeAny_call_function hr.depth (KX _ _ lk) rfl S.co S.gen rfl (PySem.W.codeRec_of KX hcd) (hb _ _ _ _ ?_)
  refine wpAny_newFunctionEnv_cells S.kind hkind fun env he s1 x => ?_
  subst he
  refine ⟨lim.keeps x.toInCall.keep, codeAny_func ?_⟩
  obtain ⟨t, ht, hq⟩ := hbody A outer s H vs Q E (hr.deeper _) hsp
  have I : Inv (cxOf CX P w K mg base N qual scope f cdv A outer s H E) [] (start N vs) H s1 := inv_start S hr.hd e0 hl r x
  refine wpAny_mono (ht [] s1 (start N vs) H _ I hq) (fun fl s' hs => ?_) fun e s' hs => hs
  have fin : ∀ {σ' : St} {H' : Hp} {v : V} {u : Value}, Inv (cxOf CX P w K mg base N qual scope f cdv A outer s H E) [] σ' H' s' → RelV v u → Q v H' → CE outer P w H s Q u s' :=
    fun {σ' H' v u} J rv q => ⟨v, H', J.os, J.bare, J.base, J.hok, rv, q⟩
  cases fl with
  | ret u =>
    obtain ⟨v, σ', H', J, rv, q⟩ := hs
    exact fin J rv q
  | next =>
    obtain ⟨σ', H', J, q⟩ := hs
    exact fin (v := V.non) (u := Value.none) J rfl q
  | brk =>
    obtain ⟨_, _, _, q⟩ := hs
    exact False.elim q
  | cont =>
    obtain ⟨_, _, _, q⟩ := hs
    exact False.elim q
end L2

namespace L2
open PySem PySem.Spec PyProof.Rows
section
variable {X : Cx} {x : Str} {p pos : Pos} {e : Expr} {es : List Expr} {t : TA} {id T : String} {r : List V → Hp → VK → Prop}

def tCB (r : List V → Hp → VK → Prop) (t : TA) : TE := fun σ H Q => t σ H fun vs H1 => r vs H1 Q
theorem pe_callB (hc : CallR X (.builtin id) r) (hg : Gl X x) (hm : X.mg x = none) (hv : bootBuiltins x = some (.builtin id)) (ha : PA X (e :: es) t) (hn : x ≠ "__name__" := by decide) (hdb : (x == ("__debug__" : Str)) = false := by decide)
    (he : starEach (e :: es) X.env = (false, eval e X.env) :: starEach es X.env := by rfl) (hpl : (backTo pos (starEach es X.env)).any (·.1) = false := by rfl) : PE X (.Call (.Name x p) (e :: es) [] pos) (tCB r t) := by
  intro pins s σ H Q I h
  refine wpAny_Call_Name_kw (ld_blt I hg hm hv ?_ hn hdb)
  exact PyProof.Rows.callWith_builtin1 (thn (ha pos pins s σ H _ I h) fun us s1 ⟨vs, H1, I1, r1, q1⟩ => hc pins s1 σ H1 vs us Q I1 r1 q1) he hpl
theorem pe_callTy (hc : CallR X (.type T) r) (hg : Gl X x) (hm : X.mg x = none) (hv : bootBuiltins x = some (.type T)) (ha : PA X (e :: es) t) (hn : x ≠ "__name__" := by decide) (hdb : (x == ("__debug__" : Str)) = false := by decide)
    (he : starEach (e :: es) X.env = (false, eval e X.env) :: starEach es X.env := by rfl) (hpl : (backTo pos (starEach es X.env)).any (·.1) = false := by rfl) : PE X (.Call (.Name x p) (e :: es) [] pos) (tCB r t) := by
  intro pins s σ H Q I h
  refine wpAny_Call_Name_kw (ld_blt I hg hm hv ?_ hn hdb)
  exact PyProof.Rows.callWith_type1 (thn (ha pos pins s σ H _ I h) fun us s1 ⟨vs, H1, I1, r1, q1⟩ => hc pins s1 σ H1 vs us Q I1 r1 q1) he hpl
end
end L2

namespace HT
open PySem PyProof.Rows

def lexLt : List Int → List Int → Bool
  | [], [] => false
  | [], _ :: _ => true
  | _ :: _, [] => false
  | x :: xs, y :: ys => if x = y then lexLt xs ys else decide (x < y)
section
open PySem.SeqAt
open PySem.AutoSeq1 (wpAny_loadPart')
open PySem.MeetsSeq PySem.MeetsSeq2 PySem.MeetsSeq3

end

section
variable {prog : Program} {w : World} {A : Around} {E : Value → Shared → Prop} {s : Shared}

theorem cat_tup {t b : Addr} {vs ws : List Value} {Q : Value → Shared → Prop} (ht : IsTup s.heap t vs.toArray) (hb : IsTup s.heap b ws.toArray) (hv : vs ≠ [])
    (h1 : ws = [] → Q (.ref t) s) (h2 : ws ≠ [] → Q (.ref s.heap.objs.size) { s with heap := s.heap.push { cls := .type "tuple", data := .seq (vs ++ ws).toArray } })
    (hsz : vs.length + ws.length ≤ sizeLine) : wpAny (model prog w) A (binaryOp .Add (.ref t) (.ref b)) Q E s := by
  obtain ⟨⟨cls, dd, data, sl⟩, ho, hc, n, hd⟩ := id ht
  obtain ⟨⟨cls2, dd2, data2, sl2⟩, ho2, hc2, n2, hd2⟩ := id hb
  simp only at hc hd hc2 hd2
  subst hc hd hc2 hd2
  have e : vs.toArray ++ ws.toArray = (vs ++ ws).toArray := by simp
  by_cases hw : ws = []
  · exact concat_meets ⟨_, ho, rfl⟩ ⟨_, ho2, rfl⟩ noFill_tuple_add seq_tuple_add PySem.F.slot_tuple_add PySem.F.entry_tuple_add (PySem.F.args_tuple_add_2 _ _)
      (tuple_addW1 t b vs.toArray ws.toArray n n2 dd dd2 sl sl2 (by simpa using hv) (by simp [hw])) ⟨ho, ho2, h1 hw⟩
  · refine concat_meets ⟨_, ho, rfl⟩ ⟨_, ho2, rfl⟩ noFill_tuple_add seq_tuple_add PySem.F.slot_tuple_add PySem.F.entry_tuple_add (PySem.F.args_tuple_add_2 _ _)
      (tuple_addW2 t b vs.toArray ws.toArray n n2 dd dd2 sl sl2 (by simpa using hv) (by simpa using hw) (by rw [List.size_toArray, List.size_toArray]; exact hsz)) ⟨ho, ho2, ?_⟩
    rw [e]
    exact h2 hw

def sIx (n d : Nat) : Option Int → Nat
  | none => d
  | some v => if v < 0 then (v + (n : Int)).toNat else min v.toNat n
theorem sIx_none (n d : Nat) : sIx n d none = d := rfl
theorem sIx_nat (n d k : Nat) : sIx n d (some (k : Int)) = min k n := by
  show (if (k : Int) < 0 then ((k : Int) + (n : Int)).toNat else min (k : Int).toNat n) = min k n
  rw [if_neg (by omega), Int.toNat_natCast]
theorem sIx_le (n d : Nat) (hd : d ≤ n) (o : Option Int) : sIx n d o ≤ n := by
  cases o with
  | none => exact hd
  | some v =>
    show (if v < 0 then (v + (n : Int)).toNat else min v.toNat n) ≤ n
    by_cases hv : v < 0
    · rw [if_pos hv]; omega
    · rw [if_neg hv]; exact Nat.min_le_right _ _
theorem clip_eq (v : Int) (n d : Nat) : (if v < 0 then max (v + (n : Int)) 0 else min v (n : Int)) = ((sIx n d (some v) : Nat) : Int) := by
  show (if v < 0 then max (v + (n : Int)) 0 else min v (n : Int)) = (((if v < 0 then (v + (n : Int)).toNat else min v.toNat n) : Nat) : Int)
  by_cases hv : v < 0
  · simp only [if_pos hv]; omega
  · simp only [if_neg hv]; omega
theorem adjust_gen (lo hi : Option Int) (n : Nat) : Builtin.Slice.sliceAdjust lo hi 1 (n : Int) = (((sIx n 0 lo : Nat) : Int), ((sIx n n hi : Nat) : Int)) := by
  have h1 : ¬ ((1 : Int) < 0) := by omega
  unfold Builtin.Slice.sliceAdjust
  simp only [h1, if_false]
  refine Prod.ext ?_ ?_
  · cases lo with
    | none => rfl
    | some v => exact clip_eq v n 0
  · cases hi with
    | none => rfl
    | some v => exact clip_eq v n n
theorem places_gen (i j : Nat) : Builtin.Slice.slicePlaces (i : Int) (j : Int) 1 = j - i := by
  unfold Builtin.Slice.slicePlaces
  have h1 : (1 : Int) > 0 := by omega
  simp only [h1, if_true, Int.ediv_one]
  split <;> omega
theorem slicePart_ {v : Value} {o : Option Int} {Q : Option Int → Shared → Prop} (p : IsPart v o) (h : Q o s) : wpAny (model prog w) A (Builtin.Slice.slicePartIndex v) Q E s := by
  cases p with
  | none => exact slicePart_none h
  | int i t => exact slicePart_int h
theorem sliceApplied_gen {sl : Addr} {vl vu : Value} {lo hi : Option Int} {n : Nat} {Q : Int × Int × Nat → Shared → Prop} (hs : s.heap.IsSliceOf sl vl vu .none) (pl : IsPart vl lo) (pu : IsPart vu hi)
    (h : Q (((sIx n 0 lo : Nat) : Int), 1, sIx n n hi - sIx n 0 lo) s) : wpAny (model prog w) A (Builtin.Slice.sliceApplied (.ref sl) (pure (n : Int))) Q E s := by
  obtain ⟨os, hos, hcs, hds⟩ := id hs
  unfold Builtin.Slice.sliceApplied Builtin.Slice.sliceFields
  refine wpAny_bind (wpAny_bind (wpAny_field hos hds (x := vl) rfl (wpAny_bind (wpAny_field hos hds (x := vu) rfl (wpAny_bind (wpAny_field hos hds (x := .none) rfl (wpAny_pure ?_)))))))
  refine wpAny_bind (slicePart_none ?_)
  show wpAny _ _ (if ((1 : Int) == 0) = true then _ else _) _ _ s
  rw [if_neg (by decide)]
  refine wpAny_bind (slicePart_ pl (wpAny_bind (slicePart_ pu (wpAny_bind (wpAny_pure ?_)))))
  show wpAny _ _ (match Builtin.Slice.sliceAdjust lo hi 1 (n : Int) with | (lo, hi) => pure (lo, (1 : Int), Builtin.Slice.slicePlaces lo hi 1)) _ _ s
  rw [adjust_gen lo hi n]
  show wpAny _ _ (pure (((sIx n 0 lo : Nat) : Int), (1 : Int), Builtin.Slice.slicePlaces ((sIx n 0 lo : Nat) : Int) ((sIx n n hi : Nat) : Int) 1)) _ _ s
  rw [places_gen]
  exact wpAny_pure h
theorem pick_gen (xs : Array Value) (i k : Nat) : ((List.range k).filterMap fun (m : Nat) => xs[((i : Int) + (m : Int) * 1).toNat]?).toArray = ((xs.toList.drop i).take k).toArray := by
  have e : (fun (m : Nat) => xs[((i : Int) + (m : Int) * 1).toNat]?) = fun m => xs[i + m]? := by
    funext m
    have : ((i : Int) + (m : Int) * 1).toNat = i + m := by omega
    rw [this]
  rw [e]
  have := pick_run xs i k
  rw [List.filterMap_map] at this
  have e2 : ((fun x => xs[x]?) ∘ fun x => i + x) = fun m => xs[i + m]? := rfl
  rw [e2] at this
  rw [this]

theorem getItem_tuple_cut {t sl : Addr} {items : Array Value} {vl vu : Value} {lo hi : Option Int} {Q : Value → Shared → Prop} (ht : IsTup s.heap t items) (hs : s.heap.IsSliceOf sl vl vu .none) (pl : IsPart vl lo) (pu : IsPart vu hi)
    (hw : ¬ (sIx items.size 0 lo = 0 ∧ sIx items.size items.size hi = items.size))
    (h : Q (.ref s.heap.objs.size) { s with heap := s.heap.push { cls := .type "tuple", data := .seq ((items.toList.drop (sIx items.size 0 lo)).take (sIx items.size items.size hi - sIx items.size 0 lo)).toArray } })
    (hsz : items.size ≤ sizeLine) : wpAny (model prog w) A (getItem (.ref t) (.ref sl)) Q E s := by
  have htake : sizeOk (.seq ((items.toList.drop (sIx items.size 0 lo)).take (sIx items.size items.size hi - sIx items.size 0 lo)).toArray) := by
    show ((items.toList.drop (sIx items.size 0 lo)).take (sIx items.size items.size hi - sIx items.size 0 lo)).toArray.size ≤ sizeLine
    rw [List.size_toArray, List.length_take, List.length_drop, Array.length_toList]
    omega
  have hj : sIx items.size items.size hi ≤ items.size := sIx_le _ _ (Nat.le_refl _) hi
  obtain ⟨os, hos, hcs, hds⟩ := id hs
  have hTs : s.TypeIs (.ref sl) "slice" := ⟨os, hos, hcs⟩
  unfold getItem
  try with_reducible refine wpAny_holding ?_
  first | refine wpAny_bind (wpAny_pure ?_) | skip
  refine wpAny_bind (wpAny_sequenceKey ht.typeIs (by decide) ?_)
  refine wpAny_bind (wpAny_callSpecial?_slot (name := Str.ofString "__getitem__") ht.typeIs PyProof.Rows.slot_tuple_getitem
    (wpAny_call_entry PyProof.Rows.slot_tuple_getitem ht.typeIs entry_tuple_getitem ?_ (args_tuple_getitem _ _)))
  show wpAny _ _ (Builtin.Tuple.tupleItemsOf (.ref t) >>= _) _ _ s
  refine wpAny_bind (tupleItemsOf_ ht ?_)
  refine wpAny_bind (wpAny_typeOf hTs ?_)
  rw [if_pos (by decide)]
  refine wpAny_bind (sliceApplied_gen hs pl pu ?_)
  have hno : ¬ ((((sIx items.size 0 lo : Nat) : Int) == 0 && (1 : Int) == 1 && (sIx items.size items.size hi - sIx items.size 0 lo) == items.size) = true) := by
    intro q
    rw [Bool.and_eq_true, Bool.and_eq_true] at q
    have q1 : ((sIx items.size 0 lo : Nat) : Int) = 0 := eq_of_beq q.1.1
    have q2 : sIx items.size items.size hi - sIx items.size 0 lo = items.size := eq_of_beq q.2
    exact hw ⟨by omega, by omega⟩
  show wpAny _ _ (if (((sIx items.size 0 lo : Nat) : Int) == 0 && (1 : Int) == 1 && (sIx items.size items.size hi - sIx items.size 0 lo) == items.size) = true then _ else _) _ _ s
  rw [if_neg hno, pick_gen]
  first
    | exact wpAny_bind (m := Builtin.Tuple.tupleExact _) (wpAny_newObj_type (wpAny_pure ⟨_, rfl, wpAny_pure h⟩) htake)
    | exact wpAny_bind (m := Builtin.Tuple.tupleExact _) (wpAny_newObj_type (wpAny_bind (wpAny_pure (wpAny_pure ⟨_, rfl, wpAny_pure h⟩))) htake)
    | exact wpAny_bind (wpAny_bind (m := Builtin.Tuple.tupleExact _) (wpAny_newObj_type (wpAny_pure (wpAny_pure ⟨_, rfl, wpAny_pure h⟩)) htake))
    | exact wpAny_bind (wpAny_bind (m := Builtin.Tuple.tupleExact _) (wpAny_newObj_type (wpAny_pure ⟨_, rfl, wpAny_pure h⟩) htake))
end
end HT

namespace L2
open PySem PySem.Spec PyProof.Rows

abbrev TO := St → Hp → (Option Int → Hp → Prop) → Prop
def PO (X : Cx) (e : Option Expr) (t : TO) : Prop :=
  ∀ (pins : List (Addr × Obj)) (s : Shared) (σ : St) (H : Hp) (Q : Option Int → Hp → Prop), Inv X pins σ H s → t σ H Q →
    wpAny (model X.prog X.w) X.A (evalPart e X.env) (fun u s' => ∃ o H', Inv X pins σ H' s' ∧ IsPart u o ∧ Q o H') X.xe s
def tNoPart : TO := fun _ H Q => Q none H
def tPart (t : TE) : TO := fun σ H Q => t σ H fun x H1 => ∃ i, x = .int i ∧ Q (some i) H1

section
variable {X : Cx} {e : Expr} {te : TE} {lo hi : Option Expr} {tl th : TO} {pos p2 : Pos}

theorem po_none : PO X none tNoPart := by
  intro pins s σ H Q I h
  rw [evalPart_none]
  exact wpAny_pure ⟨none, H, I, .none, h⟩
theorem po_some (h : PE X e te) : PO X (some e) (tPart te) := by
  intro pins s σ H Q I hw
  rw [evalPart_some]
  refine thn (h pins s σ H _ I hw) fun u s1 ⟨x, H1, I1, r1, q1⟩ => ?_
  obtain ⟨i, rfl, q⟩ := q1
  obtain ⟨t, rfl⟩ := r1
  exact ⟨some i, H1, I1, .int i t, q⟩

def SlR (X : Cx) (r : V → Option Int → Option Int → Hp → VK → Prop) : Prop :=
  ∀ (pins : List (Addr × Obj)) (s : Shared) (σ : St) (H : Hp) (x : V) (v vl vu : Value) (lo hi : Option Int) (sl : Addr) (Q : VK), Inv X pins σ H s → RelV x v → s.heap.IsSliceOf sl vl vu .none → IsPart vl lo → IsPart vu hi → r x lo hi H Q →
    ∃ T id, typeLookup (.type T) "__getitem__" = pure (some (.builtin id)) ∧ s.TypeIs v T ∧ wpAny (model X.prog X.w) X.A (getItem v (.ref sl)) (EP X pins σ Q) X.xe s
theorem SlR.or {r r' : V → Option Int → Option Int → Hp → VK → Prop} (h : SlR X r) (h' : SlR X r') : SlR X (fun x lo hi H Q => r x lo hi H Q ∨ r' x lo hi H Q) := by
  intro pins s σ H x v vl vu lo hi sl Q I rx hs pl pu q
  rcases q with q | q
  · exact h pins s σ H x v vl vu lo hi sl Q I rx hs pl pu q
  · exact h' pins s σ H x v vl vu lo hi sl Q I rx hs pl pu q
def tSl (r : V → Option Int → Option Int → Hp → VK → Prop) (te : TE) (tl th : TO) : TE := fun σ H Q => te σ H fun x H1 => tl σ H1 fun l H2 => th σ H2 fun u H3 => r x l u H3 Q
theorem pe_slice {r : V → Option Int → Option Int → Hp → VK → Prop} (hr : SlR X r) (he : PE X e te) (hl : PO X lo tl) (hu : PO X hi th) : PE X (.Subscript e (.Slice lo hi none p2) pos) (tSl r te tl th) := by
  intro pins s σ H Q I h
  refine Subscript_ (thn (he pins s σ H _ I h) fun v s1 ⟨x, H1, I1, r1, q1⟩ => ?_)
  refine wpAny_Slice (thn (hl pins s1 σ H1 _ I1 q1) fun vl s2 ⟨l, H2, I2, pl, q2⟩ => thn (hu pins s2 σ H2 _ I2 q2) fun vu s3 ⟨u, H3, I3, pu, q3⟩ => ?_)
  rw [evalPart_none]
  refine wpAny_pure ?_
  have I4 : Inv X pins σ H3 { s3 with heap := s3.heap.push { cls := .type "slice", data := .fields #[vl, vu, .none] } } := I3.kept (t' := s3.toks) fun b ob q => Heap.get?_push_of_some _ q
  obtain ⟨T, id, hT, ht, hg⟩ := hr pins { s3 with heap := s3.heap.push { cls := .type "slice", data := .fields #[vl, vu, .none] } } σ H3 x v vl vu l u s3.heap.objs.size Q I4 r1 (Heap.IsSliceOf.new ..) pl pu q3
  show wpAny (model X.prog X.w) X.A (subscriptTail e (.Slice lo hi none p2) v (.ref s3.heap.objs.size)) (EP X pins σ Q) X.xe { s3 with heap := s3.heap.push { cls := .type "slice", data := .fields #[vl, vu, .none] } }
  exact tail_any (ops := [.ref s3.heap.objs.size, v]) ht hT hg (by with_unfolding_all rfl)

def cutV (xs : List V) (lo hi : Option Int) : List V := (xs.drop (HT.sIx xs.length 0 lo)).take (HT.sIx xs.length xs.length hi - HT.sIx xs.length 0 lo)
theorem cutV_length (xs : List V) (lo hi : Option Int) : (cutV xs lo hi).length ≤ xs.length := by
  unfold cutV
  rw [List.length_take, List.length_drop]
  omega
def rSlT (K : PySem.W.Frag) : V → Option Int → Option Int → Hp → VK → Prop := fun x lo hi H Q => ∃ a xs, x = .ref a ∧ SqT K H a xs ∧
  ¬ (HT.sIx xs.length 0 lo = 0 ∧ HT.sIx xs.length xs.length hi = xs.length) ∧ ∀ p, H p = none → Q (.ref p) (upd H p (.tup (cutV xs lo hi)))
theorem sl_tup : SlR X (rSlT X.K) := by
  intro pins s σ H x v vl vu lo hi sl Q I rx hs pl pu h
  obtain ⟨a, xs, rfl, hx, hw, q⟩ := h
  cases rx
  obtain ⟨its, r, ht, hz⟩ := I.tuple hx
  have hlen : its.toArray.size = xs.length := by rw [List.size_toArray]; exact r.length.symm
  refine ⟨"tuple", _, PyProof.Rows.slot_tuple_getitem.lookup, ht.typeIs, ?_⟩
  refine HT.getItem_tuple_cut ht hs pl pu (by rw [hlen]; exact hw) ?_ (by rw [hlen]; exact hz)
  rw [hlen]
  refine ⟨.ref s.heap.objs.size, _, I.laid (t' := s.toks) (o := .tup (cutV xs lo hi)) (fun b ob q => Heap.get?_push_of_some _ q) (Nat.le_refl _) ?_, rfl, q _ (I.hok.fresh (Nat.le_refl _))⟩
  exact ⟨Nat.le_trans (cutV_length xs lo hi) hz, _, (r.drop (HT.sIx xs.length 0 lo)).take (HT.sIx xs.length xs.length hi - HT.sIx xs.length 0 lo), IsTup.new _ _⟩

def rCatT (K : PySem.W.Frag) : R2 := fun x y H Q => ∃ a b xs ys, x = .ref a ∧ y = .ref b ∧ SqT K H a xs ∧ SqT K H b ys ∧ xs ≠ [] ∧ xs.length + ys.length ≤ sizeLine ∧
  (ys = [] → Q (.ref a) H) ∧ (ys ≠ [] → ∀ p, H p = none → Q (.ref p) (upd H p (.tup (xs ++ ys))))
theorem Vals.nil_iff {xs : List V} {us : List Value} (r : Vals xs us) : us = [] ↔ xs = [] := by
  cases r with
  | nil => simp
  | cons _ _ => simp
theorem op_catT : OpR X (binaryOp .Add) (rCatT X.K) := by
  intro pins s σ H x y v u Q I rx ry h
  obtain ⟨a, b, xs, ys, rfl, rfl, ha, hb, hx, hz, q1, q2⟩ := h
  cases rx
  cases ry
  obtain ⟨its, r1, p1, _⟩ := I.tuple ha
  obtain ⟨its2, r2, p2, _⟩ := I.tuple hb
  refine HT.cat_tup p1 p2 (fun z => hx (r1.nil_iff.mp z)) (fun z => ⟨.ref a, H, I, rfl, q1 (r2.nil_iff.mp z)⟩) (fun z => ?_) (by rw [← r1.length, ← r2.length]; exact hz)
  refine ⟨.ref s.heap.objs.size, _, I.laid (t' := s.toks) (o := .tup (xs ++ ys)) (fun b ob q => Heap.get?_push_of_some _ q) (Nat.le_refl _) ?_, rfl, q2 (fun w => z (r2.nil_iff.mpr w)) _ (I.hok.fresh (Nat.le_refl _))⟩
  exact ⟨by rw [List.length_append]; exact hz, _, r1.append r2, IsTup.new _ _⟩
end
end L2

namespace L2
open PySem PySem.Spec PyProof.Rows

def ixN (n : Nat) (i : Int) : Option Nat := if 0 ≤ i then (if i < n then some i.toNat else none) else if -(n : Int) ≤ i then some (i + n).toNat else none
def atI {α : Type} (xs : List α) (i : Int) : Option α := (ixN xs.length i).bind fun j => xs[j]?
theorem ixN_seq {n : Nat} {i : Int} {j : Nat} (h : ixN n i = some j) : seqIndex? i n = some j ∧ j < n ∧ -(n : Int) ≤ i ∧ i < n := by
  unfold ixN at h
  by_cases h0 : 0 ≤ i
  · rw [if_pos h0] at h
    by_cases h1 : i < n
    · rw [if_pos h1] at h
      have e : i.toNat = j := Option.some.inj h
      exact ⟨by rw [seqIndex_of h0 h1, e], by omega, by omega, h1⟩
    · rw [if_neg h1] at h; cases h
  · rw [if_neg h0] at h
    by_cases h1 : -(n : Int) ≤ i
    · rw [if_pos h1] at h
      have e : (i + n).toNat = j := Option.some.inj h
      exact ⟨by rw [seqIndex_neg (by omega) h1, e], by omega, h1, by omega⟩
    · rw [if_neg h1] at h; cases h
theorem atI_get {α : Type} {xs : List α} {i : Int} {v : α} (h : atI xs i = some v) : ∃ j, seqIndex? i xs.length = some j ∧ xs[j]? = some v ∧ j < xs.length ∧ -(xs.length : Int) ≤ i ∧ i < xs.length := by
  unfold atI at h
  cases e : ixN xs.length i with
  | none => rw [e] at h; cases h
  | some j =>
    rw [e] at h
    obtain ⟨h1, h2, h3, h4⟩ := ixN_seq e
    exact ⟨j, h1, h, h2, h3, h4⟩
theorem atI_nat {α : Type} {xs : List α} {j : Nat} {v : α} (h : xs[j]? = some v) : atI xs (j : Int) = some v := by
  have hj : j < xs.length := (List.getElem?_eq_some_iff.mp h).1
  have e : ixN xs.length (j : Int) = some j := by
    unfold ixN
    rw [if_pos (by omega), if_pos (by omega)]; simp
  unfold atI; rw [e]; exact h
def PlainIx (b : Expr) : Prop := ∀ o i, subscripted b false o i = operate [o, i] (getItem o i)
def IxR (X : Cx) (r : R2) : Prop :=
  ∀ (value slice : Expr) (pins : List (Addr × Obj)) (s : Shared) (σ : St) (H : Hp) (x y : V) (v u : Value) (Q : VK), Inv X pins σ H s → RelV x v → RelV y u → r x y H Q →
    subscripted slice false v u = operate [v, u] (getItem v u) → wpAny (model X.prog X.w) X.A (subscriptTail value slice v u) (EP X pins σ Q) X.xe s
def MtR (X : Cx) (id : String) (r : V → List V → Hp → VK → Prop) : Prop :=
  ∀ (pins : List (Addr × Obj)) (s : Shared) (σ : St) (H : Hp) (x : V) (xs : List V) (v : Value) (us : List Value) (Q : VK), Inv X pins σ H s → RelV x v → Vals xs us → r x xs H Q →
    wpAny (model X.prog X.w) X.A (call (.builtin id) (v :: us)) (EP X pins σ Q) X.xe s
section
variable {X : Cx} {a b : Expr} {ta tb : TE} {pos : Pos}
theorem IxR.or {r r' : R2} (h : IxR X r) (h' : IxR X r') : IxR X (fun x y H Q => r x y H Q ∨ r' x y H Q) := by
  intro value slice pins s σ H x y v u Q I rx ry q hs
  rcases q with q | q
  · exact h value slice pins s σ H x y v u Q I rx ry q hs
  · exact h' value slice pins s σ H x y v u Q I rx ry q hs
theorem MtR.or {id : String} {r r' : V → List V → Hp → VK → Prop} (h : MtR X id r) (h' : MtR X id r') : MtR X id (fun x xs H Q => r x xs H Q ∨ r' x xs H Q) := by
  intro pins s σ H x xs v us Q I rx rs q
  rcases q with q | q
  · exact h pins s σ H x xs v us Q I rx rs q
  · exact h' pins s σ H x xs v us Q I rx rs q
theorem pe_ix {r : R2} (hr : IxR X r) (ha : PE X a ta) (hb : PE X b tb) (hs : PlainIx b) : PE X (.Subscript a b pos) (tOp r ta tb) := by
  intro pins s σ H Q I h
  exact Subscript_ (binT ha hb I h fun v u s2 x y H2 I2 rx ry q => hr a b pins s2 σ H2 x y v u Q I2 rx ry q (hs _ _))

def rIxL (K : PySem.W.Frag) : R2 := fun x y H Q => ∃ p xs i v, x = .ref p ∧ y = .int i ∧ SqL K H p xs ∧ atI xs i = some v ∧ Q v H
def rIxT (K : PySem.W.Frag) : R2 := fun x y H Q => ∃ p xs i v, x = .ref p ∧ y = .int i ∧ SqT K H p xs ∧ atI xs i = some v ∧ Q v H
theorem ix_list : IxR X (rIxL X.K) := by
  intro value slice pins s σ H x y v u Q I rx ry h hs
  obtain ⟨p, xs, i, z, rfl, rfl, hq, he, q⟩ := h
  cases rx
  obtain ⟨t, rfl⟩ := ry
  obtain ⟨its, r, pl, hz⟩ := I.list hq
  obtain ⟨j, h1, h2, h3, h4, h5⟩ := atI_get he
  obtain ⟨w, ew, rw'⟩ := r.get h2
  have hl := r.length
  have hn := line63
  have fin : EP X pins σ Q w s := ⟨z, H, I, rw', q⟩
  by_cases h0 : 0 ≤ i
  · have hj : i.toNat = j := by
      rw [seqIndex_of h0 h5] at h1
      exact Option.some.inj h1
    exact item_listR pl.isList h0 (by omega) (by rw [hj]; simpa using ew) fin hs
  · have hj : (i + (its.toArray.size : Int)).toNat = j := by
      rw [seqIndex_neg (by omega) h4] at h1
      rw [List.size_toArray, ← hl]
      exact Option.some.inj h1
    exact subscriptTail_builtinR (x := w) pl.isList.typeIs slot_list_getitem.lookup
      (wpAny_getItem_list_neg (Q := fun r s' => r = w ∧ EP X pins σ Q r s') pl.isList (by omega) (by rw [List.size_toArray] <;> omega) (by omega) (by rw [hj]; simpa using ew) ⟨rfl, fin⟩) hs
theorem ix_tup : IxR X (rIxT X.K) := by
  intro value slice pins s σ H x y v u Q I rx ry h hs
  obtain ⟨p, xs, i, z, rfl, rfl, hq, he, q⟩ := h
  cases rx
  obtain ⟨t, rfl⟩ := ry
  obtain ⟨its, r, pl, hz⟩ := I.tuple hq
  obtain ⟨j, h1, h2, h3, h4, h5⟩ := atI_get he
  obtain ⟨w, ew, rw'⟩ := r.get h2
  have hl := r.length
  have hn := line63
  have fin : EP X pins σ Q w s := ⟨z, H, I, rw', q⟩
  exact subscriptTail_builtinR (x := w) pl.typeIs slot_tuple_getitem.lookup
    (getItem_tuple (j := j) (Q := fun r s' => r = w ∧ EP X pins σ Q r s') pl (by omega) (by omega) (by rw [List.size_toArray, ← hl]; exact h1) (by simpa using ew) ⟨rfl, fin⟩) hs
theorem mapSeq_set (its : List Value) (n j : Nat) (u : Value) : Obj.mapSeq (·.setIfInBounds j u) { cls := .type "list", data := .seq its.toArray n } = { cls := .type "list", data := .seq (its.set j u).toArray n } := by
  simp [Obj.mapSeq]
theorem Inv.lst {pins : List (Addr × Obj)} {σ : St} {H : Hp} {s : Shared} {p : Addr} {xs : List V} (I : Inv X pins σ H s) (h : H p = some (.lst xs)) :
    ∃ (its : List Value) (n : Nat), Vals xs its ∧ s.heap.get? p = some { cls := .type "list", data := .seq its.toArray n } ∧ xs.length ≤ sizeLine := by
  obtain ⟨z, its, n, r, e⟩ := I.hok p _ h
  exact ⟨its, n, r, e, z⟩
theorem Inv.lstUpd {pins : List (Addr × Obj)} {σ : St} {H : Hp} {s : Shared} {p : Addr} {xs ys : List V} {its its' : List Value} {n n' : Nat} {f : Obj → Obj} (I : Inv X pins σ H s) (h : H p = some (.lst xs))
    (ho : s.heap.get? p = some { cls := .type "list", data := .seq its.toArray n }) (hf : f { cls := .type "list", data := .seq its.toArray n } = { cls := .type "list", data := .seq its'.toArray n' }) (r : Vals ys its') (hz : ys.length ≤ sizeLine) (t : Nat) :
    Inv X pins σ (upd H p (.lst ys)) { s with heap := s.heap.update p f, toks := t } := by
  have e : (s.heap.update p f).get? p = some { cls := .type "list", data := .seq its'.toArray n' } := by
    rw [Heap.get?_update_self f ho (by rw [hf] <;> rfl), hf]
  refine I.write (x := p) (e := p) (by rw [h]; trivial) (.inl rfl) (fun b u hb q => (Heap.get?_update_other _ _ (Ne.symm hb)).trans q) ⟨_, e⟩ ?_
  exact ⟨hz, its', n', r, e⟩
def rSetL : V → V → V → Hp → (Hp → Prop) → Prop := fun o i v H Q => ∃ p xs k j, o = .ref p ∧ i = .int k ∧ H p = some (.lst xs) ∧ ixN xs.length k = some j ∧ Q (upd H p (.lst (xs.set j v)))
theorem set_list : PSet X rSetL := by
  intro pins s σ H o i v ov iv u Q I ro ri rv h
  obtain ⟨p, xs, k, j, rfl, rfl, hp, hj, q⟩ := h
  cases ro
  obtain ⟨t, rfl⟩ := ri
  obtain ⟨its, n, r, ho, hz⟩ := I.lst hp
  obtain ⟨h1, h2, h3, h4⟩ := ixN_seq hj
  have hl := r.length
  have hn := line63
  have I' : Inv X pins σ (upd H p (.lst (xs.set j v))) { s with heap := s.heap.update p (Obj.mapSeq (·.setIfInBounds j u)) } :=
    I.lstUpd hp ho (mapSeq_set its n j u) (r.set rv j) (by rw [List.length_set]; exact hz) s.toks
  by_cases h0 : 0 ≤ k
  · have hk : k.toNat = j := by
      rw [seqIndex_of h0 h4] at h1
      exact Option.some.inj h1
    exact PySem.W.ki_setAt ho h0 (by omega) (by rw [List.size_toArray, ← hl]; exact h4) (by rw [hk]; exact ⟨_, I', q⟩)
  · have hk : (k + (its.toArray.size : Int)).toNat = j := by
      rw [seqIndex_neg (by omega) h3] at h1
      rw [List.size_toArray, ← hl]
      exact Option.some.inj h1
    exact PySem.W.ki_setBack ho (by omega) (by rw [List.size_toArray, ← hl]; exact h3) (by omega) (by rw [hk]; exact ⟨_, I', q⟩)

theorem slice_bounds (lo hi : Option Int) (n : Nat) : (sliceBounds lo hi none n).1 = ((HT.sIx n 0 lo : Nat) : Int) ∧ (sliceBounds lo hi none n).2.1 = ((HT.sIx n n hi : Nat) : Int) ∧ (sliceBounds lo hi none n).2.2 = 1 := by
  refine ⟨?_, ?_, rfl⟩
  · cases lo with
    | none => simp [sliceBounds, HT.sIx]
    | some i =>
      simp only [sliceBounds, HT.sIx, Option.getD_none, show (1 : Int) > 0 by decide, if_true]
      by_cases h : i < 0
      · simp only [h, if_true] <;> omega
      · simp only [h, if_false] <;> omega
  · cases hi with
    | none => simp [sliceBounds, HT.sIx]
    | some i =>
      simp only [sliceBounds, HT.sIx, Option.getD_none, show (1 : Int) > 0 by decide, if_true]
      by_cases h : i < 0
      · simp only [h, if_true] <;> omega
      · simp only [h, if_false] <;> omega
theorem slicePick_cut (its : List Value) (lo hi : Option Int) : slicePick its.toArray lo hi none = ((its.drop (HT.sIx its.length 0 lo)).take (HT.sIx its.length its.length hi - HT.sIx its.length 0 lo)).toArray := by
  obtain ⟨h1, h2, h3⟩ := slice_bounds lo hi its.toArray.size
  unfold slicePick
  rw [h1, h2, h3]
  simp only [sliceRange_one, pick_run, List.size_toArray] <;> rfl
def rSlL (K : PySem.W.Frag) : V → Option Int → Option Int → Hp → VK → Prop := fun x lo hi H Q => ∃ a xs, x = .ref a ∧ SqL K H a xs ∧ ∀ p, H p = none → Q (.ref p) (upd H p (.lst (cutV xs lo hi)))
theorem sl_list : SlR X (rSlL X.K) := by
  intro pins s σ H x v vl vu lo hi sl Q I rx hs pl pu h
  obtain ⟨a, xs, rfl, hx, q⟩ := h
  cases rx
  obtain ⟨its, r, ht, hz⟩ := I.list hx
  have hlen := r.length
  refine ⟨"list", _, slot_list_getitem.lookup, ht.isList.typeIs, ?_⟩
  refine wpAny_getItem_list_slice ht.isList hs pl pu .none (by simp) ?_ (by rw [List.size_toArray] <;> omega)
  rw [slicePick_cut, ← hlen]
  refine ⟨.ref s.heap.objs.size, _, I.laid (t' := s.toks) (o := .lst (cutV xs lo hi)) (fun b ob q => Heap.get?_push_of_some _ q) (Nat.le_refl _) ?_, rfl, q _ (I.hok.fresh (Nat.le_refl _))⟩
  exact ⟨Nat.le_trans (cutV_length xs lo hi) hz, _, 0, (r.drop (HT.sIx xs.length 0 lo)).take (HT.sIx xs.length xs.length hi - HT.sIx xs.length 0 lo), Heap.get?_push_size _ rfl⟩

def flatV : V → Bool
  | .non => true
  | .bl _ => true
  | .int _ => true
  | .str _ => true
  | _ => false
def eqV : V → V → Bool
  | .non, .non => true
  | .bl a, .bl b => a == b
  | .bl a, .int b => (if a then 1 else 0) == b
  | .int a, .bl b => a == (if b then 1 else 0)
  | .int a, .int b => a == b
  | .str a, .str b => a == b
  | _, _ => false
theorem eqAt_V {A : Around} {s : Shared} {y x : V} {u v : Value} (ry : RelV y u) (rx : RelV x v) (fy : flatV y = true) (fx : flatV x = true) : SeqAt.EqAt A s u v (eqV y x) := by
  cases y with
  | non =>
    cases ry
    cases x with
    | non => cases rx; exact SeqAt.EqAt.same _
    | bl b => cases rx; exact SeqAt.EqAt.none_bool b
    | int b => obtain ⟨t, rfl⟩ := rx; exact SeqAt.EqAt.none_int b t
    | str b => obtain ⟨t, rfl⟩ := rx; exact SeqAt.EqAt.none_str b t
    | _ => exact absurd (show false = true from fx) Bool.false_ne_true
  | bl a =>
    cases ry
    cases x with
    | non => cases rx; exact SeqAt.EqAt.bool_none a
    | bl b => cases rx; exact SeqAt.EqAt.bool_bool a b
    | int b => obtain ⟨t, rfl⟩ := rx; exact SeqAt.EqAt.bool_int a b t
    | str b => obtain ⟨t, rfl⟩ := rx; exact SeqAt.EqAt.bool_str a b t
    | _ => exact absurd (show false = true from fx) Bool.false_ne_true
  | int a =>
    obtain ⟨t', rfl⟩ := ry
    cases x with
    | non => cases rx; exact SeqAt.EqAt.int_none a t'
    | bl b => cases rx; exact SeqAt.EqAt.int_bool a t' b
    | int b => obtain ⟨t, rfl⟩ := rx; exact SeqAt.EqAt.int_int a t' b t
    | str b => obtain ⟨t, rfl⟩ := rx; exact SeqAt.EqAt.int_str a t' b t
    | _ => exact absurd (show false = true from fx) Bool.false_ne_true
  | str a =>
    obtain ⟨t', rfl⟩ := ry
    cases x with
    | non => cases rx; exact SeqAt.EqAt.str_none a t'
    | bl b => cases rx; exact SeqAt.EqAt.str_bool a t' b
    | int b => obtain ⟨t, rfl⟩ := rx; exact SeqAt.EqAt.str_int a t' b t
    | str b => obtain ⟨t, rfl⟩ := rx; exact SeqAt.EqAt.str_str a t' b t
    | _ => exact absurd (show false = true from fx) Bool.false_ne_true
  | _ => exact absurd (show false = true from fy) Bool.false_ne_true
def eqU (x : V) (u : Value) : Bool := match u with
  | .none => eqV .non x
  | .bool b => eqV (.bl b) x
  | .int i _ => eqV (.int i) x
  | .str z _ => eqV (.str z) x
  | _ => false
theorem eqU_of {x y : V} {u : Value} (r : RelV y u) (f : flatV y = true) : eqU x u = eqV y x := by
  cases y with
  | non => cases r; rfl
  | bl b => cases r; rfl
  | int i => obtain ⟨t, rfl⟩ := r; rfl
  | str z => obtain ⟨t, rfl⟩ := r; rfl
  | _ => exact absurd (show false = true from f) Bool.false_ne_true
theorem any_eqU {x : V} : ∀ {xs : List V} {us : List Value}, Vals xs us → xs.all flatV = true → us.any (eqU x) = xs.any fun y => eqV y x
  | _, _, .nil, _ => rfl
  | y :: xs, u :: us, .cons r t, f => by
    rw [List.all_cons, Bool.and_eq_true] at f
    rw [List.any_cons, List.any_cons, eqU_of r f.1, any_eqU t f.2]
theorem mem_eqAt {A : Around} {s : Shared} {x : V} {v : Value} (rx : RelV x v) (fx : flatV x = true) : ∀ {xs : List V} {us : List Value}, Vals xs us → xs.all flatV = true → ∀ u ∈ us, SeqAt.EqAt A s u v (eqU x u)
  | _, _, .nil, _ => fun u hu => by cases hu
  | y :: xs, u :: us, .cons r t, f => fun u' hu => by
    rw [List.all_cons, Bool.and_eq_true] at f
    rcases List.mem_cons.mp hu with rfl | hu
    · rw [eqU_of r f.1]; exact eqAt_V r rx f.1 fx
    · exact mem_eqAt rx fx t f.2 u' hu
def inV (x : V) (xs : List V) : Bool := xs.any fun y => eqV y x
def rIn (K : PySem.W.Frag) (neg : Bool) : R2 := fun x y H Q => ∃ p xs, y = .ref p ∧ (SqL K H p xs ∨ SqT K H p xs) ∧ flatV x = true ∧ xs.all flatV = true ∧ Q (.bl (if neg then !inV x xs else inV x xs)) H
theorem op_in_seq : OpR X (compareOp .In) (rIn X.K false) := by
  intro pins s σ H x y v u Q I rx ry h
  obtain ⟨p, xs, rfl, hq, fx, fs, q⟩ := h
  cases ry
  rcases hq with hq | hq
  · obtain ⟨its, r, pl, hz⟩ := I.list hq
    refine SeqAt.in_listAt (eqU x) pl.isList (fun w hw => mem_eqAt rx fx r fs w (by simpa using hw)) ⟨.bl _, H, I, rfl, ?_⟩
    rw [show its.toArray.any (eqU x) = its.any (eqU x) by simp, any_eqU r fs]
    exact q
  · obtain ⟨its, r, pl, hz⟩ := I.tuple hq
    refine SeqAt.in_tupleAt (eqU x) pl (fun w hw => mem_eqAt rx fx r fs w (by simpa using hw)) ⟨.bl _, H, I, rfl, ?_⟩
    rw [show its.toArray.any (eqU x) = its.any (eqU x) by simp, any_eqU r fs]
    exact q
theorem op_notIn_seq : OpR X (compareOp .NotIn) (rIn X.K true) := by
  intro pins s σ H x y v u Q I rx ry h
  obtain ⟨p, xs, rfl, hq, fx, fs, q⟩ := h
  cases ry
  rcases hq with hq | hq
  · obtain ⟨its, r, pl, hz⟩ := I.list hq
    refine SeqAt.notIn_listAt (eqU x) pl.isList (fun w hw => mem_eqAt rx fx r fs w (by simpa using hw)) ⟨.bl _, H, I, rfl, ?_⟩
    rw [show its.toArray.any (eqU x) = its.any (eqU x) by simp, any_eqU r fs]
    exact q
  · obtain ⟨its, r, pl, hz⟩ := I.tuple hq
    refine SeqAt.notIn_tupleAt (eqU x) pl (fun w hw => mem_eqAt rx fx r fs w (by simpa using hw)) ⟨.bl _, H, I, rfl, ?_⟩
    rw [show its.toArray.any (eqU x) = its.any (eqU x) by simp, any_eqU r fs]
    exact q
theorem CallR.or {f : Value} {r r' : List V → Hp → VK → Prop} (h : CallR X f r) (h' : CallR X f r') : CallR X f (fun xs H Q => r xs H Q ∨ r' xs H Q) := by
  intro pins s σ H xs us Q I rs q
  rcases q with q | q
  · exact h pins s σ H xs us Q I rs q
  · exact h' pins s σ H xs us Q I rs q
theorem call_list_of : CallR X (.type "list") (fun xs H Q => ∃ p ys, xs = [.ref p] ∧ (SqL X.K H p ys ∨ SqT X.K H p ys) ∧ ∀ l, H l = none → Q (.ref l) (upd H l (.lst ys))) := by
  intro pins s σ H xs us Q I r h
  obtain ⟨p, ys, rfl, hq, q⟩ := h
  obtain ⟨u, rfl, rx⟩ := vals1 r
  cases rx
  have fin : ∀ (its : List Value), Vals ys its → ys.length ≤ sizeLine → ∀ (h' : Heap) (c' : Nat), (∀ b o', s.heap.get? b = some o' → h'.get? b = some o') →
      h'.get? s.heap.objs.size = some { cls := .type "list", dict := none, data := .seq its.toArray c', slots := #[] } → EP X pins σ Q (.ref s.heap.objs.size) { s with heap := h' } := fun its r' hz h' c' kp e =>
    ⟨.ref s.heap.objs.size, _, I.laid (t' := s.toks) kp (Nat.le_refl _) (show ObjOk X.prog X.w _ h' _ (.lst ys) from ⟨hz, its, c', r', e⟩), rfl, q _ (I.hok.fresh (Nat.le_refl _))⟩
  rcases hq with hq | hq
  · obtain ⟨its, r', pl, hz⟩ := I.list hq
    have hlen := r'.length
    obtain ⟨o, ho, hc, n, hd⟩ := pl.isList
    exact call_list_seq p (.inl rfl) ho hc hd (fun h' c' kp e => fin its r' hz h' c' kp e) (by simp only [List.size_toArray] <;> omega)
  · obtain ⟨its, r', pl, hz⟩ := I.tuple hq
    have hlen := r'.length
    obtain ⟨o, ho, hc, n, hd⟩ := pl
    exact call_list_seq p (.inr rfl) ho hc hd (fun h' c' kp e => fin its r' hz h' c' kp e) (by simp only [List.size_toArray] <;> omega)
theorem call_tuple_of : CallR X (.type "tuple") (fun xs H Q => ∃ p ys, xs = [.ref p] ∧ ((SqL X.K H p ys ∧ ∀ l, H l = none → Q (.ref l) (upd H l (.tup ys))) ∨ (SqT X.K H p ys ∧ Q (.ref p) H))) := by
  intro pins s σ H xs us Q I r h
  obtain ⟨p, ys, rfl, h⟩ := h
  obtain ⟨u, rfl, rx⟩ := vals1 r
  cases rx
  rcases h with ⟨hq, q⟩ | ⟨hq, q⟩
  · obtain ⟨its, r', pl, hz⟩ := I.list hq
    have hlen := r'.length
    refine call_tuple_list pl.isList (fun h' kp => ?_) (by simp only [List.size_toArray] <;> omega)
    have I1 : Inv X pins σ H { s with heap := h' } := I.kept (t' := s.toks) kp
    have I2 : Inv X pins σ (upd H h'.objs.size (.tup ys)) { s with heap := h'.push { cls := .type "tuple", data := .seq its.toArray } } :=
      I1.laid (t' := s.toks) (fun b o e => Heap.get?_push_of_some _ e) (Nat.le_refl _) (show ObjOk X.prog X.w _ _ _ (.tup ys) from ⟨hz, its, r', IsTup.new _ _⟩)
    exact ⟨.ref h'.objs.size, _, I2, rfl, q _ (I1.hok.fresh (Nat.le_refl _))⟩
  · obtain ⟨its, r', pl, hz⟩ := I.tuple hq
    exact call_tuple_same pl ⟨.ref p, H, I, rfl, q⟩

def tyV (K : PySem.W.Frag) (T : String) (x : V) (H : Hp) : Prop := match x with
  | .str _ => T = "str"
  | .int _ => T = "int"
  | .ref p => (T = "list" ∧ ∃ xs, SqL K H p xs) ∨ (T = "tuple" ∧ ∃ o, K.lookup p = some o ∧ o.cls = .type "tuple" ∧ o.dict = none) ∨
      (T = "dict" ∧ ((∃ kvs, H p = some (.dK kvs)) ∨ ∃ kvs, H p = some (.dT kvs))) ∨ (T = "set" ∧ ∃ S n, H p = some (.set S n))
  | _ => False
theorem tyV_is {pins : List (Addr × Obj)} {σ : St} {H : Hp} {s : Shared} {T : String} {x : V} {v : Value} (I : Inv X pins σ H s) (r : RelV x v) (ty : tyV X.K T x H) :
    s.TypeIs v T ∧ ∀ a, v = .ref a → ∃ ob, s.heap.get? a = some ob ∧ ob.dict = none := by
  cases x with
  | str z =>
    obtain ⟨t, rfl⟩ := r
    cases (show T = "str" from ty)
    exact ⟨typeIs_str s z t, fun _ e => nomatch e⟩
  | int i =>
    obtain ⟨t, rfl⟩ := r
    cases (show T = "int" from ty)
    exact ⟨typeIs_int s i t, fun _ e => nomatch e⟩
  | ref p =>
    cases r
    rcases ty with ⟨rfl, xs, hq⟩ | ⟨rfl, o, hk, hc, hd⟩ | ⟨rfl, hk⟩ | ⟨rfl, S, n, hk⟩
    · obtain ⟨its, _, pl, _⟩ := I.list hq
      refine ⟨pl.isList.typeIs, fun a e => ?_⟩
      cases e
      obtain ⟨o, n, e, c, hd, _⟩ := pl
      exact ⟨o, e, hd⟩
    · refine ⟨⟨o, I.kIn p o hk, hc⟩, fun a e => ?_⟩
      cases e
      exact ⟨o, I.kIn _ o hk, hd⟩
    · have z : ∃ o, s.heap.get? p = some o ∧ o.ExactDict := by
        rcases hk with ⟨kvs, hk⟩ | ⟨kvs, hk⟩
        · obtain ⟨_, _, _, _, o, _, _, e, ex, _⟩ := I.hok p _ hk
          exact ⟨o, e, ex⟩
        · obtain ⟨_, _, _, _, o, _, _, e, ex, _⟩ := I.hok p _ hk
          exact ⟨o, e, ex⟩
      obtain ⟨o, e, ex⟩ := z
      refine ⟨⟨o, e, ex.1⟩, fun a e2 => ?_⟩
      cases e2
      exact ⟨o, e, ex.2.1⟩
    · obtain ⟨o, _, _, _, e, ex, _⟩ := I.hok p _ hk
      refine ⟨⟨o, e, ex.1⟩, fun a e2 => ?_⟩
      cases e2
      exact ⟨o, e, ex.2.1⟩
  | _ => exact False.elim ty
def tBM0 (K : PySem.W.Frag) (T : String) (r : V → List V → Hp → VK → Prop) (to : TE) : TE := fun σ H Q => to σ H fun x H1 => tyV K T x H1 ∧ r x [] H1 Q
def tBM (K : PySem.W.Frag) (T : String) (r : V → List V → Hp → VK → Prop) (to : TE) (t : TA) : TE := fun σ H Q => to σ H fun x H1 => tyV K T x H1 ∧ t σ H1 fun xs H2 => r x xs H2 Q
variable {o e : Expr} {es : List Expr} {to : TE} {t : TA} {name : Str} {apos cpos : Pos} {T id : String} {r : V → List V → Hp → VK → Prop}
theorem pe_bm0 (pa : PlainAttrs T) (slot : Slot T name id) (hty : typeOf (.builtin id) = pure (.type "method_descriptor")) (hm : MtR X id r) (ho : PE X o to)
    (hbase : attributeBase o name X.env (eval o X.env) = eval o X.env := by rfl) (hline : (apos.endLine == cpos.line) = true := by rfl) : PE X (.Call (.Attribute o name apos) [] [] cpos) (tBM0 X.K T r to) := by
  intro pins s σ H Q I h
  refine wpAny_Call_method0_late hbase hline (thn (ho pins s σ H _ I h) fun v s1 ⟨x, H1, I1, r1, ty, q1⟩ => ?_)
  obtain ⟨h1, h2⟩ := tyV_is I1 r1 ty
  exact ⟨T, id, pa, slot, hty, h1, h2, Calls.callWith_builtin rfl (PySem.evalArgs_none (hm pins s1 σ H1 x [] v [] Q I1 r1 .nil q1))⟩
theorem pe_bm (pa : PlainAttrs T) (slot : Slot T name id) (hty : typeOf (.builtin id) = pure (.type "method_descriptor")) (hm : MtR X id r) (ho : PE X o to) (ha : PA X (e :: es) t)
    (hbase : attributeBase o name X.env (eval o X.env) = eval o X.env := by rfl)
    (hfew : ((backTo cpos (starEach (e :: es) X.env)).all (fun x => !x.1) && (backToKw cpos (keywordEach [] X.env)).all (fun x => x.1.isSome)
      && decide ((e :: es).length + ([] : List Keyword).length + (if ([] : List Keyword).isEmpty then 0 else 1) < 30)) = true := by rfl)
    (hline : (apos.endLine == cpos.line) = true := by rfl) (hs : starEach (e :: es) X.env = (false, eval e X.env) :: starEach es X.env := by rfl) (hplain : (backTo cpos (starEach es X.env)).any (·.1) = false := by rfl) :
    PE X (.Call (.Attribute o name apos) (e :: es) [] cpos) (tBM X.K T r to t) := by
  intro pins s σ H Q I h
  refine wpAny_Call_method_late hbase hfew hline rfl (thn (ho pins s σ H _ I h) fun v s1 ⟨x, H1, I1, r1, ty, q1⟩ => ?_)
  obtain ⟨h1, h2⟩ := tyV_is I1 r1 ty
  refine ⟨T, id, pa, slot, hty, h1, h2, ?_⟩
  have hA := ha cpos pins s1 σ H1 _ I1 q1
  rw [hs] at hA ⊢
  refine Calls.callWith_builtin (by show (false || (backTo cpos (starEach es X.env)).any (·.1)) = false; rw [hplain] <;> rfl) (Calls.evalArgs_plain ?_)
  exact thn hA fun us s2 ⟨vs, H2, I2, r2, q2⟩ => hm pins s2 σ H2 x vs v us Q I2 r1 r2 q2
end
end L2

namespace L2
open PySem PySem.Spec PyProof.Rows

def MtM (X : Cx) (id : String) (r : V → List V → Hp → VK → Prop) : Prop :=
  ∀ (pins : List (Addr × Obj)) (s : Shared) (σ : St) (H : Hp) (x : V) (xs : List V) (v : Value) (us : List Value) (Q : VK), Inv X pins σ H s → RelV x v → Vals xs us → r x xs H Q →
    wpAny (model X.prog X.w) X.A (call (.builtin id) (v :: us)) (EP X pins σ Q) X.xe s

theorem Vals.one : ∀ {x : V} {us : List Value}, Vals [x] us → ∃ u, us = [u] ∧ RelV x u
  | _, _, .cons r .nil => ⟨_, rfl, r⟩
theorem Vals.zero : ∀ {us : List Value}, Vals [] us → us = []
  | _, .nil => rfl
theorem Vals.dropLast {xs : List V} {us : List Value} (h : Vals xs us) : Vals xs.dropLast us.dropLast := by
  induction h with
  | nil => exact .nil
  | cons r t ih =>
    cases t with
    | nil => exact .nil
    | cons q t' => exact .cons r ih
theorem Vals.eraseIdx : ∀ {xs : List V} {us : List Value} (i : Nat), Vals xs us → Vals (xs.eraseIdx i) (us.eraseIdx i)
  | _, _, _, .nil => .nil
  | _, _, 0, .cons _ t => t
  | _, _, i + 1, .cons r t => .cons r (Vals.eraseIdx i t)
theorem Vals.reverse {xs : List V} {us : List Value} (h : Vals xs us) : Vals xs.reverse us.reverse := by
  induction h with
  | nil => exact .nil
  | cons r t ih => rw [List.reverse_cons, List.reverse_cons]; exact Vals.append ih (.cons r .nil)
theorem len_erase {α : Type} : ∀ (l : List α) (i : Nat), (l.eraseIdx i).length ≤ l.length
  | [], _ => Nat.le_refl _
  | _ :: _, 0 => Nat.le_succ _
  | _ :: r, i + 1 => Nat.succ_le_succ (len_erase r i)
section
variable {X : Cx} {pins : List (Addr × Obj)} {σ : St} {H : Hp} {s : Shared} {l b : Addr} {xs ys zs : List V}

theorem Inv.lset {its its' : List Value} {n : Nat} {f : Array Value → Array Value} {t' : Nat} (I : Inv X pins σ H s) (hH : H l = some (.lst xs))
    (e : s.heap.get? l = some { cls := .type "list", data := .seq its.toArray n }) (hf : f its.toArray = its'.toArray) (hv : Vals ys its') (hz : ys.length ≤ sizeLine) :
    Inv X pins σ (upd H l (.lst ys)) { s with heap := s.heap.update l (Obj.mapSeq f), toks := t' } := by
  have q := PySem.IsL.update e f
  rw [hf] at q
  refine I.write (x := l) (e := l) (by rw [hH]; exact trivial) (.inl rfl) (fun b' u hb hu => (Heap.get?_update_other s.heap (Obj.mapSeq f) (Ne.symm hb)).trans hu) ⟨_, q⟩ ?_
  exact ⟨hz, its', _, hv, q⟩
theorem Inv.lnew {its : List Value} {t' : Nat} (I : Inv X pins σ H s) (hv : Vals ys its) (hz : ys.length ≤ sizeLine) :
    Inv X pins σ (upd H s.heap.objs.size (.lst ys)) { s with heap := s.heap.push { cls := .type "list", data := .seq its.toArray }, toks := t' } :=
  I.laid (fun _ _ q => Heap.get?_push_of_some _ q) (Nat.le_refl _) ⟨hz, its, 0, hv, Heap.get?_push_size _ rfl⟩
theorem Inv.fresh (I : Inv X pins σ H s) : H s.heap.objs.size = none := I.hok.fresh (Nat.le_refl _)
theorem Inv.lstM (I : Inv X pins σ H s) (hH : H l = some (.lst xs)) : xs.length ≤ sizeLine ∧ ∃ (its : List Value) (n : Nat), Vals xs its ∧ xs.length = its.length ∧ s.heap.get? l = some { cls := .type "list", data := .seq its.toArray n } := by
  obtain ⟨z, its, n, r, e⟩ := I.hok l _ hH
  exact ⟨z, its, n, r, r.length, e⟩

end

section
variable {X : Cx}

def rAppend : V → List V → Hp → VK → Prop := fun x vs H Q => ∃ l xs y, x = .ref l ∧ vs = [y] ∧ H l = some (.lst xs) ∧ xs.length < sizeLine ∧ Q .non (upd H l (.lst (xs ++ [y])))
theorem mt_append : MtM X "list.append" rAppend := by
  intro pins s σ H x vs v us Q I rx rv h
  obtain ⟨l, xs, y, rfl, rfl, hH, hz, q⟩ := h
  cases rx
  obtain ⟨u, rfl, ru⟩ := rv.one
  obtain ⟨z, its, n, r, hl, e⟩ := I.lstM hH
  refine call_meets F.slot_list_append ⟨_, e, rfl⟩ F.entry_list_append (F.args_list_append_2 _ _) (PySem.list_append l its.toArray n u (by rw [List.size_toArray]; omega)) ⟨e, ?_⟩
  refine ⟨.non, _, I.lset (its' := its ++ [u]) hH e (by simp) (r.append (.cons ru .nil)) ?_, rfl, q⟩
  rw [List.length_append, List.length_singleton]
  omega

def rPopAt : V → List V → Hp → VK → Prop := fun x vs H Q => ∃ l xs i k y, x = .ref l ∧ vs = [.int i] ∧ H l = some (.lst xs) ∧ -(2 ^ 63) ≤ i ∧ i < 2 ^ 63 ∧ seqIndex? i xs.length = some k ∧ xs[k]? = some y ∧ Q y (upd H l (.lst (xs.eraseIdx k)))
theorem mt_popAt : MtM X "list.pop" rPopAt := by
  intro pins s σ H x vs v us Q I rx rv h
  obtain ⟨l, xs, i, k, y, rfl, rfl, hH, h1, h2, hk, hy, q⟩ := h
  cases rx
  obtain ⟨u, rfl, ru⟩ := rv.one
  obtain ⟨t, rfl⟩ := ru
  obtain ⟨z, its, n, r, hl, e⟩ := I.lstM hH
  obtain ⟨w, hw, rw'⟩ := r.get hy
  refine call_meets F.slot_list_pop ⟨_, e, rfl⟩ F.entry_list_pop (F.args_list_pop_2 _ _)
    (MeetsSeq.list_pop_at l its.toArray n i t k w (fitsIndex_both h1 h2) (by rw [List.size_toArray, ← hl]; exact hk) (by rw [← Array.getElem?_toList]; exact hw) (by rw [List.size_toArray]; omega)) ⟨e, ?_⟩
  refine ⟨y, _, I.lset (its' := its.eraseIdx k) hH e ?_ (r.eraseIdx k) ?_, rw', q⟩
  · show its.toArray.eraseIdxIfInBounds k = (its.eraseIdx k).toArray
    rw [List.eraseIdxIfInBounds_toArray]
  · have := len_erase xs k
    omega

def rReverse : V → List V → Hp → VK → Prop := fun x vs H Q => ∃ l xs, x = .ref l ∧ vs = [] ∧ H l = some (.lst xs) ∧ Q .non (upd H l (.lst xs.reverse))
theorem mt_reverse : MtM X "list.reverse" rReverse := by
  intro pins s σ H x vs v us Q I rx rv h
  obtain ⟨l, xs, rfl, rfl, hH, q⟩ := h
  cases rx
  have hus := rv.zero
  subst hus
  obtain ⟨z, its, n, r, hl, e⟩ := I.lstM hH
  refine call_meets F.slot_list_reverse ⟨_, e, rfl⟩ F.entry_list_reverse (F.args_list_reverse_1 _) (AutoSeq1.list_reverse_list_0 l its.toArray n (by rw [List.size_toArray]; omega)) ⟨e, ?_⟩
  refine ⟨.non, _, I.lset (its' := its.reverse) hH e (by simp) r.reverse ?_, rfl, q⟩
  rw [List.length_reverse]
  omega

def rCat : R2 := fun x y H Q => ∃ l b xs zs, x = .ref l ∧ y = .ref b ∧ H l = some (.lst xs) ∧ H b = some (.lst zs) ∧ xs.length + zs.length ≤ sizeLine ∧ ∀ p, H p = none → Q (.ref p) (upd H p (.lst (xs ++ zs)))
theorem op_cat : OpR X (binaryOp .Add) rCat := by
  intro pins s σ H x y v u Q I rx ry h
  obtain ⟨l, b, xs, zs, rfl, rfl, hH, hB, hz, q⟩ := h
  cases rx
  cases ry
  obtain ⟨z, its, n, r, hl, e⟩ := I.lstM hH
  obtain ⟨z2, its2, n2, r2, hl2, e2⟩ := I.lstM hB
  refine PySem.P.add_list e e2 ?_ (by rw [List.size_toArray, List.size_toArray]; omega)
  have ea : its.toArray ++ its2.toArray = (its ++ its2).toArray := by simp
  rw [ea]
  exact ⟨.ref _, _, I.lnew (t' := s.toks) (r.append r2) (by rw [List.length_append]; omega), rfl, q _ I.fresh⟩
end

section
variable {prog : Program} {w : World} {A : Around} {E : Value → Shared → Prop} {s : Shared}
set_option maxRecDepth 100000 in
end

section
variable {X : Cx}
end
end L2

namespace L2
open PySem PySem.Spec PyProof.Rows

theorem Vals.ints : ∀ {ns : List Int} {us : List Value}, Vals (ns.map V.int) us → IntsAre us ns
  | [], us, h => by
    rw [List.map_nil] at h
    cases h
    exact IntsAre.nil
  | n :: ns, us, h => by
    rw [List.map_cons] at h
    cases h with
    | cons r t =>
      obtain ⟨k, rfl⟩ := r
      exact IntsAre.cons n k (Vals.ints t)
theorem Vals.ref1 {a : Addr} {us : List Value} (r : Vals [V.ref a] us) : us = [Value.ref a] := by
  cases r with
  | cons r t =>
    cases t
    cases r
    rfl
section
variable {prog : Program} {w : World} {A : Around} {E : Value → Shared → Prop} {s : Shared} {l : Addr} {its : List Value} {ns : List Int} {Q : Value → Shared → Prop}
end

section
variable {X : Cx}
end

section
variable {X : Cx}
end

section
variable {X : Cx}
end

section
variable {X : Cx}
end

mutual
inductive Dp (K : PySem.W.Frag) (H : Hp) : V → PyData → Prop
  | non : Dp K H .non .none
  | bl (b : Bool) : Dp K H (.bl b) (.bool b)
  | int (i : Int) : Dp K H (.int i) (.int i)
  | str (x : Str) : Dp K H (.str x) (.str x)
  | lst {a : Addr} {xs : List V} {ds : List PyData} : SqL K H a xs → DpAll K H xs ds → Dp K H (.ref a) (.list ds)
  | tup {a : Addr} {xs : List V} {ds : List PyData} : SqT K H a xs → DpAll K H xs ds → Dp K H (.ref a) (.tuple ds)
inductive DpAll (K : PySem.W.Frag) (H : Hp) : List V → List PyData → Prop
  | nil : DpAll K H [] []
  | cons {v : V} {vs : List V} {d : PyData} {ds : List PyData} : Dp K H v d → DpAll K H vs ds → DpAll K H (v :: vs) (d :: ds)
end
section
variable {X : Cx} {pins : List (Addr × Obj)} {σ : St} {H : Hp} {s : Shared}
mutual
theorem Dp.reads (I : Inv X pins σ H s) : ∀ (d : PyData) (v : V) (u : Value), Dp X.K H v d → RelV v u → ∃ as, Reads s.heap u d as
  | .none, _, _, h, r => by
    cases h
    cases r
    exact ⟨_, Reads.none⟩
  | .bool b, _, _, h, r => by
    cases h
    cases r
    exact ⟨_, Reads.bool b⟩
  | .int i, _, _, h, r => by
    cases h
    obtain ⟨t, rfl⟩ := r
    exact ⟨_, Reads.int i t⟩
  | .str x, _, _, h, r => by
    cases h
    obtain ⟨t, rfl⟩ := r
    exact ⟨_, Reads.str x t⟩
  | .list ds, _, _, h, r => by
    cases h with
    | lst hs ha =>
      cases r
      obtain ⟨its, rv, ⟨o, n, ho, hc, _, hd⟩, _⟩ := I.list hs
      obtain ⟨as, hr⟩ := Dp.readsAll I ds _ its ha rv
      exact ⟨_, Reads.list ho hc hd hr⟩
  | .tuple ds, _, _, h, r => by
    cases h with
    | tup hs ha =>
      cases r
      obtain ⟨its, rv, ⟨o, ho, hc, n, hd⟩, _⟩ := I.tuple hs
      obtain ⟨as, hr⟩ := Dp.readsAll I ds _ its ha rv
      exact ⟨_, Reads.tuple ho hc hd hr⟩
  | .dict _, _, _, h, _ => by cases h
theorem Dp.readsAll (I : Inv X pins σ H s) : ∀ (ds : List PyData) (vs : List V) (us : List Value), DpAll X.K H vs ds → Vals vs us → ∃ as, ReadsAll s.heap us ds as
  | [], _, _, h, r => by
    cases h
    cases r
    exact ⟨_, ReadsAll.nil⟩
  | d :: ds, _, _, h, r => by
    cases h with
    | cons h1 h2 =>
      cases r with
      | cons r1 r2 =>
        obtain ⟨as, q1⟩ := Dp.reads I d _ _ h1 r1
        obtain ⟨bs, q2⟩ := Dp.readsAll I ds _ _ h2 r2
        exact ⟨_, ReadsAll.cons q1 q2⟩
end
end
section
variable {X : Cx}
def rEqD (K : PySem.W.Frag) : R2 := fun x y H Q => ∃ d e, Dp K H x d ∧ Dp K H y e ∧ SeqAt.shaped d = true ∧ SeqAt.shaped e = true ∧ Q (.bl (PyData.eqv d e)) H
def rNeD (K : PySem.W.Frag) : R2 := fun x y H Q => ∃ d e, Dp K H x d ∧ Dp K H y e ∧ SeqAt.shaped d = true ∧ SeqAt.shaped e = true ∧ Q (.bl (!PyData.eqv d e)) H
theorem op_eqD (hu : X.A.units + 64 < cLine) : OpR X (compareOp .Eq) (rEqD X.K) := by
  intro pins s σ H x y v u Q I rx ry h
  obtain ⟨d, e, hd, he, sd, se, q⟩ := h
  obtain ⟨as, r1⟩ := Dp.reads I d x v hd rx
  obtain ⟨bs, r2⟩ := Dp.reads I e y u he ry
  exact SeqAt.compareEq_shaped r1 r2 sd se hu ⟨.bl _, H, I, rfl, q⟩
theorem op_neD (hu : X.A.units + 64 < cLine) : OpR X (compareOp .NotEq) (rNeD X.K) := by
  intro pins s σ H x y v u Q I rx ry h
  obtain ⟨d, e, hd, he, sd, se, q⟩ := h
  obtain ⟨as, r1⟩ := Dp.reads I d x v hd rx
  obtain ⟨bs, r2⟩ := Dp.reads I e y u he ry
  exact SeqAt.compareNe_shaped r1 r2 sd se hu ⟨.bl _, H, I, rfl, q⟩
end
end L2

namespace L2
open PySem PySem.Spec PyProof.Rows
abbrev CellAt (h : Heap) (c : Addr) (v : Option Value) : Prop := h.IsCell c v
def relS (scope sc : Scope) : Scope :=
  { scope with names := scope.names.map fun (n, k) => if (k == .free && sc.kind == .function && sc.names.lookup n == some .cell) then (n, .cell) else (n, k) }

def cloFrom (cells : List (Str × Addr)) : List (Str × NameKind) → List (Str × Addr) → List (Str × Addr)
  | [], acc => acc
  | (n, k) :: r, acc => if k == .free then cloFrom cells r ((n, (cells.lookup n).getD 0) :: acc) else cloFrom cells r acc

theorem closure_loop (env : Env) (f : Str × NameKind → List (Str × Addr) → Sem (ForInStep (List (Str × Addr))))
    (hf : ∀ n k c, f (n, k) c = if k == .free then (do let a ← cellOf env n; pure (.yield ((n, a) :: c))) else pure (.yield c)) :
    ∀ (names : List (Str × NameKind)) (acc : List (Str × Addr)), (∀ y ∈ names, y.2 = .free → ∃ c, env.cells.lookup y.1 = some c) → forIn names acc f = pure (cloFrom env.cells names acc)
  | [], acc, _ => by rw [List.forIn_nil]; rfl
  | (n, k) :: r, acc, h => by
    rw [List.forIn_cons, hf]
    have ih := fun acc => closure_loop env f hf r acc fun y hy => h y (List.mem_cons_of_mem _ hy)
    unfold cloFrom
    by_cases hk : (k == NameKind.free) = true
    · rw [if_pos hk, if_pos hk]
      obtain ⟨c, hc⟩ := h (n, k) List.mem_cons_self (by simpa using hk)
      have e : cellOf env n = pure c := by unfold cellOf; rw [hc]
      rw [e]
      have e2 : (env.cells.lookup n).getD 0 = c := by rw [hc]; rfl
      rw [e2]
      exact ih _
    · rw [if_neg hk, if_neg hk]
      exact ih _
theorem closure_ok {scope : Scope} {env : Env} (h : ∀ y ∈ scope.names, y.2 = .free → ∃ c, env.cells.lookup y.1 = some c) : closureFor scope env = pure (cloFrom env.cells scope.names []) := by
  simp only [closureFor]
  rw [closure_loop env _ (fun n k c => rfl) scope.names [] h]
  rfl

theorem mem_lookup {α : Type} : ∀ {l : List (Str × α)} {n : Str} {c : α}, (n, c) ∈ l → ∃ c', l.lookup n = some c'
  | (k, v) :: r, n, c, h => by
    rw [List.lookup_cons]
    cases hb : n == k with
    | true => exact ⟨_, rfl⟩
    | false =>
      rcases List.mem_cons.mp h with e | h
      · cases e; simp at hb
      · exact mem_lookup h

theorem cloFrom_mem {cells : List (Str × Addr)} : ∀ {names : List (Str × NameKind)} {acc : List (Str × Addr)} {n : Str} {c : Addr}, (n, c) ∈ cloFrom cells names acc → (n, c) ∈ acc ∨ ((n, .free) ∈ names ∧ c = (cells.lookup n).getD 0)
  | [], _, _, _, h => .inl h
  | (m, k) :: r, acc, n, c, h => by
    unfold cloFrom at h
    split at h
    · rename_i hk
      have hk : k = .free := by simpa using hk
      rcases cloFrom_mem h with h | ⟨h1, h2⟩
      · rcases List.mem_cons.mp h with e | h
        · cases e; exact .inr ⟨hk ▸ List.mem_cons_self, rfl⟩
        · exact .inl h
      · exact .inr ⟨List.mem_cons_of_mem _ h1, h2⟩
    · rcases cloFrom_mem h with h | ⟨h1, h2⟩
      · exact .inl h
      · exact .inr ⟨List.mem_cons_of_mem _ h1, h2⟩
theorem cloFrom_acc {cells : List (Str × Addr)} : ∀ {names : List (Str × NameKind)} {acc : List (Str × Addr)} {p : Str × Addr}, p ∈ acc → p ∈ cloFrom cells names acc
  | [], _, _, h => h
  | (m, k) :: r, acc, p, h => by
    unfold cloFrom
    split
    · exact cloFrom_acc (List.mem_cons_of_mem _ h)
    · exact cloFrom_acc h
theorem cloFrom_has {cells : List (Str × Addr)} : ∀ {names : List (Str × NameKind)} {acc : List (Str × Addr)} {n : Str}, (n, .free) ∈ names → (n, (cells.lookup n).getD 0) ∈ cloFrom cells names acc
  | (m, k) :: r, acc, n, h => by
    unfold cloFrom
    rcases List.mem_cons.mp h with e | h
    · cases e
      exact cloFrom_acc List.mem_cons_self
    · split
      · exact cloFrom_has h
      · exact cloFrom_has h

theorem cells_mem : ∀ {names : List (Str × NameKind)} {h : Heap} {acc : List (Str × Addr)} {x : Str} {c : Addr}, (x, c) ∈ cellsFrom h.objs.size names acc →
    (x, c) ∈ acc ∨ ((x, .cell) ∈ names ∧ h.objs.size ≤ c ∧ CellAt (pushCells h names) c none)
  | [], _, _, _, _, h => .inl h
  | (n, k) :: r, h, acc, x, c, hm => by
    unfold cellsFrom at hm
    unfold pushCells
    split at hm
    · rename_i hk
      rw [if_pos hk]
      have hk : k = .cell := by simpa using hk
      rw [← Heap.size_push h { cls := .type "cell", data := .cell none }] at hm
      rcases cells_mem hm with hm | ⟨h1, h2, h3⟩
      · rcases List.mem_cons.mp hm with e | hm
        · cases e
          exact .inr ⟨hk ▸ List.mem_cons_self, Nat.le_refl _, _, pushCells_keeps r _ _ _ (Heap.get?_push_size _ rfl), rfl⟩
        · exact .inl hm
      · rw [Heap.size_push] at h2
        exact .inr ⟨List.mem_cons_of_mem _ h1, Nat.le_of_succ_le h2, h3⟩
    · rename_i hk
      rw [if_neg hk]
      rcases cells_mem hm with hm | ⟨h1, h2, h3⟩
      · exact .inl hm
      · exact .inr ⟨List.mem_cons_of_mem _ h1, h2, h3⟩
theorem cells_acc : ∀ {names : List (Str × NameKind)} {n : Nat} {acc : List (Str × Addr)} {p : Str × Addr}, p ∈ acc → p ∈ cellsFrom n names acc
  | [], _, _, _, h => h
  | (m, k) :: r, n, acc, p, h => by
    unfold cellsFrom
    split
    · exact cells_acc (List.mem_cons_of_mem _ h)
    · exact cells_acc h
theorem cells_has : ∀ {names : List (Str × NameKind)} {n : Nat} {acc : List (Str × Addr)} {x : Str}, (x, .cell) ∈ names → ∃ c, (x, c) ∈ cellsFrom n names acc
  | (m, k) :: r, n, acc, x, h => by
    unfold cellsFrom
    rcases List.mem_cons.mp h with e | h
    · cases e
      exact ⟨n, cells_acc List.mem_cons_self⟩
    · split
      · exact cells_has h
      · exact cells_has h
theorem cells_inj : ∀ {names : List (Str × NameKind)} {h : Heap} {acc : List (Str × Addr)} {x y : Str} {c : Addr}, (∀ p ∈ acc, p.2 < h.objs.size) → (∀ x y c, (x, c) ∈ acc → (y, c) ∈ acc → x = y) →
    (x, c) ∈ cellsFrom h.objs.size names acc → (y, c) ∈ cellsFrom h.objs.size names acc → x = y
  | [], _, _, _, _, _, _, hi, h1, h2 => hi _ _ _ h1 h2
  | (n, k) :: r, h, acc, x, y, c, hl, hi, h1, h2 => by
    unfold cellsFrom at h1 h2
    split at h1
    · rename_i hk
      rw [if_pos hk] at h2
      rw [← Heap.size_push h { cls := .type "cell", data := .cell none }] at h1 h2
      refine cells_inj (h := h.push _) (fun p hp => ?_) (fun x y c a b => ?_) h1 h2
      · rw [Heap.size_push]
        rcases List.mem_cons.mp hp with rfl | hp
        · exact Nat.lt_succ_self _
        · exact Nat.lt_succ_of_lt (hl p hp)
      · rcases List.mem_cons.mp a with e | a <;> rcases List.mem_cons.mp b with e' | b
        · cases e; cases e'; rfl
        · cases e; exact absurd (hl _ b) (Nat.lt_irrefl _)
        · cases e'; exact absurd (hl _ a) (Nat.lt_irrefl _)
        · exact hi _ _ _ a b
    · rename_i hk
      rw [if_neg hk] at h2
      exact cells_inj hl hi h1 h2

theorem newEnv_comp {M : Model} {A : Around} {E : Value → Shared → Prop} {s : Shared} {scope : Scope} {globals : Addr} {closure : List (Str × Addr)} {qual : Str} {func : Option Addr} {code : Value} {around : Env} {builtins : Addr} {Q : Env → Shared → Prop}
    (h : Q (newEnv scope s.heap.objs.size globals (cellsFrom (s.heap.objs.size + 1) scope.names closure) qual func code (some around) builtins)
      { s with heap := pushCells (s.heap.push { cls := .type "dict", data := .dict #[] }) scope.names }) :
    wpAny M A (newFunctionEnv scope globals closure [] qual func code (some around) builtins) Q E s := by
  simp only [newFunctionEnv, Option.isSome_some, if_true]
  refine wpAny_bind (wpAny_alloc ?_)
  refine wpAny_bind (wpAny_layCells _ (fun n k c => rfl) scope.names closure _ _ ?_)
  rw [show ({ s with heap := s.heap.push { cls := .type "dict", data := .dict #[] } } : Shared).heap.objs.size = s.heap.objs.size + 1 from Heap.size_push ..]
  rw [List.forIn_nil]
  exact wpAny_bind (wpAny_pure (wpAny_pure h))

theorem lookup_relS {sc : Scope} : ∀ {names : List (Str × NameKind)} {x : Str} {k : NameKind},
    (names.map fun (n, k) => if (k == NameKind.free && sc.kind == .function && sc.names.lookup n == some .cell) then (n, NameKind.cell) else (n, k)).lookup x = some k →
    ∃ k', names.lookup x = some k' ∧ (k = k' ∨ (k' = .free ∧ k = .cell))
  | [], _, _, h => by simp at h
  | (n, k₀) :: r, x, k, h => by
    have ih := @lookup_relS sc r x k
    have h' : List.lookup x ((if (k₀ == NameKind.free && sc.kind == .function && sc.names.lookup n == some .cell) = true then (n, NameKind.cell) else (n, k₀)) :: (r.map _)) = some k := h
    cases hx : x == n with
    | true =>
      simp only [List.lookup_cons, hx]
      by_cases hc : (k₀ == NameKind.free && sc.kind == .function && sc.names.lookup n == some .cell) = true
      · rw [if_pos hc] at h'
        simp only [List.lookup_cons, hx] at h'
        cases h'
        simp only [Bool.and_eq_true, beq_iff_eq] at hc
        exact ⟨k₀, rfl, .inr ⟨hc.1.1, rfl⟩⟩
      · rw [if_neg hc] at h'
        simp only [List.lookup_cons, hx] at h'
        cases h'
        exact ⟨_, rfl, .inl rfl⟩
    | false =>
      simp only [List.lookup_cons, hx]
      by_cases hc : (k₀ == NameKind.free && sc.kind == .function && sc.names.lookup n == some .cell) = true
      · rw [if_pos hc] at h'
        simp only [List.lookup_cons, hx] at h'
        exact ih h'
      · rw [if_neg hc] at h'
        simp only [List.lookup_cons, hx] at h'
        exact ih h'
structure BlkOk (N : List Str) (sc scope : Scope) (own : List (Str × Nat)) : Prop where
  kind : scope.kind = .function
  uniq : ∀ y ∈ scope.names, scope.names.lookup y.1 = some y.2
  ix : ∀ p ∈ own, N[p.2]? = some p.1
  free : ∀ y ∈ scope.names, y.2 = .free → sc.names.lookup y.1 = some .cell ∨ sc.names.lookup y.1 = some .free
  own : ∀ y ∈ scope.names, y.2 = .local ∨ y.2 = .cell → y.1 ∈ own.map (·.1) ∨ y.1 ∉ N
def wipe (σ : St) : List Nat → St
  | [] => σ
  | v :: vs => (wipe σ vs).set v none
theorem wipe_length (σ : St) : ∀ vs : List Nat, (wipe σ vs).length = σ.length
  | [] => rfl
  | v :: vs => by unfold wipe; rw [List.length_set, wipe_length σ vs]
theorem wipe_some {σ : St} {i : Nat} {x : V} : ∀ {vs : List Nat}, (wipe σ vs)[i]? = some (some x) → σ[i]? = some (some x) ∧ i ∉ vs
  | [], h => ⟨h, by simp⟩
  | v :: vs, h => by
    unfold wipe at h
    by_cases hi : v = i
    · subst hi
      by_cases hv : v < (wipe σ vs).length
      · rw [List.getElem?_set_self hv] at h; cases h
      · rw [List.getElem?_eq_none (by simpa using hv)] at h; cases h
    · rw [List.getElem?_set_ne hi] at h
      obtain ⟨h1, h2⟩ := wipe_some h
      exact ⟨h1, by simp only [List.mem_cons, not_or]; exact ⟨fun e => hi e.symm, h2⟩⟩

abbrev Cx.blk (X : Cx) (s : Shared) (H : Hp) (scope : Scope) (cenv : Env) (fp : List Addr) : Cx := { X with s_0 := s, H_0 := H, env := cenv, outer := X.stack, ex := fp, fn := fun x => scope.names.lookup x == some .cell, pn := [], xe := fun _ _ => False }
section
variable {X : Cx} {pins : List (Addr × Obj)} {σ : St} {H : Hp} {s : Shared}
theorem block_start {scope : Scope} {own : List (Str × Nat)} {fp : List Addr} (I : Inv X pins σ H s) (ok : BlkOk X.N X.env.scope scope own) (hN : X.N.Nodup) (hfp : ∀ b ∈ fp, FpOk X pins H b ∧ b < s.heap.objs.size) :
    Inv (X.blk s H scope (compEnvC scope (cellsFrom (s.heap.objs.size + 1) scope.names (cloFrom X.env.cells scope.names [])) s.heap.objs.size X.env) fp) [] (wipe σ (own.map (·.2))) H { s with heap := pushCells (s.heap.push { cls := .type "dict", data := .dict #[] }) scope.names } := by
  have hfree : ∀ y ∈ scope.names, y.2 = .free → ∃ c, X.env.cells.lookup y.1 = some c := fun y hy e => by
    rcases ok.free y hy e with k | k
    · exact I.ok.has _ (.inl k)
    · exact I.ok.has _ (.inr k)
  generalize hcenv : compEnvC scope (cellsFrom (s.heap.objs.size + 1) scope.names (cloFrom X.env.cells scope.names [])) s.heap.objs.size X.env = cenv
  have kp : ∀ b o, s.heap.get? b = some o → (pushCells (s.heap.push { cls := .type "dict", data := .dict #[] }) scope.names).get? b = some o := fun b o e => pushCells_keeps _ _ _ _ (Heap.get?_push_of_some _ e)
  have hL : cenv.locals = s.heap.objs.size := by rw [← hcenv]; rfl
  have hcl : cenv.cells = cellsFrom (s.heap.objs.size + 1) scope.names (cloFrom X.env.cells scope.names []) := by rw [← hcenv]; rfl
  have hsc : cenv.scope = relS scope X.env.scope := by rw [← hcenv]; rfl
  rw [← Heap.size_push s.heap { cls := .type "dict", data := .dict #[] }] at hcl
  have cm : ∀ {y c}, (y, c) ∈ cloFrom X.env.cells scope.names [] → X.env.cells.lookup y = some c ∧ c < s.heap.objs.size := fun {y c} hm => by
    rcases cloFrom_mem hm with hm | ⟨h1, rfl⟩
    · cases hm
    · obtain ⟨c, hc⟩ := hfree _ h1 rfl
      rw [hc]
      obtain ⟨w, z⟩ := I.cell _ _ hc
      exact ⟨rfl, z.lt⟩
  have mem : ∀ {y c}, cenv.cells.lookup y = some c → (X.env.cells.lookup y = some c ∧ c < s.heap.objs.size) ∨ (s.heap.objs.size + 1 ≤ c ∧ CellAt (pushCells (s.heap.push { cls := .type "dict", data := .dict #[] }) scope.names) c none) := fun {y c} e => by
    rw [hcl] at e
    rcases cells_mem (PySem.mem_of_lookup e) with hm | ⟨_, h2, h3⟩
    · exact .inl (cm hm)
    · rw [Heap.size_push] at h2; exact .inr ⟨h2, h3⟩
  have look : ∀ {y}, scope.names.lookup y = some .free → ∃ c, cenv.cells.lookup y = some c ∧ X.env.cells.lookup y = some c := fun {y} hl => by
    have hy : (y, NameKind.free) ∈ scope.names := PySem.mem_of_lookup hl
    obtain ⟨c', e'⟩ := mem_lookup (cells_acc (names := scope.names) (n := (s.heap.push { cls := .type "dict", data := .dict #[] }).objs.size) (cloFrom_has (cells := X.env.cells) (acc := []) hy))
    rw [← hcl] at e'
    refine ⟨c', e', ?_⟩
    rw [hcl] at e'
    rcases cells_mem (PySem.mem_of_lookup e') with hm | ⟨h1, _, _⟩
    · exact (cm hm).1
    · have := ok.uniq _ h1
      rw [hl] at this; cases this
  have okB : (X.blk s H scope cenv fp).Ok := by
    refine ⟨I.ok.mod, by show cenv.scope.kind = _; rw [hsc]; exact ok.kind, by show cenv.globals = _; rw [← hcenv]; exact I.ok.glob, by show cenv.builtins = _; rw [← hcenv]; exact I.ok.blt, by show s.heap.objs.size ≤ cenv.locals; rw [hL]; exact Nat.le_refl _,
      fun y z c e1 e2 => ?_, fun y hy => ?_, fun y c z e => ?_, I.ok.hd, I.ok.frames, .inl rfl, fun b hb => ⟨?_, fun y c e z => ?_⟩, I.bs, Nat.le_trans I.ok.bsz I.sz, fun b o e hb => ?_, fun b hb z => ?_, I.stack, I.stkFree⟩
    · have e1 : cenv.cells.lookup y = some c := e1
      have e2 : cenv.cells.lookup z = some c := e2
      rw [hcl] at e1 e2
      refine cells_inj (fun p hp => ?_) (fun y z c a b => I.ok.inj y z c (cm a).1 (cm b).1) (PySem.mem_of_lookup e1) (PySem.mem_of_lookup e2)
      rw [Heap.size_push]
      exact Nat.lt_succ_of_lt (cm (y := p.1) (c := p.2) hp).2
    · show ∃ c, cenv.cells.lookup y = some c
      have key : ∀ k, cenv.kindOf y = some k → (k = .cell ∨ k = .free) → ∃ c, cenv.cells.lookup y = some c := fun k hk hk' => by
        unfold Env.kindOf at hk
        rw [hsc] at hk
        obtain ⟨k', e, r⟩ := lookup_relS hk
        have : k' = .cell ∨ k' = .free := by
          rcases r with rfl | ⟨rfl, _⟩
          · exact hk'
          · exact .inr rfl
        rcases this with rfl | rfl
        · obtain ⟨c, hm⟩ := cells_has (n := (s.heap.push { cls := .type "dict", data := .dict #[] }).objs.size) (acc := cloFrom X.env.cells scope.names []) (PySem.mem_of_lookup e)
          obtain ⟨c', e'⟩ := mem_lookup hm
          exact ⟨c', by rw [hcl]; exact e'⟩
        · obtain ⟨c, h1, _⟩ := look e
          exact ⟨c, h1⟩
      rcases hy with hy | hy
      · exact key _ hy (.inl rfl)
      · exact key _ hy (.inr rfl)
    · have z : (scope.names.lookup y == some NameKind.cell) = true := z
      have z : scope.names.lookup y = some .cell := by simpa using z
      have e : cenv.cells.lookup y = some c := e
      rw [hcl] at e
      rcases cells_mem (PySem.mem_of_lookup e) with hm | ⟨_, h2, _⟩
      · rcases cloFrom_mem hm with hm | ⟨h1, _⟩
        · cases hm
        · have q := ok.uniq _ h1
          rw [z] at q; cases q
      · rw [Heap.size_push] at h2
        exact Nat.le_of_succ_le h2
    · show b ≠ cenv.locals
      rw [hL]; exact Nat.ne_of_lt (hfp b hb).2
    · have e : cenv.cells.lookup y = some c := e
      rcases mem e with ⟨h1, _⟩ | ⟨h1, _⟩
      · exact (hfp b hb).1.2.2.2.2.1 y c h1 z
      · have h2 : s.heap.objs.size + 1 ≤ b := by rw [← z]; exact h1
        exact absurd (Nat.lt_of_lt_of_le (hfp b hb).2 (Nat.le_of_succ_le h2)) (Nat.lt_irrefl _)
    · rcases (hfp b hb).1.2.2.2.1 with z | z
      · exact I.ok.noex b o e z
      · exact absurd (Nat.lt_of_lt_of_le (Heap.lt_size e) (Nat.le_trans I.ok.bsz z)) (Nat.lt_irrefl _)
    · rcases List.mem_cons.mp (I.stkSub b z) with z | z
      · exact (hfp b hb).1.2.1 z
      · exact (hfp b hb).1.2.2.1 z
  refine ⟨okB, rfl, I.bare, Un.kept kp, ⟨fun _ => none, ?_, fun i y av e1 e2 e3 => ?_⟩, fun y c e => ?_, ?_, fun y c e => ?_, fun p hp => ?_, I.hok.kept kp, by rw [wipe_length]; exact I.len⟩
  · show Heap.Ns _ cenv.locals _
    rw [hL]
    exact Heap.Ns.keeps (Heap.Ns.new ..) fun b o e => pushCells_keeps _ _ _ _ e
  · obtain ⟨e2, hne⟩ := wipe_some e2
    have hfr : scope.names.lookup y = some .free ∧ (cenv.kindOf y = some .cell ∨ cenv.kindOf y = some .free) := by
      have key : ∀ k, cenv.scope.names.lookup y = some k → k = .local ∨ k = .cell ∨ k = .free → scope.names.lookup y = some .free ∧ (cenv.kindOf y = some .cell ∨ cenv.kindOf y = some .free) := fun k hk hk' => by
        have hk0 := hk
        rw [hsc] at hk
        obtain ⟨k', e, r⟩ := lookup_relS hk
        have no : ¬ (k' = .local ∨ k' = .cell) := fun hh => by
          rcases ok.own _ (PySem.mem_of_lookup e) hh with e' | e'
          · obtain ⟨p, hp, hpy⟩ := List.mem_map.mp e'
            have e3 := ok.ix p hp
            have : p.1 = y := hpy
            rw [this] at e3
            exact hne (List.mem_map.mpr ⟨p, hp, nodup_ix hN e3 e1⟩)
          · exact e' (List.mem_of_getElem? e1)
        rcases r with rfl | ⟨rfl, rfl⟩
        · rcases hk' with rfl | rfl | rfl
          · exact absurd (.inl rfl) no
          · exact absurd (.inr rfl) no
          · exact ⟨e, .inr hk0⟩
        · exact ⟨e, .inl hk0⟩
      have e3 : Vis cenv.scope y := e3
      rcases e3 with e3 | e3 | e3
      · exact key _ e3 (.inl rfl)
      · exact key _ e3 (.inr (.inl rfl))
      · exact key _ e3 (.inr (.inr rfl))
    obtain ⟨m, hn, hl⟩ := I.loc
    have hvis : Vis X.env.scope y := (ok.free _ (PySem.mem_of_lookup hfr.1) rfl).elim (fun k => .inr (.inl k)) (fun k => .inr (.inr k))
    obtain ⟨w, r, q⟩ := hl i y av e1 e2 hvis
    refine ⟨w, r, .inr ⟨hfr.2, ?_⟩⟩
    obtain ⟨c, h1, h2⟩ := look hfr.1
    rcases q with ⟨k, _⟩ | ⟨_, c', e', z⟩
    · have k : X.env.scope.names.lookup y = some .local := k
      rcases ok.free _ (PySem.mem_of_lookup hfr.1) rfl with k' | k' <;> rw [show X.env.scope.names.lookup y = _ from k'] at k <;> cases k
    · rw [h2] at e'; cases e'
      exact ⟨c, h1, z.keeps kp⟩
  · have e : cenv.cells.lookup y = some c := e
    rcases mem e with ⟨h1, _⟩ | ⟨_, z⟩
    · obtain ⟨w, z⟩ := I.cell y c h1
      exact ⟨w, z.keeps kp⟩
    · exact ⟨_, z⟩
  · show H cenv.locals = none
    rw [hL]; exact I.hok.fresh (Nat.le_refl _)
  · have e : cenv.cells.lookup y = some c := e
    rcases mem e with ⟨h1, _⟩ | ⟨h1, _⟩
    · exact I.freeC y c h1
    · exact I.hok.fresh (Nat.le_of_succ_le h1)
  · exact absurd (show p ∈ ([] : List (Addr × Obj)) ++ [] from hp) (by simp)

theorem app_ok {E : Value → Shared → Prop} {D : Addr} {xs : List V} {y : V} {v : Value} {Q : Value → Shared → Prop} (I : Inv X pins σ H s) (hD : H D = some (.lst xs)) (hz : xs.length < sizeLine) (r : RelV y v)
    (h : ∀ s', Inv X pins σ (upd H D (.lst (xs ++ [y]))) s' → Q .none s') : wpAny (model X.prog X.w) X.A (call (.builtin "list.append") [.ref D, v]) Q E s := by
  obtain ⟨hz', its, n, ri, e⟩ := I.hok D _ hD
  have hl := ri.length
  refine append_at (hsz := by rw [List.size_toArray]; omega) e fun h' sb ho' => ?_
  refine h { s with heap := h' } (I.write (t' := s.toks) (by rw [hD]; trivial) (.inl rfl) (fun b u hb q => (sb.2 b hb).trans q) ⟨_, ho'⟩ ⟨by rw [List.length_append]; exact hz, its ++ [v], n + 1, ri.append (.cons r .nil), ?_⟩)
  rw [ho']
  simp

def PTs (X : Cx) (ifs : List Expr) (t : TT) : Prop :=
  ∀ (pins : List (Addr × Obj)) (s : Shared) (σ : St) (H : Hp) (Q : Bool → Hp → Prop), Inv X pins σ H s → t σ H Q →
    wpAny (model X.prog X.w) X.A (forIn ifs true fun c r => if r = true then do let ok ← isTrue c X.env (eval c X.env); pure (ForInStep.yield ok) else pure (ForInStep.yield r)) (TP X pins σ Q) X.xe s
def tYes : TT := fun _ H Q => Q true H
theorem pts_nil : PTs X [] tYes := fun _ _ _ H _ I h => wpAny_tests_nil ⟨H, I, h⟩
theorem pts_one {c : Expr} {t : TT} (h : PT X c t) : PTs X [c] t := fun pins s σ H Q I hw => wpAny_tests_one (h pins s σ H Q I hw)
end

theorem thnF {α : Type} {t : Sem α} {Q Q' : α → Shared → Prop} {M : Model} {A : Around} {E : Value → Shared → Prop} {s : Shared} (h : wpAny M A t Q (fun _ _ => False) s) (hQ : ∀ a s, Q a s → Q' a s) : wpAny M A t Q' E s := wpAny_mono h hQ fun _ _ z => False.elim z

theorem compLoop_any {prog : Program} {w : World} {A : Around} {R : Result → Shared → Prop} {s : Shared} {elt target iter : Expr} {ifs : List Expr} {scope : Scope} {pos : Pos} {it acc : Value} {env : Env} (I : Nat → Shared → Prop)
    (turn : ∀ n s, I n s → wpAny (model prog w) A (pyNext it) (fun r s₁ => match r with
      | none => R (.ok .next) s₁
      | some v => wpAny (model prog w) A (letOwnedTupleGo target it v) (fun _ s₁' => wpAny (model prog w) A (assign target env v) (fun _ s₂ =>
          wpAny (model prog w) A (forIn ifs true fun c r => if r = true then do let ok ← isTrue c env (eval c env); pure (ForInStep.yield ok) else pure (ForInStep.yield r)) (fun ok s₃ =>
            if ok = true then wpAny (model prog w) A (eval elt env) (fun x s₄ =>
              wpAny (model prog w) A (call (.builtin "list.append") [acc, x]) (fun _ s₅ => ∃ m, m < n ∧ I m s₅) (notedBy (model prog w) A env fun e s' => R (.error e) s') s₄) (notedBy (model prog w) A env fun e s' => R (.error e) s') s₃
            else ∃ m, m < n ∧ I m s₃) (notedBy (model prog w) A env fun e s' => R (.error e) s') s₂) (notedBy (model prog w) A env fun e s' => R (.error e) s') s₁') (notedBy (model prog w) A env fun e s' => R (.error e) s') s₁) (notedBy (model prog w) A env fun e s' => R (.error e) s') s)
    (n : Nat) (h : I n s) :
    codeAny (model prog w) A (.compLoop (.ListComp elt [⟨target, iter, ifs, 0⟩] scope pos) 0 it acc env) R s := by
  refine codeAny_loop rfl I (fun n s hI => ?_) n h
  show wpAny _ A ((compTurn (.ListComp elt [⟨target, iter, ifs, 0⟩] scope pos) 0 it acc env).onRaise (fun x => do noteFrame x env; theTreesLotGoes x)) _ _ s
  refine wpAny_noted ?_
  rw [compTurn_list]
  refine wpAny_bind (wpAny_standAt (wpAny_bind (wpAny_mono (turn n s hI) (fun r s₁ h₁ => ?_) fun _ _ h' => h')))
  cases r with
  | none => exact wpAny_pure h₁
  | some v =>
    refine wpAny_bind (wpAny_mono h₁ (fun _ s₁' h₁' => ?_) fun _ _ h' => h')
    refine wpAny_bind (wpAny_mono h₁' (fun _ s₂ h₂ => wpAny_bind (wpAny_mono h₂ (fun ok s₃ h₃ => ?_) fun _ _ h' => h')) fun _ _ h' => h')
    cases ok with
    | false => exact wpAny_pure ⟨rfl, h₃⟩
    | true =>
      exact wpAny_bind (wpAny_bind (wpAny_mono h₃ (fun x s₄ h₄ => wpAny_bind (wpAny_mono h₄ (fun _ s₅ h₅ => wpAny_pure (wpAny_pure ⟨rfl, h₅⟩)) fun _ _ h' => h')) fun _ _ h' => h'))

section
variable {X : Cx}
def tLc (wi : TI) (g : TG) (tt : TT) (te : TE) (vs : List Nat) : TE := fun σ H Q => wi σ H fun J H1 => ∀ D, H1 D = none → ∃ W : Nat → Nat → Hp → Prop, (∃ m, W 0 m (upd H1 D (.lst []))) ∧ ∀ i m H, W i m H →
  (J.stop i H ∧ Q (.ref D) H) ∨ (J.go i H ∧ ∃ Nx : Hp → Prop, (∀ H', Nx H' → ∃ m', m' < m ∧ W (i + 1) m' H') ∧ ∀ x H', J.yld i H x H' → g x (wipe σ vs) H' fun σ2 H2 => wipe σ2 vs = wipe σ vs ∧ tt σ2 H2 fun b H3 =>
    if b = true then te σ2 H3 fun y H4 => ∃ acc, H4 D = some (.lst acc) ∧ acc.length < sizeLine ∧ Nx (upd H4 D (.lst (acc ++ [y]))) else Nx H3)
theorem lc_core {pins : List (Addr × Obj)} {s : Shared} {σ : St} {H : Hp} {Q : VK} {elt tg iter : Expr} {ifs : List Expr} {scope : Scope} {own : List (Str × Nat)} {pos pos' : Pos} {wi : TI} {g : TG} {tt : TT} {te : TE} {use : Option (Value → Sem Unit)} {Qf : Value → Shared → Prop}
    (hc : X.calm = true) (hN : X.N.Nodup) (I : Inv X pins σ H s) (hi : PI X tg iter wi) (ok : BlkOk X.N X.env.scope scope own)
    (hg : ∀ (s : Shared) (H : Hp) (C : Addr) (cl : List (Str × Addr)) (fp : List Addr), PG (X.blk s H scope (compEnvC scope cl C X.env) fp) tg g) (ht : ∀ (s : Shared) (H : Hp) (C : Addr) (cl : List (Str × Addr)) (fp : List Addr), PTs (X.blk s H scope (compEnvC scope cl C X.env) fp) ifs tt)
    (he : ∀ (s : Shared) (H : Hp) (C : Addr) (cl : List (Str × Addr)) (fp : List Addr), PE (X.blk s H scope (compEnvC scope cl C X.env) fp) elt te) (hs : ∀ x, foldedSetIterable iter X.env x = pure x)
    (h : tLc wi g tt te (own.map (·.2)) σ H Q)
    (hRR : ∀ D C s' m H', Inv X pins σ H' s' → Q (.ref D) H' → s'.heap.Ns C m → FpOk X pins H' C → compPost (model X.prog X.w) X.A X.xe use Qf (.ref D) C (.ok .next) s') :
    wpAny (model X.prog X.w) X.A (comprehension (.ListComp elt [⟨tg, iter, ifs, 0⟩] scope pos) scope X.env pos' (newList []) false (eval iter X.env) use) Qf X.xe s := by
  have hfree : ∀ y ∈ scope.names, y.2 = .free → ∃ c, X.env.cells.lookup y.1 = some c := fun y hy e => by
    rcases ok.free y hy e with k | k
    · exact I.ok.has _ (.inl k)
    · exact I.ok.has _ (.inr k)
  refine wpAny_comprehension_free (use := use) rfl hs (closure_ok hfree) ok.kind (fun y hy e => by rw [ok.uniq y hy, e])
    (thn (hi pins s σ H _ I h) fun xv s1 hx => thn hx fun itv s2 h2 => ?_)
  obtain ⟨it, fp, tn, J, H2, e, I2, T, st2, f2, q⟩ := h2
  subst e
  refine wpAny_newObj_type (newEnv_comp ?_) (by show 0 ≤ sizeLine; decide)
  generalize hD : s2.heap.objs.size = D
  have hDn : H2 D = none := I2.hok.fresh (Nat.le_of_eq hD)
  obtain ⟨W, ⟨m0, w0⟩, turn⟩ := q D hDn
  -- the new list
  generalize hs3 : ({ s2 with heap := s2.heap.push { cls := .type "list", data := .seq ([] : List Value).toArray } } : Shared) = s3
  have I3 : Inv X pins σ (upd H2 D (.lst [])) s3 := by
    rw [← hs3]
    refine I2.laid (t' := s2.toks) (fun b o e => Heap.get?_push_of_some _ e) (Nat.le_of_eq hD) ⟨Nat.zero_le _, [], 0, .nil, ?_⟩
    rw [← hD]
    exact Heap.get?_push_size _ rfl
  have h3 : s3.heap = s2.heap.push { cls := .type "list", data := .seq ([] : List Value).toArray } := by rw [← hs3]
  have sz : ∀ b ∈ fp, b < s2.heap.objs.size := fun b hb => by
    obtain ⟨o, e, _⟩ := T.obj _ _ st2 b hb
    exact Heap.lt_size e
  have f3 : ∀ b ∈ fp, FpOk X pins (upd H2 D (.lst [])) b ∧ b < s3.heap.objs.size := fun b hb => by
    have hlt := sz b hb
    refine ⟨⟨?_, (f2 b hb).2⟩, by rw [h3, Heap.size_push]; exact Nat.lt_succ_of_lt hlt⟩
    rw [upd_ne (by rw [← hD]; exact Nat.ne_of_lt hlt)]
    exact (f2 b hb).1
  have st3 : tn 0 s3.heap := T.keep _ _ _ st2 fun b _ o e => by rw [h3]; exact Heap.get?_push_of_some _ e
  have I4 := block_start I3 ok hN f3
  have pg := hg s3 (upd H2 D (.lst [])) s3.heap.objs.size (cellsFrom (s3.heap.objs.size + 1) scope.names (cloFrom X.env.cells scope.names [])) fp
  have pt := ht s3 (upd H2 D (.lst [])) s3.heap.objs.size (cellsFrom (s3.heap.objs.size + 1) scope.names (cloFrom X.env.cells scope.names [])) fp
  have pe := he s3 (upd H2 D (.lst [])) s3.heap.objs.size (cellsFrom (s3.heap.objs.size + 1) scope.names (cloFrom X.env.cells scope.names [])) fp
  show codeAny _ _ (.compStart (.ListComp elt [⟨tg, iter, ifs, 0⟩] scope pos) 0 (.ref it) (.ref D) (compEnvC scope (cellsFrom (s3.heap.objs.size + 1) scope.names (cloFrom X.env.cells scope.names [])) s3.heap.objs.size X.env)) (compPost (model X.prog X.w) X.A X.xe use Qf (.ref D) s3.heap.objs.size) { s3 with heap := pushCells (s3.heap.push { cls := .type "dict", data := .dict #[] }) scope.names }
  have nfp : ∀ b ∈ fp, (upd H2 D (.lst [])) b = none := fun b hb => (f3 b hb).1.1
  generalize hce : compEnvC scope (cellsFrom (s3.heap.objs.size + 1) scope.names (cloFrom X.env.cells scope.names [])) s3.heap.objs.size X.env = ce at I4 pg pt pe ⊢
  have cL : ce.locals = s3.heap.objs.size := by subst hce; rfl
  generalize hH3 : upd H2 D (.lst []) = H3 at I3 I4 pg pt pe w0 nfp f3
  generalize hs4 : ({ s3 with heap := pushCells (s3.heap.push { cls := .type "dict", data := .dict #[] }) scope.names } : Shared) = s4 at I4 ⊢
  have st4 : tn 0 s4.heap := T.keep _ _ _ st3 fun b _ o e => by rw [← hs4]; exact pushCells_keeps _ _ _ _ (Heap.get?_push_of_some _ e)
  have stat : ∀ {σ' : St} {H' : Hp} {s' : Shared}, Inv (X.blk s3 H3 scope ce fp) [] σ' H' s' → (∀ b ∈ fp, H' b = none) → ∀ b ∈ fp, FpOk (X.blk s3 H3 scope ce fp) [] H' b := fun {σ' H' s'} I' hn b hb =>
    ⟨hn b hb, (I'.ok.exf b hb).1, I'.ok.exfs b hb, .inl hb, fun x c e => (I'.ok.exf b hb).2 x c e, fun p hp => absurd (show p ∈ ([] : List (Addr × Obj)) ++ [] from hp) (by simp)⟩
  have loop : codeAny (model X.prog X.w) X.A (.compLoop (.ListComp elt [⟨tg, iter, ifs, 0⟩] scope pos) 0 (.ref it) (.ref D) ce) (compPost (model X.prog X.w) X.A X.xe use Qf (.ref D) s3.heap.objs.size) s4 := by
    refine compLoop_any (fun n s' => ∃ i H', Inv (X.blk s3 H3 scope ce fp) [] (wipe σ (own.map (·.2))) H' s' ∧ tn i s'.heap ∧ (∀ b ∈ fp, H' b = none) ∧ W i n H') ?_ m0 ⟨0, H3, I4, st4, nfp, w0⟩
    rintro n s5 ⟨i, H5, I5, st5, n5, w5⟩
    rcases turn i n H5 w5 with ⟨stop, qq⟩ | ⟨go, Nx, hNx, step⟩
    · have td := T.done (X.blk s3 H3 scope ce fp) rfl rfl rfl hc i [] s5 _ H5 (fun _ _ => False) I5 (stat I5 n5) st5 stop
      refine thnF td fun r s6 ⟨hr, I6⟩ => ?_
      subst hr
      -- back in the def's context
      have I7 : Inv X pins σ H5 s6 := I3.call' (ch := fp) I6.os I6.base I6.hok I6.bare fun b hb => ⟨(f3 b hb).1.2.2.2.1, (f3 b hb).1.2.1, (f3 b hb).1.2.2.2.2.1, (f3 b hb).1.2.2.2.2.2⟩
      have nC : H5 s3.heap.objs.size = none := by
        have z : H5 ce.locals = none := I6.free
        rw [cL] at z
        exact z
      obtain ⟨m, hn, _⟩ := I6.loc
      have hn : s6.heap.Ns ce.locals m := hn
      rw [cL] at hn
      exact hRR D s3.heap.objs.size s6 m H5 I7 qq hn (I3.fpOk (Nat.le_refl _) nC)
    · have ti := T.item (X.blk s3 H3 scope ce fp) rfl rfl rfl hc i [] s5 _ H5 (fun _ _ => False) I5 (stat I5 n5) st5 go
      refine thnF ti fun r s6 ⟨u, hr, h6⟩ => ?_
      subst hr
      refine thnF h6 fun _ s7 ⟨x, H7, I7, r7, y7, st7, n7⟩ => ?_
      have I7' := I7.pinned (stat I7 n7) (T.obj _ _ st7)
      refine thnF (pg _ s7 _ H7 x u _ I7' r7 (step x H7 y7)) fun _ s8 ⟨σ8, H8, I8, hw8, q8⟩ => ?_
      refine thnF (pt _ s8 σ8 H8 _ I8 q8) fun b s9 ⟨H9, I9, q9⟩ => ?_
      -- the turn's end
      have fin : ∀ {s' : Shared} {H' : Hp}, Inv (X.blk s3 H3 scope ce fp) ([] ++ pinsAt fp s7.heap) σ8 H' s' → Nx H' → ∃ m, m < n ∧ ∃ i H', Inv (X.blk s3 H3 scope ce fp) [] (wipe σ (own.map (·.2))) H' s' ∧ tn i s'.heap ∧ (∀ b ∈ fp, H' b = none) ∧ W i m H' := fun {s' H'} I' nx => by
        obtain ⟨m', hm, w'⟩ := hNx H' nx
        have pin' : ∀ b ∈ fp, ∀ o, s7.heap.get? b = some o → s'.heap.get? b = some o ∧ H' b = none := fun b hb o e =>
          let z := I'.pin (b, o) (List.mem_append_right _ (List.mem_append_right _ (mem_pinsAt hb e)))
          ⟨z.1, z.2.1⟩
        have hl : (wipe σ (own.map (·.2))).length = σ8.length := by rw [← hw8, wipe_length]
        refine ⟨m', hm, i + 1, H', (I'.unpinned (pins := [])).weak hl (fun j v e => ?_), T.keep _ _ _ st7 fun b hb o e => (pin' b hb o e).1, fun b hb => ?_, w'⟩
        · rw [← hw8] at e
          exact (wipe_some e).1
        · obtain ⟨o, e, _⟩ := T.obj _ _ st7 b hb
          exact (pin' b hb o e).2
      cases b with
      | false =>
        simp only [Bool.false_eq_true, if_false] at q9 ⊢
        exact fin I9 q9
      | true =>
        simp only [if_true] at q9 ⊢
        refine thnF (pe _ s9 σ8 H9 _ I9 q9) fun z s10 ⟨yv, H10, I10, r10, acc, hD10, hz10, nx⟩ => ?_
        exact app_ok (X := X.blk s3 H3 scope ce fp) I10 hD10 hz10 r10 fun s11 I11 => fin I11 nx
  exact codeAny_compStart_list loop (T.self X.A 0 _ _ _ st4 loop)
theorem pe_lc {elt tg iter : Expr} {ifs : List Expr} {scope : Scope} {own : List (Str × Nat)} {pos : Pos} {wi : TI} {g : TG} {tt : TT} {te : TE} (hc : X.calm = true) (hN : X.N.Nodup) (hi : PI X tg iter wi) (ok : BlkOk X.N X.env.scope scope own)
    (hg : ∀ (s : Shared) (H : Hp) (C : Addr) (cl : List (Str × Addr)) (fp : List Addr), PG (X.blk s H scope (compEnvC scope cl C X.env) fp) tg g) (ht : ∀ (s : Shared) (H : Hp) (C : Addr) (cl : List (Str × Addr)) (fp : List Addr), PTs (X.blk s H scope (compEnvC scope cl C X.env) fp) ifs tt)
    (he : ∀ (s : Shared) (H : Hp) (C : Addr) (cl : List (Str × Addr)) (fp : List Addr), PE (X.blk s H scope (compEnvC scope cl C X.env) fp) elt te) (hs : ∀ x, foldedSetIterable iter X.env x = pure x := by intro _; rfl) :
    PE X (.ListComp elt [⟨tg, iter, ifs, 0⟩] scope pos) (tLc wi g tt te (own.map (·.2))) := by
  intro pins s σ H Q I h
  rw [eval_ListComp]
  refine lc_core hc hN I hi ok hg ht he hs h fun D C s' m H' I' q hn f => ⟨m, hn, fun h'' sb => ?_⟩
  obtain ⟨f0, f1, f2, f3, f4, f5⟩ := f
  exact ⟨.ref D, H', I'.turned (t' := s'.toks) (fun b o hb e => (sb.2 b hb).trans e) f0 f1 f3 f4 f5, rfl, q⟩
theorem ps_setLc {i : Nat} {y : Str} {py : Pos} {elt tg iter : Expr} {ifs : List Expr} {scope : Scope} {own : List (Str × Nat)} {pos spos : Pos} {wi : TI} {g : TG} {tt : TT} {te : TE} (hc : X.calm = true) (hN : X.N.Nodup) (hy : X.N[i]? = some y) (hyl : X.env.scope.names.lookup y = some .local)
    (hsw : swapsWith (.ListComp elt [⟨tg, iter, ifs, 0⟩] scope pos) (some (.Name y py)) spos.line X.env = pure true) (hi : PI X tg iter wi) (ok : BlkOk X.N X.env.scope scope own)
    (hg : ∀ (s : Shared) (H : Hp) (C : Addr) (cl : List (Str × Addr)) (fp : List Addr), PG (X.blk s H scope (compEnvC scope cl C X.env) fp) tg g) (ht : ∀ (s : Shared) (H : Hp) (C : Addr) (cl : List (Str × Addr)) (fp : List Addr), PTs (X.blk s H scope (compEnvC scope cl C X.env) fp) ifs tt)
    (he : ∀ (s : Shared) (H : Hp) (C : Addr) (cl : List (Str × Addr)) (fp : List Addr), PE (X.blk s H scope (compEnvC scope cl C X.env) fp) elt te) (hs : ∀ x, foldedSetIterable iter X.env x = pure x := by intro _; rfl) :
    PS X (.Assign [.Name y py] (.ListComp elt [⟨tg, iter, ifs, 0⟩] scope pos) spos) (tAsg (tLc wi g tt te (own.map (·.2))) (gName i)) := by
  intro pins s σ H D I h
  rw [exec_Assign_Name_used _ _ _ _ hsw]
  refine wpAny_bind (wpAny_standAt (wpAny_bind ?_))
  show wpAny _ X.A (do let _ ← comprehension (.ListComp elt [⟨tg, iter, ifs, 0⟩] scope pos) scope X.env (firstIterPos [⟨tg, iter, ifs, 0⟩] pos) (newList []) false (eval iter X.env) (some (assign (.Name y py) X.env))) _ _ s
  have h : tLc wi g tt te (own.map (·.2)) σ H (fun x H1 => gName i x σ H1 D.nx) := h
  refine wpAny_bind (thn (lc_core (Qf := fun _ s' => SP X pins D .next s') hc hN I hi ok hg ht he hs h fun L C s' m H' I' q hn f => ?_) fun _ s' hq => wpAny_pure (wpAny_pure hq))
  show wpAny _ _ (assign (.Name y py) X.env (.ref L)) _ _ _
  refine wpAny_assign_Name (store_ok2 (v := V.ref L) I' hN hy (.inl hyl) rfl (fun s2 I2 ⟨a, sb, ha⟩ => ?_) (.inr hyl))
  obtain ⟨f0, f1, f2, f3, f4, f5⟩ := f
  have haC : C ≠ a := by
    rcases ha with z | z
    · rw [z]; exact f1
    · exact fun e => f4 y a z e.symm
  refine ⟨m, hn.sameBut sb haC, fun h3 sb3 => ?_⟩
  exact ⟨_, H', I2.turned (t' := s2.toks) (fun b o hb e => (sb3.2 b hb).trans e) f0 f1 f3 f4 f5, q⟩
theorem sw_true {elt : Expr} {gs : List Comprehension} {scope : Scope} {pos py : Pos} {y : Str} {l : Nat} {env : Env} (hk : env.scope.kind = .function) (hy : env.scope.names.lookup y = some .local) (hl : (py.line == pos.line) = true)
    (ha : (scope.names.any fun (n, k) => n == y && (k == .local || k == .cell)) = false) : swapsWith (.ListComp elt gs scope pos) (some (.Name y py)) l env = pure true := by
  have ky : env.kindOf y = some .local := hy
  have hb : env.blockKind = .function := by unfold Env.blockKind; rw [hk]; rfl
  unfold swapsWith
  simp only [hb, ky, ha, Expr.pos, hl]
  rfl
end

theorem lc_range {lo : Int} {n : Nat} {g : TG} {tt : TT} {te : TE} {vs : List Nat} {σ : St} {H1 : Hp} {D : Addr} {Qd : Hp → Prop} (Pv : Nat → Hp → Prop) (h0 : Pv 0 (upd H1 D (.lst [])))
    (hs : ∀ i H, i < n → Pv i H → g (.int (lo + i)) (wipe σ vs) H fun σ2 H2 => wipe σ2 vs = wipe σ vs ∧ tt σ2 H2 fun b H3 =>
      if b = true then te σ2 H3 fun y H4 => ∃ acc, H4 D = some (.lst acc) ∧ acc.length < sizeLine ∧ Pv (i + 1) (upd H4 D (.lst (acc ++ [y]))) else Pv (i + 1) H3) (hd : ∀ H, Pv n H → Qd H) :
    ∃ W : Nat → Nat → Hp → Prop, (∃ m, W 0 m (upd H1 D (.lst []))) ∧ ∀ i m H, W i m H →
      ((Itr lo n).stop i H ∧ Qd H) ∨ ((Itr lo n).go i H ∧ ∃ Nx : Hp → Prop, (∀ H', Nx H' → ∃ m', m' < m ∧ W (i + 1) m' H') ∧ ∀ x H', (Itr lo n).yld i H x H' → g x (wipe σ vs) H' fun σ2 H2 => wipe σ2 vs = wipe σ vs ∧ tt σ2 H2 fun b H3 =>
        if b = true then te σ2 H3 fun y H4 => ∃ acc, H4 D = some (.lst acc) ∧ acc.length < sizeLine ∧ Nx (upd H4 D (.lst (acc ++ [y]))) else Nx H3) := by
  refine ⟨fun i m H => m = n - i ∧ i ≤ n ∧ Pv i H, ⟨n, by simp, Nat.zero_le _, h0⟩, ?_⟩
  rintro i m H ⟨rfl, hi, p⟩
  by_cases hlt : i < n
  · refine .inr ⟨hlt, Pv (i + 1), fun H' p' => ⟨n - (i + 1), by omega, rfl, hlt, p'⟩, fun x H' y => ?_⟩
    obtain ⟨e, y⟩ := y
    subst e y
    exact hs i _ hlt p
  · have e : i = n := by omega
    subst e
    exact .inl ⟨Nat.le_refl _, hd H p⟩
theorem lc_list {K : PySem.W.Frag} {a : Addr} {xs : List V} {g : TG} {tt : TT} {te : TE} {vs : List Nat} {σ : St} {H1 : Hp} {D : Addr} {Qd : Hp → Prop} (Pv : Nat → Hp → Prop) (h0 : Pv 0 (upd H1 D (.lst []))) (hl : ∀ i H, i ≤ xs.length → Pv i H → SqL K H a xs)
    (hs : ∀ i x H, xs[i]? = some x → Pv i H → g x (wipe σ vs) H fun σ2 H2 => wipe σ2 vs = wipe σ vs ∧ tt σ2 H2 fun b H3 =>
      if b = true then te σ2 H3 fun y H4 => ∃ acc, H4 D = some (.lst acc) ∧ acc.length < sizeLine ∧ Pv (i + 1) (upd H4 D (.lst (acc ++ [y]))) else Pv (i + 1) H3) (hd : ∀ H, Pv xs.length H → Qd H) :
    ∃ W : Nat → Nat → Hp → Prop, (∃ m, W 0 m (upd H1 D (.lst []))) ∧ ∀ i m H, W i m H →
      ((Itl K a).stop i H ∧ Qd H) ∨ ((Itl K a).go i H ∧ ∃ Nx : Hp → Prop, (∀ H', Nx H' → ∃ m', m' < m ∧ W (i + 1) m' H') ∧ ∀ x H', (Itl K a).yld i H x H' → g x (wipe σ vs) H' fun σ2 H2 => wipe σ2 vs = wipe σ vs ∧ tt σ2 H2 fun b H3 =>
        if b = true then te σ2 H3 fun y H4 => ∃ acc, H4 D = some (.lst acc) ∧ acc.length < sizeLine ∧ Nx (upd H4 D (.lst (acc ++ [y]))) else Nx H3) := by
  refine ⟨fun i m H => m = xs.length - i ∧ i ≤ xs.length ∧ Pv i H, ⟨xs.length, by simp, Nat.zero_le _, h0⟩, ?_⟩
  rintro i m H ⟨rfl, hi, p⟩
  have q := hl i H hi p
  by_cases hlt : i < xs.length
  · refine .inr ⟨⟨xs, xs[i], q, by simp [hlt]⟩, Pv (i + 1), fun H' p' => ⟨xs.length - (i + 1), by omega, rfl, hlt, p'⟩, fun x H' y => ?_⟩
    obtain ⟨e, y⟩ := y
    subst e
    exact hs i x _ (y xs q) p
  · have e : i = xs.length := by omega
    subst e
    exact .inl ⟨⟨xs, q, Nat.le_refl _⟩, hd H p⟩
theorem lc_tup {K : PySem.W.Frag} {a : Addr} {xs : List V} {g : TG} {tt : TT} {te : TE} {vs : List Nat} {σ : St} {H1 : Hp} {D : Addr} {Qd : Hp → Prop} (Pv : Nat → Hp → Prop) (h0 : Pv 0 (upd H1 D (.lst []))) (hl : ∀ i H, i ≤ xs.length → Pv i H → SqT K H a xs)
    (hs : ∀ i x H, xs[i]? = some x → Pv i H → g x (wipe σ vs) H fun σ2 H2 => wipe σ2 vs = wipe σ vs ∧ tt σ2 H2 fun b H3 =>
      if b = true then te σ2 H3 fun y H4 => ∃ acc, H4 D = some (.lst acc) ∧ acc.length < sizeLine ∧ Pv (i + 1) (upd H4 D (.lst (acc ++ [y]))) else Pv (i + 1) H3) (hd : ∀ H, Pv xs.length H → Qd H) :
    ∃ W : Nat → Nat → Hp → Prop, (∃ m, W 0 m (upd H1 D (.lst []))) ∧ ∀ i m H, W i m H →
      ((Itt K a).stop i H ∧ Qd H) ∨ ((Itt K a).go i H ∧ ∃ Nx : Hp → Prop, (∀ H', Nx H' → ∃ m', m' < m ∧ W (i + 1) m' H') ∧ ∀ x H', (Itt K a).yld i H x H' → g x (wipe σ vs) H' fun σ2 H2 => wipe σ2 vs = wipe σ vs ∧ tt σ2 H2 fun b H3 =>
        if b = true then te σ2 H3 fun y H4 => ∃ acc, H4 D = some (.lst acc) ∧ acc.length < sizeLine ∧ Nx (upd H4 D (.lst (acc ++ [y]))) else Nx H3) := by
  refine ⟨fun i m H => m = xs.length - i ∧ i ≤ xs.length ∧ Pv i H, ⟨xs.length, by simp, Nat.zero_le _, h0⟩, ?_⟩
  rintro i m H ⟨rfl, hi, p⟩
  have q := hl i H hi p
  by_cases hlt : i < xs.length
  · refine .inr ⟨⟨xs, xs[i], q, by simp [hlt]⟩, Pv (i + 1), fun H' p' => ⟨xs.length - (i + 1), by omega, rfl, hlt, p'⟩, fun x H' y => ?_⟩
    obtain ⟨e, y⟩ := y
    subst e
    exact hs i x _ (y xs q) p
  · have e : i = xs.length := by omega
    subst e
    exact .inl ⟨⟨xs, q, Nat.le_refl _⟩, hd H p⟩
def blkC (N : List Str) (sc scope : Scope) (own : List (Str × Nat)) : Bool :=
  (match scope.kind with | .function => true | _ => false) && (scope.names.all fun y => decide (scope.names.lookup y.1 = some y.2)) && (own.all fun p => decide (N[p.2]? = some p.1)) &&
    (scope.names.all fun y => match y.2 with
      | .free => (match sc.names.lookup y.1 with | some .cell => true | some .free => true | _ => false)
      | .local => decide (y.1 ∈ own.map (·.1)) || decide (y.1 ∉ N)
      | .cell => decide (y.1 ∈ own.map (·.1)) || decide (y.1 ∉ N)
      | _ => true)
theorem blkOk_by {N : List Str} {sc scope : Scope} {own : List (Str × Nat)} (h : blkC N sc scope own = true) : BlkOk N sc scope own := by
  unfold blkC at h
  simp only [Bool.and_eq_true, List.all_eq_true, decide_eq_true_eq] at h
  obtain ⟨⟨⟨h1, h2⟩, h3⟩, h4⟩ := h
  refine ⟨?_, h2, h3, fun y hy e => ?_, fun y hy e => ?_⟩
  · split at h1
    · assumption
    · cases h1
  · have q := h4 y hy
    simp only [e] at q
    split at q <;> first | exact .inl (by assumption) | exact .inr (by assumption) | cases q
  · have q := h4 y hy
    rcases e with e | e <;> (simp only [e, Bool.or_eq_true, decide_eq_true_eq] at q; exact q)
end L2

namespace L2
open PySem PySem.Spec PyProof.Rows

section
variable {prog : Program} {w : World} {A : Around} {R : Result → Shared → Prop} {s : Shared} {elt t0 i0 t1 i1 : Expr} {ifs0 ifs1 : List Expr} {scope : Scope} {pos : Pos} {it acc : Value} {env : Env}
end

theorem wipe_out {σ : St} {i : Nat} : ∀ {vs : List Nat}, i ∉ vs → (wipe σ vs)[i]? = σ[i]?
  | [], _ => rfl
  | v :: vs, h => by
    have h1 : v ≠ i := fun e => h (by rw [e]; exact List.mem_cons_self)
    have h2 : i ∉ vs := fun m => h (List.mem_cons_of_mem _ m)
    unfold wipe
    rw [List.getElem?_set_ne h1]
    exact wipe_out h2
section
variable {X : Cx}
end
end L2

namespace L2
open PySem PySem.Spec PyProof.Rows

section
variable {κ : Type} [DecidableEq κ]
def valV (kvs : List (κ × V)) (k : κ) : Option V := (kvs.find? fun kv => decide (kv.1 = k)).map (·.2)
def putK (kvs : List (κ × V)) (k : κ) (v : V) : List (κ × V) :=
  if (kvs.any fun kv => decide (kv.1 = k)) = true then kvs.map (fun kv => if kv.1 = k then (kv.1, v) else kv) else kvs ++ [(k, v)]
def dropK (kvs : List (κ × V)) (k : κ) : List (κ × V) := kvs.filter fun kv => decide (kv.1 ≠ k)

theorem valV_pos {p : κ × V} {r : List (κ × V)} {k : κ} (e : p.1 = k) : valV (p :: r) k = some p.2 := by simp [valV, List.find?_cons, e]
theorem valV_neg {p : κ × V} {r : List (κ × V)} {k : κ} (e : ¬ p.1 = k) : valV (p :: r) k = valV r k := by simp [valV, List.find?_cons, e]
theorem valV_any (k : κ) : ∀ kvs : List (κ × V), (kvs.any fun kv => decide (kv.1 = k)) = (valV kvs k).isSome
  | [] => rfl
  | p :: r => by
    rw [List.any_cons]
    by_cases e : p.1 = k
    · simp only [valV_pos e, decide_eq_true e, Bool.true_or, Option.isSome_some]
    · rw [valV_neg e, decide_eq_false e, Bool.false_or]; exact valV_any k r
theorem length_putK (kvs : List (κ × V)) (k : κ) (v : V) : (putK kvs k v).length ≤ kvs.length + 1 := by
  unfold putK
  split
  · rw [List.length_map]; omega
  · rw [List.length_append, List.length_cons, List.length_nil]; omega
theorem RelO.isSome_eq {o : Option V} {u : Option Value} (r : RelO o u) : o.isSome = u.isSome := by
  cases o with
  | none => cases u with
    | none => rfl
    | some _ => exact (show False from r).elim
  | some _ => cases u with
    | none => exact (show False from r).elim
    | some _ => rfl
theorem RelO.getD {o : Option V} {u : Option Value} {d : V} {d' : Value} (r : RelO o u) (rd : RelV d d') : RelV (o.getD d) (u.getD d') := by
  cases o with
  | none => cases u with
    | none => exact rd
    | some _ => exact (show False from r).elim
  | some _ => cases u with
    | none => exact (show False from r).elim
    | some _ => exact r

theorem KV.val {kvs : List (κ × V)} {vs : List (κ × Value)} (r : KV kvs vs) (k : κ) : RelO (valV kvs k) (valueAt vs k) := by
  unfold KV at r
  induction r with
  | nil => exact True.intro
  | @cons p q ps qs h t ih =>
    obtain ⟨h1, h2⟩ := h
    by_cases e : p.1 = k
    · have e' : q.1 = k := h1.symm.trans e
      have b : valueAt (q :: qs) k = some q.2 := by simp [valueAt, List.find?_cons, e']
      rw [valV_pos e, b]; exact h2
    · have e' : ¬ q.1 = k := fun z => e (h1.trans z)
      have b : valueAt (q :: qs) k = valueAt qs k := by simp [valueAt, List.find?_cons, e']
      rw [valV_neg e, b]; exact ih
theorem KV.any {kvs : List (κ × V)} {vs : List (κ × Value)} (r : KV kvs vs) (k : κ) : (kvs.any fun kv => decide (kv.1 = k)) = vs.any fun kv => decide (kv.1 = k) := by
  unfold KV at r
  induction r with
  | nil => rfl
  | cons h t ih => rw [List.any_cons, List.any_cons, ih, h.1]
theorem KV.repl {kvs : List (κ × V)} {vs : List (κ × Value)} (r : KV kvs vs) (k : κ) {y : V} {u : Value} (ry : RelV y u) :
    KV (kvs.map fun kv => if kv.1 = k then (kv.1, y) else kv) (vs.map fun kv => if kv.1 = k then (kv.1, u) else kv) := by
  unfold KV at r ⊢
  induction r with
  | nil => exact .nil
  | @cons p q ps qs h t ih =>
    rw [List.map_cons, List.map_cons]
    refine .cons ?_ ih
    obtain ⟨h1, h2⟩ := h
    by_cases e : p.1 = k
    · rw [if_pos e, if_pos (h1.symm.trans e)]; exact ⟨h1, ry⟩
    · rw [if_neg e, if_neg (fun z => e (h1.trans z))]; exact ⟨h1, h2⟩
theorem KV.put {kvs : List (κ × V)} {vs : List (κ × Value)} (r : KV kvs vs) (k : κ) {y : V} {u : Value} (ry : RelV y u) : KV (putK kvs k y) (stored vs k u) := by
  unfold putK stored
  rw [r.any k]
  by_cases e : (vs.any fun kv => decide (kv.1 = k)) = true
  · rw [if_pos e, if_pos e]; exact r.repl k ry
  · rw [if_neg e, if_neg e]; exact Paired.snoc r ⟨rfl, ry⟩
theorem KV.drop {kvs : List (κ × V)} {vs : List (κ × Value)} (r : KV kvs vs) (k : κ) : KV (dropK kvs k) (without vs k) := by
  unfold KV at r ⊢
  unfold dropK without
  induction r with
  | nil => exact .nil
  | @cons p q ps qs h t ih =>
    obtain ⟨h1, h2⟩ := h
    rw [List.filter_cons, List.filter_cons]
    by_cases e : p.1 = k
    · have a : ¬ decide (p.1 ≠ k) = true := by simp [e]
      have b : ¬ decide (q.1 ≠ k) = true := by simp [h1.symm.trans e]
      rw [if_neg a, if_neg b]; exact ih
    · have e' : ¬ q.1 = k := fun z => e (h1.trans z)
      have a : decide (p.1 ≠ k) = true := by simp [e]
      have b : decide (q.1 ≠ k) = true := by simp [e']
      rw [if_pos a, if_pos b]; exact .cons ⟨h1, h2⟩ ih
theorem KV.keys {kvs : List (κ × V)} {vs : List (κ × Value)} (r : KV kvs vs) : kvs.map (·.1) = vs.map (·.1) := by
  unfold KV at r
  induction r with
  | nil => rfl
  | cons h t ih => rw [List.map_cons, List.map_cons, ih, h.1]
theorem KV.length {kvs : List (κ × V)} {vs : List (κ × Value)} (r : KV kvs vs) : kvs.length = vs.length := Paired.length r
end


theorem kV_is {P : Program} {w : World} {k : Key} {u : Value} (r : RelV (kV k) u) : (mixKind P w).is k u = true := by
  cases k with
  | inl i => obtain ⟨t, e⟩ := (show ∃ t, u = Value.int i t from r); subst e; exact mixKind_int P w i t
  | inr x => obtain ⟨t, e⟩ := (show ∃ t, u = Value.str x t from r); subst e; exact mixKind_str P w x t
abbrev KT (H : Hp) : List (List Key × V) → List (List Key × Addr × Value) → Prop := Paired fun p q => p.1 = q.1 ∧ H q.2.1 = some (.tup (p.1.map kV)) ∧ RelV p.2 q.2.2
theorem KT.val {H : Hp} {kvs : List (List Key × V)} {xs : List (List Key × Addr × Value)} (r : KT H kvs xs) (k : List Key) : RelO (valV kvs k) ((atKey xs k).map (·.2)) := by
  induction r with
  | nil => exact True.intro
  | @cons p q ps qs h t ih =>
    obtain ⟨h1, _, h2⟩ := h
    by_cases e : p.1 = k
    · have e' : q.1 = k := h1.symm.trans e
      have b : atKey (q :: qs) k = some q.2 := by simp [atKey, List.find?_cons, e']
      rw [valV_pos e, b]; exact h2
    · have e' : ¬ q.1 = k := fun z => e (h1.trans z)
      have b : atKey (q :: qs) k = atKey qs k := by simp [atKey, List.find?_cons, e']
      rw [valV_neg e, b]; exact ih
theorem KT.repl {H : Hp} {kvs : List (List Key × V)} {xs : List (List Key × Addr × Value)} (r : KT H kvs xs) (k : List Key) {y : V} {u : Value} (ry : RelV y u) :
    KT H (kvs.map fun kv => if kv.1 = k then (kv.1, y) else kv) (xs.map (putAt k u)) := by
  induction r with
  | nil => exact .nil
  | @cons p q ps qs h t ih =>
    rw [List.map_cons, List.map_cons]
    refine .cons ?_ ih
    obtain ⟨h1, h2, h3⟩ := h
    unfold putAt
    by_cases e : p.1 = k
    · rw [if_pos e, if_pos (h1.symm.trans e)]; exact ⟨h1, h2, ry⟩
    · rw [if_neg e, if_neg (fun z => e (h1.trans z))]; exact ⟨h1, h2, h3⟩
theorem KT.put {H : Hp} {kvs : List (List Key × V)} {xs : List (List Key × Addr × Value)} (r : KT H kvs xs) (k : List Key) {b : Addr} {y : V} {u : Value} (hb : H b = some (.tup (k.map kV))) (ry : RelV y u) :
    KT H (putK kvs k y) (storedH xs k b u) := by
  have e : (kvs.any fun kv => decide (kv.1 = k)) = (atKey xs k).isSome := by
    rw [valV_any, (r.val k).isSome_eq, Option.isSome_map]
  unfold putK storedH
  rw [e]
  by_cases q : (atKey xs k).isSome = true
  · rw [if_pos q, if_pos q]; exact r.repl k ry
  · rw [if_neg q, if_neg q]; exact Paired.snoc r ⟨rfl, hb, ry⟩
theorem KT.keeps {H H' : Hp} {kvs : List (List Key × V)} {xs : List (List Key × Addr × Value)} (r : KT H kvs xs) (ht : ∀ b ys, H b = some (.tup ys) → H' b = some (.tup ys)) : KT H' kvs xs :=
  Paired.mapP r fun _ _ z => ⟨z.1, ht _ _ z.2.1, z.2.2⟩

section
variable {P : Program} {w : World} {H : Hp} {h : Heap} {a : Addr}
theorem rd_of {u : HO} (ok : HOk P w H h) (e : Rd H a u) : ObjOk P w H h a u := e.ok ok
theorem dk_rd {kvs : List (Key × V)} (ok : HOk P w H h) (e : Rd H a (.dK kvs)) : kvs.length ≤ sizeLine ∧ (a == sysModules) = false ∧ ∃ vs, KV kvs vs ∧ h.DictOf (mixKind P w) a vs :=
  show ObjOk P w H h a (.dK kvs) from rd_of ok e
theorem dk_of {kvs : List (Key × V)} (ok : HOk P w H h) (e : H a = some (.dK kvs)) : kvs.length ≤ sizeLine ∧ (a == sysModules) = false ∧ ∃ vs, KV kvs vs ∧ h.DictOf (mixKind P w) a vs := dk_rd ok (.inl e)
end

def DGet (H : Hp) (a : Addr) (y : V) (r : Option V) : Prop :=
  (∃ kvs k, Rd H a (.dK kvs) ∧ y = kV k ∧ r = valV kvs k) ∨ ∃ kvs k b, Rd H a (.dT kvs) ∧ y = .ref b ∧ H b = some (.tup (k.map kV)) ∧ r = valV kvs k
def DPut (H : Hp) (a : Addr) (y v : V) (H' : Hp) : Prop :=
  (∃ kvs k, H a = some (.dK kvs) ∧ y = kV k ∧ kvs.length < sizeLine ∧ H' = upd H a (.dK (putK kvs k v))) ∨
  ∃ kvs k b, H a = some (.dT kvs) ∧ y = .ref b ∧ H b = some (.tup (k.map kV)) ∧ kvs.length < sizeLine ∧ H' = upd H a (.dT (putK kvs k v))
theorem DGet.k {H : Hp} {a : Addr} {kvs : List (Key × V)} {k : Key} (e : H a = some (.dK kvs)) : DGet H a (kV k) (valV kvs k) := .inl ⟨kvs, k, .inl e, rfl, rfl⟩
theorem DGet.t {H : Hp} {a b : Addr} {kvs : List (List Key × V)} {k : List Key} (e : H a = some (.dT kvs)) (eb : H b = some (.tup (k.map kV))) : DGet H a (.ref b) (valV kvs k) := .inr ⟨kvs, k, b, .inl e, rfl, eb, rfl⟩
theorem DPut.k {H : Hp} {a : Addr} {kvs : List (Key × V)} {k : Key} {v : V} (e : H a = some (.dK kvs)) (hl : kvs.length < sizeLine) : DPut H a (kV k) v (upd H a (.dK (putK kvs k v))) := .inl ⟨kvs, k, e, rfl, hl, rfl⟩
theorem DPut.t {H : Hp} {a b : Addr} {kvs : List (List Key × V)} {k : List Key} {v : V} (e : H a = some (.dT kvs)) (eb : H b = some (.tup (k.map kV))) (hl : kvs.length < sizeLine) :
    DPut H a (.ref b) v (upd H a (.dT (putK kvs k v))) := .inr ⟨kvs, k, b, e, rfl, eb, hl, rfl⟩


section
variable {X : Cx} {pins : List (Addr × Obj)} {σ : St} {H : Hp} {s : Shared} {a : Addr} {y v : V} {u r : Value} {o : Option V} {A : Around} {E : Value → Shared → Prop}

theorem Inv.big (I : Inv X pins σ H s) : sysModules < s.heap.objs.size := by
  have h : mainGlobals < s.heap.objs.size := (I.mod.glob.keeps I.bk).lt
  exact Nat.lt_trans (by decide) h

theorem dk_new {P : Program} {w : World} {H' : Hp} {h' : Heap} {kvs : List (Key × V)} {vs : List (Key × Value)} (z : kvs.length ≤ sizeLine) (hd : (a == sysModules) = false) (rel : KV kvs vs) (dd : h'.DictOf (mixKind P w) a vs) :
    ObjOk P w H' h' a (.dK kvs) := ⟨z, hd, vs, rel, dd⟩
end

section
variable {X : Cx} {pins : List (Addr × Obj)} {σ : St} {H : Hp} {s : Shared} {a : Addr} {kvs : List (Key × V)} {k : Key} {u : Value} {A : Around} {E : Value → Shared → Prop}
end


section
variable {X : Cx} {o i e value : Expr} {pos pos' tpos : Pos} {td ty tv : TE}
end


theorem dk_empty {P : Program} {w : World} {H : Hp} (h : Heap) (hb : sysModules < h.objs.size) : ObjOk P w H (h.push { cls := .type "dict", data := .dict #[] }) h.objs.size (.dK []) :=
  ⟨Nat.zero_le _, beq_eq_false_iff_ne.mpr (Ne.symm (Nat.ne_of_lt hb)), [], .nil, Heap.DictOf.new h⟩
theorem dt_empty {P : Program} {w : World} {H : Hp} (h : Heap) (hb : sysModules < h.objs.size) : ObjOk P w H (h.push { cls := .type "dict", data := .dict #[] }) h.objs.size (.dT []) :=
  ⟨Nat.zero_le _, beq_eq_false_iff_ne.mpr (Ne.symm (Nat.ne_of_lt hb)), [], .nil, _, #[], 0, Heap.get?_push_size _ rfl, ⟨rfl, rfl, rfl⟩, rfl, rfl, List.nodup_nil⟩
def tDNewK : TE := fun _ H Q => ∀ p, H p = none → Q (.ref p) (upd H p (.dK []))
def tDNewT : TE := fun _ H Q => ∀ p, H p = none → Q (.ref p) (upd H p (.dT []))
section
variable {X : Cx} {pos : Pos}
theorem pe_dnewK : PE X (.Dict [] [] pos) tDNewK := fun pins s σ H Q I h =>
  wpAny_Dict_empty ⟨.ref s.heap.objs.size, _, I.laid (a := s.heap.objs.size) (o := .dK []) (t' := s.toks) (fun _ _ q => Heap.get?_push_of_some _ q) (Nat.le_refl _) (dk_empty s.heap I.big), rfl, h _ (I.hok.fresh (Nat.le_refl _))⟩
theorem pe_dnewT : PE X (.Dict [] [] pos) tDNewT := fun pins s σ H Q I h =>
  wpAny_Dict_empty ⟨.ref s.heap.objs.size, _, I.laid (a := s.heap.objs.size) (o := .dT []) (t' := s.toks) (fun _ _ q => Heap.get?_push_of_some _ q) (Nat.le_refl _) (dt_empty s.heap I.big), rfl, h _ (I.hok.fresh (Nat.le_refl _))⟩
end

def tPairs : List (TE × TE) → St → Hp → (List (V × V) → Hp → Prop) → Prop
  | [], _, H, Q => Q [] H
  | (tk, tv) :: r, σ, H, Q => tk σ H fun x H1 => tv σ H1 fun y H2 => tPairs r σ H2 fun ps H3 => Q ((x, y) :: ps) H3
abbrev VV : List (V × V) → List (Value × Value) → Prop := Paired fun p q => RelV p.1 q.1 ∧ RelV p.2 q.2
def PPs (X : Cx) (pos : Pos) (keys : List (Option Expr)) (values : List Expr) (trs : List (TE × TE)) : Prop :=
  ∀ (pins : List (Addr × Obj)) (s : Shared) (σ : St) (H : Hp) (Q : List (V × V) → Hp → Prop), Inv X pins σ H s → tPairs trs σ H Q →
    wpAny (model X.prog X.w) X.A (evalPairs (pairTrees keys values X.env pos)) (fun vs s' => ∃ ps H', Inv X pins σ H' s' ∧ VV ps vs ∧ Q ps H') X.xe s
def mergeK (kvs more : List (Key × V)) : List (Key × V) := more.foldl (fun acc kv => putK acc kv.1 kv.2) kvs
theorem length_mergeK : ∀ (more kvs : List (Key × V)), (mergeK kvs more).length ≤ kvs.length + more.length
  | [], kvs => by show kvs.length ≤ kvs.length + 0; omega
  | p :: r, kvs => by
    have h1 := length_mergeK r (putK kvs p.1 p.2)
    have h2 := length_putK kvs p.1 p.2
    show (mergeK (putK kvs p.1 p.2) r).length ≤ _
    rw [List.length_cons]; omega
structure M1 (X : Cx) (o : Expr) (m : Str) (apos : Pos) (e : Expr) (cpos : Pos) : Prop where
  base : attributeBase o m X.env (eval o X.env) = eval o X.env
  few : ((backTo cpos (starEach [e] X.env)).all (fun x => !x.1) && (backToKw cpos (keywordEach [] X.env)).all (fun x => x.1.isSome)
    && decide (([e] : List Expr).length + ([] : List Keyword).length + (if ([] : List Keyword).isEmpty then 0 else 1) < 30)) = true
  line : (apos.endLine == cpos.line) = true
  trees : backTo cpos (starEach [e] X.env) = [(false, eval e X.env)]
structure M2 (X : Cx) (o : Expr) (m : Str) (apos : Pos) (e f : Expr) (cpos : Pos) : Prop where
  base : attributeBase o m X.env (eval o X.env) = eval o X.env
  few : ((backTo cpos (starEach [e, f] X.env)).all (fun x => !x.1) && (backToKw cpos (keywordEach [] X.env)).all (fun x => x.1.isSome)
    && decide (([e, f] : List Expr).length + ([] : List Keyword).length + (if ([] : List Keyword).isEmpty then 0 else 1) < 30)) = true
  line : (apos.endLine == cpos.line) = true
  trees : backTo cpos (starEach [e, f] X.env) = [(false, eval e X.env), (false, eval f X.env)]

section
variable {X : Cx} {pins : List (Addr × Obj)} {σ : St} {H : Hp} {s : Shared} {a : Addr} {y d : V} {u r : Value} {o : Option V} {A : Around} {E : Value → Shared → Prop}
end

section
variable {X : Cx} {o e f : Expr} {apos cpos : Pos} {td ty tx : TE}
end

section
variable {X : Cx} {pins : List (Addr × Obj)} {σ : St} {H : Hp} {s : Shared} {a : Addr} {kvs : List (Key × V)} {A : Around} {E : Value → Shared → Prop}
end


section
variable {X : Cx} {pins : List (Addr × Obj)} {σ : St} {H : Hp} {s : Shared} {a : Addr} {y : V} {u : Value} {A : Around} {E : Value → Shared → Prop}
end
end L2

namespace L2
open PySem PySem.Spec PyProof.Rows

section
variable {prog : Program} {w : World} {A : Around} {E : Value → Shared → Prop}
end

section
variable {X : Cx}
theorem refs_at : ∀ {ps : List Addr} {us : List Value}, Vals (ps.map V.ref) us → us = ps.map Value.ref
  | [], us, r => by
    rw [List.map_nil] at r
    cases r
    rfl
  | p :: ps, us, r => by
    rw [List.map_cons] at r
    cases r with
    | cons h t =>
      cases h
      rw [List.map_cons, ← refs_at t]
end
end L2

namespace L2
open PySem PySem.Spec PyProof.Rows

section
variable {X : Cx} {pins : List (Addr × Obj)} {σ : St} {H : Hp} {s : Shared} {h' : Heap}
theorem Inv.turnedNew {t' : Nat} {ch : List Addr} {T : Addr} {ob : HO} (I : Inv X pins σ H s) (k : ∀ b o, b ∉ ch → s.heap.get? b = some o → h'.get? b = some o) (hf : ∀ b ∈ ch, FpOk X pins H b) (hT : s.heap.objs.size ≤ T)
    (new : ObjOk X.prog X.w (upd H T ob) h' T ob) : Inv X pins σ (upd H T ob) { s with heap := h', toks := t' } := by
  have hn : H T = none := I.hok.fresh hT
  have nit : ∀ b u, H b = some u → b ∉ ch := fun b u e z => by
    have q := (hf b z).1
    rw [q] at e; cases e
  refine I.step (g' := s.gens) (d' := s.drawn) (ch := ch) (fun b hb => ⟨(hf b hb).2.2.2.1, (hf b hb).2.1, (hf b hb).2.2.2.2.1, (hf b hb).2.2.2.2.2⟩) (fun b o _ _ hc e _ => k b o hc e) (fun b o _ _ hc e _ => ⟨o.slots, k b o hc e⟩)
    (fun b o _ e n => ?_) (fun b o hc e => ⟨o, k b o hc e⟩) (fun b xs e => ?_) (fun b o u e => ?_) (fun b ps e => ⟨#[], ?_⟩) (fun m hm => ?_) (fun b u e => ?_) I.bare
  · rw [upd_ne (Nat.ne_of_lt (Nat.lt_of_lt_of_le (Heap.lt_size e) hT))]; exact n
  · rw [upd_ne (ne_of_none e hn)]; exact e
  · rw [upd_ne (ne_of_none e hn)]; exact e
  · rw [upd_ne (ne_of_none e hn), e]; simp
  · obtain ⟨o, es, ep, ho, r⟩ := hm
    exact ⟨o, es, ep, k _ o (fun z => (hf _ z).2.1 rfl) ho, r⟩
  · by_cases hb : b = T
    · subst hb
      rw [upd_same] at e
      cases e
      exact new
    · rw [upd_ne hb] at e
      refine (I.hok b u e).stay (fun c v hc q => k c v ?_ q) (fun c q => by rw [upd_ne (ne_of_none q hn)]; exact q) fun c xs _ q => by rw [upd_ne (ne_of_none q hn)]; exact q
      rcases hc with z | z
      · rw [z]; exact nit b u e
      · exact nit c _ z

end
section
variable {X : Cx}
end

def RgC (i j c : Int) (n : Nat) : Prop := c ≠ 0 ∧ c.natAbs < 1073741824 ∧ Builtin.Range.small i j c = true ∧ Builtin.Range.rangeSize i j c = n
theorem RgC.neg {i j : Int} (ha : -(2 ^ 62) ≤ i) (ha' : i < 2 ^ 62) (hb : -(2 ^ 62) ≤ j) (hb' : j < 2 ^ 62) : RgC i j (-1) (i - j).toNat :=
  ⟨by decide, by decide, PySem.W.small_down ha ha' hb hb', PySem.W.rangeSize_downNat i j⟩
section
variable {X : Cx} {tg : Expr}
end
section
variable {X : Cx} {tg : Expr}
end

section
variable {prog : Program} {w : World} {A : Around} {E : Value → Shared → Prop} {s : Shared}
theorem iter_keys {d : Addr} {o : Obj} {es : Array DictEntry} {ep : Nat} {Q : Value → Shared → Prop} (hd : (d == sysModules) = false) (ho : s.heap.get? d = some o) (hc : o.ExactDict) (hdat : o.data = .dict es ep)
    (hQ : Q (.ref s.heap.objs.size) { s with heap := s.heap.push { cls := .type "dict_keyiterator", data := .fields #[.ref d, .int 0 0, .int es.size 0, .int ep 0] } }) :
    wpAny (model prog w) A (pyIter (.ref d)) Q E s := by
  have hT : s.TypeIs (.ref d) "dict" := ⟨o, ho, hc.1⟩
  refine wpAny_pyIter_slot hT F.slot_dict_iter (wpAny_call_entry F.slot_dict_iter hT F.entry_dict_iter ?_ (F.args_dict_iter_1 _))
  unfold Builtin.«dict.__iter__»
  refine wpAny_bind ?_
  unfold Builtin.Dict.dictSlotNone
  refine wpAny_bind (wpAny_notOrdered_dict hT ?_)
  show wpAny _ _ (pure (Value.ref d)) _ _ s
  refine wpAny_pure ?_
  show wpAny _ _ (Builtin.Dict.showsAll d >>= _) _ _ s
  unfold Builtin.Dict.showsAll
  rw [if_neg (by rw [hd]; exact Bool.false_ne_true)]
  refine wpAny_bind (wpAny_pure ?_)
  refine wpAny_bind (wpAny_dictEntries ho hdat ?_)
  refine wpAny_bind (wpAny_dictEpoch ho hdat ?_)
  refine wpAny_bind (wpAny_newObj_type (wpAny_pure ⟨_, rfl, "dict_keyiterator", _, ⟨_, Heap.get?_push_size _ rfl, rfl⟩, F.slot_dict_keyiterator_next.lookup, ?_⟩))
  simpa [rawInt] using hQ
theorem next_key_item {it d : Addr} {i n ep : Nat} {od : Obj} {es : Array DictEntry} {en : DictEntry} {Q : Option Value → Shared → Prop} (hit : s.heap.IsKeyIter it d i n ep) (hod : s.heap.get? d = some od) (hdd : od.data = .dict es ep)
    (hsz : es.size = n) (hx : es[i]? = some en) (hQ : ∀ h', h'.IsKeyIter it d (i + 1) n ep → Heap.SameBut it s.heap h' → Q (some en.key) { s with heap := h' }) : wpAny (model prog w) A (pyNext (.ref it)) Q E s := by
  obtain ⟨o, ho, hc, hd⟩ := id hit
  unfold pyNext
  refine wpAny_bind (wpAny_attempt (wpAny_callSpecial?_slot (name := Str.ofString "__next__") hit.typeIs F.slot_dict_keyiterator_next
    (wpAny_call_entry F.slot_dict_keyiterator_next hit.typeIs F.entry_dict_keyiterator_next ?_ (F.args_dict_keyiterator_next_1 _))))
  refine wpAny_bind (wpAny_pure ?_)
  refine wpAny_bind ?_
  refine wpAny_bind ?_
  first | refine wpAny_bind (wpAny_typeNameOfWhole_keyiter hit.typeIs (wpAny_pure ?_)) | refine wpAny_bind (wpAny_typeNameOf_keyiter hit.typeIs (wpAny_pure ?_))
  refine wpAny_bind (wpAny_fieldsOf ho hd ?_)
  have hown : Builtin.Dict_items.ownsTuple "dict_keyiterator" = false := by decide
  simp only [hown, Bool.false_eq_true, if_false]
  show wpAny _ _ (if (Value.ref d == Value.none) = true then _ else _) _ _ s
  rw [if_neg (show ¬ ((Value.ref d == Value.none) = true) from Bool.false_ne_true)]
  refine wpAny_bind (wpAny_pure ?_)
  refine wpAny_bind (wpAny_dictEntries hod hdd ?_)
  rw [if_neg (by rw [hsz]; simp)]
  refine wpAny_bind (wpAny_pure ?_)
  refine wpAny_bind (wpAny_dictEpoch hod hdd ?_)
  rw [if_neg (by simp)]
  refine wpAny_pure ?_
  obtain ⟨hlt', hen⟩ := Array.getElem?_eq_some_iff.mp hx
  simp only [show ¬ ((i : Int) < 0) from by omega, if_false, Int.toNat_natCast, Array.getElem?_eq_getElem hlt']
  refine wpAny_bind ?_
  first | refine wpAny_bind (wpAny_typeNameOfWhole_keyiter hit.typeIs (wpAny_pure ?_)) | refine wpAny_bind (wpAny_typeNameOf_keyiter hit.typeIs (wpAny_pure ?_))
  refine wpAny_bind (wpAny_isOneOf_keyiter hit.typeIs ?_)
  show wpAny _ _ (setField (.ref it) 1 (rawInt ((i : Int) + 1)) >>= _) _ _ s
  refine wpAny_bind (wpAny_setField ho hd (by simp) ?_)
  have hit' : (s.heap.update it (Obj.mapFields (·.setIfInBounds 1 (rawInt ((i : Int) + 1))))).IsKeyIter it d (i + 1) n ep :=
    ⟨_, Heap.get?_update_self _ ho (Obj.isFreed_of_fields (Obj.data_mapFields hd _)), (Obj.cls_mapFields ..).trans hc, by rw [Obj.data_mapFields hd]; simp [rawInt]⟩
  refine wpAny_bind (wpAny_holding ?_)
  refine wpAny_bind (wpAny_isOneOf_keyiter (s := { s with heap := s.heap.update it (Obj.mapFields (·.setIfInBounds 1 (rawInt ((i : Int) + 1)))) }) hit'.typeIs ?_)
  show wpAny _ _ (pure es[i].key) _ _ _
  rw [hen]
  exact wpAny_pure (wpAny_pure ⟨_, rfl, wpAny_pure (hQ _ hit' (Heap.SameBut.update ..))⟩)
theorem next_key_end {it d : Addr} {i n ep : Nat} {od : Obj} {es : Array DictEntry} {Q : Option Value → Shared → Prop} (hh : A.handled = none) (hit : s.heap.IsKeyIter it d i n ep) (hod : s.heap.get? d = some od) (hdd : od.data = .dict es ep)
    (hsz : es.size = n) (hge : n ≤ i) (hQ : ∀ h', Heap.ExtBut it s.heap h' → Q none { s with heap := h' }) : wpAny (model prog w) A (pyNext (.ref it)) Q E s := by
  obtain ⟨o, ho, hc, hd⟩ := id hit
  unfold pyNext
  refine wpAny_bind (wpAny_attempt (wpAny_callSpecial?_slot (name := Str.ofString "__next__") hit.typeIs F.slot_dict_keyiterator_next
    (wpAny_call_entry F.slot_dict_keyiterator_next hit.typeIs F.entry_dict_keyiterator_next ?_ (F.args_dict_keyiterator_next_1 _))))
  refine wpAny_bind (wpAny_pure ?_)
  refine wpAny_bind ?_
  refine wpAny_bind ?_
  first | refine wpAny_bind (wpAny_typeNameOfWhole_keyiter hit.typeIs (wpAny_pure ?_)) | refine wpAny_bind (wpAny_typeNameOf_keyiter hit.typeIs (wpAny_pure ?_))
  refine wpAny_bind (wpAny_fieldsOf ho hd ?_)
  have hown : Builtin.Dict_items.ownsTuple "dict_keyiterator" = false := by decide
  simp only [hown, Bool.false_eq_true, if_false]
  show wpAny _ _ (if (Value.ref d == Value.none) = true then _ else _) _ _ s
  rw [if_neg (show ¬ ((Value.ref d == Value.none) = true) from Bool.false_ne_true)]
  refine wpAny_bind (wpAny_pure ?_)
  refine wpAny_bind (wpAny_dictEntries hod hdd ?_)
  rw [if_neg (by rw [hsz]; simp)]
  refine wpAny_bind (wpAny_pure ?_)
  refine wpAny_bind (wpAny_dictEpoch hod hdd ?_)
  rw [if_neg (by simp)]
  refine wpAny_pure ?_
  have hge' : es.size ≤ i := by rw [hsz]; exact hge
  simp only [show ¬ ((i : Int) < 0) from by omega, if_false, Int.toNat_natCast, Array.getElem?_eq_none hge']
  refine wpAny_bind ?_
  first | refine wpAny_bind (wpAny_typeNameOfWhole_keyiter hit.typeIs (wpAny_pure ?_)) | refine wpAny_bind (wpAny_typeNameOf_keyiter hit.typeIs (wpAny_pure ?_))
  show wpAny _ _ (setField (.ref it) 0 .none >>= _) _ _ s
  refine wpAny_bind (wpAny_setField ho hd (by simp) ?_)
  show wpAny _ _ (newExc (.type "StopIteration") [] >>= _) _ _ _
  refine wpAny_bind ?_
  simp only [newExc, newTuple]
  refine wpAny_bind (wpAny_newObj_type ?_ (by size_fits))
  refine wpAny_bind (m := firstArgMember _ _) (wpAny_of_eq (a := Value.none) (by first | rfl | (simp only [firstArgMember]; rfl)) ?_)
  refine wpAny_newObj_type ?_ (by size_fits)
  simp only [raiseNew]
  refine wpAny_bind (wpAny_handled ?_)
  rw [show A.in1.handled = none from hh]
  refine wpAny_bind (wpAny_pure (wpAny_throw ?_))
  refine wpAny_bind (wpAny_isInstance (T := "StopIteration") (b := true) ⟨_, Heap.get?_push_size _ rfl, rfl⟩ isSubtype_stop ?_)
  exact wpAny_pure (hQ _ (((Heap.SameBut.update ..).extBut.push _).push _))
end

section
variable {X : Cx} {pins : List (Addr × Obj)} {σ : St} {H : Hp} {s : Shared} {d : Addr} {o : Obj}
end

section
variable {P : Program} {w : World} {K : PySem.W.Frag} {tg : Expr} {d : Addr} {o : Obj} {es : Array DictEntry} {ep : Nat}
end

section
variable {X : Cx} {tg e : Expr} {td : TE} {apos cpos : Pos}
end

end L2

section 
namespace Bits
open PySem PyProof.Rows

end Bits
end 

section 
namespace TL
open PySem PySem.Builtin PySem.Builtin.Str PySem.StrLaws

abbrev tl (x : Str) : List Nat := x.cps.toList
def pre (S l : List Nat) : Bool := l.take S.length == S
def par (S : List Nat) : List Nat → List Nat → Option (List Nat × List Nat)
  | _, [] => none
  | acc, c :: r => if pre S (c :: r) = true then some (acc, (c :: r).drop S.length) else par S (acc ++ [c]) r

end TL
end 

namespace L2
open PySem PySem.Spec PyProof.Rows

section
variable {X : Cx} {pins : List (Addr × Obj)} {σ : St} {H : Hp} {s : Shared} {Q : VK}
end

section
variable {X : Cx}

end

section
variable {X : Cx} {o e : Expr} {to te : TE}
end
end L2

namespace L2
open PySem PySem.Spec PyProof.Rows

section
variable {X : Cx}
end

end L2

namespace Att
open PySem PySem.W PySem.Calls PyProof.Rows

theorem ints_of_wellAll {P : Params} {h : Heap} : ∀ (ns : List Int) (vs : List Value), WellAll P h vs (ns.map WData.int) → IntsAre vs ns := by
  intro ns
  induction ns with
  | nil =>
    intro vs w
    rw [List.map_nil] at w
    cases w
    exact .nil
  | cons n ns ih =>
    intro vs w
    rw [List.map_cons] at w
    cases w with
    | cons a b =>
      cases a
      exact .cons _ _ (ih _ b)

theorem script_of {l : OpenLaw} {n : Nat} (hn : l.most = some n) {P : Params} {h : Heap} {args : List WData} {vals : List Value}
    (hpre : l.row.toRowW.claim.pre args = true) (hwl : WellAll P h vals args) :
    ∃ a vs ns, vals = [Value.ref a] ∧ args = [WData.list (ns.map WData.int)] ∧ h.get? a = some { cls := .type "list", data := .seq vs.toArray } ∧ IntsAre vs ns ∧ ns.length ≤ n := by
  have hsh : WShape.hasAll [] args [.list .int] = true := (pre_splitW hpre).1
  have hc : l.pre.holds [] { args := args } = true := (pre_splitW hpre).2
  obtain ⟨d, r, rfl, h1, h2⟩ := hasAllW_cons hsh
  obtain rfl := hasAllW_nil h2
  obtain ⟨xs, rfl, h3⟩ := hasW_list h1
  obtain ⟨ns, rfl⟩ := items_int h3
  have hlen : ns.length ≤ n := by
    unfold OpenLaw.pre at hc
    have h4 : (WTm.not (.lt (.lit (.int (n : Int))) (.len (.arg 0)))).holds [] { args := [.list (ns.map .int)] } = true := by
      have h4 := (holds_andW hc).1
      rw [hn] at h4
      exact h4
    have h5 := condW_of h4 (w_not (w_lt w_lit (w_len_list (w_arg rfl))))
    rw [List.length_map] at h5
    refine Nat.le_of_not_lt fun q => ?_
    have q' : (n : Int) < ((ns.length : Nat) : Int) := by omega
    first
      | (rw [decide_eq_true q'] at h5; exact absurd h5 (by decide))
      | (simp at h5; omega)
  cases hwl with
  | cons w1 w2 =>
    cases w2
    cases w1 with
    | list ho hall => exact ⟨_, _, ns, rfl, rfl, ho, ints_of_wellAll ns _ hall, hlen⟩

theorem post_true (l : OpenLaw) (args : List WData) : l.row.toRowW.claim.post args (.bool true) args = true :=
  postW_of (r := l.row.toRowW) (X := (true == true))
    (show WShape.has [] (.bool true) .bool = true by first | rfl | decide | simp [WShape.has, WShape.arms, WShape.armsAll])
    (show (WTm.eq .res (.lit (.bool true))).value [] { args := args, res := some (.bool true), after := args } = some (.bool (true == true)) from w_eq_bool (w_res rfl) w_lit) rfl

theorem attach_call {l : OpenLaw} {n : Nat} {q : Program} {loose : List Str} {XP : (Str → Option Value) → Heap → Prop} {YP : World → Heap → Prop} {d : DefRec}
    (hn : l.most = some n) (hdf : d.params.defaults = [])
    (call : ∀ (w : World) (s₀ s₁ : Shared) (mg mb : Str → Option Value) (fa : Addr) (o : Obj) (pm cd doc : Value) (a : Addr) (vs : List Value) (ns : List Int),
      Ground q loose [] XP w s₀ mg mb s₁.heap → YP w s₁.heap →
      s₁.heap.get? fa = some o → o.data = .func (docDef d.name d.params d.body d.scope pm cd doc) → s₁.heap.CodeRec cd d.name → mg d.name = some (.ref fa) →
      s₁.heap.get? a = some { cls := .type "list", data := .seq vs.toArray } → IntsAre vs ns → ns.length ≤ n → s₁.gens = #[] →
      codeAny (model l.prog w) callerA (.call (.ref fa) ⟨[.ref a], []⟩) (fun r s' => r = .ok (.ret (.bool true)) ∧ OldK s₁.heap s'.heap ∧ s'.os = s₁.os ∧ AllBare s'.gens) s₁) :
    WalkO q loose XP YP l.row.toRowW d [] (fun f vs => PySem.call f vs) := by
  intro w s₀ s₁ mg mb G Y fa o pm cd doc dV kV ho hd hcd hD hmg hg args vals as hpre hlay hrd hwl hlo
  obtain rfl : dV = .none := Dflts.none hD hdf
  obtain rfl : kV = .none := Dflts.noKw hD
  obtain ⟨a, vs, ns, rfl, rfl, hobj, hints, hlen⟩ := script_of hn hpre hwl
  refine enter_call (codeAny_mono (call w s₀ s₁ mg mb fa o pm cd doc a vs ns G Y ho (fd_plain hd) hcd hmg hobj hints hlen hg) fun r s' hq => ?_)
  obtain ⟨rfl, h2, h3, h4⟩ := hq
  exact ⟨.inl ⟨.bool true, .bool true, [], rfl, fun _ => rfl, .bool true, post_true l _, fun _ => ⟨List.Pairwise.nil, fun _ hm => (nomatch hm)⟩⟩, h2, h3, h4⟩

section
variable {prog : Program} {w : World} {A : Around} {E : Value → Shared → Prop} {s : Shared} {K : Frag}

end
end Att

namespace L2
open PySem PySem.Spec PyProof.Rows

theorem vals_ints : ∀ {vs : List Value} {ns : List Int}, IntsAre vs ns → Vals (ns.map V.int) vs
  | _, _, .nil => .nil
  | _, _, .cons n t h => .cons ⟨t, rfl⟩ (vals_ints h)

end L2

namespace L2
open PySem PySem.Spec PyProof.Rows

end L2


namespace L2
open PySem PySem.Spec PyProof.Rows

def defArgs (s : Stmt) : Arguments := match s with
  | .FunctionDef _ a _ _ _ _ _ _ _ _ => a
  | _ => { posonlyargs := [], args := [], vararg := none, kwonlyargs := [], kw_defaults := [], kwarg := none, defaults := [] }
def defBody (s : Stmt) : List Stmt := match s with
  | .FunctionDef _ _ b _ _ _ _ _ _ _ => b
  | _ => []
def defScope (s : Stmt) : Scope := match s with
  | .FunctionDef _ _ _ _ _ _ sc _ _ _ => sc
  | _ => { kind := .function, names := [], isGenerator := false, isCoroutine := false }

abbrev CX0 : CXT := fun _ _ _ _ _ _ => False
abbrev E0 : XK := fun _ _ _ => False
theorem pass0 {X : Cx} : Passes CX0 X E0 := fun _ _ _ _ _ _ _ h => h.elim

structure Fun (K : PySem.W.Frag) (x qual : Str) (st : Stmt) (f : Addr) (fd : FuncData) : Prop where
  ex : ∃ (oc : Value) (od : Option Addr) (kV doc pm : Value) (an : Option Addr) (cdv ct : Value) (osl : Array (Option Value)),
    fd = PySem.W.fnOf x qual (defArgs st) (defBody st) (defScope st) .none kV doc pm an cdv ct ∧ K.lookup f = some ⟨oc, od, .func fd, osl⟩ ∧ PySem.W.codeIn K cdv qual = true
  kp : PySem.W.keepIn K (.ref f) = true
section
variable {P : Program} {w : World} {K : PySem.W.Frag} {mg : Str → Option Value} {base : Heap}
theorem Fun.ok {x qual : Str} {st : Stmt} {f : Addr} {fd : FuncData} {N ps : List Str} {k : Nat} {sp : Sp} (F : Fun K x qual st f fd) (S : FnScope N ps (defScope st)) (len : ∀ vs H Q E, sp vs H Q E → vs.length = ps.length)
    (hbody : ∀ (cdv : Value) (A : Around) (outer : List Env) (s : Shared) (H : Hp) (vs : List V) (Q : VK) (E : XK), Room k (A.deeper (envOfC qual (defScope st) s.heap.objs.size f cdv)) → sp vs H Q E →
      ∃ t, PSs (cxOf CX0 P w K mg base N qual (defScope st) f cdv A outer s H E).nox (defBody st) t ∧ t { nx := fun _ H' => Q .non H', rt := Q } (start N vs) H) : FnOk P w K mg base CX0 (k + 1) f fd ps sp := by
  obtain ⟨oc, od, kV, doc, pm, an, cdv, ct, osl, rfl, lk, hcd⟩ := F.ex
  refine fn_of lk hcd S len fun A outer s H vs Q E hr hsp => ?_
  obtain ⟨t, h, q⟩ := hbody cdv A outer s H vs Q E hr hsp
  exact ⟨t, h.nox, q⟩
theorem Fun.binds {x qual : Str} {st : Stmt} {f : Addr} {fd : FuncData} {ps : List Str} (F : Fun K x qual st f fd)
    (h : ∀ (kV doc pm : Value) (an : Option Addr) (cdv ct : Value) (us : List Value), us.length = ps.length → bindArgs (PySem.W.fnOf x qual (defArgs st) (defBody st) (defScope st) .none kV doc pm an cdv ct) ⟨us, []⟩ = pure (ps.zip us)) : Binds K fd ps [] := by
  obtain ⟨oc, od, kV, doc, pm, an, cdv, ct, osl, rfl, lk, hcd⟩ := F.ex
  exact .all (h kV doc pm an cdv ct)
end
section
variable {X : Cx}
theorem pv (i : Nat) {x : Str} {pos : Pos} (hN : X.N[i]? = some x := by rfl) (hv : Vis X.env.scope x := by first | exact Or.inl rfl | exact Or.inr (Or.inl rfl) | exact Or.inr (Or.inr rfl)) (hd : (x == ("__debug__" : Str)) = false := by decide)
    (hcd : (x == ("__classdict__" : Str)) = false := by decide) : PE X (.Name x pos) (tVar i) := pe_var hN hv hd hcd
end

theorem iteF {A B : Prop} (h : B) : if false = true then A else B := by
  rw [if_neg Bool.false_ne_true]
  exact h
theorem iteT {A B : Prop} (h : A) : if true = true then A else B := by
  rw [if_pos rfl]
  exact h
theorem ite2 {c A B : Prop} [Decidable c] (h1 : c → A) (h2 : ¬ c → B) : if c then A else B := by
  by_cases h : c
  · rw [if_pos h]
    exact h1 h
  · rw [if_neg h]
    exact h2 h
theorem iteNS {c A B : Prop} [Decidable c] (hc : c) (h : B) : if (!decide c) = true then A else B := by
  rw [decide_eq_true hc]
  exact iteF h

def Same (H H' : Hp) : Prop := ∀ b o, H b = some o → H' b = some o
theorem Same.refl (H : Hp) : Same H H := fun _ _ h => h
theorem Same.trans {H H1 H2 : Hp} (a : Same H H1) (b : Same H1 H2) : Same H H2 := fun c o h => b c o (a c o h)
theorem Same.free {H H' : Hp} (e : Same H H') {l : Addr} (h : H' l = Option.none) : H l = Option.none := by
  cases q : H l with
  | none => rfl
  | some o =>
    rw [e l o q] at h
    cases h
theorem Same.seq {K : PySem.W.Frag} {H H' : Hp} {a : Addr} {xs : List V} (e : Same H H') (h : SqL K H a xs) : SqL K H' a xs := by
  rcases h with (h | ⟨o, h⟩) | h
  · exact .inl (.inl (e _ _ h))
  · exact .inl (.inr ⟨o, e _ _ h⟩)
  · exact .inr h

section
variable {κ : Type} [DecidableEq κ]
end
theorem at_of {xs : List V} {z : Int} {j : Nat} {v : V} (e : z = (j : Int)) (h : xs[j]? = some v) : atI xs z = some v := by
  rw [e]
  exact atI_nat h
theorem Same.made {H H1 : Hp} {x dx C : Addr} (nx : H x = Option.none) (nd : H dx = Option.none) (k : ∀ b o, (upd (upd H dx (.own x)) x (.ins C dx [])) b = some o → b ≠ x → H1 b = some o) : Same H H1 := fun b o e =>
  k b o (by rw [upd_ne (ne_of_none e nx), upd_ne (ne_of_none e nd)]; exact e) (ne_of_none e nx)
end L2

namespace L2
open PySem PySem.Spec PyProof.Rows

theorem gens_le {M : Model} {Γ : PySem.Ctx} {p : Pos} {t : Sem Fin} {fs : List Frame} {s : Shared} {e : End} {s' : Shared} (h : Runs M Γ p t fs s e s') : s.gens.size ≤ s'.gens.size := by
  induction h <;> first
    | exact Nat.le_refl _
    | assumption
    | (simp only [Shared.setGen, Array.size_setIfInBounds, Array.size_push] at *; omega)
    | omega

def SegK (M : Model) (A : Around) (R : Result → Shared → Prop) (Y : Value → (Resume → Sem Fin) → Code → List Frame → Shared → Prop) (c : Code) (t : Sem Fin) (fs : List Frame) (s : Shared) : Prop :=
  ∀ Γ p, Γ.code = c → Γ.Woken A → ∃ e s', Runs M Γ p t fs s e s' ∧ (match e with
    | .ret r => R r s'
    | .susp v g l k c' p' fs' => (End.susp v g l k c' p' fs').quiet = true ∧ Y v k c' fs' s')
section
variable {M : Model} {A : Around} {R : Result → Shared → Prop} {Y : Value → (Resume → Sem Fin) → Code → List Frame → Shared → Prop} {c : Code} {fs : List Frame} {s : Shared}
theorem segK_wrap {α : Type} {m : Sem α} {K : α → Sem Fin} {H : Value → Sem Fin} {gd lv}
    (h : wpAny M (A.over c fs) m (fun a s' => SegK M A R Y c (K a) fs s') (fun x s' => SegK M A R Y c (H x) fs s') s) :
    SegK M A R Y c (m.wrap K H gd lv) fs s := by
  rintro Γ p rfl hΓ
  exact runs_wrap_of_wp K H gd lv m (h (Γ.over fs) p (hΓ.over fs)) (fun a p' s' h' => h' Γ p' rfl hΓ) (fun x p' s' h' => h' Γ p' rfl hΓ)
theorem segK_bind_wrap {α β : Type} {m : Sem α} {K : α → Sem β} {K' : β → Sem Fin} {H' : Value → Sem Fin} {gd lv}
    (h : wpAny M (A.over c fs) m (fun a s' => SegK M A R Y c ((K a).wrap K' H' gd lv) fs s') (fun x s' => SegK M A R Y c (H' x) fs s') s) : SegK M A R Y c ((m >>= K).wrap K' H' gd lv) fs s := by
  rw [Sem.bind_eq_wrap', Sem.wrap_wrap]; exact segK_wrap h
theorem segK_at {p' : Pos} {k : Unit → Sem Fin} (h : SegK M A R Y c (k ()) fs s) : SegK M A R Y c (.at p' k) fs s :=
  segK_wrap (m := standAt p') (K := k) (H := .raise) (gd := id) (lv := id) (wpAny_standAt h)
theorem segK_again {c' : Code} (hq : c'.quiet = true) (hc : SegK M A R Y c' (M.den c') fs s) : SegK M A R Y c (.pure (.again c')) fs s := by
  rintro Γ p rfl hΓ
  obtain ⟨e, s', hr, he⟩ := hc (Γ.goto c') p rfl (hΓ.goto c')
  exact ⟨e, s', Runs.head (c₁ := c') (fun _ _ x => .again hq x) hr, he⟩
theorem segK_end (r : Result) (h : R r s) : SegK M A R Y c (leafOf r) [] s := by
  rintro Γ p rfl _
  exact ⟨.ret r, s, Runs.leaf r, h⟩
theorem segK_yield {v g l} {k : Resume → Sem Fin} (hfs : splitAtGen fs = none) (hg : g = false) (hfg : fs.any Frame.guarded = false)
    (h : Y v k c fs s) : SegK M A R Y c (.yield v g l k) fs s := by
  rintro Γ p rfl _
  exact ⟨_, s, Runs.yield' fs hfs, And.intro (by simp [End.quiet, hg, hfg]) h⟩

def GoesK (M : Model) (A : Around) (R : Result → Shared → Prop) (Y : Value → (Resume → Sem Fin) → Code → List Frame → Shared → Prop) (gs : GenState) (r : Resume) (s : Shared) : Prop :=
  match gs with
  | .fresh c => r = .send .none ∧ SegK M A R Y c (M.den c) [] s
  | .suspended k _ c _ fs _ => SegK M A R Y c (k r) fs s
  | _ => False

theorem wpAny_resumeK {E : Value → Shared → Prop} {g : Nat} {gs : GenState} {r : Resume} {l : List Value} {α : Type} {k : GenResult → Sem α} {Q : α → Shared → Prop} (hg : s.gens[g]? = some gs)
    (hgo : GoesK M A R Y gs r (s.setGen g .running))
    (hR : ∀ x s1, R x s1 → g < s1.gens.size → wpAny M A (k (End.ret x).result) Q E (s1.setGen g .finished))
    (hY : ∀ v k' c' fs' l' p' s1, Y v k' c' fs' s1 → g < s1.gens.size → wpAny M A (k (.yielded v)) Q E (s1.setGen g (.suspended k' l' c' p' fs' false))) :
    wpAny M A (.resume g r l k) Q E s := by
  intro Γ p hΓ
  rw [Sem.wp_resume]
  have hB : ∀ c, (Γ.wake c p).Woken A := fun c => hΓ.wake c p
  have hlt : g < s.gens.size := by
    rcases Nat.lt_or_ge g s.gens.size with h' | h'
    · exact h'
    · rw [Array.getElem?_eq_none h'] at hg; cases hg
  have hsz : (s.setGen g .running).gens.size = s.gens.size := by simp [Shared.setGen]
  have fin : ∀ (c0 : Code) (p0 : Pos) (t0 : Sem Fin) (fs0 : List Frame), SegK M A R Y c0 t0 fs0 (s.setGen g .running) →
      ∃ e1 s1, Runs M (Γ.wake c0 p) p0 t0 fs0 (s.setGen g .running) e1 s1 ∧ e1.quiet = true ∧ Sem.wp M Γ (k e1.result) (fun a _ s' => Q a s') (fun e _ s' => E e s') p (s1.setGen g e1.genState) := by
    intro c0 p0 t0 fs0 h
    obtain ⟨e1, s1, hr, he⟩ := h (Γ.wake c0 p) p0 rfl (hB c0)
    have h1 : g < s1.gens.size := Nat.lt_of_lt_of_le (by rw [hsz]; exact hlt) (gens_le hr)
    cases e1 with
    | ret x => exact ⟨_, s1, hr, rfl, hR x s1 he h1 Γ p hΓ⟩
    | susp v g0 l0 k0 c1 p1 fs1 =>
      refine ⟨_, s1, hr, he.1, ?_⟩
      have hq : (g0 || fs1.any Frame.guarded) = false := by simpa [End.quiet] using he.1
      have q := hY v k0 c1 fs1 l0 p1 s1 he.2 h1 Γ p hΓ
      show Sem.wp M Γ (k (.yielded v)) _ _ p (s1.setGen g (.suspended k0 l0 c1 p1 fs1 (g0 || fs1.any Frame.guarded)))
      rw [hq]
      exact q
  cases gs with
  | fresh c =>
    obtain ⟨rfl, hs⟩ := hgo
    obtain ⟨e1, s1, hr, hq, hw⟩ := fin c p _ _ hs
    exact ⟨_, _, by unfold Wakes; rw [hg]; exact ⟨e1, s1, hr, hq, rfl, rfl⟩, hw⟩
  | suspended k0 l0 c0 p0 fs0 cl =>
    obtain ⟨e1, s1, hr, hq, hw⟩ := fin c0 p0 _ _ hgo
    exact ⟨_, _, by unfold Wakes; rw [hg]; exact ⟨e1, s1, hr, hq, rfl, rfl⟩, hw⟩
  | running => exact hgo.elim
  | finished => exact hgo.elim
end

section
variable {prog : Program} {w : World} {A : Around} {E : Value → Shared → Prop} {s : Shared}
theorem next_genK {a : Addr} {g : Nat} {gs : GenState} {R : Shared → Prop} {Y : Value → (Resume → Sem Fin) → Code → List Frame → Shared → Prop} {Q : Option Value → Shared → Prop} (hh : A.handled = none)
    (hl : s.heap.NoLimit) (hroom : A.depth < recursionLimit) (hg : s.heap.IsGen a g) (hgs : s.gens[g]? = some gs)
    (hgo : GoesK (model prog w) A.in1 (fun r s1 => r = .ok .next ∧ R s1) Y gs (.send .none) (s.setGen g .running))
    (hY : ∀ v k' c' fs' l' p' s1, Y v k' c' fs' s1 → g < s1.gens.size → Q (some v) (s1.setGen g (.suspended k' l' c' p' fs' false)))
    (hP : ∀ s1, R s1 → g < s1.gens.size → ∀ h', (∀ b o, s1.heap.get? b = some o → h'.get? b = some o) → Q none { s1.setGen g .finished with heap := h' }) :
    wpAny (model prog w) A (pyNext (.ref a)) Q E s := by
  unfold pyNext
  refine wpAny_bind (wpAny_attempt (wpAny_callSpecial?_slot (name := Str.ofString "__next__") hg.typeIs slot_gen_next
    (wpAny_call_entry slot_gen_next hg.typeIs entry_gen_next ?_ (args_gen_next _))))
  show wpAny _ A.in1 (Builtin.Generator.genWake (.ref a) (.send .none)) _ _ s
  unfold Builtin.Generator.genWake
  refine wpAny_bind (wpAny_holding (wpAny_genNumber hg (wpAny_bind (wpAny_genState hgs ?_))))
  cases gs with
  | running => exact hgo.elim
  | finished => exact hgo.elim
  | _ =>
    refine wpAny_bind (wpAny_roomToWake hl hroom ?_)
    show wpAny _ A.in1 (.resume g (.send .none) [] _) _ _ s
    refine wpAny_resumeK hgs hgo (fun x s1 hx hlt => ?_) (fun v k' c' fs' l' p' s1 hv hlt => ?_)
    · obtain ⟨rfl, hp⟩ := hx
      show wpAny _ A.in1 (newExc (.type "StopIteration") [] >>= _) _ _ _
      refine wpAny_bind ?_
      simp only [newExc, newTuple]
      refine wpAny_bind (wpAny_newObj_type ?_ (by size_fits))
      refine wpAny_bind (m := firstArgMember _ _) (wpAny_of_eq (a := Value.none) (by first | rfl | (simp only [firstArgMember]; rfl)) ?_)
      refine wpAny_newObj_type ?_ (by size_fits)
      simp only [raiseNew]
      refine wpAny_bind (wpAny_bind (wpAny_handled ?_))
      first | rw [show A.in1.handled = none from hh] | rw [hh]
      refine wpAny_throw ?_
      refine wpAny_bind (wpAny_isInstance (T := "StopIteration") (b := true) ⟨_, Heap.get?_push_size _ rfl, rfl⟩ isSubtype_stop ?_)
      exact wpAny_pure (hP s1 hp hlt _ fun b o hb => Heap.get?_push_of_some _ (Heap.get?_push_of_some _ hb))
    · exact wpAny_pure ⟨v, rfl, wpAny_pure (hY v k' c' fs' l' p' s1 hv hlt)⟩
end
end L2

namespace L2
open PySem PySem.Spec PyProof.Rows

def TbE (P : Addr) (ps : Array Value) : Heap → Prop := fun h => ∃ more : Array Value, h.get? P = some { cls := .none, data := .fields (ps ++ more) } ∧ TriplesOk (ps ++ more).toList
abbrev tbO (P : Addr) (ps : Array Value) : HO := .ext (TbE P ps)
structure CodeK (K : PySem.W.Frag) (c P : Addr) : Prop where
  ex : ∃ (o : Obj) (vs : Array Value) (file : Str) (tf : Tok) (flags : Int) (tg : Tok) (inF : Bool) (text : Int) (tt : Tok), K.lookup c = some o ∧ o.cls = .type "code" ∧ o.data = .fields vs ∧ vs[11]? = some (.ref P) ∧
    vs.getD 18 .none = .str file tf ∧ vs.getD 7 .none = .int flags tg ∧ vs.getD 9 .none = .bool inF ∧ vs.getD 10 .none = .int text tt
  ne : c ≠ P
structure BmK (base : Heap) (mg : Str → Option Value) : Prop where
  ex : ∃ (bm : Addr) (ob : Obj), mg "__builtins__" = some (.ref bm) ∧ bm ≠ builtinsNs ∧ base.get? bm = some ob ∧ ob.cls = .type "module" ∧ ob.dict = some builtinsNs ∧ ob.data = .plain

section
variable {X : Cx} {pins : List (Addr × Obj)} {σ : St} {H : Hp} {s : Shared}
theorem upd_self {a : Addr} {o : HO} (h : H a = some o) : upd H a o = H := by
  funext b
  by_cases e : b = a
  · subst e; rw [upd_same, h]
  · rw [upd_ne e]
theorem tb_stay {P : Addr} {ps : Array Value} (h1 h2 : Heap) (x : TbE P ps h1) (k : ∀ o, h1.get? P = some o → h2.get? P = some o) : TbE P ps h2 :=
  let ⟨more, e, t⟩ := x; ⟨more, k _ e, t⟩
theorem code_of {c P : Addr} {ps : Array Value} (I : Inv X pins σ H s) (C : CodeK X.K c P) (hP : H P = some (tbO P ps)) : ∃ more, s.heap.IsCode c P (ps ++ more) ∧ s.heap.TableAt c P (ps ++ more) := by
  obtain ⟨⟨o, vs, file, tf, flags, tg, inF, text, tt, hk, hcl, hd, h11, h18, h7, h9, h10⟩, ne⟩ := C
  obtain ⟨⟨more, e, t⟩, _, _⟩ := I.hok P _ hP
  have ho := I.kIn c o hk
  have h11' : vs.getD 11 .none = .ref P := by
    rw [Array.getD_eq_getD_getElem?, h11]; rfl
  exact ⟨more, ⟨o, vs, file, tf, flags, tg, inF, text, tt, _, ho, hd, h11', h18, h7, h9, h10, e, rfl, t, ne⟩, ⟨⟨o, vs, ho, hcl, hd, h11⟩, e⟩⟩

theorem gcode_ok {A : Around} {E : Value → Shared → Prop} {c P : Addr} {ps : Array Value} {pos : Pos} {qual : Str} {scope : Scope} {Q : Value → Shared → Prop} (I : Inv X pins σ H s) (hc : X.env.code = .ref c) (C : CodeK X.K c P) (hP : H P = some (tbO P ps))
    (h : ∀ code h' tk, Inv X pins σ H { s with heap := h', toks := tk } → Heap.ExtBut P s.heap h' → s.heap.objs.size ≤ h'.objs.size → Q code { s with heap := h', toks := tk }) :
    wpAny (model X.prog X.w) A (genexprCode X.env pos qual scope) Q E s := by
  obtain ⟨more, ic, ta⟩ := code_of I C hP
  cases hnf : codeAmong pos (ps ++ more).toList with
  | some cv =>
    obtain ⟨o, vs, file, tf, flags, tg, inF, text, tt, op, ho, hd, h11, h2, h7, h9, h10, hop, hpd, htr, hne⟩ := id ic
    unfold genexprCode codeAt
    rw [hc, if_neg (show ¬ ((Value.ref c == Value.none) = true) from Bool.false_ne_true)]
    refine wpAny_bind (wpAny_fieldsOf ho hd ?_)
    rw [h11]
    refine wpAny_bind (wpAny_fieldsOf hop hpd ?_)
    rw [hnf]
    exact wpAny_pure (h cv s.heap s.toks I (Heap.ExtBut.refl _ _) (Nat.le_refl _))
  | none =>
    refine wpAny_genexprCodeX hc ic ta hnf fun c' h' tk hx hge hlt hic _ hta _ => ?_
    refine h _ h' tk ?_ hx (Nat.le_trans hge (Nat.le_of_lt hlt))
    have htr : TriplesOk (ps ++ (more ++ #[rawInt pos.line, rawInt pos.col, Value.ref c'])).toList := by
      obtain ⟨o, vs, file, tf, flags, tg, inF, text, tt, op, ho, hd, h11, h2, h7, h9, h10, hop, hpd, htr, hne⟩ := hic
      rw [← Array.append_assoc]; exact htr
    have e2 : h'.get? P = some { cls := .none, data := .fields (ps ++ (more ++ #[rawInt pos.line, rawInt pos.col, Value.ref c'])) } := by
      rw [← Array.append_assoc]; exact hta.2
    have w := I.write (x := P) (e := P) (o := tbO P ps) (t' := tk) (h' := h') (by rw [hP]; trivial) (.inl rfl) (fun b u hb q => hx b u hb q) ⟨_, e2⟩
      ⟨⟨_, e2, htr⟩, ⟨_, e2⟩, fun h1 h2 x k => tb_stay h1 h2 x k⟩
    rw [upd_self hP] at w
    exact w
end

abbrev gcx (X : Cx) (A : Around) (s : Shared) (H : Hp) (genv : Env) (fp : List Addr) : Cx :=
  { X with A := A, s_0 := s, H_0 := H, env := genv, outer := X.stack, stack := genv :: X.stack, ex := fp, fn := fun _ => false, pn := [], xe := fun _ _ => False }
structure GenSc (scope : Scope) : Prop where
  co : scope.isCoroutine = false
  cell : ∀ y ∈ scope.names, y.2 ≠ .cell
  dot : scope.names.lookup (".0" : Str) = some NameKind.local
abbrev genvOf (X : Cx) (scope : Scope) (C : Addr) (code : Value) : Env := genEnv scope (cloFrom X.env.cells scope.names []) C code builtinsNs X.env

section
variable {X : Cx} {pins : List (Addr × Obj)} {σ : St} {H : Hp} {s : Shared}
theorem gen_start {scope : Scope} {own : List (Str × Nat)} {fp : List Addr} {A : Around} {h5 : Heap} {g5 : Array GenState} {tk : Nat} {code : Value} {m : Str → Option Value} (I : Inv X pins σ H s) (ok : BlkOk X.N X.env.scope scope own) (gs : GenSc scope) (hN : X.N.Nodup)
    (hfp : ∀ b ∈ fp, FpOk X pins H b ∧ b < s.heap.objs.size) (hA : A.frames = some (genvOf X scope s.heap.objs.size code :: X.stack)) (hh : A.handled = none)
    (kp : ∀ b o, s.heap.get? b = some o → h5.get? b = some o) (hns : h5.Ns s.heap.objs.size m) (hb : AllBare g5) :
    Inv (gcx X A s H (genvOf X scope s.heap.objs.size code) fp) [] (wipe σ (own.map (·.2))) H { s with heap := h5, gens := g5, toks := tk } := by
  have hfree : ∀ y ∈ scope.names, y.2 = .free → ∃ c, X.env.cells.lookup y.1 = some c := fun y hy e => by
    rcases ok.free y hy e with k | k
    · exact I.ok.has _ (.inl k)
    · exact I.ok.has _ (.inr k)
  have hcl : (genvOf X scope s.heap.objs.size code).cells = cloFrom X.env.cells scope.names [] := rfl
  have cm : ∀ {y c}, (genvOf X scope s.heap.objs.size code).cells.lookup y = some c → X.env.cells.lookup y = some c ∧ c < s.heap.objs.size := fun {y c} e => by
    rw [hcl] at e
    rcases cloFrom_mem (PySem.mem_of_lookup e) with hm | ⟨h1, rfl⟩
    · cases hm
    · obtain ⟨c, hc⟩ := hfree _ h1 rfl
      rw [hc]
      obtain ⟨w, z⟩ := I.cell _ _ hc
      exact ⟨rfl, z.lt⟩
  have look : ∀ {y}, scope.names.lookup y = some .free → ∃ c, (genvOf X scope s.heap.objs.size code).cells.lookup y = some c ∧ X.env.cells.lookup y = some c := fun {y} hl => by
    obtain ⟨c', e'⟩ := mem_lookup (cloFrom_has (cells := X.env.cells) (acc := []) (PySem.mem_of_lookup hl))
    exact ⟨c', e', (cm e').1⟩
  have nocell : ∀ y, scope.names.lookup y ≠ some .cell := fun y e => gs.cell _ (PySem.mem_of_lookup e) rfl
  have okG : (gcx X A s H (genvOf X scope s.heap.objs.size code) fp).Ok := by
    refine ⟨I.ok.mod, ok.kind, I.ok.glob, rfl, Nat.le_refl _, fun y z c e1 e2 => I.ok.inj y z c (cm e1).1 (cm e2).1, fun y hy => ?_, fun y c z e => absurd (show false = true from z) (by decide), fun _ => hh, hA, .inr ⟨rfl, rfl⟩, fun b hb => ⟨Nat.ne_of_lt (hfp b hb).2, fun y c e => (hfp b hb).1.2.2.2.2.1 y c (cm e).1⟩,
      I.bs, Nat.le_trans I.ok.bsz I.sz, fun b o e hb => ?_, fun b hb z => ?_, I.stack, I.stkFree⟩
    · rcases hy with hy | hy
      · exact absurd hy (nocell y)
      · obtain ⟨c, h1, _⟩ := look hy
        exact ⟨c, h1⟩
    · rcases (hfp b hb).1.2.2.2.1 with z | z
      · exact I.ok.noex b o e z
      · exact absurd (Nat.lt_of_lt_of_le (Heap.lt_size e) (Nat.le_trans I.ok.bsz z)) (Nat.lt_irrefl _)
    · rcases List.mem_cons.mp (I.stkSub b z) with z | z
      · exact (hfp b hb).1.2.1 z
      · exact (hfp b hb).1.2.2.1 z
  refine ⟨okG, rfl, hb, Un.kept kp, ⟨m, hns, fun i y av e1 e2 e3 => ?_⟩, fun y c e => ?_, I.hok.fresh (Nat.le_refl _), fun y c e => I.freeC y c (cm e).1, fun p hp => ?_, I.hok.kept kp, by rw [wipe_length]; exact I.len⟩
  · obtain ⟨e2, hne⟩ := wipe_some e2
    have hfr : scope.names.lookup y = some .free := by
      have no : ∀ k, scope.names.lookup y = some k → ¬ (k = .local ∨ k = .cell) := fun k e hh => by
        rcases ok.own _ (PySem.mem_of_lookup e) hh with e' | e'
        · obtain ⟨p, hp, hpy⟩ := List.mem_map.mp e'
          have e3 := ok.ix p hp
          have : p.1 = y := hpy
          rw [this] at e3
          exact hne (List.mem_map.mpr ⟨p, hp, nodup_ix hN e3 e1⟩)
        · exact e' (List.mem_of_getElem? e1)
      rcases e3 with e3 | e3 | e3
      · exact absurd (.inl rfl) (no _ e3)
      · exact absurd (.inr rfl) (no _ e3)
      · exact e3
    obtain ⟨m', hn, hl⟩ := I.loc
    have hvis : Vis X.env.scope y := (ok.free _ (PySem.mem_of_lookup hfr) rfl).elim (fun k => .inr (.inl k)) (fun k => .inr (.inr k))
    obtain ⟨w, r, q⟩ := hl i y av e1 e2 hvis
    refine ⟨w, r, .inr ⟨.inr hfr, ?_⟩⟩
    obtain ⟨c, h1, h2⟩ := look hfr
    rcases q with ⟨k, _⟩ | ⟨_, c', e', z⟩
    · have k : X.env.scope.names.lookup y = some .local := k
      rcases ok.free _ (PySem.mem_of_lookup hfr) rfl with k' | k' <;> rw [show X.env.scope.names.lookup y = _ from k'] at k <;> cases k
    · rw [h2] at e'; cases e'
      exact ⟨c, h1, z.keeps kp⟩
  · obtain ⟨w, z⟩ := I.cell y c (cm e).1
    exact ⟨w, z.keeps kp⟩
  · exact absurd (show p ∈ ([] : List (Addr × Obj)) ++ [] from hp) (by simp)
end

def gGen {α : Type} (J : It) (g : TG) (tt : TT) (te : TE) (vs : List Nat) (σ : St) (Stp : α → Hp → Prop) (Ste : α → V → Hp → (α → Hp → Prop) → Prop) : Nat → α → Nat → Hp → Prop
  | 0, _, _, _ => False
  | m + 1, acc, i, H => (J.stop i H ∧ Stp acc H) ∨ (J.go i H ∧ ∃ Nx : α → Hp → Prop, (∀ acc' H', Nx acc' H' → gGen J g tt te vs σ Stp Ste m acc' (i + 1) H') ∧ ∀ x H', J.yld i H x H' → g x (wipe σ vs) H' fun σ2 H2 => wipe σ2 vs = wipe σ vs ∧ tt σ2 H2 fun b H3 =>
      if b = true then te σ2 H3 fun y H4 => Ste acc y H4 Nx else Nx acc H3)

section
variable {X : Cx} {σ : St} {H : Hp} {s : Shared} {elt tg iter : Expr} {ifs : List Expr} {scope : Scope} {pos : Pos}
abbrev gLoopC (elt tg iter : Expr) (ifs : List Expr) (scope : Scope) (pos : Pos) (it : Addr) (genv : Env) : Code := .compLoop (.GeneratorExp elt [⟨tg, iter, ifs, 0⟩] scope pos) 0 (.ref it) .none genv
abbrev gStartC (elt tg iter : Expr) (ifs : List Expr) (scope : Scope) (pos : Pos) (it : Addr) (genv : Env) : Code := .compStart (.GeneratorExp elt [⟨tg, iter, ifs, 0⟩] scope pos) 0 (.ref it) .none genv

theorem seg_loop {α : Type} {Ar : Around} {G : Cx} {fp : List Addr} {it : Addr} {tn : Nat → Heap → Prop} {J : It} {g : TG} {tt : TT} {te : TE} {vs : List Nat} {Stp : α → Hp → Prop} {Ste : α → V → Hp → (α → Hp → Prop) → Prop} {pins : List (Addr × Obj)}
    (T : Turn G.prog G.w G.K tg J fp it tn) (hc : G.calm = true) (hxe : G.xe = fun _ _ => False) (hco : G.env.scope.isCoroutine = false)
    (hA : G.A = Ar.over (gLoopC elt tg iter ifs scope pos it G.env) []) (hg : PG G tg g) (ht : PTs G ifs tt) (he : PE G elt te) (hfp : ∀ b ∈ fp, b ≠ G.env.locals ∧ b ∉ G.fs ∧ b ∈ G.ex ∧ (∀ x c, G.env.cells.lookup x = some c → c ≠ b) ∧ ∀ p ∈ G.pn ++ pins, p.1 ≠ b) :
    ∀ (m : Nat) (acc : α) (i : Nat) (H : Hp) (s : Shared), gGen J g tt te vs σ Stp Ste m acc i H → Inv G pins (wipe σ vs) H s → tn i s.heap → (∀ b ∈ fp, H b = none) →
      SegK (model G.prog G.w) Ar (fun r s1 => r = .ok .next ∧ ∃ H', Inv G pins (wipe σ vs) H' s1 ∧ (∀ b ∈ fp, H' b = none) ∧ Stp acc H')
        (fun v k c fs s1 => c = gLoopC elt tg iter ifs scope pos it G.env ∧ fs = [] ∧ k (.send .none) = .pure (.again (gLoopC elt tg iter ifs scope pos it G.env)) ∧ ∃ y i' m' H', RelV y v ∧ Inv G pins (wipe σ vs) H' s1 ∧ tn i' s1.heap ∧ (∀ b ∈ fp, H' b = none) ∧ m' < m ∧
          ∃ Nx : α → Hp → Prop, (∀ acc' H5, Nx acc' H5 → gGen J g tt te vs σ Stp Ste m' acc' i' H5) ∧ Ste acc y H' Nx)
        (gLoopC elt tg iter ifs scope pos it G.env) ((model G.prog G.w).den (gLoopC elt tg iter ifs scope pos it G.env)) [] s := by
  have stat : ∀ {H' : Hp}, (∀ b ∈ fp, H' b = none) → ∀ b ∈ fp, FpOk G pins H' b := fun hn b hb => ⟨hn b hb, (hfp b hb).1, (hfp b hb).2.1, .inl (hfp b hb).2.2.1, (hfp b hb).2.2.2.1, (hfp b hb).2.2.2.2⟩
  intro m
  induction m with
  | zero => intro acc i H s h; exact h.elim
  | succ m ih =>
    intro acc i H s h I st nf
    show SegK _ Ar _ _ _ ((compTurn (.GeneratorExp elt [⟨tg, iter, ifs, 0⟩] scope pos) 0 (.ref it) .none G.env).onRaise (leaving G.env)) [] s
    rw [compTurn_gen, Sem.onRaise_eq_wrap]
    refine segK_bind_wrap (wpAny_standAt ?_)
    rw [gGen] at h
    rcases h with ⟨stop, qs⟩ | ⟨go, Nx, hNx, step⟩
    · have td := T.done G rfl rfl rfl hc i pins s _ H (fun _ _ => False) I (stat nf) st stop
      rw [hA] at td
      refine segK_bind_wrap (thnF td fun r s1 ⟨hr, I1⟩ => ?_)
      subst hr
      exact segK_end (.ok .next) ⟨rfl, H, I1, nf, qs⟩
    · have ti := T.item G rfl rfl rfl hc i pins s _ H (fun _ _ => False) I (stat nf) st go
      rw [hA] at ti
      refine segK_bind_wrap (thnF ti fun r s1 ⟨u, hr, h1⟩ => ?_)
      subst hr
      refine segK_bind_wrap (thnF h1 fun _ s2 ⟨x, H2, I2, r2, y2, st2, n2⟩ => ?_)
      have I2' := I2.pinned (stat n2) (T.obj _ _ st2)
      have pg := hg _ s2 _ H2 x u _ I2' r2 (step x H2 y2)
      rw [hA, hxe] at pg
      refine segK_bind_wrap (thnF pg fun _ s3 ⟨σ3, H3, I3, hw3, q3⟩ => ?_)
      have pt := ht _ s3 σ3 H3 _ I3 q3
      rw [hA, hxe] at pt
      refine segK_bind_wrap (thnF pt fun b s4 ⟨H4, I4, q4⟩ => ?_)
      have fin : ∀ {s' : Shared} {H' : Hp}, Inv G (pins ++ pinsAt fp s2.heap) σ3 H' s' → Inv G pins (wipe σ vs) H' s' ∧ tn (i + 1) s'.heap ∧ (∀ b ∈ fp, H' b = none) := fun {s' H'} I' => by
        have pin' : ∀ b ∈ fp, ∀ o, s2.heap.get? b = some o → s'.heap.get? b = some o ∧ H' b = none := fun b hb o e =>
          let z := I'.pin (b, o) (List.mem_append_right _ (List.mem_append_right _ (mem_pinsAt hb e)))
          ⟨z.1, z.2.1⟩
        have hl : (wipe σ vs).length = σ3.length := by rw [← hw3, wipe_length]
        refine ⟨(I'.unpinned (pins := pins)).weak hl (fun j v e => ?_), T.keep _ _ _ st2 fun b hb o e => (pin' b hb o e).1, fun b hb => ?_⟩
        · rw [← hw3] at e
          exact (wipe_some e).1
        · obtain ⟨o, e, _⟩ := T.obj _ _ st2 b hb
          exact (pin' b hb o e).2
      cases b with
      | false =>
        simp only [Bool.false_eq_true, if_false] at q4 ⊢
        obtain ⟨I5, st5, n5⟩ := fin I4
        have hs := ih acc (i + 1) H4 s4 (hNx _ _ q4) I5 st5 n5
        refine segK_again rfl ?_
        intro Γ p h1 h2
        obtain ⟨e, s', hr, hh⟩ := hs Γ p h1 h2
        refine ⟨e, s', hr, ?_⟩
        cases e with
        | ret r => exact hh
        | susp v g0 l0 k0 c0 p0 fs0 =>
          obtain ⟨hq, e1, e2, e3, y, i', m', H', a1, a2, a3, a4, a5, a6⟩ := hh
          exact ⟨hq, e1, e2, e3, y, i', m', H', a1, a2, a3, a4, Nat.lt_succ_of_lt a5, a6⟩
      | true =>
        simp only [if_true] at q4 ⊢
        have hy : ∀ v, yieldOut G.env v = yieldValue v := fun v => by simp only [yieldOut, hco, Bool.false_eq_true, if_false]
        simp only [hy]
        rw [Sem.bind_eq_wrap', Sem.bind_eq_wrap', Sem.wrap_wrap, Sem.wrap_wrap]
        have pe := he _ s4 σ3 H4 _ I4 q4
        rw [hA, hxe] at pe
        refine segK_wrap (thnF pe fun z s5 ⟨yv, H5, I5, r5, q5⟩ => ?_)
        obtain ⟨I6, st6, n6⟩ := fin I5
        exact segK_at (segK_yield rfl rfl rfl ⟨rfl, rfl, rfl, yv, i + 1, m, H5, r5, I6, st6, n6, Nat.lt_succ_self _, Nx, hNx, q5⟩)
end
end L2

namespace L2
open PySem PySem.Spec PyProof.Rows

structure GRun (G : Cx) (loop start : Code) (fp : List Addr) (tn : Nat → Heap → Prop) (σw : St) (a : Addr) (g : Nat) (i : Nat) (H : Hp) (s : Shared) : Prop where
  inv : Inv G [] σw H s
  st : tn i s.heap
  nfp : ∀ b ∈ fp, H b = none
  isg : s.heap.IsGen a g
  na : H a = none
  gs : s.gens[g]? = some (.fresh start) ∨ ∃ k l p, s.gens[g]? = some (.suspended k l loop p [] false) ∧ k (.send .none) = .pure (.again loop)

section
variable {X : Cx} {pins : List (Addr × Obj)} {σ : St} {H : Hp} {s : Shared}
theorem Inv.gens {g' : Array GenState} {h' : Heap} {t' : Nat} (I : Inv X pins σ H s) (hg : AllBare g') (k : ∀ b u, s.heap.get? b = some u → h'.get? b = some u) : Inv X pins σ H { s with heap := h', gens := g', toks := t' } := by
  refine I.step (d' := s.drawn) (ch := []) (fun _ z => nomatch z) (fun b o _ _ _ e _ => k b o e) (fun b o _ _ _ e _ => ⟨o.slots, k b o e⟩) (fun _ _ _ _ n => n) (fun b o _ e => ⟨o, k b o e⟩) (fun _ _ e => e) (fun _ _ _ e => e) (fun b ps e => ⟨#[], by rw [e]; simp⟩)
    (fun m hm => hm.keeps k) (I.hok.kept k) hg
theorem AllBare.set {s : Shared} {g : Nat} {x : GenState} (h : AllBare s.gens) (hx : x.bare = true) : AllBare (s.setGen g x).gens := by
  intro y hy
  obtain ⟨i, hi, rfl⟩ := Array.mem_iff_getElem.mp hy
  by_cases e : i = g
  · subst e
    simp only [Shared.setGen] at hi ⊢
    rw [Array.getElem_setIfInBounds_self]
    exact hx
  · simp only [Shared.setGen] at hi ⊢
    rw [Array.getElem_setIfInBounds_ne (by simpa using hi) (Ne.symm e)]
    exact h _ (Array.getElem_mem _)
theorem setGen_get {s : Shared} {g : Nat} {x : GenState} (h : g < s.gens.size) : (s.setGen g x).gens[g]? = some x := by
  simp [Shared.setGen, h]
end

section
variable {σ : St} {elt tg iter : Expr} {ifs : List Expr} {scope : Scope} {pos : Pos}
theorem gen_next {α : Type} {An : Around} {G : Cx} {fp : List Addr} {it : Addr} {tn : Nat → Heap → Prop} {J : It} {g : TG} {tt : TT} {te : TE} {vs : List Nat} {Stp : α → Hp → Prop} {Ste : α → V → Hp → (α → Hp → Prop) → Prop} {pins : List (Addr × Obj)}
    {a : Addr} {gn : Nat} {i m : Nat} {acc : α} {H : Hp} {s : Shared} {E : Value → Shared → Prop} {Q : Option Value → Shared → Prop}
    (T : Turn G.prog G.w G.K tg J fp it tn) (hc : G.calm = true) (hxe : G.xe = fun _ _ => False) (hpn : G.pn = []) (hco : G.env.scope.isCoroutine = false)
    (hA : G.A = An.in1.over (gLoopC elt tg iter ifs scope pos it G.env) []) (hh : An.handled = none) (hroom : An.depth < recursionLimit)
    (hg : PG G tg g) (ht : PTs G ifs tt) (he : PE G elt te) (hfp : ∀ b ∈ fp, b ≠ G.env.locals ∧ b ∉ G.fs ∧ b ∈ G.ex ∧ (∀ x c, G.env.cells.lookup x = some c → c ≠ b))
    (ha : a ≠ G.env.locals ∧ a ∉ G.fs ∧ a ∉ fp)
    (R : GRun G (gLoopC elt tg iter ifs scope pos it G.env) (gStartC elt tg iter ifs scope pos it G.env) fp tn (wipe σ vs) a gn i H s)
    (hS : ∀ p ∈ pins, s.heap.get? p.1 = some p.2 ∧ H p.1 = none ∧ p.1 ≠ G.env.locals ∧ p.1 ∉ G.fs ∧ (∀ v, p.2.data ≠ .cell v) ∧ p.1 ∉ fp)
    (W : gGen J g tt te vs σ Stp Ste m acc i H)
    (hstop : ∀ H' s', Inv G pins (wipe σ vs) H' s' → Stp acc H' → Q none s')
    (hyld : ∀ u y i' m' H' s', RelV y u → GRun G (gLoopC elt tg iter ifs scope pos it G.env) (gStartC elt tg iter ifs scope pos it G.env) fp tn (wipe σ vs) a gn i' H' s' → Inv G pins (wipe σ vs) H' s' → m' < m →
      (∃ Nx : α → Hp → Prop, (∀ acc' H5, Nx acc' H5 → gGen J g tt te vs σ Stp Ste m' acc' i' H5) ∧ Ste acc y H' Nx) → Q (some u) s') :
    wpAny (model G.prog G.w) An (pyNext (.ref a)) Q E s := by
  obtain ⟨inv, st, nfp, isg, na, gs⟩ := R
  obtain ⟨oa, nm, qn, hoa, hoc, hod, hos⟩ := id isg
  have I1 : Inv G ((a, oa) :: pins) (wipe σ vs) H s := inv.pins_of fun p hp => by
    rcases List.mem_cons.mp hp with rfl | hp
    · exact ⟨hoa, na, ha.1, ha.2.1, fun v z => by rw [hod] at z; cases z⟩
    · obtain ⟨h1, h2, h3, h4, h5, _⟩ := hS p hp
      exact ⟨h1, h2, h3, h4, h5⟩
  have hfp' : ∀ b ∈ fp, b ≠ G.env.locals ∧ b ∉ G.fs ∧ b ∈ G.ex ∧ (∀ x c, G.env.cells.lookup x = some c → c ≠ b) ∧ ∀ p ∈ G.pn ++ ((a, oa) :: pins), p.1 ≠ b := fun b hb => by
    obtain ⟨h1, h2, h3, h4⟩ := hfp b hb
    refine ⟨h1, h2, h3, h4, fun p hp => ?_⟩
    rw [hpn] at hp
    rcases List.mem_cons.mp hp with rfl | hp
    · exact fun z => ha.2.2 (by rw [show a = b from z]; exact hb)
    · exact fun z => (hS p hp).2.2.2.2.2 (by rw [z]; exact hb)
  have I2 : Inv G ((a, oa) :: pins) (wipe σ vs) H (s.setGen gn .running) := I1.gens (AllBare.set inv.bare rfl) fun _ _ e => e
  have loop := seg_loop (elt := elt) (iter := iter) (scope := scope) (pos := pos) (σ := σ) (vs := vs) (Ar := An.in1) T hc hxe hco hA hg ht he hfp' m acc i H (s.setGen gn .running) W I2 st nfp
  have unp : ∀ {H' : Hp} {s' : Shared}, Inv G ((a, oa) :: pins) (wipe σ vs) H' s' → Inv G pins (wipe σ vs) H' s' := fun {H' s'} I' => I'.pins_of fun p hp => I'.pin p (List.mem_append_right _ (List.mem_cons_of_mem _ hp))
  have unp0 : ∀ {H' : Hp} {s' : Shared}, Inv G ((a, oa) :: pins) (wipe σ vs) H' s' → Inv G [] (wipe σ vs) H' s' := fun {H' s'} I' => I'.pins_of fun p hp => absurd hp (by simp)
  have key : ∃ gst, s.gens[gn]? = some gst ∧ GoesK (model G.prog G.w) An.in1 (fun r s1 => r = .ok .next ∧ ∃ H', Inv G ((a, oa) :: pins) (wipe σ vs) H' s1 ∧ (∀ b ∈ fp, H' b = none) ∧ Stp acc H')
        (fun v k c fs s1 => c = gLoopC elt tg iter ifs scope pos it G.env ∧ fs = [] ∧ k (.send .none) = .pure (.again (gLoopC elt tg iter ifs scope pos it G.env)) ∧ ∃ y i' m' H', RelV y v ∧ Inv G ((a, oa) :: pins) (wipe σ vs) H' s1 ∧ tn i' s1.heap ∧ (∀ b ∈ fp, H' b = none) ∧ m' < m ∧
          ∃ Nx : α → Hp → Prop, (∀ acc' H5, Nx acc' H5 → gGen J g tt te vs σ Stp Ste m' acc' i' H5) ∧ Ste acc y H' Nx) gst (.send .none) (s.setGen gn .running) := by
    rcases gs with e | ⟨k, l, p, e, ek⟩
    · refine ⟨_, e, rfl, ?_⟩
      show SegK _ An.in1 _ _ _ ((compStart (.GeneratorExp elt [⟨tg, iter, ifs, 0⟩] scope pos) 0 (.ref it) .none G.env).onRaise (leaving G.env)) [] _
      unfold compStart
      rw [Sem.onRaise_eq_wrap]
      show SegK _ An.in1 _ _ _ ((ask >>= _).wrap _ _ _ _) [] _
      refine segK_bind_wrap (wpAny_askSetting ?_)
      split
      · exact segK_again rfl loop
      · first
          | exact segK_bind_wrap (wpAny_rule (segK_bind_wrap (wpAny_standAt (segK_bind_wrap (T.self _ i _ _ _ st (segK_again rfl loop))))))
          | (refine segK_bind_wrap (wpAny_rule ?_); show SegK _ An.in1 _ _ _ ((standAt iter.pos >>= _).wrap _ _ _ _) [] _; exact segK_bind_wrap (wpAny_standAt (segK_bind_wrap (T.self _ i _ _ _ st (segK_again rfl loop)))))
    · refine ⟨_, e, ?_⟩
      show SegK _ An.in1 _ _ _ (k (.send .none)) [] _
      rw [ek]
      exact segK_again rfl loop
  obtain ⟨gst, hgs, hgo⟩ := key
  refine next_genK hh inv.nolimit hroom isg hgs hgo (fun v k' c' fs' l' p' s1 hy hlt => ?_) (fun s1 hp hlt h' hk => ?_)
  · obtain ⟨rfl, rfl, ek, y, i', m', H', ry, I', st', nf', hm, q⟩ := hy
    have I3 : Inv G ((a, oa) :: pins) (wipe σ vs) H' (s1.setGen gn (.suspended k' l' (gLoopC elt tg iter ifs scope pos it G.env) p' [] false)) := I'.gens (AllBare.set I'.bare rfl) fun _ _ e => e
    have pa := I'.pin (a, oa) (List.mem_append_right _ List.mem_cons_self)
    refine hyld v y i' m' H' _ ry ⟨unp0 I3, st', nf', ⟨oa, nm, qn, pa.1, hoc, hod, hos⟩, pa.2.1, .inr ⟨k', l', p', setGen_get hlt, ek⟩⟩ (unp I3) hm q
  · obtain ⟨H', I', nf', q⟩ := hp
    exact hstop H' _ (unp (I'.gens (AllBare.set I'.bare rfl) hk)) q
end

section
variable {X : Cx}
theorem gback {pins pins' : List (Addr × Obj)} {σ σw : St} {H H0 : Hp} {s s0 : Shared} {A : Around} {genv : Env} {fp : List Addr} (I0 : Inv X pins σ H0 s0) (hfp : ∀ b ∈ fp, FpOk X pins H0 b) (I : Inv (gcx X A s0 H0 genv fp) pins' σw H s) : Inv X pins σ H s :=
  I0.call' (ch := fp) I.os I.base I.hok I.bare fun b hb => ⟨(hfp b hb).2.2.2.1, (hfp b hb).2.1, (hfp b hb).2.2.2.2.1, (hfp b hb).2.2.2.2.2⟩

theorem gen_make {pins : List (Addr × Obj)} {σ : St} {H : Hp} {s : Shared} {elt tg iter : Expr} {ifs : List Expr} {scope : Scope} {own : List (Str × Nat)} {pos : Pos} {wi : TI} {c P : Addr} {ps : Array Value} {Rr : It → Hp → Prop} {Q : Value → Shared → Prop}
    (hN : X.N.Nodup) (hi : PI X tg iter wi) (ok : BlkOk X.N X.env.scope scope own) (gs : GenSc scope) (hcode : X.env.code = .ref c) (C : CodeK X.K c P) (B : BmK X.base X.mg) (hroom : X.A.depth < recursionLimit) (hs : ∀ x, genFold iter X.env x = pure x)
    (I : Inv X pins σ H s) (hw : wi σ H fun J H1 => H1 P = some (tbO P ps) ∧ Rr J H1)
    (h : ∀ (J : It) (it : Addr) (fp : List Addr) (tn : Nat → Heap → Prop) (s4 : Shared) (H1 : Hp) (code : Value) (a : Addr) (g : Nat) (s5 : Shared), Turn X.prog X.w X.K tg J fp it tn → Inv X pins σ H1 s4 → (∀ b ∈ fp, FpOk X pins H1 b ∧ b < s4.heap.objs.size) → Rr J H1 →
      a ≠ s4.heap.objs.size → a ∉ frs X.stack → a ∉ fp → s4.heap.objs.size < s5.heap.objs.size →
      (∀ A : Around, A.frames = some (genvOf X scope s4.heap.objs.size code :: X.stack) → A.handled = none →
        GRun (gcx X A s4 H1 (genvOf X scope s4.heap.objs.size code) fp) (gLoopC elt tg iter ifs scope pos it (genvOf X scope s4.heap.objs.size code)) (gStartC elt tg iter ifs scope pos it (genvOf X scope s4.heap.objs.size code)) fp tn (wipe σ (own.map (·.2))) a g 0 H1 s5) →
      Q (.ref a) s5) :
    wpAny (model X.prog X.w) X.A (eval (.GeneratorExp elt [⟨tg, iter, ifs, 0⟩] scope pos) X.env) Q X.xe s := by
  have hfree : ∀ y ∈ scope.names, y.2 = .free → ∃ c, X.env.cells.lookup y.1 = some c := fun y hy e => by
    rcases ok.free y hy e with k | k
    · exact I.ok.has _ (.inl k)
    · exact I.ok.has _ (.inr k)
  refine wpAny_GeneratorExp_make gs.co (closure_ok hfree) gs.cell gs.dot ok.kind hroom (thn (hi pins s σ H _ I hw) fun xv s1 h1 => thn h1 fun itv s2 h2 => ?_) hs
  obtain ⟨it, fp, tn, J, H2, e, I2, T, st2, f2, hP, rr⟩ := h2
  subst e
  refine ⟨I2.nolimit, gcode_ok I2 hcode C hP fun code h3 tk3 I3 hx3 hsz3 => ?_⟩
  obtain ⟨bm, ob, b1, b2, b3, b4, b5, b6⟩ := B.ex
  refine wpAny_builtinsFor (m := X.mg) (by rw [I3.ok.glob]; exact I3.mod.glob.keeps I3.bk) b1 b2 (I3.bk bm ob b3) b4 b5 b6 ?_
  have nP : ∀ b ∈ fp, b ≠ P := fun b hb z => by
    have q := (f2 b hb).1
    rw [z, hP] at q; cases q
  have st3 : tn 0 h3 := T.keep _ _ _ st2 fun b hb o e => hx3 b o (nP b hb) e
  have sz3 : ∀ b ∈ fp, b < h3.objs.size := fun b hb => by
    obtain ⟨o, e, _⟩ := T.obj _ _ st3 b hb
    exact Heap.lt_size e
  intro h' hn' hs'
  have hsz : h'.objs.size = h3.objs.size + 1 := by rw [hs'.1]; exact Heap.size_push _ _
  have keep' : ∀ b o, h3.get? b = some o → h'.get? b = some o := fun b o e => hs'.extBut b o (Nat.ne_of_lt (Heap.lt_size e)) (Heap.get?_push_of_some _ e)
  have ane : h'.objs.size ≠ h3.objs.size := by rw [hsz]; exact Nat.succ_ne_self _
  have afr : h'.objs.size ∉ frs X.stack := fun z => by
    rcases List.mem_cons.mp (I3.stkSub _ z) with e | e
    · have := I3.lt
      rw [← e, hsz] at this
      exact absurd (Nat.lt_of_succ_lt this) (Nat.lt_irrefl _)
    · exact I3.nofs (a := h'.objs.size) (by rw [hsz]; exact Nat.le_succ _) e
  have afp : h'.objs.size ∉ fp := fun z => by
    have q := sz3 _ z
    rw [hsz] at q
    exact absurd (Nat.lt_of_succ_lt q) (Nat.lt_irrefl _)
  refine h J it fp tn _ H2 code h'.objs.size s2.gens.size _ T I3 (fun b hb => ⟨f2 b hb, sz3 b hb⟩) rr ane afr afp (by show h3.objs.size < (h'.push _).objs.size; rw [Heap.size_push, hsz]; exact Nat.lt_succ_of_lt (Nat.lt_succ_self _)) fun A hA hh => ?_
  refine ⟨gen_start I3 ok gs hN (fun b hb => ⟨f2 b hb, sz3 b hb⟩) hA hh (fun b o e => Heap.get?_push_of_some _ (keep' b o e)) (hn'.push _) (AllBare.push I3.bare rfl), T.keep _ _ _ st3 fun b _ o e => Heap.get?_push_of_some _ (keep' b o e), fun b hb => (f2 b hb).1, ⟨_, _, _, Heap.get?_push_size _ rfl, rfl, rfl, rfl⟩, ?_, .inl (Array.getElem?_push_size ..)⟩
  exact I3.hok.fresh (by rw [hsz]; exact Nat.le_succ _)
end
end L2

namespace L2
open PySem PySem.Spec PyProof.Rows

theorem over_frames {A : Around} {elt tg iter : Expr} {ifs : List Expr} {scope : Scope} {pos : Pos} {it : Addr} {genv : Env} {st : List Env} (h : A.frames = some st) : (A.over (gLoopC elt tg iter ifs scope pos it genv) []).frames = some (genv :: st) := by
  unfold Around.over
  simp only [pushEnvs_eq, h]
  rfl
theorem over_handled {A : Around} {c : Code} : (A.over c []).handled = A.handled := rfl
theorem Room.gen {k : Nat} {A An : Around} {elt tg iter : Expr} {ifs : List Expr} {scope : Scope} {pos : Pos} {it : Addr} {genv : Env} (r : Room (k + 1) A) (h1 : An.handled = A.handled) (h2 : An.depth = A.depth) (h3 : An.units ≤ A.units + 6) (h4 : An.guards = A.guards) :
    Room k (An.in1.over (gLoopC elt tg iter ifs scope pos it genv) []) := by
  refine ⟨h1.trans r.hd, ?_, ?_, ?_⟩
  · have q := r.dp
    have e : (An.in1.over (gLoopC elt tg iter ifs scope pos it genv) []).depth = An.depth + 1 := by
      show An.depth + 0 + _ = _
      rfl
    rw [e, h2]; omega
  · have q := r.un
    have e : (An.in1.over (gLoopC elt tg iter ifs scope pos it genv) []).units = An.units + 4 := by
      show An.units + 1 + 0 + _ = _
      rfl
    rw [e]; omega
  · have e : (An.in1.over (gLoopC elt tg iter ifs scope pos it genv) []).guards = An.guards := by
      unfold Around.over
      simp only [pushGuards_eq]
      show Option.map _ (Option.map _ An.guards) = _
      cases An.guards <;> rfl
    rw [e, h4]; exact r.gd

structure GSet {α : Type} (X : Cx) (An : Around) (pins : List (Addr × Obj)) (σ : St) (elt tg iter : Expr) (ifs : List Expr) (scope : Scope) (pos : Pos) (it : Addr) (fp : List Addr) (tn : Nat → Heap → Prop) (J : It) (g : TG) (tt : TT) (te : TE) (vs : List Nat)
    (a : Addr) (s4 : Shared) (H1 : Hp) (code : Value) (G : Cx) : Prop where
  eG : G = gcx X (An.in1.over (gLoopC elt tg iter ifs scope pos it (genvOf X scope s4.heap.objs.size code)) []) s4 H1 (genvOf X scope s4.heap.objs.size code) fp
  T : Turn X.prog X.w X.K tg J fp it tn
  hc : X.calm = true
  co : scope.isCoroutine = false
  hh : An.handled = none
  hroom : An.depth < recursionLimit
  hg : PG G tg g
  ht : PTs G ifs tt
  he : PE G elt te
  I4 : Inv X pins σ H1 s4
  hfp : ∀ b ∈ fp, FpOk X pins H1 b ∧ b < s4.heap.objs.size
  ane : a ≠ s4.heap.objs.size
  afr : a ∉ frs X.stack
  afp : a ∉ fp

section
variable {α : Type} {X : Cx} {An : Around} {pins : List (Addr × Obj)} {σ : St} {elt tg iter : Expr} {ifs : List Expr} {scope : Scope} {pos : Pos} {it : Addr} {fp : List Addr} {tn : Nat → Heap → Prop} {J : It} {g : TG} {tt : TT} {te : TE} {vs : List Nat} {a : Addr} {s4 : Shared} {H1 : Hp} {code : Value} {G : Cx}
  {Stp : α → Hp → Prop} {Ste : α → V → Hp → (α → Hp → Prop) → Prop}
abbrev GR (G : Cx) (elt tg iter : Expr) (ifs : List Expr) (scope : Scope) (pos : Pos) (it : Addr) (fp : List Addr) (tn : Nat → Heap → Prop) (vs : List Nat) (σ : St) (a : Addr) (gn i : Nat) (H : Hp) (s : Shared) : Prop :=
  GRun G (gLoopC elt tg iter ifs scope pos it G.env) (gStartC elt tg iter ifs scope pos it G.env) fp tn (wipe σ vs) a gn i H s
structure Mine (X : Cx) (a : Addr) (fp : List Addr) (s4 : Shared) (S : Addr) : Prop where
  ge : s4.heap.objs.size < S
  ne : S ≠ a
theorem GSet.nofr (Z : GSet (α := α) X An pins σ elt tg iter ifs scope pos it fp tn J g tt te vs a s4 H1 code G) {S : Addr} (h : s4.heap.objs.size < S) : S ∉ frs X.stack := fun z => by
  rcases List.mem_cons.mp (Z.I4.stkSub _ z) with e | e
  · have q := Z.I4.lt
    rw [← e] at q
    exact absurd (Nat.lt_trans h q) (Nat.lt_irrefl _)
  · exact Z.I4.nofs (a := S) (Nat.le_of_lt h) e
theorem GSet.next (Z : GSet (α := α) X An pins σ elt tg iter ifs scope pos it fp tn J g tt te vs a s4 H1 code G) {gn i m : Nat} {acc : α} {H : Hp} {s : Shared} {E : Value → Shared → Prop} {Q : Option Value → Shared → Prop} {mine : List (Addr × Obj)}
    (R : GR G elt tg iter ifs scope pos it fp tn vs σ a gn i H s) (W : gGen J g tt te vs σ Stp Ste m acc i H)
    (hS : ∀ p ∈ mine, s.heap.get? p.1 = some p.2 ∧ H p.1 = none ∧ (∀ v, p.2.data ≠ .cell v) ∧ Mine X a fp s4 p.1)
    (hstop : ∀ H' s', Inv X pins σ H' s' → (∀ p ∈ mine, s'.heap.get? p.1 = some p.2 ∧ H' p.1 = none) → Stp acc H' → Q none s')
    (hyld : ∀ u y i' m' H' s', RelV y u → GR G elt tg iter ifs scope pos it fp tn vs σ a gn i' H' s' → (∀ p ∈ mine, s'.heap.get? p.1 = some p.2 ∧ H' p.1 = none) → m' < m →
      (∃ Nx : α → Hp → Prop, (∀ acc' H5, Nx acc' H5 → gGen J g tt te vs σ Stp Ste m' acc' i' H5) ∧ Ste acc y H' Nx) → Q (some u) s') :
    wpAny (model X.prog X.w) An (pyNext (.ref a)) Q E s := by
  obtain ⟨eG, T, hc, co, hh, hroom, hg, ht, he, I4, hfp, ane, afr, afp⟩ := id Z
  subst eG
  refine gen_next (G := gcx X (An.in1.over (gLoopC elt tg iter ifs scope pos it (genvOf X scope s4.heap.objs.size code)) []) s4 H1 (genvOf X scope s4.heap.objs.size code) fp) (An := An) (pins := mine) T hc rfl rfl co rfl hh hroom hg ht he
    (fun b hb => ⟨Nat.ne_of_lt (hfp b hb).2, ?_, hb, fun x c e z => ?_⟩) ⟨ane, afr, afp⟩ R (fun p hp => ?_) W (fun H' s' I' q => ?_) (fun u y i' m' H' s' ry R' I' hm q => ?_)
  · intro z
    rcases List.mem_cons.mp (I4.stkSub b z) with z | z
    · exact (hfp b hb).1.2.1 z
    · exact (hfp b hb).1.2.2.1 z
  · exact (R.inv.ok.exf b hb).2 x c e z
  · obtain ⟨h1, h2, h3, h4⟩ := hS p hp
    exact ⟨h1, h2, Nat.ne_of_gt h4.ge, Z.nofr h4.ge, h3, fun z => absurd (Nat.lt_trans h4.ge (hfp _ z).2) (Nat.lt_irrefl _)⟩
  · exact hstop H' s' (gback I4 (fun b hb => (hfp b hb).1) I') (fun p hp => let z := I'.pin p (List.mem_append_right _ hp); ⟨z.1, z.2.1⟩) q
  · exact hyld u y i' m' H' s' ry R' (fun p hp => let z := I'.pin p (List.mem_append_right _ hp); ⟨z.1, z.2.1⟩) hm q
theorem GSet.move (Z : GSet (α := α) X An pins σ elt tg iter ifs scope pos it fp tn J g tt te vs a s4 H1 code G) {gn i : Nat} {H : Hp} {s : Shared} {S : Addr} {h' : Heap} {tk : Nat} (R : GR G elt tg iter ifs scope pos it fp tn vs σ a gn i H s) (mi : Mine X a fp s4 S) (hn : H S = none)
    (k : ∀ b o, b ≠ S → s.heap.get? b = some o → h'.get? b = some o) : GR G elt tg iter ifs scope pos it fp tn vs σ a gn i H { s with heap := h', toks := tk } := by
  obtain ⟨eG, T, hc, co, hh, hroom, hg, ht, he, I4, hfp, ane, afr, afp⟩ := id Z
  subst eG
  obtain ⟨inv, st, nfp, isg, na, gs⟩ := R
  refine ⟨inv.turned (it := S) (t' := tk) (fun b o hb e => k b o hb e) hn (Nat.ne_of_gt mi.ge) (.inr (Nat.le_of_lt mi.ge)) (fun x c e z => ?_) (fun p hp => absurd (show p ∈ ([] : List (Addr × Obj)) ++ [] from hp) (by simp)), T.keep _ _ _ st fun b hb o e => k b o (fun z => ?_) e, nfp, ?_, na, gs⟩
  · obtain ⟨v, q⟩ := inv.cell x c e
    rcases cloFrom_mem (PySem.mem_of_lookup (show (cloFrom X.env.cells scope.names []).lookup x = some c from e)) with hm | ⟨h1, h2⟩
    · cases hm
    · have : S < s4.heap.objs.size := by
        rw [← z]
        cases hl : X.env.cells.lookup x with
        | none => rw [hl] at h2; rw [h2]; exact Nat.lt_of_le_of_lt (Nat.zero_le _) I4.lt
        | some c2 =>
          rw [hl] at h2
          obtain ⟨v2, q2⟩ := I4.cell x c2 hl
          rw [h2]; exact q2.lt
      exact absurd (Nat.lt_trans mi.ge this) (Nat.lt_irrefl _)
  · exact absurd (Nat.lt_trans mi.ge (z ▸ (hfp b hb).2)) (Nat.lt_irrefl _)
  · obtain ⟨o, nm, qn, ho, r⟩ := isg
    exact ⟨o, nm, qn, k a o (Ne.symm mi.ne) ho, r⟩
theorem GSet.back (Z : GSet (α := α) X An pins σ elt tg iter ifs scope pos it fp tn J g tt te vs a s4 H1 code G) {gn i : Nat} {H : Hp} {s : Shared} (R : GR G elt tg iter ifs scope pos it fp tn vs σ a gn i H s) : Inv X pins σ H s := by
  obtain ⟨eG, T, hc, co, hh, hroom, hg, ht, he, I4, hfp, ane, afr, afp⟩ := id Z
  subst eG
  exact gback I4 (fun b hb => (hfp b hb).1) R.inv
end

section
variable {X : Cx} {x : Str} {p pos pos' : Pos} {id T : String} {c P : Addr} {ps : Array Value} {wi : TI} {g : TG} {tt : TT} {te : TE} {elt tg iter : Expr} {ifs : List Expr} {scope : Scope} {own : List (Str × Nat)} {k : Nat}
def tGC {α : Type} (P : Addr) (ps : Array Value) (wi : TI) (g : TG) (tt : TT) (te : TE) (vs : List Nat) (a0 : α) (Stp : VK → α → Hp → Prop) (Ste : VK → α → V → Hp → (α → Hp → Prop) → Prop) : TE := fun σ H Q =>
  wi σ H fun J H1 => H1 P = some (tbO P ps) ∧ ∃ m, gGen J g tt te vs σ (Stp Q) (Ste Q) m a0 0 H1
structure GenPl (X : Cx) (k : Nat) (c P : Addr) (scope : Scope) (own : List (Str × Nat)) : Prop where
  calm : X.calm = true
  nd : X.N.Nodup
  blk : BlkOk X.N X.env.scope scope own
  sc : GenSc scope
  code : X.env.code = .ref c
  ck : CodeK X.K c P
  bm : BmK X.base X.mg
  room : Room (k + 1) X.A

theorem gen_arg {α : Type} {An : Around} {pins : List (Addr × Obj)} {s : Shared} {σ : St} {H : Hp} {Q : VK} {a0 : α} {Stp : VK → α → Hp → Prop} {Ste : VK → α → V → Hp → (α → Hp → Prop) → Prop} {Qf : List Value → Shared → Prop}
    (L : GenPl X k c P scope own) (hi : PI X tg iter wi)
    (hg : ∀ (A : Around) (s : Shared) (H : Hp) (C : Addr) (code : Value) (fp : List Addr), PG (gcx X A s H (genvOf X scope C code) fp) tg g)
    (ht : ∀ (A : Around) (s : Shared) (H : Hp) (C : Addr) (code : Value) (fp : List Addr), Room k A → PTs (gcx X A s H (genvOf X scope C code) fp) ifs tt)
    (he : ∀ (A : Around) (s : Shared) (H : Hp) (C : Addr) (code : Value) (fp : List Addr), Room k A → PE (gcx X A s H (genvOf X scope C code) fp) elt te)
    (hs : ∀ x, genFold iter X.env x = pure x) (a1 : An.handled = X.A.handled) (a2 : An.depth = X.A.depth) (a3 : An.units ≤ X.A.units + 6) (a4 : An.frames = X.A.frames) (a5 : An.guards = X.A.guards)
    (hst : starEach [.GeneratorExp elt [⟨tg, iter, ifs, 0⟩] scope pos] X.env = [(false, eval (.GeneratorExp elt [⟨tg, iter, ifs, 0⟩] scope pos) X.env)])
    (I : Inv X pins σ H s) (h : tGC P ps wi g tt te (own.map (·.2)) a0 Stp Ste σ H Q)
    (hf : ∀ (it : Addr) (fp : List Addr) (tn : Nat → Heap → Prop) (J : It) (a : Addr) (s4 : Shared) (H1 : Hp) (code : Value) (G : Cx) (gn m : Nat) (s5 : Shared),
      GSet (α := α) X An pins σ elt tg iter ifs scope pos it fp tn J g tt te (own.map (·.2)) a s4 H1 code G → GR G elt tg iter ifs scope pos it fp tn (own.map (·.2)) σ a gn 0 H1 s5 → s4.heap.objs.size < s5.heap.objs.size →
      gGen J g tt te (own.map (·.2)) σ (Stp Q) (Ste Q) m a0 0 H1 → Qf [.ref a] s5) :
    wpAny (model X.prog X.w) X.A (spliced (backTo pos' (starEach [.GeneratorExp elt [⟨tg, iter, ifs, 0⟩] scope pos] X.env))) Qf X.xe s := by
  rw [hst]
  show wpAny _ _ (spliced ((false, eval (.GeneratorExp elt [⟨tg, iter, ifs, 0⟩] scope pos) X.env) :: backTo pos' [])) _ _ s
  refine Calls.spliced_cons (gen_make L.nd hi L.blk L.sc L.code L.ck L.bm L.room.depth hs I h fun J it fp tn s4 H1 code a gn s5 T I4 f4 rr ane afr afp hsz gr => Calls.spliced_nil ?_)
  obtain ⟨m, rr⟩ := rr
  have hF : An.in1.frames = some X.stack := a4.trans I.ok.frames
  have hr : Room k (An.in1.over (gLoopC elt tg iter ifs scope pos it (genvOf X scope s4.heap.objs.size code)) []) := L.room.gen a1 a2 a3 a5
  exact hf it fp tn J a s4 H1 code _ gn m s5 ⟨rfl, T, L.calm, L.sc.co, a1.trans (I.ok.hd L.calm), by rw [a2]; exact L.room.depth, hg _ _ _ _ _ _, ht _ _ _ _ _ _ hr, he _ _ _ _ _ _ hr, I4, f4, ane, afr, afp⟩
    (gr _ (over_frames hF) (over_handled.trans (a1.trans (I.ok.hd L.calm)))) hsz rr
end

def sAll (Q : VK) : Unit → Hp → Prop := fun _ H => Q (.bl true) H
def eAll (Q : VK) : Unit → V → Hp → (Unit → Hp → Prop) → Prop := fun _ y H k => ∃ c, y = .bl c ∧ (if c = true then k () H else Q (.bl false) H)
def sAny (Q : VK) : Unit → Hp → Prop := fun _ H => Q (.bl false) H
def eAny (Q : VK) : Unit → V → Hp → (Unit → Hp → Prop) → Prop := fun _ y H k => ∃ c, y = .bl c ∧ (if c = true then Q (.bl true) H else k () H)
section
variable {X : Cx} {x : Str} {p pos pos' : Pos} {c P : Addr} {ps : Array Value} {wi : TI} {g : TG} {tt : TT} {te : TE} {elt tg iter : Expr} {ifs : List Expr} {scope : Scope} {own : List (Str × Nat)} {k : Nat}

theorem all_loop {pins : List (Addr × Obj)} {σ : St} {it : Addr} {fp : List Addr} {tn : Nat → Heap → Prop} {J : It} {vs : List Nat} {a : Addr} {s4 : Shared} {H1 : Hp} {code : Value} {G : Cx} {gn : Nat} {Q : VK} {R : Result → Shared → Prop}
    (Z : GSet (α := Unit) X X.A.in1 pins σ elt tg iter ifs scope pos it fp tn J g tt te vs a s4 H1 code G) (hR : ∀ u s', EP X pins σ Q u s' → R (.ok (.ret u)) s') :
    ∀ (m i : Nat) (H : Hp) (s : Shared), GR G elt tg iter ifs scope pos it fp tn vs σ a gn i H s → gGen J g tt te vs σ (sAll Q) (eAll Q) m () i H →
      codeAny (model X.prog X.w) X.A (.builtin "all.loop" ⟨[.ref a], []⟩) R s := by
  intro m
  induction m using Nat.strongRecOn with
  | ind m ih =>
    intro i H s gr w
    refine codeAny_builtin F.entry_all_loop ?_
    rw [Around.under_plainId F.plain_all_loop _]
    show wpAny _ X.A.in1 (pyNext (.ref a) >>= _) _ _ s
    refine wpAny_bind (Z.next (mine := []) gr w (fun p hp => absurd hp (by simp)) (fun H' s' I' _ q => ?_) (fun u y i' m' H' s' ry gr' _ hm q => ?_))
    · exact wpAny_bind (wpAny_rule (wpAny_pure (hR _ _ ⟨.bl true, H', I', rfl, q⟩)))
    · obtain ⟨Nx, hN, cc, rfl, q⟩ := q
      obtain rfl : u = Value.bool cc := ry
      refine wpAny_bind (wpAny_holding (wpAny_truthy_bool ?_))
      refine wpAny_bind (wpAny_letGo ?_)
      cases cc with
      | true =>
        simp only [if_true] at q ⊢
        exact wpAny_pure ⟨plainId_quiet F.plain_all_loop _, ih m' hm i' H' s' gr' (hN _ _ q)⟩
      | false =>
        simp only [Bool.false_eq_true, if_false] at q ⊢
        exact wpAny_bind (wpAny_rule (wpAny_pure (hR _ _ ⟨.bl false, H', Z.back gr', rfl, q⟩)))
theorem any_loop {pins : List (Addr × Obj)} {σ : St} {it : Addr} {fp : List Addr} {tn : Nat → Heap → Prop} {J : It} {vs : List Nat} {a : Addr} {s4 : Shared} {H1 : Hp} {code : Value} {G : Cx} {gn : Nat} {Q : VK} {R : Result → Shared → Prop}
    (Z : GSet (α := Unit) X X.A.in1 pins σ elt tg iter ifs scope pos it fp tn J g tt te vs a s4 H1 code G) (hR : ∀ u s', EP X pins σ Q u s' → R (.ok (.ret u)) s') :
    ∀ (m i : Nat) (H : Hp) (s : Shared), GR G elt tg iter ifs scope pos it fp tn vs σ a gn i H s → gGen J g tt te vs σ (sAny Q) (eAny Q) m () i H →
      codeAny (model X.prog X.w) X.A (.builtin "any.loop" ⟨[.ref a], []⟩) R s := by
  intro m
  induction m using Nat.strongRecOn with
  | ind m ih =>
    intro i H s gr w
    refine codeAny_builtin F.entry_any_loop ?_
    rw [Around.under_plainId F.plain_any_loop _]
    show wpAny _ X.A.in1 (pyNext (.ref a) >>= _) _ _ s
    refine wpAny_bind (Z.next (mine := []) gr w (fun p hp => absurd hp (by simp)) (fun H' s' I' _ q => ?_) (fun u y i' m' H' s' ry gr' _ hm q => ?_))
    · exact wpAny_bind (wpAny_rule (wpAny_pure (hR _ _ ⟨.bl false, H', I', rfl, q⟩)))
    · obtain ⟨Nx, hN, cc, rfl, q⟩ := q
      obtain rfl : u = Value.bool cc := ry
      refine wpAny_bind (wpAny_holding (wpAny_truthy_bool ?_))
      refine wpAny_bind (wpAny_letGo ?_)
      cases cc with
      | false =>
        simp only [Bool.false_eq_true, if_false] at q ⊢
        exact wpAny_pure ⟨plainId_quiet F.plain_any_loop _, ih m' hm i' H' s' gr' (hN _ _ q)⟩
      | true =>
        simp only [if_true] at q ⊢
        exact wpAny_bind (wpAny_rule (wpAny_pure (hR _ _ ⟨.bl true, H', Z.back gr', rfl, q⟩)))

theorem pe_all (L : GenPl X k c P scope own) (hgl : Gl X "all") (hm : X.mg "all" = none) (hi : PI X tg iter wi)
    (hg : ∀ (A : Around) (s : Shared) (H : Hp) (C : Addr) (code : Value) (fp : List Addr), PG (gcx X A s H (genvOf X scope C code) fp) tg g)
    (ht : ∀ (A : Around) (s : Shared) (H : Hp) (C : Addr) (code : Value) (fp : List Addr), Room k A → PTs (gcx X A s H (genvOf X scope C code) fp) ifs tt)
    (he : ∀ (A : Around) (s : Shared) (H : Hp) (C : Addr) (code : Value) (fp : List Addr), Room k A → PE (gcx X A s H (genvOf X scope C code) fp) elt te)
    (hs : ∀ x, genFold iter X.env x = pure x := by intro _; rfl)
    (hst : starEach [.GeneratorExp elt [⟨tg, iter, ifs, 0⟩] scope pos] X.env = [(false, eval (.GeneratorExp elt [⟨tg, iter, ifs, 0⟩] scope pos) X.env)] := by rfl) :
    PE X (.Call (.Name "all" p) [.GeneratorExp elt [⟨tg, iter, ifs, 0⟩] scope pos] [] pos') (tGC P ps wi g tt te (own.map (·.2)) () sAll eAll) := by
  intro pins s σ H Q I h
  refine wpAny_Call_Name_kw (ld_blt I hgl hm (u := .builtin "all") (by decide +kernel) ?_)
  refine PyProof.Rows.callWith_builtin1 (gen_arg (An := X.A.in1) L hi hg ht he hs rfl rfl (by show X.A.units + 1 ≤ _; omega) rfl rfl hst I h fun it fp tn J a s4 H1 code G gn m s5 Z gr hsz w => ?_) hst rfl
  refine call_function_tree F.kind_all F.plain_all F.entry_all (F.args_all1 _) ?_
  unfold Builtin.«all»
  refine wpAny_bind (m := oneArg "all" _) (wpAny_pure ?_)
  refine wpAny_bind (wpAny_pyIter_gen gr.isg ?_)
  exact wpAny_pure ⟨plainId_quiet F.plain_all_loop _, all_loop Z (fun u s' e => e) m 0 H1 s5 gr w⟩
theorem pe_any (L : GenPl X k c P scope own) (hgl : Gl X "any") (hm : X.mg "any" = none) (hi : PI X tg iter wi)
    (hg : ∀ (A : Around) (s : Shared) (H : Hp) (C : Addr) (code : Value) (fp : List Addr), PG (gcx X A s H (genvOf X scope C code) fp) tg g)
    (ht : ∀ (A : Around) (s : Shared) (H : Hp) (C : Addr) (code : Value) (fp : List Addr), Room k A → PTs (gcx X A s H (genvOf X scope C code) fp) ifs tt)
    (he : ∀ (A : Around) (s : Shared) (H : Hp) (C : Addr) (code : Value) (fp : List Addr), Room k A → PE (gcx X A s H (genvOf X scope C code) fp) elt te)
    (hs : ∀ x, genFold iter X.env x = pure x := by intro _; rfl)
    (hst : starEach [.GeneratorExp elt [⟨tg, iter, ifs, 0⟩] scope pos] X.env = [(false, eval (.GeneratorExp elt [⟨tg, iter, ifs, 0⟩] scope pos) X.env)] := by rfl) :
    PE X (.Call (.Name "any" p) [.GeneratorExp elt [⟨tg, iter, ifs, 0⟩] scope pos] [] pos') (tGC P ps wi g tt te (own.map (·.2)) () sAny eAny) := by
  intro pins s σ H Q I h
  refine wpAny_Call_Name_kw (ld_blt I hgl hm (u := .builtin "any") (by decide +kernel) ?_)
  refine PyProof.Rows.callWith_builtin1 (gen_arg (An := X.A.in1) L hi hg ht he hs rfl rfl (by show X.A.units + 1 ≤ _; omega) rfl rfl hst I h fun it fp tn J a s4 H1 code G gn m s5 Z gr hsz w => ?_) hst rfl
  refine call_function_tree F.kind_any F.plain_any F.entry_any (F.args_any1 _) ?_
  unfold Builtin.«any»
  refine wpAny_bind (m := oneArg "any" _) (wpAny_pure ?_)
  refine wpAny_bind (wpAny_pyIter_gen gr.isg ?_)
  exact wpAny_pure ⟨plainId_quiet F.plain_any_loop _, any_loop Z (fun u s' e => e) m 0 H1 s5 gr w⟩
end
end L2

namespace L2
open PySem PySem.Spec PyProof.Rows

section
variable {X : Cx} {x : Str} {p pos pos' : Pos} {c P : Addr} {ps : Array Value} {wi : TI} {g : TG} {tt : TT} {te : TE} {elt tg iter : Expr} {ifs : List Expr} {scope : Scope} {own : List (Str × Nat)} {k : Nat}
end

section
variable {X : Cx} {x : Str} {p pos pos' : Pos} {c P : Addr} {ps : Array Value} {wi : TI} {g : TG} {tt : TT} {te : TE} {elt tg iter : Expr} {ifs : List Expr} {scope : Scope} {own : List (Str × Nat)} {k : Nat}
end
end L2

namespace L2
open PySem PySem.Spec PyProof.Rows

def TbH (TB : List (Addr × HO)) (H : Hp) : Prop := ∀ p ∈ TB, H p.1 = some p.2
def TabLike (P : Addr) (o : HO) : Prop := o = tbO P #[] ∨ ∃ q, o = .lam q
theorem TabLike.at {P : Program} {w : World} {H : Hp} {h : Heap} {a : Addr} {o : HO} (t : TabLike a o) (x : ObjOk P w H h a o) : ∃ more, h.get? a = some { cls := .none, data := .fields (#[] ++ more) } := by
  rcases t with rfl | ⟨q, rfl⟩
  · obtain ⟨⟨more, e, _⟩, _⟩ := x
    exact ⟨more, e⟩
  · obtain ⟨more, e, _⟩ := x
    exact ⟨more, by simpa using e⟩
theorem TabLike.ok {P : Program} {w : World} {H : Hp} {h : Heap} {a : Addr} {o : HO} (t : TabLike a o) (e : h.get? a = some { cls := .none, data := .fields #[] }) : ObjOk P w H h a o := by
  rcases t with rfl | ⟨q, rfl⟩
  · exact ⟨⟨#[], by simpa using e, trivial⟩, ⟨_, e⟩, fun h1 h2 x k => tb_stay h1 h2 x k⟩
  · exact ⟨#[], e, trivial, fun pos cv z => nomatch z⟩
theorem lookup_mem {α : Type} {TB : List (Addr × α)} {p : Addr × α} (hn : (TB.map (·.1)).Nodup) (hp : p ∈ TB) : TB.lookup p.1 = some p.2 := by
  induction TB with
  | nil => cases hp
  | cons q r ih =>
    obtain ⟨a, ps⟩ := q
    rw [List.map_cons, List.nodup_cons] at hn
    rcases List.mem_cons.mp hp with rfl | hp
    · simp [List.lookup]
    · have : (p.1 == a) = false := by
        rw [beq_eq_false_iff_ne]
        intro e
        exact hn.1 (by rw [← e]; exact List.mem_map.mpr ⟨p, hp, rfl⟩)
      simp only [List.lookup, this]
      exact ih hn.2 hp
theorem mem_lookupT {α : Type} {TB : List (Addr × α)} {a : Addr} {ps : α} (h : TB.lookup a = some ps) : (a, ps) ∈ TB := by
  induction TB with
  | nil => simp [List.lookup] at h
  | cons q r ih =>
    obtain ⟨b, x⟩ := q
    simp only [List.lookup] at h
    split at h
    · rename_i e
      cases h
      rw [beq_iff_eq.mp e]
      exact List.mem_cons_self
    · exact List.mem_cons_of_mem _ (ih h)

theorem law_callT {P : Program} {w : World} {K : PySem.W.Frag} {mg mb : Str → Option Value} {CX : CXT} {k : Nat} {fa a : Addr} {fd : FuncData} {x : Str} {sp : Sp} {s₁ : Shared} {vs : List Value} {ns : List Int} {TB : List (Addr × HO)}
    (KX : K.In s₁.heap) (hnd : (TB.map (·.1)).Nodup) (hKT : ∀ p ∈ TB, K.lookup p.1 = none) (hTB : ∀ p ∈ TB, (∃ c, s₁.heap.TableAt c p.1 #[]) ∧ TabLike p.1 p.2)
    (hns : s₁.heap.Ns mainGlobals mg) (hb : s₁.heap.Ns builtinsNs mb) (hbb : ∀ x : Str, x ≠ "__name__" → mb x = bootBuiltins x) (hlim : s₁.heap.NoLimit) (hg : s₁.gens = #[])
    (ha : s₁.heap.get? a = some { cls := .type "list", data := .seq vs.toArray }) (hi : IntsAre vs ns) (hl : ns.length ≤ sizeLine) (hr : Room k callerA)
    (hbm : BmK s₁.heap mg) (F : ∀ base : Heap, K.In base → base.Ns mainGlobals mg → BmK base mg → FnOk P w K mg base CX k fa fd [x] sp) (hbind : ∀ (s : Shared) (u : Value), BindsTo s fd ⟨[u], []⟩ [(x, u)])
    (hsp : ∀ H : Hp, TbH TB H → SqL K H a (ns.map V.int) → sp [.ref a] H (fun v H' => v = .bl true ∧ TbH TB H') fun _ _ _ => False)
    (hCX : ∀ H e s', CX [] H s₁ (fun _ _ _ => False) e s' → False) :
    codeAny (model P w) callerA (.call (.ref fa) ⟨[.ref a], []⟩) (fun r s' => r = .ok (.ret (.bool true)) ∧ OldK s₁.heap s'.heap ∧ s'.os = s₁.os ∧ AllBare s'.gens) s₁ := by
  have rv := vals_ints hi
  have lenV := hi.length
  have core : ∀ H : Hp, (∀ b, H b = none ∨ (b = a ∧ ∃ o xs, H b = some (.frz o (.lst xs))) ∨ ∃ ps, (b, ps) ∈ TB ∧ H b = some ps) → TbH TB H → SqL K H a (ns.map V.int) → HOk P w H s₁.heap → (H a ≠ none → K.lookup a = none) →
      codeAny (model P w) callerA (.call (.ref fa) ⟨[.ref a], []⟩) (fun r s' => r = .ok (.ret (.bool true)) ∧ OldK s₁.heap s'.heap ∧ s'.os = s₁.os ∧ AllBare s'.gens) s₁ := by
    intro H hO hT hS hok hK
    have base_of : ∀ {b : Addr} {o : Obj}, s₁.heap.get? b = some o → H b = none → (hidT s₁.heap H).get? b = some o := fun e n => hidT_get e n
    have noA : ∀ {b : Addr} {o : Obj} {es : Array DictEntry} {ep : Nat}, s₁.heap.get? b = some o → o.data = .dict es ep → H b = none := fun {b o es ep} e d => by
      rcases hO b with q | ⟨e', _⟩ | ⟨ps, hp, _⟩
      · exact q
      · subst e'
        rw [ha] at e; cases e
        have d' : Data.seq vs.toArray _ = Data.dict es ep := d
        cases d'
      · obtain ⟨⟨c, _, ht⟩, _⟩ := hTB _ hp
        rw [ht] at e; cases e
        have d' : Data.fields #[] = Data.dict es ep := d
        cases d'
    have nsK : ∀ {b : Addr} {m : Str → Option Value}, s₁.heap.Ns b m → (hidT s₁.heap H).Ns b m := fun {b m} ⟨o, es, ep, e, d, r⟩ => ⟨o, es, ep, base_of e (noA e d), d, r⟩
    have hKb : K.In (hidT s₁.heap H) := fun b o e => base_of (KX b o e) (by
      rcases hO b with q | ⟨e', o', xs, q⟩ | ⟨ps, hp, _⟩
      · exact q
      · subst e'
        rw [hK (by rw [q]; simp)] at e; cases e
      · rw [hKT _ hp] at e; cases e)
    have hM : Mod K mg (hidT s₁.heap H) := ⟨hKb, nsK hns, ⟨mb, nsK hb, hbb⟩, let ⟨mc, h1, h2⟩ := hlim; ⟨mc, nsK h1, h2⟩⟩
    have e0 : Env0 P w K mg (hidT s₁.heap H) callerA [] s₁ H := ⟨rfl, hM, fun b o e => of_hidT e, Nat.le_of_eq (hidT_size _ _), trivial, fun b hb => absurd (show b ∈ ([] : List Addr) from hb) (by simp), hok, .of_eq hg⟩
    have hBm : BmK (hidT s₁.heap H) mg := by
      obtain ⟨bm, ob, h1, h2, h3, h4, h5, h6⟩ := hbm.ex
      refine ⟨bm, ob, h1, h2, base_of h3 ?_, h4, h5, h6⟩
      rcases hO bm with q | ⟨e', _⟩ | ⟨ps, hp, _⟩
      · exact q
      · subst e'
        rw [ha] at h3; cases h3
        cases h6
      · obtain ⟨⟨c, _, ht⟩, _⟩ := hTB _ hp
        rw [ht] at h3; cases h3
        cases h6
    refine codeAny_mono ((F _ hKb (nsK hns) hBm).run callerA [] s₁ H ⟨[.ref a], []⟩ [.ref a] [.ref a] _ _ hr e0 (hbind s₁ (.ref a)) (.cons rfl .nil) (hsp H hT hS)) fun r s' h => ?_
    cases r with
    | error e => exact (hCX H e s' h).elim
    | ok fl =>
      cases fl with
      | next => exact False.elim h
      | brk => exact False.elim h
      | cont => exact False.elim h
      | ret u =>
        obtain ⟨v, H', os, bare, un, hok', r', q⟩ := h
        have q' : v = .bl true ∧ TbH TB H' := q
        obtain ⟨q1, q2⟩ := q'
        subst q1
        obtain rfl : u = Value.bool true := r'
        refine ⟨rfl, ⟨fun b o e => ?_, fun b o e => ?_⟩, os, bare⟩
        · rcases hO b with z | ⟨_, ob, xs, z⟩ | ⟨ps, hp, z⟩
          · exact .inl (un.keep b o e z (by intro z; exact absurd (show b ∈ ([] : List Addr) from z) (by simp)) (by simp))
          · have z2 := un.frzs b ob _ z
            obtain ⟨e1, _⟩ := hok b _ z
            obtain ⟨e2, _⟩ := hok' b _ z2
            rw [e] at e1; cases e1
            exact .inl e2
          · obtain ⟨⟨c, ht⟩, htr⟩ := hTB _ hp
            have e3 : o = { cls := .none, data := .fields #[] } := Option.some.inj (e.symm.trans ht.2)
            subst e3
            obtain ⟨more, e4⟩ := htr.at (hok' b _ (q2 _ hp))
            exact .inr (.inl ⟨ht.isCodeTable, rfl, #[], more, rfl, e4⟩)
        · exact un.there b o e (by simp)
  have tbok : ∀ (H : Hp) (b : Addr) (ps : HO), (b, ps) ∈ TB → ObjOk P w H s₁.heap b ps := fun H b ps hp => by
    obtain ⟨⟨c, ht⟩, htr⟩ := hTB _ hp
    exact htr.ok ht.2
  have aT : ∀ ps, (a, ps) ∉ TB := fun ps hp => by
    obtain ⟨⟨c, _, ht⟩, _⟩ := hTB _ hp
    rw [ha] at ht
    have := Option.some.inj ht
    injection this with h1
    cases h1
  have aTn : TB.lookup a = none := by
    cases e : TB.lookup a with
    | none => rfl
    | some ps => exact absurd (mem_lookupT e) (aT ps)
  cases hk : K.lookup a with
  | some o =>
    have e := KX a o hk
    rw [ha] at e
    cases e
    refine core (fun b => TB.lookup b) (fun b => ?_) (fun p hp => ?_) (.inr ⟨_, vs.toArray, _, hk, rfl, rfl, rfl, by rw [List.size_toArray, lenV]; exact hl, by simpa using rv⟩) (fun b u z => ?_) fun z => ?_
    · cases e : TB.lookup b with
      | none => exact .inl (by simp [e])
      | some ps => exact .inr (.inr ⟨ps, mem_lookupT e, by simp [e]⟩)
    · simp [lookup_mem hnd hp]
    · exact tbok _ b u (mem_lookupT z)
    · simp [aTn] at z
  | none =>
    refine core (fun b => if b = a then some (.frz { cls := .type "list", data := .seq vs.toArray } (.lst (ns.map V.int))) else TB.lookup b) (fun b => ?_) (fun p hp => ?_) (.inl (.inr ⟨{ cls := .type "list", data := .seq vs.toArray }, if_pos rfl⟩)) (fun b u z => ?_) fun _ => hk
    · by_cases hb : b = a
      · exact .inr (.inl ⟨hb, _, _, if_pos hb⟩)
      · cases e : TB.lookup b with
        | none => exact .inl (by simp [hb, e])
        | some ps => exact .inr (.inr ⟨ps, mem_lookupT e, by simp [hb, e]⟩)
    · have hb : p.1 ≠ a := fun z => aT p.2 (by rw [← z]; exact hp)
      simp [lookup_mem hnd hp, hb]
    · by_cases hb : b = a
      · have z' := (if_pos hb).symm.trans z
        cases z'
        subst hb
        exact ⟨ha, by rw [List.length_map]; exact hl, vs, _, rv, ha⟩
      · have z' := (if_neg hb).symm.trans z
        exact tbok _ b u (mem_lookupT z')

theorem tab_of {p : Program} {loose : List Str} {mean : ExcName → Option Value} {mg mb : Str → Option Value} {h : Heap} (T : Top p loose mean mg mb h) {K : PySem.W.Frag} (X : K.In h) {name : Str} (hd : ((recsOf p).any fun d => d.name == name) = true) {f c P : Addr} {oc : Value} {od oe : Option Addr} {sl sk : Array (Option Value)} {fd : FuncData} {cc : Value} {vs : Array Value}
    (hm : mg name = some (.ref f)) (lf : K.lookup f = some ⟨oc, od, .func fd, sl⟩) (hc : fd.code = .ref c) (lc : K.lookup c = some ⟨cc, oe, .fields vs, sk⟩) (e11 : vs[11]? = some (.ref P)) : h.TableAt c P #[] := by
  obtain ⟨d, hd, hn⟩ := List.any_eq_true.mp hd
  have hn : d.name = name := beq_iff_eq.mp hn
  obtain ⟨a, o, fd', c', P', h1, h2, h3, h4, h5, h6⟩ := T.tab d hd
  rw [hn, hm] at h1; cases h1
  rw [X _ _ lf] at h2; cases h2
  cases h3
  rw [hc] at h4; cases h4
  obtain ⟨⟨o2, vs2, g1, g2, g3, g4⟩, g5⟩ := h6
  have q := X _ _ lc
  rw [g1] at q; cases q
  cases g3
  rw [e11] at g4; cases g4
  exact ⟨⟨_, _, g1, g2, rfl, e11⟩, g5⟩
theorem walk_ofT {l : PySem.W.OpenLaw} {n k : Nat} {q : Program} {loose : List Str} {XP : (Str → Option Value) → Heap → Prop} {YP : World → Heap → Prop} {d : DefRec} {K : Params → PySem.W.Frag} {sp : PySem.W.Frag → List (Addr × HO) → Sp} {x : Str}
    (hn : l.most = some n) (hn2 : n ≤ sizeLine) (hdf : d.params.defaults = []) (hr : Room k callerA)
    (hY : ∀ (w : World) (h : Heap), YP w h → (K w.params).In h)
    (F : ∀ (w : World) (mg mb : Str → Option Value) (fa : Addr) (h : Heap) (mean : ExcName → Option Value), (K w.params).In h → Top q (PySem.W.looseW q loose) mean mg mb h → mg d.name = some (.ref fa) →
      ∃ (K' : PySem.W.Frag) (TB : List (Addr × HO)) (fd : FuncData), (∀ a o, K'.lookup a = some o → (K w.params).lookup a = some o) ∧ (TB.map (·.1)).Nodup ∧ (∀ p ∈ TB, K'.lookup p.1 = none) ∧ (∀ p ∈ TB, (∃ c, h.TableAt c p.1 #[]) ∧ TabLike p.1 p.2) ∧
        (∀ (s : Shared) (u : Value), BindsTo s fd ⟨[u], []⟩ [(x, u)]) ∧ ∀ base : Heap, K'.In base → base.Ns mainGlobals mg → BmK base mg → FnOk l.prog w K' mg base CX0 k fa fd [x] (sp K' TB))
    (hsp : ∀ (K : PySem.W.Frag) (TB : List (Addr × HO)) (H : Hp) (a : Addr) (ns : List Int), ns.length ≤ n → TbH TB H → SqL K H a (ns.map V.int) → sp K TB [.ref a] H (fun v H' => v = .bl true ∧ TbH TB H') fun _ _ _ => False) :
    PySem.W.WalkO q loose XP YP l.row.toRowW d [] (fun f vs => PySem.call f vs) := by
  refine Att.attach_call hn hdf fun w s₀ s₁ mg mb fa o pm cd doc a vs ns G Y ho hd hcd hmg hobj hints hlen hg => ?_
  have KX := hY w _ Y
  obtain ⟨K', TB, fd, h1, h2, h3, h4, hb, hF⟩ := F w mg mb fa _ _ KX G.T hmg
  exact law_callT (fun a o e => KX a o (h1 a o e)) h2 h3 h4 G.T.g G.T.b G.T.builtins G.T.nolimit hg hobj hints (Nat.le_trans hlen hn2) hr (let ⟨bm, ob, z⟩ := G.T.bmain; ⟨bm, ob, z⟩) hF hb (fun H hT hS => hsp K' TB H a ns hlen hT hS) fun H e s' z => z
end L2

namespace L2
open PySem PySem.Spec PyProof.Rows

structure FunC (K : PySem.W.Frag) (x qual : Str) (st : Stmt) (f : Addr) (fd : FuncData) (c : Addr) : Prop where
  ex : ∃ (oc : Value) (od : Option Addr) (kV doc pm : Value) (an : Option Addr) (ct : Value) (osl : Array (Option Value)),
    fd = PySem.W.fnOf x qual (defArgs st) (defBody st) (defScope st) .none kV doc pm an (.ref c) ct ∧ K.lookup f = some ⟨oc, od, .func fd, osl⟩ ∧ PySem.W.codeIn K (.ref c) qual = true
  kp : PySem.W.keepIn K (.ref f) = true
section
variable {P : Program} {w : World} {K : PySem.W.Frag} {mg : Str → Option Value} {base : Heap}
theorem FunC.ok {x qual : Str} {st : Stmt} {f c : Addr} {fd : FuncData} {N ps : List Str} {k : Nat} {sp : Sp} (F : FunC K x qual st f fd c) (S : FnScope N ps (defScope st)) (len : ∀ vs H Q E, sp vs H Q E → vs.length = ps.length)
    (hbody : ∀ (A : Around) (outer : List Env) (s : Shared) (H : Hp) (vs : List V) (Q : VK) (E : XK), Room k (A.deeper (envOfC qual (defScope st) s.heap.objs.size f (.ref c))) → sp vs H Q E →
      ∃ t, PSs (cxOf CX0 P w K mg base N qual (defScope st) f (.ref c) A outer s H E).nox (defBody st) t ∧ t { nx := fun _ H' => Q .non H', rt := Q } (start N vs) H) : FnOk P w K mg base CX0 (k + 1) f fd ps sp := by
  obtain ⟨oc, od, kV, doc, pm, an, ct, osl, rfl, lk, hcd⟩ := F.ex
  refine fn_of lk hcd S len fun A outer s H vs Q E hr hsp => ?_
  obtain ⟨t, h, q⟩ := hbody A outer s H vs Q E hr hsp
  exact ⟨t, h.nox, q⟩
theorem FunC.binds {x qual : Str} {st : Stmt} {f c : Addr} {fd : FuncData} {ps : List Str} (F : FunC K x qual st f fd c)
    (h : ∀ (kV doc pm : Value) (an : Option Addr) (cdv ct : Value) (us : List Value), us.length = ps.length → bindArgs (PySem.W.fnOf x qual (defArgs st) (defBody st) (defScope st) .none kV doc pm an cdv ct) ⟨us, []⟩ = pure (ps.zip us)) : Binds K fd ps [] := by
  obtain ⟨oc, od, kV, doc, pm, an, ct, osl, rfl, lk, hcd⟩ := F.ex
  exact .all (h kV doc pm an (.ref c) ct)
end
def cutK (K : PySem.W.Frag) (S : List Addr) : PySem.W.Frag := K.filter fun p => !S.contains p.1
theorem cutK_get {S : List Addr} {a : Addr} (h : a ∉ S) : ∀ K : PySem.W.Frag, (cutK K S).lookup a = K.lookup a
  | [] => rfl
  | (b, o) :: K => by
    have ih := cutK_get h K
    unfold cutK at ih ⊢
    rw [List.filter_cons]
    cases e : S.contains b with
    | true =>
      have hb : b ∈ S := by simpa using e
      have ne : (a == b) = false := by rw [beq_eq_false_iff_ne]; rintro rfl; exact h hb
      simp only [Bool.not_true, Bool.false_eq_true, if_false, List.lookup, ne]
      exact ih
    | false =>
      simp only [Bool.not_false, if_true, List.lookup]
      split
      · rfl
      · exact ih
theorem cutK_none {S : List Addr} {a : Addr} (h : a ∈ S) : ∀ K : PySem.W.Frag, (cutK K S).lookup a = none
  | [] => rfl
  | (b, o) :: K => by
    have ih := cutK_none h K
    unfold cutK at ih ⊢
    rw [List.filter_cons]
    cases e : S.contains b with
    | true =>
      simp only [Bool.not_true, Bool.false_eq_true, if_false]
      exact ih
    | false =>
      have ne : (a == b) = false := by
        rw [beq_eq_false_iff_ne]; rintro rfl
        have : S.contains a = true := by simpa using h
        rw [e] at this; cases this
      simp only [Bool.not_false, if_true, List.lookup, ne]
      exact ih
theorem cutK_of {K : PySem.W.Frag} {S : List Addr} {a : Addr} {o : Obj} (h : (cutK K S).lookup a = some o) : K.lookup a = some o := by
  by_cases e : a ∈ S
  · rw [cutK_none e] at h; cases h
  · rw [cutK_get e] at h; exact h
theorem funC_mk {K : PySem.W.Frag} {S : List Addr} {x qual : Str} {st : Stmt} {f c : Addr} {oc : Value} {od an : Option Addr} {osl : Array (Option Value)} {kV doc pm ct : Value} (l : K.lookup f = some ⟨oc, od, .func (PySem.W.fnOf x qual (defArgs st) (defBody st) (defScope st) .none kV doc pm an (.ref c) ct), osl⟩)
    (hc : PySem.W.codeIn K (.ref c) qual = true) (h1 : f ∉ S) (h2 : c ∉ S) : FunC (cutK K S) x qual st f (PySem.W.fnOf x qual (defArgs st) (defBody st) (defScope st) .none kV doc pm an (.ref c) ct) c := by
  refine ⟨⟨oc, od, kV, doc, pm, an, ct, osl, rfl, by rw [cutK_get h1]; exact l, ?_⟩, ?_⟩
  · simp only [PySem.W.codeIn, cutK_get h2] at hc ⊢
    exact hc
  · simp only [PySem.W.keepIn, cutK_get h1, l]
theorem codeK_mk {K : PySem.W.Frag} {S : List Addr} {c P : Addr} {od : Option Addr} {vs : Array Value} {sl : Array (Option Value)} {file : Str} {tf tg tt : Tok} {flags text : Int} {inF : Bool} (l : K.lookup c = some ⟨.type "code", od, .fields vs, sl⟩) (h : c ∉ S) (ne : c ≠ P)
    (e11 : vs[11]? = some (.ref P)) (e18 : vs.getD 18 .none = .str file tf) (e7 : vs.getD 7 .none = .int flags tg) (e9 : vs.getD 9 .none = .bool inF) (e10 : vs.getD 10 .none = .int text tt) : CodeK (cutK K S) c P :=
  ⟨⟨_, vs, file, tf, flags, tg, inF, text, tt, by rw [cutK_get h]; exact l, rfl, rfl, e11, e18, e7, e9, e10⟩, ne⟩
structure Cal (P : Program) (w : World) (K : PySem.W.Frag) (mg : Str → Option Value) (base : Heap) (k : Nat) (x : Str) (ps : List Str) (sp : Sp) : Prop where
  ex : ∃ (f : Addr) (fd : FuncData), FnOk P w K mg base CX0 k f fd ps sp ∧ mg x = some (.ref f) ∧ PySem.W.keepIn K (.ref f) = true ∧ Binds K fd ps []
theorem Cal.mono {P : Program} {w : World} {K : PySem.W.Frag} {mg : Str → Option Value} {base : Heap} {j k : Nat} {x : Str} {ps : List Str} {sp : Sp} (C : Cal P w K mg base j x ps sp) (h : j ≤ k) : Cal P w K mg base k x ps sp :=
  let ⟨f, fd, a, b⟩ := C.ex; ⟨f, fd, a.mono h, b⟩
section
variable {X : Cx} {x : Str} {p pos : Pos} {e : Expr} {es : List Expr} {t : TA} {k : Nat} {ps : List Str} {sp : Sp}
theorem pe_cal (C : Cal X.prog X.w X.K X.mg X.base k x ps sp) (hr : Room k X.A) (ha : PA X (e :: es) t) (hg : Gl X x := by rfl) (hdb : (x == ("__debug__" : Str)) = false := by decide)
    (he : starEach (e :: es) X.env = (false, eval e X.env) :: starEach es X.env := by rfl) (hpl : (backTo pos (starEach es X.env)).any (·.1) = false := by rfl) :
    PE X (.Call (.Name x p) (e :: es) [] pos) (tCall sp [] E0 t) := by
  obtain ⟨f, fd, a, b, c, d⟩ := C.ex
  exact pe_call a hr hg b c d .nil pass0 ha hdb he hpl
end

mutual
theorem Dp.nodict {K : PySem.W.Frag} {H : Hp} : ∀ (d : PyData) (v : V), Dp K H v d → d.hasDict = false
  | .none, _, _ => by simp only [PyData.hasDict]
  | .bool _, _, _ => by simp only [PyData.hasDict]
  | .int _, _, _ => by simp only [PyData.hasDict]
  | .str _, _, _ => by simp only [PyData.hasDict]
  | .list ds, _, h => by
    simp only [PyData.hasDict]
    cases h with
    | lst _ ha => exact Dp.nodictAll ds _ ha
  | .tuple ds, _, h => by
    simp only [PyData.hasDict]
    cases h with
    | tup _ ha => exact Dp.nodictAll ds _ ha
  | .dict _, _, h => by cases h
theorem Dp.nodictAll {K : PySem.W.Frag} {H : Hp} : ∀ (ds : List PyData) (vs : List V), DpAll K H vs ds → PyData.hasDictAll ds = false
  | [], _, _ => by simp only [PyData.hasDictAll]
  | d :: ds, _, h => by
    cases h with
    | cons h1 h2 => simp only [PyData.hasDictAll, Dp.nodict d _ h1, Dp.nodictAll ds _ h2, Bool.or_self]
end
section
variable {X : Cx}
@[irreducible] def rRepr (K : PySem.W.Frag) : List V → Hp → VK → Prop := fun vs H Q => ∃ v d, vs = [v] ∧ Dp K H v d ∧ d.showable = true ∧ d.depth ≤ 100 ∧ d.shown.length ≤ sizeLine ∧ Q (.str d.shown) H
theorem cr_repr {k : Nat} (hr : Room k X.A) : CallR X (.builtin "repr") (rRepr X.K) := by
  intro pins s σ H vs us Q I r h
  unfold rRepr at h
  obtain ⟨v, d, rfl, hd, hs, hz, hl, q⟩ := h
  obtain ⟨u, rfl, ru⟩ := vals1 r
  obtain ⟨as, rd⟩ := Dp.reads I d v u hd ru
  have nd := Dp.nodict d v hd
  have hu := hr.un
  have fin : ∀ h' u' tk, (∀ b o, s.heap.get? b = some o → h'.get? b = some o) → EP X pins σ Q (.str d.shown u') { s with heap := h', toks := tk } := fun h' u' tk hk => ⟨.str _, H, I.kept hk, ⟨_, rfl⟩, q⟩
  have fin1 : EP X pins σ Q (.str d.shown s.toks) { s with toks := s.toks + 1 } := fin s.heap s.toks (s.toks + 1) fun _ _ e => e
  cases hd with
  | non => cases ru; exact PySem.P.repr_of_none fin1
  | bl b => cases ru; exact PySem.P.repr_of_bool fin1
  | int i =>
    obtain ⟨t, rfl⟩ := ru
    exact PySem.P.repr_of_int (by simpa [PyData.showable] using hs) fin1
  | str x =>
    obtain ⟨t, rfl⟩ := ru
    exact PySem.P.repr_of_str fin1 hl
  | lst h1 h2 =>
    cases ru
    exact repr_of_reads' rd hs (PyData.noDict_hsm nd) hr.gd (by omega) (fun _ _ e => e) fin hl
  | tup h1 h2 =>
    cases ru
    exact repr_of_reads' rd hs (PyData.noDict_hsm nd) hr.gd (by omega) (fun _ _ e => e) fin hl
end

section
variable {prog : Program} {w : World} {A : Around} {E : Value → Shared → Prop} {s : Shared}
theorem draw_list {it t : Addr} {items : Array Value} (hne : t ≠ it) : ∀ (n i : Nat) (s : Shared) (Q : List Value → Shared → Prop), s.heap.IsListIter it t i → s.heap.IsList t items → i + n ≤ items.size →
    (∀ h', h'.IsListIter it t (i + n) → Heap.SameBut it s.heap h' → Q ((items.toList.drop i).take n) { s with heap := h' }) → wpAny (model prog w) A (draw (.ref it) n) Q E s
  | 0, i, s, Q, hit, _, _, hQ => by
    show wpAny _ _ (pure []) Q E s
    exact wpAny_pure (by simpa using hQ s.heap hit (Heap.SameBut.refl ..))
  | n + 1, i, s, Q, hit, ht, hle, hQ => by
    have hlt : i < items.size := by omega
    show wpAny _ _ (pyNext (.ref it) >>= _) Q E s
    refine wpAny_bind (wpAny_pyNext_list_item hit ht (x := items[i]) (by simp [hlt]) fun h₁ hit₁ hs₁ => ?_)
    refine wpAny_bind (wpAny_holding (draw_list hne n (i + 1) _ _ hit₁ (ht.extBut hs₁.extBut hne) (by omega) fun h₂ hit₂ hs₂ => wpAny_pure ?_))
    have hd : items.toList.drop i = items[i] :: items.toList.drop (i + 1) := by simp [List.drop_eq_getElem_cons, hlt]
    have := hQ h₂ (by rw [show i + (n + 1) = i + 1 + n by omega]; exact hit₂) (hs₁.trans hs₂)
    rw [hd, List.take_succ_cons] at this
    exact this
theorem unpackItems_list {t : Addr} {items : Array Value} {Q : List Value → Shared → Prop} (hh : A.handled = none) (ht : s.heap.IsList t items)
    (hQ : ∀ h', Heap.ExtBut s.heap.objs.size s.heap h' → Q items.toList { s with heap := h' }) : wpAny (model prog w) A (unpackItems (.ref t) items.size none) Q E s := by
  have hlt : t ≠ s.heap.objs.size := by obtain ⟨o, ho, _⟩ := ht; exact Nat.ne_of_lt (Heap.lt_size ho)
  unfold unpackItems
  refine wpAny_bind ?_
  · unfold notIterableAtAll
    refine wpAny_bind (wpAny_specialOf ht.typeIs slot_list_iter.lookup ?_)
    refine wpAny_pure ?_
    simp only [Bool.false_eq_true, if_false]
    refine wpAny_bind (wpAny_holding (wpAny_pyIter_list ht ?_))
    refine wpAny_bind (wpAny_holding (draw_list hlt items.size 0 _ _ ⟨_, Heap.get?_push_size _ rfl, rfl, rfl⟩ (ht.push _) (by omega) fun h₁ hit₁ hs₁ => ?_))
    have hall : List.take items.size (List.drop 0 items.toList) = items.toList := by
      rw [List.drop_zero]; exact List.take_of_length_le (by simp)
    rw [hall]
    rw [if_neg (by simp)]
    have ht₁ : h₁.IsList t items := (ht.push _).extBut hs₁.extBut hlt
    refine wpAny_bind (wpAny_holding (wpAny_pyNext_list_end hh hit₁ ht₁ (by simp) fun h₂ he₂ => ?_))
    simp only [Option.isSome_none, Bool.false_eq_true, if_false]
    refine wpAny_pure (hQ h₂ fun b o hb e => he₂ b o hb (hs₁.extBut b o hb (Heap.get?_push_of_some _ e)))
end
section
variable {X : Cx} {pos : Pos}
def gTupL (K : PySem.W.Frag) (n : Nat) (t : TGs) : TG := fun v σ H Q => ∃ a xs, v = .ref a ∧ SqL K H a xs ∧ xs.length = n ∧ t xs σ H Q
theorem pg_tupL {es : List Expr} {k : Nat} {t : TGs} {n : Nat} (hc : X.calm = true) (h : PGs X es t)
    (hn : (assignEach es X.env).length = n := by rfl) (hst : (assignEach es X.env).findIdx? (·.1) = none := by rfl) : PG X (.Tuple es k pos) (gTupL X.K n t) := by
  intro pins s σ H v u Q I r hw
  obtain ⟨a, xs, e1, hq, hl, hw⟩ := hw
  subst e1
  cases r
  obtain ⟨its, rv, ht, hz⟩ := I.list hq
  rw [assign_Tuple]
  refine wpAny_bind (wpAny_standAt ?_)
  unfold unpack
  have hsz : (assignEach es X.env).length = its.toArray.size := by simp [hn, ← hl, rv.length]
  rw [hsz, hst]
  refine wpAny_bind (wpAny_holding (unpackItems_list (I.ok.hd hc) ht.isList fun h' hx => ?_))
  have I1 : Inv X pins σ H { s with heap := h' } := I.kept (t' := s.toks) fun b o e => hx b o (Nat.ne_of_lt (Heap.lt_size e)) e
  exact h pins _ σ H xs _ Q I1 (by simpa using rv) hw
end
end L2

namespace L2
open PySem PySem.Spec PyProof.Rows
section
variable {X : Cx} {K : PySem.W.Frag}
theorem ix_listK (e : X.K = K) : IxR X (rIxL K) := e ▸ ix_list
theorem ix_tupK (e : X.K = K) : IxR X (rIxT K) := e ▸ ix_tup
theorem call_lenK (e : X.K = K) : CallR X (.builtin "len") (fun xs H Q => ∃ x n, xs = [x] ∧ LenV K x H n ∧ Q (.int n) H) := e ▸ call_len
theorem sl_listK (e : X.K = K) : SlR X (rSlL K) := e ▸ sl_list
theorem op_eqDK {k : Nat} (e : X.K = K) (hr : Room k X.A) : OpR X (compareOp .Eq) (rEqD K) := e ▸ op_eqD hr.units
theorem op_neDK {k : Nat} (e : X.K = K) (hr : Room k X.A) : OpR X (compareOp .NotEq) (rNeD K) := e ▸ op_neD hr.units
theorem cr_reprK {k : Nat} (e : X.K = K) (hr : Room k X.A) : CallR X (.builtin "repr") (rRepr K) := e ▸ cr_repr hr
theorem call_list_ofK (e : X.K = K) : CallR X (.type "list") (fun xs H Q => ∃ p ys, xs = [.ref p] ∧ (SqL K H p ys ∨ SqT K H p ys) ∧ ∀ l, H l = none → Q (.ref l) (upd H l (.lst ys))) := e ▸ call_list_of
theorem call_tuple_ofK (e : X.K = K) : CallR X (.type "tuple") (fun xs H Q => ∃ p ys, xs = [.ref p] ∧ ((SqL K H p ys ∧ ∀ l, H l = none → Q (.ref l) (upd H l (.tup ys))) ∨ (SqT K H p ys ∧ Q (.ref p) H))) := e ▸ call_tuple_of
theorem pi_listK {tg l : Expr} {tl : TE} (e : X.K = K) (hl : PE X l tl) : PI X tg l (iList K tl) := e ▸ pi_list hl
theorem pi_tupK {tg l : Expr} {tl : TE} (e : X.K = K) (hl : PE X l tl) : PI X tg l (iTup K tl) := e ▸ pi_tup hl
theorem pg_tupK {pos : Pos} {es : List Expr} {k : Nat} {t : TGs} {n : Nat} (e : X.K = K) (hc : X.calm = true) (h : PGs X es t)
    (hn : (assignEach es X.env).length = n := by rfl) (hst : (assignEach es X.env).findIdx? (·.1) = none := by rfl) : PG X (.Tuple es k pos) (gTup K n t) := e ▸ pg_tup hc h hn hst
theorem pg_tupLK {pos : Pos} {es : List Expr} {k : Nat} {t : TGs} {n : Nat} (e : X.K = K) (hc : X.calm = true) (h : PGs X es t)
    (hn : (assignEach es X.env).length = n := by rfl) (hst : (assignEach es X.env).findIdx? (·.1) = none := by rfl) : PG X (.Tuple es k pos) (gTupL K n t) := e ▸ pg_tupL hc h hn hst
end
end L2
namespace L2
open PySem PySem.Spec PyProof.Rows
def SameX (p : Addr) (H H' : Hp) : Prop := ∀ b o, b ≠ p → H b = some o → H' b = some o
theorem SameX.refl (p : Addr) (H : Hp) : SameX p H H := fun _ _ _ h => h
theorem SameX.trans {p : Addr} {H H1 H2 : Hp} (a : SameX p H H1) (b : SameX p H1 H2) : SameX p H H2 := fun c o n h => b c o n (a c o n h)
theorem SameX.upd {p : Addr} {H : Hp} {o : HO} : SameX p H (upd H p o) := fun b u n h => by rw [upd_ne n]; exact h
theorem SameX.of {p : Addr} {H H' : Hp} (h : Same H H') : SameX p H H' := fun b o _ e => h b o e
theorem Same.upd {p : Addr} {H : Hp} {o : HO} (n : H p = none) : Same H (L2.upd H p o) := fun b u h => by rw [upd_ne (ne_of_none h n)]; exact h
theorem Same.sqT {K : PySem.W.Frag} {H H' : Hp} {a : Addr} {xs : List V} (e : Same H H') (h : SqT K H a xs) : SqT K H' a xs := by
  rcases h with (h | ⟨o, h⟩) | h
  · exact .inl (.inl (e _ _ h))
  · exact .inl (.inr ⟨o, e _ _ h⟩)
  · exact .inr h
theorem Same.tbH {TB : List (Addr × HO)} {H H' : Hp} (e : Same H H') (h : TbH TB H) : TbH TB H' := fun p hp => e _ _ (h p hp)
theorem SqL.keep {K : PySem.W.Frag} {H H' : Hp} {p a : Addr} {xs ys : List V} (h : SqL K H a xs) (hp : H p = some (.lst ys)) (ne : xs ≠ ys) (s : SameX p H H') : SqL K H' a xs := by
  rcases h with (h | ⟨o, h⟩) | h
  · exact .inl (.inl (s _ _ (ne_of h hp (fun e => ne (by injection e))) h))
  · exact .inl (.inr ⟨o, s _ _ (ne_of h hp (by intro e; cases e)) h⟩)
  · exact .inr h
structure Pen (K : PySem.W.Frag) (H : Hp) (p : Addr) (a : Addr) (ns : List Int) (x y : Int) : Prop where
  at_ : H p = some (.lst [.ref a, .int x, .int y])
  sc : SqL K H a (ns.map V.int)
  len : ns.length ≤ 63
  x0 : 0 ≤ x
  y0 : 0 ≤ y
theorem Pen.set {K : PySem.W.Frag} {H : Hp} {p a : Addr} {ns : List Int} {x y x' y' : Int} (P : Pen K H p a ns x y) (hx : 0 ≤ x') (hy : 0 ≤ y') : Pen K (upd H p (.lst [.ref a, .int x', .int y'])) p a ns x' y' :=
  ⟨upd_same, P.sc.keep P.at_ (by intro e; cases ns <;> cases e) SameX.upd, P.len, hx, hy⟩
theorem Pen.same {K : PySem.W.Frag} {H H' : Hp} {p a : Addr} {ns : List Int} {x y : Int} (P : Pen K H p a ns x y) (s : Same H H') : Pen K H' p a ns x y :=
  ⟨s _ _ P.at_, s.seq P.sc, P.len, P.x0, P.y0⟩
theorem Pen.move {K : PySem.W.Frag} {H H' : Hp} {p a : Addr} {ns : List Int} {x y x' y' : Int} (P : Pen K H p a ns x y) (s : SameX p H H') (e : H' p = some (.lst [.ref a, .int x', .int y'])) (hx : 0 ≤ x') (hy : 0 ≤ y') : Pen K H' p a ns x' y' :=
  ⟨e, P.sc.keep P.at_ (by intro e; cases ns <;> cases e) s, P.len, hx, hy⟩
def spDrawTo (K : PySem.W.Frag) (C : Int → Prop) : Sp := fun vs H Q _ => ∃ (p a : Addr) (ns : List Int) (x y m : Int), vs = [.ref p, .int m] ∧ Pen K H p a ns x y ∧ 1 ≤ m ∧ C m ∧
  ∀ (r x' y' : Int) (H' : Hp), 0 ≤ r → r < m → SameX p H H' → Pen K H' p a ns x' y' → Q (.int r) H'
abbrev spDraw (K : PySem.W.Frag) : Sp := spDrawTo K fun m => m < 1000000000
end L2

namespace L2
open PySem PySem.Spec PyProof.Rows
theorem SameX.free {p D : Addr} {H H' : Hp} (s : SameX p H H') (h : H' D = none) (ne : D ≠ p) : H D = none := by
  cases e : H D with
  | none => rfl
  | some o => rw [s D o ne e] at h; cases h
theorem SameX.updF {p D : Addr} {H H' : Hp} {o : HO} (s : SameX p H H') (h : H D = none) : SameX p H (L2.upd H' D o) := fun b u n e => by
  rw [upd_ne (ne_of_none e h)]; exact s b u n e
theorem Same.updF {D : Addr} {H H' : Hp} {o : HO} (s : Same H H') (h : H D = none) : Same H (L2.upd H' D o) := fun b u e => by
  rw [upd_ne (ne_of_none e h)]; exact s b u e
theorem Pen.up {K : PySem.W.Frag} {H H2 : Hp} {p a D : Addr} {ns : List Int} {x y x2 y2 : Int} {o : HO} (P : Pen K H p a ns x y) (s : SameX p H H2) (P2 : Pen K H2 p a ns x2 y2) (hD : H D = none) (ne : D ≠ p) : Pen K (L2.upd H2 D o) p a ns x2 y2 :=
  P.move (s.updF hD) (by rw [upd_ne ne.symm]; exact P2.at_) P2.x0 P2.y0

theorem yes {σ : St} {H : Hp} {A B : Hp → Prop} (h : A H) : tYes σ H (fun b H3 => if b = true then A H3 else B H3) := by
  unfold tYes
  exact iteT h
section
variable {α : Type} {g : TG} {tt : TT} {te : TE} {vs : List Nat} {σ : St} {Stp : α → Hp → Prop} {Ste : α → V → Hp → (α → Hp → Prop) → Prop}
theorem gen_tup {K : PySem.W.Frag} {a : Addr} {xs : List V} (Pv : Nat → α → Hp → Prop) (hl : ∀ i acc H, i ≤ xs.length → Pv i acc H → SqT K H a xs)
    (hs : ∀ i x acc H, xs[i]? = some x → Pv i acc H → g x (wipe σ vs) H fun σ2 H2 => wipe σ2 vs = wipe σ vs ∧ tt σ2 H2 fun b H3 => if b = true then te σ2 H3 fun y H4 => Ste acc y H4 (Pv (i + 1)) else Pv (i + 1) acc H3)
    (hd : ∀ acc H, Pv xs.length acc H → Stp acc H) {a0 : α} {H1 : Hp} (h0 : Pv 0 a0 H1) : ∃ m, gGen (Itt K a) g tt te vs σ Stp Ste m a0 0 H1 := by
  have key : ∀ (k i : Nat) (acc : α) (H : Hp), i + k = xs.length → Pv i acc H → gGen (Itt K a) g tt te vs σ Stp Ste (k + 1) acc i H := by
    intro k
    induction k with
    | zero =>
      intro i acc H e p
      have e : i = xs.length := by omega
      subst e
      rw [gGen]
      exact .inl ⟨⟨xs, hl _ acc H (Nat.le_refl _) p, Nat.le_refl _⟩, hd acc H p⟩
    | succ k ih =>
      intro i acc H e p
      rw [gGen]
      have q := hl i acc H (by omega) p
      have hlt : i < xs.length := by omega
      refine .inr ⟨⟨xs, xs[i], q, by simp [hlt]⟩, Pv (i + 1), fun acc' H' p' => ih (i + 1) acc' H' (by omega) p', fun x H' y => ?_⟩
      obtain ⟨e1, y⟩ := y
      subst e1
      exact hs i x acc _ (y xs q) p
  exact ⟨xs.length + 1, key xs.length 0 a0 H1 (by omega) h0⟩
end
theorem listText_len : ∀ ts : List Str, (listText ts).length ≤ piled ts + 2
  | [] => by decide +kernel
  | t :: r => by
    have h := textFrom_length_pos r 1 (("[" : Str) ++ (if (0 : Nat) > 0 then ", " else "" : String) ++ t) (Nat.succ_pos 0)
    have e : ((("[" : Str) ++ (if (0 : Nat) > 0 then ", " else "" : String) ++ t)).length = 1 + t.length := by
      rw [strLen_append, strLen_append]; rfl
    have hX : (listText (t :: r)).length = (textFrom 0 "[" (t :: r)).length + 1 := by
      show (textFrom 0 "[" (t :: r) ++ "]").length = _
      rw [strLen_append]; rfl
    have hY : (textFrom 0 "[" (t :: r)).length = (textFrom 1 (("[" : Str) ++ (if (0 : Nat) > 0 then ", " else "" : String) ++ t) r).length := rfl
    rw [hX, hY, h, e, piled_cons]; omega
theorem shownAll_ints : ∀ ms : List Int, PyData.shownAll (ms.map PyData.int) = ms.map fun z => Str.ofString (toString z)
  | [] => by simp [PyData.shownAll]
  | z :: ms => by simp only [List.map_cons, PyData.shownAll, PyData.shown, shownAll_ints ms]
theorem piled_ints : ∀ ms : List Int, (∀ z ∈ ms, z.natAbs.log2 < 1920) → piled (ms.map fun z => Str.ofString (toString z)) ≤ 1930 * ms.length
  | [], _ => by simp [piled]
  | z :: ms, h => by
    have h1 := int_text_length_le (a := z) (k := 1920) (by decide) (h z List.mem_cons_self)
    have h2 := piled_ints ms fun y hy => h y (List.mem_cons_of_mem _ hy)
    rw [List.map_cons, piled_cons, PySem.ofString_length, List.length_cons]
    omega
theorem showableAll_ints : ∀ ms : List Int, (∀ z ∈ ms, z.natAbs.log2 < 1920) → PyData.showableAll (ms.map PyData.int) = true
  | [], _ => by simp [PyData.showableAll]
  | z :: ms, h => by
    simp only [List.map_cons, PyData.showableAll, PyData.showable, Bool.and_eq_true, decide_eq_true_eq]
    exact ⟨h z List.mem_cons_self, showableAll_ints ms fun y hy => h y (List.mem_cons_of_mem _ hy)⟩
theorem DpAll_ints {K : PySem.W.Frag} {H : Hp} : ∀ ms : List Int, DpAll K H (ms.map V.int) (ms.map PyData.int)
  | [] => .nil
  | z :: ms => .cons (.int z) (DpAll_ints ms)
theorem depthAll_ints : ∀ ms : List Int, PyData.depthAll (ms.map PyData.int) ≤ 1
  | [] => by simp [PyData.depthAll]
  | z :: ms => by
    have := depthAll_ints ms
    simp only [List.map_cons, PyData.depthAll, PyData.depth]
    omega
theorem rRepr_ints {K : PySem.W.Frag} {H : Hp} {a : Addr} {ms : List Int} {Q : VK} (h : SqL K H a (ms.map V.int)) (len : ms.length ≤ 1000) (bd : ∀ z ∈ ms, z.natAbs.log2 < 1920) (q : Q (.str (PyData.list (ms.map PyData.int)).shown) H) : rRepr K [.ref a] H Q := by
  unfold rRepr
  refine ⟨_, _, rfl, .lst h (DpAll_ints ms), ?_, ?_, ?_, q⟩
  · simp only [PyData.showable]; exact showableAll_ints ms bd
  · have := depthAll_ints ms
    simp only [PyData.depth]; omega
  · simp only [PyData.shown]
    have h1 := listText_len (PyData.shownAll (ms.map PyData.int))
    rw [shownAll_ints] at h1 ⊢
    have h2 := piled_ints ms bd
    have : sizeLine = 16777216 := by decide
    omega
end L2

namespace L2
open PySem
set_option maxRecDepth 20000

def five : Nat → Nat → Nat
  | 0, x => x
  | r + 1, x => five r (5 * x + 1)

theorem five_add : ∀ (r q x : Nat), five (r + q) x = five q (five r x)
  | 0, q, x => by rw [Nat.zero_add]; rfl
  | r + 1, q, x => by rw [show r + 1 + q = (r + q) + 1 by omega]; exact five_add r q (5 * x + 1)

theorem five_pow : ∀ k : Nat, ∃ o : Nat, o % 2 = 1 ∧ ∀ x, five (2 ^ k) x = x + 2 ^ k * (o * (4 * x + 1))
  | 0 => ⟨1, rfl, fun x => by show 5 * x + 1 = _; omega⟩
  | k + 1 => by
    obtain ⟨o, ho, h⟩ := five_pow k
    refine ⟨o * (1 + 2 * (2 ^ k * o)), ?_, fun x => ?_⟩
    · rw [Nat.mul_mod, ho]
      have : (1 + 2 * (2 ^ k * o)) % 2 = 1 := by omega
      rw [this]
    · rw [Nat.pow_succ, show 2 ^ k * 2 = 2 ^ k + 2 ^ k by omega, five_add, h, h]
      generalize 2 ^ k = m
      have e1 : m * (o * (4 * (x + m * (o * (4 * x + 1))) + 1)) = m * (o * (4 * x + 1)) + m * (o * (4 * (m * (o * (4 * x + 1))))) := by
        rw [show 4 * (x + m * (o * (4 * x + 1))) + 1 = (4 * x + 1) + 4 * (m * (o * (4 * x + 1))) by omega, Nat.mul_add, Nat.mul_add]
      have e2 : (m + m) * (o * (1 + 2 * (m * o)) * (4 * x + 1)) = 2 * (m * (o * (4 * x + 1))) + m * (o * (4 * (m * (o * (4 * x + 1))))) := by
        generalize 4 * x + 1 = y
        simp only [Nat.mul_add, Nat.add_mul, Nat.mul_one]
        have a : m * (o * y) = m * o * y := by rw [Nat.mul_assoc]
        have b : m * (o * (2 * (m * o)) * y) = 2 * (m * o * (m * o * y)) := by
          simp only [Nat.mul_assoc, Nat.mul_left_comm, Nat.mul_comm]
        have c : m * (o * (4 * (m * (o * y)))) = 4 * (m * o * (m * o * y)) := by
          simp only [Nat.mul_assoc, Nat.mul_left_comm, Nat.mul_comm]
        rw [b, c, a]; omega
      omega

theorem five_meets : ∀ (k x j : Nat), ∃ r, r < 2 ^ k ∧ five r x % 2 ^ k = j % 2 ^ k
  | 0, x, j => ⟨0, by decide, by rw [Nat.pow_zero, Nat.mod_one, Nat.mod_one]⟩
  | k + 1, x, j => by
    obtain ⟨r, hr, e⟩ := five_meets k x j
    obtain ⟨o, ho, h⟩ := five_pow k
    have hp : 0 < 2 ^ k := Nat.pos_of_ne_zero (by simp)
    have hM : 2 ^ (k + 1) = 2 * 2 ^ k := by rw [Nat.pow_succ]; omega
    by_cases q : five r x % 2 ^ (k + 1) = j % 2 ^ (k + 1)
    · exact ⟨r, by omega, q⟩
    · refine ⟨r + 2 ^ k, by omega, ?_⟩
      rw [five_add, h]
      generalize five r x = y at e q
      have hodd : (o * (4 * y + 1)) % 2 = 1 := by rw [Nat.mul_mod, ho, show (4 * y + 1) % 2 = 1 by omega]
      generalize o * (4 * y + 1) = u at hodd
      obtain ⟨v, rfl⟩ : ∃ v, u = 2 * v + 1 := ⟨u / 2, by omega⟩
      rw [hM] at q ⊢
      have ex : y + 2 ^ k * (2 * v + 1) = y + 2 ^ k + 2 * 2 ^ k * v := by
        rw [Nat.mul_add, Nat.mul_one, ← Nat.mul_assoc, Nat.mul_comm (2 ^ k) 2]; omega
      rw [ex, Nat.add_mul_mod_self_left]
      generalize 2 ^ k = m at hp e q
      have a1 := Nat.mod_add_div y m
      have a2 := Nat.mod_add_div j m
      have b1 : y % (2 * m) = y % m + m * (y / m % 2) := by rw [Nat.mul_comm 2 m]; exact Nat.mod_mul
      have b2 : j % (2 * m) = j % m + m * (j / m % 2) := by rw [Nat.mul_comm 2 m]; exact Nat.mod_mul
      have b3 : (y + m) % (2 * m) = (y + m) % m + m * ((y + m) / m % 2) := by rw [Nat.mul_comm 2 m]; exact Nat.mod_mul
      rw [Nat.add_mod_right, Nat.add_div_right _ hp] at b3
      rw [b1, b2, e] at q
      rw [b3, b2, e]
      rcases Nat.mod_two_eq_zero_or_one (y / m) with c | c <;> rcases Nat.mod_two_eq_zero_or_one (j / m) with d | d
      · exact absurd (by rw [c, d]) q
      · rw [d, show (y / m + 1) % 2 = 1 by omega]
      · rw [d, show (y / m + 1) % 2 = 0 by omega]
      · exact absurd (by rw [c, d]) q

def runL (mask i : Nat) : List Nat := (List.range (SetTable.runEnd mask i + 1 - i)).map (i + ·)
def runs (mask : Nat) : Nat → Nat → Nat → List Nat
  | 0, _, _ => []
  | n + 1, i, pt => runL mask i ++ runs mask n (SetTable.leap mask i pt).1 (SetTable.leap mask i pt).2

theorem runEnd_ge (mask i : Nat) : i ≤ SetTable.runEnd mask i := by unfold SetTable.runEnd; split <;> omega
theorem runEnd_le {mask i : Nat} (h : i ≤ mask) : SetTable.runEnd mask i ≤ mask := by unfold SetTable.runEnd; split <;> omega
theorem runEnd_short (mask i : Nat) : SetTable.runEnd mask i ≤ i + 9 := by unfold SetTable.runEnd; split <;> omega
theorem runL_self (mask i : Nat) : i ∈ runL mask i := List.mem_map.mpr ⟨0, List.mem_range.mpr (by have := runEnd_ge mask i; omega), Nat.add_zero i⟩
theorem runL_le {mask i x : Nat} (h : i ≤ mask) (m : x ∈ runL mask i) : x ≤ mask := by
  obtain ⟨k, hk, rfl⟩ := List.mem_map.mp m
  have := List.mem_range.mp hk
  have := runEnd_le h
  omega
theorem runL_length (mask i : Nat) : (runL mask i).length ≤ 10 := by
  unfold runL; rw [List.length_map, List.length_range]; have := runEnd_short mask i; omega
theorem leap_le (mask i pt : Nat) : (SetTable.leap mask i pt).1 ≤ mask := Nat.le_of_lt_succ (Nat.mod_lt _ (Nat.succ_pos mask))
theorem runs_le {mask x : Nat} : ∀ {n i pt : Nat}, i ≤ mask → x ∈ runs mask n i pt → x ≤ mask
  | 0, _, _, _, m => nomatch m
  | n + 1, i, pt, h, m => (List.mem_append.mp m).elim (runL_le h) (runs_le (leap_le mask i pt))
theorem runs_length (mask : Nat) : ∀ n i pt, (runs mask n i pt).length ≤ 10 * n
  | 0, _, _ => Nat.le_refl _
  | n + 1, i, pt => by
    show (runL mask i ++ runs mask n _ _).length ≤ _
    rw [List.length_append]
    have := runL_length mask i
    have := runs_length mask n (SetTable.leap mask i pt).1 (SetTable.leap mask i pt).2
    omega

theorem runs_still {mask : Nat} : ∀ (r n i : Nat), r < n → i ≤ mask → five r i % (mask + 1) ∈ runs mask n i 0
  | 0, n + 1, i, _, h => List.mem_append_left _ (by rw [show five 0 i = i from rfl, Nat.mod_eq_of_lt (by omega)]; exact runL_self mask i)
  | r + 1, n + 1, i, hr, h => by
    refine List.mem_append_right _ ?_
    have e : five (r + 1) i % (mask + 1) = five r ((5 * i + 1) % (mask + 1)) % (mask + 1) := by
      show five r (5 * i + 1) % (mask + 1) = _
      generalize 5 * i + 1 = y
      clear hr h
      induction r generalizing y with
      | zero => exact (Nat.mod_mod _ _).symm
      | succ r ih =>
        show five r (5 * y + 1) % (mask + 1) = five r (5 * (y % (mask + 1)) + 1) % (mask + 1)
        rw [ih (5 * y + 1), ih (5 * (y % (mask + 1)) + 1)]
        congr 2
        rw [Nat.add_mod, Nat.mul_mod, Nat.add_mod (5 * (y % (mask + 1))), Nat.mul_mod 5 (y % (mask + 1)), Nat.mod_mod]
    rw [e]
    have el : SetTable.leap mask i 0 = ((5 * i + 1) % (mask + 1), 0) := by
      unfold SetTable.leap; rw [Nat.zero_div, Nat.add_zero, Nat.mul_comm i 5]
    rw [el]
    exact runs_still r n _ (by omega) (Nat.le_of_lt_succ (Nat.mod_lt _ (Nat.succ_pos mask)))

theorem runs_fade {mask x : Nat} : ∀ (d n i pt : Nat), pt < 32 ^ d → i ≤ mask → (∀ i', i' ≤ mask → x ∈ runs mask n i' 0) → x ∈ runs mask (n + d) i pt
  | 0, n, i, pt, hp, hi, h => by
    have : pt = 0 := by simpa using hp
    subst this; exact h i hi
  | d + 1, n, i, pt, hp, hi, h => by
    refine List.mem_append_right _ ?_
    refine runs_fade d n _ _ ?_ (leap_le mask i pt) h
    show pt / 32 < 32 ^ d
    rw [Nat.div_lt_iff_lt_mul (by decide), ← Nat.pow_succ]; exact hp

theorem bits_lt (h : Int) : SetTable.bits h < 2 ^ 64 := by
  unfold SetTable.bits
  have a : 0 ≤ h % (2 ^ 64 : Int) := Int.emod_nonneg _ (by decide)
  have b : h % (2 ^ 64 : Int) < 2 ^ 64 := Int.emod_lt_of_pos _ (by decide)
  omega

def trail (mask : Nat) (h : Int) : List Nat := runs mask (mask + 15) (SetTable.bits h % (mask + 1)) (SetTable.bits h)

theorem trail_all {mask k : Nat} (hm : mask + 1 = 2 ^ k) (h : Int) {j : Nat} (hj : j ≤ mask) : j ∈ trail mask h := by
  unfold trail
  refine (show mask + 15 = (mask + 1 + 1) + 13 by omega) ▸ runs_fade 13 (mask + 1 + 1) _ _ (Nat.lt_of_lt_of_le (bits_lt h) (by decide)) (Nat.le_of_lt_succ (Nat.mod_lt _ (Nat.succ_pos mask))) fun i' hi' => ?_
  obtain ⟨r, hr, e⟩ := five_meets k i' j
  rw [← hm] at e hr
  rw [Nat.mod_eq_of_lt (show j < mask + 1 by omega)] at e
  rw [← e]
  exact runs_still r _ i' (by omega) hi'
theorem trail_le {mask : Nat} {h : Int} {j : Nat} (m : j ∈ trail mask h) : j ≤ mask :=
  runs_le (Nat.le_of_lt_succ (Nat.mod_lt _ (Nat.succ_pos mask))) m

theorem free_runs {mask : Nat} (owner : Array (Option Nat)) : ∀ (n i pt : Nat),
    SetTable.layClean.free mask owner n i pt = (runs mask n i pt).find? fun j => (owner.getD j (some 0)).isNone
  | 0, _, _ => rfl
  | n + 1, i, pt => by
    have e : (runL mask i).find? (fun j => (owner.getD j (some 0)).isNone)
        = ((List.range (SetTable.runEnd mask i + 1 - i)).find? fun k => (owner.getD (i + k) (some 0)).isNone).map (i + ·) := by
      unfold runL; rw [List.find?_map]; rfl
    show _ = (runL mask i ++ runs mask n _ _).find? _
    rw [List.find?_append, e]
    unfold SetTable.layClean.free
    cases hf : (List.range (SetTable.runEnd mask i + 1 - i)).find? fun k => (owner.getD (i + k) (some 0)).isNone with
    | some k => rfl
    | none => exact free_runs owner n _ _

def ahead (mask n : Nat) (p : SetTable.Probe) : List Nat := (List.range (p.more + 1)).map (p.j + ·) ++ runs mask n (SetTable.leap mask p.i p.perturb).1 (SetTable.leap mask p.i p.perturb).2

theorem ahead_in (t : SetTable) (n : Nat) (p : SetTable.Probe) (h : 0 < p.more) : ahead t.mask n p = p.j :: ahead t.mask n (t.advance p) := by
  obtain ⟨j, more, i, pt, d⟩ := p
  obtain ⟨m, rfl⟩ : ∃ m, more = m + 1 := ⟨more - 1, by simp only at h; omega⟩
  show (List.range (m + 1 + 1)).map (j + ·) ++ runs t.mask n _ _ = j :: ahead t.mask n (if m + 1 > 0 then _ else _)
  rw [if_pos (Nat.succ_pos m)]
  show _ = j :: ((List.range (m + 1)).map (j + 1 + ·) ++ runs t.mask n _ _)
  rw [List.range_succ_eq_map, List.map_cons, List.map_map, List.cons_append]
  show (j + 0) :: _ = _
  rw [Nat.add_zero]
  congr 2
  refine List.map_congr_left fun x _ => ?_
  show j + (x + 1) = j + 1 + x
  omega
theorem ahead_out (t : SetTable) (n : Nat) (p : SetTable.Probe) (h : p.more = 0) : ahead t.mask (n + 1) p = p.j :: ahead t.mask n (t.advance p) := by
  obtain ⟨j, more, i, pt, d⟩ := p
  simp only at h; subst h
  show ([j + 0] : List Nat) ++ runs t.mask (n + 1) _ _ = j :: ahead t.mask n (if 0 > 0 then _ else _)
  rw [if_neg (by decide), Nat.add_zero]
  show j :: (runL t.mask _ ++ runs t.mask n _ _) = j :: ((List.range (_ + 1)).map _ ++ runs t.mask n _ _)
  unfold runL
  have := runEnd_ge t.mask (SetTable.leap t.mask i pt).1
  rw [show SetTable.runEnd t.mask (SetTable.leap t.mask i pt).1 + 1 - (SetTable.leap t.mask i pt).1 = SetTable.runEnd t.mask (SetTable.leap t.mask i pt).1 - (SetTable.leap t.mask i pt).1 + 1 by omega]
theorem ahead_end (t : SetTable) (p : SetTable.Probe) (h : p.more = 0) : ahead t.mask 0 p = [p.j] := by
  obtain ⟨j, more, i, pt, d⟩ := p
  simp only at h; subst h
  show ([j + 0] : List Nat) ++ [] = [j]
  rw [Nat.add_zero]; rfl
theorem ahead_start (t : SetTable) (h : Int) : ahead t.mask (t.mask + 14) (t.probeStart h) = trail t.mask h := by
  show (List.range (_ + 1)).map _ ++ runs t.mask (t.mask + 14) _ _ = runL t.mask _ ++ runs t.mask (t.mask + 14) _ _
  unfold runL
  have := runEnd_ge t.mask (SetTable.bits h % (t.mask + 1))
  show (List.range (SetTable.runEnd t.mask (SetTable.bits h % (t.mask + 1)) - SetTable.bits h % (t.mask + 1) + 1)).map _ ++ _ = _
  rw [show SetTable.runEnd t.mask (SetTable.bits h % (t.mask + 1)) + 1 - SetTable.bits h % (t.mask + 1) = SetTable.runEnd t.mask (SetTable.bits h % (t.mask + 1)) - SetTable.bits h % (t.mask + 1) + 1 by omega]
  rfl
end L2

namespace L2
open PySem
set_option autoImplicit false
set_option maxRecDepth 20000

theorem rise_at {xs : Array Nat} (hs : xs.toList.Pairwise (· < ·)) {i k u v : Nat} (hi : xs[i]? = some u) (hk : xs[k]? = some v) (h : i < k) : u < v := by
  rw [← Array.getElem?_toList] at hi hk
  obtain ⟨hi', rfl⟩ := List.getElem?_eq_some_iff.mp hi
  obtain ⟨hk', rfl⟩ := List.getElem?_eq_some_iff.mp hk
  exact List.pairwise_iff_getElem.mp hs i k hi' hk' h

theorem below_go {xs : Array Nat} (hs : xs.toList.Pairwise (· < ·)) (j : Nat) : ∀ (fuel lo hi : Nat), lo ≤ hi → hi ≤ xs.size → hi - lo ≤ fuel →
    (∀ i v, xs[i]? = some v → i < lo → v < j) → (∀ i v, xs[i]? = some v → hi ≤ i → j ≤ v) →
    SetTable.below.go xs j fuel lo hi ≤ xs.size ∧ ∀ i v, xs[i]? = some v → (v < j ↔ i < SetTable.below.go xs j fuel lo hi)
  | 0, lo, hi, h1, h2, h3, ha, hb => by
    have e : lo = hi := by omega
    subst e
    refine ⟨h2, fun i v hv => ⟨fun hlt => ?_, fun hlt => ha i v hv hlt⟩⟩
    show i < lo
    by_cases q : lo ≤ i
    · have := hb i v hv q; omega
    · omega
  | fuel + 1, lo, hi, h1, h2, h3, ha, hb => by
    unfold SetTable.below.go
    by_cases c : lo < hi
    · rw [if_pos c]
      have hm : (lo + hi) / 2 < xs.size := by omega
      have em : xs[(lo + hi) / 2]? = some xs[(lo + hi) / 2] := Array.getElem?_eq_getElem hm
      have ed : xs.getD ((lo + hi) / 2) j = xs[(lo + hi) / 2] := by rw [Array.getD_eq_getD_getElem?, em]; rfl
      dsimp only
      rw [ed]
      by_cases q : xs[(lo + hi) / 2] < j
      · rw [if_pos q]
        refine below_go hs j fuel _ hi (by omega) h2 (by omega) (fun i v hv hi' => ?_) hb
        rcases Nat.lt_or_ge i ((lo + hi) / 2) with l | l
        · exact Nat.lt_trans (rise_at hs hv em l) q
        · have : i = (lo + hi) / 2 := by omega
          subst this; rw [em] at hv; cases hv; exact q
      · rw [if_neg q]
        refine below_go hs j fuel lo _ (by omega) (by omega) (by omega) ha (fun i v hv hi' => ?_)
        rcases Nat.lt_or_ge ((lo + hi) / 2) i with l | l
        · have := rise_at hs em hv l; omega
        · have : i = (lo + hi) / 2 := by omega
          subst this; rw [em] at hv; cases hv; omega
    · rw [if_neg c]
      have e : lo = hi := by omega
      subst e
      refine ⟨h2, fun i v hv => ⟨fun hlt => ?_, fun hlt => ha i v hv hlt⟩⟩
      by_cases q : lo ≤ i
      · have := hb i v hv q; omega
      · omega
theorem below_spec {xs : Array Nat} (hs : xs.toList.Pairwise (· < ·)) (j : Nat) : SetTable.below xs j ≤ xs.size ∧ ∀ i v, xs[i]? = some v → (v < j ↔ i < SetTable.below xs j) :=
  below_go hs j xs.size 0 xs.size (Nat.zero_le _) (Nat.le_refl _) (by omega) (fun _ _ _ h => absurd h (Nat.not_lt_zero _)) (fun i v hv h => by
    have := (Array.getElem?_eq_some_iff.mp hv).1; omega)
theorem below_mem {xs : Array Nat} (hs : xs.toList.Pairwise (· < ·)) (j : Nat) : xs[SetTable.below xs j]? = some j ↔ j ∈ xs.toList := by
  constructor
  · intro h; exact Array.mem_toList_iff.mpr (Array.mem_of_getElem? h)
  · intro h
    obtain ⟨i, hi⟩ := List.getElem?_of_mem h
    rw [Array.getElem?_toList] at hi
    obtain ⟨_, sp⟩ := below_spec hs j
    have a : ¬ i < SetTable.below xs j := fun q => Nat.lt_irrefl j ((sp i j hi).mpr q)
    rcases Nat.lt_or_ge (SetTable.below xs j) i with l | l
    · have hlt : SetTable.below xs j < xs.size := Nat.lt_trans l (Array.getElem?_eq_some_iff.mp hi).1
      have eb := Array.getElem?_eq_getElem hlt
      have := (sp _ _ eb).mp (rise_at hs eb hi l)
      omega
    · have : i = SetTable.below xs j := by omega
      subst this; exact hi
theorem below_at {xs : Array Nat} (hs : xs.toList.Pairwise (· < ·)) {i j : Nat} (h : xs[i]? = some j) : SetTable.below xs j = i := by
  obtain ⟨_, sp⟩ := below_spec hs j
  have a : ¬ i < SetTable.below xs j := fun q => Nat.lt_irrefl j ((sp i j h).mpr q)
  rcases Nat.lt_or_ge (SetTable.below xs j) i with l | l
  · have hlt : SetTable.below xs j < xs.size := Nat.lt_trans l (Array.getElem?_eq_some_iff.mp h).1
    have eb := Array.getElem?_eq_getElem hlt
    have := (sp _ _ eb).mp (rise_at hs eb h l)
    omega
  · omega
theorem below_next {xs : Array Nat} (hs : xs.toList.Pairwise (· < ·)) {i j : Nat} (h : xs[i]? = some j) : SetTable.below xs (j + 1) = i + 1 := by
  obtain ⟨hle, sp⟩ := below_spec hs (j + 1)
  have a : i < SetTable.below xs (j + 1) := (sp i j h).mp (Nat.lt_succ_self j)
  rcases Nat.lt_or_ge (i + 1) (SetTable.below xs (j + 1)) with l | l
  · have hlt : i + 1 < xs.size := by omega
    have eb := Array.getElem?_eq_getElem hlt
    have b := (sp _ _ eb).mpr l
    have := rise_at hs h eb (Nat.lt_succ_self i)
    omega
  · omega
theorem below_zero {xs : Array Nat} (hs : xs.toList.Pairwise (· < ·)) : SetTable.below xs 0 = 0 := by
  obtain ⟨hle, sp⟩ := below_spec hs 0
  rcases Nat.eq_zero_or_pos (SetTable.below xs 0) with e | e
  · exact e
  · have hlt : 0 < xs.size := by omega
    have := (sp 0 _ (Array.getElem?_eq_getElem hlt)).mpr e
    omega

def Reach (mask : Nat) (full : Nat → Prop) (h : Int) (j : Nat) : Prop := ∃ pre post, trail mask h = pre ++ j :: post ∧ ∀ x ∈ pre, full x
theorem Reach.mono {mask : Nat} {f g : Nat → Prop} {h : Int} {j : Nat} (R : Reach mask f h j) (fg : ∀ x, f x → g x) : Reach mask g h j :=
  let ⟨pre, post, e, a⟩ := R; ⟨pre, post, e, fun x hx => fg x (a x hx)⟩

structure Tab0 (t : SetTable) (es : Array (Int × Value)) (b : Bool) : Prop where
  pow : ∃ k, t.mask + 1 = 2 ^ k
  dum : t.dummies = #[]
  rise : t.place.toList.Pairwise (· < ·)
  le : ∀ j ∈ t.place.toList, j ≤ t.mask
  size : t.place.size = es.size
  room : es.size ≤ t.mask
  plain : t.plain = true
  led : t.led = b
  way : ∀ (i : Nat) (h : Int) (x : Value) (j : Nat), es[i]? = some (h, x) → t.place[i]? = some j → Reach t.mask (· ∈ t.place.toList) h j

structure Tab (t : SetTable) (es : Array (Int × Value)) (b : Bool) : Prop extends Tab0 t es b where
  wide : es.size * 5 < t.mask * 3
  chain : t.mask = 7 ∨ t.mask = 31 ∨ t.mask = 127 ∨ t.mask = 511 ∨ t.mask = 2047 ∨ t.mask = 8191

theorem Tab0.fill {t : SetTable} {es : Array (Int × Value)} {b : Bool} (T : Tab0 t es b) : t.fill = es.size := by
  show t.place.size + t.dummies.size = _
  rw [T.dum, T.size]; rfl
theorem Tab0.fits {t : SetTable} {es : Array (Int × Value)} {b : Bool} (T : Tab0 t es b) : t.fits es.size = true := by
  unfold SetTable.fits
  rw [T.fill, T.size]
  have := T.room
  simp [this]
theorem Tab0.fresh (b : Bool) : Tab (SetTable.fresh 0 0 b) #[] b where
  pow := ⟨3, rfl⟩
  dum := rfl
  rise := .nil
  le := fun _ h => nomatch h
  size := rfl
  room := Nat.zero_le _
  plain := rfl
  led := rfl
  way := fun i h x j e => by simp at e
  wide := by show 0 * 5 < 7 * 3; decide
  chain := .inl rfl

theorem Tab0.slot {t : SetTable} {es : Array (Int × Value)} {b : Bool} (T : Tab0 t es b) (j : Nat) : t.slot j = if j ∈ t.place.toList then .live (SetTable.below t.place j) else .empty := by
  unfold SetTable.slot
  dsimp only
  by_cases h : j ∈ t.place.toList
  · rw [if_pos h, (below_mem T.rise j).mpr h]; simp
  · rw [if_neg h]
    have : (t.place[SetTable.below t.place j]? == some j) = false := by
      cases hq : t.place[SetTable.below t.place j]? with
      | none => rfl
      | some v =>
        have : v ≠ j := fun e => h ((below_mem T.rise j).mp (e ▸ hq))
        simp [this]
    rw [this, T.dum]
    rfl

theorem Tab0.gap {t : SetTable} {es : Array (Int × Value)} {b : Bool} (T : Tab0 t es b) : ∃ j, j ≤ t.mask ∧ j ∉ t.place.toList := by
  apply Classical.byContradiction
  intro hn
  have : (List.range (t.mask + 1)) ⊆ t.place.toList := fun j hj => by
    apply Classical.byContradiction
    intro q; exact hn ⟨j, Nat.le_of_lt_succ (List.mem_range.mp hj), q⟩
  have := List.nodup_range.length_le_of_subset this
  rw [List.length_range, Array.length_toList, T.size] at this
  have := T.room
  omega

theorem Tab0.go {t : SetTable} {es : Array (Int × Value)} {b : Bool} (T : Tab0 t es b) (hashAt : Nat → Int) (h : Int) : ∀ (fuel n : Nat) (p : SetTable.Probe), p.dummy = none → (ahead t.mask n p).length ≤ fuel →
    (∃ j ∈ ahead t.mask n p, j ∉ t.place.toList) →
    ∃ pre j post, ahead t.mask n p = pre ++ j :: post ∧ (∀ x ∈ pre, x ∈ t.place.toList ∧ hashAt (SetTable.below t.place x) ≠ h) ∧
      ((j ∉ t.place.toList ∧ SetTable.probe.go t hashAt h fuel p = some (.empty j none)) ∨
       (j ∈ t.place.toList ∧ hashAt (SetTable.below t.place j) = h ∧ ∃ n' q, SetTable.probe.go t hashAt h fuel p = some (.candidate j (SetTable.below t.place j) q) ∧ q.dummy = none ∧ ahead t.mask n' q = post))
  | 0, n, p, _, hl, ⟨j, hj, _⟩ => absurd hl (by have := List.length_pos_of_mem hj; omega)
  | fuel + 1, n, p, hd, hl, ⟨j, hj, hn⟩ => by
    have had : (t.advance p).dummy = none := by unfold SetTable.advance; split <;> exact hd
    have step : ∀ n', ahead t.mask n p = p.j :: ahead t.mask n' (t.advance p) → p.j ∈ t.place.toList → _ := fun n' e hin => by
      have hj' : j ∈ ahead t.mask n' (t.advance p) := by
        rw [e] at hj
        rcases List.mem_cons.mp hj with q | q
        · exact absurd (q ▸ hin) hn
        · exact q
      by_cases hh : hashAt (SetTable.below t.place p.j) = h
      · refine (⟨[], p.j, ahead t.mask n' (t.advance p), e, (fun _ hx => nomatch hx), .inr ⟨hin, hh, n', t.advance p, ?_, had, rfl⟩⟩ : ∃ pre j post, ahead t.mask n p = pre ++ j :: post ∧ (∀ x ∈ pre, x ∈ t.place.toList ∧ hashAt (SetTable.below t.place x) ≠ h) ∧
          ((j ∉ t.place.toList ∧ SetTable.probe.go t hashAt h (fuel + 1) p = some (.empty j none)) ∨
           (j ∈ t.place.toList ∧ hashAt (SetTable.below t.place j) = h ∧ ∃ n' q, SetTable.probe.go t hashAt h (fuel + 1) p = some (.candidate j (SetTable.below t.place j) q) ∧ q.dummy = none ∧ ahead t.mask n' q = post)))
        unfold SetTable.probe.go
        rw [T.slot, if_pos hin]
        dsimp only
        rw [if_pos (by rw [hh]; exact beq_self_eq_true h)]
      · have eg : SetTable.probe.go t hashAt h (fuel + 1) p = SetTable.probe.go t hashAt h fuel (t.advance p) := by
          conv => lhs; unfold SetTable.probe.go
          rw [T.slot, if_pos hin]
          dsimp only
          rw [if_neg (by simpa using hh)]
        obtain ⟨pre, j', post, e1, e2, e3⟩ := Tab0.go T hashAt h fuel n' (t.advance p) had (by rw [e, List.length_cons] at hl; omega) ⟨j, hj', hn⟩
        refine ⟨p.j :: pre, j', post, by rw [e, e1]; rfl, fun x hx => ?_, ?_⟩
        · rcases List.mem_cons.mp hx with rfl | hx
          · exact ⟨hin, hh⟩
          · exact e2 x hx
        · rw [eg]; exact e3
    by_cases hin : p.j ∈ t.place.toList
    · rcases Nat.eq_zero_or_pos p.more with hm | hm
      · cases n with
        | zero =>
          rw [ahead_end t p hm] at hj
          exact absurd (List.mem_singleton.mp hj ▸ hin) hn
        | succ n => exact step n (ahead_out t n p hm) hin
      · exact step n (ahead_in t n p hm) hin
    · obtain ⟨rest, e⟩ : ∃ rest, ahead t.mask n p = p.j :: rest := by
        rcases Nat.eq_zero_or_pos p.more with hm | hm
        · cases n with
          | zero => exact ⟨[], ahead_end t p hm⟩
          | succ n => exact ⟨_, ahead_out t n p hm⟩
        · exact ⟨_, ahead_in t n p hm⟩
      refine ⟨[], p.j, rest, e, (fun _ hx => nomatch hx), .inl ⟨hin, ?_⟩⟩
      unfold SetTable.probe.go
      rw [T.slot, if_neg hin, hd]

theorem Tab0.gap_trail {t : SetTable} {es : Array (Int × Value)} {b : Bool} (T : Tab0 t es b) (h : Int) : ∃ j ∈ trail t.mask h, j ∉ t.place.toList := by
  obtain ⟨j, hj, hn⟩ := T.gap
  obtain ⟨k, hk⟩ := T.pow
  exact ⟨j, trail_all hk h hj, hn⟩
theorem trail_length (mask : Nat) (h : Int) : (trail mask h).length ≤ 10 * SetTable.turns mask := runs_length mask (mask + 15) _ _

theorem Tab0.free {t : SetTable} {es : Array (Int × Value)} {b : Bool} (T : Tab0 t es b) (h : Int) : ∃ j, t.freeSlot h = some (j, false) ∧ j ≤ t.mask ∧ j ∉ t.place.toList ∧ Reach t.mask (· ∈ t.place.toList) h j := by
  obtain ⟨pre, j, post, e1, e2, e3⟩ := T.go (fun _ => h + 1) h (10 * SetTable.turns t.mask) (t.mask + 14) (t.probeStart h) rfl
    (by rw [ahead_start]; exact trail_length t.mask h) (by rw [ahead_start]; exact T.gap_trail h)
  rw [ahead_start] at e1
  rcases e3 with ⟨hn, eg⟩ | ⟨_, hh, _⟩
  · refine ⟨j, ?_, trail_le (h := h) (by rw [e1]; simp), hn, pre, post, e1, fun x hx => (e2 x hx).1⟩
    unfold SetTable.freeSlot SetTable.probe
    rw [eg]; rfl
  · omega

theorem insertAt_get {α : Type} {xs : Array α} {p : Nat} (hp : p ≤ xs.size) (x : α) (i : Nat) :
    (SetTable.insertAt xs p x)[i]? = if i < p then xs[i]? else if i = p then some x else xs[i - 1]? := by
  rw [← Array.getElem?_toList, SetTable.toList_insertAt]
  have hl : (xs.toList.take p).length = p := by rw [List.length_take, Array.length_toList]; omega
  rcases Nat.lt_trichotomy i p with h | h | h
  · rw [if_pos h, List.getElem?_append_left (by omega), List.getElem?_take_of_lt h, Array.getElem?_toList]
  · subst h
    rw [if_neg (Nat.lt_irrefl _), if_pos rfl, List.getElem?_append_right (by omega), hl, Nat.sub_self]; rfl
  · rw [if_neg (by omega), if_neg (by omega), List.getElem?_append_right (by omega), hl]
    obtain ⟨d, rfl⟩ : ∃ d, i = p + 1 + d := ⟨i - (p + 1), by omega⟩
    rw [show p + 1 + d - p = d + 1 by omega, List.getElem?_cons_succ, List.getElem?_drop, Array.getElem?_toList, show p + 1 + d - 1 = p + d by omega]

theorem insertAt_rise {xs : Array Nat} (hs : xs.toList.Pairwise (· < ·)) {j : Nat} (hn : j ∉ xs.toList) :
    (SetTable.insertAt xs (SetTable.below xs j) j).toList.Pairwise (· < ·) := by
  rw [SetTable.toList_insertAt]
  obtain ⟨hle, sp⟩ := below_spec hs j
  have h1 : ∀ x ∈ xs.toList.take (SetTable.below xs j), x < j := fun x hx => by
    obtain ⟨i, hi⟩ := List.getElem?_of_mem hx
    have hil : i < SetTable.below xs j := by
      have := (List.getElem?_eq_some_iff.mp hi).1
      rw [List.length_take] at this; omega
    rw [List.getElem?_take_of_lt hil, Array.getElem?_toList] at hi
    exact (sp i x hi).mpr hil
  have h2 : ∀ x ∈ xs.toList.drop (SetTable.below xs j), j < x := fun x hx => by
    obtain ⟨i, hi⟩ := List.getElem?_of_mem hx
    rw [List.getElem?_drop, Array.getElem?_toList] at hi
    have a : ¬ x < j := fun q => by have := (sp _ x hi).mp q; omega
    have b : x ≠ j := fun q => hn (q ▸ List.mem_of_mem_drop hx)
    omega
  have hd := hs.sublist (List.drop_sublist (SetTable.below xs j) xs.toList)
  have ht := hs.sublist (List.take_sublist (SetTable.below xs j) xs.toList)
  refine List.pairwise_append.mpr ⟨ht, List.pairwise_cons.mpr ⟨h2, hd⟩, fun a ha c hc => ?_⟩
  rcases List.mem_cons.mp hc with rfl | hc
  · exact h1 a ha
  · exact Nat.lt_trans (h1 a ha) (h2 c hc)

theorem mem_insertAt {α : Type} {xs : Array α} {p : Nat} {x y : α} : y ∈ (SetTable.insertAt xs p x).toList ↔ y = x ∨ y ∈ xs.toList := by
  rw [(SetTable.insertAt_perm xs p x).mem_iff, Array.toList_push, List.mem_append, List.mem_singleton, or_comm]

theorem Tab0.put {t : SetTable} {es : Array (Int × Value)} {b : Bool} (T : Tab0 t es b) {h : Int} {x : Value} {j : Nat} (hj : j ≤ t.mask) (hn : j ∉ t.place.toList) (R : Reach t.mask (· ∈ t.place.toList) h j) (hr : es.size + 1 ≤ t.mask) :
    (t.put j).2 = SetTable.below t.place j ∧ Tab0 (t.put j).1 (SetTable.insertAt es (SetTable.below t.place j) (h, x)) b := by
  have hd : (if SetTable.has t.dummies j then SetTable.eraseAt t.dummies (SetTable.below t.dummies j) else t.dummies) = #[] := by rw [T.dum]; rfl
  have hle := (below_spec T.rise j).1
  refine ⟨rfl, ⟨T.pow, hd, insertAt_rise T.rise hn, fun i hi => ?_, ?_, ?_, T.plain, T.led, fun i h' x' j' he hp => ?_⟩⟩
  · rcases mem_insertAt.mp hi with rfl | hi
    · exact hj
    · exact T.le i hi
  · show (SetTable.insertAt t.place (SetTable.below t.place j) j).size = (SetTable.insertAt es (SetTable.below t.place j) (h, x)).size
    rw [← Array.length_toList, ← Array.length_toList, (SetTable.insertAt_perm _ _ _).length_eq, (SetTable.insertAt_perm _ _ _).length_eq]
    simp [T.size]
  · show (SetTable.insertAt es (SetTable.below t.place j) (h, x)).size ≤ t.mask
    rw [← Array.length_toList, (SetTable.insertAt_perm _ _ _).length_eq]
    simpa using hr
  · have up : ∀ y, y ∈ t.place.toList → y ∈ (SetTable.insertAt t.place (SetTable.below t.place j) j).toList := fun y hy => mem_insertAt.mpr (.inr hy)
    have hp' : (SetTable.insertAt t.place (SetTable.below t.place j) j)[i]? = some j' := hp
    show Reach t.mask (· ∈ (SetTable.insertAt t.place (SetTable.below t.place j) j).toList) h' j'
    rw [insertAt_get (by rw [← T.size]; exact hle)] at he
    rw [insertAt_get hle] at hp'
    split at he
    · rename_i q
      rw [if_pos q] at hp'
      exact (T.way i h' x' j' he hp').mono up
    · rename_i q
      rw [if_neg q] at hp'
      split at he
      · rename_i q'
        rw [if_pos q'] at hp'
        cases he; cases hp'
        exact R.mono up
      · rename_i q'
        rw [if_neg q'] at hp'
        exact (T.way (i - 1) h' x' j' he hp').mono up
end L2

namespace L2
open PySem
set_option autoImplicit false
set_option maxRecDepth 20000

structure Own (mask : Nat) (hs : List Int) (owner : Array (Option Nat)) (m : Nat) : Prop where
  size : owner.size = mask + 1
  lt : ∀ (j i : Nat), owner[j]? = some (some i) → i < m
  inj : ∀ (j j' i : Nat), owner[j]? = some (some i) → owner[j']? = some (some i) → j = j'
  has : ∀ i, i < m → ∃ j : Nat, owner[j]? = some (some i)
  way : ∀ (j i : Nat) (h : Int), owner[j]? = some (some i) → hs[i]? = some h → Reach mask (fun x => ∃ i', owner[x]? = some (some i')) h j

open Classical in
theorem Own.gap {mask : Nat} {hs : List Int} {owner : Array (Option Nat)} {m : Nat} (O : Own mask hs owner m) (hm : m ≤ mask) : ∃ j : Nat, j ≤ mask ∧ owner[j]? = some none := by
  apply Classical.byContradiction
  intro hn
  have all : ∀ j : Nat, j ≤ mask → ∃ i, owner[j]? = some (some i) := fun j hj => by
    have hjo : j < owner.size := by rw [O.size]; omega
    have e : owner[j]? = some owner[j] := Array.getElem?_eq_getElem hjo
    cases ho : owner[j] with
    | none => exact absurd ⟨j, hj, by rw [e, ho]⟩ hn
    | some i => exact ⟨i, by rw [e, ho]⟩
  obtain ⟨f, hf⟩ : ∃ f : Nat → Nat, ∀ i, i < m → owner[f i]? = some (some i) := by
    refine ⟨fun i => if h : ∃ j : Nat, owner[j]? = some (some i) then Classical.choose h else 0, fun i hi => ?_⟩
    have h := O.has i hi
    dsimp only
    rw [dif_pos h]
    exact Classical.choose_spec h
  have sub : List.range (mask + 1) ⊆ (List.range m).map f := fun j hj => by
    obtain ⟨i, hi⟩ := all j (Nat.le_of_lt_succ (List.mem_range.mp hj))
    have him := O.lt j i hi
    exact List.mem_map.mpr ⟨i, List.mem_range.mpr him, O.inj _ _ i (hf i him) hi⟩
  have := List.nodup_range.length_le_of_subset sub
  rw [List.length_range, List.length_map, List.length_range] at this
  omega

theorem Own.step {mask k : Nat} (hk : mask + 1 = 2 ^ k) {hs : List Int} {owner : Array (Option Nat)} {m : Nat} (O : Own mask hs owner m) (hm : m ≤ mask) {h : Int} (hh : hs[m]? = some h) :
    ∃ j, SetTable.layClean.free mask owner (SetTable.turns mask) (SetTable.bits h % (mask + 1)) (SetTable.bits h) = some j ∧ Own mask hs (owner.setIfInBounds j (some m)) (m + 1) := by
  obtain ⟨j0, hj0, e0⟩ := O.gap hm
  rw [free_runs]
  show ∃ j, (trail mask h).find? _ = some j ∧ _
  cases hf : (trail mask h).find? (fun j => (owner.getD j (some 0)).isNone) with
  | none =>
    have := List.find?_eq_none.mp hf j0 (trail_all hk h hj0)
    rw [Array.getD_eq_getD_getElem?, e0] at this
    exact absurd rfl this
  | some j =>
    obtain ⟨hp, pre, post, e, hpre⟩ := List.find?_eq_some_iff_append.mp hf
    have hjm : j ≤ mask := trail_le (h := h) (by rw [e]; simp)
    have hjs : j < owner.size := by rw [O.size]; omega
    have hjn : owner[j]? = some none := by
      rw [Array.getD_eq_getD_getElem?, Array.getElem?_eq_getElem hjs] at hp
      rw [Array.getElem?_eq_getElem hjs]
      cases ho : owner[j] with
      | none => rfl
      | some i => rw [ho] at hp; cases hp
    have get : ∀ x : Nat, (owner.setIfInBounds j (some m))[x]? = if j = x then some (some m) else owner[x]? := fun x => by
      rw [Array.getElem?_setIfInBounds, if_pos hjs]
    have up : ∀ x : Nat, (∃ i' : Nat, owner[x]? = some (some i')) → ∃ i' : Nat, (owner.setIfInBounds j (some m))[x]? = some (some i') := fun x hx => by
      obtain ⟨i', hi'⟩ := hx
      refine ⟨i', ?_⟩
      rw [get, if_neg (fun q => by rw [← q, hjn] at hi'; cases hi')]; exact hi'
    have full : ∀ x ∈ pre, ∃ i', owner[x]? = some (some i') := fun x hx => by
      have a := hpre x hx
      have hxm : x ≤ mask := trail_le (h := h) (by rw [e]; simp [hx])
      have hxs : x < owner.size := by rw [O.size]; omega
      rw [Array.getD_eq_getD_getElem?, Array.getElem?_eq_getElem hxs] at a
      rw [Array.getElem?_eq_getElem hxs]
      cases ho : owner[x] with
      | none => rw [ho] at a; exact absurd a (by decide)
      | some i => exact ⟨i, rfl⟩
    refine ⟨j, rfl, ⟨by rw [Array.size_setIfInBounds]; exact O.size, fun x i hx => ?_, fun x x' i hx hx' => ?_, fun i hi => ?_, fun x i h' hx hh' => ?_⟩⟩
    · rw [get] at hx
      split at hx
      · cases hx; omega
      · have := O.lt x i hx; omega
    · rw [get] at hx hx'
      split at hx <;> split at hx'
      · omega
      · cases hx; exact absurd (O.lt _ _ hx') (Nat.lt_irrefl _)
      · cases hx'; exact absurd (O.lt _ _ hx) (Nat.lt_irrefl _)
      · exact O.inj x x' i hx hx'
    · rcases Nat.lt_or_ge i m with l | l
      · obtain ⟨x, hx⟩ := O.has i l
        refine ⟨x, ?_⟩
        rw [get, if_neg (fun q => by rw [← q, hjn] at hx; cases hx)]; exact hx
      · have : i = m := by omega
        subst this
        exact ⟨j, by rw [get, if_pos rfl]⟩
    · rw [get] at hx
      split at hx
      · rename_i q
        cases hx; subst q
        rw [hh] at hh'; cases hh'
        exact ⟨pre, post, e, fun x hx => up x (full x hx)⟩
      · exact (O.way x i h' hx hh').mono up

theorem layClean_is {mask k : Nat} (hk : mask + 1 = 2 ^ k) (hs : Array Int) (hn : hs.size ≤ mask + 1) : ∃ owner, SetTable.layClean mask hs = some owner ∧ Own mask hs.toList owner hs.size := by
  unfold SetTable.layClean
  rw [← Array.foldl_toList]
  have main : ∀ (l : List Int) (owner : Array (Option Nat)) (m : Nat), Own mask hs.toList owner m → m + l.length = hs.size → hs.toList.drop m = l →
      ∃ owner', l.foldl (init := some (owner, m)) (fun acc h => do
        let (owner, k) ← acc
        let j ← SetTable.layClean.free mask owner (SetTable.turns mask) (SetTable.bits h % (mask + 1)) (SetTable.bits h)
        pure (owner.setIfInBounds j (some k), k + 1)) = some (owner', hs.size) ∧ Own mask hs.toList owner' hs.size := by
    intro l
    induction l with
    | nil =>
      intro owner m O e _
      have : m = hs.size := by simpa using e
      subst this
      exact ⟨owner, rfl, O⟩
    | cons h l ih =>
      intro owner m O e hd
      have hh : hs.toList[m]? = some h := by
        have := congrArg (fun x => x[0]?) hd
        simpa [List.getElem?_drop] using this
      rw [List.length_cons] at e
      obtain ⟨j, hj, O'⟩ := O.step hk (by omega) hh
      have hd' : hs.toList.drop (m + 1) = l := by
        rw [← List.drop_drop, hd]; rfl
      obtain ⟨owner', h1, h2⟩ := ih (owner.setIfInBounds j (some m)) (m + 1) O' (by omega) hd'
      refine ⟨owner', ?_, h2⟩
      rw [List.foldl_cons, ← h1]
      congr 1
      show (SetTable.layClean.free mask owner _ _ _).bind _ = _
      rw [hj]; rfl
  have O0 : Own mask hs.toList (Array.replicate (mask + 1) none) 0 := by
    have no : ∀ (j i : Nat), (Array.replicate (mask + 1) (none : Option Nat))[j]? = some (some i) → False := fun j i h => by
      rw [Array.getElem?_replicate] at h
      split at h <;> cases h
    exact ⟨Array.size_replicate, fun j i h => (no j i h).elim, fun j _ i h => (no j i h).elim, fun i hi => absurd hi (Nat.not_lt_zero i), fun j i _ h => (no j i h).elim⟩
  obtain ⟨owner, h1, h2⟩ := main hs.toList _ 0 O0 (by simp) rfl
  refine ⟨owner, ?_, h2⟩
  rw [h1]; rfl

theorem filterMap_at {α β : Type} {g : α → Option β} : ∀ (l : List α), (∀ x ∈ l, (g x).isSome = true) → ∀ i : Nat, (l.filterMap g)[i]? = (l[i]?).bind g
  | [], _, i => by simp
  | x :: l, h, i => by
    cases hx : g x with
    | none => have := h x (.head _); rw [hx] at this; cases this
    | some y =>
      rw [List.filterMap_cons_some hx]
      cases i with
      | zero => simp [hx]
      | succ i => simpa using filterMap_at l (fun z hz => h z (.tail _ hz)) i
theorem laid_is {mask k : Nat} (hk : mask + 1 = 2 ^ k) (finger moves : Nat) (b : Bool) (es : Array (Int × Value)) (hn : es.size ≤ mask) :
    ∃ t' order, SetTable.laid mask finger moves b true (es.map (·.1)) = some (t', order) ∧ t'.mask = mask ∧ order.toList.Perm (List.range es.size) ∧ Tab0 t' (order.filterMap (es[·]?)) b := by
  obtain ⟨owner, h1, O⟩ := layClean_is hk (es.map (·.1)) (by rw [Array.size_map]; omega)
  rw [Array.size_map] at O
  unfold SetTable.laid
  rw [h1]
  let live : List (Nat × Nat) := (List.range (mask + 1)).filterMap fun j => (owner.getD j none).map (j, ·)
  have hlive : ∀ j i, (j, i) ∈ live ↔ owner[j]? = some (some i) := fun j i => by
    show (j, i) ∈ List.filterMap _ _ ↔ _
    rw [List.mem_filterMap]
    constructor
    · rintro ⟨x, hx, e⟩
      have hxs : x < owner.size := by rw [O.size]; exact List.mem_range.mp hx
      rw [Array.getD_eq_getD_getElem?, Array.getElem?_eq_getElem hxs] at e
      cases ho : owner[x] with
      | none => rw [ho] at e; cases e
      | some y => rw [ho] at e; cases e; rw [Array.getElem?_eq_getElem hxs, ho]
    · intro e
      have hj : j < mask + 1 := by rw [← O.size]; exact (Array.getElem?_eq_some_iff.mp e).1
      exact ⟨j, List.mem_range.mpr hj, by rw [Array.getD_eq_getD_getElem?, e]; rfl⟩
  have rise : live.Pairwise (fun p q => p.1 < q.1) := List.Pairwise.filterMap (R := (· < ·)) _ (fun a a' haa b hb b' hb' => by
    obtain ⟨_, _, rfl⟩ := Option.map_eq_some_iff.mp hb
    obtain ⟨_, _, rfl⟩ := Option.map_eq_some_iff.mp hb'
    exact haa) List.pairwise_lt_range
  have rise1 : (live.map (·.1)).Pairwise (· < ·) := List.pairwise_map.mpr rise
  have nd2 : (live.map (·.2)).Nodup := by
    refine List.pairwise_map.mpr ?_
    refine List.Pairwise.imp_of_mem (R := fun p q : Nat × Nat => p.1 < q.1) (fun {p q} hp hq hlt he => ?_) rise
    have := O.inj p.1 q.1 p.2 ((hlive _ _).mp hp) (by rw [he]; exact (hlive _ _).mp hq)
    omega
  have perm : (live.map (·.2)).Perm (List.range es.size) := by
    refine (List.perm_ext_iff_of_nodup nd2 List.nodup_range).mpr fun i => ?_
    rw [List.mem_range]
    constructor
    · intro h
      obtain ⟨⟨j, i'⟩, hp, rfl⟩ := List.mem_map.mp h
      exact O.lt j i' ((hlive _ _).mp hp)
    · intro h
      obtain ⟨j, hj⟩ := O.has i h
      exact List.mem_map.mpr ⟨(j, i), (hlive j i).mpr hj, rfl⟩
  have hsome : ∀ i ∈ live.map (·.2), (es[i]?).isSome = true := fun i hi => by
    have := List.mem_range.mp (perm.mem_iff.mp hi)
    rw [Array.getElem?_eq_getElem this]; rfl
  have hsz : ((live.map (·.2)).toArray.filterMap (es[·]?)).size = es.size := by
    rw [← Array.length_toList, Array.toList_filterMap, (perm.filterMap _).length_eq, filterMap_getElem?_range, Array.length_toList]
  refine ⟨_, _, rfl, rfl, perm, ⟨⟨k, hk⟩, rfl, rise1, fun j hj => ?_, ?_, ?_, rfl, rfl, fun i h x j he hp => ?_⟩⟩
  · obtain ⟨⟨j', i'⟩, hp, rfl⟩ := List.mem_map.mp hj
    have := (Array.getElem?_eq_some_iff.mp ((hlive _ _).mp hp)).1
    rw [O.size] at this
    show j' ≤ mask
    omega
  · rw [hsz]
    show (live.map (·.1)).toArray.size = _
    rw [List.size_toArray, List.length_map, ← List.length_map (f := (·.2)), perm.length_eq, List.length_range]
  · rw [hsz]; exact hn
  · show Reach mask (· ∈ live.map (·.1)) h j
    have hp' : (live.map (·.1))[i]? = some j := by
      have hp0 : ((live.map (·.1)).toArray)[i]? = some j := hp
      rwa [List.getElem?_toArray] at hp0
    rw [← Array.getElem?_toList, Array.toList_filterMap, filterMap_at _ hsome] at he
    rw [List.getElem?_map] at he hp'
    cases hl : live[i]? with
    | none => rw [hl] at hp'; cases hp'
    | some p =>
      rw [hl] at he hp'
      obtain ⟨j', i'⟩ := p
      obtain rfl : j' = j := Option.some.inj hp'
      have hm : (j', i') ∈ live := List.mem_of_getElem? hl
      have he' : es[i']? = some (h, x) := he
      refine (O.way j' i' h ((hlive _ _).mp hm) ?_).mono fun y ⟨i2, hy⟩ => List.mem_map.mpr ⟨(y, i2), (hlive _ _).mpr hy, rfl⟩
      rw [Array.getElem?_toList, Array.getElem?_map, he']; rfl

theorem relaid_is {t : SetTable} {es : Array (Int × Value)} {b : Bool} (T : Tab0 t es b) (hn : es.size < 4096) (hlo : es.size * 5 < t.mask * 3 + 5) (hhi : t.mask * 3 ≤ es.size * 5)
    (hc : t.mask = 7 ∨ t.mask = 31 ∨ t.mask = 127 ∨ t.mask = 511 ∨ t.mask = 2047 ∨ t.mask = 8191) :
    ∃ t' order, t.relaid (es.map (·.1)) (SetTable.grown es.size) = some (t', order) ∧ SetTable.sizeAbove (SetTable.grown es.size) ≤ 32768 ∧ coversAll order es.size = true ∧ (order.filterMap (es[·]?)).size = es.size ∧
      (order.filterMap (es[·]?)).toList.Perm es.toList ∧ Tab t' (order.filterMap (es[·]?)) b := by
  obtain ⟨k, hk, hlt, h8⟩ : ∃ k, SetTable.sizeAbove (SetTable.grown es.size) = 2 ^ k ∧ es.size * 4 < 2 ^ k ∧ (2 ^ k = 32 ∨ 2 ^ k = 128 ∨ 2 ^ k = 512 ∨ 2 ^ k = 2048 ∨ 2 ^ k = 8192) := by
    rcases hc with c | c | c | c | c | c <;> rw [c] at hlo hhi
    · rw [show es.size = 5 by omega]; exact ⟨5, by decide +kernel, by decide, by decide⟩
    · rw [show es.size = 19 by omega]; exact ⟨7, by decide +kernel, by decide, by decide⟩
    · rw [show es.size = 77 by omega]; exact ⟨9, by decide +kernel, by decide, by decide⟩
    · rw [show es.size = 307 by omega]; exact ⟨11, by decide +kernel, by decide, by decide⟩
    · rw [show es.size = 1229 by omega]; exact ⟨13, by decide +kernel, by decide, by decide⟩
    · omega
  obtain ⟨t', order, h1, h2, h3, h4⟩ := laid_is (mask := 2 ^ k - 1) (k := k) (by omega) t.finger (t.movedTo (2 ^ k - 1)) b es (by omega)
  have hsz : (order.filterMap (es[·]?)).size = es.size := by
    rw [← Array.length_toList, Array.toList_filterMap, (h3.filterMap _).length_eq, filterMap_getElem?_range, Array.length_toList]
  refine ⟨t', order, ?_, ?_, List.isPerm_iff.mpr h3, hsz, ?_, ⟨h4, ?_, ?_⟩⟩
  · unfold SetTable.relaid
    rw [hk, T.plain, T.led]; exact h1
  · rw [hk]; omega
  · rw [Array.toList_filterMap]
    exact (h3.filterMap _).trans (by rw [filterMap_getElem?_range])
  · rw [hsz, h2]; omega
  · rw [h2]; omega
end L2

namespace L2
open PySem
set_option autoImplicit false

def setObj (es : List (Int × Value)) (ep : Nat) (t : SetTable) : Obj := { cls := .type "set", dict := none, data := .set es.toArray ep t, slots := #[] }
def SetAt (w : World) (h : Heap) (a : Addr) (es : List (Int × Value)) : Prop :=
  ∃ ep t, h.get? a = some (setObj es ep t) ∧ Tab t es.toArray (!w.params.followText "set-order") ∧ es.length < 4096

theorem layNew_is {t : SetTable} {es : Array (Int × Value)} {b : Bool} (T : Tab t es b) (h : Int) (x : Value) :
    ∃ es' t', layNew t es h x = (es', t', false, false) ∧ Tab0 t' es' b ∧ es'.toList.Perm ((h, x) :: es.toList) ∧ t'.mask = t.mask ∧ es'.size = es.size + 1 := by
  obtain ⟨j, hf, hj, hn, R⟩ := T.toTab0.free h
  have hr : es.size + 1 ≤ t.mask := by have := T.wide; have := T.chain; omega
  obtain ⟨e2, T1⟩ := T.toTab0.put (x := x) hj hn R hr
  refine ⟨SetTable.insertAt es (SetTable.below t.place j) (h, x), (t.put j).1, ?_, T1, ?_, rfl, ?_⟩
  · unfold layNew
    rw [hf]
    dsimp only
    rw [e2]
    unfold SetTable.orStandIn
    rw [T1.fits]
    rfl
  · refine (SetTable.insertAt_perm _ _ _).trans ?_
    rw [Array.toList_push]; exact List.perm_append_singleton _ _
  · rw [← Array.length_toList, (SetTable.insertAt_perm _ _ _).length_eq]; simp

theorem tooFull_is {t : SetTable} {es : Array (Int × Value)} {b : Bool} (T : Tab0 t es b) : t.tooFull = decide (t.mask * 3 ≤ es.size * 5) := by
  unfold SetTable.tooFull; rw [T.fill]

theorem relayAll_is {t : SetTable} {es : Array (Int × Value)} {b : Bool} (T : Tab0 t es b) (hn : es.size < 4096) (hlo : es.size * 5 < t.mask * 3 + 5) (hhi : t.mask * 3 ≤ es.size * 5)
    (hc : t.mask = 7 ∨ t.mask = 31 ∨ t.mask = 127 ∨ t.mask = 511 ∨ t.mask = 2047 ∨ t.mask = 8191) :
    ∃ es' t', relayAll t es (SetTable.grown es.size) = (es', t', false) ∧ Tab t' es' b ∧ es'.toList.Perm es.toList ∧ es'.size = es.size := by
  obtain ⟨t', order, h1, _, h2, h3, h4, h5⟩ := relaid_is T hn hlo hhi hc
  refine ⟨_, t', ?_, h5, h4, h3⟩
  unfold relayAll
  rw [h1]
  dsimp only
  rw [h2, h5.toTab0.fits]
  rfl

section
variable {P : Program} {w : World} {A : Around} {E : Value → Shared → Prop} {s : Shared}

theorem putSet_obj {es es' : List (Int × Value)} {ep : Nat} {t t' : SetTable} : Obj.putSet es'.toArray t' (setObj es ep t) = setObj es' (ep + 1) t' := rfl

theorem SetAt.stored {h : Heap} {a : Addr} {es es' : List (Int × Value)} {ep : Nat} {t t' : SetTable} (ho : h.get? a = some (setObj es ep t)) :
    (h.update a (Obj.putSet es'.toArray t')).get? a = some (setObj es' (ep + 1) t') := by
  have := Heap.get?_update_self (Obj.putSet es'.toArray t') ho (by rw [putSet_obj]; rfl)
  rwa [putSet_obj] at this

theorem add_tail {g : Bool → Sem Unit} (hg : ∀ (s₁ : Shared) (Q' : Unit → Shared → Prop), Q' () s₁ → wpAny (model P w) A (g false) Q' E s₁)
    {a : Addr} {es : List (Int × Value)} {ep : Nat} {t : SetTable} (ho : s.heap.get? a = some (setObj es ep t)) {b : Bool}
    {es1 : Array (Int × Value)} {t1 : SetTable} (T : Tab0 t1 es1 b) (hb : b = !w.params.followText "set-order") (hn : es1.size < 4096) (hlo : es1.size * 5 < t1.mask * 3 + 5)
    (hc : t1.mask = 7 ∨ t1.mask = 31 ∨ t1.mask = 127 ∨ t1.mask = 511 ∨ t1.mask = 2047 ∨ t1.mask = 8191) {R : Option Bool → Shared → Prop}
    (h : ∀ h' es', Heap.SameBut a s.heap h' → SetAt w h' a es' → es'.Perm es1.toList → R (some true) { s with heap := h' }) :
    wpAny (model P w) A (do
        storeSet a es1 t1
        if (!false && t1.tooFull) = true then do
            g (relayAll t1 es1 (SetTable.grown es1.size)).2.2
            storeSet a (relayAll t1 es1 (SetTable.grown es1.size)).1 (relayAll t1 es1 (SetTable.grown es1.size)).2.1
            pure (some true)
          else pure (some true)) R E s := by
  have hz1 : es1.size ≤ sizeLine := by rw [sizeLine_eq]; omega
  refine wpAny_bind (wpAny_storeSet_of ho rfl ?_ hz1)
  have ho1 : (s.heap.update a (Obj.putSet es1 t1)).get? a = some (setObj es1.toList (ep + 1) t1) := SetAt.stored (es' := es1.toList) ho
  have sb1 := Heap.SameBut.update s.heap a (Obj.putSet es1 t1)
  rw [tooFull_is T]
  by_cases q : t1.mask * 3 ≤ es1.size * 5
  · rw [if_pos (by simpa using q)]
    obtain ⟨es2, t2, e2, T2, p2, z2⟩ := relayAll_is T hn hlo q hc
    rw [e2]
    refine wpAny_bind (hg _ _ ?_)
    refine wpAny_bind (wpAny_storeSet_of ho1 rfl ?_ (by rw [z2]; exact hz1))
    refine wpAny_pure (h _ es2.toList (sb1.trans (Heap.SameBut.update _ a _)) ⟨_, t2, SetAt.stored (es' := es2.toList) ho1, ?_, ?_⟩ p2)
    · subst hb; exact T2
    · rw [Array.length_toList, z2]; exact hn
  · rw [if_neg (by simpa using q)]
    refine wpAny_pure (h _ es1.toList sb1 ⟨_, t1, ho1, ?_, ?_⟩ (.refl _))
    · subst hb
      have hz2 : es1.toList.toArray.size = es1.size := by simp
      exact ⟨T, by omega, hc⟩
    · rw [Array.length_toList]; exact hn

theorem add_int {a : Addr} {es : List (Int × Value)} {i : Int} {tk : Tok} {Q : Bool → Shared → Prop} (hS : SetAt w s.heap a es) (hi : ∀ e ∈ es, ∃ j u, e = (hashInt j, Value.int j u)) (room : es.length + 1 < 4096)
    (h1 : (∃ u, (hashInt i, Value.int i u) ∈ es) → Q false { s with toks := s.toks + 1 })
    (h2 : (∀ u, (hashInt i, Value.int i u) ∉ es) → ∀ h' es', Heap.SameBut a s.heap h' → SetAt w h' a es' → es'.Perm ((hashInt i, Value.int i tk) :: es) → Q true { s with heap := h', toks := s.toks + 1 }) :
    wpAny (model P w) A (setAdd a (.int i tk)) Q E s := by
  obtain ⟨ep, t, ho, T, hn⟩ := hS
  have hel : ElemsOf (intKind P w) es := fun e he => by
    obtain ⟨j, u, rfl⟩ := hi e he
    exact ⟨⟨j, intKind_is P w j u, rfl⟩, rfl⟩
  have hel' : ElemsOf (intKind P w) es.toArray.toList := hel
  unfold setAdd
  refine wpAny_holding (wpAny_bind ((intKind P w).pyHash (intKind_is P w i tk) ?_))
  have hof : t.fits es.toArray.size = true := T.toTab0.fits
  unfold setAddHashed setAddHashedIn
  refine wpAny_holding (wpAny_bind (wpAny_setState_of ho rfl hof ?_))
  dsimp only
  rw [byScan_of (knd := intKind P w) rfl (by show es.toArray.size < 4096; simpa using hn) hel']
  simp only [↓reduceIte]
  unfold setAddByScan
  refine wpAny_bind ?_
  refine wpAny_bind (wpAny_rule ?_)
  refine wpAny_bind (wpAny_setScan_of (intKind_is P w i tk) ho rfl hof hel' ?_)
  have hmem : ∀ e ∈ es, (intKind P w).is i e.2 = true ↔ ∃ u, e = (hashInt i, Value.int i u) := fun e he => by
    obtain ⟨j, u, rfl⟩ := hi e he
    constructor
    · intro q
      have : i = j := (intKind P w).inj _ _ _ q (intKind_is P w j u)
      subst this; exact ⟨u, rfl⟩
    · rintro ⟨u', e'⟩; rw [e']; exact intKind_is P w i u'
  cases hr : List.findIdx? (fun e => (intKind P w).is i e.2) es.toArray.toList with
  | some j =>
    dsimp only
    obtain ⟨hj, hpj, _⟩ := List.findIdx?_eq_some_iff_getElem.mp hr
    refine wpAny_pure (wpAny_pure ?_)
    have hin : es[j] ∈ es := List.getElem_mem hj
    obtain ⟨u, e⟩ := (hmem es[j] hin).mp hpj
    exact h1 ⟨u, e ▸ hin⟩
  | none =>
    dsimp only
    have hno : ∀ u, (hashInt i, Value.int i u) ∉ es := fun u hu => by
      have := List.findIdx?_eq_none_iff.mp hr _ hu
      rw [intKind_is P w i u] at this; cases this
    obtain ⟨es1, t1, eL, T1, p1, m1, z1⟩ := layNew_is T ((intKind P w).hash i) (.int i tk)
    rw [eL]
    dsimp only
    refine wpAny_bind (wpAny_pure ?_)
    rw [T1.plain]
    simp only [↓reduceIte]
    refine wpAny_bind ?_
    rw [hashByValue_scannable 8 rfl]
    refine wpAny_pure ?_
    have hz : es.toArray.size = es.length := by simp
    rw [if_pos (show plainKind (Value.int i tk) = true from rfl)]
    refine add_tail (s := { s with toks := s.toks + 1 }) ?_ ho T1 rfl (by omega) (by have := T.wide; omega) (m1 ▸ T.chain) fun h' es' sb S' p' => ?_
    · intro s₁ Q' hq; exact wpAny_pure hq
    · exact wpAny_pure (h2 hno h' es' sb S' (p'.trans p1))
end
end L2

namespace L2
open PySem
set_option autoImplicit false

theorem first_gap {α : Type} {l u v u' v' : List α} {j j0 : α} {F : α → Prop} (e : l = u ++ j :: v) (e' : l = u' ++ j0 :: v') (hu : ∀ x ∈ u', F x) (h0 : F j0) (hj : ¬ F j) : j0 ∈ u := by
  rw [e] at e'
  rcases List.append_eq_append_iff.mp e' with ⟨as, h1, h2⟩ | ⟨bs, h1, h2⟩
  · cases as with
    | nil => cases h2; exact absurd h0 hj
    | cons a as =>
      cases h2
      exact absurd (hu j (by rw [h1]; simp)) hj
  · cases bs with
    | nil => cases h2; exact absurd h0 hj
    | cons b bs => cases h2; rw [h1]; simp

structure SetFit (P : Program) (w : World) {K : Type} [DecidableEq K] (HK : HeapKind P w K) : Prop where
  byv : ∀ {A : Around} {E : Value → Shared → Prop} {s : Shared} {k : K} {a : Addr} {Q : Bool → Shared → Prop}, HK.is s.heap k a → Q true s → wpAny (model P w) A (hashByValue 8 (.ref a)) Q E s
  cls : ∀ {A : Around} {E : Value → Shared → Prop} {s : Shared} {k : K} {a : Addr} {Q : Bool → Shared → Prop}, HK.is s.heap k a → Q false s → wpAny (model P w) A (ofAClassStatement 8 (.ref a)) Q E s
  keep : ∀ {h h' : Heap} {k : K} {a d : Addr} {es : List (Int × Value)} {ep : Nat} {t : SetTable}, HK.is h k a → h.get? d = some (setObj es ep t) → Heap.SameBut d h h' → HK.is h' k a

section
variable {P : Program} {w : World} {K : Type} [DecidableEq K] {HK : HeapKind P w K} {A : Around} {E : Value → Shared → Prop} {s : Shared}

theorem not_seen (F : SetFit P w HK) {x : Addr} {k : K} (hx : HK.is s.heap k x) {ys : List Value} (hy : ∀ y ∈ ys, ∃ k' b, y = Value.ref b ∧ HK.is s.heap k' b) {Q : Bool → Shared → Prop} (h : Q false s) :
    wpAny (model P w) A (searchCouldBeSeen (.ref x) ys) Q E s := by
  unfold searchCouldBeSeen
  refine wpAny_bind ?_
  refine wpAny_forIn_list _ (fun rest r s' => r.1 = none ∧ s' = s ∧ ∀ y ∈ rest, ∃ k' b, y = Value.ref b ∧ HK.is s.heap k' b) _ ?_ ?_ _ _ ⟨rfl, rfl, hy⟩
  · rintro y rest r s' ⟨hr, rfl, hall⟩
    obtain ⟨k', b, rfl, hb⟩ := hall y List.mem_cons_self
    have hall' : ∀ z ∈ rest, ∃ k' b, z = Value.ref b ∧ HK.is s'.heap k' b := fun z hz => hall z (List.mem_cons_of_mem _ hz)
    dsimp only
    refine wpAny_ite ?_
    split
    · exact wpAny_pure ⟨rfl, rfl, hall'⟩
    · refine wpAny_bind (HK.quiet hx ?_)
      simp only [Bool.not_true, Bool.false_eq_true, if_false]
      refine wpAny_bind (HK.quiet hb ?_)
      simp only [Bool.not_true, Bool.false_eq_true, if_false]
      refine wpAny_bind (F.cls hx ?_)
      simp only [Bool.false_eq_true, if_false]
      refine wpAny_bind (F.cls hb ?_)
      simp only [Bool.false_eq_true, if_false]
      exact wpAny_pure ⟨rfl, rfl, hall'⟩
  · rintro ⟨r1, r2⟩ s' ⟨hr, rfl, _⟩
    simp only at hr
    subst hr
    exact wpAny_pure h

def ElsOf (HK : HeapKind P w K) (h : Heap) (es : List (Int × Value)) : Prop := ∀ e ∈ es, ∃ k y, e = (HK.hash k, Value.ref y) ∧ HK.is h k y
def HasKey (HK : HeapKind P w K) (h : Heap) (es : List (Int × Value)) (k : K) : Prop := ∃ y, (HK.hash k, Value.ref y) ∈ es ∧ HK.is h k y

theorem Tab.odd {t : SetTable} {es : Array (Int × Value)} {b : Bool} (T : Tab t es b) : t.gaveWay = false := by
  unfold SetTable.gaveWay
  rcases T.chain with c | c | c | c | c | c <;> rw [c] <;> rfl

theorem search_from (F : SetFit P w HK) {a x : Addr} {es : List (Int × Value)} {ep : Nat} {t : SetTable} {b : Bool} {k : K} {adding : Bool} (ho : s.heap.get? a = some (setObj es ep t)) (T : Tab t es.toArray b)
    (hel : ElsOf HK s.heap es) (hx : HK.is s.heap k x) (hroom : HK.room A) {Q : SetFound → Shared → Prop}
    (h1 : HasKey HK s.heap es k → ∀ i, Q (.there i) s) (h2 : ¬ HasKey HK s.heap es k → ∀ j, j ≤ t.mask → j ∉ t.place.toList → Reach t.mask (· ∈ t.place.toList) (HK.hash k) j → Q (.free j false) s) :
    ∀ (fuel n : Nat) (stand : Option SetTable.Probe) (pre : List Nat), (stand.getD (t.probeStart (HK.hash k))).dummy = none →
      trail t.mask (HK.hash k) = pre ++ ahead t.mask n (stand.getD (t.probeStart (HK.hash k))) → (ahead t.mask n (stand.getD (t.probeStart (HK.hash k)))).length < fuel →
      (∀ j ∈ pre, j ∈ t.place.toList ∧ ∀ y, HK.is s.heap k y → es[SetTable.below t.place j]? ≠ some (HK.hash k, Value.ref y)) →
      wpAny (model P w) A (setSearchFrom a (.ref x) (HK.hash k) adding fuel stand) Q E s
  | 0, _, _, _, _, _, hf, _ => absurd hf (Nat.not_lt_zero _)
  | fuel + 1, n, stand, pre, hd, htr, hf, hpre => by
    have hof : t.fits es.toArray.size = true := T.toTab0.fits
    unfold setSearchFrom
    refine wpAny_bind (wpAny_setState_of ho rfl hof ?_)
    dsimp only
    rw [T.odd]
    simp only [Bool.false_eq_true, if_false]
    have hgap : ∃ j ∈ ahead t.mask n (stand.getD (t.probeStart (HK.hash k))), j ∉ t.place.toList := by
      obtain ⟨j, hj, hn⟩ := T.toTab0.gap_trail (HK.hash k)
      rw [htr] at hj
      rcases List.mem_append.mp hj with q | q
      · exact absurd (hpre j q).1 hn
      · exact ⟨j, q, hn⟩
    have hlen : (ahead t.mask n (stand.getD (t.probeStart (HK.hash k)))).length ≤ 10 * SetTable.turns t.mask := by
      have := trail_length t.mask (HK.hash k)
      rw [htr, List.length_append] at this
      omega
    obtain ⟨pre2, j, post, e1, e2, e3⟩ := T.toTab0.go (fun i => ((es.toArray[i]?).map (·.1)).getD 0) (HK.hash k) (10 * SetTable.turns t.mask) n _ hd hlen hgap
    have hpre2 : ∀ j ∈ pre ++ pre2, j ∈ t.place.toList ∧ ∀ y, HK.is s.heap k y → es[SetTable.below t.place j]? ≠ some (HK.hash k, Value.ref y) := fun j hj => by
      rcases List.mem_append.mp hj with q | q
      · exact hpre j q
      · refine ⟨(e2 j q).1, fun y hy e => (e2 j q).2 ?_⟩
        rw [List.getElem?_toArray, e]; rfl
    rcases e3 with ⟨hn, eg⟩ | ⟨hin, hh, n', q, eg, hqd, hq⟩
    · have eg' : SetTable.probe t (fun i => ((es.toArray[i]?).map (·.1)).getD 0) (HK.hash k) (stand.getD (t.probeStart (HK.hash k))) = some (.empty j none) := eg
      generalize hm : SetTable.probe t _ (HK.hash k) (stand.getD (t.probeStart (HK.hash k))) = met
      have hm2 : met = some (.empty j none) := by rw [← hm]; exact eg'
      subst hm2
      dsimp only
      refine wpAny_pure (h2 ?_ j (trail_le (h := HK.hash k) (by rw [htr, e1]; simp)) hn ⟨pre ++ pre2, post, by rw [htr, e1, List.append_assoc], fun y hy => (hpre2 y hy).1⟩)
      rintro ⟨y, hy, iy⟩
      obtain ⟨i, hi⟩ := List.getElem?_of_mem hy
      have hil : i < t.place.size := by
        have := (List.getElem?_eq_some_iff.mp hi).1
        rw [T.size]; simpa using this
      have hj0 := Array.getElem?_eq_getElem hil
      obtain ⟨p', q', ew, fw⟩ := T.way i (HK.hash k) (.ref y) _ (by rw [List.getElem?_toArray]; exact hi) hj0
      have hmem : t.place[i] ∈ t.place.toList := Array.mem_toList_iff.mpr (Array.getElem_mem hil)
      have := first_gap (F := (· ∈ t.place.toList)) (u := pre ++ pre2) (by rw [htr, e1, List.append_assoc]) ew fw hmem hn
      refine (hpre2 _ this).2 y iy ?_
      rw [below_at T.rise hj0]; exact hi
    · have eg' : SetTable.probe t (fun i => ((es.toArray[i]?).map (·.1)).getD 0) (HK.hash k) (stand.getD (t.probeStart (HK.hash k))) = some (.candidate j (SetTable.below t.place j) q) := eg
      generalize hm : SetTable.probe t _ (HK.hash k) (stand.getD (t.probeStart (HK.hash k))) = met
      have hm2 : met = some (.candidate j (SetTable.below t.place j) q) := by rw [← hm]; exact eg'
      subst hm2
      dsimp only
      have hb := (below_mem T.rise j).mpr hin
      have hbl : SetTable.below t.place j < es.length := by
        have := (Array.getElem?_eq_some_iff.mp hb).1
        rw [T.size] at this; simpa using this
      obtain ⟨k', y, ey, iy⟩ := hel es[SetTable.below t.place j] (List.getElem_mem hbl)
      have eb : es[SetTable.below t.place j]? = some (HK.hash k', Value.ref y) := by rw [List.getElem?_eq_getElem hbl, ey]
      have ehash : HK.hash k' = HK.hash k := by
        have := hh
        rw [List.getElem?_toArray, eb] at this; exact this
      have hlist : ∀ z ∈ (es.toArray.filter fun e => e.1 == HK.hash k).toList.map (·.2), ∃ k2 y2, z = Value.ref y2 ∧ HK.is s.heap k2 y2 := fun z hz => by
        obtain ⟨e, he, rfl⟩ := List.mem_map.mp hz
        have he' : e ∈ es := by
          have := Array.mem_toList_iff.mp he
          have := (Array.mem_filter.mp this).1
          simpa using this
        obtain ⟨k2, y2, rfl, i2⟩ := hel e he'
        exact ⟨k2, y2, rfl, i2⟩
      have hsame : t.sameMemory t.moves t.mask = some true := by unfold SetTable.sameMemory; rw [if_pos (beq_self_eq_true _)]
      have hslot : t.slot j = .live (SetTable.below t.place j) := by rw [T.toTab0.slot, if_pos hin]
      rw [show es.toArray[SetTable.below t.place j]? = some (HK.hash k', Value.ref y) by rw [List.getElem?_toArray]; exact eb]
      dsimp only
      refine wpAny_ite ?_
      split
      case' isTrue =>
        refine wpAny_bind (not_seen F hx hlist ?_)
        rw [if_neg Bool.false_ne_true]
      all_goals
        refine wpAny_bind (wpAny_holding (HK.eqBool hroom iy hx ?_))
        refine wpAny_bind (wpAny_setState_of ho rfl hof ?_)
        dsimp only
        rw [hsame]
        dsimp only
        rw [if_pos rfl, hslot]
        dsimp only
        rw [show es.toArray[SetTable.below t.place j]? = some (HK.hash k', Value.ref y) by rw [List.getElem?_toArray]; exact eb]
        dsimp only
        by_cases hkk : k' = k
        · subst hkk
          rw [decide_eq_true rfl]
          have hk1 : HasKey HK s.heap es k' := ⟨y, List.mem_of_getElem? eb, iy⟩
          cases adding with
          | true => exact wpAny_pure (h1 hk1 none)
          | false =>
            simp only [Bool.false_and, Bool.false_eq_true, if_false]
            refine wpAny_bind (wpAny_isSame_ref_self ?_)
            refine wpAny_bind (wpAny_pure ?_)
            rw [if_pos rfl]
            exact wpAny_pure (h1 hk1 _)
        · rw [decide_eq_false hkk]
          simp only [Bool.and_false, Bool.false_eq_true, if_false]
          refine wpAny_bind (wpAny_isSame_ref_self ?_)
          refine wpAny_bind (wpAny_pure ?_)
          rw [if_pos rfl]
          dsimp only
          refine search_from F ho T hel hx hroom h1 h2 fuel n' (some q) (pre ++ pre2 ++ [j]) hqd ?_ ?_ ?_
          · show _ = _ ++ ahead t.mask n' q
            rw [hq, htr, e1]; simp
          · show (ahead t.mask n' q).length < fuel
            rw [hq]
            rw [e1, List.length_append, List.length_cons] at hf
            omega
          · intro z hz
            rcases List.mem_append.mp hz with hz | hz
            · exact hpre2 z hz
            · rw [List.mem_singleton] at hz
              subst hz
              refine ⟨hin, fun y' hy' e => hkk ?_⟩
              rw [eb] at e
              injection e with e
              injection e with _ e
              injection e with e
              subst e
              exact HK.inj iy hy'

theorem search_at (F : SetFit P w HK) {a x : Addr} {es : List (Int × Value)} {ep : Nat} {t : SetTable} {b : Bool} {k : K} {adding : Bool} (ho : s.heap.get? a = some (setObj es ep t)) (T : Tab t es.toArray b)
    (hel : ElsOf HK s.heap es) (hx : HK.is s.heap k x) (hroom : HK.room A) {Q : SetFound → Shared → Prop}
    (h1 : HasKey HK s.heap es k → ∀ i, Q (.there i) s) (h2 : ¬ HasKey HK s.heap es k → ∀ j, j ≤ t.mask → j ∉ t.place.toList → Reach t.mask (· ∈ t.place.toList) (HK.hash k) j → Q (.free j false) s) :
    wpAny (model P w) A (setSearch a (.ref x) (HK.hash k) adding) Q E s := by
  unfold setSearch
  refine search_from F ho T hel hx hroom h1 h2 100000 (t.mask + 14) none [] rfl ?_ ?_ fun j hj => nomatch hj
  · show _ = [] ++ ahead t.mask (t.mask + 14) (t.probeStart (HK.hash k))
    rw [ahead_start]; rfl
  · show (ahead t.mask (t.mask + 14) (t.probeStart (HK.hash k))).length < _
    rw [ahead_start]
    have := trail_length t.mask (HK.hash k)
    unfold SetTable.turns at this
    have := T.chain
    omega

theorem add_ref (F : SetFit P w HK) {a x : Addr} {es : List (Int × Value)} {k : K} {Q : Bool → Shared → Prop} (hS : SetAt w s.heap a es) (hel : ElsOf HK s.heap es) (hx : HK.is s.heap k x) (hroom : HK.room A) (room : es.length + 1 < 4096)
    (hroom2 : HK.room A)
    (h1 : HasKey HK s.heap es k → ∀ tk, Q false { s with toks := tk })
    (h2 : ¬ HasKey HK s.heap es k → ∀ h' es' tk, Heap.SameBut a s.heap h' → SetAt w h' a es' → es'.Perm ((HK.hash k, Value.ref x) :: es) → Q true { s with heap := h', toks := tk }) :
    wpAny (model P w) A (setAdd a (.ref x)) Q E s := by
  obtain ⟨ep, t, ho, T, hn⟩ := hS
  unfold setAdd
  refine wpAny_holding (wpAny_bind (HK.pyHash hroom hx ?_))
  have hof : t.fits es.toArray.size = true := T.toTab0.fits
  have hz : es.toArray.size = es.length := by simp
  unfold setAddHashed setAddHashedIn
  refine wpAny_holding (wpAny_bind (wpAny_setState_of ho rfl hof ?_))
  dsimp only
  rw [if_neg (show ¬ (byScan (.ref x) es.toArray = true) from by simp [byScan, Value.scannable])]
  refine wpAny_bind (search_at F (s := { s with toks := s.toks + HK.draws k }) ho T hel hx hroom2 (fun hk i => ?_) fun hk j hj hjn R => ?_)
  · exact wpAny_pure (h1 hk _)
  · dsimp only
    refine wpAny_bind (wpAny_setState_of ho rfl hof ?_)
    obtain ⟨e2, T1⟩ := T.toTab0.put (x := Value.ref x) hj hjn R (by have := T.wide; have := T.chain; omega)
    dsimp only
    rw [e2, T1.plain]
    simp only [↓reduceIte]
    refine wpAny_bind (F.byv (s := { s with toks := s.toks + HK.draws k }) hx ?_)
    simp only [↓reduceIte]
    have p1 : (SetTable.insertAt es.toArray (SetTable.below t.place j) (HK.hash k, Value.ref x)).toList.Perm ((HK.hash k, Value.ref x) :: es) := by
      refine (SetTable.insertAt_perm _ _ _).trans ?_
      rw [Array.toList_push]; exact List.perm_append_singleton _ _
    generalize hE : SetTable.insertAt es.toArray (SetTable.below t.place j) (HK.hash k, Value.ref x) = es1 at T1 p1 ⊢
    have z1 : es1.size = es.length + 1 := by rw [← Array.length_toList, p1.length_eq]; rfl
    generalize hT : (t.put j).1 = t1 at T1 ⊢
    have m1 : t1.mask = t.mask := by rw [← hT]; rfl
    have hz1 : es1.size ≤ sizeLine := by rw [sizeLine_eq]; omega
    refine wpAny_bind (wpAny_storeSet_of (s := { s with toks := s.toks + HK.draws k }) ho rfl ?_ hz1)
    have ho1 : (s.heap.update a (Obj.putSet es1 t1)).get? a = some (setObj es1.toList (ep + 1) t1) := SetAt.stored (es' := es1.toList) ho
    have sb1 := Heap.SameBut.update s.heap a (Obj.putSet es1 t1)
    rw [tooFull_is T1]
    by_cases q : t1.mask * 3 ≤ es1.size * 5
    · rw [if_pos (by simpa using q)]
      obtain ⟨t2, order, r1, r2, r3, r4, r5, T2⟩ := relaid_is T1 (by omega) (by have := T.wide; omega) q (m1 ▸ T.chain)
      refine wpAny_bind ?_
      unfold setRelay
      refine wpAny_bind (wpAny_setState_of ho1 rfl (show t1.fits es1.toList.toArray.size = true from T1.fits) ?_)
      dsimp only
      rw [hz, ← z1, if_neg (by rw [sizeLine_eq]; omega)]
      rw [show (es1.toList.toArray) = es1 from rfl, r1]
      refine wpAny_bind ?_
      show wpAny _ _ (if (order.filterMap (es1[·]?)).size != es1.size then _ else _) _ _ _
      rw [if_neg (by rw [r4]; simp)]
      refine wpAny_pure ?_
      refine wpAny_storeSet_of ho1 rfl ?_ (by rw [r4]; exact hz1)
      refine wpAny_pure (h2 hk _ (order.filterMap (es1[·]?)).toList _ (sb1.trans (Heap.SameBut.update _ a _)) ⟨_, t2, SetAt.stored (es' := (order.filterMap (es1[·]?)).toList) ho1, T2, ?_⟩ (r5.trans p1))
      rw [Array.length_toList, r4]; omega
    · rw [if_neg (by simpa using q)]
      refine wpAny_pure (h2 hk _ es1.toList _ sb1 ⟨_, t1, ho1, ⟨T1, ?_, m1 ▸ T.chain⟩, ?_⟩ p1)
      · have hz2 : es1.toList.toArray.size = es1.size := by simp
        omega
      · rw [Array.length_toList]; omega
end
end L2

namespace L2
open PySem
set_option autoImplicit false

theorem eraseIdx_perm {α : Type} {l : List α} {i : Nat} {x : α} (h : l[i]? = some x) : (x :: l.eraseIdx i).Perm l := by
  rw [List.eraseIdx_eq_take_drop_succ]
  obtain ⟨hi, rfl⟩ := List.getElem?_eq_some_iff.mp h
  conv => rhs; rw [← List.take_append_drop i l, List.drop_eq_getElem_cons hi]
  exact List.perm_middle.symm
theorem pickOrder_go {α : Type} (next : Nat → Nat) : ∀ (fuel k : Nat) (left : List α) (out : Array α), left.length = fuel → (pickOrder.go next fuel k left out).toList.Perm (out.toList ++ left)
  | 0, k, left, out, h => by
    have : left = [] := List.length_eq_zero_iff.mp h
    subst this
    show out.toList.Perm (out.toList ++ [])
    rw [List.append_nil]
  | fuel + 1, k, left, out, h => by
    unfold pickOrder.go
    have hl : next k % left.length < left.length := Nat.mod_lt _ (by omega)
    have e : left[next k % left.length]? = some left[next k % left.length] := List.getElem?_eq_getElem hl
    rw [e]
    dsimp only
    refine (pickOrder_go next fuel (k + 1) _ _ (by rw [List.length_eraseIdx, if_pos hl]; omega)).trans ?_
    rw [Array.toList_push, List.append_assoc]
    exact List.Perm.append_left _ (eraseIdx_perm e)
theorem pickOrder_perm {α : Type} (next : Nat → Nat) (xs : Array α) : (pickOrder next xs).toList.Perm xs.toList := by
  exact pickOrder_go next xs.size 0 xs.toList #[] (by simp)

def walkOf (w : World) (a : Addr) (ep : Nat) (es : List (Int × Value)) : List (Int × Value) :=
  if w.params.followText "set-order" = true then (pickOrder (w.params.setOrder a ep) es.toArray).toList else es
theorem walkOf_perm (w : World) (a : Addr) (ep : Nat) (es : List (Int × Value)) : (walkOf w a ep es).Perm es := by
  unfold walkOf
  split
  · exact pickOrder_perm _ _
  · exact .refl _

theorem slot_setiter_next : Slot "set_iterator" "__next__" "set_iterator.__next__" :=
  .of (owner := "set_iterator") (n := "__next__") (by rw [typeLookup_type, builtinLookup_eq_fast]; kernel_rfl) (by decide +kernel) (by decide +kernel) (by decide +kernel)
    (by first | exact .inl (by decide +kernel) | exact .inr (by decide +kernel)) (by rw [isSubtype_type]; kernel_rfl)
theorem entry_setiter_next : entryFor table "set_iterator.__next__" = some Builtin.«set_iterator.__next__» := entryFor_of_tree (by kernel_rfl)
theorem args_setiter_next (a : Value) : argsOk "set_iterator.__next__" ⟨[a], []⟩ := by unfold argsOk; kernel_rfl
theorem entry_set_iter : entryFor table "set.__iter__" = some Builtin.«frozenset.__iter__» :=
  entryFor_alias (id' := "frozenset.__iter__") (by kernel_rfl) rfl (by decide +kernel) (by kernel_rfl)
theorem slot_setiter_iter : Slot "set_iterator" "__iter__" "set_iterator.__iter__" :=
  .of (owner := "set_iterator") (n := "__iter__") (by rw [typeLookup_type, builtinLookup_eq_fast]; kernel_rfl) (by decide +kernel) (by decide +kernel) (by decide +kernel)
    (by first | exact .inl (by decide +kernel) | exact .inr (by decide +kernel)) (by rw [isSubtype_type]; kernel_rfl)
theorem entry_setiter_iter : entryFor table "set_iterator.__iter__" = some Builtin.«dict_keyiterator.__iter__» :=
  entryFor_alias (id' := "dict_keyiterator.__iter__") (by kernel_rfl) rfl (by decide +kernel) (by kernel_rfl)
theorem args_setiter_iter (a : Value) : argsOk "set_iterator.__iter__" ⟨[a], []⟩ := by unfold argsOk; kernel_rfl

def itObj (slot : Nat) (i : Nat) (a : Addr) (n ep : Nat) : Obj := { cls := .type "set_iterator", data := .fields #[.int slot 0, .int i 0, .ref a, .int n 0, .int ep 0] }

section
variable {P : Program} {w : World} {A : Around} {E : Value → Shared → Prop} {s : Shared}

theorem setNext_is {a : Addr} {es : List (Int × Value)} {ep : Nat} {t : SetTable} {slot i : Nat} {Q : Option (Value × Nat) → Shared → Prop} (ho : s.heap.get? a = some (setObj es ep t)) (T : Tab t es.toArray (!w.params.followText "set-order"))
    (hs : w.params.followText "set-order" = false → SetTable.below t.place slot = i)
    (h : match (walkOf w a ep es)[i]? with
      | some e => ∀ slot', (w.params.followText "set-order" = false → SetTable.below t.place slot' = i + 1) → Q (some (e.2, slot')) s
      | none => Q none s) : wpAny (model P w) A (setNext a slot i ep) Q E s := by
  have hof : t.fits es.toArray.size = true := T.toTab0.fits
  unfold setNext
  refine wpAny_bind (wpAny_setState_of ho rfl hof ?_)
  dsimp only
  refine wpAny_bind ?_
  unfold setsByText
  refine wpAny_bind (wpAny_askSetting (wpAny_pure ?_))
  show wpAny (model P w) A (if (w.params.followText "set-order") = true then _ else _) _ _ s
  unfold walkOf at h
  cases hb : w.params.followText "set-order" with
  | true =>
    rw [hb, if_pos rfl] at h
    rw [if_pos rfl]
    rw [if_neg (show ¬ ((ep != ep) = true) from by simp)]
    refine wpAny_bind ?_
    unfold setWalk
    refine wpAny_bind (wpAny_setState_of ho rfl hof ?_)
    dsimp only
    refine wpAny_bind ?_
    unfold setsByText
    refine wpAny_bind (wpAny_askSetting (wpAny_pure ?_))
    show wpAny (model P w) A (if (w.params.followText "set-order") = true then _ else _) _ _ s
    rw [hb, if_pos rfl]
    refine wpAny_bind (wpAny_askSetting (wpAny_pure ?_))
    refine wpAny_pure ?_
    show Q (((pickOrder (w.params.setOrder a ep) es.toArray)[i]?).map fun e => (e.2, slot)) s
    rw [Array.getElem?_toList] at h
    cases hx : (pickOrder (w.params.setOrder a ep) es.toArray)[i]? with
    | none => rw [hx] at h; exact h
    | some e => rw [hx] at h; exact h slot fun x => by cases x
  | false =>
    rw [hb, if_neg Bool.false_ne_true] at h
    rw [if_neg Bool.false_ne_true]
    refine wpAny_ite ?_
    split
    · rename_i q
      exact absurd (show (!t.plain && decide (es.toArray.size > 1)) = true from q) (by rw [T.plain]; simp)
    · refine wpAny_bind ?_
      show wpAny _ _ ((if (!t.led && !es.toArray.isEmpty) = true then unsupported "set:maker-not-led" else pure PUnit.unit) : Sem PUnit) _ _ _
      rw [T.led, hb, if_neg (by simp)]
      refine wpAny_pure ?_
      refine wpAny_pure ?_
      rw [hs hb]
      rw [List.getElem?_toArray]
      cases hx : es[i]? with
      | none => rw [hx] at h; exact h
      | some e =>
        rw [hx] at h
        have hil : i < t.place.size := by
          have := (List.getElem?_eq_some_iff.mp hx).1
          rw [T.size]; simpa using this
        have hp := Array.getElem?_eq_getElem hil
        rw [hp]
        exact h _ fun _ => below_next T.rise hp

theorem itObj_set0 {slot i n ep : Nat} {a : Addr} {x : Nat} : Obj.mapFields (·.setIfInBounds 0 (rawInt x)) (itObj slot i a n ep) = itObj x i a n ep := rfl
theorem itObj_set1 {slot i n ep : Nat} {a : Addr} : Obj.mapFields (·.setIfInBounds 1 (rawInt ((i : Int) + 1))) (itObj slot i a n ep) = itObj slot (i + 1) a n ep := rfl

def SetSt (w : World) (it a : Addr) (es : List (Int × Value)) (ep : Nat) (t : SetTable) (i : Nat) (h : Heap) : Prop :=
  ∃ slot, h.get? it = some (itObj slot i a es.length ep) ∧ h.get? a = some (setObj es ep t) ∧ (w.params.followText "set-order" = false → SetTable.below t.place slot = i)

theorem walks_set (hh : A.handled = none) (it a : Addr) (hne : a ≠ it) (es : List (Int × Value)) (ep : Nat) (t : SetTable) (T : Tab t es.toArray (!w.params.followText "set-order")) :
    Walks P w A it [it, a] [it] es.length (fun i v => ((walkOf w a ep es)[i]?).map (·.2) = some v) (SetSt w it a es ep t) where
  sub := fun b hb => by simp at hb; simp [hb]
  frame := fun i h h' st hk => by
    obtain ⟨slot, h1, h2, h3⟩ := st
    exact ⟨slot, hk it (by simp) _ h1, hk a (by simp) _ h2, h3⟩
  item := fun i s Q E hi st hQ => by
    obtain ⟨slot, h1, h2, h3⟩ := st
    have hof : t.fits es.toArray.size = true := T.toTab0.fits
    have hil : i < (walkOf w a ep es).length := by rw [(walkOf_perm w a ep es).length_eq]; exact hi
    unfold pyNext
    refine wpAny_bind (wpAny_attempt (wpAny_callSpecial?_slot (name := Str.ofString "__next__") ⟨_, h1, rfl⟩ slot_setiter_next
      (wpAny_call_entry slot_setiter_next ⟨_, h1, rfl⟩ entry_setiter_next ?_ (args_setiter_next _))))
    unfold Builtin.«set_iterator.__next__»
    refine wpAny_bind (m := slotArgs "__next__" 0 _) (wpAny_pure ?_)
    refine wpAny_bind (wpAny_fieldsOf h1 rfl ?_)
    show wpAny _ _ (setEntries a >>= _) _ _ s
    refine wpAny_bind (wpAny_setEntries_of h2 rfl hof ?_)
    rw [if_neg (by simp)]
    show wpAny _ _ (setNext a ((slot : Int).toNat) ((i : Int).toNat) ((ep : Int).toNat) >>= _) _ _ s
    rw [Int.toNat_natCast, Int.toNat_natCast, Int.toNat_natCast]
    have hx : (walkOf w a ep es)[i]? = some (walkOf w a ep es)[i] := List.getElem?_eq_getElem hil
    refine wpAny_bind (setNext_is h2 T h3 ?_)
    rw [hx]
    dsimp only
    intro slot' hs'
    refine wpAny_bind (wpAny_setField h1 rfl (by simp) ?_)
    have g1 := Heap.get?_update_self (Obj.mapFields (·.setIfInBounds 0 (rawInt slot'))) h1 rfl
    rw [itObj_set0] at g1
    refine wpAny_bind (wpAny_setField g1 rfl (by simp) ?_)
    have g2 := Heap.get?_update_self (Obj.mapFields (·.setIfInBounds 1 (rawInt ((i : Int) + 1)))) g1 rfl
    rw [itObj_set1] at g2
    refine wpAny_pure ⟨_, rfl, wpAny_pure ?_⟩
    have oth : ∀ b o, b ≠ it → s.heap.get? b = some o → ((s.heap.update it (Obj.mapFields (·.setIfInBounds 0 (rawInt slot')))).update it (Obj.mapFields (·.setIfInBounds 1 (rawInt ((i : Int) + 1))))).get? b = some o :=
      fun b o hb e => (Heap.get?_update_other _ _ (Ne.symm hb)).trans ((Heap.get?_update_other _ _ (Ne.symm hb)).trans e)
    exact hQ _ _ s.toks (by rw [hx]; rfl) ⟨slot', g2, oth a _ hne h2, hs'⟩ (fun b o hb e => oth b o (fun h => hb (by simp [h])) e)
  done := fun s Q E st hQ => by
    obtain ⟨slot, h1, h2, h3⟩ := st
    have hof : t.fits es.toArray.size = true := T.toTab0.fits
    have hx : (walkOf w a ep es)[es.length]? = none := List.getElem?_eq_none (by rw [(walkOf_perm w a ep es).length_eq]; exact Nat.le_refl _)
    unfold pyNext
    refine wpAny_bind (wpAny_attempt (wpAny_callSpecial?_slot (name := Str.ofString "__next__") ⟨_, h1, rfl⟩ slot_setiter_next
      (wpAny_call_entry slot_setiter_next ⟨_, h1, rfl⟩ entry_setiter_next ?_ (args_setiter_next _))))
    unfold Builtin.«set_iterator.__next__»
    refine wpAny_bind (m := slotArgs "__next__" 0 _) (wpAny_pure ?_)
    refine wpAny_bind (wpAny_fieldsOf h1 rfl ?_)
    show wpAny _ _ (setEntries a >>= _) _ _ s
    refine wpAny_bind (wpAny_setEntries_of h2 rfl hof ?_)
    rw [if_neg (by simp)]
    show wpAny _ _ (setNext a ((slot : Int).toNat) ((es.length : Int).toNat) ((ep : Int).toNat) >>= _) _ _ s
    rw [Int.toNat_natCast, Int.toNat_natCast, Int.toNat_natCast]
    refine wpAny_bind (setNext_is h2 T h3 ?_)
    rw [hx]
    dsimp only
    refine wpAny_bind (wpAny_setField h1 rfl (by simp) ?_)
    show wpAny _ _ (newExc (.type "StopIteration") [] >>= _) _ _ _
    refine wpAny_bind ?_
    simp only [newExc, newTuple]
    refine wpAny_bind (wpAny_newObj_type ?_ (by size_fits))
    refine wpAny_bind (m := firstArgMember _ _) (wpAny_of_eq (a := Value.none) (by first | rfl | (simp only [firstArgMember]; rfl)) ?_)
    refine wpAny_newObj_type ?_ (by size_fits)
    simp only [raiseNew]
    refine wpAny_bind (wpAny_handled ?_)
    rw [show A.in1.handled = none from hh]
    refine wpAny_bind (wpAny_pure (wpAny_throw ?_))
    refine wpAny_bind (wpAny_isInstance (T := "StopIteration") (b := true) ⟨_, Heap.get?_push_size _ rfl, rfl⟩ isSubtype_stop ?_)
    refine wpAny_pure (hQ _ s.toks (fun b o hb e => ?_))
    exact (((Heap.SameBut.update ..).extBut.push _).push _) b o (fun h => hb (by simp [h])) e
  self := fun i s Q E st hQ => by
    obtain ⟨slot, h1, _⟩ := st
    refine wpAny_pyIter_slot ⟨_, h1, rfl⟩ slot_setiter_iter (wpAny_call_entry slot_setiter_iter ⟨_, h1, rfl⟩ entry_setiter_iter ?_ (args_setiter_iter _))
    show wpAny _ _ (ret (.ref it)) _ _ s
    exact wpAny_pure ⟨_, rfl, "set_iterator", _, ⟨_, h1, rfl⟩, slot_setiter_next.lookup, hQ⟩

theorem pyIter_set {a : Addr} {es : List (Int × Value)} {ep : Nat} {t : SetTable} {b : Bool} {Q : Value → Shared → Prop} (ho : s.heap.get? a = some (setObj es ep t)) (T : Tab t es.toArray b)
    (hQ : Q (.ref s.heap.objs.size) { s with heap := s.heap.push (itObj 0 0 a es.length ep) }) : wpAny (model P w) A (pyIter (.ref a)) Q E s := by
  have hof : t.fits es.toArray.size = true := T.toTab0.fits
  refine wpAny_pyIter_slot ⟨_, ho, rfl⟩ F.slot_set_iter (wpAny_call_entry F.slot_set_iter ⟨_, ho, rfl⟩ entry_set_iter ?_ (F.args_set_iter_1 _))
  unfold Builtin.«frozenset.__iter__» Builtin.Frozenset.slot0 slotArgs
  simp only [List.isEmpty_nil, Bool.not_true, Bool.false_eq_true, ↓reduceIte, bind_assoc, List.length_nil, bne_self_eq_false]
  unfold Builtin.Frozenset.addrOf Builtin.Frozenset.sizeOf
  refine wpAny_bind (wpAny_pure ?_)
  try dsimp only
  refine wpAny_bind (wpAny_pure ?_)
  refine wpAny_bind (wpAny_bind (wpAny_setEntries_of ho rfl hof (wpAny_pure ?_)))
  refine wpAny_bind ?_
  refine wpAny_bind ?_
  refine wpAny_setState_of ho rfl hof ?_
  dsimp only
  unfold setsByText
  refine wpAny_bind (wpAny_bind (wpAny_askSetting (wpAny_pure ?_)))
  refine wpAny_pure ?_
  show wpAny _ _ (if (!(w.params.followText "set-order") && (!t.plain && decide (es.toArray.size > 1))) = true then _ else _) _ _ _
  rw [T.plain, if_neg (by simp)]
  refine wpAny_bind (wpAny_pure ?_)
  refine wpAny_bind (wpAny_setEpoch_of ho rfl hof ?_)
  refine wpAny_bind (wpAny_newObj_type ?_)
  have hz : es.toArray.size = es.length := by simp
  rw [hz]
  exact wpAny_pure ⟨_, rfl, "set_iterator", _, ⟨_, Heap.get?_push_size _ rfl, rfl⟩, slot_setiter_next.lookup, hQ⟩

set_option maxHeartbeats 1000000 in
theorem collect_set {a : Addr} {es : List (Int × Value)} {ep : Nat} {t : SetTable} {Q : List Value → Shared → Prop} (hh : A.handled = none) (ho : s.heap.get? a = some (setObj es ep t)) (T : Tab t es.toArray (!w.params.followText "set-order")) (hn : es.length < 4096)
    (hQ : ∀ s' vs, (∀ b o, s.heap.get? b = some o → s'.heap.get? b = some o) → s.heap.objs.size ≤ s'.heap.objs.size → s'.gens = s.gens → s'.drawn = s.drawn → s'.os = s.os → vs.Perm (es.map (·.2)) → Q vs s') : wpAny (model P w) A (collect (.ref a)) Q E s := by
  unfold collect
  refine wpAny_bind (wpAny_runValue (codeAny_builtin F.entry_proto_collect ?_))
  rw [Around.under_plainId F.plain_proto_collect _]
  show wpAny _ A.in1 (newList [] >>= fun l => again (.builtin "list.__iadd__" ⟨[l, .ref a], []⟩)) _ _ s
  refine wpAny_bind (wpAny_newObj_type ?_)
  refine wpAny_pure ⟨plainId_quiet F.plain_list_iadd _, codeAny_builtin F.entry_list_iadd ?_⟩
  rw [Around.under_plainId F.plain_list_iadd _]
  show wpAny _ A.in1 (Builtin.List.listExtendWith (.ref s.heap.objs.size) (.ref a) (.ref s.heap.objs.size)) _ _ _
  generalize hH : s.heap.push { cls := .type "list", data := .seq ([] : List Value).toArray } = H
  have hHs : H.objs.size = s.heap.objs.size + 1 := by rw [← hH, Heap.size_push]
  have hS₁ : H.get? s.heap.objs.size = some { cls := .type "list", data := .seq ([] : List Value).toArray } := hH ▸ Heap.get?_push_size _ rfl
  have ho1 : H.get? a = some (setObj es ep t) := hH ▸ Heap.get?_push_of_some _ ho
  have hal : a < s.heap.objs.size := Heap.lt_size ho
  have hlen := F.slot_set_len
  unfold Builtin.List.listExtendWith
  refine wpAny_bind (wpAny_typeOf (T := "set") ⟨_, ho1, rfl⟩ ?_)
  have h1 : Builtin.List.listSameRef (.ref s.heap.objs.size) (.ref a) = false := by simp [Builtin.List.listSameRef, Nat.ne_of_gt hal]
  have h2 : (Value.type "set" == Value.type "list") = false := by decide
  have h3 : (Value.type "set" == Value.type "tuple") = false := by decide
  simp only [h1, h2, h3, Bool.or_false, Bool.false_eq_true, if_false]
  refine wpAny_bind (pyIter_set (s := { s with heap := H }) ho1 T ?_)
  refine wpAny_bind (wpAny_holding ?_)
  have ho2 : (H.push (itObj 0 0 a es.length ep)).get? a = some (setObj es ep t) := Heap.get?_push_of_some _ ho1
  have hS₂ : (H.push (itObj 0 0 a es.length ep)).get? s.heap.objs.size = some { cls := .type "list", data := .seq ([] : List Value).toArray } := Heap.get?_push_of_some _ hS₁
  have hit2 : (H.push (itObj 0 0 a es.length ep)).get? H.objs.size = some (itObj 0 0 a es.length ep) := Heap.get?_push_size _ rfl
  unfold Builtin.List.listLengthHint
  refine wpAny_bind (wpAny_specialOf (T := "set") ⟨_, ho2, rfl⟩ F.slot_set_len.lookup ?_)
  wp_delta
  refine wpAny_bind (wpAny_isInstance (T := "set") (b := true) ⟨_, ho2, rfl⟩ (by rw [isSubtype_type]; kernel_rfl) ?_)
  show wpAny _ A.in1 (typeOf (Value.ref a) >>= _) _ _ _
  refine wpAny_bind (wpAny_typeOf (T := "set") ⟨_, ho2, rfl⟩ ?_)
  refine wpAny_pure ?_
  show wpAny _ A.in1 (rule "list.extend.makes-room" >>= fun _ => Builtin.List.listTouch (.ref s.heap.objs.size) >>= fun _ =>
    again (.builtin "list.extend.loop" ⟨[.ref s.heap.objs.size, .ref H.objs.size, .ref s.heap.objs.size], []⟩)) _ _ _
  refine wpAny_bind (wpAny_rule ?_)
  refine wpAny_bind ?_
  show wpAny _ A.in1 (updateSeq s.heap.objs.size (·.push .none) >>= fun _ => updateSeq s.heap.objs.size (·.pop)) _ _ _
  refine wpAny_bind (wpAny_updateSeq hS₂ rfl ?_)
  have hS₃ := Heap.get?_update_self (Obj.mapSeq (·.push Value.none)) hS₂ rfl
  refine wpAny_updateSeq hS₃ rfl ?_
  have hS₄ := Heap.get?_update_self (Obj.mapSeq (·.pop)) hS₃ rfl
  have oth : ∀ b o, b ≠ s.heap.objs.size → (H.push (itObj 0 0 a es.length ep)).get? b = some o →
      (((H.push (itObj 0 0 a es.length ep)).update s.heap.objs.size (Obj.mapSeq (·.push Value.none))).update s.heap.objs.size (Obj.mapSeq (·.pop))).get? b = some o :=
    fun b o hb e => (Heap.get?_update_other _ _ (Ne.symm hb)).trans ((Heap.get?_update_other _ _ (Ne.symm hb)).trans e)
  have hneI : a ≠ H.objs.size := by rw [hHs]; exact Nat.ne_of_lt (Nat.lt_succ_of_lt hal)
  have hSH : s.heap.objs.size ≠ H.objs.size := by rw [hHs]; exact Nat.ne_of_lt (Nat.lt_succ_self _)
  have hSf : s.heap.objs.size ∉ [H.objs.size, a] := by
    simp only [List.mem_cons, List.not_mem_nil, or_false, not_or]; exact ⟨hSH, Nat.ne_of_gt hal⟩
  have hst : SetSt w H.objs.size a es ep t 0 (((H.push (itObj 0 0 a es.length ep)).update s.heap.objs.size (Obj.mapSeq (·.push Value.none))).update s.heap.objs.size (Obj.mapSeq (·.pop))) :=
    ⟨0, oth _ _ hSH.symm hit2, oth _ _ (Nat.ne_of_lt hal) ho2, fun _ => below_zero T.rise⟩
  have W := walks_set (P := P) (A := A.in1) (by simpa using hh) H.objs.size a hneI es ep t T
  refine wpAny_pure ⟨plainId_quiet F.plain_extend_loop _, codeAny_extend_loopS W.toS (by rw [sizeLine_eq]; omega) _ hSf _ es.length 0 _ _ _ rfl (Nat.zero_le _) hst hS₄ (ItemsOf.nil _) fun s' acc' c' hm hS' hacc => ?_⟩
  show wpAny _ A (load s.heap.objs.size >>= _) _ _ s'
  refine wpAny_bind (wpAny_load hS' ?_)
  refine wpAny_pure (hQ s' acc'.toList (fun b ob e => hm.heap b ob (fun hb => ?_) (oth b ob (fun q => ?_) (Heap.get?_push_of_some _ (hH ▸ Heap.get?_push_of_some _ e)))) (Nat.le_of_lt (Heap.lt_size hS')) hm.gens hm.drawn hm.os ?_)
  · have hlt := Heap.lt_size e
    rcases List.mem_cons.mp hb with h | h
    · exact absurd hlt (h ▸ Nat.lt_irrefl _)
    · rw [List.mem_singleton.mp h, hHs] at hlt; exact absurd hlt (Nat.not_lt.mpr (Nat.le_succ _))
  · have hlt := Heap.lt_size e
    exact absurd hlt (q ▸ Nat.lt_irrefl _)
  · obtain ⟨hz, hv⟩ := hacc
    have hl2 : (walkOf w a ep es).length = es.length := (walkOf_perm w a ep es).length_eq
    have : acc'.toList = (walkOf w a ep es).map (·.2) := by
      refine List.ext_getElem? fun i => ?_
      rw [List.getElem?_map]
      cases hx : acc'.toList[i]? with
      | none =>
        have h5 := List.getElem?_eq_none_iff.mp hx
        rw [Array.length_toList, hz] at h5
        rw [List.getElem?_eq_none (by omega)]; rfl
      | some v =>
        rw [Array.getElem?_toList] at hx
        exact (hv i v hx).symm
    rw [this]
    exact (walkOf_perm w a ep es).map _
end

section
variable {P : Program} {w : World}
theorem fit_tup : SetFit P w (tupleKind (intKind P w)) where
  byv := fun {A E s k a Q} hk h => by
    have hk : IsTupleKey (intKind P w) s.heap k a := hk
    have hT := hk.typeIs
    obtain ⟨o, items, n, ho, _, hd, hi⟩ := hk
    unfold hashByValue
    refine wpAny_bind (wpAny_specialOf hT F.slot_tuple_hash.lookup ?_)
    show wpAny _ _ (seqItems? (.ref a) >>= _) _ _ s
    refine wpAny_bind (wpAny_seqItems ho hd ?_)
    refine wpAny_bind ?_
    show wpAny _ _ (forIn items _ _) _ _ s
    rw [← Array.forIn_toList]
    refine wpAny_forIn_list _ (fun rest r s' => r.1 = none ∧ s' = s ∧ ∃ ks, ItemsAre (intKind P w) ks rest) _ ?_ ?_ _ _ ⟨rfl, rfl, k, hi⟩
    · rintro v rest r s' ⟨hr, rfl, ks, hall⟩
      cases hall with
      | cons h1 h2 =>
        obtain ⟨tk, rfl⟩ := Value.isInt_shape h1
        refine wpAny_bind (wpAny_pure ?_)
        simp only [Bool.not_true, Bool.false_eq_true, if_false]
        exact wpAny_pure ⟨rfl, rfl, _, h2⟩
    · rintro ⟨r1, r2⟩ s' ⟨hr, rfl, _⟩
      simp only at hr
      subst hr
      exact wpAny_pure h
  cls := fun {A E s k a Q} hk h => by
    have hk : IsTupleKey (intKind P w) s.heap k a := hk
    have hT := hk.typeIs
    obtain ⟨o, items, n, ho, _, hd, hi⟩ := hk
    unfold ofAClassStatement
    refine wpAny_bind (wpAny_typeOf hT ?_)
    dsimp only
    refine wpAny_bind ?_
    refine wpAny_pure ?_
    simp only [Bool.not_true, Bool.false_eq_true, if_false]
    refine wpAny_bind (wpAny_seqItems ho hd ?_)
    dsimp only
    refine wpAny_bind ?_
    rw [← Array.forIn_toList]
    refine wpAny_forIn_list _ (fun rest r s' => r.1 = none ∧ s' = s ∧ ∃ ks, ItemsAre (intKind P w) ks rest) _ ?_ ?_ _ _ ⟨rfl, rfl, k, hi⟩
    · rintro v rest r s' ⟨hr, rfl, ks, hall⟩
      cases hall with
      | cons h1 h2 =>
        obtain ⟨tk, rfl⟩ := Value.isInt_shape h1
        refine wpAny_bind (wpAny_pure ?_)
        simp only [Bool.false_eq_true, if_false]
        exact wpAny_pure ⟨rfl, rfl, _, h2⟩
    · rintro ⟨r1, r2⟩ s' ⟨hr, rfl, _⟩
      simp only at hr
      subst hr
      exact wpAny_pure h
  keep := fun {h h' k a d es ep t} hk ho hs => by
    obtain ⟨o', items, n, ho', hc, hd', hi⟩ := (show IsTupleKey (intKind P w) h k a from hk)
    have hne : a ≠ d := by
      rintro rfl
      obtain rfl : o' = setObj es ep t := Option.some.inj (ho'.symm.trans ho)
      exact nomatch hd'
    exact ⟨o', items, n, (hs.2 a hne).trans ho', hc, hd', hi⟩
end
end L2

namespace L2
open PySem PyProof.Rows
set_option autoImplicit false

section sim
variable (M : Model) (Γ : Ctx) (s s' : Shared) (kd kd' : SortKind) (φ : Keyed → Keyed)

def mapSt (st : SortSt) : SortSt := SortSt.mk' kd ((arrOf st).map φ) (pendingOf st) (gallopOf st) (failedOf st)

def Sim {α α' : Type} (V : α → α' → Prop) (m : StateT SortSt Sem α) (m' : StateT SortSt Sem α') : Prop :=
  ∀ (st : SortSt) (p p' : Pos) (Q : α' → SortSt → Pos → Shared → Prop), kindOf st = kd' →
    Sem.wp M Γ (m'.run st) (fun r p1 s1 => Q r.1 r.2 p1 s1) (fun _ _ _ => False) p' s' →
    Sem.wp M Γ (m.run (mapSt kd φ st)) (fun r _ s1 => s1 = s ∧ ∃ a' st' p1, V r.1 a' ∧ r.2 = mapSt kd φ st' ∧ kindOf st' = kd' ∧ Q a' st' p1 s') (fun _ _ _ => False) p s
end sim

section sim
variable {M : Model} {Γ : Ctx} {s s' : Shared} {kd kd' : SortKind} {φ : Keyed → Keyed}

theorem sim_pure {α α' : Type} {V : α → α' → Prop} {a : α} {a' : α'} (h : V a a') : Sim M Γ s s' kd kd' φ V (pure a) (pure a') := by
  intro st p p' Q hk hw
  rw [StateT.run_pure, Sem.wp_pure'] at hw ⊢
  exact ⟨rfl, a', st, p', h, rfl, hk, hw⟩
theorem sim_bind {α α' β β' : Type} {V : α → α' → Prop} {W : β → β' → Prop} {m : StateT SortSt Sem α} {m' : StateT SortSt Sem α'} {f : α → StateT SortSt Sem β} {f' : α' → StateT SortSt Sem β'}
    (hm : Sim M Γ s s' kd kd' φ V m m') (hf : ∀ a a', V a a' → Sim M Γ s s' kd kd' φ W (f a) (f' a')) : Sim M Γ s s' kd kd' φ W (m >>= f) (m' >>= f') := by
  intro st p p' Q hk hw
  rw [StateT.run_bind, Sem.wp_bind'] at hw ⊢
  refine Sem.wp_mono M Γ _ (fun r p1 s1 h => ?_) (fun _ _ _ h => h) p s (hm st p p' (fun a st1 p1 s1 => Sem.wp M Γ ((f' a).run st1) (fun r p1 s1 => Q r.1 r.2 p1 s1) (fun _ _ _ => False) p1 s1) hk hw)
  obtain ⟨e, a', st', q1, hv, e2, hk', hq⟩ := h
  subst e
  rw [e2]
  exact hf r.1 a' hv st' p1 q1 Q hk' hq
theorem sim_get : Sim M Γ s s' kd kd' φ (fun a a' => a = mapSt kd φ a' ∧ kindOf a' = kd') get get := by
  intro st p p' Q hk hw
  rw [StateT.run_get, Sem.wp_pure'] at hw ⊢
  exact ⟨rfl, st, st, p', ⟨rfl, hk⟩, rfl, hk, hw⟩
theorem sim_modify {f f' : SortSt → SortSt} (h : ∀ st, kindOf st = kd' → f (mapSt kd φ st) = mapSt kd φ (f' st) ∧ kindOf (f' st) = kd') : Sim M Γ s s' kd kd' φ Eq (modify f) (modify f') := by
  intro st p p' Q hk hw
  have h1 : (modify f' : StateT SortSt Sem PUnit).run st = pure (PUnit.unit, f' st) := rfl
  have h2 : (modify f : StateT SortSt Sem PUnit).run (mapSt kd φ st) = pure (PUnit.unit, f (mapSt kd φ st)) := rfl
  rw [h1, Sem.wp_pure'] at hw
  rw [h2, Sem.wp_pure']
  exact ⟨rfl, _, _, p', rfl, (h st hk).1, (h st hk).2, hw⟩
theorem sim_set {x x' : SortSt} (h : x = mapSt kd φ x') (hx : kindOf x' = kd') : Sim M Γ s s' kd kd' φ Eq (set x) (set x') := by
  intro st p p' Q hk hw
  have h1 : (set x' : StateT SortSt Sem PUnit).run st = pure (PUnit.unit, x') := rfl
  have h2 : (set x : StateT SortSt Sem PUnit).run (mapSt kd φ st) = pure (PUnit.unit, x) := rfl
  rw [h1, Sem.wp_pure'] at hw
  rw [h2, Sem.wp_pure']
  exact ⟨rfl, _, x', p', rfl, h, hx, hw⟩
theorem sim_unsup {α α' : Type} {V : α → α' → Prop} {m : StateT SortSt Sem α} {t : String} : Sim M Γ s s' kd kd' φ V m (liftM (unsupported t : Sem α') : StateT SortSt Sem α') := by
  intro st p p' Q hk hw
  have h1 : (liftM (unsupported t : Sem α') : StateT SortSt Sem α').run st = ((unsupported t : Sem α') >>= fun a => pure (a, st)) := rfl
  rw [h1, Sem.wp_bind'] at hw
  exact hw.elim
theorem sim_unsup' {α α' : Type} {V : α → α' → Prop} {m : StateT SortSt Sem α} {t : String} : Sim M Γ s s' kd kd' φ V m (unsupported t : StateT SortSt Sem α') := sim_unsup
theorem sim_rule {t : String} : Sim M Γ s s' kd kd' φ Eq (rule t : StateT SortSt Sem Unit) (rule t : StateT SortSt Sem Unit) := by
  intro st p p' Q hk hw
  exact ⟨rfl, (), st, p', rfl, rfl, hk, hw⟩

def StepV {β β' : Type} (V : β → β' → Prop) : ForInStep β → ForInStep β' → Prop
  | .done b, .done b' => V b b'
  | .yield b, .yield b' => V b b'
  | _, _ => False
theorem sim_forIn {ι β β' : Type} {V : β → β' → Prop} {f : ι → β → StateT SortSt Sem (ForInStep β)} {f' : ι → β' → StateT SortSt Sem (ForInStep β')} (h : ∀ x b b', V b b' → Sim M Γ s s' kd kd' φ (StepV V) (f x b) (f' x b')) :
    ∀ (l : List ι) (b : β) (b' : β'), V b b' → Sim M Γ s s' kd kd' φ V (forIn l b f) (forIn l b' f')
  | [], b, b', hv => by rw [List.forIn_nil, List.forIn_nil]; exact sim_pure hv
  | x :: l, b, b', hv => by
    rw [List.forIn_cons, List.forIn_cons]
    refine sim_bind (h x b b' hv) fun r r' hr => ?_
    cases r <;> cases r' <;> first | exact hr.elim | skip
    · exact sim_pure hr
    · exact sim_forIn h l _ _ hr
theorem sim_range {β β' : Type} {V : β → β' → Prop} {i j : Nat} {b : β} {b' : β'} {f : Nat → β → StateT SortSt Sem (ForInStep β)} {f' : Nat → β' → StateT SortSt Sem (ForInStep β')} (hv : V b b') (h : ∀ x b b', V b b' → Sim M Γ s s' kd kd' φ (StepV V) (f x b) (f' x b')) :
    Sim M Γ s s' kd kd' φ V (forIn [i:j] b f) (forIn [i:j] b' f') := by
  rw [Std.Legacy.Range.forIn_eq_forIn_range', Std.Legacy.Range.forIn_eq_forIn_range']
  exact sim_forIn h _ b b' hv

theorem sim_elem (arr : Array Keyed) (i : Nat) : Sim M Γ s s' kd kd' φ (fun a a' => a = φ a') (elem' (arr.map φ) i) (elem' arr i) := by
  rw [elem'_eq, elem'_eq, Array.getElem?_map]
  cases arr[i]? with
  | none => exact sim_unsup'
  | some x => exact sim_pure rfl

theorem mirror_map (xs : Array Keyed) (i j d : Nat) : mirror (xs.map φ) i j d = (mirror xs i j d).map φ := PySem.W.kas_swaps_map φ _ _ _ xs
theorem bubble_map (xs : Array Keyed) (k d : Nat) : bubble (xs.map φ) k d = (bubble xs k d).map φ := PySem.W.kas_swaps_map φ _ _ _ xs
theorem sim_reverse (i j : Nat) : Sim M Γ s s' kd kd' φ Eq (reverseSlice' i j) (reverseSlice' i j) := by
  rw [reverseSlice'_eq]
  refine sim_modify fun st hk => ⟨?_, hk⟩
  show SortSt.mk' kd (mirror ((arrOf st).map φ) i j _) _ _ _ = SortSt.mk' kd ((mirror (arrOf st) i j _).map φ) _ _ _
  rw [mirror_map]; rfl
theorem sim_move (i j : Nat) : Sim M Γ s s' kd kd' φ Eq (moveDown' i j) (moveDown' i j) := by
  rw [moveDown'_eq]
  refine sim_modify fun st hk => ⟨?_, hk⟩
  show SortSt.mk' kd (bubble ((arrOf st).map φ) i _) _ _ _ = SortSt.mk' kd ((bubble (arrOf st) i _).map φ) _ _ _
  rw [bubble_map]; rfl
theorem sim_gset (g : Nat) : Sim M Γ s s' kd kd' φ Eq (setMinGallop' g) (setMinGallop' g) := by
  rw [setMinGallop'_eq]
  exact sim_modify fun st hk => ⟨rfl, hk⟩

def SimLt (M : Model) (Γ : Ctx) (s s' : Shared) (kd kd' : SortKind) (φ : Keyed → Keyed) : Prop := ∀ x y : Keyed, Sim M Γ s s' kd kd' φ Eq (lt' (φ x) (φ y)) (lt' x y)
variable (HB : SimLt M Γ s s' kd kd' φ)
include HB
theorem sim_ltAt (i j : Nat) : Sim M Γ s s' kd kd' φ Eq (ltAt' i j) (ltAt' i j) := by
  rw [ltAt'_eq]
  refine sim_bind sim_get fun a a' h => ?_
  obtain ⟨rfl, _⟩ := h
  refine sim_bind (sim_elem (arrOf a') i) fun x x' hx => ?_
  subst hx
  refine sim_bind (sim_elem (arrOf a') j) fun y y' hy => ?_
  subst hy
  exact HB x' y'
omit HB in
theorem step_done {β : Type} {b : β} : StepV Eq (ForInStep.done b) (ForInStep.done b) := rfl
omit HB in
theorem step_yield {β : Type} {b : β} : StepV Eq (ForInStep.yield b) (ForInStep.yield b) := rfl
theorem sim_count (lo nrem : Nat) : Sim M Γ s s' kd kd' φ Eq (countRun' lo nrem) (countRun' lo nrem) := by
  rw [countRun'_eq]
  dsimp only
  repeat' (first | exact sim_pure rfl | exact sim_pure step_done | exact sim_pure step_yield | exact sim_unsup' | exact sim_ltAt HB _ _ | (refine sim_bind (V := Eq) (sim_ltAt HB _ _) (fun r r' hr => ?_); cases hr; cases r <;> dsimp only) | (refine sim_bind (V := Eq) (sim_reverse _ _) (fun r r' hr => ?_); cases hr; try dsimp only) | (refine sim_bind (V := Eq) (sim_move _ _) (fun r r' hr => ?_); cases hr; try dsimp only) | (refine sim_bind (V := Eq) sim_rule (fun r r' hr => ?_); cases hr; try dsimp only) | (refine sim_bind (V := Eq) (sim_range (V := Eq) rfl (fun i c c' hc => ?_)) (fun r r' hr => ?_); (case' refine_1 => (cases hc; try dsimp only)); (case' refine_2 => (cases hr; try dsimp only))) | split)
theorem sim_binary (lo n ok : Nat) : Sim M Γ s s' kd kd' φ Eq (binarySort' lo n ok) (binarySort' lo n ok) := by
  rw [binarySort'_eq]
  dsimp only
  repeat' (first | exact sim_pure rfl | exact sim_pure step_done | exact sim_pure step_yield | exact sim_unsup' | exact sim_ltAt HB _ _ | (refine sim_bind (V := Eq) (sim_ltAt HB _ _) (fun r r' hr => ?_); cases hr; cases r <;> dsimp only) | (refine sim_bind (V := Eq) (sim_reverse _ _) (fun r r' hr => ?_); cases hr; try dsimp only) | (refine sim_bind (V := Eq) (sim_move _ _) (fun r r' hr => ?_); cases hr; try dsimp only) | (refine sim_bind (V := Eq) sim_rule (fun r r' hr => ?_); cases hr; try dsimp only) | (refine sim_bind (V := Eq) (sim_range (V := Eq) rfl (fun i c c' hc => ?_)) (fun r r' hr => ?_); (case' refine_1 => (cases hc; try dsimp only)); (case' refine_2 => (cases hr; try dsimp only))) | split)
theorem sim_beyond (left : Bool) (key : Keyed) (arr : Array Keyed) (base i : Nat) : Sim M Γ s s' kd kd' φ Eq (beyond' left (φ key) (arr.map φ) base i) (beyond' left key arr base i) := by
  unfold beyond'
  refine sim_bind (sim_elem arr (base + i)) fun x x' hx => ?_
  subst hx
  cases left
  · simp only [Bool.false_eq_true, if_false]
    refine sim_bind (V := Eq) (HB key x') fun r r' hr => ?_
    subst hr
    exact sim_pure rfl
  · simp only [if_true]
    exact HB x' key
theorem sim_gallop (left : Bool) (key : Keyed) (arr : Array Keyed) (base n hint : Nat) : Sim M Γ s s' kd kd' φ Eq (gallop' left (φ key) (arr.map φ) base n hint) (gallop' left key arr base n hint) := by
  rw [gallop'_eq, gallop'_eq]
  dsimp only
  repeat' (first | exact sim_pure rfl | exact sim_pure step_done | exact sim_pure step_yield | exact sim_unsup' | (refine sim_bind (V := Eq) (sim_beyond HB _ _ _ _ _) (fun r r' hr => ?_); cases hr; cases r <;> dsimp only) | (refine sim_bind (V := Eq) (sim_range (V := Eq) rfl (fun i c c' hc => ?_)) (fun r r' hr => ?_); (case' refine_1 => (cases hc; try dsimp only)); (case' refine_2 => (cases hr; try dsimp only))) | split)
end sim
end L2

namespace L2
open PySem PyProof.Rows
set_option autoImplicit false
section sim
variable {M : Model} {Γ : Ctx} {s s' : Shared} {kd kd' : SortKind} {φ : Keyed → Keyed}
theorem sim_ite {α α' : Type} {V : α → α' → Prop} {c : Prop} [Decidable c] {m n : StateT SortSt Sem α} {m' n' : StateT SortSt Sem α'} (h1 : c → Sim M Γ s s' kd kd' φ V m m') (h2 : ¬ c → Sim M Γ s s' kd kd' φ V n n') : Sim M Γ s s' kd kd' φ V (if c then m else n) (if c then m' else n') := by
  by_cases h : c
  · rw [if_pos h, if_pos h]; exact h1 h
  · rw [if_neg h, if_neg h]; exact h2 h
def RO (φ : Keyed → Keyed) {ρ : Type} (b b' : Option (Array Keyed) × Array Keyed × ρ) : Prop := b = (b'.1.map (Array.map φ), b'.2.1.map φ, b'.2.2)
def RP (φ : Keyed → Keyed) {ρ : Type} (b b' : Option (Array Keyed) × Nat × Nat × Array Keyed × ρ) : Prop := b = (b'.1.map (Array.map φ), b'.2.1, b'.2.2.1, b'.2.2.2.1.map φ, b'.2.2.2.2)
variable (HB : SimLt M Γ s s' kd kd' φ)
include HB
set_option maxHeartbeats 4000000 in
theorem sim_lo (a b : Array Keyed) : Sim M Γ s s' kd kd' φ (fun x x' => x = x'.map φ) (mergeLo' (a.map φ) (b.map φ)) (mergeLo' a b) := by
  rw [mergeLo'_eq, mergeLo'_eq]
  refine sim_bind (V := Eq) sim_rule fun _ _ _ => ?_
  refine sim_bind (sim_elem b 0) fun x x' hx => ?_
  subst hx
  rw [show (a.map φ).size = a.size from Array.size_map, show (b.map φ).size = b.size from Array.size_map]
  refine sim_ite (fun _ => sim_pure ?_) fun _ => sim_ite (fun _ => sim_pure ?_) fun _ => sim_bind sim_get fun g g' hg => ?_
  · (simp only [StepV, RO, RP, mapSt, Option.map_none, Option.map_some, Array.map_append, Array.map_extract, Array.map_push, Array.map_reverse, List.map_toArray, List.map_cons, List.map_nil]; try rfl)
  · (simp only [StepV, RO, RP, mapSt, Option.map_none, Option.map_some, Array.map_append, Array.map_extract, Array.map_push, Array.map_reverse, List.map_toArray, List.map_cons, List.map_nil]; try rfl)
  · obtain ⟨rfl, hg⟩ := hg
    refine sim_bind (V := RO φ) (sim_range (V := RO φ) ?_ fun i c c' hc => ?_) fun r r' hr => ?_
    · (simp only [StepV, RO, RP, mapSt, Option.map_none, Option.map_some, Array.map_append, Array.map_extract, Array.map_push, Array.map_reverse, List.map_toArray, List.map_cons, List.map_nil]; try rfl)
    · subst hc
      obtain ⟨ret, out, ia, ib, mg⟩ := c'
      refine sim_bind (V := RO φ) (sim_range (V := RO φ) ?_ fun i c c' hc => ?_) fun r r' hr => ?_
      · (simp only [StepV, RO, RP, mapSt, Option.map_none, Option.map_some, Array.map_append, Array.map_extract, Array.map_push, Array.map_reverse, List.map_toArray, List.map_cons, List.map_nil]; try rfl)
      · subst hc
        obtain ⟨ret, out, ia, ib, ac, bc⟩ := c'
        repeat' (first | exact sim_unsup' | refine sim_ite (fun _ => ?_) (fun _ => ?_) | (refine sim_bind (sim_elem _ _) (fun x x' hx => ?_); subst hx) | (refine sim_bind (V := Eq) (HB _ _) (fun r r' hr => ?_); subst hr; cases r) | (refine sim_bind (V := Eq) (sim_gallop HB _ _ _ _ _ _) (fun r r' hr => ?_); subst hr; cases r) | (refine sim_bind (V := Eq) (sim_gset _) (fun r r' hr => ?_); subst hr) | (refine sim_bind (V := Eq) sim_rule (fun r r' hr => ?_); subst hr) | (refine sim_pure ?_; (simp only [StepV, RO, RP, mapSt, Option.map_none, Option.map_some, Array.map_append, Array.map_extract, Array.map_push, Array.map_reverse, List.map_toArray, List.map_cons, List.map_nil]; try rfl)))
      · subst hr
        obtain ⟨ret, out, ia, ib, ac, bc⟩ := r'
        cases ret with
        | some x => refine sim_pure ?_; (simp only [StepV, RO, RP, mapSt, Option.map_none, Option.map_some, Array.map_append, Array.map_extract, Array.map_push, Array.map_reverse, List.map_toArray, List.map_cons, List.map_nil]; try rfl)
        | none =>
          refine sim_bind (V := Eq) sim_rule fun _ _ _ => ?_
          refine sim_bind (V := RO φ) (sim_range (V := RO φ) ?_ fun i c c' hc => ?_) fun r r' hr => ?_
          · (simp only [StepV, RO, RP, mapSt, Option.map_none, Option.map_some, Array.map_append, Array.map_extract, Array.map_push, Array.map_reverse, List.map_toArray, List.map_cons, List.map_nil]; try rfl)
          · subst hc
            obtain ⟨ret, out, ia, ib, mg, ac, bc⟩ := c'
            repeat' (first | exact sim_unsup' | refine sim_ite (fun _ => ?_) (fun _ => ?_) | (refine sim_bind (sim_elem _ _) (fun x x' hx => ?_); subst hx) | (refine sim_bind (V := Eq) (HB _ _) (fun r r' hr => ?_); subst hr; cases r) | (refine sim_bind (V := Eq) (sim_gallop HB _ _ _ _ _ _) (fun r r' hr => ?_); subst hr; cases r) | (refine sim_bind (V := Eq) (sim_gset _) (fun r r' hr => ?_); subst hr) | (refine sim_bind (V := Eq) sim_rule (fun r r' hr => ?_); subst hr) | (refine sim_pure ?_; (simp only [StepV, RO, RP, mapSt, Option.map_none, Option.map_some, Array.map_append, Array.map_extract, Array.map_push, Array.map_reverse, List.map_toArray, List.map_cons, List.map_nil]; try rfl)))
          · subst hr
            obtain ⟨ret, out, ia, ib, mg, ac, bc⟩ := r'
            cases ret with
            | some x => refine sim_pure ?_; (simp only [StepV, RO, RP, mapSt, Option.map_none, Option.map_some, Array.map_append, Array.map_extract, Array.map_push, Array.map_reverse, List.map_toArray, List.map_cons, List.map_nil]; try rfl)
            | none => repeat' (first | exact sim_unsup' | refine sim_ite (fun _ => ?_) (fun _ => ?_) | (refine sim_bind (sim_elem _ _) (fun x x' hx => ?_); subst hx) | (refine sim_bind (V := Eq) (HB _ _) (fun r r' hr => ?_); subst hr; cases r) | (refine sim_bind (V := Eq) (sim_gallop HB _ _ _ _ _ _) (fun r r' hr => ?_); subst hr; cases r) | (refine sim_bind (V := Eq) (sim_gset _) (fun r r' hr => ?_); subst hr) | (refine sim_bind (V := Eq) sim_rule (fun r r' hr => ?_); subst hr) | (refine sim_pure ?_; (simp only [StepV, RO, RP, mapSt, Option.map_none, Option.map_some, Array.map_append, Array.map_extract, Array.map_push, Array.map_reverse, List.map_toArray, List.map_cons, List.map_nil]; try rfl)))
    · subst hr
      obtain ⟨ret, out, ia, ib, mg⟩ := r'
      cases ret with
      | some x => exact sim_pure rfl
      | none => exact sim_unsup'
end sim
end L2

namespace L2
open PySem PyProof.Rows
set_option autoImplicit false
section sim
variable {M : Model} {Γ : Ctx} {s s' : Shared} {kd kd' : SortKind} {φ : Keyed → Keyed}
variable (HB : SimLt M Γ s s' kd kd' φ)
include HB
set_option maxHeartbeats 4000000 in
theorem sim_hi (a b : Array Keyed) : Sim M Γ s s' kd kd' φ (fun x x' => x = x'.map φ) (mergeHi' (a.map φ) (b.map φ)) (mergeHi' a b) := by
  rw [mergeHi'_eq, mergeHi'_eq]
  rw [show (a.map φ).size = a.size from Array.size_map, show (b.map φ).size = b.size from Array.size_map]
  refine sim_bind (V := Eq) sim_rule fun _ _ _ => ?_
  refine sim_bind (sim_elem a _) fun x x' hx => ?_
  subst hx
  refine sim_ite (fun _ => sim_pure ?_) fun _ => sim_ite (fun _ => sim_pure ?_) fun _ => sim_bind sim_get fun g g' hg => ?_
  · (simp only [StepV, RO, RP, mapSt, Option.map_none, Option.map_some, Array.map_append, Array.map_extract, Array.map_push, Array.map_reverse, List.map_toArray, List.map_cons, List.map_nil]; try rfl)
  · (simp only [StepV, RO, RP, mapSt, Option.map_none, Option.map_some, Array.map_append, Array.map_extract, Array.map_push, Array.map_reverse, List.map_toArray, List.map_cons, List.map_nil]; try rfl)
  · obtain ⟨rfl, hg⟩ := hg
    refine sim_bind (V := RP φ) (sim_range (V := RP φ) ?_ fun i c c' hc => ?_) fun r r' hr => ?_
    · (simp only [StepV, RO, RP, mapSt, Option.map_none, Option.map_some, Array.map_append, Array.map_extract, Array.map_push, Array.map_reverse, List.map_toArray, List.map_cons, List.map_nil]; try rfl)
    · subst hc
      obtain ⟨ret, na, nb, out, mg⟩ := c'
      refine sim_bind (V := RP φ) (sim_range (V := RP φ) ?_ fun i c c' hc => ?_) fun r r' hr => ?_
      · (simp only [StepV, RO, RP, mapSt, Option.map_none, Option.map_some, Array.map_append, Array.map_extract, Array.map_push, Array.map_reverse, List.map_toArray, List.map_cons, List.map_nil]; try rfl)
      · subst hc
        obtain ⟨ret, na, nb, out, ac, bc⟩ := c'
        repeat' (first | exact sim_unsup' | refine sim_ite (fun _ => ?_) (fun _ => ?_) | (refine sim_bind (sim_elem _ _) (fun x x' hx => ?_); subst hx) | (refine sim_bind (V := Eq) (HB _ _) (fun r r' hr => ?_); subst hr; cases r) | (refine sim_bind (V := Eq) (sim_gallop HB _ _ _ _ _ _) (fun r r' hr => ?_); subst hr; cases r) | (refine sim_bind (V := Eq) (sim_gset _) (fun r r' hr => ?_); subst hr) | (refine sim_bind (V := Eq) sim_rule (fun r r' hr => ?_); subst hr) | (refine sim_pure ?_; (simp only [StepV, RO, RP, mapSt, Option.map_none, Option.map_some, Array.map_append, Array.map_extract, Array.map_push, Array.map_reverse, List.map_toArray, List.map_cons, List.map_nil]; try rfl)))
      · subst hr
        obtain ⟨ret, na, nb, out, ac, bc⟩ := r'
        cases ret with
        | some x => refine sim_pure ?_; (simp only [StepV, RO, RP, mapSt, Option.map_none, Option.map_some, Array.map_append, Array.map_extract, Array.map_push, Array.map_reverse, List.map_toArray, List.map_cons, List.map_nil]; try rfl)
        | none =>
          refine sim_bind (V := Eq) sim_rule fun _ _ _ => ?_
          refine sim_bind (V := RP φ) (sim_range (V := RP φ) ?_ fun i c c' hc => ?_) fun r r' hr => ?_
          · (simp only [StepV, RO, RP, mapSt, Option.map_none, Option.map_some, Array.map_append, Array.map_extract, Array.map_push, Array.map_reverse, List.map_toArray, List.map_cons, List.map_nil]; try rfl)
          · subst hc
            obtain ⟨ret, na, nb, out, mg, ac, bc⟩ := c'
            repeat' (first | exact sim_unsup' | refine sim_ite (fun _ => ?_) (fun _ => ?_) | (refine sim_bind (sim_elem _ _) (fun x x' hx => ?_); subst hx) | (refine sim_bind (V := Eq) (HB _ _) (fun r r' hr => ?_); subst hr; cases r) | (refine sim_bind (V := Eq) (sim_gallop HB _ _ _ _ _ _) (fun r r' hr => ?_); subst hr; cases r) | (refine sim_bind (V := Eq) (sim_gset _) (fun r r' hr => ?_); subst hr) | (refine sim_bind (V := Eq) sim_rule (fun r r' hr => ?_); subst hr) | (refine sim_pure ?_; (simp only [StepV, RO, RP, mapSt, Option.map_none, Option.map_some, Array.map_append, Array.map_extract, Array.map_push, Array.map_reverse, List.map_toArray, List.map_cons, List.map_nil]; try rfl)))
          · subst hr
            obtain ⟨ret, na, nb, out, mg, ac, bc⟩ := r'
            cases ret with
            | some x => refine sim_pure ?_; (simp only [StepV, RO, RP, mapSt, Option.map_none, Option.map_some, Array.map_append, Array.map_extract, Array.map_push, Array.map_reverse, List.map_toArray, List.map_cons, List.map_nil]; try rfl)
            | none => repeat' (first | exact sim_unsup' | refine sim_ite (fun _ => ?_) (fun _ => ?_) | (refine sim_bind (sim_elem _ _) (fun x x' hx => ?_); subst hx) | (refine sim_bind (V := Eq) (HB _ _) (fun r r' hr => ?_); subst hr; cases r) | (refine sim_bind (V := Eq) (sim_gallop HB _ _ _ _ _ _) (fun r r' hr => ?_); subst hr; cases r) | (refine sim_bind (V := Eq) (sim_gset _) (fun r r' hr => ?_); subst hr) | (refine sim_bind (V := Eq) sim_rule (fun r r' hr => ?_); subst hr) | (refine sim_pure ?_; (simp only [StepV, RO, RP, mapSt, Option.map_none, Option.map_some, Array.map_append, Array.map_extract, Array.map_push, Array.map_reverse, List.map_toArray, List.map_cons, List.map_nil]; try rfl)))
    · subst hr
      obtain ⟨ret, na, nb, out, mg⟩ := r'
      cases ret with
      | some x => exact sim_pure rfl
      | none => exact sim_unsup'
end sim
end L2

namespace L2
open PySem PyProof.Rows
set_option autoImplicit false
section sim
variable {M : Model} {Γ : Ctx} {s s' : Shared} {kd kd' : SortKind} {φ : Keyed → Keyed}
variable (HB : SimLt M Γ s s' kd kd' φ)
include HB
omit HB in
theorem writeBack_map (base : Nat) : ∀ (l : List Keyed) (n : Nat) (xs : Array Keyed),
    ((l.map φ).zipIdx n).foldl (fun a (p, j) => a.setIfInBounds (base + j) p) (xs.map φ) = ((l.zipIdx n).foldl (fun a (p, j) => a.setIfInBounds (base + j) p) xs).map φ
  | [], n, xs => rfl
  | x :: l, n, xs => by
    rw [List.map_cons, List.zipIdx_cons, List.zipIdx_cons, List.foldl_cons, List.foldl_cons, ← writeBack_map base l (n + 1)]
    congr 1
    exact (Array.map_setIfInBounds).symm
theorem sim_mergeAt (i : Nat) : Sim M Γ s s' kd kd' φ Eq (mergeAt' i) (mergeAt' i) := by
  rw [mergeAt'_eq]
  refine sim_bind sim_get fun g g' hg => ?_
  obtain ⟨rfl, hg⟩ := hg
  show Sim M Γ s s' kd kd' φ Eq (match ((pendingOf g')[i]?, (pendingOf g')[i + 1]?) with | (some (sa, na, power), some (sb, nb, _)) => _ | _ => _) _
  rcases h1 : (pendingOf g')[i]? with _ | ⟨sa, na, pw⟩
  · exact sim_unsup'
  rcases h2 : (pendingOf g')[i + 1]? with _ | ⟨sb, nb, pw2⟩
  · exact sim_unsup'
  refine sim_bind (V := Eq) (sim_set rfl hg) fun _ _ _ => ?_
  refine sim_bind (sim_elem (arrOf g') _) fun x x' hx => ?_
  subst hx
  refine sim_bind (V := Eq) (sim_gallop HB _ _ (arrOf g') _ _ _) fun r r' hr => ?_
  subst hr
  cases r with
  | none => exact sim_pure rfl
  | some k =>
    refine sim_ite (fun _ => sim_pure rfl) fun _ => ?_
    refine sim_bind (sim_elem (arrOf g') _) fun x x' hx => ?_
    subst hx
    refine sim_bind (V := Eq) (sim_gallop HB _ _ (arrOf g') _ _ _) fun r r' hr => ?_
    subst hr
    cases r with
    | none => exact sim_pure rfl
    | some nb =>
      refine sim_ite (fun _ => sim_pure rfl) fun _ => ?_
      have tail : ∀ (x x' : Array Keyed), x = x'.map φ → Sim M Γ s s' kd kd' φ Eq
          (do modify (fun st => setArr st (x.toList.zipIdx.foldl (fun a (p, j) => a.setIfInBounds (sa + k + j) p) (arrOf st))); return (failedOf (← get)).isNone)
          (do modify (fun st => setArr st (x'.toList.zipIdx.foldl (fun a (p, j) => a.setIfInBounds (sa + k + j) p) (arrOf st))); return (failedOf (← get)).isNone) := fun x x' hx => by
        subst hx
        refine sim_bind (V := Eq) (sim_modify fun st hk => ⟨?_, hk⟩) fun _ _ _ => ?_
        · show SortSt.mk' kd ((x'.map φ).toList.zipIdx.foldl (fun a (p, j) => a.setIfInBounds (sa + k + j) p) ((arrOf st).map φ)) _ _ _ = SortSt.mk' kd ((x'.toList.zipIdx.foldl (fun a (p, j) => a.setIfInBounds (sa + k + j) p) (arrOf st)).map φ) _ _ _
          rw [Array.toList_map, writeBack_map]; rfl
        · refine sim_bind sim_get fun g g' hg => ?_
          obtain ⟨rfl, hg⟩ := hg
          exact sim_pure rfl
      have e1 : ∀ i j, (arrOf (mapSt kd φ g')).extract i j = ((arrOf g').extract i j).map φ := fun i j => (Array.map_extract).symm
      refine sim_ite (fun _ => ?_) fun _ => ?_
      · rw [e1, e1]
        exact sim_bind (sim_lo HB _ _) fun x x' hx => tail x x' hx
      · rw [e1, e1]
        exact sim_bind (sim_hi HB _ _) fun x x' hx => tail x x' hx
omit HB in
theorem pend_map (st : SortSt) : pendingOf (mapSt kd φ st) = pendingOf st := rfl
theorem sim_inner (size pw : Nat) : Sim M Γ s s' kd kd' φ Eq
    (forIn [:size] ((none : Option Unit), ()) fun _ _ => do
      let p := pendingOf (← get)
      match if p.size > 1 then p[p.size - 2]? else none with
      | some (_, _, older) =>
        if older ≤ pw then pure (ForInStep.done (none, ()))
        else do
          let d ← mergeAt' (p.size - 2)
          if (!d) = true then pure (ForInStep.done (some (), ())) else pure (ForInStep.yield (none, ()))
      | _ => pure (ForInStep.done (none, ())))
    (forIn [:size] ((none : Option Unit), ()) fun _ _ => do
      let p := pendingOf (← get)
      match if p.size > 1 then p[p.size - 2]? else none with
      | some (_, _, older) =>
        if older ≤ pw then pure (ForInStep.done (none, ()))
        else do
          let d ← mergeAt' (p.size - 2)
          if (!d) = true then pure (ForInStep.done (some (), ())) else pure (ForInStep.yield (none, ()))
      | _ => pure (ForInStep.done (none, ()))) := by
  refine sim_range (V := Eq) rfl fun _ b b' hb => ?_
  subst hb
  refine sim_bind sim_get fun g g' hg => ?_
  obtain ⟨rfl, hg⟩ := hg
  rw [pend_map]
  dsimp only
  rcases hq : (if (pendingOf g').size > 1 then (pendingOf g')[(pendingOf g').size - 2]? else none) with _ | ⟨x, y, older⟩
  · exact sim_pure step_done
  · refine sim_ite (fun _ => sim_pure step_done) fun _ => ?_
    refine sim_bind (V := Eq) (sim_mergeAt HB _) fun r r' hr => ?_
    subst hr
    exact sim_ite (fun _ => sim_pure step_done) fun _ => sim_pure step_yield
theorem sim_runs : Sim M Γ s s' kd kd' φ Eq sortRuns' sortRuns' := by
  rw [sortRuns'_eq]
  refine sim_bind sim_get fun g g' hg => ?_
  obtain ⟨rfl, hg⟩ := hg
  rw [show (arrOf (mapSt kd φ g')).size = (arrOf g').size from Array.size_map]
  refine sim_bind (V := Eq) (sim_range (V := Eq) rfl fun _ b b' hb => ?_) fun r r' hr => ?_
  · subst hb
    obtain ⟨o, lo⟩ := b
    refine sim_ite (fun _ => sim_pure step_done) fun _ => ?_
    refine sim_bind (V := Eq) (sim_count HB _ _) fun r r' hr => ?_
    subst hr
    cases r with
    | none => exact sim_pure step_done
    | some found =>
      refine sim_ite (fun _ => ?_) fun _ => ?_
      · refine sim_bind (V := Eq) sim_rule fun _ _ _ => ?_
        refine sim_bind (V := Eq) (sim_binary HB _ _ _) fun r r' hr => ?_
        subst hr
        refine sim_ite (fun _ => sim_pure step_done) fun _ => ?_
        refine sim_bind sim_get fun u u' hu => ?_
        rw [hu.1, pend_map]
        dsimp only
        rcases hb : (pendingOf u').back? with _ | ⟨s1, n1, z⟩
        · exact sim_bind (V := Eq) (sim_modify fun st hk => ⟨rfl, hk⟩) fun _ _ _ => sim_pure step_yield
        · refine sim_bind (V := Eq) (sim_inner HB _ _) fun r r' hr => ?_
          subst hr
          obtain ⟨r, u⟩ := r
          cases r with
          | some x => exact sim_pure step_done
          | none => exact sim_bind (V := Eq) (sim_modify fun st hk => ⟨rfl, hk⟩) fun _ _ _ => sim_bind (V := Eq) (sim_modify fun st hk => ⟨rfl, hk⟩) fun _ _ _ => sim_pure step_yield
      · refine sim_bind sim_get fun u u' hu => ?_
        rw [hu.1, pend_map]
        dsimp only
        rcases hb : (pendingOf u').back? with _ | ⟨s1, n1, z⟩
        · exact sim_bind (V := Eq) (sim_modify fun st hk => ⟨rfl, hk⟩) fun _ _ _ => sim_pure step_yield
        · refine sim_bind (V := Eq) (sim_inner HB _ _) fun r r' hr => ?_
          subst hr
          obtain ⟨r, u⟩ := r
          cases r with
          | some x => exact sim_pure step_done
          | none => exact sim_bind (V := Eq) (sim_modify fun st hk => ⟨rfl, hk⟩) fun _ _ _ => sim_bind (V := Eq) (sim_modify fun st hk => ⟨rfl, hk⟩) fun _ _ _ => sim_pure step_yield
  · subst hr
    obtain ⟨o, lo⟩ := r
    cases o with
    | some x => exact sim_pure rfl
    | none =>
      refine sim_bind (V := Eq) (sim_range (V := Eq) rfl fun _ b b' hb => ?_) fun r r' hr => ?_
      · subst hb
        refine sim_bind sim_get fun g g' hg => ?_
        obtain ⟨rfl, hg⟩ := hg
        rw [pend_map]
        refine sim_ite (fun _ => sim_pure step_done) fun _ => ?_
        refine sim_bind (V := Eq) (sim_mergeAt HB _) fun r r' hr => ?_
        subst hr
        exact sim_ite (fun _ => sim_pure step_done) fun _ => sim_pure step_yield
      · subst hr
        obtain ⟨o, u⟩ := r
        cases o with
        | some x => exact sim_pure rfl
        | none => exact sim_pure rfl
end sim
end L2

namespace L2
open PySem PyProof.Rows
set_option autoImplicit false

def standObj (r : Nat) : Obj := { cls := .type "tuple", data := .seq (Array.replicate r Value.none) 0 }
def Stands (h : Heap) (rk : Nat → Option Nat) : Prop := ∀ i, h.get? i = (rk i).map standObj

section
variable {M : Model} {Γ : Ctx} {s' : Shared} {rk : Nat → Option Nat} {p : Pos} {E : Value → Pos → Shared → Prop}

theorem items_stand (H : Stands s'.heap rk) {v : Value} {R : Array Value → Pos → Shared → Prop} (h : Sem.wp M Γ (Builtin.List.listItems v) R E p s') :
    ∃ i r, v = Value.ref i ∧ rk i = some r ∧ R (Array.replicate r Value.none) p s' := by
  unfold Builtin.List.listItems at h
  rw [Sem.wp_bind'] at h
  cases v with
  | ref i =>
    have h1 : Sem.wp M Γ (load i >>= fun o => match o.data with | .seq xs _ => pure (some xs) | _ => pure none) (fun x p' s1 => Sem.wp M Γ (match x with | some xs => pure xs | none => unsupported "internal:list-without-items") R E p' s1) E p s' := h
    rw [Sem.wp_bind', Sem.wp_cmd_load] at h1
    obtain ⟨o, ho, h1⟩ := h1
    rw [H i] at ho
    cases hr : rk i with
    | none => rw [hr] at ho; cases ho
    | some r =>
      rw [hr] at ho
      cases ho
      exact ⟨i, r, rfl, hr, h1⟩
  | builtin id =>
    exfalso
    have h1 : Sem.wp M Γ (notAStandIn (.builtin id) >>= fun _ => pure none) (fun x p' s1 => Sem.wp M Γ (match x with | some xs => pure xs | none => unsupported "internal:list-without-items") R E p' s1) E p s' := h
    rw [Sem.wp_bind'] at h1
    have h1 : Sem.wp M Γ (if (withoutEnding? id "#opaque").isSome = true then unsupported id else pure ()) (fun x p' s1 => Sem.wp M Γ (pure none) (fun x p' s1 => Sem.wp M Γ (match x with | some xs => pure xs | none => unsupported "internal:list-without-items") R E p' s1) E p' s1) E p s' := h1
    cases hq : (withoutEnding? id "#opaque").isSome with
    | true => rw [hq, if_pos rfl] at h1; exact h1
    | false => rw [hq, if_neg Bool.false_ne_true] at h1; exact h1
  | _ => exact (h : False).elim

theorem eq_none {R : Bool → Pos → Shared → Prop} (h : Sem.wp M Γ (eqBool Value.none Value.none) R E p s') : R true p s' := h

theorem loop_stand {b : Bool} : ∀ (l : List ((Value × Value) × Nat)) (R : Option Bool × Unit → Pos → Shared → Prop) (p : Pos), (∀ q ∈ l, q.1 = (Value.none, Value.none)) →
    Sem.wp M Γ (forIn l ((none : Option Bool), ()) fun (x : (Value × Value) × Nat) (_ : Option Bool × Unit) => do
      let e ← eqBool x.1.1 x.1.2
      if (!e) = true then do
        let r ← oneLt' (b && x.2 == 0) x.1.1 x.1.2
        pure (ForInStep.done (some r, ()))
      else pure (ForInStep.yield (none, ()))) R E p s' → R (none, ()) p s'
  | [], R, p, _, h => by
    rw [List.forIn_nil, Sem.wp_pure'] at h
    exact h
  | x :: l, R, p, hl, h => by
    have hx := hl x List.mem_cons_self
    obtain ⟨⟨u, v⟩, i⟩ := x
    cases hx
    rw [List.forIn_cons, Sem.wp_bind', Sem.wp_bind'] at h
    have h2 := eq_none h
    exact loop_stand l R p (fun q hq => hl q (List.mem_cons_of_mem _ hq)) h2

theorem lt_stand (H : Stands s'.heap rk) {b : Bool} {x y : Value} {R : Bool → Pos → Shared → Prop} (h : Sem.wp M Γ (keyLt' (tuples' b) x y) R E p s') :
    ∃ i j r q, x = Value.ref i ∧ y = Value.ref j ∧ rk i = some r ∧ rk j = some q ∧ R (decide (r < q)) p s' := by
  rw [kat_lt_eq, Sem.wp_bind'] at h
  obtain ⟨i, r, rfl, hi, h⟩ := items_stand H h
  rw [Sem.wp_bind'] at h
  obtain ⟨j, q, rfl, hj, h⟩ := items_stand H h
  refine ⟨i, j, r, q, rfl, rfl, hi, hj, ?_⟩
  rw [Sem.wp_bind'] at h
  have h3 := loop_stand (b := b) _ _ _ (fun z hz => ?_) h
  · have h4 : R (decide ((Array.replicate r Value.none).size < (Array.replicate q Value.none).size)) p s' := h3
    simpa using h4
  · obtain ⟨⟨u, v⟩, k⟩ := z
    have := List.mem_zipIdx hz
    have hm : (u, v) ∈ (Array.replicate r Value.none).toList.zip (Array.replicate q Value.none).toList := by
      rw [this.2.2]; exact List.getElem_mem _
    have h5 := List.of_mem_zip hm
    have e1 : u = Value.none := by
      have := h5.1
      rw [Array.toList_replicate] at this
      exact List.eq_of_mem_replicate this
    have e2 : v = Value.none := by
      have := h5.2
      rw [Array.toList_replicate] at this
      exact List.eq_of_mem_replicate this
    show (u, v) = _
    rw [e1, e2]

def swapKey (f : Nat → Value) (x : Keyed) : Keyed := (match x.1 with | .ref i => f i | v => v, x.2)

theorem lt_wp {x y : Keyed} {st : SortSt} {s : Shared} {Q : Option Bool × SortSt → Pos → Shared → Prop} : Sem.wp M Γ ((lt' x y).run st) Q E p s
    = Sem.wp M Γ (keyLt' (kindOf st) x.1 y.1) (fun b p1 s1 => Q (some b, st) p1 s1) (fun e p1 s1 => Q (none, SortSt.mk' (kindOf st) (arrOf st) (pendingOf st) (gallopOf st) (some e)) p1 s1) p s := by
  rw [lt'_eq, StateT.run_bind, Sem.wp_bind', StateT.run_get, Sem.wp_pure', StateT.run_bind, Sem.wp_bind']
  show Sem.wp M Γ ((keyLt' (kindOf st) x.1 y.1).attempt >>= fun a => pure (a, st)) _ _ _ _ = _
  rw [Sem.wp_bind', Sem.wp_attempt]
  rfl
theorem simLt_of {s : Shared} {kd : SortKind} (H : Stands s'.heap rk) (f : Nat → Value)
    (real : ∀ i j r q, rk i = some r → rk j = some q → ∀ (p : Pos) (R : Bool → Pos → Shared → Prop), (∀ p', R (decide (r < q)) p' s) → Sem.wp M Γ (keyLt' kd (f i) (f j)) R (fun _ _ _ => False) p s) :
    SimLt M Γ s s' kd (tuples' false) (swapKey f) := by
  intro x y st p p' Q hk hw
  rw [lt_wp, hk] at hw
  obtain ⟨i, j, r, q, e1, e2, h1, h2, hq⟩ := lt_stand H hw
  rw [lt_wp]
  have hq' : Q (some (decide (r < q))) st p' s' := hq
  have ex : (swapKey f x).1 = f i := by unfold swapKey; rw [e1]
  have ey : (swapKey f y).1 = f j := by unfold swapKey; rw [e2]
  rw [ex, ey]
  refine Sem.wp_mono M Γ _ (fun _ _ _ h => h) (fun _ _ _ h => h.elim) p s (real i j r q h1 h2 p _ fun p1 => ?_)
  exact ⟨rfl, _, st, p', rfl, rfl, hk, hq'⟩
end
end L2

namespace L2
open PySem PyProof.Rows PySem.W
set_option autoImplicit false

@[reducible] def natOrd : KeyOrd where
  α := Nat
  blt := fun a b => decide (a < b)
  irrefl := fun a => by simp
  trans := fun a b c h1 h2 => by simp at *; omega
  negTrans := fun a b c h => by simp at *; omega
  total := fun a b h1 h2 => by simp at *; omega

def rankOf (O : KeyOrd) (as : List O.α) (a : O.α) : Nat := (as.filter fun x => O.blt x a).length
theorem filter_len_le {α : Type} {p q : α → Bool} : ∀ (l : List α), (∀ x ∈ l, p x = true → q x = true) → (l.filter p).length ≤ (l.filter q).length
  | [], _ => Nat.le_refl _
  | x :: l, h => by
    have ih := filter_len_le l fun y hy => h y (List.mem_cons_of_mem _ hy)
    have hx := h x List.mem_cons_self
    rw [List.filter_cons, List.filter_cons]
    cases hp : p x with
    | true => rw [hx hp, if_pos rfl, if_pos rfl, List.length_cons, List.length_cons]; omega
    | false =>
      rw [if_neg Bool.false_ne_true]
      split
      · rw [List.length_cons]; omega
      · exact ih
theorem filter_len_lt {α : Type} {p q : α → Bool} {z : α} : ∀ (l : List α), (∀ x ∈ l, p x = true → q x = true) → z ∈ l → p z = false → q z = true → (l.filter p).length < (l.filter q).length
  | x :: l, h, hz, hp, hq => by
    have hle := filter_len_le l fun y hy => h y (List.mem_cons_of_mem _ hy)
    have hx := h x List.mem_cons_self
    rw [List.filter_cons, List.filter_cons]
    rcases List.mem_cons.mp hz with e | hz'
    · subst e
      rw [hp, hq, if_neg Bool.false_ne_true, if_pos rfl, List.length_cons]; omega
    · have ih := filter_len_lt l (fun y hy => h y (List.mem_cons_of_mem _ hy)) hz' hp hq
      cases hp' : p x with
      | true => rw [hx hp', if_pos rfl, if_pos rfl, List.length_cons, List.length_cons]; omega
      | false =>
        rw [if_neg Bool.false_ne_true]
        split
        · rw [List.length_cons]; omega
        · exact ih
theorem rank_lt {O : KeyOrd} {as : List O.α} {a b : O.α} (ha : a ∈ as) : O.blt a b = decide (rankOf O as a < rankOf O as b) := by
  cases h : O.blt a b with
  | true =>
    refine (decide_eq_true ?_).symm
    exact filter_len_lt as (fun x _ hx => O.trans x a b hx h) ha (O.irrefl a) h
  | false =>
    refine (decide_eq_false ?_).symm
    refine Nat.not_lt.mpr (filter_len_le as fun x _ hx => ?_)
    rcases O.negTrans x a b hx with q | q
    · exact q
    · rw [h] at q; cases q

section
variable {prog : Program} {w : World} {A : Around} {E : Value → Shared → Prop} {s : Shared}

theorem kat_nones {b fin : Bool} {Q : Bool → Shared → Prop} (h : Q fin s) : ∀ (l : List (Value × Value)) (i : Nat), (∀ q ∈ l, q = (Value.none, Value.none)) → KatLex prog w A b fin Q l i s
  | [], i, _ => kat_nil h
  | x :: l, i, hl => by
    rw [hl x List.mem_cons_self]
    have g : KatGo prog w A b fin Q Value.none Value.none l i true s := kat_yes (kat_nones h l (i + 1) fun q hq => hl q (List.mem_cons_of_mem _ hq))
    exact kat_cons fun Γ p _ => g

theorem zip_nones {r q : Nat} : ∀ z ∈ (Array.replicate r Value.none).toList.zip (Array.replicate q Value.none).toList, z = (Value.none, Value.none) := fun z hz => by
  obtain ⟨u, v⟩ := z
  have h5 := List.of_mem_zip hz
  rw [Array.toList_replicate, Array.toList_replicate] at h5
  rw [List.eq_of_mem_replicate h5.1, List.eq_of_mem_replicate h5.2]

@[reducible] def standKind (rk : Nat → Option Nat) : KeyKind where
  toKeyOrd := natOrd
  keyOf := fun v => match v with | .ref i => rk i | _ => none
  dflt := (0 : Nat)

theorem stand_ltAt {rk : Nat → Option Nat} (H : Stands s.heap rk) (b : Bool) : PyProof.Rows.G.LtAt prog w s (standKind rk) (tuples' b) := by
  intro A E x y r q Q hx hy hq
  cases x with
  | ref i =>
    cases y with
    | ref j =>
      have hi : rk i = some r := hx
      have hj : rk j = some q := hy
      have oi : s.heap.get? i = some (standObj r) := by rw [H i, hi]; rfl
      have oj : s.heap.get? j = some (standObj q) := by rw [H j, hj]; rfl
      refine kat_lt oi rfl oj rfl (kat_nones ?_ _ 0 zip_nones)
      rw [Array.size_replicate, Array.size_replicate]
      exact hq
    | _ => cases hy
  | _ => cases hx

def standHeap (rs : List Nat) : Heap := { objs := (rs.map standObj).toArray }
theorem standHeap_is (rs : List Nat) : Stands (standHeap rs) fun i => rs[i]? := fun i => by
  unfold standHeap Heap.get?
  dsimp only
  rw [List.getElem?_toArray, List.getElem?_map]
  cases rs[i]? with
  | none => rfl
  | some r => rfl

def swapped (ks vs : List Value) (i : Nat) : Keyed := (ks.getD i Value.none, vs.getD i Value.none)

theorem sort_any {O : KeyOrd} {kd : SortKind} {ks vs : List Value} {as : List O.α} {Q : Unit → SortSt → Prop} (hk : ks.length = as.length) (hv : vs.length = as.length) (h2 : 2 ≤ as.length)
    (real : ∀ (i j : Nat) (a b : O.α), as[i]? = some a → as[j]? = some b → ∀ (E : Value → Shared → Prop) (Q : Bool → Shared → Prop), Q (O.blt a b) s → wpAny (model prog w) A (keyLt' kd (ks.getD i Value.none) (ks.getD j Value.none)) Q E s)
    (h : ∀ (idx : List Nat) (pend : Array (Nat × Nat × Nat)) (gal : Nat), idx.Perm (List.range as.length) → (idx.Pairwise fun i j => ∀ a b, as[i]? = some a → as[j]? = some b → O.kle a b) →
      Q () (SortSt.mk' kd (idx.map (swapped ks vs)).toArray pend gal none)) :
    wpS (model prog w) A E s sortRuns' Q (SortSt.mk' kd ((List.range as.length).map (swapped ks vs)).toArray #[] 7 none) := by
  have H := standHeap_is (as.map (rankOf O as))
  let s' : Shared := { s with heap := standHeap (as.map (rankOf O as)) }
  let rk : Nat → Option Nat := fun i => (as.map (rankOf O as))[i]?
  have hrk : ∀ i, rk i = (as[i]?).map (rankOf O as) := fun i => List.getElem?_map
  let pair : Nat → Keyed := fun i => (Value.ref i, vs.getD i Value.none)
  let a₀ : Array Keyed := ((List.range as.length).map pair).toArray
  have hsz : a₀.size = as.length := by simp [a₀]
  have h0 : KeysOf (standKind rk) a₀ := fun p hp => by
    obtain ⟨i, hi, rfl⟩ := List.mem_map.mp hp
    have hi := List.mem_range.mp hi
    exact ⟨rankOf O as as[i], by show rk i = _; rw [hrk, List.getElem?_eq_getElem hi]; rfl⟩
  have lib := PyProof.Rows.G.wpS_sortRunsSt (prog := prog) (w := w) (A := A) (E := fun _ _ => False) (s := s') (a₀ := a₀) (κ := standKind rk) (kd := tuples' false) (st := SortSt.mk' (tuples' false) a₀ #[] 7 none)
    (Q := fun _ st => (arrOf st).Perm a₀ ∧ failedOf st = none ∧ SortedToK (standKind rk) (arrOf st) a₀.size)
    (stand_ltAt H false) h0 ⟨Array.Perm.refl _, rfl, rfl⟩ rfl (Stable.refl _) (by rw [hsz]; exact h2) fun st' p1 p2 p3 _ => ⟨p1, p2, p3⟩
  unfold wpS at lib ⊢
  intro Γ p hΓ
  have HB : SimLt (model prog w) Γ s s' kd (tuples' false) (swapKey fun i => ks.getD i Value.none) := by
    refine simLt_of H _ fun i j r q hi hj p R hR => ?_
    have hi' : rk i = some r := hi
    have hj' : rk j = some q := hj
    rw [hrk] at hi' hj'
    obtain ⟨a, ha, rfl⟩ := Option.map_eq_some_iff.mp hi'
    obtain ⟨b, hb, rfl⟩ := Option.map_eq_some_iff.mp hj'
    refine Sem.wp_mono _ Γ _ (fun c p1 s1 hc => ?_) (fun _ _ _ x => x) p s (real i j a b ha hb (fun _ _ => False) (fun c s1 => c = decide (rankOf O as a < rankOf O as b) ∧ s1 = s) ⟨rank_lt (List.mem_of_getElem? ha), rfl⟩ Γ p hΓ)
    obtain ⟨rfl, rfl⟩ := hc
    exact hR p1
  have sim := sim_runs HB (SortSt.mk' (tuples' false) a₀ #[] 7 none) p p (fun _ st _ s1 => s1 = s' ∧ ((arrOf st).Perm a₀ ∧ failedOf st = none ∧ SortedToK (standKind rk) (arrOf st) a₀.size)) rfl (lib Γ p hΓ)
  have emap : ∀ l : List Nat, ((l.map pair).toArray).map (swapKey fun i => ks.getD i Value.none) = (l.map (swapped ks vs)).toArray := fun l => by
    rw [List.map_toArray, List.map_map]; rfl
  have est : mapSt kd (swapKey fun i => ks.getD i Value.none) (SortSt.mk' (tuples' false) a₀ #[] 7 none) = SortSt.mk' kd ((List.range as.length).map (swapped ks vs)).toArray #[] 7 none := by
    show SortSt.mk' kd (a₀.map _) _ _ _ = _
    rw [emap]
  rw [est] at sim
  refine Sem.wp_mono _ Γ _ (fun r p1 s1 hc => ?_) (fun _ _ _ x => x.elim) p s sim
  obtain ⟨e, a', st', q1, _, e2, _, _, p1, p2, p3⟩ := hc
  refine ⟨e, ?_⟩
  obtain ⟨idx, eidx⟩ : ∃ idx : List Nat, arrOf st' = (idx.map pair).toArray := by
    have hm : ∀ x ∈ (arrOf st').toList, ∃ i, x = pair i := fun x hx => by
      have := (Array.Perm.mem_iff p1).mp (Array.mem_toList_iff.mp hx)
      have : x ∈ (List.range as.length).map pair := by simpa [a₀] using this
      obtain ⟨i, _, e⟩ := List.mem_map.mp this
      exact ⟨i, e.symm⟩
    have : ∀ l : List Keyed, (∀ x ∈ l, ∃ i, x = pair i) → ∃ idx : List Nat, l = idx.map pair := fun l => by
      induction l with
      | nil => exact fun _ => ⟨[], rfl⟩
      | cons x l ih =>
        intro h
        obtain ⟨i, rfl⟩ := h x List.mem_cons_self
        obtain ⟨idx, rfl⟩ := ih fun y hy => h y (List.mem_cons_of_mem _ hy)
        exact ⟨i :: idx, rfl⟩
    obtain ⟨idx, e⟩ := this _ hm
    exact ⟨idx, by rw [← e]⟩
  have inj : ∀ i j, pair i = pair j → i = j := fun i j e => by
    have := congrArg (fun x : Keyed => x.1) e
    injection this
  have hperm : idx.Perm (List.range as.length) := by
    have p4 : (idx.map pair).Perm ((List.range as.length).map pair) := by
      have := Array.perm_iff_toList_perm.mp p1
      rw [eidx] at this
      exact this
    have := p4.map (fun x : Keyed => match x.1 with | .ref i => i | _ => 0)
    rw [List.map_map, List.map_map] at this
    have e3 : ∀ l : List Nat, l.map ((fun x : Keyed => match x.1 with | .ref i => i | _ => 0) ∘ pair) = l := fun l => by
      conv => rhs; rw [← List.map_id l]
      rfl
    rw [e3, e3] at this
    exact this
  have er : r.2 = SortSt.mk' kd (idx.map (swapped ks vs)).toArray (pendingOf st') (gallopOf st') none := by
    rw [e2]
    show SortSt.mk' kd ((arrOf st').map _) _ _ (failedOf st') = _
    rw [eidx, emap, p2]
  rw [er]
  refine h idx _ _ hperm ?_
  rw [hsz] at p3
  refine List.pairwise_iff_getElem.mpr fun i j hi hj hij a b ha hb => ?_
  have hl : idx.length = as.length := by rw [hperm.length_eq, List.length_range]
  have := p3 i j (Nat.le_of_lt hij) (by omega)
  have kk : ∀ (i : Nat) (hi : i < idx.length) (a : O.α), as[idx[i]]? = some a → KK (standKind rk) (arrOf st') i = rankOf O as a := fun i hi a ha => by
    unfold KK
    rw [eidx, List.getElem?_toArray, List.getElem?_map, List.getElem?_eq_getElem hi]
    show ((rk idx[i]).getD 0 : Nat) = _
    rw [hrk, ha]; rfl
  rw [kk i hi a ha, kk j hj b hb] at this
  have hnl : ¬ rankOf O as b < rankOf O as a := by
    have : decide (rankOf O as b < rankOf O as a) = false := this
    simpa using this
  show O.blt b a = false
  rw [rank_lt (List.mem_of_getElem? hb)]
  exact decide_eq_false hnl
end
end L2

namespace L2
open PySem PyProof.Rows PySem.W
set_option autoImplicit false

@[reducible] def intOrd : KeyOrd where
  α := Int
  blt := fun a b => decide (a < b)
  irrefl := fun a => by simp
  trans := fun a b c h1 h2 => by simp at *; omega
  negTrans := fun a b c h => by simp at *; omega
  total := fun a b h1 h2 => by simp at *; omega
@[reducible] def lexOrd : KeyOrd := PyProof.Rows.listOrd intOrd
abbrev lexL : List Int → List Int → Bool := PyProof.Rows.lexLt intOrd
theorem lexL_same (x : Int) (r t : List Int) : lexL (x :: r) (x :: t) = lexL r t := by
  show PyProof.Rows.lexLt intOrd (x :: r) (x :: t) = _
  rw [PyProof.Rows.lex_cons]; simp
theorem lexL_diff {x y : Int} (h : x ≠ y) (r t : List Int) : lexL (x :: r) (y :: t) = decide (x < y) := by
  show PyProof.Rows.lexLt intOrd (x :: r) (y :: t) = _
  rw [PyProof.Rows.lex_cons]
  by_cases q : x < y
  · simp [q]
  · have : y < x := by omega
    simp [q, this]

section
variable {prog : Program} {w : World} {A : Around} {E : Value → Shared → Prop} {s : Shared}
abbrev TupI (prog : Program) (w : World) (h : Heap) (l : List Int) (a : Addr) : Prop := IsTupleKey (PySem.intKind prog w) h l a

theorem tuple_lt_tree {x y : List Int} {a b : Addr} {P : PySem.Fin → Shared → Prop} (hx : TupI prog w s.heap x a) (hy : TupI prog w s.heap y b) (h : P (.done (.ret (.bool (lexL x y)))) s) :
    wpAny (model prog w) A (Builtin.«tuple.__lt__» ⟨[.ref a, .ref b], []⟩) P E s := by
  have hTb := hy.typeIs
  obtain ⟨oa, xs, na, hoa, _, hda, hia⟩ := hx
  obtain ⟨ob, ys, nb, hob, _, hdb, hib⟩ := hy
  show wpAny _ _ (isInstance (.ref b) (.type "tuple") >>= _) _ _ s
  refine wpAny_bind (wpAny_isInstance hTb isSubtype_tuple_tuple ?_)
  simp only [Bool.not_true, Bool.false_eq_true, if_false]
  refine wpAny_bind (wpAny_tupleItemsOf hoa hda ?_)
  refine wpAny_bind (wpAny_tupleItemsOf hob hdb ?_)
  refine wpAny_bind ?_
  refine wpAny_forIn_list _
    (fun rest r s' => r.1 = none ∧ s' = s ∧ ∃ x' y' xs' ys', rest = List.zip xs' ys' ∧ ItemsAre (PySem.intKind prog w) x' xs' ∧ ItemsAre (PySem.intKind prog w) y' ys' ∧ lexL x' y' = lexL x y ∧ decide (xs'.length < ys'.length) = decide (xs.size < ys.size))
    _ ?_ ?_ _ _ ⟨rfl, rfl, x, y, xs.toList, ys.toList, rfl, hia, hib, rfl, by simp⟩
  · rintro ⟨u, v⟩ rest r s' ⟨hr, rfl, x', y', xs', ys', hz, hx', hy', hdec, hlen⟩
    cases hx' with
    | nil => simp at hz
    | @cons k1 u' x'' xs'' h1 hx'' =>
      cases hy' with
      | nil => simp at hz
      | @cons k2 v' y'' ys'' h2 hy'' =>
        simp only [List.zip_cons_cons, List.cons.injEq, Prod.mk.injEq] at hz
        obtain ⟨⟨rfl, rfl⟩, rfl⟩ := hz
        refine wpAny_bind ((PySem.intKind prog w).eqBool (a := k1) (b := k2) h1 h2 ?_)
        by_cases hk : k1 = k2
        · subst hk
          rw [decide_eq_true rfl]
          simp only [Bool.not_true, Bool.false_eq_true, if_false]
          refine wpAny_pure ⟨rfl, rfl, x'', y'', xs'', ys'', rfl, hx'', hy'', ?_, by simpa using hlen⟩
          rw [← hdec, lexL_same]
        · rw [decide_eq_false hk]
          simp only [Bool.not_false, if_true]
          rw [← hdec, lexL_diff hk] at h
          obtain ⟨t1, rfl⟩ := Value.isInt_shape h1
          obtain ⟨t2, rfl⟩ := Value.isInt_shape h2
          refine wpAny_bind (wpAny_rule ?_)
          refine wpAny_bind (show wpAny (model prog w) A (richCompare .Lt (.int k1 t1) (.int k2 t2)) _ E s' from PySem.P.lt_int ?_)
          exact wpAny_bind (wpAny_pure (wpAny_pure (wpAny_pure h)))
  · rintro ⟨r1, r2⟩ s' ⟨hr, rfl, x', y', xs', ys', hz, hx', hy', hdec, hlen⟩
    simp only at hr
    subst hr
    refine wpAny_pure ?_
    have hfin : decide (xs.size < ys.size) = lexL x y := by
      rw [← hdec, ← hlen]
      cases hx' with
      | nil =>
        cases hy' with
        | nil => rfl
        | cons _ _ => simp [lexL, PyProof.Rows.lexLt]
      | cons _ _ =>
        cases hy' with
        | nil => simp [lexL, PyProof.Rows.lexLt]
        | cons _ _ => simp at hz
    show P (.done (.ret (.bool (decide (xs.size < ys.size))))) s'
    rw [hfin]; exact h

theorem call_tuple_lt {x y : List Int} {a b : Addr} {Q : Value → Shared → Prop} (hx : TupI prog w s.heap x a) (hy : TupI prog w s.heap y b) (h : Q (.bool (lexL x y)) s) :
    wpAny (model prog w) A (call (.builtin "tuple.__lt__") [.ref a, .ref b]) Q E s :=
  wpAny_call_entry F.slot_tuple_lt hx.typeIs F.entry_tuple_lt (tuple_lt_tree hx hy ⟨_, rfl, h⟩) (F.args_tuple_lt_2 _ _)
theorem rich_tuple_lt {x y : List Int} {a b : Addr} {Q : Value → Shared → Prop} (hu : A.units < cLine) (hx : TupI prog w s.heap x a) (hy : TupI prog w s.heap y b) (h : Q (.bool (lexL x y)) s) :
    wpAny (model prog w) A (richCompare .Lt (.ref a) (.ref b)) Q E s :=
  wpAny_richCompare_same_room (op := .Lt) hx.typeIs hy.typeIs F.slot_tuple_lt (call_tuple_lt hx hy ⟨(fun e => nomatch e), h⟩) hu
theorem oneLt_tup {f : Bool} {x y : List Int} {a b : Addr} {Q : Bool → Shared → Prop} (hu : A.units < cLine) (hx : TupI prog w s.heap x a) (hy : TupI prog w s.heap y b) (h : Q (lexL x y) s) :
    wpAny (model prog w) A (oneLt' f (.ref a) (.ref b)) Q E s := by
  rw [oneLt'_eq]
  cases f with
  | false =>
    simp only [Bool.false_eq_true, if_false]
    exact wpAny_bind (rich_tuple_lt hu hx hy (wpAny_truthy_bool h))
  | true =>
    simp only [if_true]
    refine wpAny_bind (wpAny_cRoomFor hu ?_)
    exact wpAny_bind (wpAny_callSpecialIfBound?_slot (name := Str.ofString "__lt__") hx.typeIs F.slot_tuple_lt (call_tuple_lt hx hy (wpAny_truthy_bool h)))

inductive KD where
  | n (i : Int) | t (l : List Int) | p (i : Int) (l : List Int)
def KD.lst : KD → List Int
  | .n i => [i]
  | .t l => l
  | .p i l => i :: l
def KD.Is (prog : Program) (w : World) (h : Heap) : KD → Value → Prop
  | .n i, v => ∃ t, v = Value.int i t
  | .t l, v => ∃ a, v = Value.ref a ∧ TupI prog w h l a
  | .p i l, v => ∃ a o t b n, v = Value.ref a ∧ h.get? a = some o ∧ o.cls = .type "tuple" ∧ o.data = .seq #[.int i t, .ref b] n ∧ TupI prog w h l b
def KD.kind : KD → Nat
  | .n _ => 0
  | .t _ => 1
  | .p _ _ => 2
def Goes (kd : SortKind) : Nat → Prop
  | 0 => kd = oneType'
  | 1 => kd = general' ∨ kd = oneType' ∨ kd = tuples' true
  | _ => kd = tuples' true

theorem kat_ints {b fin : Bool} {Q : Bool → Shared → Prop} : ∀ (ks ls : List Int) (ps qs : List Value) (i : Nat), ItemsAre (PySem.intKind prog w) ks ps → ItemsAre (PySem.intKind prog w) ls qs → fin = decide (ps.length < qs.length) → Q (lexL ks ls) s →
    KatLex prog w A b fin Q (ps.zip qs) i s
  | [], [], _, _, i, .nil, .nil, hf, h => by
    have : fin = false := by rw [hf]; rfl
    subst this; exact kat_nil h
  | [], _ :: _, _, _, i, .nil, .cons _ _, hf, h => by
    have : fin = true := by rw [hf]; exact decide_eq_true (Nat.succ_pos _)
    subst this; exact kat_nil h
  | _ :: _, [], _, _, i, .cons _ _, .nil, hf, h => by
    have : fin = false := by rw [hf]; exact decide_eq_false (Nat.not_lt_zero _)
    subst this; exact kat_nil h
  | k :: ks, l :: ls, _, _, i, .cons h1 h2, .cons h3 h4, hf, h => by
    obtain ⟨t1, rfl⟩ := Value.isInt_shape h1
    obtain ⟨t2, rfl⟩ := Value.isInt_shape h3
    rw [List.length_cons, List.length_cons, show (∀ a b : Nat, decide (a + 1 < b + 1) = decide (a < b)) from fun a b => by simp only [Nat.add_lt_add_iff_right]] at hf
    refine kat_cons (wpAny_eqBool_int ?_)
    refine kat_go (fun e => kat_yes ?_) (fun e => kat_no ?_)
    · have hnm : k = l := by simpa using e
      subst hnm
      rw [lexL_same] at h
      exact kat_ints ks ls _ _ (i + 1) h2 h4 hf h
    · have hnm : k ≠ l := by simpa using e
      rw [lexL_diff hnm] at h
      exact oneLt_any_int h

theorem goes_lt {kd : SortKind} {x y : KD} {u v : Value} {Q : Bool → Shared → Prop} (hu : A.units < cLine) (hx : x.Is prog w s.heap u) (hy : y.Is prog w s.heap v) (hk : x.kind = y.kind) (hg : Goes kd x.kind) (h : Q (lexL x.lst y.lst) s) :
    wpAny (model prog w) A (keyLt' kd u v) Q E s := by
  cases x with
  | n i =>
    cases y with
    | n j =>
      obtain ⟨t1, rfl⟩ := hx
      obtain ⟨t2, rfl⟩ := hy
      have hg : kd = oneType' := hg
      subst hg
      refine kat_lt_int ?_
      have e : lexL [i] [j] = decide (i < j) := by
        by_cases q : i = j
        · subst q; rw [lexL_same]; simp [lexL, PyProof.Rows.lexLt]
        · exact lexL_diff q _ _
      rw [← e]; exact h
    | t _ => cases hk
    | p _ _ => cases hk
  | t l =>
    cases y with
    | n j => cases hk
    | t m =>
      obtain ⟨a, rfl, ha⟩ := hx
      obtain ⟨b, rfl, hb⟩ := hy
      rcases (show kd = general' ∨ kd = oneType' ∨ kd = tuples' true from hg) with rfl | rfl | rfl
      · exact (show wpAny (model prog w) A (oneLt' false (.ref a) (.ref b)) Q E s from oneLt_tup hu ha hb h)
      · exact (show wpAny (model prog w) A (oneLt' true (.ref a) (.ref b)) Q E s from oneLt_tup hu ha hb h)
      · obtain ⟨oa, xs, na, hoa, _, hda, hia⟩ := ha
        obtain ⟨ob, ys, nb, hob, _, hdb, hib⟩ := hb
        exact kat_lt hoa hda hob hdb (kat_ints l m _ _ 0 hia hib (by rw [Array.length_toList, Array.length_toList]) h)
    | p _ _ => cases hk
  | p i l =>
    cases y with
    | n j => cases hk
    | t _ => cases hk
    | p j m =>
      obtain ⟨a, o1, t1, b1, n1, rfl, ho1, _, hd1, hb1⟩ := hx
      obtain ⟨c, o2, t2, b2, n2, rfl, ho2, _, hd2, hb2⟩ := hy
      have hg : kd = tuples' true := hg
      subst hg
      refine kat_lt ho1 hd1 ho2 hd2 ?_
      refine kat_cons (wpAny_eqBool_int ?_)
      refine kat_go (fun e => kat_yes ?_) (fun e => kat_no ?_)
      · have hnm : i = j := by simpa using e
        subst hnm
        have h : Q (lexL (i :: l) (i :: m)) s := h
        rw [lexL_same] at h
        refine kat_cons (wpAny_eqBool_tuple hu hb1 hb2 ?_)
        refine kat_go (fun e => kat_yes ?_) (fun e => kat_no ?_)
        · have hlm : l = m := of_decide_eq_true e
          subst hlm
          have e2 : lexL l l = false := lexOrd.irrefl l
          rw [e2] at h
          exact kat_nil h
        · exact oneLt_tup hu hb1 hb2 h
      · have hnm : i ≠ j := by simpa using e
        have h : Q (lexL (i :: l) (j :: m)) s := h
        rw [lexL_diff hnm] at h
        exact oneLt_any_int h
end
end L2

namespace L2
open PySem PyProof.Rows PySem.W
set_option autoImplicit false

section
variable {prog : Program} {w : World} {A : Around} {E : Value → Shared → Prop} {s : Shared}

theorem mapM_told {M : Model} {α β : Type} {f : α → Sem β} : ∀ (l : List α) (fs : List β) {Q : List β → Shared → Prop}, Paired (fun v r => ∀ (Q' : β → Shared → Prop), Q' r s → wpAny M A (f v) Q' E s) l fs → Q fs s → wpAny M A (l.mapM f) Q E s
  | _, _, _, .nil, h => by rw [List.mapM_nil]; exact wpAny_pure h
  | x :: l, r :: fs, Q, .cons h1 h2, h => by
    rw [List.mapM_cons]
    exact wpAny_bind (h1 _ (wpAny_bind (mapM_told l fs (Q := fun bs s' => wpAny M A (pure (r :: bs)) Q E s') h2 (wpAny_pure h))))

def AllIs (prog : Program) (w : World) (h : Heap) (xs : List KD) (vs : List Value) : Prop := Paired (fun x v => x.Is prog w h v) xs vs

theorem pairedAt {α β : Type} {R : α → β → Prop} : ∀ {xs : List α} {ys : List β}, Paired R xs ys → ∀ (i : Nat) (x : α), xs[i]? = some x → ∃ y, ys[i]? = some y ∧ R x y
  | _, _, .nil, i, x, h => by simp at h
  | _, _, .cons r _, 0, x, h => by simp at h; subst h; exact ⟨_, rfl, r⟩
  | _, _, .cons _ t, i + 1, x, h => by
    obtain ⟨y, h1, h2⟩ := pairedAt t i x (by simpa using h)
    exact ⟨y, by simpa using h1, h2⟩

theorem types_same {M : Model} {vs : List Value} {T : String} {Q : Option Value → Shared → Prop} (hne : vs ≠ []) (hT : ∀ v ∈ vs, s.TypeIs v T) (h : Q (some (.type T)) s) : wpAny M A (oneTypeOnly' vs.toArray) Q E s := by
  rw [oneTypeOnly'_eq, List.mapM_toArray, map_eq_pure_bind]
  refine wpAny_bind (wpAny_bind (kas_mapM (r := Value.type T) _ (fun v hv Q' hq => wpAny_typeOf (hT v hv) hq) (wpAny_pure ?_)))
  cases vs with
  | nil => exact absurd rfl hne
  | cons v vs =>
    have hall2 : ((List.map (fun _ => Value.type T) (v :: vs)).toArray.all fun x => x == Value.type T) = true := by
      simp only [List.all_toArray, List.all_map, List.all_eq_true]
      intro _ _
      exact beq_self_eq_true _
    have h0 : (List.map (fun _ => Value.type T) (v :: vs)).toArray[0]? = some (Value.type T) := by simp
    rw [h0]
    simp only [hall2, if_true]
    exact wpAny_pure h

theorem firsts_told {M : Model} : ∀ {xs : List KD} {vs : List Value}, AllIs prog w s.heap xs vs → (∀ x ∈ xs, x.kind ≠ 0) → ∃ fs : List (Option Value), Paired (fun v r => ∀ (Q' : Option Value → Shared → Prop), Q' r s → wpAny M A (firstOfTuple' v) Q' E s) vs fs ∧
    (∀ f ∈ fs, f = none ∨ ∃ i t, f = some (Value.int i t)) ∧ ((∀ x ∈ xs, x.kind = 2) → ∀ f ∈ fs, f ≠ none)
  | _, _, .nil, _ => ⟨[], .nil, (fun _ h => nomatch h), (fun _ _ h => nomatch h)⟩
  | x :: xs, v :: vs, .cons h1 h2, hk => by
    obtain ⟨fs, p, q, q2⟩ := firsts_told (M := M) h2 fun y hy => hk y (List.mem_cons_of_mem _ hy)
    have key : ∃ r : Option Value, (∀ (Q' : Option Value → Shared → Prop), Q' r s → wpAny M A (firstOfTuple' v) Q' E s) ∧ (r = none ∨ ∃ i t, r = some (Value.int i t)) ∧ (x.kind = 2 → r ≠ none) := by
      cases x with
      | n i => exact absurd rfl (hk _ List.mem_cons_self)
      | t l =>
        obtain ⟨a, rfl, ha⟩ := h1
        have hT := ha.typeIs
        obtain ⟨o, its, n, ho, _, hd, hi⟩ := ha
        refine ⟨its[0]?, fun Q' hq => ?_, ?_, fun e => nomatch e⟩
        · rw [kas_first_eq]
          refine wpAny_bind (wpAny_typeOf hT ?_)
          rw [if_neg (by decide)]
          exact wpAny_bind (listItems_at ho hd (wpAny_pure hq))
        · rw [← Array.getElem?_toList]
          generalize its.toList = il at hi
          cases hi with
          | nil => exact .inl rfl
          | @cons k v ks vs h3 h4 =>
            obtain ⟨t1, rfl⟩ := Value.isInt_shape h3
            exact .inr ⟨_, _, rfl⟩
      | p i l =>
        obtain ⟨a, o, t, b, n, rfl, ho, hc, hd, hb⟩ := h1
        refine ⟨some (Value.int i t), fun Q' hq => ?_, .inr ⟨_, _, rfl⟩, fun _ e => nomatch e⟩
        rw [kas_first_eq]
        refine wpAny_bind (wpAny_typeOf (T := "tuple") ⟨o, ho, hc⟩ ?_)
        rw [if_neg (by decide)]
        exact wpAny_bind (listItems_at ho hd (wpAny_pure hq))
    obtain ⟨r, k1, k2, k3⟩ := key
    refine ⟨r :: fs, .cons k1 p, fun f hf => ?_, fun h f hf => ?_⟩
    · rcases List.mem_cons.mp hf with rfl | hf
      · exact k2
      · exact q f hf
    · rcases List.mem_cons.mp hf with rfl | hf
      · exact k3 (h x List.mem_cons_self)
      · exact q2 (fun y hy => h y (List.mem_cons_of_mem _ hy)) f hf

theorem isI : ∀ {xs : List KD} {vs : List Value}, AllIs prog w s.heap xs vs → (∀ x ∈ xs, x.kind = 0) → ∃ ns, IntsAre vs ns
  | _, _, .nil, _ => ⟨[], .nil⟩
  | x :: xs, v :: vs, .cons h1 h2, hk => by
    obtain ⟨ns, h3⟩ := isI h2 fun y hy => hk y (List.mem_cons_of_mem _ hy)
    cases x with
    | n i => obtain ⟨t, rfl⟩ := h1; exact ⟨i :: ns, .cons i t h3⟩
    | t _ => exact absurd (hk _ List.mem_cons_self) (by simp [KD.kind])
    | p _ _ => exact absurd (hk _ List.mem_cons_self) (by simp [KD.kind])
theorem isT : ∀ {xs : List KD} {vs : List Value}, AllIs prog w s.heap xs vs → (∀ x ∈ xs, x.kind ≠ 0) → ∀ v ∈ vs, s.TypeIs v "tuple"
  | _, _, .nil, _, _, h => nomatch h
  | x :: xs, v :: vs, .cons h1 h2, hk, u, hu => by
    rcases List.mem_cons.mp hu with rfl | hu
    · cases x with
      | n i => exact absurd rfl (hk _ List.mem_cons_self)
      | t l => obtain ⟨a, rfl, ha⟩ := h1; exact ha.typeIs
      | p i l => obtain ⟨a, o, t, b, n, rfl, ho, hc, _⟩ := h1; exact ⟨o, ho, hc⟩
    · exact isT h2 (fun y hy => hk y (List.mem_cons_of_mem _ hy)) u hu

theorem kind_goes {xs : List KD} {vs : List Value} {k : Nat} {Q : SortKind → Shared → Prop} (h : AllIs prog w s.heap xs vs) (hk : ∀ x ∈ xs, x.kind = k) (h2 : 2 ≤ vs.length) (hQ : ∀ kd, Goes kd k → Q kd s) :
    wpAny (model prog w) A (keyKind' vs.toArray) Q E s := by
  have hlen : xs.length = vs.length := Paired.length h
  obtain ⟨v₁, v₂, rest, rfl⟩ : ∃ v₁ v₂ rest, vs = v₁ :: v₂ :: rest := by
    match vs, h2 with
    | [], h2 => simp at h2
    | [_], h2 => simp at h2
    | v₁ :: v₂ :: rest, _ => exact ⟨v₁, v₂, rest, rfl⟩
  obtain ⟨x0, hx0⟩ : ∃ x0, x0 ∈ xs := by
    cases xs with
    | nil => simp at hlen
    | cons x _ => exact ⟨x, List.mem_cons_self⟩
  by_cases k0 : k = 0
  · subst k0
    obtain ⟨ns, hI⟩ := isI h hk
    exact wpAny_of_eq (keyKind_ints hI) (hQ _ rfl)
  · have hk' : ∀ x ∈ xs, x.kind ≠ 0 := fun x hx => by rw [hk x hx]; exact k0
    obtain ⟨fs, p, q, q2⟩ := firsts_told (M := model prog w) (A := A) (E := E) h hk'
    have hT := isT h hk'
    have h12 : k = 1 ∨ k = 2 := by
      have := hk x0 hx0
      cases x0 <;> simp [KD.kind] at this <;> omega
    rw [kat_kind_eq, List.mapM_toArray, map_eq_pure_bind]
    refine wpAny_bind (wpAny_bind (mapM_told _ _ p (wpAny_pure ?_)))
    have hfl : fs.length = rest.length + 2 := by rw [← Paired.length p]; rfl
    by_cases ha : (fs.toArray.all fun x => x.isSome) = true
    · rw [if_pos ha]
      refine wpAny_bind (wpAny_rule ?_)
      have hall : ∀ f ∈ fs, ∃ i t, f = some (Value.int i t) := fun f hf => by
        rw [List.all_toArray, List.all_eq_true] at ha
        rcases q f hf with e | e
        · have := ha f hf; rw [e] at this; cases this
        · exact e
      rw [show fs.toArray.filterMap id = (fs.filterMap id).toArray by simp]
      refine wpAny_bind (types_same (T := "int") ?_ (fun v hv => ?_) (wpAny_pure ?_))
      · intro e
        have := congrArg List.length e
        cases hfs : fs with
        | nil => rw [hfs] at hfl; simp at hfl
        | cons f fr =>
          obtain ⟨i, t, e3⟩ := hall f (by rw [hfs]; exact List.mem_cons_self)
          rw [hfs, e3] at this
          simp at this
      · obtain ⟨f, hf, e⟩ := List.mem_filterMap.mp hv
        obtain ⟨i, t, rfl⟩ := hall f hf
        cases e
        exact typeIs_int s i t
      · have e : ((some (Value.type "int")).any fun x => x != Value.type "tuple") = true := by decide
        rw [e]
        rcases h12 with rfl | rfl
        · exact hQ _ (.inr (.inr rfl))
        · exact hQ _ rfl
    · rw [if_neg ha]
      have k1 : k = 1 := by
        rcases h12 with e | e
        · exact e
        · exfalso
          apply ha
          rw [List.all_toArray, List.all_eq_true]
          intro f hf
          cases hfo : f with
          | none => exact absurd hfo (q2 (fun x hx => by rw [hk x hx]; exact e) f hf)
          | some _ => rfl
      subst k1
      refine wpAny_ite ?_
      split
      · exact wpAny_pure (hQ _ (.inl rfl))
      · refine wpAny_bind (types_same (T := "tuple") (by simp) hT (wpAny_pure ?_))
        exact hQ _ (.inr (.inl rfl))
end
end L2

namespace L2
open PySem PyProof.Rows PySem.W
set_option autoImplicit false
set_option maxHeartbeats 1000000

theorem tupI_keep {prog : Program} {w : World} {h h' : Heap} (k : G.KeepsTups h h') {l : List Int} {a : Addr} (x : TupI prog w h l a) : TupI prog w h' l a := by
  obtain ⟨o, its, n, ho, hc, r⟩ := x
  exact ⟨o, its, n, k a o ho hc, hc, r⟩
theorem KD.Is.keep {prog : Program} {w : World} {h h' : Heap} (k : G.KeepsTups h h') {x : KD} {v : Value} (i : x.Is prog w h v) : x.Is prog w h' v := by
  cases x with
  | n i => exact i
  | t l => obtain ⟨a, e, ha⟩ := i; exact ⟨a, e, tupI_keep k ha⟩
  | p j l =>
    obtain ⟨a, o, t, b, n, e, ho, hc, hd, hb⟩ := i
    exact ⟨a, o, t, b, n, e, k a o ho hc, hc, hd, tupI_keep k hb⟩
theorem AllIs.keep {prog : Program} {w : World} {h h' : Heap} (k : G.KeepsTups h h') : ∀ {xs : List KD} {vs : List Value}, AllIs prog w h xs vs → AllIs prog w h' xs vs
  | _, _, .nil => .nil
  | _, _, .cons a b => .cons (KD.Is.keep k a) (AllIs.keep k b)

def Order (xs : List KD) (idx : List Nat) : Prop := idx.Perm (List.range xs.length) ∧ idx.Pairwise fun i j => ∀ x y, xs[i]? = some x → xs[j]? = some y → lexL y.lst x.lst = false
def byOrder (vs : List Value) (idx : List Nat) : List Value := idx.map fun i => vs.getD i Value.none

section
variable {prog : Program} {w : World} {A : Around} {E : Value → Shared → Prop} {s : Shared}

theorem sort_goes {xs : List KD} {vs : List Value} {k : Nat} {kd : SortKind} {Q : Unit → SortSt → Prop} (hu : A.units < cLine) (h : AllIs prog w s.heap xs vs) (hk : ∀ x ∈ xs, x.kind = k) (hg : Goes kd k) (h2 : 2 ≤ vs.length)
    (hQ : ∀ (idx : List Nat) (pend : Array (Nat × Nat × Nat)) (gal : Nat), Order xs idx → Q () (SortSt.mk' kd (idx.map (swapped vs vs)).toArray pend gal none)) :
    wpS (model prog w) A E s sortRuns' Q (SortSt.mk' kd ((List.range xs.length).map (swapped vs vs)).toArray #[] 7 none) := by
  have hlen : xs.length = vs.length := Paired.length h
  have hm : (xs.map KD.lst).length = xs.length := List.length_map ..
  have main := sort_any (O := lexOrd) (kd := kd) (ks := vs) (vs := vs) (as := xs.map KD.lst) (Q := Q) (prog := prog) (w := w) (A := A) (E := E) (s := s) (by rw [hm, hlen]) (by rw [hm, hlen]) (by rw [hm, hlen]; exact h2)
    (fun i j a b ha hb E Q hq => by
      rw [List.getElem?_map] at ha hb
      obtain ⟨x, hx, rfl⟩ := Option.map_eq_some_iff.mp ha
      obtain ⟨y, hy, rfl⟩ := Option.map_eq_some_iff.mp hb
      obtain ⟨u, hu1, iu⟩ := pairedAt h i x hx
      obtain ⟨v, hv1, iv⟩ := pairedAt h j y hy
      rw [List.getD_eq_getElem?_getD, List.getD_eq_getElem?_getD, hu1, hv1]
      have kx := hk x (List.mem_of_getElem? hx)
      have ky := hk y (List.mem_of_getElem? hy)
      exact goes_lt hu iu iv (kx.trans ky.symm) (kx ▸ hg) hq)
    (fun idx pend gal hp hs => hQ idx pend gal ⟨by rw [hm] at hp; exact hp, hs.imp fun {i j} hij (x y : KD) hx hy => hij x.lst y.lst (by rw [List.getElem?_map, hx]; rfl) (by rw [List.getElem?_map, hy]; rfl)⟩)
  rw [hm] at main
  exact main

theorem swap_vals (vs : List Value) (idx : List Nat) : ((idx.map (swapped vs vs)).toArray).map (·.2) = (byOrder vs idx).toArray := by
  rw [List.map_toArray, List.map_map]; rfl
theorem swap_pairs {xs : List KD} {vs : List Value} (h : xs.length = vs.length) : ((List.range xs.length).map (swapped vs vs)).toArray = vs.toArray.zip vs.toArray := by
  rw [h, List.zip_toArray]
  congr 1
  refine List.ext_getElem? fun i => ?_
  rw [List.getElem?_map]
  rcases Nat.lt_or_ge i vs.length with q | q
  · rw [List.getElem?_range q, List.getElem?_eq_getElem (by rw [List.length_zip]; omega), List.getElem_zip]
    show some (swapped vs vs i) = _
    unfold swapped
    rw [List.getD_eq_getElem?_getD, List.getElem?_eq_getElem q]; rfl
  · rw [List.getElem?_eq_none (by rw [List.length_range]; exact q), List.getElem?_eq_none (by rw [List.length_zip]; omega)]; rfl

theorem sort_list {a : Addr} {xs : List KD} {vs : List Value} {n k : Nat} {P : PySem.Fin → Shared → Prop} (hu : A.units < cLine) (ho : s.heap.get? a = some (seqObj "list" vs.toArray n)) (h : AllIs prog w s.heap xs vs) (hk : ∀ x ∈ xs, x.kind = k) (hz : vs.length ≤ sizeLine)
    (hP : ∀ idx, Order xs idx → P (.done (.ret .none)) { s with heap := sortedHeap s.heap a vs (byOrder vs idx).toArray }) : wpAny (model prog w) A (Builtin.«list.sort» ⟨[.ref a], []⟩) P E s := by
  have hlen : xs.length = vs.length := Paired.length h
  have al : a < s.heap.objs.size := Heap.lt_size ho
  have hsz : vs.toArray.size = vs.length := by simp
  rw [list_sort_plain]
  refine wpAny_bind (listItems_at ho rfl (wpAny_bind (listUpdate_at ho rfl ?_)))
  obtain ⟨e1, ho1⟩ : ∃ e1, (s.heap.update a (Obj.mapSeq fun _ => #[])).get? a = some (seqObj "list" #[] e1) := ⟨_, get?_update_seq ho (fun _ => #[])⟩
  refine wpAny_bind (seqEpoch_at ho1 rfl (wpAny_bind (wpAny_newTuple (wpAny_bind (wpAny_newList (wpAny_holding ?_))))))
  have ho6 : (G.sortHeap6 s.heap a vs).get? a = some (seqObj "list" #[] e1) := by
    unfold G.sortHeap6
    rw [Heap.get?_push_ne _ _ _ (by rw [size_push', Heap.size_update]; exact Nat.ne_of_lt (Nat.lt_succ_of_lt al)), Heap.get?_push_ne _ _ _ (by rw [Heap.size_update]; exact Nat.ne_of_lt al)]
    exact ho1
  show wpAny (model prog w) A _ P E { s with heap := G.sortHeap6 s.heap a vs }
  have h6 : AllIs prog w (G.sortHeap6 s.heap a vs) xs vs := h.keep (G.keeps_sort6 ho)
  dsimp only
  by_cases h2 : vs.toArray.size < 2
  · rw [if_pos h2, if_pos h2]
    refine wpAny_bind (wpAny_pure ?_)
    rw [StateT.run_pure]
    refine wpAny_bind (wpAny_pure ?_)
    dsimp only
    refine wpAny_bind (seqEpoch_at ho6 rfl (wpAny_bind (listUpdate_at ho6 rfl ?_ (hsz2 := by rw [Array.size_map]; show (vs.toArray.zip vs.toArray).size ≤ _; rw [Array.size_zip]; omega))))
    simp only [bne_self_eq_false, Bool.false_eq_true, if_false]
    refine wpAny_pure ?_
    have := hP (List.range xs.length) ⟨.refl _, ?_⟩
    · rw [← swap_vals, swap_pairs hlen] at this
      exact this
    · refine List.pairwise_lt_range.imp_of_mem fun {i j} hi hj hij => ?_
      have := List.mem_range.mp hj
      omega
  · rw [if_neg h2, if_neg h2]
    refine wpAny_bind (kind_goes (s := { s with heap := G.sortHeap6 s.heap a vs }) h6 hk (by omega) fun kd hg => ?_)
    rw [← swap_pairs hlen]
    refine wpAny_bind (wpAny_mono (sort_goes (s := { s with heap := G.sortHeap6 s.heap a vs }) (Q := fun _ st => ∃ idx pend gal, Order xs idx ∧ st = SortSt.mk' kd (idx.map (swapped vs vs)).toArray pend gal none) hu h6 hk hg (by omega) fun idx pend gal ho => ⟨idx, pend, gal, ho, rfl⟩) ?_ fun _ _ e => e)
    rintro ⟨⟨⟩, st⟩ s2 ⟨rfl, idx, pend, gal, hor, rfl⟩
    dsimp only
    refine wpAny_bind (seqEpoch_at ho6 rfl (wpAny_bind (listUpdate_at ho6 rfl ?_ (hsz2 := ?_))))
    · simp only [bne_self_eq_false, Bool.false_eq_true, if_false]
      refine wpAny_pure ?_
      have := hP idx hor
      rw [← swap_vals] at this
      exact this
    · rw [swap_vals]
      have := hor.1.length_eq
      rw [List.length_range] at this
      show (byOrder vs idx).toArray.size ≤ _
      unfold byOrder
      simp; omega
end
end L2

namespace L2
open PySem PyProof.Rows PySem.W
set_option autoImplicit false
set_option maxHeartbeats 1000000

def Rises (zs : List KD) : Prop := zs.Pairwise fun x y => lexL y.lst x.lst = false
theorem paired_perm {α β : Type} {R : α → β → Prop} {us vs : List β} (p : us.Perm vs) : ∀ {xs : List α}, Paired R xs us → ∃ ys : List α, ys.Perm xs ∧ Paired R ys vs := by
  induction p with
  | nil => intro xs h; cases h; exact ⟨[], .refl _, .nil⟩
  | cons b _ ih =>
    intro xs h
    cases h with
    | cons r t =>
      obtain ⟨ys, p1, p2⟩ := ih t
      exact ⟨_ :: ys, p1.cons _, .cons r p2⟩
  | swap b c l =>
    intro xs h
    cases h with
    | cons r t =>
      cases t with
      | cons r2 t2 => exact ⟨_, List.Perm.swap _ _ _, .cons r2 (.cons r t2)⟩
  | trans _ _ ih1 ih2 =>
    intro xs h
    obtain ⟨ys, p1, p2⟩ := ih1 h
    obtain ⟨zs, p3, p4⟩ := ih2 p2
    exact ⟨zs, p3.trans p1, p4⟩

theorem pairPick {α : Type} {R : α → Value → Prop} {as : List α} {vs : List Value} (H : Paired R as vs) : ∀ idx : List Nat, (∀ i ∈ idx, i < as.length) → Paired R (idx.filterMap (as[·]?)) (byOrder vs idx)
  | [], _ => .nil
  | i :: idx, hi => by
    have e : as[i]? = some (as[i]'(hi i List.mem_cons_self)) := List.getElem?_eq_getElem _
    obtain ⟨u, hu, iu⟩ := pairedAt H i _ e
    rw [List.filterMap_cons_some e]
    show Paired _ _ (vs.getD i Value.none :: byOrder vs idx)
    rw [List.getD_eq_getElem?_getD, hu]
    exact .cons iu (pairPick H idx fun j hj => hi j (List.mem_cons_of_mem _ hj))
theorem order_pick {α : Type} {R : α → Value → Prop} {f : α → KD} {as : List α} {vs : List Value} {idx : List Nat} (H : Paired R as vs) (O : Order (as.map f) idx) : ∃ bs, bs.Perm as ∧ Rises (bs.map f) ∧ Paired R bs (byOrder vs idx) := by
  have hl : ∀ i ∈ idx, i < as.length := fun i hi => by have := List.mem_range.mp (O.1.mem_iff.mp hi); rwa [List.length_map] at this
  refine ⟨idx.filterMap (as[·]?), ?_, ?_, pairPick H idx hl⟩
  · have := O.1.filterMap (as[·]?)
    rw [List.length_map] at this
    exact this.trans (by rw [List.filterMap_getElem?_range_length])
  · refine List.pairwise_map.mpr (List.Pairwise.filterMap _ (fun i j h b hb c hc => ?_) O.2)
    exact h (f b) (f c) (by rw [List.getElem?_map, hb]; rfl) (by rw [List.getElem?_map, hc]; rfl)
theorem paired_map {α : Type} {R : α → Value → Prop} {f : α → KD} {prog : Program} {w : World} {h : Heap} (hR : ∀ a v, R a v → (f a).Is prog w h v) : ∀ {as : List α} {vs : List Value}, Paired R as vs → AllIs prog w h (as.map f) vs
  | _, _, .nil => .nil
  | _, _, .cons r t => .cons (hR _ _ r) (paired_map hR t)

section
variable {prog : Program} {w : World} {A : Around} {E : Value → Shared → Prop} {s : Shared}
structure NewL (h h' : Heap) (p : Addr) (us : List Value) : Prop where
  keep : ∀ b o, h.get? b = some o → h'.get? b = some o
  new : h.objs.size ≤ p
  at_ : ∃ e, h'.get? p = some (seqObj "list" us.toArray e)
variable {α : Type} {R : α → Value → Prop} {f : α → KD}

theorem sorted_of {v : Value} {Q : Value → Shared → Prop} (hu : A.units + 2 < cLine)
    (h : wpAny (model prog w) A.in1 (collect v) (fun vs s1 => ∃ as k, (∀ a v, R a v → (f a).Is prog w s1.heap v) ∧ Paired R as vs ∧ (∀ a ∈ as, (f a).kind = k) ∧ vs.length ≤ sizeLine ∧
      ∀ h' p bs us, NewL s1.heap h' p us → bs.Perm as → Paired R bs us → Rises (bs.map f) → Q (.ref p) { s1 with heap := h' }) E s) :
    wpAny (model prog w) A (call (.builtin "sorted") [v]) Q E s := by
  refine Calls.call_function_entry kind_sorted plain_sorted entry_sorted (args_sorted1 _) ?_
  unfold Builtin.«sorted»
  refine wpAny_bind (m := checkCount "sorted" 1 1 _) (wpAny_pure (wpAny_bind (wpAny_mono h (fun vs s1 q => ?_) fun _ _ e => e)))
  obtain ⟨as, k, hR, hx, hk, hz, hq⟩ := q
  refine wpAny_bind (wpAny_newList ?_ hz)
  have hoL : (s1.heap.push (seqObj "list" vs.toArray 0)).get? s1.heap.objs.size = some (seqObj "list" vs.toArray 0) := Heap.get?_push_size _ rfl
  have kp : G.KeepsTups s1.heap (s1.heap.push (seqObj "list" vs.toArray 0)) := G.KeepsTups.push _ _
  refine wpAny_bind (wpAny_holding (wpAny_call_entry slot_list_sort ⟨_, hoL, rfl⟩ entry_list_sort (sort_list (s := { s1 with heap := s1.heap.push (seqObj "list" vs.toArray 0) }) (xs := as.map f) (k := k) (by show A.units + 1 + 1 < cLine; omega) hoL ((paired_map hR hx).keep kp) (fun x hx => ?_) hz fun idx ho => ⟨_, rfl, ?_⟩) (args_list_sort _)))
  · obtain ⟨a, ha, rfl⟩ := List.mem_map.mp hx
    exact hk a ha
  obtain ⟨bs, z1, z2, z3⟩ := order_pick hx ho
  refine wpAny_pure ⟨_, rfl, hq _ s1.heap.objs.size bs _ ⟨fun b o e => ?_, Nat.le_refl _, sortedHeap_at hoL⟩ z1 z3 z2⟩
  have hlt : b < s1.heap.objs.size := Heap.lt_size e
  show (sortedHeap (s1.heap.push (seqObj "list" vs.toArray 0)) s1.heap.objs.size vs (byOrder vs idx).toArray).get? b = some o
  rw [sortedHeap_old (Nat.ne_of_lt hlt) (by rw [size_push']; exact Nat.lt_succ_of_lt hlt)]
  exact Heap.get?_push_of_some _ e

theorem sorted_list {l : Addr} {as : List α} {vs : List Value} {k : Nat} {Q : Value → Shared → Prop} (hu : A.units + 2 < cLine) (hl : s.heap.IsList l vs.toArray) (hR : ∀ a v, R a v → (f a).Is prog w s.heap v) (h : Paired R as vs) (hk : ∀ a ∈ as, (f a).kind = k) (hz : vs.length ≤ sizeLine)
    (hQ : ∀ h' p bs us, NewL s.heap h' p us → bs.Perm as → Paired R bs us → Rises (bs.map f) → Q (.ref p) { s with heap := h' }) : wpAny (model prog w) A (call (.builtin "sorted") [.ref l]) Q E s := by
  refine sorted_of (R := R) (f := f) hu (collect_list hl ?_ hz)
  have kp : ∀ b o, s.heap.get? b = some o → ((s.heap.push (seqObj "list" #[] 0)).update s.heap.objs.size (Obj.mapSeq (· ++ vs.toArray))).get? b = some o := fun b o e => by
    rw [Heap.get?_update_ne _ _ _ _ (Nat.ne_of_lt (Heap.lt_size e))]
    exact Heap.get?_push_of_some _ e
  refine ⟨as, k, fun a v r => (hR a v r).keep fun b o e _ => kp b o e, h, hk, hz, fun h' p bs us N p1 p2 p3 => ?_⟩
  obtain ⟨n1, n2, n3⟩ := N
  refine hQ h' p bs us ⟨fun b o e => n1 b o (kp b o e), ?_, n3⟩ p1 p2 p3
  refine Nat.le_trans ?_ n2
  rw [Heap.size_update, size_push']; exact Nat.le_succ _

theorem sorted_set {a : Addr} {es : List (Int × Value)} {as : List α} {k : Nat} {Q : Value → Shared → Prop} (hu : A.units + 2 < cLine) (hh : A.handled = none) (hS : SetAt w s.heap a es) (hR : ∀ a v, R a v → (f a).Is prog w s.heap v) (h : Paired R as (es.map (·.2))) (hk : ∀ a ∈ as, (f a).kind = k)
    (hQ : ∀ h' tk p bs us, NewL s.heap h' p us → bs.Perm as → Paired R bs us → Rises (bs.map f) → Q (.ref p) { s with heap := h', toks := tk }) : wpAny (model prog w) A (call (.builtin "sorted") [.ref a]) Q E s := by
  obtain ⟨ep, t, ho, T, hn⟩ := hS
  refine sorted_of (R := R) (f := f) hu (collect_set (by simpa using hh) ho T hn fun s1 vs kp g0 g1 g2 g3 pv => ?_)
  obtain ⟨bs, q1, q2⟩ := paired_perm pv.symm h
  refine ⟨bs, k, fun a v r => (hR a v r).keep fun b o e _ => kp b o e, q2, fun b hb => hk b (q1.mem_iff.mp hb), ?_, fun h' p cs us N p1 p2 p3 => ?_⟩
  · rw [pv.length_eq, List.length_map, sizeLine_eq]; omega
  · obtain ⟨n1, n2, n3⟩ := N
    have e : ({ s1 with heap := h' } : Shared) = { s with heap := h', toks := s1.toks } := by
      cases s1; cases s; simp only at g1 g2 g3; subst g1; subst g2; subst g3; rfl
    rw [e]
    refine hQ h' s1.toks p cs us ⟨fun b o e => n1 b o (kp b o e), ?_, n3⟩ (p1.trans q1) p2 p3
    exact Nat.le_trans g0 n2
end
end L2

namespace L2
open PySem PyProof.Rows PySem.W
set_option autoImplicit false
set_option maxHeartbeats 1000000
section
variable {prog : Program} {w : World} {A : Around} {E : Value → Shared → Prop} {s : Shared}
theorem sort_goes2 {xs : List KD} {ks vs : List Value} {k : Nat} {kd : SortKind} {Q : Unit → SortSt → Prop} (hu : A.units < cLine) (h : AllIs prog w s.heap xs ks) (hv : vs.length = xs.length) (hk : ∀ x ∈ xs, x.kind = k) (hg : Goes kd k) (h2 : 2 ≤ xs.length)
    (hQ : ∀ (idx : List Nat) (pend : Array (Nat × Nat × Nat)) (gal : Nat), Order xs idx → Q () (SortSt.mk' kd (idx.map (swapped ks vs)).toArray pend gal none)) :
    wpS (model prog w) A E s sortRuns' Q (SortSt.mk' kd ((List.range xs.length).map (swapped ks vs)).toArray #[] 7 none) := by
  have hlen : xs.length = ks.length := Paired.length h
  have hm : (xs.map KD.lst).length = xs.length := List.length_map ..
  have main := sort_any (O := lexOrd) (kd := kd) (ks := ks) (vs := vs) (as := xs.map KD.lst) (Q := Q) (prog := prog) (w := w) (A := A) (E := E) (s := s) (by rw [hm, hlen]) (by rw [hm, hv]) (by rw [hm]; exact h2)
    (fun i j a b ha hb E Q hq => by
      rw [List.getElem?_map] at ha hb
      obtain ⟨x, hx, rfl⟩ := Option.map_eq_some_iff.mp ha
      obtain ⟨y, hy, rfl⟩ := Option.map_eq_some_iff.mp hb
      obtain ⟨u, hu1, iu⟩ := pairedAt h i x hx
      obtain ⟨v, hv1, iv⟩ := pairedAt h j y hy
      rw [List.getD_eq_getElem?_getD, List.getD_eq_getElem?_getD, hu1, hv1]
      have kx := hk x (List.mem_of_getElem? hx)
      have ky := hk y (List.mem_of_getElem? hy)
      exact goes_lt hu iu iv (kx.trans ky.symm) (kx ▸ hg) hq)
    (fun idx pend gal hp hs => hQ idx pend gal ⟨by rw [hm] at hp; exact hp, hs.imp fun {i j} hij (x y : KD) hx hy => hij x.lst y.lst (by rw [List.getElem?_map, hx]; rfl) (by rw [List.getElem?_map, hy]; rfl)⟩)
  rw [hm] at main
  exact main
theorem swap_vals2 (ks vs : List Value) (idx : List Nat) : ((idx.map (swapped ks vs)).toArray).map (·.2) = (byOrder vs idx).toArray := by
  rw [List.map_toArray, List.map_map]; rfl
theorem swap_pairs2 {n : Nat} {ks vs : List Value} (h1 : ks.length = n) (h2 : vs.length = n) : ((List.range n).map (swapped ks vs)).toArray = ks.toArray.zip vs.toArray := by
  rw [List.zip_toArray]
  congr 1
  refine List.ext_getElem? fun i => ?_
  rw [List.getElem?_map]
  rcases Nat.lt_or_ge i n with q | q
  · rw [List.getElem?_range q, List.getElem?_eq_getElem (by rw [List.length_zip]; omega), List.getElem_zip]
    show some (swapped ks vs i) = _
    unfold swapped
    rw [List.getD_eq_getElem?_getD, List.getElem?_eq_getElem (by omega), List.getD_eq_getElem?_getD, List.getElem?_eq_getElem (by omega)]; rfl
  · rw [List.getElem?_eq_none (by rw [List.length_range]; exact q), List.getElem?_eq_none (by rw [List.length_zip]; omega)]; rfl

theorem key_end {a kS : Addr} {xs : List KD} {ks vs : List Value} {k e1 m : Nat} {P : PySem.Fin → Shared → Prop} (hu : A.units < cLine) (hne : a ≠ kS) (ho : s.heap.get? a = some (seqObj "list" #[] e1)) (hks : s.heap.get? kS = some (seqObj "list" ks.toArray m))
    (h : AllIs prog w s.heap xs ks) (hv : vs.length = xs.length) (hk : ∀ x ∈ xs, x.kind = k) (hz : vs.length ≤ sizeLine)
    (hP : ∀ idx, Order xs idx → P (.done (.ret .none)) { s with heap := (s.heap.update kS (Obj.mapSeq fun _ => #[])).update a (Obj.mapSeq fun _ => (byOrder vs idx).toArray) }) :
    wpAny (model prog w) A (ksk_end a false vs.toArray e1 (.ref kS) ks.toArray) P E s := by
  have hlen : xs.length = ks.length := Paired.length h
  have hsz : vs.toArray.size = vs.length := by simp
  have tail : ∀ idx pend gal kd, Order xs idx → wpAny (model prog w) A (ksk_tail a false e1 (.ref kS) (SortSt.mk' kd (idx.map (swapped ks vs)).toArray pend gal none)) P E s := fun idx pend gal kd hor => by
    unfold ksk_tail
    dsimp only
    refine wpAny_bind (listUpdate_at hks rfl (wpAny_bind (wpAny_letGo ?_)))
    have ho2 : (s.heap.update kS (Obj.mapSeq fun _ => #[])).get? a = some (seqObj "list" #[] e1) := (Heap.get?_update_other _ _ hne.symm).trans ho
    refine wpAny_bind (seqEpoch_at ho2 rfl (wpAny_bind (listUpdate_at ho2 rfl ?_ (hsz2 := ?_))))
    · simp only [bne_self_eq_false, Bool.false_eq_true, if_false]
      refine wpAny_pure ?_
      have := hP idx hor
      rw [← swap_vals2 ks] at this
      exact this
    · simp only [Bool.false_eq_true, if_false]
      rw [swap_vals2]
      have := hor.1.length_eq
      rw [List.length_range] at this
      show (byOrder vs idx).toArray.size ≤ _
      unfold byOrder
      simp; omega
  unfold ksk_end
  dsimp only
  simp only [Bool.false_eq_true, if_false]
  by_cases h2 : vs.toArray.size < 2
  · rw [if_pos h2, if_pos h2]
    refine wpAny_bind (wpAny_pure ?_)
    rw [StateT.run_pure]
    refine wpAny_bind (wpAny_pure ?_)
    dsimp only
    rw [← swap_pairs2 hlen.symm hv]
    refine tail _ _ _ _ ⟨.refl _, ?_⟩
    refine List.pairwise_lt_range.imp_of_mem fun {i j} hi hj hij => ?_
    have := List.mem_range.mp hj
    omega
  · rw [if_neg h2, if_neg h2]
    refine wpAny_bind (kind_goes h hk (by omega) fun kd hg => ?_)
    rw [← swap_pairs2 hlen.symm hv]
    refine wpAny_bind (wpAny_mono (sort_goes2 (Q := fun _ st => ∃ idx pend gal, Order xs idx ∧ st = SortSt.mk' kd (idx.map (swapped ks vs)).toArray pend gal none) hu h hv hk hg (by omega) fun idx pend gal ho => ⟨idx, pend, gal, ho, rfl⟩) ?_ fun _ _ e => e)
    rintro ⟨⟨⟩, st⟩ s2 ⟨rfl, idx, pend, gal, hor, rfl⟩
    exact tail idx pend gal kd hor
end
end L2

namespace L2
open PySem PySem.Spec PyProof.Rows

theorem codeAmong_more {pos pos' : Pos} {c cv : Value} (l : List Value) (ht : TriplesOk l) (h : codeAmong pos (l ++ [rawInt pos'.line, rawInt pos'.col, c]) = some cv) : codeAmong pos l = some cv ∨ cv = c := by
  fun_induction TriplesOk l with
  | case1 =>
    simp only [List.nil_append, codeAmong, rawInt] at h
    split at h
    · exact .inr (Option.some.inj h).symm
    · cases h
  | case2 a' t b' u x rest ih =>
    simp only [List.cons_append, codeAmong] at h ⊢
    split at h
    · rename_i e; rw [if_pos e]; exact .inl h
    · rename_i e; rw [if_neg e]; exact ih ht h
  | case3 l h1 h2 => exact ht.elim
abbrev lamO (qual : Str) (params : Arguments) (body : Expr) (scope : Scope) (pm cdv ct : Value) : Obj :=
  { cls := .type "function", data := .func (PySem.W.kla_fn "<lambda>" qual params body scope [] pm cdv ct) }
theorem CodeK.hd {K : PySem.W.Frag} {c P : Addr} {h : Heap} (C : CodeK K c P) (k : K.In h) : PySem.W.CodeHd h c P := by
  obtain ⟨⟨o, vs, file, tf, flags, tg, inF, text, tt, hk, hcl, hd, h11, h18, h7, h9, h10⟩, ne⟩ := C
  have h11' : vs.getD 11 .none = .ref P := by rw [Array.getD_eq_getD_getElem?, h11]; rfl
  exact ⟨o, vs, file, tf, flags, tg, inF, text, tt, k _ _ hk, hcl, hd, h11, h11', h18, h7, h9, h10, ne⟩
section
variable {X : Cx} {pins : List (Addr × Obj)} {σ : St} {H : Hp} {s : Shared}
theorem lam_make {c P : Addr} {params : Arguments} {body : Expr} {scope : Scope} {pos : Pos} {q : Str} {Q : Value → Shared → Prop} (I : Inv X pins σ H s) (hc : X.env.code = .ref c) (C : CodeK X.K c P) (B : BmK X.base X.mg) (hP : H P = some (.lam q))
    (hq : X.env.qual ++ "<lambda>" = q) (hcl : closureFor scope X.env = pure []) (hdef : defaultsOf params X.env = ([], []))
    (h : ∀ (f : Addr) (cdv ct pm : Value) (H' : Hp) (h' : Heap) (tk : Nat), Same H H' → Inv X pins σ H' { s with heap := h', toks := tk } → h'.get? f = some (lamO q params body scope pm cdv ct) → s.heap.objs.size ≤ f → H' f = none →
      (∃ (c : Addr) (o : Obj) (vs : Array Value) (t : Tok), cdv = .ref c ∧ H' c = some (.cod o) ∧ o.data = .fields vs ∧ vs[1]? = some (.str q t)) → Q (.ref f) { s with heap := h', toks := tk }) :
    wpAny (model X.prog X.w) X.A (eval (.Lambda params body scope pos) X.env) Q X.xe s := by
  subst hq
  obtain ⟨more, hT, tr, ents⟩ := I.hok P _ hP
  have hg := I.ok.mod.glob.keeps I.bk
  have CH := C.hd I.kIn
  have hgP : mainGlobals ≠ P := fun z => by
    obtain ⟨o, es, ep, e, hd, _⟩ := hg
    rw [z, hT] at e; cases e; cases hd
  have hb : s.heap.BuiltinsAt X.mg P := by
    obtain ⟨bm, ob, b1, b2, b3, b4, b5, b6⟩ := B.ex
    refine ⟨bm, ob, b1, b2, fun z => ?_, fun z => ?_, I.bk _ _ b3, b4, b5, b6⟩
    · obtain ⟨o, es, ep, e, hd, _⟩ := hg
      rw [← z, I.bk _ _ b3] at e; cases e; rw [b6] at hd; cases hd
    · have e := I.bk _ _ b3
      rw [z, hT] at e; cases e; cases b4
  refine PySem.W.kla_eval hdef ?_
  cases hf : codeAmong pos more.toList with
  | some cv =>
    refine PySem.W.kla_makeFunctionHit (mg := X.mg) hcl I.ok.glob hg hc CH hT tr hf hb fun ctv h' tk hk hsz => ?_
    obtain ⟨c0, o, vs, t, rfl, e2, e3, e4⟩ := ents pos cv hf
    refine h h'.objs.size (.ref c0) ctv _ H _ tk (fun _ _ e => e) (I.kept fun b u e => Heap.get?_push_of_some _ (hk b u e)) (Heap.get?_push_size _ rfl) hsz (I.hok.fresh hsz) ⟨c0, o, vs, t, rfl, e2, e3, e4⟩
  | none =>
    refine PySem.W.kla_makeFunction (mg := X.mg) hcl I.ok.glob hg hc CH hT tr hf hgP hb fun c' ctv h' tk hx hge hlt hrec htb => ?_
    obtain ⟨c2, oc, vs, t, e2, hoc, hd, hv⟩ := hrec
    cases e2
    have hcn : H c' = none := I.hok.fresh hge
    have nP : c' ≠ P := (ne_of_none hP hcn).symm
    have sz : s.heap.objs.size ≤ h'.objs.size := Nat.le_trans hge (Nat.le_of_lt hlt)
    have kp : ∀ b u, b ≠ P → s.heap.get? b = some u → (h'.push (lamO (X.env.qual ++ "<lambda>") params body scope ((X.mg "__name__").getD .none) (.ref c') ctv)).get? b = some u := fun b u hb e => Heap.get?_push_of_some _ (hx b u hb e)
    have hP2 := Heap.get?_push_of_some (lamO (X.env.qual ++ "<lambda>") params body scope ((X.mg "__name__").getD .none) (.ref c') ctv) htb
    have sm : Same H (upd H c' (.cod oc)) := Same.upd hcn
    have ltb : ∀ {b : Addr} {u : Obj}, s.heap.get? b = some u → b ≠ c' := fun {b u} e => Nat.ne_of_lt (Nat.lt_of_lt_of_le (Heap.lt_size e) hge)
    have hok : HOk X.prog X.w (upd H c' (.cod oc)) (h'.push (lamO (X.env.qual ++ "<lambda>") params body scope ((X.mg "__name__").getD .none) (.ref c') ctv)) := fun b u e => by
      by_cases hbc : b = c'
      · subst hbc
        rw [upd_same] at e; cases e
        exact Heap.get?_push_of_some _ hoc
      · rw [upd_ne hbc] at e
        by_cases hbP : b = P
        · subst hbP
          rw [hP] at e; cases e
          refine ⟨_, hP2, ?_, fun pos' cv hcv => ?_⟩
          · simpa using TriplesOk_snoc pos.line pos.col (.ref c') more.toList tr
          · have hcv' : codeAmong pos' (more.toList ++ [rawInt pos.line, rawInt pos.col, .ref c']) = some cv := by simpa using hcv
            rcases codeAmong_more _ tr hcv' with z | z
            · obtain ⟨c0, o, vs0, t0, e1, e2, r⟩ := ents pos' cv z
              exact ⟨c0, o, vs0, t0, e1, sm _ _ e2, r⟩
            · exact ⟨c', oc, vs, t, z, upd_same, hd, hv⟩
        · refine (I.hok b u e).stay (fun d v hd' q => kp d v (fun z => ?_) q) (fun d q => sm _ _ q) fun d v _ q => sm _ _ q
          rcases hd' with hd' | hd'
          · exact hbP (hd'.symm.trans z)
          · rw [z, hP] at hd'; cases hd'
    have un : Un X.fs [] H (upd H c' (.cod oc)) s.heap (h'.push (lamO (X.env.qual ++ "<lambda>") params body scope ((X.mg "__name__").getD .none) (.ref c') ctv)) := by
      have nb : ∀ b, H b = none → b ≠ P := fun b n z => by rw [z, hP] at n; cases n
      refine ⟨fun b u e n _ _ => kp b u (nb b n) e, fun b u e n _ _ => ⟨u.slots, kp b u (nb b n) e⟩, fun b u e n _ => by rw [upd_ne (ltb e)]; exact n, fun b u e _ => ?_, fun b xs e => sm _ _ e, fun b o x e => sm _ _ e, fun b ps e => ⟨#[], by rw [sm _ _ e]; simp⟩⟩
      by_cases hb : b = P
      · subst hb; exact ⟨_, hP2⟩
      · exact ⟨u, kp b u hb e⟩
    refine h h'.objs.size (.ref c') ctv _ _ _ tk sm (I.un (t' := tk) un hok) (Heap.get?_push_size _ rfl) sz ?_ ⟨c', oc, vs, t, rfl, upd_same, hd, hv⟩
    rw [upd_ne (Nat.ne_of_gt hlt)]
    exact I.hok.fresh sz
end

theorem lam_run {P : Program} {w : World} {K : PySem.W.Frag} {mg : Str → Option Value} {base : Heap} {k : Nat} {f : Addr} {qual : Str} {params : Arguments} {body : Expr} {scope : Scope} {pm cdv ct : Value} {N ps : List Str} {sp : Sp}
    (S : FnScope N ps scope) (len : ∀ vs H Q E, sp vs H Q E → vs.length = ps.length) (hbind : ∀ us : List Value, us.length = ps.length → bindArgs (PySem.W.kla_fn "<lambda>" qual params body scope [] pm cdv ct) ⟨us, []⟩ = pure (ps.zip us))
    (hbody : ∀ (A : Around) (outer : List Env) (s : Shared) (H : Hp) (vs : List V) (Q : VK) (E : XK), Room k (A.deeper (envOfC qual scope s.heap.objs.size f cdv)) → sp vs H Q E →
      ∃ t : TE, PE (cxOf CX0 P w K mg base N qual scope f cdv A outer s H E).nox body t ∧ t (start N vs) H Q)
    {A : Around} {outer : List Env} {s : Shared} {H : Hp} {us : List Value} {vs : List V} {Q : VK} {E : XK} (hr : Room (k + 1) A) (e0 : Env0 P w K mg base A outer s H)
    (ho : s.heap.get? f = some (lamO qual params body scope pm cdv ct)) (hcd : s.heap.CodeRec cdv qual) (r : Vals vs us) (hsp : sp vs H Q E) :
    codeAny (model P w) A (.call (.ref f) ⟨us, []⟩) (CR CX0 outer P w H s Q E) s := by
  have hl := len _ _ _ _ hsp
  have hul : us.length = ps.length := by rw [← r.length]; exact hl
  have lim : s.heap.NoLimit := e0.mod.nolimit.keeps fun b o e => (e0.bs b o e).1
  have hkind : ∀ y ∈ ps.zip us, scope.names.lookup y.1 = some .local ∨ (scope.names.lookup y.1 = some .cell ∧ ((cellsFrom (s.heap.objs.size + 1) scope.names []).lookup y.1).isSome = true) := fun ⟨n, v⟩ hy => by
    rcases S.par n (List.of_mem_zip hy).1 with q | q
    · exact .inl q
    · exact .inr ⟨q, PySem.W.cellsFrom_some _ _ _ (.inl q)⟩
  refine PySem.W.kla_callFunE hr.depth ho rfl S.co S.gen rfl hcd ?_
  rw [hbind us hul]
  refine wpAny_pure (wpAny_newFunctionEnv_cells S.kind hkind fun env he s1 x => ?_)
  subst he
  refine ⟨lim.keeps x.toInCall.keep, PySem.W.kla_codeExpr ?_⟩
  obtain ⟨t, ht, hq⟩ := hbody A outer s H vs Q E (hr.deeper _) hsp
  have I : Inv (cxOf CX0 P w K mg base N qual scope f cdv A outer s H E).nox [] (start N vs) H s1 := by
    have I0 : Inv (cxOf CX0 P w K mg base N qual scope f cdv A outer s H E) [] (start N vs) H s1 := inv_start S hr.hd e0 hl r x
    exact I0.wish _
  refine wpAny_mono (ht [] s1 (start N vs) H _ I hq) (fun u s' hs => ?_) fun e s' hs => hs.elim
  obtain ⟨v, H', J, rv, q⟩ := hs
  exact ⟨v, H', J.os, J.bare, J.base, J.hok, rv, q⟩
end L2

namespace L2
open PySem PyProof.Rows
set_option autoImplicit false

section
variable {prog : Program} {w : World} {A : Around} {E : Value → Shared → Prop} {s : Shared}
abbrev emptySet (w : World) : Obj := setObj [] 0 (.fresh 0 0 (!w.params.followText "set-order"))

theorem set_new_led (a : Value) {Q₁ : Value → Shared → Prop} (h : Q₁ (.ref s.heap.objs.size) { s with heap := s.heap.push (emptySet w) }) :
    codeAny (model prog w) A (.call (.builtin "set.__new__") ⟨[.type "set", a], []⟩) (wants Q₁ E) s := by
  refine codeAny_of_tree ?_
  show wpAny _ A.in1 (do checkBuiltinCall "set.__new__" ⟨[.type "set", a], []⟩; again (.builtin "set.__new__" ⟨[.type "set", a], []⟩)) _ _ s
  refine wpAny_bind (wpAny_of_eq (F.newCall_set_1 a) (wpAny_pure ⟨plainId_quiet F.plain_set_new _, codeAny_builtin F.entry_set_new ?_⟩))
  rw [Around.under_plainId F.plain_set_new _]
  unfold Builtin.«set.__new__» Builtin.Frozenset.newClass
  have hsub := sub_set_self
  obtain ⟨hp, g, d, tk, os⟩ := s
  dsimp only
  wp_walk
  refine wpAny_askSetting (wpAny_pure ?_)
  dsimp only
  simp only [newObj]
  refine wpAny_bind (wpAny_alloc (wpAny_pure ?_))
  exact wpAny_pure h

variable {R : Result → Shared → Prop} {I : Addr} {fp wr : List Addr} {G : Array GenState → Array GenState → Prop} {n : Nat} {P : Nat → Value → Prop} {St : Nat → Shared → Prop}
theorem take_loop (W : WalksS prog w A.in1 I fp wr G n P St) (S : Addr) (hSf : S ∉ fp) (J : Nat → Heap → Prop)
    (frame : ∀ i h h', J i h → (∀ b o, b ∉ wr → h.get? b = some o → h'.get? b = some o) → J i h')
    (step : ∀ i v (s : Shared) (Q : Bool → Shared → Prop), i < n → P i v → J i s.heap → (∀ b h' tk, s.toks ≤ tk → Heap.SameBut S s.heap h' → J (i + 1) h' → Q b { s with heap := h', toks := tk }) → wpAny (model prog w) A.in1 (setAdd S v) Q (fun e s' => R (.error e) s') s) :
    ∀ (k i : Nat) (s : Shared), n - i = k → i ≤ n → St i s → J i s.heap → (∀ s', Moved (S :: wr) G s s' → J n s'.heap → R (.ok (.ret .none)) s') →
      codeAny (model prog w) A (.builtin "set.update.loop" ⟨[.ref S, .ref I], []⟩) R s := by
  have hsub : ∀ b ∈ wr, b ∈ S :: wr := fun b hb => List.mem_cons_of_mem _ hb
  intro k
  induction k with
  | zero =>
    intro i s hk hi hst hJ hR
    have hin : i = n := by omega
    subst hin
    refine codeAny_builtin F.entry_set_update_loop ?_
    rw [Around.under_plainId F.plain_set_update_loop _]
    show wpAny _ A.in1 (pyNext (.ref I) >>= _) _ _ s
    refine wpAny_bind (W.done s _ _ hst fun s' hm => ?_)
    show wpAny _ A.in1 (ret Value.none) _ _ s'
    exact wpAny_pure (hR s' (hm.mono hsub) (frame _ _ _ hJ hm.heap))
  | succ k ih =>
    intro i s hk hi hst hJ hR
    have hlt : i < n := by omega
    refine codeAny_builtin F.entry_set_update_loop ?_
    rw [Around.under_plainId F.plain_set_update_loop _]
    show wpAny _ A.in1 (pyNext (.ref I) >>= _) _ _ s
    refine wpAny_bind (W.item i s _ _ hlt hst fun v s' hP hst' hm => ?_)
    show wpAny _ A.in1 (holding [v] (setAdd S v) >>= _) _ _ s'
    refine wpAny_bind (wpAny_holding ?_)
    refine step i v s' _ hlt hP (frame _ _ _ hJ hm.heap) fun b h' tk htk hsb hJ' => ?_
    refine wpAny_pure ⟨plainId_quiet F.plain_set_update_loop _, ih (i + 1) _ (by omega) hlt (W.frame _ s' _ _ hst' htk fun b hb o e => ?_) hJ' fun s'' hm'' hJ'' => ?_⟩
    · rw [hsb.2 b (fun h : b = S => hSf (by rw [← h]; exact hb))]; exact e
    · refine hR s'' (Moved.trans W.gtrans ((hm.mono hsub).then_heap htk fun b o hb e => ?_) hm'') hJ''
      rw [hsb.2 b (fun h : b = S => hb (by rw [h]; exact List.mem_cons_self))]; exact e
end

section
variable {prog : Program} {w : World} {A : Around} {E : Value → Shared → Prop} {s : Shared}
set_option maxHeartbeats 6400000 in
theorem set_of_list {l : Addr} {items : Array Value} {Q : Value → Shared → Prop} (hh : A.handled = none) (hl : s.heap.IsList l items) (J : Nat → Heap → Prop)
    (h0 : J 0 (s.heap.push (emptySet w)))
    (frame : ∀ i h h', J i h → (∀ b o, b ≠ s.heap.objs.size + 1 → h.get? b = some o → h'.get? b = some o) → J i h')
    (step : ∀ i v (A' : Around) (E : Value → Shared → Prop) (s' : Shared) (Q : Bool → Shared → Prop), A'.units ≤ A.units + 8 → items[i]? = some v → J i s'.heap → (∀ b h' tk, s'.toks ≤ tk → Heap.SameBut s.heap.objs.size s'.heap h' → J (i + 1) h' → Q b { s' with heap := h', toks := tk }) → wpAny (model prog w) A' (setAdd s.heap.objs.size v) Q E s')
    (hQ : ∀ h' tk, J items.size h' → (∀ b o, s.heap.get? b = some o → h'.get? b = some o) → Q (.ref s.heap.objs.size) { s with heap := h', toks := tk }) :
    wpAny (model prog w) A (call (.type "set") [.ref l]) Q E s := by
  obtain ⟨c, tl, hmro⟩ := F.called_set.mro
  have hmade := F.called_set.made
  have hsub := F.called_set.sub
  refine wpAny_call (codeAny_of_tree ?_)
  show wpAny _ _ (callAny (.type "set") _) _ _ _
  refine wpAny_pure ⟨Code.quiet_builtin _ (by decide +kernel), codeAny_builtin F.entry_type_call ?_⟩
  rw [Around.under_plain (weight_type_call_type "set" [.ref l] []) rfl]
  have h1 := F.called_set.notType
  have h2 := F.called_set.canCreate
  have hct := F.typeCall_set_1 (.ref l)
  repeat (any_goals (first | assumption | wp_step))
  refine codeAny_mono (set_new_led (.ref l) (E := E) (Q₁ := fun obj s₁ => obj = .ref s.heap.objs.size ∧ s₁ = { s with heap := s.heap.push (emptySet w) }) ⟨rfl, rfl⟩) fun r s₁ hr => ?_
  cases r with
  | error e => exact hr
  | ok fl =>
    cases fl with
    | ret obj =>
      obtain ⟨rfl, rfl⟩ := hr
      have hS : (s.heap.push (emptySet w)).get? s.heap.objs.size = some (emptySet w) := Heap.get?_push_size _ rfl
      have hT : Shared.TypeIs { s with heap := s.heap.push (emptySet w) } (.ref s.heap.objs.size) "set" := ⟨_, hS, rfl⟩
      have hli := F.called_set.init.lookup
      have hbi := F.called_set.init.bind (.ref s.heap.objs.size)
      repeat (any_goals (first | assumption | wp_step))
      refine codeAny_mono (codeAny_call_builtin (R := wants (fun r s₂ => r = .none ∧ ∃ h' tk, s₂ = { s with heap := h', toks := tk } ∧ J items.size h' ∧
          (∀ b o, b < s.heap.objs.size → s.heap.get? b = some o → h'.get? b = some o)) E) F.called_set.init.plain F.entry_set_init (check_set_init_1 hT ?_)) fun r₂ s₂ hr₂ => ?_
      · obtain ⟨ol, hol, hcl, nl, hdl⟩ := hl
        obtain ⟨ocls, odict, odata, oslots⟩ := ol
        simp only at hcl hdl
        subst hcl; subst hdl
        have hol' : (s.heap.push (emptySet w)).get? l = some { cls := .type "list", dict := odict, data := .seq items nl, slots := oslots } := Heap.get?_push_of_some _ hol
        have hsls := F.sub_list_set
        have hslf := F.sub_list_frozenset
        have hne : (Value.type "list" == Value.type "dict") = false := by decide
        have hl1 : (s.heap.push (emptySet w)).IsList l items := ⟨_, hol', rfl, nl, rfl⟩
        unfold Builtin.«set.__init__» noKeywords Builtin.Frozenset.updateFrom
        generalize hPI : pyIter = PI
        wp_walk
        subst hPI
        refine wpAny_pyIter_list hl1 ?_
        refine wpAny_bind (wpAny_runValue ?_)
        have hlS : l < s.heap.objs.size := Heap.lt_size hol
        have hh3 : A.in1.in1.in1.handled = none := by simp [hh]
        have hsz : (s.heap.push (emptySet w)).objs.size = s.heap.objs.size + 1 := Heap.size_push ..
        have hneI : l ≠ (s.heap.push (emptySet w)).objs.size := by
          rw [hsz]; exact Nat.ne_of_lt (Nat.lt_succ_of_lt hlS)
        have hSf : s.heap.objs.size ∉ [(s.heap.push (emptySet w)).objs.size, l] := by
          rw [hsz]; simp only [List.mem_cons, List.not_mem_nil, or_false, not_or]
          exact ⟨Nat.ne_of_lt (Nat.lt_succ_self _), Nat.ne_of_gt hlS⟩
        refine take_loop ((Walks.list hh3 _ l hneI items).toS) s.heap.objs.size hSf J (fun i h h' hj hk => frame i h h' hj fun b o hb e => hk b o (by rw [hsz, List.mem_singleton]; exact hb) e)
          (fun i v s1 Q1 hi hv hj hq => step i v _ _ s1 Q1 (by show A.units + 1 + 1 + 1 ≤ A.units + 8; omega) hv hj hq) (items.size - 0) 0 _ (by omega) (Nat.zero_le _)
          ⟨⟨_, Heap.get?_push_size _ rfl, rfl, rfl⟩, (hl1.push _)⟩ ?hS0 ?hR
        case hS0 => exact frame 0 _ _ h0 fun b o _ e => Heap.get?_push_of_some _ e
        case hR =>
          intro s' hm hJ'
          obtain ⟨h', g', d', tk', os'⟩ := s'
          have eg : g' = s.gens := hm.gens
          have ed : d' = s.drawn := hm.drawn
          have eo : os' = s.os := hm.os
          subst eg; subst ed; subst eo
          show wpAny _ _ _ _ _ _
          refine wpAny_pure ?_
          show wpAny _ _ (ret Value.none) _ _ _
          refine wpAny_pure ⟨rfl, h', tk', rfl, hJ', fun b o hb e => ?_⟩
          have hb1 : b ≠ s.heap.objs.size := Nat.ne_of_lt hb
          have hb2 : b ≠ (s.heap.push (emptySet w)).objs.size := by
            rw [hsz]; exact Nat.ne_of_lt (Nat.lt_succ_of_lt hb)
          exact hm.heap b o (by simp only [List.mem_cons, List.not_mem_nil, or_false, not_or]; exact ⟨hb1, hb2⟩) (Heap.get?_push_of_some _ (Heap.get?_push_of_some _ e))
      · cases r₂ with
        | error e => exact hr₂
        | ok fl₂ =>
          cases fl₂ with
          | ret r =>
            obtain ⟨rfl, h', tk, rfl, hj, hk⟩ := hr₂
            repeat (any_goals (first | assumption | wp_step))
            exact hQ _ _ hj fun b o e => hk b o (Heap.lt_size e) e
          | _ => exact hr₂.elim
    | _ => exact hr.elim
end
end L2

namespace L2
open PySem PySem.Spec PyProof.Rows

abbrev IntE (js : List Int) (es : List (Int × Value)) : Prop := Paired (fun (j : Int) (e : Int × Value) => ∃ u, e = (hashInt j, Value.int j u)) js es
theorem IntE.mem {js : List Int} {es : List (Int × Value)} (h : IntE js es) (j : Int) : (∃ u, (hashInt j, Value.int j u) ∈ es) ↔ j ∈ js := by
  induction h with
  | nil => simp
  | @cons a b l1 l2 r t ih =>
    obtain ⟨u, rfl⟩ := r
    constructor
    · rintro ⟨u', hu⟩
      rcases List.mem_cons.mp hu with e | e
      · injection e with e1 e2
        injection e2 with e2 _
        rw [e2]; exact List.mem_cons_self
      · exact List.mem_cons_of_mem _ (ih.mp ⟨u', e⟩)
    · intro hj
      rcases List.mem_cons.mp hj with e | e
      · rw [e]; exact ⟨u, List.mem_cons_self⟩
      · obtain ⟨u', hu⟩ := ih.mpr e
        exact ⟨u', List.mem_cons_of_mem _ hu⟩
theorem IntE.all {js : List Int} {es : List (Int × Value)} (h : IntE js es) : ∀ e ∈ es, ∃ j u, e = (hashInt j, Value.int j u) := by
  induction h with
  | nil => intro e he; cases he
  | @cons a b l1 l2 r t ih =>
    intro e he
    rcases List.mem_cons.mp he with rfl | he
    · exact ⟨a, r⟩
    · exact ih e he
theorem IntE.vals {js : List Int} {es : List (Int × Value)} (h : IntE js es) : Paired (fun (j : Int) (v : Value) => ∃ u, v = Value.int j u) js (es.map (·.2)) := by
  induction h with
  | nil => exact .nil
  | cons r t ih => obtain ⟨u, rfl⟩ := r; exact .cons ⟨u, rfl⟩ ih

def SetIn (w : World) (S : Addr) (js : List Int) (h : Heap) : Prop := ∃ es, SetAt w h S es ∧ IntE js es
def SetI (w : World) (S : Addr) (js : List Int) : HO := .ext (SetIn w S js)
theorem SetIn.at {w : World} {S : Addr} {js : List Int} {h h' : Heap} (x : SetIn w S js h) (k : ∀ o, h.get? S = some o → h'.get? S = some o) : SetIn w S js h' := by
  obtain ⟨es, ⟨ep, t, ho, r⟩, e⟩ := x
  exact ⟨es, ⟨ep, t, k _ ho, r⟩, e⟩
theorem SetIn.ok {P : Program} {w : World} {H : Hp} {S : Addr} {js : List Int} {h : Heap} (x : SetIn w S js h) : ObjOk P w H h S (SetI w S js) := by
  refine ⟨x, ?_, fun h1 h2 p k => p.at k⟩
  obtain ⟨es, ⟨ep, t, ho, r⟩, e⟩ := x
  exact ⟨_, ho⟩

theorem take_mem {ns : List Int} {i : Nat} {n : Int} (h : ns[i]? = some n) (j : Int) : j ∈ ns.take (i + 1) ↔ j ∈ ns.take i ∨ j = n := by
  rw [List.take_succ, h]; simp

section
variable {X : Cx} {K : PySem.W.Frag}
def rSetInts (w : World) (K : PySem.W.Frag) : List V → Hp → VK → Prop := fun xs H Q => ∃ (a : Addr) (ns : List Int), xs = [.ref a] ∧ SqL K H a (ns.map V.int) ∧ ns.length + 1 < 4096 ∧
  ∀ (S : Addr) (js : List Int), H S = none → js.Nodup → (∀ j, j ∈ js ↔ j ∈ ns) → Q (.ref S) (upd H S (SetI w S js))
theorem cr_setInts (hc : X.calm = true) (e : X.K = K) : CallR X (.type "set") (rSetInts X.w K) := by
  subst e
  intro pins s σ H vs us Q I r h
  obtain ⟨a, ns, rfl, hs, hn, q⟩ := h
  obtain ⟨its, rv, hl, _⟩ := I.list hs
  rw [Vals.ref1 r]
  have hi := rv.ints
  have hlen : its.length = ns.length := by rw [hi.length]
  have hz : its.toArray.size = ns.length := by simp [hlen]
  let J : Nat → Heap → Prop := fun i h => ∃ js, SetIn X.w s.heap.objs.size js h ∧ js.Nodup ∧ (∀ j, j ∈ js ↔ j ∈ ns.take i) ∧ js.length ≤ i
  refine set_of_list (I.ok.hd hc) hl.isList J ?_ ?_ ?_ ?_
  · exact ⟨[], ⟨[], ⟨0, _, Heap.get?_push_size _ rfl, Tab0.fresh _, by decide⟩, .nil⟩, List.nodup_nil, fun j => by simp, Nat.le_refl _⟩
  · rintro i h h' ⟨js, x, r⟩ hk
    exact ⟨js, x.at fun o => hk _ o (Nat.ne_of_lt (Nat.lt_succ_self _)), r⟩
  · rintro i v A' E' s1 Q1 _ hv ⟨js, ⟨es, hS, hE⟩, hnd, hmem, hle⟩ hq
    have hv' : its[i]? = some v := by simpa using hv
    obtain ⟨t, rfl⟩ := IntsAre.int_at hi i v hv'
    have hil : i < ns.length := by rw [← hlen]; exact (List.getElem?_eq_some_iff.mp hv').1
    have hni : ns[i]? = some (ns.getD i 0) := by rw [List.getD_eq_getElem?_getD, List.getElem?_eq_getElem hil]; rfl
    have hel : es.length = js.length := (Paired.length hE).symm
    refine add_int hS hE.all (by omega) (fun hex => ?_) fun hno h' es' sb S' p' => ?_
    · have hin := (hE.mem _).mp hex
      have := hq false s1.heap (s1.toks + 1) (Nat.le_succ _) (Heap.SameBut.refl _ _) ⟨js, ⟨es, hS, hE⟩, hnd, fun j => by
        rw [take_mem hni]
        exact (hmem j).trans ⟨.inl, fun z => z.elim id fun z => z ▸ (hmem _).mp hin⟩, Nat.le_succ_of_le hle⟩
      exact this
    · have hnin : ns.getD i 0 ∉ js := fun z => by
        obtain ⟨u, hu⟩ := (hE.mem _).mpr z
        exact hno u hu
      have hE2 : IntE (ns.getD i 0 :: js) ((hashInt (ns.getD i 0), Value.int (ns.getD i 0) t) :: es) := .cons ⟨t, rfl⟩ hE
      obtain ⟨ks, k1, k2⟩ := paired_perm p'.symm hE2
      refine hq true h' (s1.toks + 1) (Nat.le_succ _) sb ⟨ks, ⟨es', S', k2⟩, ?_, fun j => ?_, ?_⟩
      · exact k1.nodup_iff.mpr (List.nodup_cons.mpr ⟨hnin, hnd⟩)
      · rw [k1.mem_iff, List.mem_cons, take_mem hni, ← hmem j]
        exact or_comm
      · rw [k1.length_eq, List.length_cons]; omega
  · rintro h' tk ⟨js, x, hnd, hmem, _⟩ hk
    refine ⟨.ref s.heap.objs.size, upd H s.heap.objs.size (SetI X.w s.heap.objs.size js), I.laid (t' := tk) hk (Nat.le_refl _) x.ok, rfl, q _ js (I.hok.fresh (Nat.le_refl _)) hnd fun j => ?_⟩
    rw [hmem j, hz, List.take_length]

def rSortSetI (w : World) : List V → Hp → VK → Prop := fun xs H Q => ∃ (S : Addr) (js : List Int), xs = [.ref S] ∧ H S = some (SetI w S js) ∧
  ∀ (bs : List Int) (p : Addr), bs.Perm js → bs.Pairwise (· ≤ ·) → H p = none → Q (.ref p) (upd H p (.lst (bs.map V.int)))
theorem rises_ints {bs : List Int} (h : Rises (bs.map KD.n)) : bs.Pairwise (· ≤ ·) := by
  refine (List.pairwise_map.mp h).imp fun {x y} q => ?_
  have q : lexL [y] [x] = false := q
  by_cases e : y = x
  · omega
  · rw [lexL_diff e] at q
    have := of_decide_eq_false q
    omega
theorem vals_intsP : ∀ {bs : List Int} {us : List Value}, Paired (fun (j : Int) (v : Value) => ∃ u, v = Value.int j u) bs us → Vals (bs.map V.int) us
  | _, _, .nil => .nil
  | _, _, .cons r t => .cons r (vals_intsP t)
theorem cr_sortSetI {k : Nat} (hc : X.calm = true) (hr : Room k X.A) : CallR X (.builtin "sorted") (rSortSetI X.w) := by
  intro pins s σ H vs us Q I r h
  obtain ⟨S, js, rfl, hS, q⟩ := h
  rw [Vals.ref1 r]
  obtain ⟨⟨es, hat, hE⟩, _, _⟩ := I.hok S _ hS
  have hu := hr.un
  refine sorted_set (R := fun (j : Int) (v : Value) => ∃ u, v = Value.int j u) (f := KD.n) (k := 0) (by omega) (I.ok.hd hc) hat (fun a v z => z) hE.vals (fun _ _ => rfl) fun h' tk p bs us N p1 p2 p3 => ?_
  obtain ⟨n1, n2, e, n3⟩ := N
  have hl : (bs.map V.int).length ≤ sizeLine := by
    rw [List.length_map, p1.length_eq, Paired.length hE, sizeLine_eq]
    obtain ⟨_, _, _, _, z⟩ := hat
    omega
  exact ⟨.ref p, upd H p (.lst (bs.map V.int)), I.laid (t' := tk) n1 n2 ⟨hl, us, e, vals_intsP p2, n3⟩, rfl, q bs p p1 (rises_ints p3) (I.hok.fresh n2)⟩
end
end L2

namespace L2
open PySem PySem.Spec PyProof.Rows

def KDV (K : PySem.W.Frag) (H : Hp) : KD → V → Prop
  | .n i, v => v = .int i
  | .t l, v => ∃ a, v = .ref a ∧ SqT K H a (l.map V.int)
  | .p i l, v => ∃ a b, v = .ref a ∧ SqT K H a [.int i, .ref b] ∧ SqT K H b (l.map V.int)

theorem itemsAre_ints {P : Program} {w : World} : ∀ {l : List Int} {its : List Value}, Vals (l.map V.int) its → ItemsAre (PySem.intKind P w) l its
  | [], _, .nil => .nil
  | i :: l, _, .cons r t => by
    obtain ⟨u, rfl⟩ := r
    exact .cons (intKind_is P w i u) (itemsAre_ints t)
section
variable {X : Cx} {pins : List (Addr × Obj)} {σ : St} {H : Hp} {s : Shared}
theorem Inv.tupI (I : Inv X pins σ H s) {a : Addr} {l : List Int} (h : SqT X.K H a (l.map V.int)) : TupI X.prog X.w s.heap l a := by
  obtain ⟨its, r, ⟨o, e, c, n, d⟩, _⟩ := I.tuple h
  exact ⟨o, its.toArray, n, e, c, d, itemsAre_ints (by simpa using r)⟩
theorem Inv.kd (I : Inv X pins σ H s) {k : KD} {v : V} {u : Value} (h : KDV X.K H k v) (r : RelV v u) : k.Is X.prog X.w s.heap u := by
  cases k with
  | n i => subst h; exact r
  | t l =>
    obtain ⟨a, rfl, h⟩ := h
    exact ⟨a, r, I.tupI h⟩
  | p i l =>
    obtain ⟨a, b, rfl, h1, h2⟩ := h
    obtain ⟨its, r1, ⟨o, e, c, n, d⟩, _⟩ := I.tuple h1
    cases r1 with
    | cons q1 q2 =>
      cases q2 with
      | cons q3 q4 =>
        cases q4
        obtain ⟨t, rfl⟩ := q1
        cases q3
        exact ⟨a, o, t, b, n, r, e, c, d, I.tupI h2⟩
end
theorem paired3 {K : PySem.W.Frag} {H : Hp} : ∀ {ks : List KD} {ys : List V} {us : List Value}, Paired (KDV K H) ks ys → Vals ys us → Paired (fun (a : KD × V) (u : Value) => RelV a.2 u ∧ KDV K H a.1 a.2) (ks.zip ys) us
  | _, _, _, .nil, .nil => .nil
  | _, _, _, .cons a b, .cons c d => .cons ⟨c, a⟩ (paired3 b d)
theorem vals_snd {K : PySem.W.Frag} {H : Hp} : ∀ {bs : List (KD × V)} {us : List Value}, Paired (fun (a : KD × V) (u : Value) => RelV a.2 u ∧ KDV K H a.1 a.2) bs us → Vals (bs.map (·.2)) us
  | _, _, .nil => .nil
  | _, _, .cons a b => .cons a.1 (vals_snd b)
section
variable {X : Cx} {K : PySem.W.Frag}
def rSortKD (K : PySem.W.Frag) : List V → Hp → VK → Prop := fun xs H Q => ∃ (a : Addr) (ks : List KD) (ys : List V) (k : Nat), xs = [.ref a] ∧ SqL K H a ys ∧ Paired (KDV K H) ks ys ∧ (∀ x ∈ ks, x.kind = k) ∧
  ∀ (bs : List (KD × V)) (p : Addr), bs.Perm (ks.zip ys) → Rises (bs.map (·.1)) → H p = none → Q (.ref p) (upd H p (.lst (bs.map (·.2))))
theorem cr_sortKD {n : Nat} (hr : Room n X.A) (e : X.K = K) : CallR X (.builtin "sorted") (rSortKD K) := by
  subst e
  intro pins s σ H vs us Q I r h
  obtain ⟨a, ks, ys, k, rfl, hs, hp, hk, q⟩ := h
  obtain ⟨its, rv, hl, hz⟩ := I.list hs
  rw [Vals.ref1 r]
  have hu := hr.un
  refine sorted_list (R := fun (a : KD × V) (u : Value) => RelV a.2 u ∧ KDV X.K H a.1 a.2) (f := Prod.fst) (k := k) (by omega) hl.isList (fun a v z => I.kd z.2 z.1) (paired3 hp rv) (fun b hb => hk _ (List.of_mem_zip hb).1) (by rw [← rv.length]; exact hz) fun h' p bs us N p1 p2 p3 => ?_
  obtain ⟨n1, n2, e, n3⟩ := N
  have hlen : (bs.map (·.2)).length ≤ sizeLine := by
    rw [List.length_map, p1.length_eq, List.length_zip]
    exact Nat.le_trans (Nat.min_le_right _ _) hz
  exact ⟨.ref p, upd H p (.lst (bs.map (·.2))), I.laid (t' := s.toks) n1 n2 ⟨hlen, us, e, vals_snd p2, n3⟩, rfl, q bs p p1 p3 (I.hok.fresh n2)⟩
end
end L2

namespace L2
open PySem PySem.Spec PyProof.Rows

def rKeys (sp : Sp) : List V → List V → Hp → (List V → Hp → Prop) → Prop
  | [], ks, H, Q => Q ks H
  | x :: xs, ks, H, Q => sp [x] H (fun k H' => Same H H' ∧ rKeys sp xs (ks ++ [k]) H' Q) E0
theorem rKeys_succ {sp : Sp} {xs ks : List V} {H : Hp} {Q : List V → Hp → Prop} {j : Nat} {x : V} (hx : xs[j]? = some x) (h : rKeys sp (xs.drop j) ks H Q) : sp [x] H (fun k H' => Same H H' ∧ rKeys sp (xs.drop (j + 1)) (ks ++ [k]) H' Q) E0 := by
  obtain ⟨hlt, e⟩ := List.getElem?_eq_some_iff.mp hx
  rw [List.drop_eq_getElem_cons hlt, e] at h
  exact h
section
variable {X : Cx} {pins : List (Addr × Obj)} {σ : St} {H : Hp} {s : Shared}
structure OwnA (X : Cx) (pins : List (Addr × Obj)) (b : Addr) : Prop where
  new : X.s_0.heap.objs.size ≤ b
  loc : b ≠ X.env.locals
  cel : ∀ x c, X.env.cells.lookup x = some c → c ≠ b
  pin : ∀ p ∈ X.pn ++ pins, p.1 ≠ b
  nfs : b ∉ X.fs
theorem Inv.own (I : Inv X pins σ H s) {b : Addr} (h : s.heap.objs.size ≤ b) : OwnA X pins b :=
  ⟨Nat.le_trans I.sz h, Nat.ne_of_gt (Nat.lt_of_lt_of_le I.lt h), fun x c e => let ⟨v, o, ho, _⟩ := I.cell x c e; Nat.ne_of_lt (Nat.lt_of_lt_of_le (Heap.lt_size ho) h),
    fun p hp => Nat.ne_of_lt (Nat.lt_of_lt_of_le (Heap.lt_size (I.pin p hp).1) h), I.nofs h⟩
theorem Inv.unpin {own : List (Addr × Obj)} (I : Inv X (own ++ pins) σ H s) : Inv X pins σ H s := I.pins_of fun p hp => I.pin p (List.mem_append_right _ (List.mem_append_right _ hp))
theorem Inv.ofPin {own : List (Addr × Obj)} (I : Inv X (own ++ pins) σ H s) {b : Addr} {o : Obj} (h : (b, o) ∈ own) : s.heap.get? b = some o ∧ H b = none :=
  let z := I.pin (b, o) (List.mem_append_right _ (List.mem_append_left _ h)); ⟨z.1, z.2.1⟩
theorem Inv.repin {own : List (Addr × Obj)} (I : Inv X pins σ H s) (h : ∀ p ∈ own, s.heap.get? p.1 = some p.2 ∧ H p.1 = none ∧ OwnA X pins p.1 ∧ ∀ v, p.2.data ≠ .cell v) : Inv X (own ++ pins) σ H s := I.pins_of fun p hp => by
  rcases List.mem_append.mp hp with hp | hp
  · obtain ⟨a, b, c, d⟩ := h p hp
    exact ⟨a, b, c.loc, c.nfs, d⟩
  · exact I.pin p (List.mem_append_right _ hp)

theorem byFst {kds : List KD} {xs : List V} {vs : List Value} (hl : kds.length = xs.length) (h : Vals xs vs) : Paired (fun (a : KD × V) (v : Value) => RelV a.2 v) (kds.zip xs) vs := by
  induction h generalizing kds with
  | nil => rw [List.zip_nil_right]; exact .nil
  | cons r t ih =>
    cases kds with
    | nil => cases hl
    | cons k kds => exact .cons r (ih (by simpa using hl))
theorem valsSnd {bs : List (KD × V)} {us : List Value} (h : Paired (fun (a : KD × V) (v : Value) => RelV a.2 v) bs us) : Vals (bs.map (·.2)) us := by
  induction h with
  | nil => exact .nil
  | cons r t ih => exact .cons r ih
theorem allIs_of (I : Inv X pins σ H s) {kds : List KD} {ks : List V} {us : List Value} (h : Paired (KDV X.K H) kds ks) (r : Vals ks us) : AllIs X.prog X.w s.heap kds us := by
  induction h generalizing us with
  | nil => cases r; exact .nil
  | cons a b ih => cases r with | cons r1 r2 => exact .cons (I.kd a r1) (ih r2)
def rByKey (K : PySem.W.Frag) (xs : List V) (Q : VK) : List V → Hp → Prop := fun ks H => ∃ (kds : List KD) (k : Nat), Paired (KDV K H) kds ks ∧ (∀ x ∈ kds, x.kind = k) ∧
  ∀ (bs : List (KD × V)) (p : Addr), bs.Perm (kds.zip xs) → Rises (bs.map (·.1)) → H p = none → Q (.ref p) (upd H p (.lst (bs.map (·.2))))

theorem sort_key {l f : Addr} {fo : Obj} {xs : List V} {sp : Sp} {Q : VK} {k : Nat} (hr : Room k X.A) (I : Inv X pins σ H s) (hl : SqL X.K H l xs) (hf : s.heap.get? f = some fo) (hfn : H f = none) (hfo : OwnA X pins f) (hfc : ∀ v, fo.data ≠ .cell v)
    (hcall : ∀ (pins' : List (Addr × Obj)) (s' : Shared) (H' : Hp) (v : V) (u : Value) (Q' : VK), Inv X pins' σ H' s' → s'.heap.get? f = some fo → Same H H' → RelV v u → sp [v] H' Q' E0 →
      wpAny (model X.prog X.w) X.A.in1.in1 (call (.ref f) [u]) (EP X pins' σ Q') (fun _ _ => False) s')
    (h : rKeys sp xs [] H (rByKey X.K xs Q)) : wpAny (model X.prog X.w) X.A (call (.builtin "sorted") [.ref l] [(Str.ofString "key", .ref f)]) (EP X pins σ Q) X.xe s := by
  obtain ⟨vs, rv, hL, hz⟩ := I.list hl
  have hvz : vs.length ≤ sizeLine := by rw [← rv.length]; exact hz
  refine call_function_entry_kw kind_sorted plain_sorted entry_sorted (ksk_s1 _ _) ?_
  unfold Builtin.«sorted»
  refine wpAny_bind (m := checkCount "sorted" 1 1 _) (wpAny_pure ?_)
  refine wpAny_bind (collect_list hL.isList ?_ hvz)
  refine wpAny_bind (wpAny_newList ?_ hvz)
  have hsz : ((s.heap.push (seqObj "list" #[] 0)).update s.heap.objs.size (Obj.mapSeq (· ++ vs.toArray))).objs.size = s.heap.objs.size + 1 := by
    rw [Heap.size_update, size_push']
  have hoL : (((s.heap.push (seqObj "list" #[] 0)).update s.heap.objs.size (Obj.mapSeq (· ++ vs.toArray))).push (seqObj "list" vs.toArray 0)).get? (s.heap.objs.size + 1) = some (seqObj "list" vs.toArray 0) := by
    rw [← hsz]; exact Heap.get?_push_size _ rfl
  have keep : ∀ b o, s.heap.get? b = some o → (((s.heap.push (seqObj "list" #[] 0)).update s.heap.objs.size (Obj.mapSeq (· ++ vs.toArray))).push (seqObj "list" vs.toArray 0)).get? b = some o := fun b o q => by
    have hlt : b < s.heap.objs.size := Heap.lt_size q
    rw [Heap.get?_push_ne _ _ _ (by rw [hsz]; exact Nat.ne_of_lt (Nat.lt_succ_of_lt hlt)), Heap.get?_update_ne _ _ _ _ (Nat.ne_of_lt hlt), Heap.get?_push_ne _ _ _ (Nat.ne_of_lt hlt)]
    exact q
  show wpAny _ _ _ _ _ { s with heap := ((s.heap.push (seqObj "list" #[] 0)).update s.heap.objs.size (Obj.mapSeq (· ++ vs.toArray))).push (seqObj "list" vs.toArray 0) }
  rw [hsz]
  generalize hha : (((s.heap.push (seqObj "list" #[] 0)).update s.heap.objs.size (Obj.mapSeq (· ++ vs.toArray))).push (seqObj "list" vs.toArray 0)) = ha at hoL keep
  have hasz : ha.objs.size = s.heap.objs.size + 2 := by rw [← hha, size_push', hsz]
  generalize haa : s.heap.objs.size + 1 = a at hoL
  have oa : OwnA X pins a := I.own (by omega)
  refine wpAny_bind (wpAny_holding (wpAny_call_entry_kw slot_list_sort ⟨_, hoL, rfl⟩ entry_list_sort ?body (ksk_l1 _ _)))
  case body =>
    show wpAny (model X.prog X.w) X.A.in1.in1 (Builtin.«list.sort» ⟨[.ref a], [(Str.ofString "key", .ref f)]⟩) _ _ _
    rw [ksk_t1]
    unfold ksk_tree
    refine wpAny_bind (listItems_at hoL rfl (wpAny_bind (listUpdate_at hoL rfl ?_ (by rw [List.size_toArray]; exact hvz) (Nat.zero_le _))))
    obtain ⟨e1, ho1⟩ : ∃ e1, (ha.update a (Obj.mapSeq fun _ => (#[] : Array Value))).get? a = some (seqObj "list" #[] e1) := ⟨_, get?_update_seq hoL fun _ => #[]⟩
    refine wpAny_bind (seqEpoch_at ho1 rfl (wpAny_bind (wpAny_newTuple ?_ (by show vs.length ≤ _; exact hvz))))
    refine wpAny_bind (wpAny_newList (wpAny_holding ?_) (Nat.zero_le _))
    have hkS : ((ha.update a (Obj.mapSeq fun _ => (#[] : Array Value))).push (seqObj "tuple" vs.toArray 0)).objs.size = s.heap.objs.size + 3 := by rw [size_push', Heap.size_update, hasz]
    have hks0 : (((ha.update a (Obj.mapSeq fun _ => (#[] : Array Value))).push (seqObj "tuple" vs.toArray 0)).push (seqObj "list" #[] 0)).get? (s.heap.objs.size + 3) = some (seqObj "list" #[] 0) := by
      rw [← hkS]; exact Heap.get?_push_size _ rfl
    have ho3 : (((ha.update a (Obj.mapSeq fun _ => (#[] : Array Value))).push (seqObj "tuple" vs.toArray 0)).push (seqObj "list" #[] 0)).get? a = some (seqObj "list" #[] e1) := Heap.get?_push_of_some _ (Heap.get?_push_of_some _ ho1)
    have keep3 : ∀ b o, s.heap.get? b = some o → (((ha.update a (Obj.mapSeq fun _ => (#[] : Array Value))).push (seqObj "tuple" vs.toArray 0)).push (seqObj "list" #[] 0)).get? b = some o := fun b o q => by
      refine Heap.get?_push_of_some _ (Heap.get?_push_of_some _ ?_)
      rw [Heap.get?_update_ne _ _ _ _ (by rw [← haa]; exact Nat.ne_of_lt (Nat.lt_succ_of_lt (Heap.lt_size q)))]
      exact keep b o q
    show wpAny _ _ (ksk_rest a (.ref f) false vs.toArray e1 (.ref ((ha.update a (Obj.mapSeq fun _ => (#[] : Array Value))).push (seqObj "tuple" vs.toArray 0)).objs.size)) _ _ { s with heap := (((ha.update a (Obj.mapSeq fun _ => (#[] : Array Value))).push (seqObj "tuple" vs.toArray 0)).push (seqObj "list" #[] 0)) }
    rw [hkS]
    generalize (((ha.update a (Obj.mapSeq fun _ => (#[] : Array Value))).push (seqObj "tuple" vs.toArray 0)).push (seqObj "list" #[] 0)) = h3 at hks0 ho3 keep3
    have ok : OwnA X pins (s.heap.objs.size + 3) := I.own (by omega)
    have hkn : H (s.heap.objs.size + 3) = none := I.hok.fresh (by omega)
    have han : H a = none := I.hok.fresh (by omega)
    have nak : a ≠ s.heap.objs.size + 3 := Nat.ne_of_lt (by omega)
    have nfk : f ≠ s.heap.objs.size + 3 := Nat.ne_of_lt (Nat.lt_of_lt_of_le (Heap.lt_size hf) (Nat.le_add_right _ _))
    generalize s.heap.objs.size + 3 = kS at hks0 ok hkn nak nfk
    have nc : ∀ (A : Array Value) (n : Nat) (v : Option Value), (seqObj "list" A n).data ≠ .cell v := fun _ _ _ z => by cases z
    have I3 : Inv X ([(kS, seqObj "list" #[] 0), (a, seqObj "list" #[] e1), (f, fo)] ++ pins) σ H { s with heap := h3 } := by
      refine (I.kept (t' := s.toks) keep3).repin fun p hp => ?_
      simp only [List.mem_cons, List.not_mem_nil, or_false] at hp
      rcases hp with rfl | rfl | rfl
      · exact ⟨hks0, hkn, ok, nc _ _⟩
      · exact ⟨ho3, han, oa, nc _ _⟩
      · exact ⟨keep3 _ _ hf, hfn, hfo, hfc⟩
    unfold ksk_rest
    refine wpAny_bind (wpAny_rule ?_)
    first
      | rw [List.forIn_toArray]
      | (rw [← Array.forIn_toList]; simp only [List.toList_toArray])
      | rw [← Array.forIn_toList]
    refine wpAny_bind (ksk_fold (fun i s' => ∃ (Hi : Hp) (ks : List V) (kA : List Value) (e : Nat), Inv X ([(kS, seqObj "list" kA.toArray e), (a, seqObj "list" #[] e1), (f, fo)] ++ pins) σ Hi s' ∧ Vals ks kA ∧ ks.length = i ∧ Same H Hi ∧ rKeys sp (xs.drop i) ks Hi (rByKey X.K xs Q)) vs 0 _
      ⟨H, [], [], 0, I3, .nil, rfl, fun _ _ e => e, h⟩ ?step ?done)
    case step =>
      rintro j u s' hu ⟨Hi, ks, kA, e, Ii, rk, hlen, sm, rd⟩
      rw [Nat.zero_add] at hlen rd ⊢
      have hj : j < vs.length := (List.getElem?_eq_some_iff.mp hu).1
      obtain ⟨x, hx⟩ : ∃ x, xs[j]? = some x := ⟨_, List.getElem?_eq_getElem (by rw [rv.length]; exact hj)⟩
      obtain ⟨u', hu', rx⟩ := rv.get hx
      rw [hu] at hu'; cases hu'
      have pf := Ii.ofPin (own := [(kS, seqObj "list" kA.toArray e), (a, seqObj "list" #[] e1), (f, fo)]) (b := f) (o := fo) (List.mem_cons_of_mem _ (List.mem_cons_of_mem _ List.mem_cons_self))
      refine wpAny_bind (wpAny_attempt (wpAny_mono (hcall _ s' Hi x u _ Ii pf.1 sm rx (rKeys_succ hx rd)) (fun w s2 ⟨kv, H2, I2, rw2, sm2, rd2⟩ => ?_) fun _ _ z => z.elim))
      dsimp only
      have pk := I2.ofPin (own := [(kS, seqObj "list" kA.toArray e), (a, seqObj "list" #[] e1), (f, fo)]) (b := kS) List.mem_cons_self
      have pa := I2.ofPin (own := [(kS, seqObj "list" kA.toArray e), (a, seqObj "list" #[] e1), (f, fo)]) (b := a) (List.mem_cons_of_mem _ List.mem_cons_self)
      have pf2 := I2.ofPin (own := [(kS, seqObj "list" kA.toArray e), (a, seqObj "list" #[] e1), (f, fo)]) (b := f) (List.mem_cons_of_mem _ (List.mem_cons_of_mem _ List.mem_cons_self))
      have kl : kA.length = j := by rw [← rk.length]; exact hlen
      have sb := Heap.SameBut.update s2.heap kS (Obj.mapSeq (·.push w))
      obtain ⟨c2, hc2⟩ : ∃ c2, (s2.heap.update kS (Obj.mapSeq (·.push w))).get? kS = some (seqObj "list" (kA ++ [w]).toArray c2) := by
        have z := get?_update_seq pk.1 (·.push w)
        have e : kA.toArray.push w = (kA ++ [w]).toArray := by simp
        rw [e] at z
        exact ⟨_, z⟩
      refine wpAny_bind (listUpdate_at pk.1 rfl (wpAny_pure ⟨rfl, H2, ks ++ [kv], kA ++ [w], c2, ?_, rk.append (.cons rw2 .nil), by simp [hlen], sm.trans sm2, rd2⟩) (by rw [List.size_toArray]; omega) (by rw [Array.size_push, List.size_toArray]; omega))
      refine Inv.repin ((I2.unpin).turned (t' := s2.toks) (it := kS) (fun b o hb e => (sb.2 b hb).trans e) pk.2 ok.loc (.inr ok.new) ok.cel ok.pin) fun p hp => ?_
      simp only [List.mem_cons, List.not_mem_nil, or_false] at hp
      rcases hp with rfl | rfl | rfl
      · exact ⟨hc2, pk.2, ok, nc _ _⟩
      · exact ⟨(sb.2 a nak).trans pa.1, pa.2, oa, nc _ _⟩
      · exact ⟨(sb.2 f nfk).trans pf2.1, pf2.2, hfo, hfc⟩
    case done =>
      rintro s' ⟨Hi, ks, kA, e, Ii, rk, hlen, sm, rd⟩
      have pk := Ii.ofPin (own := [(kS, seqObj "list" kA.toArray e), (a, seqObj "list" #[] e1), (f, fo)]) (b := kS) List.mem_cons_self
      have pa := Ii.ofPin (own := [(kS, seqObj "list" kA.toArray e), (a, seqObj "list" #[] e1), (f, fo)]) (b := a) (List.mem_cons_of_mem _ List.mem_cons_self)
      rw [Nat.zero_add, List.drop_of_length_le (by rw [rv.length]; exact Nat.le_refl _)] at rd
      obtain ⟨kds, kk, hp, hkk, hq⟩ := rd
      have l1 : kds.length = ks.length := Paired.length hp
      have l2 : kds.length = xs.length := by rw [l1, hlen, Nat.zero_add, rv.length]
      refine wpAny_bind (listItems_at pk.1 rfl ?_)
      have hun := hr.un
      refine key_end (s := s') (xs := kds) (k := kk) (by show X.A.units + 1 + 1 < cLine; omega) nak pa.1 pk.1 (allIs_of Ii hp rk) (by rw [l2, rv.length]) hkk hvz fun idx hor => ⟨_, rfl, ?_⟩
      have hor' : Order ((kds.zip xs).map (·.1)) idx := by rw [List.map_fst_zip (by omega)]; exact hor
      obtain ⟨bs, b1, b2, b3⟩ := order_pick (byFst l2 rv) hor'
      refine wpAny_pure ⟨_, rfl, .ref a, upd Hi a (.lst (bs.map (·.2))), ?_, rfl, hq bs a b1 b2 pa.2⟩
      have s1 := Heap.SameBut.update s'.heap kS (Obj.mapSeq fun _ => (#[] : Array Value))
      have pa2 := (s1.2 a nak).trans pa.1
      have s2 := Heap.SameBut.update (s'.heap.update kS (Obj.mapSeq fun _ => (#[] : Array Value))) a (Obj.mapSeq fun _ => (byOrder vs idx).toArray)
      have atA := get?_update_seq pa2 (fun _ => (byOrder vs idx).toArray)
      have kp : ∀ b o, b ∉ [a, kS] → s'.heap.get? b = some o → ((s'.heap.update kS (Obj.mapSeq fun _ => (#[] : Array Value))).update a (Obj.mapSeq fun _ => (byOrder vs idx).toArray)).get? b = some o := fun b o hb e => by
        simp only [List.mem_cons, List.not_mem_nil, or_false, not_or] at hb
        exact (s2.2 b hb.1).trans ((s1.2 b hb.2).trans e)
      have hlt : (bs.map (·.2)).length ≤ sizeLine := by
        rw [List.length_map, b1.length_eq, List.length_zip]; omega
      have ntr : ∀ b u, Hi b = some u → b ∉ [a, kS] := fun b u e => by
        simp only [List.mem_cons, List.not_mem_nil, or_false, not_or]
        exact ⟨ne_of_none e pa.2, ne_of_none e pk.2⟩
      refine Ii.unpin.step (g' := s'.gens) (d' := s'.drawn) (t' := s'.toks) (ch := [a, kS]) (fun b hb => ?_) (fun b o _ _ hc e _ => kp b o hc e) (fun b o _ _ hc e _ => ⟨o.slots, kp b o hc e⟩) (fun b o hc e n => ?_) (fun b o hc e => ⟨o, kp b o hc e⟩) (fun b ys e => ?_) (fun b o u e => ?_) (fun b ps e => ⟨#[], ?_⟩) (fun m hm => ?_) (fun b u e => ?_) Ii.bare
      · simp only [List.mem_cons, List.not_mem_nil, or_false] at hb
        rcases hb with rfl | rfl
        · exact ⟨.inr oa.new, oa.loc, oa.cel, oa.pin⟩
        · exact ⟨.inr ok.new, ok.loc, ok.cel, ok.pin⟩
      · rw [upd_ne (fun z => hc (by rw [z]; exact List.mem_cons_self))]; exact n
      · rw [upd_ne (ne_of_none e pa.2)]; exact e
      · rw [upd_ne (ne_of_none e pa.2)]; exact e
      · rw [upd_ne (ne_of_none e pa.2), e]; simp
      · obtain ⟨o, es, ep, ho, r⟩ := hm
        exact ⟨o, es, ep, kp _ o (by simp only [List.mem_cons, List.not_mem_nil, or_false, not_or]; exact ⟨oa.loc.symm, ok.loc.symm⟩) ho, r⟩
      · by_cases hb : b = a
        · subst hb
          rw [upd_same] at e; cases e
          exact ⟨hlt, byOrder vs idx, _, valsSnd b3, atA⟩
        · rw [upd_ne hb] at e
          refine (Ii.hok b u e).stay (fun c v hc q => kp c v ?_ q) (fun c q => by rw [upd_ne (ne_of_none q pa.2)]; exact q) fun c y _ q => by rw [upd_ne (ne_of_none q pa.2)]; exact q
          rcases hc with z | z
          · rw [z]; exact ntr b u e
          · exact ntr c _ z
def tSortLam (K : PySem.W.Frag) (P : Addr) (q : Str) (sp : Sp) (te : TE) : TE := fun σ H Q => tCons te tNil σ H fun vs H1 => ∃ l xs, vs = [.ref l] ∧ SqL K H1 l xs ∧ H1 P = some (.lam q) ∧ ∀ H2, Same H1 H2 → rKeys sp xs [] H2 (rByKey K xs Q)
theorem pe_sortLam {e body : Expr} {te : TE} {params : Arguments} {scope : Scope} {p pos lpos kpos : Pos} {c P : Addr} {q : Str} {N ps : List Str} {sp : Sp} {k : Nat} {K : PySem.W.Frag} (eK : X.K = K) (hc : X.env.code = .ref c) (C : CodeK X.K c P) (B : BmK X.base X.mg) (hm : X.mg "sorted" = none)
    (S : FnScope N ps scope) (len : ∀ vs H Q E, sp vs H Q E → vs.length = ps.length) (hbind : ∀ (pm cdv ct : Value) (us : List Value), us.length = ps.length → bindArgs (PySem.W.kla_fn "<lambda>" q params body scope [] pm cdv ct) ⟨us, []⟩ = pure (ps.zip us))
    (hbody : ∀ (f : Addr) (cdv : Value) (A : Around) (outer : List Env) (s : Shared) (H : Hp) (vs : List V) (Q : VK) (E : XK), Room k (A.deeper (envOfC q scope s.heap.objs.size f cdv)) → sp vs H Q E →
      ∃ t : TE, PE (cxOf CX0 X.prog X.w X.K X.mg X.base N q scope f cdv A outer s H E).nox body t ∧ t (start N vs) H Q)
    (hr : Room (k + 3) X.A) (he : PE X e te) (hq : X.env.qual ++ "<lambda>" = q := by rfl) (hcl : closureFor scope X.env = pure [] := by rfl) (hdef : defaultsOf params X.env = ([], []) := by rfl) (hgl : Gl X "sorted" := by rfl)
    (he1 : starEach [e] X.env = [(false, eval e X.env)] := by rfl) :
    PE X (.Call (.Name "sorted" p) [e] [⟨some "key", .Lambda params body scope lpos, kpos⟩] pos) (tSortLam K P q sp te) := by
  subst eK
  intro pins s σ H Q I h
  refine wpAny_Call_Name_kw (ld_blt I hgl hm (u := .builtin "sorted") (by decide +kernel) ?_)
  refine callWith_kw (thn ((pa_cons he pa_nil he1) pos pins s σ H _ I h) fun us s1 ⟨vs, H1, I1, r1, q1⟩ => ?_) (by rw [he1]; rfl) (by rw [he1]; rfl)
  obtain ⟨l, xs, rfl, hl, hP, hk⟩ := q1
  rw [Vals.ref1 r1]
  refine kws_cons (lam_make (q := q) I1 hc C B hP hq hcl hdef fun f cdv ct pm H2 h2 tk sm I2 hf hge hfn hcd => kws_nil ?_)
  show wpAny (model X.prog X.w) X.A (call (.builtin "sorted") [.ref l] [(Str.ofString "key", .ref f)]) _ _ _
  have oF : OwnA X pins f := I1.own hge
  refine sort_key (k := k + 3) hr I2 (sm.seq hl) hf hfn oF (fun v z => by cases z) (fun pins' s' H' v u Q' I' hf' sm' rv hsp => ?_) (hk H2 sm)
  obtain ⟨c0, o, vs0, t0, rfl, e2, e3, e4⟩ := hcd
  have hcr : s'.heap.CodeRec (.ref c0) q := ⟨c0, o, vs0, t0, rfl, I'.hok c0 _ (sm' _ _ e2), e3, e4⟩
  refine wpAny_call (codeAny_mono (lam_run S len (hbind _ _ _) (hbody f _) hr.in1.in1 I'.env0.in1.in1 hf' hcr (.cons rv .nil) hsp) fun r s2 hq2 => ?_)
  cases r with
  | error e => exact hq2.elim
  | ok fl =>
    cases fl with
    | ret u => exact I'.after hq2
    | next => exact False.elim hq2
    | brk => exact False.elim hq2
    | cont => exact False.elim hq2
end
end L2

namespace L2
open PySem PySem.Spec PyProof.Rows
section
variable {prog : Program} {w : World} {A : Around} {E : Value → Shared → Prop} {s : Shared}
theorem cat_nil {t b : Addr} {vs ws : List Value} {Q : Value → Shared → Prop} (ht : IsTup s.heap t vs.toArray) (hb : IsTup s.heap b ws.toArray) (hv : vs = []) (h : Q (.ref b) s) : wpAny (model prog w) A (binaryOp .Add (.ref t) (.ref b)) Q E s := by
  obtain ⟨⟨cls, dd, data, sl⟩, ho, hc, n, hd⟩ := id ht
  obtain ⟨⟨cls2, dd2, data2, sl2⟩, ho2, hc2, n2, hd2⟩ := id hb
  simp only at hc hd hc2 hd2
  subst hc hd hc2 hd2
  exact concat_meets ⟨_, ho, rfl⟩ ⟨_, ho2, rfl⟩ noFill_tuple_add seq_tuple_add PySem.F.slot_tuple_add PySem.F.entry_tuple_add (PySem.F.args_tuple_add_2 _ _)
      (tuple_addW0 t b vs.toArray ws.toArray n n2 dd dd2 sl sl2 (by simp [hv])) ⟨ho, ho2, h⟩
theorem cut_whole {t sl : Addr} {items : Array Value} {vl vu : Value} {lo hi : Option Int} {Q : Value → Shared → Prop} (ht : IsTup s.heap t items) (hs : s.heap.IsSliceOf sl vl vu .none) (pl : IsPart vl lo) (pu : IsPart vu hi)
    (hw : HT.sIx items.size 0 lo = 0 ∧ HT.sIx items.size items.size hi = items.size) (h : Q (.ref t) s) : wpAny (model prog w) A (getItem (.ref t) (.ref sl)) Q E s := by
  obtain ⟨os, hos, hcs, hds⟩ := id hs
  have hTs : s.TypeIs (.ref sl) "slice" := ⟨os, hos, hcs⟩
  unfold getItem
  try with_reducible refine wpAny_holding ?_
  first | refine wpAny_bind (wpAny_pure ?_) | skip
  refine wpAny_bind (wpAny_sequenceKey ht.typeIs (by decide) ?_)
  refine wpAny_bind (wpAny_callSpecial?_slot (name := Str.ofString "__getitem__") ht.typeIs PyProof.Rows.slot_tuple_getitem
    (wpAny_call_entry PyProof.Rows.slot_tuple_getitem ht.typeIs entry_tuple_getitem ?_ (args_tuple_getitem _ _)))
  show wpAny _ _ (Builtin.Tuple.tupleItemsOf (.ref t) >>= _) _ _ s
  refine wpAny_bind (tupleItemsOf_ ht ?_)
  refine wpAny_bind (wpAny_typeOf hTs ?_)
  rw [if_pos (by decide)]
  refine wpAny_bind (HT.sliceApplied_gen hs pl pu ?_)
  show wpAny _ _ (if (((HT.sIx items.size 0 lo : Nat) : Int) == 0 && (1 : Int) == 1 && (HT.sIx items.size items.size hi - HT.sIx items.size 0 lo) == items.size) = true then _ else _) _ _ s
  rw [if_pos (by rw [hw.1, hw.2]; simp)]
  unfold Builtin.Tuple.tupleIsExact
  refine wpAny_bind (wpAny_bind (wpAny_typeOf ht.typeIs (wpAny_pure ?_)))
  rw [if_pos (by decide)]
  exact wpAny_bind (wpAny_rule (wpAny_pure ⟨_, rfl, wpAny_pure h⟩))
end
def rTup (K : PySem.W.Frag) (xs : List V) (H : Hp) (Q : VK) : Prop := ∀ r H', Same H H' → SqT K H' r xs → Q (.ref r) H'
section
variable {X : Cx} {K : PySem.W.Frag}
def rCatTT (K : PySem.W.Frag) : R2 := fun x y H Q => ∃ a b xs ys, x = .ref a ∧ y = .ref b ∧ SqT K H a xs ∧ SqT K H b ys ∧ xs.length + ys.length ≤ sizeLine ∧ rTup K (xs ++ ys) H Q
theorem op_catTT (e : X.K = K) : OpR X (binaryOp .Add) (rCatTT K) := by
  subst e
  intro pins s σ H x y v u Q I rx ry h
  obtain ⟨a, b, xs, ys, rfl, rfl, ha, hb, hz, q⟩ := h
  by_cases hx : xs = []
  · subst hx
    cases rx; cases ry
    obtain ⟨its, r1, p1, _⟩ := I.tuple ha
    obtain ⟨its2, r2, p2, _⟩ := I.tuple hb
    exact cat_nil p1 p2 (r1.nil_iff.mpr rfl) ⟨.ref b, H, I, rfl, q b H (fun _ _ e => e) hb⟩
  · refine op_catT pins s σ H _ _ v u Q I rx ry ⟨a, b, xs, ys, rfl, rfl, ha, hb, hx, hz, fun e => ?_, fun _ p hp => q p _ (Same.upd hp) (.inl (.inl upd_same))⟩
    subst e
    exact q a H (fun _ _ e => e) (by rw [List.append_nil]; exact ha)
def rSlTA (K : PySem.W.Frag) : V → Option Int → Option Int → Hp → VK → Prop := fun x lo hi H Q => ∃ a xs, x = .ref a ∧ SqT K H a xs ∧ rTup K (cutV xs lo hi) H Q
theorem sl_tupAK (e : X.K = K) : SlR X (rSlTA K) := by
  subst e
  intro pins s σ H x v vl vu lo hi sl Q I rx hs pl pu h
  obtain ⟨a, xs, rfl, hx, q⟩ := h
  by_cases hw : HT.sIx xs.length 0 lo = 0 ∧ HT.sIx xs.length xs.length hi = xs.length
  · cases rx
    obtain ⟨its, r, ht, hz⟩ := I.tuple hx
    have hlen : its.toArray.size = xs.length := by rw [List.size_toArray]; exact r.length.symm
    refine ⟨"tuple", _, PyProof.Rows.slot_tuple_getitem.lookup, ht.typeIs, ?_⟩
    refine cut_whole ht hs pl pu (by rw [hlen]; exact hw) ⟨.ref a, H, I, rfl, q a H (fun _ _ e => e) ?_⟩
    have : cutV xs lo hi = xs := by unfold cutV; rw [hw.1, hw.2]; simp
    rw [this]; exact hx
  · exact sl_tup pins s σ H _ v vl vu lo hi sl Q I rx hs pl pu ⟨a, xs, rfl, hx, hw, fun p hp => q p _ (Same.upd hp) (.inl (.inl upd_same))⟩
end
end L2

namespace L2
set_option autoImplicit false
theorem rises_unique : ∀ {as bs : List (List Int)}, as.Perm bs → (as.Pairwise fun x y => lexL y x = false) → (bs.Pairwise fun x y => lexL y x = false) → as = bs
  | [], bs, p, _, _ => (List.nil_perm.mp p).symm
  | a :: as, [], p, _, _ => absurd p.length_eq (by simp)
  | a :: as, b :: bs, p, ha, hb => by
    have h1 : a = b := by
      rcases List.mem_cons.mp (p.mem_iff.mp List.mem_cons_self) with e | e
      · exact e
      · rcases List.mem_cons.mp (p.mem_iff.mpr List.mem_cons_self) with e2 | e2
        · exact e2.symm
        · exact lexOrd.total a b ((List.pairwise_cons.mp hb).1 a e) ((List.pairwise_cons.mp ha).1 b e2)
    subst h1
    rw [rises_unique (p.cons_inv) (List.pairwise_cons.mp ha).2 (List.pairwise_cons.mp hb).2]
theorem ints_unique : ∀ {as bs : List Int}, as.Perm bs → as.Pairwise (· ≤ ·) → bs.Pairwise (· ≤ ·) → as = bs
  | [], bs, p, _, _ => (List.nil_perm.mp p).symm
  | a :: as, [], p, _, _ => absurd p.length_eq (by simp)
  | a :: as, b :: bs, p, ha, hb => by
    have h1 : a = b := by
      rcases List.mem_cons.mp (p.mem_iff.mp List.mem_cons_self) with e | e
      · exact e
      · rcases List.mem_cons.mp (p.mem_iff.mpr List.mem_cons_self) with e2 | e2
        · exact e2.symm
        · have := (List.pairwise_cons.mp hb).1 a e
          have := (List.pairwise_cons.mp ha).1 b e2
          omega
    subst h1
    rw [ints_unique (p.cons_inv) (List.pairwise_cons.mp ha).2 (List.pairwise_cons.mp hb).2]
end L2

namespace L2
open PySem PySem.Spec PyProof.Rows
section
variable {X : Cx} {K : PySem.W.Frag}
theorem op_in_seqK (e : X.K = K) : OpR X (compareOp .In) (rIn K false) := e ▸ op_in_seq
theorem op_notIn_seqK (e : X.K = K) : OpR X (compareOp .NotIn) (rIn K true) := e ▸ op_notIn_seq
end
theorem inV_ints {x : Int} {ms : List Int} : inV (.int x) (ms.map V.int) = decide (x ∈ ms) := by
  unfold inV
  rw [List.any_map]
  have : (ms.any ((fun y => eqV y (.int x)) ∘ V.int)) = ms.any fun y => y == x := rfl
  rw [this]
  by_cases h : x ∈ ms
  · rw [decide_eq_true h, List.any_eq_true]; exact ⟨x, h, by simp⟩
  · rw [decide_eq_false h, List.any_eq_false]
    intro y hy e
    exact h (by rw [← eq_of_beq e]; exact hy)
theorem flat_ints (ms : List Int) : (ms.map V.int).all flatV = true := by
  rw [List.all_eq_true]
  intro x hx
  obtain ⟨i, _, rfl⟩ := List.mem_map.mp hx
  rfl
variable {K : PySem.W.Frag} {H H' H1 H4 : Hp}
theorem SqT.sx {a D : Addr} {xs ys : List V} (h : SqT K H a xs) (hD : H D = some (.lst ys)) (s : SameX D H H') : SqT K H' a xs := by
  rcases h with (h | ⟨o, h⟩) | h
  · exact .inl (.inl (s _ _ (ne_of h hD (by intro e; cases e)) h))
  · exact .inl (.inr ⟨o, s _ _ (ne_of h hD (by intro e; cases e)) h⟩)
  · exact .inr h
def Tups (K : PySem.W.Frag) (H : Hp) (zs : List (Addr × List Int)) : Prop := ∀ z ∈ zs, SqT K H z.1 (z.2.map V.int)
abbrev refs (zs : List (Addr × List Int)) : List V := zs.map fun z => V.ref z.1
theorem Tups.same {zs : List (Addr × List Int)} (h : Tups K H zs) (s : Same H H') : Tups K H' zs := fun z hz => s.sqT (h z hz)
theorem Tups.sx {zs : List (Addr × List Int)} {D : Addr} {ys : List V} (h : Tups K H zs) (hD : H D = some (.lst ys)) (s : SameX D H H') : Tups K H' zs := fun z hz => (h z hz).sx hD s
theorem Tups.nil : Tups K H [] := fun z hz => nomatch hz
theorem Tups.snoc {zs : List (Addr × List Int)} {r : Addr} {c : List Int} (h : Tups K H zs) (hr : SqT K H r (c.map V.int)) : Tups K H (zs ++ [(r, c)]) := fun z hz => by
  rcases List.mem_append.mp hz with hz | hz
  · exact h z hz
  · rw [List.mem_singleton.mp hz]; exact hr
theorem Tups.append {zs ys : List (Addr × List Int)} (h : Tups K H zs) (h2 : Tups K H ys) : Tups K H (zs ++ ys) := fun z hz => (List.mem_append.mp hz).elim (h z) (h2 z)
theorem Tups.perm {zs ys : List (Addr × List Int)} (h : Tups K H zs) (p : ys.Perm zs) : Tups K H ys := fun z hz => h z (p.mem_iff.mp hz)
theorem refs_snoc {zs : List (Addr × List Int)} {r : Addr} {c : List Int} : refs (zs ++ [(r, c)]) = refs zs ++ [V.ref r] := by simp [refs]
theorem small {n : Nat} (h : n ≤ 100000) : n < sizeLine := by rw [sizeLine_eq]; omega
theorem tl_push {D r : Addr} {zs : List (Addr × List Int)} {c : List Int} (hD : H1 D = none) (sm : Same H1 H') (hd : H' D = some (.lst (refs zs))) (ht : Tups K H' zs) (s4 : Same H' H4) (hr : SqT K H4 r (c.map V.int)) (len : zs.length ≤ 100000) :
    ∃ acc, H4 D = some (.lst acc) ∧ acc.length < sizeLine ∧ Same H1 (upd H4 D (.lst (acc ++ [.ref r]))) ∧ (upd H4 D (.lst (acc ++ [.ref r]))) D = some (.lst (refs (zs ++ [(r, c)]))) ∧ Tups K (upd H4 D (.lst (acc ++ [.ref r]))) (zs ++ [(r, c)]) := by
  have e := s4 _ _ hd
  refine ⟨_, e, by rw [List.length_map]; exact small len, (sm.trans s4).updF hD, by rw [upd_same, refs_snoc], ((ht.same s4).snoc hr).sx e SameX.upd⟩
theorem il_push {D : Addr} {ms : List Int} {j : Int} (hD : H1 D = none) (sm : Same H1 H') (hd : H' D = some (.lst (ms.map V.int))) (s4 : Same H' H4) (len : ms.length ≤ 100000) :
    ∃ acc, H4 D = some (.lst acc) ∧ acc.length < sizeLine ∧ Same H1 (upd H4 D (.lst (acc ++ [.int j]))) ∧ (upd H4 D (.lst (acc ++ [.int j]))) D = some (.lst ((ms ++ [j]).map V.int)) := by
  have e := s4 _ _ hd
  refine ⟨_, e, by rw [List.length_map]; exact small len, (sm.trans s4).updF hD, by rw [upd_same, List.map_append]; rfl⟩
def tupD (c : List Int) : PyData := .tuple (c.map PyData.int)
theorem Dp_tup {a : Addr} {c : List Int} (h : SqT K H a (c.map V.int)) : Dp K H (.ref a) (tupD c) := .tup h (DpAll_ints c)
theorem DpAll_tups : ∀ {zs : List (Addr × List Int)}, Tups K H zs → DpAll K H (refs zs) (zs.map fun z => tupD z.2)
  | [], _ => .nil
  | z :: zs, h => .cons (Dp_tup (h z List.mem_cons_self)) (DpAll_tups fun y hy => h y (List.mem_cons_of_mem _ hy))
theorem Dp_tups {a : Addr} {zs : List (Addr × List Int)} (h : SqL K H a (refs zs)) (t : Tups K H zs) : Dp K H (.ref a) (.list (zs.map fun z => tupD z.2)) := .lst h (DpAll_tups t)
end L2

namespace L2
open PySem PySem.Spec PyProof.Rows
mutual
def wt : PyData → Nat
  | .list ds => wtAll ds + 2
  | .tuple ds => wtAll ds + 4
  | .none => 2000
  | .bool _ => 2000
  | .int _ => 2000
  | .str _ => 0
  | .dict _ => 0
def wtAll : List PyData → Nat
  | [] => 0
  | d :: ds => wt d + 2 + wtAll ds
end
mutual
def okD : PyData → Bool
  | .list ds => okAll ds
  | .tuple ds => okAll ds
  | .none => true
  | .bool _ => true
  | .int i => decide (i.natAbs.log2 < 1920)
  | .str _ => false
  | .dict _ => false
def okAll : List PyData → Bool
  | [] => true
  | d :: ds => okD d && okAll ds
end
theorem tupleText_len (ts : List Str) : (tupleText ts).length ≤ piled ts + 4 := by
  unfold tupleText
  rw [strLen_append, strLen_append]
  have e1 : ((("(" : String) : Str)).length = 1 := rfl
  have e3 : (((if ts.length == 1 then ",)" else ")" : String) : Str)).length ≤ 2 := by split <;> decide
  rw [e1]
  by_cases h : ts = []
  · subst h
    have : (Str.join ", " []).length = 0 := by decide
    rw [this]; omega
  · have := join_length_add ts h
    omega
mutual
theorem shown_le : ∀ d : PyData, okD d = true → d.shown.length ≤ wt d ∧ d.showable = true
  | .none, _ => by simp only [PyData.shown, PyData.showable, wt]; exact ⟨by decide +kernel, trivial⟩
  | .bool b, _ => by
    simp only [PyData.shown, PyData.showable, wt]
    refine ⟨?_, trivial⟩
    cases b <;> decide +kernel
  | .int i, h => by
    simp only [okD, decide_eq_true_eq] at h
    simp only [PyData.shown, PyData.showable, wt, decide_eq_true_eq]
    refine ⟨?_, h⟩
    have := int_text_length_le (a := i) (k := 1920) (by decide) h
    rw [PySem.ofString_length]
    omega
  | .str _, h => by simp only [okD] at h; cases h
  | .dict _, h => by simp only [okD] at h; cases h
  | .list ds, h => by
    simp only [okD] at h
    obtain ⟨h1, h2⟩ := shown_leAll ds h
    simp only [PyData.shown, PyData.showable, wt]
    exact ⟨Nat.le_trans (listText_len _) (by omega), h2⟩
  | .tuple ds, h => by
    simp only [okD] at h
    obtain ⟨h1, h2⟩ := shown_leAll ds h
    simp only [PyData.shown, PyData.showable, wt]
    exact ⟨Nat.le_trans (tupleText_len _) (by omega), h2⟩
theorem shown_leAll : ∀ ds : List PyData, okAll ds = true → piled (PyData.shownAll ds) ≤ wtAll ds ∧ PyData.showableAll ds = true
  | [], _ => by simp [PyData.shownAll, PyData.showableAll, wtAll, piled]
  | d :: ds, h => by
    simp only [okAll, Bool.and_eq_true] at h
    obtain ⟨a1, a2⟩ := shown_le d h.1
    obtain ⟨b1, b2⟩ := shown_leAll ds h.2
    simp only [PyData.shownAll, PyData.showableAll, wtAll, piled_cons, a2, b2, Bool.and_self]
    exact ⟨by omega, trivial⟩
end
theorem rRepr_of {K : PySem.W.Frag} {H : Hp} {v : V} {d : PyData} {Q : VK} (h : Dp K H v d) (ok : okD d = true) (dp : d.depth ≤ 100) (wl : wt d ≤ sizeLine) (q : Q (.str d.shown) H) : rRepr K [v] H Q := by
  unfold rRepr
  obtain ⟨a, b⟩ := shown_le d ok
  exact ⟨v, d, rfl, h, b, dp, Nat.le_trans a wl, q⟩
theorem okAll_ints {ms : List Int} (h : ∀ z ∈ ms, z.natAbs ≤ 10 ^ 60) : okAll (ms.map PyData.int) = true := by
  induction ms with
  | nil => simp [okAll]
  | cons z ms ih =>
    simp only [List.map_cons, okAll, okD, Bool.and_eq_true, decide_eq_true_eq]
    refine ⟨?_, ih fun y hy => h y (List.mem_cons_of_mem _ hy)⟩
    have := h z List.mem_cons_self
    by_cases e : z.natAbs = 0
    · rw [e]; decide
    · exact (Nat.log2_lt e).mpr (Nat.lt_of_le_of_lt this (by decide +kernel))
theorem wtAll_ints (ms : List Int) : wtAll (ms.map PyData.int) = 2002 * ms.length := by
  induction ms with
  | nil => simp [wtAll]
  | cons z ms ih => simp only [List.map_cons, wtAll, wt, ih, List.length_cons]; omega
theorem tups_ok {n m : Nat} : ∀ {cs : List (List Int)}, (∀ c ∈ cs, c.length ≤ m ∧ ∀ z ∈ c, z.natAbs ≤ 10 ^ 60) → okAll (cs.map tupD) = true ∧ wtAll (cs.map tupD) ≤ (2002 * m + 6) * cs.length ∧ PyData.depthAll (cs.map tupD) ≤ 2
  | [], _ => by simp [okAll, wtAll, PyData.depthAll]
  | c :: cs, h => by
    obtain ⟨a1, a2, a3⟩ := tups_ok (n := n) fun d hd => h d (List.mem_cons_of_mem _ hd)
    obtain ⟨h1, h2⟩ := h c List.mem_cons_self
    have dpt := depthAll_ints c
    have e : 2002 * c.length ≤ 2002 * m := Nat.mul_le_mul_left _ h1
    simp only [List.map_cons, okAll, wtAll, PyData.depthAll, tupD, okD, wt, PyData.depth, okAll_ints h2, wtAll_ints, a1, Bool.and_self, List.length_cons, Nat.mul_add, Nat.mul_one]
    exact ⟨trivial, by omega, by omega⟩
end L2
namespace L2
open PySem PySem.Spec PyProof.Rows
theorem iteT' {c : Prop} [Decidable c] {a b : Prop} (h : c) (x : a) : if c then a else b := by rw [if_pos h]; exact x
theorem iteF' {c : Prop} [Decidable c] {a b : Prop} (h : ¬ c) (x : b) : if c then a else b := by rw [if_neg h]; exact x
theorem paired_append {α β : Type} {R : α → β → Prop} : ∀ {a b : List α} {c d : List β}, Paired R a c → Paired R b d → Paired R (a ++ b) (c ++ d)
  | _, _, _, _, .nil, s => s
  | _, _, _, _, .cons r t, s => .cons r (paired_append t s)
theorem paired_mapL {α γ β : Type} {R : γ → β → Prop} {f : α → γ} : ∀ {a : List α} {c : List β}, Paired (fun x y => R (f x) y) a c → Paired R (a.map f) c
  | _, _, .nil => .nil
  | _, _, .cons r t => .cons r (paired_mapL t)
theorem KDV.same {K : PySem.W.Frag} {H H' : Hp} {k : KD} {v : V} (h : KDV K H k v) (s : Same H H') : KDV K H' k v := by
  cases k with
  | n i => exact h
  | t l => obtain ⟨a, e, h⟩ := h; exact ⟨a, e, s.sqT h⟩
  | p i l => obtain ⟨a, b, e, h1, h2⟩ := h; exact ⟨a, b, e, s.sqT h1, s.sqT h2⟩
theorem zip_perm {α β γ : Type} {f : α → β} {g : α → γ} {zs : List α} {bs : List (β × γ)} (h : bs.Perm ((zs.map f).zip (zs.map g))) : ∃ ys : List α, bs = ys.map (fun z => (f z, g z)) ∧ ys.Perm zs := by
  rw [List.zip_map'] at h
  generalize hk : (zs.map fun z => (f z, g z)) = ks at h
  induction h generalizing zs with
  | nil => exact ⟨[], rfl, by rw [List.map_eq_nil_iff.mp hk]⟩
  | cons x p ih =>
    cases zs with
    | nil => cases hk
    | cons z zs =>
      rw [List.map_cons] at hk
      injection hk with h1 h2
      obtain ⟨ys, y1, y2⟩ := ih h2
      exact ⟨z :: ys, by rw [y1, ← h1]; rfl, y2.cons z⟩
  | swap x y l =>
    match zs, hk with
    | z1 :: z2 :: zs, hk =>
      simp only [List.map_cons, List.cons.injEq] at hk
      obtain ⟨h1, h2, h3⟩ := hk
      exact ⟨z2 :: z1 :: zs, by rw [← h1, ← h2, ← h3]; rfl, List.Perm.swap _ _ _⟩
  | trans p1 p2 ih1 ih2 =>
    obtain ⟨ys, y1, y2⟩ := ih2 (zs := zs) hk
    obtain ⟨xs, x1, x2⟩ := ih1 (zs := ys) y1.symm
    exact ⟨xs, x1, x2.trans y2⟩
end L2

namespace L2
open PySem PyProof.Rows
set_option autoImplicit false
section
variable {prog : Program} {w : World} {A : Around} {E : Value → Shared → Prop} {s : Shared}
set_option maxHeartbeats 6400000 in
theorem set_of_tup {l : Addr} {items : Array Value} {Q : Value → Shared → Prop} (hh : A.handled = none) (hl : s.heap.IsTuple l items) (J : Nat → Heap → Prop)
    (h0 : J 0 (s.heap.push (emptySet w)))
    (frame : ∀ i h h', J i h → (∀ b o, b ≠ s.heap.objs.size + 1 → h.get? b = some o → h'.get? b = some o) → J i h')
    (step : ∀ i v (A' : Around) (E : Value → Shared → Prop) (s' : Shared) (Q : Bool → Shared → Prop), A'.units ≤ A.units + 8 → items[i]? = some v → J i s'.heap → (∀ b h' tk, s'.toks ≤ tk → Heap.SameBut s.heap.objs.size s'.heap h' → J (i + 1) h' → Q b { s' with heap := h', toks := tk }) → wpAny (model prog w) A' (setAdd s.heap.objs.size v) Q E s')
    (hQ : ∀ h' tk, J items.size h' → (∀ b o, s.heap.get? b = some o → h'.get? b = some o) → Q (.ref s.heap.objs.size) { s with heap := h', toks := tk }) :
    wpAny (model prog w) A (call (.type "set") [.ref l]) Q E s := by
  obtain ⟨c, tl, hmro⟩ := F.called_set.mro
  have hmade := F.called_set.made
  have hsub := F.called_set.sub
  refine wpAny_call (codeAny_of_tree ?_)
  show wpAny _ _ (callAny (.type "set") _) _ _ _
  refine wpAny_pure ⟨Code.quiet_builtin _ (by decide +kernel), codeAny_builtin F.entry_type_call ?_⟩
  rw [Around.under_plain (weight_type_call_type "set" [.ref l] []) rfl]
  have h1 := F.called_set.notType
  have h2 := F.called_set.canCreate
  have hct := F.typeCall_set_1 (.ref l)
  repeat (any_goals (first | assumption | wp_step))
  refine codeAny_mono (set_new_led (.ref l) (E := E) (Q₁ := fun obj s₁ => obj = .ref s.heap.objs.size ∧ s₁ = { s with heap := s.heap.push (emptySet w) }) ⟨rfl, rfl⟩) fun r s₁ hr => ?_
  cases r with
  | error e => exact hr
  | ok fl =>
    cases fl with
    | ret obj =>
      obtain ⟨rfl, rfl⟩ := hr
      have hS : (s.heap.push (emptySet w)).get? s.heap.objs.size = some (emptySet w) := Heap.get?_push_size _ rfl
      have hT : Shared.TypeIs { s with heap := s.heap.push (emptySet w) } (.ref s.heap.objs.size) "set" := ⟨_, hS, rfl⟩
      have hli := F.called_set.init.lookup
      have hbi := F.called_set.init.bind (.ref s.heap.objs.size)
      repeat (any_goals (first | assumption | wp_step))
      refine codeAny_mono (codeAny_call_builtin (R := wants (fun r s₂ => r = .none ∧ ∃ h' tk, s₂ = { s with heap := h', toks := tk } ∧ J items.size h' ∧
          (∀ b o, b < s.heap.objs.size → s.heap.get? b = some o → h'.get? b = some o)) E) F.called_set.init.plain F.entry_set_init (check_set_init_1 hT ?_)) fun r₂ s₂ hr₂ => ?_
      · obtain ⟨ol, hol, hcl, nl, hdl⟩ := hl
        obtain ⟨ocls, odict, odata, oslots⟩ := ol
        simp only at hcl hdl
        subst hcl; subst hdl
        have hol' : (s.heap.push (emptySet w)).get? l = some { cls := .type "tuple", dict := odict, data := .seq items nl, slots := oslots } := Heap.get?_push_of_some _ hol
        have hsls := F.sub_tuple_set
        have hslf := F.sub_tuple_frozenset
        have hne : (Value.type "tuple" == Value.type "dict") = false := by decide
        have hl1 : (s.heap.push (emptySet w)).IsTuple l items := ⟨_, hol', rfl, nl, rfl⟩
        unfold Builtin.«set.__init__» noKeywords Builtin.Frozenset.updateFrom
        generalize hPI : pyIter = PI
        wp_walk
        subst hPI
        refine wpAny_pyIter_tuple hl1 ?_
        refine wpAny_bind (wpAny_runValue ?_)
        have hlS : l < s.heap.objs.size := Heap.lt_size hol
        have hh3 : A.in1.in1.in1.handled = none := by simp [hh]
        have hsz : (s.heap.push (emptySet w)).objs.size = s.heap.objs.size + 1 := Heap.size_push ..
        have hneI : l ≠ (s.heap.push (emptySet w)).objs.size := by
          rw [hsz]; exact Nat.ne_of_lt (Nat.lt_succ_of_lt hlS)
        have hSf : s.heap.objs.size ∉ [(s.heap.push (emptySet w)).objs.size, l] := by
          rw [hsz]; simp only [List.mem_cons, List.not_mem_nil, or_false, not_or]
          exact ⟨Nat.ne_of_lt (Nat.lt_succ_self _), Nat.ne_of_gt hlS⟩
        refine take_loop ((Walks.tuple hh3 _ l hneI items).toS) s.heap.objs.size hSf J (fun i h h' hj hk => frame i h h' hj fun b o hb e => hk b o (by rw [hsz, List.mem_singleton]; exact hb) e)
          (fun i v s1 Q1 hi hv hj hq => step i v _ _ s1 Q1 (by show A.units + 1 + 1 + 1 ≤ A.units + 8; omega) hv hj hq) (items.size - 0) 0 _ (by omega) (Nat.zero_le _)
          ⟨⟨_, Heap.get?_push_size _ rfl, rfl, rfl⟩, (hl1.push _)⟩ ?hS0 ?hR
        case hS0 => exact frame 0 _ _ h0 fun b o _ e => Heap.get?_push_of_some _ e
        case hR =>
          intro s' hm hJ'
          obtain ⟨h', g', d', tk', os'⟩ := s'
          have eg : g' = s.gens := hm.gens
          have ed : d' = s.drawn := hm.drawn
          have eo : os' = s.os := hm.os
          subst eg; subst ed; subst eo
          show wpAny _ _ _ _ _ _
          refine wpAny_pure ?_
          show wpAny _ _ (ret Value.none) _ _ _
          refine wpAny_pure ⟨rfl, h', tk', rfl, hJ', fun b o hb e => ?_⟩
          have hb1 : b ≠ s.heap.objs.size := Nat.ne_of_lt hb
          have hb2 : b ≠ (s.heap.push (emptySet w)).objs.size := by
            rw [hsz]; exact Nat.ne_of_lt (Nat.lt_succ_of_lt hb)
          exact hm.heap b o (by simp only [List.mem_cons, List.not_mem_nil, or_false, not_or]; exact ⟨hb1, hb2⟩) (Heap.get?_push_of_some _ (Heap.get?_push_of_some _ e))
      · cases r₂ with
        | error e => exact hr₂
        | ok fl₂ =>
          cases fl₂ with
          | ret r =>
            obtain ⟨rfl, h', tk, rfl, hj, hk⟩ := hr₂
            repeat (any_goals (first | assumption | wp_step))
            exact hQ _ _ hj fun b o e => hk b o (Heap.lt_size e) e
          | _ => exact hr₂.elim
    | _ => exact hr.elim
end
end L2

namespace L2
open PySem PySem.Spec PyProof.Rows

theorem upd_id {H : Hp} {a : Addr} {o : HO} (h : H a = some o) : upd H a o = H := by
  funext b; unfold upd
  by_cases e : b = a
  · rw [if_pos e, e, h]
  · rw [if_neg e]
section
variable {prog : Program} {w : World} {A : Around} {E : Value → Shared → Prop} {s : Shared}
theorem call_add {S : Addr} {x : Value} {Q : Value → Shared → Prop} (hT : s.TypeIs (.ref S) "set") (h : wpAny (model prog w) A.in1 (setAdd S x) (fun _ s' => Q .none s') E s) :
    wpAny (model prog w) A (call (.builtin "set.add") [.ref S, x]) Q E s := by
  refine wpAny_call_entry F.slot_set_add hT F.entry_set_add ?_ (F.args_set_add_2 _ _)
  show wpAny _ A.in1 (setAdd S x >>= fun _ => ret Value.none) _ _ s
  exact wpAny_bind (wpAny_mono h (fun _ _ q => wpAny_pure ⟨_, rfl, q⟩) fun _ _ e => e)
end

abbrev TupE (P : Program) (w : World) (ts : List (List Int × Addr)) (es : List (Int × Value)) : Prop :=
  Paired (fun (t : List Int × Addr) (e : Int × Value) => e = ((tupleKind (PySem.intKind P w)).hash t.1, Value.ref t.2)) ts es
def SetTn (P : Program) (w : World) (S : Addr) (ts : List (List Int × Addr)) (h : Heap) : Prop := ∃ es, SetAt w h S es ∧ TupE P w ts es
def SetT (P : Program) (w : World) (S : Addr) (ts : List (List Int × Addr)) : HO := .ext (SetTn P w S ts)
theorem SetTn.at {P : Program} {w : World} {S : Addr} {ts : List (List Int × Addr)} {h h' : Heap} (x : SetTn P w S ts h) (k : ∀ o, h.get? S = some o → h'.get? S = some o) : SetTn P w S ts h' := by
  obtain ⟨es, ⟨ep, t, ho, r⟩, e⟩ := x
  exact ⟨es, ⟨ep, t, k _ ho, r⟩, e⟩
theorem SetTn.ok {P : Program} {w : World} {H : Hp} {S : Addr} {ts : List (List Int × Addr)} {h : Heap} (x : SetTn P w S ts h) : ObjOk P w H h S (SetT P w S ts) := by
  refine ⟨x, ?_, fun h1 h2 p k => p.at k⟩
  obtain ⟨es, ⟨ep, t, ho, r⟩, e⟩ := x
  exact ⟨_, ho⟩
theorem TupE.mem {P : Program} {w : World} {ts : List (List Int × Addr)} {es : List (Int × Value)} (h : TupE P w ts es) : ∀ e ∈ es, ∃ t ∈ ts, e = ((tupleKind (PySem.intKind P w)).hash t.1, Value.ref t.2) := by
  induction h with
  | nil => intro e he; cases he
  | @cons a b l1 l2 r t ih =>
    intro e he
    rcases List.mem_cons.mp he with rfl | he
    · exact ⟨a, List.mem_cons_self, r⟩
    · obtain ⟨t, ht, e⟩ := ih e he
      exact ⟨t, List.mem_cons_of_mem _ ht, e⟩
theorem TupE.mem' {P : Program} {w : World} {ts : List (List Int × Addr)} {es : List (Int × Value)} (h : TupE P w ts es) : ∀ t ∈ ts, ((tupleKind (PySem.intKind P w)).hash t.1, Value.ref t.2) ∈ es := by
  induction h with
  | nil => intro e he; cases he
  | @cons a b l1 l2 r t ih =>
    intro e he
    rcases List.mem_cons.mp he with rfl | he
    · rw [r]; exact List.mem_cons_self
    · exact List.mem_cons_of_mem _ (ih e he)

section
variable {X : Cx} {K : PySem.W.Frag}
def rAddI (w : World) : List V → Hp → VK → Prop := fun xs H Q => ∃ (S : Addr) (i : Int) (js : List Int), xs = [.ref S, .int i] ∧ H S = some (SetI w S js) ∧ js.length + 1 < 4096 ∧
  ∀ ks : List Int, ((i ∈ js ∧ ks = js) ∨ (i ∉ js ∧ ks.Perm (i :: js))) → Q .non (upd H S (SetI w S ks))
theorem cr_addI : CallR X (.builtin "set.add") (rAddI X.w) := by
  intro pins s σ H vs us Q I r h
  obtain ⟨S, i, js, rfl, hS, hn, q⟩ := h
  cases r with
  | cons r1 r2 =>
    cases r2 with
    | cons r2 r3 =>
      cases r3
      cases r1
      obtain ⟨t, rfl⟩ := r2
      obtain ⟨⟨es, hat, hE⟩, _, _⟩ := I.hok S _ hS
      have hlen : es.length = js.length := (Paired.length hE).symm
      have hty : s.TypeIs (.ref S) "set" := by
        obtain ⟨ep, tb, ho, _⟩ := hat
        exact ⟨_, ho, rfl⟩
      refine call_add hty (add_int hat hE.all (by omega) (fun hex => ?_) fun hno h' es' sb S' p' => ?_)
      · refine ⟨.non, _, ?_, rfl, q js (.inl ⟨(hE.mem i).mp hex, rfl⟩)⟩
        rw [upd_id hS]
        exact I.tok _
      · have hnin : i ∉ js := fun z => by
          obtain ⟨u, hu⟩ := (hE.mem i).mpr z
          exact hno u hu
        have hE2 : IntE (i :: js) ((hashInt i, Value.int i t) :: es) := .cons ⟨t, rfl⟩ hE
        obtain ⟨ks, k1, k2⟩ := paired_perm p'.symm hE2
        have new : SetIn X.w S ks h' := ⟨es', S', k2⟩
        refine ⟨.non, _, I.write (t' := s.toks + 1) (by rw [hS]; trivial) (.inl rfl) (fun b u hb e => by rw [sb.2 b hb]; exact e) ?_ new.ok, rfl, q ks (.inr ⟨hnin, k1⟩)⟩
        obtain ⟨ep, tb, ho, _⟩ := S'
        exact ⟨_, ho⟩
def rAddT (P : Program) (w : World) (K : PySem.W.Frag) : List V → Hp → VK → Prop := fun xs H Q => ∃ (S a : Addr) (l : List Int) (ts : List (List Int × Addr)), xs = [.ref S, .ref a] ∧ SqT K H a (l.map V.int) ∧ H S = some (SetT P w S ts) ∧
  (∀ t ∈ ts, SqT K H t.2 (t.1.map V.int)) ∧ ts.length + 1 < 4096 ∧
  ∀ us : List (List Int × Addr), (((∃ b, (l, b) ∈ ts) ∧ us = ts) ∨ ((∀ b, (l, b) ∉ ts) ∧ us.Perm ((l, a) :: ts))) → Q .non (upd H S (SetT P w S us))
theorem cr_addT {n : Nat} (hr : Room n X.A) (e : X.K = K) : CallR X (.builtin "set.add") (rAddT X.prog X.w K) := by
  subst e
  intro pins s σ H vs us Q I r h
  obtain ⟨S, a, l, ts, rfl, ha, hS, hts, hn, q⟩ := h
  cases r with
  | cons r1 r2 =>
    cases r2 with
    | cons r2 r3 =>
      cases r3
      cases r1
      cases r2
      obtain ⟨⟨es, hat, hE⟩, _, _⟩ := I.hok S _ hS
      have hlen : es.length = ts.length := (Paired.length hE).symm
      have hty : s.TypeIs (.ref S) "set" := by
        obtain ⟨ep, tb, ho, _⟩ := hat
        exact ⟨_, ho, rfl⟩
      have hu := hr.un
      have hel : ElsOf (tupleKind (PySem.intKind X.prog X.w)) s.heap es := fun e he => by
        obtain ⟨t, ht, rfl⟩ := hE.mem e he
        exact ⟨t.1, t.2, rfl, I.tupI (hts t ht)⟩
      have hroom : (tupleKind (PySem.intKind X.prog X.w)).room X.A.in1 := by show X.A.units + 1 < cLine; omega
      refine call_add hty (add_ref fit_tup hat hel (k := l) (I.tupI ha) hroom (by omega) hroom (fun hex tk => ?_) fun hno h' es' tk sb S' p' => ?_)
      · refine ⟨.non, _, ?_, rfl, q ts (.inl ⟨?_, rfl⟩)⟩
        · rw [upd_id hS]
          exact I.tok _
        · obtain ⟨y, hy, iy⟩ := hex
          obtain ⟨t, ht, e⟩ := hE.mem _ hy
          injection e with e1 e2
          injection e2 with e2
          subst e2
          have := IsTupleKey.inj iy (I.tupI (hts t ht))
          exact ⟨t.2, by rw [this]; exact ht⟩
      · have hnin : ∀ b, (l, b) ∉ ts := fun b z => hno ⟨b, hE.mem' _ z, I.tupI (hts _ z)⟩
        have hE2 : TupE X.prog X.w ((l, a) :: ts) (((tupleKind (PySem.intKind X.prog X.w)).hash l, Value.ref a) :: es) := .cons rfl hE
        obtain ⟨ks, k1, k2⟩ := paired_perm p'.symm hE2
        have new : SetTn X.prog X.w S ks h' := ⟨es', S', k2⟩
        refine ⟨.non, _, I.write (t' := tk) (by rw [hS]; trivial) (.inl rfl) (fun b u hb e => by rw [sb.2 b hb]; exact e) ?_ new.ok, rfl, q ks (.inr ⟨hnin, k1⟩)⟩
        obtain ⟨ep, tb, ho, _⟩ := S'
        exact ⟨_, ho⟩
def rSortSetT (P : Program) (w : World) (K : PySem.W.Frag) : List V → Hp → VK → Prop := fun xs H Q => ∃ (S : Addr) (ts : List (List Int × Addr)), xs = [.ref S] ∧ H S = some (SetT P w S ts) ∧ (∀ t ∈ ts, SqT K H t.2 (t.1.map V.int)) ∧
  ∀ (bs : List (List Int × Addr)) (p : Addr), bs.Perm ts → Rises (bs.map fun t => KD.t t.1) → H p = none → Q (.ref p) (upd H p (.lst (bs.map fun t => V.ref t.2)))
theorem TupE.vals {P : Program} {w : World} {h : Heap} {ts : List (List Int × Addr)} {es : List (Int × Value)} (x : TupE P w ts es) (k : ∀ t ∈ ts, TupI P w h t.1 t.2) :
    Paired (fun (t : List Int × Addr) (v : Value) => v = Value.ref t.2 ∧ TupI P w h t.1 t.2) ts (es.map (·.2)) := by
  induction x with
  | nil => exact .nil
  | @cons a b l1 l2 r t ih => subst r; exact .cons ⟨rfl, k a List.mem_cons_self⟩ (ih fun t ht => k t (List.mem_cons_of_mem _ ht))
theorem vals_refs {P : Program} {w : World} {h : Heap} : ∀ {bs : List (List Int × Addr)} {us : List Value}, Paired (fun (t : List Int × Addr) (v : Value) => v = Value.ref t.2 ∧ TupI P w h t.1 t.2) bs us → Vals (bs.map fun t => V.ref t.2) us
  | _, _, .nil => .nil
  | _, _, .cons r t => .cons r.1 (vals_refs t)
theorem cr_sortSetT {n : Nat} (hc : X.calm = true) (hr : Room n X.A) (e : X.K = K) : CallR X (.builtin "sorted") (rSortSetT X.prog X.w K) := by
  subst e
  intro pins s σ H vs us Q I r h
  obtain ⟨S, ts, rfl, hS, hts, q⟩ := h
  rw [Vals.ref1 r]
  obtain ⟨⟨es, hat, hE⟩, _, _⟩ := I.hok S _ hS
  have hu := hr.un
  refine sorted_set (R := fun (t : List Int × Addr) (v : Value) => v = Value.ref t.2 ∧ TupI X.prog X.w s.heap t.1 t.2) (f := fun t => KD.t t.1) (k := 1) (by omega) (I.ok.hd hc) hat (fun a v z => ⟨a.2, z.1, z.2⟩) (hE.vals fun t ht => I.tupI (hts t ht)) (fun _ _ => rfl) fun h' tk p bs us N p1 p2 p3 => ?_
  obtain ⟨n1, n2, e, n3⟩ := N
  have hl : (bs.map fun t => V.ref t.2).length ≤ sizeLine := by
    rw [List.length_map, p1.length_eq, Paired.length hE, sizeLine_eq]
    obtain ⟨_, _, _, _, z⟩ := hat
    omega
  exact ⟨.ref p, upd H p (.lst (bs.map fun t => V.ref t.2)), I.laid (t' := tk) n1 n2 ⟨hl, us, e, vals_refs p2, n3⟩, rfl, q bs p p1 p3 (I.hok.fresh n2)⟩
end
end L2

namespace L2
open PySem PySem.Spec PyProof.Rows

section
variable {X : Cx} {K : PySem.W.Frag}
def rInD (K : PySem.W.Frag) (neg : Bool) : R2 := fun x y H Q => ∃ d ds, Dp K H x d ∧ (Dp K H y (.list ds) ∨ Dp K H y (.tuple ds)) ∧ PyData.canLayAll0 ds = true ∧ d.canLay0 = true ∧ d.depth ≤ 50 ∧ Q (.bl (if neg then !(ds.any fun e => PyData.eqv e d) else ds.any fun e => PyData.eqv e d)) H
theorem op_inDK {k : Nat} (e : X.K = K) (hr : Room k X.A) : OpR X (compareOp .In) (rInD K false) := by
  subst e
  intro pins s σ H x y v u Q I rx ry h
  obtain ⟨d, ds, hd, hy, c1, c2, dp, q⟩ := h
  have hu := hr.units
  obtain ⟨as, r1⟩ := Dp.reads I d x v hd rx
  rcases hy with hy | hy
  · obtain ⟨bs, r2⟩ := Dp.reads I _ y u hy ry
    exact SeqAt.in_list_reads r2 r1 c1 c2 (by have := Nat.min_le_right (PyData.depthAll ds) d.depth; omega) ⟨.bl _, H, I, rfl, q⟩
  · obtain ⟨bs, r2⟩ := Dp.reads I _ y u hy ry
    exact SeqAt.in_tuple_reads r2 r1 c1 c2 (by have := Nat.min_le_right (PyData.depthAll ds) d.depth; omega) ⟨.bl _, H, I, rfl, q⟩
end
theorem eqvAll_ints : ∀ (a b : List Int), PyData.eqvAll (a.map PyData.int) (b.map PyData.int) = decide (a = b)
  | [], [] => by simp [PyData.eqvAll]
  | [], y :: b => by simp [PyData.eqvAll]
  | x :: a, [] => by simp [PyData.eqvAll]
  | x :: a, y :: b => by
    simp only [List.map_cons, PyData.eqvAll, eqvAll_ints a b]
    by_cases h1 : x = y
    · subst h1
      by_cases h2 : a = b
      · subst h2; simp [PyData.eqv]
      · simp [PyData.eqv, h2]
    · simp [PyData.eqv, h1]
theorem eqv_tup (a b : List Int) : PyData.eqv (tupD a) (tupD b) = decide (a = b) := by
  unfold tupD
  simp only [PyData.eqv, eqvAll_ints]
theorem canLay_ints : ∀ a : List Int, PyData.canLayAll0 (a.map PyData.int) = true
  | [] => by simp [PyData.canLayAll0]
  | x :: a => by simp [PyData.canLayAll0, PyData.canLay0, canLay_ints a]
theorem canLay_tup (a : List Int) : (tupD a).canLay0 = true := by
  unfold tupD
  simp only [PyData.canLay0, canLay_ints]
theorem canLay_tups : ∀ cs : List (List Int), PyData.canLayAll0 (cs.map tupD) = true
  | [] => by simp [PyData.canLayAll0]
  | x :: a => by simp [PyData.canLayAll0, canLay_tup, canLay_tups a]
theorem depth_tup (a : List Int) : (tupD a).depth ≤ 50 := by
  unfold tupD
  have := depthAll_ints a
  simp only [PyData.depth]; omega
theorem any_tups (cs : List (List Int)) (c : List Int) : ((cs.map tupD).any fun e => PyData.eqv e (tupD c)) = decide (c ∈ cs) := by
  rw [List.any_map]
  have : ((fun e => PyData.eqv e (tupD c)) ∘ tupD) = fun x => decide (x = c) := by funext x; exact eqv_tup x c
  rw [this]
  by_cases h : c ∈ cs
  · rw [decide_eq_true h, List.any_eq_true]; exact ⟨c, h, by simp⟩
  · rw [decide_eq_false h, List.any_eq_false]
    intro y hy e
    exact h (by rw [← of_decide_eq_true e]; exact hy)
theorem rInD_tups {K : PySem.W.Frag} {H : Hp} {neg : Bool} {a p : Addr} {c : List Int} {zs : List (Addr × List Int)} {cs : List (List Int)} {Q : VK} (ha : SqT K H a (c.map V.int)) (hp : SqL K H p (refs zs) ∨ SqT K H p (refs zs)) (ht : Tups K H zs) (e : zs.map (·.2) = cs)
    (q : Q (.bl (if neg then !decide (c ∈ cs) else decide (c ∈ cs))) H) : rInD K neg (.ref a) (.ref p) H Q := by
  subst e
  have e2 : (zs.map (·.2)).map tupD = zs.map fun z => tupD z.2 := by rw [List.map_map]; rfl
  refine ⟨tupD c, (zs.map (·.2)).map tupD, Dp_tup ha, ?_, canLay_tups _, canLay_tup c, depth_tup c, by rw [any_tups]; exact q⟩
  rw [e2]
  exact hp.imp (fun h => .lst h (DpAll_tups ht)) fun h => .tup h (DpAll_tups ht)

section
variable {X : Cx} {K : PySem.W.Frag} {e : Expr} {te : TE} {p1 p2 p3 pos : Pos} {j : Nat}
end

section
variable {X : Cx} {K : PySem.W.Frag}
end
section
variable {prog : Program} {w : World} {A : Around} {E : Value → Shared → Prop} {s : Shared}
end
section
variable {X : Cx} {K : PySem.W.Frag}
end

section
variable {prog : Program} {w : World} {A : Around} {E : Value → Shared → Prop} {s : Shared}
theorem collect_tuple {l : Addr} {vs : List Value} {Q : List Value → Shared → Prop} (hl : IsTup s.heap l vs.toArray)
    (h : Q vs { s with heap := (s.heap.push (seqObj "list" #[] 0)).update s.heap.objs.size (Obj.mapSeq (· ++ vs.toArray)) }) (hsz : vs.length ≤ sizeLine := by size_fits) :
    wpAny (model prog w) A (collect (.ref l)) Q E s := by
  obtain ⟨o, ho, hc, n, hd⟩ := id hl
  unfold collect
  refine wpAny_bind (wpAny_runValue (codeAny_builtin entry_proto_collect' ?_))
  show wpAny _ _ (do again (.builtin "list.__iadd__" ⟨[← newList [], .ref l], []⟩)) _ _ s
  refine wpAny_bind (wpAny_newList (wpAny_pure ⟨Code.quiet_builtin _ (by decide +kernel), codeAny_builtin entry_list_iadd' ?_⟩))
  show wpAny _ _ (Builtin.List.listExtendWith (.ref s.heap.objs.size) (.ref l) (.ref s.heap.objs.size)) _ _ { s with heap := s.heap.push (seqObj "list" #[] 0) }
  unfold Builtin.List.listExtendWith
  have ho' : (s.heap.push (seqObj "list" #[] 0)).get? l = some o := Heap.get?_push_of_some _ ho
  refine wpAny_bind (wpAny_typeOf (T := "tuple") ⟨o, ho', hc⟩ ?_)
  have ht : (Value.type "tuple" == Value.type "tuple") = true := by rfl
  rw [if_pos (by rw [ht]; simp)]
  refine wpAny_bind (listItems_at ho' hd ?_)
  refine wpAny_bind (listItems_at (xs := #[]) (n := 0) (Heap.get?_push_size _ rfl) rfl ?_)
  rw [if_neg (by simp)]
  refine wpAny_bind (listUpdate_at (xs := #[]) (n := 0) (Heap.get?_push_size _ rfl) rfl ?_ (Nat.zero_le _) (by show (#[] ++ vs.toArray).size ≤ sizeLine + 1; simp only [Array.size_append, List.size_toArray, List.length_nil]; omega))
  refine wpAny_pure ?_
  show wpAny (model prog w) A (do
      let o ← load s.heap.objs.size
      match o.data with
      | .seq xs _ => pure xs.toList
      | _ => unsupported "internal:collect") Q E { s with heap := (s.heap.push (seqObj "list" #[] 0)).update s.heap.objs.size (Obj.mapSeq (· ++ vs.toArray)) }
  refine wpAny_bind (wpAny_load (get?_update_seq (Heap.get?_push_size _ rfl) _) ?_)
  show wpAny _ _ (pure ((#[] : Array Value) ++ vs.toArray).toList) Q E _
  rw [show ((#[] : Array Value) ++ vs.toArray).toList = vs by simp]
  exact wpAny_pure h
end
section
variable {X : Cx} {K : PySem.W.Frag}
def rSortTup (K : PySem.W.Frag) : List V → Hp → VK → Prop := fun xs H Q => ∃ (a : Addr) (l : List Int), xs = [.ref a] ∧ SqT K H a (l.map V.int) ∧
  ∀ (bs : List Int) (p : Addr), bs.Perm l → bs.Pairwise (· ≤ ·) → H p = none → Q (.ref p) (upd H p (.lst (bs.map V.int)))
theorem cr_sortTup {n : Nat} (hr : Room n X.A) (e : X.K = K) : CallR X (.builtin "sorted") (rSortTup K) := by
  subst e
  intro pins s σ H vs us Q I r h
  obtain ⟨a, l, rfl, hs, q⟩ := h
  obtain ⟨its, rv, hl, hz⟩ := I.tuple hs
  rw [Vals.ref1 r]
  have hu := hr.un
  have hzl : its.length ≤ sizeLine := by rw [← rv.length]; exact hz
  have hp : Paired (fun (j : Int) (v : Value) => ∃ u, v = Value.int j u) l its := by
    have : ∀ {l : List Int} {its : List Value}, Vals (l.map V.int) its → Paired (fun (j : Int) (v : Value) => ∃ u, v = Value.int j u) l its := by
      intro l
      induction l with
      | nil => intro its h; cases h; exact .nil
      | cons x l ih => intro its h; cases h with | cons r1 r2 => exact .cons r1 (ih r2)
    exact this rv
  refine sorted_of (R := fun (j : Int) (v : Value) => ∃ u, v = Value.int j u) (f := KD.n) (by omega) (collect_tuple hl ?_ hzl)
  have kp : ∀ b o, s.heap.get? b = some o → ((s.heap.push (seqObj "list" #[] 0)).update s.heap.objs.size (Obj.mapSeq (· ++ its.toArray))).get? b = some o := fun b o e => by
    rw [Heap.get?_update_ne _ _ _ _ (Nat.ne_of_lt (Heap.lt_size e))]
    exact Heap.get?_push_of_some _ e
  refine ⟨l, 0, fun a v z => z, hp, fun _ _ => rfl, hzl, fun h' p bs us N p1 p2 p3 => ?_⟩
  obtain ⟨n1, n2, ee, n3⟩ := N
  have n2' : s.heap.objs.size ≤ p := Nat.le_trans (by rw [Heap.size_update, size_push']; exact Nat.le_succ _) n2
  have hlen : (bs.map V.int).length ≤ sizeLine := by
    rw [List.length_map, p1.length_eq, ← List.length_map (f := V.int)]; exact hz
  exact ⟨.ref p, upd H p (.lst (bs.map V.int)), I.laid (t' := s.toks) (fun b o e => n1 b o (kp b o e)) n2' ⟨hlen, us, ee, vals_intsP p2, n3⟩, rfl, q bs p p1 (rises_ints p3) (I.hok.fresh n2')⟩
def rSortInts (K : PySem.W.Frag) : List V → Hp → VK → Prop := fun xs H Q => ∃ (a : Addr) (l : List Int), xs = [.ref a] ∧ SqL K H a (l.map V.int) ∧
  ∀ (bs : List Int) (p : Addr), bs.Perm l → bs.Pairwise (· ≤ ·) → H p = none → Q (.ref p) (upd H p (.lst (bs.map V.int)))
theorem kdv_ints {H : Hp} : ∀ l : List Int, Paired (KDV K H) (l.map KD.n) (l.map V.int)
  | [] => .nil
  | x :: l => .cons rfl (kdv_ints l)
theorem cr_sortInts {n : Nat} (hr : Room n X.A) (e : X.K = K) : CallR X (.builtin "sorted") (rSortInts K) := by
  intro pins s σ H vs us Q I r h
  obtain ⟨a, l, rfl, hs, q⟩ := h
  refine cr_sortKD hr e pins s σ H _ us Q I r ⟨a, l.map KD.n, l.map V.int, 0, rfl, hs, kdv_ints l, fun x hx => ?_, fun bs p b1 b2 hp => ?_⟩
  · obtain ⟨z, _, rfl⟩ := List.mem_map.mp hx
    rfl
  · obtain ⟨ys, rfl, yp⟩ := zip_perm b1
    have e1 : (ys.map fun z => (KD.n z, V.int z)).map (·.2) = ys.map V.int := by rw [List.map_map]; rfl
    have e2 : (ys.map fun z => (KD.n z, V.int z)).map (·.1) = ys.map KD.n := by rw [List.map_map]; rfl
    rw [e1]
    rw [e2] at b2
    exact q ys p yp (rises_ints b2) hp
def rSetIntsT (w : World) (K : PySem.W.Frag) : List V → Hp → VK → Prop := fun xs H Q => ∃ (a : Addr) (ns : List Int), xs = [.ref a] ∧ SqT K H a (ns.map V.int) ∧ ns.length + 1 < 4096 ∧
  ∀ (S : Addr) (js : List Int), H S = none → js.Nodup → (∀ j, j ∈ js ↔ j ∈ ns) → Q (.ref S) (upd H S (SetI w S js))
theorem cr_setIntsT (hc : X.calm = true) (e : X.K = K) : CallR X (.type "set") (rSetIntsT X.w K) := by
  subst e
  intro pins s σ H vs us Q I r h
  obtain ⟨a, ns, rfl, hs, hn, q⟩ := h
  obtain ⟨its, rv, hl, _⟩ := I.tuple hs
  rw [Vals.ref1 r]
  have hi := rv.ints
  have hlen : its.length = ns.length := by rw [hi.length]
  have hz : its.toArray.size = ns.length := by simp [hlen]
  let J : Nat → Heap → Prop := fun i h => ∃ js, SetIn X.w s.heap.objs.size js h ∧ js.Nodup ∧ (∀ j, j ∈ js ↔ j ∈ ns.take i) ∧ js.length ≤ i
  refine set_of_tup (I.ok.hd hc) hl J ?_ ?_ ?_ ?_
  · exact ⟨[], ⟨[], ⟨0, _, Heap.get?_push_size _ rfl, Tab0.fresh _, by decide⟩, .nil⟩, List.nodup_nil, fun j => by simp, Nat.le_refl _⟩
  · rintro i h h' ⟨js, x, r⟩ hk
    exact ⟨js, x.at fun o => hk _ o (Nat.ne_of_lt (Nat.lt_succ_self _)), r⟩
  · rintro i v A' E' s1 Q1 _ hv ⟨js, ⟨es, hS, hE⟩, hnd, hmem, hle⟩ hq
    have hv' : its[i]? = some v := by simpa using hv
    obtain ⟨t, rfl⟩ := IntsAre.int_at hi i v hv'
    have hil : i < ns.length := by rw [← hlen]; exact (List.getElem?_eq_some_iff.mp hv').1
    have hni : ns[i]? = some (ns.getD i 0) := by rw [List.getD_eq_getElem?_getD, List.getElem?_eq_getElem hil]; rfl
    have hel : es.length = js.length := (Paired.length hE).symm
    refine add_int hS hE.all (by omega) (fun hex => ?_) fun hno h' es' sb S' p' => ?_
    · have hin := (hE.mem _).mp hex
      have := hq false s1.heap (s1.toks + 1) (Nat.le_succ _) (Heap.SameBut.refl _ _) ⟨js, ⟨es, hS, hE⟩, hnd, fun j => by
        rw [take_mem hni]
        exact (hmem j).trans ⟨.inl, fun z => z.elim id fun z => z ▸ (hmem _).mp hin⟩, Nat.le_succ_of_le hle⟩
      exact this
    · have hnin : ns.getD i 0 ∉ js := fun z => by
        obtain ⟨u, hu⟩ := (hE.mem _).mpr z
        exact hno u hu
      have hE2 : IntE (ns.getD i 0 :: js) ((hashInt (ns.getD i 0), Value.int (ns.getD i 0) t) :: es) := .cons ⟨t, rfl⟩ hE
      obtain ⟨ks, k1, k2⟩ := paired_perm p'.symm hE2
      refine hq true h' (s1.toks + 1) (Nat.le_succ _) sb ⟨ks, ⟨es', S', k2⟩, ?_, fun j => ?_, ?_⟩
      · exact k1.nodup_iff.mpr (List.nodup_cons.mpr ⟨hnin, hnd⟩)
      · rw [k1.mem_iff, List.mem_cons, take_mem hni, ← hmem j]
        exact or_comm
      · rw [k1.length_eq, List.length_cons]; omega
  · rintro h' tk ⟨js, x, hnd, hmem, _⟩ hk
    refine ⟨.ref s.heap.objs.size, upd H s.heap.objs.size (SetI X.w s.heap.objs.size js), I.laid (t' := tk) hk (Nat.le_refl _) x.ok, rfl, q _ js (I.hok.fresh (Nat.le_refl _)) hnd fun j => ?_⟩
    rw [hmem j, hz, List.take_length]
def rSetIntsA (w : World) (K : PySem.W.Frag) : List V → Hp → VK → Prop := fun xs H Q => rSetInts w K xs H Q ∨ rSetIntsT w K xs H Q
theorem cr_setIntsA (hc : X.calm = true) (e : X.K = K) : CallR X (.type "set") (rSetIntsA X.w K) := (cr_setInts hc e).or (cr_setIntsT hc e)
end
end L2

namespace L2
open PySem PySem.Spec PyProof.Rows
section
variable {prog : Program} {w : World} {A : Around} {E : Value → Shared → Prop} {s : Shared}
theorem newSet_led {Q : Value → Shared → Prop} (h : Q (.ref s.heap.objs.size) { s with heap := s.heap.push (emptySet w) }) : wpAny (model prog w) A (newSet (.type "set")) Q E s := by
  unfold newSet setsByText
  refine wpAny_bind (wpAny_bind (wpAny_askSetting (wpAny_pure ?_)))
  dsimp only
  simp only [newObj]
  exact wpAny_bind (wpAny_alloc (wpAny_pure h))
theorem codeAny_compStart_set {R : Result → Shared → Prop} {elt target iter : Expr} {ifs : List Expr} {rest : List Comprehension} {scope : Scope} {pos : Pos} {it acc : Value} {env : Env}
    (h0 : codeAny (model prog w) A (.compLoop (.SetComp elt (⟨target, iter, ifs, 0⟩ :: rest) scope pos) 0 it acc env) R s)
    (h : wpAny (model prog w) A (pyIter it) (fun it' s' => codeAny (model prog w) A (.compLoop (.SetComp elt (⟨target, iter, ifs, 0⟩ :: rest) scope pos) 0 it' acc env) R s')
      (notedBy (model prog w) A env fun x s' => R (.error x) s') s) :
    codeAny (model prog w) A (.compStart (.SetComp elt (⟨target, iter, ifs, 0⟩ :: rest) scope pos) 0 it acc env) R s := by
  refine codeAny_of_tree ?_
  show wpAny _ _ ((compStart (.SetComp elt (⟨target, iter, ifs, 0⟩ :: rest) scope pos) 0 it acc env).onRaise (fun x => do noteFrame x env; standAt theWindowsPlace)) _ _ s
  refine wpAny_notedAt ?_
  unfold compStart
  show wpAny _ _ (ask >>= _) _ _ s
  refine wpAny_bind (wpAny_askSetting (wpAny_ite ?_))
  split
  · first
      | exact wpAny_bind (wpAny_pure (wpAny_pure (And.intro rfl h0)))
      | exact wpAny_pure (And.intro rfl h0)
  · exact wpAny_bind (wpAny_rule (wpAny_bind (wpAny_standAt (wpAny_bind (wpAny_mono h (fun it' s' h' => wpAny_pure (And.intro rfl h')) fun _ _ x => x)))))
end
section
variable {X : Cx}
theorem mkI (P : Program) (w : World) (H : Hp) (D : Addr) (h : Heap) (e : h.get? D = some (emptySet w)) : ObjOk P w H h D (SetI w D []) :=
  SetIn.ok ⟨[], ⟨0, _, e, Tab0.fresh _, by decide⟩, .nil⟩
theorem mkT (P : Program) (w : World) (H : Hp) (D : Addr) (h : Heap) (e : h.get? D = some (emptySet w)) : ObjOk P w H h D (SetT P w D []) :=
  SetTn.ok ⟨[], ⟨0, _, e, Tab0.fresh _, by decide⟩, .nil⟩
end
end L2

namespace L2
open PySem PySem.Spec PyProof.Rows
section
variable {X : Cx} {K : PySem.W.Frag}
end

theorem gen_any_tup {K : PySem.W.Frag} {a : Addr} {xs : List V} {Q : VK} {te : TE} {vs : List Nat} {σ : St} {H : Hp} {i0 : Nat} (p : Nat → Bool) (hl : SqT K H a xs) (hw : ∀ x, wipe ((wipe σ vs).set i0 (some x)) vs = wipe σ vs)
    (step : ∀ (i : Nat) (x : V) (H1 : Hp) (R : VK), Same H H1 → xs[i]? = some x → (∀ H2, Same H1 H2 → R (.bl (p i)) H2) → te ((wipe σ vs).set i0 (some x)) H1 R)
    (q : ∀ H', Same H H' → Q (.bl ((List.range xs.length).any p)) H') : ∃ m, gGen (Itt K a) (gName i0) tYes te vs σ (sAny Q) (eAny Q) m () 0 H := by
  refine gen_tup (xs := xs) (fun i _ H' => Same H H' ∧ (List.range i).any p = false) (fun i acc H' _ h => h.1.sqT hl) ?_ ?_ ⟨Same.refl _, rfl⟩
  · rintro i x acc H' hx ⟨sm, e⟩
    have hlt : i < xs.length := (List.getElem?_eq_some_iff.mp hx).1
    refine ⟨hw x, yes (step i x H' _ sm hx fun H2 s2 => ⟨_, rfl, ?_⟩)⟩
    cases hp : p i with
    | false =>
      refine iteF ⟨sm.trans s2, ?_⟩
      rw [List.range_succ, List.any_append, e]; simp [hp]
    | true =>
      refine iteT ?_
      have : (List.range xs.length).any p = true := by
        rw [List.any_eq_true]
        exact ⟨i, List.mem_range.mpr hlt, by rw [hp]⟩
      have q' := q H2 (sm.trans s2)
      rw [this] at q'
      exact q'
  · rintro acc H' ⟨sm, e⟩
    have q' := q H' sm
    rw [e] at q'
    exact q'

theorem map_rangeG {α β : Type} {xs : List α} {f : α → β} {p : Nat → β} (h : ∀ i x, xs[i]? = some x → p i = f x) : (List.range xs.length).map p = xs.map f := by
  refine List.ext_getElem? fun i => ?_
  rw [List.getElem?_map, List.getElem?_map]
  rcases Nat.lt_or_ge i xs.length with hl | hl
  · rw [List.getElem?_range hl, List.getElem?_eq_getElem hl]
    show some (p i) = some (f xs[i])
    rw [h i xs[i] (List.getElem?_eq_getElem hl)]
  · rw [List.getElem?_eq_none (by simpa using hl), List.getElem?_eq_none hl]; rfl
theorem any_rangeF {α : Type} {xs : List α} {f : α → Bool} {p : Nat → Bool} (h : ∀ i x, xs[i]? = some x → p i = f x) : (List.range xs.length).any p = xs.any f := by
  have e := congrArg (fun l : List Bool => l.any id) (map_rangeG h)
  simpa [List.any_map] using e
end L2
namespace L2
open PySem PySem.Spec PyProof.Rows
theorem shaped_ints (ms : List Int) : SeqAt.shaped (.list (ms.map PyData.int)) = true := by
  unfold SeqAt.shaped
  have h := depthAll_ints ms
  have hd : (PyData.list (ms.map PyData.int)).depth = PyData.depthAll (ms.map PyData.int) + 1 := by simp only [PyData.depth]
  have hc : (PyData.list (ms.map PyData.int)).canLay0 = true := by simp only [PyData.canLay0, canLay_ints]
  rw [hc, Bool.true_and, decide_eq_true_eq, hd]
  omega
theorem eqv_ints (a b : List Int) : PyData.eqv (.list (a.map PyData.int)) (.list (b.map PyData.int)) = decide (a = b) := by
  simp only [PyData.eqv, eqvAll_ints]
end L2

namespace L2
open PySem PySem.Spec PyProof.Rows
section
variable {K : PySem.W.Frag} {a : Addr} {xs : List V} {g : TG} {tt : TT} {te : TE} {vs : List Nat} {σ : St} {H1 : Hp} {D : Addr} {mk : Addr → HO} {radd : List V → Hp → VK → Prop} {Qd : Hp → Prop}
end
section
variable {P : Program} {w : World} {K : PySem.W.Frag} {H H' H1 H4 : Hp}
theorem SqT.se {a D : Addr} {xs : List V} {φ : Heap → Prop} (h : SqT K H a xs) (hD : H D = some (.ext φ)) (s : SameX D H H') : SqT K H' a xs := by
  rcases h with (h | ⟨o, h⟩) | h
  · exact .inl (.inl (s _ _ (ne_of h hD (by intro e; cases e)) h))
  · exact .inl (.inr ⟨o, s _ _ (ne_of h hD (by intro e; cases e)) h⟩)
  · exact .inr h
structure SetD (P : Program) (w : World) (K : PySem.W.Frag) (H : Hp) (D : Addr) (ts : List (List Int × Addr)) : Prop where
  at_ : H D = some (SetT P w D ts)
  tup : ∀ t ∈ ts, SqT K H t.2 (t.1.map V.int)
  nd : (ts.map (·.1)).Nodup
theorem SetD.same {D : Addr} {ts : List (List Int × Addr)} (h : SetD P w K H D ts) (s : Same H H') : SetD P w K H' D ts := ⟨s _ _ h.at_, fun t ht => s.sqT (h.tup t ht), h.nd⟩
theorem SetD.new {D : Addr} (h : H D = some (SetT P w D [])) : SetD P w K H D [] := ⟨h, (fun t ht => nomatch ht), List.nodup_nil⟩
end
end L2

namespace KW
open PySem L2
def stepC (acc : List (List Int)) (c : Int) : List (List Int) := acc ++ acc.map (· ++ [c])
def subsC (l : List Int) : List (List Int) := l.foldl stepC [[]]
def pickI (l : List Int) (m i : Nat) : List Int := ((List.range i).filter fun k => m.testBit k).map (l.getD · 0)
def pickC (l : List Int) (m : Nat) : List Int := pickI l m l.length
theorem pickI_succ {l : List Int} {m i : Nat} : pickI l m (i + 1) = if m.testBit i = true then pickI l m i ++ [l.getD i 0] else pickI l m i := by
  unfold pickI
  rw [List.range_succ, List.filter_append, List.map_append]
  split
  · rename_i h; simp [h]
  · rename_i h; simp [h]
theorem pickI_app {l : List Int} {c : Int} {m : Nat} : ∀ {i : Nat}, i ≤ l.length → pickI (l ++ [c]) m i = pickI l m i
  | 0, _ => rfl
  | i + 1, h => by
    rw [pickI_succ, pickI_succ, pickI_app (Nat.le_of_succ_le h)]
    have : (l ++ [c]).getD i 0 = l.getD i 0 := by
      rw [List.getD_eq_getElem?_getD, List.getD_eq_getElem?_getD, List.getElem?_append_left (by omega)]
    rw [this]
theorem pickI_add {l : List Int} {m n : Nat} : ∀ {i : Nat}, i ≤ n → pickI l (2 ^ n + m) i = pickI l m i
  | 0, _ => rfl
  | i + 1, h => by
    rw [pickI_succ, pickI_succ, pickI_add (Nat.le_of_succ_le h), Nat.testBit_two_pow_add_gt h]
theorem pick_low {l : List Int} {c : Int} {m : Nat} (h : m < 2 ^ l.length) : pickC (l ++ [c]) m = pickC l m := by
  unfold pickC
  rw [List.length_append, List.length_singleton, pickI_succ, Nat.testBit_lt_two_pow h, if_neg (by decide), pickI_app (Nat.le_refl _)]
theorem pick_high {l : List Int} {c : Int} {m : Nat} (h : m < 2 ^ l.length) : pickC (l ++ [c]) (2 ^ l.length + m) = pickC l m ++ [c] := by
  unfold pickC
  rw [List.length_append, List.length_singleton, pickI_succ, Nat.testBit_two_pow_add_eq, Nat.testBit_lt_two_pow h, if_pos (by decide), pickI_app (Nat.le_refl _), pickI_add (Nat.le_refl _)]
  have : (l ++ [c]).getD l.length 0 = c := by simp
  rw [this]
theorem subs_pick (l : List Int) : subsC l = (List.range (2 ^ l.length)).map (pickC l) := by
  obtain ⟨n, hn⟩ : ∃ n, l.length = n := ⟨_, rfl⟩
  induction n generalizing l with
  | zero => rw [List.length_eq_zero_iff.mp hn]; rfl
  | succ n ihn =>
    obtain ⟨l, c, rfl⟩ : ∃ l' c, l = l' ++ [c] := ⟨l.dropLast, l.getLast (by intro e; rw [e] at hn; simp at hn), (List.dropLast_concat_getLast _).symm⟩
    have ih := ihn l (by simpa using hn)
    have e : subsC (l ++ [c]) = stepC (subsC l) c := by unfold subsC; rw [List.foldl_append]; rfl
    have e2 : List.range (2 ^ (l ++ [c]).length) = List.range (2 ^ l.length) ++ (List.range (2 ^ l.length)).map (2 ^ l.length + ·) := by
      rw [List.length_append, List.length_singleton, Nat.pow_succ, Nat.mul_two, List.range_add]
    rw [e, e2, List.map_append, ih, List.map_map]
    unfold stepC
    rw [List.map_map]
    congr 1
    · exact List.map_congr_left fun m hm => (pick_low (List.mem_range.mp hm)).symm
    · exact List.map_congr_left fun m hm => (pick_high (List.mem_range.mp hm)).symm
theorem subs_take {l : List Int} {i : Nat} (h : i < l.length) : subsC (l.take (i + 1)) = stepC (subsC (l.take i)) (l.getD i 0) := by
  have : l.take (i + 1) = l.take i ++ [l.getD i 0] := by
    rw [List.take_succ, List.getD_eq_getElem?_getD, List.getElem?_eq_getElem h]; rfl
  rw [this]; unfold subsC; rw [List.foldl_append]; rfl
theorem subs_len (l : List Int) : (subsC l).length = 2 ^ l.length := by rw [subs_pick, List.length_map, List.length_range]
theorem pickC_mem {l : List Int} {m : Nat} : (pickC l m).length ≤ l.length ∧ ∀ z ∈ pickC l m, z ∈ l := by
  unfold pickC pickI
  constructor
  · rw [List.length_map]
    exact Nat.le_trans (List.length_filter_le _ _) (by rw [List.length_range]; exact Nat.le_refl _)
  · intro z hz
    obtain ⟨k, hk, rfl⟩ := List.mem_map.mp hz
    have hk := List.mem_range.mp (List.mem_filter.mp hk).1
    rw [List.getD_eq_getElem?_getD, List.getElem?_eq_getElem hk]
    exact List.getElem_mem _
theorem subs_mem {l c : List Int} (h : c ∈ subsC l) : c.length ≤ l.length ∧ ∀ z ∈ c, z ∈ l := by
  rw [subs_pick] at h
  obtain ⟨m, _, rfl⟩ := List.mem_map.mp h
  exact pickC_mem
def keyD (c : List Int) : KD := .p c.length c
theorem keyed_unique {as bs : List (List Int)} (p : as.Perm bs) (ha : Rises (as.map keyD)) (hb : Rises (bs.map keyD)) : as = bs := by
  have h := rises_unique (p.map (fun c : List Int => ((c.length : Int) :: c))) (List.pairwise_map.mpr (List.pairwise_map.mp ha)) (List.pairwise_map.mpr (List.pairwise_map.mp hb))
  have h2 := congrArg (List.map List.tail) h
  rw [List.map_map, List.map_map] at h2
  have e : (List.tail ∘ fun c : List Int => ((c.length : Int) :: c)) = id := rfl
  rw [e, List.map_id, List.map_id] at h2
  exact h2
end KW

namespace KW
open PySem L2
end KW

namespace KW
open PySem L2
theorem refs_app (zs ws : List (Addr × List Int)) : refs (zs ++ ws) = refs zs ++ refs ws := List.map_append ..
theorem refs_at {zs : List (Addr × List Int)} {j : Nat} {x : V} (h : (refs zs)[j]? = some x) : ∃ z, zs[j]? = some z ∧ x = .ref z.1 := by
  rw [List.getElem?_map] at h
  obtain ⟨z, hz, e⟩ := Option.map_eq_some_iff.mp h
  exact ⟨z, hz, e.symm⟩
theorem ints_at {l : List Int} {j : Nat} {x : V} (h : (l.map V.int)[j]? = some x) : ∃ z, l[j]? = some z ∧ x = .int z := by
  rw [List.getElem?_map] at h
  obtain ⟨z, hz, e⟩ := Option.map_eq_some_iff.mp h
  exact ⟨z, hz, e.symm⟩
theorem pow_small {i : Nat} (h : i ≤ 10) : 2 ^ i ≤ 1024 := Nat.pow_le_pow_right (by decide) h
theorem atI_getD' {ms : List Int} {i : Nat} {z : Int} (e : z = i) (h : i < ms.length) : atI (ms.map V.int) z = some (.int (ms.getD i 0)) := by
  rw [e]
  refine atI_nat ?_
  rw [List.getElem?_map, List.getD_eq_getElem?_getD, List.getElem?_eq_getElem h]
  rfl
theorem cut_from {l : List Int} {k : Nat} (h : k ≤ l.length) : cutV (l.map V.int) (some (k : Int)) none = (l.drop k).map V.int := by
  unfold cutV
  rw [HT.sIx_none, HT.sIx_nat, List.length_map, Nat.min_eq_left h, List.map_drop, List.take_of_length_le]
  rw [List.length_drop, List.length_map]; exact Nat.le_refl _
theorem rise_of {bs js : List Int} (p : bs.Perm js) (nd : js.Nodup) (h : bs.Pairwise (· ≤ ·)) : bs.Pairwise (· < ·) := by
  have nb : bs.Nodup := p.nodup_iff.mpr nd
  refine List.Pairwise.imp₂ (fun a b h1 h2 => ?_) h nb
  omega
theorem fmod_nn {a m : Int} (h : 1 ≤ m) : 0 ≤ a.fmod m := by rw [Int.fmod_eq_emod_of_nonneg a (by omega)]; exact Int.emod_nonneg _ (by omega)
theorem fmod_lt {a m : Int} (h : 1 ≤ m) : a.fmod m < m := by rw [Int.fmod_eq_emod_of_nonneg a (by omega)]; exact Int.emod_lt_of_pos _ (by omega)
theorem fdiv_nn {a m : Int} (h : 1 ≤ m) (ha : 0 ≤ a) : 0 ≤ a.fdiv m := by rw [Int.fdiv_eq_ediv_of_nonneg a (by omega)]; exact Int.ediv_nonneg ha (by omega)
theorem fmod_bd {a m : Int} (h : 1 ≤ m) (hm : m < 2 ^ 64) : -(2 ^ 64) < a.fmod m ∧ a.fmod m < 2 ^ 64 := by
  have h1 := fmod_nn (a := a) h
  have h2 := fmod_lt (a := a) h
  constructor <;> omega
theorem at_mod {ns : List Int} (x : Int) (h : 0 < ns.length) : ∃ z, atI (ns.map V.int) (x.fmod (ns.length : Int)) = some (.int z) := by
  have h1 : 1 ≤ (ns.length : Int) := by omega
  have h2 := fmod_nn (a := x) h1
  have h3 := fmod_lt (a := x) h1
  obtain ⟨j, hj⟩ : ∃ j : Nat, x.fmod (ns.length : Int) = j := ⟨_, (Int.toNat_of_nonneg h2).symm⟩
  have hlt : j < ns.length := by omega
  refine ⟨ns[j], at_of hj ?_⟩
  rw [List.getElem?_map, List.getElem?_eq_getElem hlt]
  rfl
theorem abs_nn (a : Int) : 0 ≤ (if a < 0 then -a else a) := by split <;> omega
end KW

namespace KW
open PySem L2
def inAll (l m : List Int) : Bool := l.all fun x => decide (x ∈ m)
end KW

namespace L2
open PySem PySem.Spec PyProof.Rows
section
variable {X : Cx} {K : PySem.W.Frag}
theorem cr_isBool : CallR X (.builtin "isinstance") (fun xs H Q => ∃ c, xs = [.bl c, .ty "bool"] ∧ Q (.bl true) H) := by
  intro pins s σ H xs us Q I r h
  obtain ⟨c, rfl, q⟩ := h
  obtain ⟨u, t, rfl, ru, rt⟩ : ∃ u t, us = [u, t] ∧ RelV (.bl c) u ∧ RelV (.ty "bool") t := by
    cases r with
    | cons r1 r2 => cases r2 with
      | cons r3 r4 => cases r4; exact ⟨_, _, rfl, r1, r3⟩
  cases (show t = Value.type "bool" from rt)
  refine isinst_ok I ru (.bl c) rfl fun tk => ?_
  exact fin_bl (I.tok tk) q rfl
end
end L2

namespace KW
open PySem L2
end KW

namespace KW
open PySem L2
end KW

namespace L2
open PySem PySem.Spec PyProof.Rows
theorem hu1 {k : Nat} {A : Around} (h : Room k A) : A.units + 1 < cLine := by have := h.units; omega
section
variable {prog : Program} {w : World} {κ : Type} [DecidableEq κ] {knd : HeapKind prog w κ} {A : Around} {E : Value → Shared → Prop} {s : Shared}
end
section
variable {X : Cx} {K : PySem.W.Frag}
end
end L2

namespace L2
open PySem PySem.Spec PyProof.Rows
theorem setTurn2_out (elt t0 i0 t1 i1 : Expr) (ifs0 ifs1 : List Expr) (scope : Scope) (pos : Pos) (it acc : Value) (env : Env) :
    compTurn (.SetComp elt [⟨t0, i0, ifs0, 0⟩, ⟨t1, i1, ifs1, 0⟩] scope pos) 0 it acc env = (do
      standAt i0.pos
      match ← pyNext it with
      | none => pure (.done .next)
      | some v =>
        letOwnedTupleGo t0 it v
        assign t0 env v
        let mut ok := true
        for c in ifs0 do
          if ok then ok ← isTrue c env (eval c env)
        if ok then
          let x ← eval i1 env
          standAt i1.pos
          let x ← foldedSetIterable i1 env x
          let _ ← runOwn (.compStart (.SetComp elt [⟨t0, i0, ifs0, 0⟩, ⟨t1, i1, ifs1, 0⟩] scope pos) 1 (← holding [x] (pyIter x)) acc env) env
        again (.compLoop (.SetComp elt [⟨t0, i0, ifs0, 0⟩, ⟨t1, i1, ifs1, 0⟩] scope pos) 0 it acc env)) := by rfl
theorem setTurn2_in (elt t0 i0 t1 i1 : Expr) (ifs0 ifs1 : List Expr) (scope : Scope) (pos : Pos) (it acc : Value) (env : Env) :
    compTurn (.SetComp elt [⟨t0, i0, ifs0, 0⟩, ⟨t1, i1, ifs1, 0⟩] scope pos) 1 it acc env = (do
      standAt i1.pos
      match ← pyNext it with
      | none => pure (.done .next)
      | some v =>
        letOwnedTupleGo t1 it v
        assign t1 env v
        let mut ok := true
        for c in ifs1 do
          if ok then ok ← isTrue c env (eval c env)
        if ok then
          (do let v ← eval elt env; standAt elt.pos; let _ ← call (.builtin "set.add") [acc, v])
        again (.compLoop (.SetComp elt [⟨t0, i0, ifs0, 0⟩, ⟨t1, i1, ifs1, 0⟩] scope pos) 1 it acc env)) := by rfl

section
variable {prog : Program} {w : World} {A : Around} {R : Result → Shared → Prop} {s : Shared} {elt t0 i0 t1 i1 : Expr} {ifs0 ifs1 : List Expr} {scope : Scope} {pos : Pos} {it acc : Value} {env : Env}
theorem setLoop2_out (hs : ∀ x, foldedSetIterable i1 env x = pure x) (I : Nat → Shared → Prop)
    (turn : ∀ n s, I n s → wpAny (model prog w) A (pyNext it) (fun r s₁ => match r with
      | none => R (.ok .next) s₁
      | some v => wpAny (model prog w) A (letOwnedTupleGo t0 it v) (fun _ s₁' => wpAny (model prog w) A (assign t0 env v) (fun _ s₂ =>
          wpAny (model prog w) A (forIn ifs0 true fun c r => if r = true then do let ok ← isTrue c env (eval c env); pure (ForInStep.yield ok) else pure (ForInStep.yield r)) (fun ok s₃ =>
            if ok = true then wpAny (model prog w) A (eval i1 env) (fun x s₄ => wpAny (model prog w) A (pyIter x) (fun it1 s₅ =>
              codeAny (model prog w) A (.compStart (.SetComp elt [⟨t0, i0, ifs0, 0⟩, ⟨t1, i1, ifs1, 0⟩] scope pos) 1 it1 acc env) (fun r s' => match r with
                | .ok _ => ∃ m, m < n ∧ I m s'
                | .error _ => False) s₅) (notedBy (model prog w) A env fun e s' => R (.error e) s') s₄) (notedBy (model prog w) A env fun e s' => R (.error e) s') s₃
            else ∃ m, m < n ∧ I m s₃) (notedBy (model prog w) A env fun e s' => R (.error e) s') s₂) (notedBy (model prog w) A env fun e s' => R (.error e) s') s₁') (notedBy (model prog w) A env fun e s' => R (.error e) s') s₁) (notedBy (model prog w) A env fun e s' => R (.error e) s') s)
    (n : Nat) (h : I n s) :
    codeAny (model prog w) A (.compLoop (.SetComp elt [⟨t0, i0, ifs0, 0⟩, ⟨t1, i1, ifs1, 0⟩] scope pos) 0 it acc env) R s := by
  refine codeAny_loop rfl I (fun n s hI => ?_) n h
  show wpAny _ A ((compTurn (.SetComp elt [⟨t0, i0, ifs0, 0⟩, ⟨t1, i1, ifs1, 0⟩] scope pos) 0 it acc env).onRaise (fun x => do noteFrame x env; theTreesLotGoes x)) _ _ s
  refine wpAny_noted ?_
  rw [setTurn2_out]
  refine wpAny_bind (wpAny_standAt (wpAny_bind (wpAny_mono (turn n s hI) (fun r s₁ h₁ => ?_) fun _ _ h' => h')))
  cases r with
  | none => exact wpAny_pure h₁
  | some v =>
    refine wpAny_bind (wpAny_mono h₁ (fun _ s₁' h₁' => ?_) fun _ _ h' => h')
    refine wpAny_bind (wpAny_mono h₁' (fun _ s₂ h₂ => wpAny_bind (wpAny_mono h₂ (fun ok s₃ h₃ => ?_) fun _ _ h' => h')) fun _ _ h' => h')
    cases ok with
    | false => exact wpAny_pure ⟨rfl, h₃⟩
    | true =>
      refine wpAny_bind (wpAny_mono h₃ (fun x s₄ h₄ => ?_) fun _ _ h' => h')
      refine wpAny_bind (wpAny_standAt (wpAny_bind (wpAny_of_eq (hs x) (wpAny_bind (wpAny_holding (wpAny_mono h₄ (fun it1 s₅ h₅ => ?_) fun _ _ h' => h'))))))
      refine wpAny_bind (wpAny_runOwn ?_)
      rw [Around.mark_none]
      refine codeAny_mono h₅ fun r s' hr => ?_
      cases r with
      | ok f =>
        first
          | exact wpAny_pure ⟨rfl, hr⟩
          | exact wpAny_bind (wpAny_pure (wpAny_pure ⟨rfl, hr⟩))
      | error e => exact hr.elim
theorem setLoop2_in (I : Nat → Shared → Prop)
    (turn : ∀ n s, I n s → wpAny (model prog w) A (pyNext it) (fun r s₁ => match r with
      | none => R (.ok .next) s₁
      | some v => wpAny (model prog w) A (letOwnedTupleGo t1 it v) (fun _ s₁' => wpAny (model prog w) A (assign t1 env v) (fun _ s₂ =>
          wpAny (model prog w) A (forIn ifs1 true fun c r => if r = true then do let ok ← isTrue c env (eval c env); pure (ForInStep.yield ok) else pure (ForInStep.yield r)) (fun ok s₃ =>
            if ok = true then wpAny (model prog w) A (eval elt env) (fun x s₄ =>
              wpAny (model prog w) A (call (.builtin "set.add") [acc, x]) (fun _ s₅ => ∃ m, m < n ∧ I m s₅) (notedBy (model prog w) A env fun e s' => R (.error e) s') s₄) (notedBy (model prog w) A env fun e s' => R (.error e) s') s₃
            else ∃ m, m < n ∧ I m s₃) (notedBy (model prog w) A env fun e s' => R (.error e) s') s₂) (notedBy (model prog w) A env fun e s' => R (.error e) s') s₁') (notedBy (model prog w) A env fun e s' => R (.error e) s') s₁) (notedBy (model prog w) A env fun e s' => R (.error e) s') s)
    (n : Nat) (h : I n s) :
    codeAny (model prog w) A (.compLoop (.SetComp elt [⟨t0, i0, ifs0, 0⟩, ⟨t1, i1, ifs1, 0⟩] scope pos) 1 it acc env) R s := by
  refine codeAny_loop rfl I (fun n s hI => ?_) n h
  show wpAny _ A ((compTurn (.SetComp elt [⟨t0, i0, ifs0, 0⟩, ⟨t1, i1, ifs1, 0⟩] scope pos) 1 it acc env).onRaise (fun x => do noteFrame x env; theTreesLotGoes x)) _ _ s
  refine wpAny_noted ?_
  rw [setTurn2_in]
  refine wpAny_bind (wpAny_standAt (wpAny_bind (wpAny_mono (turn n s hI) (fun r s₁ h₁ => ?_) fun _ _ h' => h')))
  cases r with
  | none => exact wpAny_pure h₁
  | some v =>
    refine wpAny_bind (wpAny_mono h₁ (fun _ s₁' h₁' => ?_) fun _ _ h' => h')
    refine wpAny_bind (wpAny_mono h₁' (fun _ s₂ h₂ => wpAny_bind (wpAny_mono h₂ (fun ok s₃ h₃ => ?_) fun _ _ h' => h')) fun _ _ h' => h')
    cases ok with
    | false => exact wpAny_pure ⟨rfl, h₃⟩
    | true =>
      exact wpAny_bind (wpAny_bind (wpAny_mono h₃ (fun x s₄ h₄ => wpAny_bind (wpAny_standAt (wpAny_bind (wpAny_mono h₄ (fun _ s₅ h₅ => wpAny_pure (wpAny_pure ⟨rfl, h₅⟩)) fun _ _ h' => h')))) fun _ _ h' => h'))
theorem setStart1_ok (h0 : codeAny (model prog w) A (.compLoop (.SetComp elt [⟨t0, i0, ifs0, 0⟩, ⟨t1, i1, ifs1, 0⟩] scope pos) 1 it acc env) R s)
    (h : wpAny (model prog w) A (pyIter it) (fun it' s' => codeAny (model prog w) A (.compLoop (.SetComp elt [⟨t0, i0, ifs0, 0⟩, ⟨t1, i1, ifs1, 0⟩] scope pos) 1 it' acc env) R s')
      (notedBy (model prog w) A env fun x s' => R (.error x) s') s) :
    codeAny (model prog w) A (.compStart (.SetComp elt [⟨t0, i0, ifs0, 0⟩, ⟨t1, i1, ifs1, 0⟩] scope pos) 1 it acc env) R s := by
  refine codeAny_of_tree ?_
  show wpAny _ _ ((compStart (.SetComp elt [⟨t0, i0, ifs0, 0⟩, ⟨t1, i1, ifs1, 0⟩] scope pos) 1 it acc env).onRaise (fun x => do noteFrame x env; standAt theWindowsPlace)) _ _ s
  refine wpAny_notedAt ?_
  unfold compStart
  show wpAny _ _ (ask >>= _) _ _ s
  refine wpAny_bind (wpAny_askSetting (wpAny_ite ?_))
  split
  · first
      | exact wpAny_bind (wpAny_pure (wpAny_pure (And.intro rfl h0)))
      | exact wpAny_pure (And.intro rfl h0)
  · first
      | exact wpAny_bind (wpAny_rule (wpAny_bind (wpAny_standAt (wpAny_bind (wpAny_mono h (fun it' s' h' => wpAny_pure (And.intro rfl h')) fun _ _ x => x)))))
      | (refine wpAny_bind (wpAny_rule ?_); show wpAny _ _ (standAt i1.pos >>= _) _ _ s; exact wpAny_bind (wpAny_standAt (wpAny_bind (wpAny_mono h (fun it' s' h' => wpAny_pure (And.intro rfl h')) fun _ _ x => x))))
end

section
variable {X : Cx}
def tSc2 (mk : Addr → HO) (radd : List V → Hp → VK → Prop) (wi : TI) (g : TG) (tt : TT) (wi1 : TI) (g1 : TG) (tt1 : TT) (te : TE) (vs vs1 : List Nat) : TE := fun σ H Q => wi σ H fun J H1 => ∀ D, H1 D = none → ∃ W : Nat → Nat → Hp → Prop, (∃ m, W 0 m (upd H1 D (mk D))) ∧ ∀ i m H, W i m H →
  (J.stop i H ∧ Q (.ref D) H) ∨ (J.go i H ∧ ∃ Nx : Hp → Prop, (∀ H', Nx H' → ∃ m', m' < m ∧ W (i + 1) m' H') ∧ ∀ x H', J.yld i H x H' → g x (wipe σ vs) H' fun σ2 H2 => wipe σ2 vs = wipe σ vs ∧ tt σ2 H2 fun b H3 =>
    if b = true then wi1 σ2 H3 fun J1 H4 => ∃ W1 : Nat → Nat → Hp → Prop, (∃ m, W1 0 m H4) ∧ ∀ j k H, W1 j k H →
      (J1.stop j H ∧ Nx H) ∨ (J1.go j H ∧ ∃ Nx1 : Hp → Prop, (∀ H', Nx1 H' → ∃ k', k' < k ∧ W1 (j + 1) k' H') ∧ ∀ x H', J1.yld j H x H' → g1 x (wipe σ2 vs1) H' fun σ3 H5 => wipe σ3 vs1 = wipe σ2 vs1 ∧ tt1 σ3 H5 fun b H6 =>
        if b = true then te σ3 H6 fun y H7 => radd [.ref D, y] H7 (fun _ H8 => Nx1 H8) else Nx1 H6)
    else Nx H3)
theorem sc2_core {pins : List (Addr × Obj)} {s : Shared} {σ : St} {H : Hp} {Q : VK} {elt tg iter tg1 iter1 : Expr} {ifs ifs1 : List Expr} {scope : Scope} {own : List (Str × Nat)} {vs1 : List Nat} {pos pos' : Pos} {wi wi1 : TI} {g g1 : TG} {tt tt1 : TT} {te : TE} {mk : Addr → HO} {radd : List V → Hp → VK → Prop} {use : Option (Value → Sem Unit)} {Qf : Value → Shared → Prop}
    (hc : X.calm = true) (hN : X.N.Nodup) (I : Inv X pins σ H s) (hi : PI X tg iter wi) (ok : BlkOk X.N X.env.scope scope own) (hv : ∀ i ∈ vs1, i ∈ own.map (·.2))
    (hg : ∀ (s : Shared) (H : Hp) (C : Addr) (cl : List (Str × Addr)) (fp : List Addr), PG (X.blk s H scope (compEnvC scope cl C X.env) fp) tg g) (ht : ∀ (s : Shared) (H : Hp) (C : Addr) (cl : List (Str × Addr)) (fp : List Addr), PTs (X.blk s H scope (compEnvC scope cl C X.env) fp) ifs tt)
    (he : ∀ (s : Shared) (H : Hp) (C : Addr) (cl : List (Str × Addr)) (fp : List Addr), PE (X.blk s H scope (compEnvC scope cl C X.env) fp) elt te) (hs : ∀ x, foldedSetIterable iter X.env x = pure x)
    (hi1 : ∀ (s : Shared) (H : Hp) (C : Addr) (cl : List (Str × Addr)) (fp : List Addr), PI (X.blk s H scope (compEnvC scope cl C X.env) fp) tg1 iter1 wi1)
    (hg1 : ∀ (s : Shared) (H : Hp) (C : Addr) (cl : List (Str × Addr)) (fp : List Addr), PG (X.blk s H scope (compEnvC scope cl C X.env) fp) tg1 g1)
    (ht1 : ∀ (s : Shared) (H : Hp) (C : Addr) (cl : List (Str × Addr)) (fp : List Addr), PTs (X.blk s H scope (compEnvC scope cl C X.env) fp) ifs1 tt1)
    (hs1 : ∀ env x, foldedSetIterable iter1 env x = pure x)
    (hmk : ∀ (H : Hp) (D : Addr) (h : Heap), h.get? D = some (emptySet X.w) → ObjOk X.prog X.w H h D (mk D)) (ha : ∀ (s : Shared) (H : Hp) (C : Addr) (cl : List (Str × Addr)) (fp : List Addr), CallR (X.blk s H scope (compEnvC scope cl C X.env) fp) (.builtin "set.add") radd)
    (h : tSc2 mk radd wi g tt wi1 g1 tt1 te (own.map (·.2)) vs1 σ H Q)
    (hRR : ∀ D C s' m H', Inv X pins σ H' s' → Q (.ref D) H' → s'.heap.Ns C m → FpOk X pins H' C → compPost (model X.prog X.w) X.A X.xe use Qf (.ref D) C (.ok .next) s') :
    wpAny (model X.prog X.w) X.A (comprehension (.SetComp elt [⟨tg, iter, ifs, 0⟩, ⟨tg1, iter1, ifs1, 0⟩] scope pos) scope X.env pos' (newSet (.type "set")) false (eval iter X.env) use) Qf X.xe s := by
  have hfree : ∀ y ∈ scope.names, y.2 = .free → ∃ c, X.env.cells.lookup y.1 = some c := fun y hy e => by
    rcases ok.free y hy e with k | k
    · exact I.ok.has _ (.inl k)
    · exact I.ok.has _ (.inr k)
  refine wpAny_comprehension_free (use := use) rfl hs (closure_ok hfree) ok.kind (fun y hy e => by rw [ok.uniq y hy, e])
    (thn (hi pins s σ H _ I h) fun xv s1 hx => thn hx fun itv s2 h2 => ?_)
  obtain ⟨it, fp, tn, J, H2, e, I2, T, st2, f2, q⟩ := h2
  subst e
  refine newSet_led (newEnv_comp ?_)
  generalize hD : s2.heap.objs.size = D
  have hDn : H2 D = none := I2.hok.fresh (Nat.le_of_eq hD)
  obtain ⟨W, ⟨m0, w0⟩, turn⟩ := q D hDn
  -- the new list
  generalize hs3 : ({ s2 with heap := s2.heap.push (emptySet X.w) } : Shared) = s3
  have I3 : Inv X pins σ (upd H2 D (mk D)) s3 := by
    rw [← hs3]
    refine I2.laid (t' := s2.toks) (fun b o e => Heap.get?_push_of_some _ e) (Nat.le_of_eq hD) (hmk _ _ _ ?_)
    rw [← hD]
    exact Heap.get?_push_size _ rfl
  have h3 : s3.heap = s2.heap.push (emptySet X.w) := by rw [← hs3]
  have sz : ∀ b ∈ fp, b < s2.heap.objs.size := fun b hb => by
    obtain ⟨o, e, _⟩ := T.obj _ _ st2 b hb
    exact Heap.lt_size e
  have f3 : ∀ b ∈ fp, FpOk X pins (upd H2 D (mk D)) b ∧ b < s3.heap.objs.size := fun b hb => by
    have hlt := sz b hb
    refine ⟨⟨?_, (f2 b hb).2⟩, by rw [h3, Heap.size_push]; exact Nat.lt_succ_of_lt hlt⟩
    rw [upd_ne (by rw [← hD]; exact Nat.ne_of_lt hlt)]
    exact (f2 b hb).1
  have st3 : tn 0 s3.heap := T.keep _ _ _ st2 fun b _ o e => by rw [h3]; exact Heap.get?_push_of_some _ e
  have I4 := block_start I3 ok hN f3
  have pg := hg s3 (upd H2 D (mk D)) s3.heap.objs.size (cellsFrom (s3.heap.objs.size + 1) scope.names (cloFrom X.env.cells scope.names [])) fp
  have pt := ht s3 (upd H2 D (mk D)) s3.heap.objs.size (cellsFrom (s3.heap.objs.size + 1) scope.names (cloFrom X.env.cells scope.names [])) fp
  have pe := he s3 (upd H2 D (mk D)) s3.heap.objs.size (cellsFrom (s3.heap.objs.size + 1) scope.names (cloFrom X.env.cells scope.names [])) fp
  have pi1 := hi1 s3 (upd H2 D (mk D)) s3.heap.objs.size (cellsFrom (s3.heap.objs.size + 1) scope.names (cloFrom X.env.cells scope.names [])) fp
  have pg1 := hg1 s3 (upd H2 D (mk D)) s3.heap.objs.size (cellsFrom (s3.heap.objs.size + 1) scope.names (cloFrom X.env.cells scope.names [])) fp
  have pt1 := ht1 s3 (upd H2 D (mk D)) s3.heap.objs.size (cellsFrom (s3.heap.objs.size + 1) scope.names (cloFrom X.env.cells scope.names [])) fp
  show codeAny _ _ (.compStart (.SetComp elt [⟨tg, iter, ifs, 0⟩, ⟨tg1, iter1, ifs1, 0⟩] scope pos) 0 (.ref it) (.ref D) (compEnvC scope (cellsFrom (s3.heap.objs.size + 1) scope.names (cloFrom X.env.cells scope.names [])) s3.heap.objs.size X.env)) (compPost (model X.prog X.w) X.A X.xe use Qf (.ref D) s3.heap.objs.size) { s3 with heap := pushCells (s3.heap.push { cls := .type "dict", data := .dict #[] }) scope.names }
  have ca := ha s3 (upd H2 D (mk D)) s3.heap.objs.size (cellsFrom (s3.heap.objs.size + 1) scope.names (cloFrom X.env.cells scope.names [])) fp
  have nfp : ∀ b ∈ fp, (upd H2 D (mk D)) b = none := fun b hb => (f3 b hb).1.1
  generalize hce : compEnvC scope (cellsFrom (s3.heap.objs.size + 1) scope.names (cloFrom X.env.cells scope.names [])) s3.heap.objs.size X.env = ce at I4 pg pt pe pi1 pg1 pt1 ca ⊢
  have cL : ce.locals = s3.heap.objs.size := by subst hce; rfl
  generalize hH3 : upd H2 D (mk D) = H3 at I3 I4 pg pt pe pi1 pg1 pt1 ca w0 nfp f3
  generalize hs4 : ({ s3 with heap := pushCells (s3.heap.push { cls := .type "dict", data := .dict #[] }) scope.names } : Shared) = s4 at I4 ⊢
  have st4 : tn 0 s4.heap := T.keep _ _ _ st3 fun b _ o e => by rw [← hs4]; exact pushCells_keeps _ _ _ _ (Heap.get?_push_of_some _ e)
  have stat : ∀ {σ' : St} {H' : Hp} {s' : Shared}, Inv (X.blk s3 H3 scope ce fp) [] σ' H' s' → (∀ b ∈ fp, H' b = none) → ∀ b ∈ fp, FpOk (X.blk s3 H3 scope ce fp) [] H' b := fun {σ' H' s'} I' hn b hb =>
    ⟨hn b hb, (I'.ok.exf b hb).1, I'.ok.exfs b hb, .inl hb, fun x c e => (I'.ok.exf b hb).2 x c e, fun p hp => absurd (show p ∈ ([] : List (Addr × Obj)) ++ [] from hp) (by simp)⟩
  have loop : codeAny (model X.prog X.w) X.A (.compLoop (.SetComp elt [⟨tg, iter, ifs, 0⟩, ⟨tg1, iter1, ifs1, 0⟩] scope pos) 0 (.ref it) (.ref D) ce) (compPost (model X.prog X.w) X.A X.xe use Qf (.ref D) s3.heap.objs.size) s4 := by
    refine setLoop2_out (hs1 ce) (fun n s' => ∃ i H', Inv (X.blk s3 H3 scope ce fp) [] (wipe σ (own.map (·.2))) H' s' ∧ tn i s'.heap ∧ (∀ b ∈ fp, H' b = none) ∧ W i n H') ?_ m0 ⟨0, H3, I4, st4, nfp, w0⟩
    rintro n s5 ⟨i, H5, I5, st5, n5, w5⟩
    rcases turn i n H5 w5 with ⟨stop, qq⟩ | ⟨go, Nx, hNx, step⟩
    · have td := T.done (X.blk s3 H3 scope ce fp) rfl rfl rfl hc i [] s5 _ H5 (fun _ _ => False) I5 (stat I5 n5) st5 stop
      refine thnF td fun r s6 ⟨hr, I6⟩ => ?_
      subst hr
      -- back in the def's context
      have I7 : Inv X pins σ H5 s6 := I3.call' (ch := fp) I6.os I6.base I6.hok I6.bare fun b hb => ⟨(f3 b hb).1.2.2.2.1, (f3 b hb).1.2.1, (f3 b hb).1.2.2.2.2.1, (f3 b hb).1.2.2.2.2.2⟩
      have nC : H5 s3.heap.objs.size = none := by
        have z : H5 ce.locals = none := I6.free
        rw [cL] at z
        exact z
      obtain ⟨m, hn, _⟩ := I6.loc
      have hn : s6.heap.Ns ce.locals m := hn
      rw [cL] at hn
      exact hRR D s3.heap.objs.size s6 m H5 I7 qq hn (I3.fpOk (Nat.le_refl _) nC)
    · have ti := T.item (X.blk s3 H3 scope ce fp) rfl rfl rfl hc i [] s5 _ H5 (fun _ _ => False) I5 (stat I5 n5) st5 go
      refine thnF ti fun r s6 ⟨u, hr, h6⟩ => ?_
      subst hr
      refine thnF h6 fun _ s7 ⟨x, H7, I7, r7, y7, st7, n7⟩ => ?_
      have I7' := I7.pinned (stat I7 n7) (T.obj _ _ st7)
      refine thnF (pg _ s7 _ H7 x u _ I7' r7 (step x H7 y7)) fun _ s8 ⟨σ8, H8, I8, hw8, q8⟩ => ?_
      refine thnF (pt _ s8 σ8 H8 _ I8 q8) fun b s9 ⟨H9, I9, q9⟩ => ?_
      -- the turn's end, from any slots that know what the block knew at its start
      have fin : ∀ {σ9 : St} {s' : Shared} {H' : Hp}, Inv (X.blk s3 H3 scope ce fp) ([] ++ pinsAt fp s7.heap) σ9 H' s' → (wipe σ (own.map (·.2))).length = σ9.length → (∀ (j : Nat) v, (wipe σ (own.map (·.2)))[j]? = some (some v) → σ9[j]? = some (some v)) → Nx H' →
          ∃ m, m < n ∧ ∃ i H', Inv (X.blk s3 H3 scope ce fp) [] (wipe σ (own.map (·.2))) H' s' ∧ tn i s'.heap ∧ (∀ b ∈ fp, H' b = none) ∧ W i m H' := fun {σ9 s' H'} I' hl hk nx => by
        obtain ⟨m', hm, w'⟩ := hNx H' nx
        have pin' : ∀ b ∈ fp, ∀ o, s7.heap.get? b = some o → s'.heap.get? b = some o ∧ H' b = none := fun b hb o e =>
          let z := I'.pin (b, o) (List.mem_append_right _ (List.mem_append_right _ (mem_pinsAt hb e)))
          ⟨z.1, z.2.1⟩
        refine ⟨m', hm, i + 1, H', (I'.unpinned (pins := [])).weak hl hk, T.keep _ _ _ st7 fun b hb o e => (pin' b hb o e).1, fun b hb => ?_, w'⟩
        obtain ⟨o, e, _⟩ := T.obj _ _ st7 b hb
        exact (pin' b hb o e).2
      have hl8 : (wipe σ (own.map (·.2))).length = σ8.length := by rw [← hw8, wipe_length]
      have hk8 : ∀ (j : Nat) v, (wipe σ (own.map (·.2)))[j]? = some (some v) → σ8[j]? = some (some v) := fun j v e => by
        rw [← hw8] at e
        exact (wipe_some e).1
      have hk9 : ∀ (j : Nat) v, (wipe σ (own.map (·.2)))[j]? = some (some v) → (wipe σ8 vs1)[j]? = some (some v) := fun j v e => by
        rw [← hw8] at e
        obtain ⟨e1, e2⟩ := wipe_some e
        rw [wipe_out fun z => e2 (hv j z)]
        exact e1
      cases b with
      | false =>
        simp only [Bool.false_eq_true, if_false] at q9 ⊢
        exact fin I9 hl8 hk8 q9
      | true =>
        simp only [if_true] at q9 ⊢
        refine thnF (pi1 _ s9 σ8 H9 _ I9 q9) fun xv s10 hx => thnF hx fun itv s11 h11 => ?_
        obtain ⟨it1, fp1, tn1, J1, H11, e1, I11, T1, st11, f11, W1, ⟨m1, w1⟩, turn1⟩ := h11
        subst e1
        -- the inner loop
        have stat1 : ∀ {H' : Hp}, (∀ b ∈ fp1, H' b = none) → ∀ b ∈ fp1, FpOk (X.blk s3 H3 scope ce fp) ([] ++ pinsAt fp s7.heap) H' b := fun hn b hb => ⟨hn b hb, (f11 b hb).2⟩
        have loop1 : codeAny (model X.prog X.w) X.A (.compLoop (.SetComp elt [⟨tg, iter, ifs, 0⟩, ⟨tg1, iter1, ifs1, 0⟩] scope pos) 1 (.ref it1) (.ref D) ce)
            (fun r s' => match r with
              | .ok _ => ∃ m, m < n ∧ ∃ i H', Inv (X.blk s3 H3 scope ce fp) [] (wipe σ (own.map (·.2))) H' s' ∧ tn i s'.heap ∧ (∀ b ∈ fp, H' b = none) ∧ W i m H'
              | .error _ => False) s11 := by
          refine setLoop2_in (fun k s' => ∃ j H', Inv (X.blk s3 H3 scope ce fp) ([] ++ pinsAt fp s7.heap) (wipe σ8 vs1) H' s' ∧ tn1 j s'.heap ∧ (∀ b ∈ fp1, H' b = none) ∧ W1 j k H') ?_ m1 ⟨0, H11, I11.weak (wipe_length _ _) (fun j v e => (wipe_some e).1), st11, fun b hb => (f11 b hb).1, w1⟩
          rintro k s12 ⟨j, H12, I12, st12, n12, w12⟩
          rcases turn1 j k H12 w12 with ⟨stop1, nx1⟩ | ⟨go1, Nx1, hNx1, step1⟩
          · refine thnF (T1.done (X.blk s3 H3 scope ce fp) rfl rfl rfl hc j _ s12 (wipe σ8 vs1) H12 (fun _ _ => False) I12 (stat1 n12) st12 stop1) fun r s13 ⟨hr, I13⟩ => ?_
            subst hr
            exact fin I13 (hl8.trans (wipe_length σ8 vs1).symm) hk9 nx1
          · refine thnF (T1.item (X.blk s3 H3 scope ce fp) rfl rfl rfl hc j _ s12 (wipe σ8 vs1) H12 (fun _ _ => False) I12 (stat1 n12) st12 go1) fun r s13 ⟨u1, hr, h13⟩ => ?_
            subst hr
            refine thnF h13 fun _ s14 ⟨x1, H14, I14, r14, y14, st14, n14⟩ => ?_
            have I14' := I14.pinned (stat1 n14) (T1.obj _ _ st14)
            refine thnF (pg1 _ s14 (wipe σ8 vs1) H14 x1 u1 _ I14' r14 (step1 x1 H14 y14)) fun _ s15 ⟨σ15, H15, I15, hw15, q15⟩ => ?_
            refine thnF (pt1 _ s15 σ15 H15 _ I15 q15) fun b1 s16 ⟨H16, I16, q16⟩ => ?_
            have fin1 : ∀ {s' : Shared} {H' : Hp}, Inv (X.blk s3 H3 scope ce fp) (([] ++ pinsAt fp s7.heap) ++ pinsAt fp1 s14.heap) σ15 H' s' → Nx1 H' → ∃ m, m < k ∧ ∃ j H', Inv (X.blk s3 H3 scope ce fp) ([] ++ pinsAt fp s7.heap) (wipe σ8 vs1) H' s' ∧ tn1 j s'.heap ∧ (∀ b ∈ fp1, H' b = none) ∧ W1 j m H' := fun {s' H'} I' nx => by
              obtain ⟨m', hm, w'⟩ := hNx1 H' nx
              have pin' : ∀ b ∈ fp1, ∀ o, s14.heap.get? b = some o → s'.heap.get? b = some o ∧ H' b = none := fun b hb o e =>
                let z := I'.pin (b, o) (List.mem_append_right _ (List.mem_append_right _ (mem_pinsAt hb e)))
                ⟨z.1, z.2.1⟩
              refine ⟨m', hm, j + 1, H', I'.unpinned.weak (by rw [← hw15, wipe_length]) (fun j v e => by rw [← hw15] at e; exact (wipe_some e).1), T1.keep _ _ _ st14 fun b hb o e => (pin' b hb o e).1, fun b hb => ?_, w'⟩
              obtain ⟨o, e, _⟩ := T1.obj _ _ st14 b hb
              exact (pin' b hb o e).2
            cases b1 with
            | false =>
              simp only [Bool.false_eq_true, if_false] at q16 ⊢
              exact fin1 I16 q16
            | true =>
              simp only [if_true] at q16 ⊢
              refine thnF (pe _ s16 σ15 H16 _ I16 q16) fun z s17 ⟨yv, H17, I17, r17, nx⟩ => ?_
              exact thnF (ca _ s17 σ15 H17 [.ref D, yv] [.ref D, z] _ I17 (.cons rfl (.cons r17 .nil)) nx) fun _ s18 ⟨_, H18, I18, _, nx2⟩ => fin1 I18 nx2
        exact setStart1_ok loop1 (T1.self X.A 0 _ _ _ st11 loop1)
  exact codeAny_compStart_set loop (T.self X.A 0 _ _ _ st4 loop)
theorem pe_sc2 {elt tg iter tg1 iter1 : Expr} {ifs ifs1 : List Expr} {scope : Scope} {own : List (Str × Nat)} {vs1 : List Nat} {pos : Pos} {wi wi1 : TI} {g g1 : TG} {tt tt1 : TT} {te : TE} {mk : Addr → HO} {radd : List V → Hp → VK → Prop} (hc : X.calm = true) (hN : X.N.Nodup) (hi : PI X tg iter wi) (ok : BlkOk X.N X.env.scope scope own) (hv : ∀ i ∈ vs1, i ∈ own.map (·.2))
    (hg : ∀ (s : Shared) (H : Hp) (C : Addr) (cl : List (Str × Addr)) (fp : List Addr), PG (X.blk s H scope (compEnvC scope cl C X.env) fp) tg g) (ht : ∀ (s : Shared) (H : Hp) (C : Addr) (cl : List (Str × Addr)) (fp : List Addr), PTs (X.blk s H scope (compEnvC scope cl C X.env) fp) ifs tt)
    (hi1 : ∀ (s : Shared) (H : Hp) (C : Addr) (cl : List (Str × Addr)) (fp : List Addr), PI (X.blk s H scope (compEnvC scope cl C X.env) fp) tg1 iter1 wi1)
    (hg1 : ∀ (s : Shared) (H : Hp) (C : Addr) (cl : List (Str × Addr)) (fp : List Addr), PG (X.blk s H scope (compEnvC scope cl C X.env) fp) tg1 g1) (ht1 : ∀ (s : Shared) (H : Hp) (C : Addr) (cl : List (Str × Addr)) (fp : List Addr), PTs (X.blk s H scope (compEnvC scope cl C X.env) fp) ifs1 tt1)
    (he : ∀ (s : Shared) (H : Hp) (C : Addr) (cl : List (Str × Addr)) (fp : List Addr), PE (X.blk s H scope (compEnvC scope cl C X.env) fp) elt te) (hmk : ∀ (H : Hp) (D : Addr) (h : Heap), h.get? D = some (emptySet X.w) → ObjOk X.prog X.w H h D (mk D)) (ha : ∀ (s : Shared) (H : Hp) (C : Addr) (cl : List (Str × Addr)) (fp : List Addr), CallR (X.blk s H scope (compEnvC scope cl C X.env) fp) (.builtin "set.add") radd)
    (hs : ∀ x, foldedSetIterable iter X.env x = pure x := by intro _; rfl) (hs1 : ∀ env x, foldedSetIterable iter1 env x = pure x := by intro _ _; rfl) :
    PE X (.SetComp elt [⟨tg, iter, ifs, 0⟩, ⟨tg1, iter1, ifs1, 0⟩] scope pos) (tSc2 mk radd wi g tt wi1 g1 tt1 te (own.map (·.2)) vs1) := by
  intro pins s σ H Q I h
  rw [arm_eval_SetComp]
  refine sc2_core hc hN I hi ok hv hg ht he hs hi1 hg1 ht1 hs1 hmk ha h fun D C s' m H' I' q hn f => ⟨m, hn, fun h'' sb => ?_⟩
  obtain ⟨f0, f1, f2, f3, f4, f5⟩ := f
  exact ⟨.ref D, H', I'.turned (t' := s'.toks) (fun b o hb e => (sb.2 b hb).trans e) f0 f1 f3 f4 f5, rfl, q⟩
end
end L2

namespace L2
open PySem PySem.Spec PyProof.Rows
section
variable {X : Cx} {K : PySem.W.Frag} {o e : Expr} {es : List Expr} {to : TE} {t : TA} {name : Str} {apos cpos : Pos} {T id : String} {r : V → List V → Hp → VK → Prop}
theorem pe_bmK (ek : X.K = K) (pa : PlainAttrs T) (slot : Slot T name id) (hty : typeOf (.builtin id) = pure (.type "method_descriptor")) (hm : MtR X id r) (ho : PE X o to) (ha : PA X (e :: es) t)
    (hbase : attributeBase o name X.env (eval o X.env) = eval o X.env := by rfl)
    (hfew : ((backTo cpos (starEach (e :: es) X.env)).all (fun x => !x.1) && (backToKw cpos (keywordEach [] X.env)).all (fun x => x.1.isSome)
      && decide ((e :: es).length + ([] : List Keyword).length + (if ([] : List Keyword).isEmpty then 0 else 1) < 30)) = true := by rfl)
    (hline : (apos.endLine == cpos.line) = true := by rfl) (hs : starEach (e :: es) X.env = (false, eval e X.env) :: starEach es X.env := by rfl) (hplain : (backTo cpos (starEach es X.env)).any (·.1) = false := by rfl) :
    PE X (.Call (.Attribute o name apos) (e :: es) [] cpos) (tBM K T r to t) := ek ▸ pe_bm pa slot hty hm ho ha hbase hfew hline hs hplain
end
abbrev rInn (J1 : It) (g1 : TG) (tt1 : TT) (te : TE) (radd : List V → Hp → VK → Prop) (D : Addr) (vs1 : List Nat) (σ2 : St) (H4 : Hp) (Nx : Hp → Prop) : Prop := ∃ W1 : Nat → Nat → Hp → Prop, (∃ m, W1 0 m H4) ∧ ∀ j k H, W1 j k H →
      (J1.stop j H ∧ Nx H) ∨ (J1.go j H ∧ ∃ Nx1 : Hp → Prop, (∀ H', Nx1 H' → ∃ k', k' < k ∧ W1 (j + 1) k' H') ∧ ∀ x H', J1.yld j H x H' → g1 x (wipe σ2 vs1) H' fun σ3 H5 => wipe σ3 vs1 = wipe σ2 vs1 ∧ tt1 σ3 H5 fun b H6 =>
        if b = true then te σ3 H6 fun y H7 => radd [.ref D, y] H7 (fun _ H8 => Nx1 H8) else Nx1 H6)
section
variable {K : PySem.W.Frag} {a : Addr} {xs : List V} {g g1 : TG} {tt tt1 : TT} {te : TE} {wi1 : TI} {vs vs1 : List Nat} {σ σ2 : St} {H1 H4 : Hp} {D : Addr} {mk : Addr → HO} {radd : List V → Hp → VK → Prop} {Qd Nx : Hp → Prop}
theorem sc2_tup (Pv : Nat → Hp → Prop) (h0 : Pv 0 (upd H1 D (mk D))) (hl : ∀ i H, i ≤ xs.length → Pv i H → SqT K H a xs)
    (hs : ∀ i x H, xs[i]? = some x → Pv i H → g x (wipe σ vs) H fun σ2 H2 => wipe σ2 vs = wipe σ vs ∧ tt σ2 H2 fun b H3 => if b = true then wi1 σ2 H3 fun J1 H4 => rInn J1 g1 tt1 te radd D vs1 σ2 H4 (Pv (i + 1)) else Pv (i + 1) H3) (hd : ∀ H, Pv xs.length H → Qd H) :
    ∃ W : Nat → Nat → Hp → Prop, (∃ m, W 0 m (upd H1 D (mk D))) ∧ ∀ i m H, W i m H →
      ((Itt K a).stop i H ∧ Qd H) ∨ ((Itt K a).go i H ∧ ∃ Nx : Hp → Prop, (∀ H', Nx H' → ∃ m', m' < m ∧ W (i + 1) m' H') ∧ ∀ x H', (Itt K a).yld i H x H' → g x (wipe σ vs) H' fun σ2 H2 => wipe σ2 vs = wipe σ vs ∧ tt σ2 H2 fun b H3 =>
        if b = true then wi1 σ2 H3 fun J1 H4 => rInn J1 g1 tt1 te radd D vs1 σ2 H4 Nx else Nx H3) := by
  refine ⟨fun i m H => m = xs.length - i ∧ i ≤ xs.length ∧ Pv i H, ⟨xs.length, by simp, Nat.zero_le _, h0⟩, ?_⟩
  rintro i m H ⟨rfl, hi, p⟩
  have q := hl i H hi p
  by_cases hlt : i < xs.length
  · refine .inr ⟨⟨xs, xs[i], q, by simp [hlt]⟩, Pv (i + 1), fun H' p' => ⟨xs.length - (i + 1), by omega, rfl, hlt, p'⟩, fun x H' y => ?_⟩
    obtain ⟨e, y⟩ := y
    subst e
    exact hs i x _ (y xs q) p
  · have e : i = xs.length := by omega
    subst e
    exact .inl ⟨⟨xs, q, Nat.le_refl _⟩, hd H p⟩
theorem inn_list (Pv : Nat → Hp → Prop) (h0 : Pv 0 H4) (hl : ∀ i H, i ≤ xs.length → Pv i H → SqL K H a xs)
    (hs : ∀ i x H, xs[i]? = some x → Pv i H → g1 x (wipe σ2 vs1) H fun σ3 H5 => wipe σ3 vs1 = wipe σ2 vs1 ∧ tt1 σ3 H5 fun b H6 => if b = true then te σ3 H6 fun y H7 => radd [.ref D, y] H7 (fun _ H8 => Pv (i + 1) H8) else Pv (i + 1) H6) (hd : ∀ H, Pv xs.length H → Nx H) :
    rInn (Itl K a) g1 tt1 te radd D vs1 σ2 H4 Nx := by
  refine ⟨fun i m H => m = xs.length - i ∧ i ≤ xs.length ∧ Pv i H, ⟨xs.length, by simp, Nat.zero_le _, h0⟩, ?_⟩
  rintro i m H ⟨rfl, hi, p⟩
  have q := hl i H hi p
  by_cases hlt : i < xs.length
  · refine .inr ⟨⟨xs, xs[i], q, by simp [hlt]⟩, Pv (i + 1), fun H' p' => ⟨xs.length - (i + 1), by omega, rfl, hlt, p'⟩, fun x H' y => ?_⟩
    obtain ⟨e, y⟩ := y
    subst e
    exact hs i x _ (y xs q) p
  · have e : i = xs.length := by omega
    subst e
    exact .inl ⟨⟨xs, q, Nat.le_refl _⟩, hd H p⟩
theorem inn_tup (Pv : Nat → Hp → Prop) (h0 : Pv 0 H4) (hl : ∀ i H, i ≤ xs.length → Pv i H → SqT K H a xs)
    (hs : ∀ i x H, xs[i]? = some x → Pv i H → g1 x (wipe σ2 vs1) H fun σ3 H5 => wipe σ3 vs1 = wipe σ2 vs1 ∧ tt1 σ3 H5 fun b H6 => if b = true then te σ3 H6 fun y H7 => radd [.ref D, y] H7 (fun _ H8 => Pv (i + 1) H8) else Pv (i + 1) H6) (hd : ∀ H, Pv xs.length H → Nx H) :
    rInn (Itt K a) g1 tt1 te radd D vs1 σ2 H4 Nx := by
  refine ⟨fun i m H => m = xs.length - i ∧ i ≤ xs.length ∧ Pv i H, ⟨xs.length, by simp, Nat.zero_le _, h0⟩, ?_⟩
  rintro i m H ⟨rfl, hi, p⟩
  have q := hl i H hi p
  by_cases hlt : i < xs.length
  · refine .inr ⟨⟨xs, xs[i], q, by simp [hlt]⟩, Pv (i + 1), fun H' p' => ⟨xs.length - (i + 1), by omega, rfl, hlt, p'⟩, fun x H' y => ?_⟩
    obtain ⟨e, y⟩ := y
    subst e
    exact hs i x _ (y xs q) p
  · have e : i = xs.length := by omega
    subst e
    exact .inl ⟨⟨xs, q, Nat.le_refl _⟩, hd H p⟩
end
theorem rRepr_tupT {K : PySem.W.Frag} {H : Hp} {a : Addr} {zs : List (Addr × List Int)} {cs : List (List Int)} {Q : VK} {m : Nat} (h : SqT K H a (refs zs)) (t : Tups K H zs) (e : zs.map (·.2) = cs) (hc : ∀ c ∈ cs, c.length ≤ m ∧ ∀ z ∈ c, z.natAbs ≤ 10 ^ 60) (sz : (2002 * m + 6) * cs.length ≤ 16000000)
    (q : Q (.str (PyData.tuple (cs.map tupD)).shown) H) : rRepr K [.ref a] H Q := by
  obtain ⟨a1, a2, a3⟩ := tups_ok (n := 0) hc
  subst e
  have e2 : (zs.map (·.2)).map tupD = zs.map fun z => tupD z.2 := by rw [List.map_map]; rfl
  rw [e2] at a1 a2 a3 q
  refine rRepr_of (.tup h (DpAll_tups t)) (by simp only [okD]; exact a1) (by simp only [PyData.depth]; omega) ?_ q
  simp only [wt]
  rw [sizeLine_eq]
  omega
end L2
namespace L2
open PySem PySem.Spec PyProof.Rows
theorem st_push2 {P : Program} {w : World} {K : PySem.W.Frag} {H' H4 : Hp} {D r : Addr} {c : List Int} {ts : List (List Int × Addr)} {N : Hp → Prop} (hd : SetD P w K H' D ts) (s4 : Same H' H4) (hr : SqT K H4 r (c.map V.int)) (len : ts.length + 1 < 4096)
    (next : ∀ us : List (List Int × Addr), SetD P w K (upd H4 D (SetT P w D us)) D us → (∀ x, x ∈ us.map (·.1) ↔ x ∈ ts.map (·.1) ∨ x = c) → us.length ≤ ts.length + 1 → N (upd H4 D (SetT P w D us))) : rAddT P w K [.ref D, .ref r] H4 (fun _ H5 => N H5) := by
  have hd4 := hd.same s4
  refine ⟨D, r, c, ts, rfl, hr, hd4.at_, hd4.tup, len, fun us hu => ?_⟩
  rcases hu with ⟨⟨b, hb⟩, rfl⟩ | ⟨hn, pm⟩
  · refine next us ⟨upd_same, fun t ht => (hd4.tup t ht).se hd4.at_ SameX.upd, hd4.nd⟩ (fun x => ⟨.inl, fun h => h.elim id fun e => ?_⟩) (Nat.le_succ _)
    rw [e]; exact List.mem_map.mpr ⟨_, hb, rfl⟩
  · have hnc : c ∉ ts.map (·.1) := fun h => by
      obtain ⟨t, ht, e⟩ := List.mem_map.mp h
      exact hn t.2 (by rw [← e]; exact ht)
    refine next us ⟨upd_same, fun t ht => ?_, ?_⟩ (fun x => ?_) (by rw [pm.length_eq]; exact Nat.le_refl _)
    · have : SqT K H4 t.2 (t.1.map V.int) := by
        rcases List.mem_cons.mp (pm.mem_iff.mp ht) with e | e
        · rw [e]; exact hr
        · exact hd4.tup t e
      exact this.se hd4.at_ SameX.upd
    · exact (pm.map (·.1)).nodup_iff.mpr (List.nodup_cons.mpr ⟨hnc, hd4.nd⟩)
    · rw [(pm.map (·.1)).mem_iff, List.map_cons, List.mem_cons]
      exact or_comm
end L2

namespace K07
def W (m : Int) : Nat → Int
  | 0 => 1
  | i + 1 => (W m i * (m - i)).fdiv (i + 1)
theorem log_ok {z : Int} (h : z.natAbs ≤ 10 ^ 63) : z.natAbs.log2 < 1920 := by
  by_cases e : z.natAbs = 0
  · rw [e]; decide
  · rw [Nat.log2_lt e]
    exact Nat.lt_of_le_of_lt h (by decide +kernel)
end K07

namespace KW
open PySem L2
theorem ten30 : (10 : Int) ^ (30 : Int).toNat = 1000000000000000000000000000000 := by decide +kernel
theorem seqIx {d : Int} {n : Nat} (h0 : 0 ≤ d) (h1 : d < n) : seqIndex? d n = some d.toNat := by
  unfold seqIndex?
  first
    | (simp only []; rw [if_neg (by omega)]; rw [if_pos (by omega)])
    | (split <;> first | omega | (split <;> first | omega | rfl))
    | simp [h0, h1]; omega
def PZ (z : Int) : Prop := (-20 ≤ z ∧ z < 100) ∨ z = 999999999999999999999999999999 ∨ z = -999999999999999999999999999999
theorem nodup_set {l : List Int} {v : Int} (j : Nat) (nd : l.Nodup) (h : v ∉ l) : (l.set j v).Nodup := by
  induction l generalizing j with
  | nil => exact nd
  | cons x l ih =>
    have nd' := List.nodup_cons.mp nd
    have hx : v ≠ x := fun e => h (by rw [e]; exact List.mem_cons_self)
    have hl : v ∉ l := fun e => h (List.mem_cons_of_mem _ e)
    cases j with
    | zero => exact List.nodup_cons.mpr ⟨hl, nd'.2⟩
    | succ j =>
      refine List.nodup_cons.mpr ⟨fun e => ?_, ih j nd'.2 hl⟩
      rcases List.mem_or_eq_of_mem_set e with e | e
      · exact nd'.1 e
      · exact hx e.symm
theorem pool_nd (a : Int) (n : Nat) : ((List.range n).map fun k : Nat => a + (k : Int)).Nodup := by
  rw [List.nodup_iff_pairwise_ne, List.pairwise_map]
  exact (List.nodup_iff_pairwise_ne.mp List.nodup_range).imp fun {x y} h e => h (by omega)
theorem set_map {l : List Int} {j : Nat} {v : Int} : (l.map V.int).set j (.int v) = (l.set j v).map V.int := by
  rw [List.map_set]
end KW
namespace KW
open PySem L2
theorem perm_pick {α : Type} {ys rest : List α} {k : Nat} {y : α} (h : rest[k]? = some y) : ((ys ++ [y]) ++ rest.eraseIdx k).Perm (ys ++ rest) := by
  rw [List.append_assoc]
  refine List.Perm.append_left ys ?_
  induction rest generalizing k with
  | nil => simp at h
  | cons x rest ih =>
    cases k with
    | zero => simp at h; subst h; exact .refl _
    | succ k =>
      simp at h
      exact (List.Perm.swap _ _ _).trans ((ih h).cons x)
theorem erase_map {l : List Int} {k : Nat} : (l.map V.int).eraseIdx k = (l.eraseIdx k).map V.int := by
  induction l generalizing k with
  | nil => rfl
  | cons x l ih => cases k with
    | zero => rfl
    | succ k => simp [List.eraseIdx_cons_succ, ih]
def oddC (n k : Nat) : List Int := (List.range n).map fun j : Nat => 1000 * (k : Int) + 100 + (j : Int)
theorem odd_mem {n k : Nat} (h : 1 ≤ n) : (1000 * (k : Int) + 100) ∈ oddC n k := List.mem_map.mpr ⟨0, List.mem_range.mpr h, by simp⟩
theorem odd_head {n k : Nat} {l : List Int} (h : 1 ≤ n) (e : oddC n k = l) : l.head? = some (1000 * (k : Int) + 100) := by
  rw [← e]
  obtain ⟨m, rfl⟩ : ∃ m, n = m + 1 := ⟨n - 1, by omega⟩
  unfold oddC
  rw [List.range_succ_eq_map]
  simp
theorem odd_rise (n k : Nat) : (oddC n k).Pairwise (· < ·) := by
  unfold oddC
  rw [List.pairwise_map]
  exact List.pairwise_lt_range.imp fun {a b} h => by omega
structure RowP (n i : Nat) (c : List Int) : Prop where
  len : c.length = n
  rise : c.Pairwise (· < ·)
  bd : ∀ e ∈ c, e.natAbs ≤ 10 ^ 30
  kind : (∀ e ∈ c, PZ e) ∨ ∃ k, k < i ∧ c = oddC n k
theorem RowP.mono {n i j : Nat} {c : List Int} (h : RowP n i c) (hj : i ≤ j) : RowP n j c := ⟨h.len, h.rise, h.bd, h.kind.imp id fun ⟨k, a, b⟩ => ⟨k, by omega, b⟩⟩
theorem PZ.bd {z : Int} (h : PZ z) : z.natAbs ≤ 10 ^ 30 := by rcases h with h | h | h <;> omega
theorem odd_bd {n k : Nat} (hn : n ≤ 6) (hk : k ≤ 40) : ∀ e ∈ oddC n k, e.natAbs ≤ 10 ^ 30 := fun e he => by
  obtain ⟨j, hj, rfl⟩ := List.mem_map.mp he
  have := List.mem_range.mp hj
  omega
theorem odd_new {n i : Nat} {cs : List (List Int)} (h1 : 1 ≤ n) (h : ∀ c ∈ cs, RowP n i c) : oddC n i ∉ cs := fun hm => by
  have r := h _ hm
  rcases r.kind with h | ⟨k, hk, e⟩
  · have := h _ (odd_mem h1)
    rcases this with h | h | h <;> omega
  · have a := odd_head (k := i) h1 e
    have b := odd_head (k := k) h1 rfl
    rw [a] at b
    injection b with b
    omega
theorem nodup_snoc {cs : List (List Int)} {c : List Int} (nd : cs.Nodup) (h : c ∉ cs) : (cs ++ [c]).Nodup := by
  rw [List.nodup_append]
  refine ⟨nd, by simp, fun a ha b hb => ?_⟩
  rw [List.mem_singleton.mp hb]
  rintro rfl
  exact h ha
end KW
namespace KW
open PySem L2
def FacesOf (zs : List (Addr × List Int)) (F : List (List Int)) : Prop := F.Nodup ∧ ∀ f, f ∈ F ↔ ∃ z ∈ zs, f ∈ subsC z.2
structure ShapeF (K : PySem.W.Frag) (H : Hp) (sh : Addr) (zs : List (Addr × List Int)) (n : Nat) : Prop where
  at_ : SqT K H sh (refs zs)
  tup : Tups K H zs
  len : ∀ z ∈ zs, z.2.length = n
  n1 : 1 ≤ n
  n6 : n ≤ 6
  z1 : 1 ≤ zs.length
  z40 : zs.length ≤ 40
  bd : ∀ z ∈ zs, ∀ e ∈ z.2, e.natAbs ≤ 10 ^ 60
theorem ShapeF.same {K : PySem.W.Frag} {H H' : Hp} {sh : Addr} {zs : List (Addr × List Int)} {n : Nat} (h : ShapeF K H sh zs n) (s : Same H H') : ShapeF K H' sh zs n :=
  ⟨s.sqT h.at_, h.tup.same s, h.len, h.n1, h.n6, h.z1, h.z40, h.bd⟩
end KW

namespace KW
open PySem L2 K07
theorem at2 {u v g : Int} (g0 : 0 ≤ g) (g1 : g < 2) : atI [V.int u, V.int v] g = some (.int (if g = 0 then u else v)) := by
  have : g = 0 ∨ g = 1 := by omega
  rcases this with rfl | rfl
  · exact at_of (j := 0) rfl rfl
  · exact at_of (j := 1) rfl rfl
end KW

namespace L2
open PySem PySem.Spec PyProof.Rows
theorem lk_list_keys : typeLookup (.type "list") "keys" = pure none := am_miss_of_fast (by kernel_rfl)
set_option maxHeartbeats 4000000 in
theorem getAttrQ_miss_list {prog : Program} {w : World} {A : Around} {E : Value → Shared → Prop} {s : Shared} {a : Addr} {o : Obj} {xs : Array Value} {k : Nat} {name : Str} {Q : Option Value → Shared → Prop}
    (hx : s.heap.get? a = some o) (hc : o.cls = .type "list") (hdat : o.data = .seq xs k) (hd : o.dict = none) (hmiss : typeLookup (.type "list") name = pure none) (hname : (["__module__", "__name__", "__qualname__", "__doc__", "__annotations__"] : List Str).contains name = false) (hA : A.handled = none)
    (h : ∀ h' tk, (∀ b ob, s.heap.get? b = some ob → h'.get? b = some ob) → Q none { s with heap := h', toks := tk }) (hsz : name.length + 100 ≤ sizeLine := by size_fits) :
    wpAny (model prog w) A (getAttr? (.ref a) name) Q E s := by
  obtain ⟨c, dct, dat, sl⟩ := o
  simp only at hc hdat hd
  subst hc hdat hd
  obtain ⟨hp, g, d, tk, os⟩ := s
  have hT : ∀ tk', (⟨hp, g, d, tk', os⟩ : Shared).TypeIs (.ref a) "list" := fun _ => ⟨_, hx, rfl⟩
  have f1 := sub_AttributeError
  have f3 := F.slot_list_getattribute.lookup
  have f4 := F.slot_list_getattribute.bind (.ref a)
  have f5 := am_list_getattr_none
  unfold getAttr? getAttrBy? getAttrBy
  repeat (any_goals (first | assumption | exact hT _ | ((with_reducible show wpAny _ _ (call (Value.builtin "list.__getattribute__") _ _) _ _ _); refine call_meets F.slot_list_getattribute (hT _) am_entry_list_getattribute (F.args_list_getattribute_2 _ _) (meets_getattribute_miss_list a xs k sl name _ hmiss hname hsz) ⟨hx, hA, fun h' tk' e hx' => ?_⟩) | wp_step))
  obtain ⟨t', u', he⟩ := hx'.there
  show wpAny _ _ (getattributeRaised _ _ _ _ _ _ _) _ _ _
  unfold getattributeRaised
  repeat (any_goals (first | assumption | wp_step))
  exact h _ _ hx'.keeps
theorem entry_dict_update_loop : entryFor table "dict.update.loop" = some Builtin.«dict.update.loop» := entryFor_of_tree (by kernel_rfl)
theorem plain_dict_update_loop : plainId "dict.update.loop" = true := by decide +kernel
section
variable {prog : Program} {w : World} {A : Around} {E : Value → Shared → Prop} {s : Shared}
variable {R : Result → Shared → Prop} {I : Addr} {fp wr : List Addr} {G : Array GenState → Array GenState → Prop} {n : Nat} {P : Nat → Value → Prop} {St : Nat → Shared → Prop}
theorem pairs_loop (W : WalksS prog w A.in1 I fp wr G n P St) (S : Addr) (hSf : S ∉ fp) (J : Nat → Heap → Prop)
    (frame : ∀ i h h', J i h → (∀ b o, b ∉ wr → h.get? b = some o → h'.get? b = some o) → J i h')
    (step : ∀ i v (s : Shared) (Q : Unit → Shared → Prop), i < n → P i v → J i s.heap → (∀ h' tk, s.toks ≤ tk → Heap.SameBut S s.heap h' → J (i + 1) h' → Q () { s with heap := h', toks := tk }) → ∃ q k u, v = .ref q ∧ IsTup s.heap q #[k, u] ∧ wpAny (model prog w) A.in1 (dictSet S k u) Q (fun e s' => R (.error e) s') s) :
    ∀ (k i : Nat) (s : Shared), n - i = k → i ≤ n → St i s → J i s.heap → (∀ s', Moved (S :: wr) G s s' → J n s'.heap → R (.ok (.ret .none)) s') →
      codeAny (model prog w) A (.builtin "dict.update.loop" ⟨[.ref S, .ref I, rawInt (i : Int), .none], []⟩) R s := by
  have hsub : ∀ b ∈ wr, b ∈ S :: wr := fun b hb => List.mem_cons_of_mem _ hb
  intro k
  induction k with
  | zero =>
    intro i s hk hi hst hJ hR
    have hin : i = n := by omega
    subst hin
    refine codeAny_builtin entry_dict_update_loop ?_
    rw [Around.under_plainId plain_dict_update_loop _]
    show wpAny _ A.in1 (pyNext (.ref I) >>= _) _ _ s
    refine wpAny_bind (W.done s _ _ hst fun s' hm => ?_)
    show wpAny _ A.in1 (Builtin.Dict.addKeywords S [] >>= _) _ _ s'
    refine wpAny_bind (wpAny_pure ?_)
    exact wpAny_pure (hR s' (hm.mono hsub) (frame _ _ _ hJ hm.heap))
  | succ k ih =>
    intro i s hk hi hst hJ hR
    have hlt : i < n := by omega
    refine codeAny_builtin entry_dict_update_loop ?_
    rw [Around.under_plainId plain_dict_update_loop _]
    show wpAny _ A.in1 (pyNext (.ref I) >>= _) _ _ s
    refine wpAny_bind (W.item i s _ _ hlt hst fun v s' hP hst' hm => ?_)
    have cont : ∀ h' tk, s'.toks ≤ tk → Heap.SameBut S s'.heap h' → J (i + 1) h' → wpAny (model prog w) A.in1 (again (.builtin "dict.update.loop" ⟨[.ref S, .ref I, rawInt ((i : Int) + 1), .none], []⟩)) (fun fin s' => match fin with | .done f => R (.ok f) s' | .again c' => c'.quiet = true ∧ codeAny (model prog w) A c' R s') (fun e s' => R (.error e) s') { s' with heap := h', toks := tk } := by
      intro h' tk htk hsb hJ'
      refine wpAny_pure ⟨plainId_quiet plain_dict_update_loop _, ?_⟩
      have e1 : ((i : Int) + 1) = ((i + 1 : Nat) : Int) := by omega
      rw [e1]
      refine ih (i + 1) _ (by omega) hlt (W.frame _ s' _ _ hst' htk fun b hb o e => ?_) hJ' fun s'' hm'' hJ'' => ?_
      · rw [hsb.2 b (fun h : b = S => hSf (by rw [← h]; exact hb))]; exact e
      · refine hR s'' (Moved.trans W.gtrans ((hm.mono hsub).then_heap htk fun b o hb e => ?_) hm'') hJ''
        rw [hsb.2 b (fun h : b = S => hb (by rw [h]; exact List.mem_cons_self))]; exact e
    obtain ⟨q, kk, u, rfl, hq, hset⟩ := step i v s' (fun _ s4 => wpAny (model prog w) A.in1 (again (.builtin "dict.update.loop" ⟨[.ref S, .ref I, rawInt ((i : Int) + 1), .none], []⟩)) (fun fin s' => match fin with | .done f => R (.ok f) s' | .again c' => c'.quiet = true ∧ codeAny (model prog w) A c' R s') (fun e s' => R (.error e) s') s4) hlt hP (frame _ _ _ hJ hm.heap) cont
    · show wpAny _ A.in1 (holding [.ref q] _ >>= _) _ _ s'
      refine wpAny_bind (wpAny_holding ?_)
      obtain ⟨o, ho, hc, nn, hd⟩ := hq
      refine wpAny_bind (wpAny_tryCatch ?_)
      unfold Builtin.Dict.pairItems
      refine wpAny_bind (wpAny_typeOf (T := "tuple") ⟨o, ho, hc⟩ ?_)
      rw [if_pos (by decide)]
      refine wpAny_bind (wpAny_seqItems ho hd (wpAny_pure ?_))
      show wpAny _ A.in1 (holding [kk, u] (dictSet S kk u)) _ _ s'
      exact wpAny_holding hset
end
section
variable {prog : Program} {w : World}
theorem meets_update_list (d l : Addr) (items : Array Value) (J : Nat → Heap → Prop) (hne : d ≠ l) :
    MeetsIn prog w (Builtin.«dict.update» ⟨[.ref d, .ref l], []⟩) (fun A R s => A.handled = none ∧ s.TypeIs (.ref d) "dict" ∧ PlainL s.heap l items ∧ (∃ o, s.heap.get? d = some o) ∧ J 0 s.heap ∧
      (∀ i h h' (I : Addr), s.heap.get? I = none → J i h → (∀ b o, b ≠ I → h.get? b = some o → h'.get? b = some o) → J i h') ∧
      (∀ i v (s1 : Shared) (Q : Unit → Shared → Prop), i < items.size → items[i]? = some v → J i s1.heap → (∀ h' tk, s1.toks ≤ tk → Heap.SameBut d s1.heap h' → J (i + 1) h' → Q () { s1 with heap := h', toks := tk }) → ∃ q k u, v = .ref q ∧ IsTup s1.heap q #[k, u] ∧ wpAny (model prog w) A.in1 (dictSet d k u) Q (fun e s' => R (.error e) s') s1) ∧
      ∀ h' tk, J items.size h' → (∀ b o, b ≠ d → s.heap.get? b = some o → h'.get? b = some o) → R (.ok (.ret .none)) { s with heap := h', toks := tk }) := by
  rintro A R s ⟨hh, hT, hl, hds, h0, frame, step, hR⟩
  unfold Builtin.«dict.update»
  refine wpAny_bind ?_
  unfold Builtin.Dict.selfAndRest
  refine wpAny_bind (wpAny_notOrdered_dict hT ?_)
  show wpAny _ _ (pure (d, [Value.ref l])) _ _ s
  refine wpAny_pure ?_
  show wpAny _ _ (Builtin.Dict.updateFrom "dict.update" d (.ref l) [] .none) _ _ s
  unfold Builtin.Dict.updateFrom
  obtain ⟨ol, nl, hol, hcl, hdn, hdl⟩ := hl
  refine wpAny_bind (wpAny_typeOf (T := "list") ⟨ol, hol, hcl⟩ ?_)
  rw [if_pos (by decide)]
  refine wpAny_bind (getAttrQ_miss_list hol hcl hdl hdn lk_list_keys (by decide) (by simp [hh]) fun h1 tk1 k1 => ?_)
  rw [if_pos (by rfl)]
  refine wpAny_bind (wpAny_rule ?_)
  have hl1 : h1.IsList l items := ⟨ol, k1 _ _ hol, hcl, nl, hdl⟩
  refine wpAny_bind (wpAny_pyIter_list (s := { s with heap := h1, toks := tk1 }) hl1 ?_)
  refine wpAny_pure ⟨plainId_quiet plain_dict_update_loop _, ?_⟩
  have hlt : l < h1.objs.size := Heap.lt_size (k1 _ _ hol)
  have hle : s.heap.get? h1.objs.size = none := by
    cases e : s.heap.get? h1.objs.size with
    | none => rfl
    | some o => exact absurd (Heap.lt_size (k1 _ _ e)) (Nat.lt_irrefl _)
  have hneI : l ≠ h1.objs.size := Nat.ne_of_lt hlt
  have hdI : d ≠ h1.objs.size := fun e => by
    obtain ⟨o, ho⟩ := hds
    rw [e, hle] at ho
    cases ho
  have hSf : d ∉ [h1.objs.size, l] := by
    simp only [List.mem_cons, List.not_mem_nil, or_false, not_or]
    exact ⟨hdI, hne⟩
  have hh1 : A.in1.handled = none := by simp [hh]
  refine pairs_loop ((Walks.list hh1 _ l hneI items).toS) d hSf J (fun i h h' hj hk => frame i h h' _ hle hj fun b o hb e => hk b o (by rw [List.mem_singleton]; exact hb) e)
    (fun i v s1 Q1 hi hv hj hq => step i v s1 Q1 hi hv hj hq) (items.size - 0) 0 _ (by omega) (Nat.zero_le _)
    ⟨⟨_, Heap.get?_push_size _ rfl, rfl, rfl⟩, (hl1.push _)⟩ ?hS0 ?hR
  case hS0 => exact frame 0 _ _ h1.objs.size hle (frame 0 _ _ h1.objs.size hle h0 fun b o _ e => k1 b o e) fun b o _ e => Heap.get?_push_of_some _ e
  case hR =>
    intro s' hm hJ'
    obtain ⟨h', g', d', tk', os'⟩ := s'
    have eg : g' = s.gens := hm.gens
    have ed : d' = s.drawn := hm.drawn
    have eo : os' = s.os := hm.os
    subst eg; subst ed; subst eo
    refine hR h' tk' hJ' fun b o hb e => ?_
    have hb2 : b ≠ h1.objs.size := Nat.ne_of_lt (Heap.lt_size (k1 _ _ e))
    exact hm.heap b o (by simp only [List.mem_cons, List.not_mem_nil, or_false, not_or]; exact ⟨hb, hb2⟩) (Heap.get?_push_of_some _ (k1 _ _ e))
end
def rUpdK (K : PySem.W.Frag) : V → List V → Hp → VK → Prop := fun x xs H Q => ∃ (d l : Addr) (kvs : List (Key × V)) (ps : List (Addr × Key × V)), x = .ref d ∧ xs = [.ref l] ∧ H d = some (.dK kvs) ∧ SqL K H l (ps.map fun p => .ref p.1) ∧ (∀ p ∈ ps, SqT K H p.1 [kV p.2.1, p.2.2]) ∧
  kvs.length + ps.length ≤ sizeLine ∧ Q .non (upd H d (.dK (mergeK kvs (ps.map (·.2)))))
section
variable {X : Cx} {K : PySem.W.Frag}
theorem mt_update (ek : X.K = K) (hc : X.calm = true) : MtR X "dict.update" (rUpdK K) := by
  subst ek
  intro pins s σ H x xs v us Q I rx rxs h
  obtain ⟨d, l, kvs, ps, rfl, rfl, hd, hl, ht, len, q⟩ := h
  cases rx
  rw [Vals.ref1 rxs]
  obtain ⟨z, hsm, vs, rel, dd⟩ := dk_of I.hok hd
  obtain ⟨its, rv, pl, _⟩ := I.list hl
  have hdo : ∃ o, s.heap.get? d = some o ∧ o.cls = .type "dict" := let ⟨o, _, _, ho, hcl, _⟩ := dd; ⟨o, ho, hcl.1⟩
  have hne : d ≠ l := fun e => by
    obtain ⟨o, ho, hcl⟩ := hdo
    obtain ⟨o2, n2, ho2, hc2, _⟩ := pl
    rw [e, ho2] at ho
    cases ho
    rw [hc2] at hcl
    injection hcl with hcl
    exact absurd hcl (by decide)
  let J : Nat → Heap → Prop := fun i h => (∃ vs', KV (mergeK kvs ((ps.take i).map (·.2))) vs' ∧ h.DictOf (mixKind X.prog X.w) d vs') ∧ ∀ b o, b ≠ d → s.heap.get? b = some o → h.get? b = some o
  have hlen : its.length = ps.length := by rw [← rv.length, List.length_map]
  refine call_meetsIn PySem.F.slot_dict_update dd.typeIs PySem.F.entry_dict_update (PySem.F.args_dict_update_2 _ _) (meets_update_list d l its.toArray J hne) ⟨I.ok.hd hc, dd.typeIs, pl, (let ⟨o, ho, _⟩ := hdo; ⟨o, ho⟩), ⟨⟨vs, rel, dd⟩, fun b o _ e => e⟩, ?_, ?_, ?_⟩
  · rintro i h h' it hit ⟨⟨vs', r', d'⟩, hk⟩ hh
    have hdi : d ≠ it := fun e => by
      obtain ⟨o, ho, _⟩ := hdo
      rw [e, hit] at ho; cases ho
    refine ⟨⟨vs', r', let ⟨o, es, ep, ho, r⟩ := d'; ⟨o, es, ep, hh d o hdi ho, r⟩⟩, fun b o hb e => hh b o (fun eb => ?_) (hk b o hb e)⟩
    rw [eb, hit] at e; cases e
  · rintro i v s1 Q1 hi hv ⟨⟨vs', r', d'⟩, hk⟩ hq
    have hv' : its[i]? = some v := by simpa using hv
    have hip : i < ps.length := by rw [← hlen]; simpa using hi
    obtain ⟨p, hp⟩ : ∃ p, ps[i]? = some p := ⟨_, List.getElem?_eq_getElem hip⟩
    obtain ⟨u, hu, ru⟩ := rv.get (i := i) (x := .ref p.1) (by rw [List.getElem?_map, hp]; rfl)
    rw [hv'] at hu
    cases hu
    cases ru
    obtain ⟨ts, rt, tt, _⟩ := I.tuple (ht p (List.mem_of_getElem? hp))
    cases rt with
    | cons ra rt =>
      cases rt with
      | cons rb rt =>
        cases rt
        rename_i ua ub
        obtain ⟨o, ho, hcl, nn, hdat⟩ := tt
        have hpd : p.1 ≠ d := fun e => by
          obtain ⟨o2, ho2, hc2⟩ := hdo
          rw [e, ho2] at ho
          cases ho
          rw [hc2] at hcl
          injection hcl with hcl
          exact absurd hcl (by decide)
        refine ⟨p.1, ua, ub, rfl, ⟨o, hk _ _ hpd ho, hcl, nn, hdat⟩, ?_⟩
        have hl2 := r'.length
        have hl3 := length_mergeK ((ps.take i).map (·.2)) kvs
        rw [List.length_map, List.length_take] at hl3
        refine wpAny_dictSet_pairs (kV_is ra) d' (fun h' dd' hs => hq h' _ (Nat.le_succ _) hs ⟨⟨_, ?_, dd'⟩, fun b o hb e => ?_⟩) (by omega)
        · have e : (ps.take (i + 1)).map (·.2) = (ps.take i).map (·.2) ++ [p.2] := by rw [List.take_succ, hp]; simp
          have e2 : mergeK kvs ((ps.take (i + 1)).map (·.2)) = putK (mergeK kvs ((ps.take i).map (·.2))) p.2.1 p.2.2 := by
            rw [e]; unfold mergeK; rw [List.foldl_append]; rfl
          rw [e2]
          exact r'.put p.2.1 rb
        · rw [hs.2 b hb]; exact hk b o hb e
  · rintro h' tk ⟨⟨vs', r', d'⟩, hk⟩ _
    have hsz : its.toArray.size = ps.length := by simp [hlen]
    rw [hsz, List.take_length] at r'
    have he : ∃ o, h'.get? d = some o := let ⟨o, _, _, ho, _⟩ := d'; ⟨o, ho⟩
    have hl3 := length_mergeK (ps.map (·.2)) kvs
    rw [List.length_map] at hl3
    exact ⟨.non, _, I.write (x := d) (e := d) (by rw [hd]; exact True.intro) (.inl rfl) (fun b o hb e => hk b o hb e) he (dk_new (by omega) hsm r' d'), rfl, q⟩
end
end L2

namespace L2
open PySem PySem.Spec PyProof.Rows
open AutoSeq1 (wpAny_loadPart')
section
variable {prog : Program} {w : World} {A : Around} {E : Value → Shared → Prop} {s : Shared}
theorem nextOf_tup_item {it t : Addr} {i : Nat} {items} {x : Value} {Q : Value → Shared → Prop} (hit : IsTupIter s.heap it t i) (ht : IsTup s.heap t items) (hx : items[i]? = some x)
    (hQ : ∀ h', IsTupIter h' it t (i + 1) → Heap.SameBut it s.heap h' → Q x { s with heap := h' }) : wpAny (model prog w) A (Builtin.SmallTypes.nextOf (.ref it)) Q E s := by
  obtain ⟨o, ho, hc, hd⟩ := id hit
  obtain ⟨ol, hol, _, nl, hdl⟩ := ht
  unfold Builtin.SmallTypes.nextOf
  refine wpAny_bind (wpAny_callSpecial?_slot (name := Str.ofString "__next__") hit.typeIs slot_tupleiter_next
    (wpAny_call_entry slot_tupleiter_next hit.typeIs entry_tupleiter_next ?_ (args_tupleiter_next _)))
  show wpAny _ _ (field (.ref it) 0 >>= _) _ _ s
  refine wpAny_bind (wpAny_field ho hd (x := .ref t) rfl ?_)
  show wpAny _ _ (if (Value.ref t == Value.none) = true then _ else _) _ _ s
  rw [if_neg (show ¬ ((Value.ref t == Value.none) = true) from Bool.false_ne_true)]
  show wpAny _ _ (field (.ref it) 1 >>= _) _ _ s
  refine wpAny_bind (wpAny_field ho hd (x := .int i 0) rfl ?_)
  show wpAny _ _ (seqItems? (.ref t) >>= _) _ _ s
  refine wpAny_bind (wpAny_seqItems hol hdl ?_)
  simp only [Int.toNat_natCast, hx]
  refine wpAny_bind (wpAny_setField ho hd (by simp) (wpAny_pure ⟨x, rfl, wpAny_pure (hQ _ ?_ (Heap.SameBut.update ..))⟩))
  exact ⟨_, Heap.get?_update_self _ ho (Obj.isFreed_of_fields (Obj.data_mapFields hd _)), (Obj.cls_mapFields ..).trans hc, by
    rw [Obj.data_mapFields hd]; simp [rawInt]⟩
theorem nextOf_tup_end {it t : Addr} {i : Nat} {items} {Q : Value → Shared → Prop} (hh : A.handled = none) (hit : IsTupIter s.heap it t i) (ht : IsTup s.heap t items) (hx : items[i]? = none)
    (hE : ∀ h' e, Heap.ExtBut it s.heap h' → (∃ o, h'.get? e = some o ∧ o.cls = .type "StopIteration") → E (.ref e) { s with heap := h' }) : wpAny (model prog w) A (Builtin.SmallTypes.nextOf (.ref it)) Q E s := by
  obtain ⟨o, ho, hc, hd⟩ := id hit
  obtain ⟨ol, hol, _, nl, hdl⟩ := ht
  unfold Builtin.SmallTypes.nextOf
  refine wpAny_bind (wpAny_callSpecial?_slot (name := Str.ofString "__next__") hit.typeIs slot_tupleiter_next
    (wpAny_call_entry slot_tupleiter_next hit.typeIs entry_tupleiter_next ?_ (args_tupleiter_next _)))
  show wpAny _ _ (field (.ref it) 0 >>= _) _ _ s
  refine wpAny_bind (wpAny_field ho hd (x := .ref t) rfl ?_)
  show wpAny _ _ (if (Value.ref t == Value.none) = true then _ else _) _ _ s
  rw [if_neg (show ¬ ((Value.ref t == Value.none) = true) from Bool.false_ne_true)]
  show wpAny _ _ (field (.ref it) 1 >>= _) _ _ s
  refine wpAny_bind (wpAny_field ho hd (x := .int i 0) rfl ?_)
  show wpAny _ _ (seqItems? (.ref t) >>= _) _ _ s
  refine wpAny_bind (wpAny_seqItems hol hdl ?_)
  simp only [Int.toNat_natCast, hx]
  refine wpAny_bind (wpAny_rule (wpAny_bind (wpAny_setField ho hd (by simp) ?_)))
  first
    | refine wpAny_bind (wpAny_letGo ?_)
    | skip
  show wpAny _ _ (newExc (.type "StopIteration") [] >>= _) _ _ _
  refine wpAny_bind ?_
  simp only [newExc, newTuple]
  refine wpAny_bind (wpAny_newObj_type ?_ (by size_fits))
  refine wpAny_bind (m := firstArgMember _ _) (wpAny_of_eq (a := Value.none) (by first | rfl | (simp only [firstArgMember]; rfl)) ?_)
  refine wpAny_newObj_type ?_ (by size_fits)
  simp only [raiseNew]
  refine wpAny_bind (wpAny_handled ?_)
  first | rw [show A.in1.handled = none from hh] | rw [hh]
  refine wpAny_bind (wpAny_pure (wpAny_throw ?_))
  exact hE _ _ (((Heap.SameBut.update ..).extBut.push _).push _) ⟨_, Heap.get?_push_size _ rfl, rfl⟩
theorem draws_tup (hh : A.handled = none) (it l : Addr) (hne : l ≠ it) (items : Array Value) :
    Draws prog w A it [it, l] items.size (fun i v => items[i]? = some v) (fun i h => IsTupIter h it l i ∧ IsTup h l items) where
  live := fun _ _ st => let ⟨o, ho, _⟩ := st.1; ⟨o, ho⟩
  frame := fun _ _ _ st hk => ⟨let ⟨o, ho, r⟩ := st.1; ⟨o, hk it (by simp) o ho, r⟩, let ⟨o, ho, r⟩ := st.2; ⟨o, hk l (by simp) o ho, r⟩⟩
  item := fun i s Q E hi st hQ => by
    refine nextOf_tup_item st.1 st.2 (x := items[i]) (by simp [hi]) fun h' hit' hs' => ?_
    exact hQ _ h' s.toks (by simp [hi]) ⟨hit', let ⟨o, ho, r⟩ := st.2; ⟨o, hs'.extBut l o hne ho, r⟩⟩ hs'
  done := fun s Q E st hE => nextOf_tup_end hh st.1 st.2 (by simp) hE
end
set_option maxHeartbeats 2000000 in
theorem meets_enumerate_newT (l : Addr) (items : Array Value) (n : Nat) (dct : Option Addr) (sl : Array (Option Value)) :
    Meets (Builtin.«enumerate.__new__» ⟨[.type "enumerate", .ref l], []⟩) (fun _ R s => s.heap.get? l = some { cls := .type "tuple", dict := dct, data := .seq items n, slots := sl } ∧
      R (.ok (.ret (.ref (s.heap.push { cls := .type "tuple_iterator", data := .fields #[.ref l, .int 0 0] }).objs.size)))
        { s with heap := (s.heap.push { cls := .type "tuple_iterator", data := .fields #[.ref l, .int 0 0] }).push { cls := .type "enumerate", data := .fields #[.none, .bool false, .ref s.heap.objs.size, rawInt 0, .none, .none] } }) :=
  .of_wp fun prog w A R s h => by
    obtain ⟨hp, g, d, tk, os⟩ := s; obtain ⟨hl, h⟩ := h
    have hsub := sub_enumerate
    have hL : IsTup (Shared.heap ⟨hp, g, d, tk, os⟩) l items := ⟨_, hl, rfl, n, rfl⟩
    wp_walk using wpAny_loadPart' hl
    refine wpAny_stack_any fun st => wpAny_pure ?_
    split
    · rename_i c _ _ _ _ _
      cases (c == Value.type "enumerate")
      · wp_walk using wpAny_loadPart' hl, iter_tuple hL
        exact ⟨_, rfl, h⟩
      · wp_walk using wpAny_loadPart' hl, iter_tuple hL
        exact ⟨_, rfl, h⟩
    · wp_walk using wpAny_loadPart' hl, iter_tuple hL
      exact ⟨_, rfl, h⟩
theorem call_enumerate_tup {prog : Program} {w : World} {A : Around} {E : Value → Shared → Prop} {s : Shared} {l : Addr} {items : Array Value} {Q : Value → Shared → Prop} (hL : IsTup s.heap l items)
    (h : ∀ h', IsEnum h' (s.heap.objs.size + 1) s.heap.objs.size 0 .none → IsTupIter h' s.heap.objs.size l 0 → h'.objs.size = s.heap.objs.size + 2 →
      (∀ b o, s.heap.get? b = some o → h'.get? b = some o) → Q (.ref (s.heap.objs.size + 1)) { s with heap := h' }) :
    wpAny (model prog w) A (call (.type "enumerate") [.ref l]) Q E s := by
  obtain ⟨⟨c, dct, dt, sl⟩, hl, hc, n, hd⟩ := hL
  replace hc : c = .type "tuple" := hc
  replace hd : dt = .seq items n := hd
  subst hc hd
  refine callType_new F.called_enumerate (by decide) (F.typeCall_enumerate_1 _) (F.newCall_enumerate_1 _) (fun obj => F.args_object_init_2 obj _) F.entry_enumerate_new
    (meets_enumerate_newT l items n dct sl) ⟨hl, ?_⟩
  have hz : (s.heap.push { cls := .type "tuple_iterator", data := .fields #[.ref l, .int 0 0] }).objs.size = s.heap.objs.size + 1 := Heap.size_push ..
  show _ ∧ _
  rw [hz]
  have he : IsEnum ((s.heap.push { cls := .type "tuple_iterator", data := .fields #[.ref l, .int 0 0] }).push
      { cls := .type "enumerate", data := .fields #[.none, .bool false, .ref s.heap.objs.size, rawInt 0, .none, .none] }) (s.heap.objs.size + 1) s.heap.objs.size 0 .none := by
    have := Heap.get?_push_size (s.heap.push { cls := .type "tuple_iterator", data := .fields #[.ref l, .int 0 0] })
      (o := { cls := .type "enumerate", data := .fields #[.none, .bool false, .ref s.heap.objs.size, rawInt 0, .none, .none] }) rfl
    rw [hz] at this; exact this
  refine ⟨⟨_, he, rfl⟩, h _ he ⟨_, Heap.get?_push_of_some _ (Heap.get?_push_size _ rfl), rfl, rfl⟩ (by rw [Heap.size_push, hz]) fun b o x => Heap.get?_push_of_some _ (Heap.get?_push_of_some _ x)⟩
theorem pyNext_enum_end_tup {prog : Program} {w : World} {A : Around} {E : Value → Shared → Prop} {s : Shared} {e it t : Addr} {j : Nat} {items : Array Value} {i : Int} {old : Value} {Q : Option Value → Shared → Prop} (hh : A.handled = none)
    (he : IsEnum s.heap e it i old) (hit : IsTupIter s.heap it t j) (ht : IsTup s.heap t items) (hx : items[j]? = none)
    (hQ : ∀ h', Heap.ExtBut it s.heap h' → Q none { s with heap := h' }) : wpAny (model prog w) A (pyNext (.ref e)) Q E s := by
  have hT : s.TypeIs (.ref e) "enumerate" := ⟨_, he, rfl⟩
  unfold pyNext
  refine wpAny_bind (wpAny_attempt (wpAny_callSpecial?_slot (name := Str.ofString "__next__") hT F.slot_enumerate_next
    (wpAny_call_entry F.slot_enumerate_next hT F.entry_enumerate_next ?_ (F.args_enumerate_next_1 _))))
  show wpAny _ _ (field (.ref e) 2 >>= _) _ _ _
  refine wpAny_bind (wpAny_field he rfl (x := .ref it) rfl ?_)
  refine wpAny_bind (nextOf_tup_end (by simp [hh]) hit ht hx fun h' x he' hx' => ?_)
  obtain ⟨o, ho, hc⟩ := hx'
  refine wpAny_bind (wpAny_isInstance (T := "StopIteration") (b := true) ⟨o, ho, hc⟩ isSubtype_stop ?_)
  exact wpAny_pure (hQ _ he')
def IteT (K : PySem.W.Frag) (a : Addr) : It :=
  ⟨fun i H => ∃ (xs : List V) (x : V), SqT K H a xs ∧ xs[i]? = some x, fun i H v H' => ∃ T x, v = .ref T ∧ H T = none ∧ H' = upd H T (.tup [.int (i : Nat), x]) ∧ ∀ xs, SqT K H a xs → xs[i]? = some x, fun i H => ∃ xs : List V, SqT K H a xs ∧ xs.length ≤ i⟩
theorem turn_enumT {P : Program} {w : World} {K : PySem.W.Frag} {elts : List Expr} {kk : Nat} {tpos : Pos} (a e it : Addr) :
    Turn P w K (.Tuple elts kk tpos) (IteT K a) [e, it] e (fun i h => (∃ old, IsEnum h e it ((i : Nat) : Int) old) ∧ IsTupIter h it a i ∧ e ≠ it ∧ a ≠ it ∧ a ≠ e) where
  mem := by simp
  obj := fun i h st b hb => by
    obtain ⟨⟨old, he⟩, ⟨o, ho, hc, hd⟩, _⟩ := st
    have e' : b = e ∨ b = it := by simpa using hb
    rcases e' with z | z
    · rw [z]; exact ⟨_, he, fun v q => nomatch q⟩
    · rw [z]; exact ⟨o, ho, fun v q => by rw [hd] at q; cases q⟩
  keep := fun i h h' st k => let ⟨⟨old, he⟩, ⟨o, ho, r⟩, hne⟩ := st; ⟨⟨old, k e (by simp) _ he⟩, ⟨o, k it (by simp) o ho, r⟩, hne⟩
  item := by
    intro X hP hw hK hc i pins s σ H E I hf st hg
    subst hP hw hK
    obtain ⟨⟨old, he⟩, hit, hne, hai, hae⟩ := st
    obtain ⟨xs, x, hq, hx⟩ := hg
    obtain ⟨its, rv, p, hz⟩ := I.tuple hq
    obtain ⟨u, hu, ru⟩ := rv.get hx
    have hel : e < s.heap.objs.size := Heap.lt_size he
    have hil : it < s.heap.objs.size := by obtain ⟨_, q, _⟩ := hit; exact Heap.lt_size q
    have hlt : i < its.toArray.size := by have := (List.getElem?_eq_some_iff.mp hu).1; simpa using this
    refine wpAny_pyNext_enum_itemD (draws_tup (by simp [I.ok.hd hc]) it a hai its.toArray) he ⟨hit, p⟩ hlt hne (by simp; exact ⟨hne, Ne.symm hae⟩) fun u' h' tk hu' ho hit' hT hsz hk => ?_
    have eu : u' = u := by
      have : its[i]? = some u' := by simpa using hu'
      rw [hu] at this; exact (Option.some.inj this).symm
    subst eu
    refine ⟨_, rfl, wpAny_letOwnedTupleGo_enum (s := { s with heap := h', toks := tk + 1 }) ho fun h'' he' sb => ?_⟩
    have hT2 : h''.get? s.heap.objs.size = some { cls := .type "tuple", data := .seq #[.int i tk, u'] } := (sb.2 _ (Nat.ne_of_gt hel)).trans hT
    have new : ObjOk X.prog X.w (upd H s.heap.objs.size (.tup [.int (i : Nat), x])) h'' s.heap.objs.size (.tup [.int (i : Nat), x]) :=
      ⟨by show 2 ≤ sizeLine; decide, [.int i tk, u'], .cons ⟨_, rfl⟩ (.cons ru .nil), ⟨_, hT2, rfl, _, rfl⟩⟩
    have I1 : Inv X pins σ (upd H s.heap.objs.size (.tup [.int (i : Nat), x])) { s with heap := h'', toks := tk + 1 } :=
      I.turnedNew (ch := [e, it]) (fun b ob hb q => (sb.2 b (fun z => hb (by simp [z]))).trans (hk b ob (fun z => hb (by simp [z])) (fun z => hb (by simp [z])) q)) hf (Nat.le_refl _) new
    refine ⟨.ref s.heap.objs.size, _, I1, rfl, ⟨_, x, rfl, I.hok.fresh (Nat.le_refl _), rfl, fun ys hy => by rw [I.tuple_inj hy hq]; exact hx⟩, ⟨⟨u', ?_⟩, (let ⟨o, ho2, r⟩ := hit'.1; ⟨o, (sb.2 it (Ne.symm hne)).trans ho2, r⟩), hne, hai, hae⟩, fun b hb => ?_⟩
    · have e1 : ((i + 1 : Nat) : Int) = (i : Int) + 1 := by omega
      rw [e1]; exact he'
    · have hb' : b < s.heap.objs.size := by
        have e' : b = e ∨ b = it := by simpa using hb
        rcases e' with z | z
        · rw [z]; exact hel
        · rw [z]; exact hil
      rw [upd_ne (Nat.ne_of_lt hb')]
      exact (hf b hb).1
  done := by
    intro X hP hw hK hc i pins s σ H E I hf st hg
    subst hP hw hK
    obtain ⟨⟨old, he⟩, hit, hne, hai, hae⟩ := st
    obtain ⟨xs, hq, hx⟩ := hg
    obtain ⟨its, rv, p, hz⟩ := I.tuple hq
    obtain ⟨f0, f1, f2, f3, f4, f5⟩ := hf it (by simp)
    have hl := rv.length
    exact pyNext_enum_end_tup (I.ok.hd hc) he hit p (by simp; omega) fun h' eb => ⟨rfl, I.turned (t' := s.toks) (fun b o hb q => eb b o hb q) f0 f1 f3 f4 f5⟩
  self := fun A i s Q E st h => let ⟨⟨_, he⟩, _⟩ := st; wpAny_pyIter_enum he h
def iEnumT (K : PySem.W.Frag) (ta : TA) : TI := fun σ H R => ta σ H fun vs H1 => ∃ a xs, vs = [.ref a] ∧ SqT K H1 a xs ∧ R (IteT K a) H1
theorem pi_enumT {X : Cx} {K : PySem.W.Frag} {e : Expr} {ta : TA} {p pos tpos : Pos} {elts : List Expr} {kk : Nat} (ek : X.K = K) (hg : Gl X "enumerate") (hm : X.mg "enumerate" = none) (ha : PA X [e] ta) (hs : starEach [e] X.env = [(false, eval e X.env)] := by rfl) :
    PI X (.Tuple elts kk tpos) (.Call (.Name "enumerate" p) [e] [] pos) (iEnumT K ta) := by
  subst ek
  intro pins s σ H R I h
  refine Call_ (ld_blt I hg hm boot_enumerate (PyProof.Rows.callWith_type1 (thn (ha pos pins s σ H _ I h) fun us s1 ⟨vs, H1, I1, r1, q1⟩ => ?_) hs rfl))
  obtain ⟨a, xs, ex, hq, q⟩ := q1
  subst ex
  cases r1 with
  | cons r rr =>
    cases rr
    cases r
    obtain ⟨its, rv, p', hz⟩ := I1.tuple hq
    have hla : a < s1.heap.objs.size := by obtain ⟨_, q, _⟩ := p'; exact Heap.lt_size q
    refine call_enumerate_tup p' fun h' he hit hsz hk => wpAny_pyIter_enum he ?_
    have I2 : Inv X pins σ H1 { s1 with heap := h' } := I1.kept (t' := s1.toks) hk
    refine ⟨s1.heap.objs.size + 1, [s1.heap.objs.size + 1, s1.heap.objs.size], _, _, H1, rfl, I2, turn_enumT a (s1.heap.objs.size + 1) s1.heap.objs.size, ⟨⟨.none, he⟩, hit, Nat.succ_ne_self _, Nat.ne_of_lt hla, Nat.ne_of_lt (Nat.lt_succ_of_lt hla)⟩, fun b hb => ?_, q⟩
    have e' : b = s1.heap.objs.size + 1 ∨ b = s1.heap.objs.size := by simpa using hb
    have hle : s1.heap.objs.size ≤ b := by
      rcases e' with z | z
      · rw [z]; exact Nat.le_add_right _ _
      · rw [z]; exact Nat.le_refl _
    exact I1.fpOk hle (I1.hok.fresh hle)
theorem lc_enumT {K : PySem.W.Frag} {a : Addr} {xs : List V} {g : TG} {tt : TT} {te : TE} {vs : List Nat} {σ : St} {H1 : Hp} {D : Addr} {Qd : Hp → Prop} (Pv : Nat → Hp → Prop) (h0 : Pv 0 (upd H1 D (.lst []))) (hl : ∀ i H, i ≤ xs.length → Pv i H → SqT K H a xs)
    (hs : ∀ i x T H, xs[i]? = some x → Pv i H → H T = none → g (.ref T) (wipe σ vs) (upd H T (.tup [.int (i : Nat), x])) fun σ2 H2 => wipe σ2 vs = wipe σ vs ∧ tt σ2 H2 fun b H3 => if b = true then te σ2 H3 fun y H4 => ∃ acc, H4 D = some (.lst acc) ∧ acc.length < sizeLine ∧ Pv (i + 1) (upd H4 D (.lst (acc ++ [y]))) else Pv (i + 1) H3) (hd : ∀ H, Pv xs.length H → Qd H) :
    ∃ W : Nat → Nat → Hp → Prop, (∃ m, W 0 m (upd H1 D (.lst []))) ∧ ∀ i m H, W i m H →
      ((IteT K a).stop i H ∧ Qd H) ∨ ((IteT K a).go i H ∧ ∃ Nx : Hp → Prop, (∀ H', Nx H' → ∃ m', m' < m ∧ W (i + 1) m' H') ∧ ∀ x H', (IteT K a).yld i H x H' → g x (wipe σ vs) H' fun σ2 H2 => wipe σ2 vs = wipe σ vs ∧ tt σ2 H2 fun b H3 =>
        if b = true then te σ2 H3 fun y H4 => ∃ acc, H4 D = some (.lst acc) ∧ acc.length < sizeLine ∧ Nx (upd H4 D (.lst (acc ++ [y]))) else Nx H3) := by
  refine ⟨fun i m H => m = xs.length - i ∧ i ≤ xs.length ∧ Pv i H, ⟨xs.length, by simp, Nat.zero_le _, h0⟩, ?_⟩
  rintro i m H ⟨rfl, hi, p⟩
  have q := hl i H hi p
  by_cases hlt : i < xs.length
  · refine .inr ⟨⟨xs, xs[i], q, by simp [hlt]⟩, Pv (i + 1), fun H' p' => ⟨xs.length - (i + 1), by omega, rfl, hlt, p'⟩, fun x H' y => ?_⟩
    obtain ⟨T, x', rfl, hT, rfl, y⟩ := y
    exact hs i x' T _ (y xs q) p hT
  · have e : i = xs.length := by omega
    subst e
    exact .inl ⟨⟨xs, q, Nat.le_refl _⟩, hd H p⟩
end L2

namespace L2
open PySem PySem.Spec PyProof.Rows
section
variable {X : Cx} {K : PySem.W.Frag} {e k : Expr} {te tk : TE} {p2 pos : Pos}
end
section
variable {prog : Program} {w : World} {A : Around} {E : Value → Shared → Prop} {s : Shared} {l : Addr} {its : List Value} {ns : List Int} {Q : Value → Shared → Prop}
end
section
variable {X : Cx} {K : PySem.W.Frag}
end
section
variable {prog : Program} {w : World} {A : Around} {E : Value → Shared → Prop} {s : Shared}
end
section
variable {X : Cx} {K : PySem.W.Frag}
end
end L2

namespace L2
open PySem PySem.Spec PyProof.Rows
section
variable {X : Cx} {K : PySem.W.Frag}
theorem cr_isA (ek : X.K = K) : CallR X (.builtin "isinstance") (fun xs H Q => ∃ x T t b, xs = [x, .ty T] ∧ TyOf K H x t ∧ PySem.W.kitOne K t (.type T) = some b ∧ Q (.bl b) H) := by
  subst ek
  intro pins s σ H xs us Q I r h
  obtain ⟨x, T, t, b, rfl, ty, e, q⟩ := h
  obtain ⟨u, v, rfl, ru, rt⟩ : ∃ u v, us = [u, v] ∧ RelV x u ∧ RelV (.ty T) v := by
    cases r with
    | cons r1 r2 => cases r2 with
      | cons r3 r4 => cases r4; exact ⟨_, _, rfl, r1, r3⟩
  cases (show v = Value.type T from rt)
  exact isinst_ok I ru ty e fun tk => fin_bl (I.tok tk) q rfl
end
end L2

namespace KW
open PySem L2 K07
end KW

namespace KW
open PySem L2 K07
def kvsI (ks : List Int) : List (Key × V) := ks.map fun c => (Sum.inl c, V.bl true)
def addI (ks : List Int) (c : Int) : List Int := if c ∈ ks then ks else ks ++ [c]
theorem put_kvsI (ks : List Int) (c : Int) : putK (kvsI ks) (Sum.inl c) (V.bl true) = kvsI (addI ks c) := by
  unfold putK addI
  by_cases h : c ∈ ks
  · have e : ((kvsI ks).any fun kv => decide (kv.1 = (Sum.inl c : Key))) = true := by
      rw [List.any_eq_true]
      exact ⟨_, List.mem_map.mpr ⟨c, h, rfl⟩, by simp⟩
    rw [if_pos e, if_pos h]
    unfold kvsI
    rw [List.map_map]
    refine List.map_congr_left fun x _ => ?_
    show (if (Sum.inl x : Key) = Sum.inl c then _ else _) = _
    split <;> rfl
  · have e : ¬ ((kvsI ks).any fun kv => decide (kv.1 = (Sum.inl c : Key))) = true := by
      rw [List.any_eq_true]
      rintro ⟨kv, hkv, e⟩
      obtain ⟨x, hx, rfl⟩ := List.mem_map.mp hkv
      have : (Sum.inl x : Key) = Sum.inl c := of_decide_eq_true e
      injection this with this
      exact h (this ▸ hx)
    rw [if_neg e, if_neg h]
    unfold kvsI
    rw [List.map_append]; rfl
theorem addI_mem {ks : List Int} {c x : Int} : x ∈ addI ks c ↔ x ∈ ks ∨ x = c := by
  unfold addI
  split
  · rename_i h
    exact ⟨.inl, fun e => e.elim id fun e => e ▸ h⟩
  · rw [List.mem_append, List.mem_singleton]
theorem addI_nd {ks : List Int} {c : Int} (nd : ks.Nodup) : (addI ks c).Nodup := by
  unfold addI
  split
  · exact nd
  · rename_i h
    rw [List.nodup_append]
    refine ⟨nd, by simp, fun a ha b hb => ?_⟩
    rw [List.mem_singleton.mp hb]
    rintro rfl
    exact h ha
theorem addI_len {ks : List Int} {c : Int} : (addI ks c).length ≤ ks.length + 1 := by
  unfold addI
  split
  · omega
  · rw [List.length_append, List.length_singleton]; omega
theorem merge_kvsI : ∀ (l ks : List Int), mergeK (kvsI ks) (l.map fun c => (Sum.inl c, V.bl true)) = kvsI (l.foldl addI ks)
  | [], ks => rfl
  | c :: l, ks => by
    show mergeK (putK (kvsI ks) (Sum.inl c) (V.bl true)) (l.map fun c => (Sum.inl c, V.bl true)) = _
    rw [put_kvsI, merge_kvsI l]; rfl
def PairsK (K : PySem.W.Frag) (H : Hp) (ps : List (Addr × Key × V)) : Prop := ∀ p ∈ ps, SqT K H p.1 [kV p.2.1, p.2.2]
theorem PairsK.same {K : PySem.W.Frag} {H H' : Hp} {ps : List (Addr × Key × V)} (h : PairsK K H ps) (s : Same H H') : PairsK K H' ps := fun q hq => s.sqT (h q hq)
theorem PairsK.sx {K : PySem.W.Frag} {H H' : Hp} {D : Addr} {ys : List V} {ps : List (Addr × Key × V)} (h : PairsK K H ps) (hD : H D = some (.lst ys)) (s : SameX D H H') : PairsK K H' ps := fun q hq => (h q hq).sx hD s
end KW

namespace KW
open PySem L2
structure PcS (n : Nat) (B : Int) (c : List Int) : Prop where
  len : c.length = n
  rise : c.Pairwise (· < ·)
  lo : ∀ e ∈ c, 0 ≤ e
  hi : ∀ e ∈ c, e < B
theorem PcS.mono {n : Nat} {B B' : Int} {c : List Int} (h : PcS n B c) (hb : B ≤ B') : PcS n B' c := ⟨h.len, h.rise, h.lo, fun e he => Int.lt_of_lt_of_le (h.hi e he) hb⟩
end KW
namespace KW
open PySem L2
end KW
namespace KW
open PySem L2
end KW
namespace KW
open PySem L2
structure PcN (n : Nat) (c : List Int) : Prop where
  len : c.length = n
  rise : c.Pairwise (· < ·)
  bd : ∀ e ∈ c, e.natAbs ≤ 10 ^ 40
end KW

namespace KW
open PySem L2
def castL (ks : List Nat) : List Int := ks.map fun k : Nat => (k : Int)
structure FOk (n : Nat) (f : List Nat) : Prop where
  nd : f.Nodup
  lt : ∀ x ∈ f, x < n
theorem FOk.len {n : Nat} {f : List Nat} (h : FOk n f) : f.length ≤ n := by
  have := h.nd.length_le_of_subset (l₂ := List.range n) fun x hx => List.mem_range.mpr (h.lt x hx)
  rwa [List.length_range] at this
def Lsts (H : Hp) (zs : List (Addr × List Int)) : Prop := ∀ z ∈ zs, H z.1 = some (.lst (z.2.map V.int))
theorem Lsts.nil {H : Hp} : Lsts H [] := fun z hz => nomatch hz
theorem Lsts.same {H H' : Hp} {zs : List (Addr × List Int)} (h : Lsts H zs) (s : Same H H') : Lsts H' zs := fun z hz => s _ _ (h z hz)
end KW

namespace L2
open PySem PySem.Spec PyProof.Rows
section
variable {X : Cx} {K : PySem.W.Frag} {pos : Pos} {e fn : Expr} {es : List Expr} {t : TA} {k : Nat} {sp : Sp}
end
section
variable {X : Cx} {K : PySem.W.Frag} {tpos : Pos} {elts : List Expr} {kk : Nat}
end
end L2

namespace KW
open PySem L2
end KW

namespace L2
open PySem PySem.Spec PyProof.Rows
section
variable {X : Cx} {K : PySem.W.Frag}
end
end L2

namespace L2
open PySem PySem.Spec PyProof.Rows
section
variable {X : Cx} {K : PySem.W.Frag}
end
end L2

namespace L2
open PySem PySem.Spec PyProof.Rows
section
variable {X : Cx} {e : Expr} {es : List Expr} {te : TE} {t : TA}
end
end L2

namespace L2
open PySem PySem.Spec PyProof.Rows
section
variable {X : Cx} {K : PySem.W.Frag}
def TyOfX (K : PySem.W.Frag) (H : Hp) (v : V) (t : Value) : Prop := TyOf K H v t ∨ (t = .type "tuple" ∧ ∃ a xs, v = .ref a ∧ SqT K H a xs)
theorem cr_isAX (ek : X.K = K) : CallR X (.builtin "isinstance") (fun xs H Q => ∃ x T t b, xs = [x, .ty T] ∧ TyOfX K H x t ∧ PySem.W.kitOne K t (.type T) = some b ∧ Q (.bl b) H) := by
  subst ek
  intro pins s σ H xs us Q I r h
  obtain ⟨x, T, t, b, rfl, ty, e, q⟩ := h
  obtain ⟨u, v, rfl, ru, rt⟩ : ∃ u v, us = [u, v] ∧ RelV x u ∧ RelV (.ty T) v := by
    cases r with
    | cons r1 r2 => cases r2 with
      | cons r3 r4 => cases r4; exact ⟨_, _, rfl, r1, r3⟩
  cases (show v = Value.type T from rt)
  rcases ty with ty | ⟨rfl, a, xs, rfl, hs⟩
  · exact isinst_ok I ru ty e fun tk => fin_bl (I.tok tk) q rfl
  · cases (show u = Value.ref a from ru)
    obtain ⟨its, r1, p1, _⟩ := I.tuple hs
    obtain ⟨o, h1, h2, _⟩ := p1
    exact PySem.W.kia_one PySem.W.kitx_tuple I.kIn ⟨o, h1, h2⟩ e (fun z => nomatch z) fun tk => fin_bl (I.tok tk) q rfl
end
end L2

namespace L2
open PySem PySem.Spec PyProof.Rows
section
variable {prog : Program} {w : World} {A : Around} {E : Value → Shared → Prop} {s : Shared}
end
end L2

namespace L2
open PySem PySem.Spec PyProof.Rows
section
variable {α : Type} {g : TG} {tt : TT} {te : TE} {vs : List Nat} {σ : St} {Stp : α → Hp → Prop} {Ste : α → V → Hp → (α → Hp → Prop) → Prop}
end
section
variable {X : Cx} {K : PySem.W.Frag} {pos : Pos} {e fn : Expr} {es : List Expr} {t : TA} {k : Nat}
end
section
variable {X : Cx} {pins : List (Addr × Obj)} {σ : St} {H : Hp} {s : Shared} {K : PySem.W.Frag}
inductive DpE (K : PySem.W.Frag) (H : Hp) : V → PyData → Prop
  | int (i : Int) : DpE K H (.int i) (.int i)
  | dE {a : Addr} : H a = some (.dK []) → DpE K H (.ref a) (.dict [])
inductive DpEs (K : PySem.W.Frag) (H : Hp) : List V → List PyData → Prop
  | nil : DpEs K H [] []
  | cons {v : V} {vs : List V} {d : PyData} {ds : List PyData} : DpE K H v d → DpEs K H vs ds → DpEs K H (v :: vs) (d :: ds)
inductive DpX (K : PySem.W.Frag) (H : Hp) : V → PyData → Prop
  | old {v : V} {d : PyData} : Dp K H v d → DpX K H v d
  | dE {a : Addr} : H a = some (.dK []) → DpX K H (.ref a) (.dict [])
  | dT {a : Addr} {c : List Int} {i : Int} : H a = some (.dT [(c.map Sum.inl, .int i)]) → DpX K H (.ref a) (.dict [(.tuple (c.map PyData.int), .int i)])
  | tup {a : Addr} {xs : List V} {ds : List PyData} : SqT K H a xs → DpEs K H xs ds → DpX K H (.ref a) (.tuple ds)
end
section
variable {X : Cx} {k v : Expr} {tk tv : TE} {pos : Pos}
end
end L2

namespace L2
open PySem PySem.Spec PyProof.Rows
section
variable {prog : Program} {w : World} {A : Around} {E : Value → Shared → Prop} {s : Shared}
end
section
variable {X : Cx} {K : PySem.W.Frag} {e : Expr} {te : TE} {p1 p2 p3 pos : Pos} {j : Nat}
end
end L2

namespace L2
open PySem PySem.Spec PyProof.Rows
section
variable {X : Cx} {K : PySem.W.Frag}
def kdOf : PyData → String
  | .none => "NoneType"
  | .bool _ => "bool"
  | .int _ => "int"
  | .str _ => "str"
  | .list _ => "list"
  | .tuple _ => "tuple"
  | .dict _ => "dict"
theorem cr_isAD (ek : X.K = K) : CallR X (.builtin "isinstance") (fun xs H Q => ∃ x T d b, xs = [x, .ty T] ∧ DpX K H x d ∧ PySem.W.kitOne K (.type (kdOf d)) (.type T) = some b ∧ Q (.bl b) H) := by
  subst ek
  intro pins s σ H xs us Q I r h
  obtain ⟨x, T, d, b, rfl, hd, e, q⟩ := h
  obtain ⟨u, v, rfl, ru, rt⟩ : ∃ u v, us = [u, v] ∧ RelV x u ∧ RelV (.ty T) v := by
    cases r with
    | cons r1 r2 => cases r2 with
      | cons r3 r4 => cases r4; exact ⟨_, _, rfl, r1, r3⟩
  cases (show v = Value.type T from rt)
  have tp : ∀ {a : Addr} {xs : List V}, x = .ref a → SqT X.K H a xs → PySem.W.kitOne X.K (.type "tuple") (.type T) = some b → wpAny (model X.prog X.w) X.A (call (.builtin "isinstance") [u, .type T]) (EP X pins σ Q) X.xe s := by
    rintro a xs rfl hs e
    cases (show u = Value.ref a from ru)
    obtain ⟨its, r1, p1, _⟩ := I.tuple hs
    obtain ⟨o, h1, h2, _⟩ := p1
    exact PySem.W.kia_one PySem.W.kitx_tuple I.kIn ⟨o, h1, h2⟩ e (fun z => nomatch z) fun tk => fin_bl (I.tok tk) q rfl
  cases hd with
  | old h =>
    cases h with
    | non => exact isinst_ok I ru TyOf.non e fun tk => fin_bl (I.tok tk) q rfl
    | bl c => exact isinst_ok I ru (TyOf.bl c) e fun tk => fin_bl (I.tok tk) q rfl
    | int i => exact isinst_ok I ru (TyOf.int i) e fun tk => fin_bl (I.tok tk) q rfl
    | str z => exact isinst_ok I ru (TyOf.str z) e fun tk => fin_bl (I.tok tk) q rfl
    | @lst a xs ds hs _ =>
      cases (show u = Value.ref a from ru)
      obtain ⟨its, r1, p1, _⟩ := I.list hs
      obtain ⟨o, h1, h2, _⟩ := p1.isList
      exact PySem.W.kia_one PySem.W.kitx_list I.kIn ⟨o, h1, h2⟩ e (fun z => nomatch z) fun tk => fin_bl (I.tok tk) q rfl
    | tup hs _ => exact tp rfl hs e
  | dE ha => exact isinst_ok I ru (TyOf.dK ha) e fun tk => fin_bl (I.tok tk) q rfl
  | dT ha => exact isinst_ok I ru (TyOf.dT ha) e fun tk => fin_bl (I.tok tk) q rfl
  | tup hs _ => exact tp rfl hs e
end
structure Shw (c : Nat) (d : PyData) : Prop where
  len : d.shown.length ≤ c
  can : d.showable = true
  dep : d.depth ≤ 60
theorem Shw.mono {c c' : Nat} {d : PyData} (h : Shw c d) (e : c ≤ c') : Shw c' d := ⟨Nat.le_trans h.len e, h.can, h.dep⟩
end L2

namespace L2
open PySem PySem.Spec PyProof.Rows
section
variable {P : Program} {w : World} {K : Type} [DecidableEq K] {HK : HeapKind P w K} {A : Around} {E : Value → Shared → Prop} {s : Shared}
end
section
variable {X : Cx} {K : PySem.W.Frag}
end
end L2

namespace L2
open PySem PySem.Spec PyProof.Rows
mutual
inductive DpZ (K : PySem.W.Frag) (H : Hp) : V → PyData → Prop
  | non : DpZ K H .non .none
  | bl (b : Bool) : DpZ K H (.bl b) (.bool b)
  | int (i : Int) : DpZ K H (.int i) (.int i)
  | str (x : Str) : DpZ K H (.str x) (.str x)
  | dE {a : Addr} : H a = some (.dK []) → DpZ K H (.ref a) (.dict [])
  | tup {a : Addr} {xs : List V} {ds : List PyData} : SqT K H a xs → DpZs K H xs ds → DpZ K H (.ref a) (.tuple ds)
inductive DpZs (K : PySem.W.Frag) (H : Hp) : List V → List PyData → Prop
  | nil : DpZs K H [] []
  | cons {v : V} {vs : List V} {d : PyData} {ds : List PyData} : DpZ K H v d → DpZs K H vs ds → DpZs K H (v :: vs) (d :: ds)
end
inductive DpY (K : PySem.W.Frag) (H : Hp) : V → PyData → Prop
  | old {v : V} {d : PyData} : Dp K H v d → DpY K H v d
  | dz {v : V} {d : PyData} : DpZ K H v d → DpY K H v d
  | dT {a : Addr} {c : List Int} {i : Int} : H a = some (.dT [(c.map Sum.inl, .int i)]) → DpY K H (.ref a) (.dict [(.tuple (c.map PyData.int), .int i)])
section
variable {X : Cx} {pins : List (Addr × Obj)} {σ : St} {H : Hp} {s : Shared} {K : PySem.W.Frag}
theorem cr_isADY (ek : X.K = K) : CallR X (.builtin "isinstance") (fun xs H Q => ∃ x T d b, xs = [x, .ty T] ∧ DpY K H x d ∧ PySem.W.kitOne K (.type (kdOf d)) (.type T) = some b ∧ Q (.bl b) H) := by
  intro pins s σ H xs us Q I r h
  obtain ⟨x, T, d, b, rfl, hd, e, q⟩ := h
  have go : ∀ h : DpX K H x d ∨ TyOfX K H x (.type (kdOf d)), wpAny (model X.prog X.w) X.A (call (.builtin "isinstance") us) (EP X pins σ Q) X.xe s := fun h => by
    rcases h with h | h
    · exact cr_isAD ek pins s σ H _ us Q I r ⟨x, T, d, b, rfl, h, e, q⟩
    · exact cr_isAX ek pins s σ H _ us Q I r ⟨x, T, _, b, rfl, h, e, q⟩
  cases hd with
  | old h => exact go (.inl (.old h))
  | dT ha => exact go (.inl (.dT ha))
  | dz h =>
    cases h with
    | non => exact go (.inl (.old .non))
    | bl b => exact go (.inl (.old (.bl b)))
    | int i => exact go (.inl (.old (.int i)))
    | str x => exact go (.inl (.old (.str x)))
    | dE ha => exact go (.inl (.dE ha))
    | tup ht _ => exact go (.inr (.inr ⟨rfl, _, _, rfl, ht⟩))
end
end L2

namespace L2
open PySem PySem.Spec PyProof.Rows
open Builtin
section
variable {X : Cx} {K : PySem.W.Frag}
end
end L2

namespace L2
open PySem PySem.Spec PyProof.Rows
section
variable {X : Cx} {K : PySem.W.Frag} {e : Expr} {es : List Expr} {te : TE} {t : TA} {p : Pos}
end
end L2

namespace L2
open PySem PySem.Spec PyProof.Rows
section
variable {X : Cx} {pins : List (Addr × Obj)} {σ : St} {H : Hp} {s : Shared} {a : Addr} {y v : V} {u r : Value} {A : Around} {E : Value → Shared → Prop}
end
section
variable {prog : Program} {w : World} {A : Around} {R : Result → Shared → Prop} {s : Shared} {kx vx t0 i0 t1 i1 : Expr} {ifs0 ifs1 : List Expr} {scope : Scope} {pos : Pos} {it : Value} {D : Addr} {env : Env}
end

section
variable {X : Cx}
end
end L2

namespace L2
open PySem PySem.Spec PyProof.Rows

structure FlyB (P : Program) (w : World) (outer : List Env) (H : Hp) (s : Shared) (H' : Hp) (B : Heap) (s' : Shared) : Prop where
  os : s'.os = s.os
  bare : AllBare s'.gens
  stays : B.StaysIn s'.heap
  hok : HOk P w H' B
  keep : ∀ b o, s.heap.get? b = some o → H b = none → b ∉ frs outer → B.get? b = some o
  there : ∀ b o, s.heap.get? b = some o → b ∉ frs outer → ∃ o', B.get? b = some o'
  slot : ∀ b o, s.heap.get? b = some o → H b = none → b ∈ frs outer → ∃ sl, s'.heap.get? b = some { o with slots := sl }
  nf : ∀ b ∈ frs outer, ∃ o, s'.heap.get? b = some o ∧ ∀ vs, o.data ≠ .fields vs
  free : ∀ b o, s.heap.get? b = some o → H b = none → H' b = none
  tups : ∀ b xs, H b = some (.tup xs) → H' b = some (.tup xs)
  frzs : ∀ b o u, H b = some (.frz o u) → H' b = some (.frz o u)
  tbls : ∀ b ps, H b = some (.tbl ps) → ∃ more, H' b = some (.tbl (ps ++ more))
section
variable {P : Program} {w : World} {outer : List Env} {H H' : Hp} {s s' : Shared} {B h2 : Heap}
theorem FlyB.un (F : FlyB P w outer H s H' B s') : Un (frs outer) [] H H' s.heap s'.heap where
  keep := fun b o e n hb _ => F.stays b o (F.keep b o e n hb)
  slot := fun b o e n hb _ => F.slot b o e n hb
  free := fun b o e n _ => F.free b o e n
  there := fun b o e _ => by
    by_cases hb : b ∈ frs outer
    · obtain ⟨o2, q2, _⟩ := F.nf b hb; exact ⟨o2, q2⟩
    · obtain ⟨o', q⟩ := F.there b o e hb; exact ⟨o', F.stays b o' q⟩
  tups := F.tups
  frzs := F.frzs
  tbls := F.tbls
theorem FlyB.new {e : Addr} {cls a0 : Value} (F : FlyB P w outer H s H' B s') (x : Heap.FlyingW B outer e cls a0 s'.heap) : H' e = none := by
  cases q : H' e with
  | none => rfl
  | some o =>
    have h1 := F.hok e o q
    have hz := x.2.1
    exfalso
    have h2 : ∃ ob, B.get? e = some ob := by
      cases o with
      | lst xs => obtain ⟨_, _, _, _, z⟩ := h1; exact ⟨_, z⟩
      | tup xs => obtain ⟨_, _, _, _, z, _⟩ := h1; exact ⟨_, z⟩
      | dK kvs => obtain ⟨_, _, _, _, _, _, _, z, _⟩ := h1; exact ⟨_, z⟩
      | dT kvs => obtain ⟨_, _, _, _, _, _, _, z, _⟩ := h1; exact ⟨_, z⟩
      | set S n => obtain ⟨_, _, _, _, z, _⟩ := h1; exact ⟨_, z⟩
      | ins C dx fs => obtain ⟨_, _, _, z, _⟩ := h1; exact ⟨_, z⟩
      | own y => obtain ⟨_, z⟩ := h1; exact ⟨_, z⟩
      | xd fs => obtain ⟨_, ⟨_, _, _, z, _⟩, _⟩ := h1; exact ⟨_, z⟩
      | rng lo hi => obtain ⟨_, _, _, z⟩ := h1; exact ⟨_, z⟩
      | frz ob u => obtain ⟨z, _⟩ := h1; exact ⟨_, z⟩
      | tbl ps => exact ⟨_, h1⟩
      | met f y => exact ⟨_, h1⟩
      | ext φ => obtain ⟨_, ⟨_, z⟩, _⟩ := h1; exact ⟨_, z⟩
      | cod ob => exact ⟨_, h1⟩
      | lam q => obtain ⟨_, z, _⟩ := h1; exact ⟨_, z⟩
    obtain ⟨ob, z⟩ := h2
    rw [hz] at z; cases z
end

def CXE (P : Program) (w : World) : CXT := fun outer H s E e s' => ∃ ae cls H' B a0, e = .ref ae ∧ FlyB P w outer H s H' B s' ∧ Heap.FlyingW B outer ae cls a0 s'.heap ∧ E cls none H'

section
variable {P : Program} {w : World} {K : PySem.W.Frag} {mg : Str → Option Value} {base : Heap} {N : List Str} {qual : Str} {scope : Scope} {f : Addr} {cd : Value} {A : Around} {outer : List Env} {s : Shared} {H : Hp} {E : XK}

end
end L2

namespace L2
open PySem PySem.Spec PyProof.Rows

theorem exc_of_in {K : PySem.W.Frag} {h : Heap} {C : Addr} {bmB : List Value} {newId : String} (X : K.In h) (q : PySem.W.excIn K C bmB newId = true) :
    ∃ bm N nm q bs hdct sn sub ab col dd k0 k1 k2 k3 k5 mN, h.get? C = some (excClassObj nm q C N bs bm hdct sn sub ab col dd k0 k1 k2 k3 k5 newId) ∧ h.Ns N mN ∧ mN "__init__" = none ∧ OwnTail h bmB bm := by
  revert q
  fun_cases PySem.W.excIn K C bmB newId with
  | case1 dd cd sl ho C2 bm k0 k1 k2 k3 n k5 hs hm =>
    intro q
    simp only [Bool.and_eq_true, beq_iff_eq, Bool.not_eq_true'] at q
    obtain ⟨⟨⟨⟨⟨q1, q2⟩, q3⟩, q4⟩, q5⟩, q6⟩ := q
    refine ⟨bm, cd.ns, cd.name, cd.qualname, cd.bases, cd.hasDict, cd.slotNames, cd.subclasses, cd.abstract, cd.collection, dd, k0, k1, k2, k3, k5, h.nsMap cd.ns, ?_, .of_isNs (PySem.W.isNs_of_in X q5), PySem.W.nsMap_none_of_in X q5 q6, PySem.W.tail_of_in X q4⟩
    rw [X _ _ ho]
    obtain ⟨l⟩ := sl
    simp only at hs
    subst q1 q2 hs
    cases cd
    simp only at hm q3
    subst hm q3
    rfl
  | case2 => intro q; simp_all
  | case3 => intro q; simp_all

section
variable {X : Cx} {E : XK} {x : Str} {C : Addr} {B newId initId : String} {bmB : List Value} {np cpos pos : Pos} {e : Expr} {es : List Expr} {t : TA}
end

def FlyX (X : Cx) (pins : List (Addr × Obj)) (σ : St) (H : Hp) (ae : Addr) (cls : Value) (s' : Shared) : Prop :=
  ∃ H1 s1 B a0, Inv X pins σ H1 s1 ∧ FlyB X.prog X.w X.stack H1 s1 H B s' ∧ Heap.FlyingW B X.stack ae cls a0 s'.heap
abbrev EX := Value → St → Hp → Prop
def XE (X : Cx) (pins : List (Addr × Obj)) (Z : EX) (e : Value) (s' : Shared) : Prop := ∃ ae cls σ' H', e = .ref ae ∧ FlyX X pins σ' H' ae cls s' ∧ Z cls σ' H'
abbrev TXS := EX → TS
abbrev TXE := EX → TE
def PX (X : Cx) (st : List Stmt) (t : TXS) : Prop := ∀ (pins : List (Addr × Obj)) (s : Shared) (σ : St) (H : Hp) (D : Ends) (Z : EX), Inv X pins σ H s → t Z D σ H → wpAny (model X.prog X.w) X.A (execs st X.env) (SP X pins D) (XE X pins Z) s
def PX1 (X : Cx) (st : Stmt) (t : TXS) : Prop := ∀ (pins : List (Addr × Obj)) (s : Shared) (σ : St) (H : Hp) (D : Ends) (Z : EX), Inv X pins σ H s → t Z D σ H → wpAny (model X.prog X.w) X.A (exec st X.env) (SP X pins D) (XE X pins Z) s
def PXE (X : Cx) (e : Expr) (t : TXE) : Prop := ∀ (pins : List (Addr × Obj)) (s : Shared) (σ : St) (H : Hp) (Q : VK) (Z : EX), Inv X pins σ H s → t Z σ H Q → wpAny (model X.prog X.w) X.A (eval e X.env) (EP X pins σ Q) (XE X pins Z) s
section
variable {X : Cx} {st : Stmt} {rest : List Stmt} {t u : TXS} {te : TXE} {e : Expr} {es : List Expr} {pos : Pos}
variable {k : Nat} {f : Addr} {fd : FuncData} {ps : List Str} {sp : Sp} {dvs : List V} {ds : List Value} {x : Str} {p : Pos} {ta : TA}
end

def excO (a : Addr) (cls : Value) : HO := .ext fun h => ∃ o vs, h.get? a = some o ∧ o.cls = cls ∧ o.data = .fields vs
section
variable {X : Cx} {pins : List (Addr × Obj)} {σ : St} {H : Hp} {s : Shared} {ae : Addr}
end

theorem ty_of {M : Model} {h : Heap} {a : Addr} {o : Obj} {cls : Value} (e : h.get? a = some o) (c : o.cls = cls) : PySem.W.Looks M h (typeOf (.ref a)) cls := by
  subst c
  exact (PySem.W.Looks.ld e).andThen .now
end L2

namespace L2
open PySem PySem.Spec PyProof.Rows

structure ExcCls (K : PySem.W.Frag) (C : Addr) : Prop where
  exc : ∃ newId, PySem.W.excIn K C [.type "ValueError", .type "Exception", .type "BaseException", .type "object"] newId = true
  ga : PySem.W.findIn K (.ref C) "__getattribute__" = some (some (.builtin "BaseException.__getattribute__"))
  gh : PySem.W.findIn K (.ref C) "__getattr__" = some none
  cl : PySem.W.findIn K (.ref C) "__class__" = some (some (.builtin "object.__class__"))
section
variable {prog : Program} {w : World} {A : Around} {E : Value → Shared → Prop} {h : Heap} {g : Array GenState} {d : Drawn} {t : Nat} {os : OsState} {a : Addr} {o : Obj} {K : PySem.W.Frag} {C : Addr} {vs : Array Value}
theorem xc_get {R : Result → Shared → Prop} (X : K.In h) (Z : ExcCls K C) (hx : h.get? a = some o) (hc : o.cls = .ref C) (hq : R (.ok (.ret (.ref C))) ⟨h, g, d, t, os⟩) :
    codeAny (model prog w) A (.call (.builtin "getset_descriptor.__get__") ⟨[.builtin "object.__class__", .ref a, .ref C], []⟩) R ⟨h, g, d, t, os⟩ := by
  obtain ⟨newId, hn⟩ := Z.exc
  obtain ⟨bm, N, nm, q, bs, hdct, sn, sub, ab, col, dd, k0, k1, k2, k3, k5, mN, hC, hN, hni, T⟩ := exc_of_in X hn
  have hT5 : (⟨h, g, d, t, os⟩ : Shared).TypeIs (.builtin "object.__class__") "getset_descriptor" := F.typeOf_object_class
  have hcB : (Value.ref C :: bm).contains (.type (".".intercalate ("object.__class__".cutAt '.').dropLast)) = true := by
    rw [F.owner_object_class, List.contains_cons, T.hasType (b := true) (by rfl)]; rfl
  refine codeAny_call_builtin F.slot_gs_get.plain F.entry_gs_get (F.slot_gs_get.check _ _ _ _ _ _ _ _ hT5 (F.args_gs_get _ _ _) ?_)
  repeat (any_goals (first | assumption | (with_reducible refine wpAny_loadPart_at hx ?_; rw [hc]) | (with_reducible refine wpAny_isSubtype_exc hC ?_; rw [hcB]) | wp_step))
  refine ⟨Code.quiet_builtin _ (by decide +kernel), codeAny_builtin F.entry_object_class ?_⟩
  repeat (any_goals (first | assumption | (with_reducible refine wpAny_loadPart_at hx ?_; rw [hc]) | wp_step))

theorem xc_check {M : Model} {nameV : Value} {Q : Unit → Shared → Prop} (X : K.In h) (Z : ExcCls K C) (hx : h.get? a = some o) (hc : o.cls = .ref C) (hq : Q () ⟨h, g, d, t, os⟩) :
    wpAny M A (checkBuiltinCall "BaseException.__getattribute__" ⟨[.ref a, nameV], []⟩) Q E ⟨h, g, d, t, os⟩ := by
  obtain ⟨newId, hn⟩ := Z.exc
  obtain ⟨bm, N, nm, q, bs, hdct, sn, sub, ab, col, dd, k0, k1, k2, k3, k5, mN, hC, hN, hni, T⟩ := exc_of_in X hn
  have hk : builtinKind "BaseException.__getattribute__" = some .slot := by decide +kernel
  have hsplit : splitId "BaseException.__getattribute__" = some ("BaseException", "__getattribute__") := by decide +kernel
  have hcB : (Value.ref C :: bm).contains (.type "BaseException") = true := by rw [List.contains_cons, T.hasType (b := true) (by rfl)]; rfl
  have ha := F.args_bexc_ga (.ref a) nameV
  simp only [checkBuiltinCall, hk, hsplit]
  refine wpAny_bind ?_
  unfold isInstance
  repeat (first | (with_reducible refine wpAny_loadPart_at hx ?_; rw [hc]) | (with_reducible refine wpAny_isSubtype_exc hC ?_; rw [hcB]) | wp_step)
  exact hq

theorem xc_entry {tk : Tok} {Q : Fin → Shared → Prop} (X : K.In h) (Z : ExcCls K C) (hx : h.get? a = some o) (hc : o.cls = .ref C) (hq : Q (.done (.ret (.ref C))) ⟨h, g, d, t, os⟩) :
    wpAny (model prog w) A (Builtin.«object.__getattribute__» ⟨[.ref a, .str "__class__" tk], []⟩) Q E ⟨h, g, d, t, os⟩ := by
  have hT5 : (⟨h, g, d, t, os⟩ : Shared).TypeIs (.builtin "object.__class__") "getset_descriptor" := F.typeOf_object_class
  have f5 := F.typeOf_object_class
  have f6 := F.slot_gs_get.lookup
  have f7 := F.slot_gs_set.lookup
  have L1 := PySem.W.looks_findIn (M := model prog w) X Z.cl
  repeat (any_goals (first | assumption | (with_reducible refine wpAny_loadPart_at hx ?_; rw [hc]) | with_reducible refine L1.at ?_ | wp_step))
  refine xc_get X Z hx hc ?_
  repeat (any_goals (first | assumption | wp_step))

theorem xc_call {tk : Tok} {R : Result → Shared → Prop} (X : K.In h) (Z : ExcCls K C) (hx : h.get? a = some o) (hc : o.cls = .ref C) (hq : R (.ok (.ret (.ref C))) ⟨h, g, d, t, os⟩) :
    codeAny (model prog w) A (.call (.builtin "BaseException.__getattribute__") ⟨[.ref a, .str "__class__" tk], []⟩) R ⟨h, g, d, t, os⟩ :=
  codeAny_call_builtin F.excAttr_ValueError.ga.plain F.entry_bexc_ga (xc_check X Z hx hc (xc_entry X Z hx hc hq))

theorem xc_by {tk : Tok} {fill : Bool} {Q : Value → Shared → Prop} (X : K.In h) (Z : ExcCls K C) (hx : h.get? a = some o) (hc : o.cls = .ref C) (hq : Q (.ref C) ⟨h, g, d, t, os⟩) :
    wpAny (model prog w) A (getAttrBy (.ref a) (.str "__class__" tk) fill) Q E ⟨h, g, d, t, os⟩ := by
  have f3 := F.excAttr_ValueError.ga.bind (.ref a)
  have hx2 : (Value.builtin "BaseException.__getattribute__" == Value.builtin "object.__getattribute__") = false := by decide +kernel
  have hx1 : (onTheHeap (Value.ref C) && Value.builtin "BaseException.__getattribute__" == Value.builtin "object.__getattribute__") = false := by rw [hx2]; rfl
  have L1 := PySem.W.looks_findIn (M := model prog w) X Z.ga
  have L2 := PySem.W.looks_findIn (M := model prog w) X Z.gh
  repeat (any_goals (first | assumption | (with_reducible refine wpAny_loadPart_at hx ?_; rw [hc]) | with_reducible refine L1.at ?_ | with_reducible refine L2.at ?_ | wp_step))
  refine xc_call X Z hx hc ?_
  repeat (any_goals (first | assumption | wp_step))

theorem xc_attr {Q : Option Value → Shared → Prop} (X : K.In h) (Z : ExcCls K C) (hx : h.get? a = some o) (hc : o.cls = .ref C) (hq : Q (some (.ref C)) ⟨h, g, d, t + 1, os⟩) :
    wpAny (model prog w) A (getAttr? (.ref a) "__class__") Q E ⟨h, g, d, t, os⟩ := by
  unfold getAttr? getAttrBy?
  repeat (any_goals (first | assumption | with_reducible apply xc_by X Z hx hc | wp_step))
end
end L2

namespace L2
open PySem PySem.Spec PyProof.Rows

def ExcAt (a C : Addr) (h : Heap) : Prop := ∃ o vs, h.get? a = some o ∧ o.cls = .ref C ∧ o.data = .fields vs
theorem kitx_exc {K : PySem.W.Frag} {a C : Addr} (Z : ExcCls K C) : PySem.W.KitX K (.ref a) (.ref C) (ExcAt a C) where
  ty := fun M h _ ⟨o, _, h1, h2, _⟩ => ty_of h1 h2
  it := fun M h X _ => by
    obtain ⟨newId, hn⟩ := Z.exc
    obtain ⟨bm, N, nm, q, bs, hdct, sn, sub, ab, col, dd, k0, k1, k2, k3, k5, mN, hC, hN, hni, T⟩ := exc_of_in X hn
    intro A' Q' E' s' k q
    unfold isType loadHead
    exact wpAny_bind (wpAny_loadPart (k _ _ hC) (wpAny_pure q))
  ne := fun h tp dd its n sl X htp => by
    obtain ⟨newId, hn⟩ := Z.exc
    obtain ⟨bm, N, nm, q, bs, hdct, sn, sub, ab, col, dd, k0, k1, k2, k3, k5, mN, hC, hN, hni, T⟩ := exc_of_in X hn
    refine Bool.eq_false_iff.mpr fun q => ?_
    have e : C = tp := Value.ref.inj (beq_iff_eq.mp q)
    subst e
    have z := congrArg Obj.cls (Option.some.inj (hC.symm.trans htp))
    have z : Value.type "type" = Value.type "tuple" := z
    exact absurd z (by decide)
  ca := fun {_ _ _ _ _ s} X p k => by
    obtain ⟨h, g, d, t, os⟩ := s
    obtain ⟨o, _, h1, h2, _⟩ := p
    exact xc_attr X Z h1 h2 k
inductive Caught (K : PySem.W.Frag) (H : Hp) : V → Value → Prop where
  | non : Caught K H .non (.type "NoneType")
  | exc {a C : Addr} (e : H a = some (excO a (.ref C))) (Z : ExcCls K C) : Caught K H (.ref a) (.ref C)
section
variable {X : Cx} {K : PySem.W.Frag}
theorem valsRefsX : ∀ {l : List Addr} {us : List Value}, Vals (l.map V.ref) us → us = l.map Value.ref
  | [], _, .nil => rfl
  | a :: l, _, .cons r t => by rw [show _ = Value.ref a from r, valsRefsX t]; rfl
theorem cr_isC (ek : X.K = K) : CallR X (.builtin "isinstance") (fun xs H Q => ∃ x t c v b, xs = [x, c] ∧ Caught K H x t ∧ ((∃ D, c = V.ref D ∧ v = Value.ref D) ∨ (∃ T, c = V.ty T ∧ v = Value.type T)) ∧ PySem.W.kitOne K t v = some b ∧ Q (.bl b) H) := by
  subst ek
  intro pins s σ H xs us Q I r h
  obtain ⟨x, t, c, v, b, rfl, ty, hc, e, q⟩ := h
  obtain ⟨u, y, rfl, ru, rt⟩ : ∃ u y, us = [u, y] ∧ RelV x u ∧ RelV c y := by
    cases r with
    | cons r1 r2 => cases r2 with
      | cons r3 r4 => cases r4; exact ⟨_, _, rfl, r1, r3⟩
  have hy : y = v := by
    rcases hc with ⟨D, rfl, rfl⟩ | ⟨T, rfl, rfl⟩
    · exact rt
    · exact rt
  subst hy
  cases ty with
  | non => cases (show u = Value.none from ru); exact PySem.W.kia_one PySem.W.kitx_none I.kIn True.intro e (fun z => nomatch z) fun tk => fin_bl (I.tok tk) q rfl
  | @exc a C ea Z =>
    cases (show u = Value.ref a from ru)
    obtain ⟨p, _⟩ := (show ObjOk X.prog X.w H s.heap a (excO a (.ref C)) from I.hok a _ ea)
    exact PySem.W.kia_one (kitx_exc Z) I.kIn p e (fun z => nomatch z) fun tk => fin_bl (I.tok tk) q rfl
theorem cr_isCT (ek : X.K = K) : CallR X (.builtin "isinstance") (fun xs H Q => ∃ x t tp, ∃ (Ds : List Addr) (b : Bool), xs = [x, .ref tp] ∧ Caught K H x t ∧ H tp = some (.tup (Ds.map V.ref)) ∧ PySem.W.kitAny K t (Ds.map Value.ref) = some b ∧ Q (.bl b) H) := by
  subst ek
  intro pins s σ H xs us Q I r h
  obtain ⟨x, t, tp, Ds, b, rfl, ty, ht, e, q⟩ := h
  obtain ⟨u, y, rfl, ru, rt⟩ : ∃ u y, us = [u, y] ∧ RelV x u ∧ RelV (.ref tp) y := by
    cases r with
    | cons r1 r2 => cases r2 with
      | cons r3 r4 => cases r4; exact ⟨_, _, rfl, r1, r3⟩
  cases (show y = Value.ref tp from rt)
  obtain ⟨_, its, rv, o, ho, hc, n, hd⟩ := (show ObjOk X.prog X.w H s.heap tp (.tup (Ds.map V.ref)) from I.hok tp _ ht)
  have hi := valsRefsX rv
  subst hi
  obtain ⟨oc, od, oda, osl⟩ := o
  cases (show oc = _ from hc)
  cases (show oda = _ from hd)
  cases ty with
  | non => cases (show u = Value.none from ru); exact PySem.W.kia_tup PySem.W.kitx_none I.kIn True.intro ho e (fun z => nomatch z) fun tk => fin_bl (I.tok tk) q rfl
  | @exc a C ea Z =>
    cases (show u = Value.ref a from ru)
    obtain ⟨p, _⟩ := (show ObjOk X.prog X.w H s.heap a (excO a (.ref C)) from I.hok a _ ea)
    exact PySem.W.kia_tup (kitx_exc Z) I.kIn p ho e (fun z => nomatch z) fun tk => fin_bl (I.tok tk) q rfl
end
end L2

namespace L2
open PySem PySem.Spec PyProof.Rows

section
variable {X : Cx} {pins : List (Addr × Obj)} {σ : St} {H : Hp} {s : Shared}
end

structure CloOk (scope : Scope) (N : List Str) (vs : List V) (cl : List (Str × Addr)) (h : Heap) (H : Hp) : Prop where
  inj : ∀ x y c, cl.lookup x = some c → cl.lookup y = some c → x = y
  cell : ∀ x c, cl.lookup x = some c → (∃ v, h.IsCell c v) ∧ H c = none
  val : ∀ (i : Nat) (x : Str) (v : V), N[i]? = some x → vs[i]? = some v → scope.names.lookup x = some .free ∧ ∃ c u, cl.lookup x = some c ∧ RelV v u ∧ h.IsCell c (some u)
  len : vs.length = N.length
  has : ∀ x, scope.names.lookup x = some .free → ∃ c, cl.lookup x = some c
structure LamScope (scope : Scope) : Prop where
  kind : scope.kind = .function
  co : scope.isCoroutine = false
  gen : scope.isGenerator = false
  nocell : ∀ x ∈ scope.names, x.2 ≠ .cell

section
variable {P : Program} {w : World} {K : PySem.W.Frag} {mg : Str → Option Value} {base : Heap} {N : List Str} {qual : Str} {scope : Scope} {f : Addr} {cd : Value} {cl : List (Str × Addr)} {A : Around} {outer : List Env} {s : Shared} {H : Hp} {E : XK}
end
structure Clo (P : Program) (w : World) (K : PySem.W.Frag) (mg : Str → Option Value) (base : Heap) (k : Nat) (outer0 : List Env) (s0 : Shared) (H0 : Hp) (f : Addr) (spc : VK → XK → Hp → Prop) : Prop where
  fn : ∃ oc od fd sl, s0.heap.get? f = some ⟨oc, od, .func fd, sl⟩
  nf : H0 f = none
  ff : f ∉ frs outer0
  run : ∀ (A : Around) (outer : List Env) (s : Shared) (H : Hp) (Q : VK) (E : XK), Same H0 H → (∀ b o, s0.heap.get? b = some o → H0 b = none → b ∉ frs outer0 → s.heap.get? b = some o ∧ H b = none) → Room k A → Env0 P w K mg base A outer s H → spc Q E H →
    codeAny (model P w) A (.call (.ref f) ⟨[], []⟩) (CR (CXE P w) outer P w H s Q E) s
section
variable {X : Cx} {k : Nat} {f : Addr} {spc : VK → XK → Hp → Prop} {x : Str} {p pos : Pos} {tv : TE}
end
end L2

namespace L2
open PySem PySem.Spec PyProof.Rows

structure RunS (P : Program) (w : World) (K : PySem.W.Frag) (mg : Str → Option Value) (base : Heap) (CX : CXT) (k : Nat) (f : Addr) (fd : FuncData) (ps : List Str) (sp : List Env → Shared → Sp) : Prop where
  len : ∀ outer s vs H Q E, sp outer s vs H Q E → vs.length = ps.length
  run : ∀ (A : Around) (outer : List Env) (s : Shared) (H : Hp) (args : Args) (us : List Value) (vs : List V) (Q : VK) (E : XK), Room k A → Env0 P w K mg base A outer s H → BindsTo s fd args (ps.zip us) → Vals vs us → sp outer s vs H Q E →
    codeAny (model P w) A (.call (.ref f) args) (CR CX outer P w H s Q E) s
section
variable {P : Program} {w : World} {K : PySem.W.Frag} {mg : Str → Option Value} {base : Heap}
structure CalX (P : Program) (w : World) (K : PySem.W.Frag) (mg : Str → Option Value) (base : Heap) (k : Nat) (x : Str) (ps : List Str) (sp : Sp) : Prop where
  ex : ∃ (f : Addr) (fd : FuncData), FnOk P w K mg base (CXE P w) k f fd ps sp ∧ mg x = some (.ref f) ∧ PySem.W.keepIn K (.ref f) = true ∧ Binds K fd ps []
structure CalS (P : Program) (w : World) (K : PySem.W.Frag) (mg : Str → Option Value) (base : Heap) (k : Nat) (x : Str) (ps : List Str) (sp : List Env → Shared → Sp) : Prop where
  ex : ∃ (f : Addr) (fd : FuncData), RunS P w K mg base CX0 k f fd ps sp ∧ mg x = some (.ref f) ∧ PySem.W.keepIn K (.ref f) = true ∧ Binds K fd ps []
end
section
variable {X : Cx} {k : Nat} {ps : List Str} {sp : Sp} {E : XK} {x : Str} {p pos : Pos} {e : Expr} {es : List Expr} {t : TA}
end
structure LamOwn (N : List Str) (sc scope : Scope) (own : List Nat) (Nl : List Str) : Prop where
  ix : own.map (fun i => N[i]?) = Nl.map some
  cell : ∀ x ∈ Nl, sc.names.lookup x = some .cell
  free : ∀ x ∈ Nl, scope.names.lookup x = some .free
  all : ∀ p ∈ scope.names, p.2 = .free → p.1 ∈ Nl
section
variable {X : Cx} {k kc : Nat} {pn : Str} {sp : List Env → Shared → Sp} {x q : Str} {p pos lpos : Pos} {c Pt : Addr} {params : Arguments} {body : Expr} {scope : Scope} {own : List Nat} {Nl : List Str} {tb : XK → TE}
end
end L2

namespace L2
open PySem PySem.Spec PyProof.Rows
section
variable {prog : Program} {w : World} {d : Addr} {o : Obj} {es : Array DictEntry} {ep : Nat}
theorem kdl_any (lo : (d == sysModules) = false) (hc : o.ExactDict) (hd : o.data = .dict es ep) : PySem.W.KdlSrc prog w "dict" d d es.size (fun i v => ∃ en, es[i]? = some en ∧ v = en.key) (fun h => h.get? d = some o) where
  type := fun _ e => ⟨o, e, hc.1⟩
  there := fun _ e => ⟨Heap.lt_size e, Heap.lt_size e⟩
  keep := fun _ _ e k => k d (.inl rfl) o e
  notList := by decide
  notTuple := by decide
  hint := fun _ _ _ _ e hq => PySem.W.kdl_hint_dict ⟨o, e, hc.1⟩ hq
  iter := fun A s hh e => by
    refine ⟨_, fun i h => h.IsKeyIter s.heap.objs.size d i es.size ep ∧ h.get? d = some o, fun _ _ hq => iter_keys lo e hc hd hq, ?_, ⟨⟨_, Heap.get?_push_size _ rfl, rfl, rfl⟩, Heap.get?_push_of_some _ e⟩⟩
    have ne : d ≠ s.heap.objs.size := Nat.ne_of_lt (Heap.lt_size e)
    refine ⟨fun b hb => by simp at hb; simp [hb], fun i h h' st k => ⟨st.1.at fun oi q => k _ (by simp) oi q, k d (by simp) o st.2⟩, fun i s2 Q E hi st hQ => ?_, fun s2 Q E st hQ => ?_, fun i s2 Q E st hQ => wpAny_pyIter_keyiter st.1 hQ⟩
    · obtain ⟨en, hen⟩ : ∃ en, es[i]? = some en := ⟨es[i], by simp [hi]⟩
      refine next_key_item st.1 st.2 hd rfl hen fun h' st' sb => ?_
      exact hQ en.key h' s2.toks ⟨en, hen, rfl⟩ ⟨st', (sb.2 d ne).trans st.2⟩ fun b o hb q => (sb.2 b (fun z => hb (by simp [z]))).trans q
    · exact next_key_end hh st.1 st.2 hd rfl (Nat.le_refl _) fun h' eb => hQ h' s2.toks fun b o hb q => eb b o (fun z => hb (by simp [z])) q
end
section
variable {X : Cx}
end
section
variable {K : PySem.W.Frag} {a : Addr} {xs : List V} {g g1 : TG} {tt tt1 : TT} {tk tv : TE} {wi1 : TI} {vs vs1 : List Nat} {σ σ2 : St} {H1 H4 : Hp} {D : Addr} {Qd Nx : Hp → Prop}
end
end L2

namespace L2
open PySem PySem.Spec PyProof.Rows
section
variable {X : Cx} {K : PySem.W.Frag}
end
def LstK (K : PySem.W.Frag) (H : Hp) (zs : List (Addr × List Int)) : Prop := ∀ z ∈ zs, SqL K H z.1 (z.2.map V.int)
theorem LstK.same {K : PySem.W.Frag} {H H' : Hp} {zs : List (Addr × List Int)} (h : LstK K H zs) (s : Same H H') : LstK K H' zs := fun z hz => s.seq (h z hz)
end L2

namespace L2
open PySem PySem.Spec PyProof.Rows
structure WordAt (K : PySem.W.Frag) (C : Addr) (cs os : List Addr) (j : Nat) : Prop where
  exc : ExcCls K C
  lt : j < cs.length
  one : ∀ i D, cs[i]? = some D → PySem.W.kitOne K (.ref C) (.ref D) = some (decide (i = j))
  oth : PySem.W.kitAny K (.ref C) (os.map Value.ref) = some false
  ve : PySem.W.kitOne K (.ref C) (.type "ValueError") = some true
theorem cut_upto {l : List V} {k : Nat} : cutV l none (some (k : Int)) = l.take k := by
  unfold cutV
  rw [HT.sIx_none, HT.sIx_nat, List.drop_zero, Nat.sub_zero]
  by_cases h : k ≤ l.length
  · rw [Nat.min_eq_left h]
  · rw [Nat.min_eq_right (by omega), List.take_of_length_le (Nat.le_refl _), List.take_of_length_le (by omega)]
end L2

set_option maxHeartbeats 4000000
namespace L2
open PySem PySem.Spec PyProof.Rows
structure QE (X : Cx) (e : Expr) (t : TE) : Prop where
  run : PE X e t
theorem eq_QE : @QE = @PE := by
  funext x0 x1 x2
  exact propext ⟨fun h => h.run, fun h => ⟨h⟩⟩
structure QT (X : Cx) (e : Expr) (t : TT) : Prop where
  run : PT X e t
theorem eq_QT : @QT = @PT := by
  funext x0 x1 x2
  exact propext ⟨fun h => h.run, fun h => ⟨h⟩⟩
structure QW (X : Cx) (e : Expr) (t : TT) : Prop where
  run : PW X e t
theorem eq_QW : @QW = @PW := by
  funext x0 x1 x2
  exact propext ⟨fun h => h.run, fun h => ⟨h⟩⟩
structure QA (X : Cx) (es : List Expr) (t : TA) : Prop where
  run : PA X es t
theorem eq_QA : @QA = @PA := by
  funext x0 x1 x2
  exact propext ⟨fun h => h.run, fun h => ⟨h⟩⟩
structure QS (X : Cx) (st : Stmt) (t : TS) : Prop where
  run : PS X st t
theorem eq_QS : @QS = @PS := by
  funext x0 x1 x2
  exact propext ⟨fun h => h.run, fun h => ⟨h⟩⟩
structure QSs (X : Cx) (st : List Stmt) (t : TS) : Prop where
  run : PSs X st t
theorem eq_QSs : @QSs = @PSs := by
  funext x0 x1 x2
  exact propext ⟨fun h => h.run, fun h => ⟨h⟩⟩
structure QC (X : Cx) (op : CmpOp) (a b : Expr) (t : TE) : Prop where
  run : PC X op a b t
theorem eq_QC : @QC = @PC := by
  funext x0 x1 x2 x3 x4
  exact propext ⟨fun h => h.run, fun h => ⟨h⟩⟩
structure QG (X : Cx) (target : Expr) (t : TG) : Prop where
  run : PG X target t
theorem eq_QG : @QG = @PG := by
  funext x0 x1 x2
  exact propext ⟨fun h => h.run, fun h => ⟨h⟩⟩
structure QGs (X : Cx) (ts : List Expr) (t : TGs) : Prop where
  run : PGs X ts t
theorem eq_QGs : @QGs = @PGs := by
  funext x0 x1 x2
  exact propext ⟨fun h => h.run, fun h => ⟨h⟩⟩
structure QSet (X : Cx) (t : TSet) : Prop where
  run : PSet X t
theorem eq_QSet : @QSet = @PSet := by
  funext x0 x1
  exact propext ⟨fun h => h.run, fun h => ⟨h⟩⟩
structure QIp (X : Cx) (op : Operator) (t : TIp) : Prop where
  run : PIp X op t
theorem eq_QIp : @QIp = @PIp := by
  funext x0 x1 x2
  exact propext ⟨fun h => h.run, fun h => ⟨h⟩⟩
structure QGet (X : Cx) (t : V → V → Hp → VK → Prop) : Prop where
  run : PGet X t
theorem eq_QGet : @QGet = @PGet := by
  funext x0 x1
  exact propext ⟨fun h => h.run, fun h => ⟨h⟩⟩
structure QI (X : Cx) (tg iter : Expr) (wi : TI) : Prop where
  run : PI X tg iter wi
theorem eq_QI : @QI = @PI := by
  funext x0 x1 x2 x3
  exact propext ⟨fun h => h.run, fun h => ⟨h⟩⟩
structure QK (X : Cx) (kws : List Keyword) (t : TA) : Prop where
  run : PK X kws t
theorem eq_QK : @QK = @PK := by
  funext x0 x1 x2
  exact propext ⟨fun h => h.run, fun h => ⟨h⟩⟩
structure QO (X : Cx) (e : Option Expr) (t : TO) : Prop where
  run : PO X e t
theorem eq_QO : @QO = @PO := by
  funext x0 x1 x2
  exact propext ⟨fun h => h.run, fun h => ⟨h⟩⟩
structure QTs (X : Cx) (ifs : List Expr) (t : TT) : Prop where
  run : PTs X ifs t
theorem eq_QTs : @QTs = @PTs := by
  funext x0 x1 x2
  exact propext ⟨fun h => h.run, fun h => ⟨h⟩⟩
structure QPs (X : Cx) (pos : Pos) (keys : List (Option Expr)) (values : List Expr) (trs : List (TE × TE)) : Prop where
  run : PPs X pos keys values trs
theorem eq_QPs : @QPs = @PPs := by
  funext x0 x1 x2 x3 x4
  exact propext ⟨fun h => h.run, fun h => ⟨h⟩⟩
structure QX (X : Cx) (st : List Stmt) (t : TXS) : Prop where
  run : PX X st t
theorem eq_QX : @QX = @PX := by
  funext x0 x1 x2
  exact propext ⟨fun h => h.run, fun h => ⟨h⟩⟩
structure QX1 (X : Cx) (st : Stmt) (t : TXS) : Prop where
  run : PX1 X st t
theorem eq_QX1 : @QX1 = @PX1 := by
  funext x0 x1 x2
  exact propext ⟨fun h => h.run, fun h => ⟨h⟩⟩
structure QXE (X : Cx) (e : Expr) (t : TXE) : Prop where
  run : PXE X e t
theorem eq_QXE : @QXE = @PXE := by
  funext x0 x1 x2
  exact propext ⟨fun h => h.run, fun h => ⟨h⟩⟩
section
theorem q_PW_pt {X : Cx} {e : Expr} {t : TT} (h : QW X e t) :
    QT X e t := by
  simp only [eq_QE, eq_QT, eq_QW, eq_QA, eq_QS, eq_QSs, eq_QC, eq_QG, eq_QGs, eq_QSet, eq_QIp, eq_QGet, eq_QI, eq_QK, eq_QO, eq_QTs, eq_QPs, eq_QX, eq_QX1, eq_QXE] at *
  exact PW.pt h
end
section
variable {X : Cx} {pos : Pos}
end
section
variable {X : Cx} {e : Expr} {es : List Expr} {te : TE} {t : TA} {pos : Pos}
theorem q_pa_cons (ha : QE X e te) (hr : QA X es t) (hs : starEach (e :: es) X.env = (false, eval e X.env) :: starEach es X.env := by rfl) :
    QA X (e :: es) (tCons te t) := by
  simp only [eq_QE, eq_QT, eq_QW, eq_QA, eq_QS, eq_QSs, eq_QC, eq_QG, eq_QGs, eq_QSet, eq_QIp, eq_QGet, eq_QI, eq_QK, eq_QO, eq_QTs, eq_QPs, eq_QX, eq_QX1, eq_QXE] at *
  exact pa_cons ha hr hs
end
section
variable {X : Cx} {e : Expr} {es : List Expr} {te : TE} {t : TA}
end
section
variable {X : Cx} {e : Expr} {es : List Expr} {te : TE} {t : TA}
end
section
variable {X : Cx} {e : Expr} {es : List Expr} {te : TE} {t : TA}
end
section
variable {X : Cx} {e : Expr} {es : List Expr} {te : TE} {t : TA}
end
section
variable {X : Cx} {e : Expr} {es : List Expr} {te : TE} {t : TA}
end
section
variable {X : Cx} {e : Expr} {es : List Expr} {te : TE} {t : TA}
end
section
variable {X : Cx} {e : Expr} {es : List Expr} {te : TE} {t : TA}
end
section
variable {X : Cx} {e : Expr} {es : List Expr} {te : TE} {t : TA}
end
section
variable {X : Cx} {e : Expr} {es : List Expr} {te : TE} {t : TA} {pos : Pos}
theorem q_pa_nil  :
    QA X [] tNil := by
  simp only [eq_QE, eq_QT, eq_QW, eq_QA, eq_QS, eq_QSs, eq_QC, eq_QG, eq_QGs, eq_QSet, eq_QIp, eq_QGet, eq_QI, eq_QK, eq_QO, eq_QTs, eq_QPs, eq_QX, eq_QX1, eq_QXE] at *
  exact pa_nil 
end
section
variable {X : Cx} {x : Str} {p pos pos' : Pos} {c P : Addr} {ps : Array Value} {wi : TI} {g : TG} {tt : TT} {te : TE} {elt tg iter : Expr} {ifs : List Expr} {scope : Scope} {own : List (Str × Nat)} {k : Nat}
theorem q_pe_all (L : GenPl X k c P scope own) (hgl : Gl X "all") (hm : X.mg "all" = none) (hi : QI X tg iter wi) (hg : ∀ (A : Around) (s : Shared) (H : Hp) (C : Addr) (code : Value) (fp : List Addr), QG (gcx X A s H (genvOf X scope C code) fp) tg g) (ht : ∀ (A : Around) (s : Shared) (H : Hp) (C : Addr) (code : Value) (fp : List Addr), Room k A → QTs (gcx X A s H (genvOf X scope C code) fp) ifs tt) (he : ∀ (A : Around) (s : Shared) (H : Hp) (C : Addr) (code : Value) (fp : List Addr), Room k A → QE (gcx X A s H (genvOf X scope C code) fp) elt te) (hs : ∀ x, genFold iter X.env x = pure x := by intro _; rfl) (hst : starEach [.GeneratorExp elt [⟨tg, iter, ifs, 0⟩] scope pos] X.env = [(false, eval (.GeneratorExp elt [⟨tg, iter, ifs, 0⟩] scope pos) X.env)] := by rfl) :
    QE X (.Call (.Name "all" p) [.GeneratorExp elt [⟨tg, iter, ifs, 0⟩] scope pos] [] pos') (tGC P ps wi g tt te (own.map (·.2)) () sAll eAll) := by
  simp only [eq_QE, eq_QT, eq_QW, eq_QA, eq_QS, eq_QSs, eq_QC, eq_QG, eq_QGs, eq_QSet, eq_QIp, eq_QGet, eq_QI, eq_QK, eq_QO, eq_QTs, eq_QPs, eq_QX, eq_QX1, eq_QXE] at *
  exact pe_all L hgl hm hi hg ht he hs hst
end
section
variable {X : Cx}
variable {a b : Expr} {ta tb : TE} {pos : Pos}
variable {tA tB' : TT} {rest : List Expr}
end
section
variable {X : Cx} {x : Str} {p pos pos' : Pos} {c P : Addr} {ps : Array Value} {wi : TI} {g : TG} {tt : TT} {te : TE} {elt tg iter : Expr} {ifs : List Expr} {scope : Scope} {own : List (Str × Nat)} {k : Nat}
theorem q_pe_any (L : GenPl X k c P scope own) (hgl : Gl X "any") (hm : X.mg "any" = none) (hi : QI X tg iter wi) (hg : ∀ (A : Around) (s : Shared) (H : Hp) (C : Addr) (code : Value) (fp : List Addr), QG (gcx X A s H (genvOf X scope C code) fp) tg g) (ht : ∀ (A : Around) (s : Shared) (H : Hp) (C : Addr) (code : Value) (fp : List Addr), Room k A → QTs (gcx X A s H (genvOf X scope C code) fp) ifs tt) (he : ∀ (A : Around) (s : Shared) (H : Hp) (C : Addr) (code : Value) (fp : List Addr), Room k A → QE (gcx X A s H (genvOf X scope C code) fp) elt te) (hs : ∀ x, genFold iter X.env x = pure x := by intro _; rfl) (hst : starEach [.GeneratorExp elt [⟨tg, iter, ifs, 0⟩] scope pos] X.env = [(false, eval (.GeneratorExp elt [⟨tg, iter, ifs, 0⟩] scope pos) X.env)] := by rfl) :
    QE X (.Call (.Name "any" p) [.GeneratorExp elt [⟨tg, iter, ifs, 0⟩] scope pos] [] pos') (tGC P ps wi g tt te (own.map (·.2)) () sAny eAny) := by
  simp only [eq_QE, eq_QT, eq_QW, eq_QA, eq_QS, eq_QSs, eq_QC, eq_QG, eq_QGs, eq_QSet, eq_QIp, eq_QGet, eq_QI, eq_QK, eq_QO, eq_QTs, eq_QPs, eq_QX, eq_QX1, eq_QXE] at *
  exact pe_any L hgl hm hi hg ht he hs hst
end
section
variable {X : Cx}
theorem q_pe_bl {b j pos} :
    QE X (.Constant (.bool b) j pos) (tC (.bl b)) := by
  simp only [eq_QE, eq_QT, eq_QW, eq_QA, eq_QS, eq_QSs, eq_QC, eq_QG, eq_QGs, eq_QSet, eq_QIp, eq_QGet, eq_QI, eq_QK, eq_QO, eq_QTs, eq_QPs, eq_QX, eq_QX1, eq_QXE] at *
  exact pe_bl 
end
section
variable {X : Cx}
theorem q_pe_bltn {x : Str} {v : V} {u : Value} {pos : Pos} (hg : Gl X x) (hm : X.mg x = none) (hv : bootBuiltins x = some u) (r : RelV v u) (hn : x ≠ "__name__" := by decide) (hd : (x == ("__debug__" : Str)) = false := by decide) :
    QE X (.Name x pos) (tC v) := by
  simp only [eq_QE, eq_QT, eq_QW, eq_QA, eq_QS, eq_QSs, eq_QC, eq_QG, eq_QGs, eq_QSet, eq_QIp, eq_QGet, eq_QI, eq_QK, eq_QO, eq_QTs, eq_QPs, eq_QX, eq_QX1, eq_QXE] at *
  exact pe_bltn hg hm hv r hn hd
end
section
variable {X : Cx} {a b : Expr} {ta tb : TE} {pos : Pos}
variable {o e : Expr} {es : List Expr} {to : TE} {t : TA} {name : Str} {apos cpos : Pos} {T id : String} {r : V → List V → Hp → VK → Prop}
theorem q_pe_bm (pa : PlainAttrs T) (slot : Slot T name id) (hty : typeOf (.builtin id) = pure (.type "method_descriptor")) (hm : MtR X id r) (ho : QE X o to) (ha : QA X (e :: es) t) (hbase : attributeBase o name X.env (eval o X.env) = eval o X.env := by rfl) (hfew : ((backTo cpos (starEach (e :: es) X.env)).all (fun x => !x.1) && (backToKw cpos (keywordEach [] X.env)).all (fun x => x.1.isSome)
      && decide ((e :: es).length + ([] : List Keyword).length + (if ([] : List Keyword).isEmpty then 0 else 1) < 30)) = true := by rfl) (hline : (apos.endLine == cpos.line) = true := by rfl) (hs : starEach (e :: es) X.env = (false, eval e X.env) :: starEach es X.env := by rfl) (hplain : (backTo cpos (starEach es X.env)).any (·.1) = false := by rfl) :
    QE X (.Call (.Attribute o name apos) (e :: es) [] cpos) (tBM X.K T r to t) := by
  simp only [eq_QE, eq_QT, eq_QW, eq_QA, eq_QS, eq_QSs, eq_QC, eq_QG, eq_QGs, eq_QSet, eq_QIp, eq_QGet, eq_QI, eq_QK, eq_QO, eq_QTs, eq_QPs, eq_QX, eq_QX1, eq_QXE] at *
  exact pe_bm pa slot hty hm ho ha hbase hfew hline hs hplain
end
section
variable {X : Cx} {K : PySem.W.Frag} {o e : Expr} {es : List Expr} {to : TE} {t : TA} {name : Str} {apos cpos : Pos} {T id : String} {r : V → List V → Hp → VK → Prop}
theorem q_pe_bmK (ek : X.K = K) (pa : PlainAttrs T) (slot : Slot T name id) (hty : typeOf (.builtin id) = pure (.type "method_descriptor")) (hm : MtR X id r) (ho : QE X o to) (ha : QA X (e :: es) t) (hbase : attributeBase o name X.env (eval o X.env) = eval o X.env := by rfl) (hfew : ((backTo cpos (starEach (e :: es) X.env)).all (fun x => !x.1) && (backToKw cpos (keywordEach [] X.env)).all (fun x => x.1.isSome)
      && decide ((e :: es).length + ([] : List Keyword).length + (if ([] : List Keyword).isEmpty then 0 else 1) < 30)) = true := by rfl) (hline : (apos.endLine == cpos.line) = true := by rfl) (hs : starEach (e :: es) X.env = (false, eval e X.env) :: starEach es X.env := by rfl) (hplain : (backTo cpos (starEach es X.env)).any (·.1) = false := by rfl) :
    QE X (.Call (.Attribute o name apos) (e :: es) [] cpos) (tBM K T r to t) := by
  simp only [eq_QE, eq_QT, eq_QW, eq_QA, eq_QS, eq_QSs, eq_QC, eq_QG, eq_QGs, eq_QSet, eq_QIp, eq_QGet, eq_QI, eq_QK, eq_QO, eq_QTs, eq_QPs, eq_QX, eq_QX1, eq_QXE] at *
  exact pe_bmK ek pa slot hty hm ho ha hbase hfew hline hs hplain
end
section
variable {X : Cx} {x : Str} {p pos : Pos} {e : Expr} {es : List Expr} {t : TA} {k : Nat} {ps : List Str} {sp : Sp}
theorem q_pe_cal (C : Cal X.prog X.w X.K X.mg X.base k x ps sp) (hr : Room k X.A) (ha : QA X (e :: es) t) (hg : Gl X x := by rfl) (hdb : (x == ("__debug__" : Str)) = false := by decide) (he : starEach (e :: es) X.env = (false, eval e X.env) :: starEach es X.env := by rfl) (hpl : (backTo pos (starEach es X.env)).any (·.1) = false := by rfl) :
    QE X (.Call (.Name x p) (e :: es) [] pos) (tCall sp [] E0 t) := by
  simp only [eq_QE, eq_QT, eq_QW, eq_QA, eq_QS, eq_QSs, eq_QC, eq_QG, eq_QGs, eq_QSet, eq_QIp, eq_QGet, eq_QI, eq_QK, eq_QO, eq_QTs, eq_QPs, eq_QX, eq_QX1, eq_QXE] at *
  exact pe_cal C hr ha hg hdb he hpl
end
section
variable {X : Cx} {K : PySem.W.Frag} {pos : Pos} {e fn : Expr} {es : List Expr} {t : TA} {k : Nat} {sp : Sp}
end
section
variable {X : Cx} {x : Str} {p pos : Pos} {e : Expr} {es : List Expr} {t : TA} {k : Nat} {ps : List Str} {sp : Sp}
end
section
variable {X : Cx} {x : Str} {p pos : Pos} {e : Expr} {es : List Expr} {t : TA} {id T : String} {r : List V → Hp → VK → Prop}
theorem q_pe_callB (hc : CallR X (.builtin id) r) (hg : Gl X x) (hm : X.mg x = none) (hv : bootBuiltins x = some (.builtin id)) (ha : QA X (e :: es) t) (hn : x ≠ "__name__" := by decide) (hdb : (x == ("__debug__" : Str)) = false := by decide) (he : starEach (e :: es) X.env = (false, eval e X.env) :: starEach es X.env := by rfl) (hpl : (backTo pos (starEach es X.env)).any (·.1) = false := by rfl) :
    QE X (.Call (.Name x p) (e :: es) [] pos) (tCB r t) := by
  simp only [eq_QE, eq_QT, eq_QW, eq_QA, eq_QS, eq_QSs, eq_QC, eq_QG, eq_QGs, eq_QSet, eq_QIp, eq_QGet, eq_QI, eq_QK, eq_QO, eq_QTs, eq_QPs, eq_QX, eq_QX1, eq_QXE] at *
  exact pe_callB hc hg hm hv ha hn hdb he hpl
end
section
variable {X : Cx} {x : Str} {p pos : Pos} {e : Expr} {es : List Expr} {t : TA} {id T : String} {r : List V → Hp → VK → Prop}
theorem q_pe_callTy (hc : CallR X (.type T) r) (hg : Gl X x) (hm : X.mg x = none) (hv : bootBuiltins x = some (.type T)) (ha : QA X (e :: es) t) (hn : x ≠ "__name__" := by decide) (hdb : (x == ("__debug__" : Str)) = false := by decide) (he : starEach (e :: es) X.env = (false, eval e X.env) :: starEach es X.env := by rfl) (hpl : (backTo pos (starEach es X.env)).any (·.1) = false := by rfl) :
    QE X (.Call (.Name x p) (e :: es) [] pos) (tCB r t) := by
  simp only [eq_QE, eq_QT, eq_QW, eq_QA, eq_QS, eq_QSs, eq_QC, eq_QG, eq_QGs, eq_QSet, eq_QIp, eq_QGet, eq_QI, eq_QK, eq_QO, eq_QTs, eq_QPs, eq_QX, eq_QX1, eq_QXE] at *
  exact pe_callTy hc hg hm hv ha hn hdb he hpl
end
section
variable {X : Cx} {a b c : Expr} {ta tb tc : TE} {pos : Pos}
end
section
variable {X : Cx} {a b c : Expr} {ta tb tc : TE} {pos : Pos}
theorem q_pe_cmpR {op : CmpOp} {r : R2} (ho : OpR X (compareOp op) r) (ha : QE X a ta) (hb : QE X b tb) (hm : behindInMarks op b = false) :
    QE X (.Compare a [op] [b] pos) (tOp r ta tb) := by
  simp only [eq_QE, eq_QT, eq_QW, eq_QA, eq_QS, eq_QSs, eq_QC, eq_QG, eq_QGs, eq_QSet, eq_QIp, eq_QGet, eq_QI, eq_QK, eq_QO, eq_QTs, eq_QPs, eq_QX, eq_QX1, eq_QXE] at *
  exact pe_cmpR ho ha hb hm
end
section
end
section
variable {X : Cx} {pos : Pos}
theorem q_pe_dnewK  :
    QE X (.Dict [] [] pos) tDNewK := by
  simp only [eq_QE, eq_QT, eq_QW, eq_QA, eq_QS, eq_QSs, eq_QC, eq_QG, eq_QGs, eq_QSet, eq_QIp, eq_QGet, eq_QI, eq_QK, eq_QO, eq_QTs, eq_QPs, eq_QX, eq_QX1, eq_QXE] at *
  exact pe_dnewK 
end
section
variable {X : Cx} {pos : Pos}
theorem q_pe_dnewT  :
    QE X (.Dict [] [] pos) tDNewT := by
  simp only [eq_QE, eq_QT, eq_QW, eq_QA, eq_QS, eq_QSs, eq_QC, eq_QG, eq_QGs, eq_QSet, eq_QIp, eq_QGet, eq_QI, eq_QK, eq_QO, eq_QTs, eq_QPs, eq_QX, eq_QX1, eq_QXE] at *
  exact pe_dnewT 
end
section
end
section
variable {X : Cx}
variable {a b : Expr} {ta tb : TE} {pos : Pos}
variable {tA tB' : TT} {rest : List Expr}
end
section
variable {X : Cx}
theorem q_pe_int {i j pos} :
    QE X (.Constant (.int i) j pos) (tC (.int i)) := by
  simp only [eq_QE, eq_QT, eq_QW, eq_QA, eq_QS, eq_QSs, eq_QC, eq_QG, eq_QGs, eq_QSet, eq_QIp, eq_QGet, eq_QI, eq_QK, eq_QO, eq_QTs, eq_QPs, eq_QX, eq_QX1, eq_QXE] at *
  exact pe_int 
end
section
variable {X : Cx} {a b : Expr} {ta tb : TE} {pos : Pos}
theorem q_pe_ix {r : R2} (hr : IxR X r) (ha : QE X a ta) (hb : QE X b tb) (hs : PlainIx b) :
    QE X (.Subscript a b pos) (tOp r ta tb) := by
  simp only [eq_QE, eq_QT, eq_QW, eq_QA, eq_QS, eq_QSs, eq_QC, eq_QG, eq_QGs, eq_QSet, eq_QIp, eq_QGet, eq_QI, eq_QK, eq_QO, eq_QTs, eq_QPs, eq_QX, eq_QX1, eq_QXE] at *
  exact pe_ix hr ha hb hs
end
section
variable {X : Cx}
theorem q_pe_lc {elt tg iter : Expr} {ifs : List Expr} {scope : Scope} {own : List (Str × Nat)} {pos : Pos} {wi : TI} {g : TG} {tt : TT} {te : TE} (hc : X.calm = true) (hN : X.N.Nodup) (hi : QI X tg iter wi) (ok : BlkOk X.N X.env.scope scope own) (hg : ∀ (s : Shared) (H : Hp) (C : Addr) (cl : List (Str × Addr)) (fp : List Addr), QG (X.blk s H scope (compEnvC scope cl C X.env) fp) tg g) (ht : ∀ (s : Shared) (H : Hp) (C : Addr) (cl : List (Str × Addr)) (fp : List Addr), QTs (X.blk s H scope (compEnvC scope cl C X.env) fp) ifs tt) (he : ∀ (s : Shared) (H : Hp) (C : Addr) (cl : List (Str × Addr)) (fp : List Addr), QE (X.blk s H scope (compEnvC scope cl C X.env) fp) elt te) (hs : ∀ x, foldedSetIterable iter X.env x = pure x := by intro _; rfl) :
    QE X (.ListComp elt [⟨tg, iter, ifs, 0⟩] scope pos) (tLc wi g tt te (own.map (·.2))) := by
  simp only [eq_QE, eq_QT, eq_QW, eq_QA, eq_QS, eq_QSs, eq_QC, eq_QG, eq_QGs, eq_QSet, eq_QIp, eq_QGet, eq_QI, eq_QK, eq_QO, eq_QTs, eq_QPs, eq_QX, eq_QX1, eq_QXE] at *
  exact pe_lc hc hN hi ok hg ht he hs
end
section
variable {X : Cx}
end
section
variable {X : Cx} {e : Expr} {es : List Expr} {te : TE} {t : TA} {pos : Pos}
theorem q_pe_lst (h : QA X es t) :
    QE X (.List es pos) (tLst t) := by
  simp only [eq_QE, eq_QT, eq_QW, eq_QA, eq_QS, eq_QSs, eq_QC, eq_QG, eq_QGs, eq_QSet, eq_QIp, eq_QGet, eq_QI, eq_QK, eq_QO, eq_QTs, eq_QPs, eq_QX, eq_QX1, eq_QXE] at *
  exact pe_lst h
end
section
variable {X : Cx}
end
section
variable {X : Cx}
variable {a b : Expr} {ta tb : TE} {pos : Pos}
variable {tA tB' : TT} {rest : List Expr}
end
section
variable {X : Cx}
variable {a b : Expr} {ta tb : TE} {pos : Pos}
variable {tA tB' : TT} {rest : List Expr}
end
section
variable {X : Cx} {a b c : Expr} {ta tb tc : TE} {pos : Pos}
theorem q_pe_op {op : Operator} {r : R2} (ho : OpR X (binaryOp op) r) (ha : QE X a ta) (hb : QE X b tb) :
    QE X (.BinOp a op b pos) (tOp r ta tb) := by
  simp only [eq_QE, eq_QT, eq_QW, eq_QA, eq_QS, eq_QSs, eq_QC, eq_QG, eq_QGs, eq_QSet, eq_QIp, eq_QGet, eq_QI, eq_QK, eq_QO, eq_QTs, eq_QPs, eq_QX, eq_QX1, eq_QXE] at *
  exact pe_op ho ha hb
end
section
variable {X : Cx}
end
section
variable {X : Cx}
theorem q_pe_sc2 {elt tg iter tg1 iter1 : Expr} {ifs ifs1 : List Expr} {scope : Scope} {own : List (Str × Nat)} {vs1 : List Nat} {pos : Pos} {wi wi1 : TI} {g g1 : TG} {tt tt1 : TT} {te : TE} {mk : Addr → HO} {radd : List V → Hp → VK → Prop} (hc : X.calm = true) (hN : X.N.Nodup) (hi : QI X tg iter wi) (ok : BlkOk X.N X.env.scope scope own) (hv : ∀ i ∈ vs1, i ∈ own.map (·.2)) (hg : ∀ (s : Shared) (H : Hp) (C : Addr) (cl : List (Str × Addr)) (fp : List Addr), QG (X.blk s H scope (compEnvC scope cl C X.env) fp) tg g) (ht : ∀ (s : Shared) (H : Hp) (C : Addr) (cl : List (Str × Addr)) (fp : List Addr), QTs (X.blk s H scope (compEnvC scope cl C X.env) fp) ifs tt) (hi1 : ∀ (s : Shared) (H : Hp) (C : Addr) (cl : List (Str × Addr)) (fp : List Addr), QI (X.blk s H scope (compEnvC scope cl C X.env) fp) tg1 iter1 wi1) (hg1 : ∀ (s : Shared) (H : Hp) (C : Addr) (cl : List (Str × Addr)) (fp : List Addr), QG (X.blk s H scope (compEnvC scope cl C X.env) fp) tg1 g1) (ht1 : ∀ (s : Shared) (H : Hp) (C : Addr) (cl : List (Str × Addr)) (fp : List Addr), QTs (X.blk s H scope (compEnvC scope cl C X.env) fp) ifs1 tt1) (he : ∀ (s : Shared) (H : Hp) (C : Addr) (cl : List (Str × Addr)) (fp : List Addr), QE (X.blk s H scope (compEnvC scope cl C X.env) fp) elt te) (hmk : ∀ (H : Hp) (D : Addr) (h : Heap), h.get? D = some (emptySet X.w) → ObjOk X.prog X.w H h D (mk D)) (ha : ∀ (s : Shared) (H : Hp) (C : Addr) (cl : List (Str × Addr)) (fp : List Addr), CallR (X.blk s H scope (compEnvC scope cl C X.env) fp) (.builtin "set.add") radd) (hs : ∀ x, foldedSetIterable iter X.env x = pure x := by intro _; rfl) (hs1 : ∀ env x, foldedSetIterable iter1 env x = pure x := by intro _ _; rfl) :
    QE X (.SetComp elt [⟨tg, iter, ifs, 0⟩, ⟨tg1, iter1, ifs1, 0⟩] scope pos) (tSc2 mk radd wi g tt wi1 g1 tt1 te (own.map (·.2)) vs1) := by
  simp only [eq_QE, eq_QT, eq_QW, eq_QA, eq_QS, eq_QSs, eq_QC, eq_QG, eq_QGs, eq_QSet, eq_QIp, eq_QGet, eq_QI, eq_QK, eq_QO, eq_QTs, eq_QPs, eq_QX, eq_QX1, eq_QXE] at *
  exact pe_sc2 hc hN hi ok hv hg ht hi1 hg1 ht1 he hmk ha hs hs1
end
section
variable {X : Cx} {e : Expr} {te : TE} {lo hi : Option Expr} {tl th : TO} {pos p2 : Pos}
theorem q_pe_slice {r : V → Option Int → Option Int → Hp → VK → Prop} (hr : SlR X r) (he : QE X e te) (hl : QO X lo tl) (hu : QO X hi th) :
    QE X (.Subscript e (.Slice lo hi none p2) pos) (tSl r te tl th) := by
  simp only [eq_QE, eq_QT, eq_QW, eq_QA, eq_QS, eq_QSs, eq_QC, eq_QG, eq_QGs, eq_QSet, eq_QIp, eq_QGet, eq_QI, eq_QK, eq_QO, eq_QTs, eq_QPs, eq_QX, eq_QX1, eq_QXE] at *
  exact pe_slice hr he hl hu
end
section
variable {X : Cx} {pins : List (Addr × Obj)} {σ : St} {H : Hp} {s : Shared}
theorem q_pe_sortLam {e body : Expr} {te : TE} {params : Arguments} {scope : Scope} {p pos lpos kpos : Pos} {c P : Addr} {q : Str} {N ps : List Str} {sp : Sp} {k : Nat} {K : PySem.W.Frag} (eK : X.K = K) (hc : X.env.code = .ref c) (C : CodeK X.K c P) (B : BmK X.base X.mg) (hm : X.mg "sorted" = none) (S : FnScope N ps scope) (len : ∀ vs H Q E, sp vs H Q E → vs.length = ps.length) (hbind : ∀ (pm cdv ct : Value) (us : List Value), us.length = ps.length → bindArgs (PySem.W.kla_fn "<lambda>" q params body scope [] pm cdv ct) ⟨us, []⟩ = pure (ps.zip us)) (hbody : ∀ (f : Addr) (cdv : Value) (A : Around) (outer : List Env) (s : Shared) (H : Hp) (vs : List V) (Q : VK) (E : XK), Room k (A.deeper (envOfC q scope s.heap.objs.size f cdv)) → sp vs H Q E →
      ∃ t : TE, QE (cxOf CX0 X.prog X.w X.K X.mg X.base N q scope f cdv A outer s H E).nox body t ∧ t (start N vs) H Q) (hr : Room (k + 3) X.A) (he : QE X e te) (hq : X.env.qual ++ "<lambda>" = q := by rfl) (hcl : closureFor scope X.env = pure [] := by rfl) (hdef : defaultsOf params X.env = ([], []) := by rfl) (hgl : Gl X "sorted" := by rfl) (he1 : starEach [e] X.env = [(false, eval e X.env)] := by rfl) :
    QE X (.Call (.Name "sorted" p) [e] [⟨some "key", .Lambda params body scope lpos, kpos⟩] pos) (tSortLam K P q sp te) := by
  simp only [eq_QE, eq_QT, eq_QW, eq_QA, eq_QS, eq_QSs, eq_QC, eq_QG, eq_QGs, eq_QSet, eq_QIp, eq_QGet, eq_QI, eq_QK, eq_QO, eq_QTs, eq_QPs, eq_QX, eq_QX1, eq_QXE] at *
  exact pe_sortLam eK hc C B hm S len hbind hbody hr he hq hcl hdef hgl he1
end
section
variable {X : Cx} {o e : Expr} {to te : TE}
end
section
variable {X : Cx} {K : PySem.W.Frag} {e k : Expr} {te tk : TE} {p2 pos : Pos}
end
section
variable {X : Cx}
end
section
variable {X : Cx} {x : Str} {p pos pos' : Pos} {c P : Addr} {ps : Array Value} {wi : TI} {g : TG} {tt : TT} {te : TE} {elt tg iter : Expr} {ifs : List Expr} {scope : Scope} {own : List (Str × Nat)} {k : Nat}
end
section
variable {X : Cx} {e : Expr} {es : List Expr} {te : TE} {t : TA} {pos : Pos}
theorem q_pe_tup {x1} (h : QA X es t) :
    QE X (.Tuple es x1 pos) (tTup t) := by
  simp only [eq_QE, eq_QT, eq_QW, eq_QA, eq_QS, eq_QSs, eq_QC, eq_QG, eq_QGs, eq_QSet, eq_QIp, eq_QGet, eq_QI, eq_QK, eq_QO, eq_QTs, eq_QPs, eq_QX, eq_QX1, eq_QXE] at *
  exact pe_tup h
end
section
variable {X : Cx} {x : Str} {p pos pos' : Pos} {c P : Addr} {ps : Array Value} {wi : TI} {g : TG} {tt : TT} {te : TE} {elt tg iter : Expr} {ifs : List Expr} {scope : Scope} {own : List (Str × Nat)} {k : Nat}
end
section
variable {X : Cx} {a b c : Expr} {ta tb tc : TE} {pos : Pos}
theorem q_pe_un {op : UnaryOp} {r : V → Hp → VK → Prop} (ho : UnR X (unaryOp op) r) (ha : QE X a ta) :
    QE X (.UnaryOp op a pos) (tUn r ta) := by
  simp only [eq_QE, eq_QT, eq_QW, eq_QA, eq_QS, eq_QSs, eq_QC, eq_QG, eq_QGs, eq_QSet, eq_QIp, eq_QGet, eq_QI, eq_QK, eq_QO, eq_QTs, eq_QPs, eq_QX, eq_QX1, eq_QXE] at *
  exact pe_un ho ha
end
section
variable {X : Cx} {pos : Pos}
theorem q_pg_name {i : Nat} {x : Str} (hN : X.N.Nodup) (hi : X.N[i]? = some x) (hx : Loc X.env.scope x) (hf : X.fn x = true ∨ X.env.scope.names.lookup x = some .local := by first | exact .inl rfl | exact .inr rfl | assumption) :
    QG X (.Name x pos) (gName i) := by
  simp only [eq_QE, eq_QT, eq_QW, eq_QA, eq_QS, eq_QSs, eq_QC, eq_QG, eq_QGs, eq_QSet, eq_QIp, eq_QGet, eq_QI, eq_QK, eq_QO, eq_QTs, eq_QPs, eq_QX, eq_QX1, eq_QXE] at *
  exact pg_name hN hi hx hf
end
section
variable {X : Cx} {pos : Pos}
theorem q_pg_sub {o i : Expr} {to ti : TE} {t : TSet} (ho : QE X o to) (hi : QE X i ti) (hs : QSet X t) (ha : ∀ v, assign (.Subscript o i pos) X.env v = (do
      let ov ← holding [v] (eval o X.env)
      let iv ← holding [v, ov] (eval i X.env)
      standAt pos
      holding [v, ov, iv] (setItem ov iv v)
      release [v, ov, iv] []) := by intro _; rfl) :
    QG X (.Subscript o i pos) (gSub to ti t) := by
  simp only [eq_QE, eq_QT, eq_QW, eq_QA, eq_QS, eq_QSs, eq_QC, eq_QG, eq_QGs, eq_QSet, eq_QIp, eq_QGet, eq_QI, eq_QK, eq_QO, eq_QTs, eq_QPs, eq_QX, eq_QX1, eq_QXE] at *
  exact pg_sub ho hi hs ha
end
section
variable {X : Cx} {K : PySem.W.Frag}
theorem q_pg_tupK {pos : Pos} {es : List Expr} {k : Nat} {t : TGs} {n : Nat} (e : X.K = K) (hc : X.calm = true) (h : QGs X es t) (hn : (assignEach es X.env).length = n := by rfl) (hst : (assignEach es X.env).findIdx? (·.1) = none := by rfl) :
    QG X (.Tuple es k pos) (gTup K n t) := by
  simp only [eq_QE, eq_QT, eq_QW, eq_QA, eq_QS, eq_QSs, eq_QC, eq_QG, eq_QGs, eq_QSet, eq_QIp, eq_QGet, eq_QI, eq_QK, eq_QO, eq_QTs, eq_QPs, eq_QX, eq_QX1, eq_QXE] at *
  exact pg_tupK e hc h hn hst
end
section
variable {X : Cx} {K : PySem.W.Frag}
theorem q_pg_tupLK {pos : Pos} {es : List Expr} {k : Nat} {t : TGs} {n : Nat} (e : X.K = K) (hc : X.calm = true) (h : QGs X es t) (hn : (assignEach es X.env).length = n := by rfl) (hst : (assignEach es X.env).findIdx? (·.1) = none := by rfl) :
    QG X (.Tuple es k pos) (gTupL K n t) := by
  simp only [eq_QE, eq_QT, eq_QW, eq_QA, eq_QS, eq_QSs, eq_QC, eq_QG, eq_QGs, eq_QSet, eq_QIp, eq_QGet, eq_QI, eq_QK, eq_QO, eq_QTs, eq_QPs, eq_QX, eq_QX1, eq_QXE] at *
  exact pg_tupLK e hc h hn hst
end
section
variable {X : Cx} {pos : Pos}
theorem q_pgs_cons {e : Expr} {es : List Expr} {t : TG} {u : TGs} (h1 : QG X e t) (h2 : QGs X es u) (hs : (assignEach (e :: es) X.env).map (·.2) = assign e X.env :: (assignEach es X.env).map (·.2) := by rfl) :
    QGs X (e :: es) (gCons t u) := by
  simp only [eq_QE, eq_QT, eq_QW, eq_QA, eq_QS, eq_QSs, eq_QC, eq_QG, eq_QGs, eq_QSet, eq_QIp, eq_QGet, eq_QI, eq_QK, eq_QO, eq_QTs, eq_QPs, eq_QX, eq_QX1, eq_QXE] at *
  exact pgs_cons h1 h2 hs
end
section
variable {X : Cx} {pos : Pos}
theorem q_pgs_nil  :
    QGs X [] gNil := by
  simp only [eq_QE, eq_QT, eq_QW, eq_QA, eq_QS, eq_QSs, eq_QC, eq_QG, eq_QGs, eq_QSet, eq_QIp, eq_QGet, eq_QI, eq_QK, eq_QO, eq_QTs, eq_QPs, eq_QX, eq_QX1, eq_QXE] at *
  exact pgs_nil 
end
section
variable {X : Cx} {K : PySem.W.Frag} {tpos : Pos} {elts : List Expr} {kk : Nat}
end
section
theorem q_pi_enumT {X : Cx} {K : PySem.W.Frag} {e : Expr} {ta : TA} {p pos tpos : Pos} {elts : List Expr} {kk : Nat} (ek : X.K = K) (hg : Gl X "enumerate") (hm : X.mg "enumerate" = none) (ha : QA X [e] ta) (hs : starEach [e] X.env = [(false, eval e X.env)] := by rfl) :
    QI X (.Tuple elts kk tpos) (.Call (.Name "enumerate" p) [e] [] pos) (iEnumT K ta) := by
  simp only [eq_QE, eq_QT, eq_QW, eq_QA, eq_QS, eq_QSs, eq_QC, eq_QG, eq_QGs, eq_QSet, eq_QIp, eq_QGet, eq_QI, eq_QK, eq_QO, eq_QTs, eq_QPs, eq_QX, eq_QX1, eq_QXE] at *
  exact pi_enumT ek hg hm ha hs
end
section
variable {X : Cx} {tg e : Expr} {td : TE} {apos cpos : Pos}
end
section
variable {X : Cx} {K : PySem.W.Frag}
theorem q_pi_listK {tg l : Expr} {tl : TE} (e : X.K = K) (hl : QE X l tl) :
    QI X tg l (iList K tl) := by
  simp only [eq_QE, eq_QT, eq_QW, eq_QA, eq_QS, eq_QSs, eq_QC, eq_QG, eq_QGs, eq_QSet, eq_QIp, eq_QGet, eq_QI, eq_QK, eq_QO, eq_QTs, eq_QPs, eq_QX, eq_QX1, eq_QXE] at *
  exact pi_listK e hl
end
section
variable {X : Cx} {tg : Expr}
theorem q_pi_range1 {a : Expr} {ta : TA} {p pos : Pos} (hg : Gl X "range") (hm : X.mg "range" = none) (ha : QA X [a] ta) (hs : starEach [a] X.env = [(false, eval a X.env)] := by rfl) :
    QI X tg (.Call (.Name "range" p) [a] [] pos) (iRng1 ta) := by
  simp only [eq_QE, eq_QT, eq_QW, eq_QA, eq_QS, eq_QSs, eq_QC, eq_QG, eq_QGs, eq_QSet, eq_QIp, eq_QGet, eq_QI, eq_QK, eq_QO, eq_QTs, eq_QPs, eq_QX, eq_QX1, eq_QXE] at *
  exact pi_range1 hg hm ha hs
end
section
end
section
variable {X : Cx} {K : PySem.W.Frag}
theorem q_pi_tupK {tg l : Expr} {tl : TE} (e : X.K = K) (hl : QE X l tl) :
    QI X tg l (iTup K tl) := by
  simp only [eq_QE, eq_QT, eq_QW, eq_QA, eq_QS, eq_QSs, eq_QC, eq_QG, eq_QGs, eq_QSet, eq_QIp, eq_QGet, eq_QI, eq_QK, eq_QO, eq_QTs, eq_QPs, eq_QX, eq_QX1, eq_QXE] at *
  exact pi_tupK e hl
end
section
variable {X : Cx} {e : Expr} {te : TE} {lo hi : Option Expr} {tl th : TO} {pos p2 : Pos}
theorem q_po_none  :
    QO X none tNoPart := by
  simp only [eq_QE, eq_QT, eq_QW, eq_QA, eq_QS, eq_QSs, eq_QC, eq_QG, eq_QGs, eq_QSet, eq_QIp, eq_QGet, eq_QI, eq_QK, eq_QO, eq_QTs, eq_QPs, eq_QX, eq_QX1, eq_QXE] at *
  exact po_none 
end
section
variable {X : Cx} {e : Expr} {te : TE} {lo hi : Option Expr} {tl th : TO} {pos p2 : Pos}
theorem q_po_some (h : QE X e te) :
    QO X (some e) (tPart te) := by
  simp only [eq_QE, eq_QT, eq_QW, eq_QA, eq_QS, eq_QSs, eq_QC, eq_QG, eq_QGs, eq_QSet, eq_QIp, eq_QGet, eq_QI, eq_QK, eq_QO, eq_QTs, eq_QPs, eq_QX, eq_QX1, eq_QXE] at *
  exact po_some h
end
section
end
section
end
section
variable {X : Cx} {pos : Pos}
theorem q_ps_asg {tg e : Expr} {te : TE} {g : TG} (he : QE X e te) (hg : QG X tg g) (hs : swapsWithSole [tg] e pos.line X.env = pure false := by rfl) (hw : swappedStores [tg] e X.env = pure none := by rfl) (h1 : (assignEach [tg] X.env).map (·.2) = [assign tg X.env] := by rfl) :
    QS X (.Assign [tg] e pos) (tAsg te g) := by
  simp only [eq_QE, eq_QT, eq_QW, eq_QA, eq_QS, eq_QSs, eq_QC, eq_QG, eq_QGs, eq_QSet, eq_QIp, eq_QGet, eq_QI, eq_QK, eq_QO, eq_QTs, eq_QPs, eq_QX, eq_QX1, eq_QXE] at *
  exact ps_asg he hg hs hw h1
end
section
variable {X : Cx} {pos : Pos}
end
section
variable {X : Cx} {o i e value : Expr} {pos pos' tpos : Pos} {td ty tv : TE}
end
section
variable {X : Cx} {st : Stmt} {rest : List Stmt} {t u : TS} {e : Expr} {te : TE} {pos : Pos}
theorem q_ps_expr (he : QE X e te) (hs : swapsWith e none pos.line X.env = pure false := by rfl) :
    QS X (.Expr e pos) (tDrop te) := by
  simp only [eq_QE, eq_QT, eq_QW, eq_QA, eq_QS, eq_QSs, eq_QC, eq_QG, eq_QGs, eq_QSet, eq_QIp, eq_QGet, eq_QI, eq_QK, eq_QO, eq_QTs, eq_QPs, eq_QX, eq_QX1, eq_QXE] at *
  exact ps_expr he hs
end
section
variable {X : Cx} {tg : Expr}
theorem q_ps_for {iter : Expr} {body : List Stmt} {wi : TI} {g : TG} {tb : TS} {pos : Pos} (hp : PassesOwn (model X.prog X.w) X.A X.env X.xe) (hc : X.calm = true) (hi : QI X tg iter wi) (hg : QG X tg g) (hb : QSs X body tb) (hs : ∀ x, foldedSetIterable iter X.env x = pure x := by intro _; rfl) :
    QS X (.For tg iter body [] pos) (tFor wi g tb) := by
  simp only [eq_QE, eq_QT, eq_QW, eq_QA, eq_QS, eq_QSs, eq_QC, eq_QG, eq_QGs, eq_QSet, eq_QIp, eq_QGet, eq_QI, eq_QK, eq_QO, eq_QTs, eq_QPs, eq_QX, eq_QX1, eq_QXE] at *
  exact ps_for hp hc hi hg hb hs
end
section
variable {X : Cx} {st : Stmt} {rest : List Stmt} {t u : TS} {e : Expr} {te : TE} {pos : Pos}
theorem q_ps_if {c : Expr} {a b : List Stmt} {tc : TT} (hc : QT X c tc) (ha : QSs X a t) (hb : QSs X b u) :
    QS X (.If c a b pos) (tIfS tc t u) := by
  simp only [eq_QE, eq_QT, eq_QW, eq_QA, eq_QS, eq_QSs, eq_QC, eq_QG, eq_QGs, eq_QSet, eq_QIp, eq_QGet, eq_QI, eq_QK, eq_QO, eq_QTs, eq_QPs, eq_QX, eq_QX1, eq_QXE] at *
  exact ps_if hc ha hb
end
section
variable {X : Cx} {st : Stmt} {rest : List Stmt} {t u : TS} {e : Expr} {te : TE} {pos : Pos}
theorem q_ps_ret (he : QE X e te) :
    QS X (.Return (some e) pos) (tRet te) := by
  simp only [eq_QE, eq_QT, eq_QW, eq_QA, eq_QS, eq_QSs, eq_QC, eq_QG, eq_QGs, eq_QSet, eq_QIp, eq_QGet, eq_QI, eq_QK, eq_QO, eq_QTs, eq_QPs, eq_QX, eq_QX1, eq_QXE] at *
  exact ps_ret he
end
section
variable {X : Cx} {pos : Pos}
theorem q_ps_set {i : Nat} {x : Str} {e : Expr} {te : TE} {pos' : Pos} (hN : X.N.Nodup) (hi : X.N[i]? = some x) (hx : Loc X.env.scope x) (he : QE X e te) (hs : swapsWith e (some (.Name x pos')) pos.line X.env = pure false := by rfl) (hf : X.fn x = true ∨ X.env.scope.names.lookup x = some .local := by first | exact .inl rfl | exact .inr rfl | assumption) :
    QS X (.Assign [.Name x pos'] e pos) (tAsg te (gName i)) := by
  simp only [eq_QE, eq_QT, eq_QW, eq_QA, eq_QS, eq_QSs, eq_QC, eq_QG, eq_QGs, eq_QSet, eq_QIp, eq_QGet, eq_QI, eq_QK, eq_QO, eq_QTs, eq_QPs, eq_QX, eq_QX1, eq_QXE] at *
  exact ps_set hN hi hx he hs hf
end
section
variable {X : Cx}
theorem q_ps_setLc {i : Nat} {y : Str} {py : Pos} {elt tg iter : Expr} {ifs : List Expr} {scope : Scope} {own : List (Str × Nat)} {pos spos : Pos} {wi : TI} {g : TG} {tt : TT} {te : TE} (hc : X.calm = true) (hN : X.N.Nodup) (hy : X.N[i]? = some y) (hyl : X.env.scope.names.lookup y = some .local) (hsw : swapsWith (.ListComp elt [⟨tg, iter, ifs, 0⟩] scope pos) (some (.Name y py)) spos.line X.env = pure true) (hi : QI X tg iter wi) (ok : BlkOk X.N X.env.scope scope own) (hg : ∀ (s : Shared) (H : Hp) (C : Addr) (cl : List (Str × Addr)) (fp : List Addr), QG (X.blk s H scope (compEnvC scope cl C X.env) fp) tg g) (ht : ∀ (s : Shared) (H : Hp) (C : Addr) (cl : List (Str × Addr)) (fp : List Addr), QTs (X.blk s H scope (compEnvC scope cl C X.env) fp) ifs tt) (he : ∀ (s : Shared) (H : Hp) (C : Addr) (cl : List (Str × Addr)) (fp : List Addr), QE (X.blk s H scope (compEnvC scope cl C X.env) fp) elt te) (hs : ∀ x, foldedSetIterable iter X.env x = pure x := by intro _; rfl) :
    QS X (.Assign [.Name y py] (.ListComp elt [⟨tg, iter, ifs, 0⟩] scope pos) spos) (tAsg (tLc wi g tt te (own.map (·.2))) (gName i)) := by
  simp only [eq_QE, eq_QT, eq_QW, eq_QA, eq_QS, eq_QSs, eq_QC, eq_QG, eq_QGs, eq_QSet, eq_QIp, eq_QGet, eq_QI, eq_QK, eq_QO, eq_QTs, eq_QPs, eq_QX, eq_QX1, eq_QXE] at *
  exact ps_setLc hc hN hy hyl hsw hi ok hg ht he hs
end
section
variable {X : Cx} {pos : Pos}
end
section
variable {X : Cx} {st : Stmt} {rest : List Stmt} {t u : TS} {e : Expr} {te : TE} {pos : Pos}
theorem q_pss_cons (h1 : QS X st t) (h2 : QSs X rest u) :
    QSs X (st :: rest) (tSeq t u) := by
  simp only [eq_QE, eq_QT, eq_QW, eq_QA, eq_QS, eq_QSs, eq_QC, eq_QG, eq_QGs, eq_QSet, eq_QIp, eq_QGet, eq_QI, eq_QK, eq_QO, eq_QTs, eq_QPs, eq_QX, eq_QX1, eq_QXE] at *
  exact pss_cons h1 h2
end
section
variable {X : Cx} {st : Stmt} {rest : List Stmt} {t u : TS} {e : Expr} {te : TE} {pos : Pos}
theorem q_pss_nil  :
    QSs X [] tNext := by
  simp only [eq_QE, eq_QT, eq_QW, eq_QA, eq_QS, eq_QSs, eq_QC, eq_QG, eq_QGs, eq_QSet, eq_QIp, eq_QGet, eq_QI, eq_QK, eq_QO, eq_QTs, eq_QPs, eq_QX, eq_QX1, eq_QXE] at *
  exact pss_nil 
end
section
variable {X : Cx} {st : Stmt} {rest : List Stmt} {t u : TS} {e : Expr} {te : TE} {pos : Pos}
theorem q_pss_one (h1 : QS X st t) :
    QSs X [st] t := by
  simp only [eq_QE, eq_QT, eq_QW, eq_QA, eq_QS, eq_QSs, eq_QC, eq_QG, eq_QGs, eq_QSet, eq_QIp, eq_QGet, eq_QI, eq_QK, eq_QO, eq_QTs, eq_QPs, eq_QX, eq_QX1, eq_QXE] at *
  exact pss_one h1
end
section
variable {X : Cx} {a b c : Expr} {ta tb tc : TE} {pos : Pos}
theorem q_pt_cmpR {op : CmpOp} {r : R2} (ho : OpR X (compareOp op) r) (ha : QE X a ta) (hb : QE X b tb) (hm : behindInMarks op b = false) :
    QT X (.Compare a [op] [b] pos) (tTest (tOp r ta tb)) := by
  simp only [eq_QE, eq_QT, eq_QW, eq_QA, eq_QS, eq_QSs, eq_QC, eq_QG, eq_QGs, eq_QSet, eq_QIp, eq_QGet, eq_QI, eq_QK, eq_QO, eq_QTs, eq_QPs, eq_QX, eq_QX1, eq_QXE] at *
  exact pt_cmpR ho ha hb hm
end
section
variable {X : Cx}
variable {a b : Expr} {ta tb : TE} {pos : Pos}
variable {tA tB' : TT} {rest : List Expr}
theorem q_pt_not (ha : QT X a tA) :
    QT X (.UnaryOp .Not a pos) (tNot tA) := by
  simp only [eq_QE, eq_QT, eq_QW, eq_QA, eq_QS, eq_QSs, eq_QC, eq_QG, eq_QGs, eq_QSet, eq_QIp, eq_QGet, eq_QI, eq_QK, eq_QO, eq_QTs, eq_QPs, eq_QX, eq_QX1, eq_QXE] at *
  exact pt_not ha
end
section
variable {X : Cx}
variable {a b : Expr} {ta tb : TE} {pos : Pos}
theorem q_pt_val {e : Expr} {t : TE} (h : QE X e t) (he : ∀ whole, isTrue e X.env whole = (do let v ← whole; standAt e.pos; holding [v] (truthy v)) := by intro _; rfl) :
    QT X e (tB t) := by
  simp only [eq_QE, eq_QT, eq_QW, eq_QA, eq_QS, eq_QSs, eq_QC, eq_QG, eq_QGs, eq_QSet, eq_QIp, eq_QGet, eq_QI, eq_QK, eq_QO, eq_QTs, eq_QPs, eq_QX, eq_QX1, eq_QXE] at *
  exact pt_val h he
end
section
variable {X : Cx} {pins : List (Addr × Obj)} {σ : St} {H : Hp} {s : Shared}
theorem q_pts_nil  :
    QTs X [] tYes := by
  simp only [eq_QE, eq_QT, eq_QW, eq_QA, eq_QS, eq_QSs, eq_QC, eq_QG, eq_QGs, eq_QSet, eq_QIp, eq_QGet, eq_QI, eq_QK, eq_QO, eq_QTs, eq_QPs, eq_QX, eq_QX1, eq_QXE] at *
  exact pts_nil 
end
section
variable {X : Cx} {pins : List (Addr × Obj)} {σ : St} {H : Hp} {s : Shared}
theorem q_pts_one {c : Expr} {t : TT} (h : QT X c t) :
    QTs X [c] t := by
  simp only [eq_QE, eq_QT, eq_QW, eq_QA, eq_QS, eq_QSs, eq_QC, eq_QG, eq_QGs, eq_QSet, eq_QIp, eq_QGet, eq_QI, eq_QK, eq_QO, eq_QTs, eq_QPs, eq_QX, eq_QX1, eq_QXE] at *
  exact pts_one h
end
section
variable {X : Cx}
theorem q_pv (i : Nat) {x : Str} {pos : Pos} (hN : X.N[i]? = some x := by rfl) (hv : Vis X.env.scope x := by first | exact Or.inl rfl | exact Or.inr (Or.inl rfl) | exact Or.inr (Or.inr rfl)) (hd : (x == ("__debug__" : Str)) = false := by decide) (hcd : (x == ("__classdict__" : Str)) = false := by decide) :
    QE X (.Name x pos) (tVar i) := by
  simp only [eq_QE, eq_QT, eq_QW, eq_QA, eq_QS, eq_QSs, eq_QC, eq_QG, eq_QGs, eq_QSet, eq_QIp, eq_QGet, eq_QI, eq_QK, eq_QO, eq_QTs, eq_QPs, eq_QX, eq_QX1, eq_QXE] at *
  exact pv i hN hv hd hcd
end
section
variable {X : Cx}
variable {a b : Expr} {ta tb : TE} {pos : Pos}
variable {tA tB' : TT} {rest : List Expr}
theorem q_pw_and (ha : QT X a tA) (hb : QW X (.BoolOp .And (b :: rest) pos) tB') :
    QW X (.BoolOp .And (a :: b :: rest) pos) (tAnd tA tB') := by
  simp only [eq_QE, eq_QT, eq_QW, eq_QA, eq_QS, eq_QSs, eq_QC, eq_QG, eq_QGs, eq_QSet, eq_QIp, eq_QGet, eq_QI, eq_QK, eq_QO, eq_QTs, eq_QPs, eq_QX, eq_QX1, eq_QXE] at *
  exact pw_and ha hb
end
section
variable {X : Cx}
variable {a b : Expr} {ta tb : TE} {pos : Pos}
variable {tA tB' : TT} {rest : List Expr}
theorem q_pw_and1 (ha : QT X a tA) :
    QW X (.BoolOp .And [a] pos) tA := by
  simp only [eq_QE, eq_QT, eq_QW, eq_QA, eq_QS, eq_QSs, eq_QC, eq_QG, eq_QGs, eq_QSet, eq_QIp, eq_QGet, eq_QI, eq_QK, eq_QO, eq_QTs, eq_QPs, eq_QX, eq_QX1, eq_QXE] at *
  exact pw_and1 ha
end
section
variable {X : Cx}
variable {a b : Expr} {ta tb : TE} {pos : Pos}
variable {tA tB' : TT} {rest : List Expr}
theorem q_pw_or (ha : QT X a tA) (hb : QW X (.BoolOp .Or (b :: rest) pos) tB') :
    QW X (.BoolOp .Or (a :: b :: rest) pos) (tOr tA tB') := by
  simp only [eq_QE, eq_QT, eq_QW, eq_QA, eq_QS, eq_QSs, eq_QC, eq_QG, eq_QGs, eq_QSet, eq_QIp, eq_QGet, eq_QI, eq_QK, eq_QO, eq_QTs, eq_QPs, eq_QX, eq_QX1, eq_QXE] at *
  exact pw_or ha hb
end
section
variable {X : Cx}
variable {a b : Expr} {ta tb : TE} {pos : Pos}
variable {tA tB' : TT} {rest : List Expr}
theorem q_pw_or1 (ha : QT X a tA) :
    QW X (.BoolOp .Or [a] pos) tA := by
  simp only [eq_QE, eq_QT, eq_QW, eq_QA, eq_QS, eq_QSs, eq_QC, eq_QG, eq_QGs, eq_QSet, eq_QIp, eq_QGet, eq_QI, eq_QK, eq_QO, eq_QTs, eq_QPs, eq_QX, eq_QX1, eq_QXE] at *
  exact pw_or1 ha
end
section
variable {X : Cx} {a b : Expr} {ta tb : TE} {pos : Pos}
theorem q_set_list  :
    QSet X rSetL := by
  simp only [eq_QE, eq_QT, eq_QW, eq_QA, eq_QS, eq_QSs, eq_QC, eq_QG, eq_QGs, eq_QSet, eq_QIp, eq_QGet, eq_QI, eq_QK, eq_QO, eq_QTs, eq_QPs, eq_QX, eq_QX1, eq_QXE] at *
  exact set_list 
end
section
variable {X : Cx} {o i e value : Expr} {pos pos' tpos : Pos} {td ty tv : TE}
end
section
variable {X : Cx} {a b : Expr} {ta tb : TE} {pos : Pos}
variable {o e : Expr} {es : List Expr} {to : TE} {t : TA} {name : Str} {apos cpos : Pos} {T id : String} {r : V → List V → Hp → VK → Prop}
theorem q_pe_bm0 (pa : PlainAttrs T) (slot : Slot T name id) (hty : typeOf (.builtin id) = pure (.type "method_descriptor")) (hm : MtR X id r) (ho : QE X o to) (hbase : attributeBase o name X.env (eval o X.env) = eval o X.env := by rfl) (hline : (apos.endLine == cpos.line) = true := by rfl) :
    QE X (.Call (.Attribute o name apos) [] [] cpos) (tBM0 X.K T r to) := by
  simp only [eq_QE, eq_QT, eq_QW, eq_QA, eq_QS, eq_QSs, eq_QC, eq_QG, eq_QGs, eq_QSet, eq_QIp, eq_QGet, eq_QI, eq_QK, eq_QO, eq_QTs, eq_QPs, eq_QX, eq_QX1, eq_QXE] at *
  exact pe_bm0 pa slot hty hm ho hbase hline
end
section
variable {X : Cx} {K : PySem.W.Frag} {e : Expr} {te : TE} {p1 p2 p3 pos : Pos} {j : Nat}
end
section
variable {X : Cx} {st : Stmt} {rest : List Stmt} {t u : TS} {e : Expr} {te : TE} {pos : Pos}
end
section
variable {X : Cx} {st : Stmt} {rest : List Stmt} {t u : TS} {e : Expr} {te : TE} {pos : Pos}
end
section
variable {X : Cx} {st : Stmt} {rest : List Stmt} {t u : TS} {e : Expr} {te : TE} {pos : Pos}
end
section
variable {X : Cx} {a b c : Expr} {ta tb tc : TE} {pos : Pos}
end
section
variable {X : Cx} {st : Stmt} {rest : List Stmt} {t u : TS} {e : Expr} {te : TE} {pos : Pos}
end
section
variable {X : Cx} {o e f : Expr} {apos cpos : Pos} {td ty tx : TE}
end
section
variable {X : Cx} {o e f : Expr} {apos cpos : Pos} {td ty tx : TE}
end
section
variable {X : Cx} {o i e value : Expr} {pos pos' tpos : Pos} {td ty tv : TE}
end
section
variable {X : Cx} {o i e value : Expr} {pos pos' tpos : Pos} {td ty tv : TE}
end
section
variable {X : Cx}
variable {a b : Expr} {ta tb : TE} {pos : Pos}
end
section
variable {X : Cx}
variable {a b : Expr} {ta tb : TE} {pos : Pos}
end
section
variable {X : Cx} {tg : Expr}
end
section
end
section
variable {X : Cx} {a b c : Expr} {ta tb tc : TE} {pos : Pos}
end
section
variable {X : Cx} {x : Str} {p pos : Pos} {e : Expr} {es : List Expr} {t : TA} {k : Nat} {ps : List Str} {sp : Sp}
end
section
variable {X : Cx}
end
section
variable {X : Cx} {k v : Expr} {tk tv : TE} {pos : Pos}
end
section
variable {X : Cx} {K : PySem.W.Frag} {e : Expr} {te : TE} {p1 p2 p3 pos : Pos} {j : Nat}
end
section
variable {X : Cx} {K : PySem.W.Frag} {pos : Pos} {e fn : Expr} {es : List Expr} {t : TA} {k : Nat}
end
section
variable {X : Cx} {K : PySem.W.Frag} {pos : Pos} {e fn : Expr} {es : List Expr} {t : TA} {k : Nat}
end
section
end
section
variable {X : Cx} {st : Stmt} {rest : List Stmt} {t u : TS} {e : Expr} {te : TE} {pos : Pos}
end
section
variable {X : Cx}
variable {a b : Expr} {ta tb : TE} {pos : Pos}
variable {tA tB' : TT} {rest : List Expr}
end
section
variable {X : Cx} {K : PySem.W.Frag} {e : Expr} {es : List Expr} {te : TE} {t : TA} {p : Pos}
end
section
variable {X : Cx}
end
section
variable {X : Cx} {E : XK} {x : Str} {C : Addr} {B newId initId : String} {bmB : List Value} {np cpos pos : Pos} {e : Expr} {es : List Expr} {t : TA}
end
section
variable {X : Cx} {st : Stmt} {rest : List Stmt} {t u : TXS} {te : TXE} {e : Expr} {es : List Expr} {pos : Pos}
end
section
variable {X : Cx} {st : Stmt} {rest : List Stmt} {t u : TXS} {te : TXE} {e : Expr} {es : List Expr} {pos : Pos}
end
section
variable {X : Cx} {st : Stmt} {rest : List Stmt} {t u : TXS} {te : TXE} {e : Expr} {es : List Expr} {pos : Pos}
end
section
variable {X : Cx} {st : Stmt} {rest : List Stmt} {t u : TXS} {te : TXE} {e : Expr} {es : List Expr} {pos : Pos}
end
section
variable {X : Cx} {st : Stmt} {rest : List Stmt} {t u : TXS} {te : TXE} {e : Expr} {es : List Expr} {pos : Pos}
end
section
variable {X : Cx} {st : Stmt} {rest : List Stmt} {t u : TXS} {te : TXE} {e : Expr} {es : List Expr} {pos : Pos}
end
section
variable {X : Cx} {st : Stmt} {rest : List Stmt} {t u : TXS} {te : TXE} {e : Expr} {es : List Expr} {pos : Pos}
end
section
variable {X : Cx} {st : Stmt} {rest : List Stmt} {t u : TXS} {te : TXE} {e : Expr} {es : List Expr} {pos : Pos}
variable {k : Nat} {f : Addr} {fd : FuncData} {ps : List Str} {sp : Sp} {dvs : List V} {ds : List Value} {x : Str} {p : Pos} {ta : TA}
end
section
variable {X : Cx} {k : Nat} {ps : List Str} {sp : Sp} {E : XK} {x : Str} {p pos : Pos} {e : Expr} {es : List Expr} {t : TA}
end
section
variable {X : Cx} {k : Nat} {ps : List Str} {sp : Sp} {E : XK} {x : Str} {p pos : Pos} {e : Expr} {es : List Expr} {t : TA}
end
section
variable {X : Cx} {k kc : Nat} {pn : Str} {sp : List Env → Shared → Sp} {x q : Str} {p pos lpos : Pos} {c Pt : Addr} {params : Arguments} {body : Expr} {scope : Scope} {own : List Nat} {Nl : List Str} {tb : XK → TE}
end
section
end
section
variable {X : Cx} {k : Nat} {f : Addr} {spc : VK → XK → Hp → Prop} {x : Str} {p pos : Pos} {tv : TE}
end
section
end
end L2

namespace L2
open PySem PySem.Spec PyProof.Rows
section
variable {P : Program} {w : World} {K : PySem.W.Frag} {mg : Str → Option Value} {base : Heap}
theorem FunC.okQ {x qual : Str} {st : Stmt} {f c : Addr} {fd : FuncData} {N ps : List Str} {k : Nat} {sp : Sp} (F : FunC K x qual st f fd c) (S : FnScope N ps (defScope st)) (len : ∀ vs H Q E, sp vs H Q E → vs.length = ps.length)
    (hbody : ∀ (A : Around) (outer : List Env) (s : Shared) (H : Hp) (vs : List V) (Q : VK) (E : XK), Room k (A.deeper (envOfC qual (defScope st) s.heap.objs.size f (.ref c))) → sp vs H Q E →
      ∃ t, QSs (cxOf CX0 P w K mg base N qual (defScope st) f (.ref c) A outer s H E).nox (defBody st) t ∧ t { nx := fun _ H' => Q .non H', rt := Q } (start N vs) H) : FnOk P w K mg base CX0 (k + 1) f fd ps sp :=
  F.ok S len fun A outer s H vs Q E hr h => let ⟨t, ht, q⟩ := hbody A outer s H vs Q E hr h; ⟨t, ht.run, q⟩
end
end L2

namespace KW
open PySem L2
end KW

namespace L2
open PySem PySem.Spec PyProof.Rows
section
variable {prog : Program} {w : World} {A : Around} {E : Value → Shared → Prop} {s : Shared} {T : String} {r d : Addr} {n : Nat} {P : Nat → Value → Prop} {OK : Heap → Prop}
theorem collect_kdl {Q : List Value → Shared → Prop} (K : PySem.W.KdlSrc prog w T r d n P OK) (hh : A.handled = none) (hok : OK s.heap) (hn : n ≤ sizeLine)
    (hQ : ∀ h' tk acc', (∀ b o, s.heap.get? b = some o → h'.get? b = some o) → s.heap.objs.size ≤ h'.objs.size → PySem.ItemsOf P acc' n → Q acc'.toList { s with heap := h', toks := tk }) :
    wpAny (model prog w) A (collect (.ref r)) Q E s := by
  unfold collect
  have key : codeAny (model prog w) A (.builtin "proto.collect" ⟨[.ref r], []⟩) (fun x s' => ∃ h' tk acc', x = .ok (.ret (.ref s.heap.objs.size)) ∧ s' = { s with heap := h', toks := tk } ∧ (∀ b o, s.heap.get? b = some o → h'.get? b = some o) ∧ (∃ c', h'.get? s.heap.objs.size = some { cls := .type "list", dict := none, data := .seq acc' c', slots := #[] }) ∧ PySem.ItemsOf P acc' n) s := by
    refine codeAny_builtin F.entry_proto_collect ?_
    rw [Around.under_plainId F.plain_proto_collect _]
    show wpAny _ A.in1 (newList [] >>= fun l => again (.builtin "list.__iadd__" ⟨[l, .ref r], []⟩)) _ _ s
    refine wpAny_bind (wpAny_newObj_type ?_)
    refine wpAny_pure ⟨plainId_quiet F.plain_list_iadd _, codeAny_builtin F.entry_list_iadd ?_⟩
    rw [Around.under_plainId F.plain_list_iadd _]
    show wpAny _ A.in1 (Builtin.List.listExtendWith (.ref s.heap.objs.size) (.ref r) (.ref s.heap.objs.size)) _ _ _
    have hS : (s.heap.push { cls := .type "list", data := .seq ([] : List Value).toArray }).get? s.heap.objs.size = some { cls := .type "list", data := .seq #[] 0 } := Heap.get?_push_size _ rfl
    have hlt := K.there _ hok
    refine PySem.W.kdl_extend (R := fun x s' => ∃ h' tk acc', x = .ok (.ret (.ref s.heap.objs.size)) ∧ s' = { s with heap := h', toks := tk } ∧ (∀ b o, s.heap.get? b = some o → h'.get? b = some o) ∧ (∃ c', h'.get? s.heap.objs.size = some { cls := .type "list", dict := none, data := .seq acc' c', slots := #[] }) ∧ PySem.ItemsOf P acc' n) (s := { s with heap := s.heap.push { cls := .type "list", data := .seq ([] : List Value).toArray } }) K hh (K.keep _ _ hok fun b _ o e => Heap.get?_push_of_some _ e) s.heap.objs.size (Nat.ne_of_gt hlt.1) (Nat.ne_of_gt hlt.2) (.ref s.heap.objs.size) _ hS (fun h' tk acc' c' hk hS' hacc => ?_) hn
    exact ⟨h', tk, acc', rfl, rfl, fun b o e => hk b o (Nat.ne_of_lt (Heap.lt_size e)) (Heap.get?_push_of_some _ e), ⟨c', hS'⟩, hacc⟩
  refine wpAny_bind (wpAny_runValue (codeAny_mono key (fun x s' hx => ?_)))
  obtain ⟨h', tk, acc', rfl, rfl, kp, ⟨c', hS'⟩, hacc⟩ := hx
  show wpAny _ A (load s.heap.objs.size >>= _) _ _ _
  refine wpAny_bind (wpAny_load hS' ?_)
  refine wpAny_pure ?_
  show Q acc'.toList _
  exact hQ h' tk acc' kp (Nat.le_of_lt (Heap.lt_size hS')) hacc
variable {α : Type} {R : α → Value → Prop} {f : α → KD}
theorem sorted_kdl {as : List α} {vs : List Value} {k : Nat} {Q : Value → Shared → Prop} (K : PySem.W.KdlSrc prog w T r d n P OK) (hu : A.units + 2 < cLine) (hh : A.handled = none) (hok : OK s.heap) (hn : n ≤ sizeLine)
    (hv : ∀ acc : Array Value, PySem.ItemsOf P acc n → acc.toList = vs) (hR : ∀ a v, R a v → (f a).Is prog w s.heap v) (h : Paired R as vs) (hk : ∀ a ∈ as, (f a).kind = k)
    (hQ : ∀ h' tk p bs us, NewL s.heap h' p us → bs.Perm as → Paired R bs us → Rises (bs.map f) → Q (.ref p) { s with heap := h', toks := tk }) : wpAny (model prog w) A (call (.builtin "sorted") [.ref r]) Q E s := by
  refine sorted_of (R := R) (f := f) hu (collect_kdl K (by simpa using hh) hok hn fun h' tk acc kp g0 hacc => ?_)
  have ev := hv acc hacc
  refine ⟨as, k, fun a v z => (hR a v z).keep fun b o e _ => kp b o e, by rw [ev]; exact h, hk, ?_, fun h2 p bs us N p1 p2 p3 => ?_⟩
  · have : acc.toList.length = n := by rw [Array.length_toList]; exact hacc.1
    rw [this]; exact hn
  · obtain ⟨n1, n2, n3⟩ := N
    exact hQ h2 tk p bs us ⟨fun b o e => n1 b o (kp b o e), Nat.le_trans g0 n2, n3⟩ p1 p2 p3
end
section
variable {X : Cx} {K : PySem.W.Frag}
end
end L2

namespace L2
open PySem PySem.Spec PyProof.Rows
section
variable {P : Program} {w : World}
def IsPr (P : Program) (w : World) (h : Heap) (k : List Int) (a : Addr) : Prop := ∃ o t b n, h.get? a = some o ∧ o.cls = .type "tuple" ∧ o.data = .seq #[.int k.length t, .ref b] n ∧ IsTupleKey (PySem.intKind P w) h k b
def prHash (P : Program) (w : World) (k : List Int) : Int := reduceHash (Builtin.Tuple.tupleHashOf [(PySem.intKind P w).hash (k.length : Int), tupleKeyHash (PySem.intKind P w) k])
theorem IsPr.typ {s : Shared} {k : List Int} {a : Addr} (h : IsPr P w s.heap k a) : s.TypeIs (.ref a) "tuple" := let ⟨o, _, _, _, ho, hc, _⟩ := h; ⟨o, ho, hc⟩
theorem IsPr.one {h : Heap} {a : Addr} {x y : List Int} (hx : IsPr P w h x a) (hy : IsPr P w h y a) : x = y := by
  obtain ⟨o, t, b, n, ho, _, hd, hi⟩ := hx
  obtain ⟨o', t', b', n', ho', _, hd', hi'⟩ := hy
  rw [ho] at ho'
  cases ho'
  rw [hd] at hd'
  injection hd' with h1 _
  have e : b = b' := by
    have := congrArg (fun z : Array Value => z.toList) h1
    simp at this
    exact this.2
  subst e
  exact hi.inj hi'
theorem IsPr.kept {h h' : Heap} {k : List Int} {a d : Addr} {o : Obj} {es ep} (x : IsPr P w h k a) (ho : h.get? d = some o) (hd : o.data = .dict es ep) (hs : Heap.SameBut d h h') : IsPr P w h' k a := by
  obtain ⟨o1, t, b, n, ho1, hc, hd1, hi⟩ := x
  have hne : a ≠ d := by
    rintro rfl
    rw [ho] at ho1
    cases ho1
    rw [hd] at hd1; cases hd1
  exact ⟨o1, t, b, n, (hs.2 a hne).trans ho1, hc, hd1, hi.keeps ho hd hs⟩
theorem IsPr.stays {h h' : Heap} {k : List Int} {a : Addr} {d : Addr} {o : Obj} {es ep} (x : IsPr P w h k a) (ho : h.get? d = some o) (hd : o.data = .dict es ep) (hs : ∀ b o, b ≠ d → h.get? b = some o → h'.get? b = some o) : IsPr P w h' k a := by
  obtain ⟨o1, t, b, n, ho1, hc, hd1, ⟨o2, its, m, ho2, hc2, hd2, hi⟩⟩ := x
  have n1 : a ≠ d := by
    rintro rfl
    rw [ho] at ho1
    cases ho1
    rw [hd] at hd1; cases hd1
  have n2 : b ≠ d := by
    rintro rfl
    rw [ho] at ho2
    cases ho2
    rw [hd] at hd2; cases hd2
  exact ⟨o1, t, b, n, hs _ _ n1 ho1, hc, hd1, o2, its, m, hs _ _ n2 ho2, hc2, hd2, hi⟩
variable {A : Around} {E : Value → Shared → Prop} {s : Shared}
theorem pr_hash {k : List Int} {a : Addr} {Q : Int → Shared → Prop} (hu : A.units + 1 < cLine) (hk : IsPr P w s.heap k a) (h : Q (prHash P w k) { s with toks := s.toks + (k.length + 3) }) :
    wpAny (model P w) A (pyHash (.ref a)) Q E s := by
  have hT := hk.typ
  obtain ⟨o, t, b, n, ho, _, hd, hi⟩ := hk
  unfold pyHash
  first | unfold pyHashByItsType | skip
  first | refine wpAny_bind (wpAny_cRoomFor_or (.inr (by omega)) ?_) | skip
  refine wpAny_bind (wpAny_specialOf hT F.slot_tuple_hash.lookup ?_)
  show wpAny _ _ (if (some (Value.builtin "tuple.__hash__") == some Value.none) = true then _ else _) Q E s
  rw [if_neg (by rw [beq_builtin_none]; exact Bool.false_ne_true)]
  refine wpAny_bind (wpAny_specialOf hT F.slot_tuple_hash.lookup ?_)
  show wpAny _ _ (callSpecialIfBoundUnlessNone? (.ref a) "__hash__" _ >>= _) Q E s
  refine wpAny_bind (wpAny_callSpecialIfBoundUnlessNone?_slot hT F.slot_tuple_hash (wpAny_call_entry F.slot_tuple_hash hT F.entry_tuple_hash ?_ (F.args_tuple_hash_1 _)))
  show wpAny _ _ (Builtin.Tuple.tupleItemsOf (.ref a) >>= _) _ _ s
  refine wpAny_bind (wpAny_tupleItemsOf ho hd (wpAny_bind ?_))
  rw [← Array.forIn_toList]
  refine wpAny_forIn_list _
    (fun rest (r : Array Int) s' => (rest = [.int k.length t, .ref b] ∧ r.toList = [] ∧ s' = s) ∨ (rest = [.ref b] ∧ r.toList = [(PySem.intKind P w).hash (k.length : Int)] ∧ s' = { s with toks := s.toks + 1 }) ∨
      (rest = [] ∧ r.toList = [(PySem.intKind P w).hash (k.length : Int), tupleKeyHash (PySem.intKind P w) k] ∧ s' = { s with toks := s.toks + 1 + (k.length + 1) })) _ ?_ ?_ _ _ (.inl ⟨rfl, rfl, rfl⟩)
  · rintro x rest r s' (⟨e, hr, rfl⟩ | ⟨e, hr, rfl⟩ | ⟨e, _⟩)
    · injection e with e1 e2
      subst e1 e2
      refine wpAny_bind ((PySem.intKind P w).pyHash (intKind_is P w _ t) ?_)
      first
        | exact wpAny_pure (.inr (.inl ⟨rfl, by simp [hr], rfl⟩))
        | exact wpAny_bind (wpAny_pure (wpAny_pure (.inr (.inl ⟨rfl, by simp [hr], rfl⟩))))
    · injection e with e1 e2
      subst e1 e2
      refine wpAny_bind (wpAny_pyHash_tuple (s := { s with toks := s.toks + 1 }) (by show A.units + 1 < cLine; exact hu) hi ?_)
      first
        | exact wpAny_pure (.inr (.inr ⟨rfl, by simp [hr], rfl⟩))
        | exact wpAny_bind (wpAny_pure (wpAny_pure (.inr (.inr ⟨rfl, by simp [hr], rfl⟩))))
    · cases e
  · rintro r s' (⟨e, _⟩ | ⟨e, _⟩ | ⟨_, hr, rfl⟩)
    · cases e
    · cases e
    · show wpAny _ _ (retInt (Builtin.Tuple.tupleHashOf r.toList)) _ _ _
      rw [hr]
      refine wpAny_ret_mkInt ?_
      have et : s.toks + 1 + (k.length + 1) + 1 = s.toks + (k.length + 3) := by omega
      unfold prHash reduceHash at h
      generalize hz : Builtin.Tuple.tupleHashOf [(PySem.intKind P w).hash (k.length : Int), tupleKeyHash (PySem.intKind P w) k] = z at h ⊢
      show wpAny _ _ (if (decide (-(2 : Int) ^ 63 ≤ z) && decide (z < 2 ^ 63)) = true then _ else _) Q E _
      by_cases hb : (decide (-(2 : Int) ^ 63 ≤ z) && decide (z < 2 ^ 63)) = true
      · rw [if_pos hb]
        rw [if_pos hb] at h
        exact wpAny_pure (by simpa [et] using h)
      · rw [if_neg hb]
        rw [if_neg hb] at h
        exact wpAny_bind (wpAny_rule (wpAny_pure (by simpa [et] using h)))
theorem pr_eq_tree {x y : List Int} {a b : Addr} {R : Fin → Shared → Prop} (hu : A.units < cLine) (hx : IsPr P w s.heap x a) (hy : IsPr P w s.heap y b) (h : R (.done (.ret (.bool (decide (x = y))))) s) :
    wpAny (model P w) A (Builtin.«tuple.__eq__» ⟨[.ref a, .ref b], []⟩) R E s := by
  have hTb := hy.typ
  obtain ⟨oa, ta, ba, na, hoa, _, hda, hia⟩ := hx
  obtain ⟨ob, tb, bb, nb, hob, _, hdb, hib⟩ := hy
  show wpAny _ _ (isInstance (.ref b) (.type "tuple") >>= _) _ _ s
  refine wpAny_bind (wpAny_isInstance hTb isSubtype_tuple_tuple ?_)
  simp only [Bool.not_true, Bool.false_eq_true, if_false]
  refine wpAny_bind (wpAny_tupleItemsOf hoa hda (wpAny_bind (wpAny_tupleItemsOf hob hdb (wpAny_bind ?_))))
  refine wpAny_forIn_list _
    (fun rest r s' => r.1 = none ∧ s' = s ∧ (rest = [(.int x.length ta, .int y.length tb), (.ref ba, .ref bb)] ∨ (rest = [(.ref ba, .ref bb)] ∧ x.length = y.length) ∨ (rest = [] ∧ x = y))) _ ?_ ?_ _ _ ⟨rfl, rfl, .inl rfl⟩
  · rintro ⟨u, v⟩ rest r s' ⟨hr, rfl, e | ⟨e, hl⟩ | ⟨e, _⟩⟩
    · injection e with e1 e2
      injection e1 with e3 e4
      subst e2 e3 e4
      refine wpAny_bind ((PySem.intKind P w).eqBool (a := (x.length : Int)) (b := (y.length : Int)) (intKind_is P w _ ta) (intKind_is P w _ tb) ?_)
      by_cases hk : (x.length : Int) = (y.length : Int)
      · rw [decide_eq_true hk]
        simp only [Bool.not_true, Bool.false_eq_true, if_false]
        exact wpAny_pure ⟨rfl, rfl, .inr (.inl ⟨trivial, by omega⟩)⟩
      · rw [decide_eq_false hk]
        simp only [Bool.not_false, if_true]
        rw [decide_eq_false (fun z : x = y => hk (by rw [z]))] at h
        exact wpAny_bind (wpAny_pure (wpAny_pure (wpAny_pure h)))
    · injection e with e1 e2
      injection e1 with e3 e4
      subst e2 e3 e4
      refine wpAny_bind (wpAny_eqBool_tuple hu hia hib ?_)
      by_cases hk : x = y
      · rw [decide_eq_true hk]
        simp only [Bool.not_true, Bool.false_eq_true, if_false]
        exact wpAny_pure ⟨rfl, rfl, .inr (.inr ⟨trivial, hk⟩)⟩
      · rw [decide_eq_false hk]
        simp only [Bool.not_false, if_true]
        rw [decide_eq_false hk] at h
        exact wpAny_bind (wpAny_pure (wpAny_pure (wpAny_pure h)))
    · cases e
  · rintro ⟨r1, r2⟩ s' ⟨hr, rfl, e | ⟨e, hl⟩ | ⟨_, e⟩⟩
    · cases e
    · cases e
    · simp only at hr
      subst hr
      refine wpAny_pure ?_
      show R (.done (.ret (.bool ((2 : Nat) == 2)))) s'
      rw [decide_eq_true e] at h
      exact h
theorem pr_eq {x y : List Int} {a b : Addr} {Q : Bool → Shared → Prop} (hu : A.units + 1 < cLine) (hx : IsPr P w s.heap x a) (hy : IsPr P w s.heap y b) (h : Q (decide (x = y)) s) :
    wpAny (model P w) A (eqBool (.ref a) (.ref b)) Q E s := by
  unfold eqBool
  try with_reducible refine wpAny_holding ?_
  show wpAny _ _ (if (Value.ref a == Value.ref b) = true then _ else _) Q E s
  by_cases hab : (Value.ref a == Value.ref b) = true
  · rw [if_pos hab]
    have e : a = b := by have := eq_of_beq hab; injection this
    subst e
    obtain rfl := hx.one hy
    exact wpAny_bind (wpAny_rule (wpAny_pure (by simpa using h)))
  · rw [if_neg hab]
    exact wpAny_bind (wpAny_richCompare_same_room (op := .Eq) hx.typ hy.typ F.slot_tuple_eq
      (wpAny_call_entry F.slot_tuple_eq hx.typ F.entry_tuple_eq (pr_eq_tree (by show A.units + 1 < cLine; exact hu) hx hy ⟨_, rfl, (fun e => nomatch e), wpAny_truthy_bool h⟩) (F.args_tuple_eq_2 _ _)) (by omega))
theorem quiet_tup {m : Nat} {ks : List Int} {a : Addr} {Q : Bool → Shared → Prop} (hk : IsTupleKey (PySem.intKind P w) s.heap ks a) (h : Q true s) : wpAny (model P w) A (eqIsQuiet (m + 1) (.ref a)) Q E s := by
  have hT := hk.typeIs
  obtain ⟨o, items, n, ho, _, hd, hi⟩ := hk
  unfold eqIsQuiet
  refine wpAny_bind (wpAny_specialOf hT F.slot_tuple_eq.lookup ?_)
  show wpAny _ _ (isInstance (.ref a) (.type "tuple") >>= _) _ _ s
  refine wpAny_bind (wpAny_isInstance hT isSubtype_tuple_tuple ?_)
  simp only [Bool.not_true, Bool.false_eq_true, if_false]
  refine wpAny_bind (wpAny_seqItems ho hd (wpAny_bind ?_))
  show wpAny _ _ (forIn items _ _) _ _ s
  rw [← Array.forIn_toList]
  refine wpAny_forIn_list _ (fun rest r s' => r.1 = none ∧ s' = s ∧ ∀ v ∈ rest, carriedByValue v = true) _ ?_ ?_ _ _ ⟨rfl, rfl, hi.byValue⟩
  · rintro v rest r s' ⟨hr, rfl, hall⟩
    rw [eqIsQuiet_byValue _ (hall v List.mem_cons_self)]
    refine wpAny_bind (wpAny_pure ?_)
    simp only [Bool.not_true, Bool.false_eq_true, if_false]
    exact wpAny_pure ⟨rfl, rfl, fun u hu' => hall u (List.mem_cons_of_mem _ hu')⟩
  · rintro ⟨r1, r2⟩ s' ⟨hr, rfl, _⟩
    simp only at hr
    subst hr
    exact wpAny_pure h
theorem pr_quiet {k : List Int} {a : Addr} {Q : Bool → Shared → Prop} (hk : IsPr P w s.heap k a) (h : Q true s) : wpAny (model P w) A (eqIsQuiet 8 (.ref a)) Q E s := by
  have hT := hk.typ
  obtain ⟨o, t, b, n, ho, _, hd, hi⟩ := hk
  unfold eqIsQuiet
  refine wpAny_bind (wpAny_specialOf hT F.slot_tuple_eq.lookup ?_)
  show wpAny _ _ (isInstance (.ref a) (.type "tuple") >>= _) _ _ s
  refine wpAny_bind (wpAny_isInstance hT isSubtype_tuple_tuple ?_)
  simp only [Bool.not_true, Bool.false_eq_true, if_false]
  refine wpAny_bind (wpAny_seqItems ho hd (wpAny_bind ?_))
  show wpAny _ _ (forIn _ _ _) _ _ s
  rw [← Array.forIn_toList]
  refine wpAny_forIn_list _ (fun rest r s' => r.1 = none ∧ s' = s ∧ (rest = [.int k.length t, .ref b] ∨ rest = [.ref b] ∨ rest = [])) _ ?_ ?_ _ _ ⟨rfl, rfl, .inl rfl⟩
  · rintro v rest r s' ⟨hr, rfl, e | e | e⟩
    · injection e with e1 e2
      subst e1 e2
      rw [eqIsQuiet_byValue _ (show carriedByValue (Value.int k.length t) = true from rfl)]
      refine wpAny_bind (wpAny_pure ?_)
      simp only [Bool.not_true, Bool.false_eq_true, if_false]
      exact wpAny_pure ⟨rfl, rfl, .inr (.inl trivial)⟩
    · injection e with e1 e2
      subst e1 e2
      refine wpAny_bind (quiet_tup hi ?_)
      simp only [Bool.not_true, Bool.false_eq_true, if_false]
      exact wpAny_pure ⟨rfl, rfl, .inr (.inr trivial)⟩
    · cases e
  · rintro ⟨r1, r2⟩ s' ⟨hr, rfl, _⟩
    simp only at hr
    subst hr
    exact wpAny_pure h
end
def prKind (P : Program) (w : World) : HeapKind P w (List Int) where
  is := IsPr P w
  hash := prHash P w
  draws := fun k => k.length + 3
  room := fun A => A.units + 1 < cLine
  inj := fun hx hy => hx.one hy
  keeps := fun x ho hd hs => x.kept ho hd hs
  pyHash := fun hu hk h => pr_hash hu hk h
  eqBool := fun hu hx hy h => pr_eq hu hx hy h
  quiet := fun hk h => pr_quiet hk h
end L2

set_option maxHeartbeats 4000000
namespace L2
open PySem PySem.Spec PyProof.Rows
abbrev PrT := Addr × Addr × List Int
def PrsT (K : PySem.W.Frag) (H : Hp) (ps : List PrT) : Prop := ∀ q ∈ ps, SqT K H q.1 [.int q.2.2.length, .ref q.2.1] ∧ SqT K H q.2.1 (q.2.2.map V.int)
abbrev refPr (ps : List PrT) : List V := ps.map fun q => V.ref q.1
theorem PrsT.same {K : PySem.W.Frag} {H H' : Hp} {ps : List PrT} (h : PrsT K H ps) (s : Same H H') : PrsT K H' ps := fun q hq => ⟨s.sqT (h q hq).1, s.sqT (h q hq).2⟩
theorem PrsT.sx {K : PySem.W.Frag} {H H' : Hp} {D : Addr} {ys : List V} {ps : List PrT} (h : PrsT K H ps) (hD : H D = some (.lst ys)) (s : SameX D H H') : PrsT K H' ps := fun q hq => ⟨(h q hq).1.sx hD s, (h q hq).2.sx hD s⟩
def addPr (xs : List PrT) (p : PrT) : List PrT := if p.2.2 ∈ xs.map (·.2.2) then xs else xs ++ [p]
def mergePr (xs ps : List PrT) : List PrT := ps.foldl addPr xs
theorem addPr_len {xs : List PrT} {p : PrT} : (addPr xs p).length ≤ xs.length + 1 := by
  unfold addPr
  split
  · omega
  · simp
theorem addPr_mem {xs : List PrT} {p : PrT} {x : List Int} : x ∈ (addPr xs p).map (·.2.2) ↔ x ∈ xs.map (·.2.2) ∨ x = p.2.2 := by
  unfold addPr
  split
  · rename_i h
    constructor
    · exact .inl
    · rintro (h' | rfl)
      · exact h'
      · exact h
  · simp only [List.map_append, List.map_cons, List.map_nil, List.mem_append, List.mem_singleton]
theorem addPr_nd {xs : List PrT} {p : PrT} (h : (xs.map (·.2.2)).Nodup) : ((addPr xs p).map (·.2.2)).Nodup := by
  unfold addPr
  split
  · exact h
  · rename_i hn
    rw [List.map_append, List.nodup_append]
    refine ⟨h, by simp, fun x hx y hy e => hn ?_⟩
    simp only [List.map_cons, List.map_nil, List.mem_singleton] at hy
    rw [← hy, ← e]; exact hx
theorem addPr_sub {xs : List PrT} {p q : PrT} (h : q ∈ addPr xs p) : q ∈ xs ∨ q = p := by
  unfold addPr at h
  split at h
  · exact .inl h
  · rcases List.mem_append.mp h with h | h
    · exact .inl h
    · exact .inr (List.mem_singleton.mp h)
theorem mergePr_len : ∀ {ps xs : List PrT}, (mergePr xs ps).length ≤ xs.length + ps.length
  | [], xs => Nat.le_refl _
  | p :: ps, xs => by
    have a := mergePr_len (ps := ps) (xs := addPr xs p)
    have b := addPr_len (xs := xs) (p := p)
    show (mergePr (addPr xs p) ps).length ≤ _
    rw [List.length_cons]; omega
theorem mergePr_mem : ∀ {ps xs : List PrT} {x : List Int}, x ∈ (mergePr xs ps).map (·.2.2) ↔ x ∈ xs.map (·.2.2) ∨ x ∈ ps.map (·.2.2)
  | [], xs, x => by simp [mergePr]
  | p :: ps, xs, x => by
    show x ∈ (mergePr (addPr xs p) ps).map (·.2.2) ↔ _
    rw [mergePr_mem, addPr_mem, List.map_cons, List.mem_cons, or_assoc]
theorem mergePr_nd : ∀ {ps xs : List PrT}, (xs.map (·.2.2)).Nodup → ((mergePr xs ps).map (·.2.2)).Nodup
  | [], xs, h => h
  | p :: ps, xs, h => mergePr_nd (ps := ps) (addPr_nd h)
theorem mergePr_sub : ∀ {ps xs : List PrT} {q : PrT}, q ∈ mergePr xs ps → q ∈ xs ∨ q ∈ ps
  | [], xs, q, h => .inl h
  | p :: ps, xs, q, h => by
    rcases mergePr_sub (ps := ps) (xs := addPr xs p) h with h | h
    · rcases addPr_sub h with h | h
      · exact .inl h
      · exact .inr (by rw [h]; exact List.mem_cons_self)
    · exact .inr (List.mem_cons_of_mem _ h)
theorem mergePr_snoc {xs ps : List PrT} {p : PrT} : mergePr xs (ps ++ [p]) = addPr (mergePr xs ps) p := by
  unfold mergePr; rw [List.foldl_append]; rfl
def prX (xs : List PrT) : List (List Int × Addr × Value) := xs.map fun q => (q.2.2, q.1, .bool true)
theorem prX_keys (xs : List PrT) : (prX xs).map (·.1) = xs.map (·.2.2) := by unfold prX; rw [List.map_map]; rfl
theorem prX_put (xs : List PrT) (p : PrT) : storedH (prX xs) p.2.2 p.1 (.bool true) = prX (addPr xs p) := by
  unfold addPr
  by_cases h : p.2.2 ∈ xs.map (·.2.2)
  · rw [if_pos h]
    have hs : (atKey (prX xs) p.2.2).isSome = true := by
      cases e : atKey (prX xs) p.2.2 with
      | some _ => rfl
      | none =>
        exfalso
        rw [← prX_keys] at h
        obtain ⟨x, hx, ex⟩ := List.mem_map.mp h
        unfold atKey at e
        rw [Option.map_eq_none_iff, List.find?_eq_none] at e
        exact e x hx (by simpa using ex)
    unfold storedH
    rw [if_pos hs]
    unfold prX
    rw [List.map_map]
    refine List.map_congr_left fun q _ => ?_
    show putAt _ _ (q.2.2, q.1, Value.bool true) = _
    unfold putAt
    split <;> rfl
  · rw [if_neg h]
    have hs : atKey (prX xs) p.2.2 = none := by
      unfold atKey
      rw [Option.map_eq_none_iff, List.find?_eq_none]
      intro x hx e
      refine h ?_
      rw [← prX_keys]
      exact List.mem_map.mpr ⟨x, hx, by simpa using e⟩
    rw [storedH_new hs]
    unfold prX
    rw [List.map_append]; rfl
def DictPn (P : Program) (w : World) (d : Addr) (xs : List PrT) (h : Heap) : Prop := (d == sysModules) = false ∧ ∃ o es ep, h.get? d = some o ∧ o.ExactDict ∧ o.data = .dict es ep ∧ es.toList = (prX xs).map (entryOfKey (prKind P w)) ∧ (xs.map (·.2.2)).Nodup
def DictP (P : Program) (w : World) (d : Addr) (xs : List PrT) : HO := .ext (DictPn P w d xs)
theorem DictPn.at {P : Program} {w : World} {d : Addr} {xs : List PrT} {h h' : Heap} (x : DictPn P w d xs h) (k : ∀ o, h.get? d = some o → h'.get? d = some o) : DictPn P w d xs h' := by
  obtain ⟨lo, o, es, ep, ho, r⟩ := x
  exact ⟨lo, o, es, ep, k _ ho, r⟩
theorem DictPn.ok {P : Program} {w : World} {H : Hp} {d : Addr} {xs : List PrT} {h : Heap} (x : DictPn P w d xs h) : ObjOk P w H h d (DictP P w d xs) := by
  refine ⟨x, ?_, fun h1 h2 p k => p.at k⟩
  obtain ⟨lo, o, es, ep, ho, r⟩ := x
  exact ⟨_, ho⟩
theorem DictPn.dictOf {P : Program} {w : World} {d : Addr} {xs : List PrT} {h : Heap} (x : DictPn P w d xs h) (hk : ∀ q ∈ xs, IsPr P w h q.2.2 q.1) : h.DictOfH (prKind P w) d (prX xs) := by
  obtain ⟨lo, o, es, ep, ho, hc, hd, he, nd⟩ := x
  refine ⟨o, es, ep, ho, hc, hd, he, fun x hx => ?_, by rw [prX_keys]; exact nd⟩
  obtain ⟨q, hq, rfl⟩ := List.mem_map.mp hx
  exact hk q hq
theorem DictPn.of {P : Program} {w : World} {d : Addr} {xs : List PrT} {h : Heap} (lo : (d == sysModules) = false) (x : h.DictOfH (prKind P w) d (prX xs)) : DictPn P w d xs h := by
  obtain ⟨o, es, ep, ho, hc, hd, he, _, nd⟩ := x
  rw [prX_keys] at nd
  exact ⟨lo, o, es, ep, ho, hc, hd, he, nd⟩
def rUpdPr (P : Program) (w : World) (K : PySem.W.Frag) : V → List V → Hp → VK → Prop := fun x as H Q => ∃ (d l : Addr) (xs : List PrT) (qs : List (Addr × PrT)), x = .ref d ∧ as = [.ref l] ∧ ((H d = some (.dT []) ∧ xs = []) ∨ H d = some (DictP P w d xs)) ∧ PrsT K H xs ∧ SqL K H l (qs.map fun q => .ref q.1) ∧
  (∀ q ∈ qs, SqT K H q.1 [.ref q.2.1, .bl true]) ∧ PrsT K H (qs.map (·.2)) ∧ xs.length + qs.length ≤ sizeLine ∧ Q .non (upd H d (DictP P w d (mergePr xs (qs.map (·.2)))))
section
variable {X : Cx} {K : PySem.W.Frag}
theorem Inv.isPr {pins : List (Addr × Obj)} {σ : St} {H : Hp} {s : Shared} (I : Inv X pins σ H s) {q : PrT} (h : SqT X.K H q.1 [.int q.2.2.length, .ref q.2.1] ∧ SqT X.K H q.2.1 (q.2.2.map V.int)) : IsPr X.prog X.w s.heap q.2.2 q.1 := by
  obtain ⟨a, o, t, b, n, e, r⟩ := I.kd (k := .p q.2.2.length q.2.2) (v := .ref q.1) (u := .ref q.1) ⟨_, _, rfl, h.1, h.2⟩ rfl
  cases e
  exact ⟨o, t, b, n, r⟩
theorem mt_updatePr {m : Nat} (ek : X.K = K) (hr : Room m X.A) (hc : X.calm = true) : MtR X "dict.update" (rUpdPr X.prog X.w K) := by
  subst ek
  intro pins s σ H x as v us Q I rx rxs h
  obtain ⟨d, l, xs, qs, rfl, rfl, hd, hx, hl, ht, hq, len, q⟩ := h
  cases rx
  rw [Vals.ref1 rxs]
  have hu := hr.un
  have D0 : DictPn X.prog X.w d xs s.heap := by
    rcases hd with ⟨hd, rfl⟩ | hd
    · obtain ⟨hz, lo, ys, rel, o, es, ep, ho, hx, hdt, hes, hnd⟩ := (show ObjOk X.prog X.w H s.heap d (.dT []) from I.hok d _ hd)
      cases rel
      exact ⟨lo, o, es, ep, ho, hx, hdt, by rw [hes]; rfl, List.nodup_nil⟩
    · exact (I.hok d _ hd).1
  have writ : ∃ od, H d = some od ∧ (od = .dT [] ∨ od = DictP X.prog X.w d xs) := by
    rcases hd with ⟨hd, _⟩ | hd
    · exact ⟨_, hd, .inl rfl⟩
    · exact ⟨_, hd, .inr rfl⟩
  have kx : ∀ p ∈ xs, IsPr X.prog X.w s.heap p.2.2 p.1 := fun p hp => I.isPr (hx p hp)
  have kq : ∀ p ∈ qs, IsPr X.prog X.w s.heap p.2.2.2 p.2.1 := fun p hp => I.isPr (hq p.2 (List.mem_map.mpr ⟨p, hp, rfl⟩))
  obtain ⟨its, rv, pl, _⟩ := I.list hl
  obtain ⟨lo, o0, es0, ep0, ho0, hc0, hd0, _⟩ := id D0
  have hT : s.TypeIs (.ref d) "dict" := ⟨o0, ho0, hc0.1⟩
  have hne : d ≠ l := fun e => by
    obtain ⟨o2, n2, ho2, hc2, _⟩ := pl
    rw [← e, ho0] at ho2
    cases ho2
    rw [hc0.1] at hc2
    injection hc2 with hc2
    exact absurd hc2 (by decide)
  let J : Nat → Heap → Prop := fun i h => DictPn X.prog X.w d (mergePr xs ((qs.take i).map (·.2))) h ∧ ∀ b o, b ≠ d → s.heap.get? b = some o → h.get? b = some o
  have hlen : its.length = qs.length := by rw [← rv.length, List.length_map]
  refine call_meetsIn PySem.F.slot_dict_update hT PySem.F.entry_dict_update (PySem.F.args_dict_update_2 _ _) (meets_update_list d l its.toArray J hne) ⟨I.ok.hd hc, hT, pl, ⟨_, ho0⟩, ⟨D0, fun b o _ e => e⟩, ?_, ?_, ?_⟩
  · rintro i h h' it hit ⟨d', hk⟩ hh
    have hdi : d ≠ it := fun e => by
      rw [← e, ho0] at hit; cases hit
    refine ⟨d'.at fun o ho => hh d o hdi ho, fun b o hb e => hh b o (fun eb => ?_) (hk b o hb e)⟩
    rw [eb, hit] at e; cases e
  · rintro i v s1 Q1 hi hv ⟨d', hk⟩ hq1
    have hv' : its[i]? = some v := by simpa using hv
    have hip : i < qs.length := by rw [← hlen]; simpa using hi
    obtain ⟨p, hp⟩ : ∃ p, qs[i]? = some p := ⟨_, List.getElem?_eq_getElem hip⟩
    have hpm := List.mem_of_getElem? hp
    obtain ⟨u, hu1, ru⟩ := rv.get (i := i) (x := .ref p.1) (by rw [List.getElem?_map, hp]; rfl)
    rw [hv'] at hu1
    cases hu1
    cases ru
    obtain ⟨ts, rt, tt, _⟩ := I.tuple (ht p hpm)
    cases rt with
    | cons ra rt =>
      cases rt with
      | cons rb rt =>
        cases rt
        cases ra
        cases rb
        obtain ⟨o, ho, hcl, nn, hdat⟩ := tt
        have hpd : p.1 ≠ d := fun e => by
          rw [e, ho0] at ho
          cases ho
          rw [hc0.1] at hcl
          injection hcl with hcl
          exact absurd hcl (by decide)
        refine ⟨p.1, _, _, rfl, ⟨o, hk _ _ hpd ho, hcl, nn, hdat⟩, ?_⟩
        have kk : ∀ {k : List Int} {a : Addr}, IsPr X.prog X.w s.heap k a → IsPr X.prog X.w s1.heap k a := fun z => z.stays ho0 hd0 hk
        have l2 := mergePr_len (ps := (qs.take i).map (·.2)) (xs := xs)
        rw [List.length_map, List.length_take] at l2
        have D1 : s1.heap.DictOfH (prKind X.prog X.w) d (prX (mergePr xs ((qs.take i).map (·.2)))) := d'.dictOf fun z hz => by
          rcases mergePr_sub hz with hz | hz
          · exact kk (kx z hz)
          · obtain ⟨y, hy, rfl⟩ := List.mem_map.mp hz
            exact kk (kq y (List.mem_of_mem_take hy))
        refine wpAny_dictSet_heap (knd := prKind X.prog X.w) (k := p.2.2.2) (by show _ + 1 < cLine; simp; omega) (kk (kq p hpm)) D1 (fun h' dd' hs => hq1 h' _ (Nat.le_add_right _ _) hs ⟨?_, fun b o hb e => ?_⟩) (by unfold prX; rw [List.length_map]; omega)
        · have e : (qs.take (i + 1)).map (·.2) = (qs.take i).map (·.2) ++ [p.2] := by rw [List.take_succ, hp]; simp
          rw [prX_put] at dd'
          rw [e, mergePr_snoc]
          exact DictPn.of lo dd'
        · rw [hs.2 b hb]; exact hk b o hb e
  · rintro h' tk ⟨d', hk⟩ _
    have hsz : its.toArray.size = qs.length := by simp [hlen]
    rw [hsz, List.take_length] at d'
    have he : ∃ o, h'.get? d = some o := let ⟨_, o, _, _, ho, _⟩ := d'; ⟨o, ho⟩
    obtain ⟨od, e1, e2⟩ := writ
    exact ⟨.non, _, I.write (x := d) (e := d) (by rw [e1]; rcases e2 with rfl | rfl <;> exact True.intro) (.inl rfl) (fun b o hb e => hk b o hb e) he d'.ok, rfl, q⟩
def rSortDP (P : Program) (w : World) (K : PySem.W.Frag) : List V → Hp → VK → Prop := fun as H Q => ∃ (d : Addr) (xs : List PrT), as = [.ref d] ∧ H d = some (DictP P w d xs) ∧ PrsT K H xs ∧ xs.length ≤ sizeLine ∧
  ∀ (zs : List PrT) (p : Addr), zs.Perm xs → Rises (zs.map fun z => KD.p z.2.2.length z.2.2) → H p = none → Q (.ref p) (upd H p (.lst (refPr zs)))
theorem pr_self {P : Program} {w : World} {h : Heap} : ∀ {zs : List PrT}, (∀ z ∈ zs, IsPr P w h z.2.2 z.1) → Paired (fun (z : PrT) (v : Value) => v = Value.ref z.1 ∧ IsPr P w h z.2.2 z.1) zs ((zs.map (·.1)).map Value.ref)
  | [], _ => .nil
  | z :: zs, h => .cons ⟨rfl, h z List.mem_cons_self⟩ (pr_self fun y hy => h y (List.mem_cons_of_mem _ hy))
theorem pr_refs {R : PrT → Value → Prop} (hR : ∀ z v, R z v → v = .ref z.1) : ∀ {bs : List PrT} {us : List Value}, Paired R bs us → Vals (refPr bs) us
  | _, _, .nil => .nil
  | _, _, .cons r t => .cons (hR _ _ r) (pr_refs hR t)
theorem cr_sortDP {m : Nat} (e : X.K = K) (hr : Room m X.A) (hc : X.calm = true) : CallR X (.builtin "sorted") (rSortDP X.prog X.w K) := by
  subst e
  intro pins s σ H vs us Q I r h
  obtain ⟨d, xs, rfl, hd, hp, hz, q⟩ := h
  rw [Vals.ref1 r]
  obtain ⟨lo, o, es, ep, ho, hx, hdt, hes, hnd⟩ := (I.hok d _ hd).1
  have hl : es.size = xs.length := by
    rw [← Array.length_toList, hes, List.length_map]; unfold prX; rw [List.length_map]
  have hu := hr.un
  have hv : ∀ acc : Array Value, PySem.ItemsOf (fun i v => ∃ en, es[i]? = some en ∧ v = en.key) acc es.size → acc.toList = (xs.map (·.1)).map Value.ref := fun acc hi => by
    refine List.ext_getElem? fun i => ?_
    have hs : acc.toList.length = xs.length := by rw [Array.length_toList, hi.1, hl]
    by_cases hlt : i < xs.length
    · have h1 : acc.toList[i]? = some (acc.toList[i]'(by omega)) := List.getElem?_eq_getElem _
      obtain ⟨en, e1, e2⟩ := hi.2 i _ (by rw [← Array.getElem?_toList]; exact h1)
      rw [h1, e2]
      unfold prX at hes
      rw [← Array.getElem?_toList, hes, List.getElem?_map, List.getElem?_map, List.getElem?_eq_getElem hlt] at e1
      rw [List.getElem?_map, List.getElem?_map, List.getElem?_eq_getElem hlt]
      cases e1
      rfl
    · rw [List.getElem?_eq_none (by omega), List.getElem?_eq_none (by rw [List.length_map, List.length_map]; omega)]
  have tz : ∀ z ∈ xs, IsPr X.prog X.w s.heap z.2.2 z.1 := fun z hz => I.isPr (hp z hz)
  refine sorted_kdl (R := fun (z : PrT) (v : Value) => v = Value.ref z.1 ∧ IsPr X.prog X.w s.heap z.2.2 z.1) (f := fun z => KD.p z.2.2.length z.2.2) (k := 2) (as := xs) (kdl_any lo hx hdt) (by omega) (I.ok.hd hc) ho (by rw [hl]; exact hz) hv (fun a v z => ?_) (pr_self tz) (fun _ _ => rfl) fun h' tk p bs us N p1 p2 p3 => ?_
  · obtain ⟨e1, o, t, b, n, r⟩ := z
    exact ⟨a.1, o, t, b, n, e1, r⟩
  obtain ⟨n1, n2, e3, n3⟩ := N
  have hl2 : (refPr bs).length ≤ sizeLine := by rw [List.length_map, p1.length_eq]; exact hz
  exact ⟨.ref p, upd H p (.lst (refPr bs)), I.laid (t' := tk) n1 n2 ⟨hl2, us, e3, pr_refs (fun z v h => h.1) p2, n3⟩, rfl, q bs p p1 p3 (I.hok.fresh n2)⟩
end
end L2

set_option maxHeartbeats 4000000
namespace L2
open PySem PySem.Spec PyProof.Rows
def rSortDI : List V → Hp → VK → Prop := fun xs H Q => ∃ (d : Addr) (cs : List Int) (kvs : List (Key × V)), xs = [.ref d] ∧ H d = some (.dK kvs) ∧ kvs.map (·.1) = cs.map Sum.inl ∧
  ∀ (zs : List Int) (p : Addr), zs.Perm cs → zs.Pairwise (· ≤ ·) → H p = none → Q (.ref p) (upd H p (.lst (zs.map V.int)))
theorem di_items {P : Program} {w : World} : ∀ {es : List DictEntry} {kvs : List (Key × Value)} {cs : List Int}, Pairs (mixKind P w) es kvs → kvs.map (·.1) = cs.map Sum.inl → Paired (fun (i : Int) (v : Value) => ∃ t, v = Value.int i t) cs (es.map (·.key))
  | _, _, cs, .nil, h => by
    cases cs with
    | nil => exact .nil
    | cons c cs => cases h
  | _, _, cs, .cons r _ t, h => by
    cases cs with
    | nil => cases h
    | cons c cs =>
      rw [List.map_cons, List.map_cons] at h
      injection h with h1 h2
      refine .cons ?_ (di_items t h2)
      rcases keyIs_shape r with ⟨i, t, e, e2⟩ | ⟨x, t, e, e2⟩
      · rw [h1] at e
        cases e
        exact ⟨t, e2⟩
      · rw [h1] at e; cases e
theorem di_vals : ∀ {bs : List Int} {us : List Value}, Paired (fun (i : Int) (v : Value) => ∃ t, v = Value.int i t) bs us → Vals (bs.map V.int) us
  | _, _, .nil => .nil
  | _, _, .cons r t => .cons r (di_vals t)
section
variable {X : Cx} {K : PySem.W.Frag}
theorem cr_sortDI {m : Nat} (hr : Room m X.A) (hc : X.calm = true) : CallR X (.builtin "sorted") rSortDI := by
  intro pins s σ H vs us Q I r h
  obtain ⟨d, cs, kvs, rfl, hd, ek, q⟩ := h
  rw [Vals.ref1 r]
  obtain ⟨hz, lo, ws, rel, o, es, ep, ho, hx, hdt, hko, hes, hnd⟩ := (show ObjOk X.prog X.w H s.heap d (.dK kvs) from I.hok d _ hd)
  have kw : ws.map (·.1) = cs.map Sum.inl := by
    rw [← ek]
    clear ek hz hd hes hnd q
    induction rel with
    | nil => rfl
    | cons a t ih => rw [List.map_cons, List.map_cons, ih, a.1]
  have pr := di_items hes kw
  have hl : es.size = cs.length := by rw [← Array.length_toList, ← List.length_map (f := (·.key)), ← Paired.length pr]
  have hl2 : cs.length = kvs.length := by rw [← List.length_map (f := (·.1)) (as := kvs), ek, List.length_map]
  have hu := hr.un
  have hv : ∀ acc : Array Value, PySem.ItemsOf (fun i v => ∃ en, es[i]? = some en ∧ v = en.key) acc es.size → acc.toList = es.toList.map (·.key) := fun acc hi => by
    refine List.ext_getElem? fun i => ?_
    by_cases hlt : i < es.size
    · have h1 : acc.toList[i]? = some (acc.toList[i]'(by rw [Array.length_toList, hi.1]; exact hlt)) := List.getElem?_eq_getElem _
      obtain ⟨en, e1, e2⟩ := hi.2 i _ (by rw [← Array.getElem?_toList]; exact h1)
      rw [h1, e2, List.getElem?_map, Array.getElem?_toList, e1]
      rfl
    · rw [List.getElem?_eq_none (by rw [Array.length_toList, hi.1]; omega), List.getElem?_eq_none (by rw [List.length_map, Array.length_toList]; omega)]
  refine sorted_kdl (R := fun (i : Int) (v : Value) => ∃ t, v = Value.int i t) (f := KD.n) (k := 0) (as := cs) (kdl_any lo hx hdt) (by omega) (I.ok.hd hc) ho (by rw [hl, hl2]; exact hz) hv (fun a v z => z) pr (fun _ _ => rfl) fun h' tk p bs us N p1 p2 p3 => ?_
  obtain ⟨n1, n2, e3, n3⟩ := N
  exact ⟨.ref p, upd H p (.lst (bs.map V.int)), I.laid (t' := tk) n1 n2 ⟨by rw [List.length_map, p1.length_eq, hl2]; exact hz, us, e3, di_vals p2, n3⟩, rfl, q bs p p1 (rises_ints p3) (I.hok.fresh n2)⟩
end
end L2

set_option maxHeartbeats 4000000
namespace L2
open PySem PySem.Spec PyProof.Rows
section
variable {X : Cx} {K : PySem.W.Frag} {o e : Expr} {es : List Expr} {to : TE} {t : TA} {apos cpos : Pos}
def tUpdPr (P : Program) (w : World) (K : PySem.W.Frag) (to : TE) (t : TA) : TE := fun σ H Q => to σ H fun x H1 => (∃ d xs, x = .ref d ∧ ((H1 d = some (.dT []) ∧ xs = []) ∨ H1 d = some (DictP P w d xs))) ∧ t σ H1 fun ys H2 => rUpdPr P w K x ys H2 Q
theorem pr_is {pins : List (Addr × Obj)} {σ : St} {H : Hp} {s : Shared} {d : Addr} {xs : List PrT} (I : Inv X pins σ H s) (h : (H d = some (.dT []) ∧ xs = []) ∨ H d = some (DictP X.prog X.w d xs)) : ∃ o, s.heap.get? d = some o ∧ o.ExactDict := by
  rcases h with ⟨h, _⟩ | h
  · obtain ⟨_, _, _, _, o, _, _, e, ex, _⟩ := I.hok d _ h
    exact ⟨o, e, ex⟩
  · obtain ⟨_, o, _, _, e, ex, _⟩ := (I.hok d _ h).1
    exact ⟨o, e, ex⟩
theorem pe_updPr {m : Nat} (ek : X.K = K) (hr : Room m X.A) (hc : X.calm = true) (ho : PE X o to) (ha : PA X (e :: es) t) (hbase : attributeBase o "update" X.env (eval o X.env) = eval o X.env := by rfl)
    (hfew : ((backTo cpos (starEach (e :: es) X.env)).all (fun x => !x.1) && (backToKw cpos (keywordEach [] X.env)).all (fun x => x.1.isSome)
      && decide ((e :: es).length + ([] : List Keyword).length + (if ([] : List Keyword).isEmpty then 0 else 1) < 30)) = true := by rfl)
    (hline : (apos.endLine == cpos.line) = true := by rfl) (hs : starEach (e :: es) X.env = (false, eval e X.env) :: starEach es X.env := by rfl) (hplain : (backTo cpos (starEach es X.env)).any (·.1) = false := by rfl) :
    PE X (.Call (.Attribute o "update" apos) (e :: es) [] cpos) (tUpdPr X.prog X.w K to t) := by
  intro pins s σ H Q I h
  refine wpAny_Call_method_late hbase hfew hline rfl (thn (ho pins s σ H _ I h) fun v s1 ⟨x, H1, I1, r1, ty, q1⟩ => ?_)
  obtain ⟨d, xs, rfl, hd⟩ := ty
  obtain ⟨od, e1, ex⟩ := pr_is I1 hd
  cases r1
  refine ⟨"dict", "dict.update", PySem.F.plainAttrs_dict, PySem.F.slot_dict_update, PySem.F.type_dict_update, ⟨od, e1, ex.1⟩, fun a e2 => ?_, ?_⟩
  · cases e2
    exact ⟨od, e1, ex.2.1⟩
  have hA := ha cpos pins s1 σ H1 _ I1 q1
  rw [hs] at hA ⊢
  refine Calls.callWith_builtin (by show (false || (backTo cpos (starEach es X.env)).any (·.1)) = false; rw [hplain] <;> rfl) (Calls.evalArgs_plain ?_)
  exact thn hA fun us s2 ⟨vs, H2, I2, r2, q2⟩ => mt_updatePr ek hr hc pins s2 σ H2 (.ref d) vs _ us Q I2 rfl r2 q2
end
end L2

namespace L2
open PySem PySem.Spec PyProof.Rows
section
variable {X : Cx} {K : PySem.W.Frag} {o e : Expr} {es : List Expr} {to : TE} {t : TA} {apos cpos : Pos}
theorem q_pe_updPr {m : Nat} (ek : X.K = K) (hr : Room m X.A) (hc : X.calm = true) (ho : QE X o to) (ha : QA X (e :: es) t) (hbase : attributeBase o "update" X.env (eval o X.env) = eval o X.env := by rfl)
    (hfew : ((backTo cpos (starEach (e :: es) X.env)).all (fun x => !x.1) && (backToKw cpos (keywordEach [] X.env)).all (fun x => x.1.isSome)
      && decide ((e :: es).length + ([] : List Keyword).length + (if ([] : List Keyword).isEmpty then 0 else 1) < 30)) = true := by rfl)
    (hline : (apos.endLine == cpos.line) = true := by rfl) (hs : starEach (e :: es) X.env = (false, eval e X.env) :: starEach es X.env := by rfl) (hplain : (backTo cpos (starEach es X.env)).any (·.1) = false := by rfl) :
    QE X (.Call (.Attribute o "update" apos) (e :: es) [] cpos) (tUpdPr X.prog X.w K to t) := ⟨pe_updPr ek hr hc ho.run ha.run hbase hfew hline hs hplain⟩
end
end L2
namespace KW
open PySem L2
@[elab_as_elim] theorem alloc {H : Hp} {A : Addr} {motive : Hp → Prop} (o : HO) (hA : H A = none) (h : ∀ H', Same H H' → H' A = some o → motive H') : motive (L2.upd H A o) := h _ (Same.upd hA) upd_same
end KW

namespace KW
open PySem L2
def top (i : Nat) : Stmt := PySem.Challenge.pw_wholesides_k05_faces_and_holders.main.body.getD i (.Pass ⟨0, 0, 0, 0⟩)
structure Txt (base : Heap) (mg : Str → Option Value) : Prop where
  no_range : mg "range" = none
  no_len : mg "len" = none
  no_abs : mg "abs" = none
  no_tuple : mg "tuple" = none
  no_sorted : mg "sorted" = none
  no_repr : mg "repr" = none
  no_list : mg "list" = none
  no_set : mg "set" = none
  no_isinstance : mg "isinstance" = none
  no_bool : mg "bool" = none
  no_enumerate : mg "enumerate" = none
  no_any : mg "any" = none
  no_all : mg "all" = none
  bm : BmK base mg
section
variable {P : Program} {w : World} {K : PySem.W.Frag} {mg : Str → Option Value} {base : Heap} {f c tb : Addr} {fd : FuncData}
abbrev s__law_draw : Stmt := top 10
abbrev N__law_draw : List Str := ["_law_pen", "_law_many", "_law_cell", "_law_one", "_law_two", "_law_digit", "_law_script", "_law_at"]
abbrev P__law_draw : List Str := ["_law_pen", "_law_many"]
theorem sc__law_draw : FnScope N__law_draw P__law_draw (defScope s__law_draw) := ⟨rfl, rfl, rfl, by decide +kernel, rfl, by decide +kernel, by decide +kernel⟩
theorem ok__law_draw (F : FunC K "_law_draw" "_law_draw" s__law_draw f fd c) (T : Txt base mg) : FnOk P w K mg base CX0 1 f fd P__law_draw (spDraw K) := by
  refine F.okQ sc__law_draw (fun vs H Q E h => ?_) (fun A outer s H vs Q E hr h => ?_)
  · obtain ⟨p, a, ns, x, y, m, rfl, _⟩ := h
    rfl
  · obtain ⟨p, a, ns, x, y, m, rfl, Pn, m1, m2, k⟩ := h
    refine ⟨_, (q_pss_cons (q_ps_if (q_pt_cmpR op_gt (q_pe_ix (ix_listK (K := K) rfl) (q_pv 0) q_pe_int (fun _ _ => rfl)) q_pe_int (nomark _))
      (q_pss_cons (q_ps_set (i := 5) sc__law_draw.nd rfl (by first | exact Or.inl rfl | exact Or.inr rfl) (q_pe_op op_modN (q_pe_ix (ix_listK (K := K) rfl) (q_pv 0) q_pe_int (fun _ _ => rfl)) (q_pv 1)))
      (q_pss_cons (q_ps_asg (q_pe_op op_fdivN (q_pe_ix (ix_listK (K := K) rfl) (q_pv 0) q_pe_int (fun _ _ => rfl)) (q_pv 1)) (q_pg_sub (q_pv 0) q_pe_int q_set_list))
      (q_pss_one (q_ps_ret (q_pv 5)))))
      q_pss_nil)
      (q_pss_cons (q_ps_asg (q_pe_slice (sl_listK (K := K) rfl) (q_pv 0) q_po_none (q_po_some q_pe_int)) (q_pg_tupLK (n := 2) (K := K) rfl rfl (q_pgs_cons (q_pg_name (i := 6) sc__law_draw.nd rfl (by first | exact Or.inl rfl | exact Or.inr rfl)) (q_pgs_cons (q_pg_name (i := 7) sc__law_draw.nd rfl (by first | exact Or.inl rfl | exact Or.inr rfl)) q_pgs_nil))))
      (q_pss_cons (q_ps_asg (q_pe_op op_add (q_pv 7) q_pe_int) (q_pg_sub (q_pv 0) q_pe_int q_set_list))
      (q_pss_cons (q_ps_set (i := 2) sc__law_draw.nd rfl (by first | exact Or.inl rfl | exact Or.inr rfl) q_pe_int)
      (q_pss_cons (q_ps_if (q_pt_cmpR op_gt (q_pe_callB (call_lenK (K := K) rfl) rfl T.no_len (by decide +kernel) (q_pa_cons (q_pv 6) q_pa_nil)) q_pe_int (nomark _))
      (q_pss_one (q_ps_set (i := 2) sc__law_draw.nd rfl (by first | exact Or.inl rfl | exact Or.inr rfl) (q_pe_ix (ix_listK (K := K) rfl) (q_pv 6) (q_pe_op op_modN (q_pv 7) (q_pe_callB (call_lenK (K := K) rfl) rfl T.no_len (by decide +kernel) (q_pa_cons (q_pv 6) q_pa_nil))) (fun _ _ => rfl))))
      q_pss_nil)
      (q_pss_cons (q_ps_if (q_PW_pt (q_pw_and (q_pt_cmpR op_lt (q_pv 7) (q_pe_callB (call_lenK (K := K) rfl) rfl T.no_len (by decide +kernel) (q_pa_cons (q_pv 6) q_pa_nil)) (nomark _)) (q_pw_and1 (q_pt_cmpR op_ge (q_pe_callB call_abs rfl T.no_abs (by decide +kernel) (q_pa_cons (q_pv 2) q_pa_nil)) (q_pe_op op_pow q_pe_int q_pe_int) (nomark _)))))
      (q_pss_cons (q_ps_asg (q_pe_op op_fdivN (q_pe_callB call_abs rfl T.no_abs (by decide +kernel) (q_pa_cons (q_pv 2) q_pa_nil)) (q_pv 1)) (q_pg_sub (q_pv 0) q_pe_int q_set_list))
      (q_pss_one (q_ps_ret (q_pe_op op_modN (q_pe_callB call_abs rfl T.no_abs (by decide +kernel) (q_pa_cons (q_pv 2) q_pa_nil)) (q_pv 1)))))
      q_pss_nil)
      (q_pss_cons (q_ps_set (i := 3) sc__law_draw.nd rfl (by first | exact Or.inl rfl | exact Or.inr rfl) (q_pe_op op_modN (q_pe_op op_mul (q_pe_op op_add (q_pe_op op_add (q_pe_op op_modN (q_pv 2) q_pe_int) (q_pe_op op_mul q_pe_int (q_pv 7))) q_pe_int) q_pe_int) q_pe_int))
      (q_pss_cons (q_ps_set (i := 4) sc__law_draw.nd rfl (by first | exact Or.inl rfl | exact Or.inr rfl) (q_pe_op op_modN (q_pe_op op_add (q_pe_op op_add (q_pe_op op_mul (q_pv 3) (q_pv 3)) (q_pe_op op_mul q_pe_int (q_pv 3))) (q_pe_op op_mul q_pe_int (q_pv 7))) q_pe_int))
      (q_pss_one (q_ps_ret (q_pe_op op_modN (q_pe_op op_fdivN (q_pe_op op_modN (q_pe_op op_mul (q_pv 4) (q_pe_op op_add (q_pe_op op_modN (q_pv 4) q_pe_int) q_pe_int)) q_pe_int) q_pe_int) (q_pv 1)))))))))))), ?_⟩
    have hp := Pn.at_
    have m0 : m ≠ 0 := by omega
    have m3 : m.natAbs < 1073741824 := by have : m < 1000000000 := m2; omega
    refine ⟨_, rfl, p, _, 2, _, rfl, rfl, SqL.of hp, at_of (j := 2) rfl rfl, _, _, rfl, rfl, _, rfl, ite2 (fun h => ?_) (fun h => ?_)⟩
    · refine ⟨_, rfl, p, _, 2, _, rfl, rfl, SqL.of hp, at_of (j := 2) rfl rfl, _, rfl, _, _, rfl, rfl, m0, ?_⟩
      refine ⟨_, rfl, p, _, 2, _, rfl, rfl, SqL.of hp, at_of (j := 2) rfl rfl, _, rfl, _, _, rfl, rfl, ⟨m0, m3⟩, ?_⟩
      refine ⟨_, rfl, p, _, 2, 2, rfl, rfl, hp, rfl, ?_⟩
      refine ⟨_, rfl, ?_⟩
      exact k _ x _ _ (fmod_nn m1) (fmod_lt m1) SameX.upd (Pn.set Pn.x0 (fdiv_nn m1 Pn.y0))
    · refine ⟨_, rfl, _, rfl, p, _, rfl, SqL.of hp, fun l hl => ?_⟩
      refine ⟨l, _, rfl, SqL.of upd_same, rfl, _, _, rfl, _, _, rfl, rfl, ?_⟩
      have npl : p ≠ l := ne_of_none hp hl
      have hp1 : upd H l (.lst [.ref a, .int x]) p = some (.lst [.ref a, .int x, .int y]) := by rw [upd_ne npl]; exact hp
      have P1 : Pen K (upd H l (.lst [.ref a, .int x])) p a ns x y := Pn.same (Same.upd hl)
      refine ⟨_, rfl, _, _, rfl, rfl, _, rfl, p, _, 1, 1, rfl, rfl, hp1, rfl, ?_⟩
      have P2 := P1.set (x' := x + 1) (y' := y) (by have := Pn.x0; omega) Pn.y0
      have s2 : SameX p H (upd (upd H l (.lst [.ref a, .int x])) p (.lst [.ref a, .int (x + 1), .int y])) := (SameX.of (Same.upd hl)).trans SameX.upd
      -- the cell
      have hl2 : ((ns.map V.int).length : Int) = (ns.length : Int) := by rw [List.length_map]
      refine ⟨_, rfl, _, _, rfl, .inl ⟨_, P2.sc, rfl⟩, _, _, rfl, rfl, _, rfl, ite2 (fun h1 => ?_) (fun h1 => ?_)⟩
      · have hn : 0 < ns.length := by
          have := of_decide_eq_true h1
          rw [List.length_map] at this
          omega
        obtain ⟨z, hz⟩ := at_mod x hn
        rw [← hl2] at hz
        refine ⟨_, rfl, _, rfl, _, rfl, _, _, rfl, .inl ⟨_, P2.sc, rfl⟩, _, _, rfl, rfl, (by rw [List.length_map]; omega), a, _, _, _, rfl, rfl, P2.sc, hz, ?_⟩
        refine ⟨_, rfl, _, rfl, _, _, rfl, .inl ⟨_, P2.sc, rfl⟩, _, _, rfl, rfl, _, rfl, ite2 (fun h2 => ?_) (fun h2 => ?_)⟩
        · refine ⟨_, rfl, _, rfl, _, _, rfl, rfl, ⟨by decide, by decide, by decide⟩, _, _, rfl, rfl, _, rfl, ite2 (fun h3 => ?_) (fun h3 => ?_)⟩
          · refine ⟨_, rfl, _, rfl, _, rfl, _, _, rfl, rfl, ⟨m0, m3⟩, ?_⟩
            refine ⟨_, rfl, p, _, 2, 2, rfl, rfl, P2.at_, rfl, ?_⟩
            refine ⟨_, rfl, _, rfl, _, rfl, _, _, rfl, rfl, m0, ?_⟩
            exact k _ _ _ _ (fmod_nn m1) (fmod_lt m1) (s2.trans SameX.upd) (P2.set P2.x0 (fdiv_nn m1 (abs_nn _)))
          · refine ⟨_, rfl, _, _, rfl, rfl, (by show (_ : Int) ≠ 0; decide), _, rfl, _, _, rfl, rfl, .inl ⟨by decide, by decide⟩, _, _, rfl, rfl, _, _, rfl, rfl, _, _, rfl, rfl, .inr ⟨by decide, by decide⟩, _, _, rfl, rfl, (by show (_ : Int) ≠ 0; decide), ?_⟩
            refine ⟨_, rfl, _, rfl, _, _, rfl, rfl, .inl (fmod_bd (by decide) (by decide)), _, rfl, _, _, rfl, rfl, .inl ⟨by decide, by decide⟩, _, _, rfl, rfl, _, rfl, _, _, rfl, rfl, .inl ⟨by decide, by decide⟩, _, _, rfl, rfl, _, _, rfl, rfl, (by show (_ : Int) ≠ 0; decide), ?_⟩
            refine ⟨_, rfl, _, rfl, _, _, rfl, rfl, (by show (_ : Int) ≠ 0; decide), _, _, rfl, rfl, _, _, rfl, rfl, .inl (fmod_bd (by decide) (by decide)), _, _, rfl, rfl, (by show (_ : Int) ≠ 0; decide), _, _, rfl, rfl, ⟨by decide, by decide⟩, _, rfl, _, _, rfl, rfl, m0, ?_⟩
            exact k _ _ _ _ (fmod_nn m1) (fmod_lt m1) s2 P2
        · show (if false = true then _ else _)
          refine iteF ?_
          refine ⟨_, rfl, _, _, rfl, rfl, (by show (_ : Int) ≠ 0; decide), _, rfl, _, _, rfl, rfl, .inl ⟨by decide, by decide⟩, _, _, rfl, rfl, _, _, rfl, rfl, _, _, rfl, rfl, .inr ⟨by decide, by decide⟩, _, _, rfl, rfl, (by show (_ : Int) ≠ 0; decide), ?_⟩
          refine ⟨_, rfl, _, rfl, _, _, rfl, rfl, .inl (fmod_bd (by decide) (by decide)), _, rfl, _, _, rfl, rfl, .inl ⟨by decide, by decide⟩, _, _, rfl, rfl, _, rfl, _, _, rfl, rfl, .inl ⟨by decide, by decide⟩, _, _, rfl, rfl, _, _, rfl, rfl, (by show (_ : Int) ≠ 0; decide), ?_⟩
          refine ⟨_, rfl, _, rfl, _, _, rfl, rfl, (by show (_ : Int) ≠ 0; decide), _, _, rfl, rfl, _, _, rfl, rfl, .inl (fmod_bd (by decide) (by decide)), _, _, rfl, rfl, (by show (_ : Int) ≠ 0; decide), _, _, rfl, rfl, ⟨by decide, by decide⟩, _, rfl, _, _, rfl, rfl, m0, ?_⟩
          exact k _ _ _ _ (fmod_nn m1) (fmod_lt m1) s2 P2
      · refine ⟨_, rfl, _, rfl, _, _, rfl, .inl ⟨_, P2.sc, rfl⟩, _, _, rfl, rfl, _, rfl, ite2 (fun h2 => ?_) (fun h2 => ?_)⟩
        · refine ⟨_, rfl, _, rfl, _, _, rfl, rfl, ⟨by decide, by decide, by decide⟩, _, _, rfl, rfl, _, rfl, ite2 (fun h3 => ?_) (fun h3 => ?_)⟩
          · refine ⟨_, rfl, _, rfl, _, rfl, _, _, rfl, rfl, ⟨m0, m3⟩, ?_⟩
            refine ⟨_, rfl, p, _, 2, 2, rfl, rfl, P2.at_, rfl, ?_⟩
            refine ⟨_, rfl, _, rfl, _, rfl, _, _, rfl, rfl, m0, ?_⟩
            exact k _ _ _ _ (fmod_nn m1) (fmod_lt m1) (s2.trans SameX.upd) (P2.set P2.x0 (fdiv_nn m1 (abs_nn _)))
          · refine ⟨_, rfl, _, _, rfl, rfl, (by show (_ : Int) ≠ 0; decide), _, rfl, _, _, rfl, rfl, .inl ⟨by decide, by decide⟩, _, _, rfl, rfl, _, _, rfl, rfl, _, _, rfl, rfl, .inr ⟨by decide, by decide⟩, _, _, rfl, rfl, (by show (_ : Int) ≠ 0; decide), ?_⟩
            refine ⟨_, rfl, _, rfl, _, _, rfl, rfl, .inl (fmod_bd (by decide) (by decide)), _, rfl, _, _, rfl, rfl, .inl ⟨by decide, by decide⟩, _, _, rfl, rfl, _, rfl, _, _, rfl, rfl, .inl ⟨by decide, by decide⟩, _, _, rfl, rfl, _, _, rfl, rfl, (by show (_ : Int) ≠ 0; decide), ?_⟩
            refine ⟨_, rfl, _, rfl, _, _, rfl, rfl, (by show (_ : Int) ≠ 0; decide), _, _, rfl, rfl, _, _, rfl, rfl, .inl (fmod_bd (by decide) (by decide)), _, _, rfl, rfl, (by show (_ : Int) ≠ 0; decide), _, _, rfl, rfl, ⟨by decide, by decide⟩, _, rfl, _, _, rfl, rfl, m0, ?_⟩
            exact k _ _ _ _ (fmod_nn m1) (fmod_lt m1) s2 P2
        · show (if false = true then _ else _)
          refine iteF ?_
          refine ⟨_, rfl, _, _, rfl, rfl, (by show (_ : Int) ≠ 0; decide), _, rfl, _, _, rfl, rfl, .inl ⟨by decide, by decide⟩, _, _, rfl, rfl, _, _, rfl, rfl, _, _, rfl, rfl, .inr ⟨by decide, by decide⟩, _, _, rfl, rfl, (by show (_ : Int) ≠ 0; decide), ?_⟩
          refine ⟨_, rfl, _, rfl, _, _, rfl, rfl, .inl (fmod_bd (by decide) (by decide)), _, rfl, _, _, rfl, rfl, .inl ⟨by decide, by decide⟩, _, _, rfl, rfl, _, rfl, _, _, rfl, rfl, .inl ⟨by decide, by decide⟩, _, _, rfl, rfl, _, _, rfl, rfl, (by show (_ : Int) ≠ 0; decide), ?_⟩
          refine ⟨_, rfl, _, rfl, _, _, rfl, rfl, (by show (_ : Int) ≠ 0; decide), _, _, rfl, rfl, _, _, rfl, rfl, .inl (fmod_bd (by decide) (by decide)), _, _, rfl, rfl, (by show (_ : Int) ≠ 0; decide), _, _, rfl, rfl, ⟨by decide, by decide⟩, _, rfl, _, _, rfl, rfl, m0, ?_⟩
          exact k _ _ _ _ (fmod_nn m1) (fmod_lt m1) s2 P2
end
end KW

namespace KW
open PySem L2
section
variable {P : Program} {w : World} {K : PySem.W.Frag} {mg : Str → Option Value} {base : Heap} {f c tb : Addr} {fd : FuncData}
def spPool (K : PySem.W.Frag) : Sp := fun vs H Q _ => ∃ (p a : Addr) (ns : List Int) (x y : Int) (n : Nat), vs = [.ref p, .int n] ∧ Pen K H p a ns x y ∧ 1 ≤ n ∧ n ≤ 10 ∧
  ∀ (r : Addr) (l : List Int) (x' y' : Int) (H' : Hp), n ≤ l.length → l.length ≤ n + 4 → l.Nodup → (∀ z ∈ l, PZ z) → H r = none → r ≠ p → H' r = some (.lst (l.map V.int)) → SameX p H H' → Pen K H' p a ns x' y' → Q (.ref r) H'
abbrev s__law_pool : Stmt := top 11
abbrev N__law_pool : List Str := ["_law_pen", "_law_least", "_law_first", "_law_found", "_law_k"]
abbrev P__law_pool : List Str := ["_law_pen", "_law_least"]
theorem sc__law_pool : FnScope N__law_pool P__law_pool (defScope s__law_pool) := ⟨rfl, rfl, rfl, by decide +kernel, rfl, by decide +kernel, by decide +kernel⟩
theorem ok__law_pool (F : FunC K "_law_pool" "_law_pool" s__law_pool f fd c) (T : Txt base mg) (C__law_draw : Cal P w K mg base 1 "_law_draw" P__law_draw (spDraw K)) : FnOk P w K mg base CX0 2 f fd P__law_pool (spPool K) := by
  refine F.okQ sc__law_pool (fun vs H Q E h => ?_) (fun A outer s H vs Q E hr h => ?_)
  · obtain ⟨p, a, ns, x, y, n, rfl, _⟩ := h
    rfl
  · obtain ⟨p, a, ns, x, y, n, rfl, Pn, n1, n10, k⟩ := h
    refine ⟨_, (q_pss_cons (q_ps_set (i := 2) sc__law_pool.nd rfl (by first | exact Or.inl rfl | exact Or.inr rfl) (q_pe_op op_sub (q_pe_cal C__law_draw (hr.mono (by omega)) (q_pa_cons (q_pv 0) (q_pa_cons q_pe_int q_pa_nil))) q_pe_int))
      (q_pss_cons (q_ps_setLc (i := 3) (own := [("_law_k", 4)]) rfl sc__law_pool.nd rfl rfl (sw_true rfl rfl rfl (by decide +kernel)) (q_pi_range1 rfl T.no_range (q_pa_cons (q_pe_op op_add (q_pv 1) (q_pe_cal C__law_draw (hr.mono (by omega)) (q_pa_cons (q_pv 0) (q_pa_cons q_pe_int q_pa_nil)))) q_pa_nil)) (blkOk_by (own := [("_law_k", 4)]) (N := N__law_pool) (sc := defScope s__law_pool) (by decide +kernel)) (fun _ _ _ _ _ => (q_pg_name (i := 4) sc__law_pool.nd rfl (by first | exact Or.inl rfl | exact Or.inr rfl))) (fun _ _ _ _ _ => q_pts_nil) (fun _ _ _ _ _ => (q_pe_op op_add (q_pv 2) (q_pv 4))))
      (q_pss_cons (q_ps_if (q_pt_cmpR op_eq (q_pe_cal C__law_draw (hr.mono (by omega)) (q_pa_cons (q_pv 0) (q_pa_cons q_pe_int q_pa_nil))) q_pe_int (nomark _))
      (q_pss_one (q_ps_asg (q_pe_op op_sub (q_pe_op op_pow q_pe_int q_pe_int) q_pe_int) (q_pg_sub (q_pv 3) (q_pe_un un_neg q_pe_int) q_set_list)))
      q_pss_nil)
      (q_pss_cons (q_ps_if (q_pt_cmpR op_eq (q_pe_cal C__law_draw (hr.mono (by omega)) (q_pa_cons (q_pv 0) (q_pa_cons q_pe_int q_pa_nil))) q_pe_int (nomark _))
      (q_pss_one (q_ps_asg (q_pe_op op_sub q_pe_int (q_pe_op op_pow q_pe_int q_pe_int)) (q_pg_sub (q_pv 3) q_pe_int q_set_list)))
      q_pss_nil)
      (q_pss_one (q_ps_ret (q_pv 3))))))), ?_⟩
    refine ⟨_, rfl, p, a, ns, x, y, 40, rfl, Pn, by decide, by decide, fun d x1 y1 H1 d0 d1 s1 P1 => ⟨_, _, rfl, rfl, ?_⟩⟩
    refine ⟨_, rfl, _, rfl, p, a, ns, x1, y1, 5, rfl, P1, by decide, by decide, fun e x2 y2 H2 e0 e1 s2 P2 => ⟨_, _, rfl, rfl, _, rfl, (by omega), (by omega), fun D hD => ?_⟩⟩
    have s12 := s1.trans s2
    have neD : D ≠ p := (ne_of_none P2.at_ hD).symm
    have hD0 := s12.free hD neD
    refine lc_range (lo := 0) (fun i H' => ∃ (x' y' : Int), SameX p H H' ∧ Pen K H' p a ns x' y' ∧ H' D = some (.lst (((List.range i).map fun k : Nat => (d - 20) + (k : Int)).map V.int))) ⟨x2, y2, s12.updF hD0, Pn.up s12 P2 hD0 neD, upd_same⟩ ?_ ?_
    · rintro i H' hi ⟨x', y', h3, h4, h5⟩
      refine ⟨rfl, yes ⟨_, rfl, _, rfl, _, _, rfl, rfl, _, h5, ?_, x', y', h3.updF hD0, Pn.up h3 h4 hD0 neD, ?_⟩⟩
      · rw [List.length_map, List.length_map, List.length_range]; exact small (by omega)
      · rw [upd_same, List.range_succ, List.map_append, List.map_append]
        simp
    rintro H3 ⟨x3, y3, s3, P3, h5⟩
    obtain ⟨m, hm⟩ : ∃ m : Nat, ((n : Int) + e).toNat = m := ⟨_, rfl⟩
    rw [hm] at h5
    generalize hl : ((List.range m).map fun k : Nat => (d - 20) + (k : Int)) = l at h5
    have ll : l.length = m := by rw [← hl, List.length_map, List.length_range]
    have nd : l.Nodup := by rw [← hl]; exact pool_nd _ _
    have bz : ∀ z ∈ l, -20 ≤ z ∧ z < 100 := fun z hz => by
      rw [← hl] at hz
      obtain ⟨j, hj, rfl⟩ := List.mem_map.mp hz
      have := List.mem_range.mp hj
      omega
    refine ⟨_, rfl, p, a, ns, x3, y3, 3, rfl, P3, by decide, by decide, fun g x4 y4 H4 g0 g1 s4 P4 => ⟨rfl, _, rfl, ite2 (fun h => ?ya) (fun h => ?yb)⟩⟩
    case' ya =>
      have h5' := s4 D _ neD h5
      refine ⟨_, _, rfl, rfl, ⟨by decide, by decide, by decide⟩, _, _, rfl, rfl, ?_⟩
      rw [ten30]
      refine ⟨_, rfl, _, rfl, D, _, _, l.length - 1, rfl, rfl, h5', ?_, ?_⟩
      · unfold ixN
        rw [List.length_map, if_neg (by decide), if_pos (by omega)]
        congr 1
        omega
      rw [set_map]
      have s5 := (s3.trans s4).updF (o := .lst ((l.set (l.length - 1) (1000000000000000000000000000000 - 1)).map V.int)) hD0
      have P5 := Pn.up (o := .lst ((l.set (l.length - 1) (1000000000000000000000000000000 - 1)).map V.int)) (s3.trans s4) P4 hD0 neD
      have e5 : upd H4 D (.lst ((l.set (l.length - 1) (1000000000000000000000000000000 - 1)).map V.int)) D = some (.lst ((l.set (l.length - 1) (1000000000000000000000000000000 - 1)).map V.int)) := upd_same
      have ll5 : (l.set (l.length - 1) (1000000000000000000000000000000 - 1)).length = m := by rw [List.length_set, ll]
      have nd5 := nodup_set (v := 1000000000000000000000000000000 - 1) (l.length - 1) nd (fun e => by have := bz _ e; omega)
      have bz5 : ∀ z ∈ l.set (l.length - 1) (1000000000000000000000000000000 - 1), (-20 ≤ z ∧ z < 100) ∨ z = 999999999999999999999999999999 := fun z hz => by
        rcases List.mem_or_eq_of_mem_set hz with h | h
        · exact .inl (bz z h)
        · exact .inr h
      generalize l.set (l.length - 1) (1000000000000000000000000000000 - 1) = l5 at s5 P5 e5 ll5 nd5 bz5 ⊢
      generalize upd H4 D (.lst (l5.map V.int)) = H5 at s5 P5 e5 ⊢
    case' yb =>
      have e5 := s4 D _ neD h5
      have s5 := s3.trans s4
      have P5 := P4
      have ll5 := ll
      have nd5 := nd
      have bz5 : ∀ z ∈ l, (-20 ≤ z ∧ z < 100) ∨ z = 999999999999999999999999999999 := fun z hz => .inl (bz z hz)
      generalize H4 = H5 at s5 P5 e5 ⊢
    all_goals
      refine ⟨_, rfl, p, a, ns, x4, y4, 3, rfl, P5, by decide, by decide, fun g2 x6 y6 H6 g20 g21 s6 P6 => ⟨rfl, _, rfl, ite2 (fun h => ?_) (fun h => ?_)⟩⟩
      · have e6 := s6 D _ neD e5
        refine ⟨_, _, rfl, rfl, ⟨by decide, by decide, by decide⟩, _, _, rfl, rfl, ?_⟩
        rw [ten30]
        refine ⟨_, rfl, D, _, _, 0, rfl, rfl, e6, ?_, ?_⟩
        · unfold ixN
          rw [List.length_map, if_pos (by decide), if_pos (by omega)]
          rfl
        rw [set_map]
        refine ⟨_, rfl, k D _ x6 y6 _ ?_ ?_ (nodup_set (v := 1 - 1000000000000000000000000000000) 0 nd5 (fun e => ?_)) (fun z hz => ?_) hD0 neD upd_same ((s5.trans s6).updF hD0) (Pn.up (s5.trans s6) P6 hD0 neD)⟩
        · rw [List.length_set, ll5]; omega
        · rw [List.length_set, ll5]; omega
        · have := bz5 _ e; omega
        · rcases List.mem_or_eq_of_mem_set hz with h | h
          · rcases bz5 z h with h | h
            · exact .inl h
            · exact .inr (.inl h)
          · exact .inr (.inr h)
      · refine ⟨_, rfl, k D _ x6 y6 _ ?_ ?_ nd5 (fun z hz => ?_) hD0 neD (s6 D _ neD e5) (s5.trans s6) P6⟩
        · rw [ll5]; omega
        · rw [ll5]; omega
        · rcases bz5 z hz with h | h
          · exact .inl h
          · exact .inr (.inl h)
end
end KW

namespace KW
open PySem L2
section
variable {P : Program} {w : World} {K : PySem.W.Frag} {mg : Str → Option Value} {base : Heap} {f c tb : Addr} {fd : FuncData}
def spPieces (K : PySem.W.Frag) : Sp := fun vs H Q _ => ∃ (p a : Addr) (ns : List Int) (x y : Int) (n m : Nat), vs = [.ref p, .int n, .int m] ∧ Pen K H p a ns x y ∧ 1 ≤ n ∧ n ≤ 6 ∧ m ≤ 40 ∧
  ∀ (r : Addr) (zs : List (Addr × List Int)) (x' y' : Int) (H' : Hp), zs.length = m → (zs.map (·.2)).Nodup → (∀ c ∈ zs.map (·.2), RowP n m c) → H r = none → r ≠ p → H' r = some (.lst (refs zs)) → Tups K H' zs → SameX p H H' → Pen K H' p a ns x' y' → Q (.ref r) H'
abbrev s__law_pieces : Stmt := top 12
abbrev N__law_pieces : List Str := ["_law_pen", "_law_size", "_law_many", "_law_pool_here", "_law_found", "_law_k", "_law_rest", "_law_piece", "_law_j"]
abbrev P__law_pieces : List Str := ["_law_pen", "_law_size", "_law_many"]
theorem sc__law_pieces : FnScope N__law_pieces P__law_pieces (defScope s__law_pieces) := ⟨rfl, rfl, rfl, by decide +kernel, rfl, by decide +kernel, by decide +kernel⟩
theorem ok__law_pieces (F : FunC K "_law_pieces" "_law_pieces" s__law_pieces f fd c) (T : Txt base mg) (C__law_draw : Cal P w K mg base 1 "_law_draw" P__law_draw (spDraw K)) (C__law_pool : Cal P w K mg base 2 "_law_pool" P__law_pool (spPool K)) : FnOk P w K mg base CX0 3 f fd P__law_pieces (spPieces K) := by
  refine F.okQ sc__law_pieces (fun vs H Q E h => ?_) (fun A outer s H vs Q E hr h => ?_)
  · obtain ⟨p, a, ns, x, y, n, m, rfl, _⟩ := h
    rfl
  · obtain ⟨p, a, ns, x, y, n, m, rfl, Pn, n1, n6, m40, k⟩ := h
    refine ⟨_, (q_pss_cons (q_ps_set (i := 3) sc__law_pieces.nd rfl (by first | exact Or.inl rfl | exact Or.inr rfl) (q_pe_cal C__law_pool (hr.mono (by omega)) (q_pa_cons (q_pv 0) (q_pa_cons (q_pv 1) q_pa_nil))))
      (q_pss_cons (q_ps_set (i := 4) sc__law_pieces.nd rfl (by first | exact Or.inl rfl | exact Or.inr rfl) (q_pe_lst q_pa_nil))
      (q_pss_cons (q_ps_for PassesOwn.never rfl (q_pi_range1 rfl T.no_range (q_pa_cons (q_pv 2) q_pa_nil)) (q_pg_name (i := 5) sc__law_pieces.nd rfl (by first | exact Or.inl rfl | exact Or.inr rfl))
      (q_pss_cons (q_ps_set (i := 6) sc__law_pieces.nd rfl (by first | exact Or.inl rfl | exact Or.inr rfl) (q_pe_callTy (call_list_ofK (K := K) rfl) rfl T.no_list (by decide +kernel) (q_pa_cons (q_pv 3) q_pa_nil)))
      (q_pss_cons (q_ps_set (i := 7) sc__law_pieces.nd rfl (by first | exact Or.inl rfl | exact Or.inr rfl) (q_pe_callTy (call_tuple_ofK (K := K) rfl) rfl T.no_tuple (by decide +kernel) (q_pa_cons (q_pe_callB (cr_sortInts (K := K) hr rfl) rfl T.no_sorted (by decide +kernel) (q_pa_cons (q_pe_lc (own := [("_law_j", 8)]) rfl sc__law_pieces.nd (q_pi_range1 rfl T.no_range (q_pa_cons (q_pv 1) q_pa_nil)) (blkOk_by (own := [("_law_j", 8)]) (N := N__law_pieces) (sc := defScope s__law_pieces) (by decide +kernel)) (fun _ _ _ _ _ => (q_pg_name (i := 8) sc__law_pieces.nd rfl (by first | exact Or.inl rfl | exact Or.inr rfl))) (fun _ _ _ _ _ => q_pts_nil) (fun _ _ _ _ _ => (q_pe_bmK (K := K) rfl PySem.F.plainAttrs_list PySem.F.slot_list_pop PySem.F.type_list_pop mt_popAt (q_pv 6) (q_pa_cons (q_pe_cal C__law_draw (hr.mono (by omega)) (q_pa_cons (q_pv 0) (q_pa_cons (q_pe_callB (call_lenK (K := K) rfl) rfl T.no_len (by decide +kernel) (q_pa_cons (q_pv 6) q_pa_nil)) q_pa_nil))) q_pa_nil)))) q_pa_nil)) q_pa_nil)))
      (q_pss_cons (q_ps_if (q_pt_cmpR (op_inDK (K := K) rfl hr) (q_pv 7) (q_pv 4) (by first | rfl | exact nomark _))
      (q_pss_one (q_ps_set (i := 7) sc__law_pieces.nd rfl (by first | exact Or.inl rfl | exact Or.inr rfl) (q_pe_callTy (call_tuple_ofK (K := K) rfl) rfl T.no_tuple (by decide +kernel) (q_pa_cons (q_pe_lc (own := [("_law_j", 8)]) rfl sc__law_pieces.nd (q_pi_range1 rfl T.no_range (q_pa_cons (q_pv 1) q_pa_nil)) (blkOk_by (own := [("_law_j", 8)]) (N := N__law_pieces) (sc := defScope s__law_pieces) (by decide +kernel)) (fun _ _ _ _ _ => (q_pg_name (i := 8) sc__law_pieces.nd rfl (by first | exact Or.inl rfl | exact Or.inr rfl))) (fun _ _ _ _ _ => q_pts_nil) (fun _ _ _ _ _ => (q_pe_op op_add (q_pe_op op_add (q_pe_op op_mul q_pe_int (q_pv 5)) q_pe_int) (q_pv 8)))) q_pa_nil))))
      q_pss_nil)
      (q_pss_one (q_ps_expr (q_pe_bm PySem.F.plainAttrs_list PySem.F.slot_list_append PySem.F.type_list_append mt_append (q_pv 4) (q_pa_cons (q_pv 7) q_pa_nil))))))))
      (q_pss_one (q_ps_ret (q_pv 4)))))), ?_⟩
    refine ⟨_, rfl, _, rfl, p, a, ns, x, y, n, rfl, Pn, n1, by omega, fun r l x1 y1 H1 l1 l2 nd bz hr0 nrp er s1 P1 => ?_⟩
    refine ⟨(by show 0 ≤ sizeLine; decide), fun F0 hF => ?_⟩
    have nFp : F0 ≠ p := (ne_of_none P1.at_ hF).symm
    have hF0 : H F0 = none := s1.free hF nFp
    have nFr : F0 ≠ r := (ne_of_none er hF).symm
    refine ⟨_, rfl, _, rfl, (by omega), (by omega), for_range (lo := 0) (fun i σ H' => ∃ (zs : List (Addr × List Int)) (v5 v6 v7 v8 : Option V) (x' y' : Int), σ = [some (.ref p), some (.int (n : Int)), some (.int (m : Int)), some (.ref r), some (.ref F0), v5, v6, v7, v8] ∧ zs.length = i ∧ (zs.map (·.2)).Nodup ∧ (∀ c ∈ zs.map (·.2), RowP n i c) ∧ H' F0 = some (.lst (refs zs)) ∧ Tups K H' zs ∧ H' r = some (.lst (l.map V.int)) ∧ SameX p H H' ∧ Pen K H' p a ns x' y')
      ⟨[], none, none, none, none, x1, y1, rfl, rfl, List.nodup_nil, (fun c hc => nomatch hc), upd_same, Tups.nil, by rw [upd_ne nFr.symm]; exact er, s1.updF hF0, Pn.up s1 P1 hF0 nFp⟩ ?_ ?_⟩
    · rintro i σ H' hi ⟨zs, v5, v6, v7, v8, x', y', rfl, zl, znd, zr, eF, tz, er', sx, P'⟩
      have hi : i < m := by omega
      refine ⟨_, rfl, r, _, rfl, .inl (SqL.of er'), fun R hR => ?_⟩
      have nRp : R ≠ p := (ne_of_none P'.at_ hR).symm
      refine ⟨_, rfl, _, rfl, (by omega), (by omega), fun D hD => ?_⟩
      have sR : Same H' (upd H' R (.lst (l.map V.int))) := Same.upd hR
      have hD' : H' D = none := sR.free hD
      have nDp : D ≠ p := (ne_of_none P'.at_ hD').symm
      have nDR : D ≠ R := fun e => by rw [e, upd_same] at hD; cases hD
      refine lc_range (lo := 0) (fun j H3 => ∃ (ys rest : List Int) (x' y' : Int), (ys ++ rest).Perm l ∧ ys.length = j ∧ H3 R = some (.lst (rest.map V.int)) ∧ H3 D = some (.lst (ys.map V.int)) ∧ SameX p H' H3 ∧ Pen K H3 p a ns x' y')
        ⟨[], l, x', y', .refl _, rfl, by rw [upd_ne nDR.symm, upd_same], upd_same, (SameX.of sR).updF hD', (P'.same sR).same (Same.upd hD)⟩ ?_ ?_
      · rintro j H3 hj ⟨ys, rest, x3, y3, pm, yl, eR, eD, s3, P3⟩
        have hj : j < n := by omega
        have rl : rest.length + j = l.length := by
          have := pm.length_eq
          rw [List.length_append] at this; omega
        have rml : (rest.map V.int).length = rest.length := List.length_map ..
        refine ⟨rfl, yes ⟨_, rfl, .inl ⟨rfl, _, SqL.of eR⟩, _, rfl, _, rfl, _, _, rfl, .inl ⟨_, SqL.of eR, rfl⟩, p, a, ns, x3, y3, _, rfl, P3, by omega, (by show (_ : Int) < 1000000000; omega), fun d x4 y4 H4 d0 d1 s4 P4 => ?_⟩⟩
        have eR4 := s4 R _ nRp eR
        have eD4 := s4 D _ nDp eD
        obtain ⟨z, hz⟩ : ∃ z, rest[d.toNat]? = some z := ⟨_, List.getElem?_eq_getElem (by omega)⟩
        refine ⟨R, rest.map V.int, d, d.toNat, .int z, rfl, rfl, eR4, by omega, by omega, seqIx d0 d1, by rw [List.getElem?_map, hz]; rfl, ?_⟩
        rw [erase_map]
        have s5 := (s3.trans s4).updF (o := .lst ((rest.eraseIdx d.toNat).map V.int)) hR
        have P5 := P'.up (o := .lst ((rest.eraseIdx d.toNat).map V.int)) (s3.trans s4) P4 hR nRp
        refine ⟨ys.map V.int, by rw [upd_ne nDR]; exact eD4, by rw [List.length_map]; exact small (by omega), ys ++ [z], rest.eraseIdx d.toNat, x4, y4, (perm_pick hz).trans pm, by simp [yl], by rw [upd_ne nDR.symm, upd_same], by rw [upd_same, List.map_append]; rfl, s5.updF hD', P'.up s5 P5 hD' nDp⟩
      rintro H3 ⟨ys, rest, x3, y3, pm, yl, eR, eD, s3, P3⟩
      have yl : ys.length = n := by rw [yl]; omega
      refine ⟨D, ys, rfl, SqL.of eD, fun bs q pb sr hq => ?_⟩
      have nqp : q ≠ p := (ne_of_none P3.at_ hq).symm
      have hq' := s3.free hq nqp
      have s4 := s3.updF (o := .lst (bs.map V.int)) hq'
      have P4 := P'.up (o := .lst (bs.map V.int)) s3 P3 hq' nqp
      refine ⟨q, _, rfl, .inl ⟨SqL.of upd_same, fun t ht => ?_⟩⟩
      have ntp : t ≠ p := (ne_of_none P4.at_ ht).symm
      have ht' := s4.free ht ntp
      have s5 := s4.updF (o := .tup (bs.map V.int)) ht'
      have P5 := P'.up (o := .tup (bs.map V.int)) s4 P4 ht' ntp
      have et : upd (upd H3 q (.lst (bs.map V.int))) t (.tup (bs.map V.int)) t = some (.tup (bs.map V.int)) := upd_same
      generalize upd (upd H3 q (.lst (bs.map V.int))) t (.tup (bs.map V.int)) = H5 at s5 P5 et ⊢
      have eF5 := s5 F0 _ nFp eF
      have tz5 := tz.sx P'.at_ s5
      have er5 := s5 r _ nrp er'
      have ysl : ∀ e ∈ ys, e ∈ l := fun e he => pm.mem_iff.mp (List.mem_append_left _ he)
      have ynd : ys.Nodup := (List.nodup_append.mp (pm.nodup_iff.mpr nd)).1
      have brow : RowP n (i + 1) bs := ⟨by rw [pb.length_eq, yl], rise_of pb ynd sr, fun e he => (bz e (ysl e (pb.mem_iff.mp he))).bd, .inl fun e he => bz e (ysl e (pb.mem_iff.mp he))⟩
      refine ⟨_, rfl, _, rfl, rInD_tups (K := K) (.inl (.inl et)) (.inl (SqL.of eF5)) tz5 rfl ⟨_, rfl, ?_⟩⟩
      have zr' : ∀ c ∈ zs.map (·.2), RowP n (i + 1) c := fun c hc => (zr c hc).mono (by omega)
      by_cases hin : bs ∈ zs.map (·.2)
      · refine iteT' (by simp [hin]) ?_
        refine ⟨_, rfl, _, rfl, (by omega), (by omega), fun D2 hD2 => ?_⟩
        have nD2p : D2 ≠ p := (ne_of_none P5.at_ hD2).symm
        have hD2' := s5.free hD2 nD2p
        refine lc_range (lo := 0) (fun j H6 => Same H5 H6 ∧ H6 D2 = some (.lst ((oddC j i).map V.int))) ⟨Same.upd hD2, upd_same⟩ ?_ ?_
        · rintro j H6 hj ⟨s6, e6⟩
          refine ⟨rfl, yes ⟨_, rfl, _, _, rfl, rfl, .inl ⟨by decide, by decide⟩, _, _, rfl, rfl, _, rfl, _, _, rfl, rfl, _, e6, ?_, s6.updF hD2, ?_⟩⟩
          · unfold oddC; rw [List.length_map, List.length_map, List.length_range]; exact small (by omega)
          · rw [upd_same]
            unfold oddC
            rw [List.range_succ, List.map_append, List.map_append]
            simp
        rintro H6 ⟨s6, e6⟩
        have en : ((n : Int)).toNat = n := by omega
        rw [en] at e6
        refine ⟨D2, _, rfl, .inl ⟨SqL.of e6, fun t2 ht2 => ?_⟩⟩
        have ht2' := s6.free ht2
        have nt2p : t2 ≠ p := (ne_of_none P5.at_ ht2').symm
        have s7 := s6.trans (Same.upd (o := .tup ((oddC n i).map V.int)) ht2)
        have eF7 := s7 _ _ eF5
        have hF0' : H F0 = none := hF0
        have s8 := sx.trans (s5.trans (SameX.of s7))
        refine ⟨_, rfl, .inl ⟨rfl, _, SqL.of eF7⟩, _, rfl, F0, _, _, rfl, rfl, eF7, by rw [List.length_map]; exact small (by omega), ?_⟩
        refine ⟨zs ++ [(t2, oddC n i)], _, _, _, _, _, _, rfl, by simp [zl], ?_, ?_, by rw [upd_same, refs_snoc], ((tz5.same s7).snoc (.inl (.inl upd_same))).sx eF7 SameX.upd, by rw [upd_ne nFr.symm]; exact s7 _ _ er5, s8.updF hF0, Pn.up s8 (P5.same s7) hF0 nFp⟩
        · rw [List.map_append]; exact nodup_snoc znd (odd_new n1 zr)
        · intro c hc
          rw [List.map_append] at hc
          rcases List.mem_append.mp hc with hc | hc
          · exact zr' c hc
          · rw [List.mem_singleton.mp hc]
            exact ⟨by unfold oddC; rw [List.length_map, List.length_range], odd_rise _ _, odd_bd n6 (by omega), .inr ⟨i, by omega, rfl⟩⟩
      · refine iteF' (by simp [hin]) ?_
        have s8 := sx.trans s5
        refine ⟨_, rfl, .inl ⟨rfl, _, SqL.of eF5⟩, _, rfl, F0, _, _, rfl, rfl, eF5, by rw [List.length_map]; exact small (by omega), ?_⟩
        refine ⟨zs ++ [(t, bs)], _, _, _, _, _, _, rfl, by simp [zl], ?_, ?_, by rw [upd_same, refs_snoc], (tz5.snoc (.inl (.inl et))).sx eF5 SameX.upd, by rw [upd_ne nFr.symm]; exact er5, s8.updF hF0, Pn.up s8 P5 hF0 nFp⟩
        · rw [List.map_append]; exact nodup_snoc znd hin
        · intro c hc
          rw [List.map_append] at hc
          rcases List.mem_append.mp hc with hc | hc
          · exact zr' c hc
          · rw [List.mem_singleton.mp hc]; exact brow
    · rintro σ H' ⟨zs, v5, v6, v7, v8, x', y', rfl, zl, znd, zr, eF, tz, er', sx, P'⟩
      have en : ((m : Int)).toNat = m := by omega
      rw [en] at zl zr
      exact ⟨_, rfl, k F0 zs x' y' H' zl znd zr hF0 nFp eF tz sx P'⟩
end
end KW

namespace KW
open PySem L2
section
variable {P : Program} {w : World} {K : PySem.W.Frag} {mg : Str → Option Value} {base : Heap} {f c tb : Addr} {fd : FuncData}
def spKey (K : PySem.W.Frag) : Sp := fun vs H Q _ => ∃ (a : Addr) (l : List Int), vs = [.ref a] ∧ SqT K H a (l.map V.int) ∧ ∀ p, H p = none → Q (.ref p) (upd H p (.tup [.int ((l.map V.int).length : Nat), .ref a]))
theorem spKey_len (vs : List V) (H : Hp) (Q : VK) (E : XK) (h : spKey K vs H Q E) : vs.length = (["face"] : List Str).length := by
  obtain ⟨a, l, rfl, _⟩ := h
  rfl
abbrev lamQ : Str := "by_size.<locals>.<lambda>"
def spBySize (K : PySem.W.Frag) (tl : Addr) : Sp := fun vs H Q _ => ∃ (a : Addr) (zs : List (Addr × List Int)), vs = [.ref a] ∧ SqL K H a (refs zs) ∧ Tups K H zs ∧ H tl = some (.lam lamQ) ∧
  ∀ (r : Addr) (ys : List (Addr × List Int)) (H' : Hp), H r = none → Same H H' → H' r = some (.lst (refs ys)) → Tups K H' ys → ys.Perm zs → Rises ((ys.map (·.2)).map keyD) → Q (.ref r) H'
theorem keys_read {sp : Sp} (hsp : sp = spKey K) {Q : VK} {xs : List V} : ∀ {zs : List (Addr × List Int)} {ks : List (Addr × List Int)} {rs : List V} {H H0 : Hp}, Same H0 H → Tups K H0 (ks ++ zs) → Paired (fun (z : Addr × List Int) (r : V) => KDV K H (keyD z.2) r) ks rs →
    (∀ (H' : Hp) (rs : List V), Same H0 H' → Paired (fun (z : Addr × List Int) (r : V) => KDV K H' (keyD z.2) r) (ks ++ zs) rs → rByKey K xs Q rs H') → rKeys sp (refs zs) rs H (rByKey K xs Q)
  | [], ks, rs, H, H0, sm, _, hp, q => by
    rw [List.append_nil] at q
    exact q H rs sm hp
  | z :: zs, ks, rs, H, H0, sm, ht, hp, q => by
    subst hsp
    have hz := sm.sqT (ht z (List.mem_append_right _ List.mem_cons_self))
    refine ⟨z.1, z.2, rfl, hz, fun p hpn => ⟨Same.upd hpn, ?_⟩⟩
    have e : ks ++ z :: zs = (ks ++ [z]) ++ zs := by simp
    rw [e] at ht q
    have s2 : Same H (upd H p (.tup [.int ((z.2.map V.int).length : Nat), .ref z.1])) := Same.upd hpn
    refine keys_read rfl (sm.trans s2) ht (paired_append (Paired.mapP hp fun y r h => ?_) (.cons ?_ .nil)) q
    · exact KDV.same h s2
    · refine ⟨p, z.1, rfl, .inl (.inl ?_), s2.sqT hz⟩
      rw [upd_same, List.length_map]
abbrev s_by_size : Stmt := top 2
abbrev N_by_size : List Str := ["found"]
abbrev P_by_size : List Str := ["found"]
theorem sc_by_size : FnScope N_by_size P_by_size (defScope s_by_size) := ⟨rfl, rfl, rfl, by decide +kernel, rfl, by decide +kernel, by decide +kernel⟩
theorem ok_by_size (F : FunC K "by_size" "by_size" s_by_size f fd c) (ck : CodeK K c tb) (T : Txt base mg) : FnOk P w K mg base CX0 4 f fd P_by_size (spBySize K tb) := by
  refine F.okQ sc_by_size (fun vs H Q E h => ?_) (fun A outer s H vs Q E hr h => ?_)
  · obtain ⟨a, zs, rfl, _⟩ := h
    rfl
  · obtain ⟨a, zs, rfl, ha, ht, hT, k⟩ := h
    refine ⟨_, (q_pss_one (q_ps_ret (q_pe_sortLam (sp := spKey K) (k := 0) (N := ["face"]) (ps := ["face"]) (K := K) rfl rfl ck T.bm T.no_sorted ⟨rfl, rfl, rfl, by decide +kernel, rfl, by decide +kernel, by decide +kernel⟩ spKey_len (fun _ _ _ us hl => match us, hl with | [_], _ => rfl) (fun _ _ _ _ _ _ _ _ _ hrl h => by obtain ⟨a, l, rfl, ha, q⟩ := h; exact ⟨_, q_pe_tup (q_pa_cons (q_pe_callB (call_lenK (K := K) rfl) rfl T.no_len (by decide +kernel) (q_pa_cons (q_pv 0) q_pa_nil)) (q_pa_cons (q_pv 0) q_pa_nil)), ⟨_, rfl, _, _, rfl, .inr ⟨_, ha, rfl⟩, _, rfl, (by show 2 ≤ sizeLine; decide), fun p hp => q p hp⟩⟩) (hr.mono (by omega)) (q_pv 0)))), ?_⟩
    refine ⟨_, rfl, a, _, rfl, ha, hT, fun H2 s2 => ?_⟩
    refine keys_read (ks := []) rfl (Same.refl H2) (ht.same s2) .nil fun H3 rs s3 hp => ?_
    rw [List.nil_append] at hp
    refine ⟨zs.map fun z => keyD z.2, 2, paired_mapL hp, fun x hx => ?_, fun bs p b1 b2 hpn => ?_⟩
    · obtain ⟨z, _, rfl⟩ := List.mem_map.mp hx
      rfl
    · obtain ⟨ys, y1, y2⟩ := zip_perm b1
      subst y1
      have sm := s2.trans s3
      refine k p ys _ (sm.free hpn) (sm.trans (Same.upd hpn)) (by rw [upd_same, List.map_map]; rfl) ((ht.same (sm.trans (Same.upd hpn))).perm y2) y2 ?_
      rw [List.map_map] at b2
      rw [List.map_map]; exact b2
def spFacesIn (K : PySem.W.Frag) (tl : Addr) : Sp := fun vs H Q _ => ∃ (a : Addr) (l : List Int), vs = [.ref a] ∧ SqT K H a (l.map V.int) ∧ l.length ≤ 10 ∧ H tl = some (.lam lamQ) ∧
  ∀ (r : Addr) (ys : List (Addr × List Int)) (H' : Hp), H r = none → Same H H' → H' r = some (.lst (refs ys)) → Tups K H' ys → (ys.map (·.2)).Perm (subsC l) → Rises ((ys.map (·.2)).map keyD) → Q (.ref r) H'
abbrev s_faces_in : Stmt := top 3
abbrev N_faces_in : List Str := ["face", "found", "corner", "smaller"]
abbrev P_faces_in : List Str := ["face"]
theorem sc_faces_in : FnScope N_faces_in P_faces_in (defScope s_faces_in) := ⟨rfl, rfl, rfl, by decide +kernel, rfl, by decide +kernel, by decide +kernel⟩
theorem ok_faces_in (F : FunC K "faces_in" "faces_in" s_faces_in f fd c) (T : Txt base mg) (C_by_size : Cal P w K mg base 4 "by_size" P_by_size (spBySize K tb)) : FnOk P w K mg base CX0 5 f fd P_faces_in (spFacesIn K tb) := by
  refine F.okQ sc_faces_in (fun vs H Q E h => ?_) (fun A outer s H vs Q E hr h => ?_)
  · obtain ⟨a, l, rfl, _⟩ := h
    rfl
  · obtain ⟨a, l, rfl, ha, hl, hT, k⟩ := h
    refine ⟨_, (q_pss_cons (q_ps_set (i := 1) sc_faces_in.nd rfl (by first | exact Or.inl rfl | exact Or.inr rfl) (q_pe_lst (q_pa_cons (q_pe_tup q_pa_nil) q_pa_nil)))
      (q_pss_cons (q_ps_for PassesOwn.never rfl (q_pi_tupK (K := K) rfl (q_pv 0)) (q_pg_name (i := 2) sc_faces_in.nd rfl (by first | exact Or.inl rfl | exact Or.inr rfl))
      (q_pss_one (q_ps_set (i := 1) sc_faces_in.nd rfl (by first | exact Or.inl rfl | exact Or.inr rfl) (q_pe_op op_cat (q_pv 1) (q_pe_lc (own := [("smaller", 3)]) rfl sc_faces_in.nd (q_pi_listK (K := K) rfl (q_pv 1)) (blkOk_by (own := [("smaller", 3)]) (N := N_faces_in) (sc := defScope s_faces_in) (by decide +kernel)) (fun _ _ _ _ _ => (q_pg_name (i := 3) sc_faces_in.nd rfl (by first | exact Or.inl rfl | exact Or.inr rfl))) (fun _ _ _ _ _ => q_pts_nil) (fun _ _ _ _ _ => (q_pe_op (op_catTT (K := K) rfl) (q_pv 3) (q_pe_tup (q_pa_cons (q_pv 2) q_pa_nil)))))))))
      (q_pss_one (q_ps_ret (q_pe_cal C_by_size (hr.mono (by omega)) (q_pa_cons (q_pv 1) q_pa_nil)))))), ?_⟩
    refine ⟨(by show 0 ≤ sizeLine; decide), fun t0 h0 => ⟨(by show 1 ≤ sizeLine; decide), fun F0 hF => ?_⟩⟩
    have s0 : Same H (upd H t0 (.tup [])) := Same.upd h0
    have s1 : Same H (upd (upd H t0 (.tup [])) F0 (.lst [.ref t0])) := s0.trans (Same.upd hF)
    have ne : t0 ≠ F0 := ne_of_none (upd_same (H := H) (a := t0) (o := .tup [])) hF
    refine ⟨_, rfl, a, rfl, ⟨_, s1.sqT ha⟩, for_tup (xs := l.map V.int) (fun i σ H' => ∃ (F : Addr) (zs : List (Addr × List Int)) (v2 v3 : Option V), σ = [some (.ref a), some (.ref F), v2, v3] ∧ Same H H' ∧ H' F = some (.lst (refs zs)) ∧ Tups K H' zs ∧ zs.map (·.2) = subsC (l.take i)) ⟨F0, [(t0, [])], none, none, rfl, s1, upd_same, fun z hz => ?_, rfl⟩ ?_ ?_ ?_⟩
    · rw [List.mem_singleton.mp hz]
      exact .inl (.inl (by rw [upd_ne ne, upd_same]; rfl))
    · rintro i σ H' _ ⟨F, zs, v2, v3, rfl, sm, _⟩
      exact sm.sqT ha
    · rintro i x σ H' hx ⟨F, zs, v2, v3, rfl, sm, hF', ht, ez⟩
      obtain ⟨z, hz, rfl⟩ := ints_at hx
      have hi : i < l.length := (List.getElem?_eq_some_iff.mp hz).1
      have ezl : zs.length = 2 ^ i := by
        rw [← List.length_map (f := (·.2)), ez, subs_len, List.length_take, Nat.min_eq_left (Nat.le_of_lt hi)]
      have p10 := pow_small (i := i) (by omega)
      refine ⟨_, rfl, _, rfl, F, rfl, ⟨_, SqL.of hF'⟩, fun D hD => ?_⟩
      refine lc_list (xs := refs zs) (fun j H2 => Same H' H2 ∧ ∃ ws, H2 D = some (.lst (refs ws)) ∧ Tups K H2 ws ∧ ws.map (·.2) = ((zs.map (·.2)).take j).map (· ++ [z])) ⟨Same.upd hD, [], upd_same, Tups.nil, rfl⟩ (fun j H2 _ h => SqL.of (h.1 _ _ hF')) ?_ ?_
      · rintro j y H2 hy ⟨s2, ws, hw, tw, ew⟩
        obtain ⟨q, hq, rfl⟩ := refs_at hy
        have hj : j < zs.length := (List.getElem?_eq_some_iff.mp hq).1
        have hqt := s2.sqT (ht q (List.mem_of_getElem? hq))
        refine ⟨rfl, yes ⟨_, rfl, _, rfl, (by show 1 ≤ sizeLine; decide), fun t2 h2 => ?_⟩⟩
        have s3 : Same H2 (upd H2 t2 (.tup [.int z])) := Same.upd h2
        have wl : ws.length ≤ 100000 := by
          rw [← List.length_map (f := (·.2)), ew, List.length_map, List.length_take, List.length_map]; omega
        have ql : q.2.length ≤ l.length := by
          have : q.2 ∈ subsC (l.take i) := by rw [← ez]; exact List.mem_map.mpr ⟨q, List.mem_of_getElem? hq, rfl⟩
          exact Nat.le_trans (subs_mem this).1 (List.length_take_le' _ _)
        refine ⟨q.1, t2, _, [.int z], rfl, rfl, s3.sqT hqt, .inl (.inl upd_same), ?_, fun r H4 s4 hr4 => ?_⟩
        · rw [List.length_map]; exact Nat.le_of_lt (small (by show q.2.length + 1 ≤ 100000; omega))
        · have hr5 : SqT K H4 r ((q.2 ++ [z]).map V.int) := by rw [List.map_append]; exact hr4
          obtain ⟨acc, e1, e2, e3, e4, e5⟩ := tl_push hD s2 hw tw (s3.trans s4) hr5 wl
          refine ⟨acc, e1, e2, e3, _, e4, e5, ?_⟩
          rw [List.map_append, ew, List.take_succ, List.getElem?_map, hq]
          simp
      · rintro H2 ⟨s2, ws, hw, tw, ew⟩
        have e0 : (refs zs).length = zs.length := List.length_map ..
        rw [e0, List.take_of_length_le (by rw [List.length_map]; exact Nat.le_refl _)] at ew
        have wl : ws.length = 2 ^ i := by rw [← List.length_map (f := (·.2)), ew, List.length_map, List.length_map, ezl]
        refine ⟨F, D, _, _, rfl, rfl, s2 _ _ hF', hw, ?_, fun p hp => ?_⟩
        · rw [List.length_map, List.length_map]; exact Nat.le_of_lt (small (by omega))
        · have s5 : Same H2 (upd H2 p (.lst (refs zs ++ refs ws))) := Same.upd hp
          refine ⟨p, zs ++ ws, _, _, rfl, (sm.trans s2).trans s5, by rw [upd_same, refs_app], ((ht.same (s2.trans s5)).append (tw.same s5)), ?_⟩
          rw [List.map_append, ew, ez, subs_take hi, List.getD_eq_getElem?_getD, hz]
          rfl
    · rintro σ H' ⟨F, zs, v2, v3, rfl, sm, hF', ht, ez⟩
      rw [List.length_map, List.take_length] at ez
      refine ⟨_, rfl, F, zs, rfl, SqL.of hF', ht, sm _ _ hT, fun r ys H3 hr3 s3 e t p rs => ?_⟩
      exact k r ys H3 (sm.free hr3) (sm.trans s3) e t (by rw [← ez]; exact p.map _) rs
end
end KW

namespace KW
open PySem L2
section
variable {P : Program} {w : World} {K : PySem.W.Frag} {mg : Str → Option Value} {base : Heap} {f c tb : Addr} {fd : FuncData}
def spFaces (K : PySem.W.Frag) (tl : Addr) : Sp := fun vs H Q _ => ∃ (sh : Addr) (zs : List (Addr × List Int)), vs = [.ref sh] ∧ SqT K H sh (refs zs) ∧ Tups K H zs ∧ (∀ z ∈ zs, z.2.length ≤ 6) ∧ zs.length ≤ 40 ∧ H tl = some (.lam lamQ) ∧
  ∀ (r : Addr) (ys : List (Addr × List Int)) (H' : Hp), H r = none → Same H H' → H' r = some (.lst (refs ys)) → Tups K H' ys → FacesOf zs (ys.map (·.2)) → ys.length ≤ 64 * zs.length → Rises ((ys.map (·.2)).map keyD) → Q (.ref r) H'
abbrev s_faces : Stmt := top 6
abbrev N_faces : List Str := ["shape", "piece", "face"]
abbrev P_faces : List Str := ["shape"]
theorem sc_faces : FnScope N_faces P_faces (defScope s_faces) := ⟨rfl, rfl, rfl, by decide +kernel, rfl, by decide +kernel, by decide +kernel⟩
theorem ok_faces (F : FunC K "faces" "faces" s_faces f fd c) (T : Txt base mg) (C_by_size : Cal P w K mg base 4 "by_size" P_by_size (spBySize K tb)) (C_faces_in : Cal P w K mg base 5 "faces_in" P_faces_in (spFacesIn K tb)) : FnOk P w K mg base CX0 6 f fd P_faces (spFaces K tb) := by
  refine F.okQ sc_faces (fun vs H Q E h => ?_) (fun A outer s H vs Q E hr h => ?_)
  · obtain ⟨sh, zs, rfl, _⟩ := h
    rfl
  · obtain ⟨sh, zs, rfl, ha, ht, z6, z40, hT, k⟩ := h
    refine ⟨_, (q_pss_one (q_ps_ret (q_pe_cal C_by_size (hr.mono (by omega)) (q_pa_cons (q_pe_callB (cr_sortSetT (K := K) rfl hr rfl) rfl T.no_sorted (by decide +kernel) (q_pa_cons (q_pe_sc2 (own := [("piece", 1), ("face", 2)]) (vs1 := [2]) (mk := fun D => SetT P w D []) (radd := rAddT P w K) rfl sc_faces.nd (q_pi_tupK (K := K) rfl (q_pv 0)) (blkOk_by (own := [("piece", 1), ("face", 2)]) (N := N_faces) (sc := defScope s_faces) (by decide +kernel)) (by decide) (fun _ _ _ _ _ => (q_pg_name (i := 1) sc_faces.nd rfl (by first | exact Or.inl rfl | exact Or.inr rfl))) (fun _ _ _ _ _ => q_pts_nil) (fun _ _ _ _ _ => (q_pi_listK (K := K) rfl (q_pe_cal C_faces_in (hr.mono (by omega)) (q_pa_cons (q_pv 1) q_pa_nil)))) (fun _ _ _ _ _ => (q_pg_name (i := 2) sc_faces.nd rfl (by first | exact Or.inl rfl | exact Or.inr rfl))) (fun _ _ _ _ _ => q_pts_nil) (fun _ _ _ _ _ => (q_pv 2)) (mkT P w) (fun _ _ _ _ _ => cr_addT (n := 0) (hr.mono (by omega)) rfl)) q_pa_nil)) q_pa_nil)))), ?_⟩
    refine ⟨_, rfl, sh, rfl, ⟨_, ha⟩, fun D hD => ?_⟩
    refine sc2_tup (mk := fun D => SetT P w D []) (radd := rAddT P w K) (xs := refs zs) (fun i H2 => Same H H2 ∧ ∃ ts, SetD P w K H2 D ts ∧ (∀ x, x ∈ ts.map (·.1) ↔ ∃ z ∈ zs.take i, x ∈ subsC z.2) ∧ ts.length ≤ 64 * i) ⟨Same.upd hD, [], SetD.new upd_same, (fun x => by simp), by simp⟩ (fun i H2 _ h => h.1.sqT ha) ?_ ?_
    · rintro i xv H2 hxv ⟨s2, ts, hd, mem, tl⟩
      obtain ⟨z, hz, rfl⟩ := refs_at hxv
      have hi : i < zs.length := (List.getElem?_eq_some_iff.mp hz).1
      have hzm := List.mem_of_getElem? hz
      have hz6 := z6 z hzm
      refine ⟨rfl, yes ⟨_, rfl, z.1, z.2, rfl, s2.sqT (ht z hzm), by omega, s2 _ _ hT, fun F fs H3 hF s3 eF tF pF rF => ⟨F, rfl, ⟨_, SqL.of eF⟩, ?_⟩⟩⟩
      have fl : fs.length ≤ 64 := by
        rw [← List.length_map (f := (·.2)), pF.length_eq, subs_len]; exact Nat.pow_le_pow_right (by decide) hz6
      refine inn_list (xs := refs fs) (fun j H4 => Same H H4 ∧ H4 F = some (.lst (refs fs)) ∧ Tups K H4 fs ∧ ∃ ts, SetD P w K H4 D ts ∧ (∀ x, x ∈ ts.map (·.1) ↔ (∃ z ∈ zs.take i, x ∈ subsC z.2) ∨ x ∈ (fs.map (·.2)).take j) ∧ ts.length ≤ 64 * i + j)
        ⟨s2.trans s3, eF, tF, ts, hd.same s3, (fun x => by rw [mem x]; simp), by omega⟩ (fun j H4 _ h => SqL.of h.2.1) ?_ ?_
      · rintro j yv H4 hyv ⟨s4, eF4, tF4, ts4, hd4, mem4, tl4⟩
        obtain ⟨u, hu, rfl⟩ := refs_at hyv
        have hj : j < fs.length := (List.getElem?_eq_some_iff.mp hu).1
        refine ⟨rfl, yes ⟨_, rfl, st_push2 hd4 (Same.refl _) (tF4 u (List.mem_of_getElem? hu)) (by omega) fun us hd5 mem5 ul => ?_⟩⟩
        have nFD : F ≠ D := fun e => by rw [e, hd4.at_] at eF4; cases eF4
        refine ⟨s4.updF hD, by rw [upd_ne nFD]; exact eF4, fun v hv => (tF4 v hv).se hd4.at_ SameX.upd, us, hd5, fun x => ?_, by omega⟩
        rw [mem5 x, mem4 x, List.take_succ, List.getElem?_map, hu]
        simp only [Option.map_some, Option.toList_some, List.mem_append, List.mem_singleton, or_assoc]
      · rintro H4 ⟨s4, eF4, tF4, ts4, hd4, mem4, tl4⟩
        have e0 : (refs fs).length = (fs.map (·.2)).length := by rw [List.length_map, List.length_map]
        rw [e0, List.take_length] at mem4
        refine ⟨s4, ts4, hd4, fun x => ?_, by rw [e0, List.length_map] at tl4; omega⟩
        rw [mem4 x, pF.mem_iff, List.take_succ, hz]
        simp only [Option.toList_some, List.mem_append, List.mem_singleton]
        constructor
        · rintro (⟨v, hv, hx⟩ | hx)
          · exact ⟨v, .inl hv, hx⟩
          · exact ⟨z, .inr rfl, hx⟩
        · rintro ⟨v, hv | rfl, hx⟩
          · exact .inl ⟨v, hv, hx⟩
          · exact .inr hx
    · rintro H2 ⟨s2, ts, hd, mem, tl⟩
      have e0 : (refs zs).length = zs.length := List.length_map ..
      rw [e0, List.take_length] at mem
      rw [e0] at tl
      refine ⟨D, ts, rfl, hd.at_, hd.tup, fun bs q pb rs hq => ?_⟩
      have s3 : Same H2 (upd H2 q (.lst (bs.map fun t => V.ref t.2))) := Same.upd hq
      have er : refs (bs.map fun t => (t.2, t.1)) = bs.map fun t => V.ref t.2 := by unfold refs; rw [List.map_map]; rfl
      refine ⟨q, bs.map fun t => (t.2, t.1), rfl, SqL.of (by rw [er]; exact upd_same), fun v hv => ?_, (s2.trans s3) _ _ hT, fun r ys H' hr' s4 e4 t4 p4 r4 => ?_⟩
      · obtain ⟨t, ht', rfl⟩ := List.mem_map.mp hv
        exact s3.sqT (hd.tup t (pb.mem_iff.mp ht'))
      · have p5 : (ys.map (·.2)).Perm (ts.map (·.1)) := by
          have a := p4.map (·.2)
          rw [List.map_map] at a
          exact a.trans (pb.map (·.1))
        refine k r ys H' ((s2.trans s3).free hr') ((s2.trans s3).trans s4) e4 t4 ⟨p5.nodup_iff.mpr hd.nd, fun f => p5.mem_iff.trans (mem f)⟩ ?_ r4
        rw [p4.length_eq, List.length_map, pb.length_eq]; exact tl
end
end KW

set_option maxHeartbeats 4000000
namespace KW
open PySem L2
section
variable {P : Program} {w : World} {K : PySem.W.Frag} {mg : Str → Option Value} {base : Heap} {f c tb : Addr} {fd : FuncData}
def spLies (K : PySem.W.Frag) (tb : Addr) : Sp := fun vs H Q _ => ∃ (a b : Addr) (l m : List Int), vs = [.ref a, .ref b] ∧ SqT K H a (l.map V.int) ∧ (SqL K H b (m.map V.int) ∨ SqT K H b (m.map V.int)) ∧ H tb = some (tbO tb #[]) ∧ Q (.bl (inAll l m)) H
abbrev s_lies_in : Stmt := top 1
abbrev N_lies_in : List Str := ["face", "other", "corner"]
abbrev P_lies_in : List Str := ["face", "other"]
theorem sc_lies_in : FnScope N_lies_in P_lies_in (defScope s_lies_in) := ⟨rfl, rfl, rfl, by decide +kernel, rfl, by decide +kernel, by decide +kernel⟩
theorem ok_lies_in (F : FunC K "lies_in" "lies_in" s_lies_in f fd c) (ck : CodeK K c tb) (T : Txt base mg) : FnOk P w K mg base CX0 2 f fd P_lies_in (spLies K tb) := by
  refine F.okQ sc_lies_in (fun vs H Q E h => ?_) (fun A outer s H vs Q E hr h => ?_)
  · obtain ⟨a, b, l, m, rfl, _⟩ := h
    rfl
  · obtain ⟨a, b, l, m, rfl, ha, hb, hT, k⟩ := h
    refine ⟨_, (q_pss_one (q_ps_ret (q_pe_all (ps := #[]) (k := 0) (own := [("corner", 2)]) ⟨rfl, sc_lies_in.nd, blkOk_by (own := [("corner", 2)]) (N := N_lies_in) (sc := defScope s_lies_in) (by decide +kernel), ⟨rfl, by decide +kernel, by decide +kernel⟩, rfl, ck, T.bm, hr.mono (by omega)⟩ rfl T.no_all (q_pi_tupK (K := K) rfl (q_pv 0)) (fun _ _ _ _ _ _ => (q_pg_name (i := 2) sc_lies_in.nd rfl (by first | exact Or.inl rfl | exact Or.inr rfl))) (fun _ _ _ _ _ _ hrg => q_pts_nil) (fun _ _ _ _ _ _ hrg => (q_pe_cmpR (op_in_seqK (K := K) rfl) (q_pv 2) (q_pv 1) (by first | rfl | exact nomark _)))))), ?_⟩
    refine ⟨_, rfl, a, rfl, ⟨_, ha⟩, hT, ?_⟩
    refine gen_tup (xs := l.map V.int) (fun i _ H' => H' = H ∧ inAll (l.take i) m = true) (fun i acc H' _ h => h.1 ▸ ha) ?_ ?_ ⟨rfl, rfl⟩
    · rintro i x acc H' hx ⟨rfl, e⟩
      obtain ⟨z, hz, rfl⟩ := ints_at hx
      refine ⟨rfl, yes ⟨_, rfl, _, rfl, b, _, rfl, hb, rfl, flat_ints _, _, rfl, ?_⟩⟩
      rw [inV_ints]
      have e2 : inAll (l.take (i + 1)) m = (inAll (l.take i) m && decide (z ∈ m)) := by
        unfold inAll; rw [List.take_succ, hz, List.all_append]; simp
      by_cases h : z ∈ m
      · refine iteT' (by simpa using h) ⟨rfl, ?_⟩
        rw [e2, e, decide_eq_true h]; rfl
      · refine iteF' (by simpa using h) ?_
        have : inAll l m = false := by
          unfold inAll
          rw [List.all_eq_false]
          exact ⟨z, List.mem_of_getElem? hz, by simpa using h⟩
        rw [this] at k
        exact k
    · rintro acc H' ⟨rfl, e⟩
      rw [List.length_map, List.take_length] at e
      rw [e] at k
      exact k
def spHas (K : PySem.W.Frag) (tl th : Addr) : Sp := fun vs H Q _ => ∃ (a b : Addr) (zs : List (Addr × List Int)) (l : List Int), vs = [.ref a, .ref b] ∧ SqT K H a (refs zs) ∧ Tups K H zs ∧ SqT K H b (l.map V.int) ∧ H tl = some (tbO tl #[]) ∧ H th = some (tbO th #[]) ∧
  ∀ (H' : Hp), Same H H' → Q (.bl ((zs.map (·.2)).any fun m => inAll l m)) H'
abbrev s_has : Stmt := top 7
abbrev N_has : List Str := ["shape", "face", "piece"]
abbrev P_has : List Str := ["shape", "face"]
theorem sc_has : FnScope N_has P_has (defScope s_has) := ⟨rfl, rfl, rfl, by decide +kernel, rfl, by decide +kernel, by decide +kernel⟩
theorem ok_has {tl : Addr} (F : FunC K "has" "has" s_has f fd c) (ck : CodeK K c tb) (T : Txt base mg) (C_lies_in : Cal P w K mg base 2 "lies_in" P_lies_in (spLies K tl)) : FnOk P w K mg base CX0 4 f fd P_has (spHas K tl tb) := by
  refine F.okQ sc_has (fun vs H Q E h => ?_) (fun A outer s H vs Q E hr h => ?_)
  · obtain ⟨a, b, zs, l, rfl, _⟩ := h
    rfl
  · obtain ⟨a, b, zs, l, rfl, ha, ht, hb, hT1, hT2, k⟩ := h
    refine ⟨_, (q_pss_one (q_ps_ret (q_pe_any (ps := #[]) (k := 2) (own := [("piece", 2)]) ⟨rfl, sc_has.nd, blkOk_by (own := [("piece", 2)]) (N := N_has) (sc := defScope s_has) (by decide +kernel), ⟨rfl, by decide +kernel, by decide +kernel⟩, rfl, ck, T.bm, hr.mono (by omega)⟩ rfl T.no_any (q_pi_tupK (K := K) rfl (q_pv 0)) (fun _ _ _ _ _ _ => (q_pg_name (i := 2) sc_has.nd rfl (by first | exact Or.inl rfl | exact Or.inr rfl))) (fun _ _ _ _ _ _ hrg => q_pts_nil) (fun _ _ _ _ _ _ hrg => (q_pe_cal C_lies_in (hrg.mono (by omega)) (q_pa_cons (q_pv 1) (q_pa_cons (q_pv 2) q_pa_nil))))))), ?_⟩
    refine ⟨_, rfl, a, rfl, ⟨_, ha⟩, hT2, ?_⟩
    refine gen_any_tup (xs := refs zs) (i0 := 2) (fun i => inAll l (zs.getD i (0, [])).2) ha (fun x => rfl) ?_ ?_
    · rintro i y H3 R s3 hy hR
      obtain ⟨u, hu, rfl⟩ := refs_at hy
      have eu : zs.getD i (0, []) = u := by rw [List.getD_eq_getElem?_getD, hu]; rfl
      rw [eu] at hR
      exact ⟨_, rfl, _, rfl, b, u.1, l, u.2, rfl, s3.sqT hb, .inr (s3.sqT (ht u (List.mem_of_getElem? hu))), s3 _ _ hT1, hR H3 (Same.refl _)⟩
    · intro H3 s3
      have ea : (List.range (refs zs).length).any (fun i => inAll l (zs.getD i (0, [])).2) = (zs.map (·.2)).any fun m => inAll l m := by
        rw [List.length_map, List.any_map]
        exact any_rangeF fun i x hx => by rw [List.getD_eq_getElem?_getD, hx]; rfl
      rw [ea]
      exact k H3 s3
def heldBy (zs : List (Addr × List Int)) (l : List Int) (n : Nat) : List Nat := (List.range n).filter fun k => inAll l (zs.getD k (0, [])).2
theorem castL_len (ks : List Nat) : (castL ks).length = ks.length := by unfold castL; exact List.length_map ..
theorem castL_app (ks : List Nat) (k : Nat) : castL (ks ++ [k]) = castL ks ++ [(k : Int)] := by unfold castL; rw [List.map_append]; rfl
theorem held_len (zs : List (Addr × List Int)) (l : List Int) (n : Nat) : (heldBy zs l n).length ≤ n := by
  unfold heldBy
  exact Nat.le_trans (List.length_filter_le _ _) (by rw [List.length_range]; exact Nat.le_refl _)
theorem held_succ {zs : List (Addr × List Int)} {l : List Int} {i : Nat} {v : Addr × List Int} (h : zs[i]? = some v) : heldBy zs l (i + 1) = heldBy zs l i ++ (if inAll l v.2 = true then [i] else []) := by
  unfold heldBy
  rw [List.range_succ, List.filter_append, List.filter_cons, List.filter_nil, List.getD_eq_getElem?_getD, h]
  rfl
def spHolders (K : PySem.W.Frag) (tb : Addr) : Sp := fun vs H Q _ => ∃ (sh fa : Addr) (zs : List (Addr × List Int)) (l : List Int), vs = [.ref sh, .ref fa] ∧ SqT K H sh (refs zs) ∧ Tups K H zs ∧ zs.length ≤ 1000 ∧ SqT K H fa (l.map V.int) ∧ H tb = some (tbO tb #[]) ∧
  ∀ (r : Addr) (H' : Hp), H r = none → Same H H' → H' r = some (.lst ((castL (heldBy zs l zs.length)).map V.int)) → Q (.ref r) H'
abbrev s_holders : Stmt := top 8
abbrev N_holders : List Str := ["shape", "face", "k", "piece"]
abbrev P_holders : List Str := ["shape", "face"]
theorem sc_holders : FnScope N_holders P_holders (defScope s_holders) := ⟨rfl, rfl, rfl, by decide +kernel, rfl, by decide +kernel, by decide +kernel⟩
theorem ok_holders (F : FunC K "holders" "holders" s_holders f fd c) (T : Txt base mg) (C_lies_in : Cal P w K mg base 2 "lies_in" P_lies_in (spLies K tb)) : FnOk P w K mg base CX0 3 f fd P_holders (spHolders K tb) := by
  refine F.okQ sc_holders (fun vs H Q E h => ?_) (fun A outer s H vs Q E hr h => ?_)
  · obtain ⟨sh, fa, zs, l, rfl, _⟩ := h
    rfl
  · obtain ⟨sh, fa, zs, l, rfl, hS, tz, zl, hf, hT, q⟩ := h
    refine ⟨_, (q_pss_one (q_ps_ret (q_pe_lc (own := [("k", 2), ("piece", 3)]) rfl sc_holders.nd (q_pi_enumT (K := K) rfl rfl T.no_enumerate (q_pa_cons (q_pv 0) q_pa_nil)) (blkOk_by (own := [("k", 2), ("piece", 3)]) (N := N_holders) (sc := defScope s_holders) (by decide +kernel)) (fun _ _ _ _ _ => (q_pg_tupK (n := 2) (K := K) rfl rfl (q_pgs_cons (q_pg_name (i := 2) sc_holders.nd rfl (by first | exact Or.inl rfl | exact Or.inr rfl)) (q_pgs_cons (q_pg_name (i := 3) sc_holders.nd rfl (by first | exact Or.inl rfl | exact Or.inr rfl)) q_pgs_nil)))) (fun _ _ _ _ _ => (q_pts_one (q_pt_val (q_pe_cal C_lies_in (hr.mono (by omega)) (q_pa_cons (q_pv 1) (q_pa_cons (q_pv 3) q_pa_nil)))))) (fun _ _ _ _ _ => (q_pv 2))))), ?_⟩
    refine ⟨_, rfl, sh, _, rfl, hS, fun D hD => ?_⟩
    refine lc_enumT (xs := refs zs) (fun i H2 => Same H H2 ∧ H2 D = some (.lst ((castL (heldBy zs l i)).map V.int))) ⟨Same.upd hD, upd_same⟩ (fun i H2 _ h => h.1.sqT hS) ?_ ?_
    · rintro i xv T1 H2 hxv ⟨s2, e2⟩ hT1
      obtain ⟨v, hv, rfl⟩ := refs_at hxv
      have hvm := List.mem_of_getElem? hv
      have hi : i < zs.length := (List.getElem?_eq_some_iff.mp hv).1
      have sT := Same.upd (o := .tup [.int (i : Int), .ref v.1]) hT1
      have s3 := s2.trans sT
      have hl := held_len zs l i
      refine ⟨T1, _, rfl, .inl (.inl upd_same), rfl, _, _, rfl, _, _, rfl, rfl, rfl, _, rfl, _, rfl, fa, v.1, l, v.2, rfl, s3.sqT hf, .inr (s3.sqT (tz v hvm)), s3 _ _ hT, ⟨_, rfl, ?_⟩⟩
      cases hb : inAll l v.2 with
      | true =>
        refine iteT ⟨_, rfl, ?_⟩
        rw [held_succ hv, hb, if_pos rfl, castL_app]
        exact il_push hD s2 e2 sT (by rw [castL_len]; omega)
      | false =>
        refine iteF ⟨s3, ?_⟩
        rw [held_succ hv, hb, if_neg (by simp), List.append_nil]
        exact sT _ _ e2
    · rintro H2 ⟨s2, e2⟩
      have e0 : (refs zs).length = zs.length := List.length_map ..
      rw [e0] at e2
      exact q D H2 hD s2 e2
def spCorners (K : PySem.W.Frag) : Sp := fun vs H Q _ => ∃ (sh : Addr) (zs : List (Addr × List Int)), vs = [.ref sh] ∧ SqT K H sh (refs zs) ∧ Tups K H zs ∧ (∀ z ∈ zs, z.2.length ≤ 6) ∧ zs.length ≤ 40 ∧
  ∀ (r : Addr) (cs : List Int) (H' : Hp), H r = none → Same H H' → H' r = some (.lst (cs.map V.int)) → cs.Nodup → cs.Pairwise (· ≤ ·) → (∀ x, x ∈ cs ↔ ∃ z ∈ zs, x ∈ z.2) → cs.length ≤ 240 → Q (.ref r) H'
abbrev s_corners : Stmt := top 5
abbrev N_corners : List Str := ["shape", "piece", "corner"]
abbrev P_corners : List Str := ["shape"]
theorem sc_corners : FnScope N_corners P_corners (defScope s_corners) := ⟨rfl, rfl, rfl, by decide +kernel, rfl, by decide +kernel, by decide +kernel⟩
theorem ok_corners (F : FunC K "corners" "corners" s_corners f fd c) (T : Txt base mg) : FnOk P w K mg base CX0 2 f fd P_corners (spCorners K) := by
  refine F.okQ sc_corners (fun vs H Q E h => ?_) (fun A outer s H vs Q E hr h => ?_)
  · obtain ⟨sh, zs, rfl, _⟩ := h
    rfl
  · obtain ⟨sh, zs, rfl, ha, ht, z6, z40, k⟩ := h
    refine ⟨_, (q_pss_one (q_ps_ret (q_pe_callB (cr_sortSetI rfl hr) rfl T.no_sorted (by decide +kernel) (q_pa_cons (q_pe_sc2 (own := [("piece", 1), ("corner", 2)]) (vs1 := [2]) (mk := fun D => SetI w D []) (radd := rAddI w) rfl sc_corners.nd (q_pi_tupK (K := K) rfl (q_pv 0)) (blkOk_by (own := [("piece", 1), ("corner", 2)]) (N := N_corners) (sc := defScope s_corners) (by decide +kernel)) (by decide) (fun _ _ _ _ _ => (q_pg_name (i := 1) sc_corners.nd rfl (by first | exact Or.inl rfl | exact Or.inr rfl))) (fun _ _ _ _ _ => q_pts_nil) (fun _ _ _ _ _ => (q_pi_tupK (K := K) rfl (q_pv 1))) (fun _ _ _ _ _ => (q_pg_name (i := 2) sc_corners.nd rfl (by first | exact Or.inl rfl | exact Or.inr rfl))) (fun _ _ _ _ _ => q_pts_nil) (fun _ _ _ _ _ => (q_pv 2)) (mkI P w) (fun _ _ _ _ _ => cr_addI)) q_pa_nil)))), ?_⟩
    refine ⟨_, rfl, sh, rfl, ⟨_, ha⟩, fun D hD => ?_⟩
    refine sc2_tup (mk := fun D => SetI w D []) (radd := rAddI w) (xs := refs zs) (fun i H2 => Same H H2 ∧ ∃ js, H2 D = some (SetI w D js) ∧ js.Nodup ∧ (∀ x, x ∈ js ↔ ∃ z ∈ zs.take i, x ∈ z.2) ∧ js.length ≤ 6 * i) ⟨Same.upd hD, [], upd_same, List.nodup_nil, (fun x => by simp), by simp⟩ (fun i H2 _ h => h.1.sqT ha) ?_ ?_
    · rintro i xv H2 hxv ⟨s2, js, hd, nd, mem, tl⟩
      obtain ⟨z, hz, rfl⟩ := refs_at hxv
      have hi : i < zs.length := (List.getElem?_eq_some_iff.mp hz).1
      have hzm := List.mem_of_getElem? hz
      have hz6 := z6 z hzm
      refine ⟨rfl, yes ⟨_, rfl, z.1, rfl, ⟨_, s2.sqT (ht z hzm)⟩, ?_⟩⟩
      refine inn_tup (xs := z.2.map V.int) (fun j H4 => Same H H4 ∧ ∃ js, H4 D = some (SetI w D js) ∧ js.Nodup ∧ (∀ x, x ∈ js ↔ (∃ z ∈ zs.take i, x ∈ z.2) ∨ x ∈ z.2.take j) ∧ js.length ≤ 6 * i + j)
        ⟨s2, js, hd, nd, (fun x => by rw [mem x]; simp), by omega⟩ (fun j H4 _ h => h.1.sqT (ht z hzm)) ?_ ?_
      · rintro j yv H4 hyv ⟨s4, js4, hd4, nd4, mem4, tl4⟩
        obtain ⟨u, hu, rfl⟩ := ints_at hyv
        have hj : j < z.2.length := (List.getElem?_eq_some_iff.mp hu).1
        refine ⟨rfl, yes ⟨_, rfl, D, u, js4, rfl, hd4, by omega, fun ks hk => ?_⟩⟩
        refine ⟨s4.updF hD, ks, upd_same, ?_, fun x => ?_, ?_⟩
        · rcases hk with ⟨_, rfl⟩ | ⟨h1, h2⟩
          · exact nd4
          · exact h2.nodup_iff.mpr (List.nodup_cons.mpr ⟨h1, nd4⟩)
        · have e : x ∈ ks ↔ x ∈ js4 ∨ x = u := by
            rcases hk with ⟨h1, rfl⟩ | ⟨h1, h2⟩
            · constructor
              · exact .inl
              · rintro (h | rfl)
                · exact h
                · exact h1
            · rw [h2.mem_iff, List.mem_cons, or_comm]
          rw [e, mem4 x, List.take_succ, hu]
          simp only [Option.toList_some, List.mem_append, List.mem_singleton, or_assoc]
        · rcases hk with ⟨_, rfl⟩ | ⟨h1, h2⟩
          · omega
          · rw [h2.length_eq, List.length_cons]; omega
      · rintro H4 ⟨s4, js4, hd4, nd4, mem4, tl4⟩
        have e0 : (z.2.map V.int).length = z.2.length := List.length_map ..
        rw [e0, List.take_length] at mem4
        refine ⟨s4, js4, hd4, nd4, fun x => ?_, by rw [e0] at tl4; omega⟩
        rw [mem4 x, List.take_succ, hz]
        simp only [Option.toList_some, List.mem_append, List.mem_singleton]
        constructor
        · rintro (⟨v, hv, hx⟩ | hx)
          · exact ⟨v, .inl hv, hx⟩
          · exact ⟨z, .inr rfl, hx⟩
        · rintro ⟨v, hv | rfl, hx⟩
          · exact .inl ⟨v, hv, hx⟩
          · exact .inr hx
    · rintro H2 ⟨s2, js, hd, nd, mem, tl⟩
      have e0 : (refs zs).length = zs.length := List.length_map ..
      rw [e0, List.take_length] at mem
      rw [e0] at tl
      refine ⟨D, js, rfl, hd, fun bs q pb rs hq => ?_⟩
      exact k q bs _ (s2.free hq) (s2.trans (Same.upd hq)) upd_same (pb.nodup_iff.mpr nd) rs (fun x => pb.mem_iff.trans (mem x)) (by rw [pb.length_eq]; omega)
end
end KW

set_option maxHeartbeats 4000000
namespace KW
open PySem L2
section
variable {P : Program} {w : World} {K : PySem.W.Frag} {mg : Str → Option Value} {base : Heap} {f c tb : Addr} {fd : FuncData}
theorem bit_is {m k : Nat} : (V.int (Builtin.bitAnd ((0 + (m : Int)) / 2 ^ (0 + (k : Int)).toNat) 1) = V.int 1) ↔ m.testBit k = true := by
  have e1 : (0 + (k : Int)).toNat = k := by omega
  rw [e1, PyProof.Rows.bitAnd_m1, Nat.testBit_eq_decide_div_mod_eq, decide_eq_true_eq, Int.zero_add]
  have e2 : ((m : Int) / 2 ^ k) % 2 = ((m / 2 ^ k % 2 : Nat) : Int) := by
    have e3 : (2 : Int) ^ k = ((2 ^ k : Nat) : Int) := by rw [Int.natCast_pow]; rfl
    rw [e3]; rfl
  rw [e2]
  constructor
  · intro h; injection h with h; omega
  · intro h; rw [h]; rfl
def spChoices5 (K : PySem.W.Frag) : Sp := fun vs H Q _ => ∃ (a : Addr) (l : List Int), vs = [.ref a] ∧ SqT K H a (l.map V.int) ∧ l.length ≤ 10 ∧
  ∀ (r : Addr) (ps : List PrT) (H' : Hp), H r = none → Same H H' → H' r = some (.lst (refPr ps)) → PrsT K H' ps → ps.map (·.2.2) = subsC l → Q (.ref r) H'
abbrev s__law_choices : Stmt := top 13
abbrev N__law_choices : List Str := ["_law_face", "_law_some", "_law_mask", "_law_choice", "_law_k"]
abbrev P__law_choices : List Str := ["_law_face"]
theorem sc__law_choices : FnScope N__law_choices P__law_choices (defScope s__law_choices) := ⟨rfl, rfl, rfl, by decide +kernel, rfl, by decide +kernel, by decide +kernel⟩
theorem ok__law_choices (F : FunC K "_law_choices" "_law_choices" s__law_choices f fd c) (T : Txt base mg) : FnOk P w K mg base CX0 1 f fd P__law_choices (spChoices5 K) := by
  refine F.okQ sc__law_choices (fun vs H Q E h => ?_) (fun A outer s H vs Q E hr h => ?_)
  · obtain ⟨a, l, rfl, _⟩ := h
    rfl
  · obtain ⟨a, l, rfl, ha, hl, k⟩ := h
    have hn : (l.map V.int).length = l.length := List.length_map ..
    have hp := pow_small hl
    have hN : ((1 : Int) * 2 ^ (((l.map V.int).length : Nat) : Int).toNat) = ((2 ^ l.length : Nat) : Int) := by
      rw [hn, Int.one_mul, Int.toNat_natCast, Int.natCast_pow]; rfl
    have b1 : -(2 ^ 62) ≤ ((1 : Int) * 2 ^ (((l.map V.int).length : Nat) : Int).toNat) := by
      rw [hN]; exact Int.le_trans (by decide) (Int.natCast_nonneg _)
    have b2 : ((1 : Int) * 2 ^ (((l.map V.int).length : Nat) : Int).toNat) < 2 ^ 62 := by
      rw [hN]; exact Int.lt_of_le_of_lt (Int.ofNat_le.mpr hp) (by decide)
    refine ⟨_, (q_pss_cons (q_ps_set (i := 1) sc__law_choices.nd rfl (by first | exact Or.inl rfl | exact Or.inr rfl) (q_pe_lst q_pa_nil))
      (q_pss_cons (q_ps_for PassesOwn.never rfl (q_pi_range1 rfl T.no_range (q_pa_cons (q_pe_op op_shl q_pe_int (q_pe_callB (call_lenK (K := K) rfl) rfl T.no_len (by decide +kernel) (q_pa_cons (q_pv 0) q_pa_nil))) q_pa_nil)) (q_pg_name (i := 2) sc__law_choices.nd rfl (by first | exact Or.inl rfl | exact Or.inr rfl))
      (q_pss_cons (q_ps_set (i := 3) sc__law_choices.nd rfl (by first | exact Or.inl rfl | exact Or.inr rfl) (q_pe_callTy (call_tuple_ofK (K := K) rfl) rfl T.no_tuple (by decide +kernel) (q_pa_cons (q_pe_lc (own := [("_law_k", 4)]) rfl sc__law_choices.nd (q_pi_range1 rfl T.no_range (q_pa_cons (q_pe_callB (call_lenK (K := K) rfl) rfl T.no_len (by decide +kernel) (q_pa_cons (q_pv 0) q_pa_nil)) q_pa_nil)) (blkOk_by (own := [("_law_k", 4)]) (N := N__law_choices) (sc := defScope s__law_choices) (by decide +kernel)) (fun _ _ _ _ _ => (q_pg_name (i := 4) sc__law_choices.nd rfl (by first | exact Or.inl rfl | exact Or.inr rfl))) (fun _ _ _ _ _ => (q_pts_one (q_pt_cmpR op_eq (q_pe_op op_and (q_pe_op op_shr (q_pv 2) (q_pv 4)) q_pe_int) q_pe_int (nomark _)))) (fun _ _ _ _ _ => (q_pe_ix (ix_tupK (K := K) rfl) (q_pv 0) (q_pv 4) (fun _ _ => rfl)))) q_pa_nil)))
      (q_pss_one (q_ps_expr (q_pe_bm PySem.F.plainAttrs_list PySem.F.slot_list_append PySem.F.type_list_append mt_append (q_pv 1) (q_pa_cons (q_pe_tup (q_pa_cons (q_pe_callB (call_lenK (K := K) rfl) rfl T.no_len (by decide +kernel) (q_pa_cons (q_pv 3) q_pa_nil)) (q_pa_cons (q_pv 3) q_pa_nil))) q_pa_nil))))))
      (q_pss_one (q_ps_ret (q_pv 1))))), ?_⟩
    refine ⟨(by show 0 ≤ sizeLine; decide), fun S hS => ?_⟩
    have s0 : Same H (upd H S (.lst [])) := Same.upd hS
    refine ⟨_, rfl, _, _, rfl, .inr ⟨_, s0.sqT ha, rfl⟩, _, _, rfl, rfl, ⟨by show (0 : Int) ≤ _; omega, by show (_ : Int) ≤ 1000000; omega, by decide⟩, _, rfl, b1, b2, ?_⟩
    rw [hN, Int.toNat_natCast]
    refine for_range (lo := 0) (fun i σ H' => ∃ (ps : List (Addr × Addr × List Int)) (v2 v3 v4 : Option V), σ = [some (.ref a), some (.ref S), v2, v3, v4] ∧ Same H H' ∧ H' S = some (.lst (refPr ps)) ∧ PrsT K H' ps ∧ ps.map (·.2.2) = (List.range i).map (pickC l)) ⟨[], none, none, none, rfl, s0, upd_same, (fun q hq => nomatch hq), rfl⟩ ?_ ?_
    · rintro i σ H' hi ⟨ps, v2, v3, v4, rfl, sm, eS, hP, eP⟩
      have pl : ps.length = i := by rw [← List.length_map (f := (·.2.2)), eP, List.length_map, List.length_range]
      refine ⟨_, rfl, _, _, rfl, .inr ⟨_, sm.sqT ha, rfl⟩, _, rfl, (by omega), (by omega), fun D hD => ?_⟩
      have hD0 := sm.free hD
      refine lc_range (lo := 0) (fun j H2 => Same H' H2 ∧ H2 D = some (.lst ((pickI l i j).map V.int))) ⟨Same.upd hD, upd_same⟩ ?_ ?_
      · rintro j H2 hj ⟨s2, e2⟩
        have hj : j < l.length := by omega
        refine ⟨rfl, _, rfl, _, rfl, _, _, rfl, rfl, (by show (0 : Int) ≤ 0 + (j : Int); omega), _, _, rfl, rfl, rfl, _, rfl, ?_⟩
        rw [pickI_succ]
        by_cases hb : i.testBit j = true
        · refine iteT' (decide_eq_true (bit_is.mpr hb)) ⟨_, rfl, _, rfl, a, _, _, _, rfl, rfl, (sm.trans s2).sqT ha, atI_getD' (i := j) (by omega) hj, ?_⟩
          rw [if_pos hb]
          exact il_push hD s2 e2 (Same.refl _) (by unfold pickI; rw [List.length_map]; exact Nat.le_trans (List.length_filter_le _ _) (by rw [List.length_range]; omega))
        · refine iteF' (fun z => hb (bit_is.mp (of_decide_eq_true z))) ?_
          rw [if_neg hb]
          exact ⟨s2, e2⟩
      · rintro H2 ⟨s2, e2⟩
        have en : (((l.map V.int).length : Nat) : Int).toNat = l.length := by omega
        rw [en] at e2
        refine ⟨D, _, rfl, .inl ⟨SqL.of e2, fun t ht => ?_⟩⟩
        have s3 : Same H2 (upd H2 t (.tup ((pickC l i).map V.int))) := Same.upd ht
        have s4 := s2.trans s3
        refine ⟨_, rfl, .inl ⟨rfl, _, SqL.of (s4 _ _ eS)⟩, _, rfl, _, _, rfl, .inr ⟨_, .inl (.inl upd_same), rfl⟩, _, rfl, (by show 2 ≤ sizeLine; decide), fun q hq => ?_⟩
        have s5 := s4.trans (Same.upd (o := .tup [.int ((((pickC l i).map V.int).length : Nat) : Int), .ref t]) hq)
        refine ⟨S, _, _, rfl, rfl, s5 _ _ eS, by rw [List.length_map, pl]; exact small (by omega), ?_⟩
        refine ⟨ps ++ [(q, t, pickC l i)], _, _, _, rfl, (sm.trans s5).updF hS, by rw [upd_same]; simp [refPr], ?_, by rw [List.map_append, eP, List.range_succ, List.map_append]; rfl⟩
        refine PrsT.sx (D := S) (fun r hr => ?_) (s5 _ _ eS) SameX.upd
        rcases List.mem_append.mp hr with hr | hr
        · exact (hP.same s5) r hr
        · rw [List.mem_singleton.mp hr]
          refine ⟨.inl (.inl ?_), .inl (.inl ?_)⟩
          · rw [upd_same, List.length_map]
          · rw [upd_ne (ne_of_none (upd_same (H := H2) (a := t)) hq), upd_same]
    · rintro σ H' ⟨ps, v2, v3, v4, rfl, sm, eS, hP, eP⟩
      exact ⟨_, rfl, k S ps H' hS sm eS hP (by rw [eP, subs_pick])⟩
def spFaces5 (P : Program) (w : World) (K : PySem.W.Frag) : Sp := fun vs H Q _ => ∃ (sh : Addr) (zs : List (Addr × List Int)), vs = [.ref sh] ∧ SqT K H sh (refs zs) ∧ Tups K H zs ∧ (∀ z ∈ zs, z.2.length ≤ 6) ∧ zs.length ≤ 40 ∧ 1 ≤ zs.length ∧
  ∀ (r : Addr) (ys : List (Addr × List Int)) (H' : Hp), H r = none → Same H H' → H' r = some (.lst (refs ys)) → Tups K H' ys → FacesOf zs (ys.map (·.2)) → ys.length ≤ 64 * zs.length → Rises ((ys.map (·.2)).map keyD) → Q (.ref r) H'
abbrev s__law_faces : Stmt := top 14
abbrev N__law_faces : List Str := ["_law_shape", "_law_known", "_law_piece", "_law_size", "_law_face", "_law_one"]
abbrev P__law_faces : List Str := ["_law_shape"]
theorem sc__law_faces : FnScope N__law_faces P__law_faces (defScope s__law_faces) := ⟨rfl, rfl, rfl, by decide +kernel, rfl, by decide +kernel, by decide +kernel⟩
theorem ok__law_faces (F : FunC K "_law_faces" "_law_faces" s__law_faces f fd c) (T : Txt base mg) (C__law_choices : Cal P w K mg base 1 "_law_choices" P__law_choices (spChoices5 K)) : FnOk P w K mg base CX0 2 f fd P__law_faces (spFaces5 P w K) := by
  refine F.okQ sc__law_faces (fun vs H Q E h => ?_) (fun A outer s H vs Q E hr h => ?_)
  · obtain ⟨sh, zs, rfl, _⟩ := h
    rfl
  · obtain ⟨sh, zs, rfl, ha, ht, z6, z40, z1, k⟩ := h
    refine ⟨_, (q_pss_cons (q_ps_set (i := 1) sc__law_faces.nd rfl (by first | exact Or.inl rfl | exact Or.inr rfl) q_pe_dnewT)
      (q_pss_cons (q_ps_for PassesOwn.never rfl (q_pi_tupK (K := K) rfl (q_pv 0)) (q_pg_name (i := 2) sc__law_faces.nd rfl (by first | exact Or.inl rfl | exact Or.inr rfl))
      (q_pss_one (q_ps_expr (q_pe_updPr (K := K) rfl hr rfl (q_pv 1) (q_pa_cons (q_pe_lc (own := [("_law_one", 5)]) rfl sc__law_faces.nd (q_pi_listK (K := K) rfl (q_pe_cal C__law_choices (hr.mono (by omega)) (q_pa_cons (q_pv 2) q_pa_nil))) (blkOk_by (own := [("_law_one", 5)]) (N := N__law_faces) (sc := defScope s__law_faces) (by decide +kernel)) (fun _ _ _ _ _ => (q_pg_name (i := 5) sc__law_faces.nd rfl (by first | exact Or.inl rfl | exact Or.inr rfl))) (fun _ _ _ _ _ => q_pts_nil) (fun _ _ _ _ _ => (q_pe_tup (q_pa_cons (q_pv 5) (q_pa_cons q_pe_bl q_pa_nil))))) q_pa_nil)))))
      (q_pss_one (q_ps_ret (q_pe_lc (own := [("_law_size", 3), ("_law_face", 4)]) rfl sc__law_faces.nd (q_pi_listK (K := K) rfl (q_pe_callB (cr_sortDP (K := K) rfl hr rfl) rfl T.no_sorted (by decide +kernel) (q_pa_cons (q_pv 1) q_pa_nil))) (blkOk_by (own := [("_law_size", 3), ("_law_face", 4)]) (N := N__law_faces) (sc := defScope s__law_faces) (by decide +kernel)) (fun _ _ _ _ _ => (q_pg_tupK (n := 2) (K := K) rfl rfl (q_pgs_cons (q_pg_name (i := 3) sc__law_faces.nd rfl (by first | exact Or.inl rfl | exact Or.inr rfl)) (q_pgs_cons (q_pg_name (i := 4) sc__law_faces.nd rfl (by first | exact Or.inl rfl | exact Or.inr rfl)) q_pgs_nil)))) (fun _ _ _ _ _ => q_pts_nil) (fun _ _ _ _ _ => (q_pv 4))))))), ?_⟩
    refine fun G hG => ?_
    have sG : Same H (upd H G (.dT [])) := Same.upd hG
    refine ⟨_, rfl, sh, rfl, ⟨_, sG.sqT ha⟩, for_tup (xs := refs zs) (fun i σ H' => ∃ (xs : List PrT) (v2 v3 v4 v5 : Option V), σ = [some (.ref sh), some (.ref G), v2, v3, v4, v5] ∧ Same H H' ∧ ((H' G = some (.dT []) ∧ xs = []) ∨ H' G = some (DictP P w G xs)) ∧ (0 < i → H' G = some (DictP P w G xs)) ∧ PrsT K H' xs ∧ (xs.map (·.2.2)).Nodup ∧ (∀ x, x ∈ xs.map (·.2.2) ↔ ∃ z ∈ zs.take i, x ∈ subsC z.2) ∧ xs.length ≤ 64 * i) ⟨[], none, none, none, none, rfl, sG, .inl ⟨upd_same, rfl⟩, (fun h => absurd h (by omega)), (fun q hq => nomatch hq), List.nodup_nil, (fun x => by simp), by simp⟩ ?_ ?_ ?_⟩
    · rintro i σ H' _ ⟨xs, v2, v3, v4, v5, rfl, sm, _⟩
      exact sm.sqT ha
    · rintro i xv σ H' hxv ⟨xs, v2, v3, v4, v5, rfl, sm, eG, _, hP, nd, mem, xl⟩
      obtain ⟨z, hz, rfl⟩ := refs_at hxv
      have hi : i < zs.length := (List.getElem?_eq_some_iff.mp hz).1
      have hzm := List.mem_of_getElem? hz
      have hz6 := z6 z hzm
      refine ⟨_, rfl, ⟨G, xs, rfl, eG⟩, _, rfl, z.1, z.2, rfl, sm.sqT (ht z hzm), by omega, fun R ps H1 hR s1 eR pR mR => ?_⟩
      have sm1 := sm.trans s1
      have pl : ps.length ≤ 64 := by
        rw [← List.length_map (f := (·.2.2)), mR, subs_len]; exact Nat.pow_le_pow_right (by decide) hz6
      have nGR : G ≠ R := fun e => by
        rcases eG with ⟨h, _⟩ | h <;> rw [e, hR] at h <;> cases h
      refine ⟨R, rfl, ⟨_, SqL.of eR⟩, fun D hD => ?_⟩
      refine lc_list (xs := refPr ps) (fun j H2 => Same H1 H2 ∧ ∃ ts : List Addr, ts.length = j ∧ H2 D = some (.lst (ts.map V.ref)) ∧ ∀ (q : Nat) (t : Addr) (p : PrT), ts[q]? = some t → ps[q]? = some p → SqT K H2 t [.ref p.1, .bl true]) ⟨Same.upd hD, [], rfl, upd_same, fun q t p h => by simp at h⟩ (fun j H2 _ h => SqL.of (h.1 _ _ eR)) ?_ ?_
      · rintro j y H2 hy ⟨s2, ts, tl, eD, ht2⟩
        rw [List.getElem?_map] at hy
        obtain ⟨p, hp, rfl⟩ := Option.map_eq_some_iff.mp hy
        have hj : j < ps.length := (List.getElem?_eq_some_iff.mp hp).1
        refine ⟨rfl, yes ⟨_, rfl, (by show 2 ≤ sizeLine; decide), fun t ht3 => ?_⟩⟩
        have s3 := s2.trans (Same.upd (o := .tup [.ref p.1, .bl true]) ht3)
        have nDt : D ≠ t := (ne_of_none eD ht3)
        refine ⟨_, by rw [upd_ne nDt]; exact eD, ?_, s3.updF hD, ts ++ [t], by simp [tl], by rw [upd_same]; simp, fun q t1 p1 hq hp1 => ?_⟩
        · rw [List.length_map, tl]; exact small (by omega)
        have keep : ∀ {a : Addr} {ys : List V}, SqT K (upd H2 t (.tup [.ref p.1, .bl true])) a ys → SqT K (upd (upd H2 t (.tup [.ref p.1, .bl true])) D (.lst (ts.map V.ref ++ [.ref t]))) a ys := fun h => h.sx (by rw [upd_ne nDt]; exact eD) SameX.upd
        rcases Nat.lt_or_ge q ts.length with hlt | hge
        · rw [List.getElem?_append_left hlt] at hq
          exact keep ((Same.upd ht3).sqT (ht2 q t1 p1 hq hp1))
        · rw [List.getElem?_append_right hge] at hq
          have eq : q = ts.length := by
            have := (List.getElem?_eq_some_iff.mp hq).1
            simp at this; omega
          subst eq
          simp at hq
          subst hq
          rw [tl] at hp1
          rw [hp] at hp1
          cases hp1
          exact keep (.inl (.inl upd_same))
      · rintro H2 ⟨s2, ts, tl, eD, ht2⟩
        have e0 : (refPr ps).length = ps.length := List.length_map ..
        rw [e0] at tl
        have zl : (ts.zip ps).length = ps.length := by rw [List.length_zip, tl]; omega
        have ez1 : (ts.zip ps).map (fun q => V.ref q.1) = ts.map V.ref := by
          rw [show (fun q : Addr × PrT => V.ref q.1) = V.ref ∘ Prod.fst from rfl, ← List.map_map, List.map_fst_zip (by omega)]
        have ez2 : (ts.zip ps).map (·.2) = ps := List.map_snd_zip (by omega)
        have sm2 := sm1.trans s2
        have eG2 : (H2 G = some (.dT []) ∧ xs = []) ∨ H2 G = some (DictP P w G xs) := by
          rcases eG with ⟨h, e⟩ | h
          · exact .inl ⟨s2 _ _ (s1 _ _ h), e⟩
          · exact .inr (s2 _ _ (s1 _ _ h))
        have nk : ∀ {a : Addr} {ys : List V} {o : HO}, SqT K H2 a ys → SqT K (upd H2 G o) a ys := fun {a ys o} h => by
          rcases h with (h | h) | h
          · refine .inl (.inl ?_)
            rw [upd_ne (fun e => ?_)]
            · exact h
            · rw [e] at h
              rcases eG2 with ⟨g, _⟩ | g <;> rw [h] at g <;> cases g
          · refine .inl (.inr ?_)
            rw [upd_ne (fun e => ?_)]
            · exact h
            · obtain ⟨o1, g1⟩ := h
              rcases eG2 with ⟨g, _⟩ | g <;> rw [← e, g1] at g <;> cases g
          · exact .inr h
        refine ⟨G, D, xs, ts.zip ps, rfl, rfl, eG2, hP.same (s1.trans s2), by rw [ez1]; exact SqL.of eD, fun q hq => ?_, by rw [ez2]; exact pR.same s2, by rw [zl]; exact Nat.le_of_lt (small (by omega)), ?_⟩
        · obtain ⟨j, hj⟩ := List.getElem?_of_mem hq
          obtain ⟨h1, h2⟩ := List.getElem?_zip_eq_some.mp hj
          exact ht2 j q.1 q.2 h1 h2
        · rw [ez2]
          have hm := mergePr_len (ps := ps) (xs := xs)
          refine ⟨mergePr xs ps, _, _, _, _, rfl, sm2.updF hG, .inr upd_same, fun _ => upd_same, fun q hq => ?_, mergePr_nd nd, fun x => ?_, by omega⟩
          · have : SqT K H2 q.1 [.int q.2.2.length, .ref q.2.1] ∧ SqT K H2 q.2.1 (q.2.2.map V.int) := by
              rcases mergePr_sub hq with h | h
              · exact (hP.same (s1.trans s2)) q h
              · exact (pR.same s2) q h
            exact ⟨nk this.1, nk this.2⟩
          · rw [mergePr_mem, mem x, mR, List.take_succ, hz]
            simp only [Option.toList_some, List.mem_append, List.mem_singleton]
            constructor
            · rintro (⟨v, hv, hx⟩ | hx)
              · exact ⟨v, .inl hv, hx⟩
              · exact ⟨z, .inr rfl, hx⟩
            · rintro ⟨v, hv | rfl, hx⟩
              · exact .inl ⟨v, hv, hx⟩
              · exact .inr hx
    · rintro σ H' ⟨xs, v2, v3, v4, v5, rfl, sm, eG, eG2, hP, nd, mem, xl⟩
      have e0 : (refs zs).length = zs.length := List.length_map ..
      rw [e0, List.take_length] at mem
      rw [e0] at xl eG2
      refine ⟨_, rfl, G, xs, rfl, eG2 (by omega), hP, Nat.le_of_lt (small (by omega)), fun qs R pm rs hR => ?_⟩
      have s1 : Same H' (upd H' R (.lst (refPr qs))) := Same.upd hR
      have hQ : PrsT K (upd H' R (.lst (refPr qs))) qs := fun q hq => (hP.same s1) q (pm.mem_iff.mp hq)
      refine ⟨R, rfl, ⟨_, SqL.of upd_same⟩, fun D hD => ?_⟩
      have ql : qs.length ≤ 2560 := by rw [pm.length_eq]; omega
      refine lc_list (xs := refPr qs) (fun j H2 => Same (upd H' R (.lst (refPr qs))) H2 ∧ H2 D = some (.lst (refs ((qs.take j).map fun q => (q.2.1, q.2.2))))) ⟨Same.upd hD, upd_same⟩ (fun j H2 _ h => SqL.of (h.1 _ _ upd_same)) ?_ ?_
      · rintro j y H2 hy ⟨s2, e2⟩
        rw [List.getElem?_map] at hy
        obtain ⟨q, hq, rfl⟩ := Option.map_eq_some_iff.mp hy
        have hj : j < qs.length := (List.getElem?_eq_some_iff.mp hq).1
        refine ⟨q.1, _, rfl, s2.sqT (hQ q (List.mem_of_getElem? hq)).1, rfl, _, _, rfl, _, _, rfl, rfl, rfl, yes ⟨_, rfl, _, e2, ?_, s2.updF hD, ?_⟩⟩
        · rw [List.length_map, List.length_map, List.length_take]; exact small (by omega)
        · rw [upd_same, List.take_succ, hq]; simp [refs]
      · rintro H2 ⟨s2, e2⟩
        have e0 : (refPr qs).length = qs.length := List.length_map ..
        rw [e0, List.take_length] at e2
        have sm2 := (sm.trans s1).trans s2
        have em : (qs.map fun q => (q.2.1, q.2.2)).map (·.2) = qs.map (·.2.2) := by rw [List.map_map]; rfl
        have p2 : (qs.map (·.2.2)).Perm (xs.map (·.2.2)) := pm.map _
        refine k D _ H2 ((sm.trans s1).free hD) sm2 e2 (fun z hz => ?_) ?_ ?_ ?_
        · obtain ⟨q, hq, rfl⟩ := List.mem_map.mp hz
          exact s2.sqT (hQ q hq).2
        · rw [em]
          exact ⟨p2.nodup_iff.mpr nd, fun f => p2.mem_iff.trans (mem f)⟩
        · rw [List.length_map, pm.length_eq]; exact xl
        · rw [em, List.map_map]
          exact rs
end
end KW

set_option maxHeartbeats 4000000
namespace KW
open PySem L2
theorem ShapeF.sx {K : PySem.W.Frag} {H H' : Hp} {sh p : Addr} {ys : List V} {zs : List (Addr × List Int)} {n : Nat} (h : ShapeF K H sh zs n) (hp : H p = some (.lst ys)) (s : SameX p H H') : ShapeF K H' sh zs n :=
  ⟨h.at_.sx hp s, h.tup.sx hp s, h.len, h.n1, h.n6, h.z1, h.z40, h.bd⟩
theorem cut_one5 (l : List Int) : cutV (l.map V.int) (some 1) none = (l.drop 1).map V.int := by
  cases l with
  | nil => rfl
  | cons a t => exact cut_from (k := 1) (by simp)
theorem cut_upto5 {l : List Int} {k : Nat} : cutV (l.map V.int) none (some (k : Int)) = (l.take k).map V.int := by rw [cut_upto, List.map_take]
structure AskAt (K : PySem.W.Frag) (H Hi : Hp) (p a : Addr) (ns : List Int) (F : Addr) (us : List (Addr × List Int)) : Prop where
  sx : SameX p H Hi
  pen : ∃ x y, Pen K Hi p a ns x y
  ef : Hi F = some (.lst (refs us))
  tu : Tups K Hi us
  sz : ∀ u ∈ us, u.2.length ≤ 7
theorem AskAt.same {K : PySem.W.Frag} {H Hi Hj : Hp} {p a F : Addr} {ns : List Int} {us : List (Addr × List Int)} (h : AskAt K H Hi p a ns F us) (s : Same Hi Hj) : AskAt K H Hj p a ns F us :=
  ⟨h.sx.trans (SameX.of s), let ⟨x, y, P⟩ := h.pen; ⟨x, y, P.same s⟩, s _ _ h.ef, h.tu.same s, h.sz⟩
theorem AskAt.draw {K : PySem.W.Frag} {H Hi Hj : Hp} {p a F : Addr} {ns : List Int} {us : List (Addr × List Int)} {x y : Int} (h : AskAt K H Hi p a ns F us) (ne : F ≠ p) (s : SameX p Hi Hj) (P : Pen K Hj p a ns x y) : AskAt K H Hj p a ns F us :=
  ⟨h.sx.trans s, ⟨x, y, P⟩, s _ _ ne h.ef, let ⟨_, _, P0⟩ := h.pen; h.tu.sx P0.at_ s, h.sz⟩
theorem AskAt.push {K : PySem.W.Frag} {H Hi : Hp} {p a F r : Addr} {ns : List Int} {x y : Int} {us : List (Addr × List Int)} {c : List Int} (h : AskAt K H Hi p a ns F us) (P0 : Pen K H p a ns x y) (hF : H F = none) (ne : F ≠ p) (hr : SqT K Hi r (c.map V.int)) (hc : c.length ≤ 7) : AskAt K H (L2.upd Hi F (.lst (refs us ++ [.ref r]))) p a ns F (us ++ [(r, c)]) := by
  obtain ⟨x, y, P⟩ := h.pen
  exact ⟨h.sx.updF hF, ⟨x, y, P0.up h.sx P hF ne⟩, by rw [upd_same, refs_snoc], (h.tu.snoc hr).sx h.ef SameX.upd, fun u hu => by
    rcases List.mem_append.mp hu with hu | hu
    · exact h.sz u hu
    · rw [List.mem_singleton.mp hu]; exact hc⟩
section
variable {P : Program} {w : World} {K : PySem.W.Frag} {mg : Str → Option Value} {base : Heap} {f c tb : Addr} {fd : FuncData}
def spAsked (K : PySem.W.Frag) : Sp := fun vs H Q _ => ∃ (p a sh : Addr) (ns : List Int) (x y : Int) (zs : List (Addr × List Int)) (n : Nat), vs = [.ref p, .ref sh] ∧ Pen K H p a ns x y ∧ ShapeF K H sh zs n ∧
  ∀ (r : Addr) (us : List (Addr × List Int)) (H' : Hp), H r = none → r ≠ p → AskAt K H H' p a ns r us → us.length ≤ 15 → Q (.ref r) H'
abbrev s__law_asked : Stmt := top 15
abbrev N__law_asked : List Str := ["_law_pen", "_law_shape", "_law_found", "_law_k", "_law_one", "_law_other", "_law_two", "_law_most", "_law_some", "_law_face", "_law_corner"]
abbrev P__law_asked : List Str := ["_law_pen", "_law_shape"]
theorem sc__law_asked : FnScope N__law_asked P__law_asked (defScope s__law_asked) := ⟨rfl, rfl, rfl, by decide +kernel, rfl, by decide +kernel, by decide +kernel⟩
theorem ok__law_asked (F : FunC K "_law_asked" "_law_asked" s__law_asked f fd c) (T : Txt base mg) (C__law_draw : Cal P w K mg base 1 "_law_draw" P__law_draw (spDraw K)) : FnOk P w K mg base CX0 2 f fd P__law_asked (spAsked K) := by
  refine F.okQ sc__law_asked (fun vs H Q E h => ?_) (fun A outer s H vs Q E hr h => ?_)
  · obtain ⟨p, a, sh, ns, x, y, zs, n, rfl, _⟩ := h
    rfl
  · obtain ⟨p, a, sh, ns, x, y, zs, n, rfl, Pn, hS, k⟩ := h
    refine ⟨_, (q_pss_cons (q_ps_set (i := 2) sc__law_asked.nd rfl (by first | exact Or.inl rfl | exact Or.inr rfl) (q_pe_lst (q_pa_cons (q_pe_tup q_pa_nil) (q_pa_cons (q_pe_ix (ix_tupK (K := K) rfl) (q_pv 1) (q_pe_un un_neg q_pe_int) (fun _ _ => rfl)) (q_pa_cons (q_pe_ix (ix_tupK (K := K) rfl) (q_pv 1) q_pe_int (fun _ _ => rfl)) q_pa_nil)))))
      (q_pss_cons (q_ps_for PassesOwn.never rfl (q_pi_range1 rfl T.no_range (q_pa_cons q_pe_int q_pa_nil)) (q_pg_name (i := 3) sc__law_asked.nd rfl (by first | exact Or.inl rfl | exact Or.inr rfl))
      (q_pss_cons (q_ps_set (i := 4) sc__law_asked.nd rfl (by first | exact Or.inl rfl | exact Or.inr rfl) (q_pe_ix (ix_tupK (K := K) rfl) (q_pv 1) (q_pe_cal C__law_draw (hr.mono (by omega)) (q_pa_cons (q_pv 0) (q_pa_cons (q_pe_callB (call_lenK (K := K) rfl) rfl T.no_len (by decide +kernel) (q_pa_cons (q_pv 1) q_pa_nil)) q_pa_nil))) (fun _ _ => rfl)))
      (q_pss_cons (q_ps_set (i := 5) sc__law_asked.nd rfl (by first | exact Or.inl rfl | exact Or.inr rfl) (q_pe_ix (ix_tupK (K := K) rfl) (q_pv 1) (q_pe_cal C__law_draw (hr.mono (by omega)) (q_pa_cons (q_pv 0) (q_pa_cons (q_pe_callB (call_lenK (K := K) rfl) rfl T.no_len (by decide +kernel) (q_pa_cons (q_pv 1) q_pa_nil)) q_pa_nil))) (fun _ _ => rfl)))
      (q_pss_cons (q_ps_set (i := 6) sc__law_asked.nd rfl (by first | exact Or.inl rfl | exact Or.inr rfl) (q_pe_callB (cr_sortSetI rfl hr) rfl T.no_sorted (by decide +kernel) (q_pa_cons (q_pe_callTy (cr_setIntsA rfl (K := K) rfl) rfl T.no_set (by decide +kernel) (q_pa_cons (q_pe_op (op_catTT (K := K) rfl) (q_pv 4) (q_pv 5)) q_pa_nil)) q_pa_nil)))
      (q_pss_cons (q_ps_set (i := 7) sc__law_asked.nd rfl (by first | exact Or.inl rfl | exact Or.inr rfl) (q_pe_ix (ix_listK (K := K) rfl) (q_pe_lst (q_pa_cons (q_pe_callB (call_lenK (K := K) rfl) rfl T.no_len (by decide +kernel) (q_pa_cons (q_pv 4) q_pa_nil)) (q_pa_cons (q_pe_callB (call_lenK (K := K) rfl) rfl T.no_len (by decide +kernel) (q_pa_cons (q_pv 6) q_pa_nil)) q_pa_nil))) (q_pe_cal C__law_draw (hr.mono (by omega)) (q_pa_cons (q_pv 0) (q_pa_cons q_pe_int q_pa_nil))) (fun _ _ => rfl)))
      (q_pss_cons (q_ps_set (i := 8) sc__law_asked.nd rfl (by first | exact Or.inl rfl | exact Or.inr rfl) (q_pe_slice (sl_listK (K := K) rfl) (q_pe_ix (ix_listK (K := K) rfl) (q_pe_lst (q_pa_cons (q_pv 6) (q_pa_cons (q_pe_callTy (call_list_ofK (K := K) rfl) rfl T.no_list (by decide +kernel) (q_pa_cons (q_pv 4) q_pa_nil)) q_pa_nil))) (q_pe_cal C__law_draw (hr.mono (by omega)) (q_pa_cons (q_pv 0) (q_pa_cons q_pe_int q_pa_nil))) (fun _ _ => rfl)) q_po_none (q_po_some (q_pv 7))))
      (q_pss_cons (q_ps_set (i := 9) sc__law_asked.nd rfl (by first | exact Or.inl rfl | exact Or.inr rfl) (q_pe_slice (sl_tupAK (K := K) rfl) (q_pe_callTy (call_tuple_ofK (K := K) rfl) rfl T.no_tuple (by decide +kernel) (q_pa_cons (q_pe_lc (own := [("_law_corner", 10)]) rfl sc__law_asked.nd (q_pi_listK (K := K) rfl (q_pv 8)) (blkOk_by (own := [("_law_corner", 10)]) (N := N__law_asked) (sc := defScope s__law_asked) (by decide +kernel)) (fun _ _ _ _ _ => (q_pg_name (i := 10) sc__law_asked.nd rfl (by first | exact Or.inl rfl | exact Or.inr rfl))) (fun _ _ _ _ _ => (q_pts_one (q_pt_cmpR op_gt (q_pe_cal C__law_draw (hr.mono (by omega)) (q_pa_cons (q_pv 0) (q_pa_cons q_pe_int q_pa_nil))) q_pe_int (nomark _)))) (fun _ _ _ _ _ => (q_pv 10))) q_pa_nil)) q_po_none (q_po_some q_pe_int)))
      (q_pss_cons (q_ps_expr (q_pe_bm PySem.F.plainAttrs_list PySem.F.slot_list_append PySem.F.type_list_append mt_append (q_pv 2) (q_pa_cons (q_pv 9) q_pa_nil)))
      (q_pss_one (q_ps_expr (q_pe_bm PySem.F.plainAttrs_list PySem.F.slot_list_append PySem.F.type_list_append mt_append (q_pv 2) (q_pa_cons (q_pe_callTy (call_tuple_ofK (K := K) rfl) rfl T.no_tuple (by decide +kernel) (q_pa_cons (q_pe_callB (cr_sortTup (K := K) hr rfl) rfl T.no_sorted (by decide +kernel) (q_pa_cons (q_pe_op (op_catTT (K := K) rfl) (q_pe_slice (sl_tupAK (K := K) rfl) (q_pv 9) (q_po_some q_pe_int) q_po_none) (q_pe_tup (q_pa_cons (q_pe_op op_add q_pe_int (q_pe_cal C__law_draw (hr.mono (by omega)) (q_pa_cons (q_pv 0) (q_pa_cons q_pe_int q_pa_nil)))) q_pa_nil))) q_pa_nil)) q_pa_nil)) q_pa_nil))))))))))))
      (q_pss_one (q_ps_ret (q_pv 2))))), ?_⟩
    obtain ⟨z0, hz0⟩ : ∃ z0, zs[0]? = some z0 := ⟨_, List.getElem?_eq_getElem hS.z1⟩
    obtain ⟨zl, hzl⟩ : ∃ zl, zs[zs.length - 1]? = some zl := ⟨_, List.getElem?_eq_getElem (by have := hS.z1; omega)⟩
    have z1 := hS.z1
    have z40 := hS.z40
    have n6 := hS.n6
    have eix : atI (refs zs) (-1) = some (.ref zl.1) := by
      have : ixN (refs zs).length (-1) = some (zs.length - 1) := by
        unfold ixN
        rw [List.length_map, if_neg (by decide), if_pos (by omega)]
        congr 1
        omega
      unfold atI
      rw [this]
      show (refs zs)[zs.length - 1]? = _
      rw [List.getElem?_map, hzl]; rfl
    refine ⟨(by show 0 ≤ sizeLine; decide), fun t0 h0 => ?_⟩
    have et : upd H t0 (.tup []) t0 = some (.tup []) := upd_same
    refine ⟨_, rfl, _, rfl, sh, _, _, _, rfl, rfl, (Same.upd h0).sqT hS.at_, eix, ?_⟩
    refine ⟨_, rfl, sh, _, 0, .ref z0.1, rfl, rfl, (Same.upd h0).sqT hS.at_, at_of (j := 0) rfl (by rw [List.getElem?_map, hz0]; rfl), ?_⟩
    refine ⟨(by show 3 ≤ sizeLine; decide), fun F0 hF => ?_⟩
    have nF : F0 ≠ p := (ne_of_none ((Same.upd (o := .tup []) h0) _ _ Pn.at_) hF).symm
    have hF0 : H F0 = none := (Same.upd (o := .tup []) h0).free hF
    have A0 : AskAt K H (L2.upd (L2.upd H t0 (.tup [])) F0 (.lst [.ref t0, .ref zl.1, .ref z0.1])) p a ns F0 [(t0, []), zl, z0] := by
      refine ⟨SameX.of ((Same.upd h0).trans (Same.upd hF)), ⟨x, y, Pn.same ((Same.upd h0).trans (Same.upd hF))⟩, upd_same, ?_, fun u hu => ?_⟩
      rotate_left
      · rcases List.mem_cons.mp hu with rfl | hu
        · exact Nat.zero_le _
        rcases List.mem_cons.mp hu with rfl | hu
        · rw [hS.len _ (List.mem_of_getElem? hzl)]; omega
        · rw [List.mem_singleton.mp hu, hS.len _ (List.mem_of_getElem? hz0)]; omega
      have s2 := (Same.upd (o := .tup []) h0).trans (Same.upd (o := .lst [.ref t0, .ref zl.1, .ref z0.1]) hF)
      intro z hz
      rcases List.mem_cons.mp hz with rfl | hz
      · exact (Same.upd hF).sqT (.inl (.inl et))
      rcases List.mem_cons.mp hz with rfl | hz
      · exact s2.sqT (hS.tup _ (List.mem_of_getElem? hzl))
      · rw [List.mem_singleton.mp hz]
        exact s2.sqT (hS.tup _ (List.mem_of_getElem? hz0))
    refine ⟨_, rfl, (by decide), (by decide), for_range (lo := 0) (n := 6) (fun i σ H' => ∃ (us : List (Addr × List Int)) (v3 v4 v5 v6 v7 v8 v9 v10 : Option V), σ = [some (.ref p), some (.ref sh), some (.ref F0), v3, v4, v5, v6, v7, v8, v9, v10] ∧ us.length = 3 + 2 * i ∧ AskAt K H H' p a ns F0 us) ⟨_, none, none, none, none, none, none, none, none, rfl, rfl, A0⟩ ?_ ?_⟩
    · rintro i σ H' hi ⟨us, v3, v4, v5, v6, v7, v8, v9, v10, rfl, ul, B0⟩
      have hi : i < 6 := by simpa using hi
      have zc : ((refs zs).length : Int) = (zs.length : Int) := by rw [List.length_map]
      obtain ⟨x0, y0, P0⟩ := B0.pen
      refine ⟨_, rfl, _, rfl, _, rfl, _, _, rfl, .inr ⟨_, (hS.sx Pn.at_ B0.sx).at_, rfl⟩, ?_⟩
      refine ⟨p, a, ns, x0, y0, _, rfl, P0, by omega, by omega, fun g1 x1 y1 H1 g10 g11 s1 P1 => ?_⟩
      have B1 := B0.draw nF s1 P1
      have hS1 := hS.sx Pn.at_ B1.sx
      obtain ⟨j1, rfl⟩ := Int.eq_ofNat_of_zero_le g10
      obtain ⟨w1, hw1⟩ : ∃ z, zs[j1]? = some z := ⟨_, List.getElem?_eq_getElem (by omega)⟩
      refine ⟨sh, _, _, .ref w1.1, rfl, rfl, hS1.at_, at_of (j := j1) rfl (by rw [List.getElem?_map, hw1]; rfl), ?_⟩
      refine ⟨_, rfl, _, rfl, _, rfl, _, _, rfl, .inr ⟨_, hS1.at_, rfl⟩, ?_⟩
      refine ⟨p, a, ns, x1, y1, _, rfl, P1, by omega, by omega, fun g2 x2 y2 H2 g20 g21 s2 P2 => ?_⟩
      have B2 := B1.draw nF s2 P2
      have hS2 := hS.sx Pn.at_ B2.sx
      obtain ⟨j2, rfl⟩ := Int.eq_ofNat_of_zero_le g20
      obtain ⟨w2, hw2⟩ : ∃ z, zs[j2]? = some z := ⟨_, List.getElem?_eq_getElem (by omega)⟩
      have m1 := List.mem_of_getElem? hw1
      have m2 := List.mem_of_getElem? hw2
      have l1 := hS.len w1 m1
      have l2 := hS.len w2 m2
      refine ⟨sh, _, _, .ref w2.1, rfl, rfl, hS2.at_, at_of (j := j2) rfl (by rw [List.getElem?_map, hw2]; rfl), ?_⟩
      -- the corners of both
      refine ⟨_, rfl, _, rfl, w1.1, w2.1, _, _, rfl, rfl, hS2.tup w1 m1, hS2.tup w2 m2, by rw [List.length_map, List.length_map]; exact Nat.le_of_lt (small (by omega)), fun r3 H3 s3 e3 => ?_⟩
      rw [← List.map_append] at e3
      refine .inr ⟨r3, _, rfl, e3, by rw [List.length_append]; omega, fun S js hS0 jnd jm => ?_⟩
      have jl : js.length ≤ 12 := by
        have := jnd.length_le_of_subset (l₂ := w1.2 ++ w2.2) fun z hz => (jm z).mp hz
        rw [List.length_append] at this; omega
      refine ⟨S, js, rfl, upd_same, fun bs T0 pb rs hT0 => ?_⟩
      have bl : bs.length ≤ 12 := by rw [pb.length_eq]; exact jl
      refine alloc (.lst (bs.map V.int)) hT0 fun H4 s4' eT => ?_
      have s4 : Same H2 H4 := (s3.trans (Same.upd hS0)).trans s4'
      have B4 := B2.same s4
      have P4 := P2.same s4
      have hS4 := hS2.same s4
      -- how many
      refine ⟨_, rfl, _, _, rfl, .inr ⟨_, hS4.tup w1 m1, rfl⟩, _, rfl, _, _, rfl, .inl ⟨_, SqL.of eT, rfl⟩, (by show 2 ≤ sizeLine; decide), fun L0 hL0 => ?_⟩
      refine alloc (.lst [.int (((w1.2.map V.int).length : Nat) : Int), .int (((bs.map V.int).length : Nat) : Int)]) hL0 fun H5 s5 eL => ?_
      have B5 := B4.same s5
      refine ⟨_, rfl, p, a, ns, x2, y2, 2, rfl, P4.same s5, by decide, by decide, fun g3 x3 y3 H6 g30 g31 s6 P6 => ?_⟩
      have B6 := B5.draw nF s6 P6
      have nL : L0 ≠ p := (ne_of_none P4.at_ hL0).symm
      have nT : T0 ≠ p := fun e => by rw [e, P4.at_] at eT; injection eT with eT; injection eT with eT; cases bs <;> simp at eT
      refine ⟨L0, _, _, _, rfl, rfl, SqL.of (s6 _ _ nL eL), at2 g30 g31, ?_⟩
      obtain ⟨m, m12, em⟩ : ∃ m : Nat, m ≤ 12 ∧ (if g3 = 0 then (((w1.2.map V.int).length : Nat) : Int) else (((bs.map V.int).length : Nat) : Int)) = (m : Int) := by
        by_cases e : g3 = 0
        · exact ⟨w1.2.length, by omega, by rw [if_pos e, List.length_map]⟩
        · exact ⟨bs.length, by omega, by rw [if_neg e, List.length_map]⟩
      rw [em]
      have hS6 := (hS4.same s5).sx (P4.same s5).at_ s6
      have eT6 := s6 _ _ nT (s5 _ _ eT)
      refine ⟨_, rfl, _, rfl, w1.1, _, rfl, .inr (hS6.tup w1 m1), fun R hR => ?_⟩
      refine alloc (.lst (w1.2.map V.int)) hR fun H7 s7 eR => ?_
      have nR : R ≠ p := (ne_of_none P6.at_ hR).symm
      refine ⟨(by show 2 ≤ sizeLine; decide), fun LB hL2 => ?_⟩
      refine alloc (.lst [.ref T0, .ref R]) hL2 fun H8 s8 eL2 => ?_
      have P8 := (P6.same s7).same s8
      have nL2 : LB ≠ p := (ne_of_none (P6.same s7).at_ hL2).symm
      have B8 := (B6.same s7).same s8
      refine ⟨_, rfl, p, a, ns, x3, y3, 2, rfl, P8, by decide, by decide, fun g4 x4 y4 H9 g40 g41 s9 P9 => ?_⟩
      have B9 := B8.draw nF s9 P9
      obtain ⟨so, sl, e1, e2, sl12⟩ : ∃ (so : Addr) (sl : List Int), atI [V.ref T0, V.ref R] g4 = some (.ref so) ∧ H9 so = some (.lst (sl.map V.int)) ∧ sl.length ≤ 12 := by
        rcases (show g4 = 0 ∨ g4 = 1 by omega) with rfl | rfl
        · exact ⟨T0, bs, rfl, s9 _ _ nT (s8 _ _ (s7 _ _ eT6)), bl⟩
        · exact ⟨R, w1.2, rfl, s9 _ _ nR (s8 _ _ eR), by omega⟩
      refine ⟨LB, _, _, _, rfl, rfl, SqL.of (s9 _ _ nL2 eL2), e1, ?_⟩
      refine ⟨_, rfl, _, rfl, so, _, rfl, SqL.of e2, fun C hC => ?_⟩
      rw [cut_upto5]
      refine alloc (.lst ((sl.take m).map V.int)) hC fun H10 s10 eC => ?_
      have B10 := B9.same s10
      have P10 := P9.same s10
      have nC : C ≠ p := (ne_of_none P9.at_ hC).symm
      -- the face
      refine ⟨_, rfl, C, rfl, ⟨_, SqL.of eC⟩, fun D hD => ?_⟩
      have nD : D ≠ p := (ne_of_none P10.at_ hD).symm
      refine lc_list (xs := (sl.take m).map V.int) (fun j H2 => ∃ (cs : List Int) (x y : Int), cs.length ≤ j ∧ SameX p H10 H2 ∧ Pen K H2 p a ns x y ∧ H2 D = some (.lst (cs.map V.int))) ⟨[], x4, y4, Nat.zero_le _, SameX.of (Same.upd hD), P10.same (Same.upd hD), upd_same⟩ (fun j H2 _ ⟨_, _, _, _, sx, _, _⟩ => SqL.of (sx _ _ nC eC)) ?_ ?_
      · rintro j yv H2 hyv ⟨cs, x', y', cl, sx, P', eD⟩
        obtain ⟨u, hu, rfl⟩ := ints_at hyv
        have hj : j < 12 := by
          have := (List.getElem?_eq_some_iff.mp hu).1
          rw [List.length_take] at this; omega
        refine ⟨rfl, _, rfl, p, a, ns, x', y', 3, rfl, P', by decide, by decide, fun g x'' y'' H3 g0 g9 s3 P3 => ⟨_, _, rfl, rfl, _, rfl, ite2 (fun h => ⟨_, rfl, ?_⟩) (fun h => ?_)⟩⟩
        · refine ⟨_, s3 _ _ nD eD, by rw [List.length_map]; exact small (by omega), cs ++ [u], x'', y'', by simp; omega, (sx.trans s3).updF hD, Pen.up P10 (sx.trans s3) P3 hD nD, by rw [upd_same, List.map_append]; rfl⟩
        · exact ⟨cs, x'', y'', by omega, sx.trans s3, P3, s3 _ _ nD eD⟩
      · rintro H11 ⟨cs, x5, y5, cl, sx, P5, eD⟩
        have B11 := B10.draw nF sx P5
        refine ⟨D, _, rfl, .inl ⟨SqL.of eD, fun t ht => ?_⟩⟩
        refine alloc (.tup (cs.map V.int)) ht fun H12 s12 et12 => ?_
        refine ⟨_, rfl, t, _, rfl, .inl (.inl et12), fun f1 H13 s13 e13 => ?_⟩
        have e13 : SqT K H13 f1 ((cs.take 6).map V.int) := by rw [← cut_upto5 (k := 6)]; exact e13
        have B13 := (B11.same s12).same s13
        refine ⟨_, rfl, .inl ⟨rfl, _, SqL.of B13.ef⟩, _, rfl, F0, _, _, rfl, rfl, B13.ef, by rw [List.length_map]; exact small (by omega), ?_⟩
        have B14 := B13.push Pn hF0 nF e13 (by rw [List.length_take]; omega)
        have e14 : SqT K (L2.upd H13 F0 (.lst (refs us ++ [.ref f1]))) f1 ((cs.take 6).map V.int) := e13.sx B13.ef SameX.upd
        obtain ⟨x6, y6, P6'⟩ := B14.pen
        generalize L2.upd H13 F0 (.lst (refs us ++ [.ref f1])) = H14 at B14 e14 P6' ⊢
        refine ⟨_, rfl, .inl ⟨rfl, _, SqL.of B14.ef⟩, ?_⟩
        refine ⟨_, rfl, _, rfl, f1, _, rfl, e14, fun r1 H15 s15 e15 => ?_⟩
        have e15 : SqT K H15 r1 (((cs.take 6).drop 1).map V.int) := by rw [← cut_one5]; exact e15
        have B15 := B14.same s15
        refine ⟨_, rfl, p, a, ns, x6, y6, 9, rfl, P6'.same s15, by decide, by decide, fun g x7 y7 H16 g0 g9 s16 P16 => ?_⟩
        have B16 := B15.draw nF s16 P16
        have e16 := e15.sx (P6'.same s15).at_ s16
        refine ⟨_, _, rfl, rfl, (by show 1 ≤ sizeLine; decide), fun t5 ht5 => ?_⟩
        refine alloc (.tup [.int (555 + g)]) ht5 fun H17 s17 et5 => ?_
        have ll : ((cs.take 6).drop 1).length ≤ 6 := by rw [List.length_drop, List.length_take]; omega
        refine ⟨r1, t5, _, _, rfl, rfl, s17.sqT e16, .inl (.inl et5), by rw [List.length_map]; exact Nat.le_of_lt (small (by show _ + 1 ≤ _; omega)), fun r2 H18 s18 e18 => ?_⟩
        have e18 : SqT K H18 r2 ((((cs.take 6).drop 1) ++ [555 + g]).map V.int) := by rw [List.map_append]; exact e18
        refine ⟨r2, _, rfl, e18, fun bs2 q pb2 rs2 hq => ?_⟩
        refine alloc (.lst (bs2.map V.int)) hq fun H19 s19 eq19 => ?_
        refine ⟨q, _, rfl, .inl ⟨SqL.of eq19, fun t6 ht6 => ?_⟩⟩
        refine alloc (.tup (bs2.map V.int)) ht6 fun H20 s20 et6 => ?_
        have B20 := (((B16.same s17).same s18).same s19).same s20
        refine ⟨F0, _, _, rfl, rfl, B20.ef, by rw [List.length_map, List.length_append]; exact small (by simp; omega), ?_⟩
        exact ⟨_, _, _, _, _, _, _, _, _, rfl, by simp; omega, B20.push Pn hF0 nF (.inl (.inl et6)) (by rw [pb2.length_eq, List.length_append]; simp; simp at ll; omega)⟩
    · rintro σ H' ⟨us, v3, v4, v5, v6, v7, v8, v9, v10, rfl, ul, B0⟩
      exact ⟨_, rfl, k F0 us H' hF0 nF B0 (by omega)⟩
end
end KW

set_option maxHeartbeats 4000000
namespace KW
open PySem L2
theorem log200 {z : Int} (h : z.natAbs ≤ 10 ^ 60) : z.natAbs.log2 < 200 := by
  by_cases e : z.natAbs = 0
  · rw [e]; decide
  · rw [Nat.log2_lt e]
    exact Nat.lt_of_le_of_lt h (by decide +kernel)
theorem piled_few : ∀ ms : List Int, (∀ z ∈ ms, z.natAbs ≤ 10 ^ 60) → piled (ms.map fun z => Str.ofString (toString z)) ≤ 204 * ms.length
  | [], _ => by simp [piled]
  | z :: ms, h => by
    have h1 := int_text_length_le (a := z) (k := 200) (by decide) (log200 (h z List.mem_cons_self))
    have h2 := piled_few ms fun y hy => h y (List.mem_cons_of_mem _ hy)
    rw [List.map_cons, piled_cons, PySem.ofString_length, List.length_cons]
    omega
theorem piled_tups {m : Nat} : ∀ cs : List (List Int), (∀ c ∈ cs, c.length ≤ m ∧ ∀ z ∈ c, z.natAbs ≤ 10 ^ 60) → piled (PyData.shownAll (cs.map tupD)) ≤ (204 * m + 6) * cs.length
  | [], _ => by simp [PyData.shownAll, piled]
  | c :: cs, h => by
    obtain ⟨h1, h2⟩ := h c List.mem_cons_self
    have h3 := piled_tups cs fun d hd => h d (List.mem_cons_of_mem _ hd)
    have h4 := piled_few c h2
    have h5 := tupleText_len (PyData.shownAll (c.map PyData.int))
    rw [shownAll_ints] at h5
    have e : 204 * c.length ≤ 204 * m := Nat.mul_le_mul_left _ h1
    simp only [List.map_cons, PyData.shownAll, tupD, PyData.shown, piled_cons, List.length_cons, Nat.mul_add, Nat.mul_one, shownAll_ints]
    omega
theorem rRepr_many {K : PySem.W.Frag} {H : Hp} {a : Addr} {zs : List (Addr × List Int)} {cs : List (List Int)} {Q : VK} {m : Nat} (h : SqL K H a (refs zs)) (t : Tups K H zs) (e : zs.map (·.2) = cs) (hc : ∀ c ∈ cs, c.length ≤ m ∧ ∀ z ∈ c, z.natAbs ≤ 10 ^ 60) (sz : (204 * m + 6) * cs.length ≤ 16000000)
    (q : Q (.str (PyData.list (cs.map tupD)).shown) H) : rRepr K [.ref a] H Q := by
  obtain ⟨a1, a2, a3⟩ := tups_ok (n := 0) hc
  have hp := piled_tups cs hc
  subst e
  have e2 : (zs.map (·.2)).map tupD = zs.map fun z => tupD z.2 := by rw [List.map_map]; rfl
  rw [e2] at a1 a3 q hp
  unfold rRepr
  refine ⟨_, _, rfl, Dp_tups h t, ?_, ?_, ?_, q⟩
  · exact (shown_le (.list _) (by simp only [okD]; exact a1)).2
  · simp only [PyData.depth]; omega
  · simp only [PyData.shown]
    have h1 := listText_len (PyData.shownAll (zs.map fun z => tupD z.2))
    have : sizeLine = 16777216 := by decide
    omega
theorem foldI_mem : ∀ {l ks : List Int} {x : Int}, x ∈ l.foldl addI ks ↔ x ∈ ks ∨ x ∈ l
  | [], ks, x => by simp
  | c :: l, ks, x => by rw [List.foldl_cons, foldI_mem, addI_mem, List.mem_cons, or_assoc]
theorem foldI_nd : ∀ {l ks : List Int}, ks.Nodup → (l.foldl addI ks).Nodup
  | [], _, h => h
  | c :: l, _, h => foldI_nd (l := l) (addI_nd h)
theorem foldI_len : ∀ {l ks : List Int}, (l.foldl addI ks).length ≤ ks.length + l.length
  | [], _ => Nat.le_refl _
  | c :: l, ks => by
    have a := foldI_len (l := l) (ks := addI ks c)
    have b := addI_len (ks := ks) (c := c)
    rw [List.foldl_cons, List.length_cons]; omega
theorem in_filter (l m : List Int) : decide ((l.filter fun x => !decide (x ∈ m)) = []) = inAll l m := by
  unfold inAll
  rw [Bool.eq_iff_iff, decide_eq_true_eq, List.filter_eq_nil_iff, List.all_eq_true]
  exact ⟨fun h x hx => by simpa using h x hx, fun h x hx => by simpa using h x hx⟩
theorem nilD5 {K : PySem.W.Frag} (H : Hp) {D : Addr} (h : SqL K H D []) : Dp K H (.ref D) (.list (([] : List Int).map PyData.int)) := .lst h .nil
theorem intsD5 {K : PySem.W.Frag} {H : Hp} {D : Addr} {l : List Int} (h : SqL K H D (l.map V.int)) : Dp K H (.ref D) (.list (l.map PyData.int)) := .lst h (DpAll_ints l)
theorem ones_nil (l m : List Int) : decide (((l.filter fun x => !decide (x ∈ m)).map fun _ => (1 : Int)) = []) = inAll l m := by
  rw [← in_filter]
  congr 1
  rw [List.map_eq_nil_iff]
theorem held_any (zs : List (Addr × List Int)) (l : List Int) : ((zs.map (·.2)).any fun m => inAll l m) = !decide (castL (heldBy zs l zs.length) = []) := by
  rw [Bool.eq_iff_iff, List.any_eq_true, Bool.not_eq_true', decide_eq_false_iff_not]
  constructor
  · rintro ⟨m, hm, h⟩ e
    obtain ⟨z, hz, rfl⟩ := List.mem_map.mp hm
    obtain ⟨j, hj⟩ := List.getElem?_of_mem hz
    have e : heldBy zs l zs.length = [] := by
      unfold castL at e
      exact List.map_eq_nil_iff.mp e
    have : j ∈ heldBy zs l zs.length := List.mem_filter.mpr ⟨List.mem_range.mpr (List.getElem?_eq_some_iff.mp hj).1, by rw [List.getD_eq_getElem?_getD, hj]; exact h⟩
    rw [e] at this; cases this
  · intro e
    cases h : heldBy zs l zs.length with
    | nil => exact absurd (by rw [h]; rfl) e
    | cons j t =>
      have hj : j ∈ heldBy zs l zs.length := by rw [h]; exact List.mem_cons_self
      obtain ⟨h1, h2⟩ := List.mem_filter.mp hj
      have h1 := List.mem_range.mp h1
      refine ⟨(zs.getD j (0, [])).2, List.mem_map.mpr ⟨_, ?_, rfl⟩, h2⟩
      rw [List.getD_eq_getElem?_getD, List.getElem?_eq_getElem h1]
      exact List.getElem_mem h1
section
variable {P : Program} {w : World} {K : PySem.W.Frag} {mg : Str → Option Value} {base : Heap} {f c tb : Addr} {fd : FuncData}
def spRight5 (K : PySem.W.Frag) (tl th tg : Addr) : Sp := fun vs H Q _ => ∃ (p a sh : Addr) (ns : List Int) (x y : Int) (zs : List (Addr × List Int)) (n : Nat), vs = [.ref p, .ref sh] ∧ Pen K H p a ns x y ∧ ShapeF K H sh zs n ∧ H tl = some (tbO tl #[]) ∧ H th = some (tbO th #[]) ∧ H tg = some (.lam lamQ) ∧
  ∀ (x' y' : Int) (H' : Hp), SameX p H H' → Pen K H' p a ns x' y' → Q (.bl true) H'
abbrev s__law_right : Stmt := top 16
abbrev N__law_right : List Str := ["_law_pen", "_law_shape", "_law_known", "_law_piece", "_law_turn", "_law_face", "_law_some", "_law_heard", "_law_due", "_law_found", "_law_k", "_law_corner"]
abbrev P__law_right : List Str := ["_law_pen", "_law_shape"]
theorem sc__law_right : FnScope N__law_right P__law_right (defScope s__law_right) := ⟨rfl, rfl, rfl, by decide +kernel, rfl, by decide +kernel, by decide +kernel⟩
theorem ok__law_right {tl th tg : Addr} (F : FunC K "_law_right" "_law_right" s__law_right f fd c) (T : Txt base mg) (C_corners : Cal P w K mg base 2 "corners" P_corners (spCorners K)) (C_faces : Cal P w K mg base 6 "faces" P_faces (spFaces K tg)) (C_has : Cal P w K mg base 4 "has" P_has (spHas K tl th)) (C_holders : Cal P w K mg base 3 "holders" P_holders (spHolders K tl))
    (C__law_faces : Cal P w K mg base 2 "_law_faces" P__law_faces (spFaces5 P w K)) (C__law_asked : Cal P w K mg base 2 "_law_asked" P__law_asked (spAsked K)) : FnOk P w K mg base CX0 7 f fd P__law_right (spRight5 K tl th tg) := by
  refine F.okQ sc__law_right (fun vs H Q E h => ?_) (fun A outer s H vs Q E hr h => ?_)
  · obtain ⟨p, a, sh, ns, x, y, zs, n, rfl, _⟩ := h
    rfl
  · obtain ⟨p, a, sh, ns, x, y, zs, n, rfl, Pn, hS, hTl, hTh, hTg, k⟩ := h
    refine ⟨_, (q_pss_cons (q_ps_set (i := 2) sc__law_right.nd rfl (by first | exact Or.inl rfl | exact Or.inr rfl) q_pe_dnewK)
      (q_pss_cons (q_ps_for PassesOwn.never rfl (q_pi_tupK (K := K) rfl (q_pv 1)) (q_pg_name (i := 3) sc__law_right.nd rfl (by first | exact Or.inl rfl | exact Or.inr rfl))
      (q_pss_one (q_ps_expr (q_pe_bmK (K := K) rfl PySem.F.plainAttrs_dict PySem.F.slot_dict_update PySem.F.type_dict_update (mt_update (K := K) rfl rfl) (q_pv 2) (q_pa_cons (q_pe_lc (own := [("_law_corner", 11)]) rfl sc__law_right.nd (q_pi_tupK (K := K) rfl (q_pv 3)) (blkOk_by (own := [("_law_corner", 11)]) (N := N__law_right) (sc := defScope s__law_right) (by decide +kernel)) (fun _ _ _ _ _ => (q_pg_name (i := 11) sc__law_right.nd rfl (by first | exact Or.inl rfl | exact Or.inr rfl))) (fun _ _ _ _ _ => q_pts_nil) (fun _ _ _ _ _ => (q_pe_tup (q_pa_cons (q_pv 11) (q_pa_cons q_pe_bl q_pa_nil))))) q_pa_nil)))))
      (q_pss_cons (q_ps_for PassesOwn.never rfl (q_pi_range1 rfl T.no_range (q_pa_cons q_pe_int q_pa_nil)) (q_pg_name (i := 4) sc__law_right.nd rfl (by first | exact Or.inl rfl | exact Or.inr rfl))
      (q_pss_cons (q_ps_set (i := 6) sc__law_right.nd rfl (by first | exact Or.inl rfl | exact Or.inr rfl) (q_pe_cal C_corners (hr.mono (by omega)) (q_pa_cons (q_pv 1) q_pa_nil)))
      (q_pss_cons (q_ps_if (q_pt_cmpR op_ne (q_pe_callB (cr_reprK (K := K) rfl hr) rfl T.no_repr (by decide +kernel) (q_pa_cons (q_pv 6) q_pa_nil)) (q_pe_callB (cr_reprK (K := K) rfl hr) rfl T.no_repr (by decide +kernel) (q_pa_cons (q_pe_callB (cr_sortDI hr rfl) rfl T.no_sorted (by decide +kernel) (q_pa_cons (q_pv 2) q_pa_nil)) q_pa_nil)) (nomark _))
      (q_pss_one (q_ps_ret q_pe_bl))
      q_pss_nil)
      (q_pss_cons (q_ps_set (i := 7) sc__law_right.nd rfl (by first | exact Or.inl rfl | exact Or.inr rfl) (q_pe_cal C_faces (hr.mono (by omega)) (q_pa_cons (q_pv 1) q_pa_nil)))
      (q_pss_cons (q_ps_if (q_pt_cmpR op_ne (q_pe_callB (cr_reprK (K := K) rfl hr) rfl T.no_repr (by decide +kernel) (q_pa_cons (q_pv 7) q_pa_nil)) (q_pe_callB (cr_reprK (K := K) rfl hr) rfl T.no_repr (by decide +kernel) (q_pa_cons (q_pe_cal C__law_faces (hr.mono (by omega)) (q_pa_cons (q_pv 1) q_pa_nil)) q_pa_nil)) (nomark _))
      (q_pss_one (q_ps_ret q_pe_bl))
      q_pss_nil)
      (q_pss_cons (q_ps_expr (q_pe_bm PySem.F.plainAttrs_list PySem.F.slot_list_append PySem.F.type_list_append mt_append (q_pv 6) (q_pa_cons q_pe_int q_pa_nil)))
      (q_pss_cons (q_ps_expr (q_pe_bm0 PySem.F.plainAttrs_list PySem.F.slot_list_reverse PySem.F.type_list_reverse mt_reverse (q_pv 7)))
      (q_pss_one (q_ps_expr (q_pe_bm PySem.F.plainAttrs_list PySem.F.slot_list_append PySem.F.type_list_append mt_append (q_pv 7) (q_pa_cons (q_pe_tup q_pa_nil) q_pa_nil)))))))))))
      (q_pss_cons (q_ps_for PassesOwn.never rfl (q_pi_listK (K := K) rfl (q_pe_cal C__law_asked (hr.mono (by omega)) (q_pa_cons (q_pv 0) (q_pa_cons (q_pv 1) q_pa_nil)))) (q_pg_name (i := 5) sc__law_right.nd rfl (by first | exact Or.inl rfl | exact Or.inr rfl))
      (q_pss_cons (q_ps_setLc (i := 8) (own := [("_law_k", 10)]) rfl sc__law_right.nd rfl rfl (sw_true rfl rfl rfl (by decide +kernel)) (q_pi_range1 rfl T.no_range (q_pa_cons (q_pe_callB (call_lenK (K := K) rfl) rfl T.no_len (by decide +kernel) (q_pa_cons (q_pv 1) q_pa_nil)) q_pa_nil)) (blkOk_by (own := [("_law_k", 10)]) (N := N__law_right) (sc := defScope s__law_right) (by decide +kernel)) (fun _ _ _ _ _ => (q_pg_name (i := 10) sc__law_right.nd rfl (by first | exact Or.inl rfl | exact Or.inr rfl))) (fun _ _ _ _ _ => (q_pts_one (q_pt_cmpR (op_eqDK (K := K) rfl hr) (q_pe_lc (own := [("_law_corner", 11)]) rfl sc__law_right.nd (q_pi_tupK (K := K) rfl (q_pv 5)) (blkOk_by (own := [("_law_corner", 11)]) (N := N__law_right) (sc := _) (by rfl)) (fun _ _ _ _ _ => (q_pg_name (i := 11) sc__law_right.nd rfl (by first | exact Or.inl rfl | exact Or.inr rfl))) (fun _ _ _ _ _ => (q_pts_one (q_pt_cmpR (op_notIn_seqK (K := K) rfl) (q_pv 11) (q_pe_ix (ix_tupK (K := K) rfl) (q_pv 1) (q_pv 10) (fun _ _ => rfl)) (by first | rfl | exact nomark _)))) (fun _ _ _ _ _ => q_pe_int)) (q_pe_lst q_pa_nil) (nomark _)))) (fun _ _ _ _ _ => (q_pv 10)))
      (q_pss_cons (q_ps_set (i := 9) sc__law_right.nd rfl (by first | exact Or.inl rfl | exact Or.inr rfl) (q_pe_cal C_holders (hr.mono (by omega)) (q_pa_cons (q_pv 1) (q_pa_cons (q_pv 5) q_pa_nil))))
      (q_pss_cons (q_ps_if (q_PW_pt (q_pw_or (q_pt_cmpR op_ne (q_pe_callB (cr_reprK (K := K) rfl hr) rfl T.no_repr (by decide +kernel) (q_pa_cons (q_pv 9) q_pa_nil)) (q_pe_callB (cr_reprK (K := K) rfl hr) rfl T.no_repr (by decide +kernel) (q_pa_cons (q_pv 8) q_pa_nil)) (nomark _)) (q_pw_or (q_pt_not (q_pt_val (q_pe_callB (cr_isA (K := K) rfl) rfl T.no_isinstance (by decide +kernel) (q_pa_cons (q_pe_cal C_has (hr.mono (by omega)) (q_pa_cons (q_pv 1) (q_pa_cons (q_pv 5) q_pa_nil))) (q_pa_cons (q_pe_bltn (v := V.ty "bool") rfl T.no_bool (by decide +kernel) rfl) q_pa_nil))))) (q_pw_or1 (q_pt_cmpR op_ne (q_pe_cal C_has (hr.mono (by omega)) (q_pa_cons (q_pv 1) (q_pa_cons (q_pv 5) q_pa_nil))) (q_pe_cmpR (op_neDK (K := K) rfl hr) (q_pv 8) (q_pe_lst q_pa_nil) (nomark _)) (nomark _))))))
      (q_pss_one (q_ps_ret q_pe_bl))
      q_pss_nil)
      (q_pss_cons (q_ps_expr (q_pe_bm PySem.F.plainAttrs_list PySem.F.slot_list_append PySem.F.type_list_append mt_append (q_pv 9) (q_pa_cons q_pe_int q_pa_nil)))
      (q_pss_one (q_ps_if (q_pt_cmpR op_ne (q_pe_callB (cr_reprK (K := K) rfl hr) rfl T.no_repr (by decide +kernel) (q_pa_cons (q_pe_cal C_holders (hr.mono (by omega)) (q_pa_cons (q_pv 1) (q_pa_cons (q_pv 5) q_pa_nil))) q_pa_nil)) (q_pe_callB (cr_reprK (K := K) rfl hr) rfl T.no_repr (by decide +kernel) (q_pa_cons (q_pv 8) q_pa_nil)) (nomark _))
      (q_pss_one (q_ps_ret q_pe_bl))
      q_pss_nil)))))))
      (q_pss_one (q_ps_ret q_pe_bl)))))), ?_⟩
    have z1 := hS.z1
    have z40 := hS.z40
    have n6 := hS.n6
    have zl6 : ∀ z ∈ zs, z.2.length ≤ 6 := fun z hz => by rw [hS.len z hz]; exact n6
    refine fun G hG => ?_
    have sG : Same H (upd H G (.dK [])) := Same.upd hG
    refine ⟨_, rfl, sh, rfl, ⟨_, sG.sqT hS.at_⟩, for_tup (xs := refs zs) (fun i σ H' => ∃ (ks : List Int) (v3 v4 v5 v6 v7 v8 v9 v10 v11 : Option V), σ = [some (.ref p), some (.ref sh), some (.ref G), v3, v4, v5, v6, v7, v8, v9, v10, v11] ∧ Same H H' ∧ H' G = some (.dK (kvsI ks)) ∧ ks.Nodup ∧ (∀ x, x ∈ ks ↔ ∃ z ∈ zs.take i, x ∈ z.2) ∧ ks.length ≤ 6 * i) ⟨[], none, none, none, none, none, none, none, none, none, rfl, sG, upd_same, List.nodup_nil, (fun x => by simp), by simp⟩ ?_ ?_ ?_⟩
    · rintro i σ H' _ ⟨ks, v3, v4, v5, v6, v7, v8, v9, v10, v11, rfl, sm, _⟩
      exact sm.sqT hS.at_
    · rintro i xv σ H' hxv ⟨ks, v3, v4, v5, v6, v7, v8, v9, v10, v11, rfl, sm, eG, nd, mem, kl⟩
      obtain ⟨z, hz, rfl⟩ := refs_at hxv
      have hi : i < zs.length := (List.getElem?_eq_some_iff.mp hz).1
      have hzm := List.mem_of_getElem? hz
      have hz6 := zl6 z hzm
      refine ⟨_, rfl, .inr (.inr (.inl ⟨rfl, .inl ⟨_, eG⟩⟩)), _, rfl, z.1, rfl, ⟨_, sm.sqT (hS.tup z hzm)⟩, fun D hD => ?_⟩
      refine lc_tup (xs := z.2.map V.int) (fun j H2 => Same H' H2 ∧ ∃ ts : List Addr, ts.length = j ∧ H2 D = some (.lst (ts.map V.ref)) ∧ ∀ (q : Nat) (t : Addr) (u : Int), ts[q]? = some t → z.2[q]? = some u → SqT K H2 t [.int u, .bl true]) ⟨Same.upd hD, [], rfl, upd_same, fun q t p h => by simp at h⟩ (fun j H2 _ h => h.1.sqT (sm.sqT (hS.tup z hzm))) ?_ ?_
      · rintro j y H2 hy ⟨s2, ts, tl2, eD, ht2⟩
        obtain ⟨u, hu, rfl⟩ := ints_at hy
        have hj : j < z.2.length := (List.getElem?_eq_some_iff.mp hu).1
        refine ⟨rfl, yes ⟨_, rfl, (by show 2 ≤ sizeLine; decide), fun t ht3 => ?_⟩⟩
        have s3 := s2.trans (Same.upd (o := .tup [.int u, .bl true]) ht3)
        have nDt : D ≠ t := (ne_of_none eD ht3)
        refine ⟨_, by rw [upd_ne nDt]; exact eD, ?_, s3.updF hD, ts ++ [t], by simp [tl2], by rw [upd_same]; simp, fun q t1 p1 hq hp1 => ?_⟩
        · rw [List.length_map, tl2]; exact small (by omega)
        have keep : ∀ {a : Addr} {ys : List V}, SqT K (upd H2 t (.tup [.int u, .bl true])) a ys → SqT K (upd (upd H2 t (.tup [.int u, .bl true])) D (.lst (ts.map V.ref ++ [.ref t]))) a ys := fun h => h.sx (by rw [upd_ne nDt]; exact eD) SameX.upd
        rcases Nat.lt_or_ge q ts.length with hlt | hge
        · rw [List.getElem?_append_left hlt] at hq
          exact keep ((Same.upd ht3).sqT (ht2 q t1 p1 hq hp1))
        · rw [List.getElem?_append_right hge] at hq
          have eq : q = ts.length := by
            have := (List.getElem?_eq_some_iff.mp hq).1
            simp at this; omega
          subst eq
          simp at hq
          subst hq
          rw [tl2] at hp1
          rw [hu] at hp1
          cases hp1
          exact keep (.inl (.inl upd_same))
      · rintro H2 ⟨s2, ts, tl2, eD, ht2⟩
        have e0 : (z.2.map V.int).length = z.2.length := List.length_map ..
        rw [e0] at tl2
        have ez1 : ((ts.zip z.2).map fun q : Addr × Int => (q.1, (Sum.inl q.2 : Key), V.bl true)).map (fun p => V.ref p.1) = ts.map V.ref := by
          rw [List.map_map, show ((fun p : Addr × Key × V => V.ref p.1) ∘ fun q : Addr × Int => (q.1, (Sum.inl q.2 : Key), V.bl true)) = V.ref ∘ Prod.fst from rfl, ← List.map_map, List.map_fst_zip (by omega)]
        have ez2 : ((ts.zip z.2).map fun q : Addr × Int => (q.1, (Sum.inl q.2 : Key), V.bl true)).map (·.2) = z.2.map fun c => ((Sum.inl c : Key), V.bl true) := by
          rw [List.map_map, show ((fun p : Addr × Key × V => p.2) ∘ fun q : Addr × Int => (q.1, (Sum.inl q.2 : Key), V.bl true)) = (fun c : Int => ((Sum.inl c : Key), V.bl true)) ∘ Prod.snd from rfl, ← List.map_map, List.map_snd_zip (by omega)]
        have kvl : (kvsI ks).length = ks.length := List.length_map ..
        refine ⟨G, D, kvsI ks, (ts.zip z.2).map fun q : Addr × Int => (q.1, (Sum.inl q.2 : Key), V.bl true), rfl, rfl, s2 _ _ eG, by rw [ez1]; exact SqL.of eD, fun q hq => ?_, ?_, ?_⟩
        · obtain ⟨⟨t, u⟩, hm, rfl⟩ := List.mem_map.mp hq
          obtain ⟨j, hj⟩ := List.getElem?_of_mem hm
          obtain ⟨h1, h2⟩ := List.getElem?_zip_eq_some.mp hj
          exact ht2 j t u h1 h2
        · rw [List.length_map, List.length_zip, tl2, kvl]; exact Nat.le_of_lt (small (by omega))
        · rw [ez2, merge_kvsI]
          have hl := foldI_len (l := z.2) (ks := ks)
          refine ⟨_, _, _, _, _, _, _, _, _, _, rfl, (sm.trans s2).updF hG, upd_same, foldI_nd nd, fun x => ?_, by omega⟩
          rw [foldI_mem, mem x, List.take_succ, hz]
          simp only [Option.toList_some, List.mem_append, List.mem_singleton]
          constructor
          · rintro (⟨v, hv, hx⟩ | hx)
            · exact ⟨v, .inl hv, hx⟩
            · exact ⟨z, .inr rfl, hx⟩
          · rintro ⟨v, hv | rfl, hx⟩
            · exact .inl ⟨v, hv, hx⟩
            · exact .inr hx
    · rintro σ H1 ⟨ks, v3, v4, v5, v6, v7, v8, v9, v10, v11, rfl, sm, eG, nd, mem, kl⟩
      have e0 : (refs zs).length = zs.length := List.length_map ..
      rw [e0, List.take_length] at mem
      rw [e0] at kl
      have P1 := Pn.same sm
      have nGp : G ≠ p := (ne_of_none (Pn.at_) hG).symm
      refine ⟨_, rfl, (by decide), (by decide), for_range (lo := 0) (n := 2) (fun i σ H' => ∃ (v4 v5 v6 v7 v8 v9 v10 v11 : Option V), σ = [some (.ref p), some (.ref sh), some (.ref G), v3, v4, v5, v6, v7, v8, v9, v10, v11] ∧ Same H1 H') ⟨_, _, _, _, _, _, _, _, rfl, Same.refl _⟩ ?_ ?_⟩
      · rintro i σ H2 hi ⟨v4, v5, v6, v7, v8, v9, v10, v11, rfl, s2⟩
        have hS2 := (hS.same sm).same s2
        have zb : ∀ z ∈ zs, ∀ e ∈ z.2, e.natAbs ≤ 10 ^ 60 := hS.bd
        refine ⟨_, rfl, sh, zs, rfl, hS2.at_, hS2.tup, zl6, z40, fun r cs H3 hr0 s3 er nd2 rs2 mem2 cl => ?_⟩
        have cb : ∀ z ∈ cs, z.natAbs.log2 < 1920 := fun z hz => by
          obtain ⟨u, hu, hz⟩ := (mem2 z).mp hz
          exact K07.log_ok (Nat.le_trans (zb u hu z hz) (by decide +kernel))
        refine ⟨_, rfl, ?_⟩
        refine rRepr_ints (K := K) (SqL.of er) (by omega) cb ?_
        refine ⟨_, rfl, G, ks, kvsI ks, rfl, s3 _ _ (s2 _ _ eG), by unfold kvsI; rw [List.map_map]; rfl, fun bs q pb rs hq => ?_⟩
        have eb : bs = cs := ints_unique (pb.trans ((List.perm_ext_iff_of_nodup nd nd2).mpr fun x => (mem x).trans (mem2 x).symm)) rs rs2
        subst eb
        refine alloc (.lst (bs.map V.int)) hq fun H4 s4 e4 => ?_
        refine rRepr_ints (K := K) (SqL.of e4) (by omega) cb ?_
        refine ⟨rfl, _, rfl, iteNS rfl ?_⟩
        have s24 := s2.trans (s3.trans s4)
        have hS4 := (hS.same sm).same s24
        refine ⟨_, rfl, sh, zs, rfl, hS4.at_, hS4.tup, zl6, z40, s24 _ _ (sm _ _ hTg), fun r2 ys H5 hr2 s5 er2 t2 f2 l2 rr2 => ?_⟩
        have yb : ∀ c ∈ ys.map (·.2), c.length ≤ 6 ∧ ∀ z ∈ c, z.natAbs ≤ 10 ^ 60 := fun c hc => by
          obtain ⟨u, hu, hc⟩ := (f2.2 c).mp hc
          obtain ⟨b1, b2⟩ := subs_mem hc
          exact ⟨Nat.le_trans b1 (zl6 u hu), fun z hz => zb u hu z (b2 z hz)⟩
        have yl : (204 * 6 + 6) * (ys.map (·.2)).length ≤ 16000000 := by rw [List.length_map]; omega
        refine ⟨_, rfl, ?_⟩
        refine rRepr_many (K := K) (m := 6) (SqL.of er2) t2 rfl yb yl ?_
        have hS5 := hS4.same s5
        refine ⟨_, rfl, sh, zs, rfl, hS5.at_, hS5.tup, zl6, z40, z1, fun r3 us H6 hr3 s6 er3 t3 f3 l3 rr3 => ?_⟩
        have eu : us.map (·.2) = ys.map (·.2) := keyed_unique ((List.perm_ext_iff_of_nodup f3.1 f2.1).mpr fun x => (f3.2 x).trans (f2.2 x).symm) rr3 rr2
        refine rRepr_many (K := K) (m := 6) (SqL.of er3) t3 eu yb yl ?_
        refine ⟨rfl, _, rfl, iteNS rfl ?_⟩
        -- spoilt
        have s36 : Same H3 H6 := s4.trans (s5.trans s6)
        have s26 := s2.trans (s3.trans s36)
        have r0 : H1 r = none := s2.free hr0
        have r20 : H1 r2 = none := s24.free hr2
        have nrr : r ≠ r2 := ne_of_none (s4 _ _ er) hr2
        have er6 := s36 _ _ er
        have er26 := s6 _ _ er2
        refine ⟨_, rfl, .inl ⟨rfl, _, SqL.of er6⟩, r, _, _, rfl, rfl, er6, by rw [List.length_map]; exact small (by omega), ?_⟩
        refine ⟨_, rfl, .inl ⟨rfl, _, SqL.of (by rw [upd_ne nrr.symm]; exact er26)⟩, r2, _, rfl, rfl, (by rw [upd_ne nrr.symm]; exact er26), ?_⟩
        refine ⟨_, rfl, .inl ⟨rfl, _, SqL.of upd_same⟩, (by show 0 ≤ sizeLine; decide), fun t ht => ?_⟩
        have nt2 : r2 ≠ t := ne_of_none upd_same ht
        refine ⟨r2, _, _, rfl, rfl, by rw [upd_ne nt2]; exact upd_same, by rw [List.length_reverse, List.length_map]; exact small (by omega), ?_⟩
        have ht1 : H1 t = none := by
          have : upd H6 r (.lst (bs.map V.int ++ [.int 0])) t = none := by rw [upd_ne nt2.symm] at ht; exact ht
          by_cases e : t = r
          · rw [e, upd_same] at this; cases this
          · rw [upd_ne e] at this; exact s26.free this
        exact ⟨_, _, _, _, _, _, _, _, rfl, (((s26.updF r0).updF r20).updF ht1).updF r20⟩
      · rintro σ H2 ⟨v4, v5, v6, v7, v8, v9, v10, v11, rfl, s2⟩
        have sm2 := sm.trans s2
        have hS2 := hS.same sm2
        have P2 := Pn.same sm2
        refine ⟨_, rfl, _, rfl, p, a, sh, ns, x, y, zs, n, rfl, P2, hS2, fun r us H3 hr0 nr A3 ul => ?_⟩
        obtain ⟨x3, y3, P3⟩ := A3.pen
        have hS3 := hS2.sx P2.at_ A3.sx
        have nl : tl ≠ p := ne_of hTl Pn.at_ (by intro e; cases e)
        have nh : th ≠ p := ne_of hTh Pn.at_ (by intro e; cases e)
        have hTl3 := A3.sx _ _ nl (sm2 _ _ hTl)
        have hTh3 := A3.sx _ _ nh (sm2 _ _ hTh)
        refine ⟨r, rfl, ⟨_, SqL.of A3.ef⟩, for_list (xs := refs us) (fun i σ H' => ∃ (v5 v8 v9 v10 v11 : Option V), σ = [some (.ref p), some (.ref sh), some (.ref G), v3, v4, v5, v6, v7, v8, v9, v10, v11] ∧ Same H3 H') ⟨_, _, _, _, _, rfl, Same.refl _⟩ ?_ ?_ ?_⟩
        · rintro i σ H' _ ⟨v5, v8, v9, v10, v11, rfl, s4⟩
          exact SqL.of (s4 _ _ A3.ef)
        · rintro i xv σ H4 hxv ⟨v5, v8, v9, v10, v11, rfl, s4⟩
          obtain ⟨u, hu, rfl⟩ := refs_at hxv
          have hum := List.mem_of_getElem? hu
          have hS4 := hS3.same s4
          have eU := (A3.tu.same s4) u hum
          refine ⟨_, rfl, _, _, rfl, .inr ⟨_, hS4.at_, rfl⟩, _, rfl, (by omega), (by omega), fun D hD => ?_⟩
          have e0 : (refs zs).length = zs.length := List.length_map ..
          refine lc_range (lo := 0) (fun i H' => Same H4 H' ∧ H' D = some (.lst ((castL (heldBy zs u.2 i)).map V.int))) ⟨Same.upd hD, upd_same⟩ ?_ ?_
          · rintro j H5 hj ⟨s5, e5⟩
            have hj : j < zs.length := by omega
            obtain ⟨z, hz⟩ : ∃ z, zs[j]? = some z := ⟨_, List.getElem?_eq_getElem hj⟩
            have hzm := List.mem_of_getElem? hz
            have hlen := held_len zs u.2 j
            refine ⟨rfl, _, rfl, u.1, rfl, ⟨_, s5.sqT eU⟩, fun D2 hD2 => ?_⟩
            refine lc_tup (xs := u.2.map V.int) (fun i H6 => Same H5 H6 ∧ H6 D2 = some (.lst ((((u.2.take i).filter fun x => !decide (x ∈ z.2)).map fun _ => (1 : Int)).map V.int))) ⟨Same.upd hD2, upd_same⟩ (fun i H6 _ h => h.1.sqT (s5.sqT eU)) ?_ ?_
            · rintro i x H6 hx ⟨s6, e6⟩
              obtain ⟨v, hv, rfl⟩ := ints_at hx
              have e : (u.2.take (i + 1)) = u.2.take i ++ [v] := by rw [List.take_succ, hv]; rfl
              have hS6 := (hS4.same s5).same s6
              refine ⟨rfl, _, rfl, _, rfl, _, rfl, sh, _, _, .ref z.1, rfl, rfl, hS6.at_, at_of (j := j) (by omega) (by rw [List.getElem?_map, hz]; rfl), z.1, _, rfl, .inr (hS6.tup z hzm), rfl, flat_ints _, _, rfl, ?_⟩
              rw [inV_ints]
              by_cases h : v ∈ z.2
              · refine iteF' (by simp [h]) ⟨s6, ?_⟩
                rw [e, List.filter_append, List.filter_cons_of_neg (by simp [h]), e6]; simp
              · refine iteT' (by simp [h]) ?_
                have u7 := A3.sz u hum
                obtain ⟨a0, a1, a2, a3, a4⟩ := il_push (j := 1) hD2 s6 e6 (Same.refl _) (by rw [List.length_map]; exact Nat.le_trans (List.length_filter_le _ _) (Nat.le_trans (List.length_take_le' _ _) (by omega)))
                refine ⟨a0, a1, a2, a3, ?_⟩
                rw [a4, e, List.filter_append, List.filter_cons_of_pos (by simp [h])]; simp
            · rintro H6 ⟨s6, e6⟩
              rw [List.length_map, List.take_length] at e6
              refine ⟨(by show 0 ≤ sizeLine; decide), fun N hN => ?_⟩
              have s7 := Same.upd (o := .lst []) hN
              refine ⟨_, _, intsD5 (s7.seq (SqL.of e6)), nilD5 _ (SqL.of upd_same), shaped_ints _, shaped_ints _, _, rfl, ?_⟩
              rw [eqv_ints, ones_nil]
              have s57 := s6.trans s7
              cases hb : inAll u.2 z.2 with
              | true =>
                refine iteT ⟨_, rfl, ?_⟩
                rw [held_succ hz, hb, if_pos rfl, castL_app]
                have q := il_push (j := 0 + (j : Int)) hD s5 e5 s57 (by rw [castL_len]; omega)
                have ej : castL (heldBy zs u.2 j) ++ [0 + (j : Int)] = castL (heldBy zs u.2 j) ++ [(j : Int)] := by rw [Int.zero_add]
                rw [ej] at q
                exact q
              | false =>
                refine iteF ⟨s5.trans s57, ?_⟩
                rw [held_succ hz, hb, if_neg (by simp), List.append_nil]
                exact s57 _ _ e5
          · rintro H5 ⟨s5, e5⟩
            rw [e0] at e5
            have hlen := held_len zs u.2 zs.length
            have en : (((zs.length : Nat) : Int)).toNat = zs.length := Int.toNat_natCast _
            rw [en] at e5
            have hb : ∀ z ∈ castL (heldBy zs u.2 zs.length), z.natAbs.log2 < 1920 := fun z hz => by
              obtain ⟨j, hj, rfl⟩ := List.mem_map.mp hz
              have := List.mem_range.mp (List.mem_filter.mp hj).1
              exact K07.log_ok (Nat.le_trans (show ((j : Int)).natAbs ≤ 1000 by omega) (by decide +kernel))
            have hc : (castL (heldBy zs u.2 zs.length)).length ≤ 1000 := by rw [castL_len]; omega
            have hS5 := hS4.same s5
            refine ⟨_, rfl, _, rfl, sh, u.1, zs, u.2, rfl, hS5.at_, hS5.tup, by omega, s5.sqT eU, s5 _ _ (s4 _ _ hTl3), fun r2 H6 hr2 s6 e6 => ?_⟩
            have s56 := s5.trans s6
            have hS6 := hS5.same s6
            refine ⟨_, rfl, ?_⟩
            refine rRepr_ints (K := K) (SqL.of e6) hc hb ?_
            refine ⟨_, rfl, ?_⟩
            refine rRepr_ints (K := K) (SqL.of (s6 _ _ e5)) hc hb ?_
            refine ⟨rfl, _, rfl, iteNS rfl ?_⟩
            refine ⟨_, rfl, _, rfl, sh, u.1, zs, u.2, rfl, hS6.at_, hS6.tup, s56.sqT eU, s56 _ _ (s4 _ _ hTl3), s56 _ _ (s4 _ _ hTh3), fun H7 s7 => ?_⟩
            have hS7 := hS6.same s7
            have s57 := s56.trans s7
            refine ⟨_, _, .type "bool", true, rfl, .bl _, rfl, _, rfl, iteF ?_⟩
            refine ⟨_, rfl, _, rfl, sh, u.1, zs, u.2, rfl, hS7.at_, hS7.tup, s57.sqT eU, s57 _ _ (s4 _ _ hTl3), s57 _ _ (s4 _ _ hTh3), fun H8 s8 => ?_⟩
            have s58 := s57.trans s8
            refine ⟨_, rfl, (by show 0 ≤ sizeLine; decide), fun N hN => ?_⟩
            have s9 := Same.upd (o := .lst []) hN
            refine ⟨_, _, intsD5 ((((s6.trans s7).trans s8).trans s9).seq (SqL.of e5)), nilD5 _ (SqL.of upd_same), shaped_ints _, shaped_ints _, ?_⟩
            rw [eqv_ints, held_any]
            refine ⟨rfl, _, rfl, iteNS rfl ?_⟩
            have s69 := (s7.trans s8).trans s9
            have eF := s69 _ _ e6
            have r20 : H3 r2 = none := (s4.trans s5).free hr2
            have hl7 : (castL (heldBy zs u.2 zs.length)).length ≤ 1000 := hc
            refine ⟨_, rfl, .inl ⟨rfl, _, SqL.of eF⟩, r2, _, _, rfl, rfl, eF, by rw [List.length_map]; exact small (by omega), ?_⟩
            have s49 : Same H4 (upd H8 N (.lst [])) := s58.trans s9
            have r24 : H4 r2 = none := s5.free hr2
            have s4a : Same H4 (upd (upd H8 N (.lst [])) r2 (.lst ((castL (heldBy zs u.2 zs.length)).map V.int ++ [.int 7]))) := s49.updF r24
            have hDr : D ≠ r2 := ne_of_none e5 hr2
            have e5a : upd (upd H8 N (.lst [])) r2 (.lst ((castL (heldBy zs u.2 zs.length)).map V.int ++ [.int 7])) D = some (.lst ((castL (heldBy zs u.2 zs.length)).map V.int)) := by
              rw [upd_ne hDr]
              exact s9 _ _ (s8 _ _ (s7 _ _ (s6 _ _ e5)))
            have hS9 := hS4.same s4a
            refine ⟨_, rfl, _, rfl, sh, u.1, zs, u.2, rfl, hS9.at_, hS9.tup, by omega, s4a.sqT eU, s4a _ _ (s4 _ _ hTl3), fun r3 H9 hr3 s10 e10 => ?_⟩
            refine rRepr_ints (K := K) (SqL.of e10) hc hb ?_
            refine ⟨_, rfl, ?_⟩
            refine rRepr_ints (K := K) (SqL.of (s10 _ _ e5a)) hc hb ?_
            refine ⟨rfl, _, rfl, iteNS rfl ?_⟩
            exact ⟨_, _, _, _, _, rfl, (s4.trans s4a).trans s10⟩
        · rintro σ H4 ⟨v5, v8, v9, v10, v11, rfl, s4⟩
          exact k x3 y3 H4 ((SameX.of sm2).trans (A3.sx.trans (SameX.of s4))) (P3.same s4)
end
end KW

set_option maxHeartbeats 4000000
namespace KW
open PySem L2
section
variable {P : Program} {w : World} {K : PySem.W.Frag} {mg : Str → Option Value} {base : Heap} {f c tb : Addr} {fd : FuncData}
def spLaw (K : PySem.W.Frag) (TB : List (Addr × HO)) : Sp := fun vs H Q _ => ∃ (a : Addr) (ns : List Int), vs = [.ref a] ∧ SqL K H a (ns.map V.int) ∧ ns.length ≤ 63 ∧ TbH TB H ∧ ∀ H', Same H H' → Q (.bl true) H'
abbrev s_law : Stmt := top 17
abbrev N_law : List Str := ["_law_script", "_law_pen", "_law_k", "_law_many", "_law_shape", "_law_kept"]
abbrev P_law : List Str := ["_law_script"]
theorem sc_law : FnScope N_law P_law (defScope s_law) := ⟨rfl, rfl, rfl, by decide +kernel, rfl, by decide +kernel, by decide +kernel⟩
theorem ok_law {TB : List (Addr × HO)} {tl th tg : Addr} (m1 : (tl, tbO tl #[]) ∈ TB) (m2 : (th, tbO th #[]) ∈ TB) (m3 : (tg, HO.lam lamQ) ∈ TB) (nTB : ∀ q ∈ TB, ∀ ys, q.2 ≠ .lst ys) (F : FunC K "law" "law" s_law f fd c) (T : Txt base mg)
    (C__law_draw : Cal P w K mg base 1 "_law_draw" P__law_draw (spDraw K)) (C__law_pieces : Cal P w K mg base 3 "_law_pieces" P__law_pieces (spPieces K)) (C__law_right : Cal P w K mg base 7 "_law_right" P__law_right (spRight5 K tl th tg)) : FnOk P w K mg base CX0 8 f fd P_law (spLaw K TB) := by
  refine F.okQ sc_law (fun vs H Q E h => ?_) (fun A outer s H vs Q E hr h => ?_)
  · obtain ⟨a, ns, rfl, _⟩ := h
    rfl
  · obtain ⟨a, ns, rfl, hs, hl, hT, k⟩ := h
    refine ⟨_, (q_pss_cons (q_ps_set (i := 1) sc_law.nd rfl (by first | exact Or.inl rfl | exact Or.inr rfl) (q_pe_lst (q_pa_cons (q_pv 0) (q_pa_cons q_pe_int (q_pa_cons q_pe_int q_pa_nil)))))
      (q_pss_cons (q_ps_for PassesOwn.never rfl (q_pi_range1 rfl T.no_range (q_pa_cons q_pe_int q_pa_nil)) (q_pg_name (i := 2) sc_law.nd rfl (by first | exact Or.inl rfl | exact Or.inr rfl))
      (q_pss_cons (q_ps_set (i := 3) sc_law.nd rfl (by first | exact Or.inl rfl | exact Or.inr rfl) (q_pe_ix (ix_listK (K := K) rfl) (q_pe_lst (q_pa_cons q_pe_int (q_pa_cons q_pe_int (q_pa_cons q_pe_int (q_pa_cons (q_pe_op op_add q_pe_int (q_pe_cal C__law_draw (hr.mono (by omega)) (q_pa_cons (q_pv 1) (q_pa_cons q_pe_int q_pa_nil)))) (q_pa_cons q_pe_int q_pa_nil)))))) (q_pe_cal C__law_draw (hr.mono (by omega)) (q_pa_cons (q_pv 1) (q_pa_cons q_pe_int q_pa_nil))) (fun _ _ => rfl)))
      (q_pss_cons (q_ps_set (i := 4) sc_law.nd rfl (by first | exact Or.inl rfl | exact Or.inr rfl) (q_pe_callTy (call_tuple_ofK (K := K) rfl) rfl T.no_tuple (by decide +kernel) (q_pa_cons (q_pe_cal C__law_pieces (hr.mono (by omega)) (q_pa_cons (q_pv 1) (q_pa_cons (q_pe_op op_add q_pe_int (q_pe_cal C__law_draw (hr.mono (by omega)) (q_pa_cons (q_pv 1) (q_pa_cons q_pe_int q_pa_nil)))) (q_pa_cons (q_pv 3) q_pa_nil)))) q_pa_nil)))
      (q_pss_cons (q_ps_set (i := 5) sc_law.nd rfl (by first | exact Or.inl rfl | exact Or.inr rfl) (q_pe_callB (cr_reprK (K := K) rfl hr) rfl T.no_repr (by decide +kernel) (q_pa_cons (q_pv 4) q_pa_nil)))
      (q_pss_one (q_ps_if (q_PW_pt (q_pw_or (q_pt_not (q_pt_val (q_pe_cal C__law_right (hr.mono (by omega)) (q_pa_cons (q_pv 1) (q_pa_cons (q_pv 4) q_pa_nil))))) (q_pw_or1 (q_pt_cmpR op_ne (q_pe_callB (cr_reprK (K := K) rfl hr) rfl T.no_repr (by decide +kernel) (q_pa_cons (q_pv 4) q_pa_nil)) (q_pv 5) (nomark _)))))
      (q_pss_one (q_ps_ret q_pe_bl))
      q_pss_nil))))))
      (q_pss_one (q_ps_ret q_pe_bl)))), ?_⟩
    refine ⟨_, rfl, (by show 3 ≤ sizeLine; decide), fun p hp => ?_⟩
    have s1 : Same H (upd H p (.lst [.ref a, .int 0, .int 0])) := Same.upd hp
    have hT1 := s1.tbH hT
    have P1 : Pen K (upd H p (.lst [.ref a, .int 0, .int 0])) p a ns 0 0 := ⟨upd_same, s1.seq hs, hl, by decide, by decide⟩
    generalize hH1 : upd H p (.lst [.ref a, .int 0, .int 0]) = H1 at s1 hT1 P1
    have tbx : ∀ H', SameX p H1 H' → TbH TB H' := fun H' sx q hq => sx _ _ (fun e => by
      have := hT1 q hq
      rw [e, P1.at_] at this
      injection this with this
      exact nTB q hq _ this.symm) (hT1 q hq)
    refine ⟨_, rfl, (by decide), (by decide), for_range (lo := 0) (n := 3) (fun i σ H' => ∃ (v2 v3 v4 v5 : Option V) (x y : Int), σ = [some (.ref a), some (.ref p), v2, v3, v4, v5] ∧ SameX p H1 H' ∧ Pen K H' p a ns x y) ⟨none, none, none, none, 0, 0, rfl, SameX.refl _ _, P1⟩ ?_ ?_⟩
    · rintro i σ H' hi ⟨v2, v3, v4, v5, x, y, rfl, sx, Pn⟩
      refine ⟨_, rfl, p, a, ns, x, y, 12, rfl, Pn, by decide, by decide, fun g1 x1 y1 H2 g10 g11 s2 P2 => ?_⟩
      refine ⟨_, _, rfl, rfl, (by show 5 ≤ sizeLine; decide), fun L hL => ?_⟩
      refine alloc (.lst [.int 1, .int 2, .int 3, .int (1 + g1), .int 40]) hL fun H3 s3 eL => ?_
      have nL : L ≠ p := (ne_of_none P2.at_ hL).symm
      refine ⟨_, rfl, p, a, ns, x1, y1, 5, rfl, P2.same s3, by decide, by decide, fun g2 x2 y2 H4 g20 g21 s4 P4 => ?_⟩
      obtain ⟨m, m1', m40, em⟩ : ∃ m : Nat, 1 ≤ m ∧ m ≤ 40 ∧ atI [V.int 1, V.int 2, V.int 3, V.int (1 + g1), V.int 40] g2 = some (.int (m : Int)) := by
        obtain ⟨j, rfl⟩ := Int.eq_ofNat_of_zero_le g10
        have hj : j < 12 := by omega
        rcases (show g2 = 0 ∨ g2 = 1 ∨ g2 = 2 ∨ g2 = 3 ∨ g2 = 4 by omega) with rfl | rfl | rfl | rfl | rfl
        · exact ⟨1, by decide, by decide, rfl⟩
        · exact ⟨2, by decide, by decide, rfl⟩
        · exact ⟨3, by decide, by decide, rfl⟩
        · refine ⟨1 + j, by omega, by omega, ?_⟩
          show some (V.int (1 + (j : Int))) = some (V.int ((1 + j : Nat) : Int))
          congr 2
        · exact ⟨40, by decide, by decide, rfl⟩
      refine ⟨L, _, _, _, rfl, rfl, SqL.of (s4 _ _ nL eL), em, ?_⟩
      refine ⟨_, rfl, _, rfl, p, a, ns, x2, y2, 6, rfl, P4, by decide, by decide, fun g3 x3 y3 H5 g30 g31 s5 P5 => ?_⟩
      obtain ⟨j3, rfl⟩ := Int.eq_ofNat_of_zero_le g30
      have ej : (1 : Int) + (j3 : Int) = ((1 + j3 : Nat) : Int) := by omega
      refine ⟨_, _, rfl, rfl, _, rfl, p, a, ns, x3, y3, 1 + j3, m, by rw [← ej]; rfl, P5, by omega, by omega, m40, fun r zs x6 y6 H6 zl nd rp hr0 nr er tz s6 P6 => ?_⟩
      refine ⟨r, _, rfl, .inl ⟨SqL.of er, fun t ht => ?_⟩⟩
      refine alloc (.tup (refs zs)) ht fun H7 s7 et => ?_
      have P7 := P6.same s7
      have s17 : SameX p H1 H7 := sx.trans (s2.trans ((SameX.of s3).trans (s4.trans (s5.trans (s6.trans (SameX.of s7))))))
      have hT7 := tbx H7 s17
      have rr : ∀ z ∈ zs, RowP (1 + j3) m z.2 := fun z hz => rp z.2 (List.mem_map.mpr ⟨z, hz, rfl⟩)
      have hS : ShapeF K H7 t zs (1 + j3) := ⟨.inl (.inl et), tz.same s7, fun z hz => (rr z hz).len, by omega, by omega, by omega, by omega, fun z hz e he => Nat.le_trans ((rr z hz).bd e he) (by decide +kernel)⟩
      have zb : ∀ c ∈ zs.map (·.2), c.length ≤ 6 ∧ ∀ z ∈ c, z.natAbs ≤ 10 ^ 60 := fun c hc => by
        obtain ⟨z, hz, rfl⟩ := List.mem_map.mp hc
        exact ⟨by rw [hS.len z hz]; exact hS.n6, hS.bd z hz⟩
      have zl2 : (zs.map (·.2)).length ≤ 40 := by rw [List.length_map]; exact hS.z40
      refine ⟨_, rfl, ?_⟩
      refine rRepr_tupT (K := K) (m := 6) hS.at_ hS.tup rfl zb (by omega) ?_
      refine ⟨_, rfl, _, rfl, p, a, t, ns, x6, y6, zs, _, rfl, P7, hS, hT7 _ m1, hT7 _ m2, hT7 _ m3, fun x8 y8 H8 s8 P8 => ⟨_, rfl, ?_⟩⟩
      refine iteF ?_
      have hS8 := hS.sx P7.at_ s8
      refine ⟨_, rfl, ?_⟩
      refine rRepr_tupT (K := K) (m := 6) hS8.at_ hS8.tup rfl zb (by omega) ?_
      refine ⟨_, rfl, rfl, _, rfl, iteNS rfl ?_⟩
      exact ⟨_, _, _, _, _, _, rfl, s17.trans s8, P8⟩
    · rintro σ H' ⟨v2, v3, v4, v5, x, y, rfl, sx, Pn⟩
      refine k _ fun b o e => ?_
      have hb : b ≠ p := ne_of_none e hp
      exact sx b o hb (s1 b o e)
end
end KW

set_option maxHeartbeats 4000000
namespace KW
open PySem L2
theorem all_mk {l : PySem.W.OpenLaw} {w : World} {K : PySem.W.Frag} {h : Heap} {mg : Str → Option Value} {fa f_lies_in c_lies_in f_by_size c_by_size f_faces_in c_faces_in f_corners c_corners f_faces c_faces f_has c_has f_holders c_holders f__law_draw c__law_draw f__law_pool c__law_pool f__law_pieces c__law_pieces f__law_choices c__law_choices f__law_faces c__law_faces f__law_asked c__law_asked f__law_right c__law_right f_law c_law tb_lies_in tb_has tb_by_size : Addr} {mean : ExcName → Option Value} {mb : Str → Option Value} {q : Program} {loose : List Str}
    {od_lies_in an_lies_in : Option Addr} {oc_lies_in kV_lies_in doc_lies_in pm_lies_in ct_lies_in : Value} {sl_lies_in : Array (Option Value)} {od_by_size an_by_size : Option Addr} {oc_by_size kV_by_size doc_by_size pm_by_size ct_by_size : Value} {sl_by_size : Array (Option Value)} {od_faces_in an_faces_in : Option Addr} {oc_faces_in kV_faces_in doc_faces_in pm_faces_in ct_faces_in : Value} {sl_faces_in : Array (Option Value)} {od_corners an_corners : Option Addr} {oc_corners kV_corners doc_corners pm_corners ct_corners : Value} {sl_corners : Array (Option Value)} {od_faces an_faces : Option Addr} {oc_faces kV_faces doc_faces pm_faces ct_faces : Value} {sl_faces : Array (Option Value)} {od_has an_has : Option Addr} {oc_has kV_has doc_has pm_has ct_has : Value} {sl_has : Array (Option Value)} {od_holders an_holders : Option Addr} {oc_holders kV_holders doc_holders pm_holders ct_holders : Value} {sl_holders : Array (Option Value)} {od__law_draw an__law_draw : Option Addr} {oc__law_draw kV__law_draw doc__law_draw pm__law_draw ct__law_draw : Value} {sl__law_draw : Array (Option Value)} {od__law_pool an__law_pool : Option Addr} {oc__law_pool kV__law_pool doc__law_pool pm__law_pool ct__law_pool : Value} {sl__law_pool : Array (Option Value)} {od__law_pieces an__law_pieces : Option Addr} {oc__law_pieces kV__law_pieces doc__law_pieces pm__law_pieces ct__law_pieces : Value} {sl__law_pieces : Array (Option Value)} {od__law_choices an__law_choices : Option Addr} {oc__law_choices kV__law_choices doc__law_choices pm__law_choices ct__law_choices : Value} {sl__law_choices : Array (Option Value)} {od__law_faces an__law_faces : Option Addr} {oc__law_faces kV__law_faces doc__law_faces pm__law_faces ct__law_faces : Value} {sl__law_faces : Array (Option Value)} {od__law_asked an__law_asked : Option Addr} {oc__law_asked kV__law_asked doc__law_asked pm__law_asked ct__law_asked : Value} {sl__law_asked : Array (Option Value)} {od__law_right an__law_right : Option Addr} {oc__law_right kV__law_right doc__law_right pm__law_right ct__law_right : Value} {sl__law_right : Array (Option Value)} {od_law an_law : Option Addr} {oc_law kV_law doc_law pm_law ct_law : Value} {sl_law : Array (Option Value)}
    {oe_lies_in : Option Addr} {vs_lies_in : Array Value} {sk_lies_in : Array (Option Value)} {fi_lies_in : Str} {t1_lies_in t2_lies_in t3_lies_in : Tok} {fl_lies_in tx_lies_in : Int} {in_lies_in : Bool} {oe_has : Option Addr} {vs_has : Array Value} {sk_has : Array (Option Value)} {fi_has : Str} {t1_has t2_has t3_has : Tok} {fl_has tx_has : Int} {in_has : Bool} {oe_by_size : Option Addr} {vs_by_size : Array Value} {sk_by_size : Array (Option Value)} {fi_by_size : Str} {t1_by_size t2_by_size t3_by_size : Tok} {fl_by_size tx_by_size : Int} {in_by_size : Bool}
    (X : K.In h) (Tp : PyProof.Rows.Top q loose mean mg mb h) (hfa : mg "law" = some (.ref fa))
    (a_lies_in : PySem.W.nsIn K mainGlobals "lies_in" = some (some (.ref f_lies_in))) (l_lies_in : K.lookup f_lies_in = some ⟨oc_lies_in, od_lies_in, .func (PySem.W.fnOf "lies_in" "lies_in" (defArgs s_lies_in) (defBody s_lies_in) (defScope s_lies_in) .none kV_lies_in doc_lies_in pm_lies_in an_lies_in (.ref c_lies_in) ct_lies_in), sl_lies_in⟩) (d_lies_in : PySem.W.codeIn K (.ref c_lies_in) "lies_in" = true)
    (a_by_size : PySem.W.nsIn K mainGlobals "by_size" = some (some (.ref f_by_size))) (l_by_size : K.lookup f_by_size = some ⟨oc_by_size, od_by_size, .func (PySem.W.fnOf "by_size" "by_size" (defArgs s_by_size) (defBody s_by_size) (defScope s_by_size) .none kV_by_size doc_by_size pm_by_size an_by_size (.ref c_by_size) ct_by_size), sl_by_size⟩) (d_by_size : PySem.W.codeIn K (.ref c_by_size) "by_size" = true)
    (a_faces_in : PySem.W.nsIn K mainGlobals "faces_in" = some (some (.ref f_faces_in))) (l_faces_in : K.lookup f_faces_in = some ⟨oc_faces_in, od_faces_in, .func (PySem.W.fnOf "faces_in" "faces_in" (defArgs s_faces_in) (defBody s_faces_in) (defScope s_faces_in) .none kV_faces_in doc_faces_in pm_faces_in an_faces_in (.ref c_faces_in) ct_faces_in), sl_faces_in⟩) (d_faces_in : PySem.W.codeIn K (.ref c_faces_in) "faces_in" = true)
    (a_corners : PySem.W.nsIn K mainGlobals "corners" = some (some (.ref f_corners))) (l_corners : K.lookup f_corners = some ⟨oc_corners, od_corners, .func (PySem.W.fnOf "corners" "corners" (defArgs s_corners) (defBody s_corners) (defScope s_corners) .none kV_corners doc_corners pm_corners an_corners (.ref c_corners) ct_corners), sl_corners⟩) (d_corners : PySem.W.codeIn K (.ref c_corners) "corners" = true)
    (a_faces : PySem.W.nsIn K mainGlobals "faces" = some (some (.ref f_faces))) (l_faces : K.lookup f_faces = some ⟨oc_faces, od_faces, .func (PySem.W.fnOf "faces" "faces" (defArgs s_faces) (defBody s_faces) (defScope s_faces) .none kV_faces doc_faces pm_faces an_faces (.ref c_faces) ct_faces), sl_faces⟩) (d_faces : PySem.W.codeIn K (.ref c_faces) "faces" = true)
    (a_has : PySem.W.nsIn K mainGlobals "has" = some (some (.ref f_has))) (l_has : K.lookup f_has = some ⟨oc_has, od_has, .func (PySem.W.fnOf "has" "has" (defArgs s_has) (defBody s_has) (defScope s_has) .none kV_has doc_has pm_has an_has (.ref c_has) ct_has), sl_has⟩) (d_has : PySem.W.codeIn K (.ref c_has) "has" = true)
    (a_holders : PySem.W.nsIn K mainGlobals "holders" = some (some (.ref f_holders))) (l_holders : K.lookup f_holders = some ⟨oc_holders, od_holders, .func (PySem.W.fnOf "holders" "holders" (defArgs s_holders) (defBody s_holders) (defScope s_holders) .none kV_holders doc_holders pm_holders an_holders (.ref c_holders) ct_holders), sl_holders⟩) (d_holders : PySem.W.codeIn K (.ref c_holders) "holders" = true)
    (a__law_draw : PySem.W.nsIn K mainGlobals "_law_draw" = some (some (.ref f__law_draw))) (l__law_draw : K.lookup f__law_draw = some ⟨oc__law_draw, od__law_draw, .func (PySem.W.fnOf "_law_draw" "_law_draw" (defArgs s__law_draw) (defBody s__law_draw) (defScope s__law_draw) .none kV__law_draw doc__law_draw pm__law_draw an__law_draw (.ref c__law_draw) ct__law_draw), sl__law_draw⟩) (d__law_draw : PySem.W.codeIn K (.ref c__law_draw) "_law_draw" = true)
    (a__law_pool : PySem.W.nsIn K mainGlobals "_law_pool" = some (some (.ref f__law_pool))) (l__law_pool : K.lookup f__law_pool = some ⟨oc__law_pool, od__law_pool, .func (PySem.W.fnOf "_law_pool" "_law_pool" (defArgs s__law_pool) (defBody s__law_pool) (defScope s__law_pool) .none kV__law_pool doc__law_pool pm__law_pool an__law_pool (.ref c__law_pool) ct__law_pool), sl__law_pool⟩) (d__law_pool : PySem.W.codeIn K (.ref c__law_pool) "_law_pool" = true)
    (a__law_pieces : PySem.W.nsIn K mainGlobals "_law_pieces" = some (some (.ref f__law_pieces))) (l__law_pieces : K.lookup f__law_pieces = some ⟨oc__law_pieces, od__law_pieces, .func (PySem.W.fnOf "_law_pieces" "_law_pieces" (defArgs s__law_pieces) (defBody s__law_pieces) (defScope s__law_pieces) .none kV__law_pieces doc__law_pieces pm__law_pieces an__law_pieces (.ref c__law_pieces) ct__law_pieces), sl__law_pieces⟩) (d__law_pieces : PySem.W.codeIn K (.ref c__law_pieces) "_law_pieces" = true)
    (a__law_choices : PySem.W.nsIn K mainGlobals "_law_choices" = some (some (.ref f__law_choices))) (l__law_choices : K.lookup f__law_choices = some ⟨oc__law_choices, od__law_choices, .func (PySem.W.fnOf "_law_choices" "_law_choices" (defArgs s__law_choices) (defBody s__law_choices) (defScope s__law_choices) .none kV__law_choices doc__law_choices pm__law_choices an__law_choices (.ref c__law_choices) ct__law_choices), sl__law_choices⟩) (d__law_choices : PySem.W.codeIn K (.ref c__law_choices) "_law_choices" = true)
    (a__law_faces : PySem.W.nsIn K mainGlobals "_law_faces" = some (some (.ref f__law_faces))) (l__law_faces : K.lookup f__law_faces = some ⟨oc__law_faces, od__law_faces, .func (PySem.W.fnOf "_law_faces" "_law_faces" (defArgs s__law_faces) (defBody s__law_faces) (defScope s__law_faces) .none kV__law_faces doc__law_faces pm__law_faces an__law_faces (.ref c__law_faces) ct__law_faces), sl__law_faces⟩) (d__law_faces : PySem.W.codeIn K (.ref c__law_faces) "_law_faces" = true)
    (a__law_asked : PySem.W.nsIn K mainGlobals "_law_asked" = some (some (.ref f__law_asked))) (l__law_asked : K.lookup f__law_asked = some ⟨oc__law_asked, od__law_asked, .func (PySem.W.fnOf "_law_asked" "_law_asked" (defArgs s__law_asked) (defBody s__law_asked) (defScope s__law_asked) .none kV__law_asked doc__law_asked pm__law_asked an__law_asked (.ref c__law_asked) ct__law_asked), sl__law_asked⟩) (d__law_asked : PySem.W.codeIn K (.ref c__law_asked) "_law_asked" = true)
    (a__law_right : PySem.W.nsIn K mainGlobals "_law_right" = some (some (.ref f__law_right))) (l__law_right : K.lookup f__law_right = some ⟨oc__law_right, od__law_right, .func (PySem.W.fnOf "_law_right" "_law_right" (defArgs s__law_right) (defBody s__law_right) (defScope s__law_right) .none kV__law_right doc__law_right pm__law_right an__law_right (.ref c__law_right) ct__law_right), sl__law_right⟩) (d__law_right : PySem.W.codeIn K (.ref c__law_right) "_law_right" = true)
    (a_law : PySem.W.nsIn K mainGlobals "law" = some (some (.ref f_law))) (l_law : K.lookup f_law = some ⟨oc_law, od_law, .func (PySem.W.fnOf "law" "law" (defArgs s_law) (defBody s_law) (defScope s_law) .none kV_law doc_law pm_law an_law (.ref c_law) ct_law), sl_law⟩) (d_law : PySem.W.codeIn K (.ref c_law) "law" = true)
    (lc_lies_in : K.lookup c_lies_in = some ⟨.type "code", oe_lies_in, .fields vs_lies_in, sk_lies_in⟩) (e11_lies_in : vs_lies_in[11]? = some (.ref tb_lies_in)) (e18_lies_in : vs_lies_in.getD 18 .none = .str fi_lies_in t1_lies_in) (e7_lies_in : vs_lies_in.getD 7 .none = .int fl_lies_in t2_lies_in) (e9_lies_in : vs_lies_in.getD 9 .none = .bool in_lies_in) (e10_lies_in : vs_lies_in.getD 10 .none = .int tx_lies_in t3_lies_in) (rc_lies_in : ((PyProof.Rows.recsOf q).any fun d => d.name == ("lies_in" : Str)) = true) (ne_lies_in : c_lies_in ≠ tb_lies_in)
    (lc_has : K.lookup c_has = some ⟨.type "code", oe_has, .fields vs_has, sk_has⟩) (e11_has : vs_has[11]? = some (.ref tb_has)) (e18_has : vs_has.getD 18 .none = .str fi_has t1_has) (e7_has : vs_has.getD 7 .none = .int fl_has t2_has) (e9_has : vs_has.getD 9 .none = .bool in_has) (e10_has : vs_has.getD 10 .none = .int tx_has t3_has) (rc_has : ((PyProof.Rows.recsOf q).any fun d => d.name == ("has" : Str)) = true) (ne_has : c_has ≠ tb_has)
    (lc_by_size : K.lookup c_by_size = some ⟨.type "code", oe_by_size, .fields vs_by_size, sk_by_size⟩) (e11_by_size : vs_by_size[11]? = some (.ref tb_by_size)) (e18_by_size : vs_by_size.getD 18 .none = .str fi_by_size t1_by_size) (e7_by_size : vs_by_size.getD 7 .none = .int fl_by_size t2_by_size) (e9_by_size : vs_by_size.getD 9 .none = .bool in_by_size) (e10_by_size : vs_by_size.getD 10 .none = .int tx_by_size t3_by_size) (rc_by_size : ((PyProof.Rows.recsOf q).any fun d => d.name == ("by_size" : Str)) = true) (ne_by_size : c_by_size ≠ tb_by_size)
    (n_lies_in : f_lies_in ∉ [tb_lies_in, tb_has, tb_by_size]) (m_lies_in : c_lies_in ∉ [tb_lies_in, tb_has, tb_by_size])
    (n_by_size : f_by_size ∉ [tb_lies_in, tb_has, tb_by_size]) (m_by_size : c_by_size ∉ [tb_lies_in, tb_has, tb_by_size])
    (n_faces_in : f_faces_in ∉ [tb_lies_in, tb_has, tb_by_size]) (m_faces_in : c_faces_in ∉ [tb_lies_in, tb_has, tb_by_size])
    (n_corners : f_corners ∉ [tb_lies_in, tb_has, tb_by_size]) (m_corners : c_corners ∉ [tb_lies_in, tb_has, tb_by_size])
    (n_faces : f_faces ∉ [tb_lies_in, tb_has, tb_by_size]) (m_faces : c_faces ∉ [tb_lies_in, tb_has, tb_by_size])
    (n_has : f_has ∉ [tb_lies_in, tb_has, tb_by_size]) (m_has : c_has ∉ [tb_lies_in, tb_has, tb_by_size])
    (n_holders : f_holders ∉ [tb_lies_in, tb_has, tb_by_size]) (m_holders : c_holders ∉ [tb_lies_in, tb_has, tb_by_size])
    (n__law_draw : f__law_draw ∉ [tb_lies_in, tb_has, tb_by_size]) (m__law_draw : c__law_draw ∉ [tb_lies_in, tb_has, tb_by_size])
    (n__law_pool : f__law_pool ∉ [tb_lies_in, tb_has, tb_by_size]) (m__law_pool : c__law_pool ∉ [tb_lies_in, tb_has, tb_by_size])
    (n__law_pieces : f__law_pieces ∉ [tb_lies_in, tb_has, tb_by_size]) (m__law_pieces : c__law_pieces ∉ [tb_lies_in, tb_has, tb_by_size])
    (n__law_choices : f__law_choices ∉ [tb_lies_in, tb_has, tb_by_size]) (m__law_choices : c__law_choices ∉ [tb_lies_in, tb_has, tb_by_size])
    (n__law_faces : f__law_faces ∉ [tb_lies_in, tb_has, tb_by_size]) (m__law_faces : c__law_faces ∉ [tb_lies_in, tb_has, tb_by_size])
    (n__law_asked : f__law_asked ∉ [tb_lies_in, tb_has, tb_by_size]) (m__law_asked : c__law_asked ∉ [tb_lies_in, tb_has, tb_by_size])
    (n__law_right : f__law_right ∉ [tb_lies_in, tb_has, tb_by_size]) (m__law_right : c__law_right ∉ [tb_lies_in, tb_has, tb_by_size])
    (n_law : f_law ∉ [tb_lies_in, tb_has, tb_by_size]) (m_law : c_law ∉ [tb_lies_in, tb_has, tb_by_size])
    (ndS : ([tb_lies_in, tb_has, tb_by_size] : List Addr).Nodup)

    (z_range : PySem.W.nsIn K mainGlobals "range" = some none)
    (z_len : PySem.W.nsIn K mainGlobals "len" = some none)
    (z_abs : PySem.W.nsIn K mainGlobals "abs" = some none)
    (z_tuple : PySem.W.nsIn K mainGlobals "tuple" = some none)
    (z_sorted : PySem.W.nsIn K mainGlobals "sorted" = some none)
    (z_repr : PySem.W.nsIn K mainGlobals "repr" = some none)
    (z_list : PySem.W.nsIn K mainGlobals "list" = some none)
    (z_set : PySem.W.nsIn K mainGlobals "set" = some none)
    (z_isinstance : PySem.W.nsIn K mainGlobals "isinstance" = some none)
    (z_bool : PySem.W.nsIn K mainGlobals "bool" = some none)
    (z_enumerate : PySem.W.nsIn K mainGlobals "enumerate" = some none)
    (z_any : PySem.W.nsIn K mainGlobals "any" = some none)
    (z_all : PySem.W.nsIn K mainGlobals "all" = some none)
    : ∃ (K' : PySem.W.Frag) (TB : List (Addr × HO)) (fd : FuncData), (∀ a o, K'.lookup a = some o → K.lookup a = some o) ∧ (TB.map (·.1)).Nodup ∧ (∀ p ∈ TB, K'.lookup p.1 = none) ∧ (∀ p ∈ TB, (∃ c, h.TableAt c p.1 #[]) ∧ TabLike p.1 p.2) ∧
        (∀ (s : Shared) (u : Value), BindsTo s fd ⟨[u], []⟩ [("_law_script", u)]) ∧ ∀ base : Heap, K'.In base → base.Ns mainGlobals mg → BmK base mg → FnOk l.prog w K' mg base CX0 8 fa fd ["_law_script"] (spLaw K' TB) := by
  have G := Tp.g
  have e := hfa.symm.trans (PySem.W.mg_of X G a_law)
  cases e
  have F_lies_in := funC_mk (S := [tb_lies_in, tb_has, tb_by_size]) (st := s_lies_in) l_lies_in d_lies_in n_lies_in m_lies_in
  have b_lies_in := F_lies_in.binds (ps := P_lies_in) fun _ _ _ _ _ _ us hl => match us, hl with | [_, _], _ => rfl
  have g_lies_in := PySem.W.mg_of X G a_lies_in
  have F_by_size := funC_mk (S := [tb_lies_in, tb_has, tb_by_size]) (st := s_by_size) l_by_size d_by_size n_by_size m_by_size
  have b_by_size := F_by_size.binds (ps := P_by_size) fun _ _ _ _ _ _ us hl => match us, hl with | [_], _ => rfl
  have g_by_size := PySem.W.mg_of X G a_by_size
  have F_faces_in := funC_mk (S := [tb_lies_in, tb_has, tb_by_size]) (st := s_faces_in) l_faces_in d_faces_in n_faces_in m_faces_in
  have b_faces_in := F_faces_in.binds (ps := P_faces_in) fun _ _ _ _ _ _ us hl => match us, hl with | [_], _ => rfl
  have g_faces_in := PySem.W.mg_of X G a_faces_in
  have F_corners := funC_mk (S := [tb_lies_in, tb_has, tb_by_size]) (st := s_corners) l_corners d_corners n_corners m_corners
  have b_corners := F_corners.binds (ps := P_corners) fun _ _ _ _ _ _ us hl => match us, hl with | [_], _ => rfl
  have g_corners := PySem.W.mg_of X G a_corners
  have F_faces := funC_mk (S := [tb_lies_in, tb_has, tb_by_size]) (st := s_faces) l_faces d_faces n_faces m_faces
  have b_faces := F_faces.binds (ps := P_faces) fun _ _ _ _ _ _ us hl => match us, hl with | [_], _ => rfl
  have g_faces := PySem.W.mg_of X G a_faces
  have F_has := funC_mk (S := [tb_lies_in, tb_has, tb_by_size]) (st := s_has) l_has d_has n_has m_has
  have b_has := F_has.binds (ps := P_has) fun _ _ _ _ _ _ us hl => match us, hl with | [_, _], _ => rfl
  have g_has := PySem.W.mg_of X G a_has
  have F_holders := funC_mk (S := [tb_lies_in, tb_has, tb_by_size]) (st := s_holders) l_holders d_holders n_holders m_holders
  have b_holders := F_holders.binds (ps := P_holders) fun _ _ _ _ _ _ us hl => match us, hl with | [_, _], _ => rfl
  have g_holders := PySem.W.mg_of X G a_holders
  have F__law_draw := funC_mk (S := [tb_lies_in, tb_has, tb_by_size]) (st := s__law_draw) l__law_draw d__law_draw n__law_draw m__law_draw
  have b__law_draw := F__law_draw.binds (ps := P__law_draw) fun _ _ _ _ _ _ us hl => match us, hl with | [_, _], _ => rfl
  have g__law_draw := PySem.W.mg_of X G a__law_draw
  have F__law_pool := funC_mk (S := [tb_lies_in, tb_has, tb_by_size]) (st := s__law_pool) l__law_pool d__law_pool n__law_pool m__law_pool
  have b__law_pool := F__law_pool.binds (ps := P__law_pool) fun _ _ _ _ _ _ us hl => match us, hl with | [_, _], _ => rfl
  have g__law_pool := PySem.W.mg_of X G a__law_pool
  have F__law_pieces := funC_mk (S := [tb_lies_in, tb_has, tb_by_size]) (st := s__law_pieces) l__law_pieces d__law_pieces n__law_pieces m__law_pieces
  have b__law_pieces := F__law_pieces.binds (ps := P__law_pieces) fun _ _ _ _ _ _ us hl => match us, hl with | [_, _, _], _ => rfl
  have g__law_pieces := PySem.W.mg_of X G a__law_pieces
  have F__law_choices := funC_mk (S := [tb_lies_in, tb_has, tb_by_size]) (st := s__law_choices) l__law_choices d__law_choices n__law_choices m__law_choices
  have b__law_choices := F__law_choices.binds (ps := P__law_choices) fun _ _ _ _ _ _ us hl => match us, hl with | [_], _ => rfl
  have g__law_choices := PySem.W.mg_of X G a__law_choices
  have F__law_faces := funC_mk (S := [tb_lies_in, tb_has, tb_by_size]) (st := s__law_faces) l__law_faces d__law_faces n__law_faces m__law_faces
  have b__law_faces := F__law_faces.binds (ps := P__law_faces) fun _ _ _ _ _ _ us hl => match us, hl with | [_], _ => rfl
  have g__law_faces := PySem.W.mg_of X G a__law_faces
  have F__law_asked := funC_mk (S := [tb_lies_in, tb_has, tb_by_size]) (st := s__law_asked) l__law_asked d__law_asked n__law_asked m__law_asked
  have b__law_asked := F__law_asked.binds (ps := P__law_asked) fun _ _ _ _ _ _ us hl => match us, hl with | [_, _], _ => rfl
  have g__law_asked := PySem.W.mg_of X G a__law_asked
  have F__law_right := funC_mk (S := [tb_lies_in, tb_has, tb_by_size]) (st := s__law_right) l__law_right d__law_right n__law_right m__law_right
  have b__law_right := F__law_right.binds (ps := P__law_right) fun _ _ _ _ _ _ us hl => match us, hl with | [_, _], _ => rfl
  have g__law_right := PySem.W.mg_of X G a__law_right
  have F_law := funC_mk (S := [tb_lies_in, tb_has, tb_by_size]) (st := s_law) l_law d_law n_law m_law
  have b_law := F_law.binds (ps := P_law) fun _ _ _ _ _ _ us hl => match us, hl with | [_], _ => rfl
  have g_law := PySem.W.mg_of X G a_law
  have k_lies_in : CodeK (cutK K [tb_lies_in, tb_has, tb_by_size]) c_lies_in tb_lies_in := codeK_mk lc_lies_in m_lies_in ne_lies_in e11_lies_in e18_lies_in e7_lies_in e9_lies_in e10_lies_in
  have k_has : CodeK (cutK K [tb_lies_in, tb_has, tb_by_size]) c_has tb_has := codeK_mk lc_has m_has ne_has e11_has e18_has e7_has e9_has e10_has
  have k_by_size : CodeK (cutK K [tb_lies_in, tb_has, tb_by_size]) c_by_size tb_by_size := codeK_mk lc_by_size m_by_size ne_by_size e11_by_size e18_by_size e7_by_size e9_by_size e10_by_size
  refine ⟨cutK K [tb_lies_in, tb_has, tb_by_size], [(tb_lies_in, tbO tb_lies_in #[]), (tb_has, tbO tb_has #[]), (tb_by_size, HO.lam lamQ)], PySem.W.fnOf "law" "law" (defArgs s_law) (defBody s_law) (defScope s_law) .none kV_law doc_law pm_law an_law (.ref c_law) ct_law, fun a o e => cutK_of e, ndS, fun p hp => ?_, fun p hp => ?_, fun s u => .of_eq rfl, fun base _ _ bmk => ?_⟩
  · refine cutK_none ?_ K
    have := List.mem_map_of_mem (f := (·.1)) hp
    exact this
  · simp only [List.mem_cons, List.not_mem_nil, or_false] at hp
    rcases hp with rfl | rfl | rfl
    · exact ⟨⟨c_lies_in, tab_of Tp X rc_lies_in g_lies_in l_lies_in rfl lc_lies_in e11_lies_in⟩, .inl rfl⟩
    · exact ⟨⟨c_has, tab_of Tp X rc_has g_has l_has rfl lc_has e11_has⟩, .inl rfl⟩
    · exact ⟨⟨c_by_size, tab_of Tp X rc_by_size g_by_size l_by_size rfl lc_by_size e11_by_size⟩, .inr ⟨_, rfl⟩⟩
  have T : Txt base mg := ⟨PySem.W.mg_none_of X G z_range, PySem.W.mg_none_of X G z_len, PySem.W.mg_none_of X G z_abs, PySem.W.mg_none_of X G z_tuple, PySem.W.mg_none_of X G z_sorted, PySem.W.mg_none_of X G z_repr, PySem.W.mg_none_of X G z_list, PySem.W.mg_none_of X G z_set, PySem.W.mg_none_of X G z_isinstance, PySem.W.mg_none_of X G z_bool, PySem.W.mg_none_of X G z_enumerate, PySem.W.mg_none_of X G z_any, PySem.W.mg_none_of X G z_all, bmk⟩
  have C_lies_in : Cal l.prog w _ mg base 2 "lies_in" P_lies_in _ := ⟨⟨_, _, ok_lies_in F_lies_in k_lies_in T, g_lies_in, F_lies_in.kp, b_lies_in⟩⟩
  have C_by_size : Cal l.prog w _ mg base 4 "by_size" P_by_size _ := ⟨⟨_, _, ok_by_size F_by_size k_by_size T, g_by_size, F_by_size.kp, b_by_size⟩⟩
  have C_faces_in : Cal l.prog w _ mg base 5 "faces_in" P_faces_in _ := ⟨⟨_, _, ok_faces_in F_faces_in T C_by_size, g_faces_in, F_faces_in.kp, b_faces_in⟩⟩
  have C_corners : Cal l.prog w _ mg base 2 "corners" P_corners _ := ⟨⟨_, _, ok_corners F_corners T, g_corners, F_corners.kp, b_corners⟩⟩
  have C_faces : Cal l.prog w _ mg base 6 "faces" P_faces _ := ⟨⟨_, _, ok_faces F_faces T C_by_size C_faces_in, g_faces, F_faces.kp, b_faces⟩⟩
  have C_has : Cal l.prog w _ mg base 4 "has" P_has _ := ⟨⟨_, _, ok_has F_has k_has T C_lies_in, g_has, F_has.kp, b_has⟩⟩
  have C_holders : Cal l.prog w _ mg base 3 "holders" P_holders _ := ⟨⟨_, _, ok_holders F_holders T C_lies_in, g_holders, F_holders.kp, b_holders⟩⟩
  have C__law_draw : Cal l.prog w _ mg base 1 "_law_draw" P__law_draw _ := ⟨⟨_, _, ok__law_draw F__law_draw T, g__law_draw, F__law_draw.kp, b__law_draw⟩⟩
  have C__law_pool : Cal l.prog w _ mg base 2 "_law_pool" P__law_pool _ := ⟨⟨_, _, ok__law_pool F__law_pool T C__law_draw, g__law_pool, F__law_pool.kp, b__law_pool⟩⟩
  have C__law_pieces : Cal l.prog w _ mg base 3 "_law_pieces" P__law_pieces _ := ⟨⟨_, _, ok__law_pieces F__law_pieces T C__law_draw C__law_pool, g__law_pieces, F__law_pieces.kp, b__law_pieces⟩⟩
  have C__law_choices : Cal l.prog w _ mg base 1 "_law_choices" P__law_choices _ := ⟨⟨_, _, ok__law_choices F__law_choices T, g__law_choices, F__law_choices.kp, b__law_choices⟩⟩
  have C__law_faces : Cal l.prog w _ mg base 2 "_law_faces" P__law_faces _ := ⟨⟨_, _, ok__law_faces F__law_faces T C__law_choices, g__law_faces, F__law_faces.kp, b__law_faces⟩⟩
  have C__law_asked : Cal l.prog w _ mg base 2 "_law_asked" P__law_asked _ := ⟨⟨_, _, ok__law_asked F__law_asked T C__law_draw, g__law_asked, F__law_asked.kp, b__law_asked⟩⟩
  have C__law_right : Cal l.prog w _ mg base 7 "_law_right" P__law_right _ := ⟨⟨_, _, ok__law_right F__law_right T C_corners C_faces C_has C_holders C__law_faces C__law_asked, g__law_right, F__law_right.kp, b__law_right⟩⟩
  have nTB : ∀ q ∈ [(tb_lies_in, tbO tb_lies_in #[]), (tb_has, tbO tb_has #[]), (tb_by_size, HO.lam lamQ)], ∀ ys, q.2 ≠ HO.lst ys := (fun q hq ys e => by simp only [List.mem_cons, List.not_mem_nil, or_false] at hq; rcases hq with rfl | rfl | rfl <;> cases e)
  exact ok_law (by simp) (by simp) (by simp) nTB F_law T C__law_draw C__law_pieces C__law_right
end KW
open PySem PySem.W PyProof.Rows
set_option maxRecDepth 100000 in
set_option maxHeartbeats 0 in
theorem PySem.Challenge.cw_wholesides_k05_faces_and_holders_holds : PySem.Challenge.rw_wholesides_k05_faces_and_holders.Holds := by
  w_on; o_law; k_head; (case hw => w_witness2)
  k_fill
  refine L2.walk_ofT (l := PySem.Challenge.rw_wholesides_k05_faces_and_holders) (n := 63) (k := 8) (x := "_law_script") (sp := KW.spLaw) rfl (by decide) rfl ⟨rfl, by decide, by decide, rfl⟩ (fun w h Y => by first | exact PySem.W.kIn_of Y | exact PySem.W.km_in_of Y) ?F (fun K TB H a ns hl hT hS => ⟨a, ns, rfl, hS, hl, hT, fun H' s => ⟨rfl, s.tbH hT⟩⟩)
  case F =>
    intro w mg mb fa h mean KX G hmg
    refine' KW.all_mk KX G hmg ?a_lies_in ?l_lies_in ?d_lies_in ?a_by_size ?l_by_size ?d_by_size ?a_faces_in ?l_faces_in ?d_faces_in ?a_corners ?l_corners ?d_corners ?a_faces ?l_faces ?d_faces ?a_has ?l_has ?d_has ?a_holders ?l_holders ?d_holders ?a__law_draw ?l__law_draw ?d__law_draw ?a__law_pool ?l__law_pool ?d__law_pool ?a__law_pieces ?l__law_pieces ?d__law_pieces ?a__law_choices ?l__law_choices ?d__law_choices ?a__law_faces ?l__law_faces ?d__law_faces ?a__law_asked ?l__law_asked ?d__law_asked ?a__law_right ?l__law_right ?d__law_right ?a_law ?l_law ?d_law ?lc_lies_in ?e11_lies_in ?e18_lies_in ?e7_lies_in ?e9_lies_in ?e10_lies_in ?rc_lies_in ?ne_lies_in ?lc_has ?e11_has ?e18_has ?e7_has ?e9_has ?e10_has ?rc_has ?ne_has ?lc_by_size ?e11_by_size ?e18_by_size ?e7_by_size ?e9_by_size ?e10_by_size ?rc_by_size ?ne_by_size ?n_lies_in ?m_lies_in ?n_by_size ?m_by_size ?n_faces_in ?m_faces_in ?n_corners ?m_corners ?n_faces ?m_faces ?n_has ?m_has ?n_holders ?m_holders ?n__law_draw ?m__law_draw ?n__law_pool ?m__law_pool ?n__law_pieces ?m__law_pieces ?n__law_choices ?m__law_choices ?n__law_faces ?m__law_faces ?n__law_asked ?m__law_asked ?n__law_right ?m__law_right ?n_law ?m_law ?ndS ?z_range ?z_len ?z_abs ?z_tuple ?z_sorted ?z_repr ?z_list ?z_set ?z_isinstance ?z_bool ?z_enumerate ?z_any ?z_all
    (case a_lies_in => k_is)
    (case l_lies_in => k_is)
    (case d_lies_in => k_is)
    (case a_by_size => k_is)
    (case l_by_size => k_is)
    (case d_by_size => k_is)
    (case a_faces_in => k_is)
    (case l_faces_in => k_is)
    (case d_faces_in => k_is)
    (case a_corners => k_is)
    (case l_corners => k_is)
    (case d_corners => k_is)
    (case a_faces => k_is)
    (case l_faces => k_is)
    (case d_faces => k_is)
    (case a_has => k_is)
    (case l_has => k_is)
    (case d_has => k_is)
    (case a_holders => k_is)
    (case l_holders => k_is)
    (case d_holders => k_is)
    (case a__law_draw => k_is)
    (case l__law_draw => k_is)
    (case d__law_draw => k_is)
    (case a__law_pool => k_is)
    (case l__law_pool => k_is)
    (case d__law_pool => k_is)
    (case a__law_pieces => k_is)
    (case l__law_pieces => k_is)
    (case d__law_pieces => k_is)
    (case a__law_choices => k_is)
    (case l__law_choices => k_is)
    (case d__law_choices => k_is)
    (case a__law_faces => k_is)
    (case l__law_faces => k_is)
    (case d__law_faces => k_is)
    (case a__law_asked => k_is)
    (case l__law_asked => k_is)
    (case d__law_asked => k_is)
    (case a__law_right => k_is)
    (case l__law_right => k_is)
    (case d__law_right => k_is)
    (case a_law => k_is)
    (case l_law => k_is)
    (case d_law => k_is)
    (case lc_lies_in => k_is)
    (case e11_lies_in => rfl)
    (case e18_lies_in => rfl)
    (case e7_lies_in => rfl)
    (case e9_lies_in => rfl)
    (case e10_lies_in => rfl)
    (case rc_lies_in => first | rfl | decide +kernel)
    (case ne_lies_in => decide)
    (case lc_has => k_is)
    (case e11_has => rfl)
    (case e18_has => rfl)
    (case e7_has => rfl)
    (case e9_has => rfl)
    (case e10_has => rfl)
    (case rc_has => first | rfl | decide +kernel)
    (case ne_has => decide)
    (case lc_by_size => k_is)
    (case e11_by_size => rfl)
    (case e18_by_size => rfl)
    (case e7_by_size => rfl)
    (case e9_by_size => rfl)
    (case e10_by_size => rfl)
    (case rc_by_size => first | rfl | decide +kernel)
    (case ne_by_size => decide)
    (case n_lies_in => decide)
    (case m_lies_in => decide)
    (case n_by_size => decide)
    (case m_by_size => decide)
    (case n_faces_in => decide)
    (case m_faces_in => decide)
    (case n_corners => decide)
    (case m_corners => decide)
    (case n_faces => decide)
    (case m_faces => decide)
    (case n_has => decide)
    (case m_has => decide)
    (case n_holders => decide)
    (case m_holders => decide)
    (case n__law_draw => decide)
    (case m__law_draw => decide)
    (case n__law_pool => decide)
    (case m__law_pool => decide)
    (case n__law_pieces => decide)
    (case m__law_pieces => decide)
    (case n__law_choices => decide)
    (case m__law_choices => decide)
    (case n__law_faces => decide)
    (case m__law_faces => decide)
    (case n__law_asked => decide)
    (case m__law_asked => decide)
    (case n__law_right => decide)
    (case m__law_right => decide)
    (case n_law => decide)
    (case m_law => decide)
    (case ndS => decide)
    (case z_range => k_is)
    (case z_len => k_is)
    (case z_abs => k_is)
    (case z_tuple => k_is)
    (case z_sorted => k_is)
    (case z_repr => k_is)
    (case z_list => k_is)
    (case z_set => k_is)
    (case z_isinstance => k_is)
    (case z_bool => k_is)
    (case z_enumerate => k_is)
    (case z_any => k_is)
    (case z_all => k_is)
#print axioms PySem.Challenge.cw_wholesides_k05_faces_and_holders_holds


