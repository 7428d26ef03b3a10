import PyProof.Rows.All
import Wide.All
import OpenK.AllK
import Wide.FinOn
import PyProof.EqAt
import PyProof.EqKinds
import PyProof.TupleCall
import KE.BitLaws
import PySem.SetOps
import PyProof.SetScanFacts
import PyProof.SetKind
import PyProof.DictKinds
import PyProof.TupleKey
import PyProof.IsRules
import PyProof.DictStraight
import PyProof.CollectStr
import PyProof.SetRoads
import KE.KSortTupG
import PyProof.Rows.SortWalk
import KE.KSortKey
import KE.KLam
import PyProof.Rows.SetFrom
import PyProof.Rows.TupAdd
import PyProof.P3In
import KE.KRevSl
import PyProof.AttrMissSeq
import PyProof.DictUpdate
import PyProof.Draws
import PyProof.EnumMake
import PyProof.WalksMore
import PyProof.WalkInts
import KE.KListMore
import PyProof.StrOps2
import PyProof.ZipIter
import KE.KTurns
import KE.IntBitsLaws
import PyProof.ListMulRoad
import PyProof.FactsAll.tuple_2
import PyProof.FactsAll.tuple_1
import PyProof.DictCompW
import OpenK.KOwn
import KE.KTryMore
import KE.KIsAll
import PyProof.RulesDel
import PyProof.RulesAs
import PyProof.ExcArgsOwn
import KE.KNest
import KE.KDictList
import PySem.Challenge.RW_wholesides_k33_joins_of_shapes
set_option Elab.async false
set_option linter.all false
set_option maxRecDepth 100000
namespace L2
open PySem PySem.Spec PyProof.Rows

abbrev Key := Sum Int Str
def keyIs : Key → Value → Bool
  | .inl k, v => Value.isInt k v
  | .inr x, v => Value.isStrOf x v
def keyH (w : World) : Key → Int
  | .inl k => hashInt k
  | .inr x => hashStr w x
theorem keyIs_shape : ∀ {k : Key} {v : Value}, keyIs k v = true → (∃ i t, k = Sum.inl i ∧ v = Value.int i t) ∨ (∃ x t, k = Sum.inr x ∧ v = Value.str x t)
  | .inl i, v, h => by
    obtain ⟨t, e⟩ := Value.isInt_shape (k := i) (v := v) h
    exact .inl ⟨i, t, rfl, e⟩
  | .inr x, v, h => by
    obtain ⟨t, e⟩ := Value.isStrOf_shape (x := x) (v := v) h
    exact .inr ⟨x, t, rfl, e⟩
theorem key_ll (a b : Int) : decide ((Sum.inl a : Key) = Sum.inl b) = (a == b) := by
  by_cases e : a = b
  · subst e; simp
  · have h : ¬ (Sum.inl a : Key) = Sum.inl b := fun q => e (Sum.inl.inj q)
    rw [decide_eq_false h]
    exact (beq_eq_false_iff_ne.mpr e).symm
theorem key_rr (a b : Str) : decide ((Sum.inr a : Key) = Sum.inr b) = decide (a = b) := by
  by_cases e : a = b
  · subst e; simp
  · have h : ¬ (Sum.inr a : Key) = Sum.inr b := fun q => e (Sum.inr.inj q)
    rw [decide_eq_false h, decide_eq_false e]
theorem key_lr (a : Int) (b : Str) : decide ((Sum.inl a : Key) = Sum.inr b) = false := decide_eq_false (fun q => nomatch q)
theorem key_rl (a : Str) (b : Int) : decide ((Sum.inr a : Key) = Sum.inl b) = false := decide_eq_false (fun q => nomatch q)

def mixKind (prog : Program) (w : World) : PySem.KeyKind prog w Key where
  is := keyIs
  hash := keyH w
  inj := fun v a b ha hb => by
    rcases keyIs_shape ha with ⟨i, t, rfl, rfl⟩ | ⟨x, t, rfl, rfl⟩
    · rcases keyIs_shape hb with ⟨j, u, rfl, e⟩ | ⟨y, u, rfl, e⟩
      · injection e with e1 _; rw [e1]
      · exact nomatch e
    · rcases keyIs_shape hb with ⟨j, u, rfl, e⟩ | ⟨y, u, rfl, e⟩
      · exact nomatch e
      · injection e with e1 _; rw [e1]
  byValue := fun k v h => by
    rcases keyIs_shape h with ⟨i, t, rfl, rfl⟩ | ⟨x, t, rfl, rfl⟩ <;> rfl
  pyHash := fun hv h => by
    rcases keyIs_shape hv with ⟨i, t, rfl, rfl⟩ | ⟨x, t, rfl, rfl⟩
    · exact wpAny_pyHash_int h
    · exact wpAny_pyHash_str h
  eqBool := fun hu hv h => by
    rcases keyIs_shape hu with ⟨i, t, rfl, rfl⟩ | ⟨x, t, rfl, rfl⟩
    · rcases keyIs_shape hv with ⟨j, u, rfl, rfl⟩ | ⟨y, u, rfl, rfl⟩
      · rw [key_ll] at h; exact wpAny_eqBool_int h
      · rw [key_lr] at h; exact SeqAt.EqAt.int_str i t y u _ _ _ _ h
    · rcases keyIs_shape hv with ⟨j, u, rfl, rfl⟩ | ⟨y, u, rfl, rfl⟩
      · rw [key_rl] at h; exact SeqAt.EqAt.str_int x t j u _ _ _ _ h
      · rw [key_rr] at h; exact wpAny_eqBool_str h
  «strs» := fun k x t v h => by
    rcases keyIs_shape h with ⟨i, u, rfl, e⟩ | ⟨y, u, rfl, e⟩
    · exact nomatch e
    · injection e with e1 _
      subst e1
      cases v <;> rfl

end L2

namespace L2
open PySem PySem.Spec PyProof.Rows

inductive V where
  | non | bl (b : Bool) | int (i : Int) | str (x : Str) | byt (b : Array UInt8) | flt (b : UInt64) | ref (a : Addr) | ty (n : String)
  deriving DecidableEq

def RelV : V → Value → Prop
  | .non, u => u = Value.none
  | .bl b, u => u = Value.bool b
  | .int i, u => ∃ t, u = Value.int i t
  | .str x, u => ∃ t, u = Value.str x t
  | .byt b, u => ∃ t, u = Value.bytes b t
  | .flt b, u => ∃ t, u = Value.float b t
  | .ref a, u => u = Value.ref a
  | .ty n, u => u = Value.type n

abbrev Vals : List V → List Value → Prop := Paired RelV
theorem Vals.length {xs : List V} {us : List Value} (r : Vals xs us) : xs.length = us.length := Paired.length r
theorem Vals.get : ∀ {xs : List V} {us : List Value} {i : Nat} {x : V}, Vals xs us → xs[i]? = some x → ∃ u, us[i]? = some u ∧ RelV x u
  | _, _, _, _, .nil, e => by simp at e
  | _, _, 0, _, .cons r _, e => by simp at e; subst e; exact ⟨_, rfl, r⟩
  | _, _, i + 1, x, .cons _ t, e => by
    obtain ⟨u, h1, h2⟩ := Vals.get (i := i) (x := x) t (by simpa using e)
    exact ⟨u, by simpa using h1, h2⟩
theorem Vals.set {x : V} {u : Value} (r : RelV x u) : ∀ {xs : List V} {us : List Value} (i : Nat), Vals xs us → Vals (xs.set i x) (us.set i u)
  | _, _, _, .nil => .nil
  | _, _, 0, .cons _ t => .cons r t
  | _, _, i + 1, .cons q t => .cons q (Vals.set r i t)
theorem Vals.append : ∀ {xs ys : List V} {us ws : List Value}, Vals xs us → Vals ys ws → Vals (xs ++ ys) (us ++ ws)
  | _, _, _, _, .nil, s => s
  | _, _, _, _, .cons r t, s => .cons r (Vals.append t s)
theorem Vals.take : ∀ {xs : List V} {us : List Value} (n : Nat), Vals xs us → Vals (xs.take n) (us.take n)
  | _, _, 0, _ => .nil
  | _, _, _ + 1, .nil => .nil
  | _, _, n + 1, .cons r t => .cons r (Vals.take n t)
theorem Vals.drop : ∀ {xs : List V} {us : List Value} (n : Nat), Vals xs us → Vals (xs.drop n) (us.drop n)
  | _, _, 0, r => r
  | _, _, _ + 1, .nil => .nil
  | _, _, n + 1, .cons _ t => Vals.drop n t
def RelO : Option V → Option Value → Prop
  | some v, some u => RelV v u
  | none, none => True
  | _, _ => False
def KV {κ : Type} : List (κ × V) → List (κ × Value) → Prop := Paired fun (p : κ × V) (q : κ × Value) => p.1 = q.1 ∧ RelV p.2 q.2

def kV : Key → V
  | .inl i => .int i
  | .inr x => .str x

inductive HO where
  /-- a list -/
  | lst (xs : List V)
  /-- a tuple (never changes) -/
  | tup (xs : List V)
  /-- a dict whose keys are ints and texts; one whose keys are tuples of ints and texts (the empty one is both) -/
  | dK (kvs : List (Key × V)) | dT (kvs : List (List Key × V))
  /-- a set of ints: its members, its size -/
  | set (S : Int → Bool) (n : Nat)
  /-- an instance of the class at C, its dict at dx, its attributes -/
  | ins (C dx : Addr) (fs : List (Str × V))
  /-- the dict of the instance at x -/
  | own (x : Addr)
  /-- the dict of an exception -/
  | xd (fs : List (Str × V))
  /-- a bound method, f of x -/
  | met (f x : Addr)
  /-- a range object lo, lo + 1, .. below hi -/
  | rng (lo hi : Int)
  /-- a thing that is known to the object (the script; a dict while a loop walks it): read, never written while it is so -/
  | frz (o : Obj) (u : HO)
  /-- a code object's table -/
  | tbl (ps : Array Value)
  /-- any other thing, by what is true of its one object (a def of one's own: SetO a S n := HO.ext fun h => ..) -/
  | ext (φ : Heap → Prop)
  /-- a code object, as it is (never changes) -/
  | cod (o : Obj)
  /-- a code object's table whose code objects are of lambdas by this name -/
  | lam (q : Str)
def Fix : HO → Prop
  | .tup _ => True
  | .cod _ => True
  | _ => False

abbrev Hp := Addr → Option HO
def upd (H : Hp) (a : Addr) (o : HO) : Hp := fun b => if b = a then some o else H b
theorem upd_same {H : Hp} {a : Addr} {o : HO} : upd H a o a = some o := by unfold upd; rw [if_pos rfl]
theorem upd_ne {H : Hp} {a b : Addr} {o : HO} (h : b ≠ a) : upd H a o b = H b := by unfold upd; rw [if_neg h]
theorem ne_of {H : Hp} {a b : Addr} {o u : HO} (h : H a = some o) (h' : H b = some u) (d : o ≠ u) : a ≠ b := by
  intro e; subst e; rw [h] at h'; exact d (Option.some.inj h')
theorem ne_of_none {H : Hp} {a b : Addr} {o : HO} (h : H a = some o) (h' : H b = none) : a ≠ b := by
  intro e; subst e; rw [h] at h'; cases h'

section
variable (P : Program) (w : World)
def ObjOk (H : Hp) (h : Heap) (a : Addr) : HO → Prop
  | .lst xs => xs.length ≤ sizeLine ∧ ∃ (its : List Value) (n : Nat), Vals xs its ∧ h.get? a = some { cls := .type "list", data := .seq its.toArray n }
  | .tup xs => xs.length ≤ sizeLine ∧ ∃ its : List Value, Vals xs its ∧ IsTup h a its.toArray
  | .dK kvs => kvs.length ≤ sizeLine ∧ (a == sysModules) = false ∧ ∃ vs, KV kvs vs ∧ h.DictOf (mixKind P w) a vs
  | .dT kvs => kvs.length ≤ sizeLine ∧ (a == sysModules) = false ∧ ∃ xs : List (List Key × Addr × Value),
      Paired (fun (p : List Key × V) (q : List Key × Addr × Value) => p.1 = q.1 ∧ H q.2.1 = some (.tup (p.1.map kV)) ∧ RelV p.2 q.2.2) kvs xs ∧
      ∃ o es ep, h.get? a = some o ∧ o.ExactDict ∧ o.data = .dict es ep ∧ es.toList = xs.map (entryOfKey (tupleKind (mixKind P w))) ∧ (xs.map (·.1)).Nodup
  | .set S n => h.SetOf (intKind P w) a S n
  | .ins C dx fs => H dx = some (.own a) ∧ fs.length ≤ 1000 ∧ dx ≠ a ∧ h.get? a = some (PySem.W.instObj C dx) ∧
      ∃ mA, h.Ns1 dx mA ∧ (∀ f, RelO (fs.lookup f) (mA f)) ∧ PySem.Within mA (fs.map (·.1))
  | .own _ => ∃ o, h.get? a = some o
  | .xd fs => ∃ mA, h.Ns1 a mA ∧ ∀ f, RelO (fs.lookup f) (mA f)
  | .rng lo hi => ∃ t u v, h.get? a = some { cls := .type "range", data := .fields #[.int lo t, .int hi u, .int 1 v] }
  | .frz o u => h.get? a = some o ∧ ObjOk H h a u
  | .tbl ps => h.get? a = some { cls := .none, data := .fields ps }
  | .met f x => h.get? a = some (PySem.W.methodObj (.ref f) (.ref x))
  | .ext φ => φ h ∧ (∃ o, h.get? a = some o) ∧ ∀ h1 h2 : Heap, φ h1 → (∀ o, h1.get? a = some o → h2.get? a = some o) → φ h2
  | .cod o => h.get? a = some o
  | .lam q => ∃ more : Array Value, h.get? a = some { cls := .none, data := .fields more } ∧ TriplesOk more.toList ∧ ∀ (pos : Pos) (cv : Value), codeAmong pos more.toList = some cv →
      ∃ (c : Addr) (o : Obj) (vs : Array Value) (t : Tok), cv = .ref c ∧ H c = some (.cod o) ∧ o.data = .fields vs ∧ vs[1]? = some (.str q t)
def HOk (H : Hp) (h : Heap) : Prop := ∀ a o, H a = some o → ObjOk P w H h a o
end

section
variable {P : Program} {w : World} {H H' : Hp} {h h' : Heap} {a : Addr} {o : HO}
theorem ObjOk.lt (x : ObjOk P w H h a o) : a < h.objs.size := by
  cases o with
  | lst xs => obtain ⟨_, _, _, _, e⟩ := x; exact Heap.lt_size e
  | tup xs => obtain ⟨_, _, _, p⟩ := x; exact p.lt
  | dK kvs => obtain ⟨_, _, _, _, o, _, _, e, _⟩ := x; exact Heap.lt_size e
  | dT kvs => obtain ⟨_, _, _, _, o, _, _, e, _⟩ := x; exact Heap.lt_size e
  | set S n => obtain ⟨o, _, _, _, e, _⟩ := x; exact Heap.lt_size e
  | ins C dx fs => obtain ⟨_, _, _, e, _⟩ := x; exact Heap.lt_size e
  | own y => obtain ⟨_, e⟩ := x; exact Heap.lt_size e
  | xd fs => obtain ⟨_, ⟨_, _, _, e, _⟩, _⟩ := x; exact Heap.lt_size e
  | rng lo hi => obtain ⟨_, _, _, e⟩ := x; exact Heap.lt_size e
  | frz ob u => obtain ⟨e, _⟩ := x; exact Heap.lt_size e
  | tbl ps => exact Heap.lt_size (show h.get? a = some _ from x)
  | met f y => exact Heap.lt_size (show h.get? a = some _ from x)
  | ext φ => obtain ⟨_, ⟨_, e⟩, _⟩ := x; exact Heap.lt_size e
  | cod ob => exact Heap.lt_size (show h.get? a = some _ from x)
  | lam q => obtain ⟨_, e, _⟩ := x; exact Heap.lt_size e
theorem Paired.mapP {α β : Type} {F G : α → β → Prop} : ∀ {l₁ : List α} {l₂ : List β}, Paired F l₁ l₂ → (∀ a b, F a b → G a b) → Paired G l₁ l₂
  | _, _, .nil, _ => .nil
  | _, _, .cons r t, f => .cons (f _ _ r) (Paired.mapP t f)
theorem ObjOk.stay (x : ObjOk P w H h a o) (k : ∀ b u, (b = a ∨ H b = some (.own a)) → h.get? b = some u → h'.get? b = some u)
    (ho : ∀ b, H b = some (.own a) → H' b = some (.own a)) (ht : ∀ b u, Fix u → H b = some u → H' b = some u) : ObjOk P w H' h' a o := by
  induction o with
  | lst xs => obtain ⟨z, its, n, r, e⟩ := x; exact ⟨z, its, n, r, k _ _ (.inl rfl) e⟩
  | tup xs => obtain ⟨z, its, r, ob, e, c⟩ := x; exact ⟨z, its, r, ob, k _ _ (.inl rfl) e, c⟩
  | dK kvs => obtain ⟨z, y, vs, r, ob, es, ep, e, c⟩ := x; exact ⟨z, y, vs, r, ob, es, ep, k _ _ (.inl rfl) e, c⟩
  | dT kvs =>
    obtain ⟨z, y, xs, r, ob, es, ep, e, c⟩ := x
    exact ⟨z, y, xs, Paired.mapP r fun p q z => ⟨z.1, ht _ _ trivial z.2.1, z.2.2⟩, ob, es, ep, k _ _ (.inl rfl) e, c⟩
  | set S n => obtain ⟨ob, es, ep, t, e, c⟩ := x; exact ⟨ob, es, ep, t, k _ _ (.inl rfl) e, c⟩
  | ins C dx fs =>
    obtain ⟨d, z, ne, e, mA, ⟨od, es, ep, e2, c⟩, r⟩ := x
    exact ⟨ho _ d, z, ne, k _ _ (.inl rfl) e, mA, ⟨od, es, ep, k _ _ (.inr d) e2, c⟩, r⟩
  | own y => obtain ⟨ob, e⟩ := x; exact ⟨ob, k _ _ (.inl rfl) e⟩
  | xd fs => obtain ⟨mA, ⟨od, es, ep, e, c⟩, r⟩ := x; exact ⟨mA, ⟨od, es, ep, k _ _ (.inl rfl) e, c⟩, r⟩
  | rng lo hi => obtain ⟨t, u, v, e⟩ := x; exact ⟨t, u, v, k _ _ (.inl rfl) e⟩
  | frz ob u ih => obtain ⟨e, q⟩ := x; exact ⟨k _ _ (.inl rfl) e, ih q⟩
  | tbl ps =>
    have e : h.get? a = some { cls := .none, data := .fields ps } := x
    show h'.get? a = some { cls := .none, data := .fields ps }
    exact k a _ (.inl rfl) e
  | met f y =>
    have e : h.get? a = some (PySem.W.methodObj (.ref f) (.ref y)) := x
    show h'.get? a = some (PySem.W.methodObj (.ref f) (.ref y))
    exact k a _ (.inl rfl) e
  | ext φ => obtain ⟨p, ⟨o, e⟩, st⟩ := x; exact ⟨st _ _ p fun o q => k _ _ (.inl rfl) q, ⟨o, k _ _ (.inl rfl) e⟩, st⟩
  | cod ob =>
    have e : h.get? a = some ob := x
    show h'.get? a = some ob
    exact k a _ (.inl rfl) e
  | lam q =>
    obtain ⟨more, e, tr, z⟩ := x
    exact ⟨more, k _ _ (.inl rfl) e, tr, fun pos cv hc => let ⟨c, o, vs, t, e1, e2, r⟩ := z pos cv hc; ⟨c, o, vs, t, e1, ht c _ trivial e2, r⟩⟩
theorem HOk.lt (x : HOk P w H h) (e : H a = some o) : a < h.objs.size := (x a o e).lt
theorem HOk.fresh (x : HOk P w H h) (e : h.objs.size ≤ a) : H a = none := by
  cases q : H a with
  | none => rfl
  | some u => exact absurd (Nat.lt_of_lt_of_le (x.lt q) e) (Nat.lt_irrefl _)
theorem HOk.kept (x : HOk P w H h) (k : ∀ b u, h.get? b = some u → h'.get? b = some u) : HOk P w H h' := fun a o e =>
  (x a o e).stay (fun b u _ q => k b u q) (fun _ q => q) fun _ _ _ q => q
theorem HOk.laid (x : HOk P w H h) (k : ∀ b u, h.get? b = some u → h'.get? b = some u) (hp : h.objs.size ≤ a) (new : ObjOk P w (upd H a o) h' a o) : HOk P w (upd H a o) h' := fun b u e => by
  have hn := x.fresh hp
  by_cases hb : b = a
  · subst hb; rw [upd_same] at e; cases e; exact new
  · rw [upd_ne hb] at e
    exact (x b u e).stay (fun c v _ q => k c v q) (fun c q => by rw [upd_ne (ne_of_none q hn)]; exact q) fun c xs _ q => by rw [upd_ne (ne_of_none q hn)]; exact q
end

def Rd (H : Hp) (a : Addr) (u : HO) : Prop := H a = some u ∨ ∃ o, H a = some (.frz o u)
theorem Rd.of {H : Hp} {a : Addr} {u : HO} (h : H a = some u) : Rd H a u := .inl h
theorem Rd.ok {P : Program} {w : World} {H : Hp} {h : Heap} {a : Addr} {u : HO} (r : Rd H a u) (x : HOk P w H h) : ObjOk P w H h a u := by
  rcases r with r | ⟨o, r⟩
  · exact x a u r
  · obtain ⟨_, q⟩ := x a _ r
    exact q
def Mut : Option HO → Prop
  | some (.lst _) => True
  | some (.dK _) => True
  | some (.dT _) => True
  | some (.set _ _) => True
  | some (.ins _ _ _) => True
  | some (.ext _) => True
  | some (.lam _) => True
  | _ => False
section
variable {P : Program} {w : World} {H : Hp} {h h' : Heap} {x e : Addr} {o' : HO}
theorem HOk.write (ok : HOk P w H h) (mu : Mut (H x)) (he : e = x ∨ H e = some (.own x)) (k : ∀ b u, b ≠ e → h.get? b = some u → h'.get? b = some u) (heo : ∃ u, h'.get? e = some u)
    (new : ObjOk P w (upd H x o') h' x o') : HOk P w (upd H x o') h' := fun b u q => by
  have nown : ∀ c y, H c = some (.own y) → c ≠ x := fun c y r z => by subst z; rw [r] at mu; exact mu
  have ntup : ∀ c u, Fix u → H c = some u → c ≠ x := fun c u f r z => by subst z; rw [r] at mu; cases u <;> first | exact f | exact mu
  by_cases hb : b = x
  · subst hb; rw [upd_same] at q; cases q; exact new
  · rw [upd_ne hb] at q
    by_cases hbe : b = e
    · have q' : H b = some (.own x) := by
        rcases he with z | z
        · exact absurd (hbe.trans z) hb
        · rw [hbe]; exact z
      rw [q] at q'; cases q'
      obtain ⟨v, hv⟩ := heo
      exact ⟨v, by rw [hbe]; exact hv⟩
    · refine (ok b u q).stay (fun c v hc r => k c v ?_ r) (fun c r => by rw [upd_ne (nown c b r)]; exact r) fun c xs f r => by rw [upd_ne (ntup c xs f r)]; exact r
      rcases hc with rfl | hc
      · exact hbe
      · rintro rfl
        rcases he with z | z
        · exact nown c b hc z
        · rw [hc] at z; cases z; exact hb rfl
end

structure Un (fs ex : List Addr) (H H' : Hp) (h h' : Heap) : Prop where
  keep : ∀ b o, h.get? b = some o → H b = none → b ∉ fs → b ∉ ex → h'.get? b = some o
  slot : ∀ b o, h.get? b = some o → H b = none → b ∈ fs → b ∉ ex → ∃ sl, h'.get? b = some { o with slots := sl }
  free : ∀ b o, h.get? b = some o → H b = none → b ∉ ex → H' b = none
  there : ∀ b o, h.get? b = some o → b ∉ ex → ∃ o', h'.get? b = some o'
  tups : ∀ b xs, H b = some (.tup xs) → H' b = some (.tup xs)
  frzs : ∀ b o u, H b = some (.frz o u) → H' b = some (.frz o u)
  tbls : ∀ b ps, H b = some (.tbl ps) → ∃ more, H' b = some (.tbl (ps ++ more))
section
variable {fs fs' ex ex' : List Addr} {H H1 H2 : Hp} {h h1 h2 h' : Heap} {a x e : Addr} {o : HO}
theorem Un.any (u : Un fs ex H H1 h h1) {b : Addr} {ob : Obj} (q : h.get? b = some ob) (n : H b = none) (hx : b ∉ ex) : ∃ sl, h1.get? b = some { ob with slots := sl } := by
  by_cases hb : b ∈ fs
  · exact u.slot b ob q n hb hx
  · exact ⟨ob.slots, u.keep b ob q n hb hx⟩
theorem Un.trans (a : Un fs ex H H1 h h1) (b : Un fs ex H1 H2 h1 h2) : Un fs ex H H2 h h2 where
  keep := fun c ob q n hc hx => b.keep c ob (a.keep c ob q n hc hx) (a.free c ob q n hx) hc hx
  slot := fun c ob q n hc hx => by
    obtain ⟨sl, e1⟩ := a.slot c ob q n hc hx
    obtain ⟨sl', e2⟩ := b.slot c _ e1 (a.free c ob q n hx) hc hx
    exact ⟨sl', e2⟩
  free := fun c ob q n hx => by
    obtain ⟨o', e1⟩ := a.there c ob q hx
    exact b.free c o' e1 (a.free c ob q n hx) hx
  there := fun c ob q hx => by
    obtain ⟨o', e1⟩ := a.there c ob q hx
    exact b.there c o' e1 hx
  tups := fun c xs q => b.tups c xs (a.tups c xs q)
  frzs := fun c ob xs q => b.frzs c ob xs (a.frzs c ob xs q)
  tbls := fun c ps q => by
    obtain ⟨m1, e1⟩ := a.tbls c ps q
    obtain ⟨m2, e2⟩ := b.tbls c _ e1
    exact ⟨m1 ++ m2, by rw [e2, Array.append_assoc]⟩
theorem Un.kept (k : ∀ b u, h.get? b = some u → h'.get? b = some u) : Un fs ex H H h h' :=
  ⟨fun b ob q _ _ _ => k b ob q, fun b ob q _ _ _ => ⟨ob.slots, k b ob q⟩, fun _ _ _ n _ => n, fun b ob q _ => ⟨ob, k b ob q⟩, fun _ _ q => q, fun _ _ _ q => q, fun _ ps q => ⟨#[], by rw [q]; simp⟩⟩
theorem Un.refl : Un fs ex H H h h := Un.kept fun _ _ q => q
theorem Un.laid (k : ∀ b u, h.get? b = some u → h'.get? b = some u) (hp : h.objs.size ≤ a) (hn : H a = none) : Un fs ex H (upd H a o) h h' where
  keep := fun b u q _ _ _ => k b u q
  slot := fun b u q _ _ _ => ⟨u.slots, k b u q⟩
  free := fun b u q n _ => by rw [upd_ne (Nat.ne_of_lt (Nat.lt_of_lt_of_le (Heap.lt_size q) hp))]; exact n
  there := fun b u q _ => ⟨u, k b u q⟩
  tups := fun b xs q => by rw [upd_ne (ne_of_none q hn)]; exact q
  frzs := fun b u xs q => by rw [upd_ne (ne_of_none q hn)]; exact q
  tbls := fun b ps q => ⟨#[], by rw [upd_ne (ne_of_none q hn), q]; simp⟩
theorem Un.write (mu : Mut (H x)) (he : e = x ∨ H e = some (.own x)) (k : ∀ b u, b ≠ e → h.get? b = some u → h'.get? b = some u) (heo : ∃ u, h'.get? e = some u) : Un fs ex H (upd H x o) h h' := by
  have hx : ∀ b, H b = none → b ≠ x := fun b n z => by subst z; rw [n] at mu; exact mu
  have hb : ∀ b, H b = none → b ≠ e := fun b n z => by
    subst z
    rcases he with r | r
    · exact hx b n r
    · rw [n] at r; cases r
  have hm : ∀ b u, H b = some u → ¬ Mut (some u) → b ≠ x := fun b u q nm z => by subst z; rw [q] at mu; exact nm mu
  refine ⟨fun b u q n _ _ => k b u (hb b n) q, fun b u q n _ _ => ⟨u.slots, k b u (hb b n) q⟩, fun b u q n _ => by rw [upd_ne (hx b n)]; exact n, fun b u q _ => ?_,
    fun b xs q => by rw [upd_ne (hm b _ q fun z => z)]; exact q, fun b u xs q => by rw [upd_ne (hm b _ q fun z => z)]; exact q, fun b ps q => ⟨#[], by rw [upd_ne (hm b _ q fun z => z), q]; simp⟩⟩
  by_cases hbe : b = e
  · subst hbe; exact heo
  · exact ⟨u, k b u hbe q⟩
theorem Un.mono (u : Un fs ex H H1 h h1) (hs : ∀ b ∈ fs, b ∈ fs') (hx : ∀ b ∈ ex, b ∈ ex') : Un fs' ex' H H1 h h1 :=
  ⟨fun b ob q n hb he => u.keep b ob q n (fun z => hb (hs b z)) fun z => he (hx b z), fun _ _ q n _ he => u.any q n fun z => he (hx _ z), fun b ob q n he => u.free b ob q n fun z => he (hx b z), fun b ob q he => u.there b ob q fun z => he (hx b z), u.tups, u.frzs, u.tbls⟩
end

def trk (h : Heap) (H : Hp) : List Addr := (List.range h.objs.size).filter fun a => (H a).isSome
def hidT (h : Heap) (H : Hp) : Heap := PySem.W.hideAll h (trk h H)
theorem hidT_size (h : Heap) (H : Hp) : (hidT h H).objs.size = h.objs.size := PySem.W.hideAll_size _ _
theorem hidT_get {h : Heap} {H : Hp} {b : Addr} {o : Obj} (e : h.get? b = some o) (n : H b = none) : (hidT h H).get? b = some o :=
  PySem.W.hideAll_get _ e fun hm => by
    have q : (H b).isSome = true := (List.mem_filter.mp hm).2
    rw [n] at q; simp at q
theorem of_hidT {h : Heap} {H : Hp} {b : Addr} {o : Obj} (e : (hidT h H).get? b = some o) : h.get? b = some o ∧ H b = none := by
  have e' : h.get? b = some o := PySem.W.of_hideAll (trk h H) e
  refine ⟨e', ?_⟩
  cases q : H b with
  | none => rfl
  | some x =>
    have hm : b ∈ trk h H := List.mem_filter.mpr ⟨List.mem_range.mpr (Heap.lt_size e'), by simp [q]⟩
    have z : (hidT h H).get? b = none := PySem.W.hideAll_none (trk h H) hm
    rw [z] at e; cases e

def allNews (g h : Heap) (L : Addr) : List (Addr × Obj) := (List.range h.objs.size).filterMap fun a => if a = L ∨ (g.get? a).isSome = true then none else (h.get? a).map fun o => (a, o)
def rest (g h : Heap) (L d : Addr) : List (Addr × Obj) := (allNews g h L).filter fun p => decide (p.1 ≠ d)
end L2

namespace L2
open PySem PySem.Spec PyProof.Rows

structure Mod (K : PySem.W.Frag) (mg : Str → Option Value) (base : Heap) : Prop where
  kin : K.In base
  glob : base.Ns mainGlobals mg
  blt : ∃ mb, base.Ns builtinsNs mb ∧ ∀ x : Str, x ≠ "__name__" → mb x = bootBuiltins x
  nolimit : base.NoLimit

structure Cx where
  prog : Program
  w : World
  K : PySem.W.Frag
  mg : Str → Option Value
  base : Heap
  A : Around
  N : List Str
  s_0 : Shared
  H_0 : Hp
  env : Env
  outer : List Env
  stack : List Env
  ex : List Addr
  fn : Str → Bool
  calm : Bool
  pn : List (Addr × Obj)
  xe : Value → Shared → Prop
def frs (l : List Env) : List Addr := l.filterMap (·.frame)
abbrev Cx.fs (X : Cx) : List Addr := frs X.outer

def Vis (sc : Scope) (x : Str) : Prop := sc.names.lookup x = some .local ∨ sc.names.lookup x = some .cell ∨ sc.names.lookup x = some .free
def Loc (sc : Scope) (x : Str) : Prop := sc.names.lookup x = some .local ∨ sc.names.lookup x = some .cell
def Look (env : Env) (h : Heap) (m : Str → Option Value) (x : Str) (u : Value) : Prop :=
  (env.kindOf x = some .local ∧ m x = some u) ∨ ((env.kindOf x = some .cell ∨ env.kindOf x = some .free) ∧ ∃ c, env.cells.lookup x = some c ∧ h.IsCell c (some u))

structure Cx.Ok (X : Cx) : Prop where
  mod : Mod X.K X.mg X.base
  kind : X.env.scope.kind = .function
  glob : X.env.globals = mainGlobals
  blt : X.env.builtins = builtinsNs
  above : X.s_0.heap.objs.size ≤ X.env.locals
  inj : ∀ x y c, X.env.cells.lookup x = some c → X.env.cells.lookup y = some c → x = y
  has : ∀ x, (X.env.kindOf x = some .cell ∨ X.env.kindOf x = some .free) → ∃ c, X.env.cells.lookup x = some c
  cab : ∀ x c, X.fn x = true → X.env.cells.lookup x = some c → X.s_0.heap.objs.size ≤ c
  hd : X.calm = true → X.A.handled = none
  frames : X.A.frames = some X.stack
  stk : X.stack = X.outer ∨ (X.stack = X.env :: X.outer ∧ X.env.frame = some X.env.locals)
  exf : ∀ b ∈ X.ex, b ≠ X.env.locals ∧ ∀ x c, X.env.cells.lookup x = some c → c ≠ b
  bs : ∀ b o, X.base.get? b = some o → X.s_0.heap.get? b = some o ∧ X.H_0 b = none
  bsz : X.base.objs.size ≤ X.s_0.heap.objs.size
  noex : ∀ b o, X.base.get? b = some o → b ∉ X.ex
  exfs : ∀ b ∈ X.ex, b ∉ X.fs
  funs : X.s_0.heap.FunFrames X.base X.outer
  frf : ∀ b ∈ X.fs, X.H_0 b = none

structure Inv (X : Cx) (pins : List (Addr × Obj)) (σ : List (Option V)) (H : Hp) (s : Shared) : Prop where
  ok : X.Ok
  os : s.os = X.s_0.os
  bare : AllBare s.gens
  base : Un X.fs X.ex X.H_0 H X.s_0.heap s.heap
  loc : ∃ m, s.heap.Ns X.env.locals m ∧ ∀ (i : Nat) (x : Str) (v : V), X.N[i]? = some x → σ[i]? = some (some v) → Vis X.env.scope x → ∃ u, RelV v u ∧ Look X.env s.heap m x u
  cell : ∀ x c, X.env.cells.lookup x = some c → ∃ v, s.heap.IsCell c v
  free : H X.env.locals = none
  freeC : ∀ x c, X.env.cells.lookup x = some c → H c = none
  pin : ∀ p ∈ X.pn ++ pins, s.heap.get? p.1 = some p.2 ∧ H p.1 = none ∧ p.1 ≠ X.env.locals ∧ p.1 ∉ X.fs ∧ ∀ v, p.2.data ≠ .cell v
  hok : HOk X.prog X.w H s.heap
  len : σ.length = X.N.length

section
variable {X : Cx} {pins : List (Addr × Obj)} {σ : List (Option V)} {H H' : Hp} {s : Shared} {h' : Heap}

theorem Cx.Ok.nofr (ok : X.Ok) {b : Addr} {o : Obj} (e : X.base.get? b = some o) : b ∉ X.fs := fun hb => by
  have := (ok.funs.mem hb).1
  rw [e] at this; cases this
theorem Inv.bs (I : Inv X pins σ H s) : ∀ b o, X.base.get? b = some o → s.heap.get? b = some o ∧ H b = none := fun b o e =>
  ⟨I.base.keep b o (I.ok.bs b o e).1 (I.ok.bs b o e).2 (I.ok.nofr e) (I.ok.noex b o e), I.base.free b o (I.ok.bs b o e).1 (I.ok.bs b o e).2 (I.ok.noex b o e)⟩
theorem Inv.bk (I : Inv X pins σ H s) : ∀ b o, X.base.get? b = some o → s.heap.get? b = some o := fun b o e => (I.bs b o e).1
theorem Inv.mod (I : Inv X pins σ H s) : Mod X.K X.mg X.base := I.ok.mod
theorem Inv.kIn (I : Inv X pins σ H s) : X.K.In s.heap := I.ok.mod.kin.keeps I.bk
theorem Inv.nolimit (I : Inv X pins σ H s) : s.heap.NoLimit := I.ok.mod.nolimit.keeps I.bk
theorem Inv.fr (I : Inv X pins σ H s) : ∃ m, Fr X.base X.env.locals s.heap m :=
  let ⟨m, hn, _⟩ := I.loc
  ⟨m, hn, I.bk, Nat.le_trans I.ok.bsz I.ok.above⟩
theorem Inv.lt (I : Inv X pins σ H s) : X.env.locals < s.heap.objs.size := let ⟨_, hn, _⟩ := I.loc; hn.lt
theorem Inv.sz (I : Inv X pins σ H s) : X.s_0.heap.objs.size ≤ s.heap.objs.size := Nat.le_trans I.ok.above (Nat.le_of_lt I.lt)
theorem Inv.nofs (I : Inv X pins σ H s) {a : Addr} (h : s.heap.objs.size ≤ a) : a ∉ X.fs := fun hb => by
  obtain ⟨_, o, ho, _⟩ := I.ok.funs.mem hb
  exact absurd (Nat.lt_of_lt_of_le (Heap.lt_size ho) (Nat.le_trans I.sz h)) (Nat.lt_irrefl _)
theorem Inv.cne (I : Inv X pins σ H s) : ∀ x c, X.env.cells.lookup x = some c → c ≠ X.env.locals := fun x c e z => by
  obtain ⟨v, o, ho, hd⟩ := I.cell x c e
  obtain ⟨m, ⟨o', es, ep, ho', hd', _⟩, _⟩ := I.loc
  rw [z, ho'] at ho; cases ho; rw [hd'] at hd; cases hd
theorem Inv.funs (I : Inv X pins σ H s) : s.heap.FunFrames X.base X.outer := by
  have all : ∀ (l : List Env), (∀ b ∈ frs l, b ∈ X.fs) → X.s_0.heap.FunFrames X.base l → s.heap.FunFrames X.base l := by
    intro l
    induction l with
    | nil => intro _ _; trivial
    | cons env r ih =>
      intro hs hl
      obtain ⟨hk, ⟨L, o, hf, hn, ho, hd⟩, hr⟩ := hl
      have hL : L ∈ X.fs := hs L (by unfold frs; rw [List.filterMap_cons, hf]; exact List.mem_cons_self)
      obtain ⟨sl, e⟩ := I.base.slot L o ho (I.ok.frf L hL) hL fun z => I.ok.exfs L z hL
      exact ⟨hk, ⟨L, _, hf, hn, e, hd⟩, ih (fun b hb => hs b (by unfold frs; rw [List.filterMap_cons, hf]; exact List.mem_cons_of_mem _ hb)) hr⟩
  exact all X.outer (fun _ hb => hb) I.ok.funs

theorem Inv.stack (I : Inv X pins σ H s) : s.heap.FunFrames X.base X.stack := by
  rcases I.ok.stk with e | ⟨e, hf⟩
  · rw [e]; exact I.funs
  · rw [e]
    obtain ⟨m, hn, _⟩ := I.loc
    refine .cons (by rw [I.ok.kind]; decide) hf hn ?_ I.funs
    exact Heap.get?_none_of_le (Nat.le_trans I.ok.bsz I.ok.above)
theorem Inv.stkSub (I : Inv X pins σ H s) : ∀ b ∈ frs X.stack, b ∈ X.env.locals :: X.fs := fun b hb => by
  rcases I.ok.stk with e | ⟨e, hf⟩
  · rw [e] at hb; exact List.mem_cons_of_mem _ hb
  · rw [e] at hb
    unfold frs at hb
    rw [List.filterMap_cons, hf] at hb
    exact hb
theorem Inv.stkFree (I : Inv X pins σ H s) : ∀ b ∈ frs X.stack, H b = none := fun b hb => by
  rcases List.mem_cons.mp (I.stkSub b hb) with e | hb
  · rw [e]; exact I.free
  · obtain ⟨_, o, ho, _⟩ := I.ok.funs.mem hb
    exact I.base.free b o ho (I.ok.frf b hb) fun z => I.ok.exfs b z hb

theorem Inv.step {g' : Array GenState} {t' : Nat} {d' : Drawn} {ch : List Addr} (I : Inv X pins σ H s)
    (hch : ∀ b ∈ ch, (b ∈ X.ex ∨ X.s_0.heap.objs.size ≤ b) ∧ b ≠ X.env.locals ∧ (∀ x c, X.env.cells.lookup x = some c → c ≠ b) ∧ ∀ p ∈ X.pn ++ pins, p.1 ≠ b)
    (keep : ∀ b o, b ≠ X.env.locals → b ∉ X.fs → b ∉ ch → s.heap.get? b = some o → H b = none → h'.get? b = some o)
    (slot : ∀ b o, b ≠ X.env.locals → b ∈ X.fs → b ∉ ch → s.heap.get? b = some o → H b = none → ∃ sl, h'.get? b = some { o with slots := sl }) (free : ∀ b o, b ∉ ch → s.heap.get? b = some o → H b = none → H' b = none)
    (there : ∀ b o, b ∉ ch → s.heap.get? b = some o → ∃ o', h'.get? b = some o')
    (tups : ∀ b xs, H b = some (.tup xs) → H' b = some (.tup xs)) (frzs : ∀ b o u, H b = some (.frz o u) → H' b = some (.frz o u)) (tbls : ∀ b ps, H b = some (.tbl ps) → ∃ more, H' b = some (.tbl (ps ++ more)))
    (ns : ∀ m, s.heap.Ns X.env.locals m → h'.Ns X.env.locals m) (hok : HOk X.prog X.w H' h') (hg : AllBare g') :
    Inv X pins σ H' { s with heap := h', gens := g', drawn := d', toks := t' } := by
  have neL : ∀ b o, X.s_0.heap.get? b = some o → b ≠ X.env.locals := fun b o e => Nat.ne_of_lt (Nat.lt_of_lt_of_le (Heap.lt_size e) I.ok.above)
  have neC : ∀ b o, X.s_0.heap.get? b = some o → b ∉ X.ex → b ∉ ch := fun b o e hx hb => by
    rcases (hch b hb).1 with z | z
    · exact hx z
    · exact absurd (Nat.lt_of_lt_of_le (Heap.lt_size e) z) (Nat.lt_irrefl _)
  have cellK : ∀ x c, X.env.cells.lookup x = some c → ∀ v, s.heap.IsCell c v → h'.IsCell c v := fun x c e v ⟨o, ho, hd⟩ => by
    have nch : c ∉ ch := fun z => (hch c z).2.2.1 x c e rfl
    by_cases hc : c ∈ X.fs
    · obtain ⟨sl, q⟩ := slot c o (I.cne x c e) hc nch ho (I.freeC x c e)
      exact ⟨_, q, hd⟩
    · exact ⟨o, keep c o (I.cne x c e) hc nch ho (I.freeC x c e), hd⟩
  refine ⟨I.ok, I.os, hg, ⟨fun b o e n hb hx => ?_, fun b o e n hb hx => ?_, fun b o e n hx => ?_, fun b o e hx => ?_, fun b xs e => tups b xs (I.base.tups b xs e), fun b o xs e => frzs b o xs (I.base.frzs b o xs e), fun b ps e => ?_⟩, ?_, fun x c e => ?_, ?_, fun x c e => ?_, fun p hp => ?_, hok, I.len⟩
  · exact keep b o (neL b o e) hb (neC b o e hx) (I.base.keep b o e n hb hx) (I.base.free b o e n hx)
  · obtain ⟨sl, e1⟩ := I.base.slot b o e n hb hx
    obtain ⟨sl', e2⟩ := slot b _ (neL b o e) hb (neC b o e hx) e1 (I.base.free b o e n hx)
    exact ⟨sl', e2⟩
  · obtain ⟨o', e1⟩ := I.base.there b o e hx
    exact free b o' (neC b o e hx) e1 (I.base.free b o e n hx)
  · obtain ⟨o', e1⟩ := I.base.there b o e hx
    exact there b o' (neC b o e hx) e1
  · obtain ⟨m1, e1⟩ := I.base.tbls b ps e
    obtain ⟨m2, e2⟩ := tbls b _ e1
    exact ⟨m1 ++ m2, by rw [e2, Array.append_assoc]⟩
  · obtain ⟨m, hn, hl⟩ := I.loc
    refine ⟨m, ns m hn, fun i x v e1 e2 e3 => ?_⟩
    obtain ⟨u, r, l⟩ := hl i x v e1 e2 e3
    refine ⟨u, r, ?_⟩
    rcases l with l | ⟨k, c, e, z⟩
    · exact .inl l
    · exact .inr ⟨k, c, e, cellK x c e _ z⟩
  · obtain ⟨v, z⟩ := I.cell x c e
    exact ⟨v, cellK x c e v z⟩
  · obtain ⟨m, ⟨o, _, _, ho, _⟩, _⟩ := I.loc
    exact free _ o (fun z => (hch _ z).2.1 rfl) ho I.free
  · obtain ⟨v, o, ho, hd⟩ := I.cell x c e
    exact free c o (fun z => (hch c z).2.2.1 x c e rfl) ho (I.freeC x c e)
  · obtain ⟨e, n, ne, nf, d⟩ := I.pin p hp
    have nch : p.1 ∉ ch := fun z => (hch p.1 z).2.2.2 p hp rfl
    exact ⟨keep p.1 p.2 ne nf nch e n, free p.1 p.2 nch e n, ne, nf, d⟩
theorem Inv.un {t' : Nat} (I : Inv X pins σ H s) (u : Un X.fs [] H H' s.heap h') (hok : HOk X.prog X.w H' h') : Inv X pins σ H' { s with heap := h', toks := t' } := by
  obtain ⟨m, ⟨o, es, ep, ho, r⟩, _⟩ := id I.loc
  obtain ⟨sl, hL⟩ := u.any ho I.free (by simp)
  exact I.step (g' := s.gens) (d' := s.drawn) (ch := []) (fun _ z => nomatch z) (fun b o _ hb _ e n => u.keep b o e n hb (by simp)) (fun b o _ hb _ e n => u.slot b o e n hb (by simp)) (fun b o _ e n => u.free b o e n (by simp)) (fun b o _ e => u.there b o e (by simp)) u.tups u.frzs u.tbls (fun m' hm => by
    obtain ⟨o', es', ep', ho', r'⟩ := hm
    rw [ho] at ho'; cases ho'
    exact ⟨_, es', ep', hL, r'⟩) hok I.bare
theorem Inv.call {g' : Array GenState} {t' : Nat} {d' : Drawn} {ch : List Addr} (I : Inv X pins σ H s) (u : Un (frs X.stack) ch H H' s.heap h') (hok : HOk X.prog X.w H' h') (hg : AllBare g')
    (hch : ∀ b ∈ ch, (b ∈ X.ex ∨ X.s_0.heap.objs.size ≤ b) ∧ b ≠ X.env.locals ∧ (∀ x c, X.env.cells.lookup x = some c → c ≠ b) ∧ ∀ p ∈ X.pn ++ pins, p.1 ≠ b) :
    Inv X pins σ H' { s with heap := h', gens := g', drawn := d', toks := t' } := by
  obtain ⟨m, ⟨o, es, ep, ho, r⟩, _⟩ := id I.loc
  obtain ⟨sl, hL⟩ := u.any ho I.free fun z => (hch _ z).2.1 rfl
  exact I.step (ch := ch) hch (fun b o hL hb hc e n => u.keep b o e n (fun z => (List.mem_cons.mp (I.stkSub b z)).elim hL hb) hc) (fun b o _ _ hc e n => u.any e n hc) (fun b o hc e n => u.free b o e n hc) (fun b o hc e => u.there b o e hc) u.tups u.frzs u.tbls (fun m' hm => by
    obtain ⟨o', es', ep', ho', r'⟩ := hm
    rw [ho] at ho'; cases ho'
    exact ⟨_, es', ep', hL, r'⟩) hok hg
theorem Inv.turned {t' : Nat} {it : Addr} (I : Inv X pins σ H s) (k : ∀ b o, b ≠ it → s.heap.get? b = some o → h'.get? b = some o) (hn : H it = none) (hL : it ≠ X.env.locals)
    (h1 : it ∈ X.ex ∨ X.s_0.heap.objs.size ≤ it) (h2 : ∀ x c, X.env.cells.lookup x = some c → c ≠ it) (h3 : ∀ p ∈ X.pn ++ pins, p.1 ≠ it) : Inv X pins σ H { s with heap := h', toks := t' } := by
  have nit : ∀ b u, H b = some u → b ≠ it := fun b u e z => by rw [z, hn] at e; cases e
  refine I.step (g' := s.gens) (d' := s.drawn) (ch := [it]) (fun b hb => ?_) (fun b o _ _ hc e _ => k b o (fun z => hc (by simp [z])) e) (fun b o _ _ hc e _ => ⟨o.slots, k b o (fun z => hc (by simp [z])) e⟩) (fun _ _ _ _ n => n)
    (fun b o hc e => ⟨o, k b o (fun z => hc (by simp [z])) e⟩) (fun _ _ e => e) (fun _ _ _ e => e) (fun b ps e => ⟨#[], by rw [e]; simp⟩) (fun m hm => ?_) (fun b u e => ?_) I.bare
  · have e : b = it := by simpa using hb
    subst e
    exact ⟨h1, hL, h2, h3⟩
  · obtain ⟨o, es, ep, ho, r⟩ := hm
    exact ⟨o, es, ep, k _ o (Ne.symm hL) ho, r⟩
  · refine (I.hok b u e).stay (fun c v hc q => k c v ?_ q) (fun _ q => q) fun _ _ _ q => q
    rcases hc with z | z
    · rw [z]; exact nit b u e
    · exact nit c _ z
theorem Inv.tok (I : Inv X pins σ H s) (t : Nat) : Inv X pins σ H { s with toks := t } := I.un (h' := s.heap) (t' := t) Un.refl I.hok
theorem Inv.kept {t' : Nat} (I : Inv X pins σ H s) (k : ∀ b u, s.heap.get? b = some u → h'.get? b = some u) : Inv X pins σ H { s with heap := h', toks := t' } := I.un (Un.kept k) (I.hok.kept k)
theorem Inv.laid {a : Addr} {o : HO} {t' : Nat} (I : Inv X pins σ H s) (k : ∀ b u, s.heap.get? b = some u → h'.get? b = some u) (hp : s.heap.objs.size ≤ a) (new : ObjOk X.prog X.w (upd H a o) h' a o) :
    Inv X pins σ (upd H a o) { s with heap := h', toks := t' } := I.un (Un.laid k hp (I.hok.fresh hp)) (I.hok.laid k hp new)
theorem Inv.write {x e : Addr} {o : HO} {t' : Nat} (I : Inv X pins σ H s) (mu : Mut (H x)) (he : e = x ∨ H e = some (.own x)) (k : ∀ b u, b ≠ e → s.heap.get? b = some u → h'.get? b = some u) (heo : ∃ u, h'.get? e = some u)
    (new : ObjOk X.prog X.w (upd H x o) h' x o) : Inv X pins σ (upd H x o) { s with heap := h', toks := t' } := I.un (Un.write mu he k heo) (I.hok.write mu he k heo new)
theorem Inv.weak {σ' : List (Option V)} (I : Inv X pins σ H s) (hl : σ'.length = σ.length) (w : ∀ (i : Nat) v, σ'[i]? = some (some v) → σ[i]? = some (some v)) : Inv X pins σ' H s :=
  ⟨I.ok, I.os, I.bare, I.base, let ⟨m, hn, hl'⟩ := I.loc; ⟨m, hn, fun i x v e1 e2 e3 => hl' i x v e1 (w i v e2) e3⟩, I.cell, I.free, I.freeC, I.pin, I.hok, hl.trans I.len⟩
theorem Inv.pins_of {pins' : List (Addr × Obj)} (I : Inv X pins σ H s) (h : ∀ p ∈ pins', s.heap.get? p.1 = some p.2 ∧ H p.1 = none ∧ p.1 ≠ X.env.locals ∧ p.1 ∉ X.fs ∧ ∀ v, p.2.data ≠ .cell v) : Inv X pins' σ H s :=
  ⟨I.ok, I.os, I.bare, I.base, I.loc, I.cell, I.free, I.freeC, fun p hp => (List.mem_append.mp hp).elim (fun z => I.pin p (List.mem_append_left _ z)) (h p), I.hok, I.len⟩

theorem nodup_ix {N : List Str} (hN : N.Nodup) {i j : Nat} {x : Str} (a : N[i]? = some x) (b : N[j]? = some x) : i = j := by
  obtain ⟨h1, e1⟩ := List.getElem?_eq_some_iff.mp a
  obtain ⟨h2, e2⟩ := List.getElem?_eq_some_iff.mp b
  exact (List.getElem_inj hN).mp (e1.trans e2.symm)

theorem store_ok2 {M : Model} {A : Around} {E : Value → Shared → Prop} {i : Nat} {x : Str} {v : V} {u : Value} {Q : Unit → Shared → Prop} (I : Inv X pins σ H s) (hN : X.N.Nodup) (hi : X.N[i]? = some x) (hx : Loc X.env.scope x) (r : RelV v u)
    (h : ∀ s', Inv X pins (σ.set i (some v)) H s' → (∃ a, Heap.SameBut a s.heap s'.heap ∧ (a = X.env.locals ∨ X.env.cells.lookup x = some a)) → Q () s') (hf : X.fn x = true ∨ X.env.scope.names.lookup x = some .local := by first | exact .inl rfl | exact .inr rfl | assumption) : wpAny M A (storeName X.env x u) Q E s := by
  obtain ⟨m, hn, hl⟩ := id I.loc
  have hcls : (X.env.scope.kind == .class || (X.env.scope.kind == .module && X.env.locals != X.env.globals)) = false := by rw [I.ok.kind]; rfl
  have hiσ : i < σ.length := by rw [I.len]; exact (List.getElem?_eq_some_iff.mp hi).1
  have cne := I.cne
  have tracked : ∀ {a : Addr} {h' : Heap}, (∃ o, s.heap.get? a = some o ∧ H a = none) → Heap.SameBut a s.heap h' → HOk X.prog X.w H h' := fun {a h'} ha hs b ob e => by
    obtain ⟨_, _, hfree⟩ := ha
    refine (I.hok b ob e).stay (fun c w' hc q => (hs.2 c ?_).trans q) (fun _ q => q) fun _ _ _ q => q
    rintro rfl
    rcases hc with rfl | hc
    · rw [hfree] at e; cases e
    · rw [hfree] at hc; cases hc
  rcases hx with hk | hk
  · refine wpAny_storeName_local hk hn (fun h' hn' hs => ?_) hcls
    obtain ⟨oL, _, _, hoL, _⟩ := id hn
    refine h _ ⟨I.ok, I.os, I.bare, ⟨fun b o e n hb hx => ?_, fun b o e n hb hx => ?_, I.base.free, fun b o e hx => ?_, I.base.tups, I.base.frzs, I.base.tbls⟩, ⟨_, hn', fun j y v' e1 e2 e3 => ?_⟩, fun y c e => ?_, I.free, I.freeC, fun p hp => ?_, tracked ⟨oL, hoL, I.free⟩ hs, by simpa using I.len⟩ ⟨_, hs, .inl rfl⟩
    · exact (hs.2 b (Nat.ne_of_lt (Nat.lt_of_lt_of_le (Heap.lt_size e) I.ok.above))).trans (I.base.keep b o e n hb hx)
    · obtain ⟨sl, e1⟩ := I.base.slot b o e n hb hx
      exact ⟨sl, (hs.2 b (Nat.ne_of_lt (Nat.lt_of_lt_of_le (Heap.lt_size e) I.ok.above))).trans e1⟩
    · obtain ⟨o', e1⟩ := I.base.there b o e hx
      exact ⟨o', (hs.2 b (Nat.ne_of_lt (Nat.lt_of_lt_of_le (Heap.lt_size e) I.ok.above))).trans e1⟩
    · by_cases hj : j = i
      · subst hj
        rw [hi] at e1; cases e1
        rw [List.getElem?_set_self hiσ] at e2
        cases e2
        exact ⟨u, r, .inl ⟨hk, by simp⟩⟩
      · rw [List.getElem?_set_ne (Ne.symm hj)] at e2
        obtain ⟨u', r', q⟩ := hl j y v' e1 e2 e3
        refine ⟨u', r', ?_⟩
        rcases q with ⟨k, e⟩ | ⟨k, c, e, z⟩
        · refine .inl ⟨k, ?_⟩
          have : y ≠ x := fun e => hj (nodup_ix hN e1 (e ▸ hi))
          simp [this, e]
        · exact .inr ⟨k, c, e, z.sameBut hs (cne y c e)⟩
    · obtain ⟨w', z⟩ := I.cell y c e
      exact ⟨w', z.sameBut hs (cne y c e)⟩
    · obtain ⟨e, n, ne, nf, d⟩ := I.pin p hp
      exact ⟨(hs.2 p.1 ne).trans e, n, ne, nf, d⟩
  · have hfn : X.fn x = true := by
      rcases hf with z | z
      · exact z
      · rw [z] at hk; cases hk
    obtain ⟨c, hc⟩ := I.ok.has x (.inl hk)
    obtain ⟨w', z⟩ := I.cell x c hc
    refine wpAny_storeName_cell I.ok.kind hk hc z (fun h' hc' hs => ?_)
    obtain ⟨oc, hoc, hocd⟩ := id z
    refine h { s with heap := h' } ⟨I.ok, I.os, I.bare, ⟨fun b o e n hb hx => ?_, fun b o e n hb hx => ?_, I.base.free, fun b o e hx => ?_, I.base.tups, I.base.frzs, I.base.tbls⟩, ⟨m, hn.sameBut hs (Ne.symm (cne x c hc)), fun j y v' e1 e2 e3 => ?_⟩, fun y c' e => ?_, I.free, I.freeC, fun p hp => ?_, tracked ⟨oc, hoc, I.freeC x c hc⟩ hs, by simpa using I.len⟩ ⟨c, hs, .inr hc⟩
    · exact (hs.2 b (Nat.ne_of_lt (Nat.lt_of_lt_of_le (Heap.lt_size e) (I.ok.cab x c hfn hc)))).trans (I.base.keep b o e n hb hx)
    · obtain ⟨sl, e1⟩ := I.base.slot b o e n hb hx
      exact ⟨sl, (hs.2 b (Nat.ne_of_lt (Nat.lt_of_lt_of_le (Heap.lt_size e) (I.ok.cab x c hfn hc)))).trans e1⟩
    · obtain ⟨o', e1⟩ := I.base.there b o e hx
      exact ⟨o', (hs.2 b (Nat.ne_of_lt (Nat.lt_of_lt_of_le (Heap.lt_size e) (I.ok.cab x c hfn hc)))).trans e1⟩
    · by_cases hj : j = i
      · subst hj
        rw [hi] at e1; cases e1
        rw [List.getElem?_set_self hiσ] at e2
        cases e2
        exact ⟨u, r, .inr ⟨.inl hk, c, hc, hc'⟩⟩
      · rw [List.getElem?_set_ne (Ne.symm hj)] at e2
        obtain ⟨u', r', q⟩ := hl j y v' e1 e2 e3
        refine ⟨u', r', ?_⟩
        rcases q with q | ⟨k, c', e, z'⟩
        · exact .inl q
        · refine .inr ⟨k, c', e, z'.sameBut hs ?_⟩
          rintro rfl
          exact hj (nodup_ix hN e1 (I.ok.inj _ _ _ e hc ▸ hi))
    · by_cases hcc : c' = c
      · subst hcc; exact ⟨_, hc'⟩
      · obtain ⟨w2, z2⟩ := I.cell y c' e
        exact ⟨w2, z2.sameBut hs hcc⟩
    · obtain ⟨e, n, ne, nf, d⟩ := I.pin p hp
      refine ⟨(hs.2 p.1 ?_).trans e, n, ne, nf, d⟩
      intro q
      rw [q, hoc] at e
      have q' : oc = p.2 := Option.some.inj e
      exact d w' (by rw [← q']; exact hocd)
theorem store_ok {M : Model} {A : Around} {E : Value → Shared → Prop} {i : Nat} {x : Str} {v : V} {u : Value} {Q : Unit → Shared → Prop} (I : Inv X pins σ H s) (hN : X.N.Nodup) (hi : X.N[i]? = some x) (hx : Loc X.env.scope x) (r : RelV v u)
    (h : ∀ s', Inv X pins (σ.set i (some v)) H s' → Q () s') (hf : X.fn x = true ∨ X.env.scope.names.lookup x = some .local := by first | exact .inl rfl | exact .inr rfl | assumption) : wpAny M A (storeName X.env x u) Q E s :=
  store_ok2 I hN hi hx r (fun s' I' _ => h s' I') hf
theorem Inv.call' {s' : Shared} {ch : List Addr} (I : Inv X pins σ H s) (ho : s'.os = s.os) (u : Un (frs X.stack) ch H H' s.heap s'.heap) (hok : HOk X.prog X.w H' s'.heap) (hg : AllBare s'.gens)
    (hch : ∀ b ∈ ch, (b ∈ X.ex ∨ X.s_0.heap.objs.size ≤ b) ∧ b ≠ X.env.locals ∧ (∀ x c, X.env.cells.lookup x = some c → c ≠ b) ∧ ∀ p ∈ X.pn ++ pins, p.1 ≠ b) : Inv X pins σ H' s' := by
  obtain ⟨h', g', d', t', o'⟩ := s'
  have e : o' = s.os := ho
  subst e
  exact I.call (g' := g') (t' := t') (d' := d') u hok hg hch
end

abbrev XK := Value → Option Addr → Hp → Prop
abbrev St := List (Option V)
abbrev VK := V → Hp → Prop
abbrev TE := St → Hp → VK → Prop
abbrev TT := St → Hp → (Bool → Hp → Prop) → Prop
abbrev TA := St → Hp → (List V → Hp → Prop) → Prop
structure Ends where
  nx : St → Hp → Prop
  rt : VK
  bk : St → Hp → Prop := fun _ _ => False
  ct : St → Hp → Prop := fun _ _ => False
abbrev TS := Ends → St → Hp → Prop

def EP (X : Cx) (pins : List (Addr × Obj)) (σ : St) (Q : VK) (u : Value) (s' : Shared) : Prop := ∃ v H', Inv X pins σ H' s' ∧ RelV v u ∧ Q v H'
def TP (X : Cx) (pins : List (Addr × Obj)) (σ : St) (Q : Bool → Hp → Prop) (b : Bool) (s' : Shared) : Prop := ∃ H', Inv X pins σ H' s' ∧ Q b H'
def AP (X : Cx) (pins : List (Addr × Obj)) (σ : St) (Q : List V → Hp → Prop) (us : List Value) (s' : Shared) : Prop := ∃ vs H', Inv X pins σ H' s' ∧ Vals vs us ∧ Q vs H'
def SP (X : Cx) (pins : List (Addr × Obj)) (D : Ends) (f : Flow) (s' : Shared) : Prop :=
  match f with
  | .next => ∃ σ' H', Inv X pins σ' H' s' ∧ D.nx σ' H'
  | .brk => ∃ σ' H', Inv X pins σ' H' s' ∧ D.bk σ' H'
  | .cont => ∃ σ' H', Inv X pins σ' H' s' ∧ D.ct σ' H'
  | .ret u => ∃ v σ' H', Inv X pins σ' H' s' ∧ RelV v u ∧ D.rt v H'

def PE (X : Cx) (e : Expr) (t : TE) : Prop :=
  ∀ (pins : List (Addr × Obj)) (s : Shared) (σ : St) (H : Hp) (Q : VK), Inv X pins σ H s → t σ H Q → wpAny (model X.prog X.w) X.A (eval e X.env) (EP X pins σ Q) X.xe s
def PT (X : Cx) (e : Expr) (t : TT) : Prop :=
  ∀ (pins : List (Addr × Obj)) (s : Shared) (σ : St) (H : Hp) (Q : Bool → Hp → Prop), Inv X pins σ H s → t σ H Q → wpAny (model X.prog X.w) X.A (isTrue e X.env (eval e X.env)) (TP X pins σ Q) X.xe s
def PW (X : Cx) (e : Expr) (t : TT) : Prop :=
  ∀ (whole : Sem Value) (pins : List (Addr × Obj)) (s : Shared) (σ : St) (H : Hp) (Q : Bool → Hp → Prop), Inv X pins σ H s → t σ H Q → wpAny (model X.prog X.w) X.A (isTrue e X.env whole) (TP X pins σ Q) X.xe s
theorem PW.pt {X : Cx} {e : Expr} {t : TT} (h : PW X e t) : PT X e t := h _
def PA (X : Cx) (es : List Expr) (t : TA) : Prop :=
  ∀ (pos : Pos) (pins : List (Addr × Obj)) (s : Shared) (σ : St) (H : Hp) (Q : List V → Hp → Prop), Inv X pins σ H s → t σ H Q → wpAny (model X.prog X.w) X.A (spliced (backTo pos (starEach es X.env))) (AP X pins σ Q) X.xe s
def PS (X : Cx) (st : Stmt) (t : TS) : Prop :=
  ∀ (pins : List (Addr × Obj)) (s : Shared) (σ : St) (H : Hp) (D : Ends), Inv X pins σ H s → t D σ H → wpAny (model X.prog X.w) X.A (exec st X.env) (SP X pins D) X.xe s
def PSs (X : Cx) (st : List Stmt) (t : TS) : Prop :=
  ∀ (pins : List (Addr × Obj)) (s : Shared) (σ : St) (H : Hp) (D : Ends), Inv X pins σ H s → t D σ H → wpAny (model X.prog X.w) X.A (execs st X.env) (SP X pins D) X.xe s
theorem thn {α : Type} {t : Sem α} {Q Q' : α → Shared → Prop} {M : Model} {A : Around} {E : Value → Shared → Prop} {s : Shared} (h : wpAny M A t Q E s) (hQ : ∀ a s, Q a s → Q' a s) : wpAny M A t Q' E s := wpAny_mono h hQ fun _ _ x => x
end L2

namespace L2
open PySem PySem.Spec PyProof.Rows
section
variable {X : Cx}

def tVar (i : Nat) : TE := fun σ H Q => ∃ v, σ[i]? = some (some v) ∧ Q v H
def tC (v : V) : TE := fun _ H Q => Q v H
theorem pe_var {i : Nat} {x : Str} {pos : Pos} (hN : X.N[i]? = some x) (hv : Vis X.env.scope x) (hd : (x == ("__debug__" : Str)) = false := by decide) (hcd : (x == ("__classdict__" : Str)) = false := by decide) : PE X (.Name x pos) (tVar i) := by
  intro pins s σ H Q I h
  obtain ⟨v, e, h⟩ := h
  obtain ⟨m, hn, hl⟩ := I.loc
  obtain ⟨u, r, l⟩ := hl i x v hN e hv
  have fin : EP X pins σ Q u s := ⟨v, H, I, r, h⟩
  rcases l with ⟨hk, hm⟩ | ⟨hk, c, hc, hcell⟩
  · exact wpAny_Name (wpAny_loadName_local I.ok.kind hk hn hm fin) hd
  · rcases hk with hk | hk
    · exact wpAny_Name (wpAny_loadName_cell I.ok.kind hk hc hcell fin) hd
    · exact wpAny_Name (wpAny_loadName_free I.ok.kind hk hc hcell fin hcd) hd
theorem pe_int {i j pos} : PE X (.Constant (.int i) j pos) (tC (.int i)) := fun _ _ _ H _ I h => wpAny_Constant_int ⟨.int i, H, I.tok _, ⟨_, rfl⟩, h⟩
theorem pe_bl {b j pos} : PE X (.Constant (.bool b) j pos) (tC (.bl b)) := fun _ _ _ H _ I h => Constant_bool ⟨.bl b, H, I, rfl, h⟩
theorem pe_non {j pos} : PE X (.Constant .none j pos) (tC .non) := fun _ _ _ H _ I h => Constant_none ⟨.non, H, I, rfl, h⟩
theorem pe_str {x j pos} : PE X (.Constant (.str x) j pos) (tC (.str x)) := fun _ _ _ H _ I h => Calls.Constant_str ⟨.str x, H, I.tok _, ⟨_, rfl⟩, h⟩

def Gl (X : Cx) (x : Str) : Prop := X.env.kindOf x = some .globalImplicit
theorem ld_glob {E : Value → Shared → Prop} {pins : List (Addr × Obj)} {s : Shared} {σ : St} {H : Hp} {x : Str} {u : Value} {pos : Pos} {Q : Value → Shared → Prop} (I : Inv X pins σ H s) (hg : Gl X x) (hm : X.mg x = some u) (h : Q u s)
    (hd : (x == ("__debug__" : Str)) = false := by decide) : wpAny (model X.prog X.w) X.A (eval (.Name x pos) X.env) Q E s :=
  Calls.Name_function_global I.ok.kind hg (Calls.loadGlobal_global (by rw [I.ok.glob]; exact I.mod.glob.keeps I.bk) hm h) hd
theorem ld_blt {E : Value → Shared → Prop} {pins : List (Addr × Obj)} {s : Shared} {σ : St} {H : Hp} {x : Str} {u : Value} {pos : Pos} {Q : Value → Shared → Prop} (I : Inv X pins σ H s) (hg : Gl X x) (hm : X.mg x = none) (hv : bootBuiltins x = some u) (h : Q u s)
    (hn : x ≠ "__name__" := by decide) (hd : (x == ("__debug__" : Str)) = false := by decide) : wpAny (model X.prog X.w) X.A (eval (.Name x pos) X.env) Q E s := by
  obtain ⟨mb, h1, h2⟩ := I.mod.blt
  exact Calls.Name_function_global I.ok.kind hg (Calls.loadGlobal_builtin (by rw [I.ok.glob]; exact I.mod.glob.keeps I.bk) hm (by rw [I.ok.blt]; exact h1.keeps I.bk) ((h2 x hn).trans hv) h) hd
theorem pe_glob {x : Str} {v : V} {u : Value} {pos : Pos} (hg : Gl X x) (hm : X.mg x = some u) (r : RelV v u) (hd : (x == ("__debug__" : Str)) = false := by decide) : PE X (.Name x pos) (tC v) :=
  fun _ _ _ H _ I h => ld_glob I hg hm ⟨v, H, I, r, h⟩ hd
theorem pe_bltn {x : Str} {v : V} {u : Value} {pos : Pos} (hg : Gl X x) (hm : X.mg x = none) (hv : bootBuiltins x = some u) (r : RelV v u) (hn : x ≠ "__name__" := by decide) (hd : (x == ("__debug__" : Str)) = false := by decide) : PE X (.Name x pos) (tC v) :=
  fun _ _ _ H _ I h => ld_blt I hg hm hv ⟨v, H, I, r, h⟩ hn hd

variable {a b : Expr} {ta tb : TE} {pos : Pos}
def PC (X : Cx) (op : CmpOp) (a b : Expr) (t : TE) : Prop :=
  ∀ (pins : List (Addr × Obj)) (s : Shared) (σ : St) (H : Hp) (Q : VK), Inv X pins σ H s → t σ H Q →
    wpAny (model X.prog X.w) X.A (eval a X.env) (fun v s₁ => wpAny (model X.prog X.w) X.A (eval b X.env) (fun u s₂ => wpAny (model X.prog X.w) X.A (compareOp op v u) (EP X pins σ Q) X.xe s₂) X.xe s₁) X.xe s
def tB (t : TE) : TT := fun σ H Q => t σ H fun x H1 => ∃ c, x = .bl c ∧ Q c H1
theorem pt_val {e : Expr} {t : TE} (h : PE X e t) (he : ∀ whole, isTrue e X.env whole = (do let v ← whole; standAt e.pos; holding [v] (truthy v)) := by intro _; rfl) : PT X e (tB t) := by
  intro pins s σ H Q I hw
  refine isTrue_plain (thn (h pins s σ H _ I hw) fun v s1 ⟨x, H1, I1, r1, q1⟩ => ?_) (he _)
  obtain ⟨d, rfl, q⟩ := q1
  cases r1
  exact wpAny_truthy_bool ⟨H1, I1, q⟩

variable {tA tB' : TT} {rest : List Expr}
def tOr (t u : TT) : TT := fun σ H Q => t σ H fun c H1 => if c = true then Q true H1 else u σ H1 Q
def tNot (t : TT) : TT := fun σ H Q => t σ H fun c H1 => Q (!c) H1
theorem pw_or1 (ha : PT X a tA) : PW X (.BoolOp .Or [a] pos) tA := by
  intro wh pins s σ H Q I h
  refine isTrue_or (thn (ha pins s σ H Q I h) fun c s1 e => ?_)
  cases c with
  | false => exact isTrue_or_nil e
  | true => exact e
theorem pw_or (ha : PT X a tA) (hb : PW X (.BoolOp .Or (b :: rest) pos) tB') : PW X (.BoolOp .Or (a :: b :: rest) pos) (tOr tA tB') := by
  intro wh pins s σ H Q I h
  refine isTrue_or (thn (ha pins s σ H _ I h) fun c s1 ⟨H1, I1, q1⟩ => ?_)
  cases c with
  | true => exact ⟨H1, I1, q1⟩
  | false => exact hb wh pins s1 σ H1 Q I1 q1
theorem pt_not (ha : PT X a tA) : PT X (.UnaryOp .Not a pos) (tNot tA) := by
  intro pins s σ H Q I h
  exact isTrue_not (ha pins s σ H (fun c H1 => Q (!c) H1) I h)
end
end L2

namespace L2
open PySem PySem.Spec PyProof.Rows

def SqL (K : PySem.W.Frag) (H : Hp) (a : Addr) (xs : List V) : Prop :=
  Rd H a (.lst xs) ∨
    ∃ (o : Obj) (its : Array Value) (n : Nat), K.lookup a = some o ∧ o.cls = .type "list" ∧ o.dict = none ∧ o.data = .seq its n ∧ its.size ≤ sizeLine ∧ Vals xs its.toList
def SqT (K : PySem.W.Frag) (H : Hp) (a : Addr) (xs : List V) : Prop :=
  Rd H a (.tup xs) ∨
    ∃ (o : Obj) (its : Array Value) (n : Nat), K.lookup a = some o ∧ o.cls = .type "tuple" ∧ o.data = .seq its n ∧ its.size ≤ sizeLine ∧ Vals xs its.toList
def absV : Value → Option V
  | .none => some .non
  | .bool b => some (.bl b)
  | .int i _ => some (.int i)
  | .str x _ => some (.str x)
  | .bytes b _ => some (.byt b)
  | .float b _ => some (.flt b)
  | .ref a => some (.ref a)
  | .type n => some (.ty n)
  | _ => none
theorem RelV.abs {x : V} {u : Value} (r : RelV x u) : absV u = some x := by
  cases x with
  | non => cases r; rfl
  | bl _ => cases r; rfl
  | int _ => obtain ⟨t, rfl⟩ := r; rfl
  | str _ => obtain ⟨t, rfl⟩ := r; rfl
  | byt _ => obtain ⟨t, rfl⟩ := r; rfl
  | flt _ => obtain ⟨t, rfl⟩ := r; rfl
  | ref _ => cases r; rfl
  | ty _ => cases r; rfl
theorem RelV.inj {x y : V} {u : Value} (r : RelV x u) (q : RelV y u) : x = y := Option.some.inj (r.abs.symm.trans q.abs)
theorem Vals.inj : ∀ {xs ys : List V} {us : List Value}, Vals xs us → Vals ys us → xs = ys
  | _, _, _, .nil, .nil => rfl
  | _, _, _, .cons r t, .cons r' t' => by rw [r.inj r', Vals.inj t t']
section
variable {X : Cx} {pins : List (Addr × Obj)} {σ : St} {H : Hp} {s : Shared} {a : Addr} {xs ys : List V}
theorem SqL.of {K : PySem.W.Frag} (h : H a = some (.lst xs)) : SqL K H a xs := .inl (.inl h)
theorem SqT.of {K : PySem.W.Frag} (h : H a = some (.tup xs)) : SqT K H a xs := .inl (.inl h)
theorem Inv.list (I : Inv X pins σ H s) (h : SqL X.K H a xs) : ∃ its : List Value, Vals xs its ∧ PlainL s.heap a its.toArray ∧ xs.length ≤ sizeLine := by
  rcases h with h | ⟨o, its, n, hk, hc, hd, hs, hz, r⟩
  · obtain ⟨z, its, n, r, e⟩ := h.ok I.hok
    exact ⟨its, r, ⟨_, n, e, rfl, rfl, rfl⟩, z⟩
  · refine ⟨its.toList, r, ⟨o, n, I.kIn a o hk, hc, hd, by simpa using hs⟩, ?_⟩
    have e := r.length
    simp only [Array.length_toList] at e
    omega
theorem Inv.tuple (I : Inv X pins σ H s) (h : SqT X.K H a xs) : ∃ its : List Value, Vals xs its ∧ IsTup s.heap a its.toArray ∧ xs.length ≤ sizeLine := by
  rcases h with h | ⟨o, its, n, hk, hc, hs, hz, r⟩
  · obtain ⟨z, its, r, p⟩ := h.ok I.hok
    exact ⟨its, r, p, z⟩
  · refine ⟨its.toList, r, ⟨o, I.kIn a o hk, hc, n, by simpa using hs⟩, ?_⟩
    have e := r.length
    simp only [Array.length_toList] at e
    omega
theorem Inv.list_inj (I : Inv X pins σ H s) (h : SqL X.K H a xs) (h' : SqL X.K H a ys) : xs = ys := by
  obtain ⟨its, r, ⟨o, n, e, _, _, d⟩, _⟩ := I.list h
  obtain ⟨its', r', ⟨o', n', e', _, _, d'⟩, _⟩ := I.list h'
  rw [e] at e'; cases e'
  rw [d] at d'
  injection d' with d1 _
  have : its = its' := by simpa using congrArg Array.toList d1
  subst this
  exact r.inj r'
theorem Inv.tuple_inj (I : Inv X pins σ H s) (h : SqT X.K H a xs) (h' : SqT X.K H a ys) : xs = ys := by
  obtain ⟨its, r, ⟨o, e, _, n, d⟩, _⟩ := I.tuple h
  obtain ⟨its', r', ⟨o', e', _, n', d'⟩, _⟩ := I.tuple h'
  rw [e] at e'; cases e'
  rw [d] at d'
  injection d' with d1 _
  have : its = its' := by simpa using congrArg Array.toList d1
  subst this
  exact r.inj r'
end

abbrev Cx.wish (X : Cx) (E : Value → Shared → Prop) : Cx := { X with xe := E }
abbrev Cx.nox (X : Cx) : Cx := X.wish fun _ _ => False
theorem Cx.Ok.wish {X : Cx} (ok : X.Ok) (E : Value → Shared → Prop) : (X.wish E).Ok :=
  ⟨ok.mod, ok.kind, ok.glob, ok.blt, ok.above, ok.inj, ok.has, ok.cab, ok.hd, ok.frames, ok.stk, ok.exf, ok.bs, ok.bsz, ok.noex, ok.exfs, ok.funs, ok.frf⟩
theorem Cx.Ok.unwish {X : Cx} {E : Value → Shared → Prop} (ok : (X.wish E).Ok) : X.Ok :=
  ⟨ok.mod, ok.kind, ok.glob, ok.blt, ok.above, ok.inj, ok.has, ok.cab, ok.hd, ok.frames, ok.stk, ok.exf, ok.bs, ok.bsz, ok.noex, ok.exfs, ok.funs, ok.frf⟩
section
variable {X : Cx} {pins : List (Addr × Obj)} {σ : St} {H : Hp} {s : Shared} {E : Value → Shared → Prop}
theorem Inv.wish (I : Inv X pins σ H s) (E : Value → Shared → Prop) : Inv (X.wish E) pins σ H s := ⟨I.ok.wish E, I.os, I.bare, I.base, I.loc, I.cell, I.free, I.freeC, I.pin, I.hok, I.len⟩
theorem Inv.unwish (I : Inv (X.wish E) pins σ H s) : Inv X pins σ H s := ⟨I.ok.unwish, I.os, I.bare, I.base, I.loc, I.cell, I.free, I.freeC, I.pin, I.hok, I.len⟩
theorem SP.unwish {D : Ends} {f : Flow} {s' : Shared} (h : SP (X.wish E) pins D f s') : SP X pins D f s' := by
  cases f with
  | next => obtain ⟨σ', H', I, q⟩ := h; exact ⟨σ', H', I.unwish, q⟩
  | brk => obtain ⟨σ', H', I, q⟩ := h; exact ⟨σ', H', I.unwish, q⟩
  | cont => obtain ⟨σ', H', I, q⟩ := h; exact ⟨σ', H', I.unwish, q⟩
  | ret u => obtain ⟨v, σ', H', I, r, q⟩ := h; exact ⟨v, σ', H', I.unwish, r, q⟩
theorem PE.nox {e : Expr} {t : TE} (h : PE X.nox e t) : PE X e t := fun pins s σ H Q I hw =>
  wpAny_mono (h pins s σ H Q (I.wish _) hw) (fun _ _ ⟨v, H', I', r, q⟩ => ⟨v, H', I'.unwish, r, q⟩) fun _ _ z => False.elim z
theorem PT.nox {e : Expr} {t : TT} (h : PT X.nox e t) : PT X e t := fun pins s σ H Q I hw =>
  wpAny_mono (h pins s σ H Q (I.wish _) hw) (fun _ _ ⟨H', I', q⟩ => ⟨H', I'.unwish, q⟩) fun _ _ z => False.elim z
theorem PSs.nox {st : List Stmt} {t : TS} (h : PSs X.nox st t) : PSs X st t := fun pins s σ H D I hw =>
  wpAny_mono (h pins s σ H D (I.wish _) hw) (fun _ _ q => q.unwish) fun _ _ z => False.elim z
end

section
variable {X : Cx} {st : Stmt} {rest : List Stmt} {t u : TS} {e : Expr} {te : TE} {pos : Pos}
def tNext : TS := fun D σ H => D.nx σ H
def tSeq (t u : TS) : TS := fun D σ H => t { D with nx := u D } σ H
theorem pss_nil : PSs X [] tNext := fun _ _ σ H _ I h => wpAny_execs_nil ⟨σ, H, I, h⟩
theorem pss_cons (h1 : PS X st t) (h2 : PSs X rest u) : PSs X (st :: rest) (tSeq t u) := by
  intro pins s σ H D I h
  refine wpAny_execs_cons (thn (h1 pins s σ H { D with nx := u D } I h) fun f s1 q => ?_)
  cases f with
  | next =>
    obtain ⟨σ', H', I', q⟩ := q
    exact h2 pins s1 σ' H' D I' q
  | ret v => exact q
  | brk => exact q
  | cont => exact q
theorem pss_one (h1 : PS X st t) : PSs X [st] t := by
  intro pins s σ H D I h
  refine wpAny_execs_cons (thn (h1 pins s σ H D I h) fun f s1 q => ?_)
  cases f with
  | next => exact wpAny_execs_nil q
  | ret v => exact q
  | brk => exact q
  | cont => exact q
theorem Inv.quiet {pins : List (Addr × Obj)} {σ : St} {H : Hp} {s : Shared} (I : Inv X pins σ H s) : interactive X.env = false := by simp [interactive, I.ok.kind]
def tDrop (te : TE) : TS := fun D σ H => te σ H fun _ H1 => D.nx σ H1
theorem ps_expr (he : PE X e te) (hs : swapsWith e none pos.line X.env = pure false := by rfl) : PS X (.Expr e pos) (tDrop te) := by
  intro pins s σ H D I h
  exact wpAny_Expr_any (thn (he pins s σ H _ I h) fun v s1 ⟨x, H1, I1, r1, q1⟩ => ⟨σ, H1, I1, q1⟩) I.quiet hs
def tRet (te : TE) : TS := fun D σ H => te σ H D.rt
theorem ps_ret (he : PE X e te) : PS X (.Return (some e) pos) (tRet te) := by
  intro pins s σ H D I h
  exact wpAny_Return_some (thn (he pins s σ H _ I h) fun v s1 ⟨x, H1, I1, r1, q1⟩ => ⟨x, σ, H1, I1, r1, q1⟩)
def tIfS (c : TT) (t u : TS) : TS := fun D σ H => c σ H fun b H1 => if b = true then t D σ H1 else u D σ H1
theorem ps_if {c : Expr} {a b : List Stmt} {tc : TT} (hc : PT X c tc) (ha : PSs X a t) (hb : PSs X b u) : PS X (.If c a b pos) (tIfS tc t u) := by
  intro pins s σ H D I h
  refine wpAny_If (thn (hc pins s σ H _ I h) fun d s1 ⟨H1, I1, q1⟩ => ?_)
  cases d with
  | true => exact ha pins s1 σ H1 D I1 q1
  | false => exact hb pins s1 σ H1 D I1 q1
end

abbrev TG := V → St → Hp → (St → Hp → Prop) → Prop
abbrev TGs := List V → St → Hp → (St → Hp → Prop) → Prop
def PG (X : Cx) (target : Expr) (t : TG) : Prop :=
  ∀ (pins : List (Addr × Obj)) (s : Shared) (σ : St) (H : Hp) (v : V) (u : Value) (Q : St → Hp → Prop), Inv X pins σ H s → RelV v u → t v σ H Q →
    wpAny (model X.prog X.w) X.A (assign target X.env u) (fun _ s' => ∃ σ' H', Inv X pins σ' H' s' ∧ Q σ' H') X.xe s
def PGs (X : Cx) (ts : List Expr) (t : TGs) : Prop :=
  ∀ (pins : List (Addr × Obj)) (s : Shared) (σ : St) (H : Hp) (vs : List V) (us : List Value) (Q : St → Hp → Prop), Inv X pins σ H s → Vals vs us → t vs σ H Q →
    wpAny (model X.prog X.w) X.A (assignInOrder ((assignEach ts X.env).map (·.2)) us) (fun _ s' => ∃ σ' H', Inv X pins σ' H' s' ∧ Q σ' H') X.xe s
abbrev TSet := V → V → V → Hp → (Hp → Prop) → Prop
def PSet (X : Cx) (t : TSet) : Prop :=
  ∀ (pins : List (Addr × Obj)) (s : Shared) (σ : St) (H : Hp) (o i v : V) (ov iv u : Value) (Q : Hp → Prop), Inv X pins σ H s → RelV o ov → RelV i iv → RelV v u → t o i v H Q →
    wpAny (model X.prog X.w) X.A (setItem ov iv u) (fun _ s' => ∃ H', Inv X pins σ H' s' ∧ Q H') X.xe s
abbrev TIp := V → V → Hp → VK → Prop
def PIp (X : Cx) (op : Operator) (t : TIp) : Prop :=
  ∀ (pins : List (Addr × Obj)) (s : Shared) (σ : St) (H : Hp) (x y : V) (v u : Value) (Q : VK), Inv X pins σ H s → RelV x v → RelV y u → t x y H Q →
    wpAny (model X.prog X.w) X.A (inplaceOp op v u) (EP X pins σ Q) X.xe s
section
variable {X : Cx} {pos : Pos}
def gName (i : Nat) : TG := fun v σ H Q => Q (σ.set i (some v)) H
theorem pg_name {i : Nat} {x : Str} (hN : X.N.Nodup) (hi : X.N[i]? = some x) (hx : Loc X.env.scope x) (hf : X.fn x = true ∨ X.env.scope.names.lookup x = some .local := by first | exact .inl rfl | exact .inr rfl | assumption) : PG X (.Name x pos) (gName i) := by
  intro pins s σ H v u Q I r h
  exact wpAny_assign_Name (store_ok I hN hi hx r (fun s' I' => ⟨_, H, I', h⟩) hf)
def gNil : TGs := fun vs σ H Q => vs = [] ∧ Q σ H
def gCons (t : TG) (u : TGs) : TGs := fun vs σ H Q => ∃ v r, vs = v :: r ∧ t v σ H fun σ' H' => u r σ' H' Q
theorem pgs_nil : PGs X [] gNil := by
  intro pins s σ H vs us Q I r h
  obtain ⟨e, h⟩ := h
  subst e
  cases r
  exact assignInOrder_nil ⟨σ, H, I, h⟩
theorem pgs_cons {e : Expr} {es : List Expr} {t : TG} {u : TGs} (h1 : PG X e t) (h2 : PGs X es u)
    (hs : (assignEach (e :: es) X.env).map (·.2) = assign e X.env :: (assignEach es X.env).map (·.2) := by rfl) : PGs X (e :: es) (gCons t u) := by
  intro pins s σ H vs us Q I r h
  obtain ⟨v, vr, e1, h⟩ := h
  subst e1
  cases r with
  | cons r rr =>
    rw [hs]
    refine assignInOrder_cons (thn (h1 pins s σ H _ _ _ I r h) fun _ s1 ⟨σ1, H1, I1, q1⟩ => ?_)
    exact h2 pins s1 σ1 H1 _ _ Q I1 rr q1
def gSub (to ti : TE) (t : TSet) : TG := fun v σ H Q => to σ H fun o H1 => ti σ H1 fun i H2 => t o i v H2 fun H3 => Q σ H3
theorem pg_sub {o i : Expr} {to ti : TE} {t : TSet} (ho : PE X o to) (hi : PE X i ti) (hs : PSet X t)
    (ha : ∀ v, assign (.Subscript o i pos) X.env v = (do
      let ov ← holding [v] (eval o X.env)
      let iv ← holding [v, ov] (eval i X.env)
      standAt pos
      holding [v, ov, iv] (setItem ov iv v)
      release [v, ov, iv] []) := by intro _; rfl) : PG X (.Subscript o i pos) (gSub to ti t) := by
  intro pins s σ H v u Q I r h
  rw [ha]
  refine wpAny_bind (wpAny_holding (thn (ho pins s σ H _ I h) fun ov s1 ⟨x, H1, I1, r1, q1⟩ => ?_))
  refine wpAny_bind (wpAny_holding (thn (hi pins s1 σ H1 _ I1 q1) fun iv s2 ⟨y, H2, I2, r2, q2⟩ => ?_))
  refine wpAny_bind (wpAny_standAt (wpAny_bind (wpAny_holding (thn (hs pins s2 σ H2 x y v ov iv u _ I2 r1 r2 r q2) fun _ s3 ⟨H3, I3, q3⟩ => ?_))))
  exact wpAny_release ⟨σ, H3, I3, q3⟩
def tAsg (te : TE) (g : TG) : TS := fun D σ H => te σ H fun x H1 => g x σ H1 D.nx
theorem ps_asg {tg e : Expr} {te : TE} {g : TG} (he : PE X e te) (hg : PG X tg g) (hs : swapsWithSole [tg] e pos.line X.env = pure false := by rfl) (hw : swappedStores [tg] e X.env = pure none := by rfl)
    (h1 : (assignEach [tg] X.env).map (·.2) = [assign tg X.env] := by rfl) : PS X (.Assign [tg] e pos) (tAsg te g) := by
  intro pins s σ H D I h
  refine wpAny_Assign_stores (thn (he pins s σ H _ I h) fun v s1 ⟨x, H1, I1, r1, q1⟩ => ?_) hs hw
  rw [h1]
  exact thn (hg pins s1 σ H1 x v _ I1 r1 q1) fun _ s2 q => q
theorem ps_set {i : Nat} {x : Str} {e : Expr} {te : TE} {pos' : Pos} (hN : X.N.Nodup) (hi : X.N[i]? = some x) (hx : Loc X.env.scope x) (he : PE X e te) (hs : swapsWith e (some (.Name x pos')) pos.line X.env = pure false := by rfl) (hf : X.fn x = true ∨ X.env.scope.names.lookup x = some .local := by first | exact .inl rfl | exact .inr rfl | assumption) :
    PS X (.Assign [.Name x pos'] e pos) (tAsg te (gName i)) := by
  intro pins s σ H D I h
  refine wpAny_Assign_Name (thn (he pins s σ H _ I h) fun v s1 ⟨y, H1, I1, r1, q1⟩ => ?_) hs
  exact store_ok I1 hN hi hx r1 (fun s2 I2 => ⟨_, H1, I2, q1⟩) hf
def PGet (X : Cx) (t : V → V → Hp → VK → Prop) : Prop :=
  ∀ (pins : List (Addr × Obj)) (s : Shared) (σ : St) (H : Hp) (o i : V) (ov iv : Value) (Q : VK), Inv X pins σ H s → RelV o ov → RelV i iv → t o i H Q →
    wpAny (model X.prog X.w) X.A (getItem ov iv) (EP X pins σ Q) X.xe s
end

section
variable {X : Cx} {pos : Pos}
end

structure It where
  go : Nat → Hp → Prop
  yld : Nat → Hp → V → Hp → Prop
  stop : Nat → Hp → Prop
def FpOk (X : Cx) (pins : List (Addr × Obj)) (H : Hp) (b : Addr) : Prop :=
  H b = none ∧ b ≠ X.env.locals ∧ b ∉ X.fs ∧ (b ∈ X.ex ∨ X.s_0.heap.objs.size ≤ b) ∧ (∀ x c, X.env.cells.lookup x = some c → c ≠ b) ∧ ∀ p ∈ X.pn ++ pins, p.1 ≠ b
theorem Inv.fpOk {X : Cx} {pins : List (Addr × Obj)} {σ : St} {H H' : Hp} {s : Shared} {b : Addr} (I : Inv X pins σ H s) (hb : s.heap.objs.size ≤ b) (hn : H' b = none) : FpOk X pins H' b := by
  refine ⟨hn, Nat.ne_of_gt (Nat.lt_of_lt_of_le I.lt hb), I.nofs hb, .inr (Nat.le_trans I.sz hb), fun x c e z => ?_, fun p hp z => ?_⟩
  · obtain ⟨v, q⟩ := I.cell x c e
    exact absurd (Nat.lt_of_lt_of_le q.lt (by rw [z]; exact hb)) (Nat.lt_irrefl _)
  · exact absurd (Nat.lt_of_lt_of_le (Heap.lt_size (I.pin p hp).1) (by rw [z]; exact hb)) (Nat.lt_irrefl _)
structure Turn (P : Program) (w : World) (K : PySem.W.Frag) (tg : Expr) (J : It) (fp : List Addr) (it : Addr) (tn : Nat → Heap → Prop) : Prop where
  mem : it ∈ fp
  obj : ∀ i h, tn i h → ∀ b ∈ fp, ∃ o, h.get? b = some o ∧ ∀ v, o.data ≠ .cell v
  keep : ∀ i h h', tn i h → (∀ b ∈ fp, ∀ o, h.get? b = some o → h'.get? b = some o) → tn i h'
  item : ∀ (X : Cx), X.prog = P → X.w = w → X.K = K → X.calm = true → ∀ (i : Nat) (pins : List (Addr × Obj)) (s : Shared) (σ : St) (H : Hp) (E : Value → Shared → Prop), Inv X pins σ H s → (∀ b ∈ fp, FpOk X pins H b) → tn i s.heap → J.go i H →
    wpAny (model P w) X.A (pyNext (.ref it)) (fun r s1 => ∃ u, r = some u ∧
      wpAny (model P w) X.A (letOwnedTupleGo tg (.ref it) u) (fun _ s2 => ∃ x H', Inv X pins σ H' s2 ∧ RelV x u ∧ J.yld i H x H' ∧ tn (i + 1) s2.heap ∧ ∀ b ∈ fp, H' b = none) E s1) E s
  done : ∀ (X : Cx), X.prog = P → X.w = w → X.K = K → X.calm = true → ∀ (i : Nat) (pins : List (Addr × Obj)) (s : Shared) (σ : St) (H : Hp) (E : Value → Shared → Prop), Inv X pins σ H s → (∀ b ∈ fp, FpOk X pins H b) → tn i s.heap → J.stop i H →
    wpAny (model P w) X.A (pyNext (.ref it)) (fun r s1 => r = none ∧ Inv X pins σ H s1) E s
  self : ∀ (A : Around) (i : Nat) (s : Shared) (Q : Value → Shared → Prop) (E : Value → Shared → Prop), tn i s.heap → Q (.ref it) s → wpAny (model P w) A (pyIter (.ref it)) Q E s
abbrev TI := St → Hp → (It → Hp → Prop) → Prop
def PIE (X : Cx) (pins : List (Addr × Obj)) (σ : St) (tg : Expr) (R : It → Hp → Prop) (itv : Value) (s2 : Shared) : Prop :=
  ∃ (it : Addr) (fp : List Addr) (tn : Nat → Heap → Prop) (J : It) (H' : Hp), itv = .ref it ∧ Inv X pins σ H' s2 ∧ Turn X.prog X.w X.K tg J fp it tn ∧ tn 0 s2.heap ∧ (∀ b ∈ fp, FpOk X pins H' b) ∧ R J H'
def PI (X : Cx) (tg iter : Expr) (wi : TI) : Prop :=
  ∀ (pins : List (Addr × Obj)) (s : Shared) (σ : St) (H : Hp) (R : It → Hp → Prop), Inv X pins σ H s → wi σ H R →
    wpAny (model X.prog X.w) X.A (eval iter X.env) (fun v s1 => wpAny (model X.prog X.w) X.A (pyIter v) (PIE X pins σ tg R) X.xe s1) X.xe s

theorem go_of {M : Model} {A : Around} {E : Value → Shared → Prop} {s : Shared} {tg : Expr} {it : Addr} {u : Value} {o : Obj} {n : String} {vs : Array Value} {Q : Unit → Shared → Prop} (ho : s.heap.get? it = some o) (hc : o.cls = .type n) (hd : o.data = .fields vs)
    (hn : ["enumerate", "zip", "dict_itemiterator", "dict_reverseitemiterator", "odict_iterator", "itertools.zip_longest", "itertools.pairwise"].contains n = false) (hQ : Q () s) : wpAny M A (letOwnedTupleGo tg (.ref it) u) Q E s := by
  unfold letOwnedTupleGo
  cases tg <;> first
    | exact wpAny_pure hQ
    | (cases u <;> first
        | exact wpAny_pure hQ
        | (refine wpAny_bind (wpAny_load ho ?_)
           rw [hc, hd]
           show wpAny M A (if (["enumerate", "zip", "dict_itemiterator", "dict_reverseitemiterator", "odict_iterator", "itertools.zip_longest", "itertools.pairwise"].contains n && vs[0]? == some (rawInt _)) = true then _ else _) Q E s
           rw [if_neg (by intro h; rw [hn, Bool.false_and] at h; cases h)]
           exact wpAny_pure hQ))

def Itl (K : PySem.W.Frag) (a : Addr) : It :=
  ⟨fun i H => ∃ xs x, SqL K H a xs ∧ xs[i]? = some x, fun i H x H' => H' = H ∧ ∀ xs, SqL K H a xs → xs[i]? = some x, fun i H => ∃ xs, SqL K H a xs ∧ xs.length ≤ i⟩
def Itt (K : PySem.W.Frag) (a : Addr) : It :=
  ⟨fun i H => ∃ xs x, SqT K H a xs ∧ xs[i]? = some x, fun i H x H' => H' = H ∧ ∀ xs, SqT K H a xs → xs[i]? = some x, fun i H => ∃ xs, SqT K H a xs ∧ xs.length ≤ i⟩
def Itr (lo : Int) (n : Nat) : It := ⟨fun i _ => i < n, fun i H x H' => H' = H ∧ x = .int (lo + i), fun i _ => n ≤ i⟩
theorem turn_list {P : Program} {w : World} {K : PySem.W.Frag} {tg : Expr} (a it : Addr) : Turn P w K tg (Itl K a) [it] it (fun i h => h.IsListIter it a i) where
  mem := by simp
  obj := fun i h st b hb => by
    have e : b = it := by simpa using hb
    subst e
    obtain ⟨o, e, c, d⟩ := st
    exact ⟨o, e, fun v z => by rw [d] at z; cases z⟩
  keep := fun i h h' st k => st.at fun o e => k it (by simp) o e
  item := by
    intro X hP hw hK hc i pins s σ H E I hf st hg
    subst hP hw hK
    obtain ⟨xs, x, hq, hx⟩ := hg
    obtain ⟨its, rv, p, hz⟩ := I.list hq
    obtain ⟨u, hu, ru⟩ := rv.get hx
    obtain ⟨f0, f1, f2, f3, f4, f5⟩ := hf it (by simp)
    refine wpAny_pyNext_list_item st p.isList (x := u) (by simpa using hu) fun h' st' sb => ?_
    have I1 : Inv X pins σ H { s with heap := h' } := I.turned (t' := s.toks) (fun b o hb e => (sb.2 b hb).trans e) f0 f1 f3 f4 f5
    obtain ⟨o, e, c, d⟩ := id st'
    exact ⟨u, rfl, go_of (s := { s with heap := h' }) e c d (by decide) ⟨x, H, I1, ru, ⟨rfl, fun ys hy => by rw [I.list_inj hy hq]; exact hx⟩, st', fun b hb => (hf b hb).1⟩⟩
  done := by
    intro X hP hw hK hc i pins s σ H E I hf st hg
    subst hP hw hK
    obtain ⟨xs, hq, hx⟩ := hg
    obtain ⟨its, rv, p, hz⟩ := I.list hq
    obtain ⟨f0, f1, f2, f3, f4, f5⟩ := hf it (by simp)
    have hl := rv.length
    exact wpAny_pyNext_list_end (I.ok.hd hc) st p.isList (by simp; omega) fun h' eb => ⟨rfl, I.turned (t' := s.toks) (fun b o hb e => eb b o hb e) f0 f1 f3 f4 f5⟩
  self := fun _ _ _ _ _ st h => wpAny_pyIter_listiter st h
theorem turn_tuple {P : Program} {w : World} {K : PySem.W.Frag} {tg : Expr} (a it : Addr) : Turn P w K tg (Itt K a) [it] it (fun i h => h.IsTupleIter it a i) where
  mem := by simp
  obj := fun i h st b hb => by
    have e : b = it := by simpa using hb
    subst e
    obtain ⟨o, e, c, d⟩ := st
    exact ⟨o, e, fun v z => by rw [d] at z; cases z⟩
  keep := fun i h h' st k => st.at fun o e => k it (by simp) o e
  item := by
    intro X hP hw hK hc i pins s σ H E I hf st hg
    subst hP hw hK
    obtain ⟨xs, x, hq, hx⟩ := hg
    obtain ⟨its, rv, p, hz⟩ := I.tuple hq
    obtain ⟨u, hu, ru⟩ := rv.get hx
    obtain ⟨f0, f1, f2, f3, f4, f5⟩ := hf it (by simp)
    refine wpAny_pyNext_tuple_item st (show s.heap.IsTuple a its.toArray from p) (x := u) (by simpa using hu) fun h' st' sb => ?_
    have I1 : Inv X pins σ H { s with heap := h' } := I.turned (t' := s.toks) (fun b o hb e => (sb.2 b hb).trans e) f0 f1 f3 f4 f5
    obtain ⟨o, e, c, d⟩ := id st'
    exact ⟨u, rfl, go_of (s := { s with heap := h' }) e c d (by decide) ⟨x, H, I1, ru, ⟨rfl, fun ys hy => by rw [I.tuple_inj hy hq]; exact hx⟩, st', fun b hb => (hf b hb).1⟩⟩
  done := by
    intro X hP hw hK hc i pins s σ H E I hf st hg
    subst hP hw hK
    obtain ⟨xs, hq, hx⟩ := hg
    obtain ⟨its, rv, p, hz⟩ := I.tuple hq
    obtain ⟨f0, f1, f2, f3, f4, f5⟩ := hf it (by simp)
    have hl := rv.length
    exact wpAny_pyNext_tuple_end (I.ok.hd hc) st (show s.heap.IsTuple a its.toArray from p) (by simp; omega) fun h' eb => ⟨rfl, I.turned (t' := s.toks) (fun b o hb e => eb b o hb e) f0 f1 f3 f4 f5⟩
  self := fun _ _ _ _ _ st h => wpAny_pyIter_tupleiter st h
theorem turn_range {P : Program} {w : World} {K : PySem.W.Frag} {tg : Expr} (it : Addr) (lo : Int) (n : Nat) : Turn P w K tg (Itr lo n) [it] it (fun i h => IsRangeIter h it (lo + (i : Nat) * 1) ((n : Int) - (i : Nat)) 1) where
  mem := by simp
  obj := fun i h st b hb => by
    have e : b = it := by simpa using hb
    subst e
    exact ⟨_, st, fun v z => by
      have z' : Data.fields _ = Data.cell v := z
      cases z'⟩
  keep := fun i h h' st k => k it (by simp) _ st
  item := by
    intro X hP hw hK hc i pins s σ H E I hf st hg
    subst hP hw hK
    obtain ⟨f0, f1, f2, f3, f4, f5⟩ := hf it (by simp)
    have W := Walks.range (prog := X.prog) (w := X.w) (I.ok.hd hc) it lo 1 n
    refine W.item i s _ _ hg st fun v h' tk hv st' kk => ?_
    obtain ⟨t, rfl⟩ := hv
    have I1 : Inv X pins σ H { s with heap := h', toks := tk } := I.turned (fun b o hb e => kk b o (by simpa using hb) e) f0 f1 f3 f4 f5
    refine ⟨_, rfl, go_of (s := { s with heap := h', toks := tk }) (n := "range_iterator") st' rfl rfl (by decide) ⟨.int (lo + i), H, I1, ⟨t, ?_⟩, ⟨rfl, rfl⟩, st', fun b hb => (hf b hb).1⟩⟩
    rw [Int.mul_one]
  done := by
    intro X hP hw hK hc i pins s σ H E I hf st hg
    subst hP hw hK
    obtain ⟨f0, f1, f2, f3, f4, f5⟩ := hf it (by simp)
    exact wpAny_pyNext_range_end (I.ok.hd hc) st (by have : n ≤ i := hg; omega) fun h' eb => ⟨rfl, I.turned (t' := s.toks) (fun b o hb e => eb b o hb e) f0 f1 f3 f4 f5⟩
  self := fun _ _ _ _ _ st h => wpAny_pyIter_rangeiter st h
end L2

namespace L2
open PySem PySem.Spec PyProof.Rows
section
variable {X : Cx} {tg : Expr}
def iList (K : PySem.W.Frag) (tl : TE) : TI := fun σ H R => tl σ H fun x H1 => ∃ a, x = .ref a ∧ (∃ xs, SqL K H1 a xs) ∧ R (Itl K a) H1
def iTup (K : PySem.W.Frag) (tl : TE) : TI := fun σ H R => tl σ H fun x H1 => ∃ a, x = .ref a ∧ (∃ xs, SqT K H1 a xs) ∧ R (Itt K a) H1
theorem pi_list {l : Expr} {tl : TE} (hl : PE X l tl) : PI X tg l (iList X.K tl) := by
  intro pins s σ H R I h
  refine thn (hl pins s σ H _ I h) fun v s1 ⟨x, H1, I1, r1, q1⟩ => ?_
  obtain ⟨a, e, ⟨xs, hq⟩, q⟩ := q1
  subst e
  cases r1
  obtain ⟨its, rv, p, hz⟩ := I1.list hq
  refine wpAny_pyIter_list p.isList ?_
  refine ⟨s1.heap.objs.size, [s1.heap.objs.size], _, _, H1, rfl, I1.kept (t' := s1.toks) fun b o e => Heap.get?_push_of_some _ e, turn_list a _, ⟨_, Heap.get?_push_size _ rfl, rfl, rfl⟩, fun b hb => ?_, q⟩
  have e : b = s1.heap.objs.size := by simpa using hb
  subst e
  exact I1.fpOk (Nat.le_refl _) (I1.hok.fresh (Nat.le_refl _))
theorem pi_tup {l : Expr} {tl : TE} (hl : PE X l tl) : PI X tg l (iTup X.K tl) := by
  intro pins s σ H R I h
  refine thn (hl pins s σ H _ I h) fun v s1 ⟨x, H1, I1, r1, q1⟩ => ?_
  obtain ⟨a, e, ⟨xs, hq⟩, q⟩ := q1
  subst e
  cases r1
  obtain ⟨its, rv, p, hz⟩ := I1.tuple hq
  refine wpAny_pyIter_tuple (show s1.heap.IsTuple a its.toArray from p) ?_
  refine ⟨s1.heap.objs.size, [s1.heap.objs.size], _, _, H1, rfl, I1.kept (t' := s1.toks) fun b o e => Heap.get?_push_of_some _ e, turn_tuple a _, ⟨_, Heap.get?_push_size _ rfl, rfl, rfl⟩, fun b hb => ?_, q⟩
  have e : b = s1.heap.objs.size := by simpa using hb
  subst e
  exact I1.fpOk (Nat.le_refl _) (I1.hok.fresh (Nat.le_refl _))
theorem range_it {pins : List (Addr × Obj)} {σ : St} {H : Hp} {s : Shared} {R : It → Hp → Prop} {E : Value → Shared → Prop} {lo hi : Int} {t u v : Tok} {tk : Nat} (I : Inv X pins σ H s) (h1 : -(2 ^ 62) ≤ lo) (h2 : lo < 2 ^ 62) (h3 : -(2 ^ 62) ≤ hi) (h4 : hi < 2 ^ 62)
    (q : R (Itr lo (hi - lo).toNat) H) : wpAny (model X.prog X.w) X.A (pyIter (.ref s.heap.objs.size)) (PIE X pins σ tg R) E { s with heap := s.heap.push { cls := .type "range", data := .fields #[.int lo t, .int hi u, .int 1 v] }, toks := tk } := by
  refine wpAny_pyIter_range (IsRange.new ..) (small_one h1 h2 h3 h4) ?_
  have I1 : Inv X pins σ H { s with heap := s.heap.push { cls := .type "range", data := .fields #[.int lo t, .int hi u, .int 1 v] }, toks := tk } := I.kept fun b o e => Heap.get?_push_of_some _ e
  refine ⟨(s.heap.push { cls := .type "range", data := .fields #[.int lo t, .int hi u, .int 1 v] }).objs.size, [(s.heap.push { cls := .type "range", data := .fields #[.int lo t, .int hi u, .int 1 v] }).objs.size], _, _, H, rfl,
    I1.kept (t' := tk) fun b o e => Heap.get?_push_of_some _ e, turn_range _ lo (hi - lo).toNat, ?_, fun b hb => ?_, q⟩
  · have e1 : lo + ((0 : Nat) : Int) * 1 = lo := by simp
    have e2 : (((hi - lo).toNat : Nat) : Int) - ((0 : Nat) : Int) = Builtin.Range.rangeSize lo hi 1 := by rw [rangeSize_one]; split <;> omega
    show IsRangeIter _ _ (lo + ((0 : Nat) : Int) * 1) ((((hi - lo).toNat : Nat) : Int) - ((0 : Nat) : Int)) 1
    rw [e1, e2]
    exact Heap.get?_push_size _ rfl
  · have e : b = (s.heap.push { cls := .type "range", data := .fields #[.int lo t, .int hi u, .int 1 v] }).objs.size := by simpa using hb
    subst e
    exact I1.fpOk (Nat.le_refl _) (I1.hok.fresh (Nat.le_refl _))
def iRng1 (ta : TA) : TI := fun σ H R => ta σ H fun vs H1 => ∃ j : Int, vs = [.int j] ∧ -(2 ^ 62) ≤ j ∧ j < 2 ^ 62 ∧ R (Itr 0 j.toNat) H1
theorem pi_range1 {a : Expr} {ta : TA} {p pos : Pos} (hg : Gl X "range") (hm : X.mg "range" = none) (ha : PA X [a] ta) (hs : starEach [a] X.env = [(false, eval a X.env)] := by rfl) : PI X tg (.Call (.Name "range" p) [a] [] pos) (iRng1 ta) := by
  intro pins s σ H R I h
  refine Call_ (ld_blt I hg hm boot_range (PyProof.Rows.callWith_type1 (thn (ha pos pins s σ H _ I h) fun us s1 ⟨vs, H1, I1, r1, q1⟩ => ?_) hs rfl))
  obtain ⟨j, e, q1, q2, q⟩ := q1
  subst e
  cases r1 with
  | cons r rr =>
    cases rr
    obtain ⟨t, rfl⟩ := r
    exact call_range_1 (range_it I1 (by omega) (by omega) q1 q2 (by simpa using q))
def tFor (wi : TI) (g : TG) (tb : TS) : TS := fun D σ H => wi σ H fun J H1 => ∃ W : Nat → Nat → St → Hp → Prop, (∃ m, W 0 m σ H1) ∧ ∀ i m σ H, W i m σ H →
  (J.stop i H ∧ D.nx σ H) ∨ (J.go i H ∧ ∃ N : St → Hp → Prop, (∀ σ' H', N σ' H' → ∃ m', m' < m ∧ W (i + 1) m' σ' H') ∧ ∀ x H', J.yld i H x H' → g x σ H' fun σ2 H2 => tb { D with nx := N, ct := N, bk := D.nx } σ2 H2)
def pinsAt (fp : List Addr) (h : Heap) : List (Addr × Obj) := fp.filterMap fun b => (h.get? b).map fun o => (b, o)
theorem mem_pinsAt {fp : List Addr} {h : Heap} {b : Addr} {o : Obj} (hb : b ∈ fp) (e : h.get? b = some o) : (b, o) ∈ pinsAt fp h := List.mem_filterMap.mpr ⟨b, hb, by rw [e]; rfl⟩
theorem of_pinsAt {fp : List Addr} {h : Heap} {p : Addr × Obj} (hp : p ∈ pinsAt fp h) : p.1 ∈ fp ∧ h.get? p.1 = some p.2 := by
  obtain ⟨b, hb, e⟩ := List.mem_filterMap.mp hp
  cases q : h.get? b with
  | none => rw [q] at e; cases e
  | some o =>
    rw [q] at e
    have e' : (b, o) = p := Option.some.inj e
    subst e'
    exact ⟨hb, q⟩
theorem Inv.pinned {pins : List (Addr × Obj)} {σ : St} {H : Hp} {s : Shared} {fp : List Addr} (I : Inv X pins σ H s) (hf : ∀ b ∈ fp, FpOk X pins H b) (ho : ∀ b ∈ fp, ∃ o, s.heap.get? b = some o ∧ ∀ v, o.data ≠ .cell v) : Inv X (pins ++ pinsAt fp s.heap) σ H s :=
  I.pins_of fun p hp => (List.mem_append.mp hp).elim (fun z => I.pin p (List.mem_append_right _ z)) fun z => by
    obtain ⟨hb, e⟩ := of_pinsAt z
    obtain ⟨f0, f1, f2, _⟩ := hf p.1 hb
    obtain ⟨o, e', d⟩ := ho p.1 hb
    rw [e] at e'; cases e'
    exact ⟨e, f0, f1, f2, d⟩
theorem Inv.unpinned {pins pl : List (Addr × Obj)} {σ : St} {H : Hp} {s : Shared} (I : Inv X (pins ++ pl) σ H s) : Inv X pins σ H s := I.pins_of fun p hp => I.pin p (List.mem_append_right _ (List.mem_append_left _ hp))
theorem ps_for {iter : Expr} {body : List Stmt} {wi : TI} {g : TG} {tb : TS} {pos : Pos} (hp : PassesOwn (model X.prog X.w) X.A X.env X.xe) (hc : X.calm = true) (hi : PI X tg iter wi) (hg : PG X tg g) (hb : PSs X body tb)
    (hs : ∀ x, foldedSetIterable iter X.env x = pure x := by intro _; rfl) : PS X (.For tg iter body [] pos) (tFor wi g tb) := by
  intro pins s σ H D I h
  refine wpAny_For (thn (hi pins s σ H _ I h) fun v s1 h1 => thn h1 fun itv s2 h2 => ?_) hs
  obtain ⟨it, fp, tn, J, H2, e, I2, T, st2, f2, W, ⟨m0, w0⟩, turn⟩ := h2
  subst e
  -- what stays true of the iterator's objects through the loop
  have stat : ∀ {H' : Hp}, (∀ b ∈ fp, H' b = none) → ∀ b ∈ fp, FpOk X pins H' b := fun hn b hb => ⟨hn b hb, (f2 b hb).2⟩
  refine codeAny_forLoop_any (fun n s' => ∃ i σ' H', Inv X pins σ' H' s' ∧ tn i s'.heap ∧ (∀ b ∈ fp, H' b = none) ∧ W i n σ' H') ?_ m0 ⟨0, σ, H2, I2, st2, fun b hb => (f2 b hb).1, w0⟩
  rintro n s3 ⟨i, σ3, H3, I3, st3, fr3, w3⟩
  rcases turn i n σ3 H3 w3 with ⟨stop, qn⟩ | ⟨go, N, hN, step⟩
  · refine wpAny_passesOwn hp (thn (T.done X rfl rfl rfl hc i pins s3 σ3 H3 X.xe I3 (stat fr3) st3 stop) fun r s4 ⟨hr, I4⟩ => ?_)
    subst hr
    exact wpAny_execs_nil ⟨σ3, H3, I4, qn⟩
  · refine wpAny_passesOwn hp (thn (T.item X rfl rfl rfl hc i pins s3 σ3 H3 X.xe I3 (stat fr3) st3 go) fun r s4 ⟨u, hr, h4⟩ => ?_)
    subst hr
    refine wpAny_passesOwn hp (thn h4 fun _ s5 ⟨x, H5, I5, r5, y5, st5, fr5⟩ => ?_)
    have I5' := I5.pinned (stat fr5) (T.obj _ _ st5)
    refine wpAny_passesOwn hp (thn (hg _ s5 σ3 H5 x u _ I5' r5 (step x H5 y5)) fun _ s6 ⟨σ6, H6, I6, q6⟩ => ?_)
    refine wpAny_passesOwn hp (thn (hb _ s6 σ6 H6 _ I6 q6) fun f s7 q7 => ?_)
    have again : ∀ {σ7 : St} {H7 : Hp}, Inv X (pins ++ pinsAt fp s5.heap) σ7 H7 s7 → N σ7 H7 → ∃ m, m < n ∧ ∃ i σ' H', Inv X pins σ' H' s7 ∧ tn i s7.heap ∧ (∀ b ∈ fp, H' b = none) ∧ W i m σ' H' := fun {σ7 H7} I7 n7 => by
      obtain ⟨m', hm, w7⟩ := hN σ7 H7 n7
      refine ⟨m', hm, i + 1, σ7, H7, I7.unpinned, T.keep _ _ _ st5 fun b hb o e => (I7.pin (b, o) (List.mem_append_right _ (List.mem_append_right _ (mem_pinsAt hb e)))).1, fun b hb => ?_, w7⟩
      obtain ⟨o, e, d⟩ := T.obj _ _ st5 b hb
      exact (I7.pin (b, o) (List.mem_append_right _ (List.mem_append_right _ (mem_pinsAt hb e)))).2.1
    cases f with
    | next => obtain ⟨σ7, H7, I7, n7⟩ := q7; exact again I7 n7
    | cont => obtain ⟨σ7, H7, I7, n7⟩ := q7; exact again I7 n7
    | brk => obtain ⟨σ7, H7, I7, q7⟩ := q7; exact ⟨σ7, H7, I7.unpinned, q7⟩
    | ret v => obtain ⟨x7, σ7, H7, I7, r7, q7⟩ := q7; exact ⟨x7, σ7, H7, I7.unpinned, r7, q7⟩
end

theorem for_tup {K : PySem.W.Frag} {a : Addr} {xs : List V} {g : TG} {tb : TS} {D : Ends} {σ : St} {H : Hp} (Pv : Nat → St → Hp → Prop) (h0 : Pv 0 σ H) (hl : ∀ i σ H, i ≤ xs.length → Pv i σ H → SqT K H a xs)
    (hs : ∀ i x σ H, xs[i]? = some x → Pv i σ H → g x σ H fun σ2 H2 => tb { D with nx := Pv (i + 1), ct := Pv (i + 1), bk := D.nx } σ2 H2) (hd : ∀ σ H, Pv xs.length σ H → D.nx σ H) :
    ∃ W : Nat → Nat → St → Hp → Prop, (∃ m, W 0 m σ H) ∧ ∀ i m σ H, W i m σ H →
      ((Itt K a).stop i H ∧ D.nx σ H) ∨ ((Itt K a).go i H ∧ ∃ N : St → Hp → Prop, (∀ σ' H', N σ' H' → ∃ m', m' < m ∧ W (i + 1) m' σ' H') ∧ ∀ x H', (Itt K a).yld i H x H' → g x σ H' fun σ2 H2 => tb { D with nx := N, ct := N, bk := D.nx } σ2 H2) := by
  refine ⟨fun i m σ H => m = xs.length - i ∧ i ≤ xs.length ∧ Pv i σ H, ⟨xs.length, by simp, Nat.zero_le _, h0⟩, ?_⟩
  rintro i m σ H ⟨rfl, hi, p⟩
  have q := hl i σ H hi p
  by_cases hlt : i < xs.length
  · refine .inr ⟨⟨xs, xs[i], q, by simp [hlt]⟩, Pv (i + 1), fun σ' H' p' => ⟨xs.length - (i + 1), by omega, rfl, hlt, p'⟩, fun x H' y => ?_⟩
    obtain ⟨e, y⟩ := y
    subst e
    exact hs i x σ _ (y xs q) p
  · have e : i = xs.length := by omega
    subst e
    exact .inl ⟨⟨xs, q, Nat.le_refl _⟩, hd σ H p⟩
theorem for_range {lo : Int} {n : Nat} {g : TG} {tb : TS} {D : Ends} {σ : St} {H : Hp} (Pv : Nat → St → Hp → Prop) (h0 : Pv 0 σ H)
    (hs : ∀ i σ H, i < n → Pv i σ H → g (.int (lo + i)) σ H fun σ2 H2 => tb { D with nx := Pv (i + 1), ct := Pv (i + 1), bk := D.nx } σ2 H2) (hd : ∀ σ H, Pv n σ H → D.nx σ H) :
    ∃ W : Nat → Nat → St → Hp → Prop, (∃ m, W 0 m σ H) ∧ ∀ i m σ H, W i m σ H →
      ((Itr lo n).stop i H ∧ D.nx σ H) ∨ ((Itr lo n).go i H ∧ ∃ N : St → Hp → Prop, (∀ σ' H', N σ' H' → ∃ m', m' < m ∧ W (i + 1) m' σ' H') ∧ ∀ x H', (Itr lo n).yld i H x H' → g x σ H' fun σ2 H2 => tb { D with nx := N, ct := N, bk := D.nx } σ2 H2) := by
  refine ⟨fun i m σ H => m = n - i ∧ i ≤ n ∧ Pv i σ H, ⟨n, by simp, Nat.zero_le _, h0⟩, ?_⟩
  rintro i m σ H ⟨rfl, hi, p⟩
  by_cases hlt : i < n
  · refine .inr ⟨hlt, Pv (i + 1), fun σ' H' p' => ⟨n - (i + 1), by omega, rfl, hlt, p'⟩, fun x H' y => ?_⟩
    obtain ⟨e, y⟩ := y
    subst e y
    exact hs i σ _ hlt p
  · have e : i = n := by omega
    subst e
    exact .inl ⟨Nat.le_refl _, hd σ H p⟩
end L2

namespace L2
open PySem PySem.Spec PyProof.Rows

abbrev R2 := V → V → Hp → VK → Prop
def OpR (X : Cx) (f : Value → Value → Sem Value) (r : R2) : Prop :=
  ∀ (pins : List (Addr × Obj)) (s : Shared) (σ : St) (H : Hp) (x y : V) (v u : Value) (Q : VK), Inv X pins σ H s → RelV x v → RelV y u → r x y H Q →
    wpAny (model X.prog X.w) X.A (f v u) (EP X pins σ Q) X.xe s
def UnR (X : Cx) (f : Value → Sem Value) (r : V → Hp → VK → Prop) : Prop :=
  ∀ (pins : List (Addr × Obj)) (s : Shared) (σ : St) (H : Hp) (x : V) (v : Value) (Q : VK), Inv X pins σ H s → RelV x v → r x H Q →
    wpAny (model X.prog X.w) X.A (f v) (EP X pins σ Q) X.xe s
def CallR (X : Cx) (f : Value) (r : List V → Hp → VK → Prop) : Prop :=
  ∀ (pins : List (Addr × Obj)) (s : Shared) (σ : St) (H : Hp) (xs : List V) (us : List Value) (Q : VK), Inv X pins σ H s → Vals xs us → r xs H Q →
    wpAny (model X.prog X.w) X.A (call f us) (EP X pins σ Q) X.xe s
def TruR (X : Cx) (r : V → Hp → (Bool → Hp → Prop) → Prop) : Prop :=
  ∀ (pins : List (Addr × Obj)) (s : Shared) (σ : St) (H : Hp) (x : V) (v : Value) (Q : Bool → Hp → Prop), Inv X pins σ H s → RelV x v → r x H Q →
    wpAny (model X.prog X.w) X.A (truthy v) (TP X pins σ Q) X.xe s

def tOp (r : R2) (ta tb : TE) : TE := fun σ H Q => ta σ H fun x H1 => tb σ H1 fun y H2 => r x y H2 Q
def tUn (r : V → Hp → VK → Prop) (ta : TE) : TE := fun σ H Q => ta σ H fun x H1 => r x H1 Q
def rI (C : Int → Int → Prop) (g : Int → Int → V) : R2 := fun x y H Q => ∃ i j, x = .int i ∧ y = .int j ∧ C i j ∧ Q (g i j) H
def rI0 (g : Int → Int → V) : R2 := fun x y H Q => ∃ i j, x = .int i ∧ y = .int j ∧ Q (g i j) H
def rU (g : Int → V) : V → Hp → VK → Prop := fun x H Q => ∃ i, x = .int i ∧ Q (g i) H

section
variable {X : Cx} {a b c : Expr} {ta tb tc : TE} {pos : Pos}

theorem binT (ha : PE X a ta) (hb : PE X b tb) {pins : List (Addr × Obj)} {s : Shared} {σ : St} {H : Hp} {R : V → V → Hp → Prop} (I : Inv X pins σ H s)
    (h : ta σ H fun x H1 => tb σ H1 fun y H2 => R x y H2) {Q : Value → Shared → Prop} {f : Value → Value → Sem Value}
    (hf : ∀ v u s2 x y H2, Inv X pins σ H2 s2 → RelV x v → RelV y u → R x y H2 → wpAny (model X.prog X.w) X.A (f v u) Q X.xe s2) :
    wpAny (model X.prog X.w) X.A (eval a X.env) (fun v s₁ => wpAny (model X.prog X.w) X.A (eval b X.env) (fun u s₂ => wpAny (model X.prog X.w) X.A (f v u) Q X.xe s₂) X.xe s₁) X.xe s := by
  refine thn (ha pins s σ H _ I h) fun v s1 ⟨x, H1, I1, r1, q1⟩ => ?_
  refine thn (hb pins s1 σ H1 _ I1 q1) fun u s2 ⟨y, H2, I2, r2, q2⟩ => ?_
  exact hf v u s2 x y H2 I2 r1 r2 q2

theorem pe_op {op : Operator} {r : R2} (ho : OpR X (binaryOp op) r) (ha : PE X a ta) (hb : PE X b tb) : PE X (.BinOp a op b pos) (tOp r ta tb) := by
  intro pins s σ H Q I h
  exact wpAny_BinOp (binT ha hb I h fun v u s2 x y H2 I2 rx ry q => ho pins s2 σ H2 x y v u Q I2 rx ry q)
theorem pe_un {op : UnaryOp} {r : V → Hp → VK → Prop} (ho : UnR X (unaryOp op) r) (ha : PE X a ta) : PE X (.UnaryOp op a pos) (tUn r ta) := by
  intro pins s σ H Q I h
  exact UnaryOp_ (thn (ha pins s σ H _ I h) fun v s1 ⟨x, H1, I1, r1, q1⟩ => ho pins s1 σ H1 x v Q I1 r1 q1)
theorem opI {f : Value → Value → Sem Value} {C : Int → Int → Prop} {g : Int → Int → Int}
    (rule : ∀ (i j : Int) (t u : Tok) (s : Shared) (Q : Value → Shared → Prop) (E : Value → Shared → Prop), C i j → Q (.int (g i j) s.toks) { s with toks := s.toks + 1 } → wpAny (model X.prog X.w) X.A (f (.int i t) (.int j u)) Q E s) :
    OpR X f (rI C fun i j => .int (g i j)) := by
  intro pins s σ H x y v u Q I rx ry h
  obtain ⟨i, j, rfl, rfl, hc, q⟩ := h
  obtain ⟨t, rfl⟩ := rx
  obtain ⟨t', rfl⟩ := ry
  exact rule i j t t' s _ _ hc ⟨.int (g i j), H, I.tok _, ⟨_, rfl⟩, q⟩
theorem opI0 {f : Value → Value → Sem Value} {g : Int → Int → Int}
    (rule : ∀ (i j : Int) (t u : Tok) (s : Shared) (Q : Value → Shared → Prop) (E : Value → Shared → Prop), Q (.int (g i j) s.toks) { s with toks := s.toks + 1 } → wpAny (model X.prog X.w) X.A (f (.int i t) (.int j u)) Q E s) :
    OpR X f (rI0 fun i j => .int (g i j)) := by
  intro pins s σ H x y v u Q I rx ry h
  obtain ⟨i, j, rfl, rfl, q⟩ := h
  obtain ⟨t, rfl⟩ := rx
  obtain ⟨t', rfl⟩ := ry
  exact rule i j t t' s _ _ ⟨.int (g i j), H, I.tok _, ⟨_, rfl⟩, q⟩
theorem opB0 {f : Value → Value → Sem Value} {g : Int → Int → Bool}
    (rule : ∀ (i j : Int) (t u : Tok) (s : Shared) (Q : Value → Shared → Prop) (E : Value → Shared → Prop), Q (.bool (g i j)) s → wpAny (model X.prog X.w) X.A (f (.int i t) (.int j u)) Q E s) :
    OpR X f (rI0 fun i j => .bl (g i j)) := by
  intro pins s σ H x y v u Q I rx ry h
  obtain ⟨i, j, rfl, rfl, q⟩ := h
  obtain ⟨t, rfl⟩ := rx
  obtain ⟨t', rfl⟩ := ry
  exact rule i j t t' s _ _ ⟨.bl (g i j), H, I, rfl, q⟩

def CDivN (i j : Int) : Prop := j ≠ 0 ∧ j.natAbs < 1073741824
def CPow (i j : Int) : Prop := 0 ≤ j ∧ j ≤ 1000000 ∧ i.natAbs < 2 ^ 64
def CMul (i j : Int) : Prop := (-(2 ^ 64) < i ∧ i < 2 ^ 64) ∨ (-(2 ^ 64) < j ∧ j < 2 ^ 64)
theorem CMul.ok {i j : Int} (h : CMul i j) : IntMulOk i j := by
  rcases h with ⟨h1, h2⟩ | ⟨h1, h2⟩
  · exact .of_left (intBits_le_64 h1 h2)
  · exact .of_right (intBits_le_64 h1 h2)
theorem op_add : OpR X (binaryOp .Add) (rI0 fun i j => .int (i + j)) := opI0 fun _ _ _ _ _ _ _ q => add_int q
theorem op_sub : OpR X (binaryOp .Sub) (rI0 fun i j => .int (i - j)) := opI0 fun _ _ _ _ _ _ _ q => sub_int q
theorem op_mul : OpR X (binaryOp .Mult) (rI CMul fun i j => .int (i * j)) := opI fun _ _ _ _ _ _ _ hc q => mul_int q hc.ok
theorem op_fdivN : OpR X (binaryOp .FloorDiv) (rI CDivN fun i j => .int (i.fdiv j)) := opI fun _ _ _ _ _ _ _ hc q => floordiv_int hc.1 q (.inl (PyProof.noPylong_small hc.2))
theorem op_modN : OpR X (binaryOp .Mod) (rI (fun _ j => j ≠ 0) fun i j => .int (i.fmod j)) := opI fun _ _ _ _ _ _ _ hc q => mod_int' hc q
theorem op_pow : OpR X (binaryOp .Pow) (rI CPow fun i j => .int (i ^ j.toNat)) := opI fun _ _ _ _ _ _ _ hc q => pow_int_small hc.1 hc.2.1 hc.2.2 q
theorem unI {f : Value → Sem Value} {g : Int → Int}
    (rule : ∀ (i : Int) (t : Tok) (s : Shared) (Q : Value → Shared → Prop) (E : Value → Shared → Prop), Q (.int (g i) s.toks) { s with toks := s.toks + 1 } → wpAny (model X.prog X.w) X.A (f (.int i t)) Q E s) :
    UnR X f (rU fun i => .int (g i)) := by
  intro pins s σ H x v Q I rx h
  obtain ⟨i, rfl, q⟩ := h
  obtain ⟨t, rfl⟩ := rx
  exact rule i t s _ _ ⟨.int (g i), H, I.tok _, ⟨_, rfl⟩, q⟩
theorem un_neg : UnR X (unaryOp .USub) (rU fun i => .int (-i)) := unI fun _ _ _ _ _ q => neg_int q
end

def scal : V → V → Bool
  | .non, .non => true | .non, .int _ => true | .int _, .non => true | .non, .bl _ => true | .bl _, .non => true | .non, .str _ => true | .str _, .non => true
  | .int _, .int _ => true | .bl _, .bl _ => true | .str _, .str _ => true | .byt _, .byt _ => true
  | .int _, .str _ => true | .str _, .int _ => true | .bl _, .str _ => true | .str _, .bl _ => true
  | _, _ => false
def rEq : R2 := fun x y H Q => scal x y = true ∧ Q (.bl (decide (x = y))) H
def rNe : R2 := fun x y H Q => scal x y = true ∧ Q (.bl (!decide (x = y))) H

theorem dec_int {i j : Int} : decide (V.int i = V.int j) = (i == j) := by
  rw [Bool.eq_iff_iff]
  simp
theorem dec_bl {i j : Bool} : decide (V.bl i = V.bl j) = (i == j) := by
  rw [Bool.eq_iff_iff]
  simp
theorem dec_str {i j : Str} : decide (V.str i = V.str j) = (i == j) := by
  rw [Bool.eq_iff_iff]
  simp
theorem dec_byt {i j : Array UInt8} : decide (V.byt i = V.byt j) = (i.toList == j.toList) := by
  rw [Bool.eq_iff_iff]
  cases i
  cases j
  simp

section
variable {X : Cx} {a b c : Expr} {ta tb tc : TE} {pos : Pos}
theorem fin_bl {pins : List (Addr × Obj)} {σ : St} {H : Hp} {s : Shared} {Q : VK} {k k' : Bool} (I : Inv X pins σ H s) (q : Q (.bl k) H) (e : k = k') : EP X pins σ Q (.bool k') s := by
  subst e
  exact ⟨.bl k, H, I, rfl, q⟩
theorem op_eq : OpR X (compareOp .Eq) rEq := by
  intro pins s σ H x y v u Q I rx ry h
  obtain ⟨hs, q⟩ := h
  cases x with
  | non =>
    cases rx
    cases y with
    | non => cases ry; exact PySem.EqNone.eq_none_none (fin_bl I q (by simp))
    | bl j => cases ry; exact PySem.EqNone.eq_none_bool (fin_bl I q (by simp))
    | int j => obtain ⟨t', rfl⟩ := ry; exact PySem.EqNone.eq_none_int (fin_bl I q (by simp))
    | str j => obtain ⟨t', rfl⟩ := ry; exact PySem.EqNone.eq_none_str (fin_bl I q (by simp))
    | _ => exact absurd (show false = true from hs) Bool.false_ne_true
  | bl i =>
    cases rx
    cases y with
    | non => cases ry; exact PySem.EqNone.eq_bool_none (fin_bl I q (by simp))
    | bl j => cases ry; exact eq_bool (fin_bl I q dec_bl)
    | str j => obtain ⟨t', rfl⟩ := ry; exact PySem.EqMixed.eq_bool_str (fin_bl I q (by simp))
    | _ => exact absurd (show false = true from hs) Bool.false_ne_true
  | int i =>
    obtain ⟨t, rfl⟩ := rx
    cases y with
    | non => cases ry; exact PySem.EqNone.eq_int_none (fin_bl I q (by simp))
    | int j => obtain ⟨t', rfl⟩ := ry; exact eq_int (fin_bl I q dec_int)
    | str j => obtain ⟨t', rfl⟩ := ry; exact PySem.EqMixed.eq_int_str (fin_bl I q (by simp))
    | _ => exact absurd (show false = true from hs) Bool.false_ne_true
  | str i =>
    obtain ⟨t, rfl⟩ := rx
    cases y with
    | non => cases ry; exact PySem.EqNone.eq_str_none (fin_bl I q (by simp))
    | bl j => cases ry; exact PySem.EqMixed.eq_str_bool (fin_bl I q (by simp))
    | int j => obtain ⟨t', rfl⟩ := ry; exact PySem.EqMixed.eq_str_int (fin_bl I q (by simp))
    | str j => obtain ⟨t', rfl⟩ := ry; exact eq_str (fin_bl I q dec_str)
    | _ => exact absurd (show false = true from hs) Bool.false_ne_true
  | byt i =>
    obtain ⟨t, rfl⟩ := rx
    cases y with
    | byt j => obtain ⟨t', rfl⟩ := ry; exact PySem.W.eq_bytes (fin_bl I q dec_byt)
    | _ => exact absurd (show false = true from hs) Bool.false_ne_true
  | _ => cases y <;> exact absurd (show false = true from hs) Bool.false_ne_true
theorem op_ne : OpR X (compareOp .NotEq) rNe := by
  intro pins s σ H x y v u Q I rx ry h
  obtain ⟨hs, q⟩ := h
  cases x with
  | non =>
    cases rx
    cases y with
    | non => cases ry; exact PySem.EqNone.ne_none_none (fin_bl I q (by simp))
    | bl j => cases ry; exact PySem.EqNone.ne_none_bool (fin_bl I q (by simp))
    | int j => obtain ⟨t', rfl⟩ := ry; exact PySem.EqNone.ne_none_int (fin_bl I q (by simp))
    | str j => obtain ⟨t', rfl⟩ := ry; exact PySem.EqNone.ne_none_str (fin_bl I q (by simp))
    | _ => exact absurd (show false = true from hs) Bool.false_ne_true
  | bl i =>
    cases rx
    cases y with
    | non => cases ry; exact PySem.EqNone.ne_bool_none (fin_bl I q (by simp))
    | bl j => cases ry; exact ne_bool (fin_bl I q (congrArg not dec_bl))
    | str j => obtain ⟨t', rfl⟩ := ry; exact PySem.EqMixed.ne_bool_str (fin_bl I q (by simp))
    | _ => exact absurd (show false = true from hs) Bool.false_ne_true
  | int i =>
    obtain ⟨t, rfl⟩ := rx
    cases y with
    | non => cases ry; exact PySem.EqNone.ne_int_none (fin_bl I q (by simp))
    | int j => obtain ⟨t', rfl⟩ := ry; exact ne_int (fin_bl I q (congrArg not dec_int))
    | str j => obtain ⟨t', rfl⟩ := ry; exact PySem.EqMixed.ne_int_str (fin_bl I q (by simp))
    | _ => exact absurd (show false = true from hs) Bool.false_ne_true
  | str i =>
    obtain ⟨t, rfl⟩ := rx
    cases y with
    | non => cases ry; exact PySem.EqNone.ne_str_none (fin_bl I q (by simp))
    | bl j => cases ry; exact PySem.EqMixed.ne_str_bool (fin_bl I q (by simp))
    | int j => obtain ⟨t', rfl⟩ := ry; exact PySem.EqMixed.ne_str_int (fin_bl I q (by simp))
    | str j => obtain ⟨t', rfl⟩ := ry; exact ne_str (fin_bl I q (congrArg not dec_str))
    | _ => exact absurd (show false = true from hs) Bool.false_ne_true
  | byt i =>
    obtain ⟨t, rfl⟩ := rx
    cases y with
    | byt j => obtain ⟨t', rfl⟩ := ry; exact PySem.W.ne_bytes (fin_bl I q (congrArg not dec_byt))
    | _ => exact absurd (show false = true from hs) Bool.false_ne_true
  | _ => cases y <;> exact absurd (show false = true from hs) Bool.false_ne_true

theorem op_lt : OpR X (compareOp .Lt) (rI0 fun i j => .bl (decide (i < j))) := opB0 fun _ _ _ _ _ _ _ q => lt_int q
theorem op_gt : OpR X (compareOp .Gt) (rI0 fun i j => .bl (decide (j < i))) := opB0 fun _ _ _ _ _ _ _ q => gt_int q
theorem op_ge : OpR X (compareOp .GtE) (rI0 fun i j => .bl (decide (j ≤ i))) := opB0 fun _ _ _ _ _ _ _ q => ge_int q
theorem op_isN : OpR X (compareOp .Is) (fun x y H Q => y = .non ∧ Q (.bl (decide (x = .non))) H) := by
  intro pins s σ H x y v u Q I rx ry h
  obtain ⟨rfl, q⟩ := h
  cases ry
  refine is_none_gen (fin_bl I q ?_)
  cases x <;> first
    | (cases rx; rfl)
    | (obtain ⟨t, rfl⟩ := rx; rfl)
theorem nomark (b : Expr) {op : CmpOp} (h : op ≠ .In := by decide) (h2 : op ≠ .NotIn := by decide) : behindInMarks op b = false := by
  have e1 : (op == CmpOp.In) = false := by cases op <;> first | rfl | exact absurd rfl h
  have e2 : (op == CmpOp.NotIn) = false := by cases op <;> first | rfl | exact absurd rfl h2
  cases b <;> simp [behindInMarks, e1, e2]
theorem pe_cmpR {op : CmpOp} {r : R2} (ho : OpR X (compareOp op) r) (ha : PE X a ta) (hb : PE X b tb) (hm : behindInMarks op b = false) : PE X (.Compare a [op] [b] pos) (tOp r ta tb) := by
  intro pins s σ H Q I h
  exact wpAny_Compare1 (binT ha hb I h fun v u s2 x y H2 I2 rx ry q => ho pins s2 σ H2 x y v u Q I2 rx ry q) hm
def tTest (t : TE) : TT := fun σ H Q => t σ H fun x H' => ∃ k, x = .bl k ∧ Q k H'
theorem pt_cmpR {op : CmpOp} {r : R2} (ho : OpR X (compareOp op) r) (ha : PE X a ta) (hb : PE X b tb) (hm : behindInMarks op b = false) : PT X (.Compare a [op] [b] pos) (tTest (tOp r ta tb)) := by
  intro pins s σ H Q I h
  refine wpAny_isTrue_Compare1 (thn (ha pins s σ H _ I h) fun v s1 ⟨x, H1, I1, r1, q1⟩ => thn (hb pins s1 σ H1 _ I1 q1) fun u s2 ⟨y, H2, I2, r2, q2⟩ =>
    thn (ho pins s2 σ H2 x y v u _ I2 r1 r2 q2) fun c s3 ⟨z, H3, I3, r3, k, e, q3⟩ => ?_) hm
  subst e
  cases r3
  exact wpAny_truthy_bool ⟨H3, I3, q3⟩
def TruV (K : PySem.W.Frag) (x : V) (H : Hp) (k : Bool) : Prop :=
  match x with
  | .non => k = false
  | .bl b => k = b
  | .int i => k = (i != 0)
  | .str y => y.length ≤ sizeLine ∧ k = ((y.length : Int) != 0)
  | .byt y => y.size ≤ sizeLine ∧ k = ((y.size : Int) != 0)
  | .ref p => (∃ xs, SqL K H p xs ∧ k = !xs.isEmpty) ∨ (∃ xs, SqT K H p xs ∧ k = !xs.isEmpty) ∨ ∃ kvs, H p = some (.dK kvs) ∧ k = !kvs.isEmpty
  | _ => False
theorem isEmpty_kv {κ : Type} {kvs : List (κ × V)} {vs : List (κ × Value)} (r : KV kvs vs) : (!vs.isEmpty) = !kvs.isEmpty := by
  cases r <;> rfl
theorem isEmpty_of {xs : List V} {its : List Value} (r : Vals xs its) : (!its.toArray.isEmpty) = !xs.isEmpty := by
  cases r <;> simp
theorem line63 : (sizeLine : Nat) < 2 ^ 63 := by rw [sizeLine_eq]; decide
theorem tru_ok : TruR X (fun x H Q => ∃ k, TruV X.K x H k ∧ Q k H) := by
  intro pins s σ H x v Q I rx h
  obtain ⟨k, e, q⟩ := h
  have hl := line63
  have hs : sizeLine = 16777216 := sizeLine_eq
  cases x with
  | non =>
    cases rx
    have e' : k = false := e
    subst e'
    exact truthy_none ⟨H, I, q⟩
  | bl b =>
    cases rx
    have e' : k = b := e
    subst e'
    exact wpAny_truthy_bool ⟨H, I, q⟩
  | int i =>
    obtain ⟨t, rfl⟩ := rx
    have e' : k = (i != 0) := e
    subst e'
    exact PySem.P.truthy_int ⟨H, I, q⟩
  | str y =>
    obtain ⟨t, rfl⟩ := rx
    obtain ⟨hy, e'⟩ : y.length ≤ sizeLine ∧ k = ((y.length : Int) != 0) := e
    subst e'
    exact PySem.P.truthy_str (by omega) ⟨H, I.tok _, q⟩
  | byt y =>
    obtain ⟨t, rfl⟩ := rx
    obtain ⟨hy, e'⟩ : y.size ≤ sizeLine ∧ k = ((y.size : Int) != 0) := e
    subst e'
    exact PySem.W.truthy_bytes (by omega) ⟨H, I.tok _, q⟩
  | ref p =>
    cases rx
    have e' : (∃ xs, SqL X.K H p xs ∧ k = !xs.isEmpty) ∨ (∃ xs, SqT X.K H p xs ∧ k = !xs.isEmpty) ∨ ∃ kvs, H p = some (.dK kvs) ∧ k = !kvs.isEmpty := e
    rcases e' with ⟨xs, hx, e'⟩ | ⟨xs, hx, e'⟩ | ⟨kvs, hx, e'⟩
    · subst e'
      obtain ⟨its, r, pl, hz⟩ := I.list hx
      have hlen := r.length
      exact wpAny_truthy_list pl.isList (by simp only [List.size_toArray]; omega) ⟨H, I.tok _, by rw [isEmpty_of r]; exact q⟩
    · subst e'
      obtain ⟨its, r, pl, hz⟩ := I.tuple hx
      have hlen := r.length
      exact truthy_tuple pl (by simp only [List.size_toArray]; omega) ⟨H, I.tok _, by rw [isEmpty_of r]; exact q⟩
    · subst e'
      obtain ⟨hz, hS, vs, r, m⟩ : kvs.length ≤ sizeLine ∧ (p == sysModules) = false ∧ ∃ vs, KV kvs vs ∧ s.heap.DictOf (mixKind X.prog X.w) p vs := I.hok p _ hx
      have hlen : kvs.length = vs.length := Paired.length r
      exact wpAny_truthy_dict hS m (by omega) ⟨H, I.tok _, by rw [isEmpty_kv r]; exact q⟩
  | _ => exact (show False from e).elim
theorem pt_truth (ha : PE X a ta) (he : ∀ whole, isTrue a X.env whole = (do let v ← whole; standAt a.pos; holding [v] (truthy v))) :
    PT X a (fun σ H Q => ta σ H fun x H' => ∃ k, TruV X.K x H' k ∧ Q k H') := by
  intro pins s σ H Q I h
  exact isTrue_plain (thn (ha pins s σ H _ I h) fun v s1 ⟨x, H1, I1, r1, q1⟩ => tru_ok pins s1 σ H1 x v Q I1 r1 q1) (he _)

theorem vals1 {x : V} {us : List Value} (r : Vals [x] us) : ∃ u, us = [u] ∧ RelV x u := by
  cases r with
  | cons r1 r2 => cases r2; exact ⟨_, rfl, r1⟩
theorem call_abs : CallR X (.builtin "abs") (fun xs H Q => ∃ i, xs = [.int i] ∧ Q (.int (if i < 0 then -i else i)) H) := by
  intro pins s σ H xs us Q I r h
  obtain ⟨i, rfl, q⟩ := h
  obtain ⟨u, rfl, t, rfl⟩ := vals1 r
  exact call_abs_int fun u tk => ⟨.int (if i < 0 then -i else i), H, I.tok _, ⟨_, rfl⟩, q⟩
theorem call_int1 : CallR X (.type "int") (fun xs H Q => (∃ i, xs = [.int i] ∧ Q (.int i) H) ∨ ∃ k, xs = [.bl k] ∧ Q (.int (if k then 1 else 0)) H) := by
  intro pins s σ H xs us Q I r h
  rcases h with ⟨i, rfl, q⟩ | ⟨k, rfl, q⟩
  · obtain ⟨u, rfl, t, rfl⟩ := vals1 r
    exact call_int_int ⟨.int i, H, I, ⟨_, rfl⟩, q⟩
  · obtain ⟨u, rfl, r1⟩ := vals1 r
    cases r1
    exact call_int_bool ⟨.int (if k then 1 else 0), H, I.tok _, ⟨_, rfl⟩, q⟩
def LenV (K : PySem.W.Frag) (x : V) (H : Hp) (n : Nat) : Prop :=
  match x with
  | .str y => y.length ≤ sizeLine ∧ n = y.length
  | .byt y => y.size ≤ sizeLine ∧ n = y.size
  | .ref p => (∃ xs, SqL K H p xs ∧ n = xs.length) ∨ ∃ xs, SqT K H p xs ∧ n = xs.length
  | _ => False
theorem call_len : CallR X (.builtin "len") (fun xs H Q => ∃ x n, xs = [x] ∧ LenV X.K x H n ∧ Q (.int n) H) := by
  intro pins s σ H xs us Q I r h
  obtain ⟨x, n, rfl, e, q⟩ := h
  obtain ⟨u, rfl, rx⟩ := vals1 r
  have hl := line63
  have hs : sizeLine = 16777216 := sizeLine_eq
  cases x with
  | str y =>
    obtain ⟨t, rfl⟩ := rx
    obtain ⟨hy, e'⟩ : y.length ≤ sizeLine ∧ n = y.length := e
    subst e'
    exact len_str (by omega) ⟨.int _, H, I.tok _, ⟨_, rfl⟩, q⟩
  | byt y =>
    obtain ⟨t, rfl⟩ := rx
    obtain ⟨hy, e'⟩ : y.size ≤ sizeLine ∧ n = y.size := e
    subst e'
    exact PySem.W.len_bytes (by omega) ⟨.int _, H, I.tok _, ⟨_, rfl⟩, q⟩
  | ref p =>
    cases rx
    have e' : (∃ xs, SqL X.K H p xs ∧ n = xs.length) ∨ ∃ xs, SqT X.K H p xs ∧ n = xs.length := e
    rcases e' with ⟨xs, hx, e'⟩ | ⟨xs, hx, e'⟩
    · subst e'
      obtain ⟨its, r', pl, hz⟩ := I.list hx
      have hlen := r'.length
      exact Calls.call_len_list pl.isList (by simp only [List.size_toArray]; omega) ⟨.int xs.length, H, I.tok _, ⟨_, by simp only [List.size_toArray]; rw [hlen]⟩, q⟩
    · subst e'
      obtain ⟨its, r', pl, hz⟩ := I.tuple hx
      have hlen := r'.length
      exact len_tuple pl (by simp only [List.size_toArray]; omega) ⟨.int xs.length, H, I.tok _, ⟨_, by simp only [List.size_toArray]; rw [hlen]⟩, q⟩
  | _ => exact (show False from e).elim
end
end L2

namespace L2
open PySem PySem.Spec PyProof.Rows

structure ObjM (h : Heap) (x dx C : Addr) (mA : Str → Option Value) : Prop where
  obj : h.get? x = some (PySem.W.instObj C dx)
  ns : h.Ns1 dx mA
  ne : dx ≠ x

theorem lookIn_ns {h : Heap} {dx : Addr} {mA : Str → Option Value} (n : h.Ns1 dx mA) : ∃ od, h.get? dx = some od ∧ ∀ name, PySem.W.lookIn name od = some (mA name) := by
  obtain ⟨o, es, ep, ho, hd, hk, _, hm⟩ := n
  refine ⟨o, ho, fun name => ?_⟩
  have e := hm name
  unfold nsFind findBy at e
  rw [← Array.find?_toList] at e
  unfold PySem.W.lookIn
  rw [hd]
  dsimp only
  split
  · rename_i y q
    rw [q] at e
    exact congrArg some e
  · rename_i q
    rw [q] at e
    have a : es.toList.any (·.refKey) = false := by
      rw [List.any_eq_false]
      intro y hy
      obtain ⟨z, t, hkey⟩ := hk y (Array.mem_toList_iff.mp hy)
      simp [DictEntry.refKey, hkey]
    have a' : ¬ es.toList.any (·.refKey) = true := by rw [a]; exact Bool.false_ne_true
    rw [if_neg a']
    exact congrArg some e

theorem ObjM.look {h : Heap} {x dx C : Addr} {mA : Str → Option Value} (I : ObjM h x dx C mA) : ∃ od, PySem.W.InstAt h x (PySem.W.instObj C dx) C (some od) ∧ ∀ name, PySem.W.lookIn name od = some (mA name) :=
  let ⟨od, ho, hl⟩ := lookIn_ns I.ns
  ⟨od, ⟨I.obj, rfl, rfl, ho⟩, hl⟩

section
variable {prog : Program} {w : World} {A : Around} {E : Value → Shared → Prop} {s : Shared} {K : PySem.W.Frag} {x dx C f : Addr} {mA : Str → Option Value} {name : Str} {v : Value}

end

section
variable {P : Program} {w : World} {H H' : Hp} {h h' : Heap} {a C dx : Addr} {fs fs' : List (Str × V)}
theorem ins_get (hok : HOk P w H h) (e : H a = some (.ins C dx fs)) : ∃ mA, ObjM h a dx C mA ∧ (∀ f, RelO (fs.lookup f) (mA f)) ∧ PySem.Within mA (fs.map (·.1)) ∧ fs.length ≤ 1000 ∧ H dx = some (.own a) := by
  obtain ⟨d, z, ne, ob, mA, n, r, q⟩ := (show ObjOk P w H h a (.ins C dx fs) from hok a _ e)
  exact ⟨mA, ⟨ob, n, ne⟩, r, q, z, d⟩
end

structure Cls (K : PySem.W.Frag) (C : Addr) : Prop where
  pg : PySem.W.plainGet K C Str.empty = true
  hd : PySem.W.hasDictIn K C = true
  po : PySem.W.plainOver K C = true
  sa : PySem.W.findIn K (.ref C) "__setattr__" = some (some (.builtin "object.__setattr__"))
theorem Cls.get {K : PySem.W.Frag} {C : Addr} (c : Cls K C) (f : Str) : PySem.W.plainGet K C f = true := c.pg
structure Con (K : PySem.W.Frag) (C : Addr) (f : Str) (v : V) (u : Value) : Prop where
  at_ : PySem.W.findIn K (.ref C) f = some (some u)
  rel : RelV v u
  get : PySem.W.specialIn K u "__get__" = some none
  cp : PySem.W.copiedNames.contains f = false
structure Meth (K : PySem.W.Frag) (C : Addr) (m : Str) (f : Addr) : Prop where
  at_ : PySem.W.findIn K (.ref C) m = some (some (.ref f))
  fn : PySem.W.isFn K (.ref f) = true
  kp : PySem.W.keepIn K (.ref f) = true

section
variable {X : Cx} {pins : List (Addr × Obj)} {σ : St} {H : Hp} {s : Shared} {a C dx : Addr} {fs : List (Str × V)} {f : Str} {v : V} {A : Around} {E : Value → Shared → Prop}

theorem Inv.made (I : Inv X pins σ H s) : Inv X pins σ (upd (upd H s.heap.objs.size (.own (s.heap.objs.size + 1))) (s.heap.objs.size + 1) (.ins C s.heap.objs.size []))
    { s with heap := (s.heap.push PySem.W.emptyDict).push (PySem.W.instObj C s.heap.objs.size) } := by
  have e1 : (s.heap.push PySem.W.emptyDict).get? s.heap.objs.size = some PySem.W.emptyDict := Heap.get?_push_size s.heap rfl
  have e2 : ((s.heap.push PySem.W.emptyDict).push (PySem.W.instObj C s.heap.objs.size)).get? (s.heap.objs.size + 1) = some (PySem.W.instObj C s.heap.objs.size) := by
    have := Heap.get?_push_size (s.heap.push PySem.W.emptyDict) (o := PySem.W.instObj C s.heap.objs.size) rfl
    rwa [Heap.size_push] at this
  have e3 : (s.heap.push PySem.W.emptyDict).Ns s.heap.objs.size (fun _ => none) := ⟨PySem.W.emptyDict, #[], _, e1, rfl, (fun e he => absurd he (by simp)), fun _ => rfl⟩
  have I1 := I.laid (a := s.heap.objs.size) (o := .own (s.heap.objs.size + 1)) (h' := s.heap.push PySem.W.emptyDict) (t' := s.toks) (fun b u q => Heap.get?_push_of_some _ q) (Nat.le_refl _) ⟨_, e1⟩
  refine I1.laid (a := s.heap.objs.size + 1) (o := .ins C s.heap.objs.size []) (t' := s.toks) (fun b u q => Heap.get?_push_of_some _ q) (Nat.le_of_eq (Heap.size_push _ _)) ?_
  have ne : s.heap.objs.size ≠ s.heap.objs.size + 1 := Nat.ne_of_lt (Nat.lt_succ_self _)
  refine ⟨by rw [upd_ne ne, upd_same], Nat.zero_le _, ne, e2, fun _ => none, (Heap.Ns1.of_empty e3).at fun o q => Heap.get?_push_of_some _ q, fun _ => True.intro, fun y hy => absurd rfl hy⟩

end

section
variable {X : Cx} {o e value : Expr} {f : Str} {pos pos' tpos : Pos} {ta tv : TE}
end

section
variable {X : Cx} {pins : List (Addr × Obj)} {σ : St} {H : Hp} {s : Shared} {A : Around} {E : Value → Shared → Prop} {Q : Value → Shared → Prop} {c : Value} {b : Bool}
inductive TyOf (K : PySem.W.Frag) (H : Hp) : V → Value → Prop where
  | non : TyOf K H .non (.type "NoneType")
  | bl (x : Bool) : TyOf K H (.bl x) (.type "bool")
  | int (i : Int) : TyOf K H (.int i) (.type "int")
  | str (x : Str) : TyOf K H (.str x) (.type "str")
  | flt (x : UInt64) : TyOf K H (.flt x) (.type "float")
  | lst {a : Addr} {xs : List V} (e : H a = some (.lst xs)) : TyOf K H (.ref a) (.type "list")
  | frz {a : Addr} {o : Obj} {xs : List V} (e : H a = some (.frz o (.lst xs))) : TyOf K H (.ref a) (.type "list")
  | tup {a : Addr} {xs : List V} (e : H a = some (.tup xs)) : TyOf K H (.ref a) (.type "tuple")
  | dK {a : Addr} {kvs : List (Key × V)} (e : H a = some (.dK kvs)) : TyOf K H (.ref a) (.type "dict")
  | dT {a : Addr} {kvs : List (List Key × V)} (e : H a = some (.dT kvs)) : TyOf K H (.ref a) (.type "dict")
  | ins {a C dx : Addr} {fs : List (Str × V)} (e : H a = some (.ins C dx fs)) (cl : Cls K C) (ha : PySem.W.findIn K (.ref C) "__class__" = some (some (.builtin "object.__class__")))
      (hn : PySem.W.specialIn K (.builtin "object.__class__") "__get__" = some (some (.builtin "getset_descriptor.__get__"))) (htk : PySem.W.takesIn K (.builtin "object.__class__") = some true)
      (hm : PySem.W.mroIn K C (.type "object") = some true) : TyOf K H (.ref a) (.ref C)
theorem isinst_ok {x : V} {u t : Value} (I : Inv X pins σ H s) (rx : RelV x u) (ty : TyOf X.K H x t) (e : PySem.W.kitOne X.K t c = some b) (h : ∀ tk, Q (.bool b) { s with toks := tk }) :
    wpAny (model X.prog X.w) A (call (.builtin "isinstance") [u, c]) Q E s := by
  cases ty with
  | non => cases (show u = Value.none from rx); exact PySem.W.kia_one PySem.W.kitx_none I.kIn True.intro e (fun z => nomatch z) h
  | bl y => cases (show u = Value.bool y from rx); exact PySem.W.kia_one PySem.W.kitx_bool I.kIn True.intro e (fun z => nomatch z) h
  | int i => obtain ⟨t, q⟩ := (show ∃ t, u = Value.int i t from rx); cases q; exact PySem.W.kia_one PySem.W.kitx_int I.kIn True.intro e (fun z => nomatch z) h
  | str y => obtain ⟨t, q⟩ := (show ∃ t, u = Value.str y t from rx); cases q; exact PySem.W.kia_one PySem.W.kitx_str I.kIn True.intro e (fun z => nomatch z) h
  | flt y => obtain ⟨t, q⟩ := (show ∃ t, u = Value.float y t from rx); cases q; exact PySem.W.kia_one PySem.W.kitx_float I.kIn True.intro e (fun z => nomatch z) h
  | @lst a xs ea =>
    cases (show u = Value.ref a from rx)
    obtain ⟨_, _, n, _, h1⟩ := (show ObjOk X.prog X.w H s.heap a (.lst xs) from I.hok a _ ea)
    exact PySem.W.kia_one PySem.W.kitx_list I.kIn ⟨_, h1, rfl⟩ e (fun z => nomatch z) h
  | @frz a ob xs ea =>
    cases (show u = Value.ref a from rx)
    obtain ⟨_, _, _, n, _, h1⟩ := (show ObjOk X.prog X.w H s.heap a (.frz ob (.lst xs)) from I.hok a _ ea)
    exact PySem.W.kia_one PySem.W.kitx_list I.kIn ⟨_, h1, rfl⟩ e (fun z => nomatch z) h
  | @tup a xs ea =>
    cases (show u = Value.ref a from rx)
    obtain ⟨_, _, _, p⟩ := (show ObjOk X.prog X.w H s.heap a (.tup xs) from I.hok a _ ea)
    obtain ⟨o, h1, h2, _⟩ := p
    exact PySem.W.kia_one PySem.W.kitx_tuple I.kIn ⟨o, h1, h2⟩ e (fun z => nomatch z) h
  | @dK a kvs ea =>
    cases (show u = Value.ref a from rx)
    obtain ⟨_, _, vs, _, p⟩ := (show ObjOk X.prog X.w H s.heap a (.dK kvs) from I.hok a _ ea)
    obtain ⟨o, es, ep, h1, h2, _⟩ := p
    exact PySem.W.kia_one PySem.W.kitx_dict I.kIn ⟨o, h1, h2.1⟩ e (fun z => nomatch z) h
  | @dT a kvs ea =>
    cases (show u = Value.ref a from rx)
    obtain ⟨_, _, xs, _, o, es, ep, h1, h2, _⟩ := (show ObjOk X.prog X.w H s.heap a (.dT kvs) from I.hok a _ ea)
    exact PySem.W.kia_one PySem.W.kitx_dict I.kIn ⟨o, h1, h2.1⟩ e (fun z => nomatch z) h
  | @ins a C dx fs ea cl ha hn htk hm =>
    cases (show u = Value.ref a from rx)
    obtain ⟨mA, O, _⟩ := ins_get I.hok ea
    obtain ⟨od, J, _⟩ := O.look
    exact PySem.W.kia_one (PySem.W.kitx_own (cl.get _) cl.hd ha hn htk hm) I.kIn J e (fun z => nomatch z) h
end
end L2

namespace L2
open PySem PySem.Spec PyProof.Rows

structure Room (k : Nat) (A : Around) : Prop where
  hd : A.handled = none
  dp : A.depth + 3 * k + 5 < recursionLimit
  un : A.units + 16 * k + 200 < cLine
  gd : A.guards = some []
theorem Room.mono {j k : Nat} {A : Around} (r : Room k A) (h : j ≤ k) : Room j A := ⟨r.hd, by have := r.dp; omega, by have := r.un; omega, r.gd⟩
theorem Room.deeper {k : Nat} {A : Around} (r : Room (k + 1) A) (env : Env) : Room k (A.deeper env) :=
  ⟨r.hd, by have := r.dp; show A.depth + 1 + 3 * k + 5 < _; omega, by have := r.un; show A.units + 3 + 16 * k + 200 < _; omega, r.gd⟩
theorem Room.in1 {k : Nat} {A : Around} (r : Room (k + 1) A) : Room k A.in1 :=
  ⟨r.hd, by have := r.dp; show A.depth + 3 * k + 5 < _; omega, by have := r.un; show A.units + 1 + 16 * k + 200 < _; omega, r.gd⟩
theorem Room.depth {k : Nat} {A : Around} (r : Room k A) : A.depth < recursionLimit := by have := r.dp; omega
theorem Room.units {k : Nat} {A : Around} (r : Room k A) : A.units + 64 < cLine := by have := r.un; omega
def tNil : TA := fun _ H Q => Q [] H
def tCons (ta : TE) (tr : TA) : TA := fun σ H Q => ta σ H fun x H1 => tr σ H1 fun xs H2 => Q (x :: xs) H2
section
variable {X : Cx} {e : Expr} {es : List Expr} {te : TE} {t : TA} {pos : Pos}
theorem pa_nil : PA X [] tNil := fun _ _ _ _ H Q I h => Calls.spliced_nil ⟨[], H, I, .nil, h⟩
theorem pa_cons (ha : PE X e te) (hr : PA X es t) (hs : starEach (e :: es) X.env = (false, eval e X.env) :: starEach es X.env := by rfl) : PA X (e :: es) (tCons te t) := by
  intro pos pins s σ H Q I h
  rw [hs]
  show wpAny _ _ (spliced ((false, eval e X.env) :: backTo pos (starEach es X.env))) _ _ s
  refine Calls.spliced_cons (thn (ha pins s σ H _ I h) fun u s1 ⟨x, H1, I1, r1, q1⟩ => ?_)
  exact thn (hr pos pins s1 σ H1 _ I1 q1) fun us s2 ⟨xs, H2, I2, r2, q2⟩ => ⟨x :: xs, H2, I2, .cons r1 r2, q2⟩

def tTup (t : TA) : TE := fun σ H Q => t σ H fun xs H1 => xs.length ≤ sizeLine ∧ ∀ p, H1 p = none → Q (.ref p) (upd H1 p (.tup xs))
def tLst (t : TA) : TE := fun σ H Q => t σ H fun xs H1 => xs.length ≤ sizeLine ∧ ∀ p, H1 p = none → Q (.ref p) (upd H1 p (.lst xs))
theorem pe_tup {x1} (h : PA X es t) : PE X (.Tuple es x1 pos) (tTup t) := by
  intro pins s σ H Q I hq
  refine wpAny_Tuple_spliced (thn (h pos pins s σ H _ I hq) fun us s1 ⟨xs, H1, I1, r, z, q⟩ => ⟨by rw [← r.length]; exact z, ?_⟩)
  have hf : H1 s1.heap.objs.size = none := I1.hok.fresh (Nat.le_refl _)
  refine ⟨.ref s1.heap.objs.size, upd H1 s1.heap.objs.size (.tup xs), I1.laid (t' := s1.toks) (fun b u e => Heap.get?_push_of_some _ e) (Nat.le_refl _) ?_, rfl, q _ hf⟩
  exact ⟨z, us, r, ⟨_, Heap.get?_push_size _ rfl, rfl, _, rfl⟩⟩
theorem pe_lst (h : PA X es t) : PE X (.List es pos) (tLst t) := by
  intro pins s σ H Q I hq
  refine wpAny_List_spliced (thn (h pos pins s σ H _ I hq) fun us s1 ⟨xs, H1, I1, r, z, q⟩ => ⟨by rw [← r.length]; exact z, ?_⟩)
  have hf : H1 s1.heap.objs.size = none := I1.hok.fresh (Nat.le_refl _)
  refine ⟨.ref s1.heap.objs.size, upd H1 s1.heap.objs.size (.lst xs), I1.laid (t' := s1.toks) (fun b u e => Heap.get?_push_of_some _ e) (Nat.le_refl _) ?_, rfl, q _ hf⟩
  exact ⟨z, us, 0, r, Heap.get?_push_size _ rfl⟩
end

abbrev Sp := List V → Hp → VK → XK → Prop
abbrev CXT := List Env → Hp → Shared → XK → Value → Shared → Prop

structure Env0 (P : Program) (w : World) (K : PySem.W.Frag) (mg : Str → Option Value) (base : Heap) (A : Around) (outer : List Env) (s : Shared) (H : Hp) : Prop where
  frames : A.frames = some outer
  mod : Mod K mg base
  bs : ∀ b o, base.get? b = some o → s.heap.get? b = some o ∧ H b = none
  bsz : base.objs.size ≤ s.heap.objs.size
  funs : s.heap.FunFrames base outer
  frf : ∀ b ∈ frs outer, H b = none
  hok : HOk P w H s.heap
  bare : AllBare s.gens
def CE (outer : List Env) (P : Program) (w : World) (H : Hp) (s : Shared) (Q : VK) (u : Value) (s' : Shared) : Prop :=
  ∃ v H', s'.os = s.os ∧ AllBare s'.gens ∧ Un (frs outer) [] H H' s.heap s'.heap ∧ HOk P w H' s'.heap ∧ RelV v u ∧ Q v H'
def CR (CX : CXT) (outer : List Env) (P : Program) (w : World) (H : Hp) (s : Shared) (Q : VK) (E : XK) (r : Result) (s' : Shared) : Prop :=
  match r with
  | .ok (.ret u) => CE outer P w H s Q u s'
  | .ok _ => False
  | .error e => CX outer H s E e s'
structure FnOk (P : Program) (w : World) (K : PySem.W.Frag) (mg : Str → Option Value) (base : Heap) (CX : CXT) (k : Nat) (f : Addr) (fd : FuncData) (ps : List Str) (sp : Sp) : Prop where
  len : ∀ vs H Q E, sp vs H Q E → vs.length = ps.length
  run : ∀ (A : Around) (outer : List Env) (s : Shared) (H : Hp) (args : Args) (us : List Value) (vs : List V) (Q : VK) (E : XK), Room k A → Env0 P w K mg base A outer s H → BindsTo s fd args (ps.zip us) → Vals vs us → sp vs H Q E →
    codeAny (model P w) A (.call (.ref f) args) (CR CX outer P w H s Q E) s
theorem FnOk.mono {P : Program} {w : World} {K : PySem.W.Frag} {mg : Str → Option Value} {base : Heap} {CX : CXT} {j k : Nat} {f : Addr} {fd : FuncData} {ps : List Str} {sp : Sp} (F : FnOk P w K mg base CX j f fd ps sp) (h : j ≤ k) :
    FnOk P w K mg base CX k f fd ps sp := ⟨F.len, fun A outer s H args us vs Q E hr => F.run A outer s H args us vs Q E (hr.mono h)⟩
theorem FnOk.imp {P : Program} {w : World} {K : PySem.W.Frag} {mg : Str → Option Value} {base : Heap} {CX : CXT} {k : Nat} {f : Addr} {fd : FuncData} {ps : List Str} {sp sp' : Sp} (F : FnOk P w K mg base CX k f fd ps sp)
    (h : ∀ vs H Q E, sp' vs H Q E → sp vs H Q E) : FnOk P w K mg base CX k f fd ps sp' :=
  ⟨fun vs H Q E q => F.len vs H Q E (h _ _ _ _ q), fun A outer s H args us vs Q E hr he hb hv hs => F.run A outer s H args us vs Q E hr he hb hv (h _ _ _ _ hs)⟩

theorem Env0.in1 {P : Program} {w : World} {K : PySem.W.Frag} {mg : Str → Option Value} {base : Heap} {A : Around} {outer : List Env} {s : Shared} {H : Hp} (e : Env0 P w K mg base A outer s H) :
    Env0 P w K mg base A.in1 outer s H := ⟨e.frames, e.mod, e.bs, e.bsz, e.funs, e.frf, e.hok, e.bare⟩

section
variable {X : Cx} {pins : List (Addr × Obj)} {σ : St} {H : Hp} {s s' : Shared}
theorem Inv.env0 (I : Inv X pins σ H s) : Env0 X.prog X.w X.K X.mg X.base X.A X.stack s H :=
  ⟨I.ok.frames, I.ok.mod, I.bs, Nat.le_trans I.ok.bsz I.sz, I.stack, I.stkFree, I.hok, I.bare⟩
theorem Inv.after {Q : VK} {u : Value} (I : Inv X pins σ H s) (h : CE X.stack X.prog X.w H s Q u s') : EP X pins σ Q u s' := by
  obtain ⟨v, H', os, bare, un, hok, r, q⟩ := h
  obtain ⟨hh, g, d, t, os'⟩ := s'
  obtain rfl : os' = s.os := os
  exact ⟨v, H', I.call (h' := hh) (g' := g) (d' := d) (t' := t) (ch := []) un hok bare (fun b z => absurd z (by simp)), r, q⟩
end

def tCall (sp : Sp) (dvs : List V) (E : XK) (t : TA) : TE := fun σ H Q => t σ H fun vs H1 => sp (vs ++ dvs) H1 Q E
def Binds (K : PySem.W.Frag) (fd : FuncData) (ps : List Str) (ds : List Value) : Prop :=
  ∀ (s : Shared) (us : List Value), K.In s.heap → (us ++ ds).length = ps.length → BindsTo s fd ⟨us, []⟩ (ps.zip (us ++ ds))
theorem Binds.all {K : PySem.W.Frag} {fd : FuncData} {ps : List Str} (h : ∀ us : List Value, us.length = ps.length → bindArgs fd ⟨us, []⟩ = pure (ps.zip us)) : Binds K fd ps [] := fun s us _ hl => by
  rw [List.append_nil] at hl ⊢
  exact .of_eq (h us hl)

def Passes (CX : CXT) (X : Cx) (E : XK) : Prop := ∀ (pins : List (Addr × Obj)) (σ : St) (H : Hp) (s : Shared) (e : Value) (s' : Shared), Inv X pins σ H s → CX X.stack H s E e s' → X.xe e s'

section
variable {X : Cx} {CX : CXT} {k : Nat} {f C : Addr} {fd : FuncData} {ps : List Str} {sp : Sp} {dvs : List V} {ds : List Value} {E : XK} {x m : Str} {p pos apos : Pos} {e o : Expr} {es : List Expr} {ta : TE} {t : TA}

theorem run_fn {pins : List (Addr × Obj)} {σ : St} {H : Hp} {s : Shared} {Q : VK} {us : List Value} {vs : List V} (F : FnOk X.prog X.w X.K X.mg X.base CX k f fd ps sp) (hr : Room k X.A) (hb : Binds X.K fd ps ds) (hd : Vals dvs ds) (hx : Passes CX X E)
    (I : Inv X pins σ H s) (r : Vals vs us) (h : sp (vs ++ dvs) H Q E) : wpAny (model X.prog X.w) X.A (call (.ref f) us) (EP X pins σ Q) X.xe s := by
  have r2 : Vals (vs ++ dvs) (us ++ ds) := r.append hd
  have hl : (us ++ ds).length = ps.length := by rw [← r2.length]; exact F.len _ _ _ _ h
  refine wpAny_call (codeAny_mono (F.run X.A X.stack s H ⟨us, []⟩ (us ++ ds) (vs ++ dvs) Q E hr I.env0 (hb s us I.kIn hl) r2 h) fun r s' hq => ?_)
  cases r with
  | error e => exact hx pins σ H s e s' I hq
  | ok fl =>
    cases fl with
    | ret u => exact I.after hq
    | next => exact False.elim hq
    | brk => exact False.elim hq
    | cont => exact False.elim hq

theorem pe_call (F : FnOk X.prog X.w X.K X.mg X.base CX k f fd ps sp) (hr : Room k X.A) (hg : Gl X x) (hm : X.mg x = some (.ref f)) (hk : PySem.W.keepIn X.K (.ref f) = true) (hb : Binds X.K fd ps ds) (hd : Vals dvs ds) (hx : Passes CX X E)
    (ha : PA X (e :: es) t) (hdb : (x == ("__debug__" : Str)) = false := by decide) (he : starEach (e :: es) X.env = (false, eval e X.env) :: starEach es X.env := by rfl) (hpl : (backTo pos (starEach es X.env)).any (·.1) = false := by rfl) :
    PE X (.Call (.Name x p) (e :: es) [] pos) (tCall sp dvs E t) := by
  intro pins s σ H Q I h
  refine wpAny_Call_Name_kw (ld_glob I hg hm ?_ hdb)
  refine PySem.W.callWith_K (h₀ := X.base) I.ok.mod.kin hk (thn (ha pos pins s σ H _ I h) fun us s1 ⟨vs, H1, I1, r, q⟩ => ⟨I1.kIn, ?_⟩) he hpl
  exact run_fn F hr hb hd hx I1 r q
structure Mk (K : PySem.W.Frag) (C f : Addr) : Prop where
  makes : PySem.W.makesIn K C = true
  init : PySem.W.findIn K (.ref C) "__init__" = some (some (.ref f))
  fn : PySem.W.isFn K (.ref f) = true
  kp : PySem.W.keepIn K (.ref C) = true

end

def PK (X : Cx) (kws : List Keyword) (t : TA) : Prop :=
  ∀ (pos : Pos) (pins : List (Addr × Obj)) (s : Shared) (σ : St) (H : Hp) (Q : List V → Hp → Prop), Inv X pins σ H s → t σ H Q → wpAny (model X.prog X.w) X.A (evalAll ((backToKw pos (keywordEach kws X.env)).map (·.2))) (AP X pins σ Q) X.xe s
section
variable {X : Cx} {CX : CXT} {k : Nat} {f C : Addr} {fd : FuncData} {ps ks : List Str} {sp : Sp} {E : XK} {x m : Str} {p pos apos kpos : Pos} {e o : Expr} {es : List Expr} {kws : List Keyword} {te ta : TE} {t tk : TA} {nm : Option Str}
structure KBinds (K : PySem.W.Frag) (fd : FuncData) (ps ks : List Str) (g : List Value → List Value → List Value) (gV : List V → List V → List V) : Prop where
  to : ∀ (s : Shared) (us ws : List Value), K.In s.heap → (g us ws).length = ps.length → BindsTo s fd ⟨us, ks.zip ws⟩ (ps.zip (g us ws))
  rel : ∀ {vs : List V} {us : List Value} {zs : List V} {ws : List Value}, Vals vs us → Vals zs ws → Vals (gV vs zs) (g us ws)
variable {g : List Value → List Value → List Value} {gV : List V → List V → List V}
end

structure FnScope (N P : List Str) (sc : Scope) : Prop where
  kind : sc.kind = .function
  co : sc.isCoroutine = false
  gen : sc.isGenerator = false
  nd : N.Nodup
  pre : N.take P.length = P
  par : ∀ x ∈ P, sc.names.lookup x = some .local ∨ sc.names.lookup x = some .cell
  nofree : ∀ y ∈ sc.names, y.2 ≠ .free

theorem bindL_out {kindOf : Str → Option NameKind} {x : Str} : ∀ {binds : List (Str × Value)} {m : Str → Option Value}, (∀ v, (x, v) ∉ binds) → bindL kindOf binds m x = m x
  | [], _, _ => rfl
  | (n, v) :: r, m, h => by
    unfold bindL
    rw [bindL_out fun w hw => h w (List.mem_cons_of_mem _ hw)]
    split
    · have : x ≠ n := by rintro rfl; exact h v List.mem_cons_self
      simp [this]
    · rfl
theorem bindC_out {kindOf : Str → Option NameKind} {x : Str} : ∀ {binds : List (Str × Value)} {m : Str → Option Value}, (∀ v, (x, v) ∉ binds) → bindC kindOf binds m x = m x
  | [], _, _ => rfl
  | (n, v) :: r, m, h => by
    unfold bindC
    rw [bindC_out fun w hw => h w (List.mem_cons_of_mem _ hw)]
    split
    · rfl
    · have : x ≠ n := by rintro rfl; exact h v List.mem_cons_self
      simp [this]
theorem bindL_get {kindOf : Str → Option NameKind} {x : Str} {v : Value} : ∀ {P : List Str} {vs : List Value} {i : Nat} {m : Str → Option Value}, P.Nodup → P[i]? = some x → vs[i]? = some v → kindOf x = some .local →
    bindL kindOf (P.zip vs) m x = some v
  | [], _, _, _, _, h, _, _ => by simp at h
  | _ :: _, [], _, _, _, _, h, _ => by simp at h
  | p :: P, w :: vs, 0, m, nd, h1, h2, hk => by
    simp at h1 h2; subst h1; subst h2
    show bindL kindOf ((p, w) :: P.zip vs) m p = _
    unfold bindL
    rw [bindL_out fun v hv => (List.nodup_cons.mp nd).1 (List.of_mem_zip hv).1, if_pos hk]
    simp
  | p :: P, w :: vs, i + 1, m, nd, h1, h2, hk => by
    show bindL kindOf ((p, w) :: P.zip vs) m x = _
    unfold bindL
    exact bindL_get (i := i) (List.nodup_cons.mp nd).2 (by simpa using h1) (by simpa using h2) hk
theorem bindC_get {kindOf : Str → Option NameKind} {x : Str} {v : Value} : ∀ {P : List Str} {vs : List Value} {i : Nat} {m : Str → Option Value}, P.Nodup → P[i]? = some x → vs[i]? = some v → kindOf x ≠ some .local →
    bindC kindOf (P.zip vs) m x = some v
  | [], _, _, _, _, h, _, _ => by simp at h
  | _ :: _, [], _, _, _, _, h, _ => by simp at h
  | p :: P, w :: vs, 0, m, nd, h1, h2, hk => by
    simp at h1 h2; subst h1; subst h2
    show bindC kindOf ((p, w) :: P.zip vs) m p = _
    unfold bindC
    rw [bindC_out fun v hv => (List.nodup_cons.mp nd).1 (List.of_mem_zip hv).1, if_neg hk]
    simp
  | p :: P, w :: vs, i + 1, m, nd, h1, h2, hk => by
    show bindC kindOf ((p, w) :: P.zip vs) m x = _
    unfold bindC
    exact bindC_get (i := i) (List.nodup_cons.mp nd).2 (by simpa using h1) (by simpa using h2) hk

def start (N : List Str) (vs : List V) : St := vs.map some ++ List.replicate (N.length - vs.length) none

def cxOf (CX : CXT) (P : Program) (w : World) (K : PySem.W.Frag) (mg : Str → Option Value) (base : Heap) (N : List Str) (qual : Str) (scope : Scope) (f : Addr) (cd : Value) (A : Around) (outer : List Env) (s : Shared) (H : Hp) (E : XK) : Cx where
  prog := P
  w := w
  K := K
  mg := mg
  base := base
  A := A.deeper (envOfC qual scope s.heap.objs.size f cd)
  N := N
  s_0 := s
  H_0 := H
  env := envOfC qual scope s.heap.objs.size f cd
  outer := outer
  stack := envOfC qual scope s.heap.objs.size f cd :: outer
  ex := []
  calm := true
  fn := fun _ => true
  pn := []
  xe := fun e s' => wpAny (model P w) (A.deeper (envOfC qual scope s.heap.objs.size f cd)) (leaving (envOfC qual scope s.heap.objs.size f cd) e) (fun _ s'' => CX outer H s E e s'') (fun e' s'' => CX outer H s E e' s'') s'

theorem cell_has {sc : Scope} {n : Nat} {x : Str} (h : sc.names.lookup x = some .cell) : ∃ c, (cellsFrom n sc.names []).lookup x = some c := by
  have q := PySem.W.cellsFrom_some sc.names n [] (.inl h)
  exact Option.isSome_iff_exists.mp q

theorem inv_start {CX : CXT} {P : Program} {w : World} {K : PySem.W.Frag} {mg : Str → Option Value} {base : Heap} {N ps : List Str} {qual : Str} {scope : Scope} {f : Addr} {cd : Value} {A : Around} {outer : List Env} {s s1 : Shared} {H : Hp} {E : XK} {us : List Value} {vs : List V}
    (S : FnScope N ps scope) (hd : A.handled = none) (e0 : Env0 P w K mg base A outer s H) (hl : vs.length = ps.length) (r : Vals vs us)
    (x : InCallC s s.heap.objs.size (bindL (envOfC qual scope s.heap.objs.size f cd).kindOf (ps.zip us) fun _ => none) (cellsFrom (s.heap.objs.size + 1) scope.names []) (bindC (envOfC qual scope s.heap.objs.size f cd).kindOf (ps.zip us) fun _ => none) s1) :
    Inv (cxOf CX P w K mg base N qual scope f cd A outer s H E) [] (start N vs) H s1 := by
  have hpl : ps.length ≤ N.length := by have := congrArg List.length S.pre; rw [List.length_take] at this; omega
  obtain ⟨h1, tk, rfl, hk⟩ := x.done
  have noA : ∀ b : Addr, b ∉ (cxOf CX P w K mg base N qual scope f cd A outer s H E).ex := fun b z => absurd (show b ∈ ([] : List Addr) from z) (by simp)
  refine ⟨⟨e0.mod, S.kind, rfl, rfl, Nat.le_refl _, fun y z c h1 h2 => ?_, fun y hy => ?_, fun y c _ h => ?_, fun _ => hd, Around.frames_deeper e0.frames, .inr ⟨rfl, rfl⟩, fun b z => absurd z (noA b), e0.bs, e0.bsz, fun b _ _ => noA b, fun b z => absurd z (noA b), e0.funs, e0.frf⟩,
    rfl, e0.bare, Un.kept hk, ⟨_, x.toInCall.ns, fun i y v h1 h2 h3 => ?_⟩, fun y c h => ⟨_, x.cell y c h⟩, e0.hok.fresh (Nat.le_refl _), fun y c h => ?_, fun p hp => absurd (show p ∈ ([] : List (Addr × Obj)) from hp) (by simp), e0.hok.kept hk, ?_⟩
  · exact name_of_addr x.apart (PySem.mem_of_lookup h1) (PySem.mem_of_lookup h2)
  · have hy : scope.names.lookup y = some .cell ∨ scope.names.lookup y = some .free := hy
    rcases hy with hy | hy
    · exact cell_has hy
    · exact absurd rfl (S.nofree _ (PySem.mem_of_lookup hy))
  · exact Nat.le_of_lt (x.above y c (PySem.mem_of_lookup h))
  · have hi : i < vs.length := by
      unfold start at h2
      by_cases hi : i < vs.length
      · exact hi
      · rw [List.getElem?_append_right (by simpa using hi)] at h2
        rw [List.getElem?_replicate] at h2
        split at h2 <;> cases h2
    have ha : vs[i]? = some v := by
      unfold start at h2
      rw [List.getElem?_append_left (by simpa using hi), List.getElem?_map] at h2
      cases e : vs[i]? with
      | none => rw [e] at h2; cases h2
      | some a => rw [e] at h2; cases h2; rfl
    obtain ⟨u, hu, rv⟩ := r.get ha
    have hp : ps[i]? = some y := by
      rw [← S.pre, List.getElem?_take_of_lt (by omega)]; exact h1
    have ndP : ps.Nodup := by rw [← S.pre]; exact S.nd.sublist (List.take_sublist _ _)
    refine ⟨u, rv, ?_⟩
    rcases S.par y (List.mem_of_getElem? hp) with k | k
    · exact .inl ⟨k, bindL_get ndP hp hu k⟩
    · obtain ⟨c, e⟩ := cell_has (n := s.heap.objs.size + 1) k
      refine .inr ⟨.inl k, c, e, ?_⟩
      have q := x.cell y c e
      rw [bindC_get ndP hp hu (by show scope.names.lookup y ≠ _; rw [k]; decide)] at q
      exact q
  · exact e0.hok.fresh (Nat.le_of_lt (x.above y c (PySem.mem_of_lookup h)))
  · unfold start
    show _ = N.length
    rw [List.length_append, List.length_map, List.length_replicate]
    omega

theorem fn_of {CX : CXT} {P : Program} {w : World} {K : PySem.W.Frag} {mg : Str → Option Value} {base : Heap} {k : Nat} {f : Addr} {name qual : Str} {params : Arguments} {body : List Stmt} {scope : Scope} {dV kV doc pm cdv ct oc : Value} {an od : Option Addr}
    {osl : Array (Option Value)} {N ps : List Str} {sp : Sp} (lk : K.lookup f = some ⟨oc, od, .func (PySem.W.fnOf name qual params body scope dV kV doc pm an cdv ct), osl⟩) (hcd : PySem.W.codeIn K cdv qual = true) (S : FnScope N ps scope)
    (len : ∀ vs H Q E, sp vs H Q E → vs.length = ps.length)
    (hbody : ∀ (A : Around) (outer : List Env) (s : Shared) (H : Hp) (vs : List V) (Q : VK) (E : XK), Room k (A.deeper (envOfC qual scope s.heap.objs.size f cdv)) → sp vs H Q E →
      ∃ t, PSs (cxOf CX P w K mg base N qual scope f cdv A outer s H E) body t ∧ t { nx := fun _ H' => Q .non H', rt := Q } (start N vs) H) :
    FnOk P w K mg base CX (k + 1) f (PySem.W.fnOf name qual params body scope dV kV doc pm an cdv ct) ps sp := by
  refine ⟨len, fun A outer s H args us vs Q E hr e0 hb r hsp => ?_⟩
  have hl := len _ _ _ _ hsp
  have KX : K.In s.heap := e0.mod.kin.keeps fun b o e => (e0.bs b o e).1
  have lim : s.heap.NoLimit := e0.mod.nolimit.keeps fun b o e => (e0.bs b o e).1
  have hkind : ∀ y ∈ ps.zip us, scope.names.lookup y.1 = some .local ∨ (scope.names.lookup y.1 = some .cell ∧ ((cellsFrom (s.heap.objs.size + 1) scope.names []).lookup y.1).isSome = true) := fun ⟨n, v⟩ hy => by
    rcases S.par n (List.of_mem_zip hy).1 with q | q
    · exact .inl q
    · exact .inr ⟨q, PySem.W.cellsFrom_some _ _ _ (.inl q)⟩
  refine codeAny_call_function hr.depth (KX _ _ lk) rfl S.co S.gen rfl (PySem.W.codeRec_of KX hcd) (hb _ _ _ _ ?_)
  refine wpAny_newFunctionEnv_cells S.kind hkind fun env he s1 x => ?_
  subst he
  refine ⟨lim.keeps x.toInCall.keep, codeAny_func ?_⟩
  obtain ⟨t, ht, hq⟩ := hbody A outer s H vs Q E (hr.deeper _) hsp
  have I : Inv (cxOf CX P w K mg base N qual scope f cdv A outer s H E) [] (start N vs) H s1 := inv_start S hr.hd e0 hl r x
  refine wpAny_mono (ht [] s1 (start N vs) H _ I hq) (fun fl s' hs => ?_) fun e s' hs => hs
  have fin : ∀ {σ' : St} {H' : Hp} {v : V} {u : Value}, Inv (cxOf CX P w K mg base N qual scope f cdv A outer s H E) [] σ' H' s' → RelV v u → Q v H' → CE outer P w H s Q u s' :=
    fun {σ' H' v u} J rv q => ⟨v, H', J.os, J.bare, J.base, J.hok, rv, q⟩
  cases fl with
  | ret u =>
    obtain ⟨v, σ', H', J, rv, q⟩ := hs
    exact fin J rv q
  | next =>
    obtain ⟨σ', H', J, q⟩ := hs
    exact fin (v := V.non) (u := Value.none) J rfl q
  | brk =>
    obtain ⟨_, _, _, q⟩ := hs
    exact False.elim q
  | cont =>
    obtain ⟨_, _, _, q⟩ := hs
    exact False.elim q
end L2

namespace L2
open PySem PySem.Spec PyProof.Rows
section
variable {X : Cx} {x : Str} {p pos : Pos} {e : Expr} {es : List Expr} {t : TA} {id T : String} {r : List V → Hp → VK → Prop}

def tCB (r : List V → Hp → VK → Prop) (t : TA) : TE := fun σ H Q => t σ H fun vs H1 => r vs H1 Q
theorem pe_callB (hc : CallR X (.builtin id) r) (hg : Gl X x) (hm : X.mg x = none) (hv : bootBuiltins x = some (.builtin id)) (ha : PA X (e :: es) t) (hn : x ≠ "__name__" := by decide) (hdb : (x == ("__debug__" : Str)) = false := by decide)
    (he : starEach (e :: es) X.env = (false, eval e X.env) :: starEach es X.env := by rfl) (hpl : (backTo pos (starEach es X.env)).any (·.1) = false := by rfl) : PE X (.Call (.Name x p) (e :: es) [] pos) (tCB r t) := by
  intro pins s σ H Q I h
  refine wpAny_Call_Name_kw (ld_blt I hg hm hv ?_ hn hdb)
  exact PyProof.Rows.callWith_builtin1 (thn (ha pos pins s σ H _ I h) fun us s1 ⟨vs, H1, I1, r1, q1⟩ => hc pins s1 σ H1 vs us Q I1 r1 q1) he hpl
theorem pe_callTy (hc : CallR X (.type T) r) (hg : Gl X x) (hm : X.mg x = none) (hv : bootBuiltins x = some (.type T)) (ha : PA X (e :: es) t) (hn : x ≠ "__name__" := by decide) (hdb : (x == ("__debug__" : Str)) = false := by decide)
    (he : starEach (e :: es) X.env = (false, eval e X.env) :: starEach es X.env := by rfl) (hpl : (backTo pos (starEach es X.env)).any (·.1) = false := by rfl) : PE X (.Call (.Name x p) (e :: es) [] pos) (tCB r t) := by
  intro pins s σ H Q I h
  refine wpAny_Call_Name_kw (ld_blt I hg hm hv ?_ hn hdb)
  exact PyProof.Rows.callWith_type1 (thn (ha pos pins s σ H _ I h) fun us s1 ⟨vs, H1, I1, r1, q1⟩ => hc pins s1 σ H1 vs us Q I1 r1 q1) he hpl
end
end L2

namespace HT
open PySem PyProof.Rows

def lexLt : List Int → List Int → Bool
  | [], [] => false
  | [], _ :: _ => true
  | _ :: _, [] => false
  | x :: xs, y :: ys => if x = y then lexLt xs ys else decide (x < y)
section
open PySem.SeqAt
open PySem.AutoSeq1 (wpAny_loadPart')
open PySem.MeetsSeq PySem.MeetsSeq2 PySem.MeetsSeq3

end

section
variable {prog : Program} {w : World} {A : Around} {E : Value → Shared → Prop} {s : Shared}

theorem cat_tup {t b : Addr} {vs ws : List Value} {Q : Value → Shared → Prop} (ht : IsTup s.heap t vs.toArray) (hb : IsTup s.heap b ws.toArray) (hv : vs ≠ [])
    (h1 : ws = [] → Q (.ref t) s) (h2 : ws ≠ [] → Q (.ref s.heap.objs.size) { s with heap := s.heap.push { cls := .type "tuple", data := .seq (vs ++ ws).toArray } })
    (hsz : vs.length + ws.length ≤ sizeLine) : wpAny (model prog w) A (binaryOp .Add (.ref t) (.ref b)) Q E s := by
  obtain ⟨⟨cls, dd, data, sl⟩, ho, hc, n, hd⟩ := id ht
  obtain ⟨⟨cls2, dd2, data2, sl2⟩, ho2, hc2, n2, hd2⟩ := id hb
  simp only at hc hd hc2 hd2
  subst hc hd hc2 hd2
  have e : vs.toArray ++ ws.toArray = (vs ++ ws).toArray := by simp
  by_cases hw : ws = []
  · exact concat_meets ⟨_, ho, rfl⟩ ⟨_, ho2, rfl⟩ noFill_tuple_add seq_tuple_add PySem.F.slot_tuple_add PySem.F.entry_tuple_add (PySem.F.args_tuple_add_2 _ _)
      (tuple_addW1 t b vs.toArray ws.toArray n n2 dd dd2 sl sl2 (by simpa using hv) (by simp [hw])) ⟨ho, ho2, h1 hw⟩
  · refine concat_meets ⟨_, ho, rfl⟩ ⟨_, ho2, rfl⟩ noFill_tuple_add seq_tuple_add PySem.F.slot_tuple_add PySem.F.entry_tuple_add (PySem.F.args_tuple_add_2 _ _)
      (tuple_addW2 t b vs.toArray ws.toArray n n2 dd dd2 sl sl2 (by simpa using hv) (by simpa using hw) (by rw [List.size_toArray, List.size_toArray]; exact hsz)) ⟨ho, ho2, ?_⟩
    rw [e]
    exact h2 hw

def sIx (n d : Nat) : Option Int → Nat
  | none => d
  | some v => if v < 0 then (v + (n : Int)).toNat else min v.toNat n
theorem sIx_none (n d : Nat) : sIx n d none = d := rfl
theorem sIx_nat (n d k : Nat) : sIx n d (some (k : Int)) = min k n := by
  show (if (k : Int) < 0 then ((k : Int) + (n : Int)).toNat else min (k : Int).toNat n) = min k n
  rw [if_neg (by omega), Int.toNat_natCast]
end
end HT

namespace L2
open PySem PySem.Spec PyProof.Rows

abbrev TO := St → Hp → (Option Int → Hp → Prop) → Prop
def PO (X : Cx) (e : Option Expr) (t : TO) : Prop :=
  ∀ (pins : List (Addr × Obj)) (s : Shared) (σ : St) (H : Hp) (Q : Option Int → Hp → Prop), Inv X pins σ H s → t σ H Q →
    wpAny (model X.prog X.w) X.A (evalPart e X.env) (fun u s' => ∃ o H', Inv X pins σ H' s' ∧ IsPart u o ∧ Q o H') X.xe s
def tNoPart : TO := fun _ H Q => Q none H
def tPart (t : TE) : TO := fun σ H Q => t σ H fun x H1 => ∃ i, x = .int i ∧ Q (some i) H1

section
variable {X : Cx} {e : Expr} {te : TE} {lo hi : Option Expr} {tl th : TO} {pos p2 : Pos}

theorem po_none : PO X none tNoPart := by
  intro pins s σ H Q I h
  rw [evalPart_none]
  exact wpAny_pure ⟨none, H, I, .none, h⟩
theorem po_some (h : PE X e te) : PO X (some e) (tPart te) := by
  intro pins s σ H Q I hw
  rw [evalPart_some]
  refine thn (h pins s σ H _ I hw) fun u s1 ⟨x, H1, I1, r1, q1⟩ => ?_
  obtain ⟨i, rfl, q⟩ := q1
  obtain ⟨t, rfl⟩ := r1
  exact ⟨some i, H1, I1, .int i t, q⟩

def SlR (X : Cx) (r : V → Option Int → Option Int → Hp → VK → Prop) : Prop :=
  ∀ (pins : List (Addr × Obj)) (s : Shared) (σ : St) (H : Hp) (x : V) (v vl vu : Value) (lo hi : Option Int) (sl : Addr) (Q : VK), Inv X pins σ H s → RelV x v → s.heap.IsSliceOf sl vl vu .none → IsPart vl lo → IsPart vu hi → r x lo hi H Q →
    ∃ T id, typeLookup (.type T) "__getitem__" = pure (some (.builtin id)) ∧ s.TypeIs v T ∧ wpAny (model X.prog X.w) X.A (getItem v (.ref sl)) (EP X pins σ Q) X.xe s
def tSl (r : V → Option Int → Option Int → Hp → VK → Prop) (te : TE) (tl th : TO) : TE := fun σ H Q => te σ H fun x H1 => tl σ H1 fun l H2 => th σ H2 fun u H3 => r x l u H3 Q
theorem pe_slice {r : V → Option Int → Option Int → Hp → VK → Prop} (hr : SlR X r) (he : PE X e te) (hl : PO X lo tl) (hu : PO X hi th) : PE X (.Subscript e (.Slice lo hi none p2) pos) (tSl r te tl th) := by
  intro pins s σ H Q I h
  refine Subscript_ (thn (he pins s σ H _ I h) fun v s1 ⟨x, H1, I1, r1, q1⟩ => ?_)
  refine wpAny_Slice (thn (hl pins s1 σ H1 _ I1 q1) fun vl s2 ⟨l, H2, I2, pl, q2⟩ => thn (hu pins s2 σ H2 _ I2 q2) fun vu s3 ⟨u, H3, I3, pu, q3⟩ => ?_)
  rw [evalPart_none]
  refine wpAny_pure ?_
  have I4 : Inv X pins σ H3 { s3 with heap := s3.heap.push { cls := .type "slice", data := .fields #[vl, vu, .none] } } := I3.kept (t' := s3.toks) fun b ob q => Heap.get?_push_of_some _ q
  obtain ⟨T, id, hT, ht, hg⟩ := hr pins { s3 with heap := s3.heap.push { cls := .type "slice", data := .fields #[vl, vu, .none] } } σ H3 x v vl vu l u s3.heap.objs.size Q I4 r1 (Heap.IsSliceOf.new ..) pl pu q3
  show wpAny (model X.prog X.w) X.A (subscriptTail e (.Slice lo hi none p2) v (.ref s3.heap.objs.size)) (EP X pins σ Q) X.xe { s3 with heap := s3.heap.push { cls := .type "slice", data := .fields #[vl, vu, .none] } }
  exact tail_any (ops := [.ref s3.heap.objs.size, v]) ht hT hg (by with_unfolding_all rfl)

def cutV (xs : List V) (lo hi : Option Int) : List V := (xs.drop (HT.sIx xs.length 0 lo)).take (HT.sIx xs.length xs.length hi - HT.sIx xs.length 0 lo)
theorem cutV_length (xs : List V) (lo hi : Option Int) : (cutV xs lo hi).length ≤ xs.length := by
  unfold cutV
  rw [List.length_take, List.length_drop]
  omega
def rCatT (K : PySem.W.Frag) : R2 := fun x y H Q => ∃ a b xs ys, x = .ref a ∧ y = .ref b ∧ SqT K H a xs ∧ SqT K H b ys ∧ xs ≠ [] ∧ xs.length + ys.length ≤ sizeLine ∧
  (ys = [] → Q (.ref a) H) ∧ (ys ≠ [] → ∀ p, H p = none → Q (.ref p) (upd H p (.tup (xs ++ ys))))
theorem Vals.nil_iff {xs : List V} {us : List Value} (r : Vals xs us) : us = [] ↔ xs = [] := by
  cases r with
  | nil => simp
  | cons _ _ => simp
theorem op_catT : OpR X (binaryOp .Add) (rCatT X.K) := by
  intro pins s σ H x y v u Q I rx ry h
  obtain ⟨a, b, xs, ys, rfl, rfl, ha, hb, hx, hz, q1, q2⟩ := h
  cases rx
  cases ry
  obtain ⟨its, r1, p1, _⟩ := I.tuple ha
  obtain ⟨its2, r2, p2, _⟩ := I.tuple hb
  refine HT.cat_tup p1 p2 (fun z => hx (r1.nil_iff.mp z)) (fun z => ⟨.ref a, H, I, rfl, q1 (r2.nil_iff.mp z)⟩) (fun z => ?_) (by rw [← r1.length, ← r2.length]; exact hz)
  refine ⟨.ref s.heap.objs.size, _, I.laid (t' := s.toks) (o := .tup (xs ++ ys)) (fun b ob q => Heap.get?_push_of_some _ q) (Nat.le_refl _) ?_, rfl, q2 (fun w => z (r2.nil_iff.mpr w)) _ (I.hok.fresh (Nat.le_refl _))⟩
  exact ⟨by rw [List.length_append]; exact hz, _, r1.append r2, IsTup.new _ _⟩
end
end L2

namespace L2
open PySem PySem.Spec PyProof.Rows

def ixN (n : Nat) (i : Int) : Option Nat := if 0 ≤ i then (if i < n then some i.toNat else none) else if -(n : Int) ≤ i then some (i + n).toNat else none
def atI {α : Type} (xs : List α) (i : Int) : Option α := (ixN xs.length i).bind fun j => xs[j]?
theorem ixN_seq {n : Nat} {i : Int} {j : Nat} (h : ixN n i = some j) : seqIndex? i n = some j ∧ j < n ∧ -(n : Int) ≤ i ∧ i < n := by
  unfold ixN at h
  by_cases h0 : 0 ≤ i
  · rw [if_pos h0] at h
    by_cases h1 : i < n
    · rw [if_pos h1] at h
      have e : i.toNat = j := Option.some.inj h
      exact ⟨by rw [seqIndex_of h0 h1, e], by omega, by omega, h1⟩
    · rw [if_neg h1] at h; cases h
  · rw [if_neg h0] at h
    by_cases h1 : -(n : Int) ≤ i
    · rw [if_pos h1] at h
      have e : (i + n).toNat = j := Option.some.inj h
      exact ⟨by rw [seqIndex_neg (by omega) h1, e], by omega, h1, by omega⟩
    · rw [if_neg h1] at h; cases h
theorem atI_get {α : Type} {xs : List α} {i : Int} {v : α} (h : atI xs i = some v) : ∃ j, seqIndex? i xs.length = some j ∧ xs[j]? = some v ∧ j < xs.length ∧ -(xs.length : Int) ≤ i ∧ i < xs.length := by
  unfold atI at h
  cases e : ixN xs.length i with
  | none => rw [e] at h; cases h
  | some j =>
    rw [e] at h
    obtain ⟨h1, h2, h3, h4⟩ := ixN_seq e
    exact ⟨j, h1, h, h2, h3, h4⟩
theorem atI_nat {α : Type} {xs : List α} {j : Nat} {v : α} (h : xs[j]? = some v) : atI xs (j : Int) = some v := by
  have hj : j < xs.length := (List.getElem?_eq_some_iff.mp h).1
  have e : ixN xs.length (j : Int) = some j := by
    unfold ixN
    rw [if_pos (by omega), if_pos (by omega)]; simp
  unfold atI; rw [e]; exact h
def PlainIx (b : Expr) : Prop := ∀ o i, subscripted b false o i = operate [o, i] (getItem o i)
def IxR (X : Cx) (r : R2) : Prop :=
  ∀ (value slice : Expr) (pins : List (Addr × Obj)) (s : Shared) (σ : St) (H : Hp) (x y : V) (v u : Value) (Q : VK), Inv X pins σ H s → RelV x v → RelV y u → r x y H Q →
    subscripted slice false v u = operate [v, u] (getItem v u) → wpAny (model X.prog X.w) X.A (subscriptTail value slice v u) (EP X pins σ Q) X.xe s
def MtR (X : Cx) (id : String) (r : V → List V → Hp → VK → Prop) : Prop :=
  ∀ (pins : List (Addr × Obj)) (s : Shared) (σ : St) (H : Hp) (x : V) (xs : List V) (v : Value) (us : List Value) (Q : VK), Inv X pins σ H s → RelV x v → Vals xs us → r x xs H Q →
    wpAny (model X.prog X.w) X.A (call (.builtin id) (v :: us)) (EP X pins σ Q) X.xe s
section
variable {X : Cx} {a b : Expr} {ta tb : TE} {pos : Pos}
theorem pe_ix {r : R2} (hr : IxR X r) (ha : PE X a ta) (hb : PE X b tb) (hs : PlainIx b) : PE X (.Subscript a b pos) (tOp r ta tb) := by
  intro pins s σ H Q I h
  exact Subscript_ (binT ha hb I h fun v u s2 x y H2 I2 rx ry q => hr a b pins s2 σ H2 x y v u Q I2 rx ry q (hs _ _))

def rIxL (K : PySem.W.Frag) : R2 := fun x y H Q => ∃ p xs i v, x = .ref p ∧ y = .int i ∧ SqL K H p xs ∧ atI xs i = some v ∧ Q v H
def rIxT (K : PySem.W.Frag) : R2 := fun x y H Q => ∃ p xs i v, x = .ref p ∧ y = .int i ∧ SqT K H p xs ∧ atI xs i = some v ∧ Q v H
theorem ix_list : IxR X (rIxL X.K) := by
  intro value slice pins s σ H x y v u Q I rx ry h hs
  obtain ⟨p, xs, i, z, rfl, rfl, hq, he, q⟩ := h
  cases rx
  obtain ⟨t, rfl⟩ := ry
  obtain ⟨its, r, pl, hz⟩ := I.list hq
  obtain ⟨j, h1, h2, h3, h4, h5⟩ := atI_get he
  obtain ⟨w, ew, rw'⟩ := r.get h2
  have hl := r.length
  have hn := line63
  have fin : EP X pins σ Q w s := ⟨z, H, I, rw', q⟩
  by_cases h0 : 0 ≤ i
  · have hj : i.toNat = j := by
      rw [seqIndex_of h0 h5] at h1
      exact Option.some.inj h1
    exact item_listR pl.isList h0 (by omega) (by rw [hj]; simpa using ew) fin hs
  · have hj : (i + (its.toArray.size : Int)).toNat = j := by
      rw [seqIndex_neg (by omega) h4] at h1
      rw [List.size_toArray, ← hl]
      exact Option.some.inj h1
    exact subscriptTail_builtinR (x := w) pl.isList.typeIs slot_list_getitem.lookup
      (wpAny_getItem_list_neg (Q := fun r s' => r = w ∧ EP X pins σ Q r s') pl.isList (by omega) (by rw [List.size_toArray] <;> omega) (by omega) (by rw [hj]; simpa using ew) ⟨rfl, fin⟩) hs
theorem ix_tup : IxR X (rIxT X.K) := by
  intro value slice pins s σ H x y v u Q I rx ry h hs
  obtain ⟨p, xs, i, z, rfl, rfl, hq, he, q⟩ := h
  cases rx
  obtain ⟨t, rfl⟩ := ry
  obtain ⟨its, r, pl, hz⟩ := I.tuple hq
  obtain ⟨j, h1, h2, h3, h4, h5⟩ := atI_get he
  obtain ⟨w, ew, rw'⟩ := r.get h2
  have hl := r.length
  have hn := line63
  have fin : EP X pins σ Q w s := ⟨z, H, I, rw', q⟩
  exact subscriptTail_builtinR (x := w) pl.typeIs slot_tuple_getitem.lookup
    (getItem_tuple (j := j) (Q := fun r s' => r = w ∧ EP X pins σ Q r s') pl (by omega) (by omega) (by rw [List.size_toArray, ← hl]; exact h1) (by simpa using ew) ⟨rfl, fin⟩) hs
theorem mapSeq_set (its : List Value) (n j : Nat) (u : Value) : Obj.mapSeq (·.setIfInBounds j u) { cls := .type "list", data := .seq its.toArray n } = { cls := .type "list", data := .seq (its.set j u).toArray n } := by
  simp [Obj.mapSeq]
theorem Inv.lst {pins : List (Addr × Obj)} {σ : St} {H : Hp} {s : Shared} {p : Addr} {xs : List V} (I : Inv X pins σ H s) (h : H p = some (.lst xs)) :
    ∃ (its : List Value) (n : Nat), Vals xs its ∧ s.heap.get? p = some { cls := .type "list", data := .seq its.toArray n } ∧ xs.length ≤ sizeLine := by
  obtain ⟨z, its, n, r, e⟩ := I.hok p _ h
  exact ⟨its, n, r, e, z⟩
theorem Inv.lstUpd {pins : List (Addr × Obj)} {σ : St} {H : Hp} {s : Shared} {p : Addr} {xs ys : List V} {its its' : List Value} {n n' : Nat} {f : Obj → Obj} (I : Inv X pins σ H s) (h : H p = some (.lst xs))
    (ho : s.heap.get? p = some { cls := .type "list", data := .seq its.toArray n }) (hf : f { cls := .type "list", data := .seq its.toArray n } = { cls := .type "list", data := .seq its'.toArray n' }) (r : Vals ys its') (hz : ys.length ≤ sizeLine) (t : Nat) :
    Inv X pins σ (upd H p (.lst ys)) { s with heap := s.heap.update p f, toks := t } := by
  have e : (s.heap.update p f).get? p = some { cls := .type "list", data := .seq its'.toArray n' } := by
    rw [Heap.get?_update_self f ho (by rw [hf] <;> rfl), hf]
  refine I.write (x := p) (e := p) (by rw [h]; trivial) (.inl rfl) (fun b u hb q => (Heap.get?_update_other _ _ (Ne.symm hb)).trans q) ⟨_, e⟩ ?_
  exact ⟨hz, its', n', r, e⟩
def rSetL : V → V → V → Hp → (Hp → Prop) → Prop := fun o i v H Q => ∃ p xs k j, o = .ref p ∧ i = .int k ∧ H p = some (.lst xs) ∧ ixN xs.length k = some j ∧ Q (upd H p (.lst (xs.set j v)))
theorem set_list : PSet X rSetL := by
  intro pins s σ H o i v ov iv u Q I ro ri rv h
  obtain ⟨p, xs, k, j, rfl, rfl, hp, hj, q⟩ := h
  cases ro
  obtain ⟨t, rfl⟩ := ri
  obtain ⟨its, n, r, ho, hz⟩ := I.lst hp
  obtain ⟨h1, h2, h3, h4⟩ := ixN_seq hj
  have hl := r.length
  have hn := line63
  have I' : Inv X pins σ (upd H p (.lst (xs.set j v))) { s with heap := s.heap.update p (Obj.mapSeq (·.setIfInBounds j u)) } :=
    I.lstUpd hp ho (mapSeq_set its n j u) (r.set rv j) (by rw [List.length_set]; exact hz) s.toks
  by_cases h0 : 0 ≤ k
  · have hk : k.toNat = j := by
      rw [seqIndex_of h0 h4] at h1
      exact Option.some.inj h1
    exact PySem.W.ki_setAt ho h0 (by omega) (by rw [List.size_toArray, ← hl]; exact h4) (by rw [hk]; exact ⟨_, I', q⟩)
  · have hk : (k + (its.toArray.size : Int)).toNat = j := by
      rw [seqIndex_neg (by omega) h3] at h1
      rw [List.size_toArray, ← hl]
      exact Option.some.inj h1
    exact PySem.W.ki_setBack ho (by omega) (by rw [List.size_toArray, ← hl]; exact h3) (by omega) (by rw [hk]; exact ⟨_, I', q⟩)

theorem slice_bounds (lo hi : Option Int) (n : Nat) : (sliceBounds lo hi none n).1 = ((HT.sIx n 0 lo : Nat) : Int) ∧ (sliceBounds lo hi none n).2.1 = ((HT.sIx n n hi : Nat) : Int) ∧ (sliceBounds lo hi none n).2.2 = 1 := by
  refine ⟨?_, ?_, rfl⟩
  · cases lo with
    | none => simp [sliceBounds, HT.sIx]
    | some i =>
      simp only [sliceBounds, HT.sIx, Option.getD_none, show (1 : Int) > 0 by decide, if_true]
      by_cases h : i < 0
      · simp only [h, if_true] <;> omega
      · simp only [h, if_false] <;> omega
  · cases hi with
    | none => simp [sliceBounds, HT.sIx]
    | some i =>
      simp only [sliceBounds, HT.sIx, Option.getD_none, show (1 : Int) > 0 by decide, if_true]
      by_cases h : i < 0
      · simp only [h, if_true] <;> omega
      · simp only [h, if_false] <;> omega
theorem slicePick_cut (its : List Value) (lo hi : Option Int) : slicePick its.toArray lo hi none = ((its.drop (HT.sIx its.length 0 lo)).take (HT.sIx its.length its.length hi - HT.sIx its.length 0 lo)).toArray := by
  obtain ⟨h1, h2, h3⟩ := slice_bounds lo hi its.toArray.size
  unfold slicePick
  rw [h1, h2, h3]
  simp only [sliceRange_one, pick_run, List.size_toArray] <;> rfl
def rSlL (K : PySem.W.Frag) : V → Option Int → Option Int → Hp → VK → Prop := fun x lo hi H Q => ∃ a xs, x = .ref a ∧ SqL K H a xs ∧ ∀ p, H p = none → Q (.ref p) (upd H p (.lst (cutV xs lo hi)))
theorem sl_list : SlR X (rSlL X.K) := by
  intro pins s σ H x v vl vu lo hi sl Q I rx hs pl pu h
  obtain ⟨a, xs, rfl, hx, q⟩ := h
  cases rx
  obtain ⟨its, r, ht, hz⟩ := I.list hx
  have hlen := r.length
  refine ⟨"list", _, slot_list_getitem.lookup, ht.isList.typeIs, ?_⟩
  refine wpAny_getItem_list_slice ht.isList hs pl pu .none (by simp) ?_ (by rw [List.size_toArray] <;> omega)
  rw [slicePick_cut, ← hlen]
  refine ⟨.ref s.heap.objs.size, _, I.laid (t' := s.toks) (o := .lst (cutV xs lo hi)) (fun b ob q => Heap.get?_push_of_some _ q) (Nat.le_refl _) ?_, rfl, q _ (I.hok.fresh (Nat.le_refl _))⟩
  exact ⟨Nat.le_trans (cutV_length xs lo hi) hz, _, 0, (r.drop (HT.sIx xs.length 0 lo)).take (HT.sIx xs.length xs.length hi - HT.sIx xs.length 0 lo), Heap.get?_push_size _ rfl⟩

def flatV : V → Bool
  | .non => true
  | .bl _ => true
  | .int _ => true
  | .str _ => true
  | _ => false
def eqV : V → V → Bool
  | .non, .non => true
  | .bl a, .bl b => a == b
  | .bl a, .int b => (if a then 1 else 0) == b
  | .int a, .bl b => a == (if b then 1 else 0)
  | .int a, .int b => a == b
  | .str a, .str b => a == b
  | _, _ => false
theorem eqAt_V {A : Around} {s : Shared} {y x : V} {u v : Value} (ry : RelV y u) (rx : RelV x v) (fy : flatV y = true) (fx : flatV x = true) : SeqAt.EqAt A s u v (eqV y x) := by
  cases y with
  | non =>
    cases ry
    cases x with
    | non => cases rx; exact SeqAt.EqAt.same _
    | bl b => cases rx; exact SeqAt.EqAt.none_bool b
    | int b => obtain ⟨t, rfl⟩ := rx; exact SeqAt.EqAt.none_int b t
    | str b => obtain ⟨t, rfl⟩ := rx; exact SeqAt.EqAt.none_str b t
    | _ => exact absurd (show false = true from fx) Bool.false_ne_true
  | bl a =>
    cases ry
    cases x with
    | non => cases rx; exact SeqAt.EqAt.bool_none a
    | bl b => cases rx; exact SeqAt.EqAt.bool_bool a b
    | int b => obtain ⟨t, rfl⟩ := rx; exact SeqAt.EqAt.bool_int a b t
    | str b => obtain ⟨t, rfl⟩ := rx; exact SeqAt.EqAt.bool_str a b t
    | _ => exact absurd (show false = true from fx) Bool.false_ne_true
  | int a =>
    obtain ⟨t', rfl⟩ := ry
    cases x with
    | non => cases rx; exact SeqAt.EqAt.int_none a t'
    | bl b => cases rx; exact SeqAt.EqAt.int_bool a t' b
    | int b => obtain ⟨t, rfl⟩ := rx; exact SeqAt.EqAt.int_int a t' b t
    | str b => obtain ⟨t, rfl⟩ := rx; exact SeqAt.EqAt.int_str a t' b t
    | _ => exact absurd (show false = true from fx) Bool.false_ne_true
  | str a =>
    obtain ⟨t', rfl⟩ := ry
    cases x with
    | non => cases rx; exact SeqAt.EqAt.str_none a t'
    | bl b => cases rx; exact SeqAt.EqAt.str_bool a t' b
    | int b => obtain ⟨t, rfl⟩ := rx; exact SeqAt.EqAt.str_int a t' b t
    | str b => obtain ⟨t, rfl⟩ := rx; exact SeqAt.EqAt.str_str a t' b t
    | _ => exact absurd (show false = true from fx) Bool.false_ne_true
  | _ => exact absurd (show false = true from fy) Bool.false_ne_true
def eqU (x : V) (u : Value) : Bool := match u with
  | .none => eqV .non x
  | .bool b => eqV (.bl b) x
  | .int i _ => eqV (.int i) x
  | .str z _ => eqV (.str z) x
  | _ => false
theorem eqU_of {x y : V} {u : Value} (r : RelV y u) (f : flatV y = true) : eqU x u = eqV y x := by
  cases y with
  | non => cases r; rfl
  | bl b => cases r; rfl
  | int i => obtain ⟨t, rfl⟩ := r; rfl
  | str z => obtain ⟨t, rfl⟩ := r; rfl
  | _ => exact absurd (show false = true from f) Bool.false_ne_true
theorem any_eqU {x : V} : ∀ {xs : List V} {us : List Value}, Vals xs us → xs.all flatV = true → us.any (eqU x) = xs.any fun y => eqV y x
  | _, _, .nil, _ => rfl
  | y :: xs, u :: us, .cons r t, f => by
    rw [List.all_cons, Bool.and_eq_true] at f
    rw [List.any_cons, List.any_cons, eqU_of r f.1, any_eqU t f.2]
theorem mem_eqAt {A : Around} {s : Shared} {x : V} {v : Value} (rx : RelV x v) (fx : flatV x = true) : ∀ {xs : List V} {us : List Value}, Vals xs us → xs.all flatV = true → ∀ u ∈ us, SeqAt.EqAt A s u v (eqU x u)
  | _, _, .nil, _ => fun u hu => by cases hu
  | y :: xs, u :: us, .cons r t, f => fun u' hu => by
    rw [List.all_cons, Bool.and_eq_true] at f
    rcases List.mem_cons.mp hu with rfl | hu
    · rw [eqU_of r f.1]; exact eqAt_V r rx f.1 fx
    · exact mem_eqAt rx fx t f.2 u' hu
def inV (x : V) (xs : List V) : Bool := xs.any fun y => eqV y x
def rIn (K : PySem.W.Frag) (neg : Bool) : R2 := fun x y H Q => ∃ p xs, y = .ref p ∧ (SqL K H p xs ∨ SqT K H p xs) ∧ flatV x = true ∧ xs.all flatV = true ∧ Q (.bl (if neg then !inV x xs else inV x xs)) H
theorem op_in_seq : OpR X (compareOp .In) (rIn X.K false) := by
  intro pins s σ H x y v u Q I rx ry h
  obtain ⟨p, xs, rfl, hq, fx, fs, q⟩ := h
  cases ry
  rcases hq with hq | hq
  · obtain ⟨its, r, pl, hz⟩ := I.list hq
    refine SeqAt.in_listAt (eqU x) pl.isList (fun w hw => mem_eqAt rx fx r fs w (by simpa using hw)) ⟨.bl _, H, I, rfl, ?_⟩
    rw [show its.toArray.any (eqU x) = its.any (eqU x) by simp, any_eqU r fs]
    exact q
  · obtain ⟨its, r, pl, hz⟩ := I.tuple hq
    refine SeqAt.in_tupleAt (eqU x) pl (fun w hw => mem_eqAt rx fx r fs w (by simpa using hw)) ⟨.bl _, H, I, rfl, ?_⟩
    rw [show its.toArray.any (eqU x) = its.any (eqU x) by simp, any_eqU r fs]
    exact q
theorem call_list_of : CallR X (.type "list") (fun xs H Q => ∃ p ys, xs = [.ref p] ∧ (SqL X.K H p ys ∨ SqT X.K H p ys) ∧ ∀ l, H l = none → Q (.ref l) (upd H l (.lst ys))) := by
  intro pins s σ H xs us Q I r h
  obtain ⟨p, ys, rfl, hq, q⟩ := h
  obtain ⟨u, rfl, rx⟩ := vals1 r
  cases rx
  have fin : ∀ (its : List Value), Vals ys its → ys.length ≤ sizeLine → ∀ (h' : Heap) (c' : Nat), (∀ b o', s.heap.get? b = some o' → h'.get? b = some o') →
      h'.get? s.heap.objs.size = some { cls := .type "list", dict := none, data := .seq its.toArray c', slots := #[] } → EP X pins σ Q (.ref s.heap.objs.size) { s with heap := h' } := fun its r' hz h' c' kp e =>
    ⟨.ref s.heap.objs.size, _, I.laid (t' := s.toks) kp (Nat.le_refl _) (show ObjOk X.prog X.w _ h' _ (.lst ys) from ⟨hz, its, c', r', e⟩), rfl, q _ (I.hok.fresh (Nat.le_refl _))⟩
  rcases hq with hq | hq
  · obtain ⟨its, r', pl, hz⟩ := I.list hq
    have hlen := r'.length
    obtain ⟨o, ho, hc, n, hd⟩ := pl.isList
    exact call_list_seq p (.inl rfl) ho hc hd (fun h' c' kp e => fin its r' hz h' c' kp e) (by simp only [List.size_toArray] <;> omega)
  · obtain ⟨its, r', pl, hz⟩ := I.tuple hq
    have hlen := r'.length
    obtain ⟨o, ho, hc, n, hd⟩ := pl
    exact call_list_seq p (.inr rfl) ho hc hd (fun h' c' kp e => fin its r' hz h' c' kp e) (by simp only [List.size_toArray] <;> omega)
theorem call_tuple_of : CallR X (.type "tuple") (fun xs H Q => ∃ p ys, xs = [.ref p] ∧ ((SqL X.K H p ys ∧ ∀ l, H l = none → Q (.ref l) (upd H l (.tup ys))) ∨ (SqT X.K H p ys ∧ Q (.ref p) H))) := by
  intro pins s σ H xs us Q I r h
  obtain ⟨p, ys, rfl, h⟩ := h
  obtain ⟨u, rfl, rx⟩ := vals1 r
  cases rx
  rcases h with ⟨hq, q⟩ | ⟨hq, q⟩
  · obtain ⟨its, r', pl, hz⟩ := I.list hq
    have hlen := r'.length
    refine call_tuple_list pl.isList (fun h' kp => ?_) (by simp only [List.size_toArray] <;> omega)
    have I1 : Inv X pins σ H { s with heap := h' } := I.kept (t' := s.toks) kp
    have I2 : Inv X pins σ (upd H h'.objs.size (.tup ys)) { s with heap := h'.push { cls := .type "tuple", data := .seq its.toArray } } :=
      I1.laid (t' := s.toks) (fun b o e => Heap.get?_push_of_some _ e) (Nat.le_refl _) (show ObjOk X.prog X.w _ _ _ (.tup ys) from ⟨hz, its, r', IsTup.new _ _⟩)
    exact ⟨.ref h'.objs.size, _, I2, rfl, q _ (I1.hok.fresh (Nat.le_refl _))⟩
  · obtain ⟨its, r', pl, hz⟩ := I.tuple hq
    exact call_tuple_same pl ⟨.ref p, H, I, rfl, q⟩

def tyV (K : PySem.W.Frag) (T : String) (x : V) (H : Hp) : Prop := match x with
  | .str _ => T = "str"
  | .int _ => T = "int"
  | .ref p => (T = "list" ∧ ∃ xs, SqL K H p xs) ∨ (T = "tuple" ∧ ∃ o, K.lookup p = some o ∧ o.cls = .type "tuple" ∧ o.dict = none) ∨
      (T = "dict" ∧ ((∃ kvs, H p = some (.dK kvs)) ∨ ∃ kvs, H p = some (.dT kvs))) ∨ (T = "set" ∧ ∃ S n, H p = some (.set S n))
  | _ => False
theorem tyV_is {pins : List (Addr × Obj)} {σ : St} {H : Hp} {s : Shared} {T : String} {x : V} {v : Value} (I : Inv X pins σ H s) (r : RelV x v) (ty : tyV X.K T x H) :
    s.TypeIs v T ∧ ∀ a, v = .ref a → ∃ ob, s.heap.get? a = some ob ∧ ob.dict = none := by
  cases x with
  | str z =>
    obtain ⟨t, rfl⟩ := r
    cases (show T = "str" from ty)
    exact ⟨typeIs_str s z t, fun _ e => nomatch e⟩
  | int i =>
    obtain ⟨t, rfl⟩ := r
    cases (show T = "int" from ty)
    exact ⟨typeIs_int s i t, fun _ e => nomatch e⟩
  | ref p =>
    cases r
    rcases ty with ⟨rfl, xs, hq⟩ | ⟨rfl, o, hk, hc, hd⟩ | ⟨rfl, hk⟩ | ⟨rfl, S, n, hk⟩
    · obtain ⟨its, _, pl, _⟩ := I.list hq
      refine ⟨pl.isList.typeIs, fun a e => ?_⟩
      cases e
      obtain ⟨o, n, e, c, hd, _⟩ := pl
      exact ⟨o, e, hd⟩
    · refine ⟨⟨o, I.kIn p o hk, hc⟩, fun a e => ?_⟩
      cases e
      exact ⟨o, I.kIn _ o hk, hd⟩
    · have z : ∃ o, s.heap.get? p = some o ∧ o.ExactDict := by
        rcases hk with ⟨kvs, hk⟩ | ⟨kvs, hk⟩
        · obtain ⟨_, _, _, _, o, _, _, e, ex, _⟩ := I.hok p _ hk
          exact ⟨o, e, ex⟩
        · obtain ⟨_, _, _, _, o, _, _, e, ex, _⟩ := I.hok p _ hk
          exact ⟨o, e, ex⟩
      obtain ⟨o, e, ex⟩ := z
      refine ⟨⟨o, e, ex.1⟩, fun a e2 => ?_⟩
      cases e2
      exact ⟨o, e, ex.2.1⟩
    · obtain ⟨o, _, _, _, e, ex, _⟩ := I.hok p _ hk
      refine ⟨⟨o, e, ex.1⟩, fun a e2 => ?_⟩
      cases e2
      exact ⟨o, e, ex.2.1⟩
  | _ => exact False.elim ty
def tBM (K : PySem.W.Frag) (T : String) (r : V → List V → Hp → VK → Prop) (to : TE) (t : TA) : TE := fun σ H Q => to σ H fun x H1 => tyV K T x H1 ∧ t σ H1 fun xs H2 => r x xs H2 Q
variable {o e : Expr} {es : List Expr} {to : TE} {t : TA} {name : Str} {apos cpos : Pos} {T id : String} {r : V → List V → Hp → VK → Prop}
theorem pe_bm (pa : PlainAttrs T) (slot : Slot T name id) (hty : typeOf (.builtin id) = pure (.type "method_descriptor")) (hm : MtR X id r) (ho : PE X o to) (ha : PA X (e :: es) t)
    (hbase : attributeBase o name X.env (eval o X.env) = eval o X.env := by rfl)
    (hfew : ((backTo cpos (starEach (e :: es) X.env)).all (fun x => !x.1) && (backToKw cpos (keywordEach [] X.env)).all (fun x => x.1.isSome)
      && decide ((e :: es).length + ([] : List Keyword).length + (if ([] : List Keyword).isEmpty then 0 else 1) < 30)) = true := by rfl)
    (hline : (apos.endLine == cpos.line) = true := by rfl) (hs : starEach (e :: es) X.env = (false, eval e X.env) :: starEach es X.env := by rfl) (hplain : (backTo cpos (starEach es X.env)).any (·.1) = false := by rfl) :
    PE X (.Call (.Attribute o name apos) (e :: es) [] cpos) (tBM X.K T r to t) := by
  intro pins s σ H Q I h
  refine wpAny_Call_method_late hbase hfew hline rfl (thn (ho pins s σ H _ I h) fun v s1 ⟨x, H1, I1, r1, ty, q1⟩ => ?_)
  obtain ⟨h1, h2⟩ := tyV_is I1 r1 ty
  refine ⟨T, id, pa, slot, hty, h1, h2, ?_⟩
  have hA := ha cpos pins s1 σ H1 _ I1 q1
  rw [hs] at hA ⊢
  refine Calls.callWith_builtin (by show (false || (backTo cpos (starEach es X.env)).any (·.1)) = false; rw [hplain] <;> rfl) (Calls.evalArgs_plain ?_)
  exact thn hA fun us s2 ⟨vs, H2, I2, r2, q2⟩ => hm pins s2 σ H2 x vs v us Q I2 r1 r2 q2
end
end L2

namespace L2
open PySem PySem.Spec PyProof.Rows

def MtM (X : Cx) (id : String) (r : V → List V → Hp → VK → Prop) : Prop :=
  ∀ (pins : List (Addr × Obj)) (s : Shared) (σ : St) (H : Hp) (x : V) (xs : List V) (v : Value) (us : List Value) (Q : VK), Inv X pins σ H s → RelV x v → Vals xs us → r x xs H Q →
    wpAny (model X.prog X.w) X.A (call (.builtin id) (v :: us)) (EP X pins σ Q) X.xe s

theorem Vals.one : ∀ {x : V} {us : List Value}, Vals [x] us → ∃ u, us = [u] ∧ RelV x u
  | _, _, .cons r .nil => ⟨_, rfl, r⟩
theorem Vals.zero : ∀ {us : List Value}, Vals [] us → us = []
  | _, .nil => rfl
theorem Vals.dropLast {xs : List V} {us : List Value} (h : Vals xs us) : Vals xs.dropLast us.dropLast := by
  induction h with
  | nil => exact .nil
  | cons r t ih =>
    cases t with
    | nil => exact .nil
    | cons q t' => exact .cons r ih
theorem Vals.eraseIdx : ∀ {xs : List V} {us : List Value} (i : Nat), Vals xs us → Vals (xs.eraseIdx i) (us.eraseIdx i)
  | _, _, _, .nil => .nil
  | _, _, 0, .cons _ t => t
  | _, _, i + 1, .cons r t => .cons r (Vals.eraseIdx i t)
theorem Vals.reverse {xs : List V} {us : List Value} (h : Vals xs us) : Vals xs.reverse us.reverse := by
  induction h with
  | nil => exact .nil
  | cons r t ih => rw [List.reverse_cons, List.reverse_cons]; exact Vals.append ih (.cons r .nil)
theorem len_erase {α : Type} : ∀ (l : List α) (i : Nat), (l.eraseIdx i).length ≤ l.length
  | [], _ => Nat.le_refl _
  | _ :: _, 0 => Nat.le_succ _
  | _ :: r, i + 1 => Nat.succ_le_succ (len_erase r i)
section
variable {X : Cx} {pins : List (Addr × Obj)} {σ : St} {H : Hp} {s : Shared} {l b : Addr} {xs ys zs : List V}

theorem Inv.lset {its its' : List Value} {n : Nat} {f : Array Value → Array Value} {t' : Nat} (I : Inv X pins σ H s) (hH : H l = some (.lst xs))
    (e : s.heap.get? l = some { cls := .type "list", data := .seq its.toArray n }) (hf : f its.toArray = its'.toArray) (hv : Vals ys its') (hz : ys.length ≤ sizeLine) :
    Inv X pins σ (upd H l (.lst ys)) { s with heap := s.heap.update l (Obj.mapSeq f), toks := t' } := by
  have q := PySem.IsL.update e f
  rw [hf] at q
  refine I.write (x := l) (e := l) (by rw [hH]; exact trivial) (.inl rfl) (fun b' u hb hu => (Heap.get?_update_other s.heap (Obj.mapSeq f) (Ne.symm hb)).trans hu) ⟨_, q⟩ ?_
  exact ⟨hz, its', _, hv, q⟩
theorem Inv.lnew {its : List Value} {t' : Nat} (I : Inv X pins σ H s) (hv : Vals ys its) (hz : ys.length ≤ sizeLine) :
    Inv X pins σ (upd H s.heap.objs.size (.lst ys)) { s with heap := s.heap.push { cls := .type "list", data := .seq its.toArray }, toks := t' } :=
  I.laid (fun _ _ q => Heap.get?_push_of_some _ q) (Nat.le_refl _) ⟨hz, its, 0, hv, Heap.get?_push_size _ rfl⟩
theorem Inv.fresh (I : Inv X pins σ H s) : H s.heap.objs.size = none := I.hok.fresh (Nat.le_refl _)
theorem Inv.lstM (I : Inv X pins σ H s) (hH : H l = some (.lst xs)) : xs.length ≤ sizeLine ∧ ∃ (its : List Value) (n : Nat), Vals xs its ∧ xs.length = its.length ∧ s.heap.get? l = some { cls := .type "list", data := .seq its.toArray n } := by
  obtain ⟨z, its, n, r, e⟩ := I.hok l _ hH
  exact ⟨z, its, n, r, r.length, e⟩

end

section
variable {X : Cx}

def rAppend : V → List V → Hp → VK → Prop := fun x vs H Q => ∃ l xs y, x = .ref l ∧ vs = [y] ∧ H l = some (.lst xs) ∧ xs.length < sizeLine ∧ Q .non (upd H l (.lst (xs ++ [y])))
theorem mt_append : MtM X "list.append" rAppend := by
  intro pins s σ H x vs v us Q I rx rv h
  obtain ⟨l, xs, y, rfl, rfl, hH, hz, q⟩ := h
  cases rx
  obtain ⟨u, rfl, ru⟩ := rv.one
  obtain ⟨z, its, n, r, hl, e⟩ := I.lstM hH
  refine call_meets F.slot_list_append ⟨_, e, rfl⟩ F.entry_list_append (F.args_list_append_2 _ _) (PySem.list_append l its.toArray n u (by rw [List.size_toArray]; omega)) ⟨e, ?_⟩
  refine ⟨.non, _, I.lset (its' := its ++ [u]) hH e (by simp) (r.append (.cons ru .nil)) ?_, rfl, q⟩
  rw [List.length_append, List.length_singleton]
  omega

def rPopAt : V → List V → Hp → VK → Prop := fun x vs H Q => ∃ l xs i k y, x = .ref l ∧ vs = [.int i] ∧ H l = some (.lst xs) ∧ -(2 ^ 63) ≤ i ∧ i < 2 ^ 63 ∧ seqIndex? i xs.length = some k ∧ xs[k]? = some y ∧ Q y (upd H l (.lst (xs.eraseIdx k)))
theorem mt_popAt : MtM X "list.pop" rPopAt := by
  intro pins s σ H x vs v us Q I rx rv h
  obtain ⟨l, xs, i, k, y, rfl, rfl, hH, h1, h2, hk, hy, q⟩ := h
  cases rx
  obtain ⟨u, rfl, ru⟩ := rv.one
  obtain ⟨t, rfl⟩ := ru
  obtain ⟨z, its, n, r, hl, e⟩ := I.lstM hH
  obtain ⟨w, hw, rw'⟩ := r.get hy
  refine call_meets F.slot_list_pop ⟨_, e, rfl⟩ F.entry_list_pop (F.args_list_pop_2 _ _)
    (MeetsSeq.list_pop_at l its.toArray n i t k w (fitsIndex_both h1 h2) (by rw [List.size_toArray, ← hl]; exact hk) (by rw [← Array.getElem?_toList]; exact hw) (by rw [List.size_toArray]; omega)) ⟨e, ?_⟩
  refine ⟨y, _, I.lset (its' := its.eraseIdx k) hH e ?_ (r.eraseIdx k) ?_, rw', q⟩
  · show its.toArray.eraseIdxIfInBounds k = (its.eraseIdx k).toArray
    rw [List.eraseIdxIfInBounds_toArray]
  · have := len_erase xs k
    omega

def rCat : R2 := fun x y H Q => ∃ l b xs zs, x = .ref l ∧ y = .ref b ∧ H l = some (.lst xs) ∧ H b = some (.lst zs) ∧ xs.length + zs.length ≤ sizeLine ∧ ∀ p, H p = none → Q (.ref p) (upd H p (.lst (xs ++ zs)))
theorem op_cat : OpR X (binaryOp .Add) rCat := by
  intro pins s σ H x y v u Q I rx ry h
  obtain ⟨l, b, xs, zs, rfl, rfl, hH, hB, hz, q⟩ := h
  cases rx
  cases ry
  obtain ⟨z, its, n, r, hl, e⟩ := I.lstM hH
  obtain ⟨z2, its2, n2, r2, hl2, e2⟩ := I.lstM hB
  refine PySem.P.add_list e e2 ?_ (by rw [List.size_toArray, List.size_toArray]; omega)
  have ea : its.toArray ++ its2.toArray = (its ++ its2).toArray := by simp
  rw [ea]
  exact ⟨.ref _, _, I.lnew (t' := s.toks) (r.append r2) (by rw [List.length_append]; omega), rfl, q _ I.fresh⟩
end

section
variable {prog : Program} {w : World} {A : Around} {E : Value → Shared → Prop} {s : Shared}
set_option maxRecDepth 100000 in
end

section
variable {X : Cx}
end
end L2

namespace L2
open PySem PySem.Spec PyProof.Rows

theorem Vals.ref1 {a : Addr} {us : List Value} (r : Vals [V.ref a] us) : us = [Value.ref a] := by
  cases r with
  | cons r t =>
    cases t
    cases r
    rfl
section
variable {prog : Program} {w : World} {A : Around} {E : Value → Shared → Prop} {s : Shared} {l : Addr} {its : List Value} {ns : List Int} {Q : Value → Shared → Prop}
end

section
variable {X : Cx}
end

section
variable {X : Cx}
end

section
variable {X : Cx}
end

section
variable {X : Cx}
end

mutual
inductive Dp (K : PySem.W.Frag) (H : Hp) : V → PyData → Prop
  | non : Dp K H .non .none
  | bl (b : Bool) : Dp K H (.bl b) (.bool b)
  | int (i : Int) : Dp K H (.int i) (.int i)
  | str (x : Str) : Dp K H (.str x) (.str x)
  | lst {a : Addr} {xs : List V} {ds : List PyData} : SqL K H a xs → DpAll K H xs ds → Dp K H (.ref a) (.list ds)
  | tup {a : Addr} {xs : List V} {ds : List PyData} : SqT K H a xs → DpAll K H xs ds → Dp K H (.ref a) (.tuple ds)
inductive DpAll (K : PySem.W.Frag) (H : Hp) : List V → List PyData → Prop
  | nil : DpAll K H [] []
  | cons {v : V} {vs : List V} {d : PyData} {ds : List PyData} : Dp K H v d → DpAll K H vs ds → DpAll K H (v :: vs) (d :: ds)
end
section
variable {X : Cx} {pins : List (Addr × Obj)} {σ : St} {H : Hp} {s : Shared}
mutual
theorem Dp.reads (I : Inv X pins σ H s) : ∀ (d : PyData) (v : V) (u : Value), Dp X.K H v d → RelV v u → ∃ as, Reads s.heap u d as
  | .none, _, _, h, r => by
    cases h
    cases r
    exact ⟨_, Reads.none⟩
  | .bool b, _, _, h, r => by
    cases h
    cases r
    exact ⟨_, Reads.bool b⟩
  | .int i, _, _, h, r => by
    cases h
    obtain ⟨t, rfl⟩ := r
    exact ⟨_, Reads.int i t⟩
  | .str x, _, _, h, r => by
    cases h
    obtain ⟨t, rfl⟩ := r
    exact ⟨_, Reads.str x t⟩
  | .list ds, _, _, h, r => by
    cases h with
    | lst hs ha =>
      cases r
      obtain ⟨its, rv, ⟨o, n, ho, hc, _, hd⟩, _⟩ := I.list hs
      obtain ⟨as, hr⟩ := Dp.readsAll I ds _ its ha rv
      exact ⟨_, Reads.list ho hc hd hr⟩
  | .tuple ds, _, _, h, r => by
    cases h with
    | tup hs ha =>
      cases r
      obtain ⟨its, rv, ⟨o, ho, hc, n, hd⟩, _⟩ := I.tuple hs
      obtain ⟨as, hr⟩ := Dp.readsAll I ds _ its ha rv
      exact ⟨_, Reads.tuple ho hc hd hr⟩
  | .dict _, _, _, h, _ => by cases h
theorem Dp.readsAll (I : Inv X pins σ H s) : ∀ (ds : List PyData) (vs : List V) (us : List Value), DpAll X.K H vs ds → Vals vs us → ∃ as, ReadsAll s.heap us ds as
  | [], _, _, h, r => by
    cases h
    cases r
    exact ⟨_, ReadsAll.nil⟩
  | d :: ds, _, _, h, r => by
    cases h with
    | cons h1 h2 =>
      cases r with
      | cons r1 r2 =>
        obtain ⟨as, q1⟩ := Dp.reads I d _ _ h1 r1
        obtain ⟨bs, q2⟩ := Dp.readsAll I ds _ _ h2 r2
        exact ⟨_, ReadsAll.cons q1 q2⟩
end
end
section
variable {X : Cx}
def rNeD (K : PySem.W.Frag) : R2 := fun x y H Q => ∃ d e, Dp K H x d ∧ Dp K H y e ∧ SeqAt.shaped d = true ∧ SeqAt.shaped e = true ∧ Q (.bl (!PyData.eqv d e)) H
theorem op_neD (hu : X.A.units + 64 < cLine) : OpR X (compareOp .NotEq) (rNeD X.K) := by
  intro pins s σ H x y v u Q I rx ry h
  obtain ⟨d, e, hd, he, sd, se, q⟩ := h
  obtain ⟨as, r1⟩ := Dp.reads I d x v hd rx
  obtain ⟨bs, r2⟩ := Dp.reads I e y u he ry
  exact SeqAt.compareNe_shaped r1 r2 sd se hu ⟨.bl _, H, I, rfl, q⟩
end
end L2

namespace L2
open PySem PySem.Spec PyProof.Rows
abbrev CellAt (h : Heap) (c : Addr) (v : Option Value) : Prop := h.IsCell c v
def relS (scope sc : Scope) : Scope :=
  { scope with names := scope.names.map fun (n, k) => if (k == .free && sc.kind == .function && sc.names.lookup n == some .cell) then (n, .cell) else (n, k) }

def cloFrom (cells : List (Str × Addr)) : List (Str × NameKind) → List (Str × Addr) → List (Str × Addr)
  | [], acc => acc
  | (n, k) :: r, acc => if k == .free then cloFrom cells r ((n, (cells.lookup n).getD 0) :: acc) else cloFrom cells r acc

theorem closure_loop (env : Env) (f : Str × NameKind → List (Str × Addr) → Sem (ForInStep (List (Str × Addr))))
    (hf : ∀ n k c, f (n, k) c = if k == .free then (do let a ← cellOf env n; pure (.yield ((n, a) :: c))) else pure (.yield c)) :
    ∀ (names : List (Str × NameKind)) (acc : List (Str × Addr)), (∀ y ∈ names, y.2 = .free → ∃ c, env.cells.lookup y.1 = some c) → forIn names acc f = pure (cloFrom env.cells names acc)
  | [], acc, _ => by rw [List.forIn_nil]; rfl
  | (n, k) :: r, acc, h => by
    rw [List.forIn_cons, hf]
    have ih := fun acc => closure_loop env f hf r acc fun y hy => h y (List.mem_cons_of_mem _ hy)
    unfold cloFrom
    by_cases hk : (k == NameKind.free) = true
    · rw [if_pos hk, if_pos hk]
      obtain ⟨c, hc⟩ := h (n, k) List.mem_cons_self (by simpa using hk)
      have e : cellOf env n = pure c := by unfold cellOf; rw [hc]
      rw [e]
      have e2 : (env.cells.lookup n).getD 0 = c := by rw [hc]; rfl
      rw [e2]
      exact ih _
    · rw [if_neg hk, if_neg hk]
      exact ih _
theorem closure_ok {scope : Scope} {env : Env} (h : ∀ y ∈ scope.names, y.2 = .free → ∃ c, env.cells.lookup y.1 = some c) : closureFor scope env = pure (cloFrom env.cells scope.names []) := by
  simp only [closureFor]
  rw [closure_loop env _ (fun n k c => rfl) scope.names [] h]
  rfl

theorem mem_lookup {α : Type} : ∀ {l : List (Str × α)} {n : Str} {c : α}, (n, c) ∈ l → ∃ c', l.lookup n = some c'
  | (k, v) :: r, n, c, h => by
    rw [List.lookup_cons]
    cases hb : n == k with
    | true => exact ⟨_, rfl⟩
    | false =>
      rcases List.mem_cons.mp h with e | h
      · cases e; simp at hb
      · exact mem_lookup h

theorem cloFrom_mem {cells : List (Str × Addr)} : ∀ {names : List (Str × NameKind)} {acc : List (Str × Addr)} {n : Str} {c : Addr}, (n, c) ∈ cloFrom cells names acc → (n, c) ∈ acc ∨ ((n, .free) ∈ names ∧ c = (cells.lookup n).getD 0)
  | [], _, _, _, h => .inl h
  | (m, k) :: r, acc, n, c, h => by
    unfold cloFrom at h
    split at h
    · rename_i hk
      have hk : k = .free := by simpa using hk
      rcases cloFrom_mem h with h | ⟨h1, h2⟩
      · rcases List.mem_cons.mp h with e | h
        · cases e; exact .inr ⟨hk ▸ List.mem_cons_self, rfl⟩
        · exact .inl h
      · exact .inr ⟨List.mem_cons_of_mem _ h1, h2⟩
    · rcases cloFrom_mem h with h | ⟨h1, h2⟩
      · exact .inl h
      · exact .inr ⟨List.mem_cons_of_mem _ h1, h2⟩
theorem cloFrom_acc {cells : List (Str × Addr)} : ∀ {names : List (Str × NameKind)} {acc : List (Str × Addr)} {p : Str × Addr}, p ∈ acc → p ∈ cloFrom cells names acc
  | [], _, _, h => h
  | (m, k) :: r, acc, p, h => by
    unfold cloFrom
    split
    · exact cloFrom_acc (List.mem_cons_of_mem _ h)
    · exact cloFrom_acc h
theorem cloFrom_has {cells : List (Str × Addr)} : ∀ {names : List (Str × NameKind)} {acc : List (Str × Addr)} {n : Str}, (n, .free) ∈ names → (n, (cells.lookup n).getD 0) ∈ cloFrom cells names acc
  | (m, k) :: r, acc, n, h => by
    unfold cloFrom
    rcases List.mem_cons.mp h with e | h
    · cases e
      exact cloFrom_acc List.mem_cons_self
    · split
      · exact cloFrom_has h
      · exact cloFrom_has h

theorem cells_mem : ∀ {names : List (Str × NameKind)} {h : Heap} {acc : List (Str × Addr)} {x : Str} {c : Addr}, (x, c) ∈ cellsFrom h.objs.size names acc →
    (x, c) ∈ acc ∨ ((x, .cell) ∈ names ∧ h.objs.size ≤ c ∧ CellAt (pushCells h names) c none)
  | [], _, _, _, _, h => .inl h
  | (n, k) :: r, h, acc, x, c, hm => by
    unfold cellsFrom at hm
    unfold pushCells
    split at hm
    · rename_i hk
      rw [if_pos hk]
      have hk : k = .cell := by simpa using hk
      rw [← Heap.size_push h { cls := .type "cell", data := .cell none }] at hm
      rcases cells_mem hm with hm | ⟨h1, h2, h3⟩
      · rcases List.mem_cons.mp hm with e | hm
        · cases e
          exact .inr ⟨hk ▸ List.mem_cons_self, Nat.le_refl _, _, pushCells_keeps r _ _ _ (Heap.get?_push_size _ rfl), rfl⟩
        · exact .inl hm
      · rw [Heap.size_push] at h2
        exact .inr ⟨List.mem_cons_of_mem _ h1, Nat.le_of_succ_le h2, h3⟩
    · rename_i hk
      rw [if_neg hk]
      rcases cells_mem hm with hm | ⟨h1, h2, h3⟩
      · exact .inl hm
      · exact .inr ⟨List.mem_cons_of_mem _ h1, h2, h3⟩
theorem cells_acc : ∀ {names : List (Str × NameKind)} {n : Nat} {acc : List (Str × Addr)} {p : Str × Addr}, p ∈ acc → p ∈ cellsFrom n names acc
  | [], _, _, _, h => h
  | (m, k) :: r, n, acc, p, h => by
    unfold cellsFrom
    split
    · exact cells_acc (List.mem_cons_of_mem _ h)
    · exact cells_acc h
theorem cells_has : ∀ {names : List (Str × NameKind)} {n : Nat} {acc : List (Str × Addr)} {x : Str}, (x, .cell) ∈ names → ∃ c, (x, c) ∈ cellsFrom n names acc
  | (m, k) :: r, n, acc, x, h => by
    unfold cellsFrom
    rcases List.mem_cons.mp h with e | h
    · cases e
      exact ⟨n, cells_acc List.mem_cons_self⟩
    · split
      · exact cells_has h
      · exact cells_has h
theorem cells_inj : ∀ {names : List (Str × NameKind)} {h : Heap} {acc : List (Str × Addr)} {x y : Str} {c : Addr}, (∀ p ∈ acc, p.2 < h.objs.size) → (∀ x y c, (x, c) ∈ acc → (y, c) ∈ acc → x = y) →
    (x, c) ∈ cellsFrom h.objs.size names acc → (y, c) ∈ cellsFrom h.objs.size names acc → x = y
  | [], _, _, _, _, _, _, hi, h1, h2 => hi _ _ _ h1 h2
  | (n, k) :: r, h, acc, x, y, c, hl, hi, h1, h2 => by
    unfold cellsFrom at h1 h2
    split at h1
    · rename_i hk
      rw [if_pos hk] at h2
      rw [← Heap.size_push h { cls := .type "cell", data := .cell none }] at h1 h2
      refine cells_inj (h := h.push _) (fun p hp => ?_) (fun x y c a b => ?_) h1 h2
      · rw [Heap.size_push]
        rcases List.mem_cons.mp hp with rfl | hp
        · exact Nat.lt_succ_self _
        · exact Nat.lt_succ_of_lt (hl p hp)
      · rcases List.mem_cons.mp a with e | a <;> rcases List.mem_cons.mp b with e' | b
        · cases e; cases e'; rfl
        · cases e; exact absurd (hl _ b) (Nat.lt_irrefl _)
        · cases e'; exact absurd (hl _ a) (Nat.lt_irrefl _)
        · exact hi _ _ _ a b
    · rename_i hk
      rw [if_neg hk] at h2
      exact cells_inj hl hi h1 h2

theorem newEnv_comp {M : Model} {A : Around} {E : Value → Shared → Prop} {s : Shared} {scope : Scope} {globals : Addr} {closure : List (Str × Addr)} {qual : Str} {func : Option Addr} {code : Value} {around : Env} {builtins : Addr} {Q : Env → Shared → Prop}
    (h : Q (newEnv scope s.heap.objs.size globals (cellsFrom (s.heap.objs.size + 1) scope.names closure) qual func code (some around) builtins)
      { s with heap := pushCells (s.heap.push { cls := .type "dict", data := .dict #[] }) scope.names }) :
    wpAny M A (newFunctionEnv scope globals closure [] qual func code (some around) builtins) Q E s := by
  simp only [newFunctionEnv, Option.isSome_some, if_true]
  refine wpAny_bind (wpAny_alloc ?_)
  refine wpAny_bind (wpAny_layCells _ (fun n k c => rfl) scope.names closure _ _ ?_)
  rw [show ({ s with heap := s.heap.push { cls := .type "dict", data := .dict #[] } } : Shared).heap.objs.size = s.heap.objs.size + 1 from Heap.size_push ..]
  rw [List.forIn_nil]
  exact wpAny_bind (wpAny_pure (wpAny_pure h))

theorem lookup_relS {sc : Scope} : ∀ {names : List (Str × NameKind)} {x : Str} {k : NameKind},
    (names.map fun (n, k) => if (k == NameKind.free && sc.kind == .function && sc.names.lookup n == some .cell) then (n, NameKind.cell) else (n, k)).lookup x = some k →
    ∃ k', names.lookup x = some k' ∧ (k = k' ∨ (k' = .free ∧ k = .cell))
  | [], _, _, h => by simp at h
  | (n, k₀) :: r, x, k, h => by
    have ih := @lookup_relS sc r x k
    have h' : List.lookup x ((if (k₀ == NameKind.free && sc.kind == .function && sc.names.lookup n == some .cell) = true then (n, NameKind.cell) else (n, k₀)) :: (r.map _)) = some k := h
    cases hx : x == n with
    | true =>
      simp only [List.lookup_cons, hx]
      by_cases hc : (k₀ == NameKind.free && sc.kind == .function && sc.names.lookup n == some .cell) = true
      · rw [if_pos hc] at h'
        simp only [List.lookup_cons, hx] at h'
        cases h'
        simp only [Bool.and_eq_true, beq_iff_eq] at hc
        exact ⟨k₀, rfl, .inr ⟨hc.1.1, rfl⟩⟩
      · rw [if_neg hc] at h'
        simp only [List.lookup_cons, hx] at h'
        cases h'
        exact ⟨_, rfl, .inl rfl⟩
    | false =>
      simp only [List.lookup_cons, hx]
      by_cases hc : (k₀ == NameKind.free && sc.kind == .function && sc.names.lookup n == some .cell) = true
      · rw [if_pos hc] at h'
        simp only [List.lookup_cons, hx] at h'
        exact ih h'
      · rw [if_neg hc] at h'
        simp only [List.lookup_cons, hx] at h'
        exact ih h'
structure BlkOk (N : List Str) (sc scope : Scope) (own : List (Str × Nat)) : Prop where
  kind : scope.kind = .function
  uniq : ∀ y ∈ scope.names, scope.names.lookup y.1 = some y.2
  ix : ∀ p ∈ own, N[p.2]? = some p.1
  free : ∀ y ∈ scope.names, y.2 = .free → sc.names.lookup y.1 = some .cell ∨ sc.names.lookup y.1 = some .free
  own : ∀ y ∈ scope.names, y.2 = .local ∨ y.2 = .cell → y.1 ∈ own.map (·.1) ∨ y.1 ∉ N
def wipe (σ : St) : List Nat → St
  | [] => σ
  | v :: vs => (wipe σ vs).set v none
theorem wipe_length (σ : St) : ∀ vs : List Nat, (wipe σ vs).length = σ.length
  | [] => rfl
  | v :: vs => by unfold wipe; rw [List.length_set, wipe_length σ vs]
theorem wipe_some {σ : St} {i : Nat} {x : V} : ∀ {vs : List Nat}, (wipe σ vs)[i]? = some (some x) → σ[i]? = some (some x) ∧ i ∉ vs
  | [], h => ⟨h, by simp⟩
  | v :: vs, h => by
    unfold wipe at h
    by_cases hi : v = i
    · subst hi
      by_cases hv : v < (wipe σ vs).length
      · rw [List.getElem?_set_self hv] at h; cases h
      · rw [List.getElem?_eq_none (by simpa using hv)] at h; cases h
    · rw [List.getElem?_set_ne hi] at h
      obtain ⟨h1, h2⟩ := wipe_some h
      exact ⟨h1, by simp only [List.mem_cons, not_or]; exact ⟨fun e => hi e.symm, h2⟩⟩

abbrev Cx.blk (X : Cx) (s : Shared) (H : Hp) (scope : Scope) (cenv : Env) (fp : List Addr) : Cx := { X with s_0 := s, H_0 := H, env := cenv, outer := X.stack, ex := fp, fn := fun x => scope.names.lookup x == some .cell, pn := [], xe := fun _ _ => False }
section
variable {X : Cx} {pins : List (Addr × Obj)} {σ : St} {H : Hp} {s : Shared}
theorem block_start {scope : Scope} {own : List (Str × Nat)} {fp : List Addr} (I : Inv X pins σ H s) (ok : BlkOk X.N X.env.scope scope own) (hN : X.N.Nodup) (hfp : ∀ b ∈ fp, FpOk X pins H b ∧ b < s.heap.objs.size) :
    Inv (X.blk s H scope (compEnvC scope (cellsFrom (s.heap.objs.size + 1) scope.names (cloFrom X.env.cells scope.names [])) s.heap.objs.size X.env) fp) [] (wipe σ (own.map (·.2))) H { s with heap := pushCells (s.heap.push { cls := .type "dict", data := .dict #[] }) scope.names } := by
  have hfree : ∀ y ∈ scope.names, y.2 = .free → ∃ c, X.env.cells.lookup y.1 = some c := fun y hy e => by
    rcases ok.free y hy e with k | k
    · exact I.ok.has _ (.inl k)
    · exact I.ok.has _ (.inr k)
  generalize hcenv : compEnvC scope (cellsFrom (s.heap.objs.size + 1) scope.names (cloFrom X.env.cells scope.names [])) s.heap.objs.size X.env = cenv
  have kp : ∀ b o, s.heap.get? b = some o → (pushCells (s.heap.push { cls := .type "dict", data := .dict #[] }) scope.names).get? b = some o := fun b o e => pushCells_keeps _ _ _ _ (Heap.get?_push_of_some _ e)
  have hL : cenv.locals = s.heap.objs.size := by rw [← hcenv]; rfl
  have hcl : cenv.cells = cellsFrom (s.heap.objs.size + 1) scope.names (cloFrom X.env.cells scope.names []) := by rw [← hcenv]; rfl
  have hsc : cenv.scope = relS scope X.env.scope := by rw [← hcenv]; rfl
  rw [← Heap.size_push s.heap { cls := .type "dict", data := .dict #[] }] at hcl
  have cm : ∀ {y c}, (y, c) ∈ cloFrom X.env.cells scope.names [] → X.env.cells.lookup y = some c ∧ c < s.heap.objs.size := fun {y c} hm => by
    rcases cloFrom_mem hm with hm | ⟨h1, rfl⟩
    · cases hm
    · obtain ⟨c, hc⟩ := hfree _ h1 rfl
      rw [hc]
      obtain ⟨w, z⟩ := I.cell _ _ hc
      exact ⟨rfl, z.lt⟩
  have mem : ∀ {y c}, cenv.cells.lookup y = some c → (X.env.cells.lookup y = some c ∧ c < s.heap.objs.size) ∨ (s.heap.objs.size + 1 ≤ c ∧ CellAt (pushCells (s.heap.push { cls := .type "dict", data := .dict #[] }) scope.names) c none) := fun {y c} e => by
    rw [hcl] at e
    rcases cells_mem (PySem.mem_of_lookup e) with hm | ⟨_, h2, h3⟩
    · exact .inl (cm hm)
    · rw [Heap.size_push] at h2; exact .inr ⟨h2, h3⟩
  have look : ∀ {y}, scope.names.lookup y = some .free → ∃ c, cenv.cells.lookup y = some c ∧ X.env.cells.lookup y = some c := fun {y} hl => by
    have hy : (y, NameKind.free) ∈ scope.names := PySem.mem_of_lookup hl
    obtain ⟨c', e'⟩ := mem_lookup (cells_acc (names := scope.names) (n := (s.heap.push { cls := .type "dict", data := .dict #[] }).objs.size) (cloFrom_has (cells := X.env.cells) (acc := []) hy))
    rw [← hcl] at e'
    refine ⟨c', e', ?_⟩
    rw [hcl] at e'
    rcases cells_mem (PySem.mem_of_lookup e') with hm | ⟨h1, _, _⟩
    · exact (cm hm).1
    · have := ok.uniq _ h1
      rw [hl] at this; cases this
  have okB : (X.blk s H scope cenv fp).Ok := by
    refine ⟨I.ok.mod, by show cenv.scope.kind = _; rw [hsc]; exact ok.kind, by show cenv.globals = _; rw [← hcenv]; exact I.ok.glob, by show cenv.builtins = _; rw [← hcenv]; exact I.ok.blt, by show s.heap.objs.size ≤ cenv.locals; rw [hL]; exact Nat.le_refl _,
      fun y z c e1 e2 => ?_, fun y hy => ?_, fun y c z e => ?_, I.ok.hd, I.ok.frames, .inl rfl, fun b hb => ⟨?_, fun y c e z => ?_⟩, I.bs, Nat.le_trans I.ok.bsz I.sz, fun b o e hb => ?_, fun b hb z => ?_, I.stack, I.stkFree⟩
    · have e1 : cenv.cells.lookup y = some c := e1
      have e2 : cenv.cells.lookup z = some c := e2
      rw [hcl] at e1 e2
      refine cells_inj (fun p hp => ?_) (fun y z c a b => I.ok.inj y z c (cm a).1 (cm b).1) (PySem.mem_of_lookup e1) (PySem.mem_of_lookup e2)
      rw [Heap.size_push]
      exact Nat.lt_succ_of_lt (cm (y := p.1) (c := p.2) hp).2
    · show ∃ c, cenv.cells.lookup y = some c
      have key : ∀ k, cenv.kindOf y = some k → (k = .cell ∨ k = .free) → ∃ c, cenv.cells.lookup y = some c := fun k hk hk' => by
        unfold Env.kindOf at hk
        rw [hsc] at hk
        obtain ⟨k', e, r⟩ := lookup_relS hk
        have : k' = .cell ∨ k' = .free := by
          rcases r with rfl | ⟨rfl, _⟩
          · exact hk'
          · exact .inr rfl
        rcases this with rfl | rfl
        · obtain ⟨c, hm⟩ := cells_has (n := (s.heap.push { cls := .type "dict", data := .dict #[] }).objs.size) (acc := cloFrom X.env.cells scope.names []) (PySem.mem_of_lookup e)
          obtain ⟨c', e'⟩ := mem_lookup hm
          exact ⟨c', by rw [hcl]; exact e'⟩
        · obtain ⟨c, h1, _⟩ := look e
          exact ⟨c, h1⟩
      rcases hy with hy | hy
      · exact key _ hy (.inl rfl)
      · exact key _ hy (.inr rfl)
    · have z : (scope.names.lookup y == some NameKind.cell) = true := z
      have z : scope.names.lookup y = some .cell := by simpa using z
      have e : cenv.cells.lookup y = some c := e
      rw [hcl] at e
      rcases cells_mem (PySem.mem_of_lookup e) with hm | ⟨_, h2, _⟩
      · rcases cloFrom_mem hm with hm | ⟨h1, _⟩
        · cases hm
        · have q := ok.uniq _ h1
          rw [z] at q; cases q
      · rw [Heap.size_push] at h2
        exact Nat.le_of_succ_le h2
    · show b ≠ cenv.locals
      rw [hL]; exact Nat.ne_of_lt (hfp b hb).2
    · have e : cenv.cells.lookup y = some c := e
      rcases mem e with ⟨h1, _⟩ | ⟨h1, _⟩
      · exact (hfp b hb).1.2.2.2.2.1 y c h1 z
      · have h2 : s.heap.objs.size + 1 ≤ b := by rw [← z]; exact h1
        exact absurd (Nat.lt_of_lt_of_le (hfp b hb).2 (Nat.le_of_succ_le h2)) (Nat.lt_irrefl _)
    · rcases (hfp b hb).1.2.2.2.1 with z | z
      · exact I.ok.noex b o e z
      · exact absurd (Nat.lt_of_lt_of_le (Heap.lt_size e) (Nat.le_trans I.ok.bsz z)) (Nat.lt_irrefl _)
    · rcases List.mem_cons.mp (I.stkSub b z) with z | z
      · exact (hfp b hb).1.2.1 z
      · exact (hfp b hb).1.2.2.1 z
  refine ⟨okB, rfl, I.bare, Un.kept kp, ⟨fun _ => none, ?_, fun i y av e1 e2 e3 => ?_⟩, fun y c e => ?_, ?_, fun y c e => ?_, fun p hp => ?_, I.hok.kept kp, by rw [wipe_length]; exact I.len⟩
  · show Heap.Ns _ cenv.locals _
    rw [hL]
    exact Heap.Ns.keeps (Heap.Ns.new ..) fun b o e => pushCells_keeps _ _ _ _ e
  · obtain ⟨e2, hne⟩ := wipe_some e2
    have hfr : scope.names.lookup y = some .free ∧ (cenv.kindOf y = some .cell ∨ cenv.kindOf y = some .free) := by
      have key : ∀ k, cenv.scope.names.lookup y = some k → k = .local ∨ k = .cell ∨ k = .free → scope.names.lookup y = some .free ∧ (cenv.kindOf y = some .cell ∨ cenv.kindOf y = some .free) := fun k hk hk' => by
        have hk0 := hk
        rw [hsc] at hk
        obtain ⟨k', e, r⟩ := lookup_relS hk
        have no : ¬ (k' = .local ∨ k' = .cell) := fun hh => by
          rcases ok.own _ (PySem.mem_of_lookup e) hh with e' | e'
          · obtain ⟨p, hp, hpy⟩ := List.mem_map.mp e'
            have e3 := ok.ix p hp
            have : p.1 = y := hpy
            rw [this] at e3
            exact hne (List.mem_map.mpr ⟨p, hp, nodup_ix hN e3 e1⟩)
          · exact e' (List.mem_of_getElem? e1)
        rcases r with rfl | ⟨rfl, rfl⟩
        · rcases hk' with rfl | rfl | rfl
          · exact absurd (.inl rfl) no
          · exact absurd (.inr rfl) no
          · exact ⟨e, .inr hk0⟩
        · exact ⟨e, .inl hk0⟩
      have e3 : Vis cenv.scope y := e3
      rcases e3 with e3 | e3 | e3
      · exact key _ e3 (.inl rfl)
      · exact key _ e3 (.inr (.inl rfl))
      · exact key _ e3 (.inr (.inr rfl))
    obtain ⟨m, hn, hl⟩ := I.loc
    have hvis : Vis X.env.scope y := (ok.free _ (PySem.mem_of_lookup hfr.1) rfl).elim (fun k => .inr (.inl k)) (fun k => .inr (.inr k))
    obtain ⟨w, r, q⟩ := hl i y av e1 e2 hvis
    refine ⟨w, r, .inr ⟨hfr.2, ?_⟩⟩
    obtain ⟨c, h1, h2⟩ := look hfr.1
    rcases q with ⟨k, _⟩ | ⟨_, c', e', z⟩
    · have k : X.env.scope.names.lookup y = some .local := k
      rcases ok.free _ (PySem.mem_of_lookup hfr.1) rfl with k' | k' <;> rw [show X.env.scope.names.lookup y = _ from k'] at k <;> cases k
    · rw [h2] at e'; cases e'
      exact ⟨c, h1, z.keeps kp⟩
  · have e : cenv.cells.lookup y = some c := e
    rcases mem e with ⟨h1, _⟩ | ⟨_, z⟩
    · obtain ⟨w, z⟩ := I.cell y c h1
      exact ⟨w, z.keeps kp⟩
    · exact ⟨_, z⟩
  · show H cenv.locals = none
    rw [hL]; exact I.hok.fresh (Nat.le_refl _)
  · have e : cenv.cells.lookup y = some c := e
    rcases mem e with ⟨h1, _⟩ | ⟨h1, _⟩
    · exact I.freeC y c h1
    · exact I.hok.fresh (Nat.le_of_succ_le h1)
  · exact absurd (show p ∈ ([] : List (Addr × Obj)) ++ [] from hp) (by simp)

theorem app_ok {E : Value → Shared → Prop} {D : Addr} {xs : List V} {y : V} {v : Value} {Q : Value → Shared → Prop} (I : Inv X pins σ H s) (hD : H D = some (.lst xs)) (hz : xs.length < sizeLine) (r : RelV y v)
    (h : ∀ s', Inv X pins σ (upd H D (.lst (xs ++ [y]))) s' → Q .none s') : wpAny (model X.prog X.w) X.A (call (.builtin "list.append") [.ref D, v]) Q E s := by
  obtain ⟨hz', its, n, ri, e⟩ := I.hok D _ hD
  have hl := ri.length
  refine append_at (hsz := by rw [List.size_toArray]; omega) e fun h' sb ho' => ?_
  refine h { s with heap := h' } (I.write (t' := s.toks) (by rw [hD]; trivial) (.inl rfl) (fun b u hb q => (sb.2 b hb).trans q) ⟨_, ho'⟩ ⟨by rw [List.length_append]; exact hz, its ++ [v], n + 1, ri.append (.cons r .nil), ?_⟩)
  rw [ho']
  simp

def PTs (X : Cx) (ifs : List Expr) (t : TT) : Prop :=
  ∀ (pins : List (Addr × Obj)) (s : Shared) (σ : St) (H : Hp) (Q : Bool → Hp → Prop), Inv X pins σ H s → t σ H Q →
    wpAny (model X.prog X.w) X.A (forIn ifs true fun c r => if r = true then do let ok ← isTrue c X.env (eval c X.env); pure (ForInStep.yield ok) else pure (ForInStep.yield r)) (TP X pins σ Q) X.xe s
def tYes : TT := fun _ H Q => Q true H
theorem pts_nil : PTs X [] tYes := fun _ _ _ H _ I h => wpAny_tests_nil ⟨H, I, h⟩
theorem pts_one {c : Expr} {t : TT} (h : PT X c t) : PTs X [c] t := fun pins s σ H Q I hw => wpAny_tests_one (h pins s σ H Q I hw)
end

theorem thnF {α : Type} {t : Sem α} {Q Q' : α → Shared → Prop} {M : Model} {A : Around} {E : Value → Shared → Prop} {s : Shared} (h : wpAny M A t Q (fun _ _ => False) s) (hQ : ∀ a s, Q a s → Q' a s) : wpAny M A t Q' E s := wpAny_mono h hQ fun _ _ z => False.elim z

theorem compLoop_any {prog : Program} {w : World} {A : Around} {R : Result → Shared → Prop} {s : Shared} {elt target iter : Expr} {ifs : List Expr} {scope : Scope} {pos : Pos} {it acc : Value} {env : Env} (I : Nat → Shared → Prop)
    (turn : ∀ n s, I n s → wpAny (model prog w) A (pyNext it) (fun r s₁ => match r with
      | none => R (.ok .next) s₁
      | some v => wpAny (model prog w) A (letOwnedTupleGo target it v) (fun _ s₁' => wpAny (model prog w) A (assign target env v) (fun _ s₂ =>
          wpAny (model prog w) A (forIn ifs true fun c r => if r = true then do let ok ← isTrue c env (eval c env); pure (ForInStep.yield ok) else pure (ForInStep.yield r)) (fun ok s₃ =>
            if ok = true then wpAny (model prog w) A (eval elt env) (fun x s₄ =>
              wpAny (model prog w) A (call (.builtin "list.append") [acc, x]) (fun _ s₅ => ∃ m, m < n ∧ I m s₅) (notedBy (model prog w) A env fun e s' => R (.error e) s') s₄) (notedBy (model prog w) A env fun e s' => R (.error e) s') s₃
            else ∃ m, m < n ∧ I m s₃) (notedBy (model prog w) A env fun e s' => R (.error e) s') s₂) (notedBy (model prog w) A env fun e s' => R (.error e) s') s₁') (notedBy (model prog w) A env fun e s' => R (.error e) s') s₁) (notedBy (model prog w) A env fun e s' => R (.error e) s') s)
    (n : Nat) (h : I n s) :
    codeAny (model prog w) A (.compLoop (.ListComp elt [⟨target, iter, ifs, 0⟩] scope pos) 0 it acc env) R s := by
  refine codeAny_loop rfl I (fun n s hI => ?_) n h
  show wpAny _ A ((compTurn (.ListComp elt [⟨target, iter, ifs, 0⟩] scope pos) 0 it acc env).onRaise (fun x => do noteFrame x env; theTreesLotGoes x)) _ _ s
  refine wpAny_noted ?_
  rw [compTurn_list]
  refine wpAny_bind (wpAny_standAt (wpAny_bind (wpAny_mono (turn n s hI) (fun r s₁ h₁ => ?_) fun _ _ h' => h')))
  cases r with
  | none => exact wpAny_pure h₁
  | some v =>
    refine wpAny_bind (wpAny_mono h₁ (fun _ s₁' h₁' => ?_) fun _ _ h' => h')
    refine wpAny_bind (wpAny_mono h₁' (fun _ s₂ h₂ => wpAny_bind (wpAny_mono h₂ (fun ok s₃ h₃ => ?_) fun _ _ h' => h')) fun _ _ h' => h')
    cases ok with
    | false => exact wpAny_pure ⟨rfl, h₃⟩
    | true =>
      exact wpAny_bind (wpAny_bind (wpAny_mono h₃ (fun x s₄ h₄ => wpAny_bind (wpAny_mono h₄ (fun _ s₅ h₅ => wpAny_pure (wpAny_pure ⟨rfl, h₅⟩)) fun _ _ h' => h')) fun _ _ h' => h'))

section
variable {X : Cx}
def tLc (wi : TI) (g : TG) (tt : TT) (te : TE) (vs : List Nat) : TE := fun σ H Q => wi σ H fun J H1 => ∀ D, H1 D = none → ∃ W : Nat → Nat → Hp → Prop, (∃ m, W 0 m (upd H1 D (.lst []))) ∧ ∀ i m H, W i m H →
  (J.stop i H ∧ Q (.ref D) H) ∨ (J.go i H ∧ ∃ Nx : Hp → Prop, (∀ H', Nx H' → ∃ m', m' < m ∧ W (i + 1) m' H') ∧ ∀ x H', J.yld i H x H' → g x (wipe σ vs) H' fun σ2 H2 => wipe σ2 vs = wipe σ vs ∧ tt σ2 H2 fun b H3 =>
    if b = true then te σ2 H3 fun y H4 => ∃ acc, H4 D = some (.lst acc) ∧ acc.length < sizeLine ∧ Nx (upd H4 D (.lst (acc ++ [y]))) else Nx H3)
theorem lc_core {pins : List (Addr × Obj)} {s : Shared} {σ : St} {H : Hp} {Q : VK} {elt tg iter : Expr} {ifs : List Expr} {scope : Scope} {own : List (Str × Nat)} {pos pos' : Pos} {wi : TI} {g : TG} {tt : TT} {te : TE} {use : Option (Value → Sem Unit)} {Qf : Value → Shared → Prop}
    (hc : X.calm = true) (hN : X.N.Nodup) (I : Inv X pins σ H s) (hi : PI X tg iter wi) (ok : BlkOk X.N X.env.scope scope own)
    (hg : ∀ (s : Shared) (H : Hp) (C : Addr) (cl : List (Str × Addr)) (fp : List Addr), PG (X.blk s H scope (compEnvC scope cl C X.env) fp) tg g) (ht : ∀ (s : Shared) (H : Hp) (C : Addr) (cl : List (Str × Addr)) (fp : List Addr), PTs (X.blk s H scope (compEnvC scope cl C X.env) fp) ifs tt)
    (he : ∀ (s : Shared) (H : Hp) (C : Addr) (cl : List (Str × Addr)) (fp : List Addr), PE (X.blk s H scope (compEnvC scope cl C X.env) fp) elt te) (hs : ∀ x, foldedSetIterable iter X.env x = pure x)
    (h : tLc wi g tt te (own.map (·.2)) σ H Q)
    (hRR : ∀ D C s' m H', Inv X pins σ H' s' → Q (.ref D) H' → s'.heap.Ns C m → FpOk X pins H' C → compPost (model X.prog X.w) X.A X.xe use Qf (.ref D) C (.ok .next) s') :
    wpAny (model X.prog X.w) X.A (comprehension (.ListComp elt [⟨tg, iter, ifs, 0⟩] scope pos) scope X.env pos' (newList []) false (eval iter X.env) use) Qf X.xe s := by
  have hfree : ∀ y ∈ scope.names, y.2 = .free → ∃ c, X.env.cells.lookup y.1 = some c := fun y hy e => by
    rcases ok.free y hy e with k | k
    · exact I.ok.has _ (.inl k)
    · exact I.ok.has _ (.inr k)
  refine wpAny_comprehension_free (use := use) rfl hs (closure_ok hfree) ok.kind (fun y hy e => by rw [ok.uniq y hy, e])
    (thn (hi pins s σ H _ I h) fun xv s1 hx => thn hx fun itv s2 h2 => ?_)
  obtain ⟨it, fp, tn, J, H2, e, I2, T, st2, f2, q⟩ := h2
  subst e
  refine wpAny_newObj_type (newEnv_comp ?_) (by show 0 ≤ sizeLine; decide)
  generalize hD : s2.heap.objs.size = D
  have hDn : H2 D = none := I2.hok.fresh (Nat.le_of_eq hD)
  obtain ⟨W, ⟨m0, w0⟩, turn⟩ := q D hDn
  -- the new list
  generalize hs3 : ({ s2 with heap := s2.heap.push { cls := .type "list", data := .seq ([] : List Value).toArray } } : Shared) = s3
  have I3 : Inv X pins σ (upd H2 D (.lst [])) s3 := by
    rw [← hs3]
    refine I2.laid (t' := s2.toks) (fun b o e => Heap.get?_push_of_some _ e) (Nat.le_of_eq hD) ⟨Nat.zero_le _, [], 0, .nil, ?_⟩
    rw [← hD]
    exact Heap.get?_push_size _ rfl
  have h3 : s3.heap = s2.heap.push { cls := .type "list", data := .seq ([] : List Value).toArray } := by rw [← hs3]
  have sz : ∀ b ∈ fp, b < s2.heap.objs.size := fun b hb => by
    obtain ⟨o, e, _⟩ := T.obj _ _ st2 b hb
    exact Heap.lt_size e
  have f3 : ∀ b ∈ fp, FpOk X pins (upd H2 D (.lst [])) b ∧ b < s3.heap.objs.size := fun b hb => by
    have hlt := sz b hb
    refine ⟨⟨?_, (f2 b hb).2⟩, by rw [h3, Heap.size_push]; exact Nat.lt_succ_of_lt hlt⟩
    rw [upd_ne (by rw [← hD]; exact Nat.ne_of_lt hlt)]
    exact (f2 b hb).1
  have st3 : tn 0 s3.heap := T.keep _ _ _ st2 fun b _ o e => by rw [h3]; exact Heap.get?_push_of_some _ e
  have I4 := block_start I3 ok hN f3
  have pg := hg s3 (upd H2 D (.lst [])) s3.heap.objs.size (cellsFrom (s3.heap.objs.size + 1) scope.names (cloFrom X.env.cells scope.names [])) fp
  have pt := ht s3 (upd H2 D (.lst [])) s3.heap.objs.size (cellsFrom (s3.heap.objs.size + 1) scope.names (cloFrom X.env.cells scope.names [])) fp
  have pe := he s3 (upd H2 D (.lst [])) s3.heap.objs.size (cellsFrom (s3.heap.objs.size + 1) scope.names (cloFrom X.env.cells scope.names [])) fp
  show codeAny _ _ (.compStart (.ListComp elt [⟨tg, iter, ifs, 0⟩] scope pos) 0 (.ref it) (.ref D) (compEnvC scope (cellsFrom (s3.heap.objs.size + 1) scope.names (cloFrom X.env.cells scope.names [])) s3.heap.objs.size X.env)) (compPost (model X.prog X.w) X.A X.xe use Qf (.ref D) s3.heap.objs.size) { s3 with heap := pushCells (s3.heap.push { cls := .type "dict", data := .dict #[] }) scope.names }
  have nfp : ∀ b ∈ fp, (upd H2 D (.lst [])) b = none := fun b hb => (f3 b hb).1.1
  generalize hce : compEnvC scope (cellsFrom (s3.heap.objs.size + 1) scope.names (cloFrom X.env.cells scope.names [])) s3.heap.objs.size X.env = ce at I4 pg pt pe ⊢
  have cL : ce.locals = s3.heap.objs.size := by subst hce; rfl
  generalize hH3 : upd H2 D (.lst []) = H3 at I3 I4 pg pt pe w0 nfp f3
  generalize hs4 : ({ s3 with heap := pushCells (s3.heap.push { cls := .type "dict", data := .dict #[] }) scope.names } : Shared) = s4 at I4 ⊢
  have st4 : tn 0 s4.heap := T.keep _ _ _ st3 fun b _ o e => by rw [← hs4]; exact pushCells_keeps _ _ _ _ (Heap.get?_push_of_some _ e)
  have stat : ∀ {σ' : St} {H' : Hp} {s' : Shared}, Inv (X.blk s3 H3 scope ce fp) [] σ' H' s' → (∀ b ∈ fp, H' b = none) → ∀ b ∈ fp, FpOk (X.blk s3 H3 scope ce fp) [] H' b := fun {σ' H' s'} I' hn b hb =>
    ⟨hn b hb, (I'.ok.exf b hb).1, I'.ok.exfs b hb, .inl hb, fun x c e => (I'.ok.exf b hb).2 x c e, fun p hp => absurd (show p ∈ ([] : List (Addr × Obj)) ++ [] from hp) (by simp)⟩
  have loop : codeAny (model X.prog X.w) X.A (.compLoop (.ListComp elt [⟨tg, iter, ifs, 0⟩] scope pos) 0 (.ref it) (.ref D) ce) (compPost (model X.prog X.w) X.A X.xe use Qf (.ref D) s3.heap.objs.size) s4 := by
    refine compLoop_any (fun n s' => ∃ i H', Inv (X.blk s3 H3 scope ce fp) [] (wipe σ (own.map (·.2))) H' s' ∧ tn i s'.heap ∧ (∀ b ∈ fp, H' b = none) ∧ W i n H') ?_ m0 ⟨0, H3, I4, st4, nfp, w0⟩
    rintro n s5 ⟨i, H5, I5, st5, n5, w5⟩
    rcases turn i n H5 w5 with ⟨stop, qq⟩ | ⟨go, Nx, hNx, step⟩
    · have td := T.done (X.blk s3 H3 scope ce fp) rfl rfl rfl hc i [] s5 _ H5 (fun _ _ => False) I5 (stat I5 n5) st5 stop
      refine thnF td fun r s6 ⟨hr, I6⟩ => ?_
      subst hr
      -- back in the def's context
      have I7 : Inv X pins σ H5 s6 := I3.call' (ch := fp) I6.os I6.base I6.hok I6.bare fun b hb => ⟨(f3 b hb).1.2.2.2.1, (f3 b hb).1.2.1, (f3 b hb).1.2.2.2.2.1, (f3 b hb).1.2.2.2.2.2⟩
      have nC : H5 s3.heap.objs.size = none := by
        have z : H5 ce.locals = none := I6.free
        rw [cL] at z
        exact z
      obtain ⟨m, hn, _⟩ := I6.loc
      have hn : s6.heap.Ns ce.locals m := hn
      rw [cL] at hn
      exact hRR D s3.heap.objs.size s6 m H5 I7 qq hn (I3.fpOk (Nat.le_refl _) nC)
    · have ti := T.item (X.blk s3 H3 scope ce fp) rfl rfl rfl hc i [] s5 _ H5 (fun _ _ => False) I5 (stat I5 n5) st5 go
      refine thnF ti fun r s6 ⟨u, hr, h6⟩ => ?_
      subst hr
      refine thnF h6 fun _ s7 ⟨x, H7, I7, r7, y7, st7, n7⟩ => ?_
      have I7' := I7.pinned (stat I7 n7) (T.obj _ _ st7)
      refine thnF (pg _ s7 _ H7 x u _ I7' r7 (step x H7 y7)) fun _ s8 ⟨σ8, H8, I8, hw8, q8⟩ => ?_
      refine thnF (pt _ s8 σ8 H8 _ I8 q8) fun b s9 ⟨H9, I9, q9⟩ => ?_
      -- the turn's end
      have fin : ∀ {s' : Shared} {H' : Hp}, Inv (X.blk s3 H3 scope ce fp) ([] ++ pinsAt fp s7.heap) σ8 H' s' → Nx H' → ∃ m, m < n ∧ ∃ i H', Inv (X.blk s3 H3 scope ce fp) [] (wipe σ (own.map (·.2))) H' s' ∧ tn i s'.heap ∧ (∀ b ∈ fp, H' b = none) ∧ W i m H' := fun {s' H'} I' nx => by
        obtain ⟨m', hm, w'⟩ := hNx H' nx
        have pin' : ∀ b ∈ fp, ∀ o, s7.heap.get? b = some o → s'.heap.get? b = some o ∧ H' b = none := fun b hb o e =>
          let z := I'.pin (b, o) (List.mem_append_right _ (List.mem_append_right _ (mem_pinsAt hb e)))
          ⟨z.1, z.2.1⟩
        have hl : (wipe σ (own.map (·.2))).length = σ8.length := by rw [← hw8, wipe_length]
        refine ⟨m', hm, i + 1, H', (I'.unpinned (pins := [])).weak hl (fun j v e => ?_), T.keep _ _ _ st7 fun b hb o e => (pin' b hb o e).1, fun b hb => ?_, w'⟩
        · rw [← hw8] at e
          exact (wipe_some e).1
        · obtain ⟨o, e, _⟩ := T.obj _ _ st7 b hb
          exact (pin' b hb o e).2
      cases b with
      | false =>
        simp only [Bool.false_eq_true, if_false] at q9 ⊢
        exact fin I9 q9
      | true =>
        simp only [if_true] at q9 ⊢
        refine thnF (pe _ s9 σ8 H9 _ I9 q9) fun z s10 ⟨yv, H10, I10, r10, acc, hD10, hz10, nx⟩ => ?_
        exact app_ok (X := X.blk s3 H3 scope ce fp) I10 hD10 hz10 r10 fun s11 I11 => fin I11 nx
  exact codeAny_compStart_list loop (T.self X.A 0 _ _ _ st4 loop)
theorem pe_lc {elt tg iter : Expr} {ifs : List Expr} {scope : Scope} {own : List (Str × Nat)} {pos : Pos} {wi : TI} {g : TG} {tt : TT} {te : TE} (hc : X.calm = true) (hN : X.N.Nodup) (hi : PI X tg iter wi) (ok : BlkOk X.N X.env.scope scope own)
    (hg : ∀ (s : Shared) (H : Hp) (C : Addr) (cl : List (Str × Addr)) (fp : List Addr), PG (X.blk s H scope (compEnvC scope cl C X.env) fp) tg g) (ht : ∀ (s : Shared) (H : Hp) (C : Addr) (cl : List (Str × Addr)) (fp : List Addr), PTs (X.blk s H scope (compEnvC scope cl C X.env) fp) ifs tt)
    (he : ∀ (s : Shared) (H : Hp) (C : Addr) (cl : List (Str × Addr)) (fp : List Addr), PE (X.blk s H scope (compEnvC scope cl C X.env) fp) elt te) (hs : ∀ x, foldedSetIterable iter X.env x = pure x := by intro _; rfl) :
    PE X (.ListComp elt [⟨tg, iter, ifs, 0⟩] scope pos) (tLc wi g tt te (own.map (·.2))) := by
  intro pins s σ H Q I h
  rw [eval_ListComp]
  refine lc_core hc hN I hi ok hg ht he hs h fun D C s' m H' I' q hn f => ⟨m, hn, fun h'' sb => ?_⟩
  obtain ⟨f0, f1, f2, f3, f4, f5⟩ := f
  exact ⟨.ref D, H', I'.turned (t' := s'.toks) (fun b o hb e => (sb.2 b hb).trans e) f0 f1 f3 f4 f5, rfl, q⟩
theorem ps_setLc {i : Nat} {y : Str} {py : Pos} {elt tg iter : Expr} {ifs : List Expr} {scope : Scope} {own : List (Str × Nat)} {pos spos : Pos} {wi : TI} {g : TG} {tt : TT} {te : TE} (hc : X.calm = true) (hN : X.N.Nodup) (hy : X.N[i]? = some y) (hyl : X.env.scope.names.lookup y = some .local)
    (hsw : swapsWith (.ListComp elt [⟨tg, iter, ifs, 0⟩] scope pos) (some (.Name y py)) spos.line X.env = pure true) (hi : PI X tg iter wi) (ok : BlkOk X.N X.env.scope scope own)
    (hg : ∀ (s : Shared) (H : Hp) (C : Addr) (cl : List (Str × Addr)) (fp : List Addr), PG (X.blk s H scope (compEnvC scope cl C X.env) fp) tg g) (ht : ∀ (s : Shared) (H : Hp) (C : Addr) (cl : List (Str × Addr)) (fp : List Addr), PTs (X.blk s H scope (compEnvC scope cl C X.env) fp) ifs tt)
    (he : ∀ (s : Shared) (H : Hp) (C : Addr) (cl : List (Str × Addr)) (fp : List Addr), PE (X.blk s H scope (compEnvC scope cl C X.env) fp) elt te) (hs : ∀ x, foldedSetIterable iter X.env x = pure x := by intro _; rfl) :
    PS X (.Assign [.Name y py] (.ListComp elt [⟨tg, iter, ifs, 0⟩] scope pos) spos) (tAsg (tLc wi g tt te (own.map (·.2))) (gName i)) := by
  intro pins s σ H D I h
  rw [exec_Assign_Name_used _ _ _ _ hsw]
  refine wpAny_bind (wpAny_standAt (wpAny_bind ?_))
  show wpAny _ X.A (do let _ ← comprehension (.ListComp elt [⟨tg, iter, ifs, 0⟩] scope pos) scope X.env (firstIterPos [⟨tg, iter, ifs, 0⟩] pos) (newList []) false (eval iter X.env) (some (assign (.Name y py) X.env))) _ _ s
  have h : tLc wi g tt te (own.map (·.2)) σ H (fun x H1 => gName i x σ H1 D.nx) := h
  refine wpAny_bind (thn (lc_core (Qf := fun _ s' => SP X pins D .next s') hc hN I hi ok hg ht he hs h fun L C s' m H' I' q hn f => ?_) fun _ s' hq => wpAny_pure (wpAny_pure hq))
  show wpAny _ _ (assign (.Name y py) X.env (.ref L)) _ _ _
  refine wpAny_assign_Name (store_ok2 (v := V.ref L) I' hN hy (.inl hyl) rfl (fun s2 I2 ⟨a, sb, ha⟩ => ?_) (.inr hyl))
  obtain ⟨f0, f1, f2, f3, f4, f5⟩ := f
  have haC : C ≠ a := by
    rcases ha with z | z
    · rw [z]; exact f1
    · exact fun e => f4 y a z e.symm
  refine ⟨m, hn.sameBut sb haC, fun h3 sb3 => ?_⟩
  exact ⟨_, H', I2.turned (t' := s2.toks) (fun b o hb e => (sb3.2 b hb).trans e) f0 f1 f3 f4 f5, q⟩
theorem sw_true {elt : Expr} {gs : List Comprehension} {scope : Scope} {pos py : Pos} {y : Str} {l : Nat} {env : Env} (hk : env.scope.kind = .function) (hy : env.scope.names.lookup y = some .local) (hl : (py.line == pos.line) = true)
    (ha : (scope.names.any fun (n, k) => n == y && (k == .local || k == .cell)) = false) : swapsWith (.ListComp elt gs scope pos) (some (.Name y py)) l env = pure true := by
  have ky : env.kindOf y = some .local := hy
  have hb : env.blockKind = .function := by unfold Env.blockKind; rw [hk]; rfl
  unfold swapsWith
  simp only [hb, ky, ha, Expr.pos, hl]
  rfl
end

theorem lc_range {lo : Int} {n : Nat} {g : TG} {tt : TT} {te : TE} {vs : List Nat} {σ : St} {H1 : Hp} {D : Addr} {Qd : Hp → Prop} (Pv : Nat → Hp → Prop) (h0 : Pv 0 (upd H1 D (.lst [])))
    (hs : ∀ i H, i < n → Pv i H → g (.int (lo + i)) (wipe σ vs) H fun σ2 H2 => wipe σ2 vs = wipe σ vs ∧ tt σ2 H2 fun b H3 =>
      if b = true then te σ2 H3 fun y H4 => ∃ acc, H4 D = some (.lst acc) ∧ acc.length < sizeLine ∧ Pv (i + 1) (upd H4 D (.lst (acc ++ [y]))) else Pv (i + 1) H3) (hd : ∀ H, Pv n H → Qd H) :
    ∃ W : Nat → Nat → Hp → Prop, (∃ m, W 0 m (upd H1 D (.lst []))) ∧ ∀ i m H, W i m H →
      ((Itr lo n).stop i H ∧ Qd H) ∨ ((Itr lo n).go i H ∧ ∃ Nx : Hp → Prop, (∀ H', Nx H' → ∃ m', m' < m ∧ W (i + 1) m' H') ∧ ∀ x H', (Itr lo n).yld i H x H' → g x (wipe σ vs) H' fun σ2 H2 => wipe σ2 vs = wipe σ vs ∧ tt σ2 H2 fun b H3 =>
        if b = true then te σ2 H3 fun y H4 => ∃ acc, H4 D = some (.lst acc) ∧ acc.length < sizeLine ∧ Nx (upd H4 D (.lst (acc ++ [y]))) else Nx H3) := by
  refine ⟨fun i m H => m = n - i ∧ i ≤ n ∧ Pv i H, ⟨n, by simp, Nat.zero_le _, h0⟩, ?_⟩
  rintro i m H ⟨rfl, hi, p⟩
  by_cases hlt : i < n
  · refine .inr ⟨hlt, Pv (i + 1), fun H' p' => ⟨n - (i + 1), by omega, rfl, hlt, p'⟩, fun x H' y => ?_⟩
    obtain ⟨e, y⟩ := y
    subst e y
    exact hs i _ hlt p
  · have e : i = n := by omega
    subst e
    exact .inl ⟨Nat.le_refl _, hd H p⟩
theorem lc_list {K : PySem.W.Frag} {a : Addr} {xs : List V} {g : TG} {tt : TT} {te : TE} {vs : List Nat} {σ : St} {H1 : Hp} {D : Addr} {Qd : Hp → Prop} (Pv : Nat → Hp → Prop) (h0 : Pv 0 (upd H1 D (.lst []))) (hl : ∀ i H, i ≤ xs.length → Pv i H → SqL K H a xs)
    (hs : ∀ i x H, xs[i]? = some x → Pv i H → g x (wipe σ vs) H fun σ2 H2 => wipe σ2 vs = wipe σ vs ∧ tt σ2 H2 fun b H3 =>
      if b = true then te σ2 H3 fun y H4 => ∃ acc, H4 D = some (.lst acc) ∧ acc.length < sizeLine ∧ Pv (i + 1) (upd H4 D (.lst (acc ++ [y]))) else Pv (i + 1) H3) (hd : ∀ H, Pv xs.length H → Qd H) :
    ∃ W : Nat → Nat → Hp → Prop, (∃ m, W 0 m (upd H1 D (.lst []))) ∧ ∀ i m H, W i m H →
      ((Itl K a).stop i H ∧ Qd H) ∨ ((Itl K a).go i H ∧ ∃ Nx : Hp → Prop, (∀ H', Nx H' → ∃ m', m' < m ∧ W (i + 1) m' H') ∧ ∀ x H', (Itl K a).yld i H x H' → g x (wipe σ vs) H' fun σ2 H2 => wipe σ2 vs = wipe σ vs ∧ tt σ2 H2 fun b H3 =>
        if b = true then te σ2 H3 fun y H4 => ∃ acc, H4 D = some (.lst acc) ∧ acc.length < sizeLine ∧ Nx (upd H4 D (.lst (acc ++ [y]))) else Nx H3) := by
  refine ⟨fun i m H => m = xs.length - i ∧ i ≤ xs.length ∧ Pv i H, ⟨xs.length, by simp, Nat.zero_le _, h0⟩, ?_⟩
  rintro i m H ⟨rfl, hi, p⟩
  have q := hl i H hi p
  by_cases hlt : i < xs.length
  · refine .inr ⟨⟨xs, xs[i], q, by simp [hlt]⟩, Pv (i + 1), fun H' p' => ⟨xs.length - (i + 1), by omega, rfl, hlt, p'⟩, fun x H' y => ?_⟩
    obtain ⟨e, y⟩ := y
    subst e
    exact hs i x _ (y xs q) p
  · have e : i = xs.length := by omega
    subst e
    exact .inl ⟨⟨xs, q, Nat.le_refl _⟩, hd H p⟩
theorem lc_tup {K : PySem.W.Frag} {a : Addr} {xs : List V} {g : TG} {tt : TT} {te : TE} {vs : List Nat} {σ : St} {H1 : Hp} {D : Addr} {Qd : Hp → Prop} (Pv : Nat → Hp → Prop) (h0 : Pv 0 (upd H1 D (.lst []))) (hl : ∀ i H, i ≤ xs.length → Pv i H → SqT K H a xs)
    (hs : ∀ i x H, xs[i]? = some x → Pv i H → g x (wipe σ vs) H fun σ2 H2 => wipe σ2 vs = wipe σ vs ∧ tt σ2 H2 fun b H3 =>
      if b = true then te σ2 H3 fun y H4 => ∃ acc, H4 D = some (.lst acc) ∧ acc.length < sizeLine ∧ Pv (i + 1) (upd H4 D (.lst (acc ++ [y]))) else Pv (i + 1) H3) (hd : ∀ H, Pv xs.length H → Qd H) :
    ∃ W : Nat → Nat → Hp → Prop, (∃ m, W 0 m (upd H1 D (.lst []))) ∧ ∀ i m H, W i m H →
      ((Itt K a).stop i H ∧ Qd H) ∨ ((Itt K a).go i H ∧ ∃ Nx : Hp → Prop, (∀ H', Nx H' → ∃ m', m' < m ∧ W (i + 1) m' H') ∧ ∀ x H', (Itt K a).yld i H x H' → g x (wipe σ vs) H' fun σ2 H2 => wipe σ2 vs = wipe σ vs ∧ tt σ2 H2 fun b H3 =>
        if b = true then te σ2 H3 fun y H4 => ∃ acc, H4 D = some (.lst acc) ∧ acc.length < sizeLine ∧ Nx (upd H4 D (.lst (acc ++ [y]))) else Nx H3) := by
  refine ⟨fun i m H => m = xs.length - i ∧ i ≤ xs.length ∧ Pv i H, ⟨xs.length, by simp, Nat.zero_le _, h0⟩, ?_⟩
  rintro i m H ⟨rfl, hi, p⟩
  have q := hl i H hi p
  by_cases hlt : i < xs.length
  · refine .inr ⟨⟨xs, xs[i], q, by simp [hlt]⟩, Pv (i + 1), fun H' p' => ⟨xs.length - (i + 1), by omega, rfl, hlt, p'⟩, fun x H' y => ?_⟩
    obtain ⟨e, y⟩ := y
    subst e
    exact hs i x _ (y xs q) p
  · have e : i = xs.length := by omega
    subst e
    exact .inl ⟨⟨xs, q, Nat.le_refl _⟩, hd H p⟩
def blkC (N : List Str) (sc scope : Scope) (own : List (Str × Nat)) : Bool :=
  (match scope.kind with | .function => true | _ => false) && (scope.names.all fun y => decide (scope.names.lookup y.1 = some y.2)) && (own.all fun p => decide (N[p.2]? = some p.1)) &&
    (scope.names.all fun y => match y.2 with
      | .free => (match sc.names.lookup y.1 with | some .cell => true | some .free => true | _ => false)
      | .local => decide (y.1 ∈ own.map (·.1)) || decide (y.1 ∉ N)
      | .cell => decide (y.1 ∈ own.map (·.1)) || decide (y.1 ∉ N)
      | _ => true)
theorem blkOk_by {N : List Str} {sc scope : Scope} {own : List (Str × Nat)} (h : blkC N sc scope own = true) : BlkOk N sc scope own := by
  unfold blkC at h
  simp only [Bool.and_eq_true, List.all_eq_true, decide_eq_true_eq] at h
  obtain ⟨⟨⟨h1, h2⟩, h3⟩, h4⟩ := h
  refine ⟨?_, h2, h3, fun y hy e => ?_, fun y hy e => ?_⟩
  · split at h1
    · assumption
    · cases h1
  · have q := h4 y hy
    simp only [e] at q
    split at q <;> first | exact .inl (by assumption) | exact .inr (by assumption) | cases q
  · have q := h4 y hy
    rcases e with e | e <;> (simp only [e, Bool.or_eq_true, decide_eq_true_eq] at q; exact q)
end L2

namespace L2
open PySem PySem.Spec PyProof.Rows

section
variable {prog : Program} {w : World} {A : Around} {R : Result → Shared → Prop} {s : Shared} {elt t0 i0 t1 i1 : Expr} {ifs0 ifs1 : List Expr} {scope : Scope} {pos : Pos} {it acc : Value} {env : Env}
end

theorem wipe_out {σ : St} {i : Nat} : ∀ {vs : List Nat}, i ∉ vs → (wipe σ vs)[i]? = σ[i]?
  | [], _ => rfl
  | v :: vs, h => by
    have h1 : v ≠ i := fun e => h (by rw [e]; exact List.mem_cons_self)
    have h2 : i ∉ vs := fun m => h (List.mem_cons_of_mem _ m)
    unfold wipe
    rw [List.getElem?_set_ne h1]
    exact wipe_out h2
section
variable {X : Cx}
end
end L2

namespace L2
open PySem PySem.Spec PyProof.Rows

section
variable {κ : Type} [DecidableEq κ]
def valV (kvs : List (κ × V)) (k : κ) : Option V := (kvs.find? fun kv => decide (kv.1 = k)).map (·.2)
def putK (kvs : List (κ × V)) (k : κ) (v : V) : List (κ × V) :=
  if (kvs.any fun kv => decide (kv.1 = k)) = true then kvs.map (fun kv => if kv.1 = k then (kv.1, v) else kv) else kvs ++ [(k, v)]
def dropK (kvs : List (κ × V)) (k : κ) : List (κ × V) := kvs.filter fun kv => decide (kv.1 ≠ k)

theorem valV_pos {p : κ × V} {r : List (κ × V)} {k : κ} (e : p.1 = k) : valV (p :: r) k = some p.2 := by simp [valV, List.find?_cons, e]
theorem valV_neg {p : κ × V} {r : List (κ × V)} {k : κ} (e : ¬ p.1 = k) : valV (p :: r) k = valV r k := by simp [valV, List.find?_cons, e]
theorem valV_any (k : κ) : ∀ kvs : List (κ × V), (kvs.any fun kv => decide (kv.1 = k)) = (valV kvs k).isSome
  | [] => rfl
  | p :: r => by
    rw [List.any_cons]
    by_cases e : p.1 = k
    · simp only [valV_pos e, decide_eq_true e, Bool.true_or, Option.isSome_some]
    · rw [valV_neg e, decide_eq_false e, Bool.false_or]; exact valV_any k r
theorem RelO.isSome_eq {o : Option V} {u : Option Value} (r : RelO o u) : o.isSome = u.isSome := by
  cases o with
  | none => cases u with
    | none => rfl
    | some _ => exact (show False from r).elim
  | some _ => cases u with
    | none => exact (show False from r).elim
    | some _ => rfl
theorem RelO.getD {o : Option V} {u : Option Value} {d : V} {d' : Value} (r : RelO o u) (rd : RelV d d') : RelV (o.getD d) (u.getD d') := by
  cases o with
  | none => cases u with
    | none => exact rd
    | some _ => exact (show False from r).elim
  | some _ => cases u with
    | none => exact (show False from r).elim
    | some _ => exact r

theorem KV.val {kvs : List (κ × V)} {vs : List (κ × Value)} (r : KV kvs vs) (k : κ) : RelO (valV kvs k) (valueAt vs k) := by
  unfold KV at r
  induction r with
  | nil => exact True.intro
  | @cons p q ps qs h t ih =>
    obtain ⟨h1, h2⟩ := h
    by_cases e : p.1 = k
    · have e' : q.1 = k := h1.symm.trans e
      have b : valueAt (q :: qs) k = some q.2 := by simp [valueAt, List.find?_cons, e']
      rw [valV_pos e, b]; exact h2
    · have e' : ¬ q.1 = k := fun z => e (h1.trans z)
      have b : valueAt (q :: qs) k = valueAt qs k := by simp [valueAt, List.find?_cons, e']
      rw [valV_neg e, b]; exact ih
theorem KV.any {kvs : List (κ × V)} {vs : List (κ × Value)} (r : KV kvs vs) (k : κ) : (kvs.any fun kv => decide (kv.1 = k)) = vs.any fun kv => decide (kv.1 = k) := by
  unfold KV at r
  induction r with
  | nil => rfl
  | cons h t ih => rw [List.any_cons, List.any_cons, ih, h.1]
theorem KV.repl {kvs : List (κ × V)} {vs : List (κ × Value)} (r : KV kvs vs) (k : κ) {y : V} {u : Value} (ry : RelV y u) :
    KV (kvs.map fun kv => if kv.1 = k then (kv.1, y) else kv) (vs.map fun kv => if kv.1 = k then (kv.1, u) else kv) := by
  unfold KV at r ⊢
  induction r with
  | nil => exact .nil
  | @cons p q ps qs h t ih =>
    rw [List.map_cons, List.map_cons]
    refine .cons ?_ ih
    obtain ⟨h1, h2⟩ := h
    by_cases e : p.1 = k
    · rw [if_pos e, if_pos (h1.symm.trans e)]; exact ⟨h1, ry⟩
    · rw [if_neg e, if_neg (fun z => e (h1.trans z))]; exact ⟨h1, h2⟩
theorem KV.put {kvs : List (κ × V)} {vs : List (κ × Value)} (r : KV kvs vs) (k : κ) {y : V} {u : Value} (ry : RelV y u) : KV (putK kvs k y) (stored vs k u) := by
  unfold putK stored
  rw [r.any k]
  by_cases e : (vs.any fun kv => decide (kv.1 = k)) = true
  · rw [if_pos e, if_pos e]; exact r.repl k ry
  · rw [if_neg e, if_neg e]; exact Paired.snoc r ⟨rfl, ry⟩
theorem KV.drop {kvs : List (κ × V)} {vs : List (κ × Value)} (r : KV kvs vs) (k : κ) : KV (dropK kvs k) (without vs k) := by
  unfold KV at r ⊢
  unfold dropK without
  induction r with
  | nil => exact .nil
  | @cons p q ps qs h t ih =>
    obtain ⟨h1, h2⟩ := h
    rw [List.filter_cons, List.filter_cons]
    by_cases e : p.1 = k
    · have a : ¬ decide (p.1 ≠ k) = true := by simp [e]
      have b : ¬ decide (q.1 ≠ k) = true := by simp [h1.symm.trans e]
      rw [if_neg a, if_neg b]; exact ih
    · have e' : ¬ q.1 = k := fun z => e (h1.trans z)
      have a : decide (p.1 ≠ k) = true := by simp [e]
      have b : decide (q.1 ≠ k) = true := by simp [e']
      rw [if_pos a, if_pos b]; exact .cons ⟨h1, h2⟩ ih
theorem KV.keys {kvs : List (κ × V)} {vs : List (κ × Value)} (r : KV kvs vs) : kvs.map (·.1) = vs.map (·.1) := by
  unfold KV at r
  induction r with
  | nil => rfl
  | cons h t ih => rw [List.map_cons, List.map_cons, ih, h.1]
theorem KV.length {kvs : List (κ × V)} {vs : List (κ × Value)} (r : KV kvs vs) : kvs.length = vs.length := Paired.length r
end


abbrev KT (H : Hp) : List (List Key × V) → List (List Key × Addr × Value) → Prop := Paired fun p q => p.1 = q.1 ∧ H q.2.1 = some (.tup (p.1.map kV)) ∧ RelV p.2 q.2.2
theorem KT.val {H : Hp} {kvs : List (List Key × V)} {xs : List (List Key × Addr × Value)} (r : KT H kvs xs) (k : List Key) : RelO (valV kvs k) ((atKey xs k).map (·.2)) := by
  induction r with
  | nil => exact True.intro
  | @cons p q ps qs h t ih =>
    obtain ⟨h1, _, h2⟩ := h
    by_cases e : p.1 = k
    · have e' : q.1 = k := h1.symm.trans e
      have b : atKey (q :: qs) k = some q.2 := by simp [atKey, List.find?_cons, e']
      rw [valV_pos e, b]; exact h2
    · have e' : ¬ q.1 = k := fun z => e (h1.trans z)
      have b : atKey (q :: qs) k = atKey qs k := by simp [atKey, List.find?_cons, e']
      rw [valV_neg e, b]; exact ih
theorem KT.repl {H : Hp} {kvs : List (List Key × V)} {xs : List (List Key × Addr × Value)} (r : KT H kvs xs) (k : List Key) {y : V} {u : Value} (ry : RelV y u) :
    KT H (kvs.map fun kv => if kv.1 = k then (kv.1, y) else kv) (xs.map (putAt k u)) := by
  induction r with
  | nil => exact .nil
  | @cons p q ps qs h t ih =>
    rw [List.map_cons, List.map_cons]
    refine .cons ?_ ih
    obtain ⟨h1, h2, h3⟩ := h
    unfold putAt
    by_cases e : p.1 = k
    · rw [if_pos e, if_pos (h1.symm.trans e)]; exact ⟨h1, h2, ry⟩
    · rw [if_neg e, if_neg (fun z => e (h1.trans z))]; exact ⟨h1, h2, h3⟩
theorem KT.put {H : Hp} {kvs : List (List Key × V)} {xs : List (List Key × Addr × Value)} (r : KT H kvs xs) (k : List Key) {b : Addr} {y : V} {u : Value} (hb : H b = some (.tup (k.map kV))) (ry : RelV y u) :
    KT H (putK kvs k y) (storedH xs k b u) := by
  have e : (kvs.any fun kv => decide (kv.1 = k)) = (atKey xs k).isSome := by
    rw [valV_any, (r.val k).isSome_eq, Option.isSome_map]
  unfold putK storedH
  rw [e]
  by_cases q : (atKey xs k).isSome = true
  · rw [if_pos q, if_pos q]; exact r.repl k ry
  · rw [if_neg q, if_neg q]; exact Paired.snoc r ⟨rfl, hb, ry⟩
theorem KT.keeps {H H' : Hp} {kvs : List (List Key × V)} {xs : List (List Key × Addr × Value)} (r : KT H kvs xs) (ht : ∀ b ys, H b = some (.tup ys) → H' b = some (.tup ys)) : KT H' kvs xs :=
  Paired.mapP r fun _ _ z => ⟨z.1, ht _ _ z.2.1, z.2.2⟩

section
variable {P : Program} {w : World} {H : Hp} {h : Heap} {a : Addr}
end

def DGet (H : Hp) (a : Addr) (y : V) (r : Option V) : Prop :=
  (∃ kvs k, Rd H a (.dK kvs) ∧ y = kV k ∧ r = valV kvs k) ∨ ∃ kvs k b, Rd H a (.dT kvs) ∧ y = .ref b ∧ H b = some (.tup (k.map kV)) ∧ r = valV kvs k
def DPut (H : Hp) (a : Addr) (y v : V) (H' : Hp) : Prop :=
  (∃ kvs k, H a = some (.dK kvs) ∧ y = kV k ∧ kvs.length < sizeLine ∧ H' = upd H a (.dK (putK kvs k v))) ∨
  ∃ kvs k b, H a = some (.dT kvs) ∧ y = .ref b ∧ H b = some (.tup (k.map kV)) ∧ kvs.length < sizeLine ∧ H' = upd H a (.dT (putK kvs k v))
theorem DGet.k {H : Hp} {a : Addr} {kvs : List (Key × V)} {k : Key} (e : H a = some (.dK kvs)) : DGet H a (kV k) (valV kvs k) := .inl ⟨kvs, k, .inl e, rfl, rfl⟩
theorem DGet.t {H : Hp} {a b : Addr} {kvs : List (List Key × V)} {k : List Key} (e : H a = some (.dT kvs)) (eb : H b = some (.tup (k.map kV))) : DGet H a (.ref b) (valV kvs k) := .inr ⟨kvs, k, b, .inl e, rfl, eb, rfl⟩
theorem DPut.k {H : Hp} {a : Addr} {kvs : List (Key × V)} {k : Key} {v : V} (e : H a = some (.dK kvs)) (hl : kvs.length < sizeLine) : DPut H a (kV k) v (upd H a (.dK (putK kvs k v))) := .inl ⟨kvs, k, e, rfl, hl, rfl⟩
theorem DPut.t {H : Hp} {a b : Addr} {kvs : List (List Key × V)} {k : List Key} {v : V} (e : H a = some (.dT kvs)) (eb : H b = some (.tup (k.map kV))) (hl : kvs.length < sizeLine) :
    DPut H a (.ref b) v (upd H a (.dT (putK kvs k v))) := .inr ⟨kvs, k, b, e, rfl, eb, hl, rfl⟩


section
variable {X : Cx} {pins : List (Addr × Obj)} {σ : St} {H : Hp} {s : Shared} {a : Addr} {y v : V} {u r : Value} {o : Option V} {A : Around} {E : Value → Shared → Prop}

end

section
variable {X : Cx} {pins : List (Addr × Obj)} {σ : St} {H : Hp} {s : Shared} {a : Addr} {kvs : List (Key × V)} {k : Key} {u : Value} {A : Around} {E : Value → Shared → Prop}
end


section
variable {X : Cx} {o i e value : Expr} {pos pos' tpos : Pos} {td ty tv : TE}
end


section
variable {X : Cx} {pos : Pos}
end

def tPairs : List (TE × TE) → St → Hp → (List (V × V) → Hp → Prop) → Prop
  | [], _, H, Q => Q [] H
  | (tk, tv) :: r, σ, H, Q => tk σ H fun x H1 => tv σ H1 fun y H2 => tPairs r σ H2 fun ps H3 => Q ((x, y) :: ps) H3
abbrev VV : List (V × V) → List (Value × Value) → Prop := Paired fun p q => RelV p.1 q.1 ∧ RelV p.2 q.2
def PPs (X : Cx) (pos : Pos) (keys : List (Option Expr)) (values : List Expr) (trs : List (TE × TE)) : Prop :=
  ∀ (pins : List (Addr × Obj)) (s : Shared) (σ : St) (H : Hp) (Q : List (V × V) → Hp → Prop), Inv X pins σ H s → tPairs trs σ H Q →
    wpAny (model X.prog X.w) X.A (evalPairs (pairTrees keys values X.env pos)) (fun vs s' => ∃ ps H', Inv X pins σ H' s' ∧ VV ps vs ∧ Q ps H') X.xe s
structure M1 (X : Cx) (o : Expr) (m : Str) (apos : Pos) (e : Expr) (cpos : Pos) : Prop where
  base : attributeBase o m X.env (eval o X.env) = eval o X.env
  few : ((backTo cpos (starEach [e] X.env)).all (fun x => !x.1) && (backToKw cpos (keywordEach [] X.env)).all (fun x => x.1.isSome)
    && decide (([e] : List Expr).length + ([] : List Keyword).length + (if ([] : List Keyword).isEmpty then 0 else 1) < 30)) = true
  line : (apos.endLine == cpos.line) = true
  trees : backTo cpos (starEach [e] X.env) = [(false, eval e X.env)]
structure M2 (X : Cx) (o : Expr) (m : Str) (apos : Pos) (e f : Expr) (cpos : Pos) : Prop where
  base : attributeBase o m X.env (eval o X.env) = eval o X.env
  few : ((backTo cpos (starEach [e, f] X.env)).all (fun x => !x.1) && (backToKw cpos (keywordEach [] X.env)).all (fun x => x.1.isSome)
    && decide (([e, f] : List Expr).length + ([] : List Keyword).length + (if ([] : List Keyword).isEmpty then 0 else 1) < 30)) = true
  line : (apos.endLine == cpos.line) = true
  trees : backTo cpos (starEach [e, f] X.env) = [(false, eval e X.env), (false, eval f X.env)]

section
variable {X : Cx} {pins : List (Addr × Obj)} {σ : St} {H : Hp} {s : Shared} {a : Addr} {y d : V} {u r : Value} {o : Option V} {A : Around} {E : Value → Shared → Prop}
end

section
variable {X : Cx} {o e f : Expr} {apos cpos : Pos} {td ty tx : TE}
end

section
variable {X : Cx} {pins : List (Addr × Obj)} {σ : St} {H : Hp} {s : Shared} {a : Addr} {kvs : List (Key × V)} {A : Around} {E : Value → Shared → Prop}
end


section
variable {X : Cx} {pins : List (Addr × Obj)} {σ : St} {H : Hp} {s : Shared} {a : Addr} {y : V} {u : Value} {A : Around} {E : Value → Shared → Prop}
end
end L2

namespace L2
open PySem PySem.Spec PyProof.Rows

section
variable {prog : Program} {w : World} {A : Around} {E : Value → Shared → Prop}
end

section
variable {X : Cx}
theorem refs_at : ∀ {ps : List Addr} {us : List Value}, Vals (ps.map V.ref) us → us = ps.map Value.ref
  | [], us, r => by
    rw [List.map_nil] at r
    cases r
    rfl
  | p :: ps, us, r => by
    rw [List.map_cons] at r
    cases r with
    | cons h t =>
      cases h
      rw [List.map_cons, ← refs_at t]
end
end L2

namespace L2
open PySem PySem.Spec PyProof.Rows

section
variable {X : Cx} {pins : List (Addr × Obj)} {σ : St} {H : Hp} {s : Shared} {h' : Heap}
end
section
variable {X : Cx}
end

def RgC (i j c : Int) (n : Nat) : Prop := c ≠ 0 ∧ c.natAbs < 1073741824 ∧ Builtin.Range.small i j c = true ∧ Builtin.Range.rangeSize i j c = n
theorem RgC.neg {i j : Int} (ha : -(2 ^ 62) ≤ i) (ha' : i < 2 ^ 62) (hb : -(2 ^ 62) ≤ j) (hb' : j < 2 ^ 62) : RgC i j (-1) (i - j).toNat :=
  ⟨by decide, by decide, PySem.W.small_down ha ha' hb hb', PySem.W.rangeSize_downNat i j⟩
section
variable {X : Cx} {tg : Expr}
end
section
variable {X : Cx} {tg : Expr}
end

section
variable {prog : Program} {w : World} {A : Around} {E : Value → Shared → Prop} {s : Shared}
end

section
variable {X : Cx} {pins : List (Addr × Obj)} {σ : St} {H : Hp} {s : Shared} {d : Addr} {o : Obj}
end

section
variable {P : Program} {w : World} {K : PySem.W.Frag} {tg : Expr} {d : Addr} {o : Obj} {es : Array DictEntry} {ep : Nat}
end

section
variable {X : Cx} {tg e : Expr} {td : TE} {apos cpos : Pos}
end

end L2

section 
namespace Bits
open PySem PyProof.Rows

end Bits
end 

section 
namespace TL
open PySem PySem.Builtin PySem.Builtin.Str PySem.StrLaws

abbrev tl (x : Str) : List Nat := x.cps.toList
def pre (S l : List Nat) : Bool := l.take S.length == S
def par (S : List Nat) : List Nat → List Nat → Option (List Nat × List Nat)
  | _, [] => none
  | acc, c :: r => if pre S (c :: r) = true then some (acc, (c :: r).drop S.length) else par S (acc ++ [c]) r

def joinL (S : List Nat) : List (List Nat) → List Nat
  | [] => []
  | [p] => p
  | p :: q :: r => p ++ (S ++ joinL S (q :: r))
end TL
end 

namespace L2
open PySem PySem.Spec PyProof.Rows

section
variable {X : Cx} {pins : List (Addr × Obj)} {σ : St} {H : Hp} {s : Shared} {Q : VK}
end

section
variable {X : Cx}

end

section
variable {X : Cx} {o e : Expr} {to te : TE}
end
end L2

namespace L2
open PySem PySem.Spec PyProof.Rows

section
variable {X : Cx}
end

end L2

namespace Att
open PySem PySem.W PySem.Calls PyProof.Rows

theorem ints_of_wellAll {P : Params} {h : Heap} : ∀ (ns : List Int) (vs : List Value), WellAll P h vs (ns.map WData.int) → IntsAre vs ns := by
  intro ns
  induction ns with
  | nil =>
    intro vs w
    rw [List.map_nil] at w
    cases w
    exact .nil
  | cons n ns ih =>
    intro vs w
    rw [List.map_cons] at w
    cases w with
    | cons a b =>
      cases a
      exact .cons _ _ (ih _ b)

theorem script_of {l : OpenLaw} {n : Nat} (hn : l.most = some n) {P : Params} {h : Heap} {args : List WData} {vals : List Value}
    (hpre : l.row.toRowW.claim.pre args = true) (hwl : WellAll P h vals args) :
    ∃ a vs ns, vals = [Value.ref a] ∧ args = [WData.list (ns.map WData.int)] ∧ h.get? a = some { cls := .type "list", data := .seq vs.toArray } ∧ IntsAre vs ns ∧ ns.length ≤ n := by
  have hsh : WShape.hasAll [] args [.list .int] = true := (pre_splitW hpre).1
  have hc : l.pre.holds [] { args := args } = true := (pre_splitW hpre).2
  obtain ⟨d, r, rfl, h1, h2⟩ := hasAllW_cons hsh
  obtain rfl := hasAllW_nil h2
  obtain ⟨xs, rfl, h3⟩ := hasW_list h1
  obtain ⟨ns, rfl⟩ := items_int h3
  have hlen : ns.length ≤ n := by
    unfold OpenLaw.pre at hc
    have h4 : (WTm.not (.lt (.lit (.int (n : Int))) (.len (.arg 0)))).holds [] { args := [.list (ns.map .int)] } = true := by
      have h4 := (holds_andW hc).1
      rw [hn] at h4
      exact h4
    have h5 := condW_of h4 (w_not (w_lt w_lit (w_len_list (w_arg rfl))))
    rw [List.length_map] at h5
    refine Nat.le_of_not_lt fun q => ?_
    have q' : (n : Int) < ((ns.length : Nat) : Int) := by omega
    first
      | (rw [decide_eq_true q'] at h5; exact absurd h5 (by decide))
      | (simp at h5; omega)
  cases hwl with
  | cons w1 w2 =>
    cases w2
    cases w1 with
    | list ho hall => exact ⟨_, _, ns, rfl, rfl, ho, ints_of_wellAll ns _ hall, hlen⟩

theorem post_true (l : OpenLaw) (args : List WData) : l.row.toRowW.claim.post args (.bool true) args = true :=
  postW_of (r := l.row.toRowW) (X := (true == true))
    (show WShape.has [] (.bool true) .bool = true by first | rfl | decide | simp [WShape.has, WShape.arms, WShape.armsAll])
    (show (WTm.eq .res (.lit (.bool true))).value [] { args := args, res := some (.bool true), after := args } = some (.bool (true == true)) from w_eq_bool (w_res rfl) w_lit) rfl

theorem attach_call {l : OpenLaw} {n : Nat} {q : Program} {loose : List Str} {XP : (Str → Option Value) → Heap → Prop} {YP : World → Heap → Prop} {d : DefRec}
    (hn : l.most = some n) (hdf : d.params.defaults = [])
    (call : ∀ (w : World) (s₀ s₁ : Shared) (mg mb : Str → Option Value) (fa : Addr) (o : Obj) (pm cd doc : Value) (a : Addr) (vs : List Value) (ns : List Int),
      Ground q loose [] XP w s₀ mg mb s₁.heap → YP w s₁.heap →
      s₁.heap.get? fa = some o → o.data = .func (docDef d.name d.params d.body d.scope pm cd doc) → s₁.heap.CodeRec cd d.name → mg d.name = some (.ref fa) →
      s₁.heap.get? a = some { cls := .type "list", data := .seq vs.toArray } → IntsAre vs ns → ns.length ≤ n → s₁.gens = #[] →
      codeAny (model l.prog w) callerA (.call (.ref fa) ⟨[.ref a], []⟩) (fun r s' => r = .ok (.ret (.bool true)) ∧ OldK s₁.heap s'.heap ∧ s'.os = s₁.os ∧ AllBare s'.gens) s₁) :
    WalkO q loose XP YP l.row.toRowW d [] (fun f vs => PySem.call f vs) := by
  intro w s₀ s₁ mg mb G Y fa o pm cd doc dV kV ho hd hcd hD hmg hg args vals as hpre hlay hrd hwl hlo
  obtain rfl : dV = .none := Dflts.none hD hdf
  obtain rfl : kV = .none := Dflts.noKw hD
  obtain ⟨a, vs, ns, rfl, rfl, hobj, hints, hlen⟩ := script_of hn hpre hwl
  refine enter_call (codeAny_mono (call w s₀ s₁ mg mb fa o pm cd doc a vs ns G Y ho (fd_plain hd) hcd hmg hobj hints hlen hg) fun r s' hq => ?_)
  obtain ⟨rfl, h2, h3, h4⟩ := hq
  exact ⟨.inl ⟨.bool true, .bool true, [], rfl, fun _ => rfl, .bool true, post_true l _, fun _ => ⟨List.Pairwise.nil, fun _ hm => (nomatch hm)⟩⟩, h2, h3, h4⟩

section
variable {prog : Program} {w : World} {A : Around} {E : Value → Shared → Prop} {s : Shared} {K : Frag}

end
end Att

namespace L2
open PySem PySem.Spec PyProof.Rows

theorem vals_ints : ∀ {vs : List Value} {ns : List Int}, IntsAre vs ns → Vals (ns.map V.int) vs
  | _, _, .nil => .nil
  | _, _, .cons n t h => .cons ⟨t, rfl⟩ (vals_ints h)

end L2

namespace L2
open PySem PySem.Spec PyProof.Rows

end L2


namespace L2
open PySem PySem.Spec PyProof.Rows

def defArgs (s : Stmt) : Arguments := match s with
  | .FunctionDef _ a _ _ _ _ _ _ _ _ => a
  | _ => { posonlyargs := [], args := [], vararg := none, kwonlyargs := [], kw_defaults := [], kwarg := none, defaults := [] }
def defBody (s : Stmt) : List Stmt := match s with
  | .FunctionDef _ _ b _ _ _ _ _ _ _ => b
  | _ => []
def defScope (s : Stmt) : Scope := match s with
  | .FunctionDef _ _ _ _ _ _ sc _ _ _ => sc
  | _ => { kind := .function, names := [], isGenerator := false, isCoroutine := false }

abbrev CX0 : CXT := fun _ _ _ _ _ _ => False
abbrev E0 : XK := fun _ _ _ => False
theorem pass0 {X : Cx} : Passes CX0 X E0 := fun _ _ _ _ _ _ _ h => h.elim

structure Fun (K : PySem.W.Frag) (x qual : Str) (st : Stmt) (f : Addr) (fd : FuncData) : Prop where
  ex : ∃ (oc : Value) (od : Option Addr) (kV doc pm : Value) (an : Option Addr) (cdv ct : Value) (osl : Array (Option Value)),
    fd = PySem.W.fnOf x qual (defArgs st) (defBody st) (defScope st) .none kV doc pm an cdv ct ∧ K.lookup f = some ⟨oc, od, .func fd, osl⟩ ∧ PySem.W.codeIn K cdv qual = true
  kp : PySem.W.keepIn K (.ref f) = true
section
variable {P : Program} {w : World} {K : PySem.W.Frag} {mg : Str → Option Value} {base : Heap}
theorem Fun.ok {x qual : Str} {st : Stmt} {f : Addr} {fd : FuncData} {N ps : List Str} {k : Nat} {sp : Sp} (F : Fun K x qual st f fd) (S : FnScope N ps (defScope st)) (len : ∀ vs H Q E, sp vs H Q E → vs.length = ps.length)
    (hbody : ∀ (cdv : Value) (A : Around) (outer : List Env) (s : Shared) (H : Hp) (vs : List V) (Q : VK) (E : XK), Room k (A.deeper (envOfC qual (defScope st) s.heap.objs.size f cdv)) → sp vs H Q E →
      ∃ t, PSs (cxOf CX0 P w K mg base N qual (defScope st) f cdv A outer s H E).nox (defBody st) t ∧ t { nx := fun _ H' => Q .non H', rt := Q } (start N vs) H) : FnOk P w K mg base CX0 (k + 1) f fd ps sp := by
  obtain ⟨oc, od, kV, doc, pm, an, cdv, ct, osl, rfl, lk, hcd⟩ := F.ex
  refine fn_of lk hcd S len fun A outer s H vs Q E hr hsp => ?_
  obtain ⟨t, h, q⟩ := hbody cdv A outer s H vs Q E hr hsp
  exact ⟨t, h.nox, q⟩
theorem Fun.binds {x qual : Str} {st : Stmt} {f : Addr} {fd : FuncData} {ps : List Str} (F : Fun K x qual st f fd)
    (h : ∀ (kV doc pm : Value) (an : Option Addr) (cdv ct : Value) (us : List Value), us.length = ps.length → bindArgs (PySem.W.fnOf x qual (defArgs st) (defBody st) (defScope st) .none kV doc pm an cdv ct) ⟨us, []⟩ = pure (ps.zip us)) : Binds K fd ps [] := by
  obtain ⟨oc, od, kV, doc, pm, an, cdv, ct, osl, rfl, lk, hcd⟩ := F.ex
  exact .all (h kV doc pm an cdv ct)
end
section
variable {X : Cx}
theorem pv (i : Nat) {x : Str} {pos : Pos} (hN : X.N[i]? = some x := by rfl) (hv : Vis X.env.scope x := by first | exact Or.inl rfl | exact Or.inr (Or.inl rfl) | exact Or.inr (Or.inr rfl)) (hd : (x == ("__debug__" : Str)) = false := by decide)
    (hcd : (x == ("__classdict__" : Str)) = false := by decide) : PE X (.Name x pos) (tVar i) := pe_var hN hv hd hcd
end

theorem iteF {A B : Prop} (h : B) : if false = true then A else B := by
  rw [if_neg Bool.false_ne_true]
  exact h
theorem iteT {A B : Prop} (h : A) : if true = true then A else B := by
  rw [if_pos rfl]
  exact h
theorem ite2 {c A B : Prop} [Decidable c] (h1 : c → A) (h2 : ¬ c → B) : if c then A else B := by
  by_cases h : c
  · rw [if_pos h]
    exact h1 h
  · rw [if_neg h]
    exact h2 h
theorem iteNS {c A B : Prop} [Decidable c] (hc : c) (h : B) : if (!decide c) = true then A else B := by
  rw [decide_eq_true hc]
  exact iteF h

def Same (H H' : Hp) : Prop := ∀ b o, H b = some o → H' b = some o
theorem Same.refl (H : Hp) : Same H H := fun _ _ h => h
theorem Same.trans {H H1 H2 : Hp} (a : Same H H1) (b : Same H1 H2) : Same H H2 := fun c o h => b c o (a c o h)
theorem Same.free {H H' : Hp} (e : Same H H') {l : Addr} (h : H' l = Option.none) : H l = Option.none := by
  cases q : H l with
  | none => rfl
  | some o =>
    rw [e l o q] at h
    cases h
theorem Same.seq {K : PySem.W.Frag} {H H' : Hp} {a : Addr} {xs : List V} (e : Same H H') (h : SqL K H a xs) : SqL K H' a xs := by
  rcases h with (h | ⟨o, h⟩) | h
  · exact .inl (.inl (e _ _ h))
  · exact .inl (.inr ⟨o, e _ _ h⟩)
  · exact .inr h

section
variable {κ : Type} [DecidableEq κ]
end
theorem at_of {xs : List V} {z : Int} {j : Nat} {v : V} (e : z = (j : Int)) (h : xs[j]? = some v) : atI xs z = some v := by
  rw [e]
  exact atI_nat h
theorem Same.made {H H1 : Hp} {x dx C : Addr} (nx : H x = Option.none) (nd : H dx = Option.none) (k : ∀ b o, (upd (upd H dx (.own x)) x (.ins C dx [])) b = some o → b ≠ x → H1 b = some o) : Same H H1 := fun b o e =>
  k b o (by rw [upd_ne (ne_of_none e nx), upd_ne (ne_of_none e nd)]; exact e) (ne_of_none e nx)
end L2

namespace L2
open PySem PySem.Spec PyProof.Rows

theorem gens_le {M : Model} {Γ : PySem.Ctx} {p : Pos} {t : Sem Fin} {fs : List Frame} {s : Shared} {e : End} {s' : Shared} (h : Runs M Γ p t fs s e s') : s.gens.size ≤ s'.gens.size := by
  induction h <;> first
    | exact Nat.le_refl _
    | assumption
    | (simp only [Shared.setGen, Array.size_setIfInBounds, Array.size_push] at *; omega)
    | omega

def SegK (M : Model) (A : Around) (R : Result → Shared → Prop) (Y : Value → (Resume → Sem Fin) → Code → List Frame → Shared → Prop) (c : Code) (t : Sem Fin) (fs : List Frame) (s : Shared) : Prop :=
  ∀ Γ p, Γ.code = c → Γ.Woken A → ∃ e s', Runs M Γ p t fs s e s' ∧ (match e with
    | .ret r => R r s'
    | .susp v g l k c' p' fs' => (End.susp v g l k c' p' fs').quiet = true ∧ Y v k c' fs' s')
section
variable {M : Model} {A : Around} {R : Result → Shared → Prop} {Y : Value → (Resume → Sem Fin) → Code → List Frame → Shared → Prop} {c : Code} {fs : List Frame} {s : Shared}
theorem segK_wrap {α : Type} {m : Sem α} {K : α → Sem Fin} {H : Value → Sem Fin} {gd lv}
    (h : wpAny M (A.over c fs) m (fun a s' => SegK M A R Y c (K a) fs s') (fun x s' => SegK M A R Y c (H x) fs s') s) :
    SegK M A R Y c (m.wrap K H gd lv) fs s := by
  rintro Γ p rfl hΓ
  exact runs_wrap_of_wp K H gd lv m (h (Γ.over fs) p (hΓ.over fs)) (fun a p' s' h' => h' Γ p' rfl hΓ) (fun x p' s' h' => h' Γ p' rfl hΓ)
theorem segK_bind_wrap {α β : Type} {m : Sem α} {K : α → Sem β} {K' : β → Sem Fin} {H' : Value → Sem Fin} {gd lv}
    (h : wpAny M (A.over c fs) m (fun a s' => SegK M A R Y c ((K a).wrap K' H' gd lv) fs s') (fun x s' => SegK M A R Y c (H' x) fs s') s) : SegK M A R Y c ((m >>= K).wrap K' H' gd lv) fs s := by
  rw [Sem.bind_eq_wrap', Sem.wrap_wrap]; exact segK_wrap h
theorem segK_at {p' : Pos} {k : Unit → Sem Fin} (h : SegK M A R Y c (k ()) fs s) : SegK M A R Y c (.at p' k) fs s :=
  segK_wrap (m := standAt p') (K := k) (H := .raise) (gd := id) (lv := id) (wpAny_standAt h)
theorem segK_again {c' : Code} (hq : c'.quiet = true) (hc : SegK M A R Y c' (M.den c') fs s) : SegK M A R Y c (.pure (.again c')) fs s := by
  rintro Γ p rfl hΓ
  obtain ⟨e, s', hr, he⟩ := hc (Γ.goto c') p rfl (hΓ.goto c')
  exact ⟨e, s', Runs.head (c₁ := c') (fun _ _ x => .again hq x) hr, he⟩
theorem segK_end (r : Result) (h : R r s) : SegK M A R Y c (leafOf r) [] s := by
  rintro Γ p rfl _
  exact ⟨.ret r, s, Runs.leaf r, h⟩
theorem segK_yield {v g l} {k : Resume → Sem Fin} (hfs : splitAtGen fs = none) (hg : g = false) (hfg : fs.any Frame.guarded = false)
    (h : Y v k c fs s) : SegK M A R Y c (.yield v g l k) fs s := by
  rintro Γ p rfl _
  exact ⟨_, s, Runs.yield' fs hfs, And.intro (by simp [End.quiet, hg, hfg]) h⟩

def GoesK (M : Model) (A : Around) (R : Result → Shared → Prop) (Y : Value → (Resume → Sem Fin) → Code → List Frame → Shared → Prop) (gs : GenState) (r : Resume) (s : Shared) : Prop :=
  match gs with
  | .fresh c => r = .send .none ∧ SegK M A R Y c (M.den c) [] s
  | .suspended k _ c _ fs _ => SegK M A R Y c (k r) fs s
  | _ => False

theorem wpAny_resumeK {E : Value → Shared → Prop} {g : Nat} {gs : GenState} {r : Resume} {l : List Value} {α : Type} {k : GenResult → Sem α} {Q : α → Shared → Prop} (hg : s.gens[g]? = some gs)
    (hgo : GoesK M A R Y gs r (s.setGen g .running))
    (hR : ∀ x s1, R x s1 → g < s1.gens.size → wpAny M A (k (End.ret x).result) Q E (s1.setGen g .finished))
    (hY : ∀ v k' c' fs' l' p' s1, Y v k' c' fs' s1 → g < s1.gens.size → wpAny M A (k (.yielded v)) Q E (s1.setGen g (.suspended k' l' c' p' fs' false))) :
    wpAny M A (.resume g r l k) Q E s := by
  intro Γ p hΓ
  rw [Sem.wp_resume]
  have hB : ∀ c, (Γ.wake c p).Woken A := fun c => hΓ.wake c p
  have hlt : g < s.gens.size := by
    rcases Nat.lt_or_ge g s.gens.size with h' | h'
    · exact h'
    · rw [Array.getElem?_eq_none h'] at hg; cases hg
  have hsz : (s.setGen g .running).gens.size = s.gens.size := by simp [Shared.setGen]
  have fin : ∀ (c0 : Code) (p0 : Pos) (t0 : Sem Fin) (fs0 : List Frame), SegK M A R Y c0 t0 fs0 (s.setGen g .running) →
      ∃ e1 s1, Runs M (Γ.wake c0 p) p0 t0 fs0 (s.setGen g .running) e1 s1 ∧ e1.quiet = true ∧ Sem.wp M Γ (k e1.result) (fun a _ s' => Q a s') (fun e _ s' => E e s') p (s1.setGen g e1.genState) := by
    intro c0 p0 t0 fs0 h
    obtain ⟨e1, s1, hr, he⟩ := h (Γ.wake c0 p) p0 rfl (hB c0)
    have h1 : g < s1.gens.size := Nat.lt_of_lt_of_le (by rw [hsz]; exact hlt) (gens_le hr)
    cases e1 with
    | ret x => exact ⟨_, s1, hr, rfl, hR x s1 he h1 Γ p hΓ⟩
    | susp v g0 l0 k0 c1 p1 fs1 =>
      refine ⟨_, s1, hr, he.1, ?_⟩
      have hq : (g0 || fs1.any Frame.guarded) = false := by simpa [End.quiet] using he.1
      have q := hY v k0 c1 fs1 l0 p1 s1 he.2 h1 Γ p hΓ
      show Sem.wp M Γ (k (.yielded v)) _ _ p (s1.setGen g (.suspended k0 l0 c1 p1 fs1 (g0 || fs1.any Frame.guarded)))
      rw [hq]
      exact q
  cases gs with
  | fresh c =>
    obtain ⟨rfl, hs⟩ := hgo
    obtain ⟨e1, s1, hr, hq, hw⟩ := fin c p _ _ hs
    exact ⟨_, _, by unfold Wakes; rw [hg]; exact ⟨e1, s1, hr, hq, rfl, rfl⟩, hw⟩
  | suspended k0 l0 c0 p0 fs0 cl =>
    obtain ⟨e1, s1, hr, hq, hw⟩ := fin c0 p0 _ _ hgo
    exact ⟨_, _, by unfold Wakes; rw [hg]; exact ⟨e1, s1, hr, hq, rfl, rfl⟩, hw⟩
  | running => exact hgo.elim
  | finished => exact hgo.elim
end

section
variable {prog : Program} {w : World} {A : Around} {E : Value → Shared → Prop} {s : Shared}
theorem next_genK {a : Addr} {g : Nat} {gs : GenState} {R : Shared → Prop} {Y : Value → (Resume → Sem Fin) → Code → List Frame → Shared → Prop} {Q : Option Value → Shared → Prop} (hh : A.handled = none)
    (hl : s.heap.NoLimit) (hroom : A.depth < recursionLimit) (hg : s.heap.IsGen a g) (hgs : s.gens[g]? = some gs)
    (hgo : GoesK (model prog w) A.in1 (fun r s1 => r = .ok .next ∧ R s1) Y gs (.send .none) (s.setGen g .running))
    (hY : ∀ v k' c' fs' l' p' s1, Y v k' c' fs' s1 → g < s1.gens.size → Q (some v) (s1.setGen g (.suspended k' l' c' p' fs' false)))
    (hP : ∀ s1, R s1 → g < s1.gens.size → ∀ h', (∀ b o, s1.heap.get? b = some o → h'.get? b = some o) → Q none { s1.setGen g .finished with heap := h' }) :
    wpAny (model prog w) A (pyNext (.ref a)) Q E s := by
  unfold pyNext
  refine wpAny_bind (wpAny_attempt (wpAny_callSpecial?_slot (name := Str.ofString "__next__") hg.typeIs slot_gen_next
    (wpAny_call_entry slot_gen_next hg.typeIs entry_gen_next ?_ (args_gen_next _))))
  show wpAny _ A.in1 (Builtin.Generator.genWake (.ref a) (.send .none)) _ _ s
  unfold Builtin.Generator.genWake
  refine wpAny_bind (wpAny_holding (wpAny_genNumber hg (wpAny_bind (wpAny_genState hgs ?_))))
  cases gs with
  | running => exact hgo.elim
  | finished => exact hgo.elim
  | _ =>
    refine wpAny_bind (wpAny_roomToWake hl hroom ?_)
    show wpAny _ A.in1 (.resume g (.send .none) [] _) _ _ s
    refine wpAny_resumeK hgs hgo (fun x s1 hx hlt => ?_) (fun v k' c' fs' l' p' s1 hv hlt => ?_)
    · obtain ⟨rfl, hp⟩ := hx
      show wpAny _ A.in1 (newExc (.type "StopIteration") [] >>= _) _ _ _
      refine wpAny_bind ?_
      simp only [newExc, newTuple]
      refine wpAny_bind (wpAny_newObj_type ?_ (by size_fits))
      refine wpAny_bind (m := firstArgMember _ _) (wpAny_of_eq (a := Value.none) (by first | rfl | (simp only [firstArgMember]; rfl)) ?_)
      refine wpAny_newObj_type ?_ (by size_fits)
      simp only [raiseNew]
      refine wpAny_bind (wpAny_bind (wpAny_handled ?_))
      first | rw [show A.in1.handled = none from hh] | rw [hh]
      refine wpAny_throw ?_
      refine wpAny_bind (wpAny_isInstance (T := "StopIteration") (b := true) ⟨_, Heap.get?_push_size _ rfl, rfl⟩ isSubtype_stop ?_)
      exact wpAny_pure (hP s1 hp hlt _ fun b o hb => Heap.get?_push_of_some _ (Heap.get?_push_of_some _ hb))
    · exact wpAny_pure ⟨v, rfl, wpAny_pure (hY v k' c' fs' l' p' s1 hv hlt)⟩
end
end L2

namespace L2
open PySem PySem.Spec PyProof.Rows

def TbE (P : Addr) (ps : Array Value) : Heap → Prop := fun h => ∃ more : Array Value, h.get? P = some { cls := .none, data := .fields (ps ++ more) } ∧ TriplesOk (ps ++ more).toList
abbrev tbO (P : Addr) (ps : Array Value) : HO := .ext (TbE P ps)
structure CodeK (K : PySem.W.Frag) (c P : Addr) : Prop where
  ex : ∃ (o : Obj) (vs : Array Value) (file : Str) (tf : Tok) (flags : Int) (tg : Tok) (inF : Bool) (text : Int) (tt : Tok), K.lookup c = some o ∧ o.cls = .type "code" ∧ o.data = .fields vs ∧ vs[11]? = some (.ref P) ∧
    vs.getD 18 .none = .str file tf ∧ vs.getD 7 .none = .int flags tg ∧ vs.getD 9 .none = .bool inF ∧ vs.getD 10 .none = .int text tt
  ne : c ≠ P
structure BmK (base : Heap) (mg : Str → Option Value) : Prop where
  ex : ∃ (bm : Addr) (ob : Obj), mg "__builtins__" = some (.ref bm) ∧ bm ≠ builtinsNs ∧ base.get? bm = some ob ∧ ob.cls = .type "module" ∧ ob.dict = some builtinsNs ∧ ob.data = .plain

section
variable {X : Cx} {pins : List (Addr × Obj)} {σ : St} {H : Hp} {s : Shared}
theorem upd_self {a : Addr} {o : HO} (h : H a = some o) : upd H a o = H := by
  funext b
  by_cases e : b = a
  · subst e; rw [upd_same, h]
  · rw [upd_ne e]
theorem tb_stay {P : Addr} {ps : Array Value} (h1 h2 : Heap) (x : TbE P ps h1) (k : ∀ o, h1.get? P = some o → h2.get? P = some o) : TbE P ps h2 :=
  let ⟨more, e, t⟩ := x; ⟨more, k _ e, t⟩
theorem code_of {c P : Addr} {ps : Array Value} (I : Inv X pins σ H s) (C : CodeK X.K c P) (hP : H P = some (tbO P ps)) : ∃ more, s.heap.IsCode c P (ps ++ more) ∧ s.heap.TableAt c P (ps ++ more) := by
  obtain ⟨⟨o, vs, file, tf, flags, tg, inF, text, tt, hk, hcl, hd, h11, h18, h7, h9, h10⟩, ne⟩ := C
  obtain ⟨⟨more, e, t⟩, _, _⟩ := I.hok P _ hP
  have ho := I.kIn c o hk
  have h11' : vs.getD 11 .none = .ref P := by
    rw [Array.getD_eq_getD_getElem?, h11]; rfl
  exact ⟨more, ⟨o, vs, file, tf, flags, tg, inF, text, tt, _, ho, hd, h11', h18, h7, h9, h10, e, rfl, t, ne⟩, ⟨⟨o, vs, ho, hcl, hd, h11⟩, e⟩⟩

theorem gcode_ok {A : Around} {E : Value → Shared → Prop} {c P : Addr} {ps : Array Value} {pos : Pos} {qual : Str} {scope : Scope} {Q : Value → Shared → Prop} (I : Inv X pins σ H s) (hc : X.env.code = .ref c) (C : CodeK X.K c P) (hP : H P = some (tbO P ps))
    (h : ∀ code h' tk, Inv X pins σ H { s with heap := h', toks := tk } → Heap.ExtBut P s.heap h' → s.heap.objs.size ≤ h'.objs.size → Q code { s with heap := h', toks := tk }) :
    wpAny (model X.prog X.w) A (genexprCode X.env pos qual scope) Q E s := by
  obtain ⟨more, ic, ta⟩ := code_of I C hP
  cases hnf : codeAmong pos (ps ++ more).toList with
  | some cv =>
    obtain ⟨o, vs, file, tf, flags, tg, inF, text, tt, op, ho, hd, h11, h2, h7, h9, h10, hop, hpd, htr, hne⟩ := id ic
    unfold genexprCode codeAt
    rw [hc, if_neg (show ¬ ((Value.ref c == Value.none) = true) from Bool.false_ne_true)]
    refine wpAny_bind (wpAny_fieldsOf ho hd ?_)
    rw [h11]
    refine wpAny_bind (wpAny_fieldsOf hop hpd ?_)
    rw [hnf]
    exact wpAny_pure (h cv s.heap s.toks I (Heap.ExtBut.refl _ _) (Nat.le_refl _))
  | none =>
    refine wpAny_genexprCodeX hc ic ta hnf fun c' h' tk hx hge hlt hic _ hta _ => ?_
    refine h _ h' tk ?_ hx (Nat.le_trans hge (Nat.le_of_lt hlt))
    have htr : TriplesOk (ps ++ (more ++ #[rawInt pos.line, rawInt pos.col, Value.ref c'])).toList := by
      obtain ⟨o, vs, file, tf, flags, tg, inF, text, tt, op, ho, hd, h11, h2, h7, h9, h10, hop, hpd, htr, hne⟩ := hic
      rw [← Array.append_assoc]; exact htr
    have e2 : h'.get? P = some { cls := .none, data := .fields (ps ++ (more ++ #[rawInt pos.line, rawInt pos.col, Value.ref c'])) } := by
      rw [← Array.append_assoc]; exact hta.2
    have w := I.write (x := P) (e := P) (o := tbO P ps) (t' := tk) (h' := h') (by rw [hP]; trivial) (.inl rfl) (fun b u hb q => hx b u hb q) ⟨_, e2⟩
      ⟨⟨_, e2, htr⟩, ⟨_, e2⟩, fun h1 h2 x k => tb_stay h1 h2 x k⟩
    rw [upd_self hP] at w
    exact w
end

abbrev gcx (X : Cx) (A : Around) (s : Shared) (H : Hp) (genv : Env) (fp : List Addr) : Cx :=
  { X with A := A, s_0 := s, H_0 := H, env := genv, outer := X.stack, stack := genv :: X.stack, ex := fp, fn := fun _ => false, pn := [], xe := fun _ _ => False }
structure GenSc (scope : Scope) : Prop where
  co : scope.isCoroutine = false
  cell : ∀ y ∈ scope.names, y.2 ≠ .cell
  dot : scope.names.lookup (".0" : Str) = some NameKind.local
abbrev genvOf (X : Cx) (scope : Scope) (C : Addr) (code : Value) : Env := genEnv scope (cloFrom X.env.cells scope.names []) C code builtinsNs X.env

section
variable {X : Cx} {pins : List (Addr × Obj)} {σ : St} {H : Hp} {s : Shared}
theorem gen_start {scope : Scope} {own : List (Str × Nat)} {fp : List Addr} {A : Around} {h5 : Heap} {g5 : Array GenState} {tk : Nat} {code : Value} {m : Str → Option Value} (I : Inv X pins σ H s) (ok : BlkOk X.N X.env.scope scope own) (gs : GenSc scope) (hN : X.N.Nodup)
    (hfp : ∀ b ∈ fp, FpOk X pins H b ∧ b < s.heap.objs.size) (hA : A.frames = some (genvOf X scope s.heap.objs.size code :: X.stack)) (hh : A.handled = none)
    (kp : ∀ b o, s.heap.get? b = some o → h5.get? b = some o) (hns : h5.Ns s.heap.objs.size m) (hb : AllBare g5) :
    Inv (gcx X A s H (genvOf X scope s.heap.objs.size code) fp) [] (wipe σ (own.map (·.2))) H { s with heap := h5, gens := g5, toks := tk } := by
  have hfree : ∀ y ∈ scope.names, y.2 = .free → ∃ c, X.env.cells.lookup y.1 = some c := fun y hy e => by
    rcases ok.free y hy e with k | k
    · exact I.ok.has _ (.inl k)
    · exact I.ok.has _ (.inr k)
  have hcl : (genvOf X scope s.heap.objs.size code).cells = cloFrom X.env.cells scope.names [] := rfl
  have cm : ∀ {y c}, (genvOf X scope s.heap.objs.size code).cells.lookup y = some c → X.env.cells.lookup y = some c ∧ c < s.heap.objs.size := fun {y c} e => by
    rw [hcl] at e
    rcases cloFrom_mem (PySem.mem_of_lookup e) with hm | ⟨h1, rfl⟩
    · cases hm
    · obtain ⟨c, hc⟩ := hfree _ h1 rfl
      rw [hc]
      obtain ⟨w, z⟩ := I.cell _ _ hc
      exact ⟨rfl, z.lt⟩
  have look : ∀ {y}, scope.names.lookup y = some .free → ∃ c, (genvOf X scope s.heap.objs.size code).cells.lookup y = some c ∧ X.env.cells.lookup y = some c := fun {y} hl => by
    obtain ⟨c', e'⟩ := mem_lookup (cloFrom_has (cells := X.env.cells) (acc := []) (PySem.mem_of_lookup hl))
    exact ⟨c', e', (cm e').1⟩
  have nocell : ∀ y, scope.names.lookup y ≠ some .cell := fun y e => gs.cell _ (PySem.mem_of_lookup e) rfl
  have okG : (gcx X A s H (genvOf X scope s.heap.objs.size code) fp).Ok := by
    refine ⟨I.ok.mod, ok.kind, I.ok.glob, rfl, Nat.le_refl _, fun y z c e1 e2 => I.ok.inj y z c (cm e1).1 (cm e2).1, fun y hy => ?_, fun y c z e => absurd (show false = true from z) (by decide), fun _ => hh, hA, .inr ⟨rfl, rfl⟩, fun b hb => ⟨Nat.ne_of_lt (hfp b hb).2, fun y c e => (hfp b hb).1.2.2.2.2.1 y c (cm e).1⟩,
      I.bs, Nat.le_trans I.ok.bsz I.sz, fun b o e hb => ?_, fun b hb z => ?_, I.stack, I.stkFree⟩
    · rcases hy with hy | hy
      · exact absurd hy (nocell y)
      · obtain ⟨c, h1, _⟩ := look hy
        exact ⟨c, h1⟩
    · rcases (hfp b hb).1.2.2.2.1 with z | z
      · exact I.ok.noex b o e z
      · exact absurd (Nat.lt_of_lt_of_le (Heap.lt_size e) (Nat.le_trans I.ok.bsz z)) (Nat.lt_irrefl _)
    · rcases List.mem_cons.mp (I.stkSub b z) with z | z
      · exact (hfp b hb).1.2.1 z
      · exact (hfp b hb).1.2.2.1 z
  refine ⟨okG, rfl, hb, Un.kept kp, ⟨m, hns, fun i y av e1 e2 e3 => ?_⟩, fun y c e => ?_, I.hok.fresh (Nat.le_refl _), fun y c e => I.freeC y c (cm e).1, fun p hp => ?_, I.hok.kept kp, by rw [wipe_length]; exact I.len⟩
  · obtain ⟨e2, hne⟩ := wipe_some e2
    have hfr : scope.names.lookup y = some .free := by
      have no : ∀ k, scope.names.lookup y = some k → ¬ (k = .local ∨ k = .cell) := fun k e hh => by
        rcases ok.own _ (PySem.mem_of_lookup e) hh with e' | e'
        · obtain ⟨p, hp, hpy⟩ := List.mem_map.mp e'
          have e3 := ok.ix p hp
          have : p.1 = y := hpy
          rw [this] at e3
          exact hne (List.mem_map.mpr ⟨p, hp, nodup_ix hN e3 e1⟩)
        · exact e' (List.mem_of_getElem? e1)
      rcases e3 with e3 | e3 | e3
      · exact absurd (.inl rfl) (no _ e3)
      · exact absurd (.inr rfl) (no _ e3)
      · exact e3
    obtain ⟨m', hn, hl⟩ := I.loc
    have hvis : Vis X.env.scope y := (ok.free _ (PySem.mem_of_lookup hfr) rfl).elim (fun k => .inr (.inl k)) (fun k => .inr (.inr k))
    obtain ⟨w, r, q⟩ := hl i y av e1 e2 hvis
    refine ⟨w, r, .inr ⟨.inr hfr, ?_⟩⟩
    obtain ⟨c, h1, h2⟩ := look hfr
    rcases q with ⟨k, _⟩ | ⟨_, c', e', z⟩
    · have k : X.env.scope.names.lookup y = some .local := k
      rcases ok.free _ (PySem.mem_of_lookup hfr) rfl with k' | k' <;> rw [show X.env.scope.names.lookup y = _ from k'] at k <;> cases k
    · rw [h2] at e'; cases e'
      exact ⟨c, h1, z.keeps kp⟩
  · obtain ⟨w, z⟩ := I.cell y c (cm e).1
    exact ⟨w, z.keeps kp⟩
  · exact absurd (show p ∈ ([] : List (Addr × Obj)) ++ [] from hp) (by simp)
end

def gGen {α : Type} (J : It) (g : TG) (tt : TT) (te : TE) (vs : List Nat) (σ : St) (Stp : α → Hp → Prop) (Ste : α → V → Hp → (α → Hp → Prop) → Prop) : Nat → α → Nat → Hp → Prop
  | 0, _, _, _ => False
  | m + 1, acc, i, H => (J.stop i H ∧ Stp acc H) ∨ (J.go i H ∧ ∃ Nx : α → Hp → Prop, (∀ acc' H', Nx acc' H' → gGen J g tt te vs σ Stp Ste m acc' (i + 1) H') ∧ ∀ x H', J.yld i H x H' → g x (wipe σ vs) H' fun σ2 H2 => wipe σ2 vs = wipe σ vs ∧ tt σ2 H2 fun b H3 =>
      if b = true then te σ2 H3 fun y H4 => Ste acc y H4 Nx else Nx acc H3)

section
variable {X : Cx} {σ : St} {H : Hp} {s : Shared} {elt tg iter : Expr} {ifs : List Expr} {scope : Scope} {pos : Pos}
abbrev gLoopC (elt tg iter : Expr) (ifs : List Expr) (scope : Scope) (pos : Pos) (it : Addr) (genv : Env) : Code := .compLoop (.GeneratorExp elt [⟨tg, iter, ifs, 0⟩] scope pos) 0 (.ref it) .none genv
abbrev gStartC (elt tg iter : Expr) (ifs : List Expr) (scope : Scope) (pos : Pos) (it : Addr) (genv : Env) : Code := .compStart (.GeneratorExp elt [⟨tg, iter, ifs, 0⟩] scope pos) 0 (.ref it) .none genv

theorem seg_loop {α : Type} {Ar : Around} {G : Cx} {fp : List Addr} {it : Addr} {tn : Nat → Heap → Prop} {J : It} {g : TG} {tt : TT} {te : TE} {vs : List Nat} {Stp : α → Hp → Prop} {Ste : α → V → Hp → (α → Hp → Prop) → Prop} {pins : List (Addr × Obj)}
    (T : Turn G.prog G.w G.K tg J fp it tn) (hc : G.calm = true) (hxe : G.xe = fun _ _ => False) (hco : G.env.scope.isCoroutine = false)
    (hA : G.A = Ar.over (gLoopC elt tg iter ifs scope pos it G.env) []) (hg : PG G tg g) (ht : PTs G ifs tt) (he : PE G elt te) (hfp : ∀ b ∈ fp, b ≠ G.env.locals ∧ b ∉ G.fs ∧ b ∈ G.ex ∧ (∀ x c, G.env.cells.lookup x = some c → c ≠ b) ∧ ∀ p ∈ G.pn ++ pins, p.1 ≠ b) :
    ∀ (m : Nat) (acc : α) (i : Nat) (H : Hp) (s : Shared), gGen J g tt te vs σ Stp Ste m acc i H → Inv G pins (wipe σ vs) H s → tn i s.heap → (∀ b ∈ fp, H b = none) →
      SegK (model G.prog G.w) Ar (fun r s1 => r = .ok .next ∧ ∃ H', Inv G pins (wipe σ vs) H' s1 ∧ (∀ b ∈ fp, H' b = none) ∧ Stp acc H')
        (fun v k c fs s1 => c = gLoopC elt tg iter ifs scope pos it G.env ∧ fs = [] ∧ k (.send .none) = .pure (.again (gLoopC elt tg iter ifs scope pos it G.env)) ∧ ∃ y i' m' H', RelV y v ∧ Inv G pins (wipe σ vs) H' s1 ∧ tn i' s1.heap ∧ (∀ b ∈ fp, H' b = none) ∧ m' < m ∧
          ∃ Nx : α → Hp → Prop, (∀ acc' H5, Nx acc' H5 → gGen J g tt te vs σ Stp Ste m' acc' i' H5) ∧ Ste acc y H' Nx)
        (gLoopC elt tg iter ifs scope pos it G.env) ((model G.prog G.w).den (gLoopC elt tg iter ifs scope pos it G.env)) [] s := by
  have stat : ∀ {H' : Hp}, (∀ b ∈ fp, H' b = none) → ∀ b ∈ fp, FpOk G pins H' b := fun hn b hb => ⟨hn b hb, (hfp b hb).1, (hfp b hb).2.1, .inl (hfp b hb).2.2.1, (hfp b hb).2.2.2.1, (hfp b hb).2.2.2.2⟩
  intro m
  induction m with
  | zero => intro acc i H s h; exact h.elim
  | succ m ih =>
    intro acc i H s h I st nf
    show SegK _ Ar _ _ _ ((compTurn (.GeneratorExp elt [⟨tg, iter, ifs, 0⟩] scope pos) 0 (.ref it) .none G.env).onRaise (leaving G.env)) [] s
    rw [compTurn_gen, Sem.onRaise_eq_wrap]
    refine segK_bind_wrap (wpAny_standAt ?_)
    rw [gGen] at h
    rcases h with ⟨stop, qs⟩ | ⟨go, Nx, hNx, step⟩
    · have td := T.done G rfl rfl rfl hc i pins s _ H (fun _ _ => False) I (stat nf) st stop
      rw [hA] at td
      refine segK_bind_wrap (thnF td fun r s1 ⟨hr, I1⟩ => ?_)
      subst hr
      exact segK_end (.ok .next) ⟨rfl, H, I1, nf, qs⟩
    · have ti := T.item G rfl rfl rfl hc i pins s _ H (fun _ _ => False) I (stat nf) st go
      rw [hA] at ti
      refine segK_bind_wrap (thnF ti fun r s1 ⟨u, hr, h1⟩ => ?_)
      subst hr
      refine segK_bind_wrap (thnF h1 fun _ s2 ⟨x, H2, I2, r2, y2, st2, n2⟩ => ?_)
      have I2' := I2.pinned (stat n2) (T.obj _ _ st2)
      have pg := hg _ s2 _ H2 x u _ I2' r2 (step x H2 y2)
      rw [hA, hxe] at pg
      refine segK_bind_wrap (thnF pg fun _ s3 ⟨σ3, H3, I3, hw3, q3⟩ => ?_)
      have pt := ht _ s3 σ3 H3 _ I3 q3
      rw [hA, hxe] at pt
      refine segK_bind_wrap (thnF pt fun b s4 ⟨H4, I4, q4⟩ => ?_)
      have fin : ∀ {s' : Shared} {H' : Hp}, Inv G (pins ++ pinsAt fp s2.heap) σ3 H' s' → Inv G pins (wipe σ vs) H' s' ∧ tn (i + 1) s'.heap ∧ (∀ b ∈ fp, H' b = none) := fun {s' H'} I' => by
        have pin' : ∀ b ∈ fp, ∀ o, s2.heap.get? b = some o → s'.heap.get? b = some o ∧ H' b = none := fun b hb o e =>
          let z := I'.pin (b, o) (List.mem_append_right _ (List.mem_append_right _ (mem_pinsAt hb e)))
          ⟨z.1, z.2.1⟩
        have hl : (wipe σ vs).length = σ3.length := by rw [← hw3, wipe_length]
        refine ⟨(I'.unpinned (pins := pins)).weak hl (fun j v e => ?_), T.keep _ _ _ st2 fun b hb o e => (pin' b hb o e).1, fun b hb => ?_⟩
        · rw [← hw3] at e
          exact (wipe_some e).1
        · obtain ⟨o, e, _⟩ := T.obj _ _ st2 b hb
          exact (pin' b hb o e).2
      cases b with
      | false =>
        simp only [Bool.false_eq_true, if_false] at q4 ⊢
        obtain ⟨I5, st5, n5⟩ := fin I4
        have hs := ih acc (i + 1) H4 s4 (hNx _ _ q4) I5 st5 n5
        refine segK_again rfl ?_
        intro Γ p h1 h2
        obtain ⟨e, s', hr, hh⟩ := hs Γ p h1 h2
        refine ⟨e, s', hr, ?_⟩
        cases e with
        | ret r => exact hh
        | susp v g0 l0 k0 c0 p0 fs0 =>
          obtain ⟨hq, e1, e2, e3, y, i', m', H', a1, a2, a3, a4, a5, a6⟩ := hh
          exact ⟨hq, e1, e2, e3, y, i', m', H', a1, a2, a3, a4, Nat.lt_succ_of_lt a5, a6⟩
      | true =>
        simp only [if_true] at q4 ⊢
        have hy : ∀ v, yieldOut G.env v = yieldValue v := fun v => by simp only [yieldOut, hco, Bool.false_eq_true, if_false]
        simp only [hy]
        rw [Sem.bind_eq_wrap', Sem.bind_eq_wrap', Sem.wrap_wrap, Sem.wrap_wrap]
        have pe := he _ s4 σ3 H4 _ I4 q4
        rw [hA, hxe] at pe
        refine segK_wrap (thnF pe fun z s5 ⟨yv, H5, I5, r5, q5⟩ => ?_)
        obtain ⟨I6, st6, n6⟩ := fin I5
        exact segK_at (segK_yield rfl rfl rfl ⟨rfl, rfl, rfl, yv, i + 1, m, H5, r5, I6, st6, n6, Nat.lt_succ_self _, Nx, hNx, q5⟩)
end
end L2

namespace L2
open PySem PySem.Spec PyProof.Rows

structure GRun (G : Cx) (loop start : Code) (fp : List Addr) (tn : Nat → Heap → Prop) (σw : St) (a : Addr) (g : Nat) (i : Nat) (H : Hp) (s : Shared) : Prop where
  inv : Inv G [] σw H s
  st : tn i s.heap
  nfp : ∀ b ∈ fp, H b = none
  isg : s.heap.IsGen a g
  na : H a = none
  gs : s.gens[g]? = some (.fresh start) ∨ ∃ k l p, s.gens[g]? = some (.suspended k l loop p [] false) ∧ k (.send .none) = .pure (.again loop)

section
variable {X : Cx} {pins : List (Addr × Obj)} {σ : St} {H : Hp} {s : Shared}
theorem Inv.gens {g' : Array GenState} {h' : Heap} {t' : Nat} (I : Inv X pins σ H s) (hg : AllBare g') (k : ∀ b u, s.heap.get? b = some u → h'.get? b = some u) : Inv X pins σ H { s with heap := h', gens := g', toks := t' } := by
  refine I.step (d' := s.drawn) (ch := []) (fun _ z => nomatch z) (fun b o _ _ _ e _ => k b o e) (fun b o _ _ _ e _ => ⟨o.slots, k b o e⟩) (fun _ _ _ _ n => n) (fun b o _ e => ⟨o, k b o e⟩) (fun _ _ e => e) (fun _ _ _ e => e) (fun b ps e => ⟨#[], by rw [e]; simp⟩)
    (fun m hm => hm.keeps k) (I.hok.kept k) hg
theorem AllBare.set {s : Shared} {g : Nat} {x : GenState} (h : AllBare s.gens) (hx : x.bare = true) : AllBare (s.setGen g x).gens := by
  intro y hy
  obtain ⟨i, hi, rfl⟩ := Array.mem_iff_getElem.mp hy
  by_cases e : i = g
  · subst e
    simp only [Shared.setGen] at hi ⊢
    rw [Array.getElem_setIfInBounds_self]
    exact hx
  · simp only [Shared.setGen] at hi ⊢
    rw [Array.getElem_setIfInBounds_ne (by simpa using hi) (Ne.symm e)]
    exact h _ (Array.getElem_mem _)
theorem setGen_get {s : Shared} {g : Nat} {x : GenState} (h : g < s.gens.size) : (s.setGen g x).gens[g]? = some x := by
  simp [Shared.setGen, h]
end

section
variable {σ : St} {elt tg iter : Expr} {ifs : List Expr} {scope : Scope} {pos : Pos}
theorem gen_next {α : Type} {An : Around} {G : Cx} {fp : List Addr} {it : Addr} {tn : Nat → Heap → Prop} {J : It} {g : TG} {tt : TT} {te : TE} {vs : List Nat} {Stp : α → Hp → Prop} {Ste : α → V → Hp → (α → Hp → Prop) → Prop} {pins : List (Addr × Obj)}
    {a : Addr} {gn : Nat} {i m : Nat} {acc : α} {H : Hp} {s : Shared} {E : Value → Shared → Prop} {Q : Option Value → Shared → Prop}
    (T : Turn G.prog G.w G.K tg J fp it tn) (hc : G.calm = true) (hxe : G.xe = fun _ _ => False) (hpn : G.pn = []) (hco : G.env.scope.isCoroutine = false)
    (hA : G.A = An.in1.over (gLoopC elt tg iter ifs scope pos it G.env) []) (hh : An.handled = none) (hroom : An.depth < recursionLimit)
    (hg : PG G tg g) (ht : PTs G ifs tt) (he : PE G elt te) (hfp : ∀ b ∈ fp, b ≠ G.env.locals ∧ b ∉ G.fs ∧ b ∈ G.ex ∧ (∀ x c, G.env.cells.lookup x = some c → c ≠ b))
    (ha : a ≠ G.env.locals ∧ a ∉ G.fs ∧ a ∉ fp)
    (R : GRun G (gLoopC elt tg iter ifs scope pos it G.env) (gStartC elt tg iter ifs scope pos it G.env) fp tn (wipe σ vs) a gn i H s)
    (hS : ∀ p ∈ pins, s.heap.get? p.1 = some p.2 ∧ H p.1 = none ∧ p.1 ≠ G.env.locals ∧ p.1 ∉ G.fs ∧ (∀ v, p.2.data ≠ .cell v) ∧ p.1 ∉ fp)
    (W : gGen J g tt te vs σ Stp Ste m acc i H)
    (hstop : ∀ H' s', Inv G pins (wipe σ vs) H' s' → Stp acc H' → Q none s')
    (hyld : ∀ u y i' m' H' s', RelV y u → GRun G (gLoopC elt tg iter ifs scope pos it G.env) (gStartC elt tg iter ifs scope pos it G.env) fp tn (wipe σ vs) a gn i' H' s' → Inv G pins (wipe σ vs) H' s' → m' < m →
      (∃ Nx : α → Hp → Prop, (∀ acc' H5, Nx acc' H5 → gGen J g tt te vs σ Stp Ste m' acc' i' H5) ∧ Ste acc y H' Nx) → Q (some u) s') :
    wpAny (model G.prog G.w) An (pyNext (.ref a)) Q E s := by
  obtain ⟨inv, st, nfp, isg, na, gs⟩ := R
  obtain ⟨oa, nm, qn, hoa, hoc, hod, hos⟩ := id isg
  have I1 : Inv G ((a, oa) :: pins) (wipe σ vs) H s := inv.pins_of fun p hp => by
    rcases List.mem_cons.mp hp with rfl | hp
    · exact ⟨hoa, na, ha.1, ha.2.1, fun v z => by rw [hod] at z; cases z⟩
    · obtain ⟨h1, h2, h3, h4, h5, _⟩ := hS p hp
      exact ⟨h1, h2, h3, h4, h5⟩
  have hfp' : ∀ b ∈ fp, b ≠ G.env.locals ∧ b ∉ G.fs ∧ b ∈ G.ex ∧ (∀ x c, G.env.cells.lookup x = some c → c ≠ b) ∧ ∀ p ∈ G.pn ++ ((a, oa) :: pins), p.1 ≠ b := fun b hb => by
    obtain ⟨h1, h2, h3, h4⟩ := hfp b hb
    refine ⟨h1, h2, h3, h4, fun p hp => ?_⟩
    rw [hpn] at hp
    rcases List.mem_cons.mp hp with rfl | hp
    · exact fun z => ha.2.2 (by rw [show a = b from z]; exact hb)
    · exact fun z => (hS p hp).2.2.2.2.2 (by rw [z]; exact hb)
  have I2 : Inv G ((a, oa) :: pins) (wipe σ vs) H (s.setGen gn .running) := I1.gens (AllBare.set inv.bare rfl) fun _ _ e => e
  have loop := seg_loop (elt := elt) (iter := iter) (scope := scope) (pos := pos) (σ := σ) (vs := vs) (Ar := An.in1) T hc hxe hco hA hg ht he hfp' m acc i H (s.setGen gn .running) W I2 st nfp
  have unp : ∀ {H' : Hp} {s' : Shared}, Inv G ((a, oa) :: pins) (wipe σ vs) H' s' → Inv G pins (wipe σ vs) H' s' := fun {H' s'} I' => I'.pins_of fun p hp => I'.pin p (List.mem_append_right _ (List.mem_cons_of_mem _ hp))
  have unp0 : ∀ {H' : Hp} {s' : Shared}, Inv G ((a, oa) :: pins) (wipe σ vs) H' s' → Inv G [] (wipe σ vs) H' s' := fun {H' s'} I' => I'.pins_of fun p hp => absurd hp (by simp)
  have key : ∃ gst, s.gens[gn]? = some gst ∧ GoesK (model G.prog G.w) An.in1 (fun r s1 => r = .ok .next ∧ ∃ H', Inv G ((a, oa) :: pins) (wipe σ vs) H' s1 ∧ (∀ b ∈ fp, H' b = none) ∧ Stp acc H')
        (fun v k c fs s1 => c = gLoopC elt tg iter ifs scope pos it G.env ∧ fs = [] ∧ k (.send .none) = .pure (.again (gLoopC elt tg iter ifs scope pos it G.env)) ∧ ∃ y i' m' H', RelV y v ∧ Inv G ((a, oa) :: pins) (wipe σ vs) H' s1 ∧ tn i' s1.heap ∧ (∀ b ∈ fp, H' b = none) ∧ m' < m ∧
          ∃ Nx : α → Hp → Prop, (∀ acc' H5, Nx acc' H5 → gGen J g tt te vs σ Stp Ste m' acc' i' H5) ∧ Ste acc y H' Nx) gst (.send .none) (s.setGen gn .running) := by
    rcases gs with e | ⟨k, l, p, e, ek⟩
    · refine ⟨_, e, rfl, ?_⟩
      show SegK _ An.in1 _ _ _ ((compStart (.GeneratorExp elt [⟨tg, iter, ifs, 0⟩] scope pos) 0 (.ref it) .none G.env).onRaise (leaving G.env)) [] _
      unfold compStart
      rw [Sem.onRaise_eq_wrap]
      show SegK _ An.in1 _ _ _ ((ask >>= _).wrap _ _ _ _) [] _
      refine segK_bind_wrap (wpAny_askSetting ?_)
      split
      · exact segK_again rfl loop
      · first
          | exact segK_bind_wrap (wpAny_rule (segK_bind_wrap (wpAny_standAt (segK_bind_wrap (T.self _ i _ _ _ st (segK_again rfl loop))))))
          | (refine segK_bind_wrap (wpAny_rule ?_); show SegK _ An.in1 _ _ _ ((standAt iter.pos >>= _).wrap _ _ _ _) [] _; exact segK_bind_wrap (wpAny_standAt (segK_bind_wrap (T.self _ i _ _ _ st (segK_again rfl loop)))))
    · refine ⟨_, e, ?_⟩
      show SegK _ An.in1 _ _ _ (k (.send .none)) [] _
      rw [ek]
      exact segK_again rfl loop
  obtain ⟨gst, hgs, hgo⟩ := key
  refine next_genK hh inv.nolimit hroom isg hgs hgo (fun v k' c' fs' l' p' s1 hy hlt => ?_) (fun s1 hp hlt h' hk => ?_)
  · obtain ⟨rfl, rfl, ek, y, i', m', H', ry, I', st', nf', hm, q⟩ := hy
    have I3 : Inv G ((a, oa) :: pins) (wipe σ vs) H' (s1.setGen gn (.suspended k' l' (gLoopC elt tg iter ifs scope pos it G.env) p' [] false)) := I'.gens (AllBare.set I'.bare rfl) fun _ _ e => e
    have pa := I'.pin (a, oa) (List.mem_append_right _ List.mem_cons_self)
    refine hyld v y i' m' H' _ ry ⟨unp0 I3, st', nf', ⟨oa, nm, qn, pa.1, hoc, hod, hos⟩, pa.2.1, .inr ⟨k', l', p', setGen_get hlt, ek⟩⟩ (unp I3) hm q
  · obtain ⟨H', I', nf', q⟩ := hp
    exact hstop H' _ (unp (I'.gens (AllBare.set I'.bare rfl) hk)) q
end

section
variable {X : Cx}
theorem gback {pins pins' : List (Addr × Obj)} {σ σw : St} {H H0 : Hp} {s s0 : Shared} {A : Around} {genv : Env} {fp : List Addr} (I0 : Inv X pins σ H0 s0) (hfp : ∀ b ∈ fp, FpOk X pins H0 b) (I : Inv (gcx X A s0 H0 genv fp) pins' σw H s) : Inv X pins σ H s :=
  I0.call' (ch := fp) I.os I.base I.hok I.bare fun b hb => ⟨(hfp b hb).2.2.2.1, (hfp b hb).2.1, (hfp b hb).2.2.2.2.1, (hfp b hb).2.2.2.2.2⟩

theorem gen_make {pins : List (Addr × Obj)} {σ : St} {H : Hp} {s : Shared} {elt tg iter : Expr} {ifs : List Expr} {scope : Scope} {own : List (Str × Nat)} {pos : Pos} {wi : TI} {c P : Addr} {ps : Array Value} {Rr : It → Hp → Prop} {Q : Value → Shared → Prop}
    (hN : X.N.Nodup) (hi : PI X tg iter wi) (ok : BlkOk X.N X.env.scope scope own) (gs : GenSc scope) (hcode : X.env.code = .ref c) (C : CodeK X.K c P) (B : BmK X.base X.mg) (hroom : X.A.depth < recursionLimit) (hs : ∀ x, genFold iter X.env x = pure x)
    (I : Inv X pins σ H s) (hw : wi σ H fun J H1 => H1 P = some (tbO P ps) ∧ Rr J H1)
    (h : ∀ (J : It) (it : Addr) (fp : List Addr) (tn : Nat → Heap → Prop) (s4 : Shared) (H1 : Hp) (code : Value) (a : Addr) (g : Nat) (s5 : Shared), Turn X.prog X.w X.K tg J fp it tn → Inv X pins σ H1 s4 → (∀ b ∈ fp, FpOk X pins H1 b ∧ b < s4.heap.objs.size) → Rr J H1 →
      a ≠ s4.heap.objs.size → a ∉ frs X.stack → a ∉ fp → s4.heap.objs.size < s5.heap.objs.size →
      (∀ A : Around, A.frames = some (genvOf X scope s4.heap.objs.size code :: X.stack) → A.handled = none →
        GRun (gcx X A s4 H1 (genvOf X scope s4.heap.objs.size code) fp) (gLoopC elt tg iter ifs scope pos it (genvOf X scope s4.heap.objs.size code)) (gStartC elt tg iter ifs scope pos it (genvOf X scope s4.heap.objs.size code)) fp tn (wipe σ (own.map (·.2))) a g 0 H1 s5) →
      Q (.ref a) s5) :
    wpAny (model X.prog X.w) X.A (eval (.GeneratorExp elt [⟨tg, iter, ifs, 0⟩] scope pos) X.env) Q X.xe s := by
  have hfree : ∀ y ∈ scope.names, y.2 = .free → ∃ c, X.env.cells.lookup y.1 = some c := fun y hy e => by
    rcases ok.free y hy e with k | k
    · exact I.ok.has _ (.inl k)
    · exact I.ok.has _ (.inr k)
  refine wpAny_GeneratorExp_make gs.co (closure_ok hfree) gs.cell gs.dot ok.kind hroom (thn (hi pins s σ H _ I hw) fun xv s1 h1 => thn h1 fun itv s2 h2 => ?_) hs
  obtain ⟨it, fp, tn, J, H2, e, I2, T, st2, f2, hP, rr⟩ := h2
  subst e
  refine ⟨I2.nolimit, gcode_ok I2 hcode C hP fun code h3 tk3 I3 hx3 hsz3 => ?_⟩
  obtain ⟨bm, ob, b1, b2, b3, b4, b5, b6⟩ := B.ex
  refine wpAny_builtinsFor (m := X.mg) (by rw [I3.ok.glob]; exact I3.mod.glob.keeps I3.bk) b1 b2 (I3.bk bm ob b3) b4 b5 b6 ?_
  have nP : ∀ b ∈ fp, b ≠ P := fun b hb z => by
    have q := (f2 b hb).1
    rw [z, hP] at q; cases q
  have st3 : tn 0 h3 := T.keep _ _ _ st2 fun b hb o e => hx3 b o (nP b hb) e
  have sz3 : ∀ b ∈ fp, b < h3.objs.size := fun b hb => by
    obtain ⟨o, e, _⟩ := T.obj _ _ st3 b hb
    exact Heap.lt_size e
  intro h' hn' hs'
  have hsz : h'.objs.size = h3.objs.size + 1 := by rw [hs'.1]; exact Heap.size_push _ _
  have keep' : ∀ b o, h3.get? b = some o → h'.get? b = some o := fun b o e => hs'.extBut b o (Nat.ne_of_lt (Heap.lt_size e)) (Heap.get?_push_of_some _ e)
  have ane : h'.objs.size ≠ h3.objs.size := by rw [hsz]; exact Nat.succ_ne_self _
  have afr : h'.objs.size ∉ frs X.stack := fun z => by
    rcases List.mem_cons.mp (I3.stkSub _ z) with e | e
    · have := I3.lt
      rw [← e, hsz] at this
      exact absurd (Nat.lt_of_succ_lt this) (Nat.lt_irrefl _)
    · exact I3.nofs (a := h'.objs.size) (by rw [hsz]; exact Nat.le_succ _) e
  have afp : h'.objs.size ∉ fp := fun z => by
    have q := sz3 _ z
    rw [hsz] at q
    exact absurd (Nat.lt_of_succ_lt q) (Nat.lt_irrefl _)
  refine h J it fp tn _ H2 code h'.objs.size s2.gens.size _ T I3 (fun b hb => ⟨f2 b hb, sz3 b hb⟩) rr ane afr afp (by show h3.objs.size < (h'.push _).objs.size; rw [Heap.size_push, hsz]; exact Nat.lt_succ_of_lt (Nat.lt_succ_self _)) fun A hA hh => ?_
  refine ⟨gen_start I3 ok gs hN (fun b hb => ⟨f2 b hb, sz3 b hb⟩) hA hh (fun b o e => Heap.get?_push_of_some _ (keep' b o e)) (hn'.push _) (AllBare.push I3.bare rfl), T.keep _ _ _ st3 fun b _ o e => Heap.get?_push_of_some _ (keep' b o e), fun b hb => (f2 b hb).1, ⟨_, _, _, Heap.get?_push_size _ rfl, rfl, rfl, rfl⟩, ?_, .inl (Array.getElem?_push_size ..)⟩
  exact I3.hok.fresh (by rw [hsz]; exact Nat.le_succ _)
end
end L2

namespace L2
open PySem PySem.Spec PyProof.Rows

theorem over_frames {A : Around} {elt tg iter : Expr} {ifs : List Expr} {scope : Scope} {pos : Pos} {it : Addr} {genv : Env} {st : List Env} (h : A.frames = some st) : (A.over (gLoopC elt tg iter ifs scope pos it genv) []).frames = some (genv :: st) := by
  unfold Around.over
  simp only [pushEnvs_eq, h]
  rfl
theorem over_handled {A : Around} {c : Code} : (A.over c []).handled = A.handled := rfl
theorem Room.gen {k : Nat} {A An : Around} {elt tg iter : Expr} {ifs : List Expr} {scope : Scope} {pos : Pos} {it : Addr} {genv : Env} (r : Room (k + 1) A) (h1 : An.handled = A.handled) (h2 : An.depth = A.depth) (h3 : An.units ≤ A.units + 6) (h4 : An.guards = A.guards) :
    Room k (An.in1.over (gLoopC elt tg iter ifs scope pos it genv) []) := by
  refine ⟨h1.trans r.hd, ?_, ?_, ?_⟩
  · have q := r.dp
    have e : (An.in1.over (gLoopC elt tg iter ifs scope pos it genv) []).depth = An.depth + 1 := by
      show An.depth + 0 + _ = _
      rfl
    rw [e, h2]; omega
  · have q := r.un
    have e : (An.in1.over (gLoopC elt tg iter ifs scope pos it genv) []).units = An.units + 4 := by
      show An.units + 1 + 0 + _ = _
      rfl
    rw [e]; omega
  · have e : (An.in1.over (gLoopC elt tg iter ifs scope pos it genv) []).guards = An.guards := by
      unfold Around.over
      simp only [pushGuards_eq]
      show Option.map _ (Option.map _ An.guards) = _
      cases An.guards <;> rfl
    rw [e, h4]; exact r.gd

structure GSet {α : Type} (X : Cx) (An : Around) (pins : List (Addr × Obj)) (σ : St) (elt tg iter : Expr) (ifs : List Expr) (scope : Scope) (pos : Pos) (it : Addr) (fp : List Addr) (tn : Nat → Heap → Prop) (J : It) (g : TG) (tt : TT) (te : TE) (vs : List Nat)
    (a : Addr) (s4 : Shared) (H1 : Hp) (code : Value) (G : Cx) : Prop where
  eG : G = gcx X (An.in1.over (gLoopC elt tg iter ifs scope pos it (genvOf X scope s4.heap.objs.size code)) []) s4 H1 (genvOf X scope s4.heap.objs.size code) fp
  T : Turn X.prog X.w X.K tg J fp it tn
  hc : X.calm = true
  co : scope.isCoroutine = false
  hh : An.handled = none
  hroom : An.depth < recursionLimit
  hg : PG G tg g
  ht : PTs G ifs tt
  he : PE G elt te
  I4 : Inv X pins σ H1 s4
  hfp : ∀ b ∈ fp, FpOk X pins H1 b ∧ b < s4.heap.objs.size
  ane : a ≠ s4.heap.objs.size
  afr : a ∉ frs X.stack
  afp : a ∉ fp

section
variable {α : Type} {X : Cx} {An : Around} {pins : List (Addr × Obj)} {σ : St} {elt tg iter : Expr} {ifs : List Expr} {scope : Scope} {pos : Pos} {it : Addr} {fp : List Addr} {tn : Nat → Heap → Prop} {J : It} {g : TG} {tt : TT} {te : TE} {vs : List Nat} {a : Addr} {s4 : Shared} {H1 : Hp} {code : Value} {G : Cx}
  {Stp : α → Hp → Prop} {Ste : α → V → Hp → (α → Hp → Prop) → Prop}
abbrev GR (G : Cx) (elt tg iter : Expr) (ifs : List Expr) (scope : Scope) (pos : Pos) (it : Addr) (fp : List Addr) (tn : Nat → Heap → Prop) (vs : List Nat) (σ : St) (a : Addr) (gn i : Nat) (H : Hp) (s : Shared) : Prop :=
  GRun G (gLoopC elt tg iter ifs scope pos it G.env) (gStartC elt tg iter ifs scope pos it G.env) fp tn (wipe σ vs) a gn i H s
structure Mine (X : Cx) (a : Addr) (fp : List Addr) (s4 : Shared) (S : Addr) : Prop where
  ge : s4.heap.objs.size < S
  ne : S ≠ a
theorem GSet.nofr (Z : GSet (α := α) X An pins σ elt tg iter ifs scope pos it fp tn J g tt te vs a s4 H1 code G) {S : Addr} (h : s4.heap.objs.size < S) : S ∉ frs X.stack := fun z => by
  rcases List.mem_cons.mp (Z.I4.stkSub _ z) with e | e
  · have q := Z.I4.lt
    rw [← e] at q
    exact absurd (Nat.lt_trans h q) (Nat.lt_irrefl _)
  · exact Z.I4.nofs (a := S) (Nat.le_of_lt h) e
theorem GSet.next (Z : GSet (α := α) X An pins σ elt tg iter ifs scope pos it fp tn J g tt te vs a s4 H1 code G) {gn i m : Nat} {acc : α} {H : Hp} {s : Shared} {E : Value → Shared → Prop} {Q : Option Value → Shared → Prop} {mine : List (Addr × Obj)}
    (R : GR G elt tg iter ifs scope pos it fp tn vs σ a gn i H s) (W : gGen J g tt te vs σ Stp Ste m acc i H)
    (hS : ∀ p ∈ mine, s.heap.get? p.1 = some p.2 ∧ H p.1 = none ∧ (∀ v, p.2.data ≠ .cell v) ∧ Mine X a fp s4 p.1)
    (hstop : ∀ H' s', Inv X pins σ H' s' → (∀ p ∈ mine, s'.heap.get? p.1 = some p.2 ∧ H' p.1 = none) → Stp acc H' → Q none s')
    (hyld : ∀ u y i' m' H' s', RelV y u → GR G elt tg iter ifs scope pos it fp tn vs σ a gn i' H' s' → (∀ p ∈ mine, s'.heap.get? p.1 = some p.2 ∧ H' p.1 = none) → m' < m →
      (∃ Nx : α → Hp → Prop, (∀ acc' H5, Nx acc' H5 → gGen J g tt te vs σ Stp Ste m' acc' i' H5) ∧ Ste acc y H' Nx) → Q (some u) s') :
    wpAny (model X.prog X.w) An (pyNext (.ref a)) Q E s := by
  obtain ⟨eG, T, hc, co, hh, hroom, hg, ht, he, I4, hfp, ane, afr, afp⟩ := id Z
  subst eG
  refine gen_next (G := gcx X (An.in1.over (gLoopC elt tg iter ifs scope pos it (genvOf X scope s4.heap.objs.size code)) []) s4 H1 (genvOf X scope s4.heap.objs.size code) fp) (An := An) (pins := mine) T hc rfl rfl co rfl hh hroom hg ht he
    (fun b hb => ⟨Nat.ne_of_lt (hfp b hb).2, ?_, hb, fun x c e z => ?_⟩) ⟨ane, afr, afp⟩ R (fun p hp => ?_) W (fun H' s' I' q => ?_) (fun u y i' m' H' s' ry R' I' hm q => ?_)
  · intro z
    rcases List.mem_cons.mp (I4.stkSub b z) with z | z
    · exact (hfp b hb).1.2.1 z
    · exact (hfp b hb).1.2.2.1 z
  · exact (R.inv.ok.exf b hb).2 x c e z
  · obtain ⟨h1, h2, h3, h4⟩ := hS p hp
    exact ⟨h1, h2, Nat.ne_of_gt h4.ge, Z.nofr h4.ge, h3, fun z => absurd (Nat.lt_trans h4.ge (hfp _ z).2) (Nat.lt_irrefl _)⟩
  · exact hstop H' s' (gback I4 (fun b hb => (hfp b hb).1) I') (fun p hp => let z := I'.pin p (List.mem_append_right _ hp); ⟨z.1, z.2.1⟩) q
  · exact hyld u y i' m' H' s' ry R' (fun p hp => let z := I'.pin p (List.mem_append_right _ hp); ⟨z.1, z.2.1⟩) hm q
theorem GSet.move (Z : GSet (α := α) X An pins σ elt tg iter ifs scope pos it fp tn J g tt te vs a s4 H1 code G) {gn i : Nat} {H : Hp} {s : Shared} {S : Addr} {h' : Heap} {tk : Nat} (R : GR G elt tg iter ifs scope pos it fp tn vs σ a gn i H s) (mi : Mine X a fp s4 S) (hn : H S = none)
    (k : ∀ b o, b ≠ S → s.heap.get? b = some o → h'.get? b = some o) : GR G elt tg iter ifs scope pos it fp tn vs σ a gn i H { s with heap := h', toks := tk } := by
  obtain ⟨eG, T, hc, co, hh, hroom, hg, ht, he, I4, hfp, ane, afr, afp⟩ := id Z
  subst eG
  obtain ⟨inv, st, nfp, isg, na, gs⟩ := R
  refine ⟨inv.turned (it := S) (t' := tk) (fun b o hb e => k b o hb e) hn (Nat.ne_of_gt mi.ge) (.inr (Nat.le_of_lt mi.ge)) (fun x c e z => ?_) (fun p hp => absurd (show p ∈ ([] : List (Addr × Obj)) ++ [] from hp) (by simp)), T.keep _ _ _ st fun b hb o e => k b o (fun z => ?_) e, nfp, ?_, na, gs⟩
  · obtain ⟨v, q⟩ := inv.cell x c e
    rcases cloFrom_mem (PySem.mem_of_lookup (show (cloFrom X.env.cells scope.names []).lookup x = some c from e)) with hm | ⟨h1, h2⟩
    · cases hm
    · have : S < s4.heap.objs.size := by
        rw [← z]
        cases hl : X.env.cells.lookup x with
        | none => rw [hl] at h2; rw [h2]; exact Nat.lt_of_le_of_lt (Nat.zero_le _) I4.lt
        | some c2 =>
          rw [hl] at h2
          obtain ⟨v2, q2⟩ := I4.cell x c2 hl
          rw [h2]; exact q2.lt
      exact absurd (Nat.lt_trans mi.ge this) (Nat.lt_irrefl _)
  · exact absurd (Nat.lt_trans mi.ge (z ▸ (hfp b hb).2)) (Nat.lt_irrefl _)
  · obtain ⟨o, nm, qn, ho, r⟩ := isg
    exact ⟨o, nm, qn, k a o (Ne.symm mi.ne) ho, r⟩
theorem GSet.grow (Z : GSet (α := α) X An pins σ elt tg iter ifs scope pos it fp tn J g tt te vs a s4 H1 code G) {gn i : Nat} {H : Hp} {s : Shared} {h' : Heap} {tk : Nat} (R : GR G elt tg iter ifs scope pos it fp tn vs σ a gn i H s)
    (k : ∀ b o, s.heap.get? b = some o → h'.get? b = some o) : GR G elt tg iter ifs scope pos it fp tn vs σ a gn i H { s with heap := h', toks := tk } :=
  ⟨R.inv.kept k, Z.T.keep _ _ _ R.st fun b _ o e => k b o e, R.nfp, R.isg.keeps k, R.na, R.gs⟩
theorem GSet.back (Z : GSet (α := α) X An pins σ elt tg iter ifs scope pos it fp tn J g tt te vs a s4 H1 code G) {gn i : Nat} {H : Hp} {s : Shared} (R : GR G elt tg iter ifs scope pos it fp tn vs σ a gn i H s) : Inv X pins σ H s := by
  obtain ⟨eG, T, hc, co, hh, hroom, hg, ht, he, I4, hfp, ane, afr, afp⟩ := id Z
  subst eG
  exact gback I4 (fun b hb => (hfp b hb).1) R.inv
end

section
variable {X : Cx} {x : Str} {p pos pos' : Pos} {id T : String} {c P : Addr} {ps : Array Value} {wi : TI} {g : TG} {tt : TT} {te : TE} {elt tg iter : Expr} {ifs : List Expr} {scope : Scope} {own : List (Str × Nat)} {k : Nat}
def tGC {α : Type} (P : Addr) (ps : Array Value) (wi : TI) (g : TG) (tt : TT) (te : TE) (vs : List Nat) (a0 : α) (Stp : VK → α → Hp → Prop) (Ste : VK → α → V → Hp → (α → Hp → Prop) → Prop) : TE := fun σ H Q =>
  wi σ H fun J H1 => H1 P = some (tbO P ps) ∧ ∃ m, gGen J g tt te vs σ (Stp Q) (Ste Q) m a0 0 H1
structure GenPl (X : Cx) (k : Nat) (c P : Addr) (scope : Scope) (own : List (Str × Nat)) : Prop where
  calm : X.calm = true
  nd : X.N.Nodup
  blk : BlkOk X.N X.env.scope scope own
  sc : GenSc scope
  code : X.env.code = .ref c
  ck : CodeK X.K c P
  bm : BmK X.base X.mg
  room : Room (k + 1) X.A

theorem gen_arg {α : Type} {An : Around} {pins : List (Addr × Obj)} {s : Shared} {σ : St} {H : Hp} {Q : VK} {a0 : α} {Stp : VK → α → Hp → Prop} {Ste : VK → α → V → Hp → (α → Hp → Prop) → Prop} {Qf : List Value → Shared → Prop}
    (L : GenPl X k c P scope own) (hi : PI X tg iter wi)
    (hg : ∀ (A : Around) (s : Shared) (H : Hp) (C : Addr) (code : Value) (fp : List Addr), PG (gcx X A s H (genvOf X scope C code) fp) tg g)
    (ht : ∀ (A : Around) (s : Shared) (H : Hp) (C : Addr) (code : Value) (fp : List Addr), Room k A → PTs (gcx X A s H (genvOf X scope C code) fp) ifs tt)
    (he : ∀ (A : Around) (s : Shared) (H : Hp) (C : Addr) (code : Value) (fp : List Addr), Room k A → PE (gcx X A s H (genvOf X scope C code) fp) elt te)
    (hs : ∀ x, genFold iter X.env x = pure x) (a1 : An.handled = X.A.handled) (a2 : An.depth = X.A.depth) (a3 : An.units ≤ X.A.units + 6) (a4 : An.frames = X.A.frames) (a5 : An.guards = X.A.guards)
    (hst : starEach [.GeneratorExp elt [⟨tg, iter, ifs, 0⟩] scope pos] X.env = [(false, eval (.GeneratorExp elt [⟨tg, iter, ifs, 0⟩] scope pos) X.env)])
    (I : Inv X pins σ H s) (h : tGC P ps wi g tt te (own.map (·.2)) a0 Stp Ste σ H Q)
    (hf : ∀ (it : Addr) (fp : List Addr) (tn : Nat → Heap → Prop) (J : It) (a : Addr) (s4 : Shared) (H1 : Hp) (code : Value) (G : Cx) (gn m : Nat) (s5 : Shared),
      GSet (α := α) X An pins σ elt tg iter ifs scope pos it fp tn J g tt te (own.map (·.2)) a s4 H1 code G → GR G elt tg iter ifs scope pos it fp tn (own.map (·.2)) σ a gn 0 H1 s5 → s4.heap.objs.size < s5.heap.objs.size →
      gGen J g tt te (own.map (·.2)) σ (Stp Q) (Ste Q) m a0 0 H1 → Qf [.ref a] s5) :
    wpAny (model X.prog X.w) X.A (spliced (backTo pos' (starEach [.GeneratorExp elt [⟨tg, iter, ifs, 0⟩] scope pos] X.env))) Qf X.xe s := by
  rw [hst]
  show wpAny _ _ (spliced ((false, eval (.GeneratorExp elt [⟨tg, iter, ifs, 0⟩] scope pos) X.env) :: backTo pos' [])) _ _ s
  refine Calls.spliced_cons (gen_make L.nd hi L.blk L.sc L.code L.ck L.bm L.room.depth hs I h fun J it fp tn s4 H1 code a gn s5 T I4 f4 rr ane afr afp hsz gr => Calls.spliced_nil ?_)
  obtain ⟨m, rr⟩ := rr
  have hF : An.in1.frames = some X.stack := a4.trans I.ok.frames
  have hr : Room k (An.in1.over (gLoopC elt tg iter ifs scope pos it (genvOf X scope s4.heap.objs.size code)) []) := L.room.gen a1 a2 a3 a5
  exact hf it fp tn J a s4 H1 code _ gn m s5 ⟨rfl, T, L.calm, L.sc.co, a1.trans (I.ok.hd L.calm), by rw [a2]; exact L.room.depth, hg _ _ _ _ _ _, ht _ _ _ _ _ _ hr, he _ _ _ _ _ _ hr, I4, f4, ane, afr, afp⟩
    (gr _ (over_frames hF) (over_handled.trans (a1.trans (I.ok.hd L.calm)))) hsz rr
end

section
variable {X : Cx} {x : Str} {p pos pos' : Pos} {c P : Addr} {ps : Array Value} {wi : TI} {g : TG} {tt : TT} {te : TE} {elt tg iter : Expr} {ifs : List Expr} {scope : Scope} {own : List (Str × Nat)} {k : Nat}

end
end L2

namespace L2
open PySem PySem.Spec PyProof.Rows

section
variable {X : Cx} {x : Str} {p pos pos' : Pos} {c P : Addr} {ps : Array Value} {wi : TI} {g : TG} {tt : TT} {te : TE} {elt tg iter : Expr} {ifs : List Expr} {scope : Scope} {own : List (Str × Nat)} {k : Nat}
end

def sTup (Q : VK) : List V → Hp → Prop := fun acc H => acc.length ≤ sizeLine ∧ ∀ p, H p = none → Q (.ref p) (upd H p (.tup acc))
def eTup (_ : VK) : List V → V → Hp → (List V → Hp → Prop) → Prop := fun acc y H k => acc.length < sizeLine ∧ k (acc ++ [y]) H
section
variable {X : Cx} {x : Str} {p pos pos' : Pos} {c P : Addr} {ps : Array Value} {wi : TI} {g : TG} {tt : TT} {te : TE} {elt tg iter : Expr} {ifs : List Expr} {scope : Scope} {own : List (Str × Nat)} {k : Nat}
theorem ext_loop {A : Around} {pins : List (Addr × Obj)} {σ : St} {it : Addr} {fp : List Addr} {tn : Nat → Heap → Prop} {J : It} {vs : List Nat} {a : Addr} {s4 : Shared} {H1 : Hp} {code : Value} {G : Cx} {gn : Nat} {Q : VK} {R : Result → Shared → Prop} {S : Addr} {res : Value}
    (Z : GSet (α := List V) X A.in1 pins σ elt tg iter ifs scope pos it fp tn J g tt te vs a s4 H1 code G) (mi : Mine X a fp s4 S)
    (hR : ∀ H' s' acc us cc, Inv X pins σ H' s' → Vals acc us → s'.heap.get? S = some { cls := .type "list", dict := none, data := .seq us.toArray cc, slots := #[] } → sTup Q acc H' → R (.ok (.ret res)) s') :
    ∀ (m i : Nat) (acc : List V) (us : List Value) (H : Hp) (s : Shared) (cc : Nat), GR G elt tg iter ifs scope pos it fp tn vs σ a gn i H s → gGen J g tt te vs σ (sTup Q) (eTup Q) m acc i H →
      s.heap.get? S = some { cls := .type "list", dict := none, data := .seq us.toArray cc, slots := #[] } → Vals acc us → H S = none →
      codeAny (model X.prog X.w) A (.builtin "list.extend.loop" ⟨[.ref S, .ref a, res], []⟩) R s := by
  intro m
  induction m using Nat.strongRecOn with
  | ind m ih =>
    intro i acc us H s cc gr w hS rv hn
    refine codeAny_builtin F.entry_extend_loop ?_
    rw [Around.under_plainId F.plain_extend_loop _]
    show wpAny _ A.in1 (pyNext (.ref a) >>= _) _ _ s
    refine wpAny_bind (Z.next (mine := [(S, { cls := .type "list", dict := none, data := .seq us.toArray cc, slots := #[] })]) gr w (fun p hp => ?_) (fun H' s' I' pm q => ?_) (fun u y i' m' H' s' ry gr' pm hm q => ?_))
    · obtain rfl : p = _ := List.mem_singleton.mp hp
      exact ⟨hS, hn, (fun v z => by cases z), mi⟩
    · exact wpAny_pure (hR H' s' acc us cc I' rv (pm _ List.mem_cons_self).1 q)
    · obtain ⟨Nx, hN, hz, q⟩ := q
      obtain ⟨hS', hn'⟩ := pm _ List.mem_cons_self
      show wpAny _ A.in1 (updateSeq S (·.push u) >>= _) _ _ _
      refine wpAny_bind ?_
      have hl := rv.length
      have e1 : us.toArray.push u = (us ++ [u]).toArray := by simp
      have hS2 := Heap.get?_update_self (Obj.mapSeq (·.push u)) hS' rfl
      obtain ⟨c3, hS3⟩ : ∃ c3, (s'.heap.update S (Obj.mapSeq (·.push u))).get? S = some { cls := .type "list", dict := none, data := .seq (us ++ [u]).toArray c3, slots := #[] } := ⟨_, by rw [← e1]; exact hS2⟩
      refine wpAny_updateSeq hS' rfl (wpAny_pure ⟨plainId_quiet F.plain_extend_loop _, ih m' hm i' (acc ++ [y]) (us ++ [u]) H' _ c3 (Z.move (s := s') gr' mi hn' fun b o hb e => ?_) (hN _ _ q) hS3 (rv.append (.cons ry .nil)) hn'⟩) (by simp; omega) (by simp; omega)
      exact (Heap.get?_update_other _ _ (Ne.symm hb)).trans e
theorem collect_gen {A : Around} {E : Value → Shared → Prop} {pins : List (Addr × Obj)} {σ : St} {it : Addr} {fp : List Addr} {tn : Nat → Heap → Prop} {J : It} {vs : List Nat} {a : Addr} {s4 : Shared} {H1 : Hp} {code : Value} {G : Cx} {gn m : Nat} {Q : VK} {s5 : Shared} {Qf : List Value → Shared → Prop}
    (Z : GSet (α := List V) X A.in1 pins σ elt tg iter ifs scope pos it fp tn J g tt te vs a s4 H1 code G) (hsz : s4.heap.objs.size < s5.heap.objs.size)
    (gr : GR G elt tg iter ifs scope pos it fp tn vs σ a gn 0 H1 s5) (w : gGen J g tt te vs σ (sTup Q) (eTup Q) m [] 0 H1)
    (hQ : ∀ H' s' acc us, Inv X pins σ H' s' → Vals acc us → sTup Q acc H' → Qf us s') : wpAny (model X.prog X.w) A (collect (.ref a)) Qf E s5 := by
  have hT := gr.isg.typeIs
  obtain ⟨oa, nm, qn, hoa, _⟩ := id gr.isg
  have hSa : s5.heap.objs.size ≠ a := Nat.ne_of_gt (Heap.lt_size hoa)
  unfold collect
  refine wpAny_bind (wpAny_runValue (codeAny_builtin F.entry_proto_collect ?_))
  rw [Around.under_plainId F.plain_proto_collect _]
  show wpAny _ A.in1 (newList [] >>= fun l => again (.builtin "list.__iadd__" ⟨[l, .ref a], []⟩)) _ _ s5
  refine wpAny_bind (wpAny_newObj_type ?_)
  refine wpAny_pure ⟨plainId_quiet F.plain_list_iadd _, codeAny_builtin F.entry_list_iadd ?_⟩
  rw [Around.under_plainId F.plain_list_iadd _]
  show wpAny _ A.in1 (Builtin.List.listExtendWith (.ref s5.heap.objs.size) (.ref a) (.ref s5.heap.objs.size)) _ _ _
  generalize hSS : s5.heap.objs.size = S at hSa ⊢
  have mi : Mine X a fp s4 S := ⟨by rw [← hSS]; exact hsz, hSa⟩
  have gr1 := Z.grow (h' := s5.heap.push { cls := .type "list", data := .seq ([] : List Value).toArray }) (tk := s5.toks) gr fun b o e => Heap.get?_push_of_some _ e
  have hS : (s5.heap.push { cls := .type "list", data := .seq ([] : List Value).toArray }).get? S = some { cls := .type "list", data := .seq #[] 0 } := by rw [← hSS]; exact Heap.get?_push_size _ rfl
  have hT1 : ({ s5 with heap := s5.heap.push { cls := .type "list", data := .seq ([] : List Value).toArray } } : Shared).TypeIs (.ref a) "generator" := gr1.isg.typeIs
  unfold Builtin.List.listExtendWith
  refine wpAny_bind (wpAny_typeOf hT1 ?_)
  have h1 : Builtin.List.listSameRef (.ref S) (.ref a) = false := by simp [Builtin.List.listSameRef, hSa]
  have h2 : (Value.type "generator" == Value.type "list") = false := by decide
  have h3 : (Value.type "generator" == Value.type "tuple") = false := by decide
  simp only [h1, h2, h3, Bool.or_false, Bool.false_eq_true, if_false]
  refine wpAny_bind (wpAny_pyIter_gen gr1.isg ?_)
  refine wpAny_bind (wpAny_holding ?_)
  unfold Builtin.List.listLengthHint
  refine wpAny_bind (wpAny_specialOf hT1 F.gen_no_len ?_)
  show wpAny _ A.in1 (specialOf (Value.ref a) (Str.ofString "__length_hint__") >>= _) _ _ _
  refine wpAny_bind (wpAny_specialOf hT1 F.gen_no_hint ?_)
  refine wpAny_pure ?_
  show wpAny _ A.in1 (rule "list.extend.makes-room" >>= fun _ => Builtin.List.listTouch (.ref S) >>= fun _ =>
    again (.builtin "list.extend.loop" ⟨[.ref S, .ref a, .ref S], []⟩)) _ _ _
  refine wpAny_bind (wpAny_rule ?_)
  refine wpAny_bind ?_
  show wpAny _ A.in1 (updateSeq S (·.push .none) >>= fun _ => updateSeq S (·.pop)) _ _ _
  refine wpAny_bind (wpAny_updateSeq hS rfl ?_)
  have hS₂ := Heap.get?_update_self (Obj.mapSeq (·.push Value.none)) hS rfl
  refine wpAny_updateSeq (hz := by seq_fits) hS₂ rfl ?_
  have hS₃ := Heap.get?_update_self (Obj.mapSeq (·.pop)) hS₂ rfl
  have hn1 : H1 S = none := gr.inv.hok.fresh (Nat.le_of_eq hSS)
  refine wpAny_pure ⟨plainId_quiet F.plain_extend_loop _, ext_loop (A := A) Z mi (fun H' s' acc us cc I' rv hS' q => ?_) m 0 [] [] H1 _ _ (Z.move (s := { s5 with heap := s5.heap.push { cls := .type "list", data := .seq ([] : List Value).toArray } }) gr1 mi hn1 fun b o hb e => ?_) w hS₃ .nil hn1⟩
  · show wpAny _ A (load S >>= _) _ _ _
    refine wpAny_bind (wpAny_load hS' ?_)
    refine wpAny_pure ?_
    have e : us.toArray.toList = us := by simp
    show Qf us.toArray.toList s'
    rw [e]
    exact hQ H' s' acc us I' rv q
  · exact (Heap.get?_update_other _ _ (Ne.symm hb)).trans ((Heap.get?_update_other _ _ (Ne.symm hb)).trans e)

theorem pe_tupG (L : GenPl X k c P scope own) (hgl : Gl X "tuple") (hm : X.mg "tuple" = none) (hi : PI X tg iter wi)
    (hg : ∀ (A : Around) (s : Shared) (H : Hp) (C : Addr) (code : Value) (fp : List Addr), PG (gcx X A s H (genvOf X scope C code) fp) tg g)
    (ht : ∀ (A : Around) (s : Shared) (H : Hp) (C : Addr) (code : Value) (fp : List Addr), Room k A → PTs (gcx X A s H (genvOf X scope C code) fp) ifs tt)
    (he : ∀ (A : Around) (s : Shared) (H : Hp) (C : Addr) (code : Value) (fp : List Addr), Room k A → PE (gcx X A s H (genvOf X scope C code) fp) elt te)
    (hs : ∀ x, genFold iter X.env x = pure x := by intro _; rfl)
    (hst : starEach [.GeneratorExp elt [⟨tg, iter, ifs, 0⟩] scope pos] X.env = [(false, eval (.GeneratorExp elt [⟨tg, iter, ifs, 0⟩] scope pos) X.env)] := by rfl) :
    PE X (.Call (.Name "tuple" p) [.GeneratorExp elt [⟨tg, iter, ifs, 0⟩] scope pos] [] pos') (tGC P ps wi g tt te (own.map (·.2)) [] sTup eTup) := by
  intro pins s σ H Q I h
  refine wpAny_Call_Name_kw (ld_blt I hgl hm (u := .type "tuple") (by decide +kernel) ?_)
  refine PyProof.Rows.callWith_type1 (gen_arg (An := X.A.in1.in1.in1) L hi hg ht he hs rfl rfl (by show X.A.units + 1 + 1 + 1 ≤ _; omega) rfl rfl hst I h fun it fp tn J a s4 H1 code G gn m s5 Z gr hsz w => ?_) hst rfl
  refine callType_codes (Q₁ := fun obj s₁ => s₁.TypeIs obj "tuple" ∧ EP X pins σ Q obj s₁) F.called_tuple (F.typeCall_tuple_1 _) F.entry_object_init ?_ fun obj s₁ h₁ => ?_
  · refine codeAny_of_tree ?_
    show wpAny _ X.A.in1.in1 (do checkBuiltinCall "tuple.__new__" ⟨[.type "tuple", .ref a], []⟩; again (.builtin "tuple.__new__" ⟨[.type "tuple", .ref a], []⟩)) _ _ s5
    refine wpAny_bind (wpAny_of_eq (F.newCall_tuple_1 _) (wpAny_pure ⟨plainId_quiet F.plain_tuple_new _, codeAny_builtin F.entry_tuple_new ?_⟩))
    rw [Around.under_plainId F.plain_tuple_new _]
    have hsub := sub_tuple_self
    have hinit := init_tuple_lookup
    have hmh := madeHere_tuple
    have hTI := gr.isg.typeIs
    wp_walk using wpAny_typeOf hTI, collect_gen (A := X.A.in1.in1) Z hsz gr w
    intro H' s' acc us I' rv q
    obtain ⟨hz, q⟩ := q
    show wpAny _ _ (Builtin.Tuple.tupleExact us.toArray >>= fun v => ret v) _ _ _
    unfold Builtin.Tuple.tupleExact
    refine wpAny_bind (wpAny_newObj_type ?_ (by show us.toArray.size ≤ sizeLine; rw [List.size_toArray, ← rv.length]; exact hz))
    refine wpAny_pure ⟨⟨_, Heap.get?_push_size _ rfl, rfl⟩, ?_⟩
    have hf : H' s'.heap.objs.size = none := I'.hok.fresh (Nat.le_refl _)
    refine ⟨.ref s'.heap.objs.size, upd H' s'.heap.objs.size (.tup acc), I'.laid (t' := s'.toks) (fun b u e => Heap.get?_push_of_some _ e) (Nat.le_refl _) ?_, rfl, q _ hf⟩
    exact ⟨hz, us, rv, ⟨_, Heap.get?_push_size _ rfl, rfl, _, rfl⟩⟩
  · exact ⟨h₁.1, F.args_object_init_2 obj _, object_init_meets F.called_tuple.init.lookup F.called_tuple.made (by decide) X.prog X.w X.A.in1 _ s₁ ⟨h₁.1, rfl, h₁.2⟩⟩
end
end L2

namespace L2
open PySem PySem.Spec PyProof.Rows

def TbH (TB : List (Addr × HO)) (H : Hp) : Prop := ∀ p ∈ TB, H p.1 = some p.2
def TabLike (P : Addr) (o : HO) : Prop := o = tbO P #[] ∨ ∃ q, o = .lam q
theorem TabLike.at {P : Program} {w : World} {H : Hp} {h : Heap} {a : Addr} {o : HO} (t : TabLike a o) (x : ObjOk P w H h a o) : ∃ more, h.get? a = some { cls := .none, data := .fields (#[] ++ more) } := by
  rcases t with rfl | ⟨q, rfl⟩
  · obtain ⟨⟨more, e, _⟩, _⟩ := x
    exact ⟨more, e⟩
  · obtain ⟨more, e, _⟩ := x
    exact ⟨more, by simpa using e⟩
theorem TabLike.ok {P : Program} {w : World} {H : Hp} {h : Heap} {a : Addr} {o : HO} (t : TabLike a o) (e : h.get? a = some { cls := .none, data := .fields #[] }) : ObjOk P w H h a o := by
  rcases t with rfl | ⟨q, rfl⟩
  · exact ⟨⟨#[], by simpa using e, trivial⟩, ⟨_, e⟩, fun h1 h2 x k => tb_stay h1 h2 x k⟩
  · exact ⟨#[], e, trivial, fun pos cv z => nomatch z⟩
theorem lookup_mem {α : Type} {TB : List (Addr × α)} {p : Addr × α} (hn : (TB.map (·.1)).Nodup) (hp : p ∈ TB) : TB.lookup p.1 = some p.2 := by
  induction TB with
  | nil => cases hp
  | cons q r ih =>
    obtain ⟨a, ps⟩ := q
    rw [List.map_cons, List.nodup_cons] at hn
    rcases List.mem_cons.mp hp with rfl | hp
    · simp [List.lookup]
    · have : (p.1 == a) = false := by
        rw [beq_eq_false_iff_ne]
        intro e
        exact hn.1 (by rw [← e]; exact List.mem_map.mpr ⟨p, hp, rfl⟩)
      simp only [List.lookup, this]
      exact ih hn.2 hp
theorem mem_lookupT {α : Type} {TB : List (Addr × α)} {a : Addr} {ps : α} (h : TB.lookup a = some ps) : (a, ps) ∈ TB := by
  induction TB with
  | nil => simp [List.lookup] at h
  | cons q r ih =>
    obtain ⟨b, x⟩ := q
    simp only [List.lookup] at h
    split at h
    · rename_i e
      cases h
      rw [beq_iff_eq.mp e]
      exact List.mem_cons_self
    · exact List.mem_cons_of_mem _ (ih h)

theorem law_callT {P : Program} {w : World} {K : PySem.W.Frag} {mg mb : Str → Option Value} {CX : CXT} {k : Nat} {fa a : Addr} {fd : FuncData} {x : Str} {sp : Sp} {s₁ : Shared} {vs : List Value} {ns : List Int} {TB : List (Addr × HO)}
    (KX : K.In s₁.heap) (hnd : (TB.map (·.1)).Nodup) (hKT : ∀ p ∈ TB, K.lookup p.1 = none) (hTB : ∀ p ∈ TB, (∃ c, s₁.heap.TableAt c p.1 #[]) ∧ TabLike p.1 p.2)
    (hns : s₁.heap.Ns mainGlobals mg) (hb : s₁.heap.Ns builtinsNs mb) (hbb : ∀ x : Str, x ≠ "__name__" → mb x = bootBuiltins x) (hlim : s₁.heap.NoLimit) (hg : s₁.gens = #[])
    (ha : s₁.heap.get? a = some { cls := .type "list", data := .seq vs.toArray }) (hi : IntsAre vs ns) (hl : ns.length ≤ sizeLine) (hr : Room k callerA)
    (hbm : BmK s₁.heap mg) (F : ∀ base : Heap, K.In base → base.Ns mainGlobals mg → BmK base mg → FnOk P w K mg base CX k fa fd [x] sp) (hbind : ∀ (s : Shared) (u : Value), BindsTo s fd ⟨[u], []⟩ [(x, u)])
    (hsp : ∀ H : Hp, TbH TB H → SqL K H a (ns.map V.int) → sp [.ref a] H (fun v H' => v = .bl true ∧ TbH TB H') fun _ _ _ => False)
    (hCX : ∀ H e s', CX [] H s₁ (fun _ _ _ => False) e s' → False) :
    codeAny (model P w) callerA (.call (.ref fa) ⟨[.ref a], []⟩) (fun r s' => r = .ok (.ret (.bool true)) ∧ OldK s₁.heap s'.heap ∧ s'.os = s₁.os ∧ AllBare s'.gens) s₁ := by
  have rv := vals_ints hi
  have lenV := hi.length
  have core : ∀ H : Hp, (∀ b, H b = none ∨ (b = a ∧ ∃ o xs, H b = some (.frz o (.lst xs))) ∨ ∃ ps, (b, ps) ∈ TB ∧ H b = some ps) → TbH TB H → SqL K H a (ns.map V.int) → HOk P w H s₁.heap → (H a ≠ none → K.lookup a = none) →
      codeAny (model P w) callerA (.call (.ref fa) ⟨[.ref a], []⟩) (fun r s' => r = .ok (.ret (.bool true)) ∧ OldK s₁.heap s'.heap ∧ s'.os = s₁.os ∧ AllBare s'.gens) s₁ := by
    intro H hO hT hS hok hK
    have base_of : ∀ {b : Addr} {o : Obj}, s₁.heap.get? b = some o → H b = none → (hidT s₁.heap H).get? b = some o := fun e n => hidT_get e n
    have noA : ∀ {b : Addr} {o : Obj} {es : Array DictEntry} {ep : Nat}, s₁.heap.get? b = some o → o.data = .dict es ep → H b = none := fun {b o es ep} e d => by
      rcases hO b with q | ⟨e', _⟩ | ⟨ps, hp, _⟩
      · exact q
      · subst e'
        rw [ha] at e; cases e
        have d' : Data.seq vs.toArray _ = Data.dict es ep := d
        cases d'
      · obtain ⟨⟨c, _, ht⟩, _⟩ := hTB _ hp
        rw [ht] at e; cases e
        have d' : Data.fields #[] = Data.dict es ep := d
        cases d'
    have nsK : ∀ {b : Addr} {m : Str → Option Value}, s₁.heap.Ns b m → (hidT s₁.heap H).Ns b m := fun {b m} ⟨o, es, ep, e, d, r⟩ => ⟨o, es, ep, base_of e (noA e d), d, r⟩
    have hKb : K.In (hidT s₁.heap H) := fun b o e => base_of (KX b o e) (by
      rcases hO b with q | ⟨e', o', xs, q⟩ | ⟨ps, hp, _⟩
      · exact q
      · subst e'
        rw [hK (by rw [q]; simp)] at e; cases e
      · rw [hKT _ hp] at e; cases e)
    have hM : Mod K mg (hidT s₁.heap H) := ⟨hKb, nsK hns, ⟨mb, nsK hb, hbb⟩, let ⟨mc, h1, h2⟩ := hlim; ⟨mc, nsK h1, h2⟩⟩
    have e0 : Env0 P w K mg (hidT s₁.heap H) callerA [] s₁ H := ⟨rfl, hM, fun b o e => of_hidT e, Nat.le_of_eq (hidT_size _ _), trivial, fun b hb => absurd (show b ∈ ([] : List Addr) from hb) (by simp), hok, .of_eq hg⟩
    have hBm : BmK (hidT s₁.heap H) mg := by
      obtain ⟨bm, ob, h1, h2, h3, h4, h5, h6⟩ := hbm.ex
      refine ⟨bm, ob, h1, h2, base_of h3 ?_, h4, h5, h6⟩
      rcases hO bm with q | ⟨e', _⟩ | ⟨ps, hp, _⟩
      · exact q
      · subst e'
        rw [ha] at h3; cases h3
        cases h6
      · obtain ⟨⟨c, _, ht⟩, _⟩ := hTB _ hp
        rw [ht] at h3; cases h3
        cases h6
    refine codeAny_mono ((F _ hKb (nsK hns) hBm).run callerA [] s₁ H ⟨[.ref a], []⟩ [.ref a] [.ref a] _ _ hr e0 (hbind s₁ (.ref a)) (.cons rfl .nil) (hsp H hT hS)) fun r s' h => ?_
    cases r with
    | error e => exact (hCX H e s' h).elim
    | ok fl =>
      cases fl with
      | next => exact False.elim h
      | brk => exact False.elim h
      | cont => exact False.elim h
      | ret u =>
        obtain ⟨v, H', os, bare, un, hok', r', q⟩ := h
        have q' : v = .bl true ∧ TbH TB H' := q
        obtain ⟨q1, q2⟩ := q'
        subst q1
        obtain rfl : u = Value.bool true := r'
        refine ⟨rfl, ⟨fun b o e => ?_, fun b o e => ?_⟩, os, bare⟩
        · rcases hO b with z | ⟨_, ob, xs, z⟩ | ⟨ps, hp, z⟩
          · exact .inl (un.keep b o e z (by intro z; exact absurd (show b ∈ ([] : List Addr) from z) (by simp)) (by simp))
          · have z2 := un.frzs b ob _ z
            obtain ⟨e1, _⟩ := hok b _ z
            obtain ⟨e2, _⟩ := hok' b _ z2
            rw [e] at e1; cases e1
            exact .inl e2
          · obtain ⟨⟨c, ht⟩, htr⟩ := hTB _ hp
            have e3 : o = { cls := .none, data := .fields #[] } := Option.some.inj (e.symm.trans ht.2)
            subst e3
            obtain ⟨more, e4⟩ := htr.at (hok' b _ (q2 _ hp))
            exact .inr (.inl ⟨ht.isCodeTable, rfl, #[], more, rfl, e4⟩)
        · exact un.there b o e (by simp)
  have tbok : ∀ (H : Hp) (b : Addr) (ps : HO), (b, ps) ∈ TB → ObjOk P w H s₁.heap b ps := fun H b ps hp => by
    obtain ⟨⟨c, ht⟩, htr⟩ := hTB _ hp
    exact htr.ok ht.2
  have aT : ∀ ps, (a, ps) ∉ TB := fun ps hp => by
    obtain ⟨⟨c, _, ht⟩, _⟩ := hTB _ hp
    rw [ha] at ht
    have := Option.some.inj ht
    injection this with h1
    cases h1
  have aTn : TB.lookup a = none := by
    cases e : TB.lookup a with
    | none => rfl
    | some ps => exact absurd (mem_lookupT e) (aT ps)
  cases hk : K.lookup a with
  | some o =>
    have e := KX a o hk
    rw [ha] at e
    cases e
    refine core (fun b => TB.lookup b) (fun b => ?_) (fun p hp => ?_) (.inr ⟨_, vs.toArray, _, hk, rfl, rfl, rfl, by rw [List.size_toArray, lenV]; exact hl, by simpa using rv⟩) (fun b u z => ?_) fun z => ?_
    · cases e : TB.lookup b with
      | none => exact .inl (by simp [e])
      | some ps => exact .inr (.inr ⟨ps, mem_lookupT e, by simp [e]⟩)
    · simp [lookup_mem hnd hp]
    · exact tbok _ b u (mem_lookupT z)
    · simp [aTn] at z
  | none =>
    refine core (fun b => if b = a then some (.frz { cls := .type "list", data := .seq vs.toArray } (.lst (ns.map V.int))) else TB.lookup b) (fun b => ?_) (fun p hp => ?_) (.inl (.inr ⟨{ cls := .type "list", data := .seq vs.toArray }, if_pos rfl⟩)) (fun b u z => ?_) fun _ => hk
    · by_cases hb : b = a
      · exact .inr (.inl ⟨hb, _, _, if_pos hb⟩)
      · cases e : TB.lookup b with
        | none => exact .inl (by simp [hb, e])
        | some ps => exact .inr (.inr ⟨ps, mem_lookupT e, by simp [hb, e]⟩)
    · have hb : p.1 ≠ a := fun z => aT p.2 (by rw [← z]; exact hp)
      simp [lookup_mem hnd hp, hb]
    · by_cases hb : b = a
      · have z' := (if_pos hb).symm.trans z
        cases z'
        subst hb
        exact ⟨ha, by rw [List.length_map]; exact hl, vs, _, rv, ha⟩
      · have z' := (if_neg hb).symm.trans z
        exact tbok _ b u (mem_lookupT z')

theorem tab_of {p : Program} {loose : List Str} {mean : ExcName → Option Value} {mg mb : Str → Option Value} {h : Heap} (T : Top p loose mean mg mb h) {K : PySem.W.Frag} (X : K.In h) {name : Str} (hd : ((recsOf p).any fun d => d.name == name) = true) {f c P : Addr} {oc : Value} {od oe : Option Addr} {sl sk : Array (Option Value)} {fd : FuncData} {cc : Value} {vs : Array Value}
    (hm : mg name = some (.ref f)) (lf : K.lookup f = some ⟨oc, od, .func fd, sl⟩) (hc : fd.code = .ref c) (lc : K.lookup c = some ⟨cc, oe, .fields vs, sk⟩) (e11 : vs[11]? = some (.ref P)) : h.TableAt c P #[] := by
  obtain ⟨d, hd, hn⟩ := List.any_eq_true.mp hd
  have hn : d.name = name := beq_iff_eq.mp hn
  obtain ⟨a, o, fd', c', P', h1, h2, h3, h4, h5, h6⟩ := T.tab d hd
  rw [hn, hm] at h1; cases h1
  rw [X _ _ lf] at h2; cases h2
  cases h3
  rw [hc] at h4; cases h4
  obtain ⟨⟨o2, vs2, g1, g2, g3, g4⟩, g5⟩ := h6
  have q := X _ _ lc
  rw [g1] at q; cases q
  cases g3
  rw [e11] at g4; cases g4
  exact ⟨⟨_, _, g1, g2, rfl, e11⟩, g5⟩
theorem walk_ofT {l : PySem.W.OpenLaw} {n k : Nat} {q : Program} {loose : List Str} {XP : (Str → Option Value) → Heap → Prop} {YP : World → Heap → Prop} {d : DefRec} {K : Params → PySem.W.Frag} {sp : PySem.W.Frag → List (Addr × HO) → Sp} {x : Str}
    (hn : l.most = some n) (hn2 : n ≤ sizeLine) (hdf : d.params.defaults = []) (hr : Room k callerA)
    (hY : ∀ (w : World) (h : Heap), YP w h → (K w.params).In h)
    (F : ∀ (w : World) (mg mb : Str → Option Value) (fa : Addr) (h : Heap) (mean : ExcName → Option Value), (K w.params).In h → Top q (PySem.W.looseW q loose) mean mg mb h → mg d.name = some (.ref fa) →
      ∃ (K' : PySem.W.Frag) (TB : List (Addr × HO)) (fd : FuncData), (∀ a o, K'.lookup a = some o → (K w.params).lookup a = some o) ∧ (TB.map (·.1)).Nodup ∧ (∀ p ∈ TB, K'.lookup p.1 = none) ∧ (∀ p ∈ TB, (∃ c, h.TableAt c p.1 #[]) ∧ TabLike p.1 p.2) ∧
        (∀ (s : Shared) (u : Value), BindsTo s fd ⟨[u], []⟩ [(x, u)]) ∧ ∀ base : Heap, K'.In base → base.Ns mainGlobals mg → BmK base mg → FnOk l.prog w K' mg base CX0 k fa fd [x] (sp K' TB))
    (hsp : ∀ (K : PySem.W.Frag) (TB : List (Addr × HO)) (H : Hp) (a : Addr) (ns : List Int), ns.length ≤ n → TbH TB H → SqL K H a (ns.map V.int) → sp K TB [.ref a] H (fun v H' => v = .bl true ∧ TbH TB H') fun _ _ _ => False) :
    PySem.W.WalkO q loose XP YP l.row.toRowW d [] (fun f vs => PySem.call f vs) := by
  refine Att.attach_call hn hdf fun w s₀ s₁ mg mb fa o pm cd doc a vs ns G Y ho hd hcd hmg hobj hints hlen hg => ?_
  have KX := hY w _ Y
  obtain ⟨K', TB, fd, h1, h2, h3, h4, hb, hF⟩ := F w mg mb fa _ _ KX G.T hmg
  exact law_callT (fun a o e => KX a o (h1 a o e)) h2 h3 h4 G.T.g G.T.b G.T.builtins G.T.nolimit hg hobj hints (Nat.le_trans hlen hn2) hr (let ⟨bm, ob, z⟩ := G.T.bmain; ⟨bm, ob, z⟩) hF hb (fun H hT hS => hsp K' TB H a ns hlen hT hS) fun H e s' z => z
end L2

namespace L2
open PySem PySem.Spec PyProof.Rows

structure FunC (K : PySem.W.Frag) (x qual : Str) (st : Stmt) (f : Addr) (fd : FuncData) (c : Addr) : Prop where
  ex : ∃ (oc : Value) (od : Option Addr) (kV doc pm : Value) (an : Option Addr) (ct : Value) (osl : Array (Option Value)),
    fd = PySem.W.fnOf x qual (defArgs st) (defBody st) (defScope st) .none kV doc pm an (.ref c) ct ∧ K.lookup f = some ⟨oc, od, .func fd, osl⟩ ∧ PySem.W.codeIn K (.ref c) qual = true
  kp : PySem.W.keepIn K (.ref f) = true
section
variable {P : Program} {w : World} {K : PySem.W.Frag} {mg : Str → Option Value} {base : Heap}
theorem FunC.ok {x qual : Str} {st : Stmt} {f c : Addr} {fd : FuncData} {N ps : List Str} {k : Nat} {sp : Sp} (F : FunC K x qual st f fd c) (S : FnScope N ps (defScope st)) (len : ∀ vs H Q E, sp vs H Q E → vs.length = ps.length)
    (hbody : ∀ (A : Around) (outer : List Env) (s : Shared) (H : Hp) (vs : List V) (Q : VK) (E : XK), Room k (A.deeper (envOfC qual (defScope st) s.heap.objs.size f (.ref c))) → sp vs H Q E →
      ∃ t, PSs (cxOf CX0 P w K mg base N qual (defScope st) f (.ref c) A outer s H E).nox (defBody st) t ∧ t { nx := fun _ H' => Q .non H', rt := Q } (start N vs) H) : FnOk P w K mg base CX0 (k + 1) f fd ps sp := by
  obtain ⟨oc, od, kV, doc, pm, an, ct, osl, rfl, lk, hcd⟩ := F.ex
  refine fn_of lk hcd S len fun A outer s H vs Q E hr hsp => ?_
  obtain ⟨t, h, q⟩ := hbody A outer s H vs Q E hr hsp
  exact ⟨t, h.nox, q⟩
theorem FunC.binds {x qual : Str} {st : Stmt} {f c : Addr} {fd : FuncData} {ps : List Str} (F : FunC K x qual st f fd c)
    (h : ∀ (kV doc pm : Value) (an : Option Addr) (cdv ct : Value) (us : List Value), us.length = ps.length → bindArgs (PySem.W.fnOf x qual (defArgs st) (defBody st) (defScope st) .none kV doc pm an cdv ct) ⟨us, []⟩ = pure (ps.zip us)) : Binds K fd ps [] := by
  obtain ⟨oc, od, kV, doc, pm, an, ct, osl, rfl, lk, hcd⟩ := F.ex
  exact .all (h kV doc pm an (.ref c) ct)
end
def cutK (K : PySem.W.Frag) (S : List Addr) : PySem.W.Frag := K.filter fun p => !S.contains p.1
theorem cutK_get {S : List Addr} {a : Addr} (h : a ∉ S) : ∀ K : PySem.W.Frag, (cutK K S).lookup a = K.lookup a
  | [] => rfl
  | (b, o) :: K => by
    have ih := cutK_get h K
    unfold cutK at ih ⊢
    rw [List.filter_cons]
    cases e : S.contains b with
    | true =>
      have hb : b ∈ S := by simpa using e
      have ne : (a == b) = false := by rw [beq_eq_false_iff_ne]; rintro rfl; exact h hb
      simp only [Bool.not_true, Bool.false_eq_true, if_false, List.lookup, ne]
      exact ih
    | false =>
      simp only [Bool.not_false, if_true, List.lookup]
      split
      · rfl
      · exact ih
theorem cutK_none {S : List Addr} {a : Addr} (h : a ∈ S) : ∀ K : PySem.W.Frag, (cutK K S).lookup a = none
  | [] => rfl
  | (b, o) :: K => by
    have ih := cutK_none h K
    unfold cutK at ih ⊢
    rw [List.filter_cons]
    cases e : S.contains b with
    | true =>
      simp only [Bool.not_true, Bool.false_eq_true, if_false]
      exact ih
    | false =>
      have ne : (a == b) = false := by
        rw [beq_eq_false_iff_ne]; rintro rfl
        have : S.contains a = true := by simpa using h
        rw [e] at this; cases this
      simp only [Bool.not_false, if_true, List.lookup, ne]
      exact ih
theorem cutK_of {K : PySem.W.Frag} {S : List Addr} {a : Addr} {o : Obj} (h : (cutK K S).lookup a = some o) : K.lookup a = some o := by
  by_cases e : a ∈ S
  · rw [cutK_none e] at h; cases h
  · rw [cutK_get e] at h; exact h
theorem funC_mk {K : PySem.W.Frag} {S : List Addr} {x qual : Str} {st : Stmt} {f c : Addr} {oc : Value} {od an : Option Addr} {osl : Array (Option Value)} {kV doc pm ct : Value} (l : K.lookup f = some ⟨oc, od, .func (PySem.W.fnOf x qual (defArgs st) (defBody st) (defScope st) .none kV doc pm an (.ref c) ct), osl⟩)
    (hc : PySem.W.codeIn K (.ref c) qual = true) (h1 : f ∉ S) (h2 : c ∉ S) : FunC (cutK K S) x qual st f (PySem.W.fnOf x qual (defArgs st) (defBody st) (defScope st) .none kV doc pm an (.ref c) ct) c := by
  refine ⟨⟨oc, od, kV, doc, pm, an, ct, osl, rfl, by rw [cutK_get h1]; exact l, ?_⟩, ?_⟩
  · simp only [PySem.W.codeIn, cutK_get h2] at hc ⊢
    exact hc
  · simp only [PySem.W.keepIn, cutK_get h1, l]
theorem codeK_mk {K : PySem.W.Frag} {S : List Addr} {c P : Addr} {od : Option Addr} {vs : Array Value} {sl : Array (Option Value)} {file : Str} {tf tg tt : Tok} {flags text : Int} {inF : Bool} (l : K.lookup c = some ⟨.type "code", od, .fields vs, sl⟩) (h : c ∉ S) (ne : c ≠ P)
    (e11 : vs[11]? = some (.ref P)) (e18 : vs.getD 18 .none = .str file tf) (e7 : vs.getD 7 .none = .int flags tg) (e9 : vs.getD 9 .none = .bool inF) (e10 : vs.getD 10 .none = .int text tt) : CodeK (cutK K S) c P :=
  ⟨⟨_, vs, file, tf, flags, tg, inF, text, tt, by rw [cutK_get h]; exact l, rfl, rfl, e11, e18, e7, e9, e10⟩, ne⟩
structure Cal (P : Program) (w : World) (K : PySem.W.Frag) (mg : Str → Option Value) (base : Heap) (k : Nat) (x : Str) (ps : List Str) (sp : Sp) : Prop where
  ex : ∃ (f : Addr) (fd : FuncData), FnOk P w K mg base CX0 k f fd ps sp ∧ mg x = some (.ref f) ∧ PySem.W.keepIn K (.ref f) = true ∧ Binds K fd ps []
theorem Cal.mono {P : Program} {w : World} {K : PySem.W.Frag} {mg : Str → Option Value} {base : Heap} {j k : Nat} {x : Str} {ps : List Str} {sp : Sp} (C : Cal P w K mg base j x ps sp) (h : j ≤ k) : Cal P w K mg base k x ps sp :=
  let ⟨f, fd, a, b⟩ := C.ex; ⟨f, fd, a.mono h, b⟩
section
variable {X : Cx} {x : Str} {p pos : Pos} {e : Expr} {es : List Expr} {t : TA} {k : Nat} {ps : List Str} {sp : Sp}
theorem pe_cal (C : Cal X.prog X.w X.K X.mg X.base k x ps sp) (hr : Room k X.A) (ha : PA X (e :: es) t) (hg : Gl X x := by rfl) (hdb : (x == ("__debug__" : Str)) = false := by decide)
    (he : starEach (e :: es) X.env = (false, eval e X.env) :: starEach es X.env := by rfl) (hpl : (backTo pos (starEach es X.env)).any (·.1) = false := by rfl) :
    PE X (.Call (.Name x p) (e :: es) [] pos) (tCall sp [] E0 t) := by
  obtain ⟨f, fd, a, b, c, d⟩ := C.ex
  exact pe_call a hr hg b c d .nil pass0 ha hdb he hpl
end

mutual
theorem Dp.nodict {K : PySem.W.Frag} {H : Hp} : ∀ (d : PyData) (v : V), Dp K H v d → d.hasDict = false
  | .none, _, _ => by simp only [PyData.hasDict]
  | .bool _, _, _ => by simp only [PyData.hasDict]
  | .int _, _, _ => by simp only [PyData.hasDict]
  | .str _, _, _ => by simp only [PyData.hasDict]
  | .list ds, _, h => by
    simp only [PyData.hasDict]
    cases h with
    | lst _ ha => exact Dp.nodictAll ds _ ha
  | .tuple ds, _, h => by
    simp only [PyData.hasDict]
    cases h with
    | tup _ ha => exact Dp.nodictAll ds _ ha
  | .dict _, _, h => by cases h
theorem Dp.nodictAll {K : PySem.W.Frag} {H : Hp} : ∀ (ds : List PyData) (vs : List V), DpAll K H vs ds → PyData.hasDictAll ds = false
  | [], _, _ => by simp only [PyData.hasDictAll]
  | d :: ds, _, h => by
    cases h with
    | cons h1 h2 => simp only [PyData.hasDictAll, Dp.nodict d _ h1, Dp.nodictAll ds _ h2, Bool.or_self]
end
section
variable {X : Cx}
@[irreducible] def rRepr (K : PySem.W.Frag) : List V → Hp → VK → Prop := fun vs H Q => ∃ v d, vs = [v] ∧ Dp K H v d ∧ d.showable = true ∧ d.depth ≤ 100 ∧ d.shown.length ≤ sizeLine ∧ Q (.str d.shown) H
theorem cr_repr {k : Nat} (hr : Room k X.A) : CallR X (.builtin "repr") (rRepr X.K) := by
  intro pins s σ H vs us Q I r h
  unfold rRepr at h
  obtain ⟨v, d, rfl, hd, hs, hz, hl, q⟩ := h
  obtain ⟨u, rfl, ru⟩ := vals1 r
  obtain ⟨as, rd⟩ := Dp.reads I d v u hd ru
  have nd := Dp.nodict d v hd
  have hu := hr.un
  have fin : ∀ h' u' tk, (∀ b o, s.heap.get? b = some o → h'.get? b = some o) → EP X pins σ Q (.str d.shown u') { s with heap := h', toks := tk } := fun h' u' tk hk => ⟨.str _, H, I.kept hk, ⟨_, rfl⟩, q⟩
  have fin1 : EP X pins σ Q (.str d.shown s.toks) { s with toks := s.toks + 1 } := fin s.heap s.toks (s.toks + 1) fun _ _ e => e
  cases hd with
  | non => cases ru; exact PySem.P.repr_of_none fin1
  | bl b => cases ru; exact PySem.P.repr_of_bool fin1
  | int i =>
    obtain ⟨t, rfl⟩ := ru
    exact PySem.P.repr_of_int (by simpa [PyData.showable] using hs) fin1
  | str x =>
    obtain ⟨t, rfl⟩ := ru
    exact PySem.P.repr_of_str fin1 hl
  | lst h1 h2 =>
    cases ru
    exact repr_of_reads' rd hs (PyData.noDict_hsm nd) hr.gd (by omega) (fun _ _ e => e) fin hl
  | tup h1 h2 =>
    cases ru
    exact repr_of_reads' rd hs (PyData.noDict_hsm nd) hr.gd (by omega) (fun _ _ e => e) fin hl
end

section
variable {prog : Program} {w : World} {A : Around} {E : Value → Shared → Prop} {s : Shared}
theorem draw_list {it t : Addr} {items : Array Value} (hne : t ≠ it) : ∀ (n i : Nat) (s : Shared) (Q : List Value → Shared → Prop), s.heap.IsListIter it t i → s.heap.IsList t items → i + n ≤ items.size →
    (∀ h', h'.IsListIter it t (i + n) → Heap.SameBut it s.heap h' → Q ((items.toList.drop i).take n) { s with heap := h' }) → wpAny (model prog w) A (draw (.ref it) n) Q E s
  | 0, i, s, Q, hit, _, _, hQ => by
    show wpAny _ _ (pure []) Q E s
    exact wpAny_pure (by simpa using hQ s.heap hit (Heap.SameBut.refl ..))
  | n + 1, i, s, Q, hit, ht, hle, hQ => by
    have hlt : i < items.size := by omega
    show wpAny _ _ (pyNext (.ref it) >>= _) Q E s
    refine wpAny_bind (wpAny_pyNext_list_item hit ht (x := items[i]) (by simp [hlt]) fun h₁ hit₁ hs₁ => ?_)
    refine wpAny_bind (wpAny_holding (draw_list hne n (i + 1) _ _ hit₁ (ht.extBut hs₁.extBut hne) (by omega) fun h₂ hit₂ hs₂ => wpAny_pure ?_))
    have hd : items.toList.drop i = items[i] :: items.toList.drop (i + 1) := by simp [List.drop_eq_getElem_cons, hlt]
    have := hQ h₂ (by rw [show i + (n + 1) = i + 1 + n by omega]; exact hit₂) (hs₁.trans hs₂)
    rw [hd, List.take_succ_cons] at this
    exact this
theorem unpackItems_list {t : Addr} {items : Array Value} {Q : List Value → Shared → Prop} (hh : A.handled = none) (ht : s.heap.IsList t items)
    (hQ : ∀ h', Heap.ExtBut s.heap.objs.size s.heap h' → Q items.toList { s with heap := h' }) : wpAny (model prog w) A (unpackItems (.ref t) items.size none) Q E s := by
  have hlt : t ≠ s.heap.objs.size := by obtain ⟨o, ho, _⟩ := ht; exact Nat.ne_of_lt (Heap.lt_size ho)
  unfold unpackItems
  refine wpAny_bind ?_
  · unfold notIterableAtAll
    refine wpAny_bind (wpAny_specialOf ht.typeIs slot_list_iter.lookup ?_)
    refine wpAny_pure ?_
    simp only [Bool.false_eq_true, if_false]
    refine wpAny_bind (wpAny_holding (wpAny_pyIter_list ht ?_))
    refine wpAny_bind (wpAny_holding (draw_list hlt items.size 0 _ _ ⟨_, Heap.get?_push_size _ rfl, rfl, rfl⟩ (ht.push _) (by omega) fun h₁ hit₁ hs₁ => ?_))
    have hall : List.take items.size (List.drop 0 items.toList) = items.toList := by
      rw [List.drop_zero]; exact List.take_of_length_le (by simp)
    rw [hall]
    rw [if_neg (by simp)]
    have ht₁ : h₁.IsList t items := (ht.push _).extBut hs₁.extBut hlt
    refine wpAny_bind (wpAny_holding (wpAny_pyNext_list_end hh hit₁ ht₁ (by simp) fun h₂ he₂ => ?_))
    simp only [Option.isSome_none, Bool.false_eq_true, if_false]
    refine wpAny_pure (hQ h₂ fun b o hb e => he₂ b o hb (hs₁.extBut b o hb (Heap.get?_push_of_some _ e)))
end
section
variable {X : Cx} {pos : Pos}
def gTupL (K : PySem.W.Frag) (n : Nat) (t : TGs) : TG := fun v σ H Q => ∃ a xs, v = .ref a ∧ SqL K H a xs ∧ xs.length = n ∧ t xs σ H Q
theorem pg_tupL {es : List Expr} {k : Nat} {t : TGs} {n : Nat} (hc : X.calm = true) (h : PGs X es t)
    (hn : (assignEach es X.env).length = n := by rfl) (hst : (assignEach es X.env).findIdx? (·.1) = none := by rfl) : PG X (.Tuple es k pos) (gTupL X.K n t) := by
  intro pins s σ H v u Q I r hw
  obtain ⟨a, xs, e1, hq, hl, hw⟩ := hw
  subst e1
  cases r
  obtain ⟨its, rv, ht, hz⟩ := I.list hq
  rw [assign_Tuple]
  refine wpAny_bind (wpAny_standAt ?_)
  unfold unpack
  have hsz : (assignEach es X.env).length = its.toArray.size := by simp [hn, ← hl, rv.length]
  rw [hsz, hst]
  refine wpAny_bind (wpAny_holding (unpackItems_list (I.ok.hd hc) ht.isList fun h' hx => ?_))
  have I1 : Inv X pins σ H { s with heap := h' } := I.kept (t' := s.toks) fun b o e => hx b o (Nat.ne_of_lt (Heap.lt_size e)) e
  exact h pins _ σ H xs _ Q I1 (by simpa using rv) hw
end
end L2

namespace L2
open PySem PySem.Spec PyProof.Rows
section
variable {X : Cx} {K : PySem.W.Frag}
theorem ix_listK (e : X.K = K) : IxR X (rIxL K) := e ▸ ix_list
theorem ix_tupK (e : X.K = K) : IxR X (rIxT K) := e ▸ ix_tup
theorem call_lenK (e : X.K = K) : CallR X (.builtin "len") (fun xs H Q => ∃ x n, xs = [x] ∧ LenV K x H n ∧ Q (.int n) H) := e ▸ call_len
theorem sl_listK (e : X.K = K) : SlR X (rSlL K) := e ▸ sl_list
theorem op_neDK {k : Nat} (e : X.K = K) (hr : Room k X.A) : OpR X (compareOp .NotEq) (rNeD K) := e ▸ op_neD hr.units
theorem cr_reprK {k : Nat} (e : X.K = K) (hr : Room k X.A) : CallR X (.builtin "repr") (rRepr K) := e ▸ cr_repr hr
theorem call_list_ofK (e : X.K = K) : CallR X (.type "list") (fun xs H Q => ∃ p ys, xs = [.ref p] ∧ (SqL K H p ys ∨ SqT K H p ys) ∧ ∀ l, H l = none → Q (.ref l) (upd H l (.lst ys))) := e ▸ call_list_of
theorem call_tuple_ofK (e : X.K = K) : CallR X (.type "tuple") (fun xs H Q => ∃ p ys, xs = [.ref p] ∧ ((SqL K H p ys ∧ ∀ l, H l = none → Q (.ref l) (upd H l (.tup ys))) ∨ (SqT K H p ys ∧ Q (.ref p) H))) := e ▸ call_tuple_of
theorem pi_listK {tg l : Expr} {tl : TE} (e : X.K = K) (hl : PE X l tl) : PI X tg l (iList K tl) := e ▸ pi_list hl
theorem pi_tupK {tg l : Expr} {tl : TE} (e : X.K = K) (hl : PE X l tl) : PI X tg l (iTup K tl) := e ▸ pi_tup hl
theorem pg_tupLK {pos : Pos} {es : List Expr} {k : Nat} {t : TGs} {n : Nat} (e : X.K = K) (hc : X.calm = true) (h : PGs X es t)
    (hn : (assignEach es X.env).length = n := by rfl) (hst : (assignEach es X.env).findIdx? (·.1) = none := by rfl) : PG X (.Tuple es k pos) (gTupL K n t) := e ▸ pg_tupL hc h hn hst
end
end L2
namespace L2
open PySem PySem.Spec PyProof.Rows
theorem pe_globF {X : Cx} {x : Str} {f : Addr} {pos : Pos} (hm : X.mg x = some (.ref f)) (hg : Gl X x := by rfl) (hd : (x == ("__debug__" : Str)) = false := by decide) : PE X (.Name x pos) (tC (.ref f)) := pe_glob hg hm rfl hd
def SameX (p : Addr) (H H' : Hp) : Prop := ∀ b o, b ≠ p → H b = some o → H' b = some o
theorem SameX.refl (p : Addr) (H : Hp) : SameX p H H := fun _ _ _ h => h
theorem SameX.trans {p : Addr} {H H1 H2 : Hp} (a : SameX p H H1) (b : SameX p H1 H2) : SameX p H H2 := fun c o n h => b c o n (a c o n h)
theorem SameX.upd {p : Addr} {H : Hp} {o : HO} : SameX p H (upd H p o) := fun b u n h => by rw [upd_ne n]; exact h
theorem SameX.of {p : Addr} {H H' : Hp} (h : Same H H') : SameX p H H' := fun b o _ e => h b o e
theorem Same.upd {p : Addr} {H : Hp} {o : HO} (n : H p = none) : Same H (L2.upd H p o) := fun b u h => by rw [upd_ne (ne_of_none h n)]; exact h
theorem Same.sqT {K : PySem.W.Frag} {H H' : Hp} {a : Addr} {xs : List V} (e : Same H H') (h : SqT K H a xs) : SqT K H' a xs := by
  rcases h with (h | ⟨o, h⟩) | h
  · exact .inl (.inl (e _ _ h))
  · exact .inl (.inr ⟨o, e _ _ h⟩)
  · exact .inr h
theorem Same.tbH {TB : List (Addr × HO)} {H H' : Hp} (e : Same H H') (h : TbH TB H) : TbH TB H' := fun p hp => e _ _ (h p hp)
theorem SqL.keep {K : PySem.W.Frag} {H H' : Hp} {p a : Addr} {xs ys : List V} (h : SqL K H a xs) (hp : H p = some (.lst ys)) (ne : xs ≠ ys) (s : SameX p H H') : SqL K H' a xs := by
  rcases h with (h | ⟨o, h⟩) | h
  · exact .inl (.inl (s _ _ (ne_of h hp (fun e => ne (by injection e))) h))
  · exact .inl (.inr ⟨o, s _ _ (ne_of h hp (by intro e; cases e)) h⟩)
  · exact .inr h
structure Pen (K : PySem.W.Frag) (H : Hp) (p : Addr) (a : Addr) (ns : List Int) (x y : Int) : Prop where
  at_ : H p = some (.lst [.ref a, .int x, .int y])
  sc : SqL K H a (ns.map V.int)
  len : ns.length ≤ 63
  x0 : 0 ≤ x
  y0 : 0 ≤ y
theorem Pen.set {K : PySem.W.Frag} {H : Hp} {p a : Addr} {ns : List Int} {x y x' y' : Int} (P : Pen K H p a ns x y) (hx : 0 ≤ x') (hy : 0 ≤ y') : Pen K (upd H p (.lst [.ref a, .int x', .int y'])) p a ns x' y' :=
  ⟨upd_same, P.sc.keep P.at_ (by intro e; cases ns <;> cases e) SameX.upd, P.len, hx, hy⟩
theorem Pen.same {K : PySem.W.Frag} {H H' : Hp} {p a : Addr} {ns : List Int} {x y : Int} (P : Pen K H p a ns x y) (s : Same H H') : Pen K H' p a ns x y :=
  ⟨s _ _ P.at_, s.seq P.sc, P.len, P.x0, P.y0⟩
theorem Pen.move {K : PySem.W.Frag} {H H' : Hp} {p a : Addr} {ns : List Int} {x y x' y' : Int} (P : Pen K H p a ns x y) (s : SameX p H H') (e : H' p = some (.lst [.ref a, .int x', .int y'])) (hx : 0 ≤ x') (hy : 0 ≤ y') : Pen K H' p a ns x' y' :=
  ⟨e, P.sc.keep P.at_ (by intro e; cases ns <;> cases e) s, P.len, hx, hy⟩
def spDrawTo (K : PySem.W.Frag) (C : Int → Prop) : Sp := fun vs H Q _ => ∃ (p a : Addr) (ns : List Int) (x y m : Int), vs = [.ref p, .int m] ∧ Pen K H p a ns x y ∧ 1 ≤ m ∧ C m ∧
  ∀ (r x' y' : Int) (H' : Hp), 0 ≤ r → r < m → SameX p H H' → Pen K H' p a ns x' y' → Q (.int r) H'
abbrev spDraw (K : PySem.W.Frag) : Sp := spDrawTo K fun m => m < 1000000000
end L2

namespace L2
open PySem PySem.Spec PyProof.Rows
theorem SameX.free {p D : Addr} {H H' : Hp} (s : SameX p H H') (h : H' D = none) (ne : D ≠ p) : H D = none := by
  cases e : H D with
  | none => rfl
  | some o => rw [s D o ne e] at h; cases h
theorem SameX.updF {p D : Addr} {H H' : Hp} {o : HO} (s : SameX p H H') (h : H D = none) : SameX p H (L2.upd H' D o) := fun b u n e => by
  rw [upd_ne (ne_of_none e h)]; exact s b u n e
theorem Same.updF {D : Addr} {H H' : Hp} {o : HO} (s : Same H H') (h : H D = none) : Same H (L2.upd H' D o) := fun b u e => by
  rw [upd_ne (ne_of_none e h)]; exact s b u e
theorem Pen.up {K : PySem.W.Frag} {H H2 : Hp} {p a D : Addr} {ns : List Int} {x y x2 y2 : Int} {o : HO} (P : Pen K H p a ns x y) (s : SameX p H H2) (P2 : Pen K H2 p a ns x2 y2) (hD : H D = none) (ne : D ≠ p) : Pen K (L2.upd H2 D o) p a ns x2 y2 :=
  P.move (s.updF hD) (by rw [upd_ne ne.symm]; exact P2.at_) P2.x0 P2.y0

theorem yes {σ : St} {H : Hp} {A B : Hp → Prop} (h : A H) : tYes σ H (fun b H3 => if b = true then A H3 else B H3) := by
  unfold tYes
  exact iteT h
section
variable {α : Type} {g : TG} {tt : TT} {te : TE} {vs : List Nat} {σ : St} {Stp : α → Hp → Prop} {Ste : α → V → Hp → (α → Hp → Prop) → Prop}
theorem gen_list {K : PySem.W.Frag} {a : Addr} {xs : List V} (Pv : Nat → α → Hp → Prop) (hl : ∀ i acc H, i ≤ xs.length → Pv i acc H → SqL K H a xs)
    (hs : ∀ i x acc H, xs[i]? = some x → Pv i acc H → g x (wipe σ vs) H fun σ2 H2 => wipe σ2 vs = wipe σ vs ∧ tt σ2 H2 fun b H3 => if b = true then te σ2 H3 fun y H4 => Ste acc y H4 (Pv (i + 1)) else Pv (i + 1) acc H3)
    (hd : ∀ acc H, Pv xs.length acc H → Stp acc H) {a0 : α} {H1 : Hp} (h0 : Pv 0 a0 H1) : ∃ m, gGen (Itl K a) g tt te vs σ Stp Ste m a0 0 H1 := by
  have key : ∀ (k i : Nat) (acc : α) (H : Hp), i + k = xs.length → Pv i acc H → gGen (Itl K a) g tt te vs σ Stp Ste (k + 1) acc i H := by
    intro k
    induction k with
    | zero =>
      intro i acc H e p
      have e : i = xs.length := by omega
      subst e
      rw [gGen]
      exact .inl ⟨⟨xs, hl _ acc H (Nat.le_refl _) p, Nat.le_refl _⟩, hd acc H p⟩
    | succ k ih =>
      intro i acc H e p
      rw [gGen]
      have q := hl i acc H (by omega) p
      have hlt : i < xs.length := by omega
      refine .inr ⟨⟨xs, xs[i], q, by simp [hlt]⟩, Pv (i + 1), fun acc' H' p' => ih (i + 1) acc' H' (by omega) p', fun x H' y => ?_⟩
      obtain ⟨e1, y⟩ := y
      subst e1
      exact hs i x acc _ (y xs q) p
  exact ⟨xs.length + 1, key xs.length 0 a0 H1 (by omega) h0⟩
end
theorem listText_len : ∀ ts : List Str, (listText ts).length ≤ piled ts + 2
  | [] => by decide +kernel
  | t :: r => by
    have h := textFrom_length_pos r 1 (("[" : Str) ++ (if (0 : Nat) > 0 then ", " else "" : String) ++ t) (Nat.succ_pos 0)
    have e : ((("[" : Str) ++ (if (0 : Nat) > 0 then ", " else "" : String) ++ t)).length = 1 + t.length := by
      rw [strLen_append, strLen_append]; rfl
    have hX : (listText (t :: r)).length = (textFrom 0 "[" (t :: r)).length + 1 := by
      show (textFrom 0 "[" (t :: r) ++ "]").length = _
      rw [strLen_append]; rfl
    have hY : (textFrom 0 "[" (t :: r)).length = (textFrom 1 (("[" : Str) ++ (if (0 : Nat) > 0 then ", " else "" : String) ++ t) r).length := rfl
    rw [hX, hY, h, e, piled_cons]; omega
theorem DpAll_ints {K : PySem.W.Frag} {H : Hp} : ∀ ms : List Int, DpAll K H (ms.map V.int) (ms.map PyData.int)
  | [] => .nil
  | z :: ms => .cons (.int z) (DpAll_ints ms)
theorem depthAll_ints : ∀ ms : List Int, PyData.depthAll (ms.map PyData.int) ≤ 1
  | [] => by simp [PyData.depthAll]
  | z :: ms => by
    have := depthAll_ints ms
    simp only [List.map_cons, PyData.depthAll, PyData.depth]
    omega
end L2

namespace L2
open PySem
set_option maxRecDepth 20000

def five : Nat → Nat → Nat
  | 0, x => x
  | r + 1, x => five r (5 * x + 1)

theorem five_add : ∀ (r q x : Nat), five (r + q) x = five q (five r x)
  | 0, q, x => by rw [Nat.zero_add]; rfl
  | r + 1, q, x => by rw [show r + 1 + q = (r + q) + 1 by omega]; exact five_add r q (5 * x + 1)

theorem five_pow : ∀ k : Nat, ∃ o : Nat, o % 2 = 1 ∧ ∀ x, five (2 ^ k) x = x + 2 ^ k * (o * (4 * x + 1))
  | 0 => ⟨1, rfl, fun x => by show 5 * x + 1 = _; omega⟩
  | k + 1 => by
    obtain ⟨o, ho, h⟩ := five_pow k
    refine ⟨o * (1 + 2 * (2 ^ k * o)), ?_, fun x => ?_⟩
    · rw [Nat.mul_mod, ho]
      have : (1 + 2 * (2 ^ k * o)) % 2 = 1 := by omega
      rw [this]
    · rw [Nat.pow_succ, show 2 ^ k * 2 = 2 ^ k + 2 ^ k by omega, five_add, h, h]
      generalize 2 ^ k = m
      have e1 : m * (o * (4 * (x + m * (o * (4 * x + 1))) + 1)) = m * (o * (4 * x + 1)) + m * (o * (4 * (m * (o * (4 * x + 1))))) := by
        rw [show 4 * (x + m * (o * (4 * x + 1))) + 1 = (4 * x + 1) + 4 * (m * (o * (4 * x + 1))) by omega, Nat.mul_add, Nat.mul_add]
      have e2 : (m + m) * (o * (1 + 2 * (m * o)) * (4 * x + 1)) = 2 * (m * (o * (4 * x + 1))) + m * (o * (4 * (m * (o * (4 * x + 1))))) := by
        generalize 4 * x + 1 = y
        simp only [Nat.mul_add, Nat.add_mul, Nat.mul_one]
        have a : m * (o * y) = m * o * y := by rw [Nat.mul_assoc]
        have b : m * (o * (2 * (m * o)) * y) = 2 * (m * o * (m * o * y)) := by
          simp only [Nat.mul_assoc, Nat.mul_left_comm, Nat.mul_comm]
        have c : m * (o * (4 * (m * (o * y)))) = 4 * (m * o * (m * o * y)) := by
          simp only [Nat.mul_assoc, Nat.mul_left_comm, Nat.mul_comm]
        rw [b, c, a]; omega
      omega

theorem five_meets : ∀ (k x j : Nat), ∃ r, r < 2 ^ k ∧ five r x % 2 ^ k = j % 2 ^ k
  | 0, x, j => ⟨0, by decide, by rw [Nat.pow_zero, Nat.mod_one, Nat.mod_one]⟩
  | k + 1, x, j => by
    obtain ⟨r, hr, e⟩ := five_meets k x j
    obtain ⟨o, ho, h⟩ := five_pow k
    have hp : 0 < 2 ^ k := Nat.pos_of_ne_zero (by simp)
    have hM : 2 ^ (k + 1) = 2 * 2 ^ k := by rw [Nat.pow_succ]; omega
    by_cases q : five r x % 2 ^ (k + 1) = j % 2 ^ (k + 1)
    · exact ⟨r, by omega, q⟩
    · refine ⟨r + 2 ^ k, by omega, ?_⟩
      rw [five_add, h]
      generalize five r x = y at e q
      have hodd : (o * (4 * y + 1)) % 2 = 1 := by rw [Nat.mul_mod, ho, show (4 * y + 1) % 2 = 1 by omega]
      generalize o * (4 * y + 1) = u at hodd
      obtain ⟨v, rfl⟩ : ∃ v, u = 2 * v + 1 := ⟨u / 2, by omega⟩
      rw [hM] at q ⊢
      have ex : y + 2 ^ k * (2 * v + 1) = y + 2 ^ k + 2 * 2 ^ k * v := by
        rw [Nat.mul_add, Nat.mul_one, ← Nat.mul_assoc, Nat.mul_comm (2 ^ k) 2]; omega
      rw [ex, Nat.add_mul_mod_self_left]
      generalize 2 ^ k = m at hp e q
      have a1 := Nat.mod_add_div y m
      have a2 := Nat.mod_add_div j m
      have b1 : y % (2 * m) = y % m + m * (y / m % 2) := by rw [Nat.mul_comm 2 m]; exact Nat.mod_mul
      have b2 : j % (2 * m) = j % m + m * (j / m % 2) := by rw [Nat.mul_comm 2 m]; exact Nat.mod_mul
      have b3 : (y + m) % (2 * m) = (y + m) % m + m * ((y + m) / m % 2) := by rw [Nat.mul_comm 2 m]; exact Nat.mod_mul
      rw [Nat.add_mod_right, Nat.add_div_right _ hp] at b3
      rw [b1, b2, e] at q
      rw [b3, b2, e]
      rcases Nat.mod_two_eq_zero_or_one (y / m) with c | c <;> rcases Nat.mod_two_eq_zero_or_one (j / m) with d | d
      · exact absurd (by rw [c, d]) q
      · rw [d, show (y / m + 1) % 2 = 1 by omega]
      · rw [d, show (y / m + 1) % 2 = 0 by omega]
      · exact absurd (by rw [c, d]) q

def runL (mask i : Nat) : List Nat := (List.range (SetTable.runEnd mask i + 1 - i)).map (i + ·)
def runs (mask : Nat) : Nat → Nat → Nat → List Nat
  | 0, _, _ => []
  | n + 1, i, pt => runL mask i ++ runs mask n (SetTable.leap mask i pt).1 (SetTable.leap mask i pt).2

theorem runEnd_ge (mask i : Nat) : i ≤ SetTable.runEnd mask i := by unfold SetTable.runEnd; split <;> omega
theorem runEnd_le {mask i : Nat} (h : i ≤ mask) : SetTable.runEnd mask i ≤ mask := by unfold SetTable.runEnd; split <;> omega
theorem runEnd_short (mask i : Nat) : SetTable.runEnd mask i ≤ i + 9 := by unfold SetTable.runEnd; split <;> omega
theorem runL_self (mask i : Nat) : i ∈ runL mask i := List.mem_map.mpr ⟨0, List.mem_range.mpr (by have := runEnd_ge mask i; omega), Nat.add_zero i⟩
theorem runL_le {mask i x : Nat} (h : i ≤ mask) (m : x ∈ runL mask i) : x ≤ mask := by
  obtain ⟨k, hk, rfl⟩ := List.mem_map.mp m
  have := List.mem_range.mp hk
  have := runEnd_le h
  omega
theorem runL_length (mask i : Nat) : (runL mask i).length ≤ 10 := by
  unfold runL; rw [List.length_map, List.length_range]; have := runEnd_short mask i; omega
theorem leap_le (mask i pt : Nat) : (SetTable.leap mask i pt).1 ≤ mask := Nat.le_of_lt_succ (Nat.mod_lt _ (Nat.succ_pos mask))
theorem runs_le {mask x : Nat} : ∀ {n i pt : Nat}, i ≤ mask → x ∈ runs mask n i pt → x ≤ mask
  | 0, _, _, _, m => nomatch m
  | n + 1, i, pt, h, m => (List.mem_append.mp m).elim (runL_le h) (runs_le (leap_le mask i pt))
theorem runs_length (mask : Nat) : ∀ n i pt, (runs mask n i pt).length ≤ 10 * n
  | 0, _, _ => Nat.le_refl _
  | n + 1, i, pt => by
    show (runL mask i ++ runs mask n _ _).length ≤ _
    rw [List.length_append]
    have := runL_length mask i
    have := runs_length mask n (SetTable.leap mask i pt).1 (SetTable.leap mask i pt).2
    omega

theorem runs_still {mask : Nat} : ∀ (r n i : Nat), r < n → i ≤ mask → five r i % (mask + 1) ∈ runs mask n i 0
  | 0, n + 1, i, _, h => List.mem_append_left _ (by rw [show five 0 i = i from rfl, Nat.mod_eq_of_lt (by omega)]; exact runL_self mask i)
  | r + 1, n + 1, i, hr, h => by
    refine List.mem_append_right _ ?_
    have e : five (r + 1) i % (mask + 1) = five r ((5 * i + 1) % (mask + 1)) % (mask + 1) := by
      show five r (5 * i + 1) % (mask + 1) = _
      generalize 5 * i + 1 = y
      clear hr h
      induction r generalizing y with
      | zero => exact (Nat.mod_mod _ _).symm
      | succ r ih =>
        show five r (5 * y + 1) % (mask + 1) = five r (5 * (y % (mask + 1)) + 1) % (mask + 1)
        rw [ih (5 * y + 1), ih (5 * (y % (mask + 1)) + 1)]
        congr 2
        rw [Nat.add_mod, Nat.mul_mod, Nat.add_mod (5 * (y % (mask + 1))), Nat.mul_mod 5 (y % (mask + 1)), Nat.mod_mod]
    rw [e]
    have el : SetTable.leap mask i 0 = ((5 * i + 1) % (mask + 1), 0) := by
      unfold SetTable.leap; rw [Nat.zero_div, Nat.add_zero, Nat.mul_comm i 5]
    rw [el]
    exact runs_still r n _ (by omega) (Nat.le_of_lt_succ (Nat.mod_lt _ (Nat.succ_pos mask)))

theorem runs_fade {mask x : Nat} : ∀ (d n i pt : Nat), pt < 32 ^ d → i ≤ mask → (∀ i', i' ≤ mask → x ∈ runs mask n i' 0) → x ∈ runs mask (n + d) i pt
  | 0, n, i, pt, hp, hi, h => by
    have : pt = 0 := by simpa using hp
    subst this; exact h i hi
  | d + 1, n, i, pt, hp, hi, h => by
    refine List.mem_append_right _ ?_
    refine runs_fade d n _ _ ?_ (leap_le mask i pt) h
    show pt / 32 < 32 ^ d
    rw [Nat.div_lt_iff_lt_mul (by decide), ← Nat.pow_succ]; exact hp

theorem bits_lt (h : Int) : SetTable.bits h < 2 ^ 64 := by
  unfold SetTable.bits
  have a : 0 ≤ h % (2 ^ 64 : Int) := Int.emod_nonneg _ (by decide)
  have b : h % (2 ^ 64 : Int) < 2 ^ 64 := Int.emod_lt_of_pos _ (by decide)
  omega

def trail (mask : Nat) (h : Int) : List Nat := runs mask (mask + 15) (SetTable.bits h % (mask + 1)) (SetTable.bits h)

theorem trail_all {mask k : Nat} (hm : mask + 1 = 2 ^ k) (h : Int) {j : Nat} (hj : j ≤ mask) : j ∈ trail mask h := by
  unfold trail
  refine (show mask + 15 = (mask + 1 + 1) + 13 by omega) ▸ runs_fade 13 (mask + 1 + 1) _ _ (Nat.lt_of_lt_of_le (bits_lt h) (by decide)) (Nat.le_of_lt_succ (Nat.mod_lt _ (Nat.succ_pos mask))) fun i' hi' => ?_
  obtain ⟨r, hr, e⟩ := five_meets k i' j
  rw [← hm] at e hr
  rw [Nat.mod_eq_of_lt (show j < mask + 1 by omega)] at e
  rw [← e]
  exact runs_still r _ i' (by omega) hi'
theorem trail_le {mask : Nat} {h : Int} {j : Nat} (m : j ∈ trail mask h) : j ≤ mask :=
  runs_le (Nat.le_of_lt_succ (Nat.mod_lt _ (Nat.succ_pos mask))) m

theorem free_runs {mask : Nat} (owner : Array (Option Nat)) : ∀ (n i pt : Nat),
    SetTable.layClean.free mask owner n i pt = (runs mask n i pt).find? fun j => (owner.getD j (some 0)).isNone
  | 0, _, _ => rfl
  | n + 1, i, pt => by
    have e : (runL mask i).find? (fun j => (owner.getD j (some 0)).isNone)
        = ((List.range (SetTable.runEnd mask i + 1 - i)).find? fun k => (owner.getD (i + k) (some 0)).isNone).map (i + ·) := by
      unfold runL; rw [List.find?_map]; rfl
    show _ = (runL mask i ++ runs mask n _ _).find? _
    rw [List.find?_append, e]
    unfold SetTable.layClean.free
    cases hf : (List.range (SetTable.runEnd mask i + 1 - i)).find? fun k => (owner.getD (i + k) (some 0)).isNone with
    | some k => rfl
    | none => exact free_runs owner n _ _

def ahead (mask n : Nat) (p : SetTable.Probe) : List Nat := (List.range (p.more + 1)).map (p.j + ·) ++ runs mask n (SetTable.leap mask p.i p.perturb).1 (SetTable.leap mask p.i p.perturb).2

theorem ahead_in (t : SetTable) (n : Nat) (p : SetTable.Probe) (h : 0 < p.more) : ahead t.mask n p = p.j :: ahead t.mask n (t.advance p) := by
  obtain ⟨j, more, i, pt, d⟩ := p
  obtain ⟨m, rfl⟩ : ∃ m, more = m + 1 := ⟨more - 1, by simp only at h; omega⟩
  show (List.range (m + 1 + 1)).map (j + ·) ++ runs t.mask n _ _ = j :: ahead t.mask n (if m + 1 > 0 then _ else _)
  rw [if_pos (Nat.succ_pos m)]
  show _ = j :: ((List.range (m + 1)).map (j + 1 + ·) ++ runs t.mask n _ _)
  rw [List.range_succ_eq_map, List.map_cons, List.map_map, List.cons_append]
  show (j + 0) :: _ = _
  rw [Nat.add_zero]
  congr 2
  refine List.map_congr_left fun x _ => ?_
  show j + (x + 1) = j + 1 + x
  omega
theorem ahead_out (t : SetTable) (n : Nat) (p : SetTable.Probe) (h : p.more = 0) : ahead t.mask (n + 1) p = p.j :: ahead t.mask n (t.advance p) := by
  obtain ⟨j, more, i, pt, d⟩ := p
  simp only at h; subst h
  show ([j + 0] : List Nat) ++ runs t.mask (n + 1) _ _ = j :: ahead t.mask n (if 0 > 0 then _ else _)
  rw [if_neg (by decide), Nat.add_zero]
  show j :: (runL t.mask _ ++ runs t.mask n _ _) = j :: ((List.range (_ + 1)).map _ ++ runs t.mask n _ _)
  unfold runL
  have := runEnd_ge t.mask (SetTable.leap t.mask i pt).1
  rw [show SetTable.runEnd t.mask (SetTable.leap t.mask i pt).1 + 1 - (SetTable.leap t.mask i pt).1 = SetTable.runEnd t.mask (SetTable.leap t.mask i pt).1 - (SetTable.leap t.mask i pt).1 + 1 by omega]
theorem ahead_end (t : SetTable) (p : SetTable.Probe) (h : p.more = 0) : ahead t.mask 0 p = [p.j] := by
  obtain ⟨j, more, i, pt, d⟩ := p
  simp only at h; subst h
  show ([j + 0] : List Nat) ++ [] = [j]
  rw [Nat.add_zero]; rfl
theorem ahead_start (t : SetTable) (h : Int) : ahead t.mask (t.mask + 14) (t.probeStart h) = trail t.mask h := by
  show (List.range (_ + 1)).map _ ++ runs t.mask (t.mask + 14) _ _ = runL t.mask _ ++ runs t.mask (t.mask + 14) _ _
  unfold runL
  have := runEnd_ge t.mask (SetTable.bits h % (t.mask + 1))
  show (List.range (SetTable.runEnd t.mask (SetTable.bits h % (t.mask + 1)) - SetTable.bits h % (t.mask + 1) + 1)).map _ ++ _ = _
  rw [show SetTable.runEnd t.mask (SetTable.bits h % (t.mask + 1)) + 1 - SetTable.bits h % (t.mask + 1) = SetTable.runEnd t.mask (SetTable.bits h % (t.mask + 1)) - SetTable.bits h % (t.mask + 1) + 1 by omega]
  rfl
end L2

namespace L2
open PySem
set_option autoImplicit false
set_option maxRecDepth 20000

theorem rise_at {xs : Array Nat} (hs : xs.toList.Pairwise (· < ·)) {i k u v : Nat} (hi : xs[i]? = some u) (hk : xs[k]? = some v) (h : i < k) : u < v := by
  rw [← Array.getElem?_toList] at hi hk
  obtain ⟨hi', rfl⟩ := List.getElem?_eq_some_iff.mp hi
  obtain ⟨hk', rfl⟩ := List.getElem?_eq_some_iff.mp hk
  exact List.pairwise_iff_getElem.mp hs i k hi' hk' h

theorem below_go {xs : Array Nat} (hs : xs.toList.Pairwise (· < ·)) (j : Nat) : ∀ (fuel lo hi : Nat), lo ≤ hi → hi ≤ xs.size → hi - lo ≤ fuel →
    (∀ i v, xs[i]? = some v → i < lo → v < j) → (∀ i v, xs[i]? = some v → hi ≤ i → j ≤ v) →
    SetTable.below.go xs j fuel lo hi ≤ xs.size ∧ ∀ i v, xs[i]? = some v → (v < j ↔ i < SetTable.below.go xs j fuel lo hi)
  | 0, lo, hi, h1, h2, h3, ha, hb => by
    have e : lo = hi := by omega
    subst e
    refine ⟨h2, fun i v hv => ⟨fun hlt => ?_, fun hlt => ha i v hv hlt⟩⟩
    show i < lo
    by_cases q : lo ≤ i
    · have := hb i v hv q; omega
    · omega
  | fuel + 1, lo, hi, h1, h2, h3, ha, hb => by
    unfold SetTable.below.go
    by_cases c : lo < hi
    · rw [if_pos c]
      have hm : (lo + hi) / 2 < xs.size := by omega
      have em : xs[(lo + hi) / 2]? = some xs[(lo + hi) / 2] := Array.getElem?_eq_getElem hm
      have ed : xs.getD ((lo + hi) / 2) j = xs[(lo + hi) / 2] := by rw [Array.getD_eq_getD_getElem?, em]; rfl
      dsimp only
      rw [ed]
      by_cases q : xs[(lo + hi) / 2] < j
      · rw [if_pos q]
        refine below_go hs j fuel _ hi (by omega) h2 (by omega) (fun i v hv hi' => ?_) hb
        rcases Nat.lt_or_ge i ((lo + hi) / 2) with l | l
        · exact Nat.lt_trans (rise_at hs hv em l) q
        · have : i = (lo + hi) / 2 := by omega
          subst this; rw [em] at hv; cases hv; exact q
      · rw [if_neg q]
        refine below_go hs j fuel lo _ (by omega) (by omega) (by omega) ha (fun i v hv hi' => ?_)
        rcases Nat.lt_or_ge ((lo + hi) / 2) i with l | l
        · have := rise_at hs em hv l; omega
        · have : i = (lo + hi) / 2 := by omega
          subst this; rw [em] at hv; cases hv; omega
    · rw [if_neg c]
      have e : lo = hi := by omega
      subst e
      refine ⟨h2, fun i v hv => ⟨fun hlt => ?_, fun hlt => ha i v hv hlt⟩⟩
      by_cases q : lo ≤ i
      · have := hb i v hv q; omega
      · omega
theorem below_spec {xs : Array Nat} (hs : xs.toList.Pairwise (· < ·)) (j : Nat) : SetTable.below xs j ≤ xs.size ∧ ∀ i v, xs[i]? = some v → (v < j ↔ i < SetTable.below xs j) :=
  below_go hs j xs.size 0 xs.size (Nat.zero_le _) (Nat.le_refl _) (by omega) (fun _ _ _ h => absurd h (Nat.not_lt_zero _)) (fun i v hv h => by
    have := (Array.getElem?_eq_some_iff.mp hv).1; omega)
theorem below_mem {xs : Array Nat} (hs : xs.toList.Pairwise (· < ·)) (j : Nat) : xs[SetTable.below xs j]? = some j ↔ j ∈ xs.toList := by
  constructor
  · intro h; exact Array.mem_toList_iff.mpr (Array.mem_of_getElem? h)
  · intro h
    obtain ⟨i, hi⟩ := List.getElem?_of_mem h
    rw [Array.getElem?_toList] at hi
    obtain ⟨_, sp⟩ := below_spec hs j
    have a : ¬ i < SetTable.below xs j := fun q => Nat.lt_irrefl j ((sp i j hi).mpr q)
    rcases Nat.lt_or_ge (SetTable.below xs j) i with l | l
    · have hlt : SetTable.below xs j < xs.size := Nat.lt_trans l (Array.getElem?_eq_some_iff.mp hi).1
      have eb := Array.getElem?_eq_getElem hlt
      have := (sp _ _ eb).mp (rise_at hs eb hi l)
      omega
    · have : i = SetTable.below xs j := by omega
      subst this; exact hi
theorem below_next {xs : Array Nat} (hs : xs.toList.Pairwise (· < ·)) {i j : Nat} (h : xs[i]? = some j) : SetTable.below xs (j + 1) = i + 1 := by
  obtain ⟨hle, sp⟩ := below_spec hs (j + 1)
  have a : i < SetTable.below xs (j + 1) := (sp i j h).mp (Nat.lt_succ_self j)
  rcases Nat.lt_or_ge (i + 1) (SetTable.below xs (j + 1)) with l | l
  · have hlt : i + 1 < xs.size := by omega
    have eb := Array.getElem?_eq_getElem hlt
    have b := (sp _ _ eb).mpr l
    have := rise_at hs h eb (Nat.lt_succ_self i)
    omega
  · omega
theorem below_zero {xs : Array Nat} (hs : xs.toList.Pairwise (· < ·)) : SetTable.below xs 0 = 0 := by
  obtain ⟨hle, sp⟩ := below_spec hs 0
  rcases Nat.eq_zero_or_pos (SetTable.below xs 0) with e | e
  · exact e
  · have hlt : 0 < xs.size := by omega
    have := (sp 0 _ (Array.getElem?_eq_getElem hlt)).mpr e
    omega

def Reach (mask : Nat) (full : Nat → Prop) (h : Int) (j : Nat) : Prop := ∃ pre post, trail mask h = pre ++ j :: post ∧ ∀ x ∈ pre, full x
theorem Reach.mono {mask : Nat} {f g : Nat → Prop} {h : Int} {j : Nat} (R : Reach mask f h j) (fg : ∀ x, f x → g x) : Reach mask g h j :=
  let ⟨pre, post, e, a⟩ := R; ⟨pre, post, e, fun x hx => fg x (a x hx)⟩

structure Tab0 (t : SetTable) (es : Array (Int × Value)) (b : Bool) : Prop where
  pow : ∃ k, t.mask + 1 = 2 ^ k
  dum : t.dummies = #[]
  rise : t.place.toList.Pairwise (· < ·)
  le : ∀ j ∈ t.place.toList, j ≤ t.mask
  size : t.place.size = es.size
  room : es.size ≤ t.mask
  plain : t.plain = true
  led : t.led = b
  way : ∀ (i : Nat) (h : Int) (x : Value) (j : Nat), es[i]? = some (h, x) → t.place[i]? = some j → Reach t.mask (· ∈ t.place.toList) h j

structure Tab (t : SetTable) (es : Array (Int × Value)) (b : Bool) : Prop extends Tab0 t es b where
  wide : es.size * 5 < t.mask * 3
  chain : t.mask = 7 ∨ t.mask = 31 ∨ t.mask = 127 ∨ t.mask = 511 ∨ t.mask = 2047 ∨ t.mask = 8191

theorem Tab0.fill {t : SetTable} {es : Array (Int × Value)} {b : Bool} (T : Tab0 t es b) : t.fill = es.size := by
  show t.place.size + t.dummies.size = _
  rw [T.dum, T.size]; rfl
theorem Tab0.fits {t : SetTable} {es : Array (Int × Value)} {b : Bool} (T : Tab0 t es b) : t.fits es.size = true := by
  unfold SetTable.fits
  rw [T.fill, T.size]
  have := T.room
  simp [this]
theorem Tab0.fresh (b : Bool) : Tab (SetTable.fresh 0 0 b) #[] b where
  pow := ⟨3, rfl⟩
  dum := rfl
  rise := .nil
  le := fun _ h => nomatch h
  size := rfl
  room := Nat.zero_le _
  plain := rfl
  led := rfl
  way := fun i h x j e => by simp at e
  wide := by show 0 * 5 < 7 * 3; decide
  chain := .inl rfl

theorem Tab0.slot {t : SetTable} {es : Array (Int × Value)} {b : Bool} (T : Tab0 t es b) (j : Nat) : t.slot j = if j ∈ t.place.toList then .live (SetTable.below t.place j) else .empty := by
  unfold SetTable.slot
  dsimp only
  by_cases h : j ∈ t.place.toList
  · rw [if_pos h, (below_mem T.rise j).mpr h]; simp
  · rw [if_neg h]
    have : (t.place[SetTable.below t.place j]? == some j) = false := by
      cases hq : t.place[SetTable.below t.place j]? with
      | none => rfl
      | some v =>
        have : v ≠ j := fun e => h ((below_mem T.rise j).mp (e ▸ hq))
        simp [this]
    rw [this, T.dum]
    rfl

theorem Tab0.gap {t : SetTable} {es : Array (Int × Value)} {b : Bool} (T : Tab0 t es b) : ∃ j, j ≤ t.mask ∧ j ∉ t.place.toList := by
  apply Classical.byContradiction
  intro hn
  have : (List.range (t.mask + 1)) ⊆ t.place.toList := fun j hj => by
    apply Classical.byContradiction
    intro q; exact hn ⟨j, Nat.le_of_lt_succ (List.mem_range.mp hj), q⟩
  have := List.nodup_range.length_le_of_subset this
  rw [List.length_range, Array.length_toList, T.size] at this
  have := T.room
  omega

theorem Tab0.go {t : SetTable} {es : Array (Int × Value)} {b : Bool} (T : Tab0 t es b) (hashAt : Nat → Int) (h : Int) : ∀ (fuel n : Nat) (p : SetTable.Probe), p.dummy = none → (ahead t.mask n p).length ≤ fuel →
    (∃ j ∈ ahead t.mask n p, j ∉ t.place.toList) →
    ∃ pre j post, ahead t.mask n p = pre ++ j :: post ∧ (∀ x ∈ pre, x ∈ t.place.toList ∧ hashAt (SetTable.below t.place x) ≠ h) ∧
      ((j ∉ t.place.toList ∧ SetTable.probe.go t hashAt h fuel p = some (.empty j none)) ∨
       (j ∈ t.place.toList ∧ hashAt (SetTable.below t.place j) = h ∧ ∃ n' q, SetTable.probe.go t hashAt h fuel p = some (.candidate j (SetTable.below t.place j) q) ∧ q.dummy = none ∧ ahead t.mask n' q = post))
  | 0, n, p, _, hl, ⟨j, hj, _⟩ => absurd hl (by have := List.length_pos_of_mem hj; omega)
  | fuel + 1, n, p, hd, hl, ⟨j, hj, hn⟩ => by
    have had : (t.advance p).dummy = none := by unfold SetTable.advance; split <;> exact hd
    have step : ∀ n', ahead t.mask n p = p.j :: ahead t.mask n' (t.advance p) → p.j ∈ t.place.toList → _ := fun n' e hin => by
      have hj' : j ∈ ahead t.mask n' (t.advance p) := by
        rw [e] at hj
        rcases List.mem_cons.mp hj with q | q
        · exact absurd (q ▸ hin) hn
        · exact q
      by_cases hh : hashAt (SetTable.below t.place p.j) = h
      · refine (⟨[], p.j, ahead t.mask n' (t.advance p), e, (fun _ hx => nomatch hx), .inr ⟨hin, hh, n', t.advance p, ?_, had, rfl⟩⟩ : ∃ pre j post, ahead t.mask n p = pre ++ j :: post ∧ (∀ x ∈ pre, x ∈ t.place.toList ∧ hashAt (SetTable.below t.place x) ≠ h) ∧
          ((j ∉ t.place.toList ∧ SetTable.probe.go t hashAt h (fuel + 1) p = some (.empty j none)) ∨
           (j ∈ t.place.toList ∧ hashAt (SetTable.below t.place j) = h ∧ ∃ n' q, SetTable.probe.go t hashAt h (fuel + 1) p = some (.candidate j (SetTable.below t.place j) q) ∧ q.dummy = none ∧ ahead t.mask n' q = post)))
        unfold SetTable.probe.go
        rw [T.slot, if_pos hin]
        dsimp only
        rw [if_pos (by rw [hh]; exact beq_self_eq_true h)]
      · have eg : SetTable.probe.go t hashAt h (fuel + 1) p = SetTable.probe.go t hashAt h fuel (t.advance p) := by
          conv => lhs; unfold SetTable.probe.go
          rw [T.slot, if_pos hin]
          dsimp only
          rw [if_neg (by simpa using hh)]
        obtain ⟨pre, j', post, e1, e2, e3⟩ := Tab0.go T hashAt h fuel n' (t.advance p) had (by rw [e, List.length_cons] at hl; omega) ⟨j, hj', hn⟩
        refine ⟨p.j :: pre, j', post, by rw [e, e1]; rfl, fun x hx => ?_, ?_⟩
        · rcases List.mem_cons.mp hx with rfl | hx
          · exact ⟨hin, hh⟩
          · exact e2 x hx
        · rw [eg]; exact e3
    by_cases hin : p.j ∈ t.place.toList
    · rcases Nat.eq_zero_or_pos p.more with hm | hm
      · cases n with
        | zero =>
          rw [ahead_end t p hm] at hj
          exact absurd (List.mem_singleton.mp hj ▸ hin) hn
        | succ n => exact step n (ahead_out t n p hm) hin
      · exact step n (ahead_in t n p hm) hin
    · obtain ⟨rest, e⟩ : ∃ rest, ahead t.mask n p = p.j :: rest := by
        rcases Nat.eq_zero_or_pos p.more with hm | hm
        · cases n with
          | zero => exact ⟨[], ahead_end t p hm⟩
          | succ n => exact ⟨_, ahead_out t n p hm⟩
        · exact ⟨_, ahead_in t n p hm⟩
      refine ⟨[], p.j, rest, e, (fun _ hx => nomatch hx), .inl ⟨hin, ?_⟩⟩
      unfold SetTable.probe.go
      rw [T.slot, if_neg hin, hd]

theorem Tab0.gap_trail {t : SetTable} {es : Array (Int × Value)} {b : Bool} (T : Tab0 t es b) (h : Int) : ∃ j ∈ trail t.mask h, j ∉ t.place.toList := by
  obtain ⟨j, hj, hn⟩ := T.gap
  obtain ⟨k, hk⟩ := T.pow
  exact ⟨j, trail_all hk h hj, hn⟩
theorem trail_length (mask : Nat) (h : Int) : (trail mask h).length ≤ 10 * SetTable.turns mask := runs_length mask (mask + 15) _ _

theorem Tab0.free {t : SetTable} {es : Array (Int × Value)} {b : Bool} (T : Tab0 t es b) (h : Int) : ∃ j, t.freeSlot h = some (j, false) ∧ j ≤ t.mask ∧ j ∉ t.place.toList ∧ Reach t.mask (· ∈ t.place.toList) h j := by
  obtain ⟨pre, j, post, e1, e2, e3⟩ := T.go (fun _ => h + 1) h (10 * SetTable.turns t.mask) (t.mask + 14) (t.probeStart h) rfl
    (by rw [ahead_start]; exact trail_length t.mask h) (by rw [ahead_start]; exact T.gap_trail h)
  rw [ahead_start] at e1
  rcases e3 with ⟨hn, eg⟩ | ⟨_, hh, _⟩
  · refine ⟨j, ?_, trail_le (h := h) (by rw [e1]; simp), hn, pre, post, e1, fun x hx => (e2 x hx).1⟩
    unfold SetTable.freeSlot SetTable.probe
    rw [eg]; rfl
  · omega

theorem insertAt_get {α : Type} {xs : Array α} {p : Nat} (hp : p ≤ xs.size) (x : α) (i : Nat) :
    (SetTable.insertAt xs p x)[i]? = if i < p then xs[i]? else if i = p then some x else xs[i - 1]? := by
  rw [← Array.getElem?_toList, SetTable.toList_insertAt]
  have hl : (xs.toList.take p).length = p := by rw [List.length_take, Array.length_toList]; omega
  rcases Nat.lt_trichotomy i p with h | h | h
  · rw [if_pos h, List.getElem?_append_left (by omega), List.getElem?_take_of_lt h, Array.getElem?_toList]
  · subst h
    rw [if_neg (Nat.lt_irrefl _), if_pos rfl, List.getElem?_append_right (by omega), hl, Nat.sub_self]; rfl
  · rw [if_neg (by omega), if_neg (by omega), List.getElem?_append_right (by omega), hl]
    obtain ⟨d, rfl⟩ : ∃ d, i = p + 1 + d := ⟨i - (p + 1), by omega⟩
    rw [show p + 1 + d - p = d + 1 by omega, List.getElem?_cons_succ, List.getElem?_drop, Array.getElem?_toList, show p + 1 + d - 1 = p + d by omega]

theorem insertAt_rise {xs : Array Nat} (hs : xs.toList.Pairwise (· < ·)) {j : Nat} (hn : j ∉ xs.toList) :
    (SetTable.insertAt xs (SetTable.below xs j) j).toList.Pairwise (· < ·) := by
  rw [SetTable.toList_insertAt]
  obtain ⟨hle, sp⟩ := below_spec hs j
  have h1 : ∀ x ∈ xs.toList.take (SetTable.below xs j), x < j := fun x hx => by
    obtain ⟨i, hi⟩ := List.getElem?_of_mem hx
    have hil : i < SetTable.below xs j := by
      have := (List.getElem?_eq_some_iff.mp hi).1
      rw [List.length_take] at this; omega
    rw [List.getElem?_take_of_lt hil, Array.getElem?_toList] at hi
    exact (sp i x hi).mpr hil
  have h2 : ∀ x ∈ xs.toList.drop (SetTable.below xs j), j < x := fun x hx => by
    obtain ⟨i, hi⟩ := List.getElem?_of_mem hx
    rw [List.getElem?_drop, Array.getElem?_toList] at hi
    have a : ¬ x < j := fun q => by have := (sp _ x hi).mp q; omega
    have b : x ≠ j := fun q => hn (q ▸ List.mem_of_mem_drop hx)
    omega
  have hd := hs.sublist (List.drop_sublist (SetTable.below xs j) xs.toList)
  have ht := hs.sublist (List.take_sublist (SetTable.below xs j) xs.toList)
  refine List.pairwise_append.mpr ⟨ht, List.pairwise_cons.mpr ⟨h2, hd⟩, fun a ha c hc => ?_⟩
  rcases List.mem_cons.mp hc with rfl | hc
  · exact h1 a ha
  · exact Nat.lt_trans (h1 a ha) (h2 c hc)

theorem mem_insertAt {α : Type} {xs : Array α} {p : Nat} {x y : α} : y ∈ (SetTable.insertAt xs p x).toList ↔ y = x ∨ y ∈ xs.toList := by
  rw [(SetTable.insertAt_perm xs p x).mem_iff, Array.toList_push, List.mem_append, List.mem_singleton, or_comm]

theorem Tab0.put {t : SetTable} {es : Array (Int × Value)} {b : Bool} (T : Tab0 t es b) {h : Int} {x : Value} {j : Nat} (hj : j ≤ t.mask) (hn : j ∉ t.place.toList) (R : Reach t.mask (· ∈ t.place.toList) h j) (hr : es.size + 1 ≤ t.mask) :
    (t.put j).2 = SetTable.below t.place j ∧ Tab0 (t.put j).1 (SetTable.insertAt es (SetTable.below t.place j) (h, x)) b := by
  have hd : (if SetTable.has t.dummies j then SetTable.eraseAt t.dummies (SetTable.below t.dummies j) else t.dummies) = #[] := by rw [T.dum]; rfl
  have hle := (below_spec T.rise j).1
  refine ⟨rfl, ⟨T.pow, hd, insertAt_rise T.rise hn, fun i hi => ?_, ?_, ?_, T.plain, T.led, fun i h' x' j' he hp => ?_⟩⟩
  · rcases mem_insertAt.mp hi with rfl | hi
    · exact hj
    · exact T.le i hi
  · show (SetTable.insertAt t.place (SetTable.below t.place j) j).size = (SetTable.insertAt es (SetTable.below t.place j) (h, x)).size
    rw [← Array.length_toList, ← Array.length_toList, (SetTable.insertAt_perm _ _ _).length_eq, (SetTable.insertAt_perm _ _ _).length_eq]
    simp [T.size]
  · show (SetTable.insertAt es (SetTable.below t.place j) (h, x)).size ≤ t.mask
    rw [← Array.length_toList, (SetTable.insertAt_perm _ _ _).length_eq]
    simpa using hr
  · have up : ∀ y, y ∈ t.place.toList → y ∈ (SetTable.insertAt t.place (SetTable.below t.place j) j).toList := fun y hy => mem_insertAt.mpr (.inr hy)
    have hp' : (SetTable.insertAt t.place (SetTable.below t.place j) j)[i]? = some j' := hp
    show Reach t.mask (· ∈ (SetTable.insertAt t.place (SetTable.below t.place j) j).toList) h' j'
    rw [insertAt_get (by rw [← T.size]; exact hle)] at he
    rw [insertAt_get hle] at hp'
    split at he
    · rename_i q
      rw [if_pos q] at hp'
      exact (T.way i h' x' j' he hp').mono up
    · rename_i q
      rw [if_neg q] at hp'
      split at he
      · rename_i q'
        rw [if_pos q'] at hp'
        cases he; cases hp'
        exact R.mono up
      · rename_i q'
        rw [if_neg q'] at hp'
        exact (T.way (i - 1) h' x' j' he hp').mono up
end L2

namespace L2
open PySem
set_option autoImplicit false
set_option maxRecDepth 20000

structure Own (mask : Nat) (hs : List Int) (owner : Array (Option Nat)) (m : Nat) : Prop where
  size : owner.size = mask + 1
  lt : ∀ (j i : Nat), owner[j]? = some (some i) → i < m
  inj : ∀ (j j' i : Nat), owner[j]? = some (some i) → owner[j']? = some (some i) → j = j'
  has : ∀ i, i < m → ∃ j : Nat, owner[j]? = some (some i)
  way : ∀ (j i : Nat) (h : Int), owner[j]? = some (some i) → hs[i]? = some h → Reach mask (fun x => ∃ i', owner[x]? = some (some i')) h j

open Classical in
theorem Own.gap {mask : Nat} {hs : List Int} {owner : Array (Option Nat)} {m : Nat} (O : Own mask hs owner m) (hm : m ≤ mask) : ∃ j : Nat, j ≤ mask ∧ owner[j]? = some none := by
  apply Classical.byContradiction
  intro hn
  have all : ∀ j : Nat, j ≤ mask → ∃ i, owner[j]? = some (some i) := fun j hj => by
    have hjo : j < owner.size := by rw [O.size]; omega
    have e : owner[j]? = some owner[j] := Array.getElem?_eq_getElem hjo
    cases ho : owner[j] with
    | none => exact absurd ⟨j, hj, by rw [e, ho]⟩ hn
    | some i => exact ⟨i, by rw [e, ho]⟩
  obtain ⟨f, hf⟩ : ∃ f : Nat → Nat, ∀ i, i < m → owner[f i]? = some (some i) := by
    refine ⟨fun i => if h : ∃ j : Nat, owner[j]? = some (some i) then Classical.choose h else 0, fun i hi => ?_⟩
    have h := O.has i hi
    dsimp only
    rw [dif_pos h]
    exact Classical.choose_spec h
  have sub : List.range (mask + 1) ⊆ (List.range m).map f := fun j hj => by
    obtain ⟨i, hi⟩ := all j (Nat.le_of_lt_succ (List.mem_range.mp hj))
    have him := O.lt j i hi
    exact List.mem_map.mpr ⟨i, List.mem_range.mpr him, O.inj _ _ i (hf i him) hi⟩
  have := List.nodup_range.length_le_of_subset sub
  rw [List.length_range, List.length_map, List.length_range] at this
  omega

theorem Own.step {mask k : Nat} (hk : mask + 1 = 2 ^ k) {hs : List Int} {owner : Array (Option Nat)} {m : Nat} (O : Own mask hs owner m) (hm : m ≤ mask) {h : Int} (hh : hs[m]? = some h) :
    ∃ j, SetTable.layClean.free mask owner (SetTable.turns mask) (SetTable.bits h % (mask + 1)) (SetTable.bits h) = some j ∧ Own mask hs (owner.setIfInBounds j (some m)) (m + 1) := by
  obtain ⟨j0, hj0, e0⟩ := O.gap hm
  rw [free_runs]
  show ∃ j, (trail mask h).find? _ = some j ∧ _
  cases hf : (trail mask h).find? (fun j => (owner.getD j (some 0)).isNone) with
  | none =>
    have := List.find?_eq_none.mp hf j0 (trail_all hk h hj0)
    rw [Array.getD_eq_getD_getElem?, e0] at this
    exact absurd rfl this
  | some j =>
    obtain ⟨hp, pre, post, e, hpre⟩ := List.find?_eq_some_iff_append.mp hf
    have hjm : j ≤ mask := trail_le (h := h) (by rw [e]; simp)
    have hjs : j < owner.size := by rw [O.size]; omega
    have hjn : owner[j]? = some none := by
      rw [Array.getD_eq_getD_getElem?, Array.getElem?_eq_getElem hjs] at hp
      rw [Array.getElem?_eq_getElem hjs]
      cases ho : owner[j] with
      | none => rfl
      | some i => rw [ho] at hp; cases hp
    have get : ∀ x : Nat, (owner.setIfInBounds j (some m))[x]? = if j = x then some (some m) else owner[x]? := fun x => by
      rw [Array.getElem?_setIfInBounds, if_pos hjs]
    have up : ∀ x : Nat, (∃ i' : Nat, owner[x]? = some (some i')) → ∃ i' : Nat, (owner.setIfInBounds j (some m))[x]? = some (some i') := fun x hx => by
      obtain ⟨i', hi'⟩ := hx
      refine ⟨i', ?_⟩
      rw [get, if_neg (fun q => by rw [← q, hjn] at hi'; cases hi')]; exact hi'
    have full : ∀ x ∈ pre, ∃ i', owner[x]? = some (some i') := fun x hx => by
      have a := hpre x hx
      have hxm : x ≤ mask := trail_le (h := h) (by rw [e]; simp [hx])
      have hxs : x < owner.size := by rw [O.size]; omega
      rw [Array.getD_eq_getD_getElem?, Array.getElem?_eq_getElem hxs] at a
      rw [Array.getElem?_eq_getElem hxs]
      cases ho : owner[x] with
      | none => rw [ho] at a; exact absurd a (by decide)
      | some i => exact ⟨i, rfl⟩
    refine ⟨j, rfl, ⟨by rw [Array.size_setIfInBounds]; exact O.size, fun x i hx => ?_, fun x x' i hx hx' => ?_, fun i hi => ?_, fun x i h' hx hh' => ?_⟩⟩
    · rw [get] at hx
      split at hx
      · cases hx; omega
      · have := O.lt x i hx; omega
    · rw [get] at hx hx'
      split at hx <;> split at hx'
      · omega
      · cases hx; exact absurd (O.lt _ _ hx') (Nat.lt_irrefl _)
      · cases hx'; exact absurd (O.lt _ _ hx) (Nat.lt_irrefl _)
      · exact O.inj x x' i hx hx'
    · rcases Nat.lt_or_ge i m with l | l
      · obtain ⟨x, hx⟩ := O.has i l
        refine ⟨x, ?_⟩
        rw [get, if_neg (fun q => by rw [← q, hjn] at hx; cases hx)]; exact hx
      · have : i = m := by omega
        subst this
        exact ⟨j, by rw [get, if_pos rfl]⟩
    · rw [get] at hx
      split at hx
      · rename_i q
        cases hx; subst q
        rw [hh] at hh'; cases hh'
        exact ⟨pre, post, e, fun x hx => up x (full x hx)⟩
      · exact (O.way x i h' hx hh').mono up

theorem layClean_is {mask k : Nat} (hk : mask + 1 = 2 ^ k) (hs : Array Int) (hn : hs.size ≤ mask + 1) : ∃ owner, SetTable.layClean mask hs = some owner ∧ Own mask hs.toList owner hs.size := by
  unfold SetTable.layClean
  rw [← Array.foldl_toList]
  have main : ∀ (l : List Int) (owner : Array (Option Nat)) (m : Nat), Own mask hs.toList owner m → m + l.length = hs.size → hs.toList.drop m = l →
      ∃ owner', l.foldl (init := some (owner, m)) (fun acc h => do
        let (owner, k) ← acc
        let j ← SetTable.layClean.free mask owner (SetTable.turns mask) (SetTable.bits h % (mask + 1)) (SetTable.bits h)
        pure (owner.setIfInBounds j (some k), k + 1)) = some (owner', hs.size) ∧ Own mask hs.toList owner' hs.size := by
    intro l
    induction l with
    | nil =>
      intro owner m O e _
      have : m = hs.size := by simpa using e
      subst this
      exact ⟨owner, rfl, O⟩
    | cons h l ih =>
      intro owner m O e hd
      have hh : hs.toList[m]? = some h := by
        have := congrArg (fun x => x[0]?) hd
        simpa [List.getElem?_drop] using this
      rw [List.length_cons] at e
      obtain ⟨j, hj, O'⟩ := O.step hk (by omega) hh
      have hd' : hs.toList.drop (m + 1) = l := by
        rw [← List.drop_drop, hd]; rfl
      obtain ⟨owner', h1, h2⟩ := ih (owner.setIfInBounds j (some m)) (m + 1) O' (by omega) hd'
      refine ⟨owner', ?_, h2⟩
      rw [List.foldl_cons, ← h1]
      congr 1
      show (SetTable.layClean.free mask owner _ _ _).bind _ = _
      rw [hj]; rfl
  have O0 : Own mask hs.toList (Array.replicate (mask + 1) none) 0 := by
    have no : ∀ (j i : Nat), (Array.replicate (mask + 1) (none : Option Nat))[j]? = some (some i) → False := fun j i h => by
      rw [Array.getElem?_replicate] at h
      split at h <;> cases h
    exact ⟨Array.size_replicate, fun j i h => (no j i h).elim, fun j _ i h => (no j i h).elim, fun i hi => absurd hi (Nat.not_lt_zero i), fun j i _ h => (no j i h).elim⟩
  obtain ⟨owner, h1, h2⟩ := main hs.toList _ 0 O0 (by simp) rfl
  refine ⟨owner, ?_, h2⟩
  rw [h1]; rfl

theorem filterMap_at {α β : Type} {g : α → Option β} : ∀ (l : List α), (∀ x ∈ l, (g x).isSome = true) → ∀ i : Nat, (l.filterMap g)[i]? = (l[i]?).bind g
  | [], _, i => by simp
  | x :: l, h, i => by
    cases hx : g x with
    | none => have := h x (.head _); rw [hx] at this; cases this
    | some y =>
      rw [List.filterMap_cons_some hx]
      cases i with
      | zero => simp [hx]
      | succ i => simpa using filterMap_at l (fun z hz => h z (.tail _ hz)) i
theorem laid_is {mask k : Nat} (hk : mask + 1 = 2 ^ k) (finger moves : Nat) (b : Bool) (es : Array (Int × Value)) (hn : es.size ≤ mask) :
    ∃ t' order, SetTable.laid mask finger moves b true (es.map (·.1)) = some (t', order) ∧ t'.mask = mask ∧ order.toList.Perm (List.range es.size) ∧ Tab0 t' (order.filterMap (es[·]?)) b := by
  obtain ⟨owner, h1, O⟩ := layClean_is hk (es.map (·.1)) (by rw [Array.size_map]; omega)
  rw [Array.size_map] at O
  unfold SetTable.laid
  rw [h1]
  let live : List (Nat × Nat) := (List.range (mask + 1)).filterMap fun j => (owner.getD j none).map (j, ·)
  have hlive : ∀ j i, (j, i) ∈ live ↔ owner[j]? = some (some i) := fun j i => by
    show (j, i) ∈ List.filterMap _ _ ↔ _
    rw [List.mem_filterMap]
    constructor
    · rintro ⟨x, hx, e⟩
      have hxs : x < owner.size := by rw [O.size]; exact List.mem_range.mp hx
      rw [Array.getD_eq_getD_getElem?, Array.getElem?_eq_getElem hxs] at e
      cases ho : owner[x] with
      | none => rw [ho] at e; cases e
      | some y => rw [ho] at e; cases e; rw [Array.getElem?_eq_getElem hxs, ho]
    · intro e
      have hj : j < mask + 1 := by rw [← O.size]; exact (Array.getElem?_eq_some_iff.mp e).1
      exact ⟨j, List.mem_range.mpr hj, by rw [Array.getD_eq_getD_getElem?, e]; rfl⟩
  have rise : live.Pairwise (fun p q => p.1 < q.1) := List.Pairwise.filterMap (R := (· < ·)) _ (fun a a' haa b hb b' hb' => by
    obtain ⟨_, _, rfl⟩ := Option.map_eq_some_iff.mp hb
    obtain ⟨_, _, rfl⟩ := Option.map_eq_some_iff.mp hb'
    exact haa) List.pairwise_lt_range
  have rise1 : (live.map (·.1)).Pairwise (· < ·) := List.pairwise_map.mpr rise
  have nd2 : (live.map (·.2)).Nodup := by
    refine List.pairwise_map.mpr ?_
    refine List.Pairwise.imp_of_mem (R := fun p q : Nat × Nat => p.1 < q.1) (fun {p q} hp hq hlt he => ?_) rise
    have := O.inj p.1 q.1 p.2 ((hlive _ _).mp hp) (by rw [he]; exact (hlive _ _).mp hq)
    omega
  have perm : (live.map (·.2)).Perm (List.range es.size) := by
    refine (List.perm_ext_iff_of_nodup nd2 List.nodup_range).mpr fun i => ?_
    rw [List.mem_range]
    constructor
    · intro h
      obtain ⟨⟨j, i'⟩, hp, rfl⟩ := List.mem_map.mp h
      exact O.lt j i' ((hlive _ _).mp hp)
    · intro h
      obtain ⟨j, hj⟩ := O.has i h
      exact List.mem_map.mpr ⟨(j, i), (hlive j i).mpr hj, rfl⟩
  have hsome : ∀ i ∈ live.map (·.2), (es[i]?).isSome = true := fun i hi => by
    have := List.mem_range.mp (perm.mem_iff.mp hi)
    rw [Array.getElem?_eq_getElem this]; rfl
  have hsz : ((live.map (·.2)).toArray.filterMap (es[·]?)).size = es.size := by
    rw [← Array.length_toList, Array.toList_filterMap, (perm.filterMap _).length_eq, filterMap_getElem?_range, Array.length_toList]
  refine ⟨_, _, rfl, rfl, perm, ⟨⟨k, hk⟩, rfl, rise1, fun j hj => ?_, ?_, ?_, rfl, rfl, fun i h x j he hp => ?_⟩⟩
  · obtain ⟨⟨j', i'⟩, hp, rfl⟩ := List.mem_map.mp hj
    have := (Array.getElem?_eq_some_iff.mp ((hlive _ _).mp hp)).1
    rw [O.size] at this
    show j' ≤ mask
    omega
  · rw [hsz]
    show (live.map (·.1)).toArray.size = _
    rw [List.size_toArray, List.length_map, ← List.length_map (f := (·.2)), perm.length_eq, List.length_range]
  · rw [hsz]; exact hn
  · show Reach mask (· ∈ live.map (·.1)) h j
    have hp' : (live.map (·.1))[i]? = some j := by
      have hp0 : ((live.map (·.1)).toArray)[i]? = some j := hp
      rwa [List.getElem?_toArray] at hp0
    rw [← Array.getElem?_toList, Array.toList_filterMap, filterMap_at _ hsome] at he
    rw [List.getElem?_map] at he hp'
    cases hl : live[i]? with
    | none => rw [hl] at hp'; cases hp'
    | some p =>
      rw [hl] at he hp'
      obtain ⟨j', i'⟩ := p
      obtain rfl : j' = j := Option.some.inj hp'
      have hm : (j', i') ∈ live := List.mem_of_getElem? hl
      have he' : es[i']? = some (h, x) := he
      refine (O.way j' i' h ((hlive _ _).mp hm) ?_).mono fun y ⟨i2, hy⟩ => List.mem_map.mpr ⟨(y, i2), (hlive _ _).mpr hy, rfl⟩
      rw [Array.getElem?_toList, Array.getElem?_map, he']; rfl

theorem relaid_is {t : SetTable} {es : Array (Int × Value)} {b : Bool} (T : Tab0 t es b) (hn : es.size < 4096) (hlo : es.size * 5 < t.mask * 3 + 5) (hhi : t.mask * 3 ≤ es.size * 5)
    (hc : t.mask = 7 ∨ t.mask = 31 ∨ t.mask = 127 ∨ t.mask = 511 ∨ t.mask = 2047 ∨ t.mask = 8191) :
    ∃ t' order, t.relaid (es.map (·.1)) (SetTable.grown es.size) = some (t', order) ∧ SetTable.sizeAbove (SetTable.grown es.size) ≤ 32768 ∧ coversAll order es.size = true ∧ (order.filterMap (es[·]?)).size = es.size ∧
      (order.filterMap (es[·]?)).toList.Perm es.toList ∧ Tab t' (order.filterMap (es[·]?)) b := by
  obtain ⟨k, hk, hlt, h8⟩ : ∃ k, SetTable.sizeAbove (SetTable.grown es.size) = 2 ^ k ∧ es.size * 4 < 2 ^ k ∧ (2 ^ k = 32 ∨ 2 ^ k = 128 ∨ 2 ^ k = 512 ∨ 2 ^ k = 2048 ∨ 2 ^ k = 8192) := by
    rcases hc with c | c | c | c | c | c <;> rw [c] at hlo hhi
    · rw [show es.size = 5 by omega]; exact ⟨5, by decide +kernel, by decide, by decide⟩
    · rw [show es.size = 19 by omega]; exact ⟨7, by decide +kernel, by decide, by decide⟩
    · rw [show es.size = 77 by omega]; exact ⟨9, by decide +kernel, by decide, by decide⟩
    · rw [show es.size = 307 by omega]; exact ⟨11, by decide +kernel, by decide, by decide⟩
    · rw [show es.size = 1229 by omega]; exact ⟨13, by decide +kernel, by decide, by decide⟩
    · omega
  obtain ⟨t', order, h1, h2, h3, h4⟩ := laid_is (mask := 2 ^ k - 1) (k := k) (by omega) t.finger (t.movedTo (2 ^ k - 1)) b es (by omega)
  have hsz : (order.filterMap (es[·]?)).size = es.size := by
    rw [← Array.length_toList, Array.toList_filterMap, (h3.filterMap _).length_eq, filterMap_getElem?_range, Array.length_toList]
  refine ⟨t', order, ?_, ?_, List.isPerm_iff.mpr h3, hsz, ?_, ⟨h4, ?_, ?_⟩⟩
  · unfold SetTable.relaid
    rw [hk, T.plain, T.led]; exact h1
  · rw [hk]; omega
  · rw [Array.toList_filterMap]
    exact (h3.filterMap _).trans (by rw [filterMap_getElem?_range])
  · rw [hsz, h2]; omega
  · rw [h2]; omega
end L2

namespace L2
open PySem
set_option autoImplicit false

def setObj (es : List (Int × Value)) (ep : Nat) (t : SetTable) : Obj := { cls := .type "set", dict := none, data := .set es.toArray ep t, slots := #[] }
def SetAt (w : World) (h : Heap) (a : Addr) (es : List (Int × Value)) : Prop :=
  ∃ ep t, h.get? a = some (setObj es ep t) ∧ Tab t es.toArray (!w.params.followText "set-order") ∧ es.length < 4096

theorem layNew_is {t : SetTable} {es : Array (Int × Value)} {b : Bool} (T : Tab t es b) (h : Int) (x : Value) :
    ∃ es' t', layNew t es h x = (es', t', false, false) ∧ Tab0 t' es' b ∧ es'.toList.Perm ((h, x) :: es.toList) ∧ t'.mask = t.mask ∧ es'.size = es.size + 1 := by
  obtain ⟨j, hf, hj, hn, R⟩ := T.toTab0.free h
  have hr : es.size + 1 ≤ t.mask := by have := T.wide; have := T.chain; omega
  obtain ⟨e2, T1⟩ := T.toTab0.put (x := x) hj hn R hr
  refine ⟨SetTable.insertAt es (SetTable.below t.place j) (h, x), (t.put j).1, ?_, T1, ?_, rfl, ?_⟩
  · unfold layNew
    rw [hf]
    dsimp only
    rw [e2]
    unfold SetTable.orStandIn
    rw [T1.fits]
    rfl
  · refine (SetTable.insertAt_perm _ _ _).trans ?_
    rw [Array.toList_push]; exact List.perm_append_singleton _ _
  · rw [← Array.length_toList, (SetTable.insertAt_perm _ _ _).length_eq]; simp

theorem tooFull_is {t : SetTable} {es : Array (Int × Value)} {b : Bool} (T : Tab0 t es b) : t.tooFull = decide (t.mask * 3 ≤ es.size * 5) := by
  unfold SetTable.tooFull; rw [T.fill]

theorem relayAll_is {t : SetTable} {es : Array (Int × Value)} {b : Bool} (T : Tab0 t es b) (hn : es.size < 4096) (hlo : es.size * 5 < t.mask * 3 + 5) (hhi : t.mask * 3 ≤ es.size * 5)
    (hc : t.mask = 7 ∨ t.mask = 31 ∨ t.mask = 127 ∨ t.mask = 511 ∨ t.mask = 2047 ∨ t.mask = 8191) :
    ∃ es' t', relayAll t es (SetTable.grown es.size) = (es', t', false) ∧ Tab t' es' b ∧ es'.toList.Perm es.toList ∧ es'.size = es.size := by
  obtain ⟨t', order, h1, _, h2, h3, h4, h5⟩ := relaid_is T hn hlo hhi hc
  refine ⟨_, t', ?_, h5, h4, h3⟩
  unfold relayAll
  rw [h1]
  dsimp only
  rw [h2, h5.toTab0.fits]
  rfl

section
variable {P : Program} {w : World} {A : Around} {E : Value → Shared → Prop} {s : Shared}

theorem putSet_obj {es es' : List (Int × Value)} {ep : Nat} {t t' : SetTable} : Obj.putSet es'.toArray t' (setObj es ep t) = setObj es' (ep + 1) t' := rfl

theorem SetAt.stored {h : Heap} {a : Addr} {es es' : List (Int × Value)} {ep : Nat} {t t' : SetTable} (ho : h.get? a = some (setObj es ep t)) :
    (h.update a (Obj.putSet es'.toArray t')).get? a = some (setObj es' (ep + 1) t') := by
  have := Heap.get?_update_self (Obj.putSet es'.toArray t') ho (by rw [putSet_obj]; rfl)
  rwa [putSet_obj] at this

theorem add_tail {g : Bool → Sem Unit} (hg : ∀ (s₁ : Shared) (Q' : Unit → Shared → Prop), Q' () s₁ → wpAny (model P w) A (g false) Q' E s₁)
    {a : Addr} {es : List (Int × Value)} {ep : Nat} {t : SetTable} (ho : s.heap.get? a = some (setObj es ep t)) {b : Bool}
    {es1 : Array (Int × Value)} {t1 : SetTable} (T : Tab0 t1 es1 b) (hb : b = !w.params.followText "set-order") (hn : es1.size < 4096) (hlo : es1.size * 5 < t1.mask * 3 + 5)
    (hc : t1.mask = 7 ∨ t1.mask = 31 ∨ t1.mask = 127 ∨ t1.mask = 511 ∨ t1.mask = 2047 ∨ t1.mask = 8191) {R : Option Bool → Shared → Prop}
    (h : ∀ h' es', Heap.SameBut a s.heap h' → SetAt w h' a es' → es'.Perm es1.toList → R (some true) { s with heap := h' }) :
    wpAny (model P w) A (do
        storeSet a es1 t1
        if (!false && t1.tooFull) = true then do
            g (relayAll t1 es1 (SetTable.grown es1.size)).2.2
            storeSet a (relayAll t1 es1 (SetTable.grown es1.size)).1 (relayAll t1 es1 (SetTable.grown es1.size)).2.1
            pure (some true)
          else pure (some true)) R E s := by
  have hz1 : es1.size ≤ sizeLine := by rw [sizeLine_eq]; omega
  refine wpAny_bind (wpAny_storeSet_of ho rfl ?_ hz1)
  have ho1 : (s.heap.update a (Obj.putSet es1 t1)).get? a = some (setObj es1.toList (ep + 1) t1) := SetAt.stored (es' := es1.toList) ho
  have sb1 := Heap.SameBut.update s.heap a (Obj.putSet es1 t1)
  rw [tooFull_is T]
  by_cases q : t1.mask * 3 ≤ es1.size * 5
  · rw [if_pos (by simpa using q)]
    obtain ⟨es2, t2, e2, T2, p2, z2⟩ := relayAll_is T hn hlo q hc
    rw [e2]
    refine wpAny_bind (hg _ _ ?_)
    refine wpAny_bind (wpAny_storeSet_of ho1 rfl ?_ (by rw [z2]; exact hz1))
    refine wpAny_pure (h _ es2.toList (sb1.trans (Heap.SameBut.update _ a _)) ⟨_, t2, SetAt.stored (es' := es2.toList) ho1, ?_, ?_⟩ p2)
    · subst hb; exact T2
    · rw [Array.length_toList, z2]; exact hn
  · rw [if_neg (by simpa using q)]
    refine wpAny_pure (h _ es1.toList sb1 ⟨_, t1, ho1, ?_, ?_⟩ (.refl _))
    · subst hb
      have hz2 : es1.toList.toArray.size = es1.size := by simp
      exact ⟨T, by omega, hc⟩
    · rw [Array.length_toList]; exact hn

theorem add_int {a : Addr} {es : List (Int × Value)} {i : Int} {tk : Tok} {Q : Bool → Shared → Prop} (hS : SetAt w s.heap a es) (hi : ∀ e ∈ es, ∃ j u, e = (hashInt j, Value.int j u)) (room : es.length + 1 < 4096)
    (h1 : (∃ u, (hashInt i, Value.int i u) ∈ es) → Q false { s with toks := s.toks + 1 })
    (h2 : (∀ u, (hashInt i, Value.int i u) ∉ es) → ∀ h' es', Heap.SameBut a s.heap h' → SetAt w h' a es' → es'.Perm ((hashInt i, Value.int i tk) :: es) → Q true { s with heap := h', toks := s.toks + 1 }) :
    wpAny (model P w) A (setAdd a (.int i tk)) Q E s := by
  obtain ⟨ep, t, ho, T, hn⟩ := hS
  have hel : ElemsOf (intKind P w) es := fun e he => by
    obtain ⟨j, u, rfl⟩ := hi e he
    exact ⟨⟨j, intKind_is P w j u, rfl⟩, rfl⟩
  have hel' : ElemsOf (intKind P w) es.toArray.toList := hel
  unfold setAdd
  refine wpAny_holding (wpAny_bind ((intKind P w).pyHash (intKind_is P w i tk) ?_))
  have hof : t.fits es.toArray.size = true := T.toTab0.fits
  unfold setAddHashed setAddHashedIn
  refine wpAny_holding (wpAny_bind (wpAny_setState_of ho rfl hof ?_))
  dsimp only
  rw [byScan_of (knd := intKind P w) rfl (by show es.toArray.size < 4096; simpa using hn) hel']
  simp only [↓reduceIte]
  unfold setAddByScan
  refine wpAny_bind ?_
  refine wpAny_bind (wpAny_rule ?_)
  refine wpAny_bind (wpAny_setScan_of (intKind_is P w i tk) ho rfl hof hel' ?_)
  have hmem : ∀ e ∈ es, (intKind P w).is i e.2 = true ↔ ∃ u, e = (hashInt i, Value.int i u) := fun e he => by
    obtain ⟨j, u, rfl⟩ := hi e he
    constructor
    · intro q
      have : i = j := (intKind P w).inj _ _ _ q (intKind_is P w j u)
      subst this; exact ⟨u, rfl⟩
    · rintro ⟨u', e'⟩; rw [e']; exact intKind_is P w i u'
  cases hr : List.findIdx? (fun e => (intKind P w).is i e.2) es.toArray.toList with
  | some j =>
    dsimp only
    obtain ⟨hj, hpj, _⟩ := List.findIdx?_eq_some_iff_getElem.mp hr
    refine wpAny_pure (wpAny_pure ?_)
    have hin : es[j] ∈ es := List.getElem_mem hj
    obtain ⟨u, e⟩ := (hmem es[j] hin).mp hpj
    exact h1 ⟨u, e ▸ hin⟩
  | none =>
    dsimp only
    have hno : ∀ u, (hashInt i, Value.int i u) ∉ es := fun u hu => by
      have := List.findIdx?_eq_none_iff.mp hr _ hu
      rw [intKind_is P w i u] at this; cases this
    obtain ⟨es1, t1, eL, T1, p1, m1, z1⟩ := layNew_is T ((intKind P w).hash i) (.int i tk)
    rw [eL]
    dsimp only
    refine wpAny_bind (wpAny_pure ?_)
    rw [T1.plain]
    simp only [↓reduceIte]
    refine wpAny_bind ?_
    rw [hashByValue_scannable 8 rfl]
    refine wpAny_pure ?_
    have hz : es.toArray.size = es.length := by simp
    rw [if_pos (show plainKind (Value.int i tk) = true from rfl)]
    refine add_tail (s := { s with toks := s.toks + 1 }) ?_ ho T1 rfl (by omega) (by have := T.wide; omega) (m1 ▸ T.chain) fun h' es' sb S' p' => ?_
    · intro s₁ Q' hq; exact wpAny_pure hq
    · exact wpAny_pure (h2 hno h' es' sb S' (p'.trans p1))
end
end L2

namespace L2
open PySem
set_option autoImplicit false

structure SetFit (P : Program) (w : World) {K : Type} [DecidableEq K] (HK : HeapKind P w K) : Prop where
  byv : ∀ {A : Around} {E : Value → Shared → Prop} {s : Shared} {k : K} {a : Addr} {Q : Bool → Shared → Prop}, HK.is s.heap k a → Q true s → wpAny (model P w) A (hashByValue 8 (.ref a)) Q E s
  cls : ∀ {A : Around} {E : Value → Shared → Prop} {s : Shared} {k : K} {a : Addr} {Q : Bool → Shared → Prop}, HK.is s.heap k a → Q false s → wpAny (model P w) A (ofAClassStatement 8 (.ref a)) Q E s
  keep : ∀ {h h' : Heap} {k : K} {a d : Addr} {es : List (Int × Value)} {ep : Nat} {t : SetTable}, HK.is h k a → h.get? d = some (setObj es ep t) → Heap.SameBut d h h' → HK.is h' k a

section
variable {P : Program} {w : World} {K : Type} [DecidableEq K] {HK : HeapKind P w K} {A : Around} {E : Value → Shared → Prop} {s : Shared}

end
end L2

namespace L2
open PySem
set_option autoImplicit false

theorem eraseIdx_perm {α : Type} {l : List α} {i : Nat} {x : α} (h : l[i]? = some x) : (x :: l.eraseIdx i).Perm l := by
  rw [List.eraseIdx_eq_take_drop_succ]
  obtain ⟨hi, rfl⟩ := List.getElem?_eq_some_iff.mp h
  conv => rhs; rw [← List.take_append_drop i l, List.drop_eq_getElem_cons hi]
  exact List.perm_middle.symm
theorem pickOrder_go {α : Type} (next : Nat → Nat) : ∀ (fuel k : Nat) (left : List α) (out : Array α), left.length = fuel → (pickOrder.go next fuel k left out).toList.Perm (out.toList ++ left)
  | 0, k, left, out, h => by
    have : left = [] := List.length_eq_zero_iff.mp h
    subst this
    show out.toList.Perm (out.toList ++ [])
    rw [List.append_nil]
  | fuel + 1, k, left, out, h => by
    unfold pickOrder.go
    have hl : next k % left.length < left.length := Nat.mod_lt _ (by omega)
    have e : left[next k % left.length]? = some left[next k % left.length] := List.getElem?_eq_getElem hl
    rw [e]
    dsimp only
    refine (pickOrder_go next fuel (k + 1) _ _ (by rw [List.length_eraseIdx, if_pos hl]; omega)).trans ?_
    rw [Array.toList_push, List.append_assoc]
    exact List.Perm.append_left _ (eraseIdx_perm e)
theorem pickOrder_perm {α : Type} (next : Nat → Nat) (xs : Array α) : (pickOrder next xs).toList.Perm xs.toList := by
  exact pickOrder_go next xs.size 0 xs.toList #[] (by simp)

def walkOf (w : World) (a : Addr) (ep : Nat) (es : List (Int × Value)) : List (Int × Value) :=
  if w.params.followText "set-order" = true then (pickOrder (w.params.setOrder a ep) es.toArray).toList else es
theorem walkOf_perm (w : World) (a : Addr) (ep : Nat) (es : List (Int × Value)) : (walkOf w a ep es).Perm es := by
  unfold walkOf
  split
  · exact pickOrder_perm _ _
  · exact .refl _

theorem slot_setiter_next : Slot "set_iterator" "__next__" "set_iterator.__next__" :=
  .of (owner := "set_iterator") (n := "__next__") (by rw [typeLookup_type, builtinLookup_eq_fast]; kernel_rfl) (by decide +kernel) (by decide +kernel) (by decide +kernel)
    (by first | exact .inl (by decide +kernel) | exact .inr (by decide +kernel)) (by rw [isSubtype_type]; kernel_rfl)
theorem entry_setiter_next : entryFor table "set_iterator.__next__" = some Builtin.«set_iterator.__next__» := entryFor_of_tree (by kernel_rfl)
theorem args_setiter_next (a : Value) : argsOk "set_iterator.__next__" ⟨[a], []⟩ := by unfold argsOk; kernel_rfl
theorem entry_set_iter : entryFor table "set.__iter__" = some Builtin.«frozenset.__iter__» :=
  entryFor_alias (id' := "frozenset.__iter__") (by kernel_rfl) rfl (by decide +kernel) (by kernel_rfl)
theorem slot_setiter_iter : Slot "set_iterator" "__iter__" "set_iterator.__iter__" :=
  .of (owner := "set_iterator") (n := "__iter__") (by rw [typeLookup_type, builtinLookup_eq_fast]; kernel_rfl) (by decide +kernel) (by decide +kernel) (by decide +kernel)
    (by first | exact .inl (by decide +kernel) | exact .inr (by decide +kernel)) (by rw [isSubtype_type]; kernel_rfl)
theorem entry_setiter_iter : entryFor table "set_iterator.__iter__" = some Builtin.«dict_keyiterator.__iter__» :=
  entryFor_alias (id' := "dict_keyiterator.__iter__") (by kernel_rfl) rfl (by decide +kernel) (by kernel_rfl)
theorem args_setiter_iter (a : Value) : argsOk "set_iterator.__iter__" ⟨[a], []⟩ := by unfold argsOk; kernel_rfl

def itObj (slot : Nat) (i : Nat) (a : Addr) (n ep : Nat) : Obj := { cls := .type "set_iterator", data := .fields #[.int slot 0, .int i 0, .ref a, .int n 0, .int ep 0] }

section
variable {P : Program} {w : World} {A : Around} {E : Value → Shared → Prop} {s : Shared}

theorem setNext_is {a : Addr} {es : List (Int × Value)} {ep : Nat} {t : SetTable} {slot i : Nat} {Q : Option (Value × Nat) → Shared → Prop} (ho : s.heap.get? a = some (setObj es ep t)) (T : Tab t es.toArray (!w.params.followText "set-order"))
    (hs : w.params.followText "set-order" = false → SetTable.below t.place slot = i)
    (h : match (walkOf w a ep es)[i]? with
      | some e => ∀ slot', (w.params.followText "set-order" = false → SetTable.below t.place slot' = i + 1) → Q (some (e.2, slot')) s
      | none => Q none s) : wpAny (model P w) A (setNext a slot i ep) Q E s := by
  have hof : t.fits es.toArray.size = true := T.toTab0.fits
  unfold setNext
  refine wpAny_bind (wpAny_setState_of ho rfl hof ?_)
  dsimp only
  refine wpAny_bind ?_
  unfold setsByText
  refine wpAny_bind (wpAny_askSetting (wpAny_pure ?_))
  show wpAny (model P w) A (if (w.params.followText "set-order") = true then _ else _) _ _ s
  unfold walkOf at h
  cases hb : w.params.followText "set-order" with
  | true =>
    rw [hb, if_pos rfl] at h
    rw [if_pos rfl]
    rw [if_neg (show ¬ ((ep != ep) = true) from by simp)]
    refine wpAny_bind ?_
    unfold setWalk
    refine wpAny_bind (wpAny_setState_of ho rfl hof ?_)
    dsimp only
    refine wpAny_bind ?_
    unfold setsByText
    refine wpAny_bind (wpAny_askSetting (wpAny_pure ?_))
    show wpAny (model P w) A (if (w.params.followText "set-order") = true then _ else _) _ _ s
    rw [hb, if_pos rfl]
    refine wpAny_bind (wpAny_askSetting (wpAny_pure ?_))
    refine wpAny_pure ?_
    show Q (((pickOrder (w.params.setOrder a ep) es.toArray)[i]?).map fun e => (e.2, slot)) s
    rw [Array.getElem?_toList] at h
    cases hx : (pickOrder (w.params.setOrder a ep) es.toArray)[i]? with
    | none => rw [hx] at h; exact h
    | some e => rw [hx] at h; exact h slot fun x => by cases x
  | false =>
    rw [hb, if_neg Bool.false_ne_true] at h
    rw [if_neg Bool.false_ne_true]
    refine wpAny_ite ?_
    split
    · rename_i q
      exact absurd (show (!t.plain && decide (es.toArray.size > 1)) = true from q) (by rw [T.plain]; simp)
    · refine wpAny_bind ?_
      show wpAny _ _ ((if (!t.led && !es.toArray.isEmpty) = true then unsupported "set:maker-not-led" else pure PUnit.unit) : Sem PUnit) _ _ _
      rw [T.led, hb, if_neg (by simp)]
      refine wpAny_pure ?_
      refine wpAny_pure ?_
      rw [hs hb]
      rw [List.getElem?_toArray]
      cases hx : es[i]? with
      | none => rw [hx] at h; exact h
      | some e =>
        rw [hx] at h
        have hil : i < t.place.size := by
          have := (List.getElem?_eq_some_iff.mp hx).1
          rw [T.size]; simpa using this
        have hp := Array.getElem?_eq_getElem hil
        rw [hp]
        exact h _ fun _ => below_next T.rise hp

theorem itObj_set0 {slot i n ep : Nat} {a : Addr} {x : Nat} : Obj.mapFields (·.setIfInBounds 0 (rawInt x)) (itObj slot i a n ep) = itObj x i a n ep := rfl
theorem itObj_set1 {slot i n ep : Nat} {a : Addr} : Obj.mapFields (·.setIfInBounds 1 (rawInt ((i : Int) + 1))) (itObj slot i a n ep) = itObj slot (i + 1) a n ep := rfl

def SetSt (w : World) (it a : Addr) (es : List (Int × Value)) (ep : Nat) (t : SetTable) (i : Nat) (h : Heap) : Prop :=
  ∃ slot, h.get? it = some (itObj slot i a es.length ep) ∧ h.get? a = some (setObj es ep t) ∧ (w.params.followText "set-order" = false → SetTable.below t.place slot = i)

theorem walks_set (hh : A.handled = none) (it a : Addr) (hne : a ≠ it) (es : List (Int × Value)) (ep : Nat) (t : SetTable) (T : Tab t es.toArray (!w.params.followText "set-order")) :
    Walks P w A it [it, a] [it] es.length (fun i v => ((walkOf w a ep es)[i]?).map (·.2) = some v) (SetSt w it a es ep t) where
  sub := fun b hb => by simp at hb; simp [hb]
  frame := fun i h h' st hk => by
    obtain ⟨slot, h1, h2, h3⟩ := st
    exact ⟨slot, hk it (by simp) _ h1, hk a (by simp) _ h2, h3⟩
  item := fun i s Q E hi st hQ => by
    obtain ⟨slot, h1, h2, h3⟩ := st
    have hof : t.fits es.toArray.size = true := T.toTab0.fits
    have hil : i < (walkOf w a ep es).length := by rw [(walkOf_perm w a ep es).length_eq]; exact hi
    unfold pyNext
    refine wpAny_bind (wpAny_attempt (wpAny_callSpecial?_slot (name := Str.ofString "__next__") ⟨_, h1, rfl⟩ slot_setiter_next
      (wpAny_call_entry slot_setiter_next ⟨_, h1, rfl⟩ entry_setiter_next ?_ (args_setiter_next _))))
    unfold Builtin.«set_iterator.__next__»
    refine wpAny_bind (m := slotArgs "__next__" 0 _) (wpAny_pure ?_)
    refine wpAny_bind (wpAny_fieldsOf h1 rfl ?_)
    show wpAny _ _ (setEntries a >>= _) _ _ s
    refine wpAny_bind (wpAny_setEntries_of h2 rfl hof ?_)
    rw [if_neg (by simp)]
    show wpAny _ _ (setNext a ((slot : Int).toNat) ((i : Int).toNat) ((ep : Int).toNat) >>= _) _ _ s
    rw [Int.toNat_natCast, Int.toNat_natCast, Int.toNat_natCast]
    have hx : (walkOf w a ep es)[i]? = some (walkOf w a ep es)[i] := List.getElem?_eq_getElem hil
    refine wpAny_bind (setNext_is h2 T h3 ?_)
    rw [hx]
    dsimp only
    intro slot' hs'
    refine wpAny_bind (wpAny_setField h1 rfl (by simp) ?_)
    have g1 := Heap.get?_update_self (Obj.mapFields (·.setIfInBounds 0 (rawInt slot'))) h1 rfl
    rw [itObj_set0] at g1
    refine wpAny_bind (wpAny_setField g1 rfl (by simp) ?_)
    have g2 := Heap.get?_update_self (Obj.mapFields (·.setIfInBounds 1 (rawInt ((i : Int) + 1)))) g1 rfl
    rw [itObj_set1] at g2
    refine wpAny_pure ⟨_, rfl, wpAny_pure ?_⟩
    have oth : ∀ b o, b ≠ it → s.heap.get? b = some o → ((s.heap.update it (Obj.mapFields (·.setIfInBounds 0 (rawInt slot')))).update it (Obj.mapFields (·.setIfInBounds 1 (rawInt ((i : Int) + 1))))).get? b = some o :=
      fun b o hb e => (Heap.get?_update_other _ _ (Ne.symm hb)).trans ((Heap.get?_update_other _ _ (Ne.symm hb)).trans e)
    exact hQ _ _ s.toks (by rw [hx]; rfl) ⟨slot', g2, oth a _ hne h2, hs'⟩ (fun b o hb e => oth b o (fun h => hb (by simp [h])) e)
  done := fun s Q E st hQ => by
    obtain ⟨slot, h1, h2, h3⟩ := st
    have hof : t.fits es.toArray.size = true := T.toTab0.fits
    have hx : (walkOf w a ep es)[es.length]? = none := List.getElem?_eq_none (by rw [(walkOf_perm w a ep es).length_eq]; exact Nat.le_refl _)
    unfold pyNext
    refine wpAny_bind (wpAny_attempt (wpAny_callSpecial?_slot (name := Str.ofString "__next__") ⟨_, h1, rfl⟩ slot_setiter_next
      (wpAny_call_entry slot_setiter_next ⟨_, h1, rfl⟩ entry_setiter_next ?_ (args_setiter_next _))))
    unfold Builtin.«set_iterator.__next__»
    refine wpAny_bind (m := slotArgs "__next__" 0 _) (wpAny_pure ?_)
    refine wpAny_bind (wpAny_fieldsOf h1 rfl ?_)
    show wpAny _ _ (setEntries a >>= _) _ _ s
    refine wpAny_bind (wpAny_setEntries_of h2 rfl hof ?_)
    rw [if_neg (by simp)]
    show wpAny _ _ (setNext a ((slot : Int).toNat) ((es.length : Int).toNat) ((ep : Int).toNat) >>= _) _ _ s
    rw [Int.toNat_natCast, Int.toNat_natCast, Int.toNat_natCast]
    refine wpAny_bind (setNext_is h2 T h3 ?_)
    rw [hx]
    dsimp only
    refine wpAny_bind (wpAny_setField h1 rfl (by simp) ?_)
    show wpAny _ _ (newExc (.type "StopIteration") [] >>= _) _ _ _
    refine wpAny_bind ?_
    simp only [newExc, newTuple]
    refine wpAny_bind (wpAny_newObj_type ?_ (by size_fits))
    refine wpAny_bind (m := firstArgMember _ _) (wpAny_of_eq (a := Value.none) (by first | rfl | (simp only [firstArgMember]; rfl)) ?_)
    refine wpAny_newObj_type ?_ (by size_fits)
    simp only [raiseNew]
    refine wpAny_bind (wpAny_handled ?_)
    rw [show A.in1.handled = none from hh]
    refine wpAny_bind (wpAny_pure (wpAny_throw ?_))
    refine wpAny_bind (wpAny_isInstance (T := "StopIteration") (b := true) ⟨_, Heap.get?_push_size _ rfl, rfl⟩ isSubtype_stop ?_)
    refine wpAny_pure (hQ _ s.toks (fun b o hb e => ?_))
    exact (((Heap.SameBut.update ..).extBut.push _).push _) b o (fun h => hb (by simp [h])) e
  self := fun i s Q E st hQ => by
    obtain ⟨slot, h1, _⟩ := st
    refine wpAny_pyIter_slot ⟨_, h1, rfl⟩ slot_setiter_iter (wpAny_call_entry slot_setiter_iter ⟨_, h1, rfl⟩ entry_setiter_iter ?_ (args_setiter_iter _))
    show wpAny _ _ (ret (.ref it)) _ _ s
    exact wpAny_pure ⟨_, rfl, "set_iterator", _, ⟨_, h1, rfl⟩, slot_setiter_next.lookup, hQ⟩

theorem pyIter_set {a : Addr} {es : List (Int × Value)} {ep : Nat} {t : SetTable} {b : Bool} {Q : Value → Shared → Prop} (ho : s.heap.get? a = some (setObj es ep t)) (T : Tab t es.toArray b)
    (hQ : Q (.ref s.heap.objs.size) { s with heap := s.heap.push (itObj 0 0 a es.length ep) }) : wpAny (model P w) A (pyIter (.ref a)) Q E s := by
  have hof : t.fits es.toArray.size = true := T.toTab0.fits
  refine wpAny_pyIter_slot ⟨_, ho, rfl⟩ F.slot_set_iter (wpAny_call_entry F.slot_set_iter ⟨_, ho, rfl⟩ entry_set_iter ?_ (F.args_set_iter_1 _))
  unfold Builtin.«frozenset.__iter__» Builtin.Frozenset.slot0 slotArgs
  simp only [List.isEmpty_nil, Bool.not_true, Bool.false_eq_true, ↓reduceIte, bind_assoc, List.length_nil, bne_self_eq_false]
  unfold Builtin.Frozenset.addrOf Builtin.Frozenset.sizeOf
  refine wpAny_bind (wpAny_pure ?_)
  try dsimp only
  refine wpAny_bind (wpAny_pure ?_)
  refine wpAny_bind (wpAny_bind (wpAny_setEntries_of ho rfl hof (wpAny_pure ?_)))
  refine wpAny_bind ?_
  refine wpAny_bind ?_
  refine wpAny_setState_of ho rfl hof ?_
  dsimp only
  unfold setsByText
  refine wpAny_bind (wpAny_bind (wpAny_askSetting (wpAny_pure ?_)))
  refine wpAny_pure ?_
  show wpAny _ _ (if (!(w.params.followText "set-order") && (!t.plain && decide (es.toArray.size > 1))) = true then _ else _) _ _ _
  rw [T.plain, if_neg (by simp)]
  refine wpAny_bind (wpAny_pure ?_)
  refine wpAny_bind (wpAny_setEpoch_of ho rfl hof ?_)
  refine wpAny_bind (wpAny_newObj_type ?_)
  have hz : es.toArray.size = es.length := by simp
  rw [hz]
  exact wpAny_pure ⟨_, rfl, "set_iterator", _, ⟨_, Heap.get?_push_size _ rfl, rfl⟩, slot_setiter_next.lookup, hQ⟩

set_option maxHeartbeats 1000000 in
theorem collect_set {a : Addr} {es : List (Int × Value)} {ep : Nat} {t : SetTable} {Q : List Value → Shared → Prop} (hh : A.handled = none) (ho : s.heap.get? a = some (setObj es ep t)) (T : Tab t es.toArray (!w.params.followText "set-order")) (hn : es.length < 4096)
    (hQ : ∀ s' vs, (∀ b o, s.heap.get? b = some o → s'.heap.get? b = some o) → s.heap.objs.size ≤ s'.heap.objs.size → s'.gens = s.gens → s'.drawn = s.drawn → s'.os = s.os → vs.Perm (es.map (·.2)) → Q vs s') : wpAny (model P w) A (collect (.ref a)) Q E s := by
  unfold collect
  refine wpAny_bind (wpAny_runValue (codeAny_builtin F.entry_proto_collect ?_))
  rw [Around.under_plainId F.plain_proto_collect _]
  show wpAny _ A.in1 (newList [] >>= fun l => again (.builtin "list.__iadd__" ⟨[l, .ref a], []⟩)) _ _ s
  refine wpAny_bind (wpAny_newObj_type ?_)
  refine wpAny_pure ⟨plainId_quiet F.plain_list_iadd _, codeAny_builtin F.entry_list_iadd ?_⟩
  rw [Around.under_plainId F.plain_list_iadd _]
  show wpAny _ A.in1 (Builtin.List.listExtendWith (.ref s.heap.objs.size) (.ref a) (.ref s.heap.objs.size)) _ _ _
  generalize hH : s.heap.push { cls := .type "list", data := .seq ([] : List Value).toArray } = H
  have hHs : H.objs.size = s.heap.objs.size + 1 := by rw [← hH, Heap.size_push]
  have hS₁ : H.get? s.heap.objs.size = some { cls := .type "list", data := .seq ([] : List Value).toArray } := hH ▸ Heap.get?_push_size _ rfl
  have ho1 : H.get? a = some (setObj es ep t) := hH ▸ Heap.get?_push_of_some _ ho
  have hal : a < s.heap.objs.size := Heap.lt_size ho
  have hlen := F.slot_set_len
  unfold Builtin.List.listExtendWith
  refine wpAny_bind (wpAny_typeOf (T := "set") ⟨_, ho1, rfl⟩ ?_)
  have h1 : Builtin.List.listSameRef (.ref s.heap.objs.size) (.ref a) = false := by simp [Builtin.List.listSameRef, Nat.ne_of_gt hal]
  have h2 : (Value.type "set" == Value.type "list") = false := by decide
  have h3 : (Value.type "set" == Value.type "tuple") = false := by decide
  simp only [h1, h2, h3, Bool.or_false, Bool.false_eq_true, if_false]
  refine wpAny_bind (pyIter_set (s := { s with heap := H }) ho1 T ?_)
  refine wpAny_bind (wpAny_holding ?_)
  have ho2 : (H.push (itObj 0 0 a es.length ep)).get? a = some (setObj es ep t) := Heap.get?_push_of_some _ ho1
  have hS₂ : (H.push (itObj 0 0 a es.length ep)).get? s.heap.objs.size = some { cls := .type "list", data := .seq ([] : List Value).toArray } := Heap.get?_push_of_some _ hS₁
  have hit2 : (H.push (itObj 0 0 a es.length ep)).get? H.objs.size = some (itObj 0 0 a es.length ep) := Heap.get?_push_size _ rfl
  unfold Builtin.List.listLengthHint
  refine wpAny_bind (wpAny_specialOf (T := "set") ⟨_, ho2, rfl⟩ F.slot_set_len.lookup ?_)
  wp_delta
  refine wpAny_bind (wpAny_isInstance (T := "set") (b := true) ⟨_, ho2, rfl⟩ (by rw [isSubtype_type]; kernel_rfl) ?_)
  show wpAny _ A.in1 (typeOf (Value.ref a) >>= _) _ _ _
  refine wpAny_bind (wpAny_typeOf (T := "set") ⟨_, ho2, rfl⟩ ?_)
  refine wpAny_pure ?_
  show wpAny _ A.in1 (rule "list.extend.makes-room" >>= fun _ => Builtin.List.listTouch (.ref s.heap.objs.size) >>= fun _ =>
    again (.builtin "list.extend.loop" ⟨[.ref s.heap.objs.size, .ref H.objs.size, .ref s.heap.objs.size], []⟩)) _ _ _
  refine wpAny_bind (wpAny_rule ?_)
  refine wpAny_bind ?_
  show wpAny _ A.in1 (updateSeq s.heap.objs.size (·.push .none) >>= fun _ => updateSeq s.heap.objs.size (·.pop)) _ _ _
  refine wpAny_bind (wpAny_updateSeq hS₂ rfl ?_)
  have hS₃ := Heap.get?_update_self (Obj.mapSeq (·.push Value.none)) hS₂ rfl
  refine wpAny_updateSeq hS₃ rfl ?_
  have hS₄ := Heap.get?_update_self (Obj.mapSeq (·.pop)) hS₃ rfl
  have oth : ∀ b o, b ≠ s.heap.objs.size → (H.push (itObj 0 0 a es.length ep)).get? b = some o →
      (((H.push (itObj 0 0 a es.length ep)).update s.heap.objs.size (Obj.mapSeq (·.push Value.none))).update s.heap.objs.size (Obj.mapSeq (·.pop))).get? b = some o :=
    fun b o hb e => (Heap.get?_update_other _ _ (Ne.symm hb)).trans ((Heap.get?_update_other _ _ (Ne.symm hb)).trans e)
  have hneI : a ≠ H.objs.size := by rw [hHs]; exact Nat.ne_of_lt (Nat.lt_succ_of_lt hal)
  have hSH : s.heap.objs.size ≠ H.objs.size := by rw [hHs]; exact Nat.ne_of_lt (Nat.lt_succ_self _)
  have hSf : s.heap.objs.size ∉ [H.objs.size, a] := by
    simp only [List.mem_cons, List.not_mem_nil, or_false, not_or]; exact ⟨hSH, Nat.ne_of_gt hal⟩
  have hst : SetSt w H.objs.size a es ep t 0 (((H.push (itObj 0 0 a es.length ep)).update s.heap.objs.size (Obj.mapSeq (·.push Value.none))).update s.heap.objs.size (Obj.mapSeq (·.pop))) :=
    ⟨0, oth _ _ hSH.symm hit2, oth _ _ (Nat.ne_of_lt hal) ho2, fun _ => below_zero T.rise⟩
  have W := walks_set (P := P) (A := A.in1) (by simpa using hh) H.objs.size a hneI es ep t T
  refine wpAny_pure ⟨plainId_quiet F.plain_extend_loop _, codeAny_extend_loopS W.toS (by rw [sizeLine_eq]; omega) _ hSf _ es.length 0 _ _ _ rfl (Nat.zero_le _) hst hS₄ (ItemsOf.nil _) fun s' acc' c' hm hS' hacc => ?_⟩
  show wpAny _ A (load s.heap.objs.size >>= _) _ _ s'
  refine wpAny_bind (wpAny_load hS' ?_)
  refine wpAny_pure (hQ s' acc'.toList (fun b ob e => hm.heap b ob (fun hb => ?_) (oth b ob (fun q => ?_) (Heap.get?_push_of_some _ (hH ▸ Heap.get?_push_of_some _ e)))) (Nat.le_of_lt (Heap.lt_size hS')) hm.gens hm.drawn hm.os ?_)
  · have hlt := Heap.lt_size e
    rcases List.mem_cons.mp hb with h | h
    · exact absurd hlt (h ▸ Nat.lt_irrefl _)
    · rw [List.mem_singleton.mp h, hHs] at hlt; exact absurd hlt (Nat.not_lt.mpr (Nat.le_succ _))
  · have hlt := Heap.lt_size e
    exact absurd hlt (q ▸ Nat.lt_irrefl _)
  · obtain ⟨hz, hv⟩ := hacc
    have hl2 : (walkOf w a ep es).length = es.length := (walkOf_perm w a ep es).length_eq
    have : acc'.toList = (walkOf w a ep es).map (·.2) := by
      refine List.ext_getElem? fun i => ?_
      rw [List.getElem?_map]
      cases hx : acc'.toList[i]? with
      | none =>
        have h5 := List.getElem?_eq_none_iff.mp hx
        rw [Array.length_toList, hz] at h5
        rw [List.getElem?_eq_none (by omega)]; rfl
      | some v =>
        rw [Array.getElem?_toList] at hx
        exact (hv i v hx).symm
    rw [this]
    exact (walkOf_perm w a ep es).map _
end

section
variable {P : Program} {w : World}
end
end L2

namespace L2
open PySem PyProof.Rows
set_option autoImplicit false

section sim
variable (M : Model) (Γ : Ctx) (s s' : Shared) (kd kd' : SortKind) (φ : Keyed → Keyed)

def mapSt (st : SortSt) : SortSt := SortSt.mk' kd ((arrOf st).map φ) (pendingOf st) (gallopOf st) (failedOf st)

def Sim {α α' : Type} (V : α → α' → Prop) (m : StateT SortSt Sem α) (m' : StateT SortSt Sem α') : Prop :=
  ∀ (st : SortSt) (p p' : Pos) (Q : α' → SortSt → Pos → Shared → Prop), kindOf st = kd' →
    Sem.wp M Γ (m'.run st) (fun r p1 s1 => Q r.1 r.2 p1 s1) (fun _ _ _ => False) p' s' →
    Sem.wp M Γ (m.run (mapSt kd φ st)) (fun r _ s1 => s1 = s ∧ ∃ a' st' p1, V r.1 a' ∧ r.2 = mapSt kd φ st' ∧ kindOf st' = kd' ∧ Q a' st' p1 s') (fun _ _ _ => False) p s
end sim

section sim
variable {M : Model} {Γ : Ctx} {s s' : Shared} {kd kd' : SortKind} {φ : Keyed → Keyed}

theorem sim_pure {α α' : Type} {V : α → α' → Prop} {a : α} {a' : α'} (h : V a a') : Sim M Γ s s' kd kd' φ V (pure a) (pure a') := by
  intro st p p' Q hk hw
  rw [StateT.run_pure, Sem.wp_pure'] at hw ⊢
  exact ⟨rfl, a', st, p', h, rfl, hk, hw⟩
theorem sim_bind {α α' β β' : Type} {V : α → α' → Prop} {W : β → β' → Prop} {m : StateT SortSt Sem α} {m' : StateT SortSt Sem α'} {f : α → StateT SortSt Sem β} {f' : α' → StateT SortSt Sem β'}
    (hm : Sim M Γ s s' kd kd' φ V m m') (hf : ∀ a a', V a a' → Sim M Γ s s' kd kd' φ W (f a) (f' a')) : Sim M Γ s s' kd kd' φ W (m >>= f) (m' >>= f') := by
  intro st p p' Q hk hw
  rw [StateT.run_bind, Sem.wp_bind'] at hw ⊢
  refine Sem.wp_mono M Γ _ (fun r p1 s1 h => ?_) (fun _ _ _ h => h) p s (hm st p p' (fun a st1 p1 s1 => Sem.wp M Γ ((f' a).run st1) (fun r p1 s1 => Q r.1 r.2 p1 s1) (fun _ _ _ => False) p1 s1) hk hw)
  obtain ⟨e, a', st', q1, hv, e2, hk', hq⟩ := h
  subst e
  rw [e2]
  exact hf r.1 a' hv st' p1 q1 Q hk' hq
theorem sim_get : Sim M Γ s s' kd kd' φ (fun a a' => a = mapSt kd φ a' ∧ kindOf a' = kd') get get := by
  intro st p p' Q hk hw
  rw [StateT.run_get, Sem.wp_pure'] at hw ⊢
  exact ⟨rfl, st, st, p', ⟨rfl, hk⟩, rfl, hk, hw⟩
theorem sim_modify {f f' : SortSt → SortSt} (h : ∀ st, kindOf st = kd' → f (mapSt kd φ st) = mapSt kd φ (f' st) ∧ kindOf (f' st) = kd') : Sim M Γ s s' kd kd' φ Eq (modify f) (modify f') := by
  intro st p p' Q hk hw
  have h1 : (modify f' : StateT SortSt Sem PUnit).run st = pure (PUnit.unit, f' st) := rfl
  have h2 : (modify f : StateT SortSt Sem PUnit).run (mapSt kd φ st) = pure (PUnit.unit, f (mapSt kd φ st)) := rfl
  rw [h1, Sem.wp_pure'] at hw
  rw [h2, Sem.wp_pure']
  exact ⟨rfl, _, _, p', rfl, (h st hk).1, (h st hk).2, hw⟩
theorem sim_set {x x' : SortSt} (h : x = mapSt kd φ x') (hx : kindOf x' = kd') : Sim M Γ s s' kd kd' φ Eq (set x) (set x') := by
  intro st p p' Q hk hw
  have h1 : (set x' : StateT SortSt Sem PUnit).run st = pure (PUnit.unit, x') := rfl
  have h2 : (set x : StateT SortSt Sem PUnit).run (mapSt kd φ st) = pure (PUnit.unit, x) := rfl
  rw [h1, Sem.wp_pure'] at hw
  rw [h2, Sem.wp_pure']
  exact ⟨rfl, _, x', p', rfl, h, hx, hw⟩
theorem sim_unsup {α α' : Type} {V : α → α' → Prop} {m : StateT SortSt Sem α} {t : String} : Sim M Γ s s' kd kd' φ V m (liftM (unsupported t : Sem α') : StateT SortSt Sem α') := by
  intro st p p' Q hk hw
  have h1 : (liftM (unsupported t : Sem α') : StateT SortSt Sem α').run st = ((unsupported t : Sem α') >>= fun a => pure (a, st)) := rfl
  rw [h1, Sem.wp_bind'] at hw
  exact hw.elim
theorem sim_unsup' {α α' : Type} {V : α → α' → Prop} {m : StateT SortSt Sem α} {t : String} : Sim M Γ s s' kd kd' φ V m (unsupported t : StateT SortSt Sem α') := sim_unsup
theorem sim_rule {t : String} : Sim M Γ s s' kd kd' φ Eq (rule t : StateT SortSt Sem Unit) (rule t : StateT SortSt Sem Unit) := by
  intro st p p' Q hk hw
  exact ⟨rfl, (), st, p', rfl, rfl, hk, hw⟩

def StepV {β β' : Type} (V : β → β' → Prop) : ForInStep β → ForInStep β' → Prop
  | .done b, .done b' => V b b'
  | .yield b, .yield b' => V b b'
  | _, _ => False
theorem sim_forIn {ι β β' : Type} {V : β → β' → Prop} {f : ι → β → StateT SortSt Sem (ForInStep β)} {f' : ι → β' → StateT SortSt Sem (ForInStep β')} (h : ∀ x b b', V b b' → Sim M Γ s s' kd kd' φ (StepV V) (f x b) (f' x b')) :
    ∀ (l : List ι) (b : β) (b' : β'), V b b' → Sim M Γ s s' kd kd' φ V (forIn l b f) (forIn l b' f')
  | [], b, b', hv => by rw [List.forIn_nil, List.forIn_nil]; exact sim_pure hv
  | x :: l, b, b', hv => by
    rw [List.forIn_cons, List.forIn_cons]
    refine sim_bind (h x b b' hv) fun r r' hr => ?_
    cases r <;> cases r' <;> first | exact hr.elim | skip
    · exact sim_pure hr
    · exact sim_forIn h l _ _ hr
theorem sim_range {β β' : Type} {V : β → β' → Prop} {i j : Nat} {b : β} {b' : β'} {f : Nat → β → StateT SortSt Sem (ForInStep β)} {f' : Nat → β' → StateT SortSt Sem (ForInStep β')} (hv : V b b') (h : ∀ x b b', V b b' → Sim M Γ s s' kd kd' φ (StepV V) (f x b) (f' x b')) :
    Sim M Γ s s' kd kd' φ V (forIn [i:j] b f) (forIn [i:j] b' f') := by
  rw [Std.Legacy.Range.forIn_eq_forIn_range', Std.Legacy.Range.forIn_eq_forIn_range']
  exact sim_forIn h _ b b' hv

theorem sim_elem (arr : Array Keyed) (i : Nat) : Sim M Γ s s' kd kd' φ (fun a a' => a = φ a') (elem' (arr.map φ) i) (elem' arr i) := by
  rw [elem'_eq, elem'_eq, Array.getElem?_map]
  cases arr[i]? with
  | none => exact sim_unsup'
  | some x => exact sim_pure rfl

theorem mirror_map (xs : Array Keyed) (i j d : Nat) : mirror (xs.map φ) i j d = (mirror xs i j d).map φ := PySem.W.kas_swaps_map φ _ _ _ xs
theorem bubble_map (xs : Array Keyed) (k d : Nat) : bubble (xs.map φ) k d = (bubble xs k d).map φ := PySem.W.kas_swaps_map φ _ _ _ xs
theorem sim_reverse (i j : Nat) : Sim M Γ s s' kd kd' φ Eq (reverseSlice' i j) (reverseSlice' i j) := by
  rw [reverseSlice'_eq]
  refine sim_modify fun st hk => ⟨?_, hk⟩
  show SortSt.mk' kd (mirror ((arrOf st).map φ) i j _) _ _ _ = SortSt.mk' kd ((mirror (arrOf st) i j _).map φ) _ _ _
  rw [mirror_map]; rfl
theorem sim_move (i j : Nat) : Sim M Γ s s' kd kd' φ Eq (moveDown' i j) (moveDown' i j) := by
  rw [moveDown'_eq]
  refine sim_modify fun st hk => ⟨?_, hk⟩
  show SortSt.mk' kd (bubble ((arrOf st).map φ) i _) _ _ _ = SortSt.mk' kd ((bubble (arrOf st) i _).map φ) _ _ _
  rw [bubble_map]; rfl
theorem sim_gset (g : Nat) : Sim M Γ s s' kd kd' φ Eq (setMinGallop' g) (setMinGallop' g) := by
  rw [setMinGallop'_eq]
  exact sim_modify fun st hk => ⟨rfl, hk⟩

def SimLt (M : Model) (Γ : Ctx) (s s' : Shared) (kd kd' : SortKind) (φ : Keyed → Keyed) : Prop := ∀ x y : Keyed, Sim M Γ s s' kd kd' φ Eq (lt' (φ x) (φ y)) (lt' x y)
variable (HB : SimLt M Γ s s' kd kd' φ)
include HB
theorem sim_ltAt (i j : Nat) : Sim M Γ s s' kd kd' φ Eq (ltAt' i j) (ltAt' i j) := by
  rw [ltAt'_eq]
  refine sim_bind sim_get fun a a' h => ?_
  obtain ⟨rfl, _⟩ := h
  refine sim_bind (sim_elem (arrOf a') i) fun x x' hx => ?_
  subst hx
  refine sim_bind (sim_elem (arrOf a') j) fun y y' hy => ?_
  subst hy
  exact HB x' y'
omit HB in
theorem step_done {β : Type} {b : β} : StepV Eq (ForInStep.done b) (ForInStep.done b) := rfl
omit HB in
theorem step_yield {β : Type} {b : β} : StepV Eq (ForInStep.yield b) (ForInStep.yield b) := rfl
theorem sim_count (lo nrem : Nat) : Sim M Γ s s' kd kd' φ Eq (countRun' lo nrem) (countRun' lo nrem) := by
  rw [countRun'_eq]
  dsimp only
  repeat' (first | exact sim_pure rfl | exact sim_pure step_done | exact sim_pure step_yield | exact sim_unsup' | exact sim_ltAt HB _ _ | (refine sim_bind (V := Eq) (sim_ltAt HB _ _) (fun r r' hr => ?_); cases hr; cases r <;> dsimp only) | (refine sim_bind (V := Eq) (sim_reverse _ _) (fun r r' hr => ?_); cases hr; try dsimp only) | (refine sim_bind (V := Eq) (sim_move _ _) (fun r r' hr => ?_); cases hr; try dsimp only) | (refine sim_bind (V := Eq) sim_rule (fun r r' hr => ?_); cases hr; try dsimp only) | (refine sim_bind (V := Eq) (sim_range (V := Eq) rfl (fun i c c' hc => ?_)) (fun r r' hr => ?_); (case' refine_1 => (cases hc; try dsimp only)); (case' refine_2 => (cases hr; try dsimp only))) | split)
theorem sim_binary (lo n ok : Nat) : Sim M Γ s s' kd kd' φ Eq (binarySort' lo n ok) (binarySort' lo n ok) := by
  rw [binarySort'_eq]
  dsimp only
  repeat' (first | exact sim_pure rfl | exact sim_pure step_done | exact sim_pure step_yield | exact sim_unsup' | exact sim_ltAt HB _ _ | (refine sim_bind (V := Eq) (sim_ltAt HB _ _) (fun r r' hr => ?_); cases hr; cases r <;> dsimp only) | (refine sim_bind (V := Eq) (sim_reverse _ _) (fun r r' hr => ?_); cases hr; try dsimp only) | (refine sim_bind (V := Eq) (sim_move _ _) (fun r r' hr => ?_); cases hr; try dsimp only) | (refine sim_bind (V := Eq) sim_rule (fun r r' hr => ?_); cases hr; try dsimp only) | (refine sim_bind (V := Eq) (sim_range (V := Eq) rfl (fun i c c' hc => ?_)) (fun r r' hr => ?_); (case' refine_1 => (cases hc; try dsimp only)); (case' refine_2 => (cases hr; try dsimp only))) | split)
theorem sim_beyond (left : Bool) (key : Keyed) (arr : Array Keyed) (base i : Nat) : Sim M Γ s s' kd kd' φ Eq (beyond' left (φ key) (arr.map φ) base i) (beyond' left key arr base i) := by
  unfold beyond'
  refine sim_bind (sim_elem arr (base + i)) fun x x' hx => ?_
  subst hx
  cases left
  · simp only [Bool.false_eq_true, if_false]
    refine sim_bind (V := Eq) (HB key x') fun r r' hr => ?_
    subst hr
    exact sim_pure rfl
  · simp only [if_true]
    exact HB x' key
theorem sim_gallop (left : Bool) (key : Keyed) (arr : Array Keyed) (base n hint : Nat) : Sim M Γ s s' kd kd' φ Eq (gallop' left (φ key) (arr.map φ) base n hint) (gallop' left key arr base n hint) := by
  rw [gallop'_eq, gallop'_eq]
  dsimp only
  repeat' (first | exact sim_pure rfl | exact sim_pure step_done | exact sim_pure step_yield | exact sim_unsup' | (refine sim_bind (V := Eq) (sim_beyond HB _ _ _ _ _) (fun r r' hr => ?_); cases hr; cases r <;> dsimp only) | (refine sim_bind (V := Eq) (sim_range (V := Eq) rfl (fun i c c' hc => ?_)) (fun r r' hr => ?_); (case' refine_1 => (cases hc; try dsimp only)); (case' refine_2 => (cases hr; try dsimp only))) | split)
end sim
end L2

namespace L2
open PySem PyProof.Rows
set_option autoImplicit false
section sim
variable {M : Model} {Γ : Ctx} {s s' : Shared} {kd kd' : SortKind} {φ : Keyed → Keyed}
theorem sim_ite {α α' : Type} {V : α → α' → Prop} {c : Prop} [Decidable c] {m n : StateT SortSt Sem α} {m' n' : StateT SortSt Sem α'} (h1 : c → Sim M Γ s s' kd kd' φ V m m') (h2 : ¬ c → Sim M Γ s s' kd kd' φ V n n') : Sim M Γ s s' kd kd' φ V (if c then m else n) (if c then m' else n') := by
  by_cases h : c
  · rw [if_pos h, if_pos h]; exact h1 h
  · rw [if_neg h, if_neg h]; exact h2 h
def RO (φ : Keyed → Keyed) {ρ : Type} (b b' : Option (Array Keyed) × Array Keyed × ρ) : Prop := b = (b'.1.map (Array.map φ), b'.2.1.map φ, b'.2.2)
def RP (φ : Keyed → Keyed) {ρ : Type} (b b' : Option (Array Keyed) × Nat × Nat × Array Keyed × ρ) : Prop := b = (b'.1.map (Array.map φ), b'.2.1, b'.2.2.1, b'.2.2.2.1.map φ, b'.2.2.2.2)
variable (HB : SimLt M Γ s s' kd kd' φ)
include HB
set_option maxHeartbeats 4000000 in
theorem sim_lo (a b : Array Keyed) : Sim M Γ s s' kd kd' φ (fun x x' => x = x'.map φ) (mergeLo' (a.map φ) (b.map φ)) (mergeLo' a b) := by
  rw [mergeLo'_eq, mergeLo'_eq]
  refine sim_bind (V := Eq) sim_rule fun _ _ _ => ?_
  refine sim_bind (sim_elem b 0) fun x x' hx => ?_
  subst hx
  rw [show (a.map φ).size = a.size from Array.size_map, show (b.map φ).size = b.size from Array.size_map]
  refine sim_ite (fun _ => sim_pure ?_) fun _ => sim_ite (fun _ => sim_pure ?_) fun _ => sim_bind sim_get fun g g' hg => ?_
  · (simp only [StepV, RO, RP, mapSt, Option.map_none, Option.map_some, Array.map_append, Array.map_extract, Array.map_push, Array.map_reverse, List.map_toArray, List.map_cons, List.map_nil]; try rfl)
  · (simp only [StepV, RO, RP, mapSt, Option.map_none, Option.map_some, Array.map_append, Array.map_extract, Array.map_push, Array.map_reverse, List.map_toArray, List.map_cons, List.map_nil]; try rfl)
  · obtain ⟨rfl, hg⟩ := hg
    refine sim_bind (V := RO φ) (sim_range (V := RO φ) ?_ fun i c c' hc => ?_) fun r r' hr => ?_
    · (simp only [StepV, RO, RP, mapSt, Option.map_none, Option.map_some, Array.map_append, Array.map_extract, Array.map_push, Array.map_reverse, List.map_toArray, List.map_cons, List.map_nil]; try rfl)
    · subst hc
      obtain ⟨ret, out, ia, ib, mg⟩ := c'
      refine sim_bind (V := RO φ) (sim_range (V := RO φ) ?_ fun i c c' hc => ?_) fun r r' hr => ?_
      · (simp only [StepV, RO, RP, mapSt, Option.map_none, Option.map_some, Array.map_append, Array.map_extract, Array.map_push, Array.map_reverse, List.map_toArray, List.map_cons, List.map_nil]; try rfl)
      · subst hc
        obtain ⟨ret, out, ia, ib, ac, bc⟩ := c'
        repeat' (first | exact sim_unsup' | refine sim_ite (fun _ => ?_) (fun _ => ?_) | (refine sim_bind (sim_elem _ _) (fun x x' hx => ?_); subst hx) | (refine sim_bind (V := Eq) (HB _ _) (fun r r' hr => ?_); subst hr; cases r) | (refine sim_bind (V := Eq) (sim_gallop HB _ _ _ _ _ _) (fun r r' hr => ?_); subst hr; cases r) | (refine sim_bind (V := Eq) (sim_gset _) (fun r r' hr => ?_); subst hr) | (refine sim_bind (V := Eq) sim_rule (fun r r' hr => ?_); subst hr) | (refine sim_pure ?_; (simp only [StepV, RO, RP, mapSt, Option.map_none, Option.map_some, Array.map_append, Array.map_extract, Array.map_push, Array.map_reverse, List.map_toArray, List.map_cons, List.map_nil]; try rfl)))
      · subst hr
        obtain ⟨ret, out, ia, ib, ac, bc⟩ := r'
        cases ret with
        | some x => refine sim_pure ?_; (simp only [StepV, RO, RP, mapSt, Option.map_none, Option.map_some, Array.map_append, Array.map_extract, Array.map_push, Array.map_reverse, List.map_toArray, List.map_cons, List.map_nil]; try rfl)
        | none =>
          refine sim_bind (V := Eq) sim_rule fun _ _ _ => ?_
          refine sim_bind (V := RO φ) (sim_range (V := RO φ) ?_ fun i c c' hc => ?_) fun r r' hr => ?_
          · (simp only [StepV, RO, RP, mapSt, Option.map_none, Option.map_some, Array.map_append, Array.map_extract, Array.map_push, Array.map_reverse, List.map_toArray, List.map_cons, List.map_nil]; try rfl)
          · subst hc
            obtain ⟨ret, out, ia, ib, mg, ac, bc⟩ := c'
            repeat' (first | exact sim_unsup' | refine sim_ite (fun _ => ?_) (fun _ => ?_) | (refine sim_bind (sim_elem _ _) (fun x x' hx => ?_); subst hx) | (refine sim_bind (V := Eq) (HB _ _) (fun r r' hr => ?_); subst hr; cases r) | (refine sim_bind (V := Eq) (sim_gallop HB _ _ _ _ _ _) (fun r r' hr => ?_); subst hr; cases r) | (refine sim_bind (V := Eq) (sim_gset _) (fun r r' hr => ?_); subst hr) | (refine sim_bind (V := Eq) sim_rule (fun r r' hr => ?_); subst hr) | (refine sim_pure ?_; (simp only [StepV, RO, RP, mapSt, Option.map_none, Option.map_some, Array.map_append, Array.map_extract, Array.map_push, Array.map_reverse, List.map_toArray, List.map_cons, List.map_nil]; try rfl)))
          · subst hr
            obtain ⟨ret, out, ia, ib, mg, ac, bc⟩ := r'
            cases ret with
            | some x => refine sim_pure ?_; (simp only [StepV, RO, RP, mapSt, Option.map_none, Option.map_some, Array.map_append, Array.map_extract, Array.map_push, Array.map_reverse, List.map_toArray, List.map_cons, List.map_nil]; try rfl)
            | none => repeat' (first | exact sim_unsup' | refine sim_ite (fun _ => ?_) (fun _ => ?_) | (refine sim_bind (sim_elem _ _) (fun x x' hx => ?_); subst hx) | (refine sim_bind (V := Eq) (HB _ _) (fun r r' hr => ?_); subst hr; cases r) | (refine sim_bind (V := Eq) (sim_gallop HB _ _ _ _ _ _) (fun r r' hr => ?_); subst hr; cases r) | (refine sim_bind (V := Eq) (sim_gset _) (fun r r' hr => ?_); subst hr) | (refine sim_bind (V := Eq) sim_rule (fun r r' hr => ?_); subst hr) | (refine sim_pure ?_; (simp only [StepV, RO, RP, mapSt, Option.map_none, Option.map_some, Array.map_append, Array.map_extract, Array.map_push, Array.map_reverse, List.map_toArray, List.map_cons, List.map_nil]; try rfl)))
    · subst hr
      obtain ⟨ret, out, ia, ib, mg⟩ := r'
      cases ret with
      | some x => exact sim_pure rfl
      | none => exact sim_unsup'
end sim
end L2

namespace L2
open PySem PyProof.Rows
set_option autoImplicit false
section sim
variable {M : Model} {Γ : Ctx} {s s' : Shared} {kd kd' : SortKind} {φ : Keyed → Keyed}
variable (HB : SimLt M Γ s s' kd kd' φ)
include HB
set_option maxHeartbeats 4000000 in
theorem sim_hi (a b : Array Keyed) : Sim M Γ s s' kd kd' φ (fun x x' => x = x'.map φ) (mergeHi' (a.map φ) (b.map φ)) (mergeHi' a b) := by
  rw [mergeHi'_eq, mergeHi'_eq]
  rw [show (a.map φ).size = a.size from Array.size_map, show (b.map φ).size = b.size from Array.size_map]
  refine sim_bind (V := Eq) sim_rule fun _ _ _ => ?_
  refine sim_bind (sim_elem a _) fun x x' hx => ?_
  subst hx
  refine sim_ite (fun _ => sim_pure ?_) fun _ => sim_ite (fun _ => sim_pure ?_) fun _ => sim_bind sim_get fun g g' hg => ?_
  · (simp only [StepV, RO, RP, mapSt, Option.map_none, Option.map_some, Array.map_append, Array.map_extract, Array.map_push, Array.map_reverse, List.map_toArray, List.map_cons, List.map_nil]; try rfl)
  · (simp only [StepV, RO, RP, mapSt, Option.map_none, Option.map_some, Array.map_append, Array.map_extract, Array.map_push, Array.map_reverse, List.map_toArray, List.map_cons, List.map_nil]; try rfl)
  · obtain ⟨rfl, hg⟩ := hg
    refine sim_bind (V := RP φ) (sim_range (V := RP φ) ?_ fun i c c' hc => ?_) fun r r' hr => ?_
    · (simp only [StepV, RO, RP, mapSt, Option.map_none, Option.map_some, Array.map_append, Array.map_extract, Array.map_push, Array.map_reverse, List.map_toArray, List.map_cons, List.map_nil]; try rfl)
    · subst hc
      obtain ⟨ret, na, nb, out, mg⟩ := c'
      refine sim_bind (V := RP φ) (sim_range (V := RP φ) ?_ fun i c c' hc => ?_) fun r r' hr => ?_
      · (simp only [StepV, RO, RP, mapSt, Option.map_none, Option.map_some, Array.map_append, Array.map_extract, Array.map_push, Array.map_reverse, List.map_toArray, List.map_cons, List.map_nil]; try rfl)
      · subst hc
        obtain ⟨ret, na, nb, out, ac, bc⟩ := c'
        repeat' (first | exact sim_unsup' | refine sim_ite (fun _ => ?_) (fun _ => ?_) | (refine sim_bind (sim_elem _ _) (fun x x' hx => ?_); subst hx) | (refine sim_bind (V := Eq) (HB _ _) (fun r r' hr => ?_); subst hr; cases r) | (refine sim_bind (V := Eq) (sim_gallop HB _ _ _ _ _ _) (fun r r' hr => ?_); subst hr; cases r) | (refine sim_bind (V := Eq) (sim_gset _) (fun r r' hr => ?_); subst hr) | (refine sim_bind (V := Eq) sim_rule (fun r r' hr => ?_); subst hr) | (refine sim_pure ?_; (simp only [StepV, RO, RP, mapSt, Option.map_none, Option.map_some, Array.map_append, Array.map_extract, Array.map_push, Array.map_reverse, List.map_toArray, List.map_cons, List.map_nil]; try rfl)))
      · subst hr
        obtain ⟨ret, na, nb, out, ac, bc⟩ := r'
        cases ret with
        | some x => refine sim_pure ?_; (simp only [StepV, RO, RP, mapSt, Option.map_none, Option.map_some, Array.map_append, Array.map_extract, Array.map_push, Array.map_reverse, List.map_toArray, List.map_cons, List.map_nil]; try rfl)
        | none =>
          refine sim_bind (V := Eq) sim_rule fun _ _ _ => ?_
          refine sim_bind (V := RP φ) (sim_range (V := RP φ) ?_ fun i c c' hc => ?_) fun r r' hr => ?_
          · (simp only [StepV, RO, RP, mapSt, Option.map_none, Option.map_some, Array.map_append, Array.map_extract, Array.map_push, Array.map_reverse, List.map_toArray, List.map_cons, List.map_nil]; try rfl)
          · subst hc
            obtain ⟨ret, na, nb, out, mg, ac, bc⟩ := c'
            repeat' (first | exact sim_unsup' | refine sim_ite (fun _ => ?_) (fun _ => ?_) | (refine sim_bind (sim_elem _ _) (fun x x' hx => ?_); subst hx) | (refine sim_bind (V := Eq) (HB _ _) (fun r r' hr => ?_); subst hr; cases r) | (refine sim_bind (V := Eq) (sim_gallop HB _ _ _ _ _ _) (fun r r' hr => ?_); subst hr; cases r) | (refine sim_bind (V := Eq) (sim_gset _) (fun r r' hr => ?_); subst hr) | (refine sim_bind (V := Eq) sim_rule (fun r r' hr => ?_); subst hr) | (refine sim_pure ?_; (simp only [StepV, RO, RP, mapSt, Option.map_none, Option.map_some, Array.map_append, Array.map_extract, Array.map_push, Array.map_reverse, List.map_toArray, List.map_cons, List.map_nil]; try rfl)))
          · subst hr
            obtain ⟨ret, na, nb, out, mg, ac, bc⟩ := r'
            cases ret with
            | some x => refine sim_pure ?_; (simp only [StepV, RO, RP, mapSt, Option.map_none, Option.map_some, Array.map_append, Array.map_extract, Array.map_push, Array.map_reverse, List.map_toArray, List.map_cons, List.map_nil]; try rfl)
            | none => repeat' (first | exact sim_unsup' | refine sim_ite (fun _ => ?_) (fun _ => ?_) | (refine sim_bind (sim_elem _ _) (fun x x' hx => ?_); subst hx) | (refine sim_bind (V := Eq) (HB _ _) (fun r r' hr => ?_); subst hr; cases r) | (refine sim_bind (V := Eq) (sim_gallop HB _ _ _ _ _ _) (fun r r' hr => ?_); subst hr; cases r) | (refine sim_bind (V := Eq) (sim_gset _) (fun r r' hr => ?_); subst hr) | (refine sim_bind (V := Eq) sim_rule (fun r r' hr => ?_); subst hr) | (refine sim_pure ?_; (simp only [StepV, RO, RP, mapSt, Option.map_none, Option.map_some, Array.map_append, Array.map_extract, Array.map_push, Array.map_reverse, List.map_toArray, List.map_cons, List.map_nil]; try rfl)))
    · subst hr
      obtain ⟨ret, na, nb, out, mg⟩ := r'
      cases ret with
      | some x => exact sim_pure rfl
      | none => exact sim_unsup'
end sim
end L2

namespace L2
open PySem PyProof.Rows
set_option autoImplicit false
section sim
variable {M : Model} {Γ : Ctx} {s s' : Shared} {kd kd' : SortKind} {φ : Keyed → Keyed}
variable (HB : SimLt M Γ s s' kd kd' φ)
include HB
omit HB in
theorem writeBack_map (base : Nat) : ∀ (l : List Keyed) (n : Nat) (xs : Array Keyed),
    ((l.map φ).zipIdx n).foldl (fun a (p, j) => a.setIfInBounds (base + j) p) (xs.map φ) = ((l.zipIdx n).foldl (fun a (p, j) => a.setIfInBounds (base + j) p) xs).map φ
  | [], n, xs => rfl
  | x :: l, n, xs => by
    rw [List.map_cons, List.zipIdx_cons, List.zipIdx_cons, List.foldl_cons, List.foldl_cons, ← writeBack_map base l (n + 1)]
    congr 1
    exact (Array.map_setIfInBounds).symm
theorem sim_mergeAt (i : Nat) : Sim M Γ s s' kd kd' φ Eq (mergeAt' i) (mergeAt' i) := by
  rw [mergeAt'_eq]
  refine sim_bind sim_get fun g g' hg => ?_
  obtain ⟨rfl, hg⟩ := hg
  show Sim M Γ s s' kd kd' φ Eq (match ((pendingOf g')[i]?, (pendingOf g')[i + 1]?) with | (some (sa, na, power), some (sb, nb, _)) => _ | _ => _) _
  rcases h1 : (pendingOf g')[i]? with _ | ⟨sa, na, pw⟩
  · exact sim_unsup'
  rcases h2 : (pendingOf g')[i + 1]? with _ | ⟨sb, nb, pw2⟩
  · exact sim_unsup'
  refine sim_bind (V := Eq) (sim_set rfl hg) fun _ _ _ => ?_
  refine sim_bind (sim_elem (arrOf g') _) fun x x' hx => ?_
  subst hx
  refine sim_bind (V := Eq) (sim_gallop HB _ _ (arrOf g') _ _ _) fun r r' hr => ?_
  subst hr
  cases r with
  | none => exact sim_pure rfl
  | some k =>
    refine sim_ite (fun _ => sim_pure rfl) fun _ => ?_
    refine sim_bind (sim_elem (arrOf g') _) fun x x' hx => ?_
    subst hx
    refine sim_bind (V := Eq) (sim_gallop HB _ _ (arrOf g') _ _ _) fun r r' hr => ?_
    subst hr
    cases r with
    | none => exact sim_pure rfl
    | some nb =>
      refine sim_ite (fun _ => sim_pure rfl) fun _ => ?_
      have tail : ∀ (x x' : Array Keyed), x = x'.map φ → Sim M Γ s s' kd kd' φ Eq
          (do modify (fun st => setArr st (x.toList.zipIdx.foldl (fun a (p, j) => a.setIfInBounds (sa + k + j) p) (arrOf st))); return (failedOf (← get)).isNone)
          (do modify (fun st => setArr st (x'.toList.zipIdx.foldl (fun a (p, j) => a.setIfInBounds (sa + k + j) p) (arrOf st))); return (failedOf (← get)).isNone) := fun x x' hx => by
        subst hx
        refine sim_bind (V := Eq) (sim_modify fun st hk => ⟨?_, hk⟩) fun _ _ _ => ?_
        · show SortSt.mk' kd ((x'.map φ).toList.zipIdx.foldl (fun a (p, j) => a.setIfInBounds (sa + k + j) p) ((arrOf st).map φ)) _ _ _ = SortSt.mk' kd ((x'.toList.zipIdx.foldl (fun a (p, j) => a.setIfInBounds (sa + k + j) p) (arrOf st)).map φ) _ _ _
          rw [Array.toList_map, writeBack_map]; rfl
        · refine sim_bind sim_get fun g g' hg => ?_
          obtain ⟨rfl, hg⟩ := hg
          exact sim_pure rfl
      have e1 : ∀ i j, (arrOf (mapSt kd φ g')).extract i j = ((arrOf g').extract i j).map φ := fun i j => (Array.map_extract).symm
      refine sim_ite (fun _ => ?_) fun _ => ?_
      · rw [e1, e1]
        exact sim_bind (sim_lo HB _ _) fun x x' hx => tail x x' hx
      · rw [e1, e1]
        exact sim_bind (sim_hi HB _ _) fun x x' hx => tail x x' hx
omit HB in
theorem pend_map (st : SortSt) : pendingOf (mapSt kd φ st) = pendingOf st := rfl
theorem sim_inner (size pw : Nat) : Sim M Γ s s' kd kd' φ Eq
    (forIn [:size] ((none : Option Unit), ()) fun _ _ => do
      let p := pendingOf (← get)
      match if p.size > 1 then p[p.size - 2]? else none with
      | some (_, _, older) =>
        if older ≤ pw then pure (ForInStep.done (none, ()))
        else do
          let d ← mergeAt' (p.size - 2)
          if (!d) = true then pure (ForInStep.done (some (), ())) else pure (ForInStep.yield (none, ()))
      | _ => pure (ForInStep.done (none, ())))
    (forIn [:size] ((none : Option Unit), ()) fun _ _ => do
      let p := pendingOf (← get)
      match if p.size > 1 then p[p.size - 2]? else none with
      | some (_, _, older) =>
        if older ≤ pw then pure (ForInStep.done (none, ()))
        else do
          let d ← mergeAt' (p.size - 2)
          if (!d) = true then pure (ForInStep.done (some (), ())) else pure (ForInStep.yield (none, ()))
      | _ => pure (ForInStep.done (none, ()))) := by
  refine sim_range (V := Eq) rfl fun _ b b' hb => ?_
  subst hb
  refine sim_bind sim_get fun g g' hg => ?_
  obtain ⟨rfl, hg⟩ := hg
  rw [pend_map]
  dsimp only
  rcases hq : (if (pendingOf g').size > 1 then (pendingOf g')[(pendingOf g').size - 2]? else none) with _ | ⟨x, y, older⟩
  · exact sim_pure step_done
  · refine sim_ite (fun _ => sim_pure step_done) fun _ => ?_
    refine sim_bind (V := Eq) (sim_mergeAt HB _) fun r r' hr => ?_
    subst hr
    exact sim_ite (fun _ => sim_pure step_done) fun _ => sim_pure step_yield
theorem sim_runs : Sim M Γ s s' kd kd' φ Eq sortRuns' sortRuns' := by
  rw [sortRuns'_eq]
  refine sim_bind sim_get fun g g' hg => ?_
  obtain ⟨rfl, hg⟩ := hg
  rw [show (arrOf (mapSt kd φ g')).size = (arrOf g').size from Array.size_map]
  refine sim_bind (V := Eq) (sim_range (V := Eq) rfl fun _ b b' hb => ?_) fun r r' hr => ?_
  · subst hb
    obtain ⟨o, lo⟩ := b
    refine sim_ite (fun _ => sim_pure step_done) fun _ => ?_
    refine sim_bind (V := Eq) (sim_count HB _ _) fun r r' hr => ?_
    subst hr
    cases r with
    | none => exact sim_pure step_done
    | some found =>
      refine sim_ite (fun _ => ?_) fun _ => ?_
      · refine sim_bind (V := Eq) sim_rule fun _ _ _ => ?_
        refine sim_bind (V := Eq) (sim_binary HB _ _ _) fun r r' hr => ?_
        subst hr
        refine sim_ite (fun _ => sim_pure step_done) fun _ => ?_
        refine sim_bind sim_get fun u u' hu => ?_
        rw [hu.1, pend_map]
        dsimp only
        rcases hb : (pendingOf u').back? with _ | ⟨s1, n1, z⟩
        · exact sim_bind (V := Eq) (sim_modify fun st hk => ⟨rfl, hk⟩) fun _ _ _ => sim_pure step_yield
        · refine sim_bind (V := Eq) (sim_inner HB _ _) fun r r' hr => ?_
          subst hr
          obtain ⟨r, u⟩ := r
          cases r with
          | some x => exact sim_pure step_done
          | none => exact sim_bind (V := Eq) (sim_modify fun st hk => ⟨rfl, hk⟩) fun _ _ _ => sim_bind (V := Eq) (sim_modify fun st hk => ⟨rfl, hk⟩) fun _ _ _ => sim_pure step_yield
      · refine sim_bind sim_get fun u u' hu => ?_
        rw [hu.1, pend_map]
        dsimp only
        rcases hb : (pendingOf u').back? with _ | ⟨s1, n1, z⟩
        · exact sim_bind (V := Eq) (sim_modify fun st hk => ⟨rfl, hk⟩) fun _ _ _ => sim_pure step_yield
        · refine sim_bind (V := Eq) (sim_inner HB _ _) fun r r' hr => ?_
          subst hr
          obtain ⟨r, u⟩ := r
          cases r with
          | some x => exact sim_pure step_done
          | none => exact sim_bind (V := Eq) (sim_modify fun st hk => ⟨rfl, hk⟩) fun _ _ _ => sim_bind (V := Eq) (sim_modify fun st hk => ⟨rfl, hk⟩) fun _ _ _ => sim_pure step_yield
  · subst hr
    obtain ⟨o, lo⟩ := r
    cases o with
    | some x => exact sim_pure rfl
    | none =>
      refine sim_bind (V := Eq) (sim_range (V := Eq) rfl fun _ b b' hb => ?_) fun r r' hr => ?_
      · subst hb
        refine sim_bind sim_get fun g g' hg => ?_
        obtain ⟨rfl, hg⟩ := hg
        rw [pend_map]
        refine sim_ite (fun _ => sim_pure step_done) fun _ => ?_
        refine sim_bind (V := Eq) (sim_mergeAt HB _) fun r r' hr => ?_
        subst hr
        exact sim_ite (fun _ => sim_pure step_done) fun _ => sim_pure step_yield
      · subst hr
        obtain ⟨o, u⟩ := r
        cases o with
        | some x => exact sim_pure rfl
        | none => exact sim_pure rfl
end sim
end L2

namespace L2
open PySem PyProof.Rows
set_option autoImplicit false

def standObj (r : Nat) : Obj := { cls := .type "tuple", data := .seq (Array.replicate r Value.none) 0 }
def Stands (h : Heap) (rk : Nat → Option Nat) : Prop := ∀ i, h.get? i = (rk i).map standObj

section
variable {M : Model} {Γ : Ctx} {s' : Shared} {rk : Nat → Option Nat} {p : Pos} {E : Value → Pos → Shared → Prop}

theorem items_stand (H : Stands s'.heap rk) {v : Value} {R : Array Value → Pos → Shared → Prop} (h : Sem.wp M Γ (Builtin.List.listItems v) R E p s') :
    ∃ i r, v = Value.ref i ∧ rk i = some r ∧ R (Array.replicate r Value.none) p s' := by
  unfold Builtin.List.listItems at h
  rw [Sem.wp_bind'] at h
  cases v with
  | ref i =>
    have h1 : Sem.wp M Γ (load i >>= fun o => match o.data with | .seq xs _ => pure (some xs) | _ => pure none) (fun x p' s1 => Sem.wp M Γ (match x with | some xs => pure xs | none => unsupported "internal:list-without-items") R E p' s1) E p s' := h
    rw [Sem.wp_bind', Sem.wp_cmd_load] at h1
    obtain ⟨o, ho, h1⟩ := h1
    rw [H i] at ho
    cases hr : rk i with
    | none => rw [hr] at ho; cases ho
    | some r =>
      rw [hr] at ho
      cases ho
      exact ⟨i, r, rfl, hr, h1⟩
  | builtin id =>
    exfalso
    have h1 : Sem.wp M Γ (notAStandIn (.builtin id) >>= fun _ => pure none) (fun x p' s1 => Sem.wp M Γ (match x with | some xs => pure xs | none => unsupported "internal:list-without-items") R E p' s1) E p s' := h
    rw [Sem.wp_bind'] at h1
    have h1 : Sem.wp M Γ (if (withoutEnding? id "#opaque").isSome = true then unsupported id else pure ()) (fun x p' s1 => Sem.wp M Γ (pure none) (fun x p' s1 => Sem.wp M Γ (match x with | some xs => pure xs | none => unsupported "internal:list-without-items") R E p' s1) E p' s1) E p s' := h1
    cases hq : (withoutEnding? id "#opaque").isSome with
    | true => rw [hq, if_pos rfl] at h1; exact h1
    | false => rw [hq, if_neg Bool.false_ne_true] at h1; exact h1
  | _ => exact (h : False).elim

theorem eq_none {R : Bool → Pos → Shared → Prop} (h : Sem.wp M Γ (eqBool Value.none Value.none) R E p s') : R true p s' := h

theorem loop_stand {b : Bool} : ∀ (l : List ((Value × Value) × Nat)) (R : Option Bool × Unit → Pos → Shared → Prop) (p : Pos), (∀ q ∈ l, q.1 = (Value.none, Value.none)) →
    Sem.wp M Γ (forIn l ((none : Option Bool), ()) fun (x : (Value × Value) × Nat) (_ : Option Bool × Unit) => do
      let e ← eqBool x.1.1 x.1.2
      if (!e) = true then do
        let r ← oneLt' (b && x.2 == 0) x.1.1 x.1.2
        pure (ForInStep.done (some r, ()))
      else pure (ForInStep.yield (none, ()))) R E p s' → R (none, ()) p s'
  | [], R, p, _, h => by
    rw [List.forIn_nil, Sem.wp_pure'] at h
    exact h
  | x :: l, R, p, hl, h => by
    have hx := hl x List.mem_cons_self
    obtain ⟨⟨u, v⟩, i⟩ := x
    cases hx
    rw [List.forIn_cons, Sem.wp_bind', Sem.wp_bind'] at h
    have h2 := eq_none h
    exact loop_stand l R p (fun q hq => hl q (List.mem_cons_of_mem _ hq)) h2

theorem lt_stand (H : Stands s'.heap rk) {b : Bool} {x y : Value} {R : Bool → Pos → Shared → Prop} (h : Sem.wp M Γ (keyLt' (tuples' b) x y) R E p s') :
    ∃ i j r q, x = Value.ref i ∧ y = Value.ref j ∧ rk i = some r ∧ rk j = some q ∧ R (decide (r < q)) p s' := by
  rw [kat_lt_eq, Sem.wp_bind'] at h
  obtain ⟨i, r, rfl, hi, h⟩ := items_stand H h
  rw [Sem.wp_bind'] at h
  obtain ⟨j, q, rfl, hj, h⟩ := items_stand H h
  refine ⟨i, j, r, q, rfl, rfl, hi, hj, ?_⟩
  rw [Sem.wp_bind'] at h
  have h3 := loop_stand (b := b) _ _ _ (fun z hz => ?_) h
  · have h4 : R (decide ((Array.replicate r Value.none).size < (Array.replicate q Value.none).size)) p s' := h3
    simpa using h4
  · obtain ⟨⟨u, v⟩, k⟩ := z
    have := List.mem_zipIdx hz
    have hm : (u, v) ∈ (Array.replicate r Value.none).toList.zip (Array.replicate q Value.none).toList := by
      rw [this.2.2]; exact List.getElem_mem _
    have h5 := List.of_mem_zip hm
    have e1 : u = Value.none := by
      have := h5.1
      rw [Array.toList_replicate] at this
      exact List.eq_of_mem_replicate this
    have e2 : v = Value.none := by
      have := h5.2
      rw [Array.toList_replicate] at this
      exact List.eq_of_mem_replicate this
    show (u, v) = _
    rw [e1, e2]

def swapKey (f : Nat → Value) (x : Keyed) : Keyed := (match x.1 with | .ref i => f i | v => v, x.2)

theorem lt_wp {x y : Keyed} {st : SortSt} {s : Shared} {Q : Option Bool × SortSt → Pos → Shared → Prop} : Sem.wp M Γ ((lt' x y).run st) Q E p s
    = Sem.wp M Γ (keyLt' (kindOf st) x.1 y.1) (fun b p1 s1 => Q (some b, st) p1 s1) (fun e p1 s1 => Q (none, SortSt.mk' (kindOf st) (arrOf st) (pendingOf st) (gallopOf st) (some e)) p1 s1) p s := by
  rw [lt'_eq, StateT.run_bind, Sem.wp_bind', StateT.run_get, Sem.wp_pure', StateT.run_bind, Sem.wp_bind']
  show Sem.wp M Γ ((keyLt' (kindOf st) x.1 y.1).attempt >>= fun a => pure (a, st)) _ _ _ _ = _
  rw [Sem.wp_bind', Sem.wp_attempt]
  rfl
theorem simLt_of {s : Shared} {kd : SortKind} (H : Stands s'.heap rk) (f : Nat → Value)
    (real : ∀ i j r q, rk i = some r → rk j = some q → ∀ (p : Pos) (R : Bool → Pos → Shared → Prop), (∀ p', R (decide (r < q)) p' s) → Sem.wp M Γ (keyLt' kd (f i) (f j)) R (fun _ _ _ => False) p s) :
    SimLt M Γ s s' kd (tuples' false) (swapKey f) := by
  intro x y st p p' Q hk hw
  rw [lt_wp, hk] at hw
  obtain ⟨i, j, r, q, e1, e2, h1, h2, hq⟩ := lt_stand H hw
  rw [lt_wp]
  have hq' : Q (some (decide (r < q))) st p' s' := hq
  have ex : (swapKey f x).1 = f i := by unfold swapKey; rw [e1]
  have ey : (swapKey f y).1 = f j := by unfold swapKey; rw [e2]
  rw [ex, ey]
  refine Sem.wp_mono M Γ _ (fun _ _ _ h => h) (fun _ _ _ h => h.elim) p s (real i j r q h1 h2 p _ fun p1 => ?_)
  exact ⟨rfl, _, st, p', rfl, rfl, hk, hq'⟩
end
end L2

namespace L2
open PySem PyProof.Rows PySem.W
set_option autoImplicit false

@[reducible] def natOrd : KeyOrd where
  α := Nat
  blt := fun a b => decide (a < b)
  irrefl := fun a => by simp
  trans := fun a b c h1 h2 => by simp at *; omega
  negTrans := fun a b c h => by simp at *; omega
  total := fun a b h1 h2 => by simp at *; omega

def rankOf (O : KeyOrd) (as : List O.α) (a : O.α) : Nat := (as.filter fun x => O.blt x a).length
theorem filter_len_le {α : Type} {p q : α → Bool} : ∀ (l : List α), (∀ x ∈ l, p x = true → q x = true) → (l.filter p).length ≤ (l.filter q).length
  | [], _ => Nat.le_refl _
  | x :: l, h => by
    have ih := filter_len_le l fun y hy => h y (List.mem_cons_of_mem _ hy)
    have hx := h x List.mem_cons_self
    rw [List.filter_cons, List.filter_cons]
    cases hp : p x with
    | true => rw [hx hp, if_pos rfl, if_pos rfl, List.length_cons, List.length_cons]; omega
    | false =>
      rw [if_neg Bool.false_ne_true]
      split
      · rw [List.length_cons]; omega
      · exact ih
theorem filter_len_lt {α : Type} {p q : α → Bool} {z : α} : ∀ (l : List α), (∀ x ∈ l, p x = true → q x = true) → z ∈ l → p z = false → q z = true → (l.filter p).length < (l.filter q).length
  | x :: l, h, hz, hp, hq => by
    have hle := filter_len_le l fun y hy => h y (List.mem_cons_of_mem _ hy)
    have hx := h x List.mem_cons_self
    rw [List.filter_cons, List.filter_cons]
    rcases List.mem_cons.mp hz with e | hz'
    · subst e
      rw [hp, hq, if_neg Bool.false_ne_true, if_pos rfl, List.length_cons]; omega
    · have ih := filter_len_lt l (fun y hy => h y (List.mem_cons_of_mem _ hy)) hz' hp hq
      cases hp' : p x with
      | true => rw [hx hp', if_pos rfl, if_pos rfl, List.length_cons, List.length_cons]; omega
      | false =>
        rw [if_neg Bool.false_ne_true]
        split
        · rw [List.length_cons]; omega
        · exact ih
theorem rank_lt {O : KeyOrd} {as : List O.α} {a b : O.α} (ha : a ∈ as) : O.blt a b = decide (rankOf O as a < rankOf O as b) := by
  cases h : O.blt a b with
  | true =>
    refine (decide_eq_true ?_).symm
    exact filter_len_lt as (fun x _ hx => O.trans x a b hx h) ha (O.irrefl a) h
  | false =>
    refine (decide_eq_false ?_).symm
    refine Nat.not_lt.mpr (filter_len_le as fun x _ hx => ?_)
    rcases O.negTrans x a b hx with q | q
    · exact q
    · rw [h] at q; cases q

section
variable {prog : Program} {w : World} {A : Around} {E : Value → Shared → Prop} {s : Shared}

theorem kat_nones {b fin : Bool} {Q : Bool → Shared → Prop} (h : Q fin s) : ∀ (l : List (Value × Value)) (i : Nat), (∀ q ∈ l, q = (Value.none, Value.none)) → KatLex prog w A b fin Q l i s
  | [], i, _ => kat_nil h
  | x :: l, i, hl => by
    rw [hl x List.mem_cons_self]
    have g : KatGo prog w A b fin Q Value.none Value.none l i true s := kat_yes (kat_nones h l (i + 1) fun q hq => hl q (List.mem_cons_of_mem _ hq))
    exact kat_cons fun Γ p _ => g

theorem zip_nones {r q : Nat} : ∀ z ∈ (Array.replicate r Value.none).toList.zip (Array.replicate q Value.none).toList, z = (Value.none, Value.none) := fun z hz => by
  obtain ⟨u, v⟩ := z
  have h5 := List.of_mem_zip hz
  rw [Array.toList_replicate, Array.toList_replicate] at h5
  rw [List.eq_of_mem_replicate h5.1, List.eq_of_mem_replicate h5.2]

@[reducible] def standKind (rk : Nat → Option Nat) : KeyKind where
  toKeyOrd := natOrd
  keyOf := fun v => match v with | .ref i => rk i | _ => none
  dflt := (0 : Nat)

theorem stand_ltAt {rk : Nat → Option Nat} (H : Stands s.heap rk) (b : Bool) : PyProof.Rows.G.LtAt prog w s (standKind rk) (tuples' b) := by
  intro A E x y r q Q hx hy hq
  cases x with
  | ref i =>
    cases y with
    | ref j =>
      have hi : rk i = some r := hx
      have hj : rk j = some q := hy
      have oi : s.heap.get? i = some (standObj r) := by rw [H i, hi]; rfl
      have oj : s.heap.get? j = some (standObj q) := by rw [H j, hj]; rfl
      refine kat_lt oi rfl oj rfl (kat_nones ?_ _ 0 zip_nones)
      rw [Array.size_replicate, Array.size_replicate]
      exact hq
    | _ => cases hy
  | _ => cases hx

def standHeap (rs : List Nat) : Heap := { objs := (rs.map standObj).toArray }
theorem standHeap_is (rs : List Nat) : Stands (standHeap rs) fun i => rs[i]? := fun i => by
  unfold standHeap Heap.get?
  dsimp only
  rw [List.getElem?_toArray, List.getElem?_map]
  cases rs[i]? with
  | none => rfl
  | some r => rfl

def swapped (ks vs : List Value) (i : Nat) : Keyed := (ks.getD i Value.none, vs.getD i Value.none)

theorem sort_any {O : KeyOrd} {kd : SortKind} {ks vs : List Value} {as : List O.α} {Q : Unit → SortSt → Prop} (hk : ks.length = as.length) (hv : vs.length = as.length) (h2 : 2 ≤ as.length)
    (real : ∀ (i j : Nat) (a b : O.α), as[i]? = some a → as[j]? = some b → ∀ (E : Value → Shared → Prop) (Q : Bool → Shared → Prop), Q (O.blt a b) s → wpAny (model prog w) A (keyLt' kd (ks.getD i Value.none) (ks.getD j Value.none)) Q E s)
    (h : ∀ (idx : List Nat) (pend : Array (Nat × Nat × Nat)) (gal : Nat), idx.Perm (List.range as.length) → (idx.Pairwise fun i j => ∀ a b, as[i]? = some a → as[j]? = some b → O.kle a b) →
      Q () (SortSt.mk' kd (idx.map (swapped ks vs)).toArray pend gal none)) :
    wpS (model prog w) A E s sortRuns' Q (SortSt.mk' kd ((List.range as.length).map (swapped ks vs)).toArray #[] 7 none) := by
  have H := standHeap_is (as.map (rankOf O as))
  let s' : Shared := { s with heap := standHeap (as.map (rankOf O as)) }
  let rk : Nat → Option Nat := fun i => (as.map (rankOf O as))[i]?
  have hrk : ∀ i, rk i = (as[i]?).map (rankOf O as) := fun i => List.getElem?_map
  let pair : Nat → Keyed := fun i => (Value.ref i, vs.getD i Value.none)
  let a₀ : Array Keyed := ((List.range as.length).map pair).toArray
  have hsz : a₀.size = as.length := by simp [a₀]
  have h0 : KeysOf (standKind rk) a₀ := fun p hp => by
    obtain ⟨i, hi, rfl⟩ := List.mem_map.mp hp
    have hi := List.mem_range.mp hi
    exact ⟨rankOf O as as[i], by show rk i = _; rw [hrk, List.getElem?_eq_getElem hi]; rfl⟩
  have lib := PyProof.Rows.G.wpS_sortRunsSt (prog := prog) (w := w) (A := A) (E := fun _ _ => False) (s := s') (a₀ := a₀) (κ := standKind rk) (kd := tuples' false) (st := SortSt.mk' (tuples' false) a₀ #[] 7 none)
    (Q := fun _ st => (arrOf st).Perm a₀ ∧ failedOf st = none ∧ SortedToK (standKind rk) (arrOf st) a₀.size)
    (stand_ltAt H false) h0 ⟨Array.Perm.refl _, rfl, rfl⟩ rfl (Stable.refl _) (by rw [hsz]; exact h2) fun st' p1 p2 p3 _ => ⟨p1, p2, p3⟩
  unfold wpS at lib ⊢
  intro Γ p hΓ
  have HB : SimLt (model prog w) Γ s s' kd (tuples' false) (swapKey fun i => ks.getD i Value.none) := by
    refine simLt_of H _ fun i j r q hi hj p R hR => ?_
    have hi' : rk i = some r := hi
    have hj' : rk j = some q := hj
    rw [hrk] at hi' hj'
    obtain ⟨a, ha, rfl⟩ := Option.map_eq_some_iff.mp hi'
    obtain ⟨b, hb, rfl⟩ := Option.map_eq_some_iff.mp hj'
    refine Sem.wp_mono _ Γ _ (fun c p1 s1 hc => ?_) (fun _ _ _ x => x) p s (real i j a b ha hb (fun _ _ => False) (fun c s1 => c = decide (rankOf O as a < rankOf O as b) ∧ s1 = s) ⟨rank_lt (List.mem_of_getElem? ha), rfl⟩ Γ p hΓ)
    obtain ⟨rfl, rfl⟩ := hc
    exact hR p1
  have sim := sim_runs HB (SortSt.mk' (tuples' false) a₀ #[] 7 none) p p (fun _ st _ s1 => s1 = s' ∧ ((arrOf st).Perm a₀ ∧ failedOf st = none ∧ SortedToK (standKind rk) (arrOf st) a₀.size)) rfl (lib Γ p hΓ)
  have emap : ∀ l : List Nat, ((l.map pair).toArray).map (swapKey fun i => ks.getD i Value.none) = (l.map (swapped ks vs)).toArray := fun l => by
    rw [List.map_toArray, List.map_map]; rfl
  have est : mapSt kd (swapKey fun i => ks.getD i Value.none) (SortSt.mk' (tuples' false) a₀ #[] 7 none) = SortSt.mk' kd ((List.range as.length).map (swapped ks vs)).toArray #[] 7 none := by
    show SortSt.mk' kd (a₀.map _) _ _ _ = _
    rw [emap]
  rw [est] at sim
  refine Sem.wp_mono _ Γ _ (fun r p1 s1 hc => ?_) (fun _ _ _ x => x.elim) p s sim
  obtain ⟨e, a', st', q1, _, e2, _, _, p1, p2, p3⟩ := hc
  refine ⟨e, ?_⟩
  obtain ⟨idx, eidx⟩ : ∃ idx : List Nat, arrOf st' = (idx.map pair).toArray := by
    have hm : ∀ x ∈ (arrOf st').toList, ∃ i, x = pair i := fun x hx => by
      have := (Array.Perm.mem_iff p1).mp (Array.mem_toList_iff.mp hx)
      have : x ∈ (List.range as.length).map pair := by simpa [a₀] using this
      obtain ⟨i, _, e⟩ := List.mem_map.mp this
      exact ⟨i, e.symm⟩
    have : ∀ l : List Keyed, (∀ x ∈ l, ∃ i, x = pair i) → ∃ idx : List Nat, l = idx.map pair := fun l => by
      induction l with
      | nil => exact fun _ => ⟨[], rfl⟩
      | cons x l ih =>
        intro h
        obtain ⟨i, rfl⟩ := h x List.mem_cons_self
        obtain ⟨idx, rfl⟩ := ih fun y hy => h y (List.mem_cons_of_mem _ hy)
        exact ⟨i :: idx, rfl⟩
    obtain ⟨idx, e⟩ := this _ hm
    exact ⟨idx, by rw [← e]⟩
  have inj : ∀ i j, pair i = pair j → i = j := fun i j e => by
    have := congrArg (fun x : Keyed => x.1) e
    injection this
  have hperm : idx.Perm (List.range as.length) := by
    have p4 : (idx.map pair).Perm ((List.range as.length).map pair) := by
      have := Array.perm_iff_toList_perm.mp p1
      rw [eidx] at this
      exact this
    have := p4.map (fun x : Keyed => match x.1 with | .ref i => i | _ => 0)
    rw [List.map_map, List.map_map] at this
    have e3 : ∀ l : List Nat, l.map ((fun x : Keyed => match x.1 with | .ref i => i | _ => 0) ∘ pair) = l := fun l => by
      conv => rhs; rw [← List.map_id l]
      rfl
    rw [e3, e3] at this
    exact this
  have er : r.2 = SortSt.mk' kd (idx.map (swapped ks vs)).toArray (pendingOf st') (gallopOf st') none := by
    rw [e2]
    show SortSt.mk' kd ((arrOf st').map _) _ _ (failedOf st') = _
    rw [eidx, emap, p2]
  rw [er]
  refine h idx _ _ hperm ?_
  rw [hsz] at p3
  refine List.pairwise_iff_getElem.mpr fun i j hi hj hij a b ha hb => ?_
  have hl : idx.length = as.length := by rw [hperm.length_eq, List.length_range]
  have := p3 i j (Nat.le_of_lt hij) (by omega)
  have kk : ∀ (i : Nat) (hi : i < idx.length) (a : O.α), as[idx[i]]? = some a → KK (standKind rk) (arrOf st') i = rankOf O as a := fun i hi a ha => by
    unfold KK
    rw [eidx, List.getElem?_toArray, List.getElem?_map, List.getElem?_eq_getElem hi]
    show ((rk idx[i]).getD 0 : Nat) = _
    rw [hrk, ha]; rfl
  rw [kk i hi a ha, kk j hj b hb] at this
  have hnl : ¬ rankOf O as b < rankOf O as a := by
    have : decide (rankOf O as b < rankOf O as a) = false := this
    simpa using this
  show O.blt b a = false
  rw [rank_lt (List.mem_of_getElem? hb)]
  exact decide_eq_false hnl
end
end L2

namespace L2
open PySem PyProof.Rows PySem.W
set_option autoImplicit false

@[reducible] def intOrd : KeyOrd where
  α := Int
  blt := fun a b => decide (a < b)
  irrefl := fun a => by simp
  trans := fun a b c h1 h2 => by simp at *; omega
  negTrans := fun a b c h => by simp at *; omega
  total := fun a b h1 h2 => by simp at *; omega
@[reducible] def lexOrd : KeyOrd := PyProof.Rows.listOrd intOrd
abbrev lexL : List Int → List Int → Bool := PyProof.Rows.lexLt intOrd
theorem lexL_same (x : Int) (r t : List Int) : lexL (x :: r) (x :: t) = lexL r t := by
  show PyProof.Rows.lexLt intOrd (x :: r) (x :: t) = _
  rw [PyProof.Rows.lex_cons]; simp
theorem lexL_diff {x y : Int} (h : x ≠ y) (r t : List Int) : lexL (x :: r) (y :: t) = decide (x < y) := by
  show PyProof.Rows.lexLt intOrd (x :: r) (y :: t) = _
  rw [PyProof.Rows.lex_cons]
  by_cases q : x < y
  · simp [q]
  · have : y < x := by omega
    simp [q, this]

section
variable {prog : Program} {w : World} {A : Around} {E : Value → Shared → Prop} {s : Shared}
abbrev TupI (prog : Program) (w : World) (h : Heap) (l : List Int) (a : Addr) : Prop := IsTupleKey (PySem.intKind prog w) h l a

theorem tuple_lt_tree {x y : List Int} {a b : Addr} {P : PySem.Fin → Shared → Prop} (hx : TupI prog w s.heap x a) (hy : TupI prog w s.heap y b) (h : P (.done (.ret (.bool (lexL x y)))) s) :
    wpAny (model prog w) A (Builtin.«tuple.__lt__» ⟨[.ref a, .ref b], []⟩) P E s := by
  have hTb := hy.typeIs
  obtain ⟨oa, xs, na, hoa, _, hda, hia⟩ := hx
  obtain ⟨ob, ys, nb, hob, _, hdb, hib⟩ := hy
  show wpAny _ _ (isInstance (.ref b) (.type "tuple") >>= _) _ _ s
  refine wpAny_bind (wpAny_isInstance hTb isSubtype_tuple_tuple ?_)
  simp only [Bool.not_true, Bool.false_eq_true, if_false]
  refine wpAny_bind (wpAny_tupleItemsOf hoa hda ?_)
  refine wpAny_bind (wpAny_tupleItemsOf hob hdb ?_)
  refine wpAny_bind ?_
  refine wpAny_forIn_list _
    (fun rest r s' => r.1 = none ∧ s' = s ∧ ∃ x' y' xs' ys', rest = List.zip xs' ys' ∧ ItemsAre (PySem.intKind prog w) x' xs' ∧ ItemsAre (PySem.intKind prog w) y' ys' ∧ lexL x' y' = lexL x y ∧ decide (xs'.length < ys'.length) = decide (xs.size < ys.size))
    _ ?_ ?_ _ _ ⟨rfl, rfl, x, y, xs.toList, ys.toList, rfl, hia, hib, rfl, by simp⟩
  · rintro ⟨u, v⟩ rest r s' ⟨hr, rfl, x', y', xs', ys', hz, hx', hy', hdec, hlen⟩
    cases hx' with
    | nil => simp at hz
    | @cons k1 u' x'' xs'' h1 hx'' =>
      cases hy' with
      | nil => simp at hz
      | @cons k2 v' y'' ys'' h2 hy'' =>
        simp only [List.zip_cons_cons, List.cons.injEq, Prod.mk.injEq] at hz
        obtain ⟨⟨rfl, rfl⟩, rfl⟩ := hz
        refine wpAny_bind ((PySem.intKind prog w).eqBool (a := k1) (b := k2) h1 h2 ?_)
        by_cases hk : k1 = k2
        · subst hk
          rw [decide_eq_true rfl]
          simp only [Bool.not_true, Bool.false_eq_true, if_false]
          refine wpAny_pure ⟨rfl, rfl, x'', y'', xs'', ys'', rfl, hx'', hy'', ?_, by simpa using hlen⟩
          rw [← hdec, lexL_same]
        · rw [decide_eq_false hk]
          simp only [Bool.not_false, if_true]
          rw [← hdec, lexL_diff hk] at h
          obtain ⟨t1, rfl⟩ := Value.isInt_shape h1
          obtain ⟨t2, rfl⟩ := Value.isInt_shape h2
          refine wpAny_bind (wpAny_rule ?_)
          refine wpAny_bind (show wpAny (model prog w) A (richCompare .Lt (.int k1 t1) (.int k2 t2)) _ E s' from PySem.P.lt_int ?_)
          exact wpAny_bind (wpAny_pure (wpAny_pure (wpAny_pure h)))
  · rintro ⟨r1, r2⟩ s' ⟨hr, rfl, x', y', xs', ys', hz, hx', hy', hdec, hlen⟩
    simp only at hr
    subst hr
    refine wpAny_pure ?_
    have hfin : decide (xs.size < ys.size) = lexL x y := by
      rw [← hdec, ← hlen]
      cases hx' with
      | nil =>
        cases hy' with
        | nil => rfl
        | cons _ _ => simp [lexL, PyProof.Rows.lexLt]
      | cons _ _ =>
        cases hy' with
        | nil => simp [lexL, PyProof.Rows.lexLt]
        | cons _ _ => simp at hz
    show P (.done (.ret (.bool (decide (xs.size < ys.size))))) s'
    rw [hfin]; exact h

theorem call_tuple_lt {x y : List Int} {a b : Addr} {Q : Value → Shared → Prop} (hx : TupI prog w s.heap x a) (hy : TupI prog w s.heap y b) (h : Q (.bool (lexL x y)) s) :
    wpAny (model prog w) A (call (.builtin "tuple.__lt__") [.ref a, .ref b]) Q E s :=
  wpAny_call_entry F.slot_tuple_lt hx.typeIs F.entry_tuple_lt (tuple_lt_tree hx hy ⟨_, rfl, h⟩) (F.args_tuple_lt_2 _ _)
theorem rich_tuple_lt {x y : List Int} {a b : Addr} {Q : Value → Shared → Prop} (hu : A.units < cLine) (hx : TupI prog w s.heap x a) (hy : TupI prog w s.heap y b) (h : Q (.bool (lexL x y)) s) :
    wpAny (model prog w) A (richCompare .Lt (.ref a) (.ref b)) Q E s :=
  wpAny_richCompare_same_room (op := .Lt) hx.typeIs hy.typeIs F.slot_tuple_lt (call_tuple_lt hx hy ⟨(fun e => nomatch e), h⟩) hu
theorem oneLt_tup {f : Bool} {x y : List Int} {a b : Addr} {Q : Bool → Shared → Prop} (hu : A.units < cLine) (hx : TupI prog w s.heap x a) (hy : TupI prog w s.heap y b) (h : Q (lexL x y) s) :
    wpAny (model prog w) A (oneLt' f (.ref a) (.ref b)) Q E s := by
  rw [oneLt'_eq]
  cases f with
  | false =>
    simp only [Bool.false_eq_true, if_false]
    exact wpAny_bind (rich_tuple_lt hu hx hy (wpAny_truthy_bool h))
  | true =>
    simp only [if_true]
    refine wpAny_bind (wpAny_cRoomFor hu ?_)
    exact wpAny_bind (wpAny_callSpecialIfBound?_slot (name := Str.ofString "__lt__") hx.typeIs F.slot_tuple_lt (call_tuple_lt hx hy (wpAny_truthy_bool h)))

inductive KD where
  | n (i : Int) | t (l : List Int) | p (i : Int) (l : List Int)
def KD.lst : KD → List Int
  | .n i => [i]
  | .t l => l
  | .p i l => i :: l
def KD.Is (prog : Program) (w : World) (h : Heap) : KD → Value → Prop
  | .n i, v => ∃ t, v = Value.int i t
  | .t l, v => ∃ a, v = Value.ref a ∧ TupI prog w h l a
  | .p i l, v => ∃ a o t b n, v = Value.ref a ∧ h.get? a = some o ∧ o.cls = .type "tuple" ∧ o.data = .seq #[.int i t, .ref b] n ∧ TupI prog w h l b
def KD.kind : KD → Nat
  | .n _ => 0
  | .t _ => 1
  | .p _ _ => 2
def Goes (kd : SortKind) : Nat → Prop
  | 0 => kd = oneType'
  | 1 => kd = general' ∨ kd = oneType' ∨ kd = tuples' true
  | _ => kd = tuples' true

theorem kat_ints {b fin : Bool} {Q : Bool → Shared → Prop} : ∀ (ks ls : List Int) (ps qs : List Value) (i : Nat), ItemsAre (PySem.intKind prog w) ks ps → ItemsAre (PySem.intKind prog w) ls qs → fin = decide (ps.length < qs.length) → Q (lexL ks ls) s →
    KatLex prog w A b fin Q (ps.zip qs) i s
  | [], [], _, _, i, .nil, .nil, hf, h => by
    have : fin = false := by rw [hf]; rfl
    subst this; exact kat_nil h
  | [], _ :: _, _, _, i, .nil, .cons _ _, hf, h => by
    have : fin = true := by rw [hf]; exact decide_eq_true (Nat.succ_pos _)
    subst this; exact kat_nil h
  | _ :: _, [], _, _, i, .cons _ _, .nil, hf, h => by
    have : fin = false := by rw [hf]; exact decide_eq_false (Nat.not_lt_zero _)
    subst this; exact kat_nil h
  | k :: ks, l :: ls, _, _, i, .cons h1 h2, .cons h3 h4, hf, h => by
    obtain ⟨t1, rfl⟩ := Value.isInt_shape h1
    obtain ⟨t2, rfl⟩ := Value.isInt_shape h3
    rw [List.length_cons, List.length_cons, show (∀ a b : Nat, decide (a + 1 < b + 1) = decide (a < b)) from fun a b => by simp only [Nat.add_lt_add_iff_right]] at hf
    refine kat_cons (wpAny_eqBool_int ?_)
    refine kat_go (fun e => kat_yes ?_) (fun e => kat_no ?_)
    · have hnm : k = l := by simpa using e
      subst hnm
      rw [lexL_same] at h
      exact kat_ints ks ls _ _ (i + 1) h2 h4 hf h
    · have hnm : k ≠ l := by simpa using e
      rw [lexL_diff hnm] at h
      exact oneLt_any_int h

theorem goes_lt {kd : SortKind} {x y : KD} {u v : Value} {Q : Bool → Shared → Prop} (hu : A.units < cLine) (hx : x.Is prog w s.heap u) (hy : y.Is prog w s.heap v) (hk : x.kind = y.kind) (hg : Goes kd x.kind) (h : Q (lexL x.lst y.lst) s) :
    wpAny (model prog w) A (keyLt' kd u v) Q E s := by
  cases x with
  | n i =>
    cases y with
    | n j =>
      obtain ⟨t1, rfl⟩ := hx
      obtain ⟨t2, rfl⟩ := hy
      have hg : kd = oneType' := hg
      subst hg
      refine kat_lt_int ?_
      have e : lexL [i] [j] = decide (i < j) := by
        by_cases q : i = j
        · subst q; rw [lexL_same]; simp [lexL, PyProof.Rows.lexLt]
        · exact lexL_diff q _ _
      rw [← e]; exact h
    | t _ => cases hk
    | p _ _ => cases hk
  | t l =>
    cases y with
    | n j => cases hk
    | t m =>
      obtain ⟨a, rfl, ha⟩ := hx
      obtain ⟨b, rfl, hb⟩ := hy
      rcases (show kd = general' ∨ kd = oneType' ∨ kd = tuples' true from hg) with rfl | rfl | rfl
      · exact (show wpAny (model prog w) A (oneLt' false (.ref a) (.ref b)) Q E s from oneLt_tup hu ha hb h)
      · exact (show wpAny (model prog w) A (oneLt' true (.ref a) (.ref b)) Q E s from oneLt_tup hu ha hb h)
      · obtain ⟨oa, xs, na, hoa, _, hda, hia⟩ := ha
        obtain ⟨ob, ys, nb, hob, _, hdb, hib⟩ := hb
        exact kat_lt hoa hda hob hdb (kat_ints l m _ _ 0 hia hib (by rw [Array.length_toList, Array.length_toList]) h)
    | p _ _ => cases hk
  | p i l =>
    cases y with
    | n j => cases hk
    | t _ => cases hk
    | p j m =>
      obtain ⟨a, o1, t1, b1, n1, rfl, ho1, _, hd1, hb1⟩ := hx
      obtain ⟨c, o2, t2, b2, n2, rfl, ho2, _, hd2, hb2⟩ := hy
      have hg : kd = tuples' true := hg
      subst hg
      refine kat_lt ho1 hd1 ho2 hd2 ?_
      refine kat_cons (wpAny_eqBool_int ?_)
      refine kat_go (fun e => kat_yes ?_) (fun e => kat_no ?_)
      · have hnm : i = j := by simpa using e
        subst hnm
        have h : Q (lexL (i :: l) (i :: m)) s := h
        rw [lexL_same] at h
        refine kat_cons (wpAny_eqBool_tuple hu hb1 hb2 ?_)
        refine kat_go (fun e => kat_yes ?_) (fun e => kat_no ?_)
        · have hlm : l = m := of_decide_eq_true e
          subst hlm
          have e2 : lexL l l = false := lexOrd.irrefl l
          rw [e2] at h
          exact kat_nil h
        · exact oneLt_tup hu hb1 hb2 h
      · have hnm : i ≠ j := by simpa using e
        have h : Q (lexL (i :: l) (j :: m)) s := h
        rw [lexL_diff hnm] at h
        exact oneLt_any_int h
end
end L2

namespace L2
open PySem PyProof.Rows PySem.W
set_option autoImplicit false

section
variable {prog : Program} {w : World} {A : Around} {E : Value → Shared → Prop} {s : Shared}

theorem mapM_told {M : Model} {α β : Type} {f : α → Sem β} : ∀ (l : List α) (fs : List β) {Q : List β → Shared → Prop}, Paired (fun v r => ∀ (Q' : β → Shared → Prop), Q' r s → wpAny M A (f v) Q' E s) l fs → Q fs s → wpAny M A (l.mapM f) Q E s
  | _, _, _, .nil, h => by rw [List.mapM_nil]; exact wpAny_pure h
  | x :: l, r :: fs, Q, .cons h1 h2, h => by
    rw [List.mapM_cons]
    exact wpAny_bind (h1 _ (wpAny_bind (mapM_told l fs (Q := fun bs s' => wpAny M A (pure (r :: bs)) Q E s') h2 (wpAny_pure h))))

def AllIs (prog : Program) (w : World) (h : Heap) (xs : List KD) (vs : List Value) : Prop := Paired (fun x v => x.Is prog w h v) xs vs

theorem pairedAt {α β : Type} {R : α → β → Prop} : ∀ {xs : List α} {ys : List β}, Paired R xs ys → ∀ (i : Nat) (x : α), xs[i]? = some x → ∃ y, ys[i]? = some y ∧ R x y
  | _, _, .nil, i, x, h => by simp at h
  | _, _, .cons r _, 0, x, h => by simp at h; subst h; exact ⟨_, rfl, r⟩
  | _, _, .cons _ t, i + 1, x, h => by
    obtain ⟨y, h1, h2⟩ := pairedAt t i x (by simpa using h)
    exact ⟨y, by simpa using h1, h2⟩

theorem types_same {M : Model} {vs : List Value} {T : String} {Q : Option Value → Shared → Prop} (hne : vs ≠ []) (hT : ∀ v ∈ vs, s.TypeIs v T) (h : Q (some (.type T)) s) : wpAny M A (oneTypeOnly' vs.toArray) Q E s := by
  rw [oneTypeOnly'_eq, List.mapM_toArray, map_eq_pure_bind]
  refine wpAny_bind (wpAny_bind (kas_mapM (r := Value.type T) _ (fun v hv Q' hq => wpAny_typeOf (hT v hv) hq) (wpAny_pure ?_)))
  cases vs with
  | nil => exact absurd rfl hne
  | cons v vs =>
    have hall2 : ((List.map (fun _ => Value.type T) (v :: vs)).toArray.all fun x => x == Value.type T) = true := by
      simp only [List.all_toArray, List.all_map, List.all_eq_true]
      intro _ _
      exact beq_self_eq_true _
    have h0 : (List.map (fun _ => Value.type T) (v :: vs)).toArray[0]? = some (Value.type T) := by simp
    rw [h0]
    simp only [hall2, if_true]
    exact wpAny_pure h

theorem firsts_told {M : Model} : ∀ {xs : List KD} {vs : List Value}, AllIs prog w s.heap xs vs → (∀ x ∈ xs, x.kind ≠ 0) → ∃ fs : List (Option Value), Paired (fun v r => ∀ (Q' : Option Value → Shared → Prop), Q' r s → wpAny M A (firstOfTuple' v) Q' E s) vs fs ∧
    (∀ f ∈ fs, f = none ∨ ∃ i t, f = some (Value.int i t)) ∧ ((∀ x ∈ xs, x.kind = 2) → ∀ f ∈ fs, f ≠ none)
  | _, _, .nil, _ => ⟨[], .nil, (fun _ h => nomatch h), (fun _ _ h => nomatch h)⟩
  | x :: xs, v :: vs, .cons h1 h2, hk => by
    obtain ⟨fs, p, q, q2⟩ := firsts_told (M := M) h2 fun y hy => hk y (List.mem_cons_of_mem _ hy)
    have key : ∃ r : Option Value, (∀ (Q' : Option Value → Shared → Prop), Q' r s → wpAny M A (firstOfTuple' v) Q' E s) ∧ (r = none ∨ ∃ i t, r = some (Value.int i t)) ∧ (x.kind = 2 → r ≠ none) := by
      cases x with
      | n i => exact absurd rfl (hk _ List.mem_cons_self)
      | t l =>
        obtain ⟨a, rfl, ha⟩ := h1
        have hT := ha.typeIs
        obtain ⟨o, its, n, ho, _, hd, hi⟩ := ha
        refine ⟨its[0]?, fun Q' hq => ?_, ?_, fun e => nomatch e⟩
        · rw [kas_first_eq]
          refine wpAny_bind (wpAny_typeOf hT ?_)
          rw [if_neg (by decide)]
          exact wpAny_bind (listItems_at ho hd (wpAny_pure hq))
        · rw [← Array.getElem?_toList]
          generalize its.toList = il at hi
          cases hi with
          | nil => exact .inl rfl
          | @cons k v ks vs h3 h4 =>
            obtain ⟨t1, rfl⟩ := Value.isInt_shape h3
            exact .inr ⟨_, _, rfl⟩
      | p i l =>
        obtain ⟨a, o, t, b, n, rfl, ho, hc, hd, hb⟩ := h1
        refine ⟨some (Value.int i t), fun Q' hq => ?_, .inr ⟨_, _, rfl⟩, fun _ e => nomatch e⟩
        rw [kas_first_eq]
        refine wpAny_bind (wpAny_typeOf (T := "tuple") ⟨o, ho, hc⟩ ?_)
        rw [if_neg (by decide)]
        exact wpAny_bind (listItems_at ho hd (wpAny_pure hq))
    obtain ⟨r, k1, k2, k3⟩ := key
    refine ⟨r :: fs, .cons k1 p, fun f hf => ?_, fun h f hf => ?_⟩
    · rcases List.mem_cons.mp hf with rfl | hf
      · exact k2
      · exact q f hf
    · rcases List.mem_cons.mp hf with rfl | hf
      · exact k3 (h x List.mem_cons_self)
      · exact q2 (fun y hy => h y (List.mem_cons_of_mem _ hy)) f hf

theorem isI : ∀ {xs : List KD} {vs : List Value}, AllIs prog w s.heap xs vs → (∀ x ∈ xs, x.kind = 0) → ∃ ns, IntsAre vs ns
  | _, _, .nil, _ => ⟨[], .nil⟩
  | x :: xs, v :: vs, .cons h1 h2, hk => by
    obtain ⟨ns, h3⟩ := isI h2 fun y hy => hk y (List.mem_cons_of_mem _ hy)
    cases x with
    | n i => obtain ⟨t, rfl⟩ := h1; exact ⟨i :: ns, .cons i t h3⟩
    | t _ => exact absurd (hk _ List.mem_cons_self) (by simp [KD.kind])
    | p _ _ => exact absurd (hk _ List.mem_cons_self) (by simp [KD.kind])
theorem isT : ∀ {xs : List KD} {vs : List Value}, AllIs prog w s.heap xs vs → (∀ x ∈ xs, x.kind ≠ 0) → ∀ v ∈ vs, s.TypeIs v "tuple"
  | _, _, .nil, _, _, h => nomatch h
  | x :: xs, v :: vs, .cons h1 h2, hk, u, hu => by
    rcases List.mem_cons.mp hu with rfl | hu
    · cases x with
      | n i => exact absurd rfl (hk _ List.mem_cons_self)
      | t l => obtain ⟨a, rfl, ha⟩ := h1; exact ha.typeIs
      | p i l => obtain ⟨a, o, t, b, n, rfl, ho, hc, _⟩ := h1; exact ⟨o, ho, hc⟩
    · exact isT h2 (fun y hy => hk y (List.mem_cons_of_mem _ hy)) u hu

theorem kind_goes {xs : List KD} {vs : List Value} {k : Nat} {Q : SortKind → Shared → Prop} (h : AllIs prog w s.heap xs vs) (hk : ∀ x ∈ xs, x.kind = k) (h2 : 2 ≤ vs.length) (hQ : ∀ kd, Goes kd k → Q kd s) :
    wpAny (model prog w) A (keyKind' vs.toArray) Q E s := by
  have hlen : xs.length = vs.length := Paired.length h
  obtain ⟨v₁, v₂, rest, rfl⟩ : ∃ v₁ v₂ rest, vs = v₁ :: v₂ :: rest := by
    match vs, h2 with
    | [], h2 => simp at h2
    | [_], h2 => simp at h2
    | v₁ :: v₂ :: rest, _ => exact ⟨v₁, v₂, rest, rfl⟩
  obtain ⟨x0, hx0⟩ : ∃ x0, x0 ∈ xs := by
    cases xs with
    | nil => simp at hlen
    | cons x _ => exact ⟨x, List.mem_cons_self⟩
  by_cases k0 : k = 0
  · subst k0
    obtain ⟨ns, hI⟩ := isI h hk
    exact wpAny_of_eq (keyKind_ints hI) (hQ _ rfl)
  · have hk' : ∀ x ∈ xs, x.kind ≠ 0 := fun x hx => by rw [hk x hx]; exact k0
    obtain ⟨fs, p, q, q2⟩ := firsts_told (M := model prog w) (A := A) (E := E) h hk'
    have hT := isT h hk'
    have h12 : k = 1 ∨ k = 2 := by
      have := hk x0 hx0
      cases x0 <;> simp [KD.kind] at this <;> omega
    rw [kat_kind_eq, List.mapM_toArray, map_eq_pure_bind]
    refine wpAny_bind (wpAny_bind (mapM_told _ _ p (wpAny_pure ?_)))
    have hfl : fs.length = rest.length + 2 := by rw [← Paired.length p]; rfl
    by_cases ha : (fs.toArray.all fun x => x.isSome) = true
    · rw [if_pos ha]
      refine wpAny_bind (wpAny_rule ?_)
      have hall : ∀ f ∈ fs, ∃ i t, f = some (Value.int i t) := fun f hf => by
        rw [List.all_toArray, List.all_eq_true] at ha
        rcases q f hf with e | e
        · have := ha f hf; rw [e] at this; cases this
        · exact e
      rw [show fs.toArray.filterMap id = (fs.filterMap id).toArray by simp]
      refine wpAny_bind (types_same (T := "int") ?_ (fun v hv => ?_) (wpAny_pure ?_))
      · intro e
        have := congrArg List.length e
        cases hfs : fs with
        | nil => rw [hfs] at hfl; simp at hfl
        | cons f fr =>
          obtain ⟨i, t, e3⟩ := hall f (by rw [hfs]; exact List.mem_cons_self)
          rw [hfs, e3] at this
          simp at this
      · obtain ⟨f, hf, e⟩ := List.mem_filterMap.mp hv
        obtain ⟨i, t, rfl⟩ := hall f hf
        cases e
        exact typeIs_int s i t
      · have e : ((some (Value.type "int")).any fun x => x != Value.type "tuple") = true := by decide
        rw [e]
        rcases h12 with rfl | rfl
        · exact hQ _ (.inr (.inr rfl))
        · exact hQ _ rfl
    · rw [if_neg ha]
      have k1 : k = 1 := by
        rcases h12 with e | e
        · exact e
        · exfalso
          apply ha
          rw [List.all_toArray, List.all_eq_true]
          intro f hf
          cases hfo : f with
          | none => exact absurd hfo (q2 (fun x hx => by rw [hk x hx]; exact e) f hf)
          | some _ => rfl
      subst k1
      refine wpAny_ite ?_
      split
      · exact wpAny_pure (hQ _ (.inl rfl))
      · refine wpAny_bind (types_same (T := "tuple") (by simp) hT (wpAny_pure ?_))
        exact hQ _ (.inr (.inl rfl))
end
end L2

namespace L2
open PySem PyProof.Rows PySem.W
set_option autoImplicit false
set_option maxHeartbeats 1000000

theorem tupI_keep {prog : Program} {w : World} {h h' : Heap} (k : G.KeepsTups h h') {l : List Int} {a : Addr} (x : TupI prog w h l a) : TupI prog w h' l a := by
  obtain ⟨o, its, n, ho, hc, r⟩ := x
  exact ⟨o, its, n, k a o ho hc, hc, r⟩
theorem KD.Is.keep {prog : Program} {w : World} {h h' : Heap} (k : G.KeepsTups h h') {x : KD} {v : Value} (i : x.Is prog w h v) : x.Is prog w h' v := by
  cases x with
  | n i => exact i
  | t l => obtain ⟨a, e, ha⟩ := i; exact ⟨a, e, tupI_keep k ha⟩
  | p j l =>
    obtain ⟨a, o, t, b, n, e, ho, hc, hd, hb⟩ := i
    exact ⟨a, o, t, b, n, e, k a o ho hc, hc, hd, tupI_keep k hb⟩
theorem AllIs.keep {prog : Program} {w : World} {h h' : Heap} (k : G.KeepsTups h h') : ∀ {xs : List KD} {vs : List Value}, AllIs prog w h xs vs → AllIs prog w h' xs vs
  | _, _, .nil => .nil
  | _, _, .cons a b => .cons (KD.Is.keep k a) (AllIs.keep k b)

def Order (xs : List KD) (idx : List Nat) : Prop := idx.Perm (List.range xs.length) ∧ idx.Pairwise fun i j => ∀ x y, xs[i]? = some x → xs[j]? = some y → lexL y.lst x.lst = false
def byOrder (vs : List Value) (idx : List Nat) : List Value := idx.map fun i => vs.getD i Value.none

section
variable {prog : Program} {w : World} {A : Around} {E : Value → Shared → Prop} {s : Shared}

theorem sort_goes {xs : List KD} {vs : List Value} {k : Nat} {kd : SortKind} {Q : Unit → SortSt → Prop} (hu : A.units < cLine) (h : AllIs prog w s.heap xs vs) (hk : ∀ x ∈ xs, x.kind = k) (hg : Goes kd k) (h2 : 2 ≤ vs.length)
    (hQ : ∀ (idx : List Nat) (pend : Array (Nat × Nat × Nat)) (gal : Nat), Order xs idx → Q () (SortSt.mk' kd (idx.map (swapped vs vs)).toArray pend gal none)) :
    wpS (model prog w) A E s sortRuns' Q (SortSt.mk' kd ((List.range xs.length).map (swapped vs vs)).toArray #[] 7 none) := by
  have hlen : xs.length = vs.length := Paired.length h
  have hm : (xs.map KD.lst).length = xs.length := List.length_map ..
  have main := sort_any (O := lexOrd) (kd := kd) (ks := vs) (vs := vs) (as := xs.map KD.lst) (Q := Q) (prog := prog) (w := w) (A := A) (E := E) (s := s) (by rw [hm, hlen]) (by rw [hm, hlen]) (by rw [hm, hlen]; exact h2)
    (fun i j a b ha hb E Q hq => by
      rw [List.getElem?_map] at ha hb
      obtain ⟨x, hx, rfl⟩ := Option.map_eq_some_iff.mp ha
      obtain ⟨y, hy, rfl⟩ := Option.map_eq_some_iff.mp hb
      obtain ⟨u, hu1, iu⟩ := pairedAt h i x hx
      obtain ⟨v, hv1, iv⟩ := pairedAt h j y hy
      rw [List.getD_eq_getElem?_getD, List.getD_eq_getElem?_getD, hu1, hv1]
      have kx := hk x (List.mem_of_getElem? hx)
      have ky := hk y (List.mem_of_getElem? hy)
      exact goes_lt hu iu iv (kx.trans ky.symm) (kx ▸ hg) hq)
    (fun idx pend gal hp hs => hQ idx pend gal ⟨by rw [hm] at hp; exact hp, hs.imp fun {i j} hij (x y : KD) hx hy => hij x.lst y.lst (by rw [List.getElem?_map, hx]; rfl) (by rw [List.getElem?_map, hy]; rfl)⟩)
  rw [hm] at main
  exact main

theorem swap_vals (vs : List Value) (idx : List Nat) : ((idx.map (swapped vs vs)).toArray).map (·.2) = (byOrder vs idx).toArray := by
  rw [List.map_toArray, List.map_map]; rfl
theorem swap_pairs {xs : List KD} {vs : List Value} (h : xs.length = vs.length) : ((List.range xs.length).map (swapped vs vs)).toArray = vs.toArray.zip vs.toArray := by
  rw [h, List.zip_toArray]
  congr 1
  refine List.ext_getElem? fun i => ?_
  rw [List.getElem?_map]
  rcases Nat.lt_or_ge i vs.length with q | q
  · rw [List.getElem?_range q, List.getElem?_eq_getElem (by rw [List.length_zip]; omega), List.getElem_zip]
    show some (swapped vs vs i) = _
    unfold swapped
    rw [List.getD_eq_getElem?_getD, List.getElem?_eq_getElem q]; rfl
  · rw [List.getElem?_eq_none (by rw [List.length_range]; exact q), List.getElem?_eq_none (by rw [List.length_zip]; omega)]; rfl

theorem sort_list {a : Addr} {xs : List KD} {vs : List Value} {n k : Nat} {P : PySem.Fin → Shared → Prop} (hu : A.units < cLine) (ho : s.heap.get? a = some (seqObj "list" vs.toArray n)) (h : AllIs prog w s.heap xs vs) (hk : ∀ x ∈ xs, x.kind = k) (hz : vs.length ≤ sizeLine)
    (hP : ∀ idx, Order xs idx → P (.done (.ret .none)) { s with heap := sortedHeap s.heap a vs (byOrder vs idx).toArray }) : wpAny (model prog w) A (Builtin.«list.sort» ⟨[.ref a], []⟩) P E s := by
  have hlen : xs.length = vs.length := Paired.length h
  have al : a < s.heap.objs.size := Heap.lt_size ho
  have hsz : vs.toArray.size = vs.length := by simp
  rw [list_sort_plain]
  refine wpAny_bind (listItems_at ho rfl (wpAny_bind (listUpdate_at ho rfl ?_)))
  obtain ⟨e1, ho1⟩ : ∃ e1, (s.heap.update a (Obj.mapSeq fun _ => #[])).get? a = some (seqObj "list" #[] e1) := ⟨_, get?_update_seq ho (fun _ => #[])⟩
  refine wpAny_bind (seqEpoch_at ho1 rfl (wpAny_bind (wpAny_newTuple (wpAny_bind (wpAny_newList (wpAny_holding ?_))))))
  have ho6 : (G.sortHeap6 s.heap a vs).get? a = some (seqObj "list" #[] e1) := by
    unfold G.sortHeap6
    rw [Heap.get?_push_ne _ _ _ (by rw [size_push', Heap.size_update]; exact Nat.ne_of_lt (Nat.lt_succ_of_lt al)), Heap.get?_push_ne _ _ _ (by rw [Heap.size_update]; exact Nat.ne_of_lt al)]
    exact ho1
  show wpAny (model prog w) A _ P E { s with heap := G.sortHeap6 s.heap a vs }
  have h6 : AllIs prog w (G.sortHeap6 s.heap a vs) xs vs := h.keep (G.keeps_sort6 ho)
  dsimp only
  by_cases h2 : vs.toArray.size < 2
  · rw [if_pos h2, if_pos h2]
    refine wpAny_bind (wpAny_pure ?_)
    rw [StateT.run_pure]
    refine wpAny_bind (wpAny_pure ?_)
    dsimp only
    refine wpAny_bind (seqEpoch_at ho6 rfl (wpAny_bind (listUpdate_at ho6 rfl ?_ (hsz2 := by rw [Array.size_map]; show (vs.toArray.zip vs.toArray).size ≤ _; rw [Array.size_zip]; omega))))
    simp only [bne_self_eq_false, Bool.false_eq_true, if_false]
    refine wpAny_pure ?_
    have := hP (List.range xs.length) ⟨.refl _, ?_⟩
    · rw [← swap_vals, swap_pairs hlen] at this
      exact this
    · refine List.pairwise_lt_range.imp_of_mem fun {i j} hi hj hij => ?_
      have := List.mem_range.mp hj
      omega
  · rw [if_neg h2, if_neg h2]
    refine wpAny_bind (kind_goes (s := { s with heap := G.sortHeap6 s.heap a vs }) h6 hk (by omega) fun kd hg => ?_)
    rw [← swap_pairs hlen]
    refine wpAny_bind (wpAny_mono (sort_goes (s := { s with heap := G.sortHeap6 s.heap a vs }) (Q := fun _ st => ∃ idx pend gal, Order xs idx ∧ st = SortSt.mk' kd (idx.map (swapped vs vs)).toArray pend gal none) hu h6 hk hg (by omega) fun idx pend gal ho => ⟨idx, pend, gal, ho, rfl⟩) ?_ fun _ _ e => e)
    rintro ⟨⟨⟩, st⟩ s2 ⟨rfl, idx, pend, gal, hor, rfl⟩
    dsimp only
    refine wpAny_bind (seqEpoch_at ho6 rfl (wpAny_bind (listUpdate_at ho6 rfl ?_ (hsz2 := ?_))))
    · simp only [bne_self_eq_false, Bool.false_eq_true, if_false]
      refine wpAny_pure ?_
      have := hP idx hor
      rw [← swap_vals] at this
      exact this
    · rw [swap_vals]
      have := hor.1.length_eq
      rw [List.length_range] at this
      show (byOrder vs idx).toArray.size ≤ _
      unfold byOrder
      simp; omega
end
end L2

namespace L2
open PySem PyProof.Rows PySem.W
set_option autoImplicit false
set_option maxHeartbeats 1000000

def Rises (zs : List KD) : Prop := zs.Pairwise fun x y => lexL y.lst x.lst = false
theorem paired_perm {α β : Type} {R : α → β → Prop} {us vs : List β} (p : us.Perm vs) : ∀ {xs : List α}, Paired R xs us → ∃ ys : List α, ys.Perm xs ∧ Paired R ys vs := by
  induction p with
  | nil => intro xs h; cases h; exact ⟨[], .refl _, .nil⟩
  | cons b _ ih =>
    intro xs h
    cases h with
    | cons r t =>
      obtain ⟨ys, p1, p2⟩ := ih t
      exact ⟨_ :: ys, p1.cons _, .cons r p2⟩
  | swap b c l =>
    intro xs h
    cases h with
    | cons r t =>
      cases t with
      | cons r2 t2 => exact ⟨_, List.Perm.swap _ _ _, .cons r2 (.cons r t2)⟩
  | trans _ _ ih1 ih2 =>
    intro xs h
    obtain ⟨ys, p1, p2⟩ := ih1 h
    obtain ⟨zs, p3, p4⟩ := ih2 p2
    exact ⟨zs, p3.trans p1, p4⟩

theorem pairPick {α : Type} {R : α → Value → Prop} {as : List α} {vs : List Value} (H : Paired R as vs) : ∀ idx : List Nat, (∀ i ∈ idx, i < as.length) → Paired R (idx.filterMap (as[·]?)) (byOrder vs idx)
  | [], _ => .nil
  | i :: idx, hi => by
    have e : as[i]? = some (as[i]'(hi i List.mem_cons_self)) := List.getElem?_eq_getElem _
    obtain ⟨u, hu, iu⟩ := pairedAt H i _ e
    rw [List.filterMap_cons_some e]
    show Paired _ _ (vs.getD i Value.none :: byOrder vs idx)
    rw [List.getD_eq_getElem?_getD, hu]
    exact .cons iu (pairPick H idx fun j hj => hi j (List.mem_cons_of_mem _ hj))
theorem order_pick {α : Type} {R : α → Value → Prop} {f : α → KD} {as : List α} {vs : List Value} {idx : List Nat} (H : Paired R as vs) (O : Order (as.map f) idx) : ∃ bs, bs.Perm as ∧ Rises (bs.map f) ∧ Paired R bs (byOrder vs idx) := by
  have hl : ∀ i ∈ idx, i < as.length := fun i hi => by have := List.mem_range.mp (O.1.mem_iff.mp hi); rwa [List.length_map] at this
  refine ⟨idx.filterMap (as[·]?), ?_, ?_, pairPick H idx hl⟩
  · have := O.1.filterMap (as[·]?)
    rw [List.length_map] at this
    exact this.trans (by rw [List.filterMap_getElem?_range_length])
  · refine List.pairwise_map.mpr (List.Pairwise.filterMap _ (fun i j h b hb c hc => ?_) O.2)
    exact h (f b) (f c) (by rw [List.getElem?_map, hb]; rfl) (by rw [List.getElem?_map, hc]; rfl)
theorem paired_map {α : Type} {R : α → Value → Prop} {f : α → KD} {prog : Program} {w : World} {h : Heap} (hR : ∀ a v, R a v → (f a).Is prog w h v) : ∀ {as : List α} {vs : List Value}, Paired R as vs → AllIs prog w h (as.map f) vs
  | _, _, .nil => .nil
  | _, _, .cons r t => .cons (hR _ _ r) (paired_map hR t)

section
variable {prog : Program} {w : World} {A : Around} {E : Value → Shared → Prop} {s : Shared}
structure NewL (h h' : Heap) (p : Addr) (us : List Value) : Prop where
  keep : ∀ b o, h.get? b = some o → h'.get? b = some o
  new : h.objs.size ≤ p
  at_ : ∃ e, h'.get? p = some (seqObj "list" us.toArray e)
variable {α : Type} {R : α → Value → Prop} {f : α → KD}

theorem sorted_of {v : Value} {Q : Value → Shared → Prop} (hu : A.units + 2 < cLine)
    (h : wpAny (model prog w) A.in1 (collect v) (fun vs s1 => ∃ as k, (∀ a v, R a v → (f a).Is prog w s1.heap v) ∧ Paired R as vs ∧ (∀ a ∈ as, (f a).kind = k) ∧ vs.length ≤ sizeLine ∧
      ∀ h' p bs us, NewL s1.heap h' p us → bs.Perm as → Paired R bs us → Rises (bs.map f) → Q (.ref p) { s1 with heap := h' }) E s) :
    wpAny (model prog w) A (call (.builtin "sorted") [v]) Q E s := by
  refine Calls.call_function_entry kind_sorted plain_sorted entry_sorted (args_sorted1 _) ?_
  unfold Builtin.«sorted»
  refine wpAny_bind (m := checkCount "sorted" 1 1 _) (wpAny_pure (wpAny_bind (wpAny_mono h (fun vs s1 q => ?_) fun _ _ e => e)))
  obtain ⟨as, k, hR, hx, hk, hz, hq⟩ := q
  refine wpAny_bind (wpAny_newList ?_ hz)
  have hoL : (s1.heap.push (seqObj "list" vs.toArray 0)).get? s1.heap.objs.size = some (seqObj "list" vs.toArray 0) := Heap.get?_push_size _ rfl
  have kp : G.KeepsTups s1.heap (s1.heap.push (seqObj "list" vs.toArray 0)) := G.KeepsTups.push _ _
  refine wpAny_bind (wpAny_holding (wpAny_call_entry slot_list_sort ⟨_, hoL, rfl⟩ entry_list_sort (sort_list (s := { s1 with heap := s1.heap.push (seqObj "list" vs.toArray 0) }) (xs := as.map f) (k := k) (by show A.units + 1 + 1 < cLine; omega) hoL ((paired_map hR hx).keep kp) (fun x hx => ?_) hz fun idx ho => ⟨_, rfl, ?_⟩) (args_list_sort _)))
  · obtain ⟨a, ha, rfl⟩ := List.mem_map.mp hx
    exact hk a ha
  obtain ⟨bs, z1, z2, z3⟩ := order_pick hx ho
  refine wpAny_pure ⟨_, rfl, hq _ s1.heap.objs.size bs _ ⟨fun b o e => ?_, Nat.le_refl _, sortedHeap_at hoL⟩ z1 z3 z2⟩
  have hlt : b < s1.heap.objs.size := Heap.lt_size e
  show (sortedHeap (s1.heap.push (seqObj "list" vs.toArray 0)) s1.heap.objs.size vs (byOrder vs idx).toArray).get? b = some o
  rw [sortedHeap_old (Nat.ne_of_lt hlt) (by rw [size_push']; exact Nat.lt_succ_of_lt hlt)]
  exact Heap.get?_push_of_some _ e

theorem sorted_list {l : Addr} {as : List α} {vs : List Value} {k : Nat} {Q : Value → Shared → Prop} (hu : A.units + 2 < cLine) (hl : s.heap.IsList l vs.toArray) (hR : ∀ a v, R a v → (f a).Is prog w s.heap v) (h : Paired R as vs) (hk : ∀ a ∈ as, (f a).kind = k) (hz : vs.length ≤ sizeLine)
    (hQ : ∀ h' p bs us, NewL s.heap h' p us → bs.Perm as → Paired R bs us → Rises (bs.map f) → Q (.ref p) { s with heap := h' }) : wpAny (model prog w) A (call (.builtin "sorted") [.ref l]) Q E s := by
  refine sorted_of (R := R) (f := f) hu (collect_list hl ?_ hz)
  have kp : ∀ b o, s.heap.get? b = some o → ((s.heap.push (seqObj "list" #[] 0)).update s.heap.objs.size (Obj.mapSeq (· ++ vs.toArray))).get? b = some o := fun b o e => by
    rw [Heap.get?_update_ne _ _ _ _ (Nat.ne_of_lt (Heap.lt_size e))]
    exact Heap.get?_push_of_some _ e
  refine ⟨as, k, fun a v r => (hR a v r).keep fun b o e _ => kp b o e, h, hk, hz, fun h' p bs us N p1 p2 p3 => ?_⟩
  obtain ⟨n1, n2, n3⟩ := N
  refine hQ h' p bs us ⟨fun b o e => n1 b o (kp b o e), ?_, n3⟩ p1 p2 p3
  refine Nat.le_trans ?_ n2
  rw [Heap.size_update, size_push']; exact Nat.le_succ _

theorem sorted_set {a : Addr} {es : List (Int × Value)} {as : List α} {k : Nat} {Q : Value → Shared → Prop} (hu : A.units + 2 < cLine) (hh : A.handled = none) (hS : SetAt w s.heap a es) (hR : ∀ a v, R a v → (f a).Is prog w s.heap v) (h : Paired R as (es.map (·.2))) (hk : ∀ a ∈ as, (f a).kind = k)
    (hQ : ∀ h' tk p bs us, NewL s.heap h' p us → bs.Perm as → Paired R bs us → Rises (bs.map f) → Q (.ref p) { s with heap := h', toks := tk }) : wpAny (model prog w) A (call (.builtin "sorted") [.ref a]) Q E s := by
  obtain ⟨ep, t, ho, T, hn⟩ := hS
  refine sorted_of (R := R) (f := f) hu (collect_set (by simpa using hh) ho T hn fun s1 vs kp g0 g1 g2 g3 pv => ?_)
  obtain ⟨bs, q1, q2⟩ := paired_perm pv.symm h
  refine ⟨bs, k, fun a v r => (hR a v r).keep fun b o e _ => kp b o e, q2, fun b hb => hk b (q1.mem_iff.mp hb), ?_, fun h' p cs us N p1 p2 p3 => ?_⟩
  · rw [pv.length_eq, List.length_map, sizeLine_eq]; omega
  · obtain ⟨n1, n2, n3⟩ := N
    have e : ({ s1 with heap := h' } : Shared) = { s with heap := h', toks := s1.toks } := by
      cases s1; cases s; simp only at g1 g2 g3; subst g1; subst g2; subst g3; rfl
    rw [e]
    refine hQ h' s1.toks p cs us ⟨fun b o e => n1 b o (kp b o e), ?_, n3⟩ (p1.trans q1) p2 p3
    exact Nat.le_trans g0 n2
end
end L2

namespace L2
open PySem PyProof.Rows PySem.W
set_option autoImplicit false
set_option maxHeartbeats 1000000
section
variable {prog : Program} {w : World} {A : Around} {E : Value → Shared → Prop} {s : Shared}
end
end L2

namespace L2
open PySem PySem.Spec PyProof.Rows

theorem codeAmong_more {pos pos' : Pos} {c cv : Value} (l : List Value) (ht : TriplesOk l) (h : codeAmong pos (l ++ [rawInt pos'.line, rawInt pos'.col, c]) = some cv) : codeAmong pos l = some cv ∨ cv = c := by
  fun_induction TriplesOk l with
  | case1 =>
    simp only [List.nil_append, codeAmong, rawInt] at h
    split at h
    · exact .inr (Option.some.inj h).symm
    · cases h
  | case2 a' t b' u x rest ih =>
    simp only [List.cons_append, codeAmong] at h ⊢
    split at h
    · rename_i e; rw [if_pos e]; exact .inl h
    · rename_i e; rw [if_neg e]; exact ih ht h
  | case3 l h1 h2 => exact ht.elim
theorem CodeK.hd {K : PySem.W.Frag} {c P : Addr} {h : Heap} (C : CodeK K c P) (k : K.In h) : PySem.W.CodeHd h c P := by
  obtain ⟨⟨o, vs, file, tf, flags, tg, inF, text, tt, hk, hcl, hd, h11, h18, h7, h9, h10⟩, ne⟩ := C
  have h11' : vs.getD 11 .none = .ref P := by rw [Array.getD_eq_getD_getElem?, h11]; rfl
  exact ⟨o, vs, file, tf, flags, tg, inF, text, tt, k _ _ hk, hcl, hd, h11, h11', h18, h7, h9, h10, ne⟩
section
variable {X : Cx} {pins : List (Addr × Obj)} {σ : St} {H : Hp} {s : Shared}
end

end L2

namespace L2
open PySem PyProof.Rows
set_option autoImplicit false

section
variable {prog : Program} {w : World} {A : Around} {E : Value → Shared → Prop} {s : Shared}
abbrev emptySet (w : World) : Obj := setObj [] 0 (.fresh 0 0 (!w.params.followText "set-order"))

variable {R : Result → Shared → Prop} {I : Addr} {fp wr : List Addr} {G : Array GenState → Array GenState → Prop} {n : Nat} {P : Nat → Value → Prop} {St : Nat → Shared → Prop}
end

section
variable {prog : Program} {w : World} {A : Around} {E : Value → Shared → Prop} {s : Shared}
set_option maxHeartbeats 6400000 in
end
end L2

namespace L2
open PySem PySem.Spec PyProof.Rows

abbrev IntE (js : List Int) (es : List (Int × Value)) : Prop := Paired (fun (j : Int) (e : Int × Value) => ∃ u, e = (hashInt j, Value.int j u)) js es
theorem IntE.mem {js : List Int} {es : List (Int × Value)} (h : IntE js es) (j : Int) : (∃ u, (hashInt j, Value.int j u) ∈ es) ↔ j ∈ js := by
  induction h with
  | nil => simp
  | @cons a b l1 l2 r t ih =>
    obtain ⟨u, rfl⟩ := r
    constructor
    · rintro ⟨u', hu⟩
      rcases List.mem_cons.mp hu with e | e
      · injection e with e1 e2
        injection e2 with e2 _
        rw [e2]; exact List.mem_cons_self
      · exact List.mem_cons_of_mem _ (ih.mp ⟨u', e⟩)
    · intro hj
      rcases List.mem_cons.mp hj with e | e
      · rw [e]; exact ⟨u, List.mem_cons_self⟩
      · obtain ⟨u', hu⟩ := ih.mpr e
        exact ⟨u', List.mem_cons_of_mem _ hu⟩
theorem IntE.all {js : List Int} {es : List (Int × Value)} (h : IntE js es) : ∀ e ∈ es, ∃ j u, e = (hashInt j, Value.int j u) := by
  induction h with
  | nil => intro e he; cases he
  | @cons a b l1 l2 r t ih =>
    intro e he
    rcases List.mem_cons.mp he with rfl | he
    · exact ⟨a, r⟩
    · exact ih e he
theorem IntE.vals {js : List Int} {es : List (Int × Value)} (h : IntE js es) : Paired (fun (j : Int) (v : Value) => ∃ u, v = Value.int j u) js (es.map (·.2)) := by
  induction h with
  | nil => exact .nil
  | cons r t ih => obtain ⟨u, rfl⟩ := r; exact .cons ⟨u, rfl⟩ ih

def SetIn (w : World) (S : Addr) (js : List Int) (h : Heap) : Prop := ∃ es, SetAt w h S es ∧ IntE js es
def SetI (w : World) (S : Addr) (js : List Int) : HO := .ext (SetIn w S js)
theorem SetIn.at {w : World} {S : Addr} {js : List Int} {h h' : Heap} (x : SetIn w S js h) (k : ∀ o, h.get? S = some o → h'.get? S = some o) : SetIn w S js h' := by
  obtain ⟨es, ⟨ep, t, ho, r⟩, e⟩ := x
  exact ⟨es, ⟨ep, t, k _ ho, r⟩, e⟩
theorem SetIn.ok {P : Program} {w : World} {H : Hp} {S : Addr} {js : List Int} {h : Heap} (x : SetIn w S js h) : ObjOk P w H h S (SetI w S js) := by
  refine ⟨x, ?_, fun h1 h2 p k => p.at k⟩
  obtain ⟨es, ⟨ep, t, ho, r⟩, e⟩ := x
  exact ⟨_, ho⟩

section
variable {X : Cx} {K : PySem.W.Frag}
def rSortSetI (w : World) : List V → Hp → VK → Prop := fun xs H Q => ∃ (S : Addr) (js : List Int), xs = [.ref S] ∧ H S = some (SetI w S js) ∧
  ∀ (bs : List Int) (p : Addr), bs.Perm js → bs.Pairwise (· ≤ ·) → H p = none → Q (.ref p) (upd H p (.lst (bs.map V.int)))
theorem rises_ints {bs : List Int} (h : Rises (bs.map KD.n)) : bs.Pairwise (· ≤ ·) := by
  refine (List.pairwise_map.mp h).imp fun {x y} q => ?_
  have q : lexL [y] [x] = false := q
  by_cases e : y = x
  · omega
  · rw [lexL_diff e] at q
    have := of_decide_eq_false q
    omega
theorem vals_intsP : ∀ {bs : List Int} {us : List Value}, Paired (fun (j : Int) (v : Value) => ∃ u, v = Value.int j u) bs us → Vals (bs.map V.int) us
  | _, _, .nil => .nil
  | _, _, .cons r t => .cons r (vals_intsP t)
theorem cr_sortSetI {k : Nat} (hc : X.calm = true) (hr : Room k X.A) : CallR X (.builtin "sorted") (rSortSetI X.w) := by
  intro pins s σ H vs us Q I r h
  obtain ⟨S, js, rfl, hS, q⟩ := h
  rw [Vals.ref1 r]
  obtain ⟨⟨es, hat, hE⟩, _, _⟩ := I.hok S _ hS
  have hu := hr.un
  refine sorted_set (R := fun (j : Int) (v : Value) => ∃ u, v = Value.int j u) (f := KD.n) (k := 0) (by omega) (I.ok.hd hc) hat (fun a v z => z) hE.vals (fun _ _ => rfl) fun h' tk p bs us N p1 p2 p3 => ?_
  obtain ⟨n1, n2, e, n3⟩ := N
  have hl : (bs.map V.int).length ≤ sizeLine := by
    rw [List.length_map, p1.length_eq, Paired.length hE, sizeLine_eq]
    obtain ⟨_, _, _, _, z⟩ := hat
    omega
  exact ⟨.ref p, upd H p (.lst (bs.map V.int)), I.laid (t' := tk) n1 n2 ⟨hl, us, e, vals_intsP p2, n3⟩, rfl, q bs p p1 (rises_ints p3) (I.hok.fresh n2)⟩
end
end L2

namespace L2
open PySem PySem.Spec PyProof.Rows

def KDV (K : PySem.W.Frag) (H : Hp) : KD → V → Prop
  | .n i, v => v = .int i
  | .t l, v => ∃ a, v = .ref a ∧ SqT K H a (l.map V.int)
  | .p i l, v => ∃ a b, v = .ref a ∧ SqT K H a [.int i, .ref b] ∧ SqT K H b (l.map V.int)

theorem itemsAre_ints {P : Program} {w : World} : ∀ {l : List Int} {its : List Value}, Vals (l.map V.int) its → ItemsAre (PySem.intKind P w) l its
  | [], _, .nil => .nil
  | i :: l, _, .cons r t => by
    obtain ⟨u, rfl⟩ := r
    exact .cons (intKind_is P w i u) (itemsAre_ints t)
section
variable {X : Cx} {pins : List (Addr × Obj)} {σ : St} {H : Hp} {s : Shared}
theorem Inv.tupI (I : Inv X pins σ H s) {a : Addr} {l : List Int} (h : SqT X.K H a (l.map V.int)) : TupI X.prog X.w s.heap l a := by
  obtain ⟨its, r, ⟨o, e, c, n, d⟩, _⟩ := I.tuple h
  exact ⟨o, its.toArray, n, e, c, d, itemsAre_ints (by simpa using r)⟩
theorem Inv.kd (I : Inv X pins σ H s) {k : KD} {v : V} {u : Value} (h : KDV X.K H k v) (r : RelV v u) : k.Is X.prog X.w s.heap u := by
  cases k with
  | n i => subst h; exact r
  | t l =>
    obtain ⟨a, rfl, h⟩ := h
    exact ⟨a, r, I.tupI h⟩
  | p i l =>
    obtain ⟨a, b, rfl, h1, h2⟩ := h
    obtain ⟨its, r1, ⟨o, e, c, n, d⟩, _⟩ := I.tuple h1
    cases r1 with
    | cons q1 q2 =>
      cases q2 with
      | cons q3 q4 =>
        cases q4
        obtain ⟨t, rfl⟩ := q1
        cases q3
        exact ⟨a, o, t, b, n, r, e, c, d, I.tupI h2⟩
end
theorem paired3 {K : PySem.W.Frag} {H : Hp} : ∀ {ks : List KD} {ys : List V} {us : List Value}, Paired (KDV K H) ks ys → Vals ys us → Paired (fun (a : KD × V) (u : Value) => RelV a.2 u ∧ KDV K H a.1 a.2) (ks.zip ys) us
  | _, _, _, .nil, .nil => .nil
  | _, _, _, .cons a b, .cons c d => .cons ⟨c, a⟩ (paired3 b d)
theorem vals_snd {K : PySem.W.Frag} {H : Hp} : ∀ {bs : List (KD × V)} {us : List Value}, Paired (fun (a : KD × V) (u : Value) => RelV a.2 u ∧ KDV K H a.1 a.2) bs us → Vals (bs.map (·.2)) us
  | _, _, .nil => .nil
  | _, _, .cons a b => .cons a.1 (vals_snd b)
section
variable {X : Cx} {K : PySem.W.Frag}
def rSortKD (K : PySem.W.Frag) : List V → Hp → VK → Prop := fun xs H Q => ∃ (a : Addr) (ks : List KD) (ys : List V) (k : Nat), xs = [.ref a] ∧ SqL K H a ys ∧ Paired (KDV K H) ks ys ∧ (∀ x ∈ ks, x.kind = k) ∧
  ∀ (bs : List (KD × V)) (p : Addr), bs.Perm (ks.zip ys) → Rises (bs.map (·.1)) → H p = none → Q (.ref p) (upd H p (.lst (bs.map (·.2))))
theorem cr_sortKD {n : Nat} (hr : Room n X.A) (e : X.K = K) : CallR X (.builtin "sorted") (rSortKD K) := by
  subst e
  intro pins s σ H vs us Q I r h
  obtain ⟨a, ks, ys, k, rfl, hs, hp, hk, q⟩ := h
  obtain ⟨its, rv, hl, hz⟩ := I.list hs
  rw [Vals.ref1 r]
  have hu := hr.un
  refine sorted_list (R := fun (a : KD × V) (u : Value) => RelV a.2 u ∧ KDV X.K H a.1 a.2) (f := Prod.fst) (k := k) (by omega) hl.isList (fun a v z => I.kd z.2 z.1) (paired3 hp rv) (fun b hb => hk _ (List.of_mem_zip hb).1) (by rw [← rv.length]; exact hz) fun h' p bs us N p1 p2 p3 => ?_
  obtain ⟨n1, n2, e, n3⟩ := N
  have hlen : (bs.map (·.2)).length ≤ sizeLine := by
    rw [List.length_map, p1.length_eq, List.length_zip]
    exact Nat.le_trans (Nat.min_le_right _ _) hz
  exact ⟨.ref p, upd H p (.lst (bs.map (·.2))), I.laid (t' := s.toks) n1 n2 ⟨hlen, us, e, vals_snd p2, n3⟩, rfl, q bs p p1 p3 (I.hok.fresh n2)⟩
end
end L2

namespace L2
open PySem PySem.Spec PyProof.Rows

section
variable {X : Cx} {pins : List (Addr × Obj)} {σ : St} {H : Hp} {s : Shared}
structure OwnA (X : Cx) (pins : List (Addr × Obj)) (b : Addr) : Prop where
  new : X.s_0.heap.objs.size ≤ b
  loc : b ≠ X.env.locals
  cel : ∀ x c, X.env.cells.lookup x = some c → c ≠ b
  pin : ∀ p ∈ X.pn ++ pins, p.1 ≠ b
  nfs : b ∉ X.fs
theorem Inv.own (I : Inv X pins σ H s) {b : Addr} (h : s.heap.objs.size ≤ b) : OwnA X pins b :=
  ⟨Nat.le_trans I.sz h, Nat.ne_of_gt (Nat.lt_of_lt_of_le I.lt h), fun x c e => let ⟨v, o, ho, _⟩ := I.cell x c e; Nat.ne_of_lt (Nat.lt_of_lt_of_le (Heap.lt_size ho) h),
    fun p hp => Nat.ne_of_lt (Nat.lt_of_lt_of_le (Heap.lt_size (I.pin p hp).1) h), I.nofs h⟩
end
end L2

namespace L2
open PySem PySem.Spec PyProof.Rows
section
variable {prog : Program} {w : World} {A : Around} {E : Value → Shared → Prop} {s : Shared}
theorem cat_nil {t b : Addr} {vs ws : List Value} {Q : Value → Shared → Prop} (ht : IsTup s.heap t vs.toArray) (hb : IsTup s.heap b ws.toArray) (hv : vs = []) (h : Q (.ref b) s) : wpAny (model prog w) A (binaryOp .Add (.ref t) (.ref b)) Q E s := by
  obtain ⟨⟨cls, dd, data, sl⟩, ho, hc, n, hd⟩ := id ht
  obtain ⟨⟨cls2, dd2, data2, sl2⟩, ho2, hc2, n2, hd2⟩ := id hb
  simp only at hc hd hc2 hd2
  subst hc hd hc2 hd2
  exact concat_meets ⟨_, ho, rfl⟩ ⟨_, ho2, rfl⟩ noFill_tuple_add seq_tuple_add PySem.F.slot_tuple_add PySem.F.entry_tuple_add (PySem.F.args_tuple_add_2 _ _)
      (tuple_addW0 t b vs.toArray ws.toArray n n2 dd dd2 sl sl2 (by simp [hv])) ⟨ho, ho2, h⟩
end
def rTup (K : PySem.W.Frag) (xs : List V) (H : Hp) (Q : VK) : Prop := ∀ r H', Same H H' → SqT K H' r xs → Q (.ref r) H'
section
variable {X : Cx} {K : PySem.W.Frag}
def rCatTT (K : PySem.W.Frag) : R2 := fun x y H Q => ∃ a b xs ys, x = .ref a ∧ y = .ref b ∧ SqT K H a xs ∧ SqT K H b ys ∧ xs.length + ys.length ≤ sizeLine ∧ rTup K (xs ++ ys) H Q
theorem op_catTT (e : X.K = K) : OpR X (binaryOp .Add) (rCatTT K) := by
  subst e
  intro pins s σ H x y v u Q I rx ry h
  obtain ⟨a, b, xs, ys, rfl, rfl, ha, hb, hz, q⟩ := h
  by_cases hx : xs = []
  · subst hx
    cases rx; cases ry
    obtain ⟨its, r1, p1, _⟩ := I.tuple ha
    obtain ⟨its2, r2, p2, _⟩ := I.tuple hb
    exact cat_nil p1 p2 (r1.nil_iff.mpr rfl) ⟨.ref b, H, I, rfl, q b H (fun _ _ e => e) hb⟩
  · refine op_catT pins s σ H _ _ v u Q I rx ry ⟨a, b, xs, ys, rfl, rfl, ha, hb, hx, hz, fun e => ?_, fun _ p hp => q p _ (Same.upd hp) (.inl (.inl upd_same))⟩
    subst e
    exact q a H (fun _ _ e => e) (by rw [List.append_nil]; exact ha)
end
end L2

namespace L2
set_option autoImplicit false
theorem ints_unique : ∀ {as bs : List Int}, as.Perm bs → as.Pairwise (· ≤ ·) → bs.Pairwise (· ≤ ·) → as = bs
  | [], bs, p, _, _ => (List.nil_perm.mp p).symm
  | a :: as, [], p, _, _ => absurd p.length_eq (by simp)
  | a :: as, b :: bs, p, ha, hb => by
    have h1 : a = b := by
      rcases List.mem_cons.mp (p.mem_iff.mp List.mem_cons_self) with e | e
      · exact e
      · rcases List.mem_cons.mp (p.mem_iff.mpr List.mem_cons_self) with e2 | e2
        · exact e2.symm
        · have := (List.pairwise_cons.mp hb).1 a e
          have := (List.pairwise_cons.mp ha).1 b e2
          omega
    subst h1
    rw [ints_unique (p.cons_inv) (List.pairwise_cons.mp ha).2 (List.pairwise_cons.mp hb).2]
end L2

namespace L2
open PySem PySem.Spec PyProof.Rows
section
variable {X : Cx} {K : PySem.W.Frag}
theorem op_in_seqK (e : X.K = K) : OpR X (compareOp .In) (rIn K false) := e ▸ op_in_seq
end
theorem inV_ints {x : Int} {ms : List Int} : inV (.int x) (ms.map V.int) = decide (x ∈ ms) := by
  unfold inV
  rw [List.any_map]
  have : (ms.any ((fun y => eqV y (.int x)) ∘ V.int)) = ms.any fun y => y == x := rfl
  rw [this]
  by_cases h : x ∈ ms
  · rw [decide_eq_true h, List.any_eq_true]; exact ⟨x, h, by simp⟩
  · rw [decide_eq_false h, List.any_eq_false]
    intro y hy e
    exact h (by rw [← eq_of_beq e]; exact hy)
theorem flat_ints (ms : List Int) : (ms.map V.int).all flatV = true := by
  rw [List.all_eq_true]
  intro x hx
  obtain ⟨i, _, rfl⟩ := List.mem_map.mp hx
  rfl
variable {K : PySem.W.Frag} {H H' H1 H4 : Hp}
theorem SqT.sx {a D : Addr} {xs ys : List V} (h : SqT K H a xs) (hD : H D = some (.lst ys)) (s : SameX D H H') : SqT K H' a xs := by
  rcases h with (h | ⟨o, h⟩) | h
  · exact .inl (.inl (s _ _ (ne_of h hD (by intro e; cases e)) h))
  · exact .inl (.inr ⟨o, s _ _ (ne_of h hD (by intro e; cases e)) h⟩)
  · exact .inr h
def Tups (K : PySem.W.Frag) (H : Hp) (zs : List (Addr × List Int)) : Prop := ∀ z ∈ zs, SqT K H z.1 (z.2.map V.int)
abbrev refs (zs : List (Addr × List Int)) : List V := zs.map fun z => V.ref z.1
theorem Tups.same {zs : List (Addr × List Int)} (h : Tups K H zs) (s : Same H H') : Tups K H' zs := fun z hz => s.sqT (h z hz)
theorem Tups.sx {zs : List (Addr × List Int)} {D : Addr} {ys : List V} (h : Tups K H zs) (hD : H D = some (.lst ys)) (s : SameX D H H') : Tups K H' zs := fun z hz => (h z hz).sx hD s
theorem Tups.nil : Tups K H [] := fun z hz => nomatch hz
theorem Tups.snoc {zs : List (Addr × List Int)} {r : Addr} {c : List Int} (h : Tups K H zs) (hr : SqT K H r (c.map V.int)) : Tups K H (zs ++ [(r, c)]) := fun z hz => by
  rcases List.mem_append.mp hz with hz | hz
  · exact h z hz
  · rw [List.mem_singleton.mp hz]; exact hr
theorem Tups.append {zs ys : List (Addr × List Int)} (h : Tups K H zs) (h2 : Tups K H ys) : Tups K H (zs ++ ys) := fun z hz => (List.mem_append.mp hz).elim (h z) (h2 z)
theorem refs_snoc {zs : List (Addr × List Int)} {r : Addr} {c : List Int} : refs (zs ++ [(r, c)]) = refs zs ++ [V.ref r] := by simp [refs]
theorem small {n : Nat} (h : n ≤ 100000) : n < sizeLine := by rw [sizeLine_eq]; omega
theorem tl_push {D r : Addr} {zs : List (Addr × List Int)} {c : List Int} (hD : H1 D = none) (sm : Same H1 H') (hd : H' D = some (.lst (refs zs))) (ht : Tups K H' zs) (s4 : Same H' H4) (hr : SqT K H4 r (c.map V.int)) (len : zs.length ≤ 100000) :
    ∃ acc, H4 D = some (.lst acc) ∧ acc.length < sizeLine ∧ Same H1 (upd H4 D (.lst (acc ++ [.ref r]))) ∧ (upd H4 D (.lst (acc ++ [.ref r]))) D = some (.lst (refs (zs ++ [(r, c)]))) ∧ Tups K (upd H4 D (.lst (acc ++ [.ref r]))) (zs ++ [(r, c)]) := by
  have e := s4 _ _ hd
  refine ⟨_, e, by rw [List.length_map]; exact small len, (sm.trans s4).updF hD, by rw [upd_same, refs_snoc], ((ht.same s4).snoc hr).sx e SameX.upd⟩
theorem il_push {D : Addr} {ms : List Int} {j : Int} (hD : H1 D = none) (sm : Same H1 H') (hd : H' D = some (.lst (ms.map V.int))) (s4 : Same H' H4) (len : ms.length ≤ 100000) :
    ∃ acc, H4 D = some (.lst acc) ∧ acc.length < sizeLine ∧ Same H1 (upd H4 D (.lst (acc ++ [.int j]))) ∧ (upd H4 D (.lst (acc ++ [.int j]))) D = some (.lst ((ms ++ [j]).map V.int)) := by
  have e := s4 _ _ hd
  refine ⟨_, e, by rw [List.length_map]; exact small len, (sm.trans s4).updF hD, by rw [upd_same, List.map_append]; rfl⟩
def tupD (c : List Int) : PyData := .tuple (c.map PyData.int)
theorem Dp_tup {a : Addr} {c : List Int} (h : SqT K H a (c.map V.int)) : Dp K H (.ref a) (tupD c) := .tup h (DpAll_ints c)
theorem DpAll_tups : ∀ {zs : List (Addr × List Int)}, Tups K H zs → DpAll K H (refs zs) (zs.map fun z => tupD z.2)
  | [], _ => .nil
  | z :: zs, h => .cons (Dp_tup (h z List.mem_cons_self)) (DpAll_tups fun y hy => h y (List.mem_cons_of_mem _ hy))
end L2

namespace L2
open PySem PySem.Spec PyProof.Rows
mutual
def wt : PyData → Nat
  | .list ds => wtAll ds + 2
  | .tuple ds => wtAll ds + 4
  | .none => 2000
  | .bool _ => 2000
  | .int _ => 2000
  | .str _ => 0
  | .dict _ => 0
def wtAll : List PyData → Nat
  | [] => 0
  | d :: ds => wt d + 2 + wtAll ds
end
mutual
def okD : PyData → Bool
  | .list ds => okAll ds
  | .tuple ds => okAll ds
  | .none => true
  | .bool _ => true
  | .int i => decide (i.natAbs.log2 < 1920)
  | .str _ => false
  | .dict _ => false
def okAll : List PyData → Bool
  | [] => true
  | d :: ds => okD d && okAll ds
end
theorem tupleText_len (ts : List Str) : (tupleText ts).length ≤ piled ts + 4 := by
  unfold tupleText
  rw [strLen_append, strLen_append]
  have e1 : ((("(" : String) : Str)).length = 1 := rfl
  have e3 : (((if ts.length == 1 then ",)" else ")" : String) : Str)).length ≤ 2 := by split <;> decide
  rw [e1]
  by_cases h : ts = []
  · subst h
    have : (Str.join ", " []).length = 0 := by decide
    rw [this]; omega
  · have := join_length_add ts h
    omega
mutual
theorem shown_le : ∀ d : PyData, okD d = true → d.shown.length ≤ wt d ∧ d.showable = true
  | .none, _ => by simp only [PyData.shown, PyData.showable, wt]; exact ⟨by decide +kernel, trivial⟩
  | .bool b, _ => by
    simp only [PyData.shown, PyData.showable, wt]
    refine ⟨?_, trivial⟩
    cases b <;> decide +kernel
  | .int i, h => by
    simp only [okD, decide_eq_true_eq] at h
    simp only [PyData.shown, PyData.showable, wt, decide_eq_true_eq]
    refine ⟨?_, h⟩
    have := int_text_length_le (a := i) (k := 1920) (by decide) h
    rw [PySem.ofString_length]
    omega
  | .str _, h => by simp only [okD] at h; cases h
  | .dict _, h => by simp only [okD] at h; cases h
  | .list ds, h => by
    simp only [okD] at h
    obtain ⟨h1, h2⟩ := shown_leAll ds h
    simp only [PyData.shown, PyData.showable, wt]
    exact ⟨Nat.le_trans (listText_len _) (by omega), h2⟩
  | .tuple ds, h => by
    simp only [okD] at h
    obtain ⟨h1, h2⟩ := shown_leAll ds h
    simp only [PyData.shown, PyData.showable, wt]
    exact ⟨Nat.le_trans (tupleText_len _) (by omega), h2⟩
theorem shown_leAll : ∀ ds : List PyData, okAll ds = true → piled (PyData.shownAll ds) ≤ wtAll ds ∧ PyData.showableAll ds = true
  | [], _ => by simp [PyData.shownAll, PyData.showableAll, wtAll, piled]
  | d :: ds, h => by
    simp only [okAll, Bool.and_eq_true] at h
    obtain ⟨a1, a2⟩ := shown_le d h.1
    obtain ⟨b1, b2⟩ := shown_leAll ds h.2
    simp only [PyData.shownAll, PyData.showableAll, wtAll, piled_cons, a2, b2, Bool.and_self]
    exact ⟨by omega, trivial⟩
end
theorem okAll_ints {ms : List Int} (h : ∀ z ∈ ms, z.natAbs ≤ 10 ^ 60) : okAll (ms.map PyData.int) = true := by
  induction ms with
  | nil => simp [okAll]
  | cons z ms ih =>
    simp only [List.map_cons, okAll, okD, Bool.and_eq_true, decide_eq_true_eq]
    refine ⟨?_, ih fun y hy => h y (List.mem_cons_of_mem _ hy)⟩
    have := h z List.mem_cons_self
    by_cases e : z.natAbs = 0
    · rw [e]; decide
    · exact (Nat.log2_lt e).mpr (Nat.lt_of_le_of_lt this (by decide +kernel))
theorem wtAll_ints (ms : List Int) : wtAll (ms.map PyData.int) = 2002 * ms.length := by
  induction ms with
  | nil => simp [wtAll]
  | cons z ms ih => simp only [List.map_cons, wtAll, wt, ih, List.length_cons]; omega
theorem tups_ok {n m : Nat} : ∀ {cs : List (List Int)}, (∀ c ∈ cs, c.length ≤ m ∧ ∀ z ∈ c, z.natAbs ≤ 10 ^ 60) → okAll (cs.map tupD) = true ∧ wtAll (cs.map tupD) ≤ (2002 * m + 6) * cs.length ∧ PyData.depthAll (cs.map tupD) ≤ 2
  | [], _ => by simp [okAll, wtAll, PyData.depthAll]
  | c :: cs, h => by
    obtain ⟨a1, a2, a3⟩ := tups_ok (n := n) fun d hd => h d (List.mem_cons_of_mem _ hd)
    obtain ⟨h1, h2⟩ := h c List.mem_cons_self
    have dpt := depthAll_ints c
    have e : 2002 * c.length ≤ 2002 * m := Nat.mul_le_mul_left _ h1
    simp only [List.map_cons, okAll, wtAll, PyData.depthAll, tupD, okD, wt, PyData.depth, okAll_ints h2, wtAll_ints, a1, Bool.and_self, List.length_cons, Nat.mul_add, Nat.mul_one]
    exact ⟨trivial, by omega, by omega⟩
end L2
namespace L2
open PySem PySem.Spec PyProof.Rows
theorem iteT' {c : Prop} [Decidable c] {a b : Prop} (h : c) (x : a) : if c then a else b := by rw [if_pos h]; exact x
theorem iteF' {c : Prop} [Decidable c] {a b : Prop} (h : ¬ c) (x : b) : if c then a else b := by rw [if_neg h]; exact x
theorem KDV.same {K : PySem.W.Frag} {H H' : Hp} {k : KD} {v : V} (h : KDV K H k v) (s : Same H H') : KDV K H' k v := by
  cases k with
  | n i => exact h
  | t l => obtain ⟨a, e, h⟩ := h; exact ⟨a, e, s.sqT h⟩
  | p i l => obtain ⟨a, b, e, h1, h2⟩ := h; exact ⟨a, b, e, s.sqT h1, s.sqT h2⟩
theorem zip_perm {α β γ : Type} {f : α → β} {g : α → γ} {zs : List α} {bs : List (β × γ)} (h : bs.Perm ((zs.map f).zip (zs.map g))) : ∃ ys : List α, bs = ys.map (fun z => (f z, g z)) ∧ ys.Perm zs := by
  rw [List.zip_map'] at h
  generalize hk : (zs.map fun z => (f z, g z)) = ks at h
  induction h generalizing zs with
  | nil => exact ⟨[], rfl, by rw [List.map_eq_nil_iff.mp hk]⟩
  | cons x p ih =>
    cases zs with
    | nil => cases hk
    | cons z zs =>
      rw [List.map_cons] at hk
      injection hk with h1 h2
      obtain ⟨ys, y1, y2⟩ := ih h2
      exact ⟨z :: ys, by rw [y1, ← h1]; rfl, y2.cons z⟩
  | swap x y l =>
    match zs, hk with
    | z1 :: z2 :: zs, hk =>
      simp only [List.map_cons, List.cons.injEq] at hk
      obtain ⟨h1, h2, h3⟩ := hk
      exact ⟨z2 :: z1 :: zs, by rw [← h1, ← h2, ← h3]; rfl, List.Perm.swap _ _ _⟩
  | trans p1 p2 ih1 ih2 =>
    obtain ⟨ys, y1, y2⟩ := ih2 (zs := zs) hk
    obtain ⟨xs, x1, x2⟩ := ih1 (zs := ys) y1.symm
    exact ⟨xs, x1, x2.trans y2⟩
end L2

namespace L2
open PySem PyProof.Rows
set_option autoImplicit false
section
variable {prog : Program} {w : World} {A : Around} {E : Value → Shared → Prop} {s : Shared}
set_option maxHeartbeats 6400000 in
end
end L2

namespace L2
open PySem PySem.Spec PyProof.Rows

theorem upd_id {H : Hp} {a : Addr} {o : HO} (h : H a = some o) : upd H a o = H := by
  funext b; unfold upd
  by_cases e : b = a
  · rw [if_pos e, e, h]
  · rw [if_neg e]
section
variable {prog : Program} {w : World} {A : Around} {E : Value → Shared → Prop} {s : Shared}
theorem call_add {S : Addr} {x : Value} {Q : Value → Shared → Prop} (hT : s.TypeIs (.ref S) "set") (h : wpAny (model prog w) A.in1 (setAdd S x) (fun _ s' => Q .none s') E s) :
    wpAny (model prog w) A (call (.builtin "set.add") [.ref S, x]) Q E s := by
  refine wpAny_call_entry F.slot_set_add hT F.entry_set_add ?_ (F.args_set_add_2 _ _)
  show wpAny _ A.in1 (setAdd S x >>= fun _ => ret Value.none) _ _ s
  exact wpAny_bind (wpAny_mono h (fun _ _ q => wpAny_pure ⟨_, rfl, q⟩) fun _ _ e => e)
end

abbrev TupE (P : Program) (w : World) (ts : List (List Int × Addr)) (es : List (Int × Value)) : Prop :=
  Paired (fun (t : List Int × Addr) (e : Int × Value) => e = ((tupleKind (PySem.intKind P w)).hash t.1, Value.ref t.2)) ts es
def SetTn (P : Program) (w : World) (S : Addr) (ts : List (List Int × Addr)) (h : Heap) : Prop := ∃ es, SetAt w h S es ∧ TupE P w ts es
def SetT (P : Program) (w : World) (S : Addr) (ts : List (List Int × Addr)) : HO := .ext (SetTn P w S ts)
theorem SetTn.at {P : Program} {w : World} {S : Addr} {ts : List (List Int × Addr)} {h h' : Heap} (x : SetTn P w S ts h) (k : ∀ o, h.get? S = some o → h'.get? S = some o) : SetTn P w S ts h' := by
  obtain ⟨es, ⟨ep, t, ho, r⟩, e⟩ := x
  exact ⟨es, ⟨ep, t, k _ ho, r⟩, e⟩
theorem SetTn.ok {P : Program} {w : World} {H : Hp} {S : Addr} {ts : List (List Int × Addr)} {h : Heap} (x : SetTn P w S ts h) : ObjOk P w H h S (SetT P w S ts) := by
  refine ⟨x, ?_, fun h1 h2 p k => p.at k⟩
  obtain ⟨es, ⟨ep, t, ho, r⟩, e⟩ := x
  exact ⟨_, ho⟩
theorem TupE.mem {P : Program} {w : World} {ts : List (List Int × Addr)} {es : List (Int × Value)} (h : TupE P w ts es) : ∀ e ∈ es, ∃ t ∈ ts, e = ((tupleKind (PySem.intKind P w)).hash t.1, Value.ref t.2) := by
  induction h with
  | nil => intro e he; cases he
  | @cons a b l1 l2 r t ih =>
    intro e he
    rcases List.mem_cons.mp he with rfl | he
    · exact ⟨a, List.mem_cons_self, r⟩
    · obtain ⟨t, ht, e⟩ := ih e he
      exact ⟨t, List.mem_cons_of_mem _ ht, e⟩
section
variable {X : Cx} {K : PySem.W.Frag}
def rAddI (w : World) : List V → Hp → VK → Prop := fun xs H Q => ∃ (S : Addr) (i : Int) (js : List Int), xs = [.ref S, .int i] ∧ H S = some (SetI w S js) ∧ js.length + 1 < 4096 ∧
  ∀ ks : List Int, ((i ∈ js ∧ ks = js) ∨ (i ∉ js ∧ ks.Perm (i :: js))) → Q .non (upd H S (SetI w S ks))
theorem cr_addI : CallR X (.builtin "set.add") (rAddI X.w) := by
  intro pins s σ H vs us Q I r h
  obtain ⟨S, i, js, rfl, hS, hn, q⟩ := h
  cases r with
  | cons r1 r2 =>
    cases r2 with
    | cons r2 r3 =>
      cases r3
      cases r1
      obtain ⟨t, rfl⟩ := r2
      obtain ⟨⟨es, hat, hE⟩, _, _⟩ := I.hok S _ hS
      have hlen : es.length = js.length := (Paired.length hE).symm
      have hty : s.TypeIs (.ref S) "set" := by
        obtain ⟨ep, tb, ho, _⟩ := hat
        exact ⟨_, ho, rfl⟩
      refine call_add hty (add_int hat hE.all (by omega) (fun hex => ?_) fun hno h' es' sb S' p' => ?_)
      · refine ⟨.non, _, ?_, rfl, q js (.inl ⟨(hE.mem i).mp hex, rfl⟩)⟩
        rw [upd_id hS]
        exact I.tok _
      · have hnin : i ∉ js := fun z => by
          obtain ⟨u, hu⟩ := (hE.mem i).mpr z
          exact hno u hu
        have hE2 : IntE (i :: js) ((hashInt i, Value.int i t) :: es) := .cons ⟨t, rfl⟩ hE
        obtain ⟨ks, k1, k2⟩ := paired_perm p'.symm hE2
        have new : SetIn X.w S ks h' := ⟨es', S', k2⟩
        refine ⟨.non, _, I.write (t' := s.toks + 1) (by rw [hS]; trivial) (.inl rfl) (fun b u hb e => by rw [sb.2 b hb]; exact e) ?_ new.ok, rfl, q ks (.inr ⟨hnin, k1⟩)⟩
        obtain ⟨ep, tb, ho, _⟩ := S'
        exact ⟨_, ho⟩
end
end L2

namespace L2
open PySem PySem.Spec PyProof.Rows

section
variable {X : Cx} {K : PySem.W.Frag}
def rInD (K : PySem.W.Frag) (neg : Bool) : R2 := fun x y H Q => ∃ d ds, Dp K H x d ∧ (Dp K H y (.list ds) ∨ Dp K H y (.tuple ds)) ∧ PyData.canLayAll0 ds = true ∧ d.canLay0 = true ∧ d.depth ≤ 50 ∧ Q (.bl (if neg then !(ds.any fun e => PyData.eqv e d) else ds.any fun e => PyData.eqv e d)) H
theorem op_notInDK {k : Nat} (e : X.K = K) (hr : Room k X.A) : OpR X (compareOp .NotIn) (rInD K true) := by
  subst e
  intro pins s σ H x y v u Q I rx ry h
  obtain ⟨d, ds, hd, hy, c1, c2, dp, q⟩ := h
  have hu := hr.units
  obtain ⟨as, r1⟩ := Dp.reads I d x v hd rx
  rcases hy with hy | hy
  · obtain ⟨bs, r2⟩ := Dp.reads I _ y u hy ry
    exact SeqAt.notIn_list_reads r2 r1 c1 c2 (by have := Nat.min_le_right (PyData.depthAll ds) d.depth; omega) ⟨.bl _, H, I, rfl, q⟩
  · obtain ⟨bs, r2⟩ := Dp.reads I _ y u hy ry
    exact SeqAt.notIn_tuple_reads r2 r1 c1 c2 (by have := Nat.min_le_right (PyData.depthAll ds) d.depth; omega) ⟨.bl _, H, I, rfl, q⟩
end
theorem eqvAll_ints : ∀ (a b : List Int), PyData.eqvAll (a.map PyData.int) (b.map PyData.int) = decide (a = b)
  | [], [] => by simp [PyData.eqvAll]
  | [], y :: b => by simp [PyData.eqvAll]
  | x :: a, [] => by simp [PyData.eqvAll]
  | x :: a, y :: b => by
    simp only [List.map_cons, PyData.eqvAll, eqvAll_ints a b]
    by_cases h1 : x = y
    · subst h1
      by_cases h2 : a = b
      · subst h2; simp [PyData.eqv]
      · simp [PyData.eqv, h2]
    · simp [PyData.eqv, h1]
theorem canLay_ints : ∀ a : List Int, PyData.canLayAll0 (a.map PyData.int) = true
  | [] => by simp [PyData.canLayAll0]
  | x :: a => by simp [PyData.canLayAll0, PyData.canLay0, canLay_ints a]
section
variable {X : Cx} {K : PySem.W.Frag} {e : Expr} {te : TE} {p1 p2 p3 pos : Pos} {j : Nat}
def tRev (K : PySem.W.Frag) (te : TE) : TE := fun σ H Q => te σ H fun x H1 => ∃ a xs, x = .ref a ∧ SqL K H1 a xs ∧ ∀ p, H1 p = none → Q (.ref p) (upd H1 p (.lst xs.reverse))
theorem pe_rev {j : Nat} (eK : X.K = K) (he : PE X e te) : PE X (.Subscript e (.Slice none none (some (.UnaryOp .USub (.Constant (.int 1) j p1) p3)) p2) pos) (tRev K te) := by
  subst eK
  intro pins s σ H Q I h
  refine Subscript_ (thn (he pins s σ H _ I h) fun v s1 ⟨x, H1, I1, r1, a, xs, ex, hx, q⟩ => ?_)
  subst ex
  cases r1
  refine wpAny_Slice ?_
  rw [evalPart_none]
  refine wpAny_pure (wpAny_pure ?_)
  rw [evalPart_some]
  refine thn ((pe_un un_neg pe_int : PE X (.UnaryOp .USub (.Constant (.int 1) j p1) p3) _) pins s1 σ H1 (fun v H' => v = .int (-1) ∧ H' = H1) I1 ⟨1, rfl, rfl, rfl⟩) fun vk s3 ⟨k, H3, I3, r3, ek, eH⟩ => ?_
  subst ek; subst eH
  obtain ⟨t, rfl⟩ := r3
  have I4 : Inv X pins σ H3 { s3 with heap := s3.heap.push { cls := .type "slice", data := .fields #[.none, .none, .int (-1) t] } } := I3.kept (t' := s3.toks) fun b ob q => Heap.get?_push_of_some _ q
  obtain ⟨its, r, ht, hz⟩ := I4.list hx
  have hlen := r.length
  show wpAny (model X.prog X.w) X.A (subscriptTail e (.Slice none none (some (.UnaryOp .USub (.Constant (.int 1) j p1) p3)) p2) (.ref a) (.ref s3.heap.objs.size)) (EP X pins σ Q) X.xe { s3 with heap := s3.heap.push { cls := .type "slice", data := .fields #[.none, .none, .int (-1) t] } }
  refine tail_any (ops := [.ref a, .ref s3.heap.objs.size]) ht.isList.typeIs slot_list_getitem.lookup ?_ (by with_unfolding_all rfl)
  refine wpAny_getItem_list_slice (st := some (-1)) ht.isList (Heap.IsSliceOf.new ..) .none .none (.int (-1) t) (by decide) ?_ (by rw [List.size_toArray] <;> omega)
  rw [PySem.W.krv_pick]
  refine ⟨.ref _, _, I4.laid (t' := s3.toks) (o := .lst xs.reverse) (fun b ob q => Heap.get?_push_of_some _ q) (Nat.le_refl _) ?_, rfl, q _ (I4.hok.fresh (Nat.le_refl _))⟩
  have rr : Vals xs.reverse its.reverse := r.reverse
  exact ⟨by rw [List.length_reverse]; exact hz, its.reverse, 0, rr, Heap.get?_push_size _ rfl⟩
end

section
variable {X : Cx} {K : PySem.W.Frag}
end
section
variable {prog : Program} {w : World} {A : Around} {E : Value → Shared → Prop} {s : Shared}
end
section
variable {X : Cx} {K : PySem.W.Frag}
end

section
variable {prog : Program} {w : World} {A : Around} {E : Value → Shared → Prop} {s : Shared}
theorem collect_tuple {l : Addr} {vs : List Value} {Q : List Value → Shared → Prop} (hl : IsTup s.heap l vs.toArray)
    (h : Q vs { s with heap := (s.heap.push (seqObj "list" #[] 0)).update s.heap.objs.size (Obj.mapSeq (· ++ vs.toArray)) }) (hsz : vs.length ≤ sizeLine := by size_fits) :
    wpAny (model prog w) A (collect (.ref l)) Q E s := by
  obtain ⟨o, ho, hc, n, hd⟩ := id hl
  unfold collect
  refine wpAny_bind (wpAny_runValue (codeAny_builtin entry_proto_collect' ?_))
  show wpAny _ _ (do again (.builtin "list.__iadd__" ⟨[← newList [], .ref l], []⟩)) _ _ s
  refine wpAny_bind (wpAny_newList (wpAny_pure ⟨Code.quiet_builtin _ (by decide +kernel), codeAny_builtin entry_list_iadd' ?_⟩))
  show wpAny _ _ (Builtin.List.listExtendWith (.ref s.heap.objs.size) (.ref l) (.ref s.heap.objs.size)) _ _ { s with heap := s.heap.push (seqObj "list" #[] 0) }
  unfold Builtin.List.listExtendWith
  have ho' : (s.heap.push (seqObj "list" #[] 0)).get? l = some o := Heap.get?_push_of_some _ ho
  refine wpAny_bind (wpAny_typeOf (T := "tuple") ⟨o, ho', hc⟩ ?_)
  have ht : (Value.type "tuple" == Value.type "tuple") = true := by rfl
  rw [if_pos (by rw [ht]; simp)]
  refine wpAny_bind (listItems_at ho' hd ?_)
  refine wpAny_bind (listItems_at (xs := #[]) (n := 0) (Heap.get?_push_size _ rfl) rfl ?_)
  rw [if_neg (by simp)]
  refine wpAny_bind (listUpdate_at (xs := #[]) (n := 0) (Heap.get?_push_size _ rfl) rfl ?_ (Nat.zero_le _) (by show (#[] ++ vs.toArray).size ≤ sizeLine + 1; simp only [Array.size_append, List.size_toArray, List.length_nil]; omega))
  refine wpAny_pure ?_
  show wpAny (model prog w) A (do
      let o ← load s.heap.objs.size
      match o.data with
      | .seq xs _ => pure xs.toList
      | _ => unsupported "internal:collect") Q E { s with heap := (s.heap.push (seqObj "list" #[] 0)).update s.heap.objs.size (Obj.mapSeq (· ++ vs.toArray)) }
  refine wpAny_bind (wpAny_load (get?_update_seq (Heap.get?_push_size _ rfl) _) ?_)
  show wpAny _ _ (pure ((#[] : Array Value) ++ vs.toArray).toList) Q E _
  rw [show ((#[] : Array Value) ++ vs.toArray).toList = vs by simp]
  exact wpAny_pure h
end
section
variable {X : Cx} {K : PySem.W.Frag}
def rSortTup (K : PySem.W.Frag) : List V → Hp → VK → Prop := fun xs H Q => ∃ (a : Addr) (l : List Int), xs = [.ref a] ∧ SqT K H a (l.map V.int) ∧
  ∀ (bs : List Int) (p : Addr), bs.Perm l → bs.Pairwise (· ≤ ·) → H p = none → Q (.ref p) (upd H p (.lst (bs.map V.int)))
theorem cr_sortTup {n : Nat} (hr : Room n X.A) (e : X.K = K) : CallR X (.builtin "sorted") (rSortTup K) := by
  subst e
  intro pins s σ H vs us Q I r h
  obtain ⟨a, l, rfl, hs, q⟩ := h
  obtain ⟨its, rv, hl, hz⟩ := I.tuple hs
  rw [Vals.ref1 r]
  have hu := hr.un
  have hzl : its.length ≤ sizeLine := by rw [← rv.length]; exact hz
  have hp : Paired (fun (j : Int) (v : Value) => ∃ u, v = Value.int j u) l its := by
    have : ∀ {l : List Int} {its : List Value}, Vals (l.map V.int) its → Paired (fun (j : Int) (v : Value) => ∃ u, v = Value.int j u) l its := by
      intro l
      induction l with
      | nil => intro its h; cases h; exact .nil
      | cons x l ih => intro its h; cases h with | cons r1 r2 => exact .cons r1 (ih r2)
    exact this rv
  refine sorted_of (R := fun (j : Int) (v : Value) => ∃ u, v = Value.int j u) (f := KD.n) (by omega) (collect_tuple hl ?_ hzl)
  have kp : ∀ b o, s.heap.get? b = some o → ((s.heap.push (seqObj "list" #[] 0)).update s.heap.objs.size (Obj.mapSeq (· ++ its.toArray))).get? b = some o := fun b o e => by
    rw [Heap.get?_update_ne _ _ _ _ (Nat.ne_of_lt (Heap.lt_size e))]
    exact Heap.get?_push_of_some _ e
  refine ⟨l, 0, fun a v z => z, hp, fun _ _ => rfl, hzl, fun h' p bs us N p1 p2 p3 => ?_⟩
  obtain ⟨n1, n2, ee, n3⟩ := N
  have n2' : s.heap.objs.size ≤ p := Nat.le_trans (by rw [Heap.size_update, size_push']; exact Nat.le_succ _) n2
  have hlen : (bs.map V.int).length ≤ sizeLine := by
    rw [List.length_map, p1.length_eq, ← List.length_map (f := V.int)]; exact hz
  exact ⟨.ref p, upd H p (.lst (bs.map V.int)), I.laid (t' := s.toks) (fun b o e => n1 b o (kp b o e)) n2' ⟨hlen, us, ee, vals_intsP p2, n3⟩, rfl, q bs p p1 (rises_ints p3) (I.hok.fresh n2')⟩
def rSortInts (K : PySem.W.Frag) : List V → Hp → VK → Prop := fun xs H Q => ∃ (a : Addr) (l : List Int), xs = [.ref a] ∧ SqL K H a (l.map V.int) ∧
  ∀ (bs : List Int) (p : Addr), bs.Perm l → bs.Pairwise (· ≤ ·) → H p = none → Q (.ref p) (upd H p (.lst (bs.map V.int)))
theorem kdv_ints {H : Hp} : ∀ l : List Int, Paired (KDV K H) (l.map KD.n) (l.map V.int)
  | [] => .nil
  | x :: l => .cons rfl (kdv_ints l)
theorem cr_sortInts {n : Nat} (hr : Room n X.A) (e : X.K = K) : CallR X (.builtin "sorted") (rSortInts K) := by
  intro pins s σ H vs us Q I r h
  obtain ⟨a, l, rfl, hs, q⟩ := h
  refine cr_sortKD hr e pins s σ H _ us Q I r ⟨a, l.map KD.n, l.map V.int, 0, rfl, hs, kdv_ints l, fun x hx => ?_, fun bs p b1 b2 hp => ?_⟩
  · obtain ⟨z, _, rfl⟩ := List.mem_map.mp hx
    rfl
  · obtain ⟨ys, rfl, yp⟩ := zip_perm b1
    have e1 : (ys.map fun z => (KD.n z, V.int z)).map (·.2) = ys.map V.int := by rw [List.map_map]; rfl
    have e2 : (ys.map fun z => (KD.n z, V.int z)).map (·.1) = ys.map KD.n := by rw [List.map_map]; rfl
    rw [e1]
    rw [e2] at b2
    exact q ys p yp (rises_ints b2) hp
end
end L2

namespace L2
open PySem PySem.Spec PyProof.Rows
section
variable {prog : Program} {w : World} {A : Around} {E : Value → Shared → Prop} {s : Shared}
theorem newSet_led {Q : Value → Shared → Prop} (h : Q (.ref s.heap.objs.size) { s with heap := s.heap.push (emptySet w) }) : wpAny (model prog w) A (newSet (.type "set")) Q E s := by
  unfold newSet setsByText
  refine wpAny_bind (wpAny_bind (wpAny_askSetting (wpAny_pure ?_)))
  dsimp only
  simp only [newObj]
  exact wpAny_bind (wpAny_alloc (wpAny_pure h))
theorem codeAny_compStart_set {R : Result → Shared → Prop} {elt target iter : Expr} {ifs : List Expr} {rest : List Comprehension} {scope : Scope} {pos : Pos} {it acc : Value} {env : Env}
    (h0 : codeAny (model prog w) A (.compLoop (.SetComp elt (⟨target, iter, ifs, 0⟩ :: rest) scope pos) 0 it acc env) R s)
    (h : wpAny (model prog w) A (pyIter it) (fun it' s' => codeAny (model prog w) A (.compLoop (.SetComp elt (⟨target, iter, ifs, 0⟩ :: rest) scope pos) 0 it' acc env) R s')
      (notedBy (model prog w) A env fun x s' => R (.error x) s') s) :
    codeAny (model prog w) A (.compStart (.SetComp elt (⟨target, iter, ifs, 0⟩ :: rest) scope pos) 0 it acc env) R s := by
  refine codeAny_of_tree ?_
  show wpAny _ _ ((compStart (.SetComp elt (⟨target, iter, ifs, 0⟩ :: rest) scope pos) 0 it acc env).onRaise (fun x => do noteFrame x env; standAt theWindowsPlace)) _ _ s
  refine wpAny_notedAt ?_
  unfold compStart
  show wpAny _ _ (ask >>= _) _ _ s
  refine wpAny_bind (wpAny_askSetting (wpAny_ite ?_))
  split
  · first
      | exact wpAny_bind (wpAny_pure (wpAny_pure (And.intro rfl h0)))
      | exact wpAny_pure (And.intro rfl h0)
  · exact wpAny_bind (wpAny_rule (wpAny_bind (wpAny_standAt (wpAny_bind (wpAny_mono h (fun it' s' h' => wpAny_pure (And.intro rfl h')) fun _ _ x => x)))))
end
section
variable {X : Cx}
theorem mkI (P : Program) (w : World) (H : Hp) (D : Addr) (h : Heap) (e : h.get? D = some (emptySet w)) : ObjOk P w H h D (SetI w D []) :=
  SetIn.ok ⟨[], ⟨0, _, e, Tab0.fresh _, by decide⟩, .nil⟩
end
end L2

namespace L2
open PySem PySem.Spec PyProof.Rows
section
variable {X : Cx} {K : PySem.W.Frag}
end

end L2
namespace L2
open PySem PySem.Spec PyProof.Rows
theorem shaped_ints (ms : List Int) : SeqAt.shaped (.list (ms.map PyData.int)) = true := by
  unfold SeqAt.shaped
  have h := depthAll_ints ms
  have hd : (PyData.list (ms.map PyData.int)).depth = PyData.depthAll (ms.map PyData.int) + 1 := by simp only [PyData.depth]
  have hc : (PyData.list (ms.map PyData.int)).canLay0 = true := by simp only [PyData.canLay0, canLay_ints]
  rw [hc, Bool.true_and, decide_eq_true_eq, hd]
  omega
theorem eqv_ints (a b : List Int) : PyData.eqv (.list (a.map PyData.int)) (.list (b.map PyData.int)) = decide (a = b) := by
  simp only [PyData.eqv, eqvAll_ints]
end L2

namespace L2
open PySem PySem.Spec PyProof.Rows
section
variable {K : PySem.W.Frag} {a : Addr} {xs : List V} {g : TG} {tt : TT} {te : TE} {vs : List Nat} {σ : St} {H1 : Hp} {D : Addr} {mk : Addr → HO} {radd : List V → Hp → VK → Prop} {Qd : Hp → Prop}
end
section
variable {P : Program} {w : World} {K : PySem.W.Frag} {H H' H1 H4 : Hp}
theorem SqT.se {a D : Addr} {xs : List V} {φ : Heap → Prop} (h : SqT K H a xs) (hD : H D = some (.ext φ)) (s : SameX D H H') : SqT K H' a xs := by
  rcases h with (h | ⟨o, h⟩) | h
  · exact .inl (.inl (s _ _ (ne_of h hD (by intro e; cases e)) h))
  · exact .inl (.inr ⟨o, s _ _ (ne_of h hD (by intro e; cases e)) h⟩)
  · exact .inr h
structure SetD (P : Program) (w : World) (K : PySem.W.Frag) (H : Hp) (D : Addr) (ts : List (List Int × Addr)) : Prop where
  at_ : H D = some (SetT P w D ts)
  tup : ∀ t ∈ ts, SqT K H t.2 (t.1.map V.int)
  nd : (ts.map (·.1)).Nodup
theorem SetD.same {D : Addr} {ts : List (List Int × Addr)} (h : SetD P w K H D ts) (s : Same H H') : SetD P w K H' D ts := ⟨s _ _ h.at_, fun t ht => s.sqT (h.tup t ht), h.nd⟩
theorem SetD.new {D : Addr} (h : H D = some (SetT P w D [])) : SetD P w K H D [] := ⟨h, (fun t ht => nomatch ht), List.nodup_nil⟩
end
end L2

namespace KW
open PySem L2
end KW

namespace KW
open PySem L2
end KW

namespace KW
open PySem L2
theorem refs_at {zs : List (Addr × List Int)} {j : Nat} {x : V} (h : (refs zs)[j]? = some x) : ∃ z, zs[j]? = some z ∧ x = .ref z.1 := by
  rw [List.getElem?_map] at h
  obtain ⟨z, hz, e⟩ := Option.map_eq_some_iff.mp h
  exact ⟨z, hz, e.symm⟩
theorem ints_at {l : List Int} {j : Nat} {x : V} (h : (l.map V.int)[j]? = some x) : ∃ z, l[j]? = some z ∧ x = .int z := by
  rw [List.getElem?_map] at h
  obtain ⟨z, hz, e⟩ := Option.map_eq_some_iff.mp h
  exact ⟨z, hz, e.symm⟩
theorem cut_from {l : List Int} {k : Nat} (h : k ≤ l.length) : cutV (l.map V.int) (some (k : Int)) none = (l.drop k).map V.int := by
  unfold cutV
  rw [HT.sIx_none, HT.sIx_nat, List.length_map, Nat.min_eq_left h, List.map_drop, List.take_of_length_le]
  rw [List.length_drop, List.length_map]; exact Nat.le_refl _
theorem rise_of {bs js : List Int} (p : bs.Perm js) (nd : js.Nodup) (h : bs.Pairwise (· ≤ ·)) : bs.Pairwise (· < ·) := by
  have nb : bs.Nodup := p.nodup_iff.mpr nd
  refine List.Pairwise.imp₂ (fun a b h1 h2 => ?_) h nb
  omega
theorem fmod_nn {a m : Int} (h : 1 ≤ m) : 0 ≤ a.fmod m := by rw [Int.fmod_eq_emod_of_nonneg a (by omega)]; exact Int.emod_nonneg _ (by omega)
theorem fmod_lt {a m : Int} (h : 1 ≤ m) : a.fmod m < m := by rw [Int.fmod_eq_emod_of_nonneg a (by omega)]; exact Int.emod_lt_of_pos _ (by omega)
theorem fdiv_nn {a m : Int} (h : 1 ≤ m) (ha : 0 ≤ a) : 0 ≤ a.fdiv m := by rw [Int.fdiv_eq_ediv_of_nonneg a (by omega)]; exact Int.ediv_nonneg ha (by omega)
theorem fmod_bd {a m : Int} (h : 1 ≤ m) (hm : m < 2 ^ 64) : -(2 ^ 64) < a.fmod m ∧ a.fmod m < 2 ^ 64 := by
  have h1 := fmod_nn (a := a) h
  have h2 := fmod_lt (a := a) h
  constructor <;> omega
theorem at_mod {ns : List Int} (x : Int) (h : 0 < ns.length) : ∃ z, atI (ns.map V.int) (x.fmod (ns.length : Int)) = some (.int z) := by
  have h1 : 1 ≤ (ns.length : Int) := by omega
  have h2 := fmod_nn (a := x) h1
  have h3 := fmod_lt (a := x) h1
  obtain ⟨j, hj⟩ : ∃ j : Nat, x.fmod (ns.length : Int) = j := ⟨_, (Int.toNat_of_nonneg h2).symm⟩
  have hlt : j < ns.length := by omega
  refine ⟨ns[j], at_of hj ?_⟩
  rw [List.getElem?_map, List.getElem?_eq_getElem hlt]
  rfl
theorem abs_nn (a : Int) : 0 ≤ (if a < 0 then -a else a) := by split <;> omega
end KW

namespace KW
open PySem L2
end KW

namespace L2
open PySem PySem.Spec PyProof.Rows
section
variable {X : Cx} {K : PySem.W.Frag}
theorem cr_isBool : CallR X (.builtin "isinstance") (fun xs H Q => ∃ c, xs = [.bl c, .ty "bool"] ∧ Q (.bl true) H) := by
  intro pins s σ H xs us Q I r h
  obtain ⟨c, rfl, q⟩ := h
  obtain ⟨u, t, rfl, ru, rt⟩ : ∃ u t, us = [u, t] ∧ RelV (.bl c) u ∧ RelV (.ty "bool") t := by
    cases r with
    | cons r1 r2 => cases r2 with
      | cons r3 r4 => cases r4; exact ⟨_, _, rfl, r1, r3⟩
  cases (show t = Value.type "bool" from rt)
  refine isinst_ok I ru (.bl c) rfl fun tk => ?_
  exact fin_bl (I.tok tk) q rfl
end
end L2

namespace KW
open PySem L2
end KW

namespace KW
open PySem L2
end KW

namespace L2
open PySem PySem.Spec PyProof.Rows
section
variable {prog : Program} {w : World} {κ : Type} [DecidableEq κ] {knd : HeapKind prog w κ} {A : Around} {E : Value → Shared → Prop} {s : Shared}
end
section
variable {X : Cx} {K : PySem.W.Frag}
end
end L2

namespace L2
open PySem PySem.Spec PyProof.Rows
theorem setTurn2_out (elt t0 i0 t1 i1 : Expr) (ifs0 ifs1 : List Expr) (scope : Scope) (pos : Pos) (it acc : Value) (env : Env) :
    compTurn (.SetComp elt [⟨t0, i0, ifs0, 0⟩, ⟨t1, i1, ifs1, 0⟩] scope pos) 0 it acc env = (do
      standAt i0.pos
      match ← pyNext it with
      | none => pure (.done .next)
      | some v =>
        letOwnedTupleGo t0 it v
        assign t0 env v
        let mut ok := true
        for c in ifs0 do
          if ok then ok ← isTrue c env (eval c env)
        if ok then
          let x ← eval i1 env
          standAt i1.pos
          let x ← foldedSetIterable i1 env x
          let _ ← runOwn (.compStart (.SetComp elt [⟨t0, i0, ifs0, 0⟩, ⟨t1, i1, ifs1, 0⟩] scope pos) 1 (← holding [x] (pyIter x)) acc env) env
        again (.compLoop (.SetComp elt [⟨t0, i0, ifs0, 0⟩, ⟨t1, i1, ifs1, 0⟩] scope pos) 0 it acc env)) := by rfl
theorem setTurn2_in (elt t0 i0 t1 i1 : Expr) (ifs0 ifs1 : List Expr) (scope : Scope) (pos : Pos) (it acc : Value) (env : Env) :
    compTurn (.SetComp elt [⟨t0, i0, ifs0, 0⟩, ⟨t1, i1, ifs1, 0⟩] scope pos) 1 it acc env = (do
      standAt i1.pos
      match ← pyNext it with
      | none => pure (.done .next)
      | some v =>
        letOwnedTupleGo t1 it v
        assign t1 env v
        let mut ok := true
        for c in ifs1 do
          if ok then ok ← isTrue c env (eval c env)
        if ok then
          (do let v ← eval elt env; standAt elt.pos; let _ ← call (.builtin "set.add") [acc, v])
        again (.compLoop (.SetComp elt [⟨t0, i0, ifs0, 0⟩, ⟨t1, i1, ifs1, 0⟩] scope pos) 1 it acc env)) := by rfl

section
variable {prog : Program} {w : World} {A : Around} {R : Result → Shared → Prop} {s : Shared} {elt t0 i0 t1 i1 : Expr} {ifs0 ifs1 : List Expr} {scope : Scope} {pos : Pos} {it acc : Value} {env : Env}
theorem setLoop2_out (hs : ∀ x, foldedSetIterable i1 env x = pure x) (I : Nat → Shared → Prop)
    (turn : ∀ n s, I n s → wpAny (model prog w) A (pyNext it) (fun r s₁ => match r with
      | none => R (.ok .next) s₁
      | some v => wpAny (model prog w) A (letOwnedTupleGo t0 it v) (fun _ s₁' => wpAny (model prog w) A (assign t0 env v) (fun _ s₂ =>
          wpAny (model prog w) A (forIn ifs0 true fun c r => if r = true then do let ok ← isTrue c env (eval c env); pure (ForInStep.yield ok) else pure (ForInStep.yield r)) (fun ok s₃ =>
            if ok = true then wpAny (model prog w) A (eval i1 env) (fun x s₄ => wpAny (model prog w) A (pyIter x) (fun it1 s₅ =>
              codeAny (model prog w) A (.compStart (.SetComp elt [⟨t0, i0, ifs0, 0⟩, ⟨t1, i1, ifs1, 0⟩] scope pos) 1 it1 acc env) (fun r s' => match r with
                | .ok _ => ∃ m, m < n ∧ I m s'
                | .error _ => False) s₅) (notedBy (model prog w) A env fun e s' => R (.error e) s') s₄) (notedBy (model prog w) A env fun e s' => R (.error e) s') s₃
            else ∃ m, m < n ∧ I m s₃) (notedBy (model prog w) A env fun e s' => R (.error e) s') s₂) (notedBy (model prog w) A env fun e s' => R (.error e) s') s₁') (notedBy (model prog w) A env fun e s' => R (.error e) s') s₁) (notedBy (model prog w) A env fun e s' => R (.error e) s') s)
    (n : Nat) (h : I n s) :
    codeAny (model prog w) A (.compLoop (.SetComp elt [⟨t0, i0, ifs0, 0⟩, ⟨t1, i1, ifs1, 0⟩] scope pos) 0 it acc env) R s := by
  refine codeAny_loop rfl I (fun n s hI => ?_) n h
  show wpAny _ A ((compTurn (.SetComp elt [⟨t0, i0, ifs0, 0⟩, ⟨t1, i1, ifs1, 0⟩] scope pos) 0 it acc env).onRaise (fun x => do noteFrame x env; theTreesLotGoes x)) _ _ s
  refine wpAny_noted ?_
  rw [setTurn2_out]
  refine wpAny_bind (wpAny_standAt (wpAny_bind (wpAny_mono (turn n s hI) (fun r s₁ h₁ => ?_) fun _ _ h' => h')))
  cases r with
  | none => exact wpAny_pure h₁
  | some v =>
    refine wpAny_bind (wpAny_mono h₁ (fun _ s₁' h₁' => ?_) fun _ _ h' => h')
    refine wpAny_bind (wpAny_mono h₁' (fun _ s₂ h₂ => wpAny_bind (wpAny_mono h₂ (fun ok s₃ h₃ => ?_) fun _ _ h' => h')) fun _ _ h' => h')
    cases ok with
    | false => exact wpAny_pure ⟨rfl, h₃⟩
    | true =>
      refine wpAny_bind (wpAny_mono h₃ (fun x s₄ h₄ => ?_) fun _ _ h' => h')
      refine wpAny_bind (wpAny_standAt (wpAny_bind (wpAny_of_eq (hs x) (wpAny_bind (wpAny_holding (wpAny_mono h₄ (fun it1 s₅ h₅ => ?_) fun _ _ h' => h'))))))
      refine wpAny_bind (wpAny_runOwn ?_)
      rw [Around.mark_none]
      refine codeAny_mono h₅ fun r s' hr => ?_
      cases r with
      | ok f =>
        first
          | exact wpAny_pure ⟨rfl, hr⟩
          | exact wpAny_bind (wpAny_pure (wpAny_pure ⟨rfl, hr⟩))
      | error e => exact hr.elim
theorem setLoop2_in (I : Nat → Shared → Prop)
    (turn : ∀ n s, I n s → wpAny (model prog w) A (pyNext it) (fun r s₁ => match r with
      | none => R (.ok .next) s₁
      | some v => wpAny (model prog w) A (letOwnedTupleGo t1 it v) (fun _ s₁' => wpAny (model prog w) A (assign t1 env v) (fun _ s₂ =>
          wpAny (model prog w) A (forIn ifs1 true fun c r => if r = true then do let ok ← isTrue c env (eval c env); pure (ForInStep.yield ok) else pure (ForInStep.yield r)) (fun ok s₃ =>
            if ok = true then wpAny (model prog w) A (eval elt env) (fun x s₄ =>
              wpAny (model prog w) A (call (.builtin "set.add") [acc, x]) (fun _ s₅ => ∃ m, m < n ∧ I m s₅) (notedBy (model prog w) A env fun e s' => R (.error e) s') s₄) (notedBy (model prog w) A env fun e s' => R (.error e) s') s₃
            else ∃ m, m < n ∧ I m s₃) (notedBy (model prog w) A env fun e s' => R (.error e) s') s₂) (notedBy (model prog w) A env fun e s' => R (.error e) s') s₁') (notedBy (model prog w) A env fun e s' => R (.error e) s') s₁) (notedBy (model prog w) A env fun e s' => R (.error e) s') s)
    (n : Nat) (h : I n s) :
    codeAny (model prog w) A (.compLoop (.SetComp elt [⟨t0, i0, ifs0, 0⟩, ⟨t1, i1, ifs1, 0⟩] scope pos) 1 it acc env) R s := by
  refine codeAny_loop rfl I (fun n s hI => ?_) n h
  show wpAny _ A ((compTurn (.SetComp elt [⟨t0, i0, ifs0, 0⟩, ⟨t1, i1, ifs1, 0⟩] scope pos) 1 it acc env).onRaise (fun x => do noteFrame x env; theTreesLotGoes x)) _ _ s
  refine wpAny_noted ?_
  rw [setTurn2_in]
  refine wpAny_bind (wpAny_standAt (wpAny_bind (wpAny_mono (turn n s hI) (fun r s₁ h₁ => ?_) fun _ _ h' => h')))
  cases r with
  | none => exact wpAny_pure h₁
  | some v =>
    refine wpAny_bind (wpAny_mono h₁ (fun _ s₁' h₁' => ?_) fun _ _ h' => h')
    refine wpAny_bind (wpAny_mono h₁' (fun _ s₂ h₂ => wpAny_bind (wpAny_mono h₂ (fun ok s₃ h₃ => ?_) fun _ _ h' => h')) fun _ _ h' => h')
    cases ok with
    | false => exact wpAny_pure ⟨rfl, h₃⟩
    | true =>
      exact wpAny_bind (wpAny_bind (wpAny_mono h₃ (fun x s₄ h₄ => wpAny_bind (wpAny_standAt (wpAny_bind (wpAny_mono h₄ (fun _ s₅ h₅ => wpAny_pure (wpAny_pure ⟨rfl, h₅⟩)) fun _ _ h' => h')))) fun _ _ h' => h'))
theorem setStart1_ok (h0 : codeAny (model prog w) A (.compLoop (.SetComp elt [⟨t0, i0, ifs0, 0⟩, ⟨t1, i1, ifs1, 0⟩] scope pos) 1 it acc env) R s)
    (h : wpAny (model prog w) A (pyIter it) (fun it' s' => codeAny (model prog w) A (.compLoop (.SetComp elt [⟨t0, i0, ifs0, 0⟩, ⟨t1, i1, ifs1, 0⟩] scope pos) 1 it' acc env) R s')
      (notedBy (model prog w) A env fun x s' => R (.error x) s') s) :
    codeAny (model prog w) A (.compStart (.SetComp elt [⟨t0, i0, ifs0, 0⟩, ⟨t1, i1, ifs1, 0⟩] scope pos) 1 it acc env) R s := by
  refine codeAny_of_tree ?_
  show wpAny _ _ ((compStart (.SetComp elt [⟨t0, i0, ifs0, 0⟩, ⟨t1, i1, ifs1, 0⟩] scope pos) 1 it acc env).onRaise (fun x => do noteFrame x env; standAt theWindowsPlace)) _ _ s
  refine wpAny_notedAt ?_
  unfold compStart
  show wpAny _ _ (ask >>= _) _ _ s
  refine wpAny_bind (wpAny_askSetting (wpAny_ite ?_))
  split
  · first
      | exact wpAny_bind (wpAny_pure (wpAny_pure (And.intro rfl h0)))
      | exact wpAny_pure (And.intro rfl h0)
  · first
      | exact wpAny_bind (wpAny_rule (wpAny_bind (wpAny_standAt (wpAny_bind (wpAny_mono h (fun it' s' h' => wpAny_pure (And.intro rfl h')) fun _ _ x => x)))))
      | (refine wpAny_bind (wpAny_rule ?_); show wpAny _ _ (standAt i1.pos >>= _) _ _ s; exact wpAny_bind (wpAny_standAt (wpAny_bind (wpAny_mono h (fun it' s' h' => wpAny_pure (And.intro rfl h')) fun _ _ x => x))))
end

section
variable {X : Cx}
def tSc2 (mk : Addr → HO) (radd : List V → Hp → VK → Prop) (wi : TI) (g : TG) (tt : TT) (wi1 : TI) (g1 : TG) (tt1 : TT) (te : TE) (vs vs1 : List Nat) : TE := fun σ H Q => wi σ H fun J H1 => ∀ D, H1 D = none → ∃ W : Nat → Nat → Hp → Prop, (∃ m, W 0 m (upd H1 D (mk D))) ∧ ∀ i m H, W i m H →
  (J.stop i H ∧ Q (.ref D) H) ∨ (J.go i H ∧ ∃ Nx : Hp → Prop, (∀ H', Nx H' → ∃ m', m' < m ∧ W (i + 1) m' H') ∧ ∀ x H', J.yld i H x H' → g x (wipe σ vs) H' fun σ2 H2 => wipe σ2 vs = wipe σ vs ∧ tt σ2 H2 fun b H3 =>
    if b = true then wi1 σ2 H3 fun J1 H4 => ∃ W1 : Nat → Nat → Hp → Prop, (∃ m, W1 0 m H4) ∧ ∀ j k H, W1 j k H →
      (J1.stop j H ∧ Nx H) ∨ (J1.go j H ∧ ∃ Nx1 : Hp → Prop, (∀ H', Nx1 H' → ∃ k', k' < k ∧ W1 (j + 1) k' H') ∧ ∀ x H', J1.yld j H x H' → g1 x (wipe σ2 vs1) H' fun σ3 H5 => wipe σ3 vs1 = wipe σ2 vs1 ∧ tt1 σ3 H5 fun b H6 =>
        if b = true then te σ3 H6 fun y H7 => radd [.ref D, y] H7 (fun _ H8 => Nx1 H8) else Nx1 H6)
    else Nx H3)
theorem sc2_core {pins : List (Addr × Obj)} {s : Shared} {σ : St} {H : Hp} {Q : VK} {elt tg iter tg1 iter1 : Expr} {ifs ifs1 : List Expr} {scope : Scope} {own : List (Str × Nat)} {vs1 : List Nat} {pos pos' : Pos} {wi wi1 : TI} {g g1 : TG} {tt tt1 : TT} {te : TE} {mk : Addr → HO} {radd : List V → Hp → VK → Prop} {use : Option (Value → Sem Unit)} {Qf : Value → Shared → Prop}
    (hc : X.calm = true) (hN : X.N.Nodup) (I : Inv X pins σ H s) (hi : PI X tg iter wi) (ok : BlkOk X.N X.env.scope scope own) (hv : ∀ i ∈ vs1, i ∈ own.map (·.2))
    (hg : ∀ (s : Shared) (H : Hp) (C : Addr) (cl : List (Str × Addr)) (fp : List Addr), PG (X.blk s H scope (compEnvC scope cl C X.env) fp) tg g) (ht : ∀ (s : Shared) (H : Hp) (C : Addr) (cl : List (Str × Addr)) (fp : List Addr), PTs (X.blk s H scope (compEnvC scope cl C X.env) fp) ifs tt)
    (he : ∀ (s : Shared) (H : Hp) (C : Addr) (cl : List (Str × Addr)) (fp : List Addr), PE (X.blk s H scope (compEnvC scope cl C X.env) fp) elt te) (hs : ∀ x, foldedSetIterable iter X.env x = pure x)
    (hi1 : ∀ (s : Shared) (H : Hp) (C : Addr) (cl : List (Str × Addr)) (fp : List Addr), PI (X.blk s H scope (compEnvC scope cl C X.env) fp) tg1 iter1 wi1)
    (hg1 : ∀ (s : Shared) (H : Hp) (C : Addr) (cl : List (Str × Addr)) (fp : List Addr), PG (X.blk s H scope (compEnvC scope cl C X.env) fp) tg1 g1)
    (ht1 : ∀ (s : Shared) (H : Hp) (C : Addr) (cl : List (Str × Addr)) (fp : List Addr), PTs (X.blk s H scope (compEnvC scope cl C X.env) fp) ifs1 tt1)
    (hs1 : ∀ env x, foldedSetIterable iter1 env x = pure x)
    (hmk : ∀ (H : Hp) (D : Addr) (h : Heap), h.get? D = some (emptySet X.w) → ObjOk X.prog X.w H h D (mk D)) (ha : ∀ (s : Shared) (H : Hp) (C : Addr) (cl : List (Str × Addr)) (fp : List Addr), CallR (X.blk s H scope (compEnvC scope cl C X.env) fp) (.builtin "set.add") radd)
    (h : tSc2 mk radd wi g tt wi1 g1 tt1 te (own.map (·.2)) vs1 σ H Q)
    (hRR : ∀ D C s' m H', Inv X pins σ H' s' → Q (.ref D) H' → s'.heap.Ns C m → FpOk X pins H' C → compPost (model X.prog X.w) X.A X.xe use Qf (.ref D) C (.ok .next) s') :
    wpAny (model X.prog X.w) X.A (comprehension (.SetComp elt [⟨tg, iter, ifs, 0⟩, ⟨tg1, iter1, ifs1, 0⟩] scope pos) scope X.env pos' (newSet (.type "set")) false (eval iter X.env) use) Qf X.xe s := by
  have hfree : ∀ y ∈ scope.names, y.2 = .free → ∃ c, X.env.cells.lookup y.1 = some c := fun y hy e => by
    rcases ok.free y hy e with k | k
    · exact I.ok.has _ (.inl k)
    · exact I.ok.has _ (.inr k)
  refine wpAny_comprehension_free (use := use) rfl hs (closure_ok hfree) ok.kind (fun y hy e => by rw [ok.uniq y hy, e])
    (thn (hi pins s σ H _ I h) fun xv s1 hx => thn hx fun itv s2 h2 => ?_)
  obtain ⟨it, fp, tn, J, H2, e, I2, T, st2, f2, q⟩ := h2
  subst e
  refine newSet_led (newEnv_comp ?_)
  generalize hD : s2.heap.objs.size = D
  have hDn : H2 D = none := I2.hok.fresh (Nat.le_of_eq hD)
  obtain ⟨W, ⟨m0, w0⟩, turn⟩ := q D hDn
  -- the new list
  generalize hs3 : ({ s2 with heap := s2.heap.push (emptySet X.w) } : Shared) = s3
  have I3 : Inv X pins σ (upd H2 D (mk D)) s3 := by
    rw [← hs3]
    refine I2.laid (t' := s2.toks) (fun b o e => Heap.get?_push_of_some _ e) (Nat.le_of_eq hD) (hmk _ _ _ ?_)
    rw [← hD]
    exact Heap.get?_push_size _ rfl
  have h3 : s3.heap = s2.heap.push (emptySet X.w) := by rw [← hs3]
  have sz : ∀ b ∈ fp, b < s2.heap.objs.size := fun b hb => by
    obtain ⟨o, e, _⟩ := T.obj _ _ st2 b hb
    exact Heap.lt_size e
  have f3 : ∀ b ∈ fp, FpOk X pins (upd H2 D (mk D)) b ∧ b < s3.heap.objs.size := fun b hb => by
    have hlt := sz b hb
    refine ⟨⟨?_, (f2 b hb).2⟩, by rw [h3, Heap.size_push]; exact Nat.lt_succ_of_lt hlt⟩
    rw [upd_ne (by rw [← hD]; exact Nat.ne_of_lt hlt)]
    exact (f2 b hb).1
  have st3 : tn 0 s3.heap := T.keep _ _ _ st2 fun b _ o e => by rw [h3]; exact Heap.get?_push_of_some _ e
  have I4 := block_start I3 ok hN f3
  have pg := hg s3 (upd H2 D (mk D)) s3.heap.objs.size (cellsFrom (s3.heap.objs.size + 1) scope.names (cloFrom X.env.cells scope.names [])) fp
  have pt := ht s3 (upd H2 D (mk D)) s3.heap.objs.size (cellsFrom (s3.heap.objs.size + 1) scope.names (cloFrom X.env.cells scope.names [])) fp
  have pe := he s3 (upd H2 D (mk D)) s3.heap.objs.size (cellsFrom (s3.heap.objs.size + 1) scope.names (cloFrom X.env.cells scope.names [])) fp
  have pi1 := hi1 s3 (upd H2 D (mk D)) s3.heap.objs.size (cellsFrom (s3.heap.objs.size + 1) scope.names (cloFrom X.env.cells scope.names [])) fp
  have pg1 := hg1 s3 (upd H2 D (mk D)) s3.heap.objs.size (cellsFrom (s3.heap.objs.size + 1) scope.names (cloFrom X.env.cells scope.names [])) fp
  have pt1 := ht1 s3 (upd H2 D (mk D)) s3.heap.objs.size (cellsFrom (s3.heap.objs.size + 1) scope.names (cloFrom X.env.cells scope.names [])) fp
  show codeAny _ _ (.compStart (.SetComp elt [⟨tg, iter, ifs, 0⟩, ⟨tg1, iter1, ifs1, 0⟩] scope pos) 0 (.ref it) (.ref D) (compEnvC scope (cellsFrom (s3.heap.objs.size + 1) scope.names (cloFrom X.env.cells scope.names [])) s3.heap.objs.size X.env)) (compPost (model X.prog X.w) X.A X.xe use Qf (.ref D) s3.heap.objs.size) { s3 with heap := pushCells (s3.heap.push { cls := .type "dict", data := .dict #[] }) scope.names }
  have ca := ha s3 (upd H2 D (mk D)) s3.heap.objs.size (cellsFrom (s3.heap.objs.size + 1) scope.names (cloFrom X.env.cells scope.names [])) fp
  have nfp : ∀ b ∈ fp, (upd H2 D (mk D)) b = none := fun b hb => (f3 b hb).1.1
  generalize hce : compEnvC scope (cellsFrom (s3.heap.objs.size + 1) scope.names (cloFrom X.env.cells scope.names [])) s3.heap.objs.size X.env = ce at I4 pg pt pe pi1 pg1 pt1 ca ⊢
  have cL : ce.locals = s3.heap.objs.size := by subst hce; rfl
  generalize hH3 : upd H2 D (mk D) = H3 at I3 I4 pg pt pe pi1 pg1 pt1 ca w0 nfp f3
  generalize hs4 : ({ s3 with heap := pushCells (s3.heap.push { cls := .type "dict", data := .dict #[] }) scope.names } : Shared) = s4 at I4 ⊢
  have st4 : tn 0 s4.heap := T.keep _ _ _ st3 fun b _ o e => by rw [← hs4]; exact pushCells_keeps _ _ _ _ (Heap.get?_push_of_some _ e)
  have stat : ∀ {σ' : St} {H' : Hp} {s' : Shared}, Inv (X.blk s3 H3 scope ce fp) [] σ' H' s' → (∀ b ∈ fp, H' b = none) → ∀ b ∈ fp, FpOk (X.blk s3 H3 scope ce fp) [] H' b := fun {σ' H' s'} I' hn b hb =>
    ⟨hn b hb, (I'.ok.exf b hb).1, I'.ok.exfs b hb, .inl hb, fun x c e => (I'.ok.exf b hb).2 x c e, fun p hp => absurd (show p ∈ ([] : List (Addr × Obj)) ++ [] from hp) (by simp)⟩
  have loop : codeAny (model X.prog X.w) X.A (.compLoop (.SetComp elt [⟨tg, iter, ifs, 0⟩, ⟨tg1, iter1, ifs1, 0⟩] scope pos) 0 (.ref it) (.ref D) ce) (compPost (model X.prog X.w) X.A X.xe use Qf (.ref D) s3.heap.objs.size) s4 := by
    refine setLoop2_out (hs1 ce) (fun n s' => ∃ i H', Inv (X.blk s3 H3 scope ce fp) [] (wipe σ (own.map (·.2))) H' s' ∧ tn i s'.heap ∧ (∀ b ∈ fp, H' b = none) ∧ W i n H') ?_ m0 ⟨0, H3, I4, st4, nfp, w0⟩
    rintro n s5 ⟨i, H5, I5, st5, n5, w5⟩
    rcases turn i n H5 w5 with ⟨stop, qq⟩ | ⟨go, Nx, hNx, step⟩
    · have td := T.done (X.blk s3 H3 scope ce fp) rfl rfl rfl hc i [] s5 _ H5 (fun _ _ => False) I5 (stat I5 n5) st5 stop
      refine thnF td fun r s6 ⟨hr, I6⟩ => ?_
      subst hr
      -- back in the def's context
      have I7 : Inv X pins σ H5 s6 := I3.call' (ch := fp) I6.os I6.base I6.hok I6.bare fun b hb => ⟨(f3 b hb).1.2.2.2.1, (f3 b hb).1.2.1, (f3 b hb).1.2.2.2.2.1, (f3 b hb).1.2.2.2.2.2⟩
      have nC : H5 s3.heap.objs.size = none := by
        have z : H5 ce.locals = none := I6.free
        rw [cL] at z
        exact z
      obtain ⟨m, hn, _⟩ := I6.loc
      have hn : s6.heap.Ns ce.locals m := hn
      rw [cL] at hn
      exact hRR D s3.heap.objs.size s6 m H5 I7 qq hn (I3.fpOk (Nat.le_refl _) nC)
    · have ti := T.item (X.blk s3 H3 scope ce fp) rfl rfl rfl hc i [] s5 _ H5 (fun _ _ => False) I5 (stat I5 n5) st5 go
      refine thnF ti fun r s6 ⟨u, hr, h6⟩ => ?_
      subst hr
      refine thnF h6 fun _ s7 ⟨x, H7, I7, r7, y7, st7, n7⟩ => ?_
      have I7' := I7.pinned (stat I7 n7) (T.obj _ _ st7)
      refine thnF (pg _ s7 _ H7 x u _ I7' r7 (step x H7 y7)) fun _ s8 ⟨σ8, H8, I8, hw8, q8⟩ => ?_
      refine thnF (pt _ s8 σ8 H8 _ I8 q8) fun b s9 ⟨H9, I9, q9⟩ => ?_
      -- the turn's end, from any slots that know what the block knew at its start
      have fin : ∀ {σ9 : St} {s' : Shared} {H' : Hp}, Inv (X.blk s3 H3 scope ce fp) ([] ++ pinsAt fp s7.heap) σ9 H' s' → (wipe σ (own.map (·.2))).length = σ9.length → (∀ (j : Nat) v, (wipe σ (own.map (·.2)))[j]? = some (some v) → σ9[j]? = some (some v)) → Nx H' →
          ∃ m, m < n ∧ ∃ i H', Inv (X.blk s3 H3 scope ce fp) [] (wipe σ (own.map (·.2))) H' s' ∧ tn i s'.heap ∧ (∀ b ∈ fp, H' b = none) ∧ W i m H' := fun {σ9 s' H'} I' hl hk nx => by
        obtain ⟨m', hm, w'⟩ := hNx H' nx
        have pin' : ∀ b ∈ fp, ∀ o, s7.heap.get? b = some o → s'.heap.get? b = some o ∧ H' b = none := fun b hb o e =>
          let z := I'.pin (b, o) (List.mem_append_right _ (List.mem_append_right _ (mem_pinsAt hb e)))
          ⟨z.1, z.2.1⟩
        refine ⟨m', hm, i + 1, H', (I'.unpinned (pins := [])).weak hl hk, T.keep _ _ _ st7 fun b hb o e => (pin' b hb o e).1, fun b hb => ?_, w'⟩
        obtain ⟨o, e, _⟩ := T.obj _ _ st7 b hb
        exact (pin' b hb o e).2
      have hl8 : (wipe σ (own.map (·.2))).length = σ8.length := by rw [← hw8, wipe_length]
      have hk8 : ∀ (j : Nat) v, (wipe σ (own.map (·.2)))[j]? = some (some v) → σ8[j]? = some (some v) := fun j v e => by
        rw [← hw8] at e
        exact (wipe_some e).1
      have hk9 : ∀ (j : Nat) v, (wipe σ (own.map (·.2)))[j]? = some (some v) → (wipe σ8 vs1)[j]? = some (some v) := fun j v e => by
        rw [← hw8] at e
        obtain ⟨e1, e2⟩ := wipe_some e
        rw [wipe_out fun z => e2 (hv j z)]
        exact e1
      cases b with
      | false =>
        simp only [Bool.false_eq_true, if_false] at q9 ⊢
        exact fin I9 hl8 hk8 q9
      | true =>
        simp only [if_true] at q9 ⊢
        refine thnF (pi1 _ s9 σ8 H9 _ I9 q9) fun xv s10 hx => thnF hx fun itv s11 h11 => ?_
        obtain ⟨it1, fp1, tn1, J1, H11, e1, I11, T1, st11, f11, W1, ⟨m1, w1⟩, turn1⟩ := h11
        subst e1
        -- the inner loop
        have stat1 : ∀ {H' : Hp}, (∀ b ∈ fp1, H' b = none) → ∀ b ∈ fp1, FpOk (X.blk s3 H3 scope ce fp) ([] ++ pinsAt fp s7.heap) H' b := fun hn b hb => ⟨hn b hb, (f11 b hb).2⟩
        have loop1 : codeAny (model X.prog X.w) X.A (.compLoop (.SetComp elt [⟨tg, iter, ifs, 0⟩, ⟨tg1, iter1, ifs1, 0⟩] scope pos) 1 (.ref it1) (.ref D) ce)
            (fun r s' => match r with
              | .ok _ => ∃ m, m < n ∧ ∃ i H', Inv (X.blk s3 H3 scope ce fp) [] (wipe σ (own.map (·.2))) H' s' ∧ tn i s'.heap ∧ (∀ b ∈ fp, H' b = none) ∧ W i m H'
              | .error _ => False) s11 := by
          refine setLoop2_in (fun k s' => ∃ j H', Inv (X.blk s3 H3 scope ce fp) ([] ++ pinsAt fp s7.heap) (wipe σ8 vs1) H' s' ∧ tn1 j s'.heap ∧ (∀ b ∈ fp1, H' b = none) ∧ W1 j k H') ?_ m1 ⟨0, H11, I11.weak (wipe_length _ _) (fun j v e => (wipe_some e).1), st11, fun b hb => (f11 b hb).1, w1⟩
          rintro k s12 ⟨j, H12, I12, st12, n12, w12⟩
          rcases turn1 j k H12 w12 with ⟨stop1, nx1⟩ | ⟨go1, Nx1, hNx1, step1⟩
          · refine thnF (T1.done (X.blk s3 H3 scope ce fp) rfl rfl rfl hc j _ s12 (wipe σ8 vs1) H12 (fun _ _ => False) I12 (stat1 n12) st12 stop1) fun r s13 ⟨hr, I13⟩ => ?_
            subst hr
            exact fin I13 (hl8.trans (wipe_length σ8 vs1).symm) hk9 nx1
          · refine thnF (T1.item (X.blk s3 H3 scope ce fp) rfl rfl rfl hc j _ s12 (wipe σ8 vs1) H12 (fun _ _ => False) I12 (stat1 n12) st12 go1) fun r s13 ⟨u1, hr, h13⟩ => ?_
            subst hr
            refine thnF h13 fun _ s14 ⟨x1, H14, I14, r14, y14, st14, n14⟩ => ?_
            have I14' := I14.pinned (stat1 n14) (T1.obj _ _ st14)
            refine thnF (pg1 _ s14 (wipe σ8 vs1) H14 x1 u1 _ I14' r14 (step1 x1 H14 y14)) fun _ s15 ⟨σ15, H15, I15, hw15, q15⟩ => ?_
            refine thnF (pt1 _ s15 σ15 H15 _ I15 q15) fun b1 s16 ⟨H16, I16, q16⟩ => ?_
            have fin1 : ∀ {s' : Shared} {H' : Hp}, Inv (X.blk s3 H3 scope ce fp) (([] ++ pinsAt fp s7.heap) ++ pinsAt fp1 s14.heap) σ15 H' s' → Nx1 H' → ∃ m, m < k ∧ ∃ j H', Inv (X.blk s3 H3 scope ce fp) ([] ++ pinsAt fp s7.heap) (wipe σ8 vs1) H' s' ∧ tn1 j s'.heap ∧ (∀ b ∈ fp1, H' b = none) ∧ W1 j m H' := fun {s' H'} I' nx => by
              obtain ⟨m', hm, w'⟩ := hNx1 H' nx
              have pin' : ∀ b ∈ fp1, ∀ o, s14.heap.get? b = some o → s'.heap.get? b = some o ∧ H' b = none := fun b hb o e =>
                let z := I'.pin (b, o) (List.mem_append_right _ (List.mem_append_right _ (mem_pinsAt hb e)))
                ⟨z.1, z.2.1⟩
              refine ⟨m', hm, j + 1, H', I'.unpinned.weak (by rw [← hw15, wipe_length]) (fun j v e => by rw [← hw15] at e; exact (wipe_some e).1), T1.keep _ _ _ st14 fun b hb o e => (pin' b hb o e).1, fun b hb => ?_, w'⟩
              obtain ⟨o, e, _⟩ := T1.obj _ _ st14 b hb
              exact (pin' b hb o e).2
            cases b1 with
            | false =>
              simp only [Bool.false_eq_true, if_false] at q16 ⊢
              exact fin1 I16 q16
            | true =>
              simp only [if_true] at q16 ⊢
              refine thnF (pe _ s16 σ15 H16 _ I16 q16) fun z s17 ⟨yv, H17, I17, r17, nx⟩ => ?_
              exact thnF (ca _ s17 σ15 H17 [.ref D, yv] [.ref D, z] _ I17 (.cons rfl (.cons r17 .nil)) nx) fun _ s18 ⟨_, H18, I18, _, nx2⟩ => fin1 I18 nx2
        exact setStart1_ok loop1 (T1.self X.A 0 _ _ _ st11 loop1)
  exact codeAny_compStart_set loop (T.self X.A 0 _ _ _ st4 loop)
theorem pe_sc2 {elt tg iter tg1 iter1 : Expr} {ifs ifs1 : List Expr} {scope : Scope} {own : List (Str × Nat)} {vs1 : List Nat} {pos : Pos} {wi wi1 : TI} {g g1 : TG} {tt tt1 : TT} {te : TE} {mk : Addr → HO} {radd : List V → Hp → VK → Prop} (hc : X.calm = true) (hN : X.N.Nodup) (hi : PI X tg iter wi) (ok : BlkOk X.N X.env.scope scope own) (hv : ∀ i ∈ vs1, i ∈ own.map (·.2))
    (hg : ∀ (s : Shared) (H : Hp) (C : Addr) (cl : List (Str × Addr)) (fp : List Addr), PG (X.blk s H scope (compEnvC scope cl C X.env) fp) tg g) (ht : ∀ (s : Shared) (H : Hp) (C : Addr) (cl : List (Str × Addr)) (fp : List Addr), PTs (X.blk s H scope (compEnvC scope cl C X.env) fp) ifs tt)
    (hi1 : ∀ (s : Shared) (H : Hp) (C : Addr) (cl : List (Str × Addr)) (fp : List Addr), PI (X.blk s H scope (compEnvC scope cl C X.env) fp) tg1 iter1 wi1)
    (hg1 : ∀ (s : Shared) (H : Hp) (C : Addr) (cl : List (Str × Addr)) (fp : List Addr), PG (X.blk s H scope (compEnvC scope cl C X.env) fp) tg1 g1) (ht1 : ∀ (s : Shared) (H : Hp) (C : Addr) (cl : List (Str × Addr)) (fp : List Addr), PTs (X.blk s H scope (compEnvC scope cl C X.env) fp) ifs1 tt1)
    (he : ∀ (s : Shared) (H : Hp) (C : Addr) (cl : List (Str × Addr)) (fp : List Addr), PE (X.blk s H scope (compEnvC scope cl C X.env) fp) elt te) (hmk : ∀ (H : Hp) (D : Addr) (h : Heap), h.get? D = some (emptySet X.w) → ObjOk X.prog X.w H h D (mk D)) (ha : ∀ (s : Shared) (H : Hp) (C : Addr) (cl : List (Str × Addr)) (fp : List Addr), CallR (X.blk s H scope (compEnvC scope cl C X.env) fp) (.builtin "set.add") radd)
    (hs : ∀ x, foldedSetIterable iter X.env x = pure x := by intro _; rfl) (hs1 : ∀ env x, foldedSetIterable iter1 env x = pure x := by intro _ _; rfl) :
    PE X (.SetComp elt [⟨tg, iter, ifs, 0⟩, ⟨tg1, iter1, ifs1, 0⟩] scope pos) (tSc2 mk radd wi g tt wi1 g1 tt1 te (own.map (·.2)) vs1) := by
  intro pins s σ H Q I h
  rw [arm_eval_SetComp]
  refine sc2_core hc hN I hi ok hv hg ht he hs hi1 hg1 ht1 hs1 hmk ha h fun D C s' m H' I' q hn f => ⟨m, hn, fun h'' sb => ?_⟩
  obtain ⟨f0, f1, f2, f3, f4, f5⟩ := f
  exact ⟨.ref D, H', I'.turned (t' := s'.toks) (fun b o hb e => (sb.2 b hb).trans e) f0 f1 f3 f4 f5, rfl, q⟩
end
end L2

namespace L2
open PySem PySem.Spec PyProof.Rows
section
variable {X : Cx} {K : PySem.W.Frag} {o e : Expr} {es : List Expr} {to : TE} {t : TA} {name : Str} {apos cpos : Pos} {T id : String} {r : V → List V → Hp → VK → Prop}
theorem pe_bmK (ek : X.K = K) (pa : PlainAttrs T) (slot : Slot T name id) (hty : typeOf (.builtin id) = pure (.type "method_descriptor")) (hm : MtR X id r) (ho : PE X o to) (ha : PA X (e :: es) t)
    (hbase : attributeBase o name X.env (eval o X.env) = eval o X.env := by rfl)
    (hfew : ((backTo cpos (starEach (e :: es) X.env)).all (fun x => !x.1) && (backToKw cpos (keywordEach [] X.env)).all (fun x => x.1.isSome)
      && decide ((e :: es).length + ([] : List Keyword).length + (if ([] : List Keyword).isEmpty then 0 else 1) < 30)) = true := by rfl)
    (hline : (apos.endLine == cpos.line) = true := by rfl) (hs : starEach (e :: es) X.env = (false, eval e X.env) :: starEach es X.env := by rfl) (hplain : (backTo cpos (starEach es X.env)).any (·.1) = false := by rfl) :
    PE X (.Call (.Attribute o name apos) (e :: es) [] cpos) (tBM K T r to t) := ek ▸ pe_bm pa slot hty hm ho ha hbase hfew hline hs hplain
end
abbrev rInn (J1 : It) (g1 : TG) (tt1 : TT) (te : TE) (radd : List V → Hp → VK → Prop) (D : Addr) (vs1 : List Nat) (σ2 : St) (H4 : Hp) (Nx : Hp → Prop) : Prop := ∃ W1 : Nat → Nat → Hp → Prop, (∃ m, W1 0 m H4) ∧ ∀ j k H, W1 j k H →
      (J1.stop j H ∧ Nx H) ∨ (J1.go j H ∧ ∃ Nx1 : Hp → Prop, (∀ H', Nx1 H' → ∃ k', k' < k ∧ W1 (j + 1) k' H') ∧ ∀ x H', J1.yld j H x H' → g1 x (wipe σ2 vs1) H' fun σ3 H5 => wipe σ3 vs1 = wipe σ2 vs1 ∧ tt1 σ3 H5 fun b H6 =>
        if b = true then te σ3 H6 fun y H7 => radd [.ref D, y] H7 (fun _ H8 => Nx1 H8) else Nx1 H6)
section
variable {K : PySem.W.Frag} {a : Addr} {xs : List V} {g g1 : TG} {tt tt1 : TT} {te : TE} {wi1 : TI} {vs vs1 : List Nat} {σ σ2 : St} {H1 H4 : Hp} {D : Addr} {mk : Addr → HO} {radd : List V → Hp → VK → Prop} {Qd Nx : Hp → Prop}
theorem sc2_tup (Pv : Nat → Hp → Prop) (h0 : Pv 0 (upd H1 D (mk D))) (hl : ∀ i H, i ≤ xs.length → Pv i H → SqT K H a xs)
    (hs : ∀ i x H, xs[i]? = some x → Pv i H → g x (wipe σ vs) H fun σ2 H2 => wipe σ2 vs = wipe σ vs ∧ tt σ2 H2 fun b H3 => if b = true then wi1 σ2 H3 fun J1 H4 => rInn J1 g1 tt1 te radd D vs1 σ2 H4 (Pv (i + 1)) else Pv (i + 1) H3) (hd : ∀ H, Pv xs.length H → Qd H) :
    ∃ W : Nat → Nat → Hp → Prop, (∃ m, W 0 m (upd H1 D (mk D))) ∧ ∀ i m H, W i m H →
      ((Itt K a).stop i H ∧ Qd H) ∨ ((Itt K a).go i H ∧ ∃ Nx : Hp → Prop, (∀ H', Nx H' → ∃ m', m' < m ∧ W (i + 1) m' H') ∧ ∀ x H', (Itt K a).yld i H x H' → g x (wipe σ vs) H' fun σ2 H2 => wipe σ2 vs = wipe σ vs ∧ tt σ2 H2 fun b H3 =>
        if b = true then wi1 σ2 H3 fun J1 H4 => rInn J1 g1 tt1 te radd D vs1 σ2 H4 Nx else Nx H3) := by
  refine ⟨fun i m H => m = xs.length - i ∧ i ≤ xs.length ∧ Pv i H, ⟨xs.length, by simp, Nat.zero_le _, h0⟩, ?_⟩
  rintro i m H ⟨rfl, hi, p⟩
  have q := hl i H hi p
  by_cases hlt : i < xs.length
  · refine .inr ⟨⟨xs, xs[i], q, by simp [hlt]⟩, Pv (i + 1), fun H' p' => ⟨xs.length - (i + 1), by omega, rfl, hlt, p'⟩, fun x H' y => ?_⟩
    obtain ⟨e, y⟩ := y
    subst e
    exact hs i x _ (y xs q) p
  · have e : i = xs.length := by omega
    subst e
    exact .inl ⟨⟨xs, q, Nat.le_refl _⟩, hd H p⟩
theorem inn_tup (Pv : Nat → Hp → Prop) (h0 : Pv 0 H4) (hl : ∀ i H, i ≤ xs.length → Pv i H → SqT K H a xs)
    (hs : ∀ i x H, xs[i]? = some x → Pv i H → g1 x (wipe σ2 vs1) H fun σ3 H5 => wipe σ3 vs1 = wipe σ2 vs1 ∧ tt1 σ3 H5 fun b H6 => if b = true then te σ3 H6 fun y H7 => radd [.ref D, y] H7 (fun _ H8 => Pv (i + 1) H8) else Pv (i + 1) H6) (hd : ∀ H, Pv xs.length H → Nx H) :
    rInn (Itt K a) g1 tt1 te radd D vs1 σ2 H4 Nx := by
  refine ⟨fun i m H => m = xs.length - i ∧ i ≤ xs.length ∧ Pv i H, ⟨xs.length, by simp, Nat.zero_le _, h0⟩, ?_⟩
  rintro i m H ⟨rfl, hi, p⟩
  have q := hl i H hi p
  by_cases hlt : i < xs.length
  · refine .inr ⟨⟨xs, xs[i], q, by simp [hlt]⟩, Pv (i + 1), fun H' p' => ⟨xs.length - (i + 1), by omega, rfl, hlt, p'⟩, fun x H' y => ?_⟩
    obtain ⟨e, y⟩ := y
    subst e
    exact hs i x _ (y xs q) p
  · have e : i = xs.length := by omega
    subst e
    exact .inl ⟨⟨xs, q, Nat.le_refl _⟩, hd H p⟩
end
end L2
namespace L2
open PySem PySem.Spec PyProof.Rows
end L2

namespace L2
open PySem PySem.Spec PyProof.Rows
section
variable {prog : Program} {w : World} {A : Around} {E : Value → Shared → Prop} {s : Shared}
variable {R : Result → Shared → Prop} {I : Addr} {fp wr : List Addr} {G : Array GenState → Array GenState → Prop} {n : Nat} {P : Nat → Value → Prop} {St : Nat → Shared → Prop}
end
section
variable {prog : Program} {w : World}
end
section
variable {X : Cx} {K : PySem.W.Frag}
end
end L2

namespace L2
open PySem PySem.Spec PyProof.Rows
open AutoSeq1 (wpAny_loadPart')
section
variable {prog : Program} {w : World} {A : Around} {E : Value → Shared → Prop} {s : Shared}
end
end L2

namespace L2
open PySem PySem.Spec PyProof.Rows
section
variable {X : Cx} {K : PySem.W.Frag} {e k : Expr} {te tk : TE} {p2 pos : Pos}
end
section
variable {prog : Program} {w : World} {A : Around} {E : Value → Shared → Prop} {s : Shared} {l : Addr} {its : List Value} {ns : List Int} {Q : Value → Shared → Prop}
end
section
variable {X : Cx} {K : PySem.W.Frag}
end
section
variable {prog : Program} {w : World} {A : Around} {E : Value → Shared → Prop} {s : Shared}
end
section
variable {X : Cx} {K : PySem.W.Frag}
end
end L2

namespace L2
open PySem PySem.Spec PyProof.Rows
section
variable {X : Cx} {K : PySem.W.Frag}
theorem cr_isA (ek : X.K = K) : CallR X (.builtin "isinstance") (fun xs H Q => ∃ x T t b, xs = [x, .ty T] ∧ TyOf K H x t ∧ PySem.W.kitOne K t (.type T) = some b ∧ Q (.bl b) H) := by
  subst ek
  intro pins s σ H xs us Q I r h
  obtain ⟨x, T, t, b, rfl, ty, e, q⟩ := h
  obtain ⟨u, v, rfl, ru, rt⟩ : ∃ u v, us = [u, v] ∧ RelV x u ∧ RelV (.ty T) v := by
    cases r with
    | cons r1 r2 => cases r2 with
      | cons r3 r4 => cases r4; exact ⟨_, _, rfl, r1, r3⟩
  cases (show v = Value.type T from rt)
  exact isinst_ok I ru ty e fun tk => fin_bl (I.tok tk) q rfl
end
end L2

namespace K07
def W (m : Int) : Nat → Int
  | 0 => 1
  | i + 1 => (W m i * (m - i)).fdiv (i + 1)
end K07

namespace KW
open PySem L2
theorem seqIx {d : Int} {n : Nat} (h0 : 0 ≤ d) (h1 : d < n) : seqIndex? d n = some d.toNat := by
  unfold seqIndex?
  first
    | (simp only []; rw [if_neg (by omega)]; rw [if_pos (by omega)])
    | (split <;> first | omega | (split <;> first | omega | rfl))
    | simp [h0, h1]; omega
def PZ (z : Int) : Prop := (-20 ≤ z ∧ z < 100) ∨ z = 999999999999999999999999999999 ∨ z = -999999999999999999999999999999
end KW
namespace KW
open PySem L2
theorem perm_pick {α : Type} {ys rest : List α} {k : Nat} {y : α} (h : rest[k]? = some y) : ((ys ++ [y]) ++ rest.eraseIdx k).Perm (ys ++ rest) := by
  rw [List.append_assoc]
  refine List.Perm.append_left ys ?_
  induction rest generalizing k with
  | nil => simp at h
  | cons x rest ih =>
    cases k with
    | zero => simp at h; subst h; exact .refl _
    | succ k =>
      simp at h
      exact (List.Perm.swap _ _ _).trans ((ih h).cons x)
theorem erase_map {l : List Int} {k : Nat} : (l.map V.int).eraseIdx k = (l.eraseIdx k).map V.int := by
  induction l generalizing k with
  | nil => rfl
  | cons x l ih => cases k with
    | zero => rfl
    | succ k => simp [List.eraseIdx_cons_succ, ih]
def oddC (n k : Nat) : List Int := (List.range n).map fun j : Nat => 1000 * (k : Int) + 100 + (j : Int)
structure RowP (n i : Nat) (c : List Int) : Prop where
  len : c.length = n
  rise : c.Pairwise (· < ·)
  bd : ∀ e ∈ c, e.natAbs ≤ 10 ^ 30
  kind : (∀ e ∈ c, PZ e) ∨ ∃ k, k < i ∧ c = oddC n k
theorem RowP.mono {n i j : Nat} {c : List Int} (h : RowP n i c) (hj : i ≤ j) : RowP n j c := ⟨h.len, h.rise, h.bd, h.kind.imp id fun ⟨k, a, b⟩ => ⟨k, by omega, b⟩⟩
theorem PZ.bd {z : Int} (h : PZ z) : z.natAbs ≤ 10 ^ 30 := by rcases h with h | h | h <;> omega
theorem nodup_snoc {cs : List (List Int)} {c : List Int} (nd : cs.Nodup) (h : c ∉ cs) : (cs ++ [c]).Nodup := by
  rw [List.nodup_append]
  refine ⟨nd, by simp, fun a ha b hb => ?_⟩
  rw [List.mem_singleton.mp hb]
  rintro rfl
  exact h ha
end KW
namespace KW
open PySem L2
structure ShapeF (K : PySem.W.Frag) (H : Hp) (sh : Addr) (zs : List (Addr × List Int)) (n : Nat) : Prop where
  at_ : SqT K H sh (refs zs)
  tup : Tups K H zs
  len : ∀ z ∈ zs, z.2.length = n
  n1 : 1 ≤ n
  n6 : n ≤ 6
  z1 : 1 ≤ zs.length
  z40 : zs.length ≤ 40
  bd : ∀ z ∈ zs, ∀ e ∈ z.2, e.natAbs ≤ 10 ^ 60
theorem ShapeF.same {K : PySem.W.Frag} {H H' : Hp} {sh : Addr} {zs : List (Addr × List Int)} {n : Nat} (h : ShapeF K H sh zs n) (s : Same H H') : ShapeF K H' sh zs n :=
  ⟨s.sqT h.at_, h.tup.same s, h.len, h.n1, h.n6, h.z1, h.z40, h.bd⟩
end KW

namespace KW
open PySem L2 K07
theorem SqT.sd {K : PySem.W.Frag} {H H' : Hp} {a D : Addr} {xs : List V} {kvs : List (List Key × V)} (h : SqT K H a xs) (hD : H D = some (.dT kvs)) (s : SameX D H H') : SqT K H' a xs := by
  rcases h with (h | ⟨o, h⟩) | h
  · exact .inl (.inl (s _ _ (ne_of h hD (by intro e; cases e)) h))
  · exact .inl (.inr ⟨o, s _ _ (ne_of h hD (by intro e; cases e)) h⟩)
  · exact .inr h
end KW

namespace KW
open PySem L2 K07
end KW

namespace KW
open PySem L2 K07
theorem tbh_sx {TB : List (Addr × HO)} {H H' : Hp} {p : Addr} {ys : List V} (nTB : ∀ q ∈ TB, ∀ ys, q.2 ≠ .lst ys) (hT : TbH TB H) (hp : H p = some (.lst ys)) (s : SameX p H H') : TbH TB H' := fun q hq => s _ _ (fun e => by
  have := hT q hq
  rw [e, hp] at this
  injection this with this
  exact nTB q hq _ this.symm) (hT q hq)
def PairsK (K : PySem.W.Frag) (H : Hp) (ps : List (Addr × Key × V)) : Prop := ∀ p ∈ ps, SqT K H p.1 [kV p.2.1, p.2.2]
theorem PairsK.same {K : PySem.W.Frag} {H H' : Hp} {ps : List (Addr × Key × V)} (h : PairsK K H ps) (s : Same H H') : PairsK K H' ps := fun q hq => s.sqT (h q hq)
theorem PairsK.sx {K : PySem.W.Frag} {H H' : Hp} {D : Addr} {ys : List V} {ps : List (Addr × Key × V)} (h : PairsK K H ps) (hD : H D = some (.lst ys)) (s : SameX D H H') : PairsK K H' ps := fun q hq => (h q hq).sx hD s
end KW

namespace KW
open PySem L2
structure PcS (n : Nat) (B : Int) (c : List Int) : Prop where
  len : c.length = n
  rise : c.Pairwise (· < ·)
  lo : ∀ e ∈ c, 0 ≤ e
  hi : ∀ e ∈ c, e < B
theorem PcS.mono {n : Nat} {B B' : Int} {c : List Int} (h : PcS n B c) (hb : B ≤ B') : PcS n B' c := ⟨h.len, h.rise, h.lo, fun e he => Int.lt_of_lt_of_le (h.hi e he) hb⟩
end KW
namespace KW
open PySem L2
end KW
namespace KW
open PySem L2
end KW
namespace KW
open PySem L2
structure PcN (n : Nat) (c : List Int) : Prop where
  len : c.length = n
  rise : c.Pairwise (· < ·)
  bd : ∀ e ∈ c, e.natAbs ≤ 10 ^ 40
end KW

namespace KW
open PySem L2
structure FOk (n : Nat) (f : List Nat) : Prop where
  nd : f.Nodup
  lt : ∀ x ∈ f, x < n
theorem FOk.len {n : Nat} {f : List Nat} (h : FOk n f) : f.length ≤ n := by
  have := h.nd.length_le_of_subset (l₂ := List.range n) fun x hx => List.mem_range.mpr (h.lt x hx)
  rwa [List.length_range] at this
def lstD (c : List Int) : PyData := .list (c.map PyData.int)
def Lsts (H : Hp) (zs : List (Addr × List Int)) : Prop := ∀ z ∈ zs, H z.1 = some (.lst (z.2.map V.int))
theorem Lsts.nil {H : Hp} : Lsts H [] := fun z hz => nomatch hz
theorem Lsts.same {H H' : Hp} {zs : List (Addr × List Int)} (h : Lsts H zs) (s : Same H H') : Lsts H' zs := fun z hz => s _ _ (h z hz)
theorem DpAll_lsts {K : PySem.W.Frag} {H : Hp} : ∀ {zs : List (Addr × List Int)}, Lsts H zs → DpAll K H (refs zs) (zs.map fun z => lstD z.2)
  | [], _ => .nil
  | z :: zs, h => .cons (.lst (SqL.of (h z List.mem_cons_self)) (DpAll_ints _)) (DpAll_lsts fun y hy => h y (List.mem_cons_of_mem _ hy))
end KW

namespace L2
open PySem PySem.Spec PyProof.Rows
section
variable {X : Cx} {K : PySem.W.Frag} {pos : Pos} {e fn : Expr} {es : List Expr} {t : TA} {k : Nat} {sp : Sp}
end
section
variable {X : Cx} {K : PySem.W.Frag} {tpos : Pos} {elts : List Expr} {kk : Nat}
end
end L2

namespace KW
open PySem L2
end KW

namespace L2
open PySem PySem.Spec PyProof.Rows
section
variable {X : Cx} {K : PySem.W.Frag}
end
end L2

namespace L2
open PySem PySem.Spec PyProof.Rows
section
variable {X : Cx} {K : PySem.W.Frag}
end
end L2

namespace L2
open PySem PySem.Spec PyProof.Rows
section
variable {X : Cx} {e : Expr} {es : List Expr} {te : TE} {t : TA}
theorem pa_consC {c : Const} {j : Nat} {pos : Pos} (ha : PE X (.Constant c j pos) te) (hr : PA X es t) : PA X (.Constant c j pos :: es) (tCons te t) := pa_cons ha hr (by rfl)
theorem pa_consN {x : Str} {pos : Pos} (ha : PE X (.Name x pos) te) (hr : PA X es t) : PA X (.Name x pos :: es) (tCons te t) := pa_cons ha hr (by rfl)
theorem pa_consT {l : List Expr} {k : Nat} {pos : Pos} (ha : PE X (.Tuple l k pos) te) (hr : PA X es t) : PA X (.Tuple l k pos :: es) (tCons te t) := pa_cons ha hr (by rfl)
theorem pa_consB {a b : Expr} {op : Operator} {pos : Pos} (ha : PE X (.BinOp a op b pos) te) (hr : PA X es t) : PA X (.BinOp a op b pos :: es) (tCons te t) := pa_cons ha hr (by rfl)
theorem pa_consS {a b : Expr} {pos : Pos} (ha : PE X (.Subscript a b pos) te) (hr : PA X es t) : PA X (.Subscript a b pos :: es) (tCons te t) := pa_cons ha hr (by rfl)
theorem pa_consK {g : Expr} {as : List Expr} {ks : List _} {pos : Pos} (ha : PE X (.Call g as ks pos) te) (hr : PA X es t) : PA X (.Call g as ks pos :: es) (tCons te t) := pa_cons ha hr (by rfl)
end
end L2

namespace L2
open PySem PySem.Spec PyProof.Rows
section
variable {X : Cx} {K : PySem.W.Frag}
def TyOfX (K : PySem.W.Frag) (H : Hp) (v : V) (t : Value) : Prop := TyOf K H v t ∨ (t = .type "tuple" ∧ ∃ a xs, v = .ref a ∧ SqT K H a xs)
theorem cr_isAX (ek : X.K = K) : CallR X (.builtin "isinstance") (fun xs H Q => ∃ x T t b, xs = [x, .ty T] ∧ TyOfX K H x t ∧ PySem.W.kitOne K t (.type T) = some b ∧ Q (.bl b) H) := by
  subst ek
  intro pins s σ H xs us Q I r h
  obtain ⟨x, T, t, b, rfl, ty, e, q⟩ := h
  obtain ⟨u, v, rfl, ru, rt⟩ : ∃ u v, us = [u, v] ∧ RelV x u ∧ RelV (.ty T) v := by
    cases r with
    | cons r1 r2 => cases r2 with
      | cons r3 r4 => cases r4; exact ⟨_, _, rfl, r1, r3⟩
  cases (show v = Value.type T from rt)
  rcases ty with ty | ⟨rfl, a, xs, rfl, hs⟩
  · exact isinst_ok I ru ty e fun tk => fin_bl (I.tok tk) q rfl
  · cases (show u = Value.ref a from ru)
    obtain ⟨its, r1, p1, _⟩ := I.tuple hs
    obtain ⟨o, h1, h2, _⟩ := p1
    exact PySem.W.kia_one PySem.W.kitx_tuple I.kIn ⟨o, h1, h2⟩ e (fun z => nomatch z) fun tk => fin_bl (I.tok tk) q rfl
def rInsert : V → List V → Hp → VK → Prop := fun x vs H Q => ∃ l xs y, ∃ i : Nat, x = .ref l ∧ vs = [.int (i : Int), y] ∧ H l = some (.lst xs) ∧ i ≤ xs.length ∧ xs.length < 100000 ∧ Q .non (upd H l (.lst (xs.take i ++ y :: xs.drop i)))
theorem mt_insert : MtM X "list.insert" rInsert := by
  intro pins s σ H x vs v us Q I rx rv h
  obtain ⟨l, xs, y, i, rfl, rfl, hH, hi, hz, q⟩ := h
  cases rx
  obtain ⟨u1, u2, rfl, ⟨t, rfl⟩, ru⟩ : ∃ u v, us = [u, v] ∧ RelV (.int (i : Int)) u ∧ RelV y v := by
    cases rv with
    | cons r1 r2 => cases r2 with
      | cons r3 r4 => cases r4; exact ⟨_, _, rfl, r1, r3⟩
  obtain ⟨z, its, n, r, hl, e⟩ := I.lstM hH
  have hf : Builtin.List.listFitsIndex (i : Int) = true := fitsIndex_both (Int.le_trans (by decide) (Int.natCast_nonneg i)) (Int.lt_of_lt_of_le (show (i : Int) < 100000 by omega) (by decide))
  have hsz : its.toArray.size ≤ sizeLine := by rw [List.size_toArray]; omega
  generalize hk : (i : Int) = k at hf ⊢
  refine call_meets F.slot_list_insert ⟨_, e, rfl⟩ F.entry_list_insert (F.args_list_insert_3 _ _ _) (PySem.AutoSeq1.list_insert_list_int_val_1 l its.toArray n k t u2 (by simp [hf]) hsz) ⟨e, ?_⟩
  subst hk
  have hi' : i ≤ its.length := by omega
  refine ⟨.non, _, I.lset (its' := its.take i ++ u2 :: its.drop i) hH e ?_ ?_ ?_, rfl, q⟩
  · show (its.toArray.extract 0 (if (i : Int) < 0 then _ else min ((i : Int)).toNat its.toArray.size)).push u2 ++ its.toArray.extract (if (i : Int) < 0 then _ else min ((i : Int)).toNat its.toArray.size) = _
    rw [if_neg (by omega), Int.toNat_natCast, show min i its.toArray.size = i from by rw [List.size_toArray]; exact Nat.min_eq_left hi']
    exact PySem.W.kl_ins_eq _ _ _
  · exact (r.take i).append (.cons ru (r.drop i))
  · rw [List.length_append, List.length_take, List.length_cons, List.length_drop, sizeLine_eq]
    omega
end
end L2

namespace L2
open PySem PySem.Spec PyProof.Rows
section
variable {prog : Program} {w : World} {A : Around} {E : Value → Shared → Prop} {s : Shared}
end
end L2

namespace L2
open PySem PySem.Spec PyProof.Rows
section
variable {α : Type} {g : TG} {tt : TT} {te : TE} {vs : List Nat} {σ : St} {Stp : α → Hp → Prop} {Ste : α → V → Hp → (α → Hp → Prop) → Prop}
end
section
variable {X : Cx} {K : PySem.W.Frag} {pos : Pos} {e fn : Expr} {es : List Expr} {t : TA} {k : Nat}
theorem pe_globI {x : Str} {i : Int} {tk : Tok} {pos : Pos} (hm : X.mg x = some (.int i tk)) (hg : Gl X x := by rfl) (hd : (x == ("__debug__" : Str)) = false := by decide) : PE X (.Name x pos) (tC (.int i)) := pe_glob hg hm ⟨tk, rfl⟩ hd
end
section
variable {X : Cx} {pins : List (Addr × Obj)} {σ : St} {H : Hp} {s : Shared} {K : PySem.W.Frag}
inductive DpE (K : PySem.W.Frag) (H : Hp) : V → PyData → Prop
  | int (i : Int) : DpE K H (.int i) (.int i)
  | dE {a : Addr} : H a = some (.dK []) → DpE K H (.ref a) (.dict [])
inductive DpEs (K : PySem.W.Frag) (H : Hp) : List V → List PyData → Prop
  | nil : DpEs K H [] []
  | cons {v : V} {vs : List V} {d : PyData} {ds : List PyData} : DpE K H v d → DpEs K H vs ds → DpEs K H (v :: vs) (d :: ds)
inductive DpX (K : PySem.W.Frag) (H : Hp) : V → PyData → Prop
  | old {v : V} {d : PyData} : Dp K H v d → DpX K H v d
  | dE {a : Addr} : H a = some (.dK []) → DpX K H (.ref a) (.dict [])
  | dT {a : Addr} {c : List Int} {i : Int} : H a = some (.dT [(c.map Sum.inl, .int i)]) → DpX K H (.ref a) (.dict [(.tuple (c.map PyData.int), .int i)])
  | tup {a : Addr} {xs : List V} {ds : List PyData} : SqT K H a xs → DpEs K H xs ds → DpX K H (.ref a) (.tuple ds)
end
section
variable {X : Cx} {k v : Expr} {tk tv : TE} {pos : Pos}
end
end L2

namespace L2
open PySem PySem.Spec PyProof.Rows
section
variable {prog : Program} {w : World} {A : Around} {E : Value → Shared → Prop} {s : Shared}
end
section
variable {X : Cx} {K : PySem.W.Frag} {e : Expr} {te : TE} {p1 p2 p3 pos : Pos} {j : Nat}
end
end L2

namespace L2
open PySem PySem.Spec PyProof.Rows
section
variable {X : Cx} {K : PySem.W.Frag}
def kdOf : PyData → String
  | .none => "NoneType"
  | .bool _ => "bool"
  | .int _ => "int"
  | .str _ => "str"
  | .list _ => "list"
  | .tuple _ => "tuple"
  | .dict _ => "dict"
theorem cr_isAD (ek : X.K = K) : CallR X (.builtin "isinstance") (fun xs H Q => ∃ x T d b, xs = [x, .ty T] ∧ DpX K H x d ∧ PySem.W.kitOne K (.type (kdOf d)) (.type T) = some b ∧ Q (.bl b) H) := by
  subst ek
  intro pins s σ H xs us Q I r h
  obtain ⟨x, T, d, b, rfl, hd, e, q⟩ := h
  obtain ⟨u, v, rfl, ru, rt⟩ : ∃ u v, us = [u, v] ∧ RelV x u ∧ RelV (.ty T) v := by
    cases r with
    | cons r1 r2 => cases r2 with
      | cons r3 r4 => cases r4; exact ⟨_, _, rfl, r1, r3⟩
  cases (show v = Value.type T from rt)
  have tp : ∀ {a : Addr} {xs : List V}, x = .ref a → SqT X.K H a xs → PySem.W.kitOne X.K (.type "tuple") (.type T) = some b → wpAny (model X.prog X.w) X.A (call (.builtin "isinstance") [u, .type T]) (EP X pins σ Q) X.xe s := by
    rintro a xs rfl hs e
    cases (show u = Value.ref a from ru)
    obtain ⟨its, r1, p1, _⟩ := I.tuple hs
    obtain ⟨o, h1, h2, _⟩ := p1
    exact PySem.W.kia_one PySem.W.kitx_tuple I.kIn ⟨o, h1, h2⟩ e (fun z => nomatch z) fun tk => fin_bl (I.tok tk) q rfl
  cases hd with
  | old h =>
    cases h with
    | non => exact isinst_ok I ru TyOf.non e fun tk => fin_bl (I.tok tk) q rfl
    | bl c => exact isinst_ok I ru (TyOf.bl c) e fun tk => fin_bl (I.tok tk) q rfl
    | int i => exact isinst_ok I ru (TyOf.int i) e fun tk => fin_bl (I.tok tk) q rfl
    | str z => exact isinst_ok I ru (TyOf.str z) e fun tk => fin_bl (I.tok tk) q rfl
    | @lst a xs ds hs _ =>
      cases (show u = Value.ref a from ru)
      obtain ⟨its, r1, p1, _⟩ := I.list hs
      obtain ⟨o, h1, h2, _⟩ := p1.isList
      exact PySem.W.kia_one PySem.W.kitx_list I.kIn ⟨o, h1, h2⟩ e (fun z => nomatch z) fun tk => fin_bl (I.tok tk) q rfl
    | tup hs _ => exact tp rfl hs e
  | dE ha => exact isinst_ok I ru (TyOf.dK ha) e fun tk => fin_bl (I.tok tk) q rfl
  | dT ha => exact isinst_ok I ru (TyOf.dT ha) e fun tk => fin_bl (I.tok tk) q rfl
  | tup hs _ => exact tp rfl hs e
end
structure Shw (c : Nat) (d : PyData) : Prop where
  len : d.shown.length ≤ c
  can : d.showable = true
  dep : d.depth ≤ 60
theorem Shw.mono {c c' : Nat} {d : PyData} (h : Shw c d) (e : c ≤ c') : Shw c' d := ⟨Nat.le_trans h.len e, h.can, h.dep⟩
end L2

namespace L2
open PySem PySem.Spec PyProof.Rows
section
variable {P : Program} {w : World} {K : Type} [DecidableEq K] {HK : HeapKind P w K} {A : Around} {E : Value → Shared → Prop} {s : Shared}
end
section
variable {X : Cx} {K : PySem.W.Frag}
end
end L2

namespace L2
open PySem PySem.Spec PyProof.Rows
mutual
inductive DpZ (K : PySem.W.Frag) (H : Hp) : V → PyData → Prop
  | non : DpZ K H .non .none
  | bl (b : Bool) : DpZ K H (.bl b) (.bool b)
  | int (i : Int) : DpZ K H (.int i) (.int i)
  | str (x : Str) : DpZ K H (.str x) (.str x)
  | dE {a : Addr} : H a = some (.dK []) → DpZ K H (.ref a) (.dict [])
  | tup {a : Addr} {xs : List V} {ds : List PyData} : SqT K H a xs → DpZs K H xs ds → DpZ K H (.ref a) (.tuple ds)
inductive DpZs (K : PySem.W.Frag) (H : Hp) : List V → List PyData → Prop
  | nil : DpZs K H [] []
  | cons {v : V} {vs : List V} {d : PyData} {ds : List PyData} : DpZ K H v d → DpZs K H vs ds → DpZs K H (v :: vs) (d :: ds)
end
inductive DpY (K : PySem.W.Frag) (H : Hp) : V → PyData → Prop
  | old {v : V} {d : PyData} : Dp K H v d → DpY K H v d
  | dz {v : V} {d : PyData} : DpZ K H v d → DpY K H v d
  | dT {a : Addr} {c : List Int} {i : Int} : H a = some (.dT [(c.map Sum.inl, .int i)]) → DpY K H (.ref a) (.dict [(.tuple (c.map PyData.int), .int i)])
section
variable {X : Cx} {pins : List (Addr × Obj)} {σ : St} {H : Hp} {s : Shared} {K : PySem.W.Frag}
theorem cr_isADY (ek : X.K = K) : CallR X (.builtin "isinstance") (fun xs H Q => ∃ x T d b, xs = [x, .ty T] ∧ DpY K H x d ∧ PySem.W.kitOne K (.type (kdOf d)) (.type T) = some b ∧ Q (.bl b) H) := by
  intro pins s σ H xs us Q I r h
  obtain ⟨x, T, d, b, rfl, hd, e, q⟩ := h
  have go : ∀ h : DpX K H x d ∨ TyOfX K H x (.type (kdOf d)), wpAny (model X.prog X.w) X.A (call (.builtin "isinstance") us) (EP X pins σ Q) X.xe s := fun h => by
    rcases h with h | h
    · exact cr_isAD ek pins s σ H _ us Q I r ⟨x, T, d, b, rfl, h, e, q⟩
    · exact cr_isAX ek pins s σ H _ us Q I r ⟨x, T, _, b, rfl, h, e, q⟩
  cases hd with
  | old h => exact go (.inl (.old h))
  | dT ha => exact go (.inl (.dT ha))
  | dz h =>
    cases h with
    | non => exact go (.inl (.old .non))
    | bl b => exact go (.inl (.old (.bl b)))
    | int i => exact go (.inl (.old (.int i)))
    | str x => exact go (.inl (.old (.str x)))
    | dE ha => exact go (.inl (.dE ha))
    | tup ht _ => exact go (.inr (.inr ⟨rfl, _, _, rfl, ht⟩))
end
end L2

namespace L2
open PySem PySem.Spec PyProof.Rows
open Builtin
section
variable {X : Cx} {K : PySem.W.Frag}
end
end L2

namespace L2
open PySem PySem.Spec PyProof.Rows
section
variable {X : Cx} {K : PySem.W.Frag} {e : Expr} {es : List Expr} {te : TE} {t : TA} {p : Pos}
end
end L2

namespace L2
open PySem PySem.Spec PyProof.Rows
section
variable {X : Cx} {pins : List (Addr × Obj)} {σ : St} {H : Hp} {s : Shared} {a : Addr} {y v : V} {u r : Value} {A : Around} {E : Value → Shared → Prop}
end
section
variable {prog : Program} {w : World} {A : Around} {R : Result → Shared → Prop} {s : Shared} {kx vx t0 i0 t1 i1 : Expr} {ifs0 ifs1 : List Expr} {scope : Scope} {pos : Pos} {it : Value} {D : Addr} {env : Env}
end

section
variable {X : Cx}
end
end L2

namespace L2
open PySem PySem.Spec PyProof.Rows

structure FlyB (P : Program) (w : World) (outer : List Env) (H : Hp) (s : Shared) (H' : Hp) (B : Heap) (s' : Shared) : Prop where
  os : s'.os = s.os
  bare : AllBare s'.gens
  stays : B.StaysIn s'.heap
  hok : HOk P w H' B
  keep : ∀ b o, s.heap.get? b = some o → H b = none → b ∉ frs outer → B.get? b = some o
  there : ∀ b o, s.heap.get? b = some o → b ∉ frs outer → ∃ o', B.get? b = some o'
  slot : ∀ b o, s.heap.get? b = some o → H b = none → b ∈ frs outer → ∃ sl, s'.heap.get? b = some { o with slots := sl }
  nf : ∀ b ∈ frs outer, ∃ o, s'.heap.get? b = some o ∧ ∀ vs, o.data ≠ .fields vs
  free : ∀ b o, s.heap.get? b = some o → H b = none → H' b = none
  tups : ∀ b xs, H b = some (.tup xs) → H' b = some (.tup xs)
  frzs : ∀ b o u, H b = some (.frz o u) → H' b = some (.frz o u)
  tbls : ∀ b ps, H b = some (.tbl ps) → ∃ more, H' b = some (.tbl (ps ++ more))
section
variable {P : Program} {w : World} {outer : List Env} {H H' : Hp} {s s' : Shared} {B h2 : Heap}
theorem FlyB.move (F : FlyB P w outer H s H' B s') (k : B.StaysIn h2) (u : s'.heap.UpToSlots h2) : FlyB P w outer H s H' B { s' with heap := h2 } where
  os := F.os
  bare := F.bare
  stays := k
  hok := F.hok
  keep := F.keep
  there := F.there
  slot := fun b o e n hb => by
    obtain ⟨sl, q⟩ := F.slot b o e n hb
    obtain ⟨o2, q2, d2⟩ := F.nf b hb
    rw [q] at q2; cases q2
    obtain ⟨sl2, q3⟩ := u b _ q d2
    exact ⟨sl2, q3⟩
  nf := fun b hb => by
    obtain ⟨o2, q2, d2⟩ := F.nf b hb
    obtain ⟨sl2, q3⟩ := u b _ q2 d2
    exact ⟨_, q3, d2⟩
  free := F.free
  tups := F.tups
  frzs := F.frzs
  tbls := F.tbls
theorem FlyB.un (F : FlyB P w outer H s H' B s') : Un (frs outer) [] H H' s.heap s'.heap where
  keep := fun b o e n hb _ => F.stays b o (F.keep b o e n hb)
  slot := fun b o e n hb _ => F.slot b o e n hb
  free := fun b o e n _ => F.free b o e n
  there := fun b o e _ => by
    by_cases hb : b ∈ frs outer
    · obtain ⟨o2, q2, _⟩ := F.nf b hb; exact ⟨o2, q2⟩
    · obtain ⟨o', q⟩ := F.there b o e hb; exact ⟨o', F.stays b o' q⟩
  tups := F.tups
  frzs := F.frzs
  tbls := F.tbls
theorem FlyB.inv {X : Cx} {pins : List (Addr × Obj)} {σ : St} (F : FlyB X.prog X.w X.stack H s H' B s') (I : Inv X pins σ H s) : Inv X pins σ H' s' :=
  I.call' (ch := []) F.os F.un (F.hok.kept F.stays) F.bare (fun b z => absurd z (by simp))
theorem FlyB.new {e : Addr} {cls a0 : Value} (F : FlyB P w outer H s H' B s') (x : Heap.FlyingW B outer e cls a0 s'.heap) : H' e = none := by
  cases q : H' e with
  | none => rfl
  | some o =>
    have h1 := F.hok e o q
    have hz := x.2.1
    exfalso
    have h2 : ∃ ob, B.get? e = some ob := by
      cases o with
      | lst xs => obtain ⟨_, _, _, _, z⟩ := h1; exact ⟨_, z⟩
      | tup xs => obtain ⟨_, _, _, _, z, _⟩ := h1; exact ⟨_, z⟩
      | dK kvs => obtain ⟨_, _, _, _, _, _, _, z, _⟩ := h1; exact ⟨_, z⟩
      | dT kvs => obtain ⟨_, _, _, _, _, _, _, z, _⟩ := h1; exact ⟨_, z⟩
      | set S n => obtain ⟨_, _, _, _, z, _⟩ := h1; exact ⟨_, z⟩
      | ins C dx fs => obtain ⟨_, _, _, z, _⟩ := h1; exact ⟨_, z⟩
      | own y => obtain ⟨_, z⟩ := h1; exact ⟨_, z⟩
      | xd fs => obtain ⟨_, ⟨_, _, _, z, _⟩, _⟩ := h1; exact ⟨_, z⟩
      | rng lo hi => obtain ⟨_, _, _, z⟩ := h1; exact ⟨_, z⟩
      | frz ob u => obtain ⟨z, _⟩ := h1; exact ⟨_, z⟩
      | tbl ps => exact ⟨_, h1⟩
      | met f y => exact ⟨_, h1⟩
      | ext φ => obtain ⟨_, ⟨_, z⟩, _⟩ := h1; exact ⟨_, z⟩
      | cod ob => exact ⟨_, h1⟩
      | lam q => obtain ⟨_, z, _⟩ := h1; exact ⟨_, z⟩
    obtain ⟨ob, z⟩ := h2
    rw [hz] at z; cases z
end

def CXE (P : Program) (w : World) : CXT := fun outer H s E e s' => ∃ ae cls H' B a0, e = .ref ae ∧ FlyB P w outer H s H' B s' ∧ Heap.FlyingW B outer ae cls a0 s'.heap ∧ E cls none H'

def Leaves (X : Cx) (E : XK) : Prop := ∀ (pins : List (Addr × Obj)) (σ : St) (H : Hp) (s : Shared) (h' : Heap) (ae : Addr) (cls : Value) (vs : List Value), Inv X pins σ H s → Heap.MadeExcOf s.heap h' ae cls vs → E cls none H →
  X.xe (.ref ae) { s with heap := h' }

theorem hok_hide {P : Program} {w : World} {H : Hp} {h : Heap} {l : List Addr} (x : HOk P w H h) (hl : ∀ b ∈ l, H b = none) : HOk P w H (PySem.W.hideAll h l) := fun a o e =>
  (x a o e).stay (fun b u hb q => PySem.W.hideAll_get _ q fun z => by
    rcases hb with rfl | hb
    · rw [hl _ z] at e; cases e
    · rw [hl _ z] at hb; cases hb) (fun _ q => q) fun _ _ _ q => q

section
variable {P : Program} {w : World} {K : PySem.W.Frag} {mg : Str → Option Value} {base : Heap} {N : List Str} {qual : Str} {scope : Scope} {f : Addr} {cd : Value} {A : Around} {outer : List Env} {s : Shared} {H : Hp} {E : XK}

theorem frs_mem {l : List Env} {env : Env} {b : Addr} (h : env ∈ l) (e : env.frame = some b) : b ∈ frs l := List.mem_filterMap.mpr ⟨env, h, e⟩

theorem leaves_of : Leaves (cxOf (CXE P w) P w K mg base N qual scope f cd A outer s H E) E := by
  intro pins σ H1 s1 h' ae cls vs I hx hE
  have nL : ∀ b o, s.heap.get? b = some o → b ∉ frs outer → b ∉ frs (envOfC qual scope s.heap.objs.size f cd :: outer) := fun b o e hb z => by
    rcases List.mem_cons.mp (I.stkSub b z) with q | q
    · exact absurd q (Nat.ne_of_lt (Nat.lt_of_lt_of_le (Heap.lt_size e) I.ok.above))
    · exact hb q
  have noex : ∀ b : Addr, b ∉ (cxOf (CXE P w) P w K mg base N qual scope f cd A outer s H E).ex := fun b z => absurd (show b ∈ ([] : List Addr) from z) (by simp)
  refine wpAny_leaves_madeW (h := s1.heap) (base := PySem.W.hideAll s1.heap (frs (envOfC qual scope s.heap.objs.size f cd :: outer))) (L := s.heap.objs.size) I.ok.frames rfl (fun b o q => PySem.W.of_hideAll _ q)
    (PySem.W.funFrames_hide I.stack fun env he b hb => frs_mem he hb) hx fun h2 t x1 x2 x3 x4 => ?_
  refine ⟨ae, cls, H1, _, _, rfl, ⟨I.os, I.bare, x1.1, hok_hide I.hok I.stkFree, fun b o e n hb => ?_, fun b o e hb => ?_, fun b o e n hb => ?_, fun b hb => ?_, fun b o e n => I.base.free b o e n (noex b), I.base.tups, I.base.frzs, I.base.tbls⟩, x1, hE⟩
  · exact PySem.W.hideAll_get _ (I.base.keep b o e n hb (noex b)) (nL b o e hb)
  · obtain ⟨o', q⟩ := I.base.there b o e (noex b)
    exact ⟨o', PySem.W.hideAll_get _ q (nL b o e hb)⟩
  · obtain ⟨sl, q⟩ := I.base.slot b o e n hb (noex b)
    obtain ⟨_, o2, q2, d2⟩ := I.ok.funs.mem hb
    have e' : s.heap.get? b = some o2 := q2
    rw [e] at e'; cases e'
    obtain ⟨sl2, q3⟩ := x4 b _ (hx.keeps _ _ q) d2
    exact ⟨sl2, q3⟩
  · obtain ⟨_, o2, q2, d2⟩ := x1.2.2.1.mem hb
    exact ⟨o2, q2, d2⟩

end
end L2

namespace L2
open PySem PySem.Spec PyProof.Rows

theorem exc_of_in {K : PySem.W.Frag} {h : Heap} {C : Addr} {bmB : List Value} {newId : String} (X : K.In h) (q : PySem.W.excIn K C bmB newId = true) :
    ∃ bm N nm q bs hdct sn sub ab col dd k0 k1 k2 k3 k5 mN, h.get? C = some (excClassObj nm q C N bs bm hdct sn sub ab col dd k0 k1 k2 k3 k5 newId) ∧ h.Ns N mN ∧ mN "__init__" = none ∧ OwnTail h bmB bm := by
  revert q
  fun_cases PySem.W.excIn K C bmB newId with
  | case1 dd cd sl ho C2 bm k0 k1 k2 k3 n k5 hs hm =>
    intro q
    simp only [Bool.and_eq_true, beq_iff_eq, Bool.not_eq_true'] at q
    obtain ⟨⟨⟨⟨⟨q1, q2⟩, q3⟩, q4⟩, q5⟩, q6⟩ := q
    refine ⟨bm, cd.ns, cd.name, cd.qualname, cd.bases, cd.hasDict, cd.slotNames, cd.subclasses, cd.abstract, cd.collection, dd, k0, k1, k2, k3, k5, h.nsMap cd.ns, ?_, .of_isNs (PySem.W.isNs_of_in X q5), PySem.W.nsMap_none_of_in X q5 q6, PySem.W.tail_of_in X q4⟩
    rw [X _ _ ho]
    obtain ⟨l⟩ := sl
    simp only at hs
    subst q1 q2 hs
    cases cd
    simp only at hm q3
    subst hm q3
    rfl
  | case2 => intro q; simp_all
  | case3 => intro q; simp_all

def tRaise (cls : Value) (E : XK) (t : TA) : TS := fun _ σ H => t σ H fun vs H1 => vs.length ≤ sizeLine ∧ E cls none H1
section
variable {X : Cx} {E : XK} {x : Str} {C : Addr} {B newId initId : String} {bmB : List Value} {np cpos pos : Pos} {e : Expr} {es : List Expr} {t : TA}
theorem ps_raise (hl : Leaves X E) (hc : X.calm = true) (FB : ExcBaseFacts B newId initId bmB) (hm : X.mg x = some (.ref C)) (hxc : PySem.W.excIn X.K C bmB newId = true) (hg : Gl X x) (ha : PA X (e :: es) t)
    (hdb : (x == ("__debug__" : Str)) = false := by decide) (he : starEach (e :: es) X.env = (false, eval e X.env) :: starEach es X.env := by rfl) (hpl : (backTo cpos (starEach es X.env)).any (·.1) = false := by rfl) :
    PS X (.Raise (some (.Call (.Name x np) (e :: es) [] cpos)) none pos) (tRaise (.ref C) E t) := by
  intro pins s σ H D I h
  obtain ⟨bm, N, nm, q, bs, hdct, sn, sub, ab, col, dd, k0, k1, k2, k3, k5, mN, hC, hN, hni, T⟩ := exc_of_in I.mod.kin hxc
  refine wpAny_Raise_call_subT (C := C) (nm := nm) (q := q) (N := N) (bs := bs) (bm := bm) (hdct := hdct) (sn := sn) (sub := sub) (ab := ab) (col := col) (dd := dd) (k0 := k0) (k1 := k1) (k2 := k2) (k3 := k3) (k5 := k5)
    FB (mN := mN) (T.hasType FB.hasBase) (I.ok.hd hc) (by rw [he]; show (false || (backTo cpos (starEach es X.env)).any (·.1)) = false; rw [hpl]; rfl) hni (ld_glob I hg hm ⟨rfl, ?_⟩ hdb)
  have h2 := ha cpos pins s σ H _ I h
  rw [he] at h2 ⊢
  refine Calls.evalArgs_plain (wpAny_mono h2 (fun us s2 ⟨vs, H1, I1, r1, z, q1⟩ => ?_) fun _ _ y => y)
  refine ⟨rfl, by rw [← r1.length]; exact z, I1.bk _ _ hC, hN.keeps I1.bk, T.keeps I1.bk, fun h' ae hx => ?_⟩
  exact hl pins σ H1 s2 h' ae _ us I1 hx q1
end

def FlyX (X : Cx) (pins : List (Addr × Obj)) (σ : St) (H : Hp) (ae : Addr) (cls : Value) (s' : Shared) : Prop :=
  ∃ H1 s1 B a0, Inv X pins σ H1 s1 ∧ FlyB X.prog X.w X.stack H1 s1 H B s' ∧ Heap.FlyingW B X.stack ae cls a0 s'.heap
abbrev EX := Value → St → Hp → Prop
def XE (X : Cx) (pins : List (Addr × Obj)) (Z : EX) (e : Value) (s' : Shared) : Prop := ∃ ae cls σ' H', e = .ref ae ∧ FlyX X pins σ' H' ae cls s' ∧ Z cls σ' H'
abbrev TXS := EX → TS
abbrev TXE := EX → TE
def PX (X : Cx) (st : List Stmt) (t : TXS) : Prop := ∀ (pins : List (Addr × Obj)) (s : Shared) (σ : St) (H : Hp) (D : Ends) (Z : EX), Inv X pins σ H s → t Z D σ H → wpAny (model X.prog X.w) X.A (execs st X.env) (SP X pins D) (XE X pins Z) s
def PX1 (X : Cx) (st : Stmt) (t : TXS) : Prop := ∀ (pins : List (Addr × Obj)) (s : Shared) (σ : St) (H : Hp) (D : Ends) (Z : EX), Inv X pins σ H s → t Z D σ H → wpAny (model X.prog X.w) X.A (exec st X.env) (SP X pins D) (XE X pins Z) s
def PXE (X : Cx) (e : Expr) (t : TXE) : Prop := ∀ (pins : List (Addr × Obj)) (s : Shared) (σ : St) (H : Hp) (Q : VK) (Z : EX), Inv X pins σ H s → t Z σ H Q → wpAny (model X.prog X.w) X.A (eval e X.env) (EP X pins σ Q) (XE X pins Z) s
section
variable {X : Cx} {st : Stmt} {rest : List Stmt} {t u : TXS} {te : TXE} {e : Expr} {es : List Expr} {pos : Pos}
theorem px_one (h1 : PX1 X st t) : PX X [st] t := by
  intro pins s σ H D Z I h
  refine wpAny_execs_cons (thn (h1 pins s σ H D Z I h) fun f s1 q => ?_)
  cases f with
  | next => exact wpAny_execs_nil q
  | ret v => exact q
  | brk => exact q
  | cont => exact q
theorem px_set {i : Nat} {x : Str} {pos' : Pos} (hN : X.N.Nodup) (hi : X.N[i]? = some x) (hx : Loc X.env.scope x) (he : PXE X e te) (hs : swapsWith e (some (.Name x pos')) pos.line X.env = pure false := by rfl) (hf : X.fn x = true ∨ X.env.scope.names.lookup x = some .local := by first | exact .inl rfl | exact .inr rfl | assumption) :
    PX1 X (.Assign [.Name x pos'] e pos) (fun Z => tAsg (te Z) (gName i)) := by
  intro pins s σ H D Z I h
  refine wpAny_Assign_Name (thn (he pins s σ H _ Z I h) fun v s1 ⟨y, H1, I1, r1, q1⟩ => ?_) hs
  exact store_ok I1 hN hi hx r1 (fun s2 I2 => ⟨_, H1, I2, q1⟩) hf

variable {k : Nat} {f : Addr} {fd : FuncData} {ps : List Str} {sp : Sp} {dvs : List V} {ds : List Value} {x : Str} {p : Pos} {ta : TA}
end

def excO (a : Addr) (cls : Value) : HO := .ext fun h => ∃ o vs, h.get? a = some o ∧ o.cls = cls ∧ o.data = .fields vs
theorem FlyB.caught {X : Cx} {pins : List (Addr × Obj)} {σ : St} {H H' : Hp} {s s' : Shared} {B : Heap} {e : Addr} {cls a0 : Value} (F : FlyB X.prog X.w X.stack H s H' B s') (x : Heap.FlyingW B X.stack e cls a0 s'.heap) (I : Inv X pins σ H s) :
    Inv X pins σ (upd H' e (excO e cls)) s' := by
  have hn := F.new x
  have hok := F.hok.kept F.stays
  obtain ⟨oe, vs, he, hc, hd, _⟩ := x.first
  have ne : ∀ b o, s.heap.get? b = some o → b ≠ e := fun b o q z => by
    subst z
    by_cases hb : b ∈ frs X.stack
    · obtain ⟨o2, q2, d2⟩ := F.nf b hb
      rw [he] at q2; cases q2
      exact d2 vs hd
    · obtain ⟨o', q'⟩ := F.there b o q hb
      rw [x.2.1] at q'; cases q'
  have nu : ∀ b u, H' b = some u → b ≠ e := fun b u q z => by rw [z, hn] at q; cases q
  have U := F.un
  refine I.call' (ch := []) F.os ⟨U.keep, U.slot, fun b o q n z => ?_, U.there, fun b xs q => ?_, fun b o u q => ?_, fun b ps q => ?_⟩ (fun b u q => ?_) F.bare (fun b z => absurd z (by simp))
  · rw [upd_ne (ne b o q)]; exact U.free b o q n z
  · have := U.tups b xs q; rw [upd_ne (nu _ _ this)]; exact this
  · have := U.frzs b o u q; rw [upd_ne (nu _ _ this)]; exact this
  · obtain ⟨more, this⟩ := U.tbls b ps q; exact ⟨more, by rw [upd_ne (nu _ _ this)]; exact this⟩
  · by_cases hb : b = e
    · subst hb
      rw [upd_same] at q; cases q
      exact ⟨⟨oe, vs, he, hc, hd⟩, ⟨oe, he⟩, fun h1 h2 ⟨o, ws, q, c⟩ k => ⟨o, ws, k o q, c⟩⟩
    · rw [upd_ne hb] at q
      exact (hok b u q).stay (fun c v _ r => r) (fun c r => by rw [upd_ne (nu _ _ r)]; exact r) fun c v _ r => by rw [upd_ne (nu _ _ r)]; exact r

def Cx.suite (X : Cx) (ae : Addr) : Cx := { X with A := X.A.mark (some (.ref ae)), calm := false, xe := fun _ _ => False }
section
variable {X : Cx} {pins : List (Addr × Obj)} {σ : St} {H : Hp} {s : Shared} {ae : Addr}
theorem Inv.suite (I : Inv X pins σ H s) (ae : Addr) : Inv (X.suite ae) pins σ H s :=
  let ok := I.ok
  ⟨⟨ok.mod, ok.kind, ok.glob, ok.blt, ok.above, ok.inj, ok.has, ok.cab, fun h => absurd (show false = true from h) (by decide), ok.frames, ok.stk, ok.exf, ok.bs, ok.bsz, ok.noex, ok.exfs, ok.funs, ok.frf⟩, I.os, I.bare, I.base, I.loc, I.cell, I.free, I.freeC, I.pin, I.hok, I.len⟩
theorem Inv.unsuite (I : Inv (X.suite ae) pins σ H s) (hd : X.calm = true → X.A.handled = none) : Inv X pins σ H s :=
  let ok := I.ok
  ⟨⟨ok.mod, ok.kind, ok.glob, ok.blt, ok.above, ok.inj, ok.has, ok.cab, hd, ok.frames, ok.stk, ok.exf, ok.bs, ok.bsz, ok.noex, ok.exfs, ok.funs, ok.frf⟩, I.os, I.bare, I.base, I.loc, I.cell, I.free, I.freeC, I.pin, I.hok, I.len⟩
theorem name_goes {M : Model} {A : Around} {E : Value → Shared → Prop} {i : Nat} {n : Str} {pos : Pos} {Q : Unit → Shared → Prop} (I : Inv X pins σ H s) (hN : X.N.Nodup) (hi : X.N[i]? = some n) (hn : X.env.scope.names.lookup n = some .local)
    (h : ∀ s', Inv X pins (σ.set i none) H s' → Q () s') : wpAny M A (do bindName X.env n .none; unbindBehindTheSuite X.env n pos) Q E s := by
  have hcls : (X.env.scope.kind == .class || (X.env.scope.kind == .module && X.env.locals != X.env.globals)) = false := by rw [I.ok.kind]; rfl
  have hiσ : i < σ.length := by rw [I.len]; exact (List.getElem?_eq_some_iff.mp hi).1
  refine wpAny_bind (wpAny_bindName (store_ok (v := V.non) (u := Value.none) I hN hi (.inl hn) rfl (fun s1 I1 => ?_) (.inr hn)))
  unfold unbindBehindTheSuite
  obtain ⟨m, ns, hl⟩ := id I1.loc
  obtain ⟨u, _, lk⟩ := hl i n .non hi (by rw [List.getElem?_set_self hiσ]) (.inl hn)
  have hv : m n = some u := by
    rcases lk with ⟨_, q⟩ | ⟨k, _⟩
    · exact q
    · rcases k with k | k <;> (have k' : X.env.scope.names.lookup n = _ := k; rw [hn] at k'; cases k')
  refine wpAny_onRaise (wpAny_unbindName_local hn ns hv hcls fun h' u' ns' hs => ?_)
  have cne := I1.cne
  obtain ⟨oL, _, _, hoL, _⟩ := id ns
  refine h _ ⟨I1.ok, I1.os, I1.bare, ⟨fun b o e n hb hx => ?_, fun b o e n hb hx => ?_, I1.base.free, fun b o e hx => ?_, I1.base.tups, I1.base.frzs, I1.base.tbls⟩, ⟨_, ns', fun j y v' e1 e2 e3 => ?_⟩, fun y c e => ?_, I1.free, I1.freeC, fun p hp => ?_, ?_, by simpa using I.len⟩
  · exact (hs.2 b (Nat.ne_of_lt (Nat.lt_of_lt_of_le (Heap.lt_size e) I1.ok.above))).trans (I1.base.keep b o e n hb hx)
  · obtain ⟨sl, e1⟩ := I1.base.slot b o e n hb hx
    exact ⟨sl, (hs.2 b (Nat.ne_of_lt (Nat.lt_of_lt_of_le (Heap.lt_size e) I1.ok.above))).trans e1⟩
  · obtain ⟨o', e1⟩ := I1.base.there b o e hx
    exact ⟨o', (hs.2 b (Nat.ne_of_lt (Nat.lt_of_lt_of_le (Heap.lt_size e) I1.ok.above))).trans e1⟩
  · by_cases hj : j = i
    · subst hj
      rw [List.getElem?_set_self hiσ] at e2
      cases e2
    · rw [List.getElem?_set_ne (Ne.symm hj)] at e2
      obtain ⟨u2, r2, q⟩ := hl j y v' e1 (by rw [List.getElem?_set_ne (Ne.symm hj)]; exact e2) e3
      refine ⟨u2, r2, ?_⟩
      rcases q with ⟨k, e⟩ | ⟨k, c, e, z⟩
      · refine .inl ⟨k, ?_⟩
        have : y ≠ n := fun e => hj (nodup_ix hN e1 (e ▸ hi))
        simp [this, e]
      · exact .inr ⟨k, c, e, z.sameBut hs (cne y c e)⟩
  · obtain ⟨w', z⟩ := I1.cell y c e
    exact ⟨w', z.sameBut hs (cne y c e)⟩
  · obtain ⟨e, n, ne, nf, d⟩ := I1.pin p hp
    exact ⟨(hs.2 p.1 ne).trans e, n, ne, nf, d⟩
  · intro b ob e
    refine (I1.hok b ob e).stay (fun c w' hc q => (hs.2 c ?_).trans q) (fun _ q => q) fun _ _ _ q => q
    rintro rfl
    rcases hc with hc | hc
    · rw [← hc, I1.free] at e; cases e
    · rw [I1.free] at hc; cases hc
end

def tTry (K : PySem.W.Frag) (C : Addr) (i : Nat) (tb : TXS) (ts : TS) : TS := fun D σ H => tb (fun cls σ1 H1 => PySem.W.exmOne K cls (.ref C) = some true ∧ ∀ ae, H1 ae = none →
  ts { nx := fun σ2 H2 => D.nx (σ2.set i none) H2, rt := D.rt, bk := fun σ2 H2 => D.bk (σ2.set i none) H2, ct := fun σ2 H2 => D.ct (σ2.set i none) H2 } (σ1.set i (some (.ref ae))) (upd H1 ae (excO ae cls))) D σ H
theorem ty_of {M : Model} {h : Heap} {a : Addr} {o : Obj} {cls : Value} (e : h.get? a = some o) (c : o.cls = cls) : PySem.W.Looks M h (typeOf (.ref a)) cls := by
  subst c
  exact (PySem.W.Looks.ld e).andThen .now
theorem ps_try {X : Cx} {body suite : List Stmt} {b0 : Stmt} {x n : Str} {i : Nat} {np pos hpos : Pos} {C : Addr} {tb : TXS} {ts : TS} (hb : PX X body tb) (hs : ∀ ae, PSs (X.suite ae) (b0 :: suite) ts)
    (hst : X.stack = X.env :: X.outer) (hfr : X.env.frame = some X.env.locals) (hg : Gl X x) (hm : X.mg x = some (.ref C)) (hN : X.N.Nodup) (hi : X.N[i]? = some n) (hn : X.env.scope.names.lookup n = some .local) (hdb : (x == ("__debug__" : Str)) = false := by decide) :
    PS X (.Try body [.ExceptHandler (some (.Name x np)) (some n) (b0 :: suite) hpos] [] [] pos) (tTry X.K C i tb ts) := by
  intro pins s σ H D I h
  refine wpAny_Try_except (wpAny_mono (hb pins s σ H D _ I h) (fun f s1 q => ?_) (fun e s1 q => ?_))
  · cases f with
    | next => exact wpAny_execs_nil q
    | ret v => exact q
    | brk => exact q
    | cont => exact q
  obtain ⟨ae, cls, σ1, H1, rfl, ⟨H0, s0, B, a0, I0, F, y⟩, hx, hk⟩ := q
  have y' := y
  rw [hst] at y'
  have fr : X.A.frames = some (X.env :: X.outer) := by rw [← hst]; exact I.ok.frames
  refine wpAny_looks_onW fr hfr y' fun h4 held sm4 => ?_
  refine wpAny_landsW held fun h5 y5 sm5 => ?_
  have F5 := F.move y5.1 (sm4.trans sm5)
  have I5 := F5.inv I0
  obtain ⟨ob, hob, hobc⟩ := y5.there
  refine wpAny_handleBy_cons (codeAny_handlers_test (ld_glob (X := X.suite ae) (I5.suite ae) hg hm ?_ hdb)) (by intro q; cases q)
  refine PySem.W.exm_one I5.kIn (ty_of hob hobc) hx _ _ _ _ (fun _ _ q => q) ?_
  refine codeAny_handlers_suite_as ?_
  refine lands_againW y5 fun h6 y6 sm6 => ?_
  have F6 := F5.move y6.1 sm6
  have I6 := F6.caught (by rw [hst]; exact y6) I0
  refine store_ok (X := X.suite ae) (I6.suite ae) hN hi (.inl hn) (show RelV (.ref ae) (.ref ae) from rfl) (fun s8 I8 => ?_) (.inr hn)
  refine wpAny_mono (hs ae pins s8 _ _ _ I8 (hk ae (F6.new (by rw [hst]; exact y6)))) (fun f s9 q => ?_) (fun _ _ z => z.elim)
  cases f with
  | next =>
    obtain ⟨σ2, H2, I9, q⟩ := q
    exact name_goes (I9.unsuite I.ok.hd) hN hi hn fun s10 I10 => ⟨_, _, I10, q⟩
  | brk =>
    obtain ⟨σ2, H2, I9, q⟩ := q
    exact name_goes (I9.unsuite I.ok.hd) hN hi hn fun s10 I10 => ⟨_, _, I10, q⟩
  | cont =>
    obtain ⟨σ2, H2, I9, q⟩ := q
    exact name_goes (I9.unsuite I.ok.hd) hN hi hn fun s10 I10 => ⟨_, _, I10, q⟩
  | ret v =>
    obtain ⟨v', σ2, H2, I9, r, q⟩ := q
    exact name_goes (I9.unsuite I.ok.hd) hN hi hn fun s10 I10 => ⟨_, _, _, I10, r, q⟩
end L2

namespace L2
open PySem PySem.Spec PyProof.Rows

structure ExcCls (K : PySem.W.Frag) (C : Addr) : Prop where
  exc : ∃ newId, PySem.W.excIn K C [.type "ValueError", .type "Exception", .type "BaseException", .type "object"] newId = true
  ga : PySem.W.findIn K (.ref C) "__getattribute__" = some (some (.builtin "BaseException.__getattribute__"))
  gh : PySem.W.findIn K (.ref C) "__getattr__" = some none
  cl : PySem.W.findIn K (.ref C) "__class__" = some (some (.builtin "object.__class__"))
section
variable {prog : Program} {w : World} {A : Around} {E : Value → Shared → Prop} {h : Heap} {g : Array GenState} {d : Drawn} {t : Nat} {os : OsState} {a : Addr} {o : Obj} {K : PySem.W.Frag} {C : Addr} {vs : Array Value}
theorem xc_get {R : Result → Shared → Prop} (X : K.In h) (Z : ExcCls K C) (hx : h.get? a = some o) (hc : o.cls = .ref C) (hq : R (.ok (.ret (.ref C))) ⟨h, g, d, t, os⟩) :
    codeAny (model prog w) A (.call (.builtin "getset_descriptor.__get__") ⟨[.builtin "object.__class__", .ref a, .ref C], []⟩) R ⟨h, g, d, t, os⟩ := by
  obtain ⟨newId, hn⟩ := Z.exc
  obtain ⟨bm, N, nm, q, bs, hdct, sn, sub, ab, col, dd, k0, k1, k2, k3, k5, mN, hC, hN, hni, T⟩ := exc_of_in X hn
  have hT5 : (⟨h, g, d, t, os⟩ : Shared).TypeIs (.builtin "object.__class__") "getset_descriptor" := F.typeOf_object_class
  have hcB : (Value.ref C :: bm).contains (.type (".".intercalate ("object.__class__".cutAt '.').dropLast)) = true := by
    rw [F.owner_object_class, List.contains_cons, T.hasType (b := true) (by rfl)]; rfl
  refine codeAny_call_builtin F.slot_gs_get.plain F.entry_gs_get (F.slot_gs_get.check _ _ _ _ _ _ _ _ hT5 (F.args_gs_get _ _ _) ?_)
  repeat (any_goals (first | assumption | (with_reducible refine wpAny_loadPart_at hx ?_; rw [hc]) | (with_reducible refine wpAny_isSubtype_exc hC ?_; rw [hcB]) | wp_step))
  refine ⟨Code.quiet_builtin _ (by decide +kernel), codeAny_builtin F.entry_object_class ?_⟩
  repeat (any_goals (first | assumption | (with_reducible refine wpAny_loadPart_at hx ?_; rw [hc]) | wp_step))

theorem xc_check {M : Model} {nameV : Value} {Q : Unit → Shared → Prop} (X : K.In h) (Z : ExcCls K C) (hx : h.get? a = some o) (hc : o.cls = .ref C) (hq : Q () ⟨h, g, d, t, os⟩) :
    wpAny M A (checkBuiltinCall "BaseException.__getattribute__" ⟨[.ref a, nameV], []⟩) Q E ⟨h, g, d, t, os⟩ := by
  obtain ⟨newId, hn⟩ := Z.exc
  obtain ⟨bm, N, nm, q, bs, hdct, sn, sub, ab, col, dd, k0, k1, k2, k3, k5, mN, hC, hN, hni, T⟩ := exc_of_in X hn
  have hk : builtinKind "BaseException.__getattribute__" = some .slot := by decide +kernel
  have hsplit : splitId "BaseException.__getattribute__" = some ("BaseException", "__getattribute__") := by decide +kernel
  have hcB : (Value.ref C :: bm).contains (.type "BaseException") = true := by rw [List.contains_cons, T.hasType (b := true) (by rfl)]; rfl
  have ha := F.args_bexc_ga (.ref a) nameV
  simp only [checkBuiltinCall, hk, hsplit]
  refine wpAny_bind ?_
  unfold isInstance
  repeat (first | (with_reducible refine wpAny_loadPart_at hx ?_; rw [hc]) | (with_reducible refine wpAny_isSubtype_exc hC ?_; rw [hcB]) | wp_step)
  exact hq

theorem xc_entry {tk : Tok} {Q : Fin → Shared → Prop} (X : K.In h) (Z : ExcCls K C) (hx : h.get? a = some o) (hc : o.cls = .ref C) (hq : Q (.done (.ret (.ref C))) ⟨h, g, d, t, os⟩) :
    wpAny (model prog w) A (Builtin.«object.__getattribute__» ⟨[.ref a, .str "__class__" tk], []⟩) Q E ⟨h, g, d, t, os⟩ := by
  have hT5 : (⟨h, g, d, t, os⟩ : Shared).TypeIs (.builtin "object.__class__") "getset_descriptor" := F.typeOf_object_class
  have f5 := F.typeOf_object_class
  have f6 := F.slot_gs_get.lookup
  have f7 := F.slot_gs_set.lookup
  have L1 := PySem.W.looks_findIn (M := model prog w) X Z.cl
  repeat (any_goals (first | assumption | (with_reducible refine wpAny_loadPart_at hx ?_; rw [hc]) | with_reducible refine L1.at ?_ | wp_step))
  refine xc_get X Z hx hc ?_
  repeat (any_goals (first | assumption | wp_step))

theorem xc_call {tk : Tok} {R : Result → Shared → Prop} (X : K.In h) (Z : ExcCls K C) (hx : h.get? a = some o) (hc : o.cls = .ref C) (hq : R (.ok (.ret (.ref C))) ⟨h, g, d, t, os⟩) :
    codeAny (model prog w) A (.call (.builtin "BaseException.__getattribute__") ⟨[.ref a, .str "__class__" tk], []⟩) R ⟨h, g, d, t, os⟩ :=
  codeAny_call_builtin F.excAttr_ValueError.ga.plain F.entry_bexc_ga (xc_check X Z hx hc (xc_entry X Z hx hc hq))

theorem xc_by {tk : Tok} {fill : Bool} {Q : Value → Shared → Prop} (X : K.In h) (Z : ExcCls K C) (hx : h.get? a = some o) (hc : o.cls = .ref C) (hq : Q (.ref C) ⟨h, g, d, t, os⟩) :
    wpAny (model prog w) A (getAttrBy (.ref a) (.str "__class__" tk) fill) Q E ⟨h, g, d, t, os⟩ := by
  have f3 := F.excAttr_ValueError.ga.bind (.ref a)
  have hx2 : (Value.builtin "BaseException.__getattribute__" == Value.builtin "object.__getattribute__") = false := by decide +kernel
  have hx1 : (onTheHeap (Value.ref C) && Value.builtin "BaseException.__getattribute__" == Value.builtin "object.__getattribute__") = false := by rw [hx2]; rfl
  have L1 := PySem.W.looks_findIn (M := model prog w) X Z.ga
  have L2 := PySem.W.looks_findIn (M := model prog w) X Z.gh
  repeat (any_goals (first | assumption | (with_reducible refine wpAny_loadPart_at hx ?_; rw [hc]) | with_reducible refine L1.at ?_ | with_reducible refine L2.at ?_ | wp_step))
  refine xc_call X Z hx hc ?_
  repeat (any_goals (first | assumption | wp_step))

theorem xc_attr {Q : Option Value → Shared → Prop} (X : K.In h) (Z : ExcCls K C) (hx : h.get? a = some o) (hc : o.cls = .ref C) (hq : Q (some (.ref C)) ⟨h, g, d, t + 1, os⟩) :
    wpAny (model prog w) A (getAttr? (.ref a) "__class__") Q E ⟨h, g, d, t, os⟩ := by
  unfold getAttr? getAttrBy?
  repeat (any_goals (first | assumption | with_reducible apply xc_by X Z hx hc | wp_step))
end
end L2

namespace L2
open PySem PySem.Spec PyProof.Rows

def ExcAt (a C : Addr) (h : Heap) : Prop := ∃ o vs, h.get? a = some o ∧ o.cls = .ref C ∧ o.data = .fields vs
theorem kitx_exc {K : PySem.W.Frag} {a C : Addr} (Z : ExcCls K C) : PySem.W.KitX K (.ref a) (.ref C) (ExcAt a C) where
  ty := fun M h _ ⟨o, _, h1, h2, _⟩ => ty_of h1 h2
  it := fun M h X _ => by
    obtain ⟨newId, hn⟩ := Z.exc
    obtain ⟨bm, N, nm, q, bs, hdct, sn, sub, ab, col, dd, k0, k1, k2, k3, k5, mN, hC, hN, hni, T⟩ := exc_of_in X hn
    intro A' Q' E' s' k q
    unfold isType loadHead
    exact wpAny_bind (wpAny_loadPart (k _ _ hC) (wpAny_pure q))
  ne := fun h tp dd its n sl X htp => by
    obtain ⟨newId, hn⟩ := Z.exc
    obtain ⟨bm, N, nm, q, bs, hdct, sn, sub, ab, col, dd, k0, k1, k2, k3, k5, mN, hC, hN, hni, T⟩ := exc_of_in X hn
    refine Bool.eq_false_iff.mpr fun q => ?_
    have e : C = tp := Value.ref.inj (beq_iff_eq.mp q)
    subst e
    have z := congrArg Obj.cls (Option.some.inj (hC.symm.trans htp))
    have z : Value.type "type" = Value.type "tuple" := z
    exact absurd z (by decide)
  ca := fun {_ _ _ _ _ s} X p k => by
    obtain ⟨h, g, d, t, os⟩ := s
    obtain ⟨o, _, h1, h2, _⟩ := p
    exact xc_attr X Z h1 h2 k
inductive Caught (K : PySem.W.Frag) (H : Hp) : V → Value → Prop where
  | non : Caught K H .non (.type "NoneType")
  | exc {a C : Addr} (e : H a = some (excO a (.ref C))) (Z : ExcCls K C) : Caught K H (.ref a) (.ref C)
section
variable {X : Cx} {K : PySem.W.Frag}
theorem valsRefsX : ∀ {l : List Addr} {us : List Value}, Vals (l.map V.ref) us → us = l.map Value.ref
  | [], _, .nil => rfl
  | a :: l, _, .cons r t => by rw [show _ = Value.ref a from r, valsRefsX t]; rfl
theorem cr_isC (ek : X.K = K) : CallR X (.builtin "isinstance") (fun xs H Q => ∃ x t c v b, xs = [x, c] ∧ Caught K H x t ∧ ((∃ D, c = V.ref D ∧ v = Value.ref D) ∨ (∃ T, c = V.ty T ∧ v = Value.type T)) ∧ PySem.W.kitOne K t v = some b ∧ Q (.bl b) H) := by
  subst ek
  intro pins s σ H xs us Q I r h
  obtain ⟨x, t, c, v, b, rfl, ty, hc, e, q⟩ := h
  obtain ⟨u, y, rfl, ru, rt⟩ : ∃ u y, us = [u, y] ∧ RelV x u ∧ RelV c y := by
    cases r with
    | cons r1 r2 => cases r2 with
      | cons r3 r4 => cases r4; exact ⟨_, _, rfl, r1, r3⟩
  have hy : y = v := by
    rcases hc with ⟨D, rfl, rfl⟩ | ⟨T, rfl, rfl⟩
    · exact rt
    · exact rt
  subst hy
  cases ty with
  | non => cases (show u = Value.none from ru); exact PySem.W.kia_one PySem.W.kitx_none I.kIn True.intro e (fun z => nomatch z) fun tk => fin_bl (I.tok tk) q rfl
  | @exc a C ea Z =>
    cases (show u = Value.ref a from ru)
    obtain ⟨p, _⟩ := (show ObjOk X.prog X.w H s.heap a (excO a (.ref C)) from I.hok a _ ea)
    exact PySem.W.kia_one (kitx_exc Z) I.kIn p e (fun z => nomatch z) fun tk => fin_bl (I.tok tk) q rfl
theorem cr_isCT (ek : X.K = K) : CallR X (.builtin "isinstance") (fun xs H Q => ∃ x t tp, ∃ (Ds : List Addr) (b : Bool), xs = [x, .ref tp] ∧ Caught K H x t ∧ H tp = some (.tup (Ds.map V.ref)) ∧ PySem.W.kitAny K t (Ds.map Value.ref) = some b ∧ Q (.bl b) H) := by
  subst ek
  intro pins s σ H xs us Q I r h
  obtain ⟨x, t, tp, Ds, b, rfl, ty, ht, e, q⟩ := h
  obtain ⟨u, y, rfl, ru, rt⟩ : ∃ u y, us = [u, y] ∧ RelV x u ∧ RelV (.ref tp) y := by
    cases r with
    | cons r1 r2 => cases r2 with
      | cons r3 r4 => cases r4; exact ⟨_, _, rfl, r1, r3⟩
  cases (show y = Value.ref tp from rt)
  obtain ⟨_, its, rv, o, ho, hc, n, hd⟩ := (show ObjOk X.prog X.w H s.heap tp (.tup (Ds.map V.ref)) from I.hok tp _ ht)
  have hi := valsRefsX rv
  subst hi
  obtain ⟨oc, od, oda, osl⟩ := o
  cases (show oc = _ from hc)
  cases (show oda = _ from hd)
  cases ty with
  | non => cases (show u = Value.none from ru); exact PySem.W.kia_tup PySem.W.kitx_none I.kIn True.intro ho e (fun z => nomatch z) fun tk => fin_bl (I.tok tk) q rfl
  | @exc a C ea Z =>
    cases (show u = Value.ref a from ru)
    obtain ⟨p, _⟩ := (show ObjOk X.prog X.w H s.heap a (excO a (.ref C)) from I.hok a _ ea)
    exact PySem.W.kia_tup (kitx_exc Z) I.kIn p ho e (fun z => nomatch z) fun tk => fin_bl (I.tok tk) q rfl
end
end L2

namespace L2
open PySem PySem.Spec PyProof.Rows

abbrev lamC (qual : Str) (params : Arguments) (body : Expr) (scope : Scope) (cl : List (Str × Addr)) (pm cdv ct : Value) : Obj :=
  { cls := .type "function", data := .func (PySem.W.kla_fn "<lambda>" qual params body scope cl pm cdv ct) }
section
variable {X : Cx} {pins : List (Addr × Obj)} {σ : St} {H : Hp} {s : Shared}
theorem lam_makeC {c P : Addr} {params : Arguments} {body : Expr} {scope : Scope} {pos : Pos} {q : Str} {cl : List (Str × Addr)} {Q : Value → Shared → Prop} (I : Inv X pins σ H s) (hc : X.env.code = .ref c) (C : CodeK X.K c P) (B : BmK X.base X.mg) (hP : H P = some (.lam q))
    (hq : X.env.qual ++ "<lambda>" = q) (hcl : closureFor scope X.env = pure cl) (hdef : defaultsOf params X.env = ([], []))
    (h : ∀ (f : Addr) (cdv ct pm : Value) (H' : Hp) (h' : Heap) (tk : Nat), Same H H' → Inv X pins σ H' { s with heap := h', toks := tk } → h'.get? f = some (lamC q params body scope cl pm cdv ct) → s.heap.objs.size ≤ f → H' f = none →
      (∃ (c : Addr) (o : Obj) (vs : Array Value) (t : Tok), cdv = .ref c ∧ H' c = some (.cod o) ∧ o.data = .fields vs ∧ vs[1]? = some (.str q t)) → Q (.ref f) { s with heap := h', toks := tk }) :
    wpAny (model X.prog X.w) X.A (eval (.Lambda params body scope pos) X.env) Q X.xe s := by
  subst hq
  obtain ⟨more, hT, tr, ents⟩ := I.hok P _ hP
  have hg := I.ok.mod.glob.keeps I.bk
  have CH := C.hd I.kIn
  have hgP : mainGlobals ≠ P := fun z => by
    obtain ⟨o, es, ep, e, hd, _⟩ := hg
    rw [z, hT] at e; cases e; cases hd
  have hb : s.heap.BuiltinsAt X.mg P := by
    obtain ⟨bm, ob, b1, b2, b3, b4, b5, b6⟩ := B.ex
    refine ⟨bm, ob, b1, b2, fun z => ?_, fun z => ?_, I.bk _ _ b3, b4, b5, b6⟩
    · obtain ⟨o, es, ep, e, hd, _⟩ := hg
      rw [← z, I.bk _ _ b3] at e; cases e; rw [b6] at hd; cases hd
    · have e := I.bk _ _ b3
      rw [z, hT] at e; cases e; cases b4
  refine PySem.W.kla_eval hdef ?_
  cases hf : codeAmong pos more.toList with
  | some cv =>
    refine PySem.W.kla_makeFunctionHit (mg := X.mg) hcl I.ok.glob hg hc CH hT tr hf hb fun ctv h' tk hk hsz => ?_
    obtain ⟨c0, o, vs, t, rfl, e2, e3, e4⟩ := ents pos cv hf
    refine h h'.objs.size (.ref c0) ctv _ H _ tk (fun _ _ e => e) (I.kept fun b u e => Heap.get?_push_of_some _ (hk b u e)) (Heap.get?_push_size _ rfl) hsz (I.hok.fresh hsz) ⟨c0, o, vs, t, rfl, e2, e3, e4⟩
  | none =>
    refine PySem.W.kla_makeFunction (mg := X.mg) hcl I.ok.glob hg hc CH hT tr hf hgP hb fun c' ctv h' tk hx hge hlt hrec htb => ?_
    obtain ⟨c2, oc, vs, t, e2, hoc, hd, hv⟩ := hrec
    cases e2
    have hcn : H c' = none := I.hok.fresh hge
    have nP : c' ≠ P := (ne_of_none hP hcn).symm
    have sz : s.heap.objs.size ≤ h'.objs.size := Nat.le_trans hge (Nat.le_of_lt hlt)
    have kp : ∀ b u, b ≠ P → s.heap.get? b = some u → (h'.push (lamC (X.env.qual ++ "<lambda>") params body scope cl ((X.mg "__name__").getD .none) (.ref c') ctv)).get? b = some u := fun b u hb e => Heap.get?_push_of_some _ (hx b u hb e)
    have hP2 := Heap.get?_push_of_some (lamC (X.env.qual ++ "<lambda>") params body scope cl ((X.mg "__name__").getD .none) (.ref c') ctv) htb
    have sm : Same H (upd H c' (.cod oc)) := Same.upd hcn
    have ltb : ∀ {b : Addr} {u : Obj}, s.heap.get? b = some u → b ≠ c' := fun {b u} e => Nat.ne_of_lt (Nat.lt_of_lt_of_le (Heap.lt_size e) hge)
    have hok : HOk X.prog X.w (upd H c' (.cod oc)) (h'.push (lamC (X.env.qual ++ "<lambda>") params body scope cl ((X.mg "__name__").getD .none) (.ref c') ctv)) := fun b u e => by
      by_cases hbc : b = c'
      · subst hbc
        rw [upd_same] at e; cases e
        exact Heap.get?_push_of_some _ hoc
      · rw [upd_ne hbc] at e
        by_cases hbP : b = P
        · subst hbP
          rw [hP] at e; cases e
          refine ⟨_, hP2, ?_, fun pos' cv hcv => ?_⟩
          · simpa using TriplesOk_snoc pos.line pos.col (.ref c') more.toList tr
          · have hcv' : codeAmong pos' (more.toList ++ [rawInt pos.line, rawInt pos.col, .ref c']) = some cv := by simpa using hcv
            rcases codeAmong_more _ tr hcv' with z | z
            · obtain ⟨c0, o, vs0, t0, e1, e2, r⟩ := ents pos' cv z
              exact ⟨c0, o, vs0, t0, e1, sm _ _ e2, r⟩
            · exact ⟨c', oc, vs, t, z, upd_same, hd, hv⟩
        · refine (I.hok b u e).stay (fun d v hd' q => kp d v (fun z => ?_) q) (fun d q => sm _ _ q) fun d v _ q => sm _ _ q
          rcases hd' with hd' | hd'
          · exact hbP (hd'.symm.trans z)
          · rw [z, hP] at hd'; cases hd'
    have un : Un X.fs [] H (upd H c' (.cod oc)) s.heap (h'.push (lamC (X.env.qual ++ "<lambda>") params body scope cl ((X.mg "__name__").getD .none) (.ref c') ctv)) := by
      have nb : ∀ b, H b = none → b ≠ P := fun b n z => by rw [z, hP] at n; cases n
      refine ⟨fun b u e n _ _ => kp b u (nb b n) e, fun b u e n _ _ => ⟨u.slots, kp b u (nb b n) e⟩, fun b u e n _ => by rw [upd_ne (ltb e)]; exact n, fun b u e _ => ?_, fun b xs e => sm _ _ e, fun b o x e => sm _ _ e, fun b ps e => ⟨#[], by rw [sm _ _ e]; simp⟩⟩
      by_cases hb : b = P
      · subst hb; exact ⟨_, hP2⟩
      · exact ⟨u, kp b u hb e⟩
    refine h h'.objs.size (.ref c') ctv _ _ _ tk sm (I.un (t' := tk) un hok) (Heap.get?_push_size _ rfl) sz ?_ ⟨c', oc, vs, t, rfl, upd_same, hd, hv⟩
    rw [upd_ne (Nat.ne_of_gt hlt)]
    exact I.hok.fresh sz
end

def cxL (CX : CXT) (P : Program) (w : World) (K : PySem.W.Frag) (mg : Str → Option Value) (base : Heap) (N : List Str) (qual : Str) (scope : Scope) (f : Addr) (cd : Value) (cl : List (Str × Addr)) (A : Around) (outer : List Env) (s : Shared) (H : Hp) (E : XK) : Cx where
  prog := P
  w := w
  K := K
  mg := mg
  base := base
  A := A.deeper (PySem.W.envX qual scope s.heap.objs.size f cd cl)
  N := N
  s_0 := s
  H_0 := H
  env := PySem.W.envX qual scope s.heap.objs.size f cd cl
  outer := outer
  stack := PySem.W.envX qual scope s.heap.objs.size f cd cl :: outer
  ex := []
  calm := true
  fn := fun _ => false
  pn := []
  xe := fun e s' => wpAny (model P w) (A.deeper (PySem.W.envX qual scope s.heap.objs.size f cd cl)) (leaving (PySem.W.envX qual scope s.heap.objs.size f cd cl) e) (fun _ s'' => CX outer H s E e s'') (fun e' s'' => CX outer H s E e' s'') s'
structure CloOk (scope : Scope) (N : List Str) (vs : List V) (cl : List (Str × Addr)) (h : Heap) (H : Hp) : Prop where
  inj : ∀ x y c, cl.lookup x = some c → cl.lookup y = some c → x = y
  cell : ∀ x c, cl.lookup x = some c → (∃ v, h.IsCell c v) ∧ H c = none
  val : ∀ (i : Nat) (x : Str) (v : V), N[i]? = some x → vs[i]? = some v → scope.names.lookup x = some .free ∧ ∃ c u, cl.lookup x = some c ∧ RelV v u ∧ h.IsCell c (some u)
  len : vs.length = N.length
  has : ∀ x, scope.names.lookup x = some .free → ∃ c, cl.lookup x = some c
structure LamScope (scope : Scope) : Prop where
  kind : scope.kind = .function
  co : scope.isCoroutine = false
  gen : scope.isGenerator = false
  nocell : ∀ x ∈ scope.names, x.2 ≠ .cell

section
variable {P : Program} {w : World} {K : PySem.W.Frag} {mg : Str → Option Value} {base : Heap} {N : List Str} {qual : Str} {scope : Scope} {f : Addr} {cd : Value} {cl : List (Str × Addr)} {A : Around} {outer : List Env} {s : Shared} {H : Hp} {E : XK}
theorem passesL : Passes (CXE P w) (cxL (CXE P w) P w K mg base N qual scope f cd cl A outer s H E) E := by
  intro pins σ H1 s1 e s' I hq
  obtain ⟨ae, cls, H', B, a0, rfl, F, x, hE⟩ := hq
  have nL : ∀ b o, s.heap.get? b = some o → b ∉ frs outer → b ∉ frs (PySem.W.envX qual scope s.heap.objs.size f cd cl :: outer) := fun b o e hb z => by
    rcases List.mem_cons.mp (I.stkSub b z) with q | q
    · exact absurd q (Nat.ne_of_lt (Nat.lt_of_lt_of_le (Heap.lt_size e) I.ok.above))
    · exact hb q
  have noex : ∀ b : Addr, b ∉ (cxL (CXE P w) P w K mg base N qual scope f cd cl A outer s H E).ex := fun b z => absurd (show b ∈ ([] : List Addr) from z) (by simp)
  have sub : ∀ b ∈ frs outer, b ∈ frs (PySem.W.envX qual scope s.heap.objs.size f cd cl :: outer) := fun b hb => by
    obtain ⟨env, h1, h2⟩ := List.mem_filterMap.mp hb
    exact frs_mem (List.mem_cons_of_mem _ h1) h2
  refine wpAny_leaves_onW (L := s.heap.objs.size) I.ok.frames rfl x fun h2 x1 x2 => ?_
  have F2 := F.move x1.1 x2
  refine ⟨ae, cls, H', B, a0, rfl, ⟨F2.os.trans I.os, F2.bare, F2.stays, F2.hok, fun b o e n hb => ?_, fun b o e hb => ?_, fun b o e n hb => ?_, fun b hb => F2.nf b (sub b hb), fun b o e n => ?_, fun b xs e => F2.tups b xs (I.base.tups b xs e), fun b o u e => F2.frzs b o u (I.base.frzs b o u e), fun b ps e => ?_⟩, x1, hE⟩
  · exact F2.keep b o (I.base.keep b o e n hb (noex b)) (I.base.free b o e n (noex b)) (nL b o e hb)
  · obtain ⟨o', q⟩ := I.base.there b o e (noex b)
    exact F2.there b o' q (nL b o e hb)
  · obtain ⟨sl, q⟩ := I.base.slot b o e n hb (noex b)
    obtain ⟨sl2, q2⟩ := F2.slot b _ q (I.base.free b o e n (noex b)) (sub b hb)
    exact ⟨sl2, q2⟩
  · obtain ⟨o', q⟩ := I.base.there b o e (noex b)
    exact F2.free b o' q (I.base.free b o e n (noex b))
  · obtain ⟨m1, q1⟩ := I.base.tbls b ps e
    obtain ⟨m2, q2⟩ := F2.tbls b _ q1
    exact ⟨m1 ++ m2, by rw [q2, Array.append_assoc]⟩

theorem inv_startL {CX : CXT} {h1 : Heap} {tk : Nat} {vs : List V} (S : LamScope scope) (hd : A.handled = none) (e0 : Env0 P w K mg base A outer s H) (C : CloOk scope N vs cl s.heap H)
    (hns : h1.Ns s.heap.objs.size (fun _ => none)) (hk : ∀ b o, s.heap.get? b = some o → h1.get? b = some o) :
    Inv (cxL CX P w K mg base N qual scope f cd cl A outer s H E) [] (vs.map some) H { s with heap := h1, toks := tk } := by
  have noA : ∀ b : Addr, b ∉ (cxL CX P w K mg base N qual scope f cd cl A outer s H E).ex := fun b z => absurd (show b ∈ ([] : List Addr) from z) (by simp)
  have ck : ∀ {c : Addr} {v : Option Value}, s.heap.IsCell c v → h1.IsCell c v := fun {c v} ⟨o, ho, hd⟩ => ⟨o, hk _ _ ho, hd⟩
  refine ⟨⟨e0.mod, S.kind, rfl, rfl, Nat.le_refl _, fun y z c h1 h2 => C.inj y z c h1 h2, fun y hy => ?_, fun y c z _ => absurd (show false = true from z) (by decide), fun _ => hd, Around.frames_deeper e0.frames, .inr ⟨rfl, rfl⟩, fun b z => absurd z (noA b), e0.bs, e0.bsz, fun b _ _ => noA b, fun b z => absurd z (noA b), e0.funs, e0.frf⟩,
    rfl, e0.bare, Un.kept hk, ⟨_, hns, fun i y v h1 h2 h3 => ?_⟩, fun y c h => ?_, e0.hok.fresh (Nat.le_refl _), fun y c h => (C.cell y c h).2, fun p hp => absurd (show p ∈ ([] : List (Addr × Obj)) from hp) (by simp), e0.hok.kept hk, ?_⟩
  · have hy : scope.names.lookup y = some .cell ∨ scope.names.lookup y = some .free := hy
    rcases hy with hy | hy
    · exact absurd rfl (S.nocell _ (PySem.mem_of_lookup hy))
    · exact C.has y hy
  · rw [List.getElem?_map] at h2
    obtain ⟨v', hv, e⟩ := Option.map_eq_some_iff.mp h2
    cases e
    obtain ⟨kf, c, u, e1, e2, e3⟩ := C.val i y v h1 hv
    exact ⟨u, e2, .inr ⟨.inr kf, c, e1, ck e3⟩⟩
  · obtain ⟨⟨v, z⟩, _⟩ := C.cell y c h
    exact ⟨v, ck z⟩
  · show (vs.map some).length = N.length
    rw [List.length_map]; exact C.len
end
theorem lam_runL {P : Program} {w : World} {K : PySem.W.Frag} {mg : Str → Option Value} {base : Heap} {k : Nat} {f : Addr} {qual : Str} {params : Arguments} {body : Expr} {scope : Scope} {cl : List (Str × Addr)} {pm cdv ct : Value} {N : List Str} {tb : XK → TE} {vs : List V}
    (S : LamScope scope) (hbind : bindArgs (PySem.W.kla_fn "<lambda>" qual params body scope cl pm cdv ct) ⟨[], []⟩ = pure [])
    (hbody : ∀ (A : Around) (outer : List Env) (s : Shared) (H : Hp) (E : XK), Room k (A.deeper (PySem.W.envX qual scope s.heap.objs.size f cdv cl)) → PE (cxL (CXE P w) P w K mg base N qual scope f cdv cl A outer s H E) body (tb E))
    {A : Around} {outer : List Env} {s : Shared} {H : Hp} {Q : VK} {E : XK} (hr : Room (k + 1) A) (e0 : Env0 P w K mg base A outer s H) (C : CloOk scope N vs cl s.heap H)
    (ho : s.heap.get? f = some (lamC qual params body scope cl pm cdv ct)) (hcd : s.heap.CodeRec cdv qual) (hsp : tb E (vs.map some) H Q) :
    codeAny (model P w) A (.call (.ref f) ⟨[], []⟩) (CR (CXE P w) outer P w H s Q E) s := by
  have lim : s.heap.NoLimit := e0.mod.nolimit.keeps fun b o e => (e0.bs b o e).1
  refine PySem.W.kla_callFunE hr.depth ho rfl S.co S.gen rfl hcd ?_
  rw [hbind]
  refine wpAny_pure (wpAny_newFunctionEnv S.nocell (by intro y hy; simp at hy) (fun h1 hns hsb => ⟨lim.fresh _ hsb, ?_⟩) S.kind)
  have hk : ∀ b o, s.heap.get? b = some o → h1.get? b = some o := fun b o e => hsb.extBut b o (Nat.ne_of_lt (Heap.lt_size e)) (Heap.get?_push_of_some _ e)
  refine PySem.W.kla_codeExpr ?_
  have I := inv_startL (CX := CXE P w) (qual := qual) (f := f) (cd := cdv) (E := E) (tk := s.toks + ([] : List (Str × Value)).length) S hr.hd e0 C hns hk
  refine wpAny_mono (hbody A outer s H E (hr.deeper _) [] _ _ H Q I hsp) (fun u s' hs => ?_) fun e s' hs => hs
  obtain ⟨v, H', J, rv, q⟩ := hs
  exact ⟨v, H', J.os, J.bare, J.base, J.hok, rv, q⟩

structure Clo (P : Program) (w : World) (K : PySem.W.Frag) (mg : Str → Option Value) (base : Heap) (k : Nat) (outer0 : List Env) (s0 : Shared) (H0 : Hp) (f : Addr) (spc : VK → XK → Hp → Prop) : Prop where
  fn : ∃ oc od fd sl, s0.heap.get? f = some ⟨oc, od, .func fd, sl⟩
  nf : H0 f = none
  ff : f ∉ frs outer0
  run : ∀ (A : Around) (outer : List Env) (s : Shared) (H : Hp) (Q : VK) (E : XK), Same H0 H → (∀ b o, s0.heap.get? b = some o → H0 b = none → b ∉ frs outer0 → s.heap.get? b = some o ∧ H b = none) → Room k A → Env0 P w K mg base A outer s H → spc Q E H →
    codeAny (model P w) A (.call (.ref f) ⟨[], []⟩) (CR (CXE P w) outer P w H s Q E) s
def tCloX (H0 : Hp) (f : Addr) (spc : VK → XK → Hp → Prop) (tv : TE) : TXE := fun Z σ H Q => tv σ H fun v H1 => v = .ref f ∧ Same H0 H1 ∧ spc Q (fun cls _ H2 => Z cls σ H2) H1
section
variable {X : Cx} {k : Nat} {f : Addr} {spc : VK → XK → Hp → Prop} {x : Str} {p pos : Pos} {tv : TE}
theorem pxe_clo (C : Clo X.prog X.w X.K X.mg X.base k X.outer X.s_0 X.H_0 f spc) (hr : Room k X.A) (hex : X.ex = []) (hv : PE X.nox (.Name x p) tv) : PXE X (.Call (.Name x p) [] [] pos) (tCloX X.H_0 f spc tv) := by
  intro pins s σ H Q Z I h
  refine wpAny_Call_Name_kw (thn (wpAny_mono (hv pins s σ H _ (I.wish _) h) (fun _ _ q => q) fun _ _ z => False.elim z) fun u s1 ⟨v, H1, I1, r1, ev, sm, q1⟩ => ?_)
  subst ev
  obtain rfl : u = Value.ref f := r1
  replace I1 := I1.unwish
  have noex : ∀ b : Addr, b ∉ X.ex := fun b z => by rw [hex] at z; cases z
  have kept : ∀ b o, X.s_0.heap.get? b = some o → X.H_0 b = none → b ∉ frs X.outer → s1.heap.get? b = some o ∧ H1 b = none := fun b o e n hb => ⟨I1.base.keep b o e n hb (noex b), I1.base.free b o e n (noex b)⟩
  obtain ⟨oc, od, fd, sl, e⟩ := C.fn
  refine PySem.W.callWith_F0 ⟨oc, od, fd, sl, (kept _ _ e C.nf C.ff).1⟩ (wpAny_call (codeAny_mono (C.run X.A X.stack s1 H1 Q _ sm kept hr I1.env0 q1) fun r s' hq => ?_))
  cases r with
  | error e =>
    obtain ⟨ae, cls, H', B, a0, rfl, F, x, hE⟩ := hq
    exact ⟨ae, cls, σ, H', rfl, ⟨H1, s1, B, a0, I1, F, x⟩, hE⟩
  | ok fl =>
    cases fl with
    | ret u => exact I1.after hq
    | next => exact False.elim hq
    | brk => exact False.elim hq
    | cont => exact False.elim hq
end
end L2

namespace L2
open PySem PySem.Spec PyProof.Rows

structure RunS (P : Program) (w : World) (K : PySem.W.Frag) (mg : Str → Option Value) (base : Heap) (CX : CXT) (k : Nat) (f : Addr) (fd : FuncData) (ps : List Str) (sp : List Env → Shared → Sp) : Prop where
  len : ∀ outer s vs H Q E, sp outer s vs H Q E → vs.length = ps.length
  run : ∀ (A : Around) (outer : List Env) (s : Shared) (H : Hp) (args : Args) (us : List Value) (vs : List V) (Q : VK) (E : XK), Room k A → Env0 P w K mg base A outer s H → BindsTo s fd args (ps.zip us) → Vals vs us → sp outer s vs H Q E →
    codeAny (model P w) A (.call (.ref f) args) (CR CX outer P w H s Q E) s
theorem fn_ofS {CX : CXT} {P : Program} {w : World} {K : PySem.W.Frag} {mg : Str → Option Value} {base : Heap} {k : Nat} {f : Addr} {name qual : Str} {params : Arguments} {body : List Stmt} {scope : Scope} {dV kV doc pm cdv ct oc : Value} {an od : Option Addr}
    {osl : Array (Option Value)} {N ps : List Str} {sp : List Env → Shared → Sp} (lk : K.lookup f = some ⟨oc, od, .func (PySem.W.fnOf name qual params body scope dV kV doc pm an cdv ct), osl⟩) (hcd : PySem.W.codeIn K cdv qual = true) (S : FnScope N ps scope)
    (len : ∀ outer s vs H Q E, sp outer s vs H Q E → vs.length = ps.length)
    (hbody : ∀ (A : Around) (outer : List Env) (s : Shared) (H : Hp) (vs : List V) (Q : VK) (E : XK), Room k (A.deeper (envOfC qual scope s.heap.objs.size f cdv)) → sp outer s vs H Q E →
      ∃ t, PSs (cxOf CX P w K mg base N qual scope f cdv A outer s H E) body t ∧ t { nx := fun _ H' => Q .non H', rt := Q } (start N vs) H) :
    RunS P w K mg base CX (k + 1) f (PySem.W.fnOf name qual params body scope dV kV doc pm an cdv ct) ps sp := by
  refine ⟨len, fun A outer s H args us vs Q E hr e0 hb r hsp => ?_⟩
  have hl := len _ _ _ _ _ _ hsp
  have KX : K.In s.heap := e0.mod.kin.keeps fun b o e => (e0.bs b o e).1
  have lim : s.heap.NoLimit := e0.mod.nolimit.keeps fun b o e => (e0.bs b o e).1
  have hkind : ∀ y ∈ ps.zip us, scope.names.lookup y.1 = some .local ∨ (scope.names.lookup y.1 = some .cell ∧ ((cellsFrom (s.heap.objs.size + 1) scope.names []).lookup y.1).isSome = true) := fun ⟨n, v⟩ hy => by
    rcases S.par n (List.of_mem_zip hy).1 with q | q
    · exact .inl q
    · exact .inr ⟨q, PySem.W.cellsFrom_some _ _ _ (.inl q)⟩
  refine codeAny_call_function hr.depth (KX _ _ lk) rfl S.co S.gen rfl (PySem.W.codeRec_of KX hcd) (hb _ _ _ _ ?_)
  refine wpAny_newFunctionEnv_cells S.kind hkind fun env he s1 x => ?_
  subst he
  refine ⟨lim.keeps x.toInCall.keep, codeAny_func ?_⟩
  obtain ⟨t, ht, hq⟩ := hbody A outer s H vs Q E (hr.deeper _) hsp
  have I : Inv (cxOf CX P w K mg base N qual scope f cdv A outer s H E) [] (start N vs) H s1 := inv_start S hr.hd e0 hl r x
  refine wpAny_mono (ht [] s1 (start N vs) H _ I hq) (fun fl s' hs => ?_) fun e s' hs => hs
  have fin : ∀ {σ' : St} {H' : Hp} {v : V} {u : Value}, Inv (cxOf CX P w K mg base N qual scope f cdv A outer s H E) [] σ' H' s' → RelV v u → Q v H' → CE outer P w H s Q u s' :=
    fun {σ' H' v u} J rv q => ⟨v, H', J.os, J.bare, J.base, J.hok, rv, q⟩
  cases fl with
  | ret u =>
    obtain ⟨v, σ', H', J, rv, q⟩ := hs
    exact fin J rv q
  | next =>
    obtain ⟨σ', H', J, q⟩ := hs
    exact fin (v := V.non) (u := Value.none) J rfl q
  | brk =>
    obtain ⟨_, _, _, q⟩ := hs
    exact False.elim q
  | cont =>
    obtain ⟨_, _, _, q⟩ := hs
    exact False.elim q
section
variable {P : Program} {w : World} {K : PySem.W.Frag} {mg : Str → Option Value} {base : Heap}
theorem FunC.okS {x qual : Str} {st : Stmt} {f c : Addr} {fd : FuncData} {N ps : List Str} {k : Nat} {sp : List Env → Shared → Sp} (F : FunC K x qual st f fd c) (S : FnScope N ps (defScope st)) (len : ∀ outer s vs H Q E, sp outer s vs H Q E → vs.length = ps.length)
    (hbody : ∀ (A : Around) (outer : List Env) (s : Shared) (H : Hp) (vs : List V) (Q : VK) (E : XK), Room k (A.deeper (envOfC qual (defScope st) s.heap.objs.size f (.ref c))) → sp outer s vs H Q E →
      ∃ t, PSs (cxOf CX0 P w K mg base N qual (defScope st) f (.ref c) A outer s H E).nox (defBody st) t ∧ t { nx := fun _ H' => Q .non H', rt := Q } (start N vs) H) : RunS P w K mg base CX0 (k + 1) f fd ps sp := by
  obtain ⟨oc, od, kV, doc, pm, an, ct, osl, rfl, lk, hcd⟩ := F.ex
  refine fn_ofS lk hcd S len fun A outer s H vs Q E hr hsp => ?_
  obtain ⟨t, h, q⟩ := hbody A outer s H vs Q E hr hsp
  exact ⟨t, h.nox, q⟩
theorem FunC.okX {x qual : Str} {st : Stmt} {f c : Addr} {fd : FuncData} {N ps : List Str} {k : Nat} {sp : Sp} (F : FunC K x qual st f fd c) (S : FnScope N ps (defScope st)) (len : ∀ vs H Q E, sp vs H Q E → vs.length = ps.length)
    (hbody : ∀ (A : Around) (outer : List Env) (s : Shared) (H : Hp) (vs : List V) (Q : VK) (E : XK), Room k (A.deeper (envOfC qual (defScope st) s.heap.objs.size f (.ref c))) → sp vs H Q E →
      ∃ t, PSs (cxOf (CXE P w) P w K mg base N qual (defScope st) f (.ref c) A outer s H E) (defBody st) t ∧ t { nx := fun _ H' => Q .non H', rt := Q } (start N vs) H) : FnOk P w K mg base (CXE P w) (k + 1) f fd ps sp := by
  obtain ⟨oc, od, kV, doc, pm, an, ct, osl, rfl, lk, hcd⟩ := F.ex
  exact fn_of lk hcd S len hbody
structure CalX (P : Program) (w : World) (K : PySem.W.Frag) (mg : Str → Option Value) (base : Heap) (k : Nat) (x : Str) (ps : List Str) (sp : Sp) : Prop where
  ex : ∃ (f : Addr) (fd : FuncData), FnOk P w K mg base (CXE P w) k f fd ps sp ∧ mg x = some (.ref f) ∧ PySem.W.keepIn K (.ref f) = true ∧ Binds K fd ps []
structure CalS (P : Program) (w : World) (K : PySem.W.Frag) (mg : Str → Option Value) (base : Heap) (k : Nat) (x : Str) (ps : List Str) (sp : List Env → Shared → Sp) : Prop where
  ex : ∃ (f : Addr) (fd : FuncData), RunS P w K mg base CX0 k f fd ps sp ∧ mg x = some (.ref f) ∧ PySem.W.keepIn K (.ref f) = true ∧ Binds K fd ps []
end
section
variable {X : Cx} {k : Nat} {ps : List Str} {sp : Sp} {E : XK} {x : Str} {p pos : Pos} {e : Expr} {es : List Expr} {t : TA}
theorem pe_calX (C : CalX X.prog X.w X.K X.mg X.base k x ps sp) (hr : Room k X.A) (hx : Passes (CXE X.prog X.w) X E) (ha : PA X (e :: es) t) (hg : Gl X x := by rfl) (hdb : (x == ("__debug__" : Str)) = false := by decide)
    (he : starEach (e :: es) X.env = (false, eval e X.env) :: starEach es X.env := by rfl) (hpl : (backTo pos (starEach es X.env)).any (·.1) = false := by rfl) : PE X (.Call (.Name x p) (e :: es) [] pos) (tCall sp [] E t) := by
  obtain ⟨f, fd, a, b, c, d⟩ := C.ex
  exact pe_call a hr hg b c d .nil hx ha hdb he hpl
end
structure LamOwn (N : List Str) (sc scope : Scope) (own : List Nat) (Nl : List Str) : Prop where
  ix : own.map (fun i => N[i]?) = Nl.map some
  cell : ∀ x ∈ Nl, sc.names.lookup x = some .cell
  free : ∀ x ∈ Nl, scope.names.lookup x = some .free
  all : ∀ p ∈ scope.names, p.2 = .free → p.1 ∈ Nl
def tTold (P : Program) (w : World) (K : PySem.W.Frag) (mg : Str → Option Value) (base : Heap) (kc : Nat) (sp : List Env → Shared → Sp) (Pt : Addr) (q : Str) (own : List Nat) (tb : XK → TE) : TE := fun σ H Q => H Pt = some (.lam q) ∧ ∃ vs : List V, own.map (fun i => σ[i]?) = vs.map (fun v => some (some v)) ∧
  ∀ (f : Addr) (H1 : Hp) (outer : List Env) (s : Shared), Same H H1 → H f = none → H1 f = none → Clo P w K mg base kc outer s H1 f (fun Q' E' H' => tb E' (vs.map some) H' Q') → sp outer s [.ref f] H1 Q E0
section
variable {X : Cx} {k kc : Nat} {pn : Str} {sp : List Env → Shared → Sp} {x q : Str} {p pos lpos : Pos} {c Pt : Addr} {params : Arguments} {body : Expr} {scope : Scope} {own : List Nat} {Nl : List Str} {tb : XK → TE}
theorem pe_told (G : CalS X.prog X.w X.K X.mg X.base k x [pn] sp) (hr : Room k X.A) (hc : X.env.code = .ref c) (C : CodeK X.K c Pt) (B : BmK X.base X.mg) (hq : X.env.qual ++ "<lambda>" = q) (hdef : defaultsOf params X.env = ([], [])) (S : LamScope scope)
    (hbind : ∀ cl pm cdv ct, bindArgs (PySem.W.kla_fn "<lambda>" q params body scope cl pm cdv ct) ⟨[], []⟩ = pure []) (hfn : ∀ y, X.fn y = true) (L : LamOwn X.N X.env.scope scope own Nl)
    (hbody : ∀ (f : Addr) (cdv : Value) (cl : List (Str × Addr)) (A : Around) (outer : List Env) (s : Shared) (H : Hp) (E : XK), Room kc (A.deeper (PySem.W.envX q scope s.heap.objs.size f cdv cl)) → PE (cxL (CXE X.prog X.w) X.prog X.w X.K X.mg X.base Nl q scope f cdv cl A outer s H E) body (tb E))
    (hg : Gl X x := by rfl) (hdb : (x == ("__debug__" : Str)) = false := by decide) (he : starEach [.Lambda params body scope lpos] X.env = [(false, eval (.Lambda params body scope lpos) X.env)] := by rfl) :
    PE X (.Call (.Name x p) [.Lambda params body scope lpos] [] pos) (tTold X.prog X.w X.K X.mg X.base (kc + 1) sp Pt q own tb) := by
  obtain ⟨ft, fd, F, hm, hk, hb⟩ := G.ex
  intro pins s σ H Q I ⟨hP, vs, hvs, h⟩
  refine wpAny_Call_Name_kw (ld_glob I hg hm ?_ hdb)
  refine PySem.W.callWith_K (h₀ := X.base) I.ok.mod.kin hk ?_ (by rw [he]; rfl) rfl
  rw [he]
  show wpAny _ _ (spliced ((false, eval (.Lambda params body scope lpos) X.env) :: backTo pos (starEach [] X.env))) _ _ s
  have fc : ∀ y, scope.names.lookup y = some .free → X.env.scope.names.lookup y = some .cell := fun y hy => L.cell y (L.all _ (PySem.mem_of_lookup hy) rfl)
  have hasC : ∀ y, (y, NameKind.free) ∈ scope.names → ∃ c, X.env.cells.lookup y = some c := fun y hy => I.ok.has y (.inl (L.cell y (L.all _ hy rfl)))
  refine Calls.spliced_cons (lam_makeC I hc C B hP hq (closure_ok fun y hy e => hasC y.1 (by rw [← e]; exact hy)) hdef fun f cdv ct pm H1 h1 tk sm I1 ho hge hf hcod => ?_)
  have hml : ∀ {y : Str} {c : Addr}, (y, c) ∈ cloFrom X.env.cells scope.names [] → X.env.cells.lookup y = some c := fun {y c} hm => by
    rcases cloFrom_mem hm with hm | ⟨h1, e⟩
    · cases hm
    · obtain ⟨c', e'⟩ := hasC y h1
      rw [e'] at e
      rw [e']; exact congrArg some e.symm
  have nfs : ∀ {b : Addr}, X.s_0.heap.objs.size ≤ b → b ≠ X.env.locals → b ∉ frs X.stack := fun {b} hb hl hm => by
    rcases List.mem_cons.mp (I1.stkSub b hm) with e | e
    · exact hl e
    · obtain ⟨_, o, ho, _⟩ := I1.ok.funs.mem e
      exact absurd (Heap.lt_size ho) (Nat.not_lt.mpr hb)
  have ff : f ∉ frs X.stack := nfs (Nat.le_trans I.sz hge) (Nat.ne_of_gt (Nat.lt_of_lt_of_le I.lt hge))
  have clo : Clo X.prog X.w X.K X.mg X.base (kc + 1) X.stack { s with heap := h1, toks := tk } H1 f (fun Q' E' H' => tb E' (vs.map some) H' Q') := by
    refine ⟨⟨_, _, _, _, ho⟩, hf, ff, fun A outer s2 H2 Q2 E2 sm2 kept hr2 e0 hsp => ?_⟩
    obtain ⟨c0, o, ws, t, rfl, hc1, hd, hv⟩ := hcod
    have hcr : s2.heap.CodeRec (.ref c0) q := ⟨c0, o, ws, t, rfl, e0.hok c0 _ (sm2 _ _ hc1), hd, hv⟩
    have hcell : ∀ {y : Str} {c : Addr} {v : Option Value}, X.env.cells.lookup y = some c → Heap.IsCell h1 c v → s2.heap.IsCell c v ∧ H2 c = none := fun {y c v} e ⟨oc, hoc, hdc⟩ => by
      obtain ⟨a1, a2⟩ := kept c oc hoc (I1.freeC y c e) (nfs (I1.ok.cab y c (hfn y) e) (I1.cne y c e))
      exact ⟨⟨oc, a1, hdc⟩, a2⟩
    have lk : ∀ {y : Str}, scope.names.lookup y = some .free → ∃ c, (cloFrom X.env.cells scope.names []).lookup y = some c := fun {y} hy => mem_lookup (cloFrom_has (cells := X.env.cells) (acc := []) (PySem.mem_of_lookup hy))
    refine lam_runL S (hbind _ _ _ _) (fun A outer s H E hr => hbody f (.ref c0) _ A outer s H E hr) hr2 e0 ⟨fun y z c e1 e2 => ?_, fun y c e => ?_, fun i y v e1 e2 => ?_, ?_, fun y hy => lk hy⟩ (kept f _ ho hf ff).1 hcr hsp
    · exact I1.ok.inj y z c (hml (PySem.mem_of_lookup e1)) (hml (PySem.mem_of_lookup e2))
    · have e' := hml (PySem.mem_of_lookup e)
      obtain ⟨v, z⟩ := I1.cell y c e'
      obtain ⟨a1, a2⟩ := hcell e' z
      exact ⟨⟨v, a1⟩, a2⟩
    · have hy := L.free y (List.mem_of_getElem? e1)
      obtain ⟨c, ec⟩ := lk hy
      have ec' := hml (PySem.mem_of_lookup ec)
      have h0 := congrArg (fun l => l[i]?) hvs
      simp only [List.getElem?_map, e2, Option.map_some] at h0
      obtain ⟨j, hj, hjv⟩ := Option.map_eq_some_iff.mp h0
      have h3 := congrArg (fun l => l[i]?) L.ix
      simp only [List.getElem?_map, e1, hj, Option.map_some] at h3
      injection h3 with h3
      obtain ⟨m, ns, hl⟩ := I1.loc
      obtain ⟨u, rv, lo⟩ := hl j y v h3 hjv (.inr (.inl (fc y hy)))
      rcases lo with ⟨kl, _⟩ | ⟨_, c2, ec2, hz⟩
      · have kl' : X.env.scope.names.lookup y = some .local := kl
        rw [fc y hy] at kl'; cases kl'
      · rw [ec'] at ec2; cases ec2
        exact ⟨hy, c, u, ec, rv, (hcell ec' hz).1⟩
    · have a1 := congrArg List.length hvs
      have a2 := congrArg List.length L.ix
      simp only [List.length_map] at a1 a2
      omega
  refine Calls.spliced_nil ⟨I1.kIn, ?_⟩
  have hq' := h f H1 X.stack { s with heap := h1, toks := tk } sm (I.hok.fresh hge) hf clo
  refine wpAny_call (codeAny_mono (F.run X.A X.stack _ H1 ⟨[.ref f], []⟩ [.ref f] [.ref f] Q E0 hr I1.env0 (hb _ [.ref f] I1.kIn rfl) (.cons rfl .nil) hq') fun r s' hq => ?_)
  cases r with
  | error e => exact pass0 pins σ H1 _ e s' I1 hq
  | ok fl =>
    cases fl with
    | ret u => exact I1.after hq
    | next => exact False.elim hq
    | brk => exact False.elim hq
    | cont => exact False.elim hq
end
end L2

namespace L2
open PySem PySem.Spec PyProof.Rows
section
variable {prog : Program} {w : World} {d : Addr} {o : Obj} {es : Array DictEntry} {ep : Nat}
end
section
variable {X : Cx}
end
section
variable {K : PySem.W.Frag} {a : Addr} {xs : List V} {g g1 : TG} {tt tt1 : TT} {tk tv : TE} {wi1 : TI} {vs vs1 : List Nat} {σ σ2 : St} {H1 H4 : Hp} {D : Addr} {Qd Nx : Hp → Prop}
end
end L2

namespace L2
open PySem PySem.Spec PyProof.Rows
section
variable {X : Cx} {K : PySem.W.Frag}
end
def intsP (c : List Int) : PyData := .list (c.map PyData.int)
theorem eqv_intsP (a b : List Int) : PyData.eqv (intsP a) (intsP b) = decide (a = b) := eqv_ints a b
theorem canLay_intsP (c : List Int) : (intsP c).canLay0 = true := by
  unfold intsP
  simp only [PyData.canLay0, canLay_ints]
theorem canLay_intsPs : ∀ cs : List (List Int), PyData.canLayAll0 (cs.map intsP) = true
  | [] => by simp [PyData.canLayAll0]
  | x :: a => by simp [PyData.canLayAll0, canLay_intsP, canLay_intsPs a]
theorem depth_intsP (c : List Int) : (intsP c).depth ≤ 50 := by
  unfold intsP
  have := depthAll_ints c
  simp only [PyData.depth]; omega
theorem any_intsP (cs : List (List Int)) (c : List Int) : ((cs.map intsP).any fun e => PyData.eqv e (intsP c)) = decide (c ∈ cs) := by
  rw [List.any_map]
  have : ((fun e => PyData.eqv e (intsP c)) ∘ intsP) = fun x => decide (x = c) := by funext x; exact eqv_intsP x c
  rw [this]
  by_cases h : c ∈ cs
  · rw [decide_eq_true h, List.any_eq_true]; exact ⟨c, h, by simp⟩
  · rw [decide_eq_false h, List.any_eq_false]
    intro y hy e
    exact h (by rw [← of_decide_eq_true e]; exact hy)
def LstK (K : PySem.W.Frag) (H : Hp) (zs : List (Addr × List Int)) : Prop := ∀ z ∈ zs, SqL K H z.1 (z.2.map V.int)
theorem LstK.same {K : PySem.W.Frag} {H H' : Hp} {zs : List (Addr × List Int)} (h : LstK K H zs) (s : Same H H') : LstK K H' zs := fun z hz => s.seq (h z hz)
theorem DpAll_lsts {K : PySem.W.Frag} {H : Hp} : ∀ {zs : List (Addr × List Int)}, LstK K H zs → DpAll K H (refs zs) ((zs.map (·.2)).map intsP)
  | [], _ => .nil
  | z :: zs, h => .cons (.lst (h z List.mem_cons_self) (DpAll_ints _)) (DpAll_lsts fun y hy => h y (List.mem_cons_of_mem _ hy))
theorem rInD_lsts {K : PySem.W.Frag} {H : Hp} {neg : Bool} {a p : Addr} {c : List Int} {zs : List (Addr × List Int)} {Q : VK} (ha : SqL K H a (c.map V.int)) (hp : SqL K H p (refs zs)) (ht : LstK K H zs)
    (q : Q (.bl (if neg then !decide (c ∈ zs.map (·.2)) else decide (c ∈ zs.map (·.2)))) H) : rInD K neg (.ref a) (.ref p) H Q :=
  ⟨intsP c, (zs.map (·.2)).map intsP, .lst ha (DpAll_ints _), .inl (.lst hp (DpAll_lsts ht)), canLay_intsPs _, canLay_intsP c, depth_intsP c, by rw [any_intsP]; exact q⟩
end L2

namespace L2
open PySem PySem.Spec PyProof.Rows
structure WordAt (K : PySem.W.Frag) (C : Addr) (cs os : List Addr) (j : Nat) : Prop where
  exc : ExcCls K C
  lt : j < cs.length
  one : ∀ i D, cs[i]? = some D → PySem.W.kitOne K (.ref C) (.ref D) = some (decide (i = j))
  oth : PySem.W.kitAny K (.ref C) (os.map Value.ref) = some false
  ve : PySem.W.kitOne K (.ref C) (.type "ValueError") = some true
theorem pt_truthK {X : Cx} {K : PySem.W.Frag} {a : Expr} {ta : TE} (ek : X.K = K) (ha : PE X a ta) (he : ∀ whole, isTrue a X.env whole = (do let v ← whole; standAt a.pos; holding [v] (truthy v))) : PT X a (fun σ H Q => ta σ H fun x H' => ∃ k, TruV K x H' k ∧ Q k H') := by
  subst ek
  exact pt_truth ha he
theorem ifS_inv {b : Bool} {A : TS} {D : Ends} {σ : St} {H : Hp} (I : St → Hp → Prop) (h : ∀ σ H, I σ H → D.nx σ H) (y : b = true → (∀ σ H, I σ H → D.nx σ H) → A D σ H) (n : b = false → I σ H) : if b = true then A D σ H else tNext D σ H := by
  cases b with
  | true => rw [if_pos rfl]; exact y rfl h
  | false => rw [if_neg (by simp)]; exact h _ _ (n rfl)
theorem cut_upto {l : List V} {k : Nat} : cutV l none (some (k : Int)) = l.take k := by
  unfold cutV
  rw [HT.sIx_none, HT.sIx_nat, List.drop_zero, Nat.sub_zero]
  by_cases h : k ≤ l.length
  · rw [Nat.min_eq_left h]
  · rw [Nat.min_eq_right (by omega), List.take_of_length_le (Nat.le_refl _), List.take_of_length_le (by omega)]
end L2

set_option maxHeartbeats 4000000
namespace L2
open PySem PySem.Spec PyProof.Rows
structure QE (X : Cx) (e : Expr) (t : TE) : Prop where
  run : PE X e t
theorem eq_QE : @QE = @PE := by
  funext x0 x1 x2
  exact propext ⟨fun h => h.run, fun h => ⟨h⟩⟩
structure QT (X : Cx) (e : Expr) (t : TT) : Prop where
  run : PT X e t
theorem eq_QT : @QT = @PT := by
  funext x0 x1 x2
  exact propext ⟨fun h => h.run, fun h => ⟨h⟩⟩
structure QW (X : Cx) (e : Expr) (t : TT) : Prop where
  run : PW X e t
theorem eq_QW : @QW = @PW := by
  funext x0 x1 x2
  exact propext ⟨fun h => h.run, fun h => ⟨h⟩⟩
structure QA (X : Cx) (es : List Expr) (t : TA) : Prop where
  run : PA X es t
theorem eq_QA : @QA = @PA := by
  funext x0 x1 x2
  exact propext ⟨fun h => h.run, fun h => ⟨h⟩⟩
structure QS (X : Cx) (st : Stmt) (t : TS) : Prop where
  run : PS X st t
theorem eq_QS : @QS = @PS := by
  funext x0 x1 x2
  exact propext ⟨fun h => h.run, fun h => ⟨h⟩⟩
structure QSs (X : Cx) (st : List Stmt) (t : TS) : Prop where
  run : PSs X st t
theorem eq_QSs : @QSs = @PSs := by
  funext x0 x1 x2
  exact propext ⟨fun h => h.run, fun h => ⟨h⟩⟩
structure QC (X : Cx) (op : CmpOp) (a b : Expr) (t : TE) : Prop where
  run : PC X op a b t
theorem eq_QC : @QC = @PC := by
  funext x0 x1 x2 x3 x4
  exact propext ⟨fun h => h.run, fun h => ⟨h⟩⟩
structure QG (X : Cx) (target : Expr) (t : TG) : Prop where
  run : PG X target t
theorem eq_QG : @QG = @PG := by
  funext x0 x1 x2
  exact propext ⟨fun h => h.run, fun h => ⟨h⟩⟩
structure QGs (X : Cx) (ts : List Expr) (t : TGs) : Prop where
  run : PGs X ts t
theorem eq_QGs : @QGs = @PGs := by
  funext x0 x1 x2
  exact propext ⟨fun h => h.run, fun h => ⟨h⟩⟩
structure QSet (X : Cx) (t : TSet) : Prop where
  run : PSet X t
theorem eq_QSet : @QSet = @PSet := by
  funext x0 x1
  exact propext ⟨fun h => h.run, fun h => ⟨h⟩⟩
structure QIp (X : Cx) (op : Operator) (t : TIp) : Prop where
  run : PIp X op t
theorem eq_QIp : @QIp = @PIp := by
  funext x0 x1 x2
  exact propext ⟨fun h => h.run, fun h => ⟨h⟩⟩
structure QGet (X : Cx) (t : V → V → Hp → VK → Prop) : Prop where
  run : PGet X t
theorem eq_QGet : @QGet = @PGet := by
  funext x0 x1
  exact propext ⟨fun h => h.run, fun h => ⟨h⟩⟩
structure QI (X : Cx) (tg iter : Expr) (wi : TI) : Prop where
  run : PI X tg iter wi
theorem eq_QI : @QI = @PI := by
  funext x0 x1 x2 x3
  exact propext ⟨fun h => h.run, fun h => ⟨h⟩⟩
structure QK (X : Cx) (kws : List Keyword) (t : TA) : Prop where
  run : PK X kws t
theorem eq_QK : @QK = @PK := by
  funext x0 x1 x2
  exact propext ⟨fun h => h.run, fun h => ⟨h⟩⟩
structure QO (X : Cx) (e : Option Expr) (t : TO) : Prop where
  run : PO X e t
theorem eq_QO : @QO = @PO := by
  funext x0 x1 x2
  exact propext ⟨fun h => h.run, fun h => ⟨h⟩⟩
structure QTs (X : Cx) (ifs : List Expr) (t : TT) : Prop where
  run : PTs X ifs t
theorem eq_QTs : @QTs = @PTs := by
  funext x0 x1 x2
  exact propext ⟨fun h => h.run, fun h => ⟨h⟩⟩
structure QPs (X : Cx) (pos : Pos) (keys : List (Option Expr)) (values : List Expr) (trs : List (TE × TE)) : Prop where
  run : PPs X pos keys values trs
theorem eq_QPs : @QPs = @PPs := by
  funext x0 x1 x2 x3 x4
  exact propext ⟨fun h => h.run, fun h => ⟨h⟩⟩
structure QX (X : Cx) (st : List Stmt) (t : TXS) : Prop where
  run : PX X st t
theorem eq_QX : @QX = @PX := by
  funext x0 x1 x2
  exact propext ⟨fun h => h.run, fun h => ⟨h⟩⟩
structure QX1 (X : Cx) (st : Stmt) (t : TXS) : Prop where
  run : PX1 X st t
theorem eq_QX1 : @QX1 = @PX1 := by
  funext x0 x1 x2
  exact propext ⟨fun h => h.run, fun h => ⟨h⟩⟩
structure QXE (X : Cx) (e : Expr) (t : TXE) : Prop where
  run : PXE X e t
theorem eq_QXE : @QXE = @PXE := by
  funext x0 x1 x2
  exact propext ⟨fun h => h.run, fun h => ⟨h⟩⟩
section
theorem q_PW_pt {X : Cx} {e : Expr} {t : TT} (h : QW X e t) :
    QT X e t := by
  simp only [eq_QE, eq_QT, eq_QW, eq_QA, eq_QS, eq_QSs, eq_QC, eq_QG, eq_QGs, eq_QSet, eq_QIp, eq_QGet, eq_QI, eq_QK, eq_QO, eq_QTs, eq_QPs, eq_QX, eq_QX1, eq_QXE] at *
  exact PW.pt h
end
section
variable {X : Cx} {pos : Pos}
end
section
variable {X : Cx} {e : Expr} {es : List Expr} {te : TE} {t : TA} {pos : Pos}
theorem q_pa_cons (ha : QE X e te) (hr : QA X es t) (hs : starEach (e :: es) X.env = (false, eval e X.env) :: starEach es X.env := by rfl) :
    QA X (e :: es) (tCons te t) := by
  simp only [eq_QE, eq_QT, eq_QW, eq_QA, eq_QS, eq_QSs, eq_QC, eq_QG, eq_QGs, eq_QSet, eq_QIp, eq_QGet, eq_QI, eq_QK, eq_QO, eq_QTs, eq_QPs, eq_QX, eq_QX1, eq_QXE] at *
  exact pa_cons ha hr hs
end
section
variable {X : Cx} {e : Expr} {es : List Expr} {te : TE} {t : TA}
theorem q_pa_consB {a b : Expr} {op : Operator} {pos : Pos} (ha : QE X (.BinOp a op b pos) te) (hr : QA X es t) :
    QA X (.BinOp a op b pos :: es) (tCons te t) := by
  simp only [eq_QE, eq_QT, eq_QW, eq_QA, eq_QS, eq_QSs, eq_QC, eq_QG, eq_QGs, eq_QSet, eq_QIp, eq_QGet, eq_QI, eq_QK, eq_QO, eq_QTs, eq_QPs, eq_QX, eq_QX1, eq_QXE] at *
  exact pa_consB ha hr
end
section
variable {X : Cx} {e : Expr} {es : List Expr} {te : TE} {t : TA}
theorem q_pa_consC {c : Const} {j : Nat} {pos : Pos} (ha : QE X (.Constant c j pos) te) (hr : QA X es t) :
    QA X (.Constant c j pos :: es) (tCons te t) := by
  simp only [eq_QE, eq_QT, eq_QW, eq_QA, eq_QS, eq_QSs, eq_QC, eq_QG, eq_QGs, eq_QSet, eq_QIp, eq_QGet, eq_QI, eq_QK, eq_QO, eq_QTs, eq_QPs, eq_QX, eq_QX1, eq_QXE] at *
  exact pa_consC ha hr
end
section
variable {X : Cx} {e : Expr} {es : List Expr} {te : TE} {t : TA}
end
section
variable {X : Cx} {e : Expr} {es : List Expr} {te : TE} {t : TA}
theorem q_pa_consK {g : Expr} {as : List Expr} {ks : List _} {pos : Pos} (ha : QE X (.Call g as ks pos) te) (hr : QA X es t) :
    QA X (.Call g as ks pos :: es) (tCons te t) := by
  simp only [eq_QE, eq_QT, eq_QW, eq_QA, eq_QS, eq_QSs, eq_QC, eq_QG, eq_QGs, eq_QSet, eq_QIp, eq_QGet, eq_QI, eq_QK, eq_QO, eq_QTs, eq_QPs, eq_QX, eq_QX1, eq_QXE] at *
  exact pa_consK ha hr
end
section
variable {X : Cx} {e : Expr} {es : List Expr} {te : TE} {t : TA}
end
section
variable {X : Cx} {e : Expr} {es : List Expr} {te : TE} {t : TA}
theorem q_pa_consN {x : Str} {pos : Pos} (ha : QE X (.Name x pos) te) (hr : QA X es t) :
    QA X (.Name x pos :: es) (tCons te t) := by
  simp only [eq_QE, eq_QT, eq_QW, eq_QA, eq_QS, eq_QSs, eq_QC, eq_QG, eq_QGs, eq_QSet, eq_QIp, eq_QGet, eq_QI, eq_QK, eq_QO, eq_QTs, eq_QPs, eq_QX, eq_QX1, eq_QXE] at *
  exact pa_consN ha hr
end
section
variable {X : Cx} {e : Expr} {es : List Expr} {te : TE} {t : TA}
theorem q_pa_consS {a b : Expr} {pos : Pos} (ha : QE X (.Subscript a b pos) te) (hr : QA X es t) :
    QA X (.Subscript a b pos :: es) (tCons te t) := by
  simp only [eq_QE, eq_QT, eq_QW, eq_QA, eq_QS, eq_QSs, eq_QC, eq_QG, eq_QGs, eq_QSet, eq_QIp, eq_QGet, eq_QI, eq_QK, eq_QO, eq_QTs, eq_QPs, eq_QX, eq_QX1, eq_QXE] at *
  exact pa_consS ha hr
end
section
variable {X : Cx} {e : Expr} {es : List Expr} {te : TE} {t : TA}
theorem q_pa_consT {l : List Expr} {k : Nat} {pos : Pos} (ha : QE X (.Tuple l k pos) te) (hr : QA X es t) :
    QA X (.Tuple l k pos :: es) (tCons te t) := by
  simp only [eq_QE, eq_QT, eq_QW, eq_QA, eq_QS, eq_QSs, eq_QC, eq_QG, eq_QGs, eq_QSet, eq_QIp, eq_QGet, eq_QI, eq_QK, eq_QO, eq_QTs, eq_QPs, eq_QX, eq_QX1, eq_QXE] at *
  exact pa_consT ha hr
end
section
variable {X : Cx} {e : Expr} {es : List Expr} {te : TE} {t : TA} {pos : Pos}
theorem q_pa_nil  :
    QA X [] tNil := by
  simp only [eq_QE, eq_QT, eq_QW, eq_QA, eq_QS, eq_QSs, eq_QC, eq_QG, eq_QGs, eq_QSet, eq_QIp, eq_QGet, eq_QI, eq_QK, eq_QO, eq_QTs, eq_QPs, eq_QX, eq_QX1, eq_QXE] at *
  exact pa_nil 
end
section
variable {X : Cx} {x : Str} {p pos pos' : Pos} {c P : Addr} {ps : Array Value} {wi : TI} {g : TG} {tt : TT} {te : TE} {elt tg iter : Expr} {ifs : List Expr} {scope : Scope} {own : List (Str × Nat)} {k : Nat}
end
section
variable {X : Cx}
variable {a b : Expr} {ta tb : TE} {pos : Pos}
variable {tA tB' : TT} {rest : List Expr}
end
section
variable {X : Cx} {x : Str} {p pos pos' : Pos} {c P : Addr} {ps : Array Value} {wi : TI} {g : TG} {tt : TT} {te : TE} {elt tg iter : Expr} {ifs : List Expr} {scope : Scope} {own : List (Str × Nat)} {k : Nat}
end
section
variable {X : Cx}
theorem q_pe_bl {b j pos} :
    QE X (.Constant (.bool b) j pos) (tC (.bl b)) := by
  simp only [eq_QE, eq_QT, eq_QW, eq_QA, eq_QS, eq_QSs, eq_QC, eq_QG, eq_QGs, eq_QSet, eq_QIp, eq_QGet, eq_QI, eq_QK, eq_QO, eq_QTs, eq_QPs, eq_QX, eq_QX1, eq_QXE] at *
  exact pe_bl 
end
section
variable {X : Cx}
theorem q_pe_bltn {x : Str} {v : V} {u : Value} {pos : Pos} (hg : Gl X x) (hm : X.mg x = none) (hv : bootBuiltins x = some u) (r : RelV v u) (hn : x ≠ "__name__" := by decide) (hd : (x == ("__debug__" : Str)) = false := by decide) :
    QE X (.Name x pos) (tC v) := by
  simp only [eq_QE, eq_QT, eq_QW, eq_QA, eq_QS, eq_QSs, eq_QC, eq_QG, eq_QGs, eq_QSet, eq_QIp, eq_QGet, eq_QI, eq_QK, eq_QO, eq_QTs, eq_QPs, eq_QX, eq_QX1, eq_QXE] at *
  exact pe_bltn hg hm hv r hn hd
end
section
variable {X : Cx} {a b : Expr} {ta tb : TE} {pos : Pos}
variable {o e : Expr} {es : List Expr} {to : TE} {t : TA} {name : Str} {apos cpos : Pos} {T id : String} {r : V → List V → Hp → VK → Prop}
theorem q_pe_bm (pa : PlainAttrs T) (slot : Slot T name id) (hty : typeOf (.builtin id) = pure (.type "method_descriptor")) (hm : MtR X id r) (ho : QE X o to) (ha : QA X (e :: es) t) (hbase : attributeBase o name X.env (eval o X.env) = eval o X.env := by rfl) (hfew : ((backTo cpos (starEach (e :: es) X.env)).all (fun x => !x.1) && (backToKw cpos (keywordEach [] X.env)).all (fun x => x.1.isSome)
      && decide ((e :: es).length + ([] : List Keyword).length + (if ([] : List Keyword).isEmpty then 0 else 1) < 30)) = true := by rfl) (hline : (apos.endLine == cpos.line) = true := by rfl) (hs : starEach (e :: es) X.env = (false, eval e X.env) :: starEach es X.env := by rfl) (hplain : (backTo cpos (starEach es X.env)).any (·.1) = false := by rfl) :
    QE X (.Call (.Attribute o name apos) (e :: es) [] cpos) (tBM X.K T r to t) := by
  simp only [eq_QE, eq_QT, eq_QW, eq_QA, eq_QS, eq_QSs, eq_QC, eq_QG, eq_QGs, eq_QSet, eq_QIp, eq_QGet, eq_QI, eq_QK, eq_QO, eq_QTs, eq_QPs, eq_QX, eq_QX1, eq_QXE] at *
  exact pe_bm pa slot hty hm ho ha hbase hfew hline hs hplain
end
section
variable {X : Cx} {K : PySem.W.Frag} {o e : Expr} {es : List Expr} {to : TE} {t : TA} {name : Str} {apos cpos : Pos} {T id : String} {r : V → List V → Hp → VK → Prop}
theorem q_pe_bmK (ek : X.K = K) (pa : PlainAttrs T) (slot : Slot T name id) (hty : typeOf (.builtin id) = pure (.type "method_descriptor")) (hm : MtR X id r) (ho : QE X o to) (ha : QA X (e :: es) t) (hbase : attributeBase o name X.env (eval o X.env) = eval o X.env := by rfl) (hfew : ((backTo cpos (starEach (e :: es) X.env)).all (fun x => !x.1) && (backToKw cpos (keywordEach [] X.env)).all (fun x => x.1.isSome)
      && decide ((e :: es).length + ([] : List Keyword).length + (if ([] : List Keyword).isEmpty then 0 else 1) < 30)) = true := by rfl) (hline : (apos.endLine == cpos.line) = true := by rfl) (hs : starEach (e :: es) X.env = (false, eval e X.env) :: starEach es X.env := by rfl) (hplain : (backTo cpos (starEach es X.env)).any (·.1) = false := by rfl) :
    QE X (.Call (.Attribute o name apos) (e :: es) [] cpos) (tBM K T r to t) := by
  simp only [eq_QE, eq_QT, eq_QW, eq_QA, eq_QS, eq_QSs, eq_QC, eq_QG, eq_QGs, eq_QSet, eq_QIp, eq_QGet, eq_QI, eq_QK, eq_QO, eq_QTs, eq_QPs, eq_QX, eq_QX1, eq_QXE] at *
  exact pe_bmK ek pa slot hty hm ho ha hbase hfew hline hs hplain
end
section
variable {X : Cx} {x : Str} {p pos : Pos} {e : Expr} {es : List Expr} {t : TA} {k : Nat} {ps : List Str} {sp : Sp}
theorem q_pe_cal (C : Cal X.prog X.w X.K X.mg X.base k x ps sp) (hr : Room k X.A) (ha : QA X (e :: es) t) (hg : Gl X x := by rfl) (hdb : (x == ("__debug__" : Str)) = false := by decide) (he : starEach (e :: es) X.env = (false, eval e X.env) :: starEach es X.env := by rfl) (hpl : (backTo pos (starEach es X.env)).any (·.1) = false := by rfl) :
    QE X (.Call (.Name x p) (e :: es) [] pos) (tCall sp [] E0 t) := by
  simp only [eq_QE, eq_QT, eq_QW, eq_QA, eq_QS, eq_QSs, eq_QC, eq_QG, eq_QGs, eq_QSet, eq_QIp, eq_QGet, eq_QI, eq_QK, eq_QO, eq_QTs, eq_QPs, eq_QX, eq_QX1, eq_QXE] at *
  exact pe_cal C hr ha hg hdb he hpl
end
section
variable {X : Cx} {K : PySem.W.Frag} {pos : Pos} {e fn : Expr} {es : List Expr} {t : TA} {k : Nat} {sp : Sp}
end
section
variable {X : Cx} {x : Str} {p pos : Pos} {e : Expr} {es : List Expr} {t : TA} {k : Nat} {ps : List Str} {sp : Sp}
end
section
variable {X : Cx} {x : Str} {p pos : Pos} {e : Expr} {es : List Expr} {t : TA} {id T : String} {r : List V → Hp → VK → Prop}
theorem q_pe_callB (hc : CallR X (.builtin id) r) (hg : Gl X x) (hm : X.mg x = none) (hv : bootBuiltins x = some (.builtin id)) (ha : QA X (e :: es) t) (hn : x ≠ "__name__" := by decide) (hdb : (x == ("__debug__" : Str)) = false := by decide) (he : starEach (e :: es) X.env = (false, eval e X.env) :: starEach es X.env := by rfl) (hpl : (backTo pos (starEach es X.env)).any (·.1) = false := by rfl) :
    QE X (.Call (.Name x p) (e :: es) [] pos) (tCB r t) := by
  simp only [eq_QE, eq_QT, eq_QW, eq_QA, eq_QS, eq_QSs, eq_QC, eq_QG, eq_QGs, eq_QSet, eq_QIp, eq_QGet, eq_QI, eq_QK, eq_QO, eq_QTs, eq_QPs, eq_QX, eq_QX1, eq_QXE] at *
  exact pe_callB hc hg hm hv ha hn hdb he hpl
end
section
variable {X : Cx} {x : Str} {p pos : Pos} {e : Expr} {es : List Expr} {t : TA} {id T : String} {r : List V → Hp → VK → Prop}
theorem q_pe_callTy (hc : CallR X (.type T) r) (hg : Gl X x) (hm : X.mg x = none) (hv : bootBuiltins x = some (.type T)) (ha : QA X (e :: es) t) (hn : x ≠ "__name__" := by decide) (hdb : (x == ("__debug__" : Str)) = false := by decide) (he : starEach (e :: es) X.env = (false, eval e X.env) :: starEach es X.env := by rfl) (hpl : (backTo pos (starEach es X.env)).any (·.1) = false := by rfl) :
    QE X (.Call (.Name x p) (e :: es) [] pos) (tCB r t) := by
  simp only [eq_QE, eq_QT, eq_QW, eq_QA, eq_QS, eq_QSs, eq_QC, eq_QG, eq_QGs, eq_QSet, eq_QIp, eq_QGet, eq_QI, eq_QK, eq_QO, eq_QTs, eq_QPs, eq_QX, eq_QX1, eq_QXE] at *
  exact pe_callTy hc hg hm hv ha hn hdb he hpl
end
section
variable {X : Cx} {a b c : Expr} {ta tb tc : TE} {pos : Pos}
end
section
variable {X : Cx} {a b c : Expr} {ta tb tc : TE} {pos : Pos}
theorem q_pe_cmpR {op : CmpOp} {r : R2} (ho : OpR X (compareOp op) r) (ha : QE X a ta) (hb : QE X b tb) (hm : behindInMarks op b = false) :
    QE X (.Compare a [op] [b] pos) (tOp r ta tb) := by
  simp only [eq_QE, eq_QT, eq_QW, eq_QA, eq_QS, eq_QSs, eq_QC, eq_QG, eq_QGs, eq_QSet, eq_QIp, eq_QGet, eq_QI, eq_QK, eq_QO, eq_QTs, eq_QPs, eq_QX, eq_QX1, eq_QXE] at *
  exact pe_cmpR ho ha hb hm
end
section
end
section
variable {X : Cx} {pos : Pos}
end
section
variable {X : Cx} {pos : Pos}
end
section
theorem q_pe_globF {X : Cx} {x : Str} {f : Addr} {pos : Pos} (hm : X.mg x = some (.ref f)) (hg : Gl X x := by rfl) (hd : (x == ("__debug__" : Str)) = false := by decide) :
    QE X (.Name x pos) (tC (.ref f)) := by
  simp only [eq_QE, eq_QT, eq_QW, eq_QA, eq_QS, eq_QSs, eq_QC, eq_QG, eq_QGs, eq_QSet, eq_QIp, eq_QGet, eq_QI, eq_QK, eq_QO, eq_QTs, eq_QPs, eq_QX, eq_QX1, eq_QXE] at *
  exact pe_globF hm hg hd
end
section
variable {X : Cx}
variable {a b : Expr} {ta tb : TE} {pos : Pos}
variable {tA tB' : TT} {rest : List Expr}
end
section
variable {X : Cx}
theorem q_pe_int {i j pos} :
    QE X (.Constant (.int i) j pos) (tC (.int i)) := by
  simp only [eq_QE, eq_QT, eq_QW, eq_QA, eq_QS, eq_QSs, eq_QC, eq_QG, eq_QGs, eq_QSet, eq_QIp, eq_QGet, eq_QI, eq_QK, eq_QO, eq_QTs, eq_QPs, eq_QX, eq_QX1, eq_QXE] at *
  exact pe_int 
end
section
variable {X : Cx} {a b : Expr} {ta tb : TE} {pos : Pos}
theorem q_pe_ix {r : R2} (hr : IxR X r) (ha : QE X a ta) (hb : QE X b tb) (hs : PlainIx b) :
    QE X (.Subscript a b pos) (tOp r ta tb) := by
  simp only [eq_QE, eq_QT, eq_QW, eq_QA, eq_QS, eq_QSs, eq_QC, eq_QG, eq_QGs, eq_QSet, eq_QIp, eq_QGet, eq_QI, eq_QK, eq_QO, eq_QTs, eq_QPs, eq_QX, eq_QX1, eq_QXE] at *
  exact pe_ix hr ha hb hs
end
section
variable {X : Cx}
theorem q_pe_lc {elt tg iter : Expr} {ifs : List Expr} {scope : Scope} {own : List (Str × Nat)} {pos : Pos} {wi : TI} {g : TG} {tt : TT} {te : TE} (hc : X.calm = true) (hN : X.N.Nodup) (hi : QI X tg iter wi) (ok : BlkOk X.N X.env.scope scope own) (hg : ∀ (s : Shared) (H : Hp) (C : Addr) (cl : List (Str × Addr)) (fp : List Addr), QG (X.blk s H scope (compEnvC scope cl C X.env) fp) tg g) (ht : ∀ (s : Shared) (H : Hp) (C : Addr) (cl : List (Str × Addr)) (fp : List Addr), QTs (X.blk s H scope (compEnvC scope cl C X.env) fp) ifs tt) (he : ∀ (s : Shared) (H : Hp) (C : Addr) (cl : List (Str × Addr)) (fp : List Addr), QE (X.blk s H scope (compEnvC scope cl C X.env) fp) elt te) (hs : ∀ x, foldedSetIterable iter X.env x = pure x := by intro _; rfl) :
    QE X (.ListComp elt [⟨tg, iter, ifs, 0⟩] scope pos) (tLc wi g tt te (own.map (·.2))) := by
  simp only [eq_QE, eq_QT, eq_QW, eq_QA, eq_QS, eq_QSs, eq_QC, eq_QG, eq_QGs, eq_QSet, eq_QIp, eq_QGet, eq_QI, eq_QK, eq_QO, eq_QTs, eq_QPs, eq_QX, eq_QX1, eq_QXE] at *
  exact pe_lc hc hN hi ok hg ht he hs
end
section
variable {X : Cx}
end
section
variable {X : Cx} {e : Expr} {es : List Expr} {te : TE} {t : TA} {pos : Pos}
theorem q_pe_lst (h : QA X es t) :
    QE X (.List es pos) (tLst t) := by
  simp only [eq_QE, eq_QT, eq_QW, eq_QA, eq_QS, eq_QSs, eq_QC, eq_QG, eq_QGs, eq_QSet, eq_QIp, eq_QGet, eq_QI, eq_QK, eq_QO, eq_QTs, eq_QPs, eq_QX, eq_QX1, eq_QXE] at *
  exact pe_lst h
end
section
variable {X : Cx}
theorem q_pe_non {j pos} :
    QE X (.Constant .none j pos) (tC .non) := by
  simp only [eq_QE, eq_QT, eq_QW, eq_QA, eq_QS, eq_QSs, eq_QC, eq_QG, eq_QGs, eq_QSet, eq_QIp, eq_QGet, eq_QI, eq_QK, eq_QO, eq_QTs, eq_QPs, eq_QX, eq_QX1, eq_QXE] at *
  exact pe_non 
end
section
variable {X : Cx}
variable {a b : Expr} {ta tb : TE} {pos : Pos}
variable {tA tB' : TT} {rest : List Expr}
end
section
variable {X : Cx}
variable {a b : Expr} {ta tb : TE} {pos : Pos}
variable {tA tB' : TT} {rest : List Expr}
end
section
variable {X : Cx} {a b c : Expr} {ta tb tc : TE} {pos : Pos}
theorem q_pe_op {op : Operator} {r : R2} (ho : OpR X (binaryOp op) r) (ha : QE X a ta) (hb : QE X b tb) :
    QE X (.BinOp a op b pos) (tOp r ta tb) := by
  simp only [eq_QE, eq_QT, eq_QW, eq_QA, eq_QS, eq_QSs, eq_QC, eq_QG, eq_QGs, eq_QSet, eq_QIp, eq_QGet, eq_QI, eq_QK, eq_QO, eq_QTs, eq_QPs, eq_QX, eq_QX1, eq_QXE] at *
  exact pe_op ho ha hb
end
section
variable {X : Cx}
end
section
variable {X : Cx}
theorem q_pe_sc2 {elt tg iter tg1 iter1 : Expr} {ifs ifs1 : List Expr} {scope : Scope} {own : List (Str × Nat)} {vs1 : List Nat} {pos : Pos} {wi wi1 : TI} {g g1 : TG} {tt tt1 : TT} {te : TE} {mk : Addr → HO} {radd : List V → Hp → VK → Prop} (hc : X.calm = true) (hN : X.N.Nodup) (hi : QI X tg iter wi) (ok : BlkOk X.N X.env.scope scope own) (hv : ∀ i ∈ vs1, i ∈ own.map (·.2)) (hg : ∀ (s : Shared) (H : Hp) (C : Addr) (cl : List (Str × Addr)) (fp : List Addr), QG (X.blk s H scope (compEnvC scope cl C X.env) fp) tg g) (ht : ∀ (s : Shared) (H : Hp) (C : Addr) (cl : List (Str × Addr)) (fp : List Addr), QTs (X.blk s H scope (compEnvC scope cl C X.env) fp) ifs tt) (hi1 : ∀ (s : Shared) (H : Hp) (C : Addr) (cl : List (Str × Addr)) (fp : List Addr), QI (X.blk s H scope (compEnvC scope cl C X.env) fp) tg1 iter1 wi1) (hg1 : ∀ (s : Shared) (H : Hp) (C : Addr) (cl : List (Str × Addr)) (fp : List Addr), QG (X.blk s H scope (compEnvC scope cl C X.env) fp) tg1 g1) (ht1 : ∀ (s : Shared) (H : Hp) (C : Addr) (cl : List (Str × Addr)) (fp : List Addr), QTs (X.blk s H scope (compEnvC scope cl C X.env) fp) ifs1 tt1) (he : ∀ (s : Shared) (H : Hp) (C : Addr) (cl : List (Str × Addr)) (fp : List Addr), QE (X.blk s H scope (compEnvC scope cl C X.env) fp) elt te) (hmk : ∀ (H : Hp) (D : Addr) (h : Heap), h.get? D = some (emptySet X.w) → ObjOk X.prog X.w H h D (mk D)) (ha : ∀ (s : Shared) (H : Hp) (C : Addr) (cl : List (Str × Addr)) (fp : List Addr), CallR (X.blk s H scope (compEnvC scope cl C X.env) fp) (.builtin "set.add") radd) (hs : ∀ x, foldedSetIterable iter X.env x = pure x := by intro _; rfl) (hs1 : ∀ env x, foldedSetIterable iter1 env x = pure x := by intro _ _; rfl) :
    QE X (.SetComp elt [⟨tg, iter, ifs, 0⟩, ⟨tg1, iter1, ifs1, 0⟩] scope pos) (tSc2 mk radd wi g tt wi1 g1 tt1 te (own.map (·.2)) vs1) := by
  simp only [eq_QE, eq_QT, eq_QW, eq_QA, eq_QS, eq_QSs, eq_QC, eq_QG, eq_QGs, eq_QSet, eq_QIp, eq_QGet, eq_QI, eq_QK, eq_QO, eq_QTs, eq_QPs, eq_QX, eq_QX1, eq_QXE] at *
  exact pe_sc2 hc hN hi ok hv hg ht hi1 hg1 ht1 he hmk ha hs hs1
end
section
variable {X : Cx} {e : Expr} {te : TE} {lo hi : Option Expr} {tl th : TO} {pos p2 : Pos}
theorem q_pe_slice {r : V → Option Int → Option Int → Hp → VK → Prop} (hr : SlR X r) (he : QE X e te) (hl : QO X lo tl) (hu : QO X hi th) :
    QE X (.Subscript e (.Slice lo hi none p2) pos) (tSl r te tl th) := by
  simp only [eq_QE, eq_QT, eq_QW, eq_QA, eq_QS, eq_QSs, eq_QC, eq_QG, eq_QGs, eq_QSet, eq_QIp, eq_QGet, eq_QI, eq_QK, eq_QO, eq_QTs, eq_QPs, eq_QX, eq_QX1, eq_QXE] at *
  exact pe_slice hr he hl hu
end
section
variable {X : Cx} {pins : List (Addr × Obj)} {σ : St} {H : Hp} {s : Shared}
end
section
variable {X : Cx} {o e : Expr} {to te : TE}
end
section
variable {X : Cx} {K : PySem.W.Frag} {e k : Expr} {te tk : TE} {p2 pos : Pos}
end
section
variable {X : Cx}
theorem q_pe_str {x j pos} :
    QE X (.Constant (.str x) j pos) (tC (.str x)) := by
  simp only [eq_QE, eq_QT, eq_QW, eq_QA, eq_QS, eq_QSs, eq_QC, eq_QG, eq_QGs, eq_QSet, eq_QIp, eq_QGet, eq_QI, eq_QK, eq_QO, eq_QTs, eq_QPs, eq_QX, eq_QX1, eq_QXE] at *
  exact pe_str 
end
section
variable {X : Cx} {x : Str} {p pos pos' : Pos} {c P : Addr} {ps : Array Value} {wi : TI} {g : TG} {tt : TT} {te : TE} {elt tg iter : Expr} {ifs : List Expr} {scope : Scope} {own : List (Str × Nat)} {k : Nat}
end
section
variable {X : Cx} {e : Expr} {es : List Expr} {te : TE} {t : TA} {pos : Pos}
theorem q_pe_tup {x1} (h : QA X es t) :
    QE X (.Tuple es x1 pos) (tTup t) := by
  simp only [eq_QE, eq_QT, eq_QW, eq_QA, eq_QS, eq_QSs, eq_QC, eq_QG, eq_QGs, eq_QSet, eq_QIp, eq_QGet, eq_QI, eq_QK, eq_QO, eq_QTs, eq_QPs, eq_QX, eq_QX1, eq_QXE] at *
  exact pe_tup h
end
section
variable {X : Cx} {x : Str} {p pos pos' : Pos} {c P : Addr} {ps : Array Value} {wi : TI} {g : TG} {tt : TT} {te : TE} {elt tg iter : Expr} {ifs : List Expr} {scope : Scope} {own : List (Str × Nat)} {k : Nat}
theorem q_pe_tupG (L : GenPl X k c P scope own) (hgl : Gl X "tuple") (hm : X.mg "tuple" = none) (hi : QI X tg iter wi) (hg : ∀ (A : Around) (s : Shared) (H : Hp) (C : Addr) (code : Value) (fp : List Addr), QG (gcx X A s H (genvOf X scope C code) fp) tg g) (ht : ∀ (A : Around) (s : Shared) (H : Hp) (C : Addr) (code : Value) (fp : List Addr), Room k A → QTs (gcx X A s H (genvOf X scope C code) fp) ifs tt) (he : ∀ (A : Around) (s : Shared) (H : Hp) (C : Addr) (code : Value) (fp : List Addr), Room k A → QE (gcx X A s H (genvOf X scope C code) fp) elt te) (hs : ∀ x, genFold iter X.env x = pure x := by intro _; rfl) (hst : starEach [.GeneratorExp elt [⟨tg, iter, ifs, 0⟩] scope pos] X.env = [(false, eval (.GeneratorExp elt [⟨tg, iter, ifs, 0⟩] scope pos) X.env)] := by rfl) :
    QE X (.Call (.Name "tuple" p) [.GeneratorExp elt [⟨tg, iter, ifs, 0⟩] scope pos] [] pos') (tGC P ps wi g tt te (own.map (·.2)) [] sTup eTup) := by
  simp only [eq_QE, eq_QT, eq_QW, eq_QA, eq_QS, eq_QSs, eq_QC, eq_QG, eq_QGs, eq_QSet, eq_QIp, eq_QGet, eq_QI, eq_QK, eq_QO, eq_QTs, eq_QPs, eq_QX, eq_QX1, eq_QXE] at *
  exact pe_tupG L hgl hm hi hg ht he hs hst
end
section
variable {X : Cx} {a b c : Expr} {ta tb tc : TE} {pos : Pos}
theorem q_pe_un {op : UnaryOp} {r : V → Hp → VK → Prop} (ho : UnR X (unaryOp op) r) (ha : QE X a ta) :
    QE X (.UnaryOp op a pos) (tUn r ta) := by
  simp only [eq_QE, eq_QT, eq_QW, eq_QA, eq_QS, eq_QSs, eq_QC, eq_QG, eq_QGs, eq_QSet, eq_QIp, eq_QGet, eq_QI, eq_QK, eq_QO, eq_QTs, eq_QPs, eq_QX, eq_QX1, eq_QXE] at *
  exact pe_un ho ha
end
section
variable {X : Cx} {pos : Pos}
theorem q_pg_name {i : Nat} {x : Str} (hN : X.N.Nodup) (hi : X.N[i]? = some x) (hx : Loc X.env.scope x) (hf : X.fn x = true ∨ X.env.scope.names.lookup x = some .local := by first | exact .inl rfl | exact .inr rfl | assumption) :
    QG X (.Name x pos) (gName i) := by
  simp only [eq_QE, eq_QT, eq_QW, eq_QA, eq_QS, eq_QSs, eq_QC, eq_QG, eq_QGs, eq_QSet, eq_QIp, eq_QGet, eq_QI, eq_QK, eq_QO, eq_QTs, eq_QPs, eq_QX, eq_QX1, eq_QXE] at *
  exact pg_name hN hi hx hf
end
section
variable {X : Cx} {pos : Pos}
theorem q_pg_sub {o i : Expr} {to ti : TE} {t : TSet} (ho : QE X o to) (hi : QE X i ti) (hs : QSet X t) (ha : ∀ v, assign (.Subscript o i pos) X.env v = (do
      let ov ← holding [v] (eval o X.env)
      let iv ← holding [v, ov] (eval i X.env)
      standAt pos
      holding [v, ov, iv] (setItem ov iv v)
      release [v, ov, iv] []) := by intro _; rfl) :
    QG X (.Subscript o i pos) (gSub to ti t) := by
  simp only [eq_QE, eq_QT, eq_QW, eq_QA, eq_QS, eq_QSs, eq_QC, eq_QG, eq_QGs, eq_QSet, eq_QIp, eq_QGet, eq_QI, eq_QK, eq_QO, eq_QTs, eq_QPs, eq_QX, eq_QX1, eq_QXE] at *
  exact pg_sub ho hi hs ha
end
section
variable {X : Cx} {K : PySem.W.Frag}
end
section
variable {X : Cx} {K : PySem.W.Frag}
theorem q_pg_tupLK {pos : Pos} {es : List Expr} {k : Nat} {t : TGs} {n : Nat} (e : X.K = K) (hc : X.calm = true) (h : QGs X es t) (hn : (assignEach es X.env).length = n := by rfl) (hst : (assignEach es X.env).findIdx? (·.1) = none := by rfl) :
    QG X (.Tuple es k pos) (gTupL K n t) := by
  simp only [eq_QE, eq_QT, eq_QW, eq_QA, eq_QS, eq_QSs, eq_QC, eq_QG, eq_QGs, eq_QSet, eq_QIp, eq_QGet, eq_QI, eq_QK, eq_QO, eq_QTs, eq_QPs, eq_QX, eq_QX1, eq_QXE] at *
  exact pg_tupLK e hc h hn hst
end
section
variable {X : Cx} {pos : Pos}
theorem q_pgs_cons {e : Expr} {es : List Expr} {t : TG} {u : TGs} (h1 : QG X e t) (h2 : QGs X es u) (hs : (assignEach (e :: es) X.env).map (·.2) = assign e X.env :: (assignEach es X.env).map (·.2) := by rfl) :
    QGs X (e :: es) (gCons t u) := by
  simp only [eq_QE, eq_QT, eq_QW, eq_QA, eq_QS, eq_QSs, eq_QC, eq_QG, eq_QGs, eq_QSet, eq_QIp, eq_QGet, eq_QI, eq_QK, eq_QO, eq_QTs, eq_QPs, eq_QX, eq_QX1, eq_QXE] at *
  exact pgs_cons h1 h2 hs
end
section
variable {X : Cx} {pos : Pos}
theorem q_pgs_nil  :
    QGs X [] gNil := by
  simp only [eq_QE, eq_QT, eq_QW, eq_QA, eq_QS, eq_QSs, eq_QC, eq_QG, eq_QGs, eq_QSet, eq_QIp, eq_QGet, eq_QI, eq_QK, eq_QO, eq_QTs, eq_QPs, eq_QX, eq_QX1, eq_QXE] at *
  exact pgs_nil 
end
section
variable {X : Cx} {K : PySem.W.Frag} {tpos : Pos} {elts : List Expr} {kk : Nat}
end
section
end
section
variable {X : Cx} {tg e : Expr} {td : TE} {apos cpos : Pos}
end
section
variable {X : Cx} {K : PySem.W.Frag}
theorem q_pi_listK {tg l : Expr} {tl : TE} (e : X.K = K) (hl : QE X l tl) :
    QI X tg l (iList K tl) := by
  simp only [eq_QE, eq_QT, eq_QW, eq_QA, eq_QS, eq_QSs, eq_QC, eq_QG, eq_QGs, eq_QSet, eq_QIp, eq_QGet, eq_QI, eq_QK, eq_QO, eq_QTs, eq_QPs, eq_QX, eq_QX1, eq_QXE] at *
  exact pi_listK e hl
end
section
variable {X : Cx} {tg : Expr}
theorem q_pi_range1 {a : Expr} {ta : TA} {p pos : Pos} (hg : Gl X "range") (hm : X.mg "range" = none) (ha : QA X [a] ta) (hs : starEach [a] X.env = [(false, eval a X.env)] := by rfl) :
    QI X tg (.Call (.Name "range" p) [a] [] pos) (iRng1 ta) := by
  simp only [eq_QE, eq_QT, eq_QW, eq_QA, eq_QS, eq_QSs, eq_QC, eq_QG, eq_QGs, eq_QSet, eq_QIp, eq_QGet, eq_QI, eq_QK, eq_QO, eq_QTs, eq_QPs, eq_QX, eq_QX1, eq_QXE] at *
  exact pi_range1 hg hm ha hs
end
section
end
section
variable {X : Cx} {K : PySem.W.Frag}
theorem q_pi_tupK {tg l : Expr} {tl : TE} (e : X.K = K) (hl : QE X l tl) :
    QI X tg l (iTup K tl) := by
  simp only [eq_QE, eq_QT, eq_QW, eq_QA, eq_QS, eq_QSs, eq_QC, eq_QG, eq_QGs, eq_QSet, eq_QIp, eq_QGet, eq_QI, eq_QK, eq_QO, eq_QTs, eq_QPs, eq_QX, eq_QX1, eq_QXE] at *
  exact pi_tupK e hl
end
section
variable {X : Cx} {e : Expr} {te : TE} {lo hi : Option Expr} {tl th : TO} {pos p2 : Pos}
theorem q_po_none  :
    QO X none tNoPart := by
  simp only [eq_QE, eq_QT, eq_QW, eq_QA, eq_QS, eq_QSs, eq_QC, eq_QG, eq_QGs, eq_QSet, eq_QIp, eq_QGet, eq_QI, eq_QK, eq_QO, eq_QTs, eq_QPs, eq_QX, eq_QX1, eq_QXE] at *
  exact po_none 
end
section
variable {X : Cx} {e : Expr} {te : TE} {lo hi : Option Expr} {tl th : TO} {pos p2 : Pos}
theorem q_po_some (h : QE X e te) :
    QO X (some e) (tPart te) := by
  simp only [eq_QE, eq_QT, eq_QW, eq_QA, eq_QS, eq_QSs, eq_QC, eq_QG, eq_QGs, eq_QSet, eq_QIp, eq_QGet, eq_QI, eq_QK, eq_QO, eq_QTs, eq_QPs, eq_QX, eq_QX1, eq_QXE] at *
  exact po_some h
end
section
end
section
end
section
variable {X : Cx} {pos : Pos}
theorem q_ps_asg {tg e : Expr} {te : TE} {g : TG} (he : QE X e te) (hg : QG X tg g) (hs : swapsWithSole [tg] e pos.line X.env = pure false := by rfl) (hw : swappedStores [tg] e X.env = pure none := by rfl) (h1 : (assignEach [tg] X.env).map (·.2) = [assign tg X.env] := by rfl) :
    QS X (.Assign [tg] e pos) (tAsg te g) := by
  simp only [eq_QE, eq_QT, eq_QW, eq_QA, eq_QS, eq_QSs, eq_QC, eq_QG, eq_QGs, eq_QSet, eq_QIp, eq_QGet, eq_QI, eq_QK, eq_QO, eq_QTs, eq_QPs, eq_QX, eq_QX1, eq_QXE] at *
  exact ps_asg he hg hs hw h1
end
section
variable {X : Cx} {pos : Pos}
end
section
variable {X : Cx} {o i e value : Expr} {pos pos' tpos : Pos} {td ty tv : TE}
end
section
variable {X : Cx} {st : Stmt} {rest : List Stmt} {t u : TS} {e : Expr} {te : TE} {pos : Pos}
theorem q_ps_expr (he : QE X e te) (hs : swapsWith e none pos.line X.env = pure false := by rfl) :
    QS X (.Expr e pos) (tDrop te) := by
  simp only [eq_QE, eq_QT, eq_QW, eq_QA, eq_QS, eq_QSs, eq_QC, eq_QG, eq_QGs, eq_QSet, eq_QIp, eq_QGet, eq_QI, eq_QK, eq_QO, eq_QTs, eq_QPs, eq_QX, eq_QX1, eq_QXE] at *
  exact ps_expr he hs
end
section
variable {X : Cx} {tg : Expr}
theorem q_ps_for {iter : Expr} {body : List Stmt} {wi : TI} {g : TG} {tb : TS} {pos : Pos} (hp : PassesOwn (model X.prog X.w) X.A X.env X.xe) (hc : X.calm = true) (hi : QI X tg iter wi) (hg : QG X tg g) (hb : QSs X body tb) (hs : ∀ x, foldedSetIterable iter X.env x = pure x := by intro _; rfl) :
    QS X (.For tg iter body [] pos) (tFor wi g tb) := by
  simp only [eq_QE, eq_QT, eq_QW, eq_QA, eq_QS, eq_QSs, eq_QC, eq_QG, eq_QGs, eq_QSet, eq_QIp, eq_QGet, eq_QI, eq_QK, eq_QO, eq_QTs, eq_QPs, eq_QX, eq_QX1, eq_QXE] at *
  exact ps_for hp hc hi hg hb hs
end
section
variable {X : Cx} {st : Stmt} {rest : List Stmt} {t u : TS} {e : Expr} {te : TE} {pos : Pos}
theorem q_ps_if {c : Expr} {a b : List Stmt} {tc : TT} (hc : QT X c tc) (ha : QSs X a t) (hb : QSs X b u) :
    QS X (.If c a b pos) (tIfS tc t u) := by
  simp only [eq_QE, eq_QT, eq_QW, eq_QA, eq_QS, eq_QSs, eq_QC, eq_QG, eq_QGs, eq_QSet, eq_QIp, eq_QGet, eq_QI, eq_QK, eq_QO, eq_QTs, eq_QPs, eq_QX, eq_QX1, eq_QXE] at *
  exact ps_if hc ha hb
end
section
variable {X : Cx} {st : Stmt} {rest : List Stmt} {t u : TS} {e : Expr} {te : TE} {pos : Pos}
theorem q_ps_ret (he : QE X e te) :
    QS X (.Return (some e) pos) (tRet te) := by
  simp only [eq_QE, eq_QT, eq_QW, eq_QA, eq_QS, eq_QSs, eq_QC, eq_QG, eq_QGs, eq_QSet, eq_QIp, eq_QGet, eq_QI, eq_QK, eq_QO, eq_QTs, eq_QPs, eq_QX, eq_QX1, eq_QXE] at *
  exact ps_ret he
end
section
variable {X : Cx} {pos : Pos}
theorem q_ps_set {i : Nat} {x : Str} {e : Expr} {te : TE} {pos' : Pos} (hN : X.N.Nodup) (hi : X.N[i]? = some x) (hx : Loc X.env.scope x) (he : QE X e te) (hs : swapsWith e (some (.Name x pos')) pos.line X.env = pure false := by rfl) (hf : X.fn x = true ∨ X.env.scope.names.lookup x = some .local := by first | exact .inl rfl | exact .inr rfl | assumption) :
    QS X (.Assign [.Name x pos'] e pos) (tAsg te (gName i)) := by
  simp only [eq_QE, eq_QT, eq_QW, eq_QA, eq_QS, eq_QSs, eq_QC, eq_QG, eq_QGs, eq_QSet, eq_QIp, eq_QGet, eq_QI, eq_QK, eq_QO, eq_QTs, eq_QPs, eq_QX, eq_QX1, eq_QXE] at *
  exact ps_set hN hi hx he hs hf
end
section
variable {X : Cx}
theorem q_ps_setLc {i : Nat} {y : Str} {py : Pos} {elt tg iter : Expr} {ifs : List Expr} {scope : Scope} {own : List (Str × Nat)} {pos spos : Pos} {wi : TI} {g : TG} {tt : TT} {te : TE} (hc : X.calm = true) (hN : X.N.Nodup) (hy : X.N[i]? = some y) (hyl : X.env.scope.names.lookup y = some .local) (hsw : swapsWith (.ListComp elt [⟨tg, iter, ifs, 0⟩] scope pos) (some (.Name y py)) spos.line X.env = pure true) (hi : QI X tg iter wi) (ok : BlkOk X.N X.env.scope scope own) (hg : ∀ (s : Shared) (H : Hp) (C : Addr) (cl : List (Str × Addr)) (fp : List Addr), QG (X.blk s H scope (compEnvC scope cl C X.env) fp) tg g) (ht : ∀ (s : Shared) (H : Hp) (C : Addr) (cl : List (Str × Addr)) (fp : List Addr), QTs (X.blk s H scope (compEnvC scope cl C X.env) fp) ifs tt) (he : ∀ (s : Shared) (H : Hp) (C : Addr) (cl : List (Str × Addr)) (fp : List Addr), QE (X.blk s H scope (compEnvC scope cl C X.env) fp) elt te) (hs : ∀ x, foldedSetIterable iter X.env x = pure x := by intro _; rfl) :
    QS X (.Assign [.Name y py] (.ListComp elt [⟨tg, iter, ifs, 0⟩] scope pos) spos) (tAsg (tLc wi g tt te (own.map (·.2))) (gName i)) := by
  simp only [eq_QE, eq_QT, eq_QW, eq_QA, eq_QS, eq_QSs, eq_QC, eq_QG, eq_QGs, eq_QSet, eq_QIp, eq_QGet, eq_QI, eq_QK, eq_QO, eq_QTs, eq_QPs, eq_QX, eq_QX1, eq_QXE] at *
  exact ps_setLc hc hN hy hyl hsw hi ok hg ht he hs
end
section
variable {X : Cx} {pos : Pos}
end
section
variable {X : Cx} {st : Stmt} {rest : List Stmt} {t u : TS} {e : Expr} {te : TE} {pos : Pos}
theorem q_pss_cons (h1 : QS X st t) (h2 : QSs X rest u) :
    QSs X (st :: rest) (tSeq t u) := by
  simp only [eq_QE, eq_QT, eq_QW, eq_QA, eq_QS, eq_QSs, eq_QC, eq_QG, eq_QGs, eq_QSet, eq_QIp, eq_QGet, eq_QI, eq_QK, eq_QO, eq_QTs, eq_QPs, eq_QX, eq_QX1, eq_QXE] at *
  exact pss_cons h1 h2
end
section
variable {X : Cx} {st : Stmt} {rest : List Stmt} {t u : TS} {e : Expr} {te : TE} {pos : Pos}
theorem q_pss_nil  :
    QSs X [] tNext := by
  simp only [eq_QE, eq_QT, eq_QW, eq_QA, eq_QS, eq_QSs, eq_QC, eq_QG, eq_QGs, eq_QSet, eq_QIp, eq_QGet, eq_QI, eq_QK, eq_QO, eq_QTs, eq_QPs, eq_QX, eq_QX1, eq_QXE] at *
  exact pss_nil 
end
section
variable {X : Cx} {st : Stmt} {rest : List Stmt} {t u : TS} {e : Expr} {te : TE} {pos : Pos}
theorem q_pss_one (h1 : QS X st t) :
    QSs X [st] t := by
  simp only [eq_QE, eq_QT, eq_QW, eq_QA, eq_QS, eq_QSs, eq_QC, eq_QG, eq_QGs, eq_QSet, eq_QIp, eq_QGet, eq_QI, eq_QK, eq_QO, eq_QTs, eq_QPs, eq_QX, eq_QX1, eq_QXE] at *
  exact pss_one h1
end
section
variable {X : Cx} {a b c : Expr} {ta tb tc : TE} {pos : Pos}
theorem q_pt_cmpR {op : CmpOp} {r : R2} (ho : OpR X (compareOp op) r) (ha : QE X a ta) (hb : QE X b tb) (hm : behindInMarks op b = false) :
    QT X (.Compare a [op] [b] pos) (tTest (tOp r ta tb)) := by
  simp only [eq_QE, eq_QT, eq_QW, eq_QA, eq_QS, eq_QSs, eq_QC, eq_QG, eq_QGs, eq_QSet, eq_QIp, eq_QGet, eq_QI, eq_QK, eq_QO, eq_QTs, eq_QPs, eq_QX, eq_QX1, eq_QXE] at *
  exact pt_cmpR ho ha hb hm
end
section
variable {X : Cx}
variable {a b : Expr} {ta tb : TE} {pos : Pos}
variable {tA tB' : TT} {rest : List Expr}
theorem q_pt_not (ha : QT X a tA) :
    QT X (.UnaryOp .Not a pos) (tNot tA) := by
  simp only [eq_QE, eq_QT, eq_QW, eq_QA, eq_QS, eq_QSs, eq_QC, eq_QG, eq_QGs, eq_QSet, eq_QIp, eq_QGet, eq_QI, eq_QK, eq_QO, eq_QTs, eq_QPs, eq_QX, eq_QX1, eq_QXE] at *
  exact pt_not ha
end
section
variable {X : Cx}
variable {a b : Expr} {ta tb : TE} {pos : Pos}
theorem q_pt_val {e : Expr} {t : TE} (h : QE X e t) (he : ∀ whole, isTrue e X.env whole = (do let v ← whole; standAt e.pos; holding [v] (truthy v)) := by intro _; rfl) :
    QT X e (tB t) := by
  simp only [eq_QE, eq_QT, eq_QW, eq_QA, eq_QS, eq_QSs, eq_QC, eq_QG, eq_QGs, eq_QSet, eq_QIp, eq_QGet, eq_QI, eq_QK, eq_QO, eq_QTs, eq_QPs, eq_QX, eq_QX1, eq_QXE] at *
  exact pt_val h he
end
section
variable {X : Cx} {pins : List (Addr × Obj)} {σ : St} {H : Hp} {s : Shared}
theorem q_pts_nil  :
    QTs X [] tYes := by
  simp only [eq_QE, eq_QT, eq_QW, eq_QA, eq_QS, eq_QSs, eq_QC, eq_QG, eq_QGs, eq_QSet, eq_QIp, eq_QGet, eq_QI, eq_QK, eq_QO, eq_QTs, eq_QPs, eq_QX, eq_QX1, eq_QXE] at *
  exact pts_nil 
end
section
variable {X : Cx} {pins : List (Addr × Obj)} {σ : St} {H : Hp} {s : Shared}
theorem q_pts_one {c : Expr} {t : TT} (h : QT X c t) :
    QTs X [c] t := by
  simp only [eq_QE, eq_QT, eq_QW, eq_QA, eq_QS, eq_QSs, eq_QC, eq_QG, eq_QGs, eq_QSet, eq_QIp, eq_QGet, eq_QI, eq_QK, eq_QO, eq_QTs, eq_QPs, eq_QX, eq_QX1, eq_QXE] at *
  exact pts_one h
end
section
variable {X : Cx}
theorem q_pv (i : Nat) {x : Str} {pos : Pos} (hN : X.N[i]? = some x := by rfl) (hv : Vis X.env.scope x := by first | exact Or.inl rfl | exact Or.inr (Or.inl rfl) | exact Or.inr (Or.inr rfl)) (hd : (x == ("__debug__" : Str)) = false := by decide) (hcd : (x == ("__classdict__" : Str)) = false := by decide) :
    QE X (.Name x pos) (tVar i) := by
  simp only [eq_QE, eq_QT, eq_QW, eq_QA, eq_QS, eq_QSs, eq_QC, eq_QG, eq_QGs, eq_QSet, eq_QIp, eq_QGet, eq_QI, eq_QK, eq_QO, eq_QTs, eq_QPs, eq_QX, eq_QX1, eq_QXE] at *
  exact pv i hN hv hd hcd
end
section
variable {X : Cx}
variable {a b : Expr} {ta tb : TE} {pos : Pos}
variable {tA tB' : TT} {rest : List Expr}
end
section
variable {X : Cx}
variable {a b : Expr} {ta tb : TE} {pos : Pos}
variable {tA tB' : TT} {rest : List Expr}
end
section
variable {X : Cx}
variable {a b : Expr} {ta tb : TE} {pos : Pos}
variable {tA tB' : TT} {rest : List Expr}
theorem q_pw_or (ha : QT X a tA) (hb : QW X (.BoolOp .Or (b :: rest) pos) tB') :
    QW X (.BoolOp .Or (a :: b :: rest) pos) (tOr tA tB') := by
  simp only [eq_QE, eq_QT, eq_QW, eq_QA, eq_QS, eq_QSs, eq_QC, eq_QG, eq_QGs, eq_QSet, eq_QIp, eq_QGet, eq_QI, eq_QK, eq_QO, eq_QTs, eq_QPs, eq_QX, eq_QX1, eq_QXE] at *
  exact pw_or ha hb
end
section
variable {X : Cx}
variable {a b : Expr} {ta tb : TE} {pos : Pos}
variable {tA tB' : TT} {rest : List Expr}
theorem q_pw_or1 (ha : QT X a tA) :
    QW X (.BoolOp .Or [a] pos) tA := by
  simp only [eq_QE, eq_QT, eq_QW, eq_QA, eq_QS, eq_QSs, eq_QC, eq_QG, eq_QGs, eq_QSet, eq_QIp, eq_QGet, eq_QI, eq_QK, eq_QO, eq_QTs, eq_QPs, eq_QX, eq_QX1, eq_QXE] at *
  exact pw_or1 ha
end
section
variable {X : Cx} {a b : Expr} {ta tb : TE} {pos : Pos}
theorem q_set_list  :
    QSet X rSetL := by
  simp only [eq_QE, eq_QT, eq_QW, eq_QA, eq_QS, eq_QSs, eq_QC, eq_QG, eq_QGs, eq_QSet, eq_QIp, eq_QGet, eq_QI, eq_QK, eq_QO, eq_QTs, eq_QPs, eq_QX, eq_QX1, eq_QXE] at *
  exact set_list 
end
section
variable {X : Cx} {o i e value : Expr} {pos pos' tpos : Pos} {td ty tv : TE}
end
section
variable {X : Cx} {a b : Expr} {ta tb : TE} {pos : Pos}
variable {o e : Expr} {es : List Expr} {to : TE} {t : TA} {name : Str} {apos cpos : Pos} {T id : String} {r : V → List V → Hp → VK → Prop}
end
section
variable {X : Cx} {K : PySem.W.Frag} {e : Expr} {te : TE} {p1 p2 p3 pos : Pos} {j : Nat}
theorem q_pe_rev {j : Nat} (eK : X.K = K) (he : QE X e te) :
    QE X (.Subscript e (.Slice none none (some (.UnaryOp .USub (.Constant (.int 1) j p1) p3)) p2) pos) (tRev K te) := by
  simp only [eq_QE, eq_QT, eq_QW, eq_QA, eq_QS, eq_QSs, eq_QC, eq_QG, eq_QGs, eq_QSet, eq_QIp, eq_QGet, eq_QI, eq_QK, eq_QO, eq_QTs, eq_QPs, eq_QX, eq_QX1, eq_QXE] at *
  exact pe_rev eK he
end
section
variable {X : Cx} {st : Stmt} {rest : List Stmt} {t u : TS} {e : Expr} {te : TE} {pos : Pos}
end
section
variable {X : Cx} {st : Stmt} {rest : List Stmt} {t u : TS} {e : Expr} {te : TE} {pos : Pos}
end
section
variable {X : Cx} {st : Stmt} {rest : List Stmt} {t u : TS} {e : Expr} {te : TE} {pos : Pos}
end
section
variable {X : Cx} {a b c : Expr} {ta tb tc : TE} {pos : Pos}
end
section
variable {X : Cx} {st : Stmt} {rest : List Stmt} {t u : TS} {e : Expr} {te : TE} {pos : Pos}
end
section
variable {X : Cx} {o e f : Expr} {apos cpos : Pos} {td ty tx : TE}
end
section
variable {X : Cx} {o e f : Expr} {apos cpos : Pos} {td ty tx : TE}
end
section
variable {X : Cx} {o i e value : Expr} {pos pos' tpos : Pos} {td ty tv : TE}
end
section
variable {X : Cx} {o i e value : Expr} {pos pos' tpos : Pos} {td ty tv : TE}
end
section
variable {X : Cx}
variable {a b : Expr} {ta tb : TE} {pos : Pos}
end
section
variable {X : Cx}
variable {a b : Expr} {ta tb : TE} {pos : Pos}
end
section
variable {X : Cx} {tg : Expr}
end
section
end
section
variable {X : Cx} {a b c : Expr} {ta tb tc : TE} {pos : Pos}
end
section
variable {X : Cx} {x : Str} {p pos : Pos} {e : Expr} {es : List Expr} {t : TA} {k : Nat} {ps : List Str} {sp : Sp}
end
section
variable {X : Cx}
end
section
variable {X : Cx} {k v : Expr} {tk tv : TE} {pos : Pos}
end
section
variable {X : Cx} {K : PySem.W.Frag} {e : Expr} {te : TE} {p1 p2 p3 pos : Pos} {j : Nat}
end
section
variable {X : Cx} {K : PySem.W.Frag} {pos : Pos} {e fn : Expr} {es : List Expr} {t : TA} {k : Nat}
end
section
variable {X : Cx} {K : PySem.W.Frag} {pos : Pos} {e fn : Expr} {es : List Expr} {t : TA} {k : Nat}
theorem q_pe_globI {x : Str} {i : Int} {tk : Tok} {pos : Pos} (hm : X.mg x = some (.int i tk)) (hg : Gl X x := by rfl) (hd : (x == ("__debug__" : Str)) = false := by decide) :
    QE X (.Name x pos) (tC (.int i)) := by
  simp only [eq_QE, eq_QT, eq_QW, eq_QA, eq_QS, eq_QSs, eq_QC, eq_QG, eq_QGs, eq_QSet, eq_QIp, eq_QGet, eq_QI, eq_QK, eq_QO, eq_QTs, eq_QPs, eq_QX, eq_QX1, eq_QXE] at *
  exact pe_globI hm hg hd
end
section
end
section
variable {X : Cx} {st : Stmt} {rest : List Stmt} {t u : TS} {e : Expr} {te : TE} {pos : Pos}
end
section
variable {X : Cx}
variable {a b : Expr} {ta tb : TE} {pos : Pos}
variable {tA tB' : TT} {rest : List Expr}
end
section
variable {X : Cx} {K : PySem.W.Frag} {e : Expr} {es : List Expr} {te : TE} {t : TA} {p : Pos}
end
section
variable {X : Cx}
end
section
variable {X : Cx} {E : XK} {x : Str} {C : Addr} {B newId initId : String} {bmB : List Value} {np cpos pos : Pos} {e : Expr} {es : List Expr} {t : TA}
theorem q_ps_raise (hl : Leaves X E) (hc : X.calm = true) (FB : ExcBaseFacts B newId initId bmB) (hm : X.mg x = some (.ref C)) (hxc : PySem.W.excIn X.K C bmB newId = true) (hg : Gl X x) (ha : QA X (e :: es) t) (hdb : (x == ("__debug__" : Str)) = false := by decide) (he : starEach (e :: es) X.env = (false, eval e X.env) :: starEach es X.env := by rfl) (hpl : (backTo cpos (starEach es X.env)).any (·.1) = false := by rfl) :
    QS X (.Raise (some (.Call (.Name x np) (e :: es) [] cpos)) none pos) (tRaise (.ref C) E t) := by
  simp only [eq_QE, eq_QT, eq_QW, eq_QA, eq_QS, eq_QSs, eq_QC, eq_QG, eq_QGs, eq_QSet, eq_QIp, eq_QGet, eq_QI, eq_QK, eq_QO, eq_QTs, eq_QPs, eq_QX, eq_QX1, eq_QXE] at *
  exact ps_raise hl hc FB hm hxc hg ha hdb he hpl
end
section
variable {X : Cx} {st : Stmt} {rest : List Stmt} {t u : TXS} {te : TXE} {e : Expr} {es : List Expr} {pos : Pos}
end
section
variable {X : Cx} {st : Stmt} {rest : List Stmt} {t u : TXS} {te : TXE} {e : Expr} {es : List Expr} {pos : Pos}
end
section
variable {X : Cx} {st : Stmt} {rest : List Stmt} {t u : TXS} {te : TXE} {e : Expr} {es : List Expr} {pos : Pos}
theorem q_px_one (h1 : QX1 X st t) :
    QX X [st] t := by
  simp only [eq_QE, eq_QT, eq_QW, eq_QA, eq_QS, eq_QSs, eq_QC, eq_QG, eq_QGs, eq_QSet, eq_QIp, eq_QGet, eq_QI, eq_QK, eq_QO, eq_QTs, eq_QPs, eq_QX, eq_QX1, eq_QXE] at *
  exact px_one h1
end
section
variable {X : Cx} {st : Stmt} {rest : List Stmt} {t u : TXS} {te : TXE} {e : Expr} {es : List Expr} {pos : Pos}
end
section
variable {X : Cx} {st : Stmt} {rest : List Stmt} {t u : TXS} {te : TXE} {e : Expr} {es : List Expr} {pos : Pos}
end
section
variable {X : Cx} {st : Stmt} {rest : List Stmt} {t u : TXS} {te : TXE} {e : Expr} {es : List Expr} {pos : Pos}
end
section
variable {X : Cx} {st : Stmt} {rest : List Stmt} {t u : TXS} {te : TXE} {e : Expr} {es : List Expr} {pos : Pos}
theorem q_px_set {i : Nat} {x : Str} {pos' : Pos} (hN : X.N.Nodup) (hi : X.N[i]? = some x) (hx : Loc X.env.scope x) (he : QXE X e te) (hs : swapsWith e (some (.Name x pos')) pos.line X.env = pure false := by rfl) (hf : X.fn x = true ∨ X.env.scope.names.lookup x = some .local := by first | exact .inl rfl | exact .inr rfl | assumption) :
    QX1 X (.Assign [.Name x pos'] e pos) (fun Z => tAsg (te Z) (gName i)) := by
  simp only [eq_QE, eq_QT, eq_QW, eq_QA, eq_QS, eq_QSs, eq_QC, eq_QG, eq_QGs, eq_QSet, eq_QIp, eq_QGet, eq_QI, eq_QK, eq_QO, eq_QTs, eq_QPs, eq_QX, eq_QX1, eq_QXE] at *
  exact px_set hN hi hx he hs hf
end
section
variable {X : Cx} {st : Stmt} {rest : List Stmt} {t u : TXS} {te : TXE} {e : Expr} {es : List Expr} {pos : Pos}
variable {k : Nat} {f : Addr} {fd : FuncData} {ps : List Str} {sp : Sp} {dvs : List V} {ds : List Value} {x : Str} {p : Pos} {ta : TA}
end
section
variable {X : Cx} {k : Nat} {ps : List Str} {sp : Sp} {E : XK} {x : Str} {p pos : Pos} {e : Expr} {es : List Expr} {t : TA}
end
section
variable {X : Cx} {k : Nat} {ps : List Str} {sp : Sp} {E : XK} {x : Str} {p pos : Pos} {e : Expr} {es : List Expr} {t : TA}
theorem q_pe_calX (C : CalX X.prog X.w X.K X.mg X.base k x ps sp) (hr : Room k X.A) (hx : Passes (CXE X.prog X.w) X E) (ha : QA X (e :: es) t) (hg : Gl X x := by rfl) (hdb : (x == ("__debug__" : Str)) = false := by decide) (he : starEach (e :: es) X.env = (false, eval e X.env) :: starEach es X.env := by rfl) (hpl : (backTo pos (starEach es X.env)).any (·.1) = false := by rfl) :
    QE X (.Call (.Name x p) (e :: es) [] pos) (tCall sp [] E t) := by
  simp only [eq_QE, eq_QT, eq_QW, eq_QA, eq_QS, eq_QSs, eq_QC, eq_QG, eq_QGs, eq_QSet, eq_QIp, eq_QGet, eq_QI, eq_QK, eq_QO, eq_QTs, eq_QPs, eq_QX, eq_QX1, eq_QXE] at *
  exact pe_calX C hr hx ha hg hdb he hpl
end
section
variable {X : Cx} {k kc : Nat} {pn : Str} {sp : List Env → Shared → Sp} {x q : Str} {p pos lpos : Pos} {c Pt : Addr} {params : Arguments} {body : Expr} {scope : Scope} {own : List Nat} {Nl : List Str} {tb : XK → TE}
theorem q_pe_told (G : CalS X.prog X.w X.K X.mg X.base k x [pn] sp) (hr : Room k X.A) (hc : X.env.code = .ref c) (C : CodeK X.K c Pt) (B : BmK X.base X.mg) (hq : X.env.qual ++ "<lambda>" = q) (hdef : defaultsOf params X.env = ([], [])) (S : LamScope scope) (hbind : ∀ cl pm cdv ct, bindArgs (PySem.W.kla_fn "<lambda>" q params body scope cl pm cdv ct) ⟨[], []⟩ = pure []) (hfn : ∀ y, X.fn y = true) (L : LamOwn X.N X.env.scope scope own Nl) (hbody : ∀ (f : Addr) (cdv : Value) (cl : List (Str × Addr)) (A : Around) (outer : List Env) (s : Shared) (H : Hp) (E : XK), Room kc (A.deeper (PySem.W.envX q scope s.heap.objs.size f cdv cl)) → QE (cxL (CXE X.prog X.w) X.prog X.w X.K X.mg X.base Nl q scope f cdv cl A outer s H E) body (tb E)) (hg : Gl X x := by rfl) (hdb : (x == ("__debug__" : Str)) = false := by decide) (he : starEach [.Lambda params body scope lpos] X.env = [(false, eval (.Lambda params body scope lpos) X.env)] := by rfl) :
    QE X (.Call (.Name x p) [.Lambda params body scope lpos] [] pos) (tTold X.prog X.w X.K X.mg X.base (kc + 1) sp Pt q own tb) := by
  simp only [eq_QE, eq_QT, eq_QW, eq_QA, eq_QS, eq_QSs, eq_QC, eq_QG, eq_QGs, eq_QSet, eq_QIp, eq_QGet, eq_QI, eq_QK, eq_QO, eq_QTs, eq_QPs, eq_QX, eq_QX1, eq_QXE] at *
  exact pe_told G hr hc C B hq hdef S hbind hfn L hbody hg hdb he
end
section
theorem q_ps_try {X : Cx} {body suite : List Stmt} {b0 : Stmt} {x n : Str} {i : Nat} {np pos hpos : Pos} {C : Addr} {tb : TXS} {ts : TS} (hb : QX X body tb) (hs : ∀ ae, QSs (X.suite ae) (b0 :: suite) ts) (hst : X.stack = X.env :: X.outer) (hfr : X.env.frame = some X.env.locals) (hg : Gl X x) (hm : X.mg x = some (.ref C)) (hN : X.N.Nodup) (hi : X.N[i]? = some n) (hn : X.env.scope.names.lookup n = some .local) (hdb : (x == ("__debug__" : Str)) = false := by decide) :
    QS X (.Try body [.ExceptHandler (some (.Name x np)) (some n) (b0 :: suite) hpos] [] [] pos) (tTry X.K C i tb ts) := by
  simp only [eq_QE, eq_QT, eq_QW, eq_QA, eq_QS, eq_QSs, eq_QC, eq_QG, eq_QGs, eq_QSet, eq_QIp, eq_QGet, eq_QI, eq_QK, eq_QO, eq_QTs, eq_QPs, eq_QX, eq_QX1, eq_QXE] at *
  exact ps_try hb hs hst hfr hg hm hN hi hn hdb
end
section
variable {X : Cx} {k : Nat} {f : Addr} {spc : VK → XK → Hp → Prop} {x : Str} {p pos : Pos} {tv : TE}
theorem q_pxe_clo (C : Clo X.prog X.w X.K X.mg X.base k X.outer X.s_0 X.H_0 f spc) (hr : Room k X.A) (hex : X.ex = []) (hv : QE X.nox (.Name x p) tv) :
    QXE X (.Call (.Name x p) [] [] pos) (tCloX X.H_0 f spc tv) := by
  simp only [eq_QE, eq_QT, eq_QW, eq_QA, eq_QS, eq_QSs, eq_QC, eq_QG, eq_QGs, eq_QSet, eq_QIp, eq_QGet, eq_QI, eq_QK, eq_QO, eq_QTs, eq_QPs, eq_QX, eq_QX1, eq_QXE] at *
  exact pxe_clo C hr hex hv
end
section
theorem q_pt_truthK {X : Cx} {K : PySem.W.Frag} {a : Expr} {ta : TE} (ek : X.K = K) (ha : QE X a ta) (he : ∀ whole, isTrue a X.env whole = (do let v ← whole; standAt a.pos; holding [v] (truthy v))) :
    QT X a (fun σ H Q => ta σ H fun x H' => ∃ k, TruV K x H' k ∧ Q k H') := by
  simp only [eq_QE, eq_QT, eq_QW, eq_QA, eq_QS, eq_QSs, eq_QC, eq_QG, eq_QGs, eq_QSet, eq_QIp, eq_QGet, eq_QI, eq_QK, eq_QO, eq_QTs, eq_QPs, eq_QX, eq_QX1, eq_QXE] at *
  exact pt_truthK ek ha he
end
end L2

namespace L2
open PySem PySem.Spec PyProof.Rows
section
variable {P : Program} {w : World} {K : PySem.W.Frag} {mg : Str → Option Value} {base : Heap}
theorem FunC.okQ {x qual : Str} {st : Stmt} {f c : Addr} {fd : FuncData} {N ps : List Str} {k : Nat} {sp : Sp} (F : FunC K x qual st f fd c) (S : FnScope N ps (defScope st)) (len : ∀ vs H Q E, sp vs H Q E → vs.length = ps.length)
    (hbody : ∀ (A : Around) (outer : List Env) (s : Shared) (H : Hp) (vs : List V) (Q : VK) (E : XK), Room k (A.deeper (envOfC qual (defScope st) s.heap.objs.size f (.ref c))) → sp vs H Q E →
      ∃ t, QSs (cxOf CX0 P w K mg base N qual (defScope st) f (.ref c) A outer s H E).nox (defBody st) t ∧ t { nx := fun _ H' => Q .non H', rt := Q } (start N vs) H) : FnOk P w K mg base CX0 (k + 1) f fd ps sp :=
  F.ok S len fun A outer s H vs Q E hr h => let ⟨t, ht, q⟩ := hbody A outer s H vs Q E hr h; ⟨t, ht.run, q⟩
theorem FunC.okSQ {x qual : Str} {st : Stmt} {f c : Addr} {fd : FuncData} {N ps : List Str} {k : Nat} {sp : List Env → Shared → Sp} (F : FunC K x qual st f fd c) (S : FnScope N ps (defScope st)) (len : ∀ outer s vs H Q E, sp outer s vs H Q E → vs.length = ps.length)
    (hbody : ∀ (A : Around) (outer : List Env) (s : Shared) (H : Hp) (vs : List V) (Q : VK) (E : XK), Room k (A.deeper (envOfC qual (defScope st) s.heap.objs.size f (.ref c))) → sp outer s vs H Q E →
      ∃ t, QSs (cxOf CX0 P w K mg base N qual (defScope st) f (.ref c) A outer s H E).nox (defBody st) t ∧ t { nx := fun _ H' => Q .non H', rt := Q } (start N vs) H) : RunS P w K mg base CX0 (k + 1) f fd ps sp :=
  F.okS S len fun A outer s H vs Q E hr h => let ⟨t, ht, q⟩ := hbody A outer s H vs Q E hr h; ⟨t, ht.run, q⟩
theorem FunC.okXQ {x qual : Str} {st : Stmt} {f c : Addr} {fd : FuncData} {N ps : List Str} {k : Nat} {sp : Sp} (F : FunC K x qual st f fd c) (S : FnScope N ps (defScope st)) (len : ∀ vs H Q E, sp vs H Q E → vs.length = ps.length)
    (hbody : ∀ (A : Around) (outer : List Env) (s : Shared) (H : Hp) (vs : List V) (Q : VK) (E : XK), Room k (A.deeper (envOfC qual (defScope st) s.heap.objs.size f (.ref c))) → sp vs H Q E →
      ∃ t, QSs (cxOf (CXE P w) P w K mg base N qual (defScope st) f (.ref c) A outer s H E) (defBody st) t ∧ t { nx := fun _ H' => Q .non H', rt := Q } (start N vs) H) : FnOk P w K mg base (CXE P w) (k + 1) f fd ps sp :=
  F.okX S len fun A outer s H vs Q E hr h => let ⟨t, ht, q⟩ := hbody A outer s H vs Q E hr h; ⟨t, ht.run, q⟩
end
end L2

namespace KW
open PySem L2
end KW

namespace L2
open PySem PySem.Spec PyProof.Rows
section
variable {M : Model} {A : Around} {R : Result → Shared → Prop} {Y : Value → (Resume → Sem Fin) → Code → List Frame → Shared → Prop} {c : Code} {fs : List Frame} {s : Shared}
theorem segK_pop {k : Result → Sem Fin} {h : Option Value} {g : Bool} {l : List Value} {c1 : Code} {p1 kp} (r : Result) (hh : SegK M A R Y c1 (k r) fs s) : SegK M A R Y c (leafOf r) (.ret k h g l c1 p1 kp :: fs) s := by
  rintro Γ p rfl hΓ
  obtain ⟨e, s', hr, he⟩ := hh (Γ.goto c1) p1 rfl (hΓ.goto c1)
  exact ⟨e, s', Runs.pop r hr, he⟩
theorem segK_call {c' : Code} {h : Option Value} {g : Bool} {l : List Value} {k : Result → Sem Fin} (hc : ∀ p, SegK M A R Y c' (M.den c') (.ret k h g l c p [] :: fs) s) : SegK M A R Y c (.call c' h g l k) fs s := by
  rintro Γ p rfl hΓ
  obtain ⟨e, s', hr, he⟩ := hc p (Γ.goto c') p rfl (hΓ.goto c')
  exact ⟨e, s', runs_call_seg hr, he⟩
theorem SegK.mono {R' : Result → Shared → Prop} {Y' : Value → (Resume → Sem Fin) → Code → List Frame → Shared → Prop} {t : Sem Fin} (h : SegK M A R Y c t fs s) (hR : ∀ r s1, R r s1 → R' r s1) (hY : ∀ v k c' fs' s1, Y v k c' fs' s1 → Y' v k c' fs' s1) : SegK M A R' Y' c t fs s := by
  intro Γ p h1 h2
  obtain ⟨e, s', hr, hh⟩ := h Γ p h1 h2
  refine ⟨e, s', hr, ?_⟩
  cases e with
  | ret r => exact hR _ _ hh
  | susp v g0 l0 k0 c0 p0 fs0 => exact ⟨hh.1, hY _ _ _ _ _ hh.2⟩
end
abbrev gE2 (elt t0 i0 t1 i1 : Expr) (ifs0 ifs1 : List Expr) (scope : Scope) (pos : Pos) : Expr := .GeneratorExp elt [⟨t0, i0, ifs0, 0⟩, ⟨t1, i1, ifs1, 0⟩] scope pos
theorem genTurn2_out (elt t0 i0 t1 i1 : Expr) (ifs0 ifs1 : List Expr) (scope : Scope) (pos : Pos) (it acc : Value) (env : Env) :
    compTurn (gE2 elt t0 i0 t1 i1 ifs0 ifs1 scope pos) 0 it acc env = (do
      standAt i0.pos
      match ← pyNext it with
      | none => pure (.done .next)
      | some v =>
        letOwnedTupleGo t0 it v
        assign t0 env v
        let mut ok := true
        for c in ifs0 do
          if ok then ok ← isTrue c env (eval c env)
        if ok then
          let x ← eval i1 env
          standAt i1.pos
          let x ← foldedSetIterable i1 env x
          let _ ← runOwn (.compStart (gE2 elt t0 i0 t1 i1 ifs0 ifs1 scope pos) 1 (← holding [x] (pyIter x)) acc env) env
        again (.compLoop (gE2 elt t0 i0 t1 i1 ifs0 ifs1 scope pos) 0 it acc env)) := by rfl
theorem genTurn2_in (elt t0 i0 t1 i1 : Expr) (ifs0 ifs1 : List Expr) (scope : Scope) (pos : Pos) (it acc : Value) (env : Env) :
    compTurn (gE2 elt t0 i0 t1 i1 ifs0 ifs1 scope pos) 1 it acc env = (do
      standAt i1.pos
      match ← pyNext it with
      | none => pure (.done .next)
      | some v =>
        letOwnedTupleGo t1 it v
        assign t1 env v
        let mut ok := true
        for c in ifs1 do
          if ok then ok ← isTrue c env (eval c env)
        if ok then
          (do let v ← eval elt env; standAt elt.pos; let _ ← yieldOut env v)
        again (.compLoop (gE2 elt t0 i0 t1 i1 ifs0 ifs1 scope pos) 1 it acc env)) := by rfl
abbrev g2Out (e : Expr) (it : Addr) (genv : Env) : Code := .compLoop e 0 (.ref it) .none genv
abbrev g2In (e : Expr) (it : Addr) (genv : Env) : Code := .compLoop e 1 (.ref it) .none genv
abbrev g2Start (e : Expr) (it : Addr) (genv : Env) : Code := .compStart e 0 (.ref it) .none genv
def FrOk (cO : Code) (F : Frame) : Prop := ∃ k l p, F = .ret k none false l cO p [] ∧ k (.ok .next) = .pure (.again cO)
theorem over_in {A : Around} {elt t0 i0 t1 i1 : Expr} {ifs0 ifs1 : List Expr} {scope : Scope} {pos : Pos} {it it1 : Addr} {genv : Env} {F : Frame} (h : FrOk (g2Out (gE2 elt t0 i0 t1 i1 ifs0 ifs1 scope pos) it genv) F) :
    A.over (g2In (gE2 elt t0 i0 t1 i1 ifs0 ifs1 scope pos) it1 genv) [F] = A.over (g2Out (gE2 elt t0 i0 t1 i1 ifs0 ifs1 scope pos) it genv) [] := by
  obtain ⟨k, l, p, rfl, _⟩ := h
  unfold Around.over
  simp only [pushEnvs_eq, pushGuards_eq]
  cases A.frames <;> cases A.guards <;> rfl
inductive GAt where
  | out | inn (J1 : It) (σ2 : St) (j : Nat)
def gGen2 {α : Type} (J : It) (g : TG) (tt : TT) (wi1 : TI) (g1 : TG) (tt1 : TT) (te : TE) (vs vs1 : List Nat) (σ : St) (Stp : α → Hp → Prop) (Ste : α → V → Hp → (α → Hp → Prop) → Prop) : Nat → GAt → α → Nat → Hp → Prop
  | 0, _, _, _, _ => False
  | m + 1, .out, acc, i, H => (J.stop i H ∧ Stp acc H) ∨ (J.go i H ∧ ∀ x H', J.yld i H x H' → g x (wipe σ vs) H' fun σ2 H2 => wipe σ2 vs = wipe σ vs ∧ tt σ2 H2 fun b H3 =>
      if b = true then wi1 σ2 H3 fun J1 H4 => gGen2 J g tt wi1 g1 tt1 te vs vs1 σ Stp Ste m (.inn J1 σ2 0) acc i H4 else gGen2 J g tt wi1 g1 tt1 te vs vs1 σ Stp Ste m .out acc (i + 1) H3)
  | m + 1, .inn J1 σ2 j, acc, i, H => (J1.stop j H ∧ gGen2 J g tt wi1 g1 tt1 te vs vs1 σ Stp Ste m .out acc (i + 1) H) ∨ (J1.go j H ∧ ∃ Nx : α → Hp → Prop, (∀ acc' H', Nx acc' H' → gGen2 J g tt wi1 g1 tt1 te vs vs1 σ Stp Ste m (.inn J1 σ2 (j + 1)) acc' i H') ∧
      ∀ x H', J1.yld j H x H' → g1 x (wipe σ2 vs1) H' fun σ3 H5 => wipe σ3 vs1 = wipe σ2 vs1 ∧ tt1 σ3 H5 fun b H6 =>
        if b = true then te σ3 H6 fun y H7 => Ste acc y H7 Nx else Nx acc H6)
structure InSt (G : Cx) (tg1 : Expr) (fp : List Addr) (J1 : It) (fp1 : List Addr) (it1 : Addr) (tn1 : Nat → Heap → Prop) (j : Nat) (H : Hp) (h : Heap) : Prop where
  T : Turn G.prog G.w G.K tg1 J1 fp1 it1 tn1
  st : tn1 j h
  nf : ∀ b ∈ fp1, H b = none
  fo : ∀ b ∈ fp1, b ≠ G.env.locals ∧ b ∉ G.fs ∧ (b ∈ G.ex ∨ G.s_0.heap.objs.size ≤ b) ∧ (∀ x c, G.env.cells.lookup x = some c → c ≠ b) ∧ b ∉ fp
section
variable {σ : St} {elt t0 i0 t1 i1 : Expr} {ifs0 ifs1 : List Expr} {scope : Scope} {pos : Pos}
def Yld2 {α : Type} (G : Cx) (t1 : Expr) (e : Expr) (it : Addr) (fp : List Addr) (tn : Nat → Heap → Prop) (J : It) (g : TG) (tt : TT) (wi1 : TI) (g1 : TG) (tt1 : TT) (te : TE) (vs vs1 : List Nat) (σ : St) (Stp : α → Hp → Prop) (Ste : α → V → Hp → (α → Hp → Prop) → Prop) (pins : List (Addr × Obj)) (m : Nat) (acc : α)
    (v : Value) (k : Resume → Sem Fin) (c : Code) (fs : List Frame) (s1 : Shared) : Prop :=
  ∃ F it1, FrOk (g2Out e it G.env) F ∧ c = g2In e it1 G.env ∧ fs = [F] ∧ k (.send .none) = .pure (.again (g2In e it1 G.env)) ∧ ∃ y i m' H' J1 σ2 fp1 tn1 j, RelV y v ∧ wipe σ2 vs = wipe σ vs ∧ Inv G pins (wipe σ2 vs1) H' s1 ∧ tn (i + 1) s1.heap ∧ (∀ b ∈ fp, H' b = none) ∧ InSt G t1 fp J1 fp1 it1 tn1 j H' s1.heap ∧ (∀ p ∈ G.pn ++ pins, ∀ b ∈ fp1, p.1 ≠ b) ∧ m' < m ∧
    ∃ Nx : α → Hp → Prop, (∀ acc' H5, Nx acc' H5 → gGen2 J g tt wi1 g1 tt1 te vs vs1 σ Stp Ste m' (.inn J1 σ2 j) acc' i H5) ∧ Ste acc y H' Nx
theorem Yld2.up {α : Type} {G : Cx} {t1 : Expr} {e : Expr} {it : Addr} {fp : List Addr} {tn : Nat → Heap → Prop} {J : It} {g : TG} {tt : TT} {wi1 : TI} {g1 : TG} {tt1 : TT} {te : TE} {vs vs1 : List Nat} {Stp : α → Hp → Prop} {Ste : α → V → Hp → (α → Hp → Prop) → Prop} {pins : List (Addr × Obj)} {m : Nat} {acc : α} {v k c fs s1}
    (h : Yld2 G t1 e it fp tn J g tt wi1 g1 tt1 te vs vs1 σ Stp Ste pins m acc v k c fs s1) : Yld2 G t1 e it fp tn J g tt wi1 g1 tt1 te vs vs1 σ Stp Ste pins (m + 1) acc v k c fs s1 := by
  obtain ⟨F, it1, a1, a2, a3, a4, y, i, m', H', J1, σ2, fp1, tn1, j, b1, b2, b3, b4, b5, b6, b7, b8, b9⟩ := h
  exact ⟨F, it1, a1, a2, a3, a4, y, i, m', H', J1, σ2, fp1, tn1, j, b1, b2, b3, b4, b5, b6, b7, Nat.lt_succ_of_lt b8, b9⟩
theorem seg2 {α : Type} {Ar : Around} {G : Cx} {fp : List Addr} {it : Addr} {tn : Nat → Heap → Prop} {J : It} {g : TG} {tt : TT} {wi1 : TI} {g1 : TG} {tt1 : TT} {te : TE} {vs vs1 : List Nat} {Stp : α → Hp → Prop} {Ste : α → V → Hp → (α → Hp → Prop) → Prop} {pins : List (Addr × Obj)}
    (T : Turn G.prog G.w G.K t0 J fp it tn) (hc : G.calm = true) (hxe : G.xe = fun _ _ => False) (hco : G.env.scope.isCoroutine = false)
    (hA : G.A = Ar.over (g2Out (gE2 elt t0 i0 t1 i1 ifs0 ifs1 scope pos) it G.env) []) (hg : PG G t0 g) (ht : PTs G ifs0 tt) (hi1 : PI G t1 i1 wi1) (hs1 : ∀ x, foldedSetIterable i1 G.env x = pure x) (hg1 : PG G t1 g1) (ht1 : PTs G ifs1 tt1) (he : PE G elt te) (hv : ∀ i ∈ vs1, i ∈ vs)
    (hfp : ∀ b ∈ fp, b ≠ G.env.locals ∧ b ∉ G.fs ∧ b ∈ G.ex ∧ (∀ x c, G.env.cells.lookup x = some c → c ≠ b) ∧ ∀ p ∈ G.pn ++ pins, p.1 ≠ b) :
    ∀ (m : Nat) (acc : α), (∀ (i : Nat) (H : Hp) (s : Shared), gGen2 J g tt wi1 g1 tt1 te vs vs1 σ Stp Ste m .out acc i H → Inv G pins (wipe σ vs) H s → tn i s.heap → (∀ b ∈ fp, H b = none) →
      SegK (model G.prog G.w) Ar (fun r s1 => r = .ok .next ∧ ∃ H', Inv G pins (wipe σ vs) H' s1 ∧ (∀ b ∈ fp, H' b = none) ∧ Stp acc H')
        (Yld2 G t1 (gE2 elt t0 i0 t1 i1 ifs0 ifs1 scope pos) it fp tn J g tt wi1 g1 tt1 te vs vs1 σ Stp Ste pins m acc)
        (g2Out (gE2 elt t0 i0 t1 i1 ifs0 ifs1 scope pos) it G.env) ((model G.prog G.w).den (g2Out (gE2 elt t0 i0 t1 i1 ifs0 ifs1 scope pos) it G.env)) [] s) ∧
      (∀ (F : Frame) (it1 : Addr) (J1 : It) (σ2 : St) (fp1 : List Addr) (tn1 : Nat → Heap → Prop) (j i : Nat) (H : Hp) (s : Shared), FrOk (g2Out (gE2 elt t0 i0 t1 i1 ifs0 ifs1 scope pos) it G.env) F → gGen2 J g tt wi1 g1 tt1 te vs vs1 σ Stp Ste m (.inn J1 σ2 j) acc i H → wipe σ2 vs = wipe σ vs → Inv G pins (wipe σ2 vs1) H s → tn (i + 1) s.heap → (∀ b ∈ fp, H b = none) →
        InSt G t1 fp J1 fp1 it1 tn1 j H s.heap → (∀ p ∈ G.pn ++ pins, ∀ b ∈ fp1, p.1 ≠ b) →
      SegK (model G.prog G.w) Ar (fun r s1 => r = .ok .next ∧ ∃ H', Inv G pins (wipe σ vs) H' s1 ∧ (∀ b ∈ fp, H' b = none) ∧ Stp acc H')
        (Yld2 G t1 (gE2 elt t0 i0 t1 i1 ifs0 ifs1 scope pos) it fp tn J g tt wi1 g1 tt1 te vs vs1 σ Stp Ste pins m acc)
        (g2In (gE2 elt t0 i0 t1 i1 ifs0 ifs1 scope pos) it1 G.env) ((model G.prog G.w).den (g2In (gE2 elt t0 i0 t1 i1 ifs0 ifs1 scope pos) it1 G.env)) [F] s) := by
  have stat : ∀ {H' : Hp}, (∀ b ∈ fp, H' b = none) → ∀ b ∈ fp, FpOk G pins H' b := fun hn b hb => ⟨hn b hb, (hfp b hb).1, (hfp b hb).2.1, .inl (hfp b hb).2.2.1, (hfp b hb).2.2.2.1, (hfp b hb).2.2.2.2⟩
  have pinIn : ∀ {s2 s' : Shared} {σ' : St} {H' : Hp} {i' : Nat}, tn i' s2.heap → Inv G (pins ++ pinsAt fp s2.heap) σ' H' s' → Inv G pins σ' H' s' ∧ tn i' s'.heap ∧ (∀ b ∈ fp, H' b = none) := fun {s2 s' σ' H' i'} st2 I' => by
    have pin' : ∀ b ∈ fp, ∀ o, s2.heap.get? b = some o → s'.heap.get? b = some o ∧ H' b = none := fun b hb o e =>
      let z := I'.pin (b, o) (List.mem_append_right _ (List.mem_append_right _ (mem_pinsAt hb e)))
      ⟨z.1, z.2.1⟩
    refine ⟨I'.unpinned (pins := pins), T.keep _ _ _ st2 fun b hb o e => (pin' b hb o e).1, fun b hb => ?_⟩
    obtain ⟨o, e, _⟩ := T.obj _ _ st2 b hb
    exact (pin' b hb o e).2
  intro m
  induction m with
  | zero => exact fun acc => ⟨fun i H s h => h.elim, fun F it1 J1 σ2 fp1 tn1 j i H s _ h => h.elim⟩
  | succ m ih =>
    intro acc
    refine ⟨?_, ?_⟩
    · intro i H s h I st nf
      show SegK _ Ar _ _ _ ((compTurn (gE2 elt t0 i0 t1 i1 ifs0 ifs1 scope pos) 0 (.ref it) .none G.env).onRaise (leaving G.env)) [] s
      rw [genTurn2_out, Sem.onRaise_eq_wrap]
      refine segK_bind_wrap (wpAny_standAt ?_)
      rw [gGen2] at h
      rcases h with ⟨stop, qs⟩ | ⟨go, step⟩
      · have td := T.done G rfl rfl rfl hc i pins s _ H (fun _ _ => False) I (stat nf) st stop
        rw [hA] at td
        refine segK_bind_wrap (thnF td fun r s1 ⟨hr, I1⟩ => ?_)
        subst hr
        exact segK_end (.ok .next) ⟨rfl, H, I1, nf, qs⟩
      · have ti := T.item G rfl rfl rfl hc i pins s _ H (fun _ _ => False) I (stat nf) st go
        rw [hA] at ti
        refine segK_bind_wrap (thnF ti fun r s1 ⟨u, hr, h1⟩ => ?_)
        subst hr
        refine segK_bind_wrap (thnF h1 fun _ s2 ⟨x, H2, I2, r2, y2, st2, n2⟩ => ?_)
        have I2' := I2.pinned (stat n2) (T.obj _ _ st2)
        have pg := hg _ s2 _ H2 x u _ I2' r2 (step x H2 y2)
        rw [hA, hxe] at pg
        refine segK_bind_wrap (thnF pg fun _ s3 ⟨σ3, H3, I3, hw3, q3⟩ => ?_)
        have pt := ht _ s3 σ3 H3 _ I3 q3
        rw [hA, hxe] at pt
        refine segK_bind_wrap (thnF pt fun b s4 ⟨H4, I4, q4⟩ => ?_)
        cases b with
        | false =>
          simp only [Bool.false_eq_true, if_false] at q4 ⊢
          obtain ⟨I5, st5, n5⟩ := pinIn st2 I4
          have I6 : Inv G pins (wipe σ vs) H4 s4 := I5.weak (by rw [← hw3, wipe_length]) fun j v e => by
            rw [← hw3] at e
            exact (wipe_some e).1
          exact segK_again rfl (((ih acc).1 (i + 1) H4 s4 q4 I6 st5 n5).mono (fun _ _ z => z) fun _ _ _ _ _ z => z.up)
        | true =>
          simp only [if_true] at q4 ⊢
          have pi := hi1 _ s4 σ3 H4 _ I4 q4
          rw [hA, hxe] at pi
          refine segK_bind_wrap (thnF pi fun xv s5 h5 => ?_)
          refine segK_bind_wrap (wpAny_standAt ?_)
          refine segK_bind_wrap (wpAny_of_eq (hs1 xv) ?_)
          refine segK_bind_wrap (wpAny_holding (thnF h5 fun itv s6 h6 => ?_))
          obtain ⟨it1, fp1, tn1, J1, H6, e, I6, T1, st6, f6, q6⟩ := h6
          subst e
          obtain ⟨I7, st7, n7⟩ := pinIn st2 I6
          have dis : ∀ b ∈ fp1, b ∉ fp := fun b hb hb2 => by
            obtain ⟨o, e, _⟩ := T.obj _ _ st2 b hb2
            exact (f6 b hb).2.2.2.2.2 (b, o) (List.mem_append_right _ (List.mem_append_right _ (mem_pinsAt hb2 e))) rfl
          have ist : InSt G t1 fp J1 fp1 it1 tn1 0 H6 s6.heap := ⟨T1, st6, fun b hb => (f6 b hb).1, fun b hb => ⟨(f6 b hb).2.1, (f6 b hb).2.2.1, (f6 b hb).2.2.2.1, (f6 b hb).2.2.2.2.1, dis b hb⟩⟩
          have I8 : Inv G pins (wipe σ3 vs1) H6 s6 := I7.weak (by rw [wipe_length]) fun j v e => (wipe_some e).1
          have np : ∀ p ∈ G.pn ++ pins, ∀ b ∈ fp1, p.1 ≠ b := fun p hp b hb => (f6 b hb).2.2.2.2.2 p (by
            rcases List.mem_append.mp hp with hp | hp
            · exact List.mem_append_left _ hp
            · exact List.mem_append_right _ (List.mem_append_left _ hp))
          have key : ∀ F, FrOk (g2Out (gE2 elt t0 i0 t1 i1 ifs0 ifs1 scope pos) it G.env) F → SegK (model G.prog G.w) Ar (fun r s1 => r = .ok .next ∧ ∃ H', Inv G pins (wipe σ vs) H' s1 ∧ (∀ b ∈ fp, H' b = none) ∧ Stp acc H')
              (Yld2 G t1 (gE2 elt t0 i0 t1 i1 ifs0 ifs1 scope pos) it fp tn J g tt wi1 g1 tt1 te vs vs1 σ Stp Ste pins (m + 1) acc) (.compStart (gE2 elt t0 i0 t1 i1 ifs0 ifs1 scope pos) 1 (.ref it1) .none G.env) ((model G.prog G.w).den (.compStart (gE2 elt t0 i0 t1 i1 ifs0 ifs1 scope pos) 1 (.ref it1) .none G.env)) [F] s6 := fun F fr => by
            have inner := ((ih acc).2 F it1 J1 σ3 fp1 tn1 0 i H6 s6 fr q6 hw3 I8 st7 n7 ist np).mono (R' := fun r s1 => r = .ok .next ∧ ∃ H', Inv G pins (wipe σ vs) H' s1 ∧ (∀ b ∈ fp, H' b = none) ∧ Stp acc H') (fun _ _ z => z) fun _ _ _ _ _ z => z.up
            show SegK _ Ar _ _ _ ((compStart (gE2 elt t0 i0 t1 i1 ifs0 ifs1 scope pos) 1 (.ref it1) .none G.env).onRaise _) [F] _
            unfold compStart
            rw [Sem.onRaise_eq_wrap]
            show SegK _ Ar _ _ _ ((ask >>= _).wrap _ _ _ _) [F] _
            refine segK_bind_wrap (wpAny_askSetting ?_)
            split
            · exact segK_again rfl inner
            · first
                | exact segK_bind_wrap (wpAny_rule (segK_bind_wrap (wpAny_standAt (segK_bind_wrap (T1.self _ 0 _ _ _ st6 (segK_again rfl inner))))))
                | (refine segK_bind_wrap (wpAny_rule ?_); show SegK _ Ar _ _ _ ((standAt i1.pos >>= _).wrap _ _ _ _) [F] _; exact segK_bind_wrap (wpAny_standAt (segK_bind_wrap (T1.self _ 0 _ _ _ st6 (segK_again rfl inner)))))
          exact segK_call fun p => key _ ⟨_, _, p, rfl, rfl⟩
    · intro F it1 J1 σ2 fp1 tn1 j i H s fr h hw I st nf ist np
      have hA1 : G.A = Ar.over (g2In (gE2 elt t0 i0 t1 i1 ifs0 ifs1 scope pos) it1 G.env) [F] := by rw [over_in fr]; exact hA
      obtain ⟨T1, st1, nf1, fo1⟩ := id ist
      have stat1 : ∀ {s2 : Shared} {H' : Hp}, (∀ b ∈ fp1, H' b = none) → ∀ b ∈ fp1, FpOk G (pins ++ pinsAt fp s2.heap) H' b := fun hn b hb => ⟨hn b hb, (fo1 b hb).1, (fo1 b hb).2.1, (fo1 b hb).2.2.1, (fo1 b hb).2.2.2.1, fun p hp => by
        rcases List.mem_append.mp hp with hp | hp
        · exact np p (List.mem_append_left _ hp) b hb
        rcases List.mem_append.mp hp with hp | hp
        · exact np p (List.mem_append_right _ hp) b hb
        · exact fun e => (fo1 b hb).2.2.2.2 (by rw [← e]; exact (of_pinsAt hp).1)⟩
      show SegK _ Ar _ _ _ ((compTurn (gE2 elt t0 i0 t1 i1 ifs0 ifs1 scope pos) 1 (.ref it1) .none G.env).onRaise _) [F] s
      rw [genTurn2_in, Sem.onRaise_eq_wrap]
      refine segK_bind_wrap (wpAny_standAt ?_)
      have Ip : Inv G (pins ++ pinsAt fp s.heap) (wipe σ2 vs1) H s := I.pinned (stat nf) (T.obj _ _ st)
      rw [gGen2] at h
      have back : ∀ {s' : Shared} {H' : Hp}, Inv G pins (wipe σ2 vs1) H' s' → Inv G pins (wipe σ vs) H' s' := fun {s' H'} I' => I'.weak (by rw [← hw, wipe_length, wipe_length]) fun j v e => by
        rw [← hw] at e
        obtain ⟨e1, e2⟩ := wipe_some e
        rw [wipe_out fun z => e2 (hv j z)]
        exact e1
      rcases h with ⟨stop, qs⟩ | ⟨go, Nx, hNx, step⟩
      · have td := T1.done G rfl rfl rfl hc j _ s _ H (fun _ _ => False) Ip (stat1 nf1) st1 stop
        rw [hA1] at td
        refine segK_bind_wrap (thnF td fun r s1 ⟨hr, I1⟩ => ?_)
        subst hr
        obtain ⟨I2, st2, n2⟩ := pinIn st I1
        have out := ((ih acc).1 (i + 1) H s1 qs (back I2) st2 n2).mono (R' := fun r s1 => r = .ok .next ∧ ∃ H', Inv G pins (wipe σ vs) H' s1 ∧ (∀ b ∈ fp, H' b = none) ∧ Stp acc H') (fun _ _ z => z) (fun _ _ _ _ _ z => z.up)
        obtain ⟨k, l, p, rfl, ek⟩ := fr
        refine segK_pop (.ok .next) ?_
        rw [ek]
        exact segK_again rfl out
      · have ti := T1.item G rfl rfl rfl hc j _ s _ H (fun _ _ => False) Ip (stat1 nf1) st1 go
        rw [hA1] at ti
        refine segK_bind_wrap (thnF ti fun r s1 ⟨u, hr, h1⟩ => ?_)
        subst hr
        refine segK_bind_wrap (thnF h1 fun _ s2 ⟨x, H2, I2, r2, y2, st2, n2⟩ => ?_)
        have I2' := I2.pinned (stat1 n2) (T1.obj _ _ st2)
        have pg := hg1 _ s2 _ H2 x u _ I2' r2 (step x H2 y2)
        rw [hA1, hxe] at pg
        refine segK_bind_wrap (thnF pg fun _ s3 ⟨σ3, H3, I3, hw3, q3⟩ => ?_)
        have pt := ht1 _ s3 σ3 H3 _ I3 q3
        rw [hA1, hxe] at pt
        refine segK_bind_wrap (thnF pt fun b s4 ⟨H4, I4, q4⟩ => ?_)
        have fin : ∀ {s' : Shared} {H' : Hp}, Inv G ((pins ++ pinsAt fp s.heap) ++ pinsAt fp1 s2.heap) σ3 H' s' → Inv G pins (wipe σ2 vs1) H' s' ∧ tn (i + 1) s'.heap ∧ (∀ b ∈ fp, H' b = none) ∧ InSt G t1 fp J1 fp1 it1 tn1 (j + 1) H' s'.heap := fun {s' H'} I' => by
          have pin' : ∀ b ∈ fp1, ∀ o, s2.heap.get? b = some o → s'.heap.get? b = some o ∧ H' b = none := fun b hb o e =>
            let z := I'.pin (b, o) (List.mem_append_right _ (List.mem_append_right _ (mem_pinsAt hb e)))
            ⟨z.1, z.2.1⟩
          obtain ⟨I5, st5, n5⟩ := pinIn st (I'.unpinned)
          refine ⟨I5.weak (by rw [← hw3, wipe_length]) (fun j v e => by rw [← hw3] at e; exact (wipe_some e).1), st5, n5, T1, T1.keep _ _ _ st2 fun b hb o e => (pin' b hb o e).1, fun b hb => ?_, fo1⟩
          obtain ⟨o, e, _⟩ := T1.obj _ _ st2 b hb
          exact (pin' b hb o e).2
        cases b with
        | false =>
          simp only [Bool.false_eq_true, if_false] at q4 ⊢
          obtain ⟨I5, st5, n5, is5⟩ := fin I4
          exact segK_again rfl (((ih acc).2 F it1 J1 σ2 fp1 tn1 (j + 1) i H4 s4 fr (hNx _ _ q4) hw I5 st5 n5 is5 np).mono (fun _ _ z => z) fun _ _ _ _ _ z => z.up)
        | true =>
          simp only [if_true] at q4 ⊢
          have hy : ∀ v, yieldOut G.env v = yieldValue v := fun v => by simp only [yieldOut, hco, Bool.false_eq_true, if_false]
          simp only [hy]
          rw [Sem.bind_eq_wrap', Sem.bind_eq_wrap', Sem.wrap_wrap, Sem.wrap_wrap]
          have pe := he _ s4 σ3 H4 _ I4 q4
          rw [hA1, hxe] at pe
          refine segK_wrap (thnF pe fun z s5 ⟨yv, H5, I5, r5, q5⟩ => ?_)
          obtain ⟨I6, st6, n6, is6⟩ := fin I5
          have hsp : splitAtGen [F] = none ∧ [F].any Frame.guarded = false := by
            obtain ⟨k, l, p, rfl, ek⟩ := fr
            exact ⟨rfl, rfl⟩
          exact segK_at (segK_yield hsp.1 rfl hsp.2 ⟨F, it1, fr, rfl, rfl, rfl, yv, i, m, H5, J1, σ2, fp1, tn1, j + 1, r5, hw, I6, st6, n6, is6, np, Nat.lt_succ_self _, Nx, hNx, q5⟩)
end
end L2

namespace L2
open PySem PySem.Spec PyProof.Rows
theorem eval_gen2 (elt t0 i0 t1 i1 : Expr) (ifs0 ifs1 : List Expr) (scope : Scope) (pos : Pos) (env : Env) (hco : scope.isCoroutine = false) :
    eval (gE2 elt t0 i0 t1 i1 ifs0 ifs1 scope pos) env = (do
      let x ← eval i0 env
      standAt i0.pos
      let x ← genFold i0 env x
      let it ← holding [x] (pyIter x)
      enterFrame
      let cl ← closureFor scope env
      let code ← genexprCode env pos (env.qual ++ "<genexpr>") scope
      let bi ← builtinsFor env.globals env.builtins
      let cenv ← newFunctionEnv scope env.globals cl [(".0", it)] (env.qual ++ "<genexpr>.") none code none bi
      newGenerator (.compStart (gE2 elt t0 i0 t1 i1 ifs0 ifs1 scope pos) 0 it .none cenv) "<genexpr>" (env.qual ++ "<genexpr>")) := by
  rw [arm_eval_GeneratorExp]
  simp only [hco, Bool.false_eq_true, if_false]
  cases i0 <;> rfl
section
variable {M : Model} {A : Around} {E : Value → Shared → Prop} {s : Shared} {env : Env} {elt t0 i0 t1 i1 : Expr} {ifs0 ifs1 : List Expr} {scope : Scope} {cl : List (Str × Addr)} {pos : Pos} {Q : Value → Shared → Prop}
theorem make_gen2 (hco : scope.isCoroutine = false) (hcl : closureFor scope env = pure cl) (hnc : ∀ y ∈ scope.names, y.2 ≠ .cell) (hdot : scope.names.lookup (".0" : Str) = some NameKind.local) (hfn : scope.kind = .function) (hroom : A.depth < recursionLimit)
    (hs : ∀ x, genFold i0 env x = pure x)
    (h : wpAny M A (eval i0 env) (fun xv s1 => wpAny M A (pyIter xv) (fun itv s2 => s2.heap.NoLimit ∧ wpAny M A (genexprCode env pos (env.qual ++ "<genexpr>") scope) (fun code s3 => wpAny M A (builtinsFor env.globals env.builtins) (fun bi s4 =>
        ∀ h', h'.Ns s4.heap.objs.size (fun y => if y = ".0" then some itv else none) → Heap.SameBut s4.heap.objs.size (s4.heap.push { cls := .type "frame", data := .dict #[] }) h' →
          Q (.ref h'.objs.size) { s4 with
            gens := s4.gens.push (.fresh (.compStart (gE2 elt t0 i0 t1 i1 ifs0 ifs1 scope pos) 0 itv .none (genEnv scope cl s4.heap.objs.size code bi env)))
            toks := s4.toks + 1 + 1 + 1
            heap := h'.push { cls := .type "generator", data := .fields #[.int s4.gens.size 0, .str "<genexpr>" (s4.toks + 1), .str (env.qual ++ "<genexpr>") (s4.toks + 1 + 1)] } }) E s3) E s2) E s1) E s) :
    wpAny M A (eval (gE2 elt t0 i0 t1 i1 ifs0 ifs1 scope pos) env) Q E s := by
  rw [eval_gen2 _ _ _ _ _ _ _ _ _ _ hco, hcl]
  refine wpAny_bind (thn h fun xv s1 h1 => wpAny_bind (wpAny_standAt (wpAny_bind (wpAny_of_eq (hs xv) (wpAny_bind (wpAny_holding (thn h1 fun itv s2 h2 => ?_)))))))
  refine wpAny_bind (wpAny_enterFrame h2.1 hroom (wpAny_bind (wpAny_pure (wpAny_bind (thn h2.2 fun code s3 h3 => wpAny_bind (thn h3 fun bi s4 h4 => ?_))))))
  have hb : ∀ y ∈ ([((".0" : Str), itv)] : List (Str × Value)), scope.names.lookup y.1 = some NameKind.local := fun y hy => by
    rw [List.mem_singleton.mp hy]; exact hdot
  refine wpAny_bind (wpAny_newFunctionEnv hnc hb (fun h' hn hsb => ?_) hfn)
  have e : (fun y : Str => ([((".0" : Str), itv)] : List (Str × Value)).reverse.lookup y) = fun y : Str => if y = (".0" : Str) then some itv else none := by
    funext y
    by_cases hy : y = ".0"
    · subst hy; simp
    · have : (y == (".0" : Str)) = false := by simpa using hy
      simp [List.lookup, this, hy]
  rw [e] at hn
  simp only [newGenerator, newFields]
  exact wpAny_bind (wpAny_newGen (wpAny_bind (wpAny_mkText (wpAny_bind (wpAny_mkText (wpAny_newObj_type (h4 h' hn hsb) (by size_fits)))))))
end
inductive GPos (G : Cx) (e t1 : Expr) (it : Addr) (fp : List Addr) (tn : Nat → Heap → Prop) (vs vs1 : List Nat) (σ : St) (ms : List Addr) (a : Addr) (g : Nat) (H : Hp) (s : Shared) : GAt → Nat → Prop
  | fresh : Inv G [] (wipe σ vs) H s → tn 0 s.heap → s.gens[g]? = some (.fresh (g2Start e it G.env)) → GPos G e t1 it fp tn vs vs1 σ ms a g H s .out 0
  | inn {J1 : It} {σ2 : St} {j i : Nat} {F : Frame} {it1 : Addr} {fp1 : List Addr} {tn1 : Nat → Heap → Prop} {k l p} : FrOk (g2Out e it G.env) F → wipe σ2 vs = wipe σ vs → Inv G [] (wipe σ2 vs1) H s → tn (i + 1) s.heap → InSt G t1 fp J1 fp1 it1 tn1 j H s.heap → (∀ b ∈ fp1, b ≠ a ∧ b ∉ ms) →
      s.gens[g]? = some (.suspended k l (g2In e it1 G.env) p [F] false) → k (.send .none) = .pure (.again (g2In e it1 G.env)) → GPos G e t1 it fp tn vs vs1 σ ms a g H s (.inn J1 σ2 j) i
structure GRun2 (G : Cx) (e t1 : Expr) (it : Addr) (fp : List Addr) (tn : Nat → Heap → Prop) (vs vs1 : List Nat) (σ : St) (ms : List Addr) (a : Addr) (g : Nat) (gat : GAt) (i : Nat) (H : Hp) (s : Shared) : Prop where
  nfp : ∀ b ∈ fp, H b = none
  isg : s.heap.IsGen a g
  na : H a = none
  po : GPos G e t1 it fp tn vs vs1 σ ms a g H s gat i
theorem GRun2.inv {G : Cx} {e t1 : Expr} {it : Addr} {fp : List Addr} {tn : Nat → Heap → Prop} {vs vs1 : List Nat} {σ : St} {ms : List Addr} {a : Addr} {g : Nat} {gat : GAt} {i : Nat} {H : Hp} {s : Shared} (R : GRun2 G e t1 it fp tn vs vs1 σ ms a g gat i H s) : ∃ σw, Inv G [] σw H s := by
  cases R.po with
  | fresh I _ _ => exact ⟨_, I⟩
  | inn _ _ I _ _ _ _ _ => exact ⟨_, I⟩
section
variable {σ : St} {elt t0 i0 t1 i1 : Expr} {ifs0 ifs1 : List Expr} {scope : Scope} {pos : Pos}
theorem gen_next2 {α : Type} {An : Around} {G : Cx} {fp : List Addr} {it : Addr} {tn : Nat → Heap → Prop} {J : It} {g : TG} {tt : TT} {wi1 : TI} {g1 : TG} {tt1 : TT} {te : TE} {vs vs1 : List Nat} {Stp : α → Hp → Prop} {Ste : α → V → Hp → (α → Hp → Prop) → Prop} {pins : List (Addr × Obj)}
    {a : Addr} {gn : Nat} {gat : GAt} {i m : Nat} {acc : α} {H : Hp} {s : Shared} {ms : List Addr} {E : Value → Shared → Prop} {Q : Option Value → Shared → Prop}
    (T : Turn G.prog G.w G.K t0 J fp it tn) (hc : G.calm = true) (hxe : G.xe = fun _ _ => False) (hpn : G.pn = []) (hco : G.env.scope.isCoroutine = false)
    (hA : G.A = An.in1.over (g2Out (gE2 elt t0 i0 t1 i1 ifs0 ifs1 scope pos) it G.env) []) (hh : An.handled = none) (hroom : An.depth < recursionLimit)
    (hg : PG G t0 g) (ht : PTs G ifs0 tt) (hi1 : PI G t1 i1 wi1) (hs1 : ∀ x, foldedSetIterable i1 G.env x = pure x) (hg1 : PG G t1 g1) (ht1 : PTs G ifs1 tt1) (he : PE G elt te) (hv : ∀ i ∈ vs1, i ∈ vs)
    (hfp : ∀ b ∈ fp, b ≠ G.env.locals ∧ b ∉ G.fs ∧ b ∈ G.ex ∧ (∀ x c, G.env.cells.lookup x = some c → c ≠ b))
    (ha : a ≠ G.env.locals ∧ a ∉ G.fs ∧ a ∉ fp)
    (R : GRun2 G (gE2 elt t0 i0 t1 i1 ifs0 ifs1 scope pos) t1 it fp tn vs vs1 σ ms a gn gat i H s)
    (hS : ∀ p ∈ pins, s.heap.get? p.1 = some p.2 ∧ H p.1 = none ∧ p.1 ≠ G.env.locals ∧ p.1 ∉ G.fs ∧ (∀ v, p.2.data ≠ .cell v) ∧ p.1 ∉ fp) (hms : ∀ b, b ∈ ms ↔ ∃ p ∈ pins, p.1 = b)
    (W : gGen2 J g tt wi1 g1 tt1 te vs vs1 σ Stp Ste m gat acc i H)
    (hstop : ∀ H' s', Inv G pins (wipe σ vs) H' s' → Stp acc H' → Q none s')
    (hyld : ∀ u y gat' i' m' H' s' σw, RelV y u → GRun2 G (gE2 elt t0 i0 t1 i1 ifs0 ifs1 scope pos) t1 it fp tn vs vs1 σ ms a gn gat' i' H' s' → Inv G pins σw H' s' → m' < m →
      (∃ Nx : α → Hp → Prop, (∀ acc' H5, Nx acc' H5 → gGen2 J g tt wi1 g1 tt1 te vs vs1 σ Stp Ste m' gat' acc' i' H5) ∧ Ste acc y H' Nx) → Q (some u) s') :
    wpAny (model G.prog G.w) An (pyNext (.ref a)) Q E s := by
  obtain ⟨nfp, isg, na, po⟩ := R
  obtain ⟨oa, nm, qn, hoa, hoc, hod, hos⟩ := id isg
  have hp1 : ∀ p ∈ (a, oa) :: pins, s.heap.get? p.1 = some p.2 ∧ H p.1 = none ∧ p.1 ≠ G.env.locals ∧ p.1 ∉ G.fs ∧ ∀ v, p.2.data ≠ .cell v := fun p hp => by
    rcases List.mem_cons.mp hp with rfl | hp
    · exact ⟨hoa, na, ha.1, ha.2.1, fun v z => by rw [hod] at z; cases z⟩
    · obtain ⟨h1, h2, h3, h4, h5, _⟩ := hS p hp
      exact ⟨h1, h2, h3, h4, h5⟩
  have hfp' : ∀ b ∈ fp, b ≠ G.env.locals ∧ b ∉ G.fs ∧ b ∈ G.ex ∧ (∀ x c, G.env.cells.lookup x = some c → c ≠ b) ∧ ∀ p ∈ G.pn ++ ((a, oa) :: pins), p.1 ≠ b := fun b hb => by
    obtain ⟨h1, h2, h3, h4⟩ := hfp b hb
    refine ⟨h1, h2, h3, h4, fun p hp => ?_⟩
    rw [hpn] at hp
    rcases List.mem_cons.mp hp with rfl | hp
    · exact fun z => ha.2.2 (by rw [show a = b from z]; exact hb)
    · exact fun z => (hS p hp).2.2.2.2.2 (by rw [z]; exact hb)
  have sg := seg2 (elt := elt) (t0 := t0) (i0 := i0) (t1 := t1) (i1 := i1) (ifs0 := ifs0) (ifs1 := ifs1) (scope := scope) (pos := pos) (σ := σ) (Stp := Stp) (Ste := Ste) (pins := (a, oa) :: pins) (Ar := An.in1) T hc hxe hco hA hg ht hi1 hs1 hg1 ht1 he hv hfp' m acc
  have key : ∃ gst, s.gens[gn]? = some gst ∧ GoesK (model G.prog G.w) An.in1 (fun r s1 => r = .ok .next ∧ ∃ H', Inv G ((a, oa) :: pins) (wipe σ vs) H' s1 ∧ (∀ b ∈ fp, H' b = none) ∧ Stp acc H')
        (Yld2 G t1 (gE2 elt t0 i0 t1 i1 ifs0 ifs1 scope pos) it fp tn J g tt wi1 g1 tt1 te vs vs1 σ Stp Ste ((a, oa) :: pins) m acc) gst (.send .none) (s.setGen gn .running) ∧ s.heap.NoLimit := by
    cases po with
    | fresh I st e =>
      have I2 : Inv G ((a, oa) :: pins) (wipe σ vs) H (s.setGen gn .running) := (I.pins_of (pins' := (a, oa) :: pins) hp1).gens (AllBare.set I.bare rfl) fun _ _ e => e
      have loop := sg.1 0 H (s.setGen gn .running) W I2 st nfp
      refine ⟨_, e, ⟨rfl, ?_⟩, I.nolimit⟩
      show SegK _ An.in1 _ _ _ ((compStart (gE2 elt t0 i0 t1 i1 ifs0 ifs1 scope pos) 0 (.ref it) .none G.env).onRaise (leaving G.env)) [] _
      unfold compStart
      rw [Sem.onRaise_eq_wrap]
      show SegK _ An.in1 _ _ _ ((ask >>= _).wrap _ _ _ _) [] _
      refine segK_bind_wrap (wpAny_askSetting ?_)
      split
      · exact segK_again rfl loop
      · first
          | exact segK_bind_wrap (wpAny_rule (segK_bind_wrap (wpAny_standAt (segK_bind_wrap (T.self _ 0 _ _ _ st (segK_again rfl loop))))))
          | (refine segK_bind_wrap (wpAny_rule ?_); show SegK _ An.in1 _ _ _ ((standAt i0.pos >>= _).wrap _ _ _ _) [] _; exact segK_bind_wrap (wpAny_standAt (segK_bind_wrap (T.self _ 0 _ _ _ st (segK_again rfl loop)))))
    | @inn J1 σ2 j i F it1 fp1 tn1 k l p fr hw I st ist av e ek =>
      have I2 := (I.pins_of (pins' := (a, oa) :: pins) hp1).gens (g' := (s.setGen gn .running).gens) (h' := s.heap) (t' := s.toks) (AllBare.set I.bare rfl) fun _ _ e => e
      refine ⟨_, e, ?_, I.nolimit⟩
      show SegK _ An.in1 _ _ _ (k (.send .none)) [F] _
      rw [ek]
      refine segK_again rfl (sg.2 _ _ _ _ _ _ _ _ H (s.setGen gn .running) fr W hw I2 st nfp ⟨ist.T, ist.st, ist.nf, ist.fo⟩ fun p hp b hb => ?_)
      rw [hpn] at hp
      rcases List.mem_cons.mp hp with rfl | hp
      · exact fun z => (av b hb).1 z.symm
      · exact fun z => (av b hb).2 ((hms b).mpr ⟨p, hp, z⟩)
  obtain ⟨gst, hgs, hgo, nol⟩ := key
  refine next_genK hh nol hroom isg hgs hgo (fun v k' c' fs' l' p' s1 hy hlt => ?_) (fun s1 hp hlt h' hk => ?_)
  · obtain ⟨F, it1, fr, rfl, rfl, ek, y, i', m', H', J1, σ2, fp1, tn1, j, ry, hw, I', st', nf', ist, np, hm, q⟩ := hy
    have I3 : Inv G ((a, oa) :: pins) (wipe σ2 vs1) H' (s1.setGen gn (.suspended k' l' (g2In (gE2 elt t0 i0 t1 i1 ifs0 ifs1 scope pos) it1 G.env) p' [F] false)) := I'.gens (AllBare.set I'.bare rfl) fun _ _ e => e
    have pa := I'.pin (a, oa) (List.mem_append_right _ List.mem_cons_self)
    refine hyld v y (.inn J1 σ2 j) i' m' H' _ (wipe σ2 vs1) ry ⟨nf', ⟨oa, nm, qn, pa.1, hoc, hod, hos⟩, pa.2.1, .inn fr hw (I3.pins_of fun p hp => absurd hp (by simp)) st' ⟨ist.T, ist.st, ist.nf, ist.fo⟩ (fun b hb => ⟨fun z => np (a, oa) (by rw [hpn]; exact List.mem_cons_self) b hb z.symm, fun z => ?_⟩) (setGen_get hlt) ek⟩ (I3.pins_of fun p hp => I3.pin p (List.mem_append_right _ (List.mem_cons_of_mem _ hp))) hm q
    obtain ⟨p, hp, e⟩ := (hms b).mp z
    exact np p (by rw [hpn]; exact List.mem_cons_of_mem _ hp) b hb e
  · obtain ⟨H', I', nf', q⟩ := hp
    have I3 : Inv G ((a, oa) :: pins) (wipe σ vs) H' { s1.setGen gn .finished with heap := h' } := I'.gens (AllBare.set I'.bare rfl) hk
    exact hstop H' _ (I3.pins_of fun p hp => I3.pin p (List.mem_append_right _ (List.mem_cons_of_mem _ hp))) q
end
end L2

namespace L2
open PySem PySem.Spec PyProof.Rows
section
variable {X : Cx}
theorem gen_made2 {pins : List (Addr × Obj)} {σ : St} {H : Hp} {s : Shared} {elt tg iter t1 i1 : Expr} {ifs ifs1 : List Expr} {scope : Scope} {own : List (Str × Nat)} {vs1 : List Nat} {pos : Pos} {wi : TI} {c P : Addr} {ps : Array Value} {Rr : It → Hp → Prop} {Q : Value → Shared → Prop}
    (hN : X.N.Nodup) (hi : PI X tg iter wi) (ok : BlkOk X.N X.env.scope scope own) (gs : GenSc scope) (hcode : X.env.code = .ref c) (C : CodeK X.K c P) (B : BmK X.base X.mg) (hroom : X.A.depth < recursionLimit) (hs : ∀ x, genFold iter X.env x = pure x)
    (I : Inv X pins σ H s) (hw : wi σ H fun J H1 => H1 P = some (tbO P ps) ∧ Rr J H1)
    (h : ∀ (J : It) (it : Addr) (fp : List Addr) (tn : Nat → Heap → Prop) (s4 : Shared) (H1 : Hp) (code : Value) (a : Addr) (g : Nat) (s5 : Shared), Turn X.prog X.w X.K tg J fp it tn → Inv X pins σ H1 s4 → (∀ b ∈ fp, FpOk X pins H1 b ∧ b < s4.heap.objs.size) → Rr J H1 →
      a ≠ s4.heap.objs.size → a ∉ frs X.stack → a ∉ fp → s4.heap.objs.size < s5.heap.objs.size →
      (∀ (A : Around) (ms : List Addr), A.frames = some (genvOf X scope s4.heap.objs.size code :: X.stack) → A.handled = none →
        GRun2 (gcx X A s4 H1 (genvOf X scope s4.heap.objs.size code) fp) (gE2 elt tg iter t1 i1 ifs ifs1 scope pos) t1 it fp tn (own.map (·.2)) vs1 σ ms a g .out 0 H1 s5) →
      Q (.ref a) s5) :
    wpAny (model X.prog X.w) X.A (eval (gE2 elt tg iter t1 i1 ifs ifs1 scope pos) X.env) Q X.xe s := by
  have hfree : ∀ y ∈ scope.names, y.2 = .free → ∃ c, X.env.cells.lookup y.1 = some c := fun y hy e => by
    rcases ok.free y hy e with k | k
    · exact I.ok.has _ (.inl k)
    · exact I.ok.has _ (.inr k)
  refine make_gen2 gs.co (closure_ok hfree) gs.cell gs.dot ok.kind hroom hs (thn (hi pins s σ H _ I hw) fun xv s1 h1 => thn h1 fun itv s2 h2 => ?_)
  obtain ⟨it, fp, tn, J, H2, e, I2, T, st2, f2, hP, rr⟩ := h2
  subst e
  refine ⟨I2.nolimit, gcode_ok I2 hcode C hP fun code h3 tk3 I3 hx3 hsz3 => ?_⟩
  obtain ⟨bm, ob, b1, b2, b3, b4, b5, b6⟩ := B.ex
  refine wpAny_builtinsFor (m := X.mg) (by rw [I3.ok.glob]; exact I3.mod.glob.keeps I3.bk) b1 b2 (I3.bk bm ob b3) b4 b5 b6 ?_
  have nP : ∀ b ∈ fp, b ≠ P := fun b hb z => by
    have q := (f2 b hb).1
    rw [z, hP] at q; cases q
  have st3 : tn 0 h3 := T.keep _ _ _ st2 fun b hb o e => hx3 b o (nP b hb) e
  have sz3 : ∀ b ∈ fp, b < h3.objs.size := fun b hb => by
    obtain ⟨o, e, _⟩ := T.obj _ _ st3 b hb
    exact Heap.lt_size e
  intro h' hn' hs'
  have hsz : h'.objs.size = h3.objs.size + 1 := by rw [hs'.1]; exact Heap.size_push _ _
  have keep' : ∀ b o, h3.get? b = some o → h'.get? b = some o := fun b o e => hs'.extBut b o (Nat.ne_of_lt (Heap.lt_size e)) (Heap.get?_push_of_some _ e)
  have ane : h'.objs.size ≠ h3.objs.size := by rw [hsz]; exact Nat.succ_ne_self _
  have afr : h'.objs.size ∉ frs X.stack := fun z => by
    rcases List.mem_cons.mp (I3.stkSub _ z) with e | e
    · have := I3.lt
      rw [← e, hsz] at this
      exact absurd (Nat.lt_of_succ_lt this) (Nat.lt_irrefl _)
    · exact I3.nofs (a := h'.objs.size) (by rw [hsz]; exact Nat.le_succ _) e
  have afp : h'.objs.size ∉ fp := fun z => by
    have q := sz3 _ z
    rw [hsz] at q
    exact absurd (Nat.lt_of_succ_lt q) (Nat.lt_irrefl _)
  refine h J it fp tn _ H2 code h'.objs.size s2.gens.size _ T I3 (fun b hb => ⟨f2 b hb, sz3 b hb⟩) rr ane afr afp (by show h3.objs.size < (h'.push _).objs.size; rw [Heap.size_push, hsz]; exact Nat.lt_succ_of_lt (Nat.lt_succ_self _)) fun A ms hA hh => ?_
  refine ⟨fun b hb => (f2 b hb).1, ⟨_, _, _, Heap.get?_push_size _ rfl, rfl, rfl, rfl⟩, I3.hok.fresh (by rw [hsz]; exact Nat.le_succ _), .fresh (gen_start I3 ok gs hN (fun b hb => ⟨f2 b hb, sz3 b hb⟩) hA hh (fun b o e => Heap.get?_push_of_some _ (keep' b o e)) (hn'.push _) (AllBare.push I3.bare rfl)) (T.keep _ _ _ st3 fun b _ o e => Heap.get?_push_of_some _ (keep' b o e)) (Array.getElem?_push_size ..)⟩
end
theorem over2_frames {A : Around} {it : Addr} {genv : Env} {st : List Env} {elt t0 i0 t1 i1 : Expr} {ifs0 ifs1 : List Expr} {scope : Scope} {pos : Pos} (h : A.frames = some st) : (A.over (g2Out (gE2 elt t0 i0 t1 i1 ifs0 ifs1 scope pos) it genv) []).frames = some (genv :: st) := by
  unfold Around.over
  simp only [pushEnvs_eq, h]
  rfl
theorem Room.gen2 {k : Nat} {A An : Around} {elt t0 i0 t1 i1 : Expr} {ifs0 ifs1 : List Expr} {scope : Scope} {pos : Pos} {it : Addr} {genv : Env} (r : Room (k + 1) A) (h1 : An.handled = A.handled) (h2 : An.depth = A.depth) (h3 : An.units ≤ A.units + 6) (h4 : An.guards = A.guards) :
    Room k (An.in1.over (g2Out (gE2 elt t0 i0 t1 i1 ifs0 ifs1 scope pos) it genv) []) := by
  refine ⟨h1.trans r.hd, ?_, ?_, ?_⟩
  · have q := r.dp
    have e : (An.in1.over (g2Out (gE2 elt t0 i0 t1 i1 ifs0 ifs1 scope pos) it genv) []).depth = An.depth + 1 := by
      show An.depth + 0 + _ = _
      rfl
    rw [e, h2]; omega
  · have q := r.un
    have e : (An.in1.over (g2Out (gE2 elt t0 i0 t1 i1 ifs0 ifs1 scope pos) it genv) []).units = An.units + 4 := by
      show An.units + 1 + 0 + _ = _
      rfl
    rw [e]; omega
  · have e : (An.in1.over (g2Out (gE2 elt t0 i0 t1 i1 ifs0 ifs1 scope pos) it genv) []).guards = An.guards := by
      unfold Around.over
      simp only [pushGuards_eq]
      show Option.map _ (Option.map _ An.guards) = _
      cases An.guards <;> rfl
    rw [e, h4]; exact r.gd
structure GSet2 (X : Cx) (An : Around) (pins : List (Addr × Obj)) (σ : St) (elt t0 i0 t1 i1 : Expr) (ifs0 ifs1 : List Expr) (scope : Scope) (pos : Pos) (it : Addr) (fp : List Addr) (tn : Nat → Heap → Prop) (J : It) (g : TG) (tt : TT) (wi1 : TI) (g1 : TG) (tt1 : TT) (te : TE) (vs vs1 : List Nat)
    (a : Addr) (s4 : Shared) (H1 : Hp) (code : Value) (G : Cx) : Prop where
  eG : G = gcx X (An.in1.over (g2Out (gE2 elt t0 i0 t1 i1 ifs0 ifs1 scope pos) it (genvOf X scope s4.heap.objs.size code)) []) s4 H1 (genvOf X scope s4.heap.objs.size code) fp
  T : Turn X.prog X.w X.K t0 J fp it tn
  hc : X.calm = true
  co : scope.isCoroutine = false
  hh : An.handled = none
  hroom : An.depth < recursionLimit
  hg : PG G t0 g
  ht : PTs G ifs0 tt
  hi1 : PI G t1 i1 wi1
  hs1 : ∀ x, foldedSetIterable i1 G.env x = pure x
  hg1 : PG G t1 g1
  ht1 : PTs G ifs1 tt1
  he : PE G elt te
  hv : ∀ i ∈ vs1, i ∈ vs
  I4 : Inv X pins σ H1 s4
  hfp : ∀ b ∈ fp, FpOk X pins H1 b ∧ b < s4.heap.objs.size
  ane : a ≠ s4.heap.objs.size
  afr : a ∉ frs X.stack
  afp : a ∉ fp
section
variable {α : Type} {X : Cx} {An : Around} {pins : List (Addr × Obj)} {σ : St} {elt t0 i0 t1 i1 : Expr} {ifs0 ifs1 : List Expr} {scope : Scope} {pos : Pos} {it : Addr} {fp : List Addr} {tn : Nat → Heap → Prop} {J : It} {g : TG} {tt : TT} {wi1 : TI} {g1 : TG} {tt1 : TT} {te : TE} {vs vs1 : List Nat} {a : Addr} {s4 : Shared} {H1 : Hp} {code : Value} {G : Cx}
  {Stp : α → Hp → Prop} {Ste : α → V → Hp → (α → Hp → Prop) → Prop}
abbrev GR2 (G : Cx) (elt t0 i0 t1 i1 : Expr) (ifs0 ifs1 : List Expr) (scope : Scope) (pos : Pos) (it : Addr) (fp : List Addr) (tn : Nat → Heap → Prop) (vs vs1 : List Nat) (σ : St) (ms : List Addr) (a : Addr) (gn : Nat) (gat : GAt) (i : Nat) (H : Hp) (s : Shared) : Prop :=
  GRun2 G (gE2 elt t0 i0 t1 i1 ifs0 ifs1 scope pos) t1 it fp tn vs vs1 σ ms a gn gat i H s
theorem GSet2.nofr (Z : GSet2 X An pins σ elt t0 i0 t1 i1 ifs0 ifs1 scope pos it fp tn J g tt wi1 g1 tt1 te vs vs1 a s4 H1 code G) {S : Addr} (h : s4.heap.objs.size < S) : S ∉ frs X.stack := fun z => by
  rcases List.mem_cons.mp (Z.I4.stkSub _ z) with e | e
  · have q := Z.I4.lt
    rw [← e] at q
    exact absurd (Nat.lt_trans h q) (Nat.lt_irrefl _)
  · exact Z.I4.nofs (a := S) (Nat.le_of_lt h) e
theorem GSet2.next (Z : GSet2 X An pins σ elt t0 i0 t1 i1 ifs0 ifs1 scope pos it fp tn J g tt wi1 g1 tt1 te vs vs1 a s4 H1 code G) {gn i m : Nat} {gat : GAt} {acc : α} {H : Hp} {s : Shared} {E : Value → Shared → Prop} {Q : Option Value → Shared → Prop} {S : Addr} {oS : Obj}
    (R : GR2 G elt t0 i0 t1 i1 ifs0 ifs1 scope pos it fp tn vs vs1 σ [S] a gn gat i H s) (W : gGen2 J g tt wi1 g1 tt1 te vs vs1 σ Stp Ste m gat acc i H)
    (hS : s.heap.get? S = some oS) (hn : H S = none) (hd : ∀ v, oS.data ≠ .cell v) (mi : Mine X a fp s4 S)
    (hstop : ∀ H' s', Inv X pins σ H' s' → s'.heap.get? S = some oS → Stp acc H' → Q none s')
    (hyld : ∀ u y gat' i' m' H' s', RelV y u → GR2 G elt t0 i0 t1 i1 ifs0 ifs1 scope pos it fp tn vs vs1 σ [S] a gn gat' i' H' s' → s'.heap.get? S = some oS → H' S = none → m' < m →
      (∃ Nx : α → Hp → Prop, (∀ acc' H5, Nx acc' H5 → gGen2 J g tt wi1 g1 tt1 te vs vs1 σ Stp Ste m' gat' acc' i' H5) ∧ Ste acc y H' Nx) → Q (some u) s') :
    wpAny (model X.prog X.w) An (pyNext (.ref a)) Q E s := by
  obtain ⟨eG, T, hc, co, hh, hroom, hg, ht, hi1, hs1, hg1, ht1, he, hv, I4, hfp, ane, afr, afp⟩ := id Z
  subst eG
  obtain ⟨σ0, inv⟩ := GRun2.inv R
  refine gen_next2 (G := gcx X (An.in1.over (g2Out (gE2 elt t0 i0 t1 i1 ifs0 ifs1 scope pos) it (genvOf X scope s4.heap.objs.size code)) []) s4 H1 (genvOf X scope s4.heap.objs.size code) fp) (An := An) (pins := [(S, oS)]) (ms := [S]) T hc rfl rfl co rfl hh hroom hg ht hi1 hs1 hg1 ht1 he hv
    (fun b hb => ⟨Nat.ne_of_lt (hfp b hb).2, ?_, hb, fun x c e z => ?_⟩) ⟨ane, afr, afp⟩ R (fun p hp => ?_) (fun b => by simp [eq_comm]) W (fun H' s' I' q => ?_) (fun u y gat' i' m' H' s' σw ry R' I' hm q => ?_)
  · intro z
    rcases List.mem_cons.mp (I4.stkSub b z) with z | z
    · exact (hfp b hb).1.2.1 z
    · exact (hfp b hb).1.2.2.1 z
  · exact (inv.ok.exf b hb).2 x c e z
  · obtain rfl : p = _ := List.mem_singleton.mp hp
    exact ⟨hS, hn, Nat.ne_of_gt mi.ge, Z.nofr mi.ge, hd, fun z => absurd (Nat.lt_trans mi.ge (hfp _ z).2) (Nat.lt_irrefl _)⟩
  · exact hstop H' s' (gback I4 (fun b hb => (hfp b hb).1) I') (I'.pin (S, oS) (List.mem_append_right _ List.mem_cons_self)).1 q
  · have z := I'.pin (S, oS) (List.mem_append_right _ List.mem_cons_self)
    exact hyld u y gat' i' m' H' s' ry R' z.1 z.2.1 hm q
theorem GSet2.move (Z : GSet2 X An pins σ elt t0 i0 t1 i1 ifs0 ifs1 scope pos it fp tn J g tt wi1 g1 tt1 te vs vs1 a s4 H1 code G) {gn i : Nat} {gat : GAt} {H : Hp} {s : Shared} {S : Addr} {h' : Heap} {tk : Nat} (R : GR2 G elt t0 i0 t1 i1 ifs0 ifs1 scope pos it fp tn vs vs1 σ [S] a gn gat i H s) (mi : Mine X a fp s4 S) (hn : H S = none)
    (k : ∀ b o, b ≠ S → s.heap.get? b = some o → h'.get? b = some o) : GR2 G elt t0 i0 t1 i1 ifs0 ifs1 scope pos it fp tn vs vs1 σ [S] a gn gat i H { s with heap := h', toks := tk } := by
  obtain ⟨eG, T, hc, co, hh, hroom, hg, ht, hi1, hs1, hg1, ht1, he, hv, I4, hfp, ane, afr, afp⟩ := id Z
  subst eG
  have nS : S ∉ fp := fun z => absurd (Nat.lt_trans mi.ge (hfp _ z).2) (Nat.lt_irrefl _)
  have turn : ∀ {σw : St}, Inv (gcx X (An.in1.over (g2Out (gE2 elt t0 i0 t1 i1 ifs0 ifs1 scope pos) it (genvOf X scope s4.heap.objs.size code)) []) s4 H1 (genvOf X scope s4.heap.objs.size code) fp) [] σw H s → Inv (gcx X (An.in1.over (g2Out (gE2 elt t0 i0 t1 i1 ifs0 ifs1 scope pos) it (genvOf X scope s4.heap.objs.size code)) []) s4 H1 (genvOf X scope s4.heap.objs.size code) fp) [] σw H { s with heap := h', toks := tk } := fun {σw} inv => by
    refine inv.turned (it := S) (t' := tk) (fun b o hb e => k b o hb e) hn (Nat.ne_of_gt mi.ge) (.inr (Nat.le_of_lt mi.ge)) (fun x c e z => ?_) (fun p hp => absurd (show p ∈ ([] : List (Addr × Obj)) ++ [] from hp) (by simp))
    obtain ⟨v, q⟩ := inv.cell x c e
    rcases cloFrom_mem (PySem.mem_of_lookup (show (cloFrom X.env.cells scope.names []).lookup x = some c from e)) with hm | ⟨h1, h2⟩
    · cases hm
    · have : S < s4.heap.objs.size := by
        rw [← z]
        cases hl : X.env.cells.lookup x with
        | none => rw [hl] at h2; rw [h2]; exact Nat.lt_of_le_of_lt (Nat.zero_le _) I4.lt
        | some c2 =>
          rw [hl] at h2
          obtain ⟨v2, q2⟩ := I4.cell x c2 hl
          rw [h2]; exact q2.lt
      exact absurd (Nat.lt_trans mi.ge this) (Nat.lt_irrefl _)
  obtain ⟨nfp, isg, na, po⟩ := R
  have isg' : h'.IsGen a gn := by
    obtain ⟨o, nm, qn, ho, r⟩ := isg
    exact ⟨o, nm, qn, k a o (Ne.symm mi.ne) ho, r⟩
  refine ⟨nfp, isg', na, ?_⟩
  cases po with
  | fresh I st e => exact .fresh (turn I) (T.keep _ _ _ st fun b hb o e => k b o (fun z => nS (z ▸ hb)) e) e
  | @inn J1 σ2 j i F it1 fp1 tn1 k' l p fr hw I st ist av e ek =>
    refine .inn fr hw (turn I) (T.keep _ _ _ st fun b hb o e => k b o (fun z => nS (z ▸ hb)) e) ⟨ist.T, ist.T.keep _ _ _ ist.st fun b hb o e => k b o (fun z => (av b hb).2 (by rw [z]; exact List.mem_cons_self)) e, ist.nf, ist.fo⟩ av e ek
theorem GSet2.grow (Z : GSet2 X An pins σ elt t0 i0 t1 i1 ifs0 ifs1 scope pos it fp tn J g tt wi1 g1 tt1 te vs vs1 a s4 H1 code G) {gn i : Nat} {gat : GAt} {H : Hp} {s : Shared} {ms : List Addr} {h' : Heap} {tk : Nat} (R : GR2 G elt t0 i0 t1 i1 ifs0 ifs1 scope pos it fp tn vs vs1 σ ms a gn gat i H s)
    (k : ∀ b o, s.heap.get? b = some o → h'.get? b = some o) : GR2 G elt t0 i0 t1 i1 ifs0 ifs1 scope pos it fp tn vs vs1 σ ms a gn gat i H { s with heap := h', toks := tk } := by
  obtain ⟨nfp, isg, na, po⟩ := R
  refine ⟨nfp, isg.keeps k, na, ?_⟩
  cases po with
  | fresh I st e => exact .fresh (I.kept k) (Z.T.keep _ _ _ st fun b _ o e => k b o e) e
  | @inn J1 σ2 j i F it1 fp1 tn1 k' l p fr hw I st ist av e ek => exact .inn fr hw (I.kept k) (Z.T.keep _ _ _ st fun b _ o e => k b o e) ⟨ist.T, ist.T.keep _ _ _ ist.st fun b _ o e => k b o e, ist.nf, ist.fo⟩ av e ek
end
end L2

namespace L2
open PySem PySem.Spec PyProof.Rows
section
variable {X : Cx} {x : Str} {p pos pos' : Pos} {c P : Addr} {ps : Array Value} {wi wi1 : TI} {g g1 : TG} {tt tt1 : TT} {te : TE} {elt t0 i0 t1 i1 : Expr} {ifs0 ifs1 : List Expr} {scope : Scope} {own : List (Str × Nat)} {vs1 : List Nat} {k : Nat}
theorem ext_loop2 {A : Around} {pins : List (Addr × Obj)} {σ : St} {it : Addr} {fp : List Addr} {tn : Nat → Heap → Prop} {J : It} {vs : List Nat} {a : Addr} {s4 : Shared} {H1 : Hp} {code : Value} {G : Cx} {gn : Nat} {Q : VK} {R : Result → Shared → Prop} {S : Addr} {res : Value}
    (Z : GSet2 X A.in1 pins σ elt t0 i0 t1 i1 ifs0 ifs1 scope pos it fp tn J g tt wi1 g1 tt1 te vs vs1 a s4 H1 code G) (mi : Mine X a fp s4 S)
    (hR : ∀ H' s' acc us cc, Inv X pins σ H' s' → Vals acc us → s'.heap.get? S = some { cls := .type "list", dict := none, data := .seq us.toArray cc, slots := #[] } → sTup Q acc H' → R (.ok (.ret res)) s') :
    ∀ (m : Nat) (gat : GAt) (i : Nat) (acc : List V) (us : List Value) (H : Hp) (s : Shared) (cc : Nat), GR2 G elt t0 i0 t1 i1 ifs0 ifs1 scope pos it fp tn vs vs1 σ [S] a gn gat i H s → gGen2 J g tt wi1 g1 tt1 te vs vs1 σ (sTup Q) (eTup Q) m gat acc i H →
      s.heap.get? S = some { cls := .type "list", dict := none, data := .seq us.toArray cc, slots := #[] } → Vals acc us → H S = none →
      codeAny (model X.prog X.w) A (.builtin "list.extend.loop" ⟨[.ref S, .ref a, res], []⟩) R s := by
  intro m
  induction m using Nat.strongRecOn with
  | ind m ih =>
    intro gat i acc us H s cc gr w hS rv hn
    refine codeAny_builtin F.entry_extend_loop ?_
    rw [Around.under_plainId F.plain_extend_loop _]
    show wpAny _ A.in1 (pyNext (.ref a) >>= _) _ _ s
    refine wpAny_bind (Z.next (S := S) (oS := { cls := .type "list", dict := none, data := .seq us.toArray cc, slots := #[] }) gr w hS hn (fun v z => by cases z) mi (fun H' s' I' hS' q => ?_) (fun u y gat' i' m' H' s' ry gr' hS' hn' hm q => ?_))
    · exact wpAny_pure (hR H' s' acc us cc I' rv hS' q)
    · obtain ⟨Nx, hN, hz, q⟩ := q
      show wpAny _ A.in1 (updateSeq S (·.push u) >>= _) _ _ _
      refine wpAny_bind ?_
      have hl := rv.length
      have e1 : us.toArray.push u = (us ++ [u]).toArray := by simp
      have hS2 := Heap.get?_update_self (Obj.mapSeq (·.push u)) hS' rfl
      obtain ⟨c3, hS3⟩ : ∃ c3, (s'.heap.update S (Obj.mapSeq (·.push u))).get? S = some { cls := .type "list", dict := none, data := .seq (us ++ [u]).toArray c3, slots := #[] } := ⟨_, by rw [← e1]; exact hS2⟩
      refine wpAny_updateSeq hS' rfl (wpAny_pure ⟨plainId_quiet F.plain_extend_loop _, ih m' hm gat' i' (acc ++ [y]) (us ++ [u]) H' _ c3 (Z.move (s := s') gr' mi hn' fun b o hb e => ?_) (hN _ _ q) hS3 (rv.append (.cons ry .nil)) hn'⟩) (by simp; omega) (by simp; omega)
      exact (Heap.get?_update_other _ _ (Ne.symm hb)).trans e
theorem collect_gen2 {A : Around} {E : Value → Shared → Prop} {pins : List (Addr × Obj)} {σ : St} {it : Addr} {fp : List Addr} {tn : Nat → Heap → Prop} {J : It} {vs : List Nat} {a : Addr} {s4 : Shared} {H1 : Hp} {code : Value} {G : Cx} {gn m : Nat} {Q : VK} {s5 : Shared} {Qf : List Value → Shared → Prop}
    (Z : GSet2 X A.in1 pins σ elt t0 i0 t1 i1 ifs0 ifs1 scope pos it fp tn J g tt wi1 g1 tt1 te vs vs1 a s4 H1 code G) (hsz : s4.heap.objs.size < s5.heap.objs.size)
    (gr : ∀ ms, GR2 G elt t0 i0 t1 i1 ifs0 ifs1 scope pos it fp tn vs vs1 σ ms a gn .out 0 H1 s5) (w : gGen2 J g tt wi1 g1 tt1 te vs vs1 σ (sTup Q) (eTup Q) m .out [] 0 H1)
    (hQ : ∀ H' s' acc us, Inv X pins σ H' s' → Vals acc us → sTup Q acc H' → Qf us s') : wpAny (model X.prog X.w) A (collect (.ref a)) Qf E s5 := by
  have hT := (gr []).isg.typeIs
  obtain ⟨oa, nm, qn, hoa, _⟩ := id (gr []).isg
  have hSa : s5.heap.objs.size ≠ a := Nat.ne_of_gt (Heap.lt_size hoa)
  unfold collect
  refine wpAny_bind (wpAny_runValue (codeAny_builtin F.entry_proto_collect ?_))
  rw [Around.under_plainId F.plain_proto_collect _]
  show wpAny _ A.in1 (newList [] >>= fun l => again (.builtin "list.__iadd__" ⟨[l, .ref a], []⟩)) _ _ s5
  refine wpAny_bind (wpAny_newObj_type ?_)
  refine wpAny_pure ⟨plainId_quiet F.plain_list_iadd _, codeAny_builtin F.entry_list_iadd ?_⟩
  rw [Around.under_plainId F.plain_list_iadd _]
  show wpAny _ A.in1 (Builtin.List.listExtendWith (.ref s5.heap.objs.size) (.ref a) (.ref s5.heap.objs.size)) _ _ _
  generalize hSS : s5.heap.objs.size = S at hSa ⊢
  have mi : Mine X a fp s4 S := ⟨by rw [← hSS]; exact hsz, hSa⟩
  have gr1 := Z.grow (h' := s5.heap.push { cls := .type "list", data := .seq ([] : List Value).toArray }) (tk := s5.toks) (gr [S]) fun b o e => Heap.get?_push_of_some _ e
  have hS : (s5.heap.push { cls := .type "list", data := .seq ([] : List Value).toArray }).get? S = some { cls := .type "list", data := .seq #[] 0 } := by rw [← hSS]; exact Heap.get?_push_size _ rfl
  have hT1 : ({ s5 with heap := s5.heap.push { cls := .type "list", data := .seq ([] : List Value).toArray } } : Shared).TypeIs (.ref a) "generator" := gr1.isg.typeIs
  unfold Builtin.List.listExtendWith
  refine wpAny_bind (wpAny_typeOf hT1 ?_)
  have h1 : Builtin.List.listSameRef (.ref S) (.ref a) = false := by simp [Builtin.List.listSameRef, hSa]
  have h2 : (Value.type "generator" == Value.type "list") = false := by decide
  have h3 : (Value.type "generator" == Value.type "tuple") = false := by decide
  simp only [h1, h2, h3, Bool.or_false, Bool.false_eq_true, if_false]
  refine wpAny_bind (wpAny_pyIter_gen gr1.isg ?_)
  refine wpAny_bind (wpAny_holding ?_)
  unfold Builtin.List.listLengthHint
  refine wpAny_bind (wpAny_specialOf hT1 F.gen_no_len ?_)
  show wpAny _ A.in1 (specialOf (Value.ref a) (Str.ofString "__length_hint__") >>= _) _ _ _
  refine wpAny_bind (wpAny_specialOf hT1 F.gen_no_hint ?_)
  refine wpAny_pure ?_
  show wpAny _ A.in1 (rule "list.extend.makes-room" >>= fun _ => Builtin.List.listTouch (.ref S) >>= fun _ =>
    again (.builtin "list.extend.loop" ⟨[.ref S, .ref a, .ref S], []⟩)) _ _ _
  refine wpAny_bind (wpAny_rule ?_)
  refine wpAny_bind ?_
  show wpAny _ A.in1 (updateSeq S (·.push .none) >>= fun _ => updateSeq S (·.pop)) _ _ _
  refine wpAny_bind (wpAny_updateSeq hS rfl ?_)
  have hS₂ := Heap.get?_update_self (Obj.mapSeq (·.push Value.none)) hS rfl
  refine wpAny_updateSeq (hz := by seq_fits) hS₂ rfl ?_
  have hS₃ := Heap.get?_update_self (Obj.mapSeq (·.pop)) hS₂ rfl
  have hn1 : H1 S = none := (let ⟨_, I⟩ := (gr []).inv; I.hok.fresh (Nat.le_of_eq hSS))
  refine wpAny_pure ⟨plainId_quiet F.plain_extend_loop _, ext_loop2 (A := A) Z mi (fun H' s' acc us cc I' rv hS' q => ?_) m .out 0 [] [] H1 _ _ (Z.move (s := { s5 with heap := s5.heap.push { cls := .type "list", data := .seq ([] : List Value).toArray } }) gr1 mi hn1 fun b o hb e => ?_) w hS₃ .nil hn1⟩
  · show wpAny _ A (load S >>= _) _ _ _
    refine wpAny_bind (wpAny_load hS' ?_)
    refine wpAny_pure ?_
    have e : us.toArray.toList = us := by simp
    show Qf us.toArray.toList s'
    rw [e]
    exact hQ H' s' acc us I' rv q
  · exact (Heap.get?_update_other _ _ (Ne.symm hb)).trans ((Heap.get?_update_other _ _ (Ne.symm hb)).trans e)

def tGC2 {α : Type} (P : Addr) (ps : Array Value) (wi : TI) (g : TG) (tt : TT) (wi1 : TI) (g1 : TG) (tt1 : TT) (te : TE) (vs vs1 : List Nat) (a0 : α) (Stp : VK → α → Hp → Prop) (Ste : VK → α → V → Hp → (α → Hp → Prop) → Prop) : TE := fun σ H Q =>
  wi σ H fun J H1 => H1 P = some (tbO P ps) ∧ ∃ m, gGen2 J g tt wi1 g1 tt1 te vs vs1 σ (Stp Q) (Ste Q) m .out a0 0 H1
theorem pe_tupG2 (L : GenPl X k c P scope own) (hgl : Gl X "tuple") (hm : X.mg "tuple" = none) (hi : PI X t0 i0 wi) (hv : ∀ i ∈ vs1, i ∈ own.map (·.2))
    (hg : ∀ (A : Around) (s : Shared) (H : Hp) (C : Addr) (code : Value) (fp : List Addr), PG (gcx X A s H (genvOf X scope C code) fp) t0 g)
    (ht : ∀ (A : Around) (s : Shared) (H : Hp) (C : Addr) (code : Value) (fp : List Addr), Room k A → PTs (gcx X A s H (genvOf X scope C code) fp) ifs0 tt)
    (hi1 : ∀ (A : Around) (s : Shared) (H : Hp) (C : Addr) (code : Value) (fp : List Addr), Room k A → PI (gcx X A s H (genvOf X scope C code) fp) t1 i1 wi1)
    (hg1 : ∀ (A : Around) (s : Shared) (H : Hp) (C : Addr) (code : Value) (fp : List Addr), PG (gcx X A s H (genvOf X scope C code) fp) t1 g1)
    (ht1 : ∀ (A : Around) (s : Shared) (H : Hp) (C : Addr) (code : Value) (fp : List Addr), Room k A → PTs (gcx X A s H (genvOf X scope C code) fp) ifs1 tt1)
    (he : ∀ (A : Around) (s : Shared) (H : Hp) (C : Addr) (code : Value) (fp : List Addr), Room k A → PE (gcx X A s H (genvOf X scope C code) fp) elt te)
    (hs : ∀ x, genFold i0 X.env x = pure x := by intro _; rfl) (hs1 : ∀ env x, foldedSetIterable i1 env x = pure x := by intro _ _; rfl)
    (hst : starEach [gE2 elt t0 i0 t1 i1 ifs0 ifs1 scope pos] X.env = [(false, eval (gE2 elt t0 i0 t1 i1 ifs0 ifs1 scope pos) X.env)] := by rfl) :
    PE X (.Call (.Name "tuple" p) [gE2 elt t0 i0 t1 i1 ifs0 ifs1 scope pos] [] pos') (tGC2 P ps wi g tt wi1 g1 tt1 te (own.map (·.2)) vs1 [] sTup eTup) := by
  intro pins s σ H Q I h
  refine wpAny_Call_Name_kw (ld_blt I hgl hm (u := .type "tuple") (by decide +kernel) ?_)
  refine PyProof.Rows.callWith_type1 ?_ hst rfl
  rw [hst]
  show wpAny _ _ (spliced ((false, eval (gE2 elt t0 i0 t1 i1 ifs0 ifs1 scope pos) X.env) :: backTo pos' [])) _ _ s
  refine Calls.spliced_cons (gen_made2 (vs1 := vs1) L.nd hi L.blk L.sc L.code L.ck L.bm L.room.depth hs I h fun J it fp tn s4 H1 code a gn s5 T I4 f4 rr ane afr afp hsz gr0 => Calls.spliced_nil ?_)
  obtain ⟨m, w⟩ := rr
  have hF : X.A.in1.in1.in1.in1.frames = some X.stack := I.ok.frames
  have hr : Room k (X.A.in1.in1.in1.in1.over (g2Out (gE2 elt t0 i0 t1 i1 ifs0 ifs1 scope pos) it (genvOf X scope s4.heap.objs.size code)) []) := L.room.gen2 (An := X.A.in1.in1.in1) rfl rfl (by show X.A.units + 1 + 1 + 1 ≤ _; omega) rfl
  have Z : GSet2 X X.A.in1.in1.in1 pins σ elt t0 i0 t1 i1 ifs0 ifs1 scope pos it fp tn J g tt wi1 g1 tt1 te (own.map (·.2)) vs1 a s4 H1 code _ := ⟨rfl, T, L.calm, L.sc.co, I.ok.hd L.calm, L.room.depth, hg _ _ _ _ _ _, ht _ _ _ _ _ _ hr, hi1 _ _ _ _ _ _ hr, hs1 _, hg1 _ _ _ _ _ _, ht1 _ _ _ _ _ _ hr, he _ _ _ _ _ _ hr, hv, I4, f4, ane, afr, afp⟩
  have gr := fun (ms : List Addr) => gr0 (X.A.in1.in1.in1.in1.over (g2Out (gE2 elt t0 i0 t1 i1 ifs0 ifs1 scope pos) it (genvOf X scope s4.heap.objs.size code)) []) ms (over2_frames hF) (I.ok.hd L.calm)
  refine callType_codes (Q₁ := fun obj s₁ => s₁.TypeIs obj "tuple" ∧ EP X pins σ Q obj s₁) F.called_tuple (F.typeCall_tuple_1 _) F.entry_object_init ?_ fun obj s₁ h₁ => ?_
  · refine codeAny_of_tree ?_
    show wpAny _ X.A.in1.in1 (do checkBuiltinCall "tuple.__new__" ⟨[.type "tuple", .ref a], []⟩; again (.builtin "tuple.__new__" ⟨[.type "tuple", .ref a], []⟩)) _ _ s5
    refine wpAny_bind (wpAny_of_eq (F.newCall_tuple_1 _) (wpAny_pure ⟨plainId_quiet F.plain_tuple_new _, codeAny_builtin F.entry_tuple_new ?_⟩))
    rw [Around.under_plainId F.plain_tuple_new _]
    have hsub := sub_tuple_self
    have hinit := init_tuple_lookup
    have hmh := madeHere_tuple
    have hTI := (gr []).isg.typeIs
    wp_walk using wpAny_typeOf hTI, collect_gen2 (A := X.A.in1.in1) Z hsz gr w
    intro H' s' acc us I' rv q
    obtain ⟨hz, q⟩ := q
    show wpAny _ _ (Builtin.Tuple.tupleExact us.toArray >>= fun v => ret v) _ _ _
    unfold Builtin.Tuple.tupleExact
    refine wpAny_bind (wpAny_newObj_type ?_ (by show us.toArray.size ≤ sizeLine; rw [List.size_toArray, ← rv.length]; exact hz))
    refine wpAny_pure ⟨⟨_, Heap.get?_push_size _ rfl, rfl⟩, ?_⟩
    have hf : H' s'.heap.objs.size = none := I'.hok.fresh (Nat.le_refl _)
    refine ⟨.ref s'.heap.objs.size, upd H' s'.heap.objs.size (.tup acc), I'.laid (t' := s'.toks) (fun b u e => Heap.get?_push_of_some _ e) (Nat.le_refl _) ?_, rfl, q _ hf⟩
    exact ⟨hz, us, rv, ⟨_, Heap.get?_push_size _ rfl, rfl, _, rfl⟩⟩
  · exact ⟨h₁.1, F.args_object_init_2 obj _, object_init_meets F.called_tuple.init.lookup F.called_tuple.made (by decide) X.prog X.w X.A.in1 _ s₁ ⟨h₁.1, rfl, h₁.2⟩⟩
end
end L2

namespace L2
open PySem PySem.Spec PyProof.Rows
section
variable {α : Type} {g : TG} {tt : TT} {wi1 : TI} {g1 : TG} {tt1 : TT} {te : TE} {vs vs1 : List Nat} {σ : St} {Stp : α → Hp → Prop} {Ste : α → V → Hp → (α → Hp → Prop) → Prop}
def InnR (K : PySem.W.Frag) (g1 : TG) (tt1 : TT) (te : TE) (vs1 : List Nat) (Ste : α → V → Hp → (α → Hp → Prop) → Prop) (L : Nat) (acc0 : α) (Nxt : α → Hp → Prop) (σ2 : St) (J1 : It) (H4 : Hp) : Prop :=
  ∃ (b : Addr) (ys : List V) (Pw : Nat → α → Hp → Prop), J1 = Itt K b ∧ ys.length = L ∧ Pw 0 acc0 H4 ∧ (∀ j acc H, j ≤ L → Pw j acc H → SqT K H b ys) ∧ (∀ acc H, Pw L acc H → Nxt acc H) ∧
    ∀ j y acc H, ys[j]? = some y → Pw j acc H → g1 y (wipe σ2 vs1) H fun σ3 H5 => wipe σ3 vs1 = wipe σ2 vs1 ∧ tt1 σ3 H5 fun b H6 => if b = true then te σ3 H6 fun z H7 => Ste acc z H7 (Pw (j + 1)) else Pw (j + 1) acc H6
theorem gen_tup2 {K : PySem.W.Frag} {a : Addr} {xs : List V} (L : Nat) (Pv : Nat → α → Hp → Prop) (hl : ∀ i acc H, i ≤ xs.length → Pv i acc H → SqT K H a xs)
    (hs : ∀ i x acc H (R : St → It → Hp → Prop) (N : Hp → Prop), xs[i]? = some x → Pv i acc H → (∀ σ2 J1 H4, InnR K g1 tt1 te vs1 Ste L acc (Pv (i + 1)) σ2 J1 H4 → R σ2 J1 H4) → (∀ H, Pv (i + 1) acc H → N H) →
      g x (wipe σ vs) H fun σ2 H2 => wipe σ2 vs = wipe σ vs ∧ tt σ2 H2 fun b H3 => if b = true then wi1 σ2 H3 (R σ2) else N H3)
    (hd : ∀ acc H, Pv xs.length acc H → Stp acc H) {a0 : α} {H1 : Hp} (h0 : Pv 0 a0 H1) : ∃ m, gGen2 (Itt K a) g tt wi1 g1 tt1 te vs vs1 σ Stp Ste m .out a0 0 H1 := by
  have key : ∀ (k i : Nat) (acc : α) (H : Hp), i + k = xs.length → Pv i acc H → ∀ m, k * (L + 2) + 1 ≤ m → gGen2 (Itt K a) g tt wi1 g1 tt1 te vs vs1 σ Stp Ste m .out acc i H := by
    intro k
    induction k with
    | zero =>
      intro i acc H e p m hm
      have e : i = xs.length := by omega
      subst e
      obtain ⟨m, rfl⟩ : ∃ m', m = m' + 1 := ⟨m - 1, by omega⟩
      rw [gGen2]
      exact .inl ⟨⟨xs, hl _ acc H (Nat.le_refl _) p, Nat.le_refl _⟩, hd acc H p⟩
    | succ k ih =>
      intro i acc H e p m hm
      rw [Nat.add_mul, Nat.one_mul] at hm
      obtain ⟨m, rfl⟩ : ∃ m', m = m' + 1 := ⟨m - 1, by omega⟩
      have q := hl i acc H (by omega) p
      have hlt : i < xs.length := by omega
      rw [gGen2]
      refine .inr ⟨⟨xs, xs[i], q, by simp [hlt]⟩, fun x H' y => ?_⟩
      obtain ⟨e1, y⟩ := y
      subst e1
      refine hs i x acc _ (fun σ2 J1 H4 => gGen2 (Itt K a) g tt wi1 g1 tt1 te vs vs1 σ Stp Ste m (.inn J1 σ2 0) acc i H4) (fun H3 => gGen2 (Itt K a) g tt wi1 g1 tt1 te vs vs1 σ Stp Ste m .out acc (i + 1) H3) (y xs q) p (fun σ2 J1 H4 hi => ?_) fun H3 p3 => ih (i + 1) acc H3 (by omega) p3 m (by omega)
      obtain ⟨b, ys, Pw, rfl, yl, w0, hw, hend, step⟩ := hi
      have inn : ∀ (n j : Nat) (acc : α) (H : Hp), j + n = L → Pw j acc H → ∀ m, n + 1 + (k * (L + 2) + 1) ≤ m → gGen2 (Itt K a) g tt wi1 g1 tt1 te vs vs1 σ Stp Ste m (.inn (Itt K b) σ2 j) acc i H := by
        intro n
        induction n with
        | zero =>
          intro j acc H e pw m hm
          have e : j = L := by omega
          subst e
          obtain ⟨m, rfl⟩ : ∃ m', m = m' + 1 := ⟨m - 1, by omega⟩
          rw [gGen2]
          exact .inl ⟨⟨ys, hw _ acc H (Nat.le_refl _) pw, by omega⟩, ih (i + 1) acc H (by omega) (hend acc H pw) m (by omega)⟩
        | succ n ihn =>
          intro j acc H e pw m hm
          obtain ⟨m, rfl⟩ : ∃ m', m = m' + 1 := ⟨m - 1, by omega⟩
          have qw := hw j acc H (by omega) pw
          have hj : j < ys.length := by omega
          rw [gGen2]
          refine .inr ⟨⟨ys, ys[j], qw, by simp [hj]⟩, Pw (j + 1), fun acc' H' p' => ihn (j + 1) acc' H' (by omega) p' m (by omega), fun x H' y => ?_⟩
          obtain ⟨e1, y⟩ := y
          subst e1
          exact step j x acc _ (y ys qw) pw
      exact inn L 0 acc H4 (by omega) w0 m (by omega)
  exact ⟨_, key xs.length 0 a0 H1 (by omega) h0 _ (Nat.le_refl _)⟩
end
end L2

namespace L2
open PySem PySem.Spec PyProof.Rows
section
variable {X : Cx} {x : Str} {p pos pos' : Pos} {c P : Addr} {ps : Array Value} {wi wi1 : TI} {g g1 : TG} {tt tt1 : TT} {te : TE} {elt t0 i0 t1 i1 : Expr} {ifs0 ifs1 : List Expr} {scope : Scope} {own : List (Str × Nat)} {vs1 : List Nat} {k : Nat}
theorem q_pe_tupG2 (L : GenPl X k c P scope own) (hgl : Gl X "tuple") (hm : X.mg "tuple" = none) (hi : QI X t0 i0 wi) (hv : ∀ i ∈ vs1, i ∈ own.map (·.2))
    (hg : ∀ (A : Around) (s : Shared) (H : Hp) (C : Addr) (code : Value) (fp : List Addr), QG (gcx X A s H (genvOf X scope C code) fp) t0 g)
    (ht : ∀ (A : Around) (s : Shared) (H : Hp) (C : Addr) (code : Value) (fp : List Addr), Room k A → QTs (gcx X A s H (genvOf X scope C code) fp) ifs0 tt)
    (hi1 : ∀ (A : Around) (s : Shared) (H : Hp) (C : Addr) (code : Value) (fp : List Addr), Room k A → QI (gcx X A s H (genvOf X scope C code) fp) t1 i1 wi1)
    (hg1 : ∀ (A : Around) (s : Shared) (H : Hp) (C : Addr) (code : Value) (fp : List Addr), QG (gcx X A s H (genvOf X scope C code) fp) t1 g1)
    (ht1 : ∀ (A : Around) (s : Shared) (H : Hp) (C : Addr) (code : Value) (fp : List Addr), Room k A → QTs (gcx X A s H (genvOf X scope C code) fp) ifs1 tt1)
    (he : ∀ (A : Around) (s : Shared) (H : Hp) (C : Addr) (code : Value) (fp : List Addr), Room k A → QE (gcx X A s H (genvOf X scope C code) fp) elt te)
    (hs : ∀ x, genFold i0 X.env x = pure x := by intro _; rfl) (hs1 : ∀ env x, foldedSetIterable i1 env x = pure x := by intro _ _; rfl)
    (hst : starEach [gE2 elt t0 i0 t1 i1 ifs0 ifs1 scope pos] X.env = [(false, eval (gE2 elt t0 i0 t1 i1 ifs0 ifs1 scope pos) X.env)] := by rfl) :
    QE X (.Call (.Name "tuple" p) [gE2 elt t0 i0 t1 i1 ifs0 ifs1 scope pos] [] pos') (tGC2 P ps wi g tt wi1 g1 tt1 te (own.map (·.2)) vs1 [] sTup eTup) :=
  ⟨pe_tupG2 L hgl hm hi.run hv (fun A s H C cd fp => (hg A s H C cd fp).run) (fun A s H C cd fp r => (ht A s H C cd fp r).run) (fun A s H C cd fp r => (hi1 A s H C cd fp r).run) (fun A s H C cd fp => (hg1 A s H C cd fp).run) (fun A s H C cd fp r => (ht1 A s H C cd fp r).run) (fun A s H C cd fp r => (he A s H C cd fp r).run) hs hs1 hst⟩
end
end L2
namespace KW
open PySem L2
@[elab_as_elim] theorem alloc {H : Hp} {A : Addr} {motive : Hp → Prop} (o : HO) (hA : H A = none) (h : ∀ H', Same H H' → H' A = some o → motive H') : motive (L2.upd H A o) := h _ (Same.upd hA) upd_same
end KW

namespace KW
open PySem L2
def top (i : Nat) : Stmt := PySem.Challenge.pw_wholesides_k33_joins_of_shapes.main.body.getD i (.Pass ⟨0, 0, 0, 0⟩)
structure Txt (base : Heap) (mg : Str → Option Value) : Prop where
  no_range : mg "range" = none
  no_len : mg "len" = none
  no_tuple : mg "tuple" = none
  no_sorted : mg "sorted" = none
  no_list : mg "list" = none
  no_set : mg "set" = none
  no_int : mg "int" = none
  no_abs : mg "abs" = none
  no_repr : mg "repr" = none
  no_isinstance : mg "isinstance" = none
  no_str : mg "str" = none
  no_ValueError : mg "ValueError" = none
  bm : BmK base mg
section
variable {P : Program} {w : World} {K : PySem.W.Frag} {mg : Str → Option Value} {base : Heap} {f c tb : Addr} {fd : FuncData}
def spMixed : Sp := fun vs H Q _ => ∃ (c k : Int), vs = [.int c, .int k] ∧ ∀ r : Int, Q (.int r) H
abbrev s__law_mixed : Stmt := top 24
abbrev N__law_mixed : List Str := ["_law_cell", "_law_k", "_law_one", "_law_two_here"]
abbrev P__law_mixed : List Str := ["_law_cell", "_law_k"]
theorem sc__law_mixed : FnScope N__law_mixed P__law_mixed (defScope s__law_mixed) := ⟨rfl, rfl, rfl, by decide +kernel, rfl, by decide +kernel, by decide +kernel⟩
theorem ok__law_mixed (F : FunC K "_law_mixed" "_law_mixed" s__law_mixed f fd c) (T : Txt base mg) : FnOk P w K mg base CX0 1 f fd P__law_mixed spMixed := by
  refine F.okQ sc__law_mixed (fun vs H Q E h => ?_) (fun A outer s H vs Q E hr h => ?_)
  · obtain ⟨c, k, rfl, _⟩ := h
    rfl
  · obtain ⟨c, k, rfl, q⟩ := h
    refine ⟨_, (q_pss_cons (q_ps_set (i := 2) sc__law_mixed.nd rfl (by first | exact Or.inl rfl | exact Or.inr rfl) (q_pe_op op_modN (q_pe_op op_mul (q_pe_op op_add (q_pe_op op_add (q_pe_op op_modN (q_pv 0) q_pe_int) (q_pe_op op_mul q_pe_int (q_pv 1))) q_pe_int) q_pe_int) q_pe_int))
      (q_pss_cons (q_ps_set (i := 3) sc__law_mixed.nd rfl (by first | exact Or.inl rfl | exact Or.inr rfl) (q_pe_op op_modN (q_pe_op op_add (q_pe_op op_add (q_pe_op op_mul (q_pv 2) (q_pv 2)) (q_pe_op op_mul q_pe_int (q_pv 2))) (q_pe_op op_mul q_pe_int (q_pv 1))) q_pe_int))
      (q_pss_one (q_ps_ret (q_pe_op op_fdivN (q_pe_op op_modN (q_pe_op op_mul (q_pv 3) (q_pe_op op_add (q_pe_op op_modN (q_pv 3) q_pe_int) q_pe_int)) q_pe_int) q_pe_int))))), ?_⟩
    refine ⟨_, rfl, _, _, rfl, rfl, (by show (_ : Int) ≠ 0; decide), _, rfl, _, _, rfl, rfl, .inl ⟨by decide, by decide⟩, _, _, rfl, rfl, _, _, rfl, rfl, _, _, rfl, rfl, .inr ⟨by decide, by decide⟩, _, _, rfl, rfl, (by show (_ : Int) ≠ 0; decide), ?_⟩
    refine ⟨_, rfl, _, rfl, _, _, rfl, rfl, .inl (fmod_bd (by decide) (by decide)), _, rfl, _, _, rfl, rfl, .inl ⟨by decide, by decide⟩, _, _, rfl, rfl, _, rfl, _, _, rfl, rfl, .inl ⟨by decide, by decide⟩, _, _, rfl, rfl, _, _, rfl, rfl, (by show (_ : Int) ≠ 0; decide), ?_⟩
    refine ⟨_, rfl, _, rfl, _, _, rfl, rfl, (by show (_ : Int) ≠ 0; decide), _, _, rfl, rfl, _, _, rfl, rfl, .inl (fmod_bd (by decide) (by decide)), _, _, rfl, rfl, (by show (_ : Int) ≠ 0; decide), _, _, rfl, rfl, ⟨by decide, by decide⟩, ?_⟩
    exact q _
abbrev s__law_take : Stmt := top 25
abbrev N__law_take : List Str := ["_law_state", "_law_many", "_law_found", "_law_script", "_law_k", "_law_cell"]
abbrev P__law_take : List Str := ["_law_state", "_law_many"]
theorem sc__law_take : FnScope N__law_take P__law_take (defScope s__law_take) := ⟨rfl, rfl, rfl, by decide +kernel, rfl, by decide +kernel, by decide +kernel⟩
theorem ok__law_take (F : FunC K "_law_take" "_law_take" s__law_take f fd c) (T : Txt base mg) (C__law_mixed : Cal P w K mg base 1 "_law_mixed" P__law_mixed spMixed) : FnOk P w K mg base CX0 2 f fd P__law_take (spDraw K) := by
  refine F.okQ sc__law_take (fun vs H Q E h => ?_) (fun A outer s H vs Q E hr h => ?_)
  · obtain ⟨p, a, ns, x, y, m, rfl, _⟩ := h
    rfl
  · obtain ⟨p, a, ns, x, y, m, rfl, Pn, m1, m2, k⟩ := h
    refine ⟨_, (q_pss_cons (q_ps_if (q_pt_cmpR op_eq (q_pe_ix (ix_listK (K := K) rfl) (q_pv 0) q_pe_int (fun _ _ => rfl)) q_pe_int (nomark _))
      (q_pss_cons (q_ps_set (i := 3) sc__law_take.nd rfl (by first | exact Or.inl rfl | exact Or.inr rfl) (q_pe_ix (ix_listK (K := K) rfl) (q_pv 0) q_pe_int (fun _ _ => rfl)))
      (q_pss_cons (q_ps_set (i := 4) sc__law_take.nd rfl (by first | exact Or.inl rfl | exact Or.inr rfl) (q_pe_ix (ix_listK (K := K) rfl) (q_pv 0) q_pe_int (fun _ _ => rfl)))
      (q_pss_cons (q_ps_asg (q_pe_op op_add (q_pv 4) q_pe_int) (q_pg_sub (q_pv 0) q_pe_int q_set_list))
      (q_pss_cons (q_ps_set (i := 5) sc__law_take.nd rfl (by first | exact Or.inl rfl | exact Or.inr rfl) q_pe_int)
      (q_pss_cons (q_ps_if (q_pt_cmpR op_gt (q_pe_callB (call_lenK (K := K) rfl) rfl T.no_len (by decide +kernel) (q_pa_cons (q_pv 3) q_pa_nil)) q_pe_int (nomark _))
      (q_pss_one (q_ps_set (i := 5) sc__law_take.nd rfl (by first | exact Or.inl rfl | exact Or.inr rfl) (q_pe_ix (ix_listK (K := K) rfl) (q_pv 3) (q_pe_op op_modN (q_pv 4) (q_pe_callB (call_lenK (K := K) rfl) rfl T.no_len (by decide +kernel) (q_pa_cons (q_pv 3) q_pa_nil))) (fun _ _ => rfl))))
      q_pss_nil)
      (q_pss_cons (q_ps_if (q_PW_pt (q_pw_or (q_pt_cmpR op_ge (q_pv 4) (q_pe_callB (call_lenK (K := K) rfl) rfl T.no_len (by decide +kernel) (q_pa_cons (q_pv 3) q_pa_nil)) (nomark _)) (q_pw_or1 (q_pt_cmpR op_lt (q_pe_callB call_abs rfl T.no_abs (by decide +kernel) (q_pa_cons (q_pv 5) q_pa_nil)) (q_pe_op op_pow q_pe_int q_pe_int) (nomark _)))))
      (q_pss_one (q_ps_ret (q_pe_op op_modN (q_pe_cal C__law_mixed (hr.mono (by omega)) (q_pa_cons (q_pv 5) (q_pa_cons (q_pv 4) q_pa_nil))) (q_pv 1))))
      q_pss_nil)
      (q_pss_one (q_ps_asg (q_pe_callB call_abs rfl T.no_abs (by decide +kernel) (q_pa_cons (q_pv 5) q_pa_nil)) (q_pg_sub (q_pv 0) q_pe_int q_set_list)))))))))
      q_pss_nil)
      (q_pss_cons (q_ps_set (i := 2) sc__law_take.nd rfl (by first | exact Or.inl rfl | exact Or.inr rfl) (q_pe_op op_modN (q_pe_ix (ix_listK (K := K) rfl) (q_pv 0) q_pe_int (fun _ _ => rfl)) (q_pv 1)))
      (q_pss_cons (q_ps_asg (q_pe_op op_fdivN (q_pe_ix (ix_listK (K := K) rfl) (q_pv 0) q_pe_int (fun _ _ => rfl)) (q_pv 1)) (q_pg_sub (q_pv 0) q_pe_int q_set_list))
      (q_pss_one (q_ps_ret (q_pv 2)))))), ?_⟩
    have hp := Pn.at_
    have m0 : m ≠ 0 := by omega
    have m3 : m.natAbs < 1073741824 := by have : m < 1000000000 := m2; omega
    have hl2 : ((ns.map V.int).length : Int) = (ns.length : Int) := by rw [List.length_map]
    have fin : ∀ {H2 : Hp} {x2 y2 : Int} (st : List (Option V)), SameX p H H2 → Pen K H2 p a ns x2 y2 →
        (tSeq (tAsg (tOp (rI (fun x j => j ≠ 0) fun i j => V.int (i.fmod j)) (tOp (rIxL K) (tVar 0) (tC (V.int 2))) (tVar 1)) (gName 2))
          (tSeq (tAsg (tOp (rI CDivN fun i j => V.int (i.fdiv j)) (tOp (rIxL K) (tVar 0) (tC (V.int 2))) (tVar 1)) (gSub (tVar 0) (tC (V.int 2)) rSetL)) (tRet (tVar 2)))) { nx := fun x H' => Q V.non H', rt := Q } (some (.ref p) :: some (.int m) :: none :: st) H2 := by
      intro H2 x2 y2 st s2 P2
      refine ⟨_, rfl, p, _, 2, _, rfl, rfl, SqL.of P2.at_, at_of (j := 2) rfl rfl, _, rfl, _, _, rfl, rfl, m0, ?_⟩
      refine ⟨_, rfl, p, _, 2, _, rfl, rfl, SqL.of P2.at_, at_of (j := 2) rfl rfl, _, rfl, _, _, rfl, rfl, ⟨m0, m3⟩, ?_⟩
      refine ⟨_, rfl, p, _, 2, 2, rfl, rfl, P2.at_, rfl, ?_⟩
      refine ⟨_, rfl, ?_⟩
      exact k _ _ _ _ (fmod_nn m1) (fmod_lt m1) (s2.trans SameX.upd) (P2.set P2.x0 (fdiv_nn m1 P2.y0))
    refine ⟨_, rfl, p, _, 2, _, rfl, rfl, SqL.of hp, at_of (j := 2) rfl rfl, rfl, _, rfl, ite2 (fun h => ?_) (fun h => ?_)⟩
    · refine ⟨_, rfl, p, _, 0, _, rfl, rfl, SqL.of hp, at_of (j := 0) rfl rfl, ?_⟩
      refine ⟨_, rfl, p, _, 1, _, rfl, rfl, SqL.of hp, at_of (j := 1) rfl rfl, ?_⟩
      refine ⟨_, rfl, _, _, rfl, rfl, _, rfl, p, _, 1, 1, rfl, rfl, hp, rfl, ?_⟩
      have P2 := Pn.set (x' := x + 1) (y' := y) (by have := Pn.x0; omega) Pn.y0
      have s2 : SameX p H (upd H p (.lst [.ref a, .int (x + 1), .int y])) := SameX.upd
      refine ⟨_, rfl, _, _, rfl, .inl ⟨_, P2.sc, rfl⟩, _, _, rfl, rfl, _, rfl, ite2 (fun h1 => ?ya) (fun h1 => ?yb)⟩
      case' ya =>
        have hn : 0 < ns.length := by
          have := of_decide_eq_true h1
          rw [List.length_map] at this
          omega
        obtain ⟨z, hz⟩ := at_mod x hn
        rw [← hl2] at hz
        refine ⟨_, rfl, _, rfl, _, rfl, _, _, rfl, .inl ⟨_, P2.sc, rfl⟩, _, _, rfl, rfl, (by rw [List.length_map]; omega), a, _, _, _, rfl, rfl, P2.sc, hz, ?_⟩
      all_goals
        refine ⟨_, rfl, _, rfl, _, _, rfl, .inl ⟨_, P2.sc, rfl⟩, _, _, rfl, rfl, _, rfl, ite2 (fun h2 => ?_) (fun h2 => ?_)⟩
        · show (if true = true then _ else _)
          refine iteT ?_
          refine ⟨_, rfl, _, rfl, _, _, rfl, fun r => ⟨_, rfl, _, _, rfl, rfl, m0, ?_⟩⟩
          exact k _ _ _ _ (fmod_nn m1) (fmod_lt m1) s2 P2
        · refine ⟨_, rfl, _, rfl, _, _, rfl, rfl, ⟨by decide, by decide, by decide⟩, _, _, rfl, rfl, _, rfl, ite2 (fun h3 => ?_) (fun h3 => ?_)⟩
          · refine ⟨_, rfl, _, rfl, _, _, rfl, fun r => ⟨_, rfl, _, _, rfl, rfl, m0, ?_⟩⟩
            exact k _ _ _ _ (fmod_nn m1) (fmod_lt m1) s2 P2
          · refine ⟨_, rfl, _, rfl, _, rfl, p, _, 2, 2, rfl, rfl, P2.at_, rfl, ?_⟩
            exact fin _ (s2.trans SameX.upd) (P2.set P2.x0 (abs_nn _))
    · exact fin _ (SameX.refl _ _) Pn
end
end KW

set_option maxHeartbeats 4000000
namespace KW
open PySem L2
section
variable {P : Program} {w : World} {K : PySem.W.Frag} {mg : Str → Option Value} {base : Heap} {f c tb : Addr} {fd : FuncData}
abbrev wordsL : List Str := ["NoShape", "NoFace", "NoPiece", "NoCorner", "NotClosed", "TooMany"]
def spWord (K : PySem.W.Frag) (cs os : List Addr) : Sp := fun vs H Q _ => ∃ (ae C : Addr) (j : Nat) (x : Str), vs = [.ref ae] ∧ H ae = some (excO ae (.ref C)) ∧ WordAt K C cs os j ∧ wordsL[j]? = some x ∧ ∀ H', Same H H' → Q (.str x) H'
abbrev s__law_word : Stmt := top 29
abbrev N__law_word : List Str := ["_law_caught", "_law_words", "_law_marks", "_law_some", "_law_others", "_law_k"]
abbrev P__law_word : List Str := ["_law_caught"]
theorem sc__law_word : FnScope N__law_word P__law_word (defScope s__law_word) := ⟨rfl, rfl, rfl, by decide +kernel, rfl, by decide +kernel, by decide +kernel⟩
theorem ok__law_word {D0 D1 D2 D3 D4 D5 O0 O1 O2 O3 O4 O5 O6 : Addr} (F : FunC K "_law_word" "_law_word" s__law_word f fd c) (T : Txt base mg)
    (mg_NoShape : mg "NoShape" = some (.ref D0)) (mg_NoFace : mg "NoFace" = some (.ref D1)) (mg_NoPiece : mg "NoPiece" = some (.ref D2)) (mg_NoCorner : mg "NoCorner" = some (.ref D3)) (mg_NotClosed : mg "NotClosed" = some (.ref D4)) (mg_TooMany : mg "TooMany" = some (.ref D5))
    (mg_NoOrder : mg "NoOrder" = some (.ref O0)) (mg_NoWish : mg "NoWish" = some (.ref O1)) (mg_NoFit : mg "NoFit" = some (.ref O2)) (mg_NoShrink : mg "NoShrink" = some (.ref O3)) (mg_NoText : mg "NoText" = some (.ref O4)) (mg_NoRow : mg "NoRow" = some (.ref O5)) (mg_NoName : mg "NoName" = some (.ref O6)) :
    FnOk P w K mg base CX0 1 f fd P__law_word (spWord K [D0, D1, D2, D3, D4, D5] [O0, O1, O2, O3, O4, O5, O6]) := by
  refine F.okQ sc__law_word (fun vs H Q E h => ?_) (fun A outer s H vs Q E hr h => ?_)
  · obtain ⟨ae, C, j, x, rfl, _⟩ := h
    rfl
  · obtain ⟨ae, C, j, x, rfl, hae, W, hx, q⟩ := h
    refine ⟨_, (q_pss_cons (q_ps_set (i := 1) sc__law_word.nd rfl (by first | exact Or.inl rfl | exact Or.inr rfl) (q_pe_lst (q_pa_cons q_pe_str (q_pa_cons q_pe_str (q_pa_cons q_pe_str (q_pa_cons q_pe_str (q_pa_cons q_pe_str (q_pa_cons q_pe_str q_pa_nil))))))))
      (q_pss_cons (q_ps_set (i := 2) sc__law_word.nd rfl (by first | exact Or.inl rfl | exact Or.inr rfl) (q_pe_lst (q_pa_cons (q_pe_callB (cr_isC (K := K) rfl) rfl T.no_isinstance (by decide +kernel) (q_pa_cons (q_pv 0) (q_pa_cons (q_pe_globF mg_NoShape) q_pa_nil))) (q_pa_cons (q_pe_callB (cr_isC (K := K) rfl) rfl T.no_isinstance (by decide +kernel) (q_pa_cons (q_pv 0) (q_pa_cons (q_pe_globF mg_NoFace) q_pa_nil))) (q_pa_cons (q_pe_callB (cr_isC (K := K) rfl) rfl T.no_isinstance (by decide +kernel) (q_pa_cons (q_pv 0) (q_pa_cons (q_pe_globF mg_NoPiece) q_pa_nil))) q_pa_nil)))))
      (q_pss_cons (q_ps_set (i := 2) sc__law_word.nd rfl (by first | exact Or.inl rfl | exact Or.inr rfl) (q_pe_op op_cat (q_pv 2) (q_pe_lst (q_pa_cons (q_pe_callB (cr_isC (K := K) rfl) rfl T.no_isinstance (by decide +kernel) (q_pa_cons (q_pv 0) (q_pa_cons (q_pe_globF mg_NoCorner) q_pa_nil))) (q_pa_cons (q_pe_callB (cr_isC (K := K) rfl) rfl T.no_isinstance (by decide +kernel) (q_pa_cons (q_pv 0) (q_pa_cons (q_pe_globF mg_NotClosed) q_pa_nil))) (q_pa_cons (q_pe_callB (cr_isC (K := K) rfl) rfl T.no_isinstance (by decide +kernel) (q_pa_cons (q_pv 0) (q_pa_cons (q_pe_globF mg_TooMany) q_pa_nil))) q_pa_nil))))))
      (q_pss_cons (q_ps_setLc (i := 3) (own := [("_law_k", 5)]) rfl sc__law_word.nd rfl rfl (sw_true rfl rfl rfl (by decide +kernel)) (q_pi_range1 rfl T.no_range (q_pa_cons q_pe_int q_pa_nil)) (blkOk_by (own := [("_law_k", 5)]) (N := N__law_word) (sc := defScope s__law_word) (by decide +kernel)) (fun _ _ _ _ _ => (q_pg_name (i := 5) sc__law_word.nd rfl (by first | exact Or.inl rfl | exact Or.inr rfl))) (fun _ _ _ _ _ => (q_pts_one (q_pt_val (q_pe_ix (ix_listK (K := K) rfl) (q_pv 2) (q_pv 5) (fun _ _ => rfl))))) (fun _ _ _ _ _ => (q_pe_ix (ix_listK (K := K) rfl) (q_pv 1) (q_pv 5) (fun _ _ => rfl))))
      (q_pss_cons (q_ps_set (i := 4) sc__law_word.nd rfl (by first | exact Or.inl rfl | exact Or.inr rfl) (q_pe_callB (cr_isCT (K := K) rfl) rfl T.no_isinstance (by decide +kernel) (q_pa_cons (q_pv 0) (q_pa_cons (q_pe_tup (q_pa_cons (q_pe_globF mg_NoOrder) (q_pa_cons (q_pe_globF mg_NoWish) (q_pa_cons (q_pe_globF mg_NoFit) (q_pa_cons (q_pe_globF mg_NoShrink) (q_pa_cons (q_pe_globF mg_NoText) (q_pa_cons (q_pe_globF mg_NoRow) (q_pa_cons (q_pe_globF mg_NoName) q_pa_nil)))))))) q_pa_nil))))
      (q_pss_cons (q_ps_if (q_PW_pt (q_pw_or (q_pt_cmpR op_ne (q_pe_callB (call_lenK (K := K) rfl) rfl T.no_len (by decide +kernel) (q_pa_cons (q_pv 3) q_pa_nil)) q_pe_int (nomark _)) (q_pw_or (q_pt_val (q_pv 4)) (q_pw_or1 (q_pt_not (q_pt_val (q_pe_callB (cr_isC (K := K) rfl) rfl T.no_isinstance (by decide +kernel) (q_pa_cons (q_pv 0) (q_pa_cons (q_pe_bltn (v := V.ty "ValueError") rfl T.no_ValueError (by decide +kernel) rfl) q_pa_nil)))))))))
      (q_pss_one (q_ps_ret q_pe_str))
      q_pss_nil)
      (q_pss_one (q_ps_ret (q_pe_ix (ix_listK (K := K) rfl) (q_pv 3) q_pe_int (fun _ _ => rfl)))))))))), ?_⟩
    have hj : j < 6 := W.lt
    refine ⟨(by show 6 ≤ sizeLine; decide), fun l1 hl1 => ?_⟩
    refine alloc (.lst (wordsL.map V.str)) hl1 fun H1 s1 e1 => ?_
    have ca : ∀ {H' : Hp}, Same H H' → Caught K H' (.ref ae) (.ref C) := fun s => .exc (s _ _ hae) W.exc
    refine ⟨_, rfl, _, _, _, _, _, rfl, ca s1, .inl ⟨_, rfl, rfl⟩, W.one 0 _ rfl, ?_⟩
    refine ⟨_, rfl, _, _, _, _, _, rfl, ca s1, .inl ⟨_, rfl, rfl⟩, W.one 1 _ rfl, ?_⟩
    refine ⟨_, rfl, _, _, _, _, _, rfl, ca s1, .inl ⟨_, rfl, rfl⟩, W.one 2 _ rfl, ?_⟩
    refine ⟨(by show 3 ≤ sizeLine; decide), fun l2 hl2 => ?_⟩
    refine alloc (.lst [V.bl (decide (0 = j)), V.bl (decide (1 = j)), V.bl (decide (2 = j))]) hl2 fun H2 s2 e2 => ?_
    have s02 := s1.trans s2
    refine ⟨_, rfl, ?_⟩
    refine ⟨_, rfl, _, _, _, _, _, rfl, ca s02, .inl ⟨_, rfl, rfl⟩, W.one 3 _ rfl, ?_⟩
    refine ⟨_, rfl, _, _, _, _, _, rfl, ca s02, .inl ⟨_, rfl, rfl⟩, W.one 4 _ rfl, ?_⟩
    refine ⟨_, rfl, _, _, _, _, _, rfl, ca s02, .inl ⟨_, rfl, rfl⟩, W.one 5 _ rfl, ?_⟩
    refine ⟨(by show 3 ≤ sizeLine; decide), fun l3 hl3 => ?_⟩
    refine alloc (.lst [V.bl (decide (3 = j)), V.bl (decide (4 = j)), V.bl (decide (5 = j))]) hl3 fun H3 s3 e3 => ?_
    refine ⟨l2, l3, _, _, rfl, rfl, s3 _ _ e2, e3, by show 6 ≤ sizeLine; decide, fun M hM => ?_⟩
    refine alloc (HO.lst ([V.bl (decide (0 = j)), V.bl (decide (1 = j)), V.bl (decide (2 = j))] ++ [V.bl (decide (3 = j)), V.bl (decide (4 = j)), V.bl (decide (5 = j))])) hM fun H4 s4 e4 => ?_
    have s14 := (s2.trans s3).trans s4
    have s04 := s1.trans s14
    have e4 : H4 M = some (.lst ((List.range 6).map fun i => V.bl (decide (i = j)))) := e4
    refine ⟨_, rfl, (by decide), (by decide), fun D hD => ?_⟩
    refine lc_range (lo := 0) (n := 6) (fun i H' => Same H4 H' ∧ H' D = some (.lst (if j < i then [V.str x] else []))) ⟨Same.upd hD, by rw [if_neg (by omega)]; exact upd_same⟩ ?_ ?_
    · rintro i H' hi ⟨s5, e5⟩
      have hi : i < 6 := by omega
      refine ⟨rfl, _, rfl, _, rfl, M, _, _, _, rfl, rfl, SqL.of (s5 _ _ e4), at_of (j := i) (by omega) (by rw [List.getElem?_map, List.getElem?_range hi]; rfl), _, rfl, ?_⟩
      by_cases h : i = j
      · subst h
        rw [if_neg (by omega)] at e5
        refine iteT' (by simp) ⟨_, rfl, _, rfl, l1, _, _, _, rfl, rfl, SqL.of ((s14.trans s5) _ _ e1), at_of (j := i) (by omega) (by rw [List.getElem?_map, hx]; rfl), ?_⟩
        refine ⟨_, e5, by show 0 < sizeLine; decide, s5.updF hD, ?_⟩
        rw [upd_same, if_pos (by omega)]; rfl
      · refine iteF' (by simp [h]) ⟨s5, ?_⟩
        rw [e5]
        have : (j < i + 1) = (j < i) := by simp only [eq_iff_iff]; omega
        simp only [this]
    · rintro H' ⟨s5, e5⟩
      rw [if_pos hj] at e5
      have s05 := s04.trans s5
      refine ⟨_, rfl, (by show 7 ≤ sizeLine; decide), fun tp htp => ?_⟩
      refine alloc (.tup [.ref O0, .ref O1, .ref O2, .ref O3, .ref O4, .ref O5, .ref O6]) htp fun H6 s6 e6 => ?_
      have s06 := s05.trans s6
      have e56 := s6 _ _ e5
      refine ⟨_, _, tp, [O0, O1, O2, O3, O4, O5, O6], _, rfl, ca s06, e6, W.oth, ?_⟩
      refine ⟨_, rfl, _, _, rfl, .inl ⟨_, SqL.of e56, rfl⟩, rfl, _, rfl, iteF' (by simp) ?_⟩
      refine ⟨_, rfl, _, rfl, iteF ?_⟩
      refine ⟨_, rfl, _, _, _, _, _, rfl, ca s06, .inr ⟨_, rfl, rfl⟩, W.ve, _, rfl, iteF ?_⟩
      exact ⟨_, rfl, D, _, 0, _, rfl, rfl, SqL.of e56, at_of (j := 0) rfl rfl, q _ s06⟩
theorem tyx_same {H H' : Hp} {v : V} {t : Value} (h : TyOfX K H v t) (s : Same H H') : TyOfX K H' v t := by
  rcases h with h | ⟨e, a, xs, ev, h⟩
  · refine .inl ?_
    cases h with
    | non => exact .non
    | bl x => exact .bl x
    | int i => exact .int i
    | str x => exact .str x
    | flt x => exact .flt x
    | lst e => exact .lst (s _ _ e)
    | frz e => exact .frz (s _ _ e)
    | tup e => exact .tup (s _ _ e)
    | dK e => exact .dK (s _ _ e)
    | dT e => exact .dT (s _ _ e)
    | ins e c a n k m => exact .ins (s _ _ e) c a n k m
  · exact .inr ⟨e, a, xs, ev, s.sqT h⟩
def spTold (P : Program) (w : World) (K : PySem.W.Frag) (mg : Str → Option Value) (base : Heap) (kc : Nat) (Cb : Addr) (cs os : List Addr) : List Env → Shared → Sp := fun outer s vs H Q _ => ∃ (f : Addr) (spc : VK → XK → Hp → Prop), vs = [.ref f] ∧ Clo P w K mg base kc outer s H f spc ∧
  ∀ (Q' : VK) (E' : XK), (∀ v H1, (∃ t, TyOfX K H1 v t ∧ PySem.W.kitOne K t (.type "str") = some false) → (∀ H', Same H1 H' → Q v H') → Q' v H1) →
    (∀ C H1, PySem.W.exmOne K (.ref C) (.ref Cb) = some true → (∃ (j : Nat) (x : Str), WordAt K C cs os j ∧ wordsL[j]? = some x ∧ ∀ H', Same H1 H' → Q (.str x) H') → E' (.ref C) none H1) → spc Q' E' H
abbrev s__law_told : Stmt := top 30
abbrev N__law_told : List Str := ["_law_asked", "_law_caught", "_law_found", "e"]
abbrev P__law_told : List Str := ["_law_asked"]
theorem sc__law_told : FnScope N__law_told P__law_told (defScope s__law_told) := ⟨rfl, rfl, rfl, by decide +kernel, rfl, by decide +kernel, by decide +kernel⟩
theorem ok__law_told {Cb : Addr} {cs os : List Addr} (F : FunC K "_law_told" "_law_told" s__law_told f fd c) (T : Txt base mg) (mg_SideError : mg "SideError" = some (.ref Cb)) (C__law_word : Cal P w K mg base 1 "_law_word" P__law_word (spWord K cs os)) :
    RunS P w K mg base CX0 13 f fd P__law_told (spTold P w K mg base 12 Cb cs os) := by
  refine F.okSQ sc__law_told (fun outer s vs H Q E h => ?_) (fun A outer s H vs Q E hr h => ?_)
  · obtain ⟨g, spc, rfl, _⟩ := h
    rfl
  · obtain ⟨g, spc, rfl, hC, hs⟩ := h
    refine ⟨_, (q_pss_cons (q_ps_set (i := 1) sc__law_told.nd rfl (by first | exact Or.inl rfl | exact Or.inr rfl) q_pe_non)
      (q_pss_cons (q_ps_set (i := 2) sc__law_told.nd rfl (by first | exact Or.inl rfl | exact Or.inr rfl) q_pe_non)
      (q_pss_cons (q_ps_try (q_px_one (q_px_set (i := 2) sc__law_told.nd rfl (by first | exact Or.inl rfl | exact Or.inr rfl) (q_pxe_clo hC (hr.mono (by omega)) rfl (q_pv 0))))
      (fun ae => (q_pss_one (q_ps_set (i := 1) sc__law_told.nd rfl (by first | exact Or.inl rfl | exact Or.inr rfl) (q_pv 3)))) rfl rfl rfl mg_SideError sc__law_told.nd (i := 3) rfl rfl)
      (q_pss_cons (q_ps_if (q_pt_cmpR op_isN (q_pv 1) q_pe_non (nomark _))
      (q_pss_one (q_ps_ret (q_pe_ix (ix_listK (K := K) rfl) (q_pe_lst (q_pa_cons (q_pv 2) (q_pa_cons (q_pe_lst (q_pa_cons (q_pv 2) q_pa_nil)) q_pa_nil))) (q_pe_callTy call_int1 rfl T.no_int (by decide +kernel) (q_pa_cons (q_pe_callB (cr_isAX (K := K) rfl) rfl T.no_isinstance (by decide +kernel) (q_pa_cons (q_pv 2) (q_pa_cons (q_pe_bltn (v := V.ty "str") rfl T.no_str (by decide +kernel) rfl) q_pa_nil))) q_pa_nil)) (fun _ _ => rfl))))
      q_pss_nil)
      (q_pss_one (q_ps_ret (q_pe_cal C__law_word (hr.mono (by omega)) (q_pa_cons (q_pv 1) q_pa_nil)))))))), ?_⟩
    refine ⟨_, rfl, rfl, Same.refl _, hs _ _ (fun v H1 ht q => ?_) (fun C H1 hx hw => ?_)⟩
    · obtain ⟨t, ty, kt⟩ := ht
      refine ⟨_, rfl, rfl, _, rfl, iteT' (by decide) ?_⟩
      refine ⟨_, rfl, _, rfl, (by show 1 ≤ sizeLine; decide), fun l1 hl1 => ?_⟩
      refine alloc (.lst [v]) hl1 fun H2 s2 e2 => ?_
      refine ⟨(by show 2 ≤ sizeLine; decide), fun l2 hl2 => ?_⟩
      refine alloc (.lst [v, .ref l1]) hl2 fun H3 s3 e3 => ?_
      refine ⟨_, rfl, _, _, _, _, rfl, tyx_same ty (s2.trans s3), kt, .inr ⟨_, rfl, ?_⟩⟩
      exact ⟨l2, _, 0, _, rfl, rfl, SqL.of e3, at_of (j := 0) rfl rfl, q _ (s2.trans s3)⟩
    · obtain ⟨j, x, W, hx2, q⟩ := hw
      refine ⟨hx, fun ae hae => ?_⟩
      refine ⟨_, rfl, ?_⟩
      refine alloc (excO ae (.ref C)) hae fun H2 s2 e2 => ?_
      refine ⟨_, rfl, rfl, _, rfl, iteF' (by simp) ?_⟩
      exact ⟨_, rfl, ae, C, j, x, rfl, e2, W, hx2, fun H' s => q _ (s2.trans s)⟩
mutual
theorem Dp_same {H H' : Hp} (s : Same H H') : ∀ (d : PyData) (v : V), Dp K H v d → Dp K H' v d
  | .none, _, h => by cases h; exact .non
  | .bool b, _, h => by cases h; exact .bl b
  | .int i, _, h => by cases h; exact .int i
  | .str x, _, h => by cases h; exact .str x
  | .list ds, _, h => by cases h with | lst a b => exact .lst (s.seq a) (DpAll_same s ds _ b)
  | .tuple ds, _, h => by cases h with | tup a b => exact .tup (s.sqT a) (DpAll_same s ds _ b)
  | .dict ds, _, h => by cases h
theorem DpAll_same {H H' : Hp} (s : Same H H') : ∀ (ds : List PyData) (vs : List V), DpAll K H vs ds → DpAll K H' vs ds
  | [], _, h => by cases h; exact .nil
  | d :: ds, _, h => by cases h with | cons a b => exact .cons (Dp_same s d _ a) (DpAll_same s ds _ b)
end
theorem told_of {kc : Nat} {Cb : Addr} {cs os : List Addr} {outer : List Env} {s : Shared} {g : Addr} {H : Hp} {Q : VK} {E : XK} {spc : VK → XK → Hp → Prop} (d : PyData) (clo : Clo P w K mg base kc outer s H g spc)
    (h : ∀ (Q' : VK) (E' : XK), (∀ v H1, Same H H1 → Dp K H1 v d → (∃ t, TyOfX K H1 v t ∧ PySem.W.kitOne K t (.type "str") = some false) → Q' v H1) →
      (∀ C H1 (j : Nat) (x : Str), Same H H1 → PySem.W.exmOne K (.ref C) (.ref Cb) = some true → WordAt K C cs os j → wordsL[j]? = some x → d = .str x → E' (.ref C) none H1) → spc Q' E' H)
    (k : ∀ v H', Same H H' → Dp K H' v d → Q v H') : spTold P w K mg base kc Cb cs os outer s [.ref g] H Q E :=
  ⟨g, spc, rfl, clo, fun Q' E' hQ hE => h Q' E' (fun v H1 s dp t => hQ v H1 t fun H' s' => k v H' (s.trans s') (Dp_same s' d v dp))
    (fun C H1 j x s ex W wx hd => hE C H1 ex ⟨j, x, W, wx, fun H' s' => k _ _ (s.trans s') (hd ▸ .str x)⟩)⟩
structure Shw2 (d : PyData) : Prop where
  sh : d.showable = true
  dp : d.depth ≤ 100
  ln : d.shown.length ≤ sizeLine
theorem rRepr_shw {H : Hp} {v : V} {d : PyData} {Q : VK} (h : Dp K H v d) (o : Shw2 d) (q : Q (.str d.shown) H) : rRepr K [v] H Q := by
  unfold rRepr
  exact ⟨v, d, rfl, h, o.sh, o.dp, o.ln, q⟩
theorem shw_tupsT {cs : List (List Int)} {m : Nat} (hc : ∀ c ∈ cs, c.length ≤ m ∧ ∀ z ∈ c, z.natAbs ≤ 10 ^ 60) (sz : (2002 * m + 6) * cs.length ≤ 16000000) : Shw2 (.tuple (cs.map tupD)) := by
  obtain ⟨a1, a2, a3⟩ := tups_ok (n := 0) hc
  obtain ⟨a, b⟩ := shown_le (.tuple (cs.map tupD)) (by simp only [okD]; exact a1)
  refine ⟨b, by simp only [PyData.depth]; omega, Nat.le_trans a ?_⟩
  simp only [wt]
  rw [sizeLine_eq]
  omega
theorem shw_str {x : Str} (h : (PyData.str x).shown.length ≤ sizeLine) : Shw2 (.str x) := ⟨by simp [PyData.showable], by simp [PyData.depth], h⟩
theorem Dp_tupsT {H : Hp} {a : Addr} {zs : List (Addr × List Int)} {cs : List (List Int)} (h : SqT K H a (refs zs)) (t : Tups K H zs) (e : zs.map (·.2) = cs) : Dp K H (.ref a) (.tuple (cs.map tupD)) := by
  subst e
  have ed : zs.map (fun z => tupD z.2) = (zs.map (·.2)).map tupD := by rw [List.map_map]; rfl
  have da := DpAll_tups t
  rw [ed] at da
  exact .tup h da
end
end KW

namespace KW
open PySem L2
section
variable {P : Program} {w : World} {K : PySem.W.Frag} {mg : Str → Option Value} {base : Heap} {f c tb : Addr} {fd : FuncData}
def Pk (K : PySem.W.Frag) (H : Hp) (p a : Addr) (ns : List Int) : Prop := ∃ x y, Pen K H p a ns x y
noncomputable def Pk.x {H : Hp} {p a : Addr} {ns : List Int} (h : Pk K H p a ns) : Int := h.choose
noncomputable def Pk.y {H : Hp} {p a : Addr} {ns : List Int} (h : Pk K H p a ns) : Int := h.choose_spec.choose
theorem Pk.pen {H : Hp} {p a : Addr} {ns : List Int} (h : Pk K H p a ns) : Pen K H p a ns h.x h.y := h.choose_spec.choose_spec
theorem Pk.same {H H' : Hp} {p a : Addr} {ns : List Int} (h : Pk K H p a ns) (s : Same H H') : Pk K H' p a ns := by
  obtain ⟨x, y, P⟩ := h
  exact ⟨x, y, P.same s⟩
theorem Pk.ne {H : Hp} {p a D : Addr} {ns : List Int} (h : Pk K H p a ns) (hD : H D = none) : D ≠ p := by
  obtain ⟨x, y, P⟩ := h
  exact (ne_of_none P.at_ hD).symm
theorem Pk.up {H H2 : Hp} {p a D : Addr} {ns : List Int} {o : HO} (h : Pk K H p a ns) (s : SameX p H H2) (h2 : Pk K H2 p a ns) (hD : H D = none) (ne : D ≠ p) : Pk K (L2.upd H2 D o) p a ns := by
  obtain ⟨x, y, P⟩ := h
  obtain ⟨x2, y2, P2⟩ := h2
  exact ⟨x2, y2, Pen.up P s P2 hD ne⟩
theorem Pk.sqT {H H' : Hp} {p a b : Addr} {ns : List Int} {xs : List V} (h : Pk K H p a ns) (q : SqT K H b xs) (s : SameX p H H') : SqT K H' b xs := by
  obtain ⟨x, y, P⟩ := h
  exact q.sx P.at_ s
theorem Pk.tups {H H' : Hp} {p a : Addr} {ns : List Int} {zs : List (Addr × List Int)} (h : Pk K H p a ns) (q : Tups K H zs) (s : SameX p H H') : Tups K H' zs := by
  obtain ⟨x, y, P⟩ := h
  exact q.sx P.at_ s
theorem map_ins {α : Type} (g : α → Int) (os : List α) (i : Nat) (k : α) : ((os.map g).map V.int).take i ++ V.int (g k) :: ((os.map g).map V.int).drop i = ((os.take i ++ k :: os.drop i).map g).map V.int := by
  simp only [List.map_append, List.map_cons, List.map_take, List.map_drop]
theorem ins_perm {α : Type} (os : List α) (i : Nat) (k : α) : (os.take i ++ k :: os.drop i).Perm (os ++ [k]) := by
  have h1 : (os.take i ++ k :: os.drop i).Perm (k :: (os.take i ++ os.drop i)) := List.perm_middle
  rw [List.take_append_drop] at h1
  exact h1.trans (List.perm_append_comm (l₁ := [k]) (l₂ := os))
def corn (w h : Int) (k : Nat) : Int := if w = 0 then (k : Int) else if w = 1 then (k : Int) - h else if w = 2 then (10 : Int) ^ (30 : Int).toNat - 1 - (k : Int) else ((k : Int) - h) * (10 : Int) ^ (28 : Int).toNat + (k : Int)
theorem corn_inj {w h : Int} {j k : Nat} (e : corn w h j = corn w h k) : j = k := by
  unfold corn at e
  have e28 : (10 : Int) ^ (28 : Int).toNat = 10000000000000000000000000000 := by decide +kernel
  rw [e28] at e
  split at e
  · omega
  split at e
  · omega
  split at e
  · omega
  · omega
theorem corn_bd {w h : Int} {k : Nat} (h0 : 0 ≤ h) (h1 : h ≤ 100) (hk : k ≤ 100) : (corn w h k).natAbs ≤ 10 ^ 31 := by
  unfold corn
  have e28 : (10 : Int) ^ (28 : Int).toNat = 10000000000000000000000000000 := by decide +kernel
  have e30 : (10 : Int) ^ (30 : Int).toNat = 1000000000000000000000000000000 := by decide +kernel
  have e31 : (10 : Nat) ^ 31 = 10000000000000000000000000000000 := by decide +kernel
  rw [e28, e30, e31]
  split
  · omega
  split
  · omega
  split
  · omega
  · omega
theorem corn_nd {w h : Int} {os : List Nat} (nd : os.Nodup) : (os.map (corn w h)).Nodup := by
  rw [List.nodup_iff_pairwise_ne, List.pairwise_map]
  exact nd.imp fun {x y} h e => h (corn_inj e)
theorem corn_at {w h : Int} {i : Nat} (w0 : 0 ≤ w) (w1 : w < 4) : atI [.int (i : Int), .int ((i : Int) - h), .int ((10 : Int) ^ (30 : Int).toNat - 1 - (i : Int)), .int (((i : Int) - h) * (10 : Int) ^ (28 : Int).toNat + (i : Int))] w = some (V.int (corn w h i)) := by
  have : w = 0 ∨ w = 1 ∨ w = 2 ∨ w = 3 := by omega
  rcases this with rfl | rfl | rfl | rfl
  · exact at_of (j := 0) rfl rfl
  · exact at_of (j := 1) rfl rfl
  · exact at_of (j := 2) rfl rfl
  · exact at_of (j := 3) rfl rfl
def spCorners (K : PySem.W.Frag) : Sp := fun vs H Q _ => ∃ (p a : Addr) (ns : List Int) (m : Nat), vs = [.ref p, .int m] ∧ Pk K H p a ns ∧ m ≤ 100 ∧
  ∀ (r : Addr) (ms : List Int) (H' : Hp), ms.length = m → ms.Nodup → (∀ e ∈ ms, e.natAbs ≤ 10 ^ 31) → H r = none → r ≠ p → H' r = some (.lst (ms.map V.int)) → SameX p H H' → Pk K H' p a ns → Q (.ref r) H'
abbrev s__law_corners : Stmt := top 26
abbrev N__law_corners : List Str := ["_law_state", "_law_many", "_law_way", "_law_found", "_law_k", "_law_corner"]
abbrev P__law_corners : List Str := ["_law_state", "_law_many"]
theorem sc__law_corners : FnScope N__law_corners P__law_corners (defScope s__law_corners) := ⟨rfl, rfl, rfl, by decide +kernel, rfl, by decide +kernel, by decide +kernel⟩
theorem ok__law_corners (F : FunC K "_law_corners" "_law_corners" s__law_corners f fd c) (T : Txt base mg) (C__law_take : Cal P w K mg base 2 "_law_take" P__law_take (spDraw K)) : FnOk P w K mg base CX0 3 f fd P__law_corners (spCorners K) := by
  refine F.okQ sc__law_corners (fun vs H Q E h => ?_) (fun A outer s H vs Q E hr h => ?_)
  · obtain ⟨p, a, ns, m, rfl, _⟩ := h
    rfl
  · obtain ⟨p, a, ns, m, rfl, Pn, hm, q⟩ := h
    refine ⟨_, (q_pss_cons (q_ps_set (i := 2) sc__law_corners.nd rfl (by first | exact Or.inl rfl | exact Or.inr rfl) (q_pe_cal C__law_take (hr.mono (by omega)) (q_pa_cons (q_pv 0) (q_pa_cons q_pe_int q_pa_nil))))
      (q_pss_cons (q_ps_set (i := 3) sc__law_corners.nd rfl (by first | exact Or.inl rfl | exact Or.inr rfl) (q_pe_lst q_pa_nil))
      (q_pss_cons (q_ps_for PassesOwn.never rfl (q_pi_range1 rfl T.no_range (q_pa_cons (q_pv 1) q_pa_nil)) (q_pg_name (i := 4) sc__law_corners.nd rfl (by first | exact Or.inl rfl | exact Or.inr rfl))
      (q_pss_cons (q_ps_set (i := 5) sc__law_corners.nd rfl (by first | exact Or.inl rfl | exact Or.inr rfl) (q_pe_ix (ix_listK (K := K) rfl) (q_pe_lst (q_pa_cons (q_pv 4) (q_pa_cons (q_pe_op op_sub (q_pv 4) (q_pe_op op_fdivN (q_pv 1) q_pe_int)) (q_pa_cons (q_pe_op op_sub (q_pe_op op_sub (q_pe_op op_pow q_pe_int q_pe_int) q_pe_int) (q_pv 4)) (q_pa_cons (q_pe_op op_add (q_pe_op op_mul (q_pe_op op_sub (q_pv 4) (q_pe_op op_fdivN (q_pv 1) q_pe_int)) (q_pe_op op_pow q_pe_int q_pe_int)) (q_pv 4)) q_pa_nil))))) (q_pv 2) (fun _ _ => rfl)))
      (q_pss_one (q_ps_expr (q_pe_bm PySem.F.plainAttrs_list PySem.F.slot_list_insert PySem.F.type_list_insert mt_insert (q_pv 3) (q_pa_cons (q_pe_cal C__law_take (hr.mono (by omega)) (q_pa_cons (q_pv 0) (q_pa_cons (q_pe_op op_add (q_pe_callB (call_lenK (K := K) rfl) rfl T.no_len (by decide +kernel) (q_pa_cons (q_pv 3) q_pa_nil)) q_pe_int) q_pa_nil))) (q_pa_cons (q_pv 5) q_pa_nil)))))))
      (q_pss_one (q_ps_ret (q_pv 3)))))), ?_⟩
    refine ⟨_, rfl, p, a, ns, Pn.x, Pn.y, _, rfl, Pn.pen, (by omega), (by show (_ : Int) < 1000000000; omega), fun wy xP0 yP0 H0 w0 w1 s0 P0 => ?_⟩
    replace P0 : Pk K H0 p a ns := ⟨_, _, P0⟩
    refine ⟨(by show 0 ≤ sizeLine; decide), fun R hR => ?_⟩
    have nR := P0.ne hR
    have hR0 := s0.free hR nR
    have hh : (0 : Int) ≤ (m : Int).fdiv 2 ∧ (m : Int).fdiv 2 ≤ 100 := by
      rw [Int.fdiv_eq_ediv_of_nonneg _ (by decide)]
      omega
    generalize ehf : (m : Int).fdiv 2 = hf at hh
    refine ⟨_, rfl, _, rfl, (by omega), (by omega), for_range (lo := 0) (fun i σ H' => ∃ (v4 v5 : Option V) (os : List Nat), σ = [some (.ref p), some (.int (m : Int)), some (.int wy), some (.ref R), v4, v5] ∧ os.Perm (List.range i) ∧ H' R = some (.lst ((os.map (corn wy hf)).map V.int)) ∧ SameX p H H' ∧ Pk K H' p a ns) ⟨none, none, [], rfl, by simp, upd_same, s0.updF hR0, Pn.up s0 P0 hR0 nR⟩ ?_ ?_⟩
    · rintro i σ H1 hi ⟨v4, v5, os, rfl, pm, eR, sx, P1⟩
      have hi : i < m := by omega
      have ol : os.length = i := by rw [pm.length_eq, List.length_range]
      have lo : ((os.map (corn wy hf)).map V.int).length = os.length := by rw [List.length_map, List.length_map]
      refine ⟨_, rfl, _, rfl, _, rfl, _, _, rfl, rfl, ⟨by decide, by decide⟩, _, _, rfl, rfl, _, _, rfl, rfl, ⟨by decide, by decide, by decide⟩, _, _, rfl, rfl, _, rfl, _, _, rfl, rfl, ?_⟩
      have e0 : (0 : Int) + (i : Int) = ((i : Nat) : Int) := by omega
      refine ⟨_, rfl, _, rfl, _, _, rfl, rfl, ⟨by decide, by decide⟩, _, _, rfl, rfl, _, _, rfl, rfl, ⟨by decide, by decide, by decide⟩, _, _, rfl, rfl, .inl ⟨by rw [ehf]; omega, by rw [ehf]; omega⟩, _, rfl, _, _, rfl, rfl, (by show 4 ≤ sizeLine; decide), fun l hl => ?_⟩
      rw [ehf, e0]
      have nlp := P1.ne hl
      have sl := Same.upd (o := .lst [.int (i : Int), .int ((i : Int) - hf), .int ((10 : Int) ^ (30 : Int).toNat - 1 - (i : Int)), .int (((i : Int) - hf) * (10 : Int) ^ (28 : Int).toNat + (i : Int))]) hl
      have P2 := P1.same sl
      have eR2 := sl R _ eR
      refine ⟨_, rfl, l, _, wy, _, rfl, rfl, SqL.of upd_same, corn_at w0 w1, ?_⟩
      refine ⟨_, rfl, .inl ⟨rfl, _, SqL.of eR2⟩, _, rfl, _, rfl, _, _, rfl, .inl ⟨_, SqL.of eR2, rfl⟩, _, _, rfl, rfl, p, a, ns, P2.x, P2.y, _, rfl, P2.pen, (by omega), (by show (_ : Int) < 1000000000; omega), fun d xP3 yP3 H2 d0 d1 s2 P3 => ?_⟩
      replace P3 : Pk K H2 p a ns := ⟨_, _, P3⟩
      obtain ⟨j, rfl⟩ := Int.eq_ofNat_of_zero_le d0
      have eR3 := s2 R _ nR eR2
      have s3 := (sx.trans (SameX.of sl)).trans s2
      refine ⟨_, rfl, R, _, _, j, rfl, rfl, eR3, (by rw [lo, ol] at d1 ⊢; omega), (by rw [lo, ol]; omega), ?_⟩
      refine ⟨_, _, os.take j ++ i :: os.drop j, rfl, ?_, ?_, s3.updF hR0, Pn.up s3 P3 hR0 nR⟩
      · rw [List.range_succ]
        exact (ins_perm os j i).trans (pm.append (List.Perm.refl _))
      · rw [upd_same, map_ins]
    · rintro σ H1 ⟨v4, v5, os, rfl, pm, eR, sx, P1⟩
      have pm : os.Perm (List.range m) := pm
      refine ⟨_, rfl, q R _ H1 (by rw [List.length_map, pm.length_eq, List.length_range]) (corn_nd (pm.nodup_iff.mpr List.nodup_range)) (fun e he => ?_) hR0 nR eR sx P1⟩
      obtain ⟨k, hk, rfl⟩ := List.mem_map.mp he
      have := List.mem_range.mp (pm.mem_iff.mp hk)
      exact corn_bd hh.1 hh.2 (by omega)
end
end KW

set_option maxHeartbeats 4000000
namespace KW
open PySem L2
section
variable {P : Program} {w : World} {K : PySem.W.Frag} {mg : Str → Option Value} {base : Heap} {f c tb : Addr} {fd : FuncData}
structure Pcm (n : Nat) (ms l : List Int) : Prop where
  len : l.length = n
  rise : l.Pairwise (· < ·)
  mem : ∀ e ∈ l, e ∈ ms
def spAnyK (K : PySem.W.Frag) : Sp := fun vs H Q _ => ∃ (p a N0 : Addr) (ns ms : List Int) (n m : Nat), vs = [.ref p, .ref N0, .int n, .int m] ∧ Pk K H p a ns ∧ N0 ≠ p ∧ H N0 = some (.lst (ms.map V.int)) ∧ ms.Nodup ∧ 1 ≤ n ∧ n ≤ ms.length ∧ ms.length ≤ 100 ∧ 1 ≤ m ∧ m ≤ 40 ∧
  ∀ (r : Addr) (zs : List (Addr × List Int)) (H' : Hp), SameX p H H' → Pk K H' p a ns → H r = none → H' r = some (.tup (refs zs)) → Tups K H' zs → 1 ≤ zs.length → zs.length ≤ m → (zs.map (·.2)).Nodup → (∀ z ∈ zs, Pcm n ms z.2) → Q (.ref r) H'
abbrev s__law_any : Stmt := top 27
abbrev N__law_any : List Str := ["_law_state", "_law_names", "_law_size", "_law_most", "_law_found", "_law_turn", "_law_rest", "_law_piece", "_law_k", "_law_one"]
abbrev P__law_any : List Str := ["_law_state", "_law_names", "_law_size", "_law_most"]
theorem sc__law_any : FnScope N__law_any P__law_any (defScope s__law_any) := ⟨rfl, rfl, rfl, by decide +kernel, rfl, by decide +kernel, by decide +kernel⟩
theorem ok__law_any (F : FunC K "_law_any" "_law_any" s__law_any f fd c) (T : Txt base mg) (C__law_take : Cal P w K mg base 2 "_law_take" P__law_take (spDraw K)) : FnOk P w K mg base CX0 3 f fd P__law_any (spAnyK K) := by
  refine F.okQ sc__law_any (fun vs H Q E h => ?_) (fun A outer s H vs Q E hr h => ?_)
  · obtain ⟨p, a, N0, ns, ms, n, m, rfl, _⟩ := h
    rfl
  · obtain ⟨p, a, N0, ns, ms, n, m, rfl, Pn, nN, hN, nd, n1, nm, ml, m1, m40, q⟩ := h
    refine ⟨_, (q_pss_cons (q_ps_set (i := 4) sc__law_any.nd rfl (by first | exact Or.inl rfl | exact Or.inr rfl) (q_pe_lst q_pa_nil))
      (q_pss_cons (q_ps_for PassesOwn.never rfl (q_pi_range1 rfl T.no_range (q_pa_cons (q_pe_op op_add q_pe_int (q_pe_cal C__law_take (hr.mono (by omega)) (q_pa_cons (q_pv 0) (q_pa_cons (q_pv 3) q_pa_nil)))) q_pa_nil)) (q_pg_name (i := 5) sc__law_any.nd rfl (by first | exact Or.inl rfl | exact Or.inr rfl))
      (q_pss_cons (q_ps_set (i := 6) sc__law_any.nd rfl (by first | exact Or.inl rfl | exact Or.inr rfl) (q_pe_callTy (call_list_ofK (K := K) rfl) rfl T.no_list (by decide +kernel) (q_pa_cons (q_pv 1) q_pa_nil)))
      (q_pss_cons (q_ps_set (i := 7) sc__law_any.nd rfl (by first | exact Or.inl rfl | exact Or.inr rfl) (q_pe_lst q_pa_nil))
      (q_pss_cons (q_ps_for PassesOwn.never rfl (q_pi_range1 rfl T.no_range (q_pa_cons (q_pv 2) q_pa_nil)) (q_pg_name (i := 8) sc__law_any.nd rfl (by first | exact Or.inl rfl | exact Or.inr rfl))
      (q_pss_one (q_ps_expr (q_pe_bm PySem.F.plainAttrs_list PySem.F.slot_list_append PySem.F.type_list_append mt_append (q_pv 7) (q_pa_cons (q_pe_bmK (K := K) rfl PySem.F.plainAttrs_list PySem.F.slot_list_pop PySem.F.type_list_pop mt_popAt (q_pv 6) (q_pa_cons (q_pe_cal C__law_take (hr.mono (by omega)) (q_pa_cons (q_pv 0) (q_pa_cons (q_pe_callB (call_lenK (K := K) rfl) rfl T.no_len (by decide +kernel) (q_pa_cons (q_pv 6) q_pa_nil)) q_pa_nil))) q_pa_nil)) q_pa_nil)))))
      (q_pss_one (q_ps_if (q_pt_cmpR (op_notInDK (K := K) rfl hr) (q_pe_callB (cr_sortInts (K := K) hr rfl) rfl T.no_sorted (by decide +kernel) (q_pa_cons (q_pv 7) q_pa_nil)) (q_pe_lc (own := [("_law_one", 9)]) rfl sc__law_any.nd (q_pi_listK (K := K) rfl (q_pv 4)) (blkOk_by (own := [("_law_one", 9)]) (N := N__law_any) (sc := defScope s__law_any) (by decide +kernel)) (fun _ _ _ _ _ => (q_pg_name (i := 9) sc__law_any.nd rfl (by first | exact Or.inl rfl | exact Or.inr rfl))) (fun _ _ _ _ _ => q_pts_nil) (fun _ _ _ _ _ => (q_pe_callTy (call_list_ofK (K := K) rfl) rfl T.no_list (by decide +kernel) (q_pa_cons (q_pv 9) q_pa_nil)))) (by first | rfl | exact nomark _))
      (q_pss_one (q_ps_expr (q_pe_bm PySem.F.plainAttrs_list PySem.F.slot_list_append PySem.F.type_list_append mt_append (q_pv 4) (q_pa_cons (q_pe_callTy (call_tuple_ofK (K := K) rfl) rfl T.no_tuple (by decide +kernel) (q_pa_cons (q_pe_callB (cr_sortInts (K := K) hr rfl) rfl T.no_sorted (by decide +kernel) (q_pa_cons (q_pv 7) q_pa_nil)) q_pa_nil)) q_pa_nil))))
      q_pss_nil))))))
      (q_pss_one (q_ps_ret (q_pe_callTy (call_tuple_ofK (K := K) rfl) rfl T.no_tuple (by decide +kernel) (q_pa_cons (q_pv 4) q_pa_nil)))))), ?_⟩
    refine ⟨(by show 0 ≤ sizeLine; decide), fun F0 hF => ?_⟩
    have nFp := Pn.ne hF
    have sF := Same.upd (o := .lst []) hF
    have P0 := Pn.same sF
    refine ⟨_, rfl, _, rfl, p, a, ns, P0.x, P0.y, _, rfl, P0.pen, (by omega), (by show (_ : Int) < 1000000000; omega), fun d xP1 yP1 H1 d0 d1 s1 P1 => ?_⟩
    replace P1 : Pk K H1 p a ns := ⟨_, _, P1⟩
    have sx1 := (SameX.of sF).trans s1
    have eF1 := s1 F0 _ nFp upd_same
    refine ⟨_, _, rfl, rfl, _, rfl, (by omega), (by omega), for_range (lo := 0) (fun i σ H' => ∃ (zs : List (Addr × List Int)) (v5 v6 v7 v8 : Option V), σ = [some (.ref p), some (.ref N0), some (.int (n : Int)), some (.int (m : Int)), some (.ref F0), v5, v6, v7, v8, none] ∧ (0 < i → 1 ≤ zs.length) ∧ zs.length ≤ i ∧ (zs.map (·.2)).Nodup ∧ (∀ z ∈ zs, Pcm n ms z.2) ∧ H' F0 = some (.lst (refs zs)) ∧ Tups K H' zs ∧ SameX p H H' ∧ Pk K H' p a ns)
      ⟨[], none, none, none, none, rfl, (fun h => absurd h (by omega)), by simp, List.nodup_nil, (fun z hz => nomatch hz), eF1, Tups.nil, sx1, P1⟩ ?_ ?_⟩
    · rintro i σ H' hi ⟨zs, v5, v6, v7, v8, rfl, z1, zl, znd, zp, eF, tz, sx, P'⟩
      have hi : i < m := by omega
      have eN := sx N0 _ nN hN
      refine ⟨_, rfl, N0, _, rfl, .inl (SqL.of eN), fun R hR => ?_⟩
      have nRp := P'.ne hR
      have sR := Same.upd (o := .lst (ms.map V.int)) hR
      refine ⟨(by show 0 ≤ sizeLine; decide), fun Y hY => ?_⟩
      have hY' : H' Y = none := sR.free hY
      have nYp := P'.ne hY'
      have nYR : Y ≠ R := (ne_of_none upd_same hY).symm
      refine ⟨_, rfl, _, rfl, (by omega), (by omega), for_range (lo := 0) (fun j σ H3 => ∃ (ys rest : List Int) (v8 : Option V), σ = [some (.ref p), some (.ref N0), some (.int (n : Int)), some (.int (m : Int)), some (.ref F0), some (.int (0 + (i : Int))), some (.ref R), some (.ref Y), v8, none] ∧ (ys ++ rest).Perm ms ∧ ys.length = j ∧ H3 R = some (.lst (rest.map V.int)) ∧ H3 Y = some (.lst (ys.map V.int)) ∧ SameX p H' H3 ∧ Pk K H3 p a ns)
        ⟨[], ms, v8, rfl, .refl _, rfl, by rw [upd_ne nYR.symm]; exact upd_same, upd_same, (SameX.of sR).updF hY', (P'.same sR).same (Same.upd hY)⟩ ?_ ?_⟩
      · rintro j σ H3 hj ⟨ys, rest, v8, rfl, pm, yl, eR, eY, s3, P3⟩
        have hj : j < n := by omega
        have rl : rest.length + j = ms.length := by
          have := pm.length_eq
          rw [List.length_append] at this; omega
        have rml : (rest.map V.int).length = rest.length := List.length_map ..
        refine ⟨_, rfl, .inl ⟨rfl, _, SqL.of eY⟩, _, rfl, .inl ⟨rfl, _, SqL.of eR⟩, _, rfl, _, rfl, _, _, rfl, .inl ⟨_, SqL.of eR, rfl⟩, p, a, ns, P3.x, P3.y, _, rfl, P3.pen, (by omega), (by show (_ : Int) < 1000000000; omega), fun d xP4 yP4 H4 d0 d1 s4 P4 => ?_⟩
        replace P4 : Pk K H4 p a ns := ⟨_, _, P4⟩
        have eR4 := s4 R _ nRp eR
        have eY4 := s4 Y _ nYp eY
        obtain ⟨z, hz⟩ : ∃ z, rest[d.toNat]? = some z := ⟨_, List.getElem?_eq_getElem (by omega)⟩
        refine ⟨R, rest.map V.int, d, d.toNat, .int z, rfl, rfl, eR4, by omega, by omega, seqIx d0 d1, by rw [List.getElem?_map, hz]; rfl, ?_⟩
        rw [erase_map]
        have s5 := (s3.trans s4).updF (o := .lst ((rest.eraseIdx d.toNat).map V.int)) hR
        have P5 := P'.up (o := .lst ((rest.eraseIdx d.toNat).map V.int)) (s3.trans s4) P4 hR nRp
        refine ⟨Y, ys.map V.int, _, rfl, rfl, by rw [upd_ne nYR]; exact eY4, by rw [List.length_map]; exact small (by omega), ?_⟩
        exact ⟨ys ++ [z], rest.eraseIdx d.toNat, _, rfl, (perm_pick hz).trans pm, by simp [yl], by rw [upd_ne nYR.symm, upd_same], by rw [upd_same, List.map_append]; rfl, s5.updF hY', P'.up s5 P5 hY' nYp⟩
      rintro σ H3 ⟨ys, rest, v8, rfl, pm, yl, eR, eY, s3, P3⟩
      have yl : ys.length = n := by rw [yl]; omega
      have eF3 := s3 F0 _ nFp eF
      have tz3 := P'.tups tz s3
      have ynd : ys.Nodup := (List.nodup_append.mp (pm.nodup_iff.mpr nd)).1
      refine ⟨_, rfl, Y, ys, rfl, SqL.of eY, fun bs q1 pb sr hq => ?_⟩
      have s4 := Same.upd (o := .lst (bs.map V.int)) hq
      have eq4 : L2.upd H3 q1 (.lst (bs.map V.int)) q1 = some (.lst (bs.map V.int)) := upd_same
      generalize L2.upd H3 q1 (.lst (bs.map V.int)) = H4 at s4 eq4 ⊢
      have pc : Pcm n ms bs := ⟨by rw [pb.length_eq, yl], rise_of pb ynd sr, fun e he => pm.mem_iff.mp (List.mem_append_left _ (pb.mem_iff.mp he))⟩
      refine ⟨_, rfl, F0, rfl, ⟨_, SqL.of (s4 _ _ eF3)⟩, fun D hD => ?_⟩
      refine lc_list (xs := refs zs) (fun j H5 => ∃ ws : List (Addr × List Int), Same H4 H5 ∧ H5 D = some (.lst (refs ws)) ∧ (∀ w ∈ ws, H5 w.1 = some (.lst (w.2.map V.int)) ∧ w.1 ≠ D) ∧ ws.map (·.2) = (zs.map (·.2)).take j) ⟨[], Same.upd hD, upd_same, (fun z hz => nomatch hz), by simp⟩ (fun j H5 _ ⟨_, h, _⟩ => SqL.of (h _ _ (s4 _ _ eF3))) ?_ ?_
      · rintro j x H5 hx ⟨ws, s5, e5, l5, w5⟩
        obtain ⟨z, hz, rfl⟩ := refs_at hx
        refine ⟨rfl, yes ⟨_, rfl, z.1, _, rfl, .inr ((s4.trans s5).sqT (tz3 z (List.mem_of_getElem? hz))), fun L hL => ?_⟩⟩
        have s6 := Same.upd (o := .lst (z.2.map V.int)) hL
        have nLD : L ≠ D := (ne_of_none e5 hL).symm
        have wj : ws.length ≤ j := by
          have := congrArg List.length w5
          rw [List.length_map, List.length_take] at this
          omega
        have hj : j < zs.length := (List.getElem?_eq_some_iff.mp hz).1
        refine ⟨refs ws, s6 _ _ e5, by rw [List.length_map]; exact small (by omega), ws ++ [(L, z.2)], fun b o e => ?_, by rw [upd_same, refs_snoc], fun y hy => ?_, ?_⟩
        · rw [upd_ne (ne_of_none e hD)]
          exact s6 _ _ (s5 _ _ e)
        · rcases List.mem_append.mp hy with h | h
          · obtain ⟨h1, h2⟩ := l5 y h
            exact ⟨by rw [upd_ne h2]; exact s6 _ _ h1, h2⟩
          · rw [List.mem_singleton.mp h]
            exact ⟨by rw [upd_ne nLD]; exact upd_same, nLD⟩
        · rw [List.map_append, w5, List.take_succ, List.getElem?_map, hz]; rfl
      · rintro H5 ⟨ws, s5, e5, l5, w5⟩
        have w5 : ws.map (·.2) = zs.map (·.2) := by
          rw [w5, show (refs zs).length = (zs.map (·.2)).length by rw [List.length_map, List.length_map], List.take_length]
        have s45 := s4.trans s5
        have eF5 := s45 _ _ eF3
        have tz5 := tz3.same s45
        have P5 := P3.same s45
        have s05 := sx.trans (s3.trans (SameX.of s45))
        refine rInD_lsts (K := K) (SqL.of (s5 _ _ eq4)) (SqL.of e5) (fun z hz => SqL.of (l5 z hz).1) ⟨_, rfl, ?_⟩
        rw [w5]
        by_cases hin : bs ∈ zs.map (·.2)
        · refine iteF' (by simp [hin]) ?_
          have z1' : 1 ≤ zs.length := by
            rcases zs with _ | ⟨z, zs⟩
            · simp at hin
            · simp
          exact ⟨zs, _, _, _, _, rfl, fun _ => z1', by omega, znd, zp, eF5, tz5, s05, P5⟩
        · refine iteT' (by simp [hin]) ?_
          refine ⟨_, rfl, .inl ⟨rfl, _, SqL.of eF5⟩, _, rfl, Y, ys, rfl, SqL.of (s45 _ _ eY), fun bs2 q2 pb2 sr2 hq2 => ?_⟩
          have eb : bs2 = bs := ints_unique (pb2.trans pb.symm) sr2 sr
          subst eb
          refine ⟨q2, _, rfl, .inl ⟨SqL.of upd_same, fun t ht => ?_⟩⟩
          have s6 := (Same.upd (o := .lst (bs2.map V.int)) hq2).trans (Same.upd (o := .tup (bs2.map V.int)) ht)
          have et : L2.upd (L2.upd H5 q2 (.lst (bs2.map V.int))) t (.tup (bs2.map V.int)) t = some (.tup (bs2.map V.int)) := upd_same
          generalize L2.upd (L2.upd H5 q2 (.lst (bs2.map V.int))) t (.tup (bs2.map V.int)) = H6 at s6 et ⊢
          have eF6 := s6 _ _ eF5
          have tz6 := tz5.same s6
          have s06 := s05.trans (SameX.of s6)
          refine ⟨F0, _, _, rfl, rfl, eF6, by rw [List.length_map]; exact small (by omega), ?_⟩
          refine ⟨zs ++ [(t, bs2)], _, _, _, _, rfl, fun _ => by simp, by simp; omega, ?_, ?_, by rw [upd_same, refs_snoc], (tz6.snoc (.inl (.inl et))).sx eF6 SameX.upd, s06.updF hF, Pn.up s06 (P5.same s6) hF nFp⟩
          · rw [List.map_append]; exact nodup_snoc znd hin
          · intro z' hz'
            rcases List.mem_append.mp hz' with h | h
            · exact zp z' h
            · rw [List.mem_singleton.mp h]; exact pc
    · rintro σ H' ⟨zs, v5, v6, v7, v8, rfl, z1, zl, znd, zp, eF, tz, sx, P'⟩
      refine ⟨_, rfl, F0, _, rfl, .inl ⟨SqL.of eF, fun r hr => ?_⟩⟩
      have s1 := Same.upd (o := .tup (refs zs)) hr
      exact q r zs _ (sx.trans (SameX.of s1)) (P'.same s1) (sx.free hr (P'.ne hr)) upd_same (tz.same s1) (z1 (by omega)) (by omega) znd zp
end
end KW

set_option maxHeartbeats 4000000
namespace KW
open PySem L2
section
variable {P : Program} {w : World} {K : PySem.W.Frag} {mg : Str → Option Value} {base : Heap} {f c tb : Addr} {fd : FuncData}
theorem cut_win {l : List Int} {i m : Nat} (h : i + m ≤ l.length) : cutV (l.map V.int) (some (i : Int)) (some ((i : Int) + (m : Int))) = ((l.drop i).take m).map V.int := by
  unfold cutV
  rw [show (i : Int) + (m : Int) = ((i + m : Nat) : Int) by omega, HT.sIx_nat, HT.sIx_nat, List.length_map, Nat.min_eq_left h, Nat.min_eq_left (by omega), List.map_take, List.map_drop]
  congr 1
  omega
def spWindows (K : PySem.W.Frag) : Sp := fun vs H Q _ => ∃ (N0 : Addr) (ms : List Int) (n m : Nat), vs = [.ref N0, .int n, .int m] ∧ SqL K H N0 (ms.map V.int) ∧ ms.Nodup ∧ 1 ≤ n ∧ 1 ≤ m ∧ n + m ≤ ms.length + 1 ∧ ms.length ≤ 100 ∧
  ∀ (r : Addr) (zs : List (Addr × List Int)) (H' : Hp), H r = none → Same H H' → H' r = some (.tup (refs zs)) → Tups K H' zs → zs.length = m → (∀ z ∈ zs, Pcm n ms z.2) → Q (.ref r) H'
abbrev s__law_windows : Stmt := top 28
abbrev N__law_windows : List Str := ["_law_names", "_law_size", "_law_many", "_law_k"]
abbrev P__law_windows : List Str := ["_law_names", "_law_size", "_law_many"]
theorem sc__law_windows : FnScope N__law_windows P__law_windows (defScope s__law_windows) := ⟨rfl, rfl, rfl, by decide +kernel, rfl, by decide +kernel, by decide +kernel⟩
theorem ok__law_windows (F : FunC K "_law_windows" "_law_windows" s__law_windows f fd c) (T : Txt base mg) : FnOk P w K mg base CX0 2 f fd P__law_windows (spWindows K) := by
  refine F.okQ sc__law_windows (fun vs H Q E h => ?_) (fun A outer s H vs Q E hr h => ?_)
  · obtain ⟨N0, ms, n, m, rfl, _⟩ := h
    rfl
  · obtain ⟨N0, ms, n, m, rfl, hN, nd, n1, m1, nm, ml, q⟩ := h
    refine ⟨_, (q_pss_one (q_ps_ret (q_pe_callTy (call_tuple_ofK (K := K) rfl) rfl T.no_tuple (by decide +kernel) (q_pa_cons (q_pe_lc (own := [("_law_k", 3)]) rfl sc__law_windows.nd (q_pi_range1 rfl T.no_range (q_pa_cons (q_pv 2) q_pa_nil)) (blkOk_by (own := [("_law_k", 3)]) (N := N__law_windows) (sc := defScope s__law_windows) (by decide +kernel)) (fun _ _ _ _ _ => (q_pg_name (i := 3) sc__law_windows.nd rfl (by first | exact Or.inl rfl | exact Or.inr rfl))) (fun _ _ _ _ _ => q_pts_nil) (fun _ _ _ _ _ => (q_pe_callTy (call_tuple_ofK (K := K) rfl) rfl T.no_tuple (by decide +kernel) (q_pa_cons (q_pe_callB (cr_sortInts (K := K) hr rfl) rfl T.no_sorted (by decide +kernel) (q_pa_cons (q_pe_slice (sl_listK (K := K) rfl) (q_pv 0) (q_po_some (q_pv 3)) (q_po_some (q_pe_op op_add (q_pv 3) (q_pv 1)))) q_pa_nil)) q_pa_nil)))) q_pa_nil)))), ?_⟩
    refine ⟨_, rfl, _, rfl, (by omega), (by omega), fun D hD => ?_⟩
    refine lc_range (lo := 0) (fun i H' => Same H H' ∧ ∃ zs : List (Addr × List Int), H' D = some (.lst (refs zs)) ∧ Tups K H' zs ∧ zs.length = i ∧ ∀ z ∈ zs, Pcm n ms z.2) ⟨Same.upd hD, [], upd_same, Tups.nil, rfl, (fun z hz => nomatch hz)⟩ ?_ ?_
    · rintro i H' hi ⟨sm, zs, eD, tz, zl, zp⟩
      have hi : i < m := by omega
      have e0 : (0 : Int) + (i : Int) = (i : Int) := by omega
      have hN' := sm.seq hN
      refine ⟨rfl, yes ⟨_, rfl, _, rfl, _, rfl, _, rfl, _, rfl, _, _, rfl, rfl, _, rfl, N0, _, rfl, hN', fun S hS => ?_⟩⟩
      refine alloc (HO.lst (cutV (ms.map V.int) (some (0 + (i : Int))) (some (0 + (i : Int) + (n : Int))))) hS fun H3 s3 e3 => ?_
      rw [e0, cut_win (by omega)] at e3
      refine ⟨S, (ms.drop i).take n, rfl, SqL.of e3, fun bs q1 pb sr hq => ?_⟩
      refine ⟨q1, _, rfl, .inl ⟨SqL.of upd_same, fun t ht => ?_⟩⟩
      have s4 := s3.trans ((Same.upd (o := .lst (bs.map V.int)) hq).trans (Same.upd (o := .tup (bs.map V.int)) ht))
      obtain ⟨acc, a1, a2, a3, a4, a5⟩ := tl_push hD sm eD tz s4 (.inl (.inl upd_same)) (by omega)
      refine ⟨acc, a1, a2, a3, _, a4, a5, by simp [zl], fun z hz => ?_⟩
      rcases List.mem_append.mp hz with h | h
      · exact zp z h
      · rw [List.mem_singleton.mp h]
        have sub : ((ms.drop i).take n).Sublist ms := (List.take_sublist _ _).trans (List.drop_sublist _ _)
        exact ⟨by rw [pb.length_eq, List.length_take, List.length_drop]; omega, rise_of pb (nd.sublist sub) sr, fun e he => sub.subset (pb.mem_iff.mp he)⟩
    · rintro H' ⟨sm, zs, eD, tz, zl, zp⟩
      have en : ((m : Int)).toNat = m := by omega
      try rw [en] at zl
      refine ⟨D, _, rfl, .inl ⟨SqL.of eD, fun r hr => ?_⟩⟩
      have s1 := Same.upd (o := .tup (refs zs)) hr
      exact q r zs _ (sm.free hr) (sm.trans s1) upd_same (tz.same s1) zl zp
end
end KW

set_option maxHeartbeats 4000000
namespace KW
open PySem L2
section
variable {P : Program} {w : World} {K : PySem.W.Frag} {mg : Str → Option Value} {base : Heap} {f c tb : Addr} {fd : FuncData}
def comJ (l m : List Int) : List Int := l.filter fun x => decide (x ∈ m)
def spCommonL (K : PySem.W.Frag) (tb : Addr) : Sp := fun vs H Q _ => ∃ (a b : Addr) (l m : List Int), vs = [.ref a, .ref b] ∧ SqL K H a (l.map V.int) ∧ SqL K H b (m.map V.int) ∧ l.length ≤ 100000 ∧ H tb = some (tbO tb #[]) ∧
  ∀ (r : Addr) (H' : Hp), H r = none → Same H H' → H' r = some (.tup ((comJ l m).map V.int)) → Q (.ref r) H'
abbrev s_common : Stmt := top 17
abbrev N_common : List Str := ["face", "other", "corner"]
abbrev P_common : List Str := ["face", "other"]
theorem sc_common : FnScope N_common P_common (defScope s_common) := ⟨rfl, rfl, rfl, by decide +kernel, rfl, by decide +kernel, by decide +kernel⟩
theorem ok_common (F : FunC K "common" "common" s_common f fd c) (ck : CodeK K c tb) (T : Txt base mg) : FnOk P w K mg base CX0 2 f fd P_common (spCommonL K tb) := by
  refine F.okQ sc_common (fun vs H Q E h => ?_) (fun A outer s H vs Q E hr h => ?_)
  · obtain ⟨a, b, l, m, rfl, _⟩ := h
    rfl
  · obtain ⟨a, b, l, ms, rfl, ha, hb, hl, hT, k⟩ := h
    refine ⟨_, (q_pss_one (q_ps_ret (q_pe_tupG (ps := #[]) (k := 0) (own := [("corner", 2)]) ⟨rfl, sc_common.nd, blkOk_by (own := [("corner", 2)]) (N := N_common) (sc := defScope s_common) (by decide +kernel), ⟨rfl, by decide +kernel, by decide +kernel⟩, rfl, ck, T.bm, hr.mono (by omega)⟩ rfl T.no_tuple (q_pi_listK (K := K) rfl (q_pv 0)) (fun _ _ _ _ _ _ => (q_pg_name (i := 2) sc_common.nd rfl (by first | exact Or.inl rfl | exact Or.inr rfl))) (fun _ _ _ _ _ _ hrg => (q_pts_one (q_pt_cmpR (op_in_seqK (K := K) rfl) (q_pv 2) (q_pv 1) (by first | rfl | exact nomark _)))) (fun _ _ _ _ _ _ hrg => (q_pv 2))))), ?_⟩
    refine ⟨_, rfl, a, rfl, ⟨_, ha⟩, hT, ?_⟩
    refine gen_list (xs := l.map V.int) (fun i acc H' => H' = H ∧ acc = (comJ (l.take i) ms).map V.int) (fun i acc H' _ h => h.1 ▸ ha) ?_ ?_ ⟨rfl, rfl⟩
    · rintro i x acc H' hx ⟨rfl, rfl⟩
      obtain ⟨z, hz, rfl⟩ := ints_at hx
      have e : (l.take (i + 1)) = l.take i ++ [z] := by rw [List.take_succ, hz]; rfl
      refine ⟨rfl, _, rfl, _, rfl, b, _, rfl, .inl hb, rfl, flat_ints _, _, rfl, ?_⟩
      rw [inV_ints]
      unfold comJ
      by_cases h : z ∈ ms
      · refine iteT' (by simp [h]) ⟨_, rfl, ?_, rfl, ?_⟩
        · rw [List.length_map]
          exact small (Nat.le_trans (List.length_filter_le _ _) (Nat.le_trans (List.length_take_le' _ _) hl))
        · rw [e, List.filter_append, List.filter_cons_of_pos (by simp [h]), List.map_append]; simp
      · refine iteF' (by simp [h]) ⟨rfl, ?_⟩
        rw [e, List.filter_append, List.filter_cons_of_neg (by simp [h])]; simp
    · rintro acc H' ⟨rfl, rfl⟩
      rw [List.length_map, List.take_length]
      refine ⟨?_, fun r hr => k r _ hr (Same.upd hr) upd_same⟩
      rw [List.length_map]
      exact Nat.le_of_lt (small (Nat.le_trans (List.length_filter_le _ _) hl))
def spCornersP (K : PySem.W.Frag) : Sp := fun vs H Q _ => ∃ (sh : Addr) (zs : List (Addr × List Int)), vs = [.ref sh] ∧ SqT K H sh (refs zs) ∧ Tups K H zs ∧ (∀ z ∈ zs, z.2.length ≤ 6) ∧ zs.length ≤ 40 ∧
  ∀ (r : Addr) (cs : List Int) (H' : Hp), H r = none → Same H H' → H' r = some (.lst (cs.map V.int)) → cs.Nodup → cs.Pairwise (· ≤ ·) → (∀ x, x ∈ cs ↔ ∃ z ∈ zs, x ∈ z.2) → cs.length ≤ 240 → Q (.ref r) H'
abbrev s_corners : Stmt := top 20
abbrev N_corners : List Str := ["shape", "piece", "corner"]
abbrev P_corners : List Str := ["shape"]
theorem sc_corners : FnScope N_corners P_corners (defScope s_corners) := ⟨rfl, rfl, rfl, by decide +kernel, rfl, by decide +kernel, by decide +kernel⟩
theorem ok_corners (F : FunC K "corners" "corners" s_corners f fd c) (T : Txt base mg) : FnOk P w K mg base CX0 2 f fd P_corners (spCornersP K) := by
  refine F.okQ sc_corners (fun vs H Q E h => ?_) (fun A outer s H vs Q E hr h => ?_)
  · obtain ⟨sh, zs, rfl, _⟩ := h
    rfl
  · obtain ⟨sh, zs, rfl, ha, ht, z6, z40, k⟩ := h
    refine ⟨_, (q_pss_one (q_ps_ret (q_pe_callB (cr_sortSetI rfl hr) rfl T.no_sorted (by decide +kernel) (q_pa_cons (q_pe_sc2 (own := [("piece", 1), ("corner", 2)]) (vs1 := [2]) (mk := fun D => SetI w D []) (radd := rAddI w) rfl sc_corners.nd (q_pi_tupK (K := K) rfl (q_pv 0)) (blkOk_by (own := [("piece", 1), ("corner", 2)]) (N := N_corners) (sc := defScope s_corners) (by decide +kernel)) (by decide) (fun _ _ _ _ _ => (q_pg_name (i := 1) sc_corners.nd rfl (by first | exact Or.inl rfl | exact Or.inr rfl))) (fun _ _ _ _ _ => q_pts_nil) (fun _ _ _ _ _ => (q_pi_tupK (K := K) rfl (q_pv 1))) (fun _ _ _ _ _ => (q_pg_name (i := 2) sc_corners.nd rfl (by first | exact Or.inl rfl | exact Or.inr rfl))) (fun _ _ _ _ _ => q_pts_nil) (fun _ _ _ _ _ => (q_pv 2)) (mkI P w) (fun _ _ _ _ _ => cr_addI)) q_pa_nil)))), ?_⟩
    refine ⟨_, rfl, sh, rfl, ⟨_, ha⟩, fun D hD => ?_⟩
    refine sc2_tup (mk := fun D => SetI w D []) (radd := rAddI w) (xs := refs zs) (fun i H2 => Same H H2 ∧ ∃ js, H2 D = some (SetI w D js) ∧ js.Nodup ∧ (∀ x, x ∈ js ↔ ∃ z ∈ zs.take i, x ∈ z.2) ∧ js.length ≤ 6 * i) ⟨Same.upd hD, [], upd_same, List.nodup_nil, (fun x => by simp), by simp⟩ (fun i H2 _ h => h.1.sqT ha) ?_ ?_
    · rintro i xv H2 hxv ⟨s2, js, hd, nd, mem, tl⟩
      obtain ⟨z, hz, rfl⟩ := refs_at hxv
      have hi : i < zs.length := (List.getElem?_eq_some_iff.mp hz).1
      have hzm := List.mem_of_getElem? hz
      have hz6 := z6 z hzm
      refine ⟨rfl, yes ⟨_, rfl, z.1, rfl, ⟨_, s2.sqT (ht z hzm)⟩, ?_⟩⟩
      refine inn_tup (xs := z.2.map V.int) (fun j H4 => Same H H4 ∧ ∃ js, H4 D = some (SetI w D js) ∧ js.Nodup ∧ (∀ x, x ∈ js ↔ (∃ z ∈ zs.take i, x ∈ z.2) ∨ x ∈ z.2.take j) ∧ js.length ≤ 6 * i + j)
        ⟨s2, js, hd, nd, (fun x => by rw [mem x]; simp), by omega⟩ (fun j H4 _ h => h.1.sqT (ht z hzm)) ?_ ?_
      · rintro j yv H4 hyv ⟨s4, js4, hd4, nd4, mem4, tl4⟩
        obtain ⟨u, hu, rfl⟩ := ints_at hyv
        have hj : j < z.2.length := (List.getElem?_eq_some_iff.mp hu).1
        refine ⟨rfl, yes ⟨_, rfl, D, u, js4, rfl, hd4, by omega, fun ks hk => ?_⟩⟩
        refine ⟨s4.updF hD, ks, upd_same, ?_, fun x => ?_, ?_⟩
        · rcases hk with ⟨_, rfl⟩ | ⟨h1, h2⟩
          · exact nd4
          · exact h2.nodup_iff.mpr (List.nodup_cons.mpr ⟨h1, nd4⟩)
        · have e : x ∈ ks ↔ x ∈ js4 ∨ x = u := by
            rcases hk with ⟨h1, rfl⟩ | ⟨h1, h2⟩
            · constructor
              · exact .inl
              · rintro (h | rfl)
                · exact h
                · exact h1
            · rw [h2.mem_iff, List.mem_cons, or_comm]
          rw [e, mem4 x, List.take_succ, hu]
          simp only [Option.toList_some, List.mem_append, List.mem_singleton, or_assoc]
        · rcases hk with ⟨_, rfl⟩ | ⟨h1, h2⟩
          · omega
          · rw [h2.length_eq, List.length_cons]; omega
      · rintro H4 ⟨s4, js4, hd4, nd4, mem4, tl4⟩
        have e0 : (z.2.map V.int).length = z.2.length := List.length_map ..
        rw [e0, List.take_length] at mem4
        refine ⟨s4, js4, hd4, nd4, fun x => ?_, by rw [e0] at tl4; omega⟩
        rw [mem4 x, List.take_succ, hz]
        simp only [Option.toList_some, List.mem_append, List.mem_singleton]
        constructor
        · rintro (⟨v, hv, hx⟩ | hx)
          · exact ⟨v, .inl hv, hx⟩
          · exact ⟨z, .inr rfl, hx⟩
        · rintro ⟨v, hv | rfl, hx⟩
          · exact .inl ⟨v, hv, hx⟩
          · exact .inr hx
    · rintro H2 ⟨s2, js, hd, nd, mem, tl⟩
      have e0 : (refs zs).length = zs.length := List.length_map ..
      rw [e0, List.take_length] at mem
      rw [e0] at tl
      refine ⟨D, js, rfl, hd, fun bs q pb rs hq => ?_⟩
      exact k q bs _ (s2.free hq) (s2.trans (Same.upd hq)) upd_same (pb.nodup_iff.mpr nd) rs (fun x => pb.mem_iff.trans (mem x)) (by rw [pb.length_eq]; omega)
end
end KW

set_option maxHeartbeats 4000000
namespace KW
open PySem L2
def insJ (x : Int) : List Int → List Int
  | [] => [x]
  | y :: l => if x ≤ y then x :: y :: l else y :: insJ x l
def srtJ : List Int → List Int
  | [] => []
  | x :: l => insJ x (srtJ l)
theorem insJ_perm (x : Int) : ∀ l, (insJ x l).Perm (x :: l)
  | [] => .refl _
  | y :: l => by
    unfold insJ
    split
    · exact .refl _
    · exact ((insJ_perm x l).cons y).trans (.swap x y l)
theorem srtJ_perm : ∀ l, (srtJ l).Perm l
  | [] => .refl _
  | x :: l => (insJ_perm x _).trans ((srtJ_perm l).cons x)
theorem insJ_rise (x : Int) : ∀ l, l.Pairwise (· ≤ ·) → (insJ x l).Pairwise (· ≤ ·)
  | [], _ => List.pairwise_singleton _ _
  | y :: l, h => by
    rw [List.pairwise_cons] at h
    unfold insJ
    split
    · rename_i hx
      rw [List.pairwise_cons, List.pairwise_cons]
      refine ⟨fun z hz => ?_, h⟩
      rcases List.mem_cons.mp hz with rfl | hz
      · exact hx
      · exact Int.le_trans hx (h.1 z hz)
    · rename_i hx
      rw [List.pairwise_cons]
      refine ⟨fun z hz => ?_, insJ_rise x l h.2⟩
      rcases List.mem_cons.mp ((insJ_perm x l).mem_iff.mp hz) with rfl | hz
      · omega
      · exact h.1 z hz
theorem srtJ_rise : ∀ l, (srtJ l).Pairwise (· ≤ ·)
  | [] => .nil
  | x :: l => insJ_rise x _ (srtJ_rise l)
theorem srtJ_of {bs l : List Int} (p : bs.Perm l) (h : bs.Pairwise (· ≤ ·)) : bs = srtJ l := ints_unique (p.trans (srtJ_perm l).symm) h (srtJ_rise l)
theorem srtJ_len (l : List Int) : (srtJ l).length = l.length := (srtJ_perm l).length_eq
abbrev Zs := List (Addr × List Int)
def meetJ (zs us : Zs) : Bool := zs.any fun z => us.any fun u => z.2.any fun x => decide (x ∈ u.2)
def outJ (zs us : Zs) (n m : Nat) : Nat := if meetJ zs us = true then 1 else if 40 < zs.length * us.length ∨ 6 < n + m then 2 else 0
def rowJ (z : List Int) (us : Zs) : List (List Int) := us.map fun u => srtJ (z ++ u.2)
def joinL (zs us : Zs) : List (List Int) := zs.flatMap fun z => rowJ z.2 us
theorem joinL_snoc {zs us : Zs} {i : Nat} {z : Addr × List Int} (h : zs[i]? = some z) : joinL (zs.take (i + 1)) us = joinL (zs.take i) us ++ rowJ z.2 us := by
  unfold joinL
  rw [List.take_succ, h, List.flatMap_append]
  simp
theorem rowJ_snoc {us : Zs} {j : Nat} {u : Addr × List Int} {z : List Int} (h : us[j]? = some u) : rowJ z (us.take (j + 1)) = rowJ z (us.take j) ++ [srtJ (z ++ u.2)] := by
  unfold rowJ
  rw [List.take_succ, h, List.map_append]
  rfl
theorem joinL_len (zs us : Zs) : (joinL zs us).length = zs.length * us.length := by
  unfold joinL rowJ
  induction zs with
  | nil => simp
  | cons z zs ih => rw [List.flatMap_cons, List.length_append, ih, List.length_map, List.length_cons, Nat.add_mul, Nat.one_mul, Nat.add_comm]
structure ShJ (K : PySem.W.Frag) (H : Hp) (sh : Addr) (zs : Zs) (n : Nat) : Prop where
  s : SqT K H sh (refs zs)
  t : Tups K H zs
  z1 : 1 ≤ zs.length
  zl : zs.length ≤ 40
  zn : ∀ z ∈ zs, z.2.length = n
  n1 : 1 ≤ n
  n6 : n ≤ 6
  bd : ∀ z ∈ zs, ∀ e ∈ z.2, e.natAbs ≤ 10 ^ 31
theorem ShJ.same {K : PySem.W.Frag} {H H' : Hp} {sh : Addr} {zs : Zs} {n : Nat} (h : ShJ K H sh zs n) (s : Same H H') : ShJ K H' sh zs n := ⟨s.sqT h.s, h.t.same s, h.z1, h.zl, h.zn, h.n1, h.n6, h.bd⟩
theorem ShJ.at0 {K : PySem.W.Frag} {H : Hp} {sh : Addr} {zs : Zs} {n : Nat} (h : ShJ K H sh zs n) : ∃ z, z ∈ zs ∧ atI (refs zs) 0 = some (V.ref z.1) ∧ z.2.length = n := by
  obtain ⟨z0, hz0⟩ : ∃ z0, zs[0]? = some z0 := ⟨_, List.getElem?_eq_getElem h.z1⟩
  exact ⟨z0, List.mem_of_getElem? hz0, at_of (j := 0) rfl (by show (refs zs)[0]? = _; rw [List.getElem?_map, hz0]; rfl), h.zn z0 (List.mem_of_getElem? hz0)⟩
theorem meet_com {zs us : Zs} {cs ds : List Int} (hc : ∀ x, x ∈ cs ↔ ∃ z ∈ zs, x ∈ z.2) (hd : ∀ x, x ∈ ds ↔ ∃ u ∈ us, x ∈ u.2) : (!(comJ cs ds).isEmpty) = meetJ zs us := by
  rw [Bool.eq_iff_iff]
  unfold meetJ
  simp only [List.any_eq_true, decide_eq_true_eq, Bool.not_eq_true', List.isEmpty_eq_false_iff_exists_mem]
  constructor
  · rintro ⟨x, hx⟩
    unfold comJ at hx
    obtain ⟨h1, h2⟩ := List.mem_filter.mp hx
    obtain ⟨z, hz, hx1⟩ := (hc x).mp h1
    obtain ⟨u, hu, hx2⟩ := (hd x).mp (of_decide_eq_true h2)
    exact ⟨z, hz, u, hu, x, hx1, hx2⟩
  · rintro ⟨z, hz, u, hu, x, hx1, hx2⟩
    exact ⟨x, List.mem_filter.mpr ⟨(hc x).mpr ⟨z, hz, hx1⟩, decide_eq_true ((hd x).mpr ⟨u, hu, hx2⟩)⟩⟩
section
variable {P : Program} {w : World} {K : PySem.W.Frag} {mg : Str → Option Value} {base : Heap} {f c tb : Addr} {fd : FuncData}
abbrev veL : List Value := [.type "ValueError", .type "Exception", .type "BaseException", .type "object"]
def spJoin (K : PySem.W.Frag) (Cn Ct tc tb : Addr) : Sp := fun vs H Q E => ∃ (sh s2 : Addr) (zs us : Zs) (n m : Nat), vs = [.ref sh, .ref s2] ∧ ShJ K H sh zs n ∧ ShJ K H s2 us m ∧ H tc = some (tbO tc #[]) ∧ H tb = some (tbO tb #[]) ∧
  (outJ zs us n m = 0 → ∀ (r : Addr) (ys : Zs) (H' : Hp), Same H H' → SqT K H' r (refs ys) → Tups K H' ys → ys.map (·.2) = joinL zs us → Q (.ref r) H') ∧
  (outJ zs us n m = 1 → ∀ H', Same H H' → E (.ref Cn) none H') ∧ (outJ zs us n m = 2 → ∀ H', Same H H' → E (.ref Ct) none H')
abbrev s_join : Stmt := top 22
abbrev N_join : List Str := ["one", "other", "piece", "added"]
abbrev P_join : List Str := ["one", "other"]
theorem sc_join : FnScope N_join P_join (defScope s_join) := ⟨rfl, rfl, rfl, by decide +kernel, rfl, by decide +kernel, by decide +kernel⟩
theorem ok_join {Cn Ct tc : Addr} {tkM tkC : Tok} (F : FunC K "join" "join" s_join f fd c) (ck : CodeK K c tb) (T : Txt base mg) (mg_NoCorner : mg "NoCorner" = some (.ref Cn)) (xc_NoCorner : PySem.W.excIn K Cn veL "ValueError.__new__" = true) (mg_TooMany : mg "TooMany" = some (.ref Ct)) (xc_TooMany : PySem.W.excIn K Ct veL "ValueError.__new__" = true) (mg_MOST_PIECES : mg "MOST_PIECES" = some (.int 40 tkM)) (mg_MOST_CORNERS : mg "MOST_CORNERS" = some (.int 6 tkC))
    (C_corners : Cal P w K mg base 2 "corners" P_corners (spCornersP K)) (C_common : Cal P w K mg base 2 "common" P_common (spCommonL K tc)) : FnOk P w K mg base (CXE P w) 3 f fd P_join (spJoin K Cn Ct tc tb) := by
  refine F.okXQ sc_join (fun vs H Q E h => ?_) (fun A outer s H vs Q E hr h => ?_)
  · obtain ⟨sh, s2, zs, us, n, m, rfl, _⟩ := h
    rfl
  · obtain ⟨sh, s2, zs, us, n, m, rfl, hS, hU, hTc, hT, k0, k1, k2⟩ := h
    refine ⟨_, (q_pss_cons (q_ps_if (q_pt_truthK (K := K) rfl (q_pe_cal C_common (hr.mono (by omega)) (q_pa_cons (q_pe_cal C_corners (hr.mono (by omega)) (q_pa_cons (q_pv 0) q_pa_nil)) (q_pa_cons (q_pe_cal C_corners (hr.mono (by omega)) (q_pa_cons (q_pv 1) q_pa_nil)) q_pa_nil))) (fun _ => rfl))
      (q_pss_one (q_ps_raise leaves_of rfl PySem.F.excBase_ValueError mg_NoCorner xc_NoCorner rfl (q_pa_cons q_pe_str q_pa_nil)))
      q_pss_nil)
      (q_pss_cons (q_ps_if (q_pt_cmpR op_gt (q_pe_op op_mul (q_pe_callB (call_lenK (K := K) rfl) rfl T.no_len (by decide +kernel) (q_pa_cons (q_pv 0) q_pa_nil)) (q_pe_callB (call_lenK (K := K) rfl) rfl T.no_len (by decide +kernel) (q_pa_cons (q_pv 1) q_pa_nil))) (q_pe_globI mg_MOST_PIECES) (nomark _))
      (q_pss_one (q_ps_raise leaves_of rfl PySem.F.excBase_ValueError mg_TooMany xc_TooMany rfl (q_pa_cons q_pe_str q_pa_nil)))
      q_pss_nil)
      (q_pss_cons (q_ps_if (q_pt_cmpR op_gt (q_pe_op op_add (q_pe_callB (call_lenK (K := K) rfl) rfl T.no_len (by decide +kernel) (q_pa_cons (q_pe_ix (ix_tupK (K := K) rfl) (q_pv 0) q_pe_int (fun _ _ => rfl)) q_pa_nil)) (q_pe_callB (call_lenK (K := K) rfl) rfl T.no_len (by decide +kernel) (q_pa_cons (q_pe_ix (ix_tupK (K := K) rfl) (q_pv 1) q_pe_int (fun _ _ => rfl)) q_pa_nil))) (q_pe_globI mg_MOST_CORNERS) (nomark _))
      (q_pss_one (q_ps_raise leaves_of rfl PySem.F.excBase_ValueError mg_TooMany xc_TooMany rfl (q_pa_cons q_pe_str q_pa_nil)))
      q_pss_nil)
      (q_pss_one (q_ps_ret (q_pe_tupG2 (ps := #[]) (k := 1) (own := [("piece", 2), ("added", 3)]) (vs1 := [3]) ⟨rfl, sc_join.nd, blkOk_by (own := [("piece", 2), ("added", 3)]) (N := N_join) (sc := defScope s_join) (by decide +kernel), ⟨rfl, by decide +kernel, by decide +kernel⟩, rfl, ck, T.bm, hr.mono (by omega)⟩ rfl T.no_tuple (q_pi_tupK (K := K) rfl (q_pv 0)) (by decide) (fun _ _ _ _ _ _ => (q_pg_name (i := 2) sc_join.nd rfl (by first | exact Or.inl rfl | exact Or.inr rfl))) (fun _ _ _ _ _ _ hrg => q_pts_nil) (fun _ _ _ _ _ _ hrg => (q_pi_tupK (K := K) rfl (q_pv 1))) (fun _ _ _ _ _ _ => (q_pg_name (i := 3) sc_join.nd rfl (by first | exact Or.inl rfl | exact Or.inr rfl))) (fun _ _ _ _ _ _ hrg => q_pts_nil) (fun _ _ _ _ _ _ hrg => (q_pe_callTy (call_tuple_ofK (K := K) rfl) rfl T.no_tuple (by decide +kernel) (q_pa_cons (q_pe_callB (cr_sortTup (K := K) hrg rfl) rfl T.no_sorted (by decide +kernel) (q_pa_cons (q_pe_op (op_catTT (K := K) rfl) (q_pv 2) (q_pv 3)) q_pa_nil)) q_pa_nil))))))))), ?_⟩
    refine ⟨_, rfl, sh, zs, rfl, hS.s, hS.t, (fun z hz => by rw [hS.zn z hz]; exact hS.n6), hS.zl, fun r cs H1 hr1 s1 e1 nd1 rs1 mem1 cl1 => ?_⟩
    have hU1 := hU.same s1
    refine ⟨_, rfl, s2, us, rfl, hU1.s, hU1.t, (fun z hz => by rw [hU.zn z hz]; exact hU.n6), hU.zl, fun r2 ds H2 hr2 sb e2 nd2 rs2 mem2 cl2 => ?_⟩
    have s2' := s1.trans sb
    refine ⟨r, r2, cs, ds, rfl, SqL.of (sb _ _ e1), SqL.of e2, by omega, s2' _ _ hTc, fun r3 H3 hr3 s3 e3 => ?_⟩
    have s03 := s2'.trans s3
    have em := meet_com mem1 mem2
    refine ⟨meetJ zs us, .inr (.inl ⟨_, SqT.of e3, by rw [List.isEmpty_map]; exact em.symm⟩), ?_⟩
    cases hmt : meetJ zs us with
    | true =>
      refine iteT' rfl ?_
      exact ⟨by show 1 ≤ sizeLine; decide, k1 (by unfold outJ; rw [if_pos hmt]) _ s03⟩
    | false =>
    refine iteF' (by decide) ?_
    have hS3 := hS.same s03
    have hU3 := hU.same s03
    have pz : zs.length * us.length ≤ 1600 := Nat.mul_le_mul hS.zl hU.zl
    have ep : (((refs zs).length : Nat) : Int) * (((refs us).length : Nat) : Int) = ((zs.length * us.length : Nat) : Int) := by rw [List.length_map, List.length_map, Int.natCast_mul]
    refine ⟨_, rfl, _, _, rfl, .inr ⟨_, hS3.s, rfl⟩, _, rfl, _, _, rfl, .inr ⟨_, hU3.s, rfl⟩, _, _, rfl, rfl, .inr ⟨by rw [List.length_map]; omega, by rw [List.length_map]; have := hU.zl; omega⟩, _, _, rfl, rfl, _, rfl, ?_⟩
    by_cases h40 : 40 < zs.length * us.length
    · refine iteT' (decide_eq_true (by show (40 : Int) < _; rw [ep]; omega)) ?_
      exact ⟨by show 1 ≤ sizeLine; decide, k2 (by unfold outJ; rw [if_neg (by rw [hmt]; decide), if_pos (.inl h40)]) _ s03⟩
    refine iteF' (fun h => h40 (by have h := of_decide_eq_true h; replace h : (40 : Int) < _ := h; rw [ep] at h; omega)) ?_
    obtain ⟨z0, z0m, az, zl0⟩ := hS3.at0
    obtain ⟨u0, u0m, au, ul0⟩ := hU3.at0
    refine ⟨_, rfl, sh, _, 0, _, rfl, rfl, hS3.s, az, _, _, rfl, .inr ⟨_, hS3.t z0 z0m, rfl⟩, _, rfl, s2, _, 0, _, rfl, rfl, hU3.s, au, _, _, rfl, .inr ⟨_, hU3.t u0 u0m, rfl⟩, _, _, rfl, rfl, _, _, rfl, rfl, _, rfl, ?_⟩
    have en : (((z0.2.map V.int).length : Nat) : Int) + (((u0.2.map V.int).length : Nat) : Int) = ((n + m : Nat) : Int) := by rw [List.length_map, List.length_map, zl0, ul0]; omega
    by_cases h6 : 6 < n + m
    · refine iteT' (decide_eq_true (by show (6 : Int) < _; rw [en]; omega)) ?_
      exact ⟨by show 1 ≤ sizeLine; decide, k2 (by unfold outJ; rw [if_neg (by rw [hmt]; decide), if_pos (.inr h6)]) _ s03⟩
    refine iteF' (fun h => h6 (by have h := of_decide_eq_true h; replace h : (6 : Int) < _ := h; rw [en] at h; omega)) ?_
    have o0 : outJ zs us n m = 0 := by unfold outJ; rw [if_neg (by rw [hmt]; decide), if_neg (by omega)]
    refine ⟨_, rfl, sh, rfl, ⟨_, hS3.s⟩, s03 _ _ hT, ?_⟩
    refine gen_tup2 (xs := refs zs) us.length (fun i acc H' => ∃ ys : Zs, acc = refs ys ∧ Same H3 H' ∧ Tups K H' ys ∧ ys.map (·.2) = joinL (zs.take i) us) (fun i acc H' _ ⟨_, _, sm, _⟩ => sm.sqT hS3.s) ?_ ?_ ⟨[], rfl, Same.refl _, Tups.nil, rfl⟩
    · rintro i xv acc H' R N hxv ⟨ys, rfl, sm, ty, ey⟩ hR hN
      obtain ⟨z, hz, rfl⟩ := refs_at hxv
      have hzm := List.mem_of_getElem? hz
      refine ⟨rfl, ⟨_, rfl, s2, rfl, ⟨_, sm.sqT hU3.s⟩, hR _ _ _ ?_⟩⟩
      refine ⟨s2, refs us, fun j acc H' => ∃ ys : Zs, acc = refs ys ∧ Same H3 H' ∧ Tups K H' ys ∧ ys.map (·.2) = joinL (zs.take i) us ++ rowJ z.2 (us.take j), rfl, List.length_map .., ⟨ys, rfl, sm, ty, by rw [ey]; simp [rowJ]⟩, (fun j acc H' _ ⟨_, _, sm, _⟩ => sm.sqT hU3.s), ?_, ?_⟩
      · rintro acc H' ⟨ys, e1, sm, ty, ey⟩
        refine ⟨ys, e1, sm, ty, ?_⟩
        rw [ey, List.take_length, joinL_snoc hz]
      · rintro j yv acc H' hyv ⟨ys, rfl, sm, ty, ey⟩
        obtain ⟨u, hu, rfl⟩ := refs_at hyv
        have hum := List.mem_of_getElem? hu
        have l1 := hS3.zn z hzm
        have l2 := hU3.zn u hum
        have yl : ys.length ≤ 100000 := by
          have h1 := joinL_len (zs.take i) us
          have h2 : (ys.map (·.2)).length = ys.length := List.length_map ..
          rw [ey, List.length_append, h1] at h2
          have h3 : (rowJ z.2 (us.take j)).length ≤ 40 := by unfold rowJ; rw [List.length_map, List.length_take]; have := hU.zl; omega
          have h4 : (zs.take i).length * us.length ≤ 40 * 40 := Nat.mul_le_mul (by rw [List.length_take]; have := hS.zl; omega) hU.zl
          omega
        refine ⟨rfl, ⟨_, rfl, _, rfl, z.1, u.1, _, _, rfl, rfl, sm.sqT (hS3.t z hzm), sm.sqT (hU3.t u hum), by rw [List.length_map, List.length_map]; exact Nat.le_of_lt (small (by have := hS.n6; have := hU.n6; omega)), fun r5 H5 s5 e5 => ?_⟩⟩
        rw [← List.map_append] at e5
        refine ⟨r5, _, rfl, e5, fun bs q pb rs hq => ?_⟩
        refine alloc (.lst (bs.map V.int)) hq fun H6 s6 e6 => ?_
        refine ⟨q, _, rfl, .inl ⟨SqL.of e6, fun t ht => ?_⟩⟩
        refine alloc (.tup (bs.map V.int)) ht fun H7 s7 e7 => ?_
        have s57 := (s5.trans s6).trans s7
        refine ⟨by rw [List.length_map]; exact small yl, ys ++ [(t, bs)], refs_snoc.symm, sm.trans s57, (ty.same s57).snoc (.inl (.inl e7)), ?_⟩
        rw [List.map_append, ey, rowJ_snoc hu, srtJ_of pb rs, List.append_assoc]
        rfl
    · rintro acc H' ⟨ys, rfl, sm, ty, ey⟩
      rw [List.length_map, List.take_length] at ey
      have yl : ys.length ≤ 1600 := by
        have h2 : (ys.map (·.2)).length = ys.length := List.length_map ..
        rw [ey, joinL_len] at h2
        omega
      refine ⟨by rw [List.length_map]; exact Nat.le_of_lt (small (by omega)), fun r hr => ?_⟩
      have s9 := Same.upd (o := .tup (refs ys)) hr
      exact k0 o0 r ys _ (s03.trans (sm.trans s9)) (SqT.of upd_same) (ty.same s9) ey
end
end KW

set_option maxHeartbeats 4000000
namespace KW
open PySem L2
section
variable {P : Program} {w : World} {K : PySem.W.Frag} {mg : Str → Option Value} {base : Heap} {f c tb : Addr} {fd : FuncData}
theorem nilD5 (H : Hp) {D : Addr} (h : SqL K H D []) : Dp K H (.ref D) (.list (([] : List Int).map PyData.int)) := .lst h .nil
theorem intsD5 {H : Hp} {D : Addr} {l : List Int} (h : SqL K H D (l.map V.int)) : Dp K H (.ref D) (.list (l.map PyData.int)) := .lst h (DpAll_ints l)
def spLawJoin (K : PySem.W.Frag) : Sp := fun vs H Q _ => ∃ (sh s2 : Addr) (zs us : Zs) (n m : Nat), vs = [.ref sh, .ref s2] ∧ ShJ K H sh zs n ∧ ShJ K H s2 us m ∧
  (outJ zs us n m = 0 → ∀ (r : Addr) (ys : Zs) (H' : Hp), Same H H' → SqT K H' r (refs ys) → Tups K H' ys → ys.map (·.2) = joinL zs us → Q (.ref r) H') ∧
  (outJ zs us n m = 1 → ∀ H', Same H H' → Q (.str "NoCorner") H') ∧ (outJ zs us n m = 2 → ∀ H', Same H H' → Q (.str "TooMany") H')
theorem com_meet {zs us : Zs} {z u : Addr × List Int} (hz : z ∈ zs) (hu : u ∈ us) (h : comJ z.2 u.2 ≠ []) : meetJ zs us = true := by
  unfold meetJ
  rw [List.any_eq_true]
  refine ⟨z, hz, ?_⟩
  rw [List.any_eq_true]
  refine ⟨u, hu, ?_⟩
  obtain ⟨x, hx⟩ := List.exists_mem_of_ne_nil _ h
  unfold comJ at hx
  exact List.any_eq_true.mpr ⟨x, (List.mem_filter.mp hx).1, (List.mem_filter.mp hx).2⟩
theorem meet_no {zs us : Zs} (h : ∀ z ∈ zs, ∀ u ∈ us, comJ z.2 u.2 = []) : meetJ zs us = false := by
  unfold meetJ
  rw [List.any_eq_false]
  intro z hz e
  rw [List.any_eq_true] at e
  obtain ⟨u, hu, e⟩ := e
  rw [List.any_eq_true] at e
  obtain ⟨x, hx, e⟩ := e
  have := h z hz u hu
  unfold comJ at this
  exact absurd (List.mem_filter.mpr ⟨hx, e⟩) (by rw [this]; simp)
abbrev s__law_join : Stmt := top 31
abbrev N__law_join : List Str := ["_law_one", "_law_other", "_law_piece", "_law_found", "_law_second", "_law_corner"]
abbrev P__law_join : List Str := ["_law_one", "_law_other"]
theorem sc__law_join : FnScope N__law_join P__law_join (defScope s__law_join) := ⟨rfl, rfl, rfl, by decide +kernel, rfl, by decide +kernel, by decide +kernel⟩
theorem ok__law_join (F : FunC K "_law_join" "_law_join" s__law_join f fd c) (T : Txt base mg) : FnOk P w K mg base CX0 2 f fd P__law_join (spLawJoin K) := by
  refine F.okQ sc__law_join (fun vs H Q E h => ?_) (fun A outer s H vs Q E hr h => ?_)
  · obtain ⟨sh, s2, zs, us, n, m, rfl, _⟩ := h
    rfl
  · obtain ⟨sh, s2, zs, us, n, m, rfl, hS, hU, k0, k1, k2⟩ := h
    refine ⟨_, (q_pss_cons (q_ps_for PassesOwn.never rfl (q_pi_tupK (K := K) rfl (q_pv 0)) (q_pg_name (i := 2) sc__law_join.nd rfl (by first | exact Or.inl rfl | exact Or.inr rfl))
      (q_pss_one (q_ps_for PassesOwn.never rfl (q_pi_tupK (K := K) rfl (q_pv 1)) (q_pg_name (i := 4) sc__law_join.nd rfl (by first | exact Or.inl rfl | exact Or.inr rfl))
      (q_pss_one (q_ps_if (q_pt_cmpR (op_neDK (K := K) rfl hr) (q_pe_lc (own := [("_law_corner", 5)]) rfl sc__law_join.nd (q_pi_tupK (K := K) rfl (q_pv 2)) (blkOk_by (own := [("_law_corner", 5)]) (N := N__law_join) (sc := defScope s__law_join) (by decide +kernel)) (fun _ _ _ _ _ => (q_pg_name (i := 5) sc__law_join.nd rfl (by first | exact Or.inl rfl | exact Or.inr rfl))) (fun _ _ _ _ _ => (q_pts_one (q_pt_cmpR (op_in_seqK (K := K) rfl) (q_pv 5) (q_pv 4) (by first | rfl | exact nomark _)))) (fun _ _ _ _ _ => (q_pv 5))) (q_pe_lst q_pa_nil) (nomark _))
      (q_pss_one (q_ps_ret q_pe_str))
      q_pss_nil)))))
      (q_pss_cons (q_ps_if (q_PW_pt (q_pw_or (q_pt_cmpR op_gt (q_pe_op op_mul (q_pe_callB (call_lenK (K := K) rfl) rfl T.no_len (by decide +kernel) (q_pa_cons (q_pv 0) q_pa_nil)) (q_pe_callB (call_lenK (K := K) rfl) rfl T.no_len (by decide +kernel) (q_pa_cons (q_pv 1) q_pa_nil))) q_pe_int (nomark _)) (q_pw_or1 (q_pt_cmpR op_gt (q_pe_op op_add (q_pe_callB (call_lenK (K := K) rfl) rfl T.no_len (by decide +kernel) (q_pa_cons (q_pe_ix (ix_tupK (K := K) rfl) (q_pv 0) q_pe_int (fun _ _ => rfl)) q_pa_nil)) (q_pe_callB (call_lenK (K := K) rfl) rfl T.no_len (by decide +kernel) (q_pa_cons (q_pe_ix (ix_tupK (K := K) rfl) (q_pv 1) q_pe_int (fun _ _ => rfl)) q_pa_nil))) q_pe_int (nomark _)))))
      (q_pss_one (q_ps_ret q_pe_str))
      q_pss_nil)
      (q_pss_cons (q_ps_set (i := 3) sc__law_join.nd rfl (by first | exact Or.inl rfl | exact Or.inr rfl) (q_pe_lst q_pa_nil))
      (q_pss_cons (q_ps_for PassesOwn.never rfl (q_pi_tupK (K := K) rfl (q_pv 0)) (q_pg_name (i := 2) sc__law_join.nd rfl (by first | exact Or.inl rfl | exact Or.inr rfl))
      (q_pss_one (q_ps_set (i := 3) sc__law_join.nd rfl (by first | exact Or.inl rfl | exact Or.inr rfl) (q_pe_op op_cat (q_pv 3) (q_pe_lc (own := [("_law_second", 4)]) rfl sc__law_join.nd (q_pi_tupK (K := K) rfl (q_pv 1)) (blkOk_by (own := [("_law_second", 4)]) (N := N__law_join) (sc := defScope s__law_join) (by decide +kernel)) (fun _ _ _ _ _ => (q_pg_name (i := 4) sc__law_join.nd rfl (by first | exact Or.inl rfl | exact Or.inr rfl))) (fun _ _ _ _ _ => q_pts_nil) (fun _ _ _ _ _ => (q_pe_callTy (call_tuple_ofK (K := K) rfl) rfl T.no_tuple (by decide +kernel) (q_pa_cons (q_pe_callB (cr_sortTup (K := K) hr rfl) rfl T.no_sorted (by decide +kernel) (q_pa_cons (q_pe_op (op_catTT (K := K) rfl) (q_pv 2) (q_pv 4)) q_pa_nil)) q_pa_nil))))))))
      (q_pss_one (q_ps_ret (q_pe_callTy (call_tuple_ofK (K := K) rfl) rfl T.no_tuple (by decide +kernel) (q_pa_cons (q_pv 3) q_pa_nil)))))))), ?_⟩
    refine ⟨_, rfl, sh, rfl, ⟨_, hS.s⟩, for_tup (xs := refs zs) (fun i σ H' => ∃ v2 v3 v4 v5 : Option V, σ = [some (.ref sh), some (.ref s2), v2, v3, v4, v5] ∧ Same H H' ∧ ∀ z ∈ zs.take i, ∀ u ∈ us, comJ z.2 u.2 = []) ⟨none, none, none, none, rfl, Same.refl _, (fun z hz => by simp at hz)⟩ ?_ ?_ ?_⟩
    · rintro i σ H' _ ⟨v2, v3, v4, v5, rfl, sm, _⟩
      exact sm.sqT hS.s
    · rintro i xv σ H' hxv ⟨v2, v3, v4, v5, rfl, sm, hno⟩
      obtain ⟨z, hz, rfl⟩ := refs_at hxv
      have hzm := List.mem_of_getElem? hz
      have l1 := hS.zn z hzm
      have n6 := hS.n6
      refine ⟨_, rfl, s2, rfl, ⟨_, sm.sqT hU.s⟩, for_tup (xs := refs us) (fun j σ H' => ∃ v3 v4 v5 : Option V, σ = [some (.ref sh), some (.ref s2), some (.ref z.1), v3, v4, v5] ∧ Same H H' ∧ ∀ u ∈ us.take j, comJ z.2 u.2 = []) ⟨v3, v4, v5, rfl, sm, (fun z hz => by simp at hz)⟩ ?_ ?_ ?_⟩
      · rintro j σ H' _ ⟨v3, v4, v5, rfl, sm, _⟩
        exact sm.sqT hU.s
      · rintro j yv σ H2 hyv ⟨v3, v4, v5, rfl, sm, hn2⟩
        obtain ⟨u, hu, rfl⟩ := refs_at hyv
        have hum := List.mem_of_getElem? hu
        have hS2 := hS.same sm
        have hU2 := hU.same sm
        refine ⟨_, rfl, z.1, rfl, ⟨_, hS2.t z hzm⟩, fun D hD => ?_⟩
        refine lc_tup (xs := z.2.map V.int) (fun q H3 => Same H2 H3 ∧ H3 D = some (.lst ((comJ (z.2.take q) u.2).map V.int))) ⟨Same.upd hD, upd_same⟩ (fun q H3 _ h => h.1.sqT (hS2.t z hzm)) ?_ ?_
        · rintro q x H3 hx ⟨s3, e3⟩
          obtain ⟨v, hv, rfl⟩ := ints_at hx
          have hq : q < 6 := by have := (List.getElem?_eq_some_iff.mp hv).1; omega
          have e : (z.2.take (q + 1)) = z.2.take q ++ [v] := by rw [List.take_succ, hv]; rfl
          refine ⟨rfl, _, rfl, _, rfl, u.1, _, rfl, .inr (s3.sqT (hU2.t u hum)), rfl, flat_ints _, _, rfl, ?_⟩
          rw [inV_ints]
          unfold comJ at e3 ⊢
          by_cases h : v ∈ u.2
          · refine iteT' (by simp [h]) ⟨_, rfl, ?_⟩
            obtain ⟨a0, a1, a2, a3, a4⟩ := il_push (j := v) hD s3 e3 (Same.refl _) (Nat.le_trans (List.length_filter_le _ _) (Nat.le_trans (List.length_take_le' _ _) (by omega)))
            refine ⟨a0, a1, a2, a3, ?_⟩
            rw [a4, e, List.filter_append, List.filter_cons_of_pos (by simp [h])]; simp
          · refine iteF' (by simp [h]) ⟨s3, ?_⟩
            rw [e, List.filter_append, List.filter_cons_of_neg (by simp [h]), e3]; simp
        · rintro H3 ⟨s3, e3⟩
          rw [List.length_map, List.take_length] at e3
          refine ⟨(by show 0 ≤ sizeLine; decide), fun N hN => ?_⟩
          have s4 := Same.upd (o := .lst []) hN
          have s34 := sm.trans (s3.trans s4)
          refine ⟨_, _, intsD5 (s4.seq (SqL.of e3)), nilD5 _ (SqL.of upd_same), shaped_ints _, shaped_ints _, _, rfl, ?_⟩
          rw [eqv_ints]
          by_cases hc : comJ z.2 u.2 = []
          · refine iteF' (by rw [hc]; decide) ⟨_, _, _, rfl, s34, fun v hv => ?_⟩
            rw [List.take_succ, hu] at hv
            rcases List.mem_append.mp hv with hv | hv
            · exact hn2 v hv
            · simp at hv
              subst hv
              exact hc
          · refine iteT' (by simp [hc]) ?_
            exact k1 (by unfold outJ; rw [if_pos (com_meet hzm hum hc)]) _ s34
      · rintro σ H2 ⟨v3, v4, v5, rfl, sm, hn2⟩
        rw [List.length_map, List.take_length] at hn2
        refine ⟨_, _, _, _, rfl, sm, fun v hv => ?_⟩
        rw [List.take_succ, hz] at hv
        rcases List.mem_append.mp hv with hv | hv
        · exact hno v hv
        · simp at hv
          subst hv
          exact hn2
    · rintro σ H3 ⟨v2, v3, v4, v5, rfl, s03, hno⟩
      rw [List.length_map, List.take_length] at hno
      have hmt := meet_no hno
      have hS3 := hS.same s03
      have hU3 := hU.same s03
      have pz : zs.length * us.length ≤ 1600 := Nat.mul_le_mul hS.zl hU.zl
      have ep : (((refs zs).length : Nat) : Int) * (((refs us).length : Nat) : Int) = ((zs.length * us.length : Nat) : Int) := by rw [List.length_map, List.length_map, Int.natCast_mul]
      refine ⟨_, rfl, _, _, rfl, .inr ⟨_, hS3.s, rfl⟩, _, rfl, _, _, rfl, .inr ⟨_, hU3.s, rfl⟩, _, _, rfl, rfl, .inr ⟨by rw [List.length_map]; omega, by rw [List.length_map]; have := hU.zl; omega⟩, _, _, rfl, rfl, _, rfl, ?_⟩
      by_cases h40 : 40 < zs.length * us.length
      · refine iteT' (decide_eq_true (by show (40 : Int) < _; rw [ep]; omega)) ?_
        refine iteT ?_
        exact k2 (by unfold outJ; rw [if_neg (by rw [hmt]; decide), if_pos (.inl h40)]) _ s03
      refine iteF' (fun h => h40 (by have h := of_decide_eq_true h; replace h : (40 : Int) < _ := h; rw [ep] at h; omega)) ?_
      obtain ⟨z0, z0m, az, zl0⟩ := hS3.at0
      obtain ⟨u0, u0m, au, ul0⟩ := hU3.at0
      refine ⟨_, rfl, sh, _, 0, _, rfl, rfl, hS3.s, az, _, _, rfl, .inr ⟨_, hS3.t z0 z0m, rfl⟩, _, rfl, s2, _, 0, _, rfl, rfl, hU3.s, au, _, _, rfl, .inr ⟨_, hU3.t u0 u0m, rfl⟩, _, _, rfl, rfl, _, _, rfl, rfl, ?_⟩
      have en : (((z0.2.map V.int).length : Nat) : Int) + (((u0.2.map V.int).length : Nat) : Int) = ((n + m : Nat) : Int) := by rw [List.length_map, List.length_map, zl0, ul0]; omega
      refine ⟨_, rfl, ?_⟩
      by_cases h6 : 6 < n + m
      · refine iteT' (decide_eq_true (by show (6 : Int) < _; rw [en]; omega)) ?_
        exact k2 (by unfold outJ; rw [if_neg (by rw [hmt]; decide), if_pos (.inr h6)]) _ s03
      refine iteF' (fun h => h6 (by have h := of_decide_eq_true h; replace h : (6 : Int) < _ := h; rw [en] at h; omega)) ?_
      have o0 : outJ zs us n m = 0 := by unfold outJ; rw [if_neg (by rw [hmt]; decide), if_neg (by omega)]
      refine ⟨(by show 0 ≤ sizeLine; decide), fun F0 hF => ?_⟩
      have sF := Same.upd (o := .lst []) hF
      refine ⟨_, rfl, sh, rfl, ⟨_, sF.sqT hS3.s⟩, for_tup (xs := refs zs) (fun i σ H' => ∃ (F : Addr) (ys : Zs) (v2 v4 v5 : Option V), σ = [some (.ref sh), some (.ref s2), v2, some (.ref F), v4, v5] ∧ Same H3 H' ∧ H' F = some (.lst (refs ys)) ∧ Tups K H' ys ∧ ys.map (·.2) = joinL (zs.take i) us) ⟨F0, [], _, _, _, rfl, sF, upd_same, Tups.nil, rfl⟩ ?_ ?_ ?_⟩
      · rintro i σ H' _ ⟨F, ys, v2, v4, v5, rfl, sm, _⟩
        exact sm.sqT hS3.s
      · rintro i xv σ H' hxv ⟨F, ys, v2, v4, v5, rfl, sm, eF, ty, ey⟩
        obtain ⟨z, hz, rfl⟩ := refs_at hxv
        have hzm := List.mem_of_getElem? hz
        have l1 := hS3.zn z hzm
        have yl : ys.length ≤ 1600 := by
          have h1 := joinL_len (zs.take i) us
          have h2 : (ys.map (·.2)).length = ys.length := List.length_map ..
          rw [ey, h1] at h2
          have h4 : (zs.take i).length * us.length ≤ 40 * 40 := Nat.mul_le_mul (by rw [List.length_take]; have := hS.zl; omega) hU.zl
          omega
        refine ⟨_, rfl, _, rfl, s2, rfl, ⟨_, sm.sqT hU3.s⟩, fun D hD => ?_⟩
        refine lc_tup (xs := refs us) (fun j H2 => Same H' H2 ∧ ∃ ws : Zs, H2 D = some (.lst (refs ws)) ∧ Tups K H2 ws ∧ ws.map (·.2) = rowJ z.2 (us.take j)) ⟨Same.upd hD, [], upd_same, Tups.nil, by simp [rowJ]⟩ (fun j H2 _ h => h.1.sqT (sm.sqT hU3.s)) ?_ ?_
        · rintro j yv H2 hyv ⟨s2', ws, eD, tw, ew⟩
          obtain ⟨u, hu, rfl⟩ := refs_at hyv
          have hum := List.mem_of_getElem? hu
          have l2 := hU3.zn u hum
          have hj : j < us.length := (List.getElem?_eq_some_iff.mp hu).1
          have wl : ws.length ≤ 40 := by
            have h2 : (ws.map (·.2)).length = ws.length := List.length_map ..
            rw [ew] at h2
            unfold rowJ at h2
            rw [List.length_map, List.length_take] at h2
            have := hU.zl
            omega
          have sm2 := sm.trans s2'
          refine ⟨rfl, yes ⟨_, rfl, _, rfl, z.1, u.1, _, _, rfl, rfl, sm2.sqT (hS3.t z hzm), sm2.sqT (hU3.t u hum), by rw [List.length_map, List.length_map]; exact Nat.le_of_lt (small (by have := hS.n6; have := hU.n6; omega)), fun r5 H5 s5 e5 => ?_⟩⟩
          rw [← List.map_append] at e5
          refine ⟨r5, _, rfl, e5, fun bs q pb rs hq => ?_⟩
          refine alloc (.lst (bs.map V.int)) hq fun H6 s6 e6 => ?_
          refine ⟨q, _, rfl, .inl ⟨SqL.of e6, fun t ht => ?_⟩⟩
          have s57 := (s5.trans s6).trans (Same.upd (o := .tup (bs.map V.int)) ht)
          obtain ⟨acc, a1, a2, a3, a4, a5⟩ := tl_push hD s2' eD tw s57 (.inl (.inl upd_same)) (by omega)
          refine ⟨acc, a1, a2, a3, _, a4, a5, ?_⟩
          rw [List.map_append, ew, rowJ_snoc hu, srtJ_of pb rs]
          rfl
        · rintro H2 ⟨s2', ws, eD, tw, ew⟩
          rw [List.length_map, List.take_length] at ew
          have wl : ws.length ≤ 40 := by
            have h2 : (ws.map (·.2)).length = ws.length := List.length_map ..
            rw [ew] at h2
            unfold rowJ at h2
            rw [List.length_map] at h2
            have := hU.zl
            omega
          refine ⟨F, D, _, _, rfl, rfl, s2' _ _ eF, eD, ?_, fun p hp => ?_⟩
          · rw [List.length_map, List.length_map]; exact Nat.le_of_lt (small (by omega))
          · have s5 : Same H2 (upd H2 p (.lst (refs ys ++ refs ws))) := Same.upd hp
            refine ⟨p, ys ++ ws, _, _, _, rfl, (sm.trans s2').trans s5, by rw [upd_same, ← List.map_append], (ty.same (s2'.trans s5)).append (tw.same s5), ?_⟩
            rw [List.map_append, ew, ey, joinL_snoc hz]
      · rintro σ H' ⟨F, ys, v2, v4, v5, rfl, sm, eF, ty, ey⟩
        rw [List.length_map, List.take_length] at ey
        refine ⟨_, rfl, F, _, rfl, .inl ⟨SqL.of eF, fun t ht => ?_⟩⟩
        have s9 := Same.upd (o := .tup (refs ys)) ht
        exact k0 o0 t ys _ (s03.trans (sm.trans s9)) (SqT.of upd_same) (ty.same s9) ey
end
end KW

set_option maxHeartbeats 4000000
namespace KW
open PySem L2
section
variable {P : Program} {w : World} {K : PySem.W.Frag} {mg : Str → Option Value} {base : Heap} {f c tb : Addr} {fd : FuncData}
theorem ShJ.sx {H H' : Hp} {sh p a : Addr} {ns : List Int} {zs : Zs} {n : Nat} (h : ShJ K H sh zs n) (P : Pk K H p a ns) (s : SameX p H H') : ShJ K H' sh zs n := ⟨P.sqT h.s s, P.tups h.t s, h.z1, h.zl, h.zn, h.n1, h.n6, h.bd⟩
theorem ShJ.sl {H H' : Hp} {sh D : Addr} {ys : List V} {zs : Zs} {n : Nat} (h : ShJ K H sh zs n) (hD : H D = some (.lst ys)) (s : SameX D H H') : ShJ K H' sh zs n := ⟨h.s.sx hD s, h.t.sx hD s, h.z1, h.zl, h.zn, h.n1, h.n6, h.bd⟩
abbrev Sh3 := Addr × Zs × Nat
def AllJ (K : PySem.W.Frag) (H : Hp) (L : List Sh3) : Prop := ∀ q ∈ L, ShJ K H q.1 q.2.1 q.2.2
abbrev refJ (L : List Sh3) : List V := L.map fun q => V.ref q.1
def spTwo (K : PySem.W.Frag) : Sp := fun vs H Q _ => ∃ (p a : Addr) (ns : List Int), vs = [.ref p] ∧ Pk K H p a ns ∧ ∀ (r : Addr) (L : List Sh3) (H' : Hp), SameX p H H' → Pk K H' p a ns → r ≠ p → H' r = some (.lst (refJ L)) → L.length = 2 → AllJ K H' L → Q (.ref r) H'
abbrev s__law_two : Stmt := top 32
abbrev N__law_two : List Str := ["_law_state", "_law_names", "_law_sizes", "_law_found", "_law_k", "_law_some"]
abbrev P__law_two : List Str := ["_law_state"]
theorem sc__law_two : FnScope N__law_two P__law_two (defScope s__law_two) := ⟨rfl, rfl, rfl, by decide +kernel, rfl, by decide +kernel, by decide +kernel⟩
theorem ok__law_two (F : FunC K "_law_two" "_law_two" s__law_two f fd c) (T : Txt base mg) (C__law_take : Cal P w K mg base 2 "_law_take" P__law_take (spDraw K)) (C__law_corners : Cal P w K mg base 3 "_law_corners" P__law_corners (spCorners K)) (C__law_any : Cal P w K mg base 3 "_law_any" P__law_any (spAnyK K)) : FnOk P w K mg base CX0 4 f fd P__law_two (spTwo K) := by
  refine F.okQ sc__law_two (fun vs H Q E h => ?_) (fun A outer s H vs Q E hr h => ?_)
  · obtain ⟨p, a, ns, rfl, _⟩ := h
    rfl
  · obtain ⟨p, a, ns, rfl, Pn, k⟩ := h
    refine ⟨_, (q_pss_cons (q_ps_set (i := 1) sc__law_two.nd rfl (by first | exact Or.inl rfl | exact Or.inr rfl) (q_pe_cal C__law_corners (hr.mono (by omega)) (q_pa_cons (q_pv 0) (q_pa_cons q_pe_int q_pa_nil))))
      (q_pss_cons (q_ps_set (i := 2) sc__law_two.nd rfl (by first | exact Or.inl rfl | exact Or.inr rfl) (q_pe_lst (q_pa_cons (q_pe_op op_add q_pe_int (q_pe_cal C__law_take (hr.mono (by omega)) (q_pa_cons (q_pv 0) (q_pa_cons q_pe_int q_pa_nil)))) (q_pa_cons (q_pe_op op_add q_pe_int (q_pe_cal C__law_take (hr.mono (by omega)) (q_pa_cons (q_pv 0) (q_pa_cons q_pe_int q_pa_nil)))) q_pa_nil))))
      (q_pss_cons (q_ps_set (i := 3) sc__law_two.nd rfl (by first | exact Or.inl rfl | exact Or.inr rfl) (q_pe_lst q_pa_nil))
      (q_pss_cons (q_ps_for PassesOwn.never rfl (q_pi_range1 rfl T.no_range (q_pa_cons q_pe_int q_pa_nil)) (q_pg_name (i := 4) sc__law_two.nd rfl (by first | exact Or.inl rfl | exact Or.inr rfl))
      (q_pss_cons (q_ps_set (i := 5) sc__law_two.nd rfl (by first | exact Or.inl rfl | exact Or.inr rfl) (q_pe_slice (sl_listK (K := K) rfl) (q_pv 1) (q_po_some (q_pe_op op_mul q_pe_int (q_pv 4))) (q_po_some (q_pe_op op_add (q_pe_op op_add (q_pe_op op_add (q_pe_op op_mul q_pe_int (q_pv 4)) (q_pe_ix (ix_listK (K := K) rfl) (q_pv 2) (q_pv 4) (fun _ _ => rfl))) q_pe_int) (q_pe_cal C__law_take (hr.mono (by omega)) (q_pa_cons (q_pv 0) (q_pa_cons q_pe_int q_pa_nil)))))))
      (q_pss_one (q_ps_expr (q_pe_bm PySem.F.plainAttrs_list PySem.F.slot_list_append PySem.F.type_list_append mt_append (q_pv 3) (q_pa_cons (q_pe_cal C__law_any (hr.mono (by omega)) (q_pa_cons (q_pv 0) (q_pa_cons (q_pv 5) (q_pa_cons (q_pe_ix (ix_listK (K := K) rfl) (q_pv 2) (q_pv 4) (fun _ _ => rfl)) (q_pa_cons (q_pe_ix (ix_listK (K := K) rfl) (q_pe_lst (q_pa_cons q_pe_int (q_pa_cons q_pe_int (q_pa_cons q_pe_int q_pa_nil)))) (q_pe_cal C__law_take (hr.mono (by omega)) (q_pa_cons (q_pv 0) (q_pa_cons q_pe_int q_pa_nil))) (fun _ _ => rfl)) q_pa_nil))))) q_pa_nil))))))
      (q_pss_one (q_ps_ret (q_pv 3))))))), ?_⟩
    refine ⟨_, rfl, p, a, ns, 22, rfl, Pn, by decide, fun r ms H1 ml nd bd hr0 nr e1 s1 P1 => ?_⟩
    refine ⟨_, rfl, p, a, ns, P1.x, P1.y, 4, rfl, P1.pen, by decide, by decide, fun d1 x2 y2 H2 d10 d11 s2 P2 => ?_⟩
    refine ⟨_, _, rfl, rfl, _, rfl, p, a, ns, x2, y2, 4, rfl, P2, by decide, by decide, fun d2 x3 y3 H3 d20 d21 s3 P3 => ?_⟩
    refine ⟨_, _, rfl, rfl, (by show 2 ≤ sizeLine; decide), fun Z hZ => ?_⟩
    obtain ⟨j1, rfl⟩ := Int.eq_ofNat_of_zero_le d10
    obtain ⟨j2, rfl⟩ := Int.eq_ofNat_of_zero_le d20
    refine alloc (.lst [.int (1 + (j1 : Int)), .int (1 + (j2 : Int))]) hZ fun H4 s4 e4 => ?_
    have P3' : Pk K H3 p a ns := ⟨_, _, P3⟩
    have nZ := P3'.ne hZ
    have P4 := P3'.same s4
    have x4 := ((s1.trans s2).trans s3).trans (SameX.of s4)
    have er4 := s4 _ _ (s3 _ _ nr (s2 _ _ nr e1))
    have nrZ : r ≠ Z := ne_of_none (s3 _ _ nr (s2 _ _ nr e1)) hZ
    refine ⟨(by show 0 ≤ sizeLine; decide), fun F0 hF => ?_⟩
    have nF := P4.ne hF
    have nFr : F0 ≠ r := (ne_of_none er4 hF).symm
    have nFZ : F0 ≠ Z := (ne_of_none e4 hF).symm
    have hF0 : H F0 = none := x4.free hF nF
    have P5 : Pk K (L2.upd H4 F0 (.lst [])) p a ns := P4.same (Same.upd hF)
    have e5r : L2.upd H4 F0 (.lst []) r = some (.lst (ms.map V.int)) := by rw [upd_ne nFr.symm]; exact er4
    have e5Z : L2.upd H4 F0 (.lst []) Z = some (.lst [.int (1 + (j1 : Int)), .int (1 + (j2 : Int))]) := by rw [upd_ne nFZ.symm]; exact e4
    refine ⟨_, rfl, (by decide), (by decide), for_range (lo := 0) (n := 2) (fun i σ H' => ∃ (v4 v5 : Option V) (L : List Sh3), σ = [some (.ref p), some (.ref r), some (.ref Z), some (.ref F0), v4, v5] ∧ L.length = i ∧ H' F0 = some (.lst (refJ L)) ∧ AllJ K H' L ∧ SameX p H H' ∧ Pk K H' p a ns ∧ H' r = some (.lst (ms.map V.int)) ∧ H' Z = some (.lst [.int (1 + (j1 : Int)), .int (1 + (j2 : Int))])) ⟨none, none, [], rfl, rfl, upd_same, (fun q hq => nomatch hq), x4.updF hF0, P5, e5r, e5Z⟩ ?_ ?_⟩
    · rintro i σ H6 hi ⟨v4, v5, L, rfl, Ll, eF, aL, x6, P6, er6, eZ6⟩
      have hi : i < 2 := by simpa using hi
      obtain ⟨sz, sz1, sz4, esz⟩ : ∃ sz : Nat, 1 ≤ sz ∧ sz ≤ 4 ∧ atI [V.int (1 + (j1 : Int)), V.int (1 + (j2 : Int))] (0 + (i : Int)) = some (.int (sz : Int)) := by
        rcases (show i = 0 ∨ i = 1 by omega) with rfl | rfl
        · exact ⟨1 + j1, by omega, by omega, by show some (V.int (1 + (j1 : Int))) = _; congr 2⟩
        · exact ⟨1 + j2, by omega, by omega, by show some (V.int (1 + (j2 : Int))) = _; congr 2⟩
      refine ⟨_, rfl, _, rfl, _, _, rfl, rfl, .inr ⟨by omega, by omega⟩, _, rfl, ?_⟩
      refine ⟨_, rfl, _, _, rfl, rfl, .inr ⟨by omega, by omega⟩, ?_⟩
      refine ⟨_, rfl, _, rfl, Z, _, _, _, rfl, rfl, SqL.of eZ6, esz, _, _, rfl, rfl, _, _, rfl, rfl, ?_⟩
      refine ⟨_, rfl, p, a, ns, P6.x, P6.y, 5, rfl, P6.pen, by decide, by decide, fun d7 x7' y7' H7 d70 d71 s7 P7 => ?_⟩
      obtain ⟨j7, rfl⟩ := Int.eq_ofNat_of_zero_le d70
      have P7' : Pk K H7 p a ns := ⟨_, _, P7⟩
      have nZp : Z ≠ p := nZ
      have er7 := s7 _ _ nr er6
      have eZ7 := s7 _ _ nZp eZ6
      have eF7 := s7 _ _ nF eF
      have aL7 : AllJ K H7 L := fun q hq => (aL q hq).sx P6 s7
      refine ⟨_, _, rfl, rfl, _, rfl, r, _, rfl, SqL.of er7, fun S hS => ?_⟩
      refine alloc (HO.lst (cutV (ms.map V.int) (some (11 * (0 + (i : Int)))) (some (11 * (0 + (i : Int)) + (sz : Int) + 1 + (j7 : Int))))) hS fun H8 s8 e8 => ?_
      have ec : cutV (ms.map V.int) (some (11 * (0 + (i : Int)))) (some (11 * (0 + (i : Int)) + (sz : Int) + 1 + (j7 : Int))) = ((ms.drop (11 * i)).take (sz + 1 + j7)).map V.int := by
        rw [show (11 : Int) * (0 + (i : Int)) = ((11 * i : Nat) : Int) by omega, show ((11 * i : Nat) : Int) + (sz : Int) + 1 + (j7 : Int) = ((11 * i : Nat) : Int) + ((sz + 1 + j7 : Nat) : Int) by omega]
        exact cut_win (by omega)
      rw [ec] at e8
      have P8 := P7'.same s8
      have nS := P7'.ne hS
      have eF8 := s8 _ _ eF7
      refine ⟨_, rfl, .inl ⟨rfl, _, SqL.of eF8⟩, _, rfl, _, rfl, _, rfl, _, rfl, Z, _, _, _, rfl, rfl, SqL.of (s8 _ _ eZ7), esz, ?_⟩
      refine ⟨(by show 3 ≤ sizeLine; decide), fun M hM => ?_⟩
      refine alloc (.lst [.int 3, .int 7, .int 12]) hM fun H9 s9 e9 => ?_
      have P9 := P8.same s9
      have nM := P8.ne hM
      refine ⟨_, rfl, p, a, ns, P9.x, P9.y, 3, rfl, P9.pen, by decide, by decide, fun g xa ya H10 g0 g1 s10 P10 => ?_⟩
      have P10' : Pk K H10 p a ns := ⟨_, _, P10⟩
      obtain ⟨mo, mo1, mo40, em⟩ : ∃ mo : Nat, 1 ≤ mo ∧ mo ≤ 40 ∧ atI [V.int 3, V.int 7, V.int 12] g = some (.int (mo : Int)) := by
        rcases (show g = 0 ∨ g = 1 ∨ g = 2 by omega) with rfl | rfl | rfl
        · exact ⟨3, by decide, by decide, rfl⟩
        · exact ⟨7, by decide, by decide, rfl⟩
        · exact ⟨12, by decide, by decide, rfl⟩
      refine ⟨M, _, _, _, rfl, rfl, SqL.of (s10 _ _ nM e9), em, ?_⟩
      have s8a := (SameX.of (p := p) s9).trans s10
      have sub : ((ms.drop (11 * i)).take (sz + 1 + j7)).Sublist ms := (List.take_sublist _ _).trans (List.drop_sublist _ _)
      have ll : ((ms.drop (11 * i)).take (sz + 1 + j7)).length = sz + 1 + j7 := by rw [List.length_take, List.length_drop]; omega
      refine ⟨p, a, S, ns, _, sz, mo, rfl, P10', nS, s8a _ _ nS e8, nd.sublist sub, sz1, by omega, by omega, mo1, mo40, fun R zs H11 s11 P11 hR eR tz z1 zm znd zp => ?_⟩
      have eFb := s11 _ _ nF (s8a _ _ nF eF8)
      have xb := x6.trans (s7.trans ((SameX.of s8).trans (s8a.trans s11)))
      have aLb : AllJ K H11 L := fun q hq => (((aL7 q hq).same s8).sx P8 s8a).sx P10' s11
      have nrF : r ≠ F0 := nFr.symm
      refine ⟨F0, _, _, rfl, rfl, eFb, by rw [List.length_map, Ll]; exact small (by omega), ?_⟩
      have up : ∀ {o : HO}, SameX F0 H11 (L2.upd H11 F0 o) := SameX.upd
      have new : ShJ K H11 R zs sz := ⟨SqT.of eR, tz, z1, by omega, fun z hz => (zp z hz).len, sz1, by omega, fun z hz e he => bd e (sub.subset ((zp z hz).mem e he))⟩
      obtain ⟨xp, yp, Pp⟩ := P11
      refine ⟨_, _, L ++ [(R, zs, sz)], rfl, by simp [Ll], by rw [upd_same]; simp [refJ], fun q hq => ?_, xb.updF hF0, Pk.up Pn xb ⟨xp, yp, Pp⟩ hF0 nF, ?_, ?_⟩
      · rcases List.mem_append.mp hq with hq | hq
        · exact (aLb q hq).sl eFb up
        · rw [List.mem_singleton.mp hq]
          exact new.sl eFb up
      · rw [upd_ne nrF]
        exact s11 _ _ nr (s8a _ _ nr (s8 _ _ er7))
      · rw [upd_ne nFZ.symm]
        exact s11 _ _ nZp (s8a _ _ nZp (s8 _ _ eZ7))
    · rintro σ H6 ⟨v4, v5, L, rfl, Ll, eF, aL, x6, P6, er6, eZ6⟩
      exact ⟨_, rfl, k F0 L H6 x6 P6 nF eF (by simpa using Ll) aL⟩
end
end KW

set_option maxHeartbeats 4000000
namespace KW
open PySem L2
section
variable {P : Program} {w : World} {K : PySem.W.Frag} {mg : Str → Option Value} {base : Heap} {f c tb : Addr} {fd : FuncData}
abbrev s__law_edge : Stmt := top 33
abbrev N__law_edge : List Str := ["_law_state", "_law_sizes", "_law_counts", "_law_spans", "_law_names", "_law_one"]
abbrev P__law_edge : List Str := ["_law_state"]
theorem sc__law_edge : FnScope N__law_edge P__law_edge (defScope s__law_edge) := ⟨rfl, rfl, rfl, by decide +kernel, rfl, by decide +kernel, by decide +kernel⟩
theorem ok__law_edge (F : FunC K "_law_edge" "_law_edge" s__law_edge f fd c) (T : Txt base mg) (C__law_take : Cal P w K mg base 2 "_law_take" P__law_take (spDraw K)) (C__law_windows : Cal P w K mg base 2 "_law_windows" P__law_windows (spWindows K)) (C__law_corners : Cal P w K mg base 3 "_law_corners" P__law_corners (spCorners K)) : FnOk P w K mg base CX0 4 f fd P__law_edge (spTwo K) := by
  refine F.okQ sc__law_edge (fun vs H Q E h => ?_) (fun A outer s H vs Q E hr h => ?_)
  · obtain ⟨p, a, ns, rfl, _⟩ := h
    rfl
  · obtain ⟨p, a, ns, rfl, Pn, k⟩ := h
    refine ⟨_, (q_pss_cons (q_ps_set (i := 1) sc__law_edge.nd rfl (by first | exact Or.inl rfl | exact Or.inr rfl) (q_pe_ix (ix_listK (K := K) rfl) (q_pe_lst (q_pa_consT (q_pe_tup (q_pa_consC q_pe_int (q_pa_consC q_pe_int q_pa_nil))) (q_pa_consT (q_pe_tup (q_pa_consC q_pe_int (q_pa_consC q_pe_int q_pa_nil))) (q_pa_consT (q_pe_tup (q_pa_consC q_pe_int (q_pa_consC q_pe_int q_pa_nil))) (q_pa_consT (q_pe_tup (q_pa_consC q_pe_int (q_pa_consC q_pe_int q_pa_nil))) (q_pa_consT (q_pe_tup (q_pa_consC q_pe_int (q_pa_consC q_pe_int q_pa_nil))) (q_pa_consT (q_pe_tup (q_pa_consC q_pe_int (q_pa_consC q_pe_int q_pa_nil))) (q_pa_consT (q_pe_tup (q_pa_consC q_pe_int (q_pa_consC q_pe_int q_pa_nil))) (q_pa_consT (q_pe_tup (q_pa_consC q_pe_int (q_pa_consC q_pe_int q_pa_nil))) q_pa_nil))))))))) (q_pe_cal C__law_take (hr.mono (by omega)) (q_pa_consN (q_pv 0) (q_pa_consC q_pe_int q_pa_nil))) (fun _ _ => rfl)))
      (q_pss_cons (q_ps_set (i := 2) sc__law_edge.nd rfl (by first | exact Or.inl rfl | exact Or.inr rfl) (q_pe_ix (ix_listK (K := K) rfl) (q_pe_lst (q_pa_consT (q_pe_tup (q_pa_consC q_pe_int (q_pa_consC q_pe_int q_pa_nil))) (q_pa_consT (q_pe_tup (q_pa_consC q_pe_int (q_pa_consC q_pe_int q_pa_nil))) (q_pa_consT (q_pe_tup (q_pa_consC q_pe_int (q_pa_consC q_pe_int q_pa_nil))) (q_pa_consT (q_pe_tup (q_pa_consC q_pe_int (q_pa_consC q_pe_int q_pa_nil))) (q_pa_consT (q_pe_tup (q_pa_consC q_pe_int (q_pa_consC q_pe_int q_pa_nil))) (q_pa_consT (q_pe_tup (q_pa_consC q_pe_int (q_pa_consC q_pe_int q_pa_nil))) (q_pa_consT (q_pe_tup (q_pa_consC q_pe_int (q_pa_consC q_pe_int q_pa_nil))) (q_pa_consT (q_pe_tup (q_pa_consC q_pe_int (q_pa_consC q_pe_int q_pa_nil))) (q_pa_consT (q_pe_tup (q_pa_consC q_pe_int (q_pa_consC q_pe_int q_pa_nil))) q_pa_nil)))))))))) (q_pe_cal C__law_take (hr.mono (by omega)) (q_pa_consN (q_pv 0) (q_pa_consC q_pe_int q_pa_nil))) (fun _ _ => rfl)))
      (q_pss_cons (q_ps_set (i := 3) sc__law_edge.nd rfl (by first | exact Or.inl rfl | exact Or.inr rfl) (q_pe_lst (q_pa_consB (q_pe_op op_sub (q_pe_op op_add (q_pe_ix (ix_tupK (K := K) rfl) (q_pv 1) q_pe_int (fun _ _ => rfl)) (q_pe_ix (ix_tupK (K := K) rfl) (q_pv 2) q_pe_int (fun _ _ => rfl))) q_pe_int) (q_pa_consB (q_pe_op op_sub (q_pe_op op_add (q_pe_ix (ix_tupK (K := K) rfl) (q_pv 1) q_pe_int (fun _ _ => rfl)) (q_pe_ix (ix_tupK (K := K) rfl) (q_pv 2) q_pe_int (fun _ _ => rfl))) q_pe_int) q_pa_nil))))
      (q_pss_cons (q_ps_set (i := 4) sc__law_edge.nd rfl (by first | exact Or.inl rfl | exact Or.inr rfl) (q_pe_cal C__law_corners (hr.mono (by omega)) (q_pa_consN (q_pv 0) (q_pa_consB (q_pe_op op_add (q_pe_ix (ix_listK (K := K) rfl) (q_pv 3) q_pe_int (fun _ _ => rfl)) (q_pe_ix (ix_listK (K := K) rfl) (q_pv 3) q_pe_int (fun _ _ => rfl))) q_pa_nil))))
      (q_pss_cons (q_ps_set (i := 5) sc__law_edge.nd rfl (by first | exact Or.inl rfl | exact Or.inr rfl) (q_pe_cal C__law_windows (hr.mono (by omega)) (q_pa_consS (q_pe_slice (sl_listK (K := K) rfl) (q_pv 4) q_po_none (q_po_some (q_pe_ix (ix_listK (K := K) rfl) (q_pv 3) q_pe_int (fun _ _ => rfl)))) (q_pa_consS (q_pe_ix (ix_tupK (K := K) rfl) (q_pv 1) q_pe_int (fun _ _ => rfl)) (q_pa_consS (q_pe_ix (ix_tupK (K := K) rfl) (q_pv 2) q_pe_int (fun _ _ => rfl)) q_pa_nil)))))
      (q_pss_one (q_ps_ret (q_pe_lst (q_pa_consN (q_pv 5) (q_pa_consK (q_pe_cal C__law_windows (hr.mono (by omega)) (q_pa_consS (q_pe_slice (sl_listK (K := K) rfl) (q_pv 4) (q_po_some (q_pe_ix (ix_listK (K := K) rfl) (q_pv 3) q_pe_int (fun _ _ => rfl))) q_po_none) (q_pa_consS (q_pe_ix (ix_tupK (K := K) rfl) (q_pv 1) q_pe_int (fun _ _ => rfl)) (q_pa_consS (q_pe_ix (ix_tupK (K := K) rfl) (q_pv 2) q_pe_int (fun _ _ => rfl)) q_pa_nil)))) q_pa_nil)))))))))), ?_⟩
    refine ⟨(by show 2 ≤ sizeLine; decide), fun xt1 xh1 => ?_⟩
    refine alloc (.tup [.int 1, .int 1]) xh1 fun xH1 xs1 xe1 => ?_
    refine ⟨(by show 2 ≤ sizeLine; decide), fun xt2 xh2 => ?_⟩
    refine alloc (.tup [.int 3, .int 3]) xh2 fun xH2 xs2 xe2 => ?_
    refine ⟨(by show 2 ≤ sizeLine; decide), fun xt3 xh3 => ?_⟩
    refine alloc (.tup [.int 1, .int 5]) xh3 fun xH3 xs3 xe3 => ?_
    refine ⟨(by show 2 ≤ sizeLine; decide), fun xt4 xh4 => ?_⟩
    refine alloc (.tup [.int 5, .int 1]) xh4 fun xH4 xs4 xe4 => ?_
    refine ⟨(by show 2 ≤ sizeLine; decide), fun xt5 xh5 => ?_⟩
    refine alloc (.tup [.int 4, .int 3]) xh5 fun xH5 xs5 xe5 => ?_
    refine ⟨(by show 2 ≤ sizeLine; decide), fun xt6 xh6 => ?_⟩
    refine alloc (.tup [.int 6, .int 1]) xh6 fun xH6 xs6 xe6 => ?_
    refine ⟨(by show 2 ≤ sizeLine; decide), fun xt7 xh7 => ?_⟩
    refine alloc (.tup [.int 2, .int 5]) xh7 fun xH7 xs7 xe7 => ?_
    refine ⟨(by show 2 ≤ sizeLine; decide), fun xt8 xh8 => ?_⟩
    refine alloc (.tup [.int 2, .int 4]) xh8 fun xH8 xs8 xe8 => ?_
    refine ⟨(by show 8 ≤ sizeLine; decide), fun xL xhL => ?_⟩
    refine alloc (.lst [.ref xt1, .ref xt2, .ref xt3, .ref xt4, .ref xt5, .ref xt6, .ref xt7, .ref xt8]) xhL fun xH0 xs0 xeL => ?_
    have xr8 := xs0
    have xr7 := xs8.trans xr8
    have xr6 := xs7.trans xr7
    have xr5 := xs6.trans xr6
    have xr4 := xs5.trans xr5
    have xr3 := xs4.trans xr4
    have xr2 := xs3.trans xr3
    have xr1 := xs2.trans xr2
    have xr0 := xs1.trans xr1
    have xnL := (Pn.same ((((((((xs1).trans xs2).trans xs3).trans xs4).trans xs5).trans xs6).trans xs7).trans xs8)).ne xhL
    have xP := Pn.same xr0
    have xkey : ∃ tsl : List (Addr × Nat × Nat), [xt1, xt2, xt3, xt4, xt5, xt6, xt7, xt8] = tsl.map (·.1) ∧ tsl.length = 8 ∧ ∀ t ∈ tsl, xH0 t.1 = some (.tup [.int (t.2.1 : Int), .int (t.2.2 : Int)]) ∧ 1 ≤ t.2.1 ∧ t.2.1 ≤ 6 ∧ 1 ≤ t.2.2 ∧ t.2.2 ≤ 5 := by
      refine ⟨[(xt1, 1, 1), (xt2, 3, 3), (xt3, 1, 5), (xt4, 5, 1), (xt5, 4, 3), (xt6, 6, 1), (xt7, 2, 5), (xt8, 2, 4)], rfl, rfl, fun t ht => ?_⟩
      simp only [List.mem_cons, List.not_mem_nil, or_false] at ht
      rcases ht with rfl | rfl | rfl | rfl | rfl | rfl | rfl | rfl
      · exact ⟨xr1 _ _ xe1, by dsimp only; decide⟩
      · exact ⟨xr2 _ _ xe2, by dsimp only; decide⟩
      · exact ⟨xr3 _ _ xe3, by dsimp only; decide⟩
      · exact ⟨xr4 _ _ xe4, by dsimp only; decide⟩
      · exact ⟨xr5 _ _ xe5, by dsimp only; decide⟩
      · exact ⟨xr6 _ _ xe6, by dsimp only; decide⟩
      · exact ⟨xr7 _ _ xe7, by dsimp only; decide⟩
      · exact ⟨xr8 _ _ xe8, by dsimp only; decide⟩
    obtain ⟨xtsl, xtse, xtl, xtsp⟩ := xkey
    replace xeL : xH0 xL = some (.lst (xtsl.map fun t => V.ref t.1)) := by
      rw [xeL]
      have : [xt1, xt2, xt3, xt4, xt5, xt6, xt7, xt8].map V.ref = (xtsl.map (·.1)).map V.ref := by rw [xtse]
      rw [List.map_map] at this
      exact congrArg (fun l => some (HO.lst l)) this
    replace xr0 := xr0
    clear xtse xe1 xe2 xe3 xe4 xe5 xe6 xe7 xe8
    refine ⟨_, rfl, p, a, ns, xP.x, xP.y, _, rfl, xP.pen, (by omega), (by show (_ : Int) < 1000000000; omega), fun xd xxx xyy xHd xd0 xd1 xsd xPd => ?_⟩
    replace xPd : Pk K xHd p a ns := ⟨_, _, xPd⟩
    obtain ⟨xt, xht⟩ : ∃ t, xtsl[xd.toNat]? = some t := ⟨_, List.getElem?_eq_getElem (by omega)⟩
    have xat : atI (xtsl.map fun t => V.ref t.1) xd = some (.ref xt.1) := by
      refine at_of (j := xd.toNat) (by omega) ?_
      rw [List.getElem?_map, xht]; rfl
    obtain ⟨xet, xbd⟩ := xtsp xt (List.mem_of_getElem? xht)
    have xnp : xt.1 ≠ p := fun e => by
      rw [e] at xet
      have := xP.pen.at_
      rw [xet] at this; cases this
    replace xet := xsd _ _ xnp xet
    refine ⟨xL, _, _, _, rfl, rfl, SqL.of (xsd _ _ xnL xeL), xat, ?_⟩
    refine ⟨(by show 2 ≤ sizeLine; decide), fun yt1 yh1 => ?_⟩
    refine alloc (.tup [.int 1, .int 40]) yh1 fun yH1 ys1 ye1 => ?_
    refine ⟨(by show 2 ≤ sizeLine; decide), fun yt2 yh2 => ?_⟩
    refine alloc (.tup [.int 40, .int 1]) yh2 fun yH2 ys2 ye2 => ?_
    refine ⟨(by show 2 ≤ sizeLine; decide), fun yt3 yh3 => ?_⟩
    refine alloc (.tup [.int 5, .int 8]) yh3 fun yH3 ys3 ye3 => ?_
    refine ⟨(by show 2 ≤ sizeLine; decide), fun yt4 yh4 => ?_⟩
    refine alloc (.tup [.int 8, .int 5]) yh4 fun yH4 ys4 ye4 => ?_
    refine ⟨(by show 2 ≤ sizeLine; decide), fun yt5 yh5 => ?_⟩
    refine alloc (.tup [.int 2, .int 20]) yh5 fun yH5 ys5 ye5 => ?_
    refine ⟨(by show 2 ≤ sizeLine; decide), fun yt6 yh6 => ?_⟩
    refine alloc (.tup [.int 20, .int 2]) yh6 fun yH6 ys6 ye6 => ?_
    refine ⟨(by show 2 ≤ sizeLine; decide), fun yt7 yh7 => ?_⟩
    refine alloc (.tup [.int 6, .int 7]) yh7 fun yH7 ys7 ye7 => ?_
    refine ⟨(by show 2 ≤ sizeLine; decide), fun yt8 yh8 => ?_⟩
    refine alloc (.tup [.int 3, .int 14]) yh8 fun yH8 ys8 ye8 => ?_
    refine ⟨(by show 2 ≤ sizeLine; decide), fun yt9 yh9 => ?_⟩
    refine alloc (.tup [.int 40, .int 2]) yh9 fun yH9 ys9 ye9 => ?_
    refine ⟨(by show 9 ≤ sizeLine; decide), fun yL yhL => ?_⟩
    refine alloc (.lst [.ref yt1, .ref yt2, .ref yt3, .ref yt4, .ref yt5, .ref yt6, .ref yt7, .ref yt8, .ref yt9]) yhL fun yH0 ys0 yeL => ?_
    have yr9 := ys0
    have yr8 := ys9.trans yr9
    have yr7 := ys8.trans yr8
    have yr6 := ys7.trans yr7
    have yr5 := ys6.trans yr6
    have yr4 := ys5.trans yr5
    have yr3 := ys4.trans yr4
    have yr2 := ys3.trans yr3
    have yr1 := ys2.trans yr2
    have yr0 := ys1.trans yr1
    have ynL := (xPd.same (((((((((ys1).trans ys2).trans ys3).trans ys4).trans ys5).trans ys6).trans ys7).trans ys8).trans ys9)).ne yhL
    have yP := xPd.same yr0
    have ykey : ∃ tsl : List (Addr × Nat × Nat), [yt1, yt2, yt3, yt4, yt5, yt6, yt7, yt8, yt9] = tsl.map (·.1) ∧ tsl.length = 9 ∧ ∀ t ∈ tsl, yH0 t.1 = some (.tup [.int (t.2.1 : Int), .int (t.2.2 : Int)]) ∧ 1 ≤ t.2.1 ∧ t.2.1 ≤ 40 ∧ 1 ≤ t.2.2 ∧ t.2.2 ≤ 40 := by
      refine ⟨[(yt1, 1, 40), (yt2, 40, 1), (yt3, 5, 8), (yt4, 8, 5), (yt5, 2, 20), (yt6, 20, 2), (yt7, 6, 7), (yt8, 3, 14), (yt9, 40, 2)], rfl, rfl, fun t ht => ?_⟩
      simp only [List.mem_cons, List.not_mem_nil, or_false] at ht
      rcases ht with rfl | rfl | rfl | rfl | rfl | rfl | rfl | rfl | rfl
      · exact ⟨yr1 _ _ ye1, by dsimp only; decide⟩
      · exact ⟨yr2 _ _ ye2, by dsimp only; decide⟩
      · exact ⟨yr3 _ _ ye3, by dsimp only; decide⟩
      · exact ⟨yr4 _ _ ye4, by dsimp only; decide⟩
      · exact ⟨yr5 _ _ ye5, by dsimp only; decide⟩
      · exact ⟨yr6 _ _ ye6, by dsimp only; decide⟩
      · exact ⟨yr7 _ _ ye7, by dsimp only; decide⟩
      · exact ⟨yr8 _ _ ye8, by dsimp only; decide⟩
      · exact ⟨yr9 _ _ ye9, by dsimp only; decide⟩
    obtain ⟨ytsl, ytse, ytl, ytsp⟩ := ykey
    replace yeL : yH0 yL = some (.lst (ytsl.map fun t => V.ref t.1)) := by
      rw [yeL]
      have : [yt1, yt2, yt3, yt4, yt5, yt6, yt7, yt8, yt9].map V.ref = (ytsl.map (·.1)).map V.ref := by rw [ytse]
      rw [List.map_map] at this
      exact congrArg (fun l => some (HO.lst l)) this
    replace yr0 := yr0
    clear ytse ye1 ye2 ye3 ye4 ye5 ye6 ye7 ye8 ye9
    refine ⟨_, rfl, p, a, ns, yP.x, yP.y, _, rfl, yP.pen, (by omega), (by show (_ : Int) < 1000000000; omega), fun yd yxx yyy yHd yd0 yd1 ysd yPd => ?_⟩
    replace yPd : Pk K yHd p a ns := ⟨_, _, yPd⟩
    obtain ⟨yt, yht⟩ : ∃ t, ytsl[yd.toNat]? = some t := ⟨_, List.getElem?_eq_getElem (by omega)⟩
    have yat : atI (ytsl.map fun t => V.ref t.1) yd = some (.ref yt.1) := by
      refine at_of (j := yd.toNat) (by omega) ?_
      rw [List.getElem?_map, yht]; rfl
    obtain ⟨yet, ybd⟩ := ytsp yt (List.mem_of_getElem? yht)
    have ynp : yt.1 ≠ p := fun e => by
      rw [e] at yet
      have := yP.pen.at_
      rw [yet] at this; cases this
    replace yet := ysd _ _ ynp yet
    refine ⟨yL, _, _, _, rfl, rfl, SqL.of (ysd _ _ ynL yeL), yat, ?_⟩
    have cx : SameX p H yHd := ((SameX.of xr0).trans xsd).trans ((SameX.of yr0).trans ysd)
    have ext : yHd xt.1 = some (.tup [.int (xt.2.1 : Int), .int (xt.2.2 : Int)]) := ysd _ _ xnp (yr0 _ _ xet)
    obtain ⟨tx, n0, n1⟩ := xt
    obtain ⟨ty, m0, m1⟩ := yt
    obtain ⟨n01, n06, n11, n15⟩ := xbd
    obtain ⟨m01, m040, m11, m140⟩ := ybd
    dsimp only at n01 n06 n11 n15 m01 m040 m11 m140 ext yet xnp ynp ⊢
    clear xht yht xat yat xtsp ytsp xtl ytl xeL yeL
    have eX : SqT K yHd tx [.int (n0 : Int), .int (n1 : Int)] := .inl (.inl ext)
    have eY : SqT K yHd ty [.int (m0 : Int), .int (m1 : Int)] := .inl (.inl yet)
    refine ⟨_, rfl, tx, _, 0, _, rfl, rfl, eX, rfl, _, rfl, ty, _, 0, _, rfl, rfl, eY, rfl, _, _, rfl, rfl, _, _, rfl, rfl, ?_⟩
    refine ⟨_, rfl, tx, _, 1, _, rfl, rfl, eX, rfl, _, rfl, ty, _, 1, _, rfl, rfl, eY, rfl, _, _, rfl, rfl, _, _, rfl, rfl, ?_⟩
    refine ⟨(by show 2 ≤ sizeLine; decide), fun SP hSP => ?_⟩
    refine alloc (.lst [.int ((n0 : Int) + (m0 : Int) - 1), .int ((n1 : Int) + (m1 : Int) - 1)]) hSP fun H1 s1 e1 => ?_
    have P1 := yPd.same s1
    have nSP := yPd.ne hSP
    have c1 := cx.trans (SameX.of s1)
    refine ⟨_, rfl, _, rfl, SP, _, 0, _, rfl, rfl, SqL.of e1, rfl, _, rfl, SP, _, 1, _, rfl, rfl, SqL.of e1, rfl, _, _, rfl, rfl, p, a, ns, (n0 + m0 - 1) + (n1 + m1 - 1), ?_, P1, by omega, fun N0 ms H2 ml nd bd hN0 nN eN s2 P2 => ?_⟩
    · show [V.ref p, V.int (((n0 : Int) + (m0 : Int) - 1) + ((n1 : Int) + (m1 : Int) - 1))] = _
      rw [show ((n0 : Int) + (m0 : Int) - 1) + ((n1 : Int) + (m1 : Int) - 1) = (((n0 + m0 - 1) + (n1 + m1 - 1) : Nat) : Int) by omega]
    have e2 := s2 SP _ nSP e1
    have nxp : tx ≠ p := xnp
    have nyp : ty ≠ p := ynp
    have ex2 : H2 tx = some (.tup [.int (n0 : Int), .int (n1 : Int)]) := s2 _ _ nxp (s1 _ _ ext)
    have ey2 : H2 ty = some (.tup [.int (m0 : Int), .int (m1 : Int)]) := s2 _ _ nyp (s1 _ _ yet)
    have c2 := c1.trans s2
    have t0 : cutV (ms.map V.int) none (some ((n0 : Int) + (m0 : Int) - 1)) = (ms.take (n0 + m0 - 1)).map V.int := by
      rw [show (n0 : Int) + (m0 : Int) - 1 = ((n0 + m0 - 1 : Nat) : Int) by omega, cut_upto, List.map_take]
    have t1 : cutV (ms.map V.int) (some ((n0 : Int) + (m0 : Int) - 1)) none = (ms.drop (n0 + m0 - 1)).map V.int := by
      rw [show (n0 : Int) + (m0 : Int) - 1 = ((n0 + m0 - 1 : Nat) : Int) by omega]
      exact cut_from (by omega)
    refine ⟨_, rfl, _, rfl, SP, _, 0, _, rfl, rfl, SqL.of e2, rfl, _, rfl, N0, _, rfl, SqL.of eN, fun S1 hS1 => ?_⟩
    rw [t0]
    refine alloc (.lst ((ms.take (n0 + m0 - 1)).map V.int)) hS1 fun H3 s3 e3 => ?_
    have ex3 : SqT K H3 tx [.int (n0 : Int), .int (n1 : Int)] := .inl (.inl (s3 _ _ ex2))
    have ey3 : SqT K H3 ty [.int (m0 : Int), .int (m1 : Int)] := .inl (.inl (s3 _ _ ey2))
    refine ⟨_, rfl, tx, _, 0, _, rfl, rfl, ex3, rfl, _, rfl, ty, _, 0, _, rfl, rfl, ey3, rfl, ?_⟩
    have ll0 : (ms.take (n0 + m0 - 1)).length = n0 + m0 - 1 := by rw [List.length_take]; omega
    refine ⟨S1, _, n0, m0, rfl, SqL.of e3, nd.sublist (List.take_sublist _ _), n01, m01, by omega, by omega, fun w0 zs H4 hw s4 ew tz zl zp => ?_⟩
    have s24 := s3.trans s4
    have e4 := s24 _ _ e2
    have eN4 := s24 _ _ eN
    refine ⟨_, rfl, _, rfl, _, rfl, SP, _, 0, _, rfl, rfl, SqL.of e4, rfl, _, rfl, N0, _, rfl, SqL.of eN4, fun S2 hS2 => ?_⟩
    rw [t1]
    refine alloc (.lst ((ms.drop (n0 + m0 - 1)).map V.int)) hS2 fun H5 s5 e5 => ?_
    have s25 := s24.trans s5
    have ex5 : SqT K H5 tx [.int (n0 : Int), .int (n1 : Int)] := .inl (.inl (s25 _ _ ex2))
    have ey5 : SqT K H5 ty [.int (m0 : Int), .int (m1 : Int)] := .inl (.inl (s25 _ _ ey2))
    refine ⟨_, rfl, tx, _, 1, _, rfl, rfl, ex5, rfl, _, rfl, ty, _, 1, _, rfl, rfl, ey5, rfl, ?_⟩
    have ll1 : (ms.drop (n0 + m0 - 1)).length = n1 + m1 - 1 := by rw [List.length_drop]; omega
    refine ⟨S2, _, n1, m1, rfl, SqL.of e5, nd.sublist (List.drop_sublist _ _), n11, m11, by omega, by omega, fun w1 us H6 hw2 s6 ew2 tu ul up => ?_⟩
    refine ⟨(by show 2 ≤ sizeLine; decide), fun R hR => ?_⟩
    have s46 := s5.trans s6
    refine alloc (.lst [.ref w0, .ref w1]) hR fun H7 s7 e7 => ?_
    have s27 := (s24.trans s46).trans s7
    have P7 := P2.same s27
    have nR := (P2.same (s24.trans s46)).ne hR
    refine k R [(w0, zs, n0), (w1, us, n1)] H7 (c2.trans (SameX.of s27)) P7 nR e7 rfl fun q hq => ?_
    rcases List.mem_cons.mp hq with rfl | hq
    · exact ⟨SqT.of (s7 _ _ (s46 _ _ ew)), tz.same (s46.trans s7), by show 1 ≤ zs.length; omega, by show zs.length ≤ 40; omega, fun z hz => (zp z hz).len, n01, n06, fun z hz e he => bd e ((List.take_sublist _ _).subset ((zp z hz).mem e he))⟩
    · rw [List.mem_singleton.mp hq]
      exact ⟨SqT.of (s7 _ _ ew2), tu.same s7, by show 1 ≤ us.length; omega, by show us.length ≤ 40; omega, fun z hz => (up z hz).len, n11, by show n1 ≤ 6; omega, fun z hz e he => bd e ((List.drop_sublist _ _).subset ((up z hz).mem e he))⟩
end
end KW

set_option maxHeartbeats 4000000
namespace KW
open PySem L2
section
variable {P : Program} {w : World} {K : PySem.W.Frag} {mg : Str → Option Value} {base : Heap} {f c tb : Addr} {fd : FuncData}
theorem two_of {L : List Sh3} (h : L.length = 2) : ∃ x y, L = [x, y] := by
  match L, h with
  | [x, y], _ => exact ⟨x, y, rfl⟩
theorem last_at {l : List Int} {c : Int} (h : l[l.length - 1]? = some c) : atI (l.map V.int) (-1) = some (.int c) := by
  have h1 : 1 ≤ l.length := by
    have := (List.getElem?_eq_some_iff.mp h).1
    omega
  have : ixN (l.map V.int).length (-1) = some (l.length - 1) := by
    unfold ixN
    rw [List.length_map, if_neg (by decide), if_pos (by omega)]
    congr 1
    omega
  unfold atI
  rw [this]
  show (l.map V.int)[l.length - 1]? = _
  rw [List.getElem?_map, h]; rfl
def spTied (K : PySem.W.Frag) : Sp := fun vs H Q _ => ∃ (p a S : Addr) (ns : List Int) (L : List Sh3), vs = [.ref p, .ref S] ∧ Pk K H p a ns ∧ S ≠ p ∧ H S = some (.lst (refJ L)) ∧ L.length = 2 ∧ AllJ K H L ∧
  ∀ (r : Addr) (L' : List Sh3) (H' : Hp), SameX p H H' → Pk K H' p a ns → r ≠ p → H' r = some (.lst (refJ L')) → L'.length = 2 → AllJ K H' L' → Q (.ref r) H'
abbrev s__law_tied : Stmt := top 34
abbrev N__law_tied : List Str := ["_law_state", "_law_shapes", "_law_corner", "_law_out", "_law_found", "_law_piece", "_law_one"]
abbrev P__law_tied : List Str := ["_law_state", "_law_shapes"]
theorem sc__law_tied : FnScope N__law_tied P__law_tied (defScope s__law_tied) := ⟨rfl, rfl, rfl, by decide +kernel, rfl, by decide +kernel, by decide +kernel⟩
theorem ok__law_tied (F : FunC K "_law_tied" "_law_tied" s__law_tied f fd c) (T : Txt base mg) (C__law_take : Cal P w K mg base 2 "_law_take" P__law_take (spDraw K)) : FnOk P w K mg base CX0 3 f fd P__law_tied (spTied K) := by
  refine F.okQ sc__law_tied (fun vs H Q E h => ?_) (fun A outer s H vs Q E hr h => ?_)
  · obtain ⟨p, a, S, ns, L, rfl, _⟩ := h
    rfl
  · obtain ⟨p, a, S, ns, L, rfl, Pn, nS, eS, Ll, aL, k⟩ := h
    refine ⟨_, (q_pss_cons (q_ps_set (i := 2) sc__law_tied.nd rfl (by first | exact Or.inl rfl | exact Or.inr rfl) (q_pe_ix (ix_tupK (K := K) rfl) (q_pe_ix (ix_tupK (K := K) rfl) (q_pe_ix (ix_listK (K := K) rfl) (q_pv 1) q_pe_int (fun _ _ => rfl)) (q_pe_cal C__law_take (hr.mono (by omega)) (q_pa_cons (q_pv 0) (q_pa_cons (q_pe_callB (call_lenK (K := K) rfl) rfl T.no_len (by decide +kernel) (q_pa_cons (q_pe_ix (ix_listK (K := K) rfl) (q_pv 1) q_pe_int (fun _ _ => rfl)) q_pa_nil)) q_pa_nil))) (fun _ _ => rfl)) q_pe_int (fun _ _ => rfl)))
      (q_pss_cons (q_ps_set (i := 3) sc__law_tied.nd rfl (by first | exact Or.inl rfl | exact Or.inr rfl) (q_pe_ix (ix_tupK (K := K) rfl) (q_pe_ix (ix_tupK (K := K) rfl) (q_pe_ix (ix_listK (K := K) rfl) (q_pv 1) q_pe_int (fun _ _ => rfl)) (q_pe_cal C__law_take (hr.mono (by omega)) (q_pa_cons (q_pv 0) (q_pa_cons (q_pe_callB (call_lenK (K := K) rfl) rfl T.no_len (by decide +kernel) (q_pa_cons (q_pe_ix (ix_listK (K := K) rfl) (q_pv 1) q_pe_int (fun _ _ => rfl)) q_pa_nil)) q_pa_nil))) (fun _ _ => rfl)) (q_pe_un un_neg q_pe_int) (fun _ _ => rfl)))
      (q_pss_cons (q_ps_set (i := 4) sc__law_tied.nd rfl (by first | exact Or.inl rfl | exact Or.inr rfl) (q_pe_lst q_pa_nil))
      (q_pss_cons (q_ps_for PassesOwn.never rfl (q_pi_tupK (K := K) rfl (q_pe_ix (ix_listK (K := K) rfl) (q_pv 1) q_pe_int (fun _ _ => rfl))) (q_pg_name (i := 5) sc__law_tied.nd rfl (by first | exact Or.inl rfl | exact Or.inr rfl))
      (q_pss_one (q_ps_expr (q_pe_bm PySem.F.plainAttrs_list PySem.F.slot_list_append PySem.F.type_list_append mt_append (q_pv 4) (q_pa_cons (q_pe_callTy (call_tuple_ofK (K := K) rfl) rfl T.no_tuple (by decide +kernel) (q_pa_cons (q_pe_callB (cr_sortInts (K := K) hr rfl) rfl T.no_sorted (by decide +kernel) (q_pa_cons (q_pe_lc (own := [("_law_one", 6)]) rfl sc__law_tied.nd (q_pi_tupK (K := K) rfl (q_pv 5)) (blkOk_by (own := [("_law_one", 6)]) (N := N__law_tied) (sc := defScope s__law_tied) (by decide +kernel)) (fun _ _ _ _ _ => (q_pg_name (i := 6) sc__law_tied.nd rfl (by first | exact Or.inl rfl | exact Or.inr rfl))) (fun _ _ _ _ _ => q_pts_nil) (fun _ _ _ _ _ => (q_pe_ix (ix_listK (K := K) rfl) (q_pe_lst (q_pa_cons (q_pv 6) (q_pa_cons (q_pv 2) q_pa_nil))) (q_pe_callTy call_int1 rfl T.no_int (by decide +kernel) (q_pa_cons (q_pe_cmpR op_eq (q_pv 6) (q_pv 3) (nomark _)) q_pa_nil)) (fun _ _ => rfl)))) q_pa_nil)) q_pa_nil)) q_pa_nil)))))
      (q_pss_one (q_ps_ret (q_pe_lst (q_pa_cons (q_pe_ix (ix_listK (K := K) rfl) (q_pv 1) q_pe_int (fun _ _ => rfl)) (q_pa_cons (q_pe_callTy (call_tuple_ofK (K := K) rfl) rfl T.no_tuple (by decide +kernel) (q_pa_cons (q_pv 4) q_pa_nil)) q_pa_nil))))))))), ?_⟩
    obtain ⟨⟨A, zs, n⟩, ⟨B, us, m⟩, rfl⟩ := two_of Ll
    have hA : ShJ K H A zs n := aL _ List.mem_cons_self
    have hB : ShJ K H B us m := aL _ (List.mem_cons_of_mem _ List.mem_cons_self)
    have ez : ((refs zs).length : Int) = (zs.length : Int) := by rw [List.length_map]
    have eu : ((refs us).length : Int) = (us.length : Int) := by rw [List.length_map]
    refine ⟨_, rfl, S, _, 0, .ref A, rfl, rfl, SqL.of eS, rfl, ?_⟩
    refine ⟨_, rfl, _, rfl, S, _, 0, .ref A, rfl, rfl, SqL.of eS, rfl, _, _, rfl, .inr ⟨_, hA.s, rfl⟩, p, a, ns, Pn.x, Pn.y, _, rfl, Pn.pen, by have := hA.z1; omega, by have := hA.zl; show (_ : Int) < 1000000000; omega, fun d1 x1 y1 H1 d10 d11 s1 P1 => ?_⟩
    have P1' : Pk K H1 p a ns := ⟨_, _, P1⟩
    have hA1 := hA.sx Pn s1
    have hB1 := hB.sx Pn s1
    have eS1 := s1 _ _ nS eS
    obtain ⟨j1, rfl⟩ := Int.eq_ofNat_of_zero_le d10
    obtain ⟨z, hz⟩ : ∃ z, zs[j1]? = some z := ⟨_, List.getElem?_eq_getElem (by omega)⟩
    have hzm := List.mem_of_getElem? hz
    obtain ⟨cc, hcc⟩ : ∃ x, z.2[0]? = some x := ⟨_, List.getElem?_eq_getElem (by rw [hA.zn z hzm]; exact hA.n1)⟩
    refine ⟨A, _, _, .ref z.1, rfl, rfl, hA1.s, at_of (j := j1) rfl (by show (refs zs)[j1]? = _; rw [List.getElem?_map, hz]; rfl), ?_⟩
    refine ⟨z.1, _, 0, .int cc, rfl, rfl, hA1.t z hzm, at_of (j := 0) rfl (by rw [List.getElem?_map, hcc]; rfl), ?_⟩
    refine ⟨_, rfl, S, _, 1, .ref B, rfl, rfl, SqL.of eS1, rfl, ?_⟩
    refine ⟨_, rfl, _, rfl, S, _, 1, .ref B, rfl, rfl, SqL.of eS1, rfl, _, _, rfl, .inr ⟨_, hB1.s, rfl⟩, p, a, ns, x1, y1, _, rfl, P1, by have := hB.z1; omega, by have := hB.zl; show (_ : Int) < 1000000000; omega, fun d2 x2 y2 H2 d20 d21 s2 P2 => ?_⟩
    have P2' : Pk K H2 p a ns := ⟨_, _, P2⟩
    have hA2 := hA1.sx P1' s2
    have hB2 := hB1.sx P1' s2
    have eS2 := s2 _ _ nS eS1
    obtain ⟨j2, rfl⟩ := Int.eq_ofNat_of_zero_le d20
    obtain ⟨u, hu⟩ : ∃ u, us[j2]? = some u := ⟨_, List.getElem?_eq_getElem (by omega)⟩
    have hum := List.mem_of_getElem? hu
    obtain ⟨oo, hoo⟩ : ∃ x, u.2[u.2.length - 1]? = some x := ⟨_, List.getElem?_eq_getElem (by have := hB.zn u hum; have := hB.n1; omega)⟩
    refine ⟨B, _, _, .ref u.1, rfl, rfl, hB2.s, at_of (j := j2) rfl (by show (refs us)[j2]? = _; rw [List.getElem?_map, hu]; rfl), ?_⟩
    refine ⟨_, rfl, u.1, _, _, .int oo, rfl, rfl, hB2.t u hum, last_at hoo, ?_⟩
    refine ⟨(by show 0 ≤ sizeLine; decide), fun F0 hF => ?_⟩
    have sF := Same.upd (o := .lst []) hF
    have x2' := s1.trans s2
    have nF := P2'.ne hF
    have cb : cc.natAbs ≤ 10 ^ 31 := hA.bd z hzm cc (List.mem_of_getElem? hcc)
    refine ⟨_, rfl, S, _, 1, .ref B, rfl, rfl, SqL.of (sF _ _ eS2), rfl, B, rfl, ⟨_, sF.sqT hB2.s⟩, for_tup (xs := refs us) (fun i σ H' => ∃ (v5 v6 : Option V) (ys : Zs), σ = [some (.ref p), some (.ref S), some (.int cc), some (.int oo), some (.ref F0), v5, v6] ∧ Same H2 H' ∧ H' F0 = some (.lst (refs ys)) ∧ Tups K H' ys ∧ ys.length = i ∧ (∀ y ∈ ys, y.2.length = m) ∧ ∀ y ∈ ys, ∀ e ∈ y.2, e.natAbs ≤ 10 ^ 31) ⟨_, _, [], rfl, sF, upd_same, Tups.nil, rfl, (fun y hy => nomatch hy), (fun y hy => nomatch hy)⟩ ?_ ?_ ?_⟩
    · rintro i σ H' _ ⟨v5, v6, ys, rfl, sm, _⟩
      exact sm.sqT hB2.s
    · rintro i xv σ H' hxv ⟨v5, v6, ys, rfl, sm, eF, ty, yl, yn, yb⟩
      obtain ⟨q, hq, rfl⟩ := refs_at hxv
      have hqm := List.mem_of_getElem? hq
      have hi : i < us.length := (List.getElem?_eq_some_iff.mp hq).1
      have ql := hB2.zn q hqm
      have hu40 := hB2.zl
      have hm6 := hB2.n6
      refine ⟨_, rfl, .inl ⟨rfl, _, SqL.of eF⟩, _, rfl, q.1, rfl, ⟨_, sm.sqT (hB2.t q hqm)⟩, fun D hD => ?_⟩
      refine lc_tup (xs := q.2.map V.int) (fun j H3 => Same H' H3 ∧ ∃ cs : List Int, H3 D = some (.lst (cs.map V.int)) ∧ cs.length = j ∧ ∀ e ∈ cs, e.natAbs ≤ 10 ^ 31) ⟨Same.upd hD, [], upd_same, rfl, (fun e he => nomatch he)⟩ (fun j H3 _ h => h.1.sqT (sm.sqT (hB2.t q hqm))) ?_ ?_
      · rintro j yv H3 hyv ⟨s3, cs, e3, cl, cbd⟩
        obtain ⟨v, hv, rfl⟩ := ints_at hyv
        have hj : j < q.2.length := (List.getElem?_eq_some_iff.mp hv).1
        refine ⟨rfl, yes ⟨_, rfl, _, rfl, (by show 2 ≤ sizeLine; decide), fun M hM => ?_⟩⟩
        have sM := Same.upd (o := .lst [.int v, .int cc]) hM
        refine ⟨_, rfl, _, rfl, rfl, .inr ⟨_, rfl, ?_⟩⟩
        obtain ⟨x, hx, hxb⟩ : ∃ x : Int, atI [V.int v, V.int cc] (if decide (V.int v = V.int oo) = true then 1 else 0) = some (.int x) ∧ x.natAbs ≤ 10 ^ 31 := by
          by_cases e : V.int v = V.int oo
          · rw [decide_eq_true e]
            exact ⟨cc, rfl, cb⟩
          · rw [decide_eq_false e]
            exact ⟨v, rfl, hB2.bd q hqm v (List.mem_of_getElem? hv)⟩
        refine ⟨M, _, _, _, rfl, rfl, SqL.of upd_same, hx, ?_⟩
        obtain ⟨a0, a1, a2, a3, a4⟩ := il_push (j := x) hD s3 e3 sM (by omega)
        refine ⟨a0, a1, a2, a3, cs ++ [x], a4, by simp [cl], fun e he => ?_⟩
        rcases List.mem_append.mp he with he | he
        · exact cbd e he
        · rw [List.mem_singleton.mp he]; exact hxb
      · rintro H3 ⟨s3, cs, e3, cl, cbd⟩
        rw [List.length_map, ql] at cl
        refine ⟨D, _, rfl, SqL.of e3, fun bs r2 pb rs hr2 => ?_⟩
        refine alloc (.lst (bs.map V.int)) hr2 fun H4 s4 e4 => ?_
        refine ⟨r2, _, rfl, .inl ⟨SqL.of e4, fun t ht => ?_⟩⟩
        refine alloc (.tup (bs.map V.int)) ht fun H5 s5 e5 => ?_
        have s35 := (s3.trans s4).trans s5
        have eF5 := s35 _ _ eF
        have hF2 : H2 F0 = none := hF
        refine ⟨F0, _, _, rfl, rfl, eF5, by rw [List.length_map, yl]; exact small (by omega), ?_⟩
        refine ⟨_, _, ys ++ [(t, bs)], rfl, (sm.trans s35).updF hF2, by rw [upd_same, refs_snoc], ((ty.same s35).snoc (.inl (.inl e5))).sx eF5 SameX.upd, by simp [yl], fun y hy => ?_, fun y hy => ?_⟩
        · rcases List.mem_append.mp hy with hy | hy
          · exact yn y hy
          · rw [List.mem_singleton.mp hy]; show bs.length = m; rw [pb.length_eq, cl]
        · rcases List.mem_append.mp hy with hy | hy
          · exact yb y hy
          · rw [List.mem_singleton.mp hy]
            exact fun e he => cbd e (pb.mem_iff.mp he)
    · rintro σ H3 ⟨v5, v6, ys, rfl, sm, eF, ty, yl, yn, yb⟩
      rw [List.length_map] at yl
      refine ⟨_, rfl, S, _, 0, .ref A, rfl, rfl, SqL.of (sm _ _ eS2), rfl, ?_⟩
      refine ⟨_, rfl, F0, _, rfl, .inl ⟨SqL.of eF, fun t ht => ?_⟩⟩
      refine alloc (.tup (refs ys)) ht fun H4 s4 e4 => ?_
      refine ⟨(by show 2 ≤ sizeLine; decide), fun R hR => ?_⟩
      refine alloc (.lst [.ref A, .ref t]) hR fun H5 s5 e5 => ?_
      have s25 := (sm.trans s4).trans s5
      have nR := (P2'.same (sm.trans s4)).ne hR
      refine k R [(A, zs, n), (t, ys, m)] H5 (x2'.trans (SameX.of s25)) (P2'.same s25) nR e5 rfl fun q hq => ?_
      rcases List.mem_cons.mp hq with rfl | hq
      · exact hA2.same s25
      · rw [List.mem_singleton.mp hq]
        exact ⟨SqT.of (s5 _ _ e4), ty.same (s4.trans s5), by show 1 ≤ ys.length; rw [yl]; exact hB2.z1, by show ys.length ≤ 40; rw [yl]; exact hB2.zl, yn, hB2.n1, hB2.n6, yb⟩
end
end KW

set_option maxHeartbeats 4000000
namespace KW
open PySem L2
section
variable {P : Program} {w : World} {K : PySem.W.Frag} {mg : Str → Option Value} {base : Heap} {f c tb : Addr} {fd : FuncData}
abbrev lamQ : Str := "law.<locals>.<lambda>"
def dataJ (zs us : Zs) (n m : Nat) : PyData := if outJ zs us n m = 0 then .tuple ((joinL zs us).map tupD) else if outJ zs us n m = 1 then .str "NoCorner" else .str "TooMany"
inductive DueJ (K : PySem.W.Frag) (H : Hp) (zs us : Zs) (n m : Nat) : V → Prop where
  | ok {r : Addr} {ys : Zs} (o : outJ zs us n m = 0) (h : SqT K H r (refs ys)) (t : Tups K H ys) (e : ys.map (·.2) = joinL zs us) : DueJ K H zs us n m (.ref r)
  | no {x : Str} (o : outJ zs us n m ≠ 0) (e : dataJ zs us n m = .str x) : DueJ K H zs us n m (.str x)
theorem DueJ.dp {H : Hp} {zs us : Zs} {n m : Nat} {v : V} (h : DueJ K H zs us n m v) : Dp K H v (dataJ zs us n m) := by
  cases h with
  | ok o h t e =>
    unfold dataJ
    rw [if_pos o]
    exact Dp_tupsT h t e
  | no o e => rw [e]; exact .str _
theorem DueJ.same {H H' : Hp} {zs us : Zs} {n m : Nat} {v : V} (h : DueJ K H zs us n m v) (s : Same H H') : DueJ K H' zs us n m v := by
  cases h with
  | ok o h t e => exact .ok o (s.sqT h) (t.same s) e
  | no o e => exact .no o e
theorem outJ_cases (zs us : Zs) (n m : Nat) : outJ zs us n m = 0 ∨ outJ zs us n m = 1 ∨ outJ zs us n m = 2 := by
  unfold outJ
  split
  · exact .inr (.inl rfl)
  · split
    · exact .inr (.inr rfl)
    · exact .inl rfl
theorem lawJoin_of {vs : List V} {H : Hp} {Q : VK} {E : XK} {sh s2 : Addr} {zs us : Zs} {n m : Nat} (h : ShJ K H sh zs n) (h2 : ShJ K H s2 us m) (hv : vs = [.ref sh, .ref s2]) (k : ∀ v H', Same H H' → DueJ K H' zs us n m v → Q v H') : spLawJoin K vs H Q E := by
  subst hv
  refine ⟨sh, s2, zs, us, n, m, rfl, h, h2, fun o r ys H' s hr ty e => k _ _ s (.ok o hr ty e), fun o H' s => k _ _ s (.no (by omega) ?_), fun o H' s => k _ _ s (.no (by omega) ?_)⟩
  · unfold dataJ; rw [o]; rfl
  · unfold dataJ; rw [o]; rfl
theorem join_spc {vs : List V} {Cb Cn Ct tc tj : Addr} {cs os : List Addr} {H : Hp} {Q' : VK} {E' : XK} {sh s2 : Addr} {zs us : Zs} {n m : Nat} (h : ShJ K H sh zs n) (h2 : ShJ K H s2 us m) (hTc : H tc = some (tbO tc #[])) (hTj : H tj = some (tbO tj #[]))
    (Wn : WordAt K Cn cs os 3) (Wt : WordAt K Ct cs os 5) (xn : PySem.W.exmOne K (.ref Cn) (.ref Cb) = some true) (xt : PySem.W.exmOne K (.ref Ct) (.ref Cb) = some true) (hts : PySem.W.kitOne K (.type "tuple") (.type "str") = some false)
    (hQ : ∀ v H1, Same H H1 → Dp K H1 v (dataJ zs us n m) → (∃ t, TyOfX K H1 v t ∧ PySem.W.kitOne K t (.type "str") = some false) → Q' v H1)
    (hE : ∀ C H1 (j : Nat) (x : Str), Same H H1 → PySem.W.exmOne K (.ref C) (.ref Cb) = some true → WordAt K C cs os j → wordsL[j]? = some x → dataJ zs us n m = .str x → E' (.ref C) none H1) (hv : vs = [.ref sh, .ref s2]) : spJoin K Cn Ct tc tj vs H Q' E' := by
  subst hv
  refine ⟨sh, s2, zs, us, n, m, rfl, h, h2, hTc, hTj, fun o r ys H' s hr ty e => hQ _ _ s (DueJ.ok o hr ty e).dp ⟨_, .inr ⟨rfl, _, _, rfl, hr⟩, hts⟩, fun o H' s => hE _ _ 3 _ s xn Wn rfl ?_, fun o H' s => hE _ _ 5 _ s xt Wt rfl ?_⟩
  · unfold dataJ; rw [o]; rfl
  · unfold dataJ; rw [o]; rfl
theorem dataJ_shw {H : Hp} {sh s2 : Addr} {zs us : Zs} {n m : Nat} (h : ShJ K H sh zs n) (h2 : ShJ K H s2 us m) : Shw2 (dataJ zs us n m) := by
  unfold dataJ
  rcases outJ_cases zs us n m with o | o | o
  · rw [if_pos o]
    have hl : (joinL zs us).length ≤ 40 := by
      rw [joinL_len]
      unfold outJ at o
      split at o
      · cases o
      · split at o
        · cases o
        · omega
    refine shw_tupsT (m := 12) (fun c hc => ?_) (by omega)
    obtain ⟨z, hz, hc⟩ := List.mem_flatMap.mp hc
    obtain ⟨u, hu, rfl⟩ := List.mem_map.mp hc
    have h3 := h.zn z hz
    have h4 := h2.zn u hu
    have h5 := h.n6
    have h6 := h2.n6
    refine ⟨by rw [srtJ_len, List.length_append]; omega, fun y hy => Nat.le_trans ?_ (show 10 ^ 31 ≤ 10 ^ 60 by decide)⟩
    rcases List.mem_append.mp ((srtJ_perm _).mem_iff.mp hy) with hy | hy
    · exact h.bd z hz y hy
    · exact h2.bd u hu y hy
  · rw [o]; exact shw_str (by decide +kernel)
  · rw [o]; exact shw_str (by decide +kernel)
def spLaw (K : PySem.W.Frag) (TB : List (Addr × HO)) : Sp := fun vs H Q _ => ∃ (a : Addr) (ns : List Int), vs = [.ref a] ∧ SqL K H a (ns.map V.int) ∧ ns.length ≤ 63 ∧ TbH TB H ∧ ∀ H', Same H H' → Q (.bl true) H'
abbrev s_law : Stmt := top 35
abbrev N_law : List Str := ["_law_script", "_law_state", "_law_turn", "_law_shapes", "_law_one", "_law_other", "_law_due", "_law_again"]
abbrev P_law : List Str := ["_law_script"]
theorem sc_law : FnScope N_law P_law (defScope s_law) := ⟨rfl, rfl, rfl, by decide +kernel, rfl, by decide +kernel, by decide +kernel⟩
theorem ok_law {TB : List (Addr × HO)} {Cb Cn Ct tc tj tw : Addr} {cs os : List Addr} (m1 : (tc, tbO tc #[]) ∈ TB) (m2 : (tj, tbO tj #[]) ∈ TB) (m4 : (tw, HO.lam lamQ) ∈ TB) (nTB : ∀ q ∈ TB, ∀ ys, q.2 ≠ .lst ys) (F : FunC K "law" "law" s_law f fd c) (ck : CodeK K c tw) (T : Txt base mg)
    (Wn : WordAt K Cn cs os 3) (Wt : WordAt K Ct cs os 5) (xn : PySem.W.exmOne K (.ref Cn) (.ref Cb) = some true) (xt : PySem.W.exmOne K (.ref Ct) (.ref Cb) = some true) (hts : PySem.W.kitOne K (.type "tuple") (.type "str") = some false)
    (C__law_take : Cal P w K mg base 2 "_law_take" P__law_take (spDraw K)) (C__law_two : Cal P w K mg base 4 "_law_two" P__law_two (spTwo K)) (C__law_edge : Cal P w K mg base 4 "_law_edge" P__law_edge (spTwo K)) (C__law_tied : Cal P w K mg base 3 "_law_tied" P__law_tied (spTied K)) (C__law_join : Cal P w K mg base 2 "_law_join" P__law_join (spLawJoin K)) (C_join : CalX P w K mg base 3 "join" P_join (spJoin K Cn Ct tc tj))
    (C__law_told : CalS P w K mg base 13 "_law_told" P__law_told (spTold P w K mg base 12 Cb cs os)) : FnOk P w K mg base CX0 14 f fd P_law (spLaw K TB) := by
  refine F.okQ sc_law (fun vs H Q E h => ?_) (fun A outer s H vs Q E hr h => ?_)
  · obtain ⟨a, ns, rfl, _⟩ := h
    rfl
  · obtain ⟨a, ns, rfl, hs, hl, hT, k⟩ := h
    refine ⟨_, (q_pss_cons (q_ps_set (i := 1) sc_law.nd rfl (by first | exact Or.inl rfl | exact Or.inr rfl) (q_pe_lst (q_pa_cons (q_pv 0) (q_pa_cons q_pe_int (q_pa_cons q_pe_int q_pa_nil)))))
      (q_pss_cons (q_ps_for PassesOwn.never rfl (q_pi_range1 rfl T.no_range (q_pa_cons q_pe_int q_pa_nil)) (q_pg_name (i := 2) sc_law.nd rfl (by first | exact Or.inl rfl | exact Or.inr rfl))
      (q_pss_cons (q_ps_set (i := 3) sc_law.nd rfl (by first | exact Or.inl rfl | exact Or.inr rfl) (q_pe_cal C__law_two (hr.mono (by omega)) (q_pa_cons (q_pv 1) q_pa_nil)))
      (q_pss_cons (q_ps_if (q_pt_cmpR op_eq (q_pe_cal C__law_take (hr.mono (by omega)) (q_pa_cons (q_pv 1) (q_pa_cons q_pe_int q_pa_nil))) q_pe_int (nomark _))
      (q_pss_one (q_ps_set (i := 3) sc_law.nd rfl (by first | exact Or.inl rfl | exact Or.inr rfl) (q_pe_cal C__law_edge (hr.mono (by omega)) (q_pa_cons (q_pv 1) q_pa_nil))))
      q_pss_nil)
      (q_pss_cons (q_ps_if (q_pt_cmpR op_eq (q_pe_cal C__law_take (hr.mono (by omega)) (q_pa_cons (q_pv 1) (q_pa_cons q_pe_int q_pa_nil))) q_pe_int (nomark _))
      (q_pss_one (q_ps_set (i := 3) sc_law.nd rfl (by first | exact Or.inl rfl | exact Or.inr rfl) (q_pe_cal C__law_tied (hr.mono (by omega)) (q_pa_cons (q_pv 1) (q_pa_cons (q_pv 3) q_pa_nil)))))
      q_pss_nil)
      (q_pss_one (q_ps_for PassesOwn.never rfl (q_pi_tupK (K := K) rfl (q_pe_tup (q_pa_cons (q_pv 3) (q_pa_cons (q_pe_rev (K := K) rfl (q_pv 3)) q_pa_nil)))) (q_pg_tupLK (n := 2) (K := K) rfl rfl (q_pgs_cons (q_pg_name (i := 4) sc_law.nd rfl (by first | exact Or.inl rfl | exact Or.inr rfl)) (q_pgs_cons (q_pg_name (i := 5) sc_law.nd rfl (by first | exact Or.inl rfl | exact Or.inr rfl)) q_pgs_nil)))
      (q_pss_cons (q_ps_set (i := 6) sc_law.nd rfl (by first | exact Or.inl rfl | exact Or.inr rfl) (q_pe_cal C__law_join (hr.mono (by omega)) (q_pa_cons (q_pv 4) (q_pa_cons (q_pv 5) q_pa_nil))))
      (q_pss_one (q_ps_for PassesOwn.never rfl (q_pi_range1 rfl T.no_range (q_pa_cons q_pe_int q_pa_nil)) (q_pg_name (i := 7) sc_law.nd rfl (by first | exact Or.inl rfl | exact Or.inr rfl))
      (q_pss_one (q_ps_if (q_pt_cmpR op_ne (q_pe_callB (cr_reprK (K := K) rfl hr) rfl T.no_repr (by decide +kernel) (q_pa_cons (q_pe_told (kc := 11) (Nl := ["_law_one", "_law_other"]) (own := [4, 5]) (q := lamQ) C__law_told (hr.mono (by omega)) rfl ck T.bm rfl rfl ⟨rfl, rfl, rfl, by decide +kernel⟩ (fun _ _ _ _ => rfl) (fun _ => rfl) (show LamOwn N_law (defScope s_law) _ _ _ from ⟨rfl, by decide +kernel, by decide +kernel, by decide +kernel⟩) (fun _ _ _ _ _ _ _ _ hrl => (q_pe_calX C_join (hrl.mono (by omega)) passesL (q_pa_cons (q_pv 0) (q_pa_cons (q_pv 1) q_pa_nil))))) q_pa_nil)) (q_pe_callB (cr_reprK (K := K) rfl hr) rfl T.no_repr (by decide +kernel) (q_pa_cons (q_pv 6) q_pa_nil)) (nomark _))
      (q_pss_one (q_ps_ret q_pe_bl))
      q_pss_nil)))))))))))
      (q_pss_one (q_ps_ret q_pe_bl)))), ?_⟩
    refine ⟨_, rfl, (by show 3 ≤ sizeLine; decide), fun p hp => ?_⟩
    refine alloc (.lst [.ref a, .int 0, .int 0]) hp fun H1 s1 e1 => ?_
    have hT1 := s1.tbH hT
    have P1 : Pen K H1 p a ns 0 0 := ⟨e1, s1.seq hs, hl, by decide, by decide⟩
    have at1 := P1.at_
    replace P1 : Pk K H1 p a ns := ⟨_, _, P1⟩
    refine ⟨_, rfl, (by decide), (by decide), for_range (lo := 0) (n := 3) (fun i σ H' => ∃ (v2 v3 v4 v5 v6 v7 : Option V), σ = [some (.ref a), some (.ref p), v2, v3, v4, v5, v6, v7] ∧ SameX p H1 H' ∧ Pk K H' p a ns) ⟨none, none, none, none, none, none, rfl, SameX.refl _ _, P1⟩ ?_ ?_⟩
    · rintro i σ H2 hi ⟨v2, v3, v4, v5, v6, v7, rfl, x2, P2⟩
      refine ⟨_, rfl, p, a, ns, rfl, P2, fun S L H3 s3 P3 nS eS Ll aL => ?_⟩
      have x3 := x2.trans s3
      refine ⟨_, rfl, p, a, ns, P3.x, P3.y, 3, rfl, P3.pen, by decide, by decide, fun d xP4 yP4 H4 d0 d1 s4 P4 => ?_⟩
      replace P4 : Pk K H4 p a ns := ⟨_, _, P4⟩
      have x4 := x3.trans s4
      have eS4 := s4 _ _ nS eS
      have aL4 : AllJ K H4 L := fun q hq => (aL q hq).sx P3 s4
      refine ⟨rfl, _, rfl, ifS_inv (fun σ H' => ∃ (S : Addr) (L : List Sh3), σ = [some (.ref a), some (.ref p), some (.int (0 + (i : Int))), some (.ref S), v4, v5, v6, v7] ∧ SameX p H1 H' ∧ Pk K H' p a ns ∧ S ≠ p ∧ H' S = some (.lst (refJ L)) ∧ L.length = 2 ∧ AllJ K H' L) ?_ ?_ (fun _ => ⟨S, L, rfl, x4, P4, nS, eS4, Ll, aL4⟩)⟩
      rotate_left
      · rintro - hN
        refine ⟨_, rfl, p, a, ns, rfl, P4, fun S2 L2' H5 s5 P5 nS2 eS2 Ll2 aL2 => hN _ _ ⟨S2, L2', rfl, x4.trans s5, P5, nS2, eS2, Ll2, aL2⟩⟩
      clear eS4 aL4 aL eS nS Ll
      rintro σ H5 ⟨S, L, rfl, x5, P5, nS, eS, Ll, aL⟩
      refine ⟨_, rfl, p, a, ns, P5.x, P5.y, 5, rfl, P5.pen, by decide, by decide, fun d' xP6 yP6 H6 d0' d1' s6 P6 => ?_⟩
      replace P6 : Pk K H6 p a ns := ⟨_, _, P6⟩
      have x6 := x5.trans s6
      have eS6 := s6 _ _ nS eS
      have aL6 : AllJ K H6 L := fun q hq => (aL q hq).sx P5 s6
      refine ⟨rfl, _, rfl, ifS_inv (fun σ H' => ∃ (S : Addr) (L : List Sh3), σ = [some (.ref a), some (.ref p), some (.int (0 + (i : Int))), some (.ref S), v4, v5, v6, v7] ∧ SameX p H1 H' ∧ Pk K H' p a ns ∧ S ≠ p ∧ H' S = some (.lst (refJ L)) ∧ L.length = 2 ∧ AllJ K H' L) ?_ ?_ (fun _ => ⟨S, L, rfl, x6, P6, nS, eS6, Ll, aL6⟩)⟩
      rotate_left
      · rintro - hN
        refine ⟨_, rfl, _, rfl, p, a, S, ns, L, rfl, P6, nS, eS6, Ll, aL6, fun S2 L2' H7 s7 P7 nS2 eS2 Ll2 aL2 => hN _ _ ⟨S2, L2', rfl, x6.trans s7, P7, nS2, eS2, Ll2, aL2⟩⟩
      clear eS6 aL6 aL eS nS Ll
      rintro σ H7 ⟨S, L, rfl, x7, P7, nS, eS, Ll, aL⟩
      refine ⟨_, rfl, _, rfl, S, _, rfl, SqL.of eS, fun R hR => ?_⟩
      refine alloc (.lst (refJ L).reverse) hR fun H8 s8 e8 => ?_
      refine ⟨(by show 2 ≤ sizeLine; decide), fun t ht => ?_⟩
      refine alloc (.tup [.ref S, .ref R]) ht fun H9 s9 e9 => ?_
      have s79 := s8.trans s9
      have P9 := P7.same s79
      have x9 := x7.trans (SameX.of s79)
      have eS9 := s79 _ _ eS
      have eR9 := s9 _ _ e8
      have aL9 : AllJ K H9 L := fun q hq => (aL q hq).same s79
      have htc : H9 tc = some (tbO tc #[]) := tbh_sx nTB hT1 at1 x9 _ m1
      have htj : H9 tj = some (tbO tj #[]) := tbh_sx nTB hT1 at1 x9 _ m2
      have htw : H9 tw = some (.lam lamQ) := tbh_sx nTB hT1 at1 x9 _ m4
      refine ⟨t, rfl, ⟨_, SqT.of e9⟩, for_tup (xs := [.ref S, .ref R]) (fun q σ H' => ∃ (v4 v5 v6 v7 : Option V), σ = [some (.ref a), some (.ref p), some (.int (0 + (i : Int))), some (.ref S), v4, v5, v6, v7] ∧ Same H9 H') ⟨v4, v5, v6, v7, rfl, Same.refl _⟩ ?_ ?_ ?_⟩
      · rintro q σ H' _ ⟨v4, v5, v6, v7, rfl, sm⟩
        exact sm.sqT (SqT.of e9)
      · rintro q xv σ Ha hxv ⟨v4, v5, v6, v7, rfl, sm⟩
        obtain ⟨W, q1, q2, rfl, eW, h1, h2⟩ : ∃ (W : Addr) (q1 q2 : Sh3), xv = .ref W ∧ H9 W = some (.lst [.ref q1.1, .ref q2.1]) ∧ ShJ K H9 q1.1 q1.2.1 q1.2.2 ∧ ShJ K H9 q2.1 q2.2.1 q2.2.2 := by
          obtain ⟨y1, y2, rfl⟩ := two_of Ll
          have g1 := aL9 y1 List.mem_cons_self
          have g2 := aL9 y2 (List.mem_cons_of_mem _ List.mem_cons_self)
          have hq : q = 0 ∨ q = 1 := by
            have := (List.getElem?_eq_some_iff.mp hxv).1
            simp at this; omega
          rcases hq with rfl | rfl
          · cases hxv
            exact ⟨S, y1, y2, rfl, eS9, g1, g2⟩
          · cases hxv
            exact ⟨R, y2, y1, rfl, eR9, g2, g1⟩
        refine ⟨W, _, rfl, SqL.of (sm _ _ eW), rfl, _, _, rfl, _, _, rfl, rfl, ?_⟩
        have g1 := h1.same sm
        have g2 := h2.same sm
        have sw := dataJ_shw g1 g2
        refine ⟨_, rfl, _, rfl, ?_⟩
        dsimp only [tNil]
        refine lawJoin_of g1 g2 rfl fun du Hb sb dv => ?_
        have s9b := sm.trans sb
        refine ⟨_, rfl, (by decide), (by decide), for_range (lo := 0) (n := 2) (fun z σ H' => ∃ v7 : Option V, σ = [some (.ref a), some (.ref p), some (.int (0 + (i : Int))), some (.ref S), some (.ref q1.1), some (.ref q2.1), some du, v7] ∧ Same Hb H') ⟨v7, rfl, Same.refl _⟩ ?_ ?_⟩
        · rintro z σ Hc hz ⟨v7, rfl, sc⟩
          have s9c := s9b.trans sc
          refine ⟨s9c _ _ htw, [.ref q1.1, .ref q2.1], rfl, fun g0 Hd outer sd smd hn1 hn2 clo => told_of (dataJ q1.2.1 q2.2.1 q1.2.2 q2.2.2) clo (fun Q' E' hQ hE => ⟨_, rfl, _, rfl, by dsimp only [tNil]; exact join_spc (h1.same (s9c.trans smd)) (h2.same (s9c.trans smd)) ((s9c.trans smd) _ _ htc) ((s9c.trans smd) _ _ htj) Wn Wt xn xt hts hQ hE rfl⟩) fun v He se dp => ?_⟩
          refine rRepr_shw dp sw ?_
          have sce := (sc.trans smd).trans se
          refine ⟨_, rfl, rRepr_shw (dv.same sce).dp sw ?_⟩
          refine ⟨rfl, _, rfl, iteNS rfl ?_⟩
          exact ⟨_, rfl, sce⟩
        · rintro σ Hc ⟨v7, rfl, sc⟩
          exact ⟨_, _, _, _, rfl, s9b.trans sc⟩
      · rintro σ Ha ⟨v4, v5, v6, v7, rfl, sm⟩
        exact ⟨_, _, _, _, _, _, rfl, x9.trans (SameX.of sm), P9.same sm⟩
    · rintro σ H' ⟨v2, v3, v4, v5, v6, v7, rfl, sx, Pn⟩
      exact k H' fun b o e => sx b o (ne_of_none e hp) (s1 _ _ e)
end
end KW

set_option maxHeartbeats 4000000
namespace KW
open PySem L2
theorem all_mk {l : PySem.W.OpenLaw} {w : World} {K : PySem.W.Frag} {h : Heap} {mg : Str → Option Value} {fa f_common c_common f_corners c_corners f_join c_join f__law_mixed c__law_mixed f__law_take c__law_take f__law_corners c__law_corners f__law_any c__law_any f__law_windows c__law_windows f__law_word c__law_word f__law_told c__law_told f__law_join c__law_join f__law_two c__law_two f__law_edge c__law_edge f__law_tied c__law_tied f_law c_law tb_common tb_join tb_law : Addr} {mean : ExcName → Option Value} {mb : Str → Option Value} {q : Program} {loose : List Str}
    {od_common an_common : Option Addr} {oc_common kV_common doc_common pm_common ct_common : Value} {sl_common : Array (Option Value)} {od_corners an_corners : Option Addr} {oc_corners kV_corners doc_corners pm_corners ct_corners : Value} {sl_corners : Array (Option Value)} {od_join an_join : Option Addr} {oc_join kV_join doc_join pm_join ct_join : Value} {sl_join : Array (Option Value)} {od__law_mixed an__law_mixed : Option Addr} {oc__law_mixed kV__law_mixed doc__law_mixed pm__law_mixed ct__law_mixed : Value} {sl__law_mixed : Array (Option Value)} {od__law_take an__law_take : Option Addr} {oc__law_take kV__law_take doc__law_take pm__law_take ct__law_take : Value} {sl__law_take : Array (Option Value)} {od__law_corners an__law_corners : Option Addr} {oc__law_corners kV__law_corners doc__law_corners pm__law_corners ct__law_corners : Value} {sl__law_corners : Array (Option Value)} {od__law_any an__law_any : Option Addr} {oc__law_any kV__law_any doc__law_any pm__law_any ct__law_any : Value} {sl__law_any : Array (Option Value)} {od__law_windows an__law_windows : Option Addr} {oc__law_windows kV__law_windows doc__law_windows pm__law_windows ct__law_windows : Value} {sl__law_windows : Array (Option Value)} {od__law_word an__law_word : Option Addr} {oc__law_word kV__law_word doc__law_word pm__law_word ct__law_word : Value} {sl__law_word : Array (Option Value)} {od__law_told an__law_told : Option Addr} {oc__law_told kV__law_told doc__law_told pm__law_told ct__law_told : Value} {sl__law_told : Array (Option Value)} {od__law_join an__law_join : Option Addr} {oc__law_join kV__law_join doc__law_join pm__law_join ct__law_join : Value} {sl__law_join : Array (Option Value)} {od__law_two an__law_two : Option Addr} {oc__law_two kV__law_two doc__law_two pm__law_two ct__law_two : Value} {sl__law_two : Array (Option Value)} {od__law_edge an__law_edge : Option Addr} {oc__law_edge kV__law_edge doc__law_edge pm__law_edge ct__law_edge : Value} {sl__law_edge : Array (Option Value)} {od__law_tied an__law_tied : Option Addr} {oc__law_tied kV__law_tied doc__law_tied pm__law_tied ct__law_tied : Value} {sl__law_tied : Array (Option Value)} {od_law an_law : Option Addr} {oc_law kV_law doc_law pm_law ct_law : Value} {sl_law : Array (Option Value)}
    {oe_common : Option Addr} {vs_common : Array Value} {sk_common : Array (Option Value)} {fi_common : Str} {t1_common t2_common t3_common : Tok} {fl_common tx_common : Int} {in_common : Bool} {oe_join : Option Addr} {vs_join : Array Value} {sk_join : Array (Option Value)} {fi_join : Str} {t1_join t2_join t3_join : Tok} {fl_join tx_join : Int} {in_join : Bool} {oe_law : Option Addr} {vs_law : Array Value} {sk_law : Array (Option Value)} {fi_law : Str} {t1_law t2_law t3_law : Tok} {fl_law tx_law : Int} {in_law : Bool}
    (X : K.In h) (Tp : PyProof.Rows.Top q loose mean mg mb h) (hfa : mg "law" = some (.ref fa))
    (a_common : PySem.W.nsIn K mainGlobals "common" = some (some (.ref f_common))) (l_common : K.lookup f_common = some ⟨oc_common, od_common, .func (PySem.W.fnOf "common" "common" (defArgs s_common) (defBody s_common) (defScope s_common) .none kV_common doc_common pm_common an_common (.ref c_common) ct_common), sl_common⟩) (d_common : PySem.W.codeIn K (.ref c_common) "common" = true)
    (a_corners : PySem.W.nsIn K mainGlobals "corners" = some (some (.ref f_corners))) (l_corners : K.lookup f_corners = some ⟨oc_corners, od_corners, .func (PySem.W.fnOf "corners" "corners" (defArgs s_corners) (defBody s_corners) (defScope s_corners) .none kV_corners doc_corners pm_corners an_corners (.ref c_corners) ct_corners), sl_corners⟩) (d_corners : PySem.W.codeIn K (.ref c_corners) "corners" = true)
    (a_join : PySem.W.nsIn K mainGlobals "join" = some (some (.ref f_join))) (l_join : K.lookup f_join = some ⟨oc_join, od_join, .func (PySem.W.fnOf "join" "join" (defArgs s_join) (defBody s_join) (defScope s_join) .none kV_join doc_join pm_join an_join (.ref c_join) ct_join), sl_join⟩) (d_join : PySem.W.codeIn K (.ref c_join) "join" = true)
    (a__law_mixed : PySem.W.nsIn K mainGlobals "_law_mixed" = some (some (.ref f__law_mixed))) (l__law_mixed : K.lookup f__law_mixed = some ⟨oc__law_mixed, od__law_mixed, .func (PySem.W.fnOf "_law_mixed" "_law_mixed" (defArgs s__law_mixed) (defBody s__law_mixed) (defScope s__law_mixed) .none kV__law_mixed doc__law_mixed pm__law_mixed an__law_mixed (.ref c__law_mixed) ct__law_mixed), sl__law_mixed⟩) (d__law_mixed : PySem.W.codeIn K (.ref c__law_mixed) "_law_mixed" = true)
    (a__law_take : PySem.W.nsIn K mainGlobals "_law_take" = some (some (.ref f__law_take))) (l__law_take : K.lookup f__law_take = some ⟨oc__law_take, od__law_take, .func (PySem.W.fnOf "_law_take" "_law_take" (defArgs s__law_take) (defBody s__law_take) (defScope s__law_take) .none kV__law_take doc__law_take pm__law_take an__law_take (.ref c__law_take) ct__law_take), sl__law_take⟩) (d__law_take : PySem.W.codeIn K (.ref c__law_take) "_law_take" = true)
    (a__law_corners : PySem.W.nsIn K mainGlobals "_law_corners" = some (some (.ref f__law_corners))) (l__law_corners : K.lookup f__law_corners = some ⟨oc__law_corners, od__law_corners, .func (PySem.W.fnOf "_law_corners" "_law_corners" (defArgs s__law_corners) (defBody s__law_corners) (defScope s__law_corners) .none kV__law_corners doc__law_corners pm__law_corners an__law_corners (.ref c__law_corners) ct__law_corners), sl__law_corners⟩) (d__law_corners : PySem.W.codeIn K (.ref c__law_corners) "_law_corners" = true)
    (a__law_any : PySem.W.nsIn K mainGlobals "_law_any" = some (some (.ref f__law_any))) (l__law_any : K.lookup f__law_any = some ⟨oc__law_any, od__law_any, .func (PySem.W.fnOf "_law_any" "_law_any" (defArgs s__law_any) (defBody s__law_any) (defScope s__law_any) .none kV__law_any doc__law_any pm__law_any an__law_any (.ref c__law_any) ct__law_any), sl__law_any⟩) (d__law_any : PySem.W.codeIn K (.ref c__law_any) "_law_any" = true)
    (a__law_windows : PySem.W.nsIn K mainGlobals "_law_windows" = some (some (.ref f__law_windows))) (l__law_windows : K.lookup f__law_windows = some ⟨oc__law_windows, od__law_windows, .func (PySem.W.fnOf "_law_windows" "_law_windows" (defArgs s__law_windows) (defBody s__law_windows) (defScope s__law_windows) .none kV__law_windows doc__law_windows pm__law_windows an__law_windows (.ref c__law_windows) ct__law_windows), sl__law_windows⟩) (d__law_windows : PySem.W.codeIn K (.ref c__law_windows) "_law_windows" = true)
    (a__law_word : PySem.W.nsIn K mainGlobals "_law_word" = some (some (.ref f__law_word))) (l__law_word : K.lookup f__law_word = some ⟨oc__law_word, od__law_word, .func (PySem.W.fnOf "_law_word" "_law_word" (defArgs s__law_word) (defBody s__law_word) (defScope s__law_word) .none kV__law_word doc__law_word pm__law_word an__law_word (.ref c__law_word) ct__law_word), sl__law_word⟩) (d__law_word : PySem.W.codeIn K (.ref c__law_word) "_law_word" = true)
    (a__law_told : PySem.W.nsIn K mainGlobals "_law_told" = some (some (.ref f__law_told))) (l__law_told : K.lookup f__law_told = some ⟨oc__law_told, od__law_told, .func (PySem.W.fnOf "_law_told" "_law_told" (defArgs s__law_told) (defBody s__law_told) (defScope s__law_told) .none kV__law_told doc__law_told pm__law_told an__law_told (.ref c__law_told) ct__law_told), sl__law_told⟩) (d__law_told : PySem.W.codeIn K (.ref c__law_told) "_law_told" = true)
    (a__law_join : PySem.W.nsIn K mainGlobals "_law_join" = some (some (.ref f__law_join))) (l__law_join : K.lookup f__law_join = some ⟨oc__law_join, od__law_join, .func (PySem.W.fnOf "_law_join" "_law_join" (defArgs s__law_join) (defBody s__law_join) (defScope s__law_join) .none kV__law_join doc__law_join pm__law_join an__law_join (.ref c__law_join) ct__law_join), sl__law_join⟩) (d__law_join : PySem.W.codeIn K (.ref c__law_join) "_law_join" = true)
    (a__law_two : PySem.W.nsIn K mainGlobals "_law_two" = some (some (.ref f__law_two))) (l__law_two : K.lookup f__law_two = some ⟨oc__law_two, od__law_two, .func (PySem.W.fnOf "_law_two" "_law_two" (defArgs s__law_two) (defBody s__law_two) (defScope s__law_two) .none kV__law_two doc__law_two pm__law_two an__law_two (.ref c__law_two) ct__law_two), sl__law_two⟩) (d__law_two : PySem.W.codeIn K (.ref c__law_two) "_law_two" = true)
    (a__law_edge : PySem.W.nsIn K mainGlobals "_law_edge" = some (some (.ref f__law_edge))) (l__law_edge : K.lookup f__law_edge = some ⟨oc__law_edge, od__law_edge, .func (PySem.W.fnOf "_law_edge" "_law_edge" (defArgs s__law_edge) (defBody s__law_edge) (defScope s__law_edge) .none kV__law_edge doc__law_edge pm__law_edge an__law_edge (.ref c__law_edge) ct__law_edge), sl__law_edge⟩) (d__law_edge : PySem.W.codeIn K (.ref c__law_edge) "_law_edge" = true)
    (a__law_tied : PySem.W.nsIn K mainGlobals "_law_tied" = some (some (.ref f__law_tied))) (l__law_tied : K.lookup f__law_tied = some ⟨oc__law_tied, od__law_tied, .func (PySem.W.fnOf "_law_tied" "_law_tied" (defArgs s__law_tied) (defBody s__law_tied) (defScope s__law_tied) .none kV__law_tied doc__law_tied pm__law_tied an__law_tied (.ref c__law_tied) ct__law_tied), sl__law_tied⟩) (d__law_tied : PySem.W.codeIn K (.ref c__law_tied) "_law_tied" = true)
    (a_law : PySem.W.nsIn K mainGlobals "law" = some (some (.ref f_law))) (l_law : K.lookup f_law = some ⟨oc_law, od_law, .func (PySem.W.fnOf "law" "law" (defArgs s_law) (defBody s_law) (defScope s_law) .none kV_law doc_law pm_law an_law (.ref c_law) ct_law), sl_law⟩) (d_law : PySem.W.codeIn K (.ref c_law) "law" = true)
    (lc_common : K.lookup c_common = some ⟨.type "code", oe_common, .fields vs_common, sk_common⟩) (e11_common : vs_common[11]? = some (.ref tb_common)) (e18_common : vs_common.getD 18 .none = .str fi_common t1_common) (e7_common : vs_common.getD 7 .none = .int fl_common t2_common) (e9_common : vs_common.getD 9 .none = .bool in_common) (e10_common : vs_common.getD 10 .none = .int tx_common t3_common) (rc_common : ((PyProof.Rows.recsOf q).any fun d => d.name == ("common" : Str)) = true) (ne_common : c_common ≠ tb_common)
    (lc_join : K.lookup c_join = some ⟨.type "code", oe_join, .fields vs_join, sk_join⟩) (e11_join : vs_join[11]? = some (.ref tb_join)) (e18_join : vs_join.getD 18 .none = .str fi_join t1_join) (e7_join : vs_join.getD 7 .none = .int fl_join t2_join) (e9_join : vs_join.getD 9 .none = .bool in_join) (e10_join : vs_join.getD 10 .none = .int tx_join t3_join) (rc_join : ((PyProof.Rows.recsOf q).any fun d => d.name == ("join" : Str)) = true) (ne_join : c_join ≠ tb_join)
    (lc_law : K.lookup c_law = some ⟨.type "code", oe_law, .fields vs_law, sk_law⟩) (e11_law : vs_law[11]? = some (.ref tb_law)) (e18_law : vs_law.getD 18 .none = .str fi_law t1_law) (e7_law : vs_law.getD 7 .none = .int fl_law t2_law) (e9_law : vs_law.getD 9 .none = .bool in_law) (e10_law : vs_law.getD 10 .none = .int tx_law t3_law) (rc_law : ((PyProof.Rows.recsOf q).any fun d => d.name == ("law" : Str)) = true) (ne_law : c_law ≠ tb_law)
    (n_common : f_common ∉ [tb_common, tb_join, tb_law]) (m_common : c_common ∉ [tb_common, tb_join, tb_law])
    (n_corners : f_corners ∉ [tb_common, tb_join, tb_law]) (m_corners : c_corners ∉ [tb_common, tb_join, tb_law])
    (n_join : f_join ∉ [tb_common, tb_join, tb_law]) (m_join : c_join ∉ [tb_common, tb_join, tb_law])
    (n__law_mixed : f__law_mixed ∉ [tb_common, tb_join, tb_law]) (m__law_mixed : c__law_mixed ∉ [tb_common, tb_join, tb_law])
    (n__law_take : f__law_take ∉ [tb_common, tb_join, tb_law]) (m__law_take : c__law_take ∉ [tb_common, tb_join, tb_law])
    (n__law_corners : f__law_corners ∉ [tb_common, tb_join, tb_law]) (m__law_corners : c__law_corners ∉ [tb_common, tb_join, tb_law])
    (n__law_any : f__law_any ∉ [tb_common, tb_join, tb_law]) (m__law_any : c__law_any ∉ [tb_common, tb_join, tb_law])
    (n__law_windows : f__law_windows ∉ [tb_common, tb_join, tb_law]) (m__law_windows : c__law_windows ∉ [tb_common, tb_join, tb_law])
    (n__law_word : f__law_word ∉ [tb_common, tb_join, tb_law]) (m__law_word : c__law_word ∉ [tb_common, tb_join, tb_law])
    (n__law_told : f__law_told ∉ [tb_common, tb_join, tb_law]) (m__law_told : c__law_told ∉ [tb_common, tb_join, tb_law])
    (n__law_join : f__law_join ∉ [tb_common, tb_join, tb_law]) (m__law_join : c__law_join ∉ [tb_common, tb_join, tb_law])
    (n__law_two : f__law_two ∉ [tb_common, tb_join, tb_law]) (m__law_two : c__law_two ∉ [tb_common, tb_join, tb_law])
    (n__law_edge : f__law_edge ∉ [tb_common, tb_join, tb_law]) (m__law_edge : c__law_edge ∉ [tb_common, tb_join, tb_law])
    (n__law_tied : f__law_tied ∉ [tb_common, tb_join, tb_law]) (m__law_tied : c__law_tied ∉ [tb_common, tb_join, tb_law])
    (n_law : f_law ∉ [tb_common, tb_join, tb_law]) (m_law : c_law ∉ [tb_common, tb_join, tb_law])
    {D_NoShape : Addr} (a_NoShape : PySem.W.nsIn K mainGlobals "NoShape" = some (some (.ref D_NoShape)))
    {D_NoFace : Addr} (a_NoFace : PySem.W.nsIn K mainGlobals "NoFace" = some (some (.ref D_NoFace)))
    {D_NoPiece : Addr} (a_NoPiece : PySem.W.nsIn K mainGlobals "NoPiece" = some (some (.ref D_NoPiece)))
    {D_NoCorner : Addr} (a_NoCorner : PySem.W.nsIn K mainGlobals "NoCorner" = some (some (.ref D_NoCorner)))
    {D_NotClosed : Addr} (a_NotClosed : PySem.W.nsIn K mainGlobals "NotClosed" = some (some (.ref D_NotClosed)))
    {D_TooMany : Addr} (a_TooMany : PySem.W.nsIn K mainGlobals "TooMany" = some (some (.ref D_TooMany)))
    {D_NoOrder : Addr} (a_NoOrder : PySem.W.nsIn K mainGlobals "NoOrder" = some (some (.ref D_NoOrder)))
    {D_NoWish : Addr} (a_NoWish : PySem.W.nsIn K mainGlobals "NoWish" = some (some (.ref D_NoWish)))
    {D_NoFit : Addr} (a_NoFit : PySem.W.nsIn K mainGlobals "NoFit" = some (some (.ref D_NoFit)))
    {D_NoShrink : Addr} (a_NoShrink : PySem.W.nsIn K mainGlobals "NoShrink" = some (some (.ref D_NoShrink)))
    {D_NoText : Addr} (a_NoText : PySem.W.nsIn K mainGlobals "NoText" = some (some (.ref D_NoText)))
    {D_NoRow : Addr} (a_NoRow : PySem.W.nsIn K mainGlobals "NoRow" = some (some (.ref D_NoRow)))
    {D_NoName : Addr} (a_NoName : PySem.W.nsIn K mainGlobals "NoName" = some (some (.ref D_NoName)))
    {D_SideError : Addr} (a_SideError : PySem.W.nsIn K mainGlobals "SideError" = some (some (.ref D_SideError)))
    (xc_NoCorner : PySem.W.excIn (cutK K [tb_common, tb_join, tb_law]) D_NoCorner [Value.type "ValueError", Value.type "Exception", Value.type "BaseException", Value.type "object"] "ValueError.__new__" = true)
    (ga_NoCorner : PySem.W.findIn (cutK K [tb_common, tb_join, tb_law]) (.ref D_NoCorner) "__getattribute__" = some (some (.builtin "BaseException.__getattribute__")))
    (gh_NoCorner : PySem.W.findIn (cutK K [tb_common, tb_join, tb_law]) (.ref D_NoCorner) "__getattr__" = some none)
    (cl_NoCorner : PySem.W.findIn (cutK K [tb_common, tb_join, tb_law]) (.ref D_NoCorner) "__class__" = some (some (.builtin "object.__class__")))
    (ko_NoCorner_NoShape : PySem.W.kitOne (cutK K [tb_common, tb_join, tb_law]) (.ref D_NoCorner) (.ref D_NoShape) = some false)
    (ko_NoCorner_NoFace : PySem.W.kitOne (cutK K [tb_common, tb_join, tb_law]) (.ref D_NoCorner) (.ref D_NoFace) = some false)
    (ko_NoCorner_NoPiece : PySem.W.kitOne (cutK K [tb_common, tb_join, tb_law]) (.ref D_NoCorner) (.ref D_NoPiece) = some false)
    (ko_NoCorner_NoCorner : PySem.W.kitOne (cutK K [tb_common, tb_join, tb_law]) (.ref D_NoCorner) (.ref D_NoCorner) = some true)
    (ko_NoCorner_NotClosed : PySem.W.kitOne (cutK K [tb_common, tb_join, tb_law]) (.ref D_NoCorner) (.ref D_NotClosed) = some false)
    (ko_NoCorner_TooMany : PySem.W.kitOne (cutK K [tb_common, tb_join, tb_law]) (.ref D_NoCorner) (.ref D_TooMany) = some false)
    (ka_NoCorner : PySem.W.kitAny (cutK K [tb_common, tb_join, tb_law]) (.ref D_NoCorner) [.ref D_NoOrder, .ref D_NoWish, .ref D_NoFit, .ref D_NoShrink, .ref D_NoText, .ref D_NoRow, .ref D_NoName] = some false)
    (kv_NoCorner : PySem.W.kitOne (cutK K [tb_common, tb_join, tb_law]) (.ref D_NoCorner) (.type "ValueError") = some true)
    (ex_NoCorner : PySem.W.exmOne (cutK K [tb_common, tb_join, tb_law]) (.ref D_NoCorner) (.ref D_SideError) = some true)
    (xc_TooMany : PySem.W.excIn (cutK K [tb_common, tb_join, tb_law]) D_TooMany [Value.type "ValueError", Value.type "Exception", Value.type "BaseException", Value.type "object"] "ValueError.__new__" = true)
    (ga_TooMany : PySem.W.findIn (cutK K [tb_common, tb_join, tb_law]) (.ref D_TooMany) "__getattribute__" = some (some (.builtin "BaseException.__getattribute__")))
    (gh_TooMany : PySem.W.findIn (cutK K [tb_common, tb_join, tb_law]) (.ref D_TooMany) "__getattr__" = some none)
    (cl_TooMany : PySem.W.findIn (cutK K [tb_common, tb_join, tb_law]) (.ref D_TooMany) "__class__" = some (some (.builtin "object.__class__")))
    (ko_TooMany_NoShape : PySem.W.kitOne (cutK K [tb_common, tb_join, tb_law]) (.ref D_TooMany) (.ref D_NoShape) = some false)
    (ko_TooMany_NoFace : PySem.W.kitOne (cutK K [tb_common, tb_join, tb_law]) (.ref D_TooMany) (.ref D_NoFace) = some false)
    (ko_TooMany_NoPiece : PySem.W.kitOne (cutK K [tb_common, tb_join, tb_law]) (.ref D_TooMany) (.ref D_NoPiece) = some false)
    (ko_TooMany_NoCorner : PySem.W.kitOne (cutK K [tb_common, tb_join, tb_law]) (.ref D_TooMany) (.ref D_NoCorner) = some false)
    (ko_TooMany_NotClosed : PySem.W.kitOne (cutK K [tb_common, tb_join, tb_law]) (.ref D_TooMany) (.ref D_NotClosed) = some false)
    (ko_TooMany_TooMany : PySem.W.kitOne (cutK K [tb_common, tb_join, tb_law]) (.ref D_TooMany) (.ref D_TooMany) = some true)
    (ka_TooMany : PySem.W.kitAny (cutK K [tb_common, tb_join, tb_law]) (.ref D_TooMany) [.ref D_NoOrder, .ref D_NoWish, .ref D_NoFit, .ref D_NoShrink, .ref D_NoText, .ref D_NoRow, .ref D_NoName] = some false)
    (kv_TooMany : PySem.W.kitOne (cutK K [tb_common, tb_join, tb_law]) (.ref D_TooMany) (.type "ValueError") = some true)
    (ex_TooMany : PySem.W.exmOne (cutK K [tb_common, tb_join, tb_law]) (.ref D_TooMany) (.ref D_SideError) = some true)
    (ks_tuple : PySem.W.kitOne (cutK K [tb_common, tb_join, tb_law]) (.type "tuple") (.type "str") = some false)
    {tkM : Tok} (a_MP : PySem.W.nsIn K mainGlobals "MOST_PIECES" = some (some (.int 40 tkM)))
    {tkC : Tok} (a_MC : PySem.W.nsIn K mainGlobals "MOST_CORNERS" = some (some (.int 6 tkC)))
    (ndS : ([tb_common, tb_join, tb_law] : List Addr).Nodup)

    (z_range : PySem.W.nsIn K mainGlobals "range" = some none)
    (z_len : PySem.W.nsIn K mainGlobals "len" = some none)
    (z_tuple : PySem.W.nsIn K mainGlobals "tuple" = some none)
    (z_sorted : PySem.W.nsIn K mainGlobals "sorted" = some none)
    (z_list : PySem.W.nsIn K mainGlobals "list" = some none)
    (z_set : PySem.W.nsIn K mainGlobals "set" = some none)
    (z_int : PySem.W.nsIn K mainGlobals "int" = some none)
    (z_abs : PySem.W.nsIn K mainGlobals "abs" = some none)
    (z_repr : PySem.W.nsIn K mainGlobals "repr" = some none)
    (z_isinstance : PySem.W.nsIn K mainGlobals "isinstance" = some none)
    (z_str : PySem.W.nsIn K mainGlobals "str" = some none)
    (z_ValueError : PySem.W.nsIn K mainGlobals "ValueError" = some none)
    : ∃ (K' : PySem.W.Frag) (TB : List (Addr × HO)) (fd : FuncData), (∀ a o, K'.lookup a = some o → K.lookup a = some o) ∧ (TB.map (·.1)).Nodup ∧ (∀ p ∈ TB, K'.lookup p.1 = none) ∧ (∀ p ∈ TB, (∃ c, h.TableAt c p.1 #[]) ∧ TabLike p.1 p.2) ∧
        (∀ (s : Shared) (u : Value), BindsTo s fd ⟨[u], []⟩ [("_law_script", u)]) ∧ ∀ base : Heap, K'.In base → base.Ns mainGlobals mg → BmK base mg → FnOk l.prog w K' mg base CX0 14 fa fd ["_law_script"] (spLaw K' TB) := by
  have G := Tp.g
  have e := hfa.symm.trans (PySem.W.mg_of X G a_law)
  cases e
  have F_common := funC_mk (S := [tb_common, tb_join, tb_law]) (st := s_common) l_common d_common n_common m_common
  have b_common := F_common.binds (ps := P_common) fun _ _ _ _ _ _ us hl => match us, hl with | [_, _], _ => rfl
  have g_common := PySem.W.mg_of X G a_common
  have F_corners := funC_mk (S := [tb_common, tb_join, tb_law]) (st := s_corners) l_corners d_corners n_corners m_corners
  have b_corners := F_corners.binds (ps := P_corners) fun _ _ _ _ _ _ us hl => match us, hl with | [_], _ => rfl
  have g_corners := PySem.W.mg_of X G a_corners
  have F_join := funC_mk (S := [tb_common, tb_join, tb_law]) (st := s_join) l_join d_join n_join m_join
  have b_join := F_join.binds (ps := P_join) fun _ _ _ _ _ _ us hl => match us, hl with | [_, _], _ => rfl
  have g_join := PySem.W.mg_of X G a_join
  have F__law_mixed := funC_mk (S := [tb_common, tb_join, tb_law]) (st := s__law_mixed) l__law_mixed d__law_mixed n__law_mixed m__law_mixed
  have b__law_mixed := F__law_mixed.binds (ps := P__law_mixed) fun _ _ _ _ _ _ us hl => match us, hl with | [_, _], _ => rfl
  have g__law_mixed := PySem.W.mg_of X G a__law_mixed
  have F__law_take := funC_mk (S := [tb_common, tb_join, tb_law]) (st := s__law_take) l__law_take d__law_take n__law_take m__law_take
  have b__law_take := F__law_take.binds (ps := P__law_take) fun _ _ _ _ _ _ us hl => match us, hl with | [_, _], _ => rfl
  have g__law_take := PySem.W.mg_of X G a__law_take
  have F__law_corners := funC_mk (S := [tb_common, tb_join, tb_law]) (st := s__law_corners) l__law_corners d__law_corners n__law_corners m__law_corners
  have b__law_corners := F__law_corners.binds (ps := P__law_corners) fun _ _ _ _ _ _ us hl => match us, hl with | [_, _], _ => rfl
  have g__law_corners := PySem.W.mg_of X G a__law_corners
  have F__law_any := funC_mk (S := [tb_common, tb_join, tb_law]) (st := s__law_any) l__law_any d__law_any n__law_any m__law_any
  have b__law_any := F__law_any.binds (ps := P__law_any) fun _ _ _ _ _ _ us hl => match us, hl with | [_, _, _, _], _ => rfl
  have g__law_any := PySem.W.mg_of X G a__law_any
  have F__law_windows := funC_mk (S := [tb_common, tb_join, tb_law]) (st := s__law_windows) l__law_windows d__law_windows n__law_windows m__law_windows
  have b__law_windows := F__law_windows.binds (ps := P__law_windows) fun _ _ _ _ _ _ us hl => match us, hl with | [_, _, _], _ => rfl
  have g__law_windows := PySem.W.mg_of X G a__law_windows
  have F__law_word := funC_mk (S := [tb_common, tb_join, tb_law]) (st := s__law_word) l__law_word d__law_word n__law_word m__law_word
  have b__law_word := F__law_word.binds (ps := P__law_word) fun _ _ _ _ _ _ us hl => match us, hl with | [_], _ => rfl
  have g__law_word := PySem.W.mg_of X G a__law_word
  have F__law_told := funC_mk (S := [tb_common, tb_join, tb_law]) (st := s__law_told) l__law_told d__law_told n__law_told m__law_told
  have b__law_told := F__law_told.binds (ps := P__law_told) fun _ _ _ _ _ _ us hl => match us, hl with | [_], _ => rfl
  have g__law_told := PySem.W.mg_of X G a__law_told
  have F__law_join := funC_mk (S := [tb_common, tb_join, tb_law]) (st := s__law_join) l__law_join d__law_join n__law_join m__law_join
  have b__law_join := F__law_join.binds (ps := P__law_join) fun _ _ _ _ _ _ us hl => match us, hl with | [_, _], _ => rfl
  have g__law_join := PySem.W.mg_of X G a__law_join
  have F__law_two := funC_mk (S := [tb_common, tb_join, tb_law]) (st := s__law_two) l__law_two d__law_two n__law_two m__law_two
  have b__law_two := F__law_two.binds (ps := P__law_two) fun _ _ _ _ _ _ us hl => match us, hl with | [_], _ => rfl
  have g__law_two := PySem.W.mg_of X G a__law_two
  have F__law_edge := funC_mk (S := [tb_common, tb_join, tb_law]) (st := s__law_edge) l__law_edge d__law_edge n__law_edge m__law_edge
  have b__law_edge := F__law_edge.binds (ps := P__law_edge) fun _ _ _ _ _ _ us hl => match us, hl with | [_], _ => rfl
  have g__law_edge := PySem.W.mg_of X G a__law_edge
  have F__law_tied := funC_mk (S := [tb_common, tb_join, tb_law]) (st := s__law_tied) l__law_tied d__law_tied n__law_tied m__law_tied
  have b__law_tied := F__law_tied.binds (ps := P__law_tied) fun _ _ _ _ _ _ us hl => match us, hl with | [_, _], _ => rfl
  have g__law_tied := PySem.W.mg_of X G a__law_tied
  have F_law := funC_mk (S := [tb_common, tb_join, tb_law]) (st := s_law) l_law d_law n_law m_law
  have b_law := F_law.binds (ps := P_law) fun _ _ _ _ _ _ us hl => match us, hl with | [_], _ => rfl
  have g_law := PySem.W.mg_of X G a_law
  have k_common : CodeK (cutK K [tb_common, tb_join, tb_law]) c_common tb_common := codeK_mk lc_common m_common ne_common e11_common e18_common e7_common e9_common e10_common
  have k_join : CodeK (cutK K [tb_common, tb_join, tb_law]) c_join tb_join := codeK_mk lc_join m_join ne_join e11_join e18_join e7_join e9_join e10_join
  have k_law : CodeK (cutK K [tb_common, tb_join, tb_law]) c_law tb_law := codeK_mk lc_law m_law ne_law e11_law e18_law e7_law e9_law e10_law
  refine ⟨cutK K [tb_common, tb_join, tb_law], [(tb_common, tbO tb_common #[]), (tb_join, tbO tb_join #[]), (tb_law, HO.lam lamQ)], PySem.W.fnOf "law" "law" (defArgs s_law) (defBody s_law) (defScope s_law) .none kV_law doc_law pm_law an_law (.ref c_law) ct_law, fun a o e => cutK_of e, ndS, fun p hp => ?_, fun p hp => ?_, fun s u => .of_eq rfl, fun base _ _ bmk => ?_⟩
  · refine cutK_none ?_ K
    have := List.mem_map_of_mem (f := (·.1)) hp
    exact this
  · simp only [List.mem_cons, List.not_mem_nil, or_false] at hp
    rcases hp with rfl | rfl | rfl
    · exact ⟨⟨c_common, tab_of Tp X rc_common g_common l_common rfl lc_common e11_common⟩, .inl rfl⟩
    · exact ⟨⟨c_join, tab_of Tp X rc_join g_join l_join rfl lc_join e11_join⟩, .inl rfl⟩
    · exact ⟨⟨c_law, tab_of Tp X rc_law g_law l_law rfl lc_law e11_law⟩, .inr ⟨_, rfl⟩⟩
  have T : Txt base mg := ⟨PySem.W.mg_none_of X G z_range, PySem.W.mg_none_of X G z_len, PySem.W.mg_none_of X G z_tuple, PySem.W.mg_none_of X G z_sorted, PySem.W.mg_none_of X G z_list, PySem.W.mg_none_of X G z_set, PySem.W.mg_none_of X G z_int, PySem.W.mg_none_of X G z_abs, PySem.W.mg_none_of X G z_repr, PySem.W.mg_none_of X G z_isinstance, PySem.W.mg_none_of X G z_str, PySem.W.mg_none_of X G z_ValueError, bmk⟩
  have g_NoShape := PySem.W.mg_of X G a_NoShape
  have g_NoFace := PySem.W.mg_of X G a_NoFace
  have g_NoPiece := PySem.W.mg_of X G a_NoPiece
  have g_NoCorner := PySem.W.mg_of X G a_NoCorner
  have g_NotClosed := PySem.W.mg_of X G a_NotClosed
  have g_TooMany := PySem.W.mg_of X G a_TooMany
  have g_NoOrder := PySem.W.mg_of X G a_NoOrder
  have g_NoWish := PySem.W.mg_of X G a_NoWish
  have g_NoFit := PySem.W.mg_of X G a_NoFit
  have g_NoShrink := PySem.W.mg_of X G a_NoShrink
  have g_NoText := PySem.W.mg_of X G a_NoText
  have g_NoRow := PySem.W.mg_of X G a_NoRow
  have g_NoName := PySem.W.mg_of X G a_NoName
  have g_SideError := PySem.W.mg_of X G a_SideError
  have z_NoCorner : ExcCls _ D_NoCorner := ⟨⟨_, xc_NoCorner⟩, ga_NoCorner, gh_NoCorner, cl_NoCorner⟩
  have w_NoCorner : WordAt _ D_NoCorner [D_NoShape, D_NoFace, D_NoPiece, D_NoCorner, D_NotClosed, D_TooMany] [D_NoOrder, D_NoWish, D_NoFit, D_NoShrink, D_NoText, D_NoRow, D_NoName] 3 := ⟨z_NoCorner, by show 3 < 6; decide, fun i D h => by rcases i with _ | _ | _ | _ | _ | _ | i <;> cases h <;> first | exact ko_NoCorner_NoShape | exact ko_NoCorner_NoFace | exact ko_NoCorner_NoPiece | exact ko_NoCorner_NoCorner | exact ko_NoCorner_NotClosed | exact ko_NoCorner_TooMany, ka_NoCorner, kv_NoCorner⟩
  have z_TooMany : ExcCls _ D_TooMany := ⟨⟨_, xc_TooMany⟩, ga_TooMany, gh_TooMany, cl_TooMany⟩
  have w_TooMany : WordAt _ D_TooMany [D_NoShape, D_NoFace, D_NoPiece, D_NoCorner, D_NotClosed, D_TooMany] [D_NoOrder, D_NoWish, D_NoFit, D_NoShrink, D_NoText, D_NoRow, D_NoName] 5 := ⟨z_TooMany, by show 5 < 6; decide, fun i D h => by rcases i with _ | _ | _ | _ | _ | _ | i <;> cases h <;> first | exact ko_TooMany_NoShape | exact ko_TooMany_NoFace | exact ko_TooMany_NoPiece | exact ko_TooMany_NoCorner | exact ko_TooMany_NotClosed | exact ko_TooMany_TooMany, ka_TooMany, kv_TooMany⟩
  have g_MP := PySem.W.mg_of X G a_MP
  have g_MC := PySem.W.mg_of X G a_MC
  have C_common : Cal l.prog w _ mg base 2 "common" P_common _ := ⟨⟨_, _, ok_common F_common k_common T, g_common, F_common.kp, b_common⟩⟩
  have C_corners : Cal l.prog w _ mg base 2 "corners" P_corners _ := ⟨⟨_, _, ok_corners F_corners T, g_corners, F_corners.kp, b_corners⟩⟩
  have C_join : CalX l.prog w _ mg base 3 "join" P_join _ := ⟨⟨_, _, ok_join F_join k_join T g_NoCorner xc_NoCorner g_TooMany xc_TooMany g_MP g_MC C_corners C_common, g_join, F_join.kp, b_join⟩⟩
  have C__law_mixed : Cal l.prog w _ mg base 1 "_law_mixed" P__law_mixed _ := ⟨⟨_, _, ok__law_mixed F__law_mixed T, g__law_mixed, F__law_mixed.kp, b__law_mixed⟩⟩
  have C__law_take : Cal l.prog w _ mg base 2 "_law_take" P__law_take _ := ⟨⟨_, _, ok__law_take F__law_take T C__law_mixed, g__law_take, F__law_take.kp, b__law_take⟩⟩
  have C__law_corners : Cal l.prog w _ mg base 3 "_law_corners" P__law_corners _ := ⟨⟨_, _, ok__law_corners F__law_corners T C__law_take, g__law_corners, F__law_corners.kp, b__law_corners⟩⟩
  have C__law_any : Cal l.prog w _ mg base 3 "_law_any" P__law_any _ := ⟨⟨_, _, ok__law_any F__law_any T C__law_take, g__law_any, F__law_any.kp, b__law_any⟩⟩
  have C__law_windows : Cal l.prog w _ mg base 2 "_law_windows" P__law_windows _ := ⟨⟨_, _, ok__law_windows F__law_windows T, g__law_windows, F__law_windows.kp, b__law_windows⟩⟩
  have C__law_word : Cal l.prog w _ mg base 1 "_law_word" P__law_word _ := ⟨⟨_, _, ok__law_word F__law_word T g_NoShape g_NoFace g_NoPiece g_NoCorner g_NotClosed g_TooMany g_NoOrder g_NoWish g_NoFit g_NoShrink g_NoText g_NoRow g_NoName, g__law_word, F__law_word.kp, b__law_word⟩⟩
  have C__law_told : CalS l.prog w _ mg base 13 "_law_told" P__law_told _ := ⟨⟨_, _, ok__law_told F__law_told T g_SideError C__law_word, g__law_told, F__law_told.kp, b__law_told⟩⟩
  have C__law_join : Cal l.prog w _ mg base 2 "_law_join" P__law_join _ := ⟨⟨_, _, ok__law_join F__law_join T, g__law_join, F__law_join.kp, b__law_join⟩⟩
  have C__law_two : Cal l.prog w _ mg base 4 "_law_two" P__law_two _ := ⟨⟨_, _, ok__law_two F__law_two T C__law_take C__law_corners C__law_any, g__law_two, F__law_two.kp, b__law_two⟩⟩
  have C__law_edge : Cal l.prog w _ mg base 4 "_law_edge" P__law_edge _ := ⟨⟨_, _, ok__law_edge F__law_edge T C__law_take C__law_windows C__law_corners, g__law_edge, F__law_edge.kp, b__law_edge⟩⟩
  have C__law_tied : Cal l.prog w _ mg base 3 "_law_tied" P__law_tied _ := ⟨⟨_, _, ok__law_tied F__law_tied T C__law_take, g__law_tied, F__law_tied.kp, b__law_tied⟩⟩
  have nTB : ∀ q ∈ [(tb_common, tbO tb_common #[]), (tb_join, tbO tb_join #[]), (tb_law, HO.lam lamQ)], ∀ ys, q.2 ≠ HO.lst ys := (fun q hq ys e => by simp only [List.mem_cons, List.not_mem_nil, or_false] at hq; rcases hq with rfl | rfl | rfl <;> cases e)
  exact ok_law (by simp) (by simp) (by simp) nTB F_law k_law T w_NoCorner w_TooMany ex_NoCorner ex_TooMany ks_tuple C__law_take C__law_two C__law_edge C__law_tied C__law_join C_join C__law_told
end KW
open PySem PySem.W PyProof.Rows
set_option maxRecDepth 100000 in
set_option maxHeartbeats 0 in
theorem PySem.Challenge.cw_wholesides_k33_joins_of_shapes_holds : PySem.Challenge.rw_wholesides_k33_joins_of_shapes.Holds := by
  w_on; o_law; k_head; (case hw => w_witness2)
  k_fill
  refine L2.walk_ofT (l := PySem.Challenge.rw_wholesides_k33_joins_of_shapes) (n := 63) (k := 14) (x := "_law_script") (sp := KW.spLaw) rfl (by decide) rfl ⟨rfl, by decide, by decide, rfl⟩ (fun w h Y => by first | exact PySem.W.kIn_of Y | exact PySem.W.km_in_of Y) ?F (fun K TB H a ns hl hT hS => ⟨a, ns, rfl, hS, hl, hT, fun H' s => ⟨rfl, s.tbH hT⟩⟩)
  case F =>
    intro w mg mb fa h mean KX G hmg
    refine' KW.all_mk KX G hmg ?a_common ?l_common ?d_common ?a_corners ?l_corners ?d_corners ?a_join ?l_join ?d_join ?a__law_mixed ?l__law_mixed ?d__law_mixed ?a__law_take ?l__law_take ?d__law_take ?a__law_corners ?l__law_corners ?d__law_corners ?a__law_any ?l__law_any ?d__law_any ?a__law_windows ?l__law_windows ?d__law_windows ?a__law_word ?l__law_word ?d__law_word ?a__law_told ?l__law_told ?d__law_told ?a__law_join ?l__law_join ?d__law_join ?a__law_two ?l__law_two ?d__law_two ?a__law_edge ?l__law_edge ?d__law_edge ?a__law_tied ?l__law_tied ?d__law_tied ?a_law ?l_law ?d_law ?lc_common ?e11_common ?e18_common ?e7_common ?e9_common ?e10_common ?rc_common ?ne_common ?lc_join ?e11_join ?e18_join ?e7_join ?e9_join ?e10_join ?rc_join ?ne_join ?lc_law ?e11_law ?e18_law ?e7_law ?e9_law ?e10_law ?rc_law ?ne_law ?n_common ?m_common ?n_corners ?m_corners ?n_join ?m_join ?n__law_mixed ?m__law_mixed ?n__law_take ?m__law_take ?n__law_corners ?m__law_corners ?n__law_any ?m__law_any ?n__law_windows ?m__law_windows ?n__law_word ?m__law_word ?n__law_told ?m__law_told ?n__law_join ?m__law_join ?n__law_two ?m__law_two ?n__law_edge ?m__law_edge ?n__law_tied ?m__law_tied ?n_law ?m_law ?a_NoShape ?a_NoFace ?a_NoPiece ?a_NoCorner ?a_NotClosed ?a_TooMany ?a_NoOrder ?a_NoWish ?a_NoFit ?a_NoShrink ?a_NoText ?a_NoRow ?a_NoName ?a_SideError ?xc_NoCorner ?ga_NoCorner ?gh_NoCorner ?cl_NoCorner ?ko_NoCorner_NoShape ?ko_NoCorner_NoFace ?ko_NoCorner_NoPiece ?ko_NoCorner_NoCorner ?ko_NoCorner_NotClosed ?ko_NoCorner_TooMany ?ka_NoCorner ?kv_NoCorner ?ex_NoCorner ?xc_TooMany ?ga_TooMany ?gh_TooMany ?cl_TooMany ?ko_TooMany_NoShape ?ko_TooMany_NoFace ?ko_TooMany_NoPiece ?ko_TooMany_NoCorner ?ko_TooMany_NotClosed ?ko_TooMany_TooMany ?ka_TooMany ?kv_TooMany ?ex_TooMany ?ks_tuple ?a_MP ?a_MC ?ndS ?z_range ?z_len ?z_tuple ?z_sorted ?z_list ?z_set ?z_int ?z_abs ?z_repr ?z_isinstance ?z_str ?z_ValueError
    (case a_common => k_is)
    (case l_common => k_is)
    (case d_common => k_is)
    (case a_corners => k_is)
    (case l_corners => k_is)
    (case d_corners => k_is)
    (case a_join => k_is)
    (case l_join => k_is)
    (case d_join => k_is)
    (case a__law_mixed => k_is)
    (case l__law_mixed => k_is)
    (case d__law_mixed => k_is)
    (case a__law_take => k_is)
    (case l__law_take => k_is)
    (case d__law_take => k_is)
    (case a__law_corners => k_is)
    (case l__law_corners => k_is)
    (case d__law_corners => k_is)
    (case a__law_any => k_is)
    (case l__law_any => k_is)
    (case d__law_any => k_is)
    (case a__law_windows => k_is)
    (case l__law_windows => k_is)
    (case d__law_windows => k_is)
    (case a__law_word => k_is)
    (case l__law_word => k_is)
    (case d__law_word => k_is)
    (case a__law_told => k_is)
    (case l__law_told => k_is)
    (case d__law_told => k_is)
    (case a__law_join => k_is)
    (case l__law_join => k_is)
    (case d__law_join => k_is)
    (case a__law_two => k_is)
    (case l__law_two => k_is)
    (case d__law_two => k_is)
    (case a__law_edge => k_is)
    (case l__law_edge => k_is)
    (case d__law_edge => k_is)
    (case a__law_tied => k_is)
    (case l__law_tied => k_is)
    (case d__law_tied => k_is)
    (case a_law => k_is)
    (case l_law => k_is)
    (case d_law => k_is)
    (case lc_common => k_is)
    (case e11_common => rfl)
    (case e18_common => rfl)
    (case e7_common => rfl)
    (case e9_common => rfl)
    (case e10_common => rfl)
    (case rc_common => first | rfl | decide +kernel)
    (case ne_common => decide)
    (case lc_join => k_is)
    (case e11_join => rfl)
    (case e18_join => rfl)
    (case e7_join => rfl)
    (case e9_join => rfl)
    (case e10_join => rfl)
    (case rc_join => first | rfl | decide +kernel)
    (case ne_join => decide)
    (case lc_law => k_is)
    (case e11_law => rfl)
    (case e18_law => rfl)
    (case e7_law => rfl)
    (case e9_law => rfl)
    (case e10_law => rfl)
    (case rc_law => first | rfl | decide +kernel)
    (case ne_law => decide)
    (case n_common => decide)
    (case m_common => decide)
    (case n_corners => decide)
    (case m_corners => decide)
    (case n_join => decide)
    (case m_join => decide)
    (case n__law_mixed => decide)
    (case m__law_mixed => decide)
    (case n__law_take => decide)
    (case m__law_take => decide)
    (case n__law_corners => decide)
    (case m__law_corners => decide)
    (case n__law_any => decide)
    (case m__law_any => decide)
    (case n__law_windows => decide)
    (case m__law_windows => decide)
    (case n__law_word => decide)
    (case m__law_word => decide)
    (case n__law_told => decide)
    (case m__law_told => decide)
    (case n__law_join => decide)
    (case m__law_join => decide)
    (case n__law_two => decide)
    (case m__law_two => decide)
    (case n__law_edge => decide)
    (case m__law_edge => decide)
    (case n__law_tied => decide)
    (case m__law_tied => decide)
    (case n_law => decide)
    (case m_law => decide)
    (case a_NoShape => k_is)
    (case a_NoFace => k_is)
    (case a_NoPiece => k_is)
    (case a_NoCorner => k_is)
    (case a_NotClosed => k_is)
    (case a_TooMany => k_is)
    (case a_NoOrder => k_is)
    (case a_NoWish => k_is)
    (case a_NoFit => k_is)
    (case a_NoShrink => k_is)
    (case a_NoText => k_is)
    (case a_NoRow => k_is)
    (case a_NoName => k_is)
    (case a_SideError => k_is)
    (case xc_NoCorner => first | rfl | decide +kernel | kernel_rfl)
    (case ga_NoCorner => first | rfl | decide +kernel | kernel_rfl)
    (case gh_NoCorner => first | rfl | decide +kernel | kernel_rfl)
    (case cl_NoCorner => first | rfl | decide +kernel | kernel_rfl)
    (case ko_NoCorner_NoShape => first | rfl | decide +kernel | kernel_rfl)
    (case ko_NoCorner_NoFace => first | rfl | decide +kernel | kernel_rfl)
    (case ko_NoCorner_NoPiece => first | rfl | decide +kernel | kernel_rfl)
    (case ko_NoCorner_NoCorner => first | rfl | decide +kernel | kernel_rfl)
    (case ko_NoCorner_NotClosed => first | rfl | decide +kernel | kernel_rfl)
    (case ko_NoCorner_TooMany => first | rfl | decide +kernel | kernel_rfl)
    (case ka_NoCorner => first | rfl | decide +kernel | kernel_rfl)
    (case kv_NoCorner => first | rfl | decide +kernel | kernel_rfl)
    (case ex_NoCorner => first | rfl | decide +kernel | kernel_rfl)
    (case xc_TooMany => first | rfl | decide +kernel | kernel_rfl)
    (case ga_TooMany => first | rfl | decide +kernel | kernel_rfl)
    (case gh_TooMany => first | rfl | decide +kernel | kernel_rfl)
    (case cl_TooMany => first | rfl | decide +kernel | kernel_rfl)
    (case ko_TooMany_NoShape => first | rfl | decide +kernel | kernel_rfl)
    (case ko_TooMany_NoFace => first | rfl | decide +kernel | kernel_rfl)
    (case ko_TooMany_NoPiece => first | rfl | decide +kernel | kernel_rfl)
    (case ko_TooMany_NoCorner => first | rfl | decide +kernel | kernel_rfl)
    (case ko_TooMany_NotClosed => first | rfl | decide +kernel | kernel_rfl)
    (case ko_TooMany_TooMany => first | rfl | decide +kernel | kernel_rfl)
    (case ka_TooMany => first | rfl | decide +kernel | kernel_rfl)
    (case kv_TooMany => first | rfl | decide +kernel | kernel_rfl)
    (case ex_TooMany => first | rfl | decide +kernel | kernel_rfl)
    (case ks_tuple => first | rfl | decide +kernel | kernel_rfl)
    (case a_MP => k_is)
    (case a_MC => k_is)
    (case ndS => decide)
    (case z_range => k_is)
    (case z_len => k_is)
    (case z_tuple => k_is)
    (case z_sorted => k_is)
    (case z_list => k_is)
    (case z_set => k_is)
    (case z_int => k_is)
    (case z_abs => k_is)
    (case z_repr => k_is)
    (case z_isinstance => k_is)
    (case z_str => k_is)
    (case z_ValueError => k_is)
#print axioms PySem.Challenge.cw_wholesides_k33_joins_of_shapes_holds


