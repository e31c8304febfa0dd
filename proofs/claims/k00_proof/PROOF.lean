import PyProof.Rows.All
import Wide.All
import OpenK.AllK
import Wide.FinOn
import HandS.ForMost
import HandS.Exc
import HandS.TryOnly
import HandS.ExcOwn
import HandS.Defaults
import HandS.IsInst
import HandS.Flow
import KE.KeyNested
import HandS.AnyAll
import HandS.TupSets
import HandS.Wide
import HandS.TupAny
import HandS.TupMul
import HandS.TupLe
import HandS.Deep
import HandS.Style
import PyProof.EqAt
import PyProof.EqKinds
import PyProof.TupleCall
import KE.GoesEnum
import HandS.Walk
import HandS.Zip
import HandS.Text
import HandS.Comp
import KE.DataCmp
import KE.KDictWalk
import KE.KDictKeyed
import KE.KDictCopyH
import HandS.More
import KE.KDictSum
import KE.SortKeyed
import KE.SortData
import HandS.Sort
import HandS.Conv
import HandS.TupLen
import HandS.DictComp
import HandS.SortKw
import KE.DataMinMax
import HandS.Small
import PyProof.ExcBaseAll.ValueError
import PyProof.WalksMore
import KE.KSortTup
import PyProof.GenCompD
import PyProof.TupleOfGen
import KE.KNest
import HandS.Base
import HandS.Call
import HandS.List
import KE.KStateDown
import HandS.Ends
import HandS.Words
import HandS.WordsExc
import HandS.Head0
import HandS.Head1
import HandS.Head2
import HandS.HeadEnd
import HandS.HeadHook1
import HandS.HeadHook2
import HandS.HeadHook3
import HandS.HeadHook4
import HandS.HeadWalk
import KE.LtData
import PySem.Challenge.RW_scatterbooks_k00_whole_steps_and_walks
set_option Elab.async false
set_option linter.all false
set_option maxRecDepth 100000
set_option maxHeartbeats 4000000
/-! The layer of data: values as trees (tuples), mutable objects by number; readings of Python's constructs over these; each is sound over the hand layer. -/
namespace DL
open PySem PySem.Spec PyProof.Rows L2
open PySem.W (Frag)

/-- a value: a tree, but for what may change -/
inductive D where
  | non | bl (b : Bool) | int (i : Int) | str (x : Str) | tup (xs : List D) | ref (n : Nat) | obj (a : Addr)
/-- what stands at a number: a list, a locked list, a dict with tuples as keys (and its version), one with ints or texts as keys, a set of tuples -/
inductive DO where
  | lst (xs : List D) | fl (xs : List D) | dct (kvs : List (D × D)) (ep : Nat) | dk (kvs : List (D × D)) | set (ks : List D)
abbrev DH := List DO
abbrev Env := List (Option D)
structure G where
  P : Program
  w : World
  K : Frag
  T : List Addr
abbrev gOf (X : Cx) (T : List Addr) : G := ⟨X.prog, X.w, X.K, T⟩
mutual
inductive RV (K : Frag) (H : Hp) (μ : List Addr) : V → D → Prop
  | non : RV K H μ .non .non
  | bl (b) : RV K H μ (.bl b) (.bl b)
  | int (i) : RV K H μ (.int i) (.int i)
  | str (x) : RV K H μ (.str x) (.str x)
  | obj (a) : RV K H μ (.ref a) (.obj a)
  | ref {n a} : μ[n]? = some a → RV K H μ (.ref a) (.ref n)
  | tup {a vs xs} : SqT K H a vs → RVs K H μ vs xs → RV K H μ (.ref a) (.tup xs)
inductive RVs (K : Frag) (H : Hp) (μ : List Addr) : List V → List D → Prop
  | nil : RVs K H μ [] []
  | cons {v x vs xs} : RV K H μ v x → RVs K H μ vs xs → RVs K H μ (v :: vs) (x :: xs)
end
/-- later: the tuples stand, the numbers are those -/
structure Le (K : Frag) (H : Hp) (μ : List Addr) (H' : Hp) (μ' : List Addr) : Prop where
  pre : ∃ ν, μ' = μ ++ ν
  tup : ∀ a vs, SqT K H a vs → SqT K H' a vs
section
variable {K : Frag} {H H' H'' : Hp} {μ μ' μ'' : List Addr} {v : V} {x : D} {vs : List V} {xs : List D}
theorem Le.refl : Le K H μ H μ := ⟨⟨[], by simp⟩, fun _ _ h => h⟩
theorem Le.trans (a : Le K H μ H' μ') (b : Le K H' μ' H'' μ'') : Le K H μ H'' μ'' := by
  obtain ⟨ν, e⟩ := a.pre
  obtain ⟨ν', e'⟩ := b.pre
  exact ⟨⟨ν ++ ν', by rw [e', e, List.append_assoc]⟩, fun c us h => b.tup c us (a.tup c us h)⟩
theorem Le.at (a : Le K H μ H' μ') {n : Nat} {p : Addr} (h : μ[n]? = some p) : μ'[n]? = some p := by
  obtain ⟨ν, e⟩ := a.pre
  rw [e, List.getElem?_append_left (by exact (List.getElem?_eq_some_iff.mp h).1)]
  exact h
mutual
theorem RV.le (l : Le K H μ H' μ') : ∀ {v : V} {x : D}, RV K H μ v x → RV K H' μ' v x
  | _, _, .non => .non
  | _, _, .bl b => .bl b
  | _, _, .int i => .int i
  | _, _, .str s => .str s
  | _, _, .obj a => .obj a
  | _, _, .ref h => .ref (l.at h)
  | _, _, .tup h r => .tup (l.tup _ _ h) (RVs.le l r)
theorem RVs.le (l : Le K H μ H' μ') : ∀ {vs : List V} {xs : List D}, RVs K H μ vs xs → RVs K H' μ' vs xs
  | _, _, .nil => .nil
  | _, _, .cons h r => .cons (RV.le l h) (RVs.le l r)
end
theorem RVs.length : ∀ {vs : List V} {xs : List D}, RVs K H μ vs xs → vs.length = xs.length
  | _, _, .nil => rfl
  | _, _, .cons _ r => congrArg Nat.succ (RVs.length r)
theorem RVs.append : ∀ {vs us : List V} {xs ys : List D}, RVs K H μ vs xs → RVs K H μ us ys → RVs K H μ (vs ++ us) (xs ++ ys)
  | _, _, _, _, .nil, h => h
  | _, _, _, _, .cons h r, q => .cons h (RVs.append r q)
theorem RVs.get : ∀ {vs : List V} {xs : List D} {i : Nat} {x : D}, RVs K H μ vs xs → xs[i]? = some x → ∃ v, vs[i]? = some v ∧ RV K H μ v x
  | _, _, _, _, .nil, e => by simp at e
  | _, _, 0, _, .cons h _, e => by simp at e; subst e; exact ⟨_, rfl, h⟩
  | _, _, i + 1, x, .cons _ r, e => by
    obtain ⟨v, h1, h2⟩ := RVs.get (i := i) (x := x) r (by simpa using e)
    exact ⟨v, by simpa using h1, h2⟩
theorem RVs.get' : ∀ {vs : List V} {xs : List D} {i : Nat} {v : V}, RVs K H μ vs xs → vs[i]? = some v → ∃ x, xs[i]? = some x ∧ RV K H μ v x
  | _, _, _, _, .nil, e => by simp at e
  | _, _, 0, _, .cons h _, e => by simp at e; subst e; exact ⟨_, rfl, h⟩
  | _, _, i + 1, v, .cons _ r, e => by
    obtain ⟨x, h1, h2⟩ := RVs.get' (i := i) (v := v) r (by simpa using e)
    exact ⟨x, by simpa using h1, h2⟩
theorem RVs.set {v : V} {x : D} (h : RV K H μ v x) : ∀ {vs : List V} {xs : List D} (i : Nat), RVs K H μ vs xs → RVs K H μ (vs.set i v) (xs.set i x)
  | _, _, _, .nil => .nil
  | _, _, 0, .cons _ r => .cons h r
  | _, _, i + 1, .cons q r => .cons q (RVs.set h i r)
theorem RVs.take : ∀ {vs : List V} {xs : List D} (n : Nat), RVs K H μ vs xs → RVs K H μ (vs.take n) (xs.take n)
  | _, _, 0, _ => by rw [List.take_zero, List.take_zero]; exact .nil
  | _, _, _ + 1, .nil => .nil
  | _, _, n + 1, .cons h r => .cons h (RVs.take n r)
theorem RVs.drop : ∀ {vs : List V} {xs : List D} (n : Nat), RVs K H μ vs xs → RVs K H μ (vs.drop n) (xs.drop n)
  | _, _, 0, r => r
  | _, _, _ + 1, .nil => .nil
  | _, _, n + 1, .cons _ r => RVs.drop n r
theorem RVs.one (h : RV K H μ v x) : RVs K H μ [v] [x] := .cons h .nil
theorem RVs.reverse : ∀ {vs : List V} {xs : List D}, RVs K H μ vs xs → RVs K H μ vs.reverse xs.reverse
  | _, _, .nil => .nil
  | _, _, .cons h r => by rw [List.reverse_cons, List.reverse_cons]; exact (RVs.reverse r).append (.one h)
/-- reading backwards: of which form -/
theorem RV.inv_int {i : Int} (h : RV K H μ v (.int i)) : v = .int i := by cases h; rfl
theorem RV.inv_bl {b : Bool} (h : RV K H μ v (.bl b)) : v = .bl b := by cases h; rfl
theorem RV.inv_str {s : Str} (h : RV K H μ v (.str s)) : v = .str s := by cases h; rfl
theorem RV.inv_non (h : RV K H μ v .non) : v = .non := by cases h; rfl
theorem RV.inv_obj {a : Addr} (h : RV K H μ v (.obj a)) : v = .ref a := by cases h; rfl
theorem RV.inv_ref {n : Nat} (h : RV K H μ v (.ref n)) : ∃ a, v = .ref a ∧ μ[n]? = some a := by cases h; exact ⟨_, rfl, by assumption⟩
theorem RV.inv_tup {xs : List D} (h : RV K H μ v (.tup xs)) : ∃ a vs, v = .ref a ∧ SqT K H a vs ∧ RVs K H μ vs xs := by cases h; exact ⟨_, _, rfl, by assumption, by assumption⟩
end
/-! ### dicts and sets -/
mutual
/-- the key that a value is -/
def nk : D → Option NestedKey
  | .int i => some (.num i)
  | .str x => some (.text x)
  | .tup xs => (nks xs).map .tup
  | _ => none
def nks : List D → Option (List NestedKey)
  | [] => some []
  | x :: xs => match nk x, nks xs with
    | some k, some ks => some (k :: ks)
    | _, _ => none
end
section
variable (P : Program) (w : World)
/-- a dict whose keys are tuples: of each entry the key, its tuple's place, the value -/
def RawD (h : Heap) (d : Addr) (ks : List (NestedKey × Addr × V)) (ep : Nat) : Prop :=
  (d == sysModules) = false ∧ (ks.map (·.1)).Nodup ∧ ks.length ≤ sizeLine ∧ (∀ k ∈ ks, k.1.depth ≤ 8) ∧ ∃ xs : List (NestedKey × Addr × Value), Paired (fun (p : NestedKey × Addr × V) (q : NestedKey × Addr × Value) => p.1 = q.1 ∧ p.2.1 = q.2.1 ∧ RelV p.2.2 q.2.2) ks xs ∧
    ∃ o es, h.get? d = some o ∧ o.ExactDict ∧ o.data = .dict es ep ∧ es.toList = xs.map (entryOfKey (nestedKind P w))
def DctO (d : Addr) (ks : List (NestedKey × Addr × V)) (ep : Nat) : HO := .ext fun h => RawD P w h d ks ep
/-- a table whose slots all are found again from their hashes -/
structure TabD (t : SetTable) (hs : List Int) : Prop where
  ris : Ris t.place.toList
  dm : t.dummies = #[]
  sz : t.place.size = hs.length
  mok : t.mask = 7 ∨ t.mask = 31 ∨ t.mask = 127 ∨ t.mask = 511
  bd : ∀ x ∈ t.place.toList, x ≤ t.mask
  reach : ∀ (i : Nat) (h : Int) (j : Nat), hs[i]? = some h → t.place.toList[i]? = some j → ∃ k, way t.mask h k = j ∧ ∀ k', k' < k → way t.mask h k' ∈ t.place.toList
  plain : t.plain = true
  gap : 5 * hs.length < 3 * t.mask
/-- a set of tuples -/
def RawS (h : Heap) (d : Addr) (ks : List (NestedKey × Addr)) : Prop :=
  (ks.map (·.1)).Nodup ∧ (∀ k ∈ ks, k.1.depth ≤ 8) ∧ ∃ o es ep t, h.get? d = some o ∧ o.ExactSet ∧ o.data = .set es ep t ∧ es.toList = ks.map (fun p => ((nestedKind P w).hash p.1, Value.ref p.2)) ∧
    (w.params.followText "set-order" = true ∨ t.led = true) ∧ TabD t (ks.map fun p => (nestedKind P w).hash p.1)
def SetO' (d : Addr) (ks : List (NestedKey × Addr)) : HO := .ext fun h => RawS P w h d ks
end
/-- an entry: its key's value, its value -/
def KR (K : Frag) (H : Hp) (μ : List Addr) (p : NestedKey × Addr × V) (q : D × D) : Prop := nk q.1 = some p.1 ∧ RV K H μ (.ref p.2.1) q.1 ∧ RV K H μ p.2.2 q.2
def KR1 (K : Frag) (H : Hp) (μ : List Addr) (p : NestedKey × Addr) (q : D) : Prop := nk q = some p.1 ∧ RV K H μ (.ref p.2) q
/-- an int or a text as a key -/
def dKey : Key → D
  | .inl i => .int i
  | .inr x => .str x
def KF (K : Frag) (H : Hp) (μ : List Addr) (p : Key × V) (q : D × D) : Prop := q.1 = dKey p.1 ∧ RV K H μ p.2 q.2
/-- what stands at a number, in the heap -/
def RO (g : G) (H : Hp) (μ : List Addr) (a : Addr) : DO → Prop
  | .lst xs => ∃ vs, H a = some (.lst vs) ∧ RVs g.K H μ vs xs
  | .fl xs => ∃ vs, RVs g.K H μ vs xs ∧ ((∃ o, H a = some (.frz o (.lst vs))) ∨ ∃ (o : Obj) (its : Array Value) (n : Nat), g.K.lookup a = some o ∧ o.cls = .type "list" ∧ o.dict = none ∧ o.data = .seq its n ∧ its.size ≤ sizeLine ∧ Vals vs its.toList)
  | .dct kvs ep => ∃ ks, H a = some (DctO g.P g.w a ks ep) ∧ Paired (KR g.K H μ) ks kvs
  | .dk kvs => ∃ ks, H a = some (.dK ks) ∧ Paired (KF g.K H μ) ks kvs
  | .set ds => ∃ ks, H a = some (SetO' g.P g.w a ks) ∧ Paired (KR1 g.K H μ) ks ds
/-- may lie in the fragment, untold -/
def isFl : DO → Bool
  | .fl _ => true
  | _ => false
/-- the heap's part -/
structure RelH (g : G) (H : Hp) (μ : List Addr) (h : DH) : Prop where
  len : μ.length = h.length
  nd : ∀ (i j : Nat) (a : Addr) (x y : DO), μ[i]? = some a → μ[j]? = some a → h[i]? = some x → h[j]? = some y → isFl x = false → isFl y = false → i = j
  tab : ∀ P ∈ g.T, GxR.TabG H P
  obj : ∀ (n : Nat) (a : Addr) (o : DO), μ[n]? = some a → h[n]? = some o → RO g H μ a o
/-- the names' part -/
structure RelE (K : Frag) (H : Hp) (μ : List Addr) (σ : L2.St) (env : Env) : Prop where
  len : σ.length = env.length
  at' : ∀ (i : Nat) (d : D), env[i]? = some (some d) → ∃ v : V, σ[i]? = some (some v) ∧ RV K H μ v d
section
variable {g : G} {H H' : Hp} {μ μ' : List Addr} {h : DH} {σ : L2.St} {env : Env}
theorem RelE.le {K : Frag} (r : RelE K H μ σ env) (l : Le K H μ H' μ') : RelE K H' μ' σ env := ⟨r.len, fun i d e => by
  obtain ⟨v, h1, h2⟩ := r.at' i d e
  exact ⟨v, h1, h2.le l⟩⟩
theorem RelE.put {K : Frag} (r : RelE K H μ σ env) {v : V} {d : D} (q : RV K H μ v d) (i : Nat) : RelE K H μ (σ.set i (some v)) (env.set i (some d)) := by
  refine ⟨by rw [List.length_set, List.length_set]; exact r.len, fun j e hj => ?_⟩
  by_cases c : i = j
  · subst c
    rw [List.getElem?_set] at hj
    simp only [if_true] at hj
    split at hj
    · rename_i hl
      cases hj
      exact ⟨v, by rw [List.getElem?_set]; simp only [if_true]; rw [if_pos (by rw [r.len]; exact hl)], q⟩
    · cases hj
  · rw [List.getElem?_set_ne c] at hj
    obtain ⟨u, h1, h2⟩ := r.at' j e hj
    exact ⟨u, by rw [List.getElem?_set_ne c]; exact h1, h2⟩
theorem KR.le (l : Le g.K H μ H' μ') {p q} (r : KR g.K H μ p q) : KR g.K H' μ' p q := ⟨r.1, r.2.1.le l, r.2.2.le l⟩
theorem KR1.le (l : Le g.K H μ H' μ') {p q} (r : KR1 g.K H μ p q) : KR1 g.K H' μ' p q := ⟨r.1, r.2.le l⟩
theorem KF.le (l : Le g.K H μ H' μ') {p q} (r : KF g.K H μ p q) : KF g.K H' μ' p q := ⟨r.1, r.2.le l⟩
theorem pairedLe {α β : Type} {F F' : α → β → Prop} (f : ∀ a b, F a b → F' a b) {xs ys} (r : Paired F xs ys) : Paired F' xs ys := Paired.mapP r f
theorem sqL_same {K : Frag} {a : Addr} {vs : List V} (e : H' a = H a) (r : SqL K H a vs) : SqL K H' a vs := by
  rcases r with (r | ⟨o, r⟩) | r
  · exact .inl (.inl (by rw [e]; exact r))
  · exact .inl (.inr ⟨o, by rw [e]; exact r⟩)
  · exact .inr r
theorem RO.le' (l : Le g.K H μ H' μ') {a : Addr} (e : (∃ u, H a = some u) → H' a = H a) : ∀ {o : DO}, RO g H μ a o → RO g H' μ' a o
  | .lst xs, ⟨vs, h1, h2⟩ => ⟨vs, by rw [e ⟨_, h1⟩]; exact h1, h2.le l⟩
  | .fl xs, ⟨vs, h2, h1⟩ => ⟨vs, h2.le l, h1.imp (fun ⟨o, h1⟩ => ⟨o, by rw [e ⟨_, h1⟩]; exact h1⟩) id⟩
  | .dct kvs ep, ⟨ks, h1, h2⟩ => ⟨ks, by rw [e ⟨_, h1⟩]; exact h1, pairedLe (fun _ _ z => z.le l) h2⟩
  | .dk kvs, ⟨ks, h1, h2⟩ => ⟨ks, by rw [e ⟨_, h1⟩]; exact h1, pairedLe (fun _ _ z => z.le l) h2⟩
  | .set ds, ⟨ks, h1, h2⟩ => ⟨ks, by rw [e ⟨_, h1⟩]; exact h1, pairedLe (fun _ _ z => z.le l) h2⟩
theorem RO.le (l : Le g.K H μ H' μ') {a : Addr} (e : H' a = H a) {o : DO} (r : RO g H μ a o) : RO g H' μ' a o := RO.le' l (fun _ => e) r
theorem RO.sqL {a : Addr} {xs : List D} (r : RO g H μ a (.fl xs)) : ∃ vs, SqL g.K H a vs ∧ RVs g.K H μ vs xs := by
  obtain ⟨vs, h2, h1 | h1⟩ := r
  · exact ⟨vs, .inl (.inr h1), h2⟩
  · exact ⟨vs, .inr h1, h2⟩
/-- an object's place is told -/
theorem RO.there {a : Addr} : ∀ {o : DO}, isFl o = false → RO g H μ a o → ∃ u, H a = some u
  | .lst _, _, ⟨_, h1, _⟩ => ⟨_, h1⟩
  | .fl _, n, _ => (by cases n)
  | .dct _ _, _, ⟨_, h1, _⟩ => ⟨_, h1⟩
  | .dk _, _, ⟨_, h1, _⟩ => ⟨_, h1⟩
  | .set _, _, ⟨_, h1, _⟩ => ⟨_, h1⟩
theorem RelH.get (r : RelH g H μ h) {n : Nat} {o : DO} (e : h[n]? = some o) : ∃ a, μ[n]? = some a ∧ RO g H μ a o := by
  have hn : n < h.length := (List.getElem?_eq_some_iff.mp e).1
  have hl : n < μ.length := by rw [r.len]; exact hn
  have hm : μ[n]? = some μ[n] := List.getElem?_eq_getElem hl
  exact ⟨_, hm, r.obj n _ o hm e⟩
/-- a tuple is made -/
theorem Le.new {K : Frag} {p : Addr} {o : HO} (e : H p = none) : Le K H μ (upd H p o) μ := ⟨⟨[], by simp⟩, fun a vs r => by
  rcases r with (r | ⟨ob, r⟩) | r
  · exact .inl (.inl (by rw [upd_ne (ne_of_none r e)]; exact r))
  · exact .inl (.inr ⟨ob, by rw [upd_ne (ne_of_none r e)]; exact r⟩)
  · exact .inr r⟩
theorem Le.new' {K : Frag} {p : Addr} {o : HO} (e : H p = none) : Le K H μ (upd H p o) (μ ++ [p]) := ⟨⟨[p], rfl⟩, (Le.new (μ := μ) e).tup⟩
theorem tabG_new {P p : Addr} {o : HO} (t : GxR.TabG H P) (e : H p = none) : GxR.TabG (upd H p o) P := by
  obtain ⟨ps, h1, h2⟩ := t
  exact ⟨ps, by rw [upd_ne (ne_of_none h1 e)]; exact h1, h2⟩
theorem RelH.side (r : RelH g H μ h) {p : Addr} {o : HO} (e : H p = none) : RelH g (upd H p o) μ h :=
  ⟨r.len, r.nd, fun P hP => tabG_new (r.tab P hP) e, fun n a u h1 h2 =>
    (r.obj n a u h1 h2).le' (Le.new e) fun ⟨z, hz⟩ => upd_ne (ne_of_none hz e)⟩
/-- an object is made -/
theorem RelH.made (r : RelH g H μ h) {p : Addr} {o : HO} {d : DO} (e : H p = none) (q : RO g (upd H p o) (μ ++ [p]) p d) : RelH g (upd H p o) (μ ++ [p]) (h ++ [d]) := by
  have last : ∀ {n : Nat} {a : Addr} {u : DO}, (μ ++ [p])[n]? = some a → (h ++ [d])[n]? = some u → (n < h.length ∧ μ[n]? = some a ∧ h[n]? = some u) ∨ (n = h.length ∧ a = p ∧ u = d) := fun {n a u} h1 h2 => by
    by_cases c : n < h.length
    · rw [List.getElem?_append_left c] at h2
      rw [List.getElem?_append_left (by rw [r.len]; exact c)] at h1
      exact .inl ⟨c, h1, h2⟩
    · have hn : n = h.length := by
        have := (List.getElem?_eq_some_iff.mp h2).1
        simp at this; omega
      subst hn
      rw [List.getElem?_append_right (by rw [r.len]; exact Nat.le_refl _), r.len, Nat.sub_self] at h1
      rw [List.getElem?_append_right (Nat.le_refl _), Nat.sub_self] at h2
      cases h1; cases h2
      exact .inr ⟨rfl, rfl, rfl⟩
  have bad : ∀ {n : Nat} {u : DO}, μ[n]? = some p → h[n]? = some u → isFl u = false → False := fun {n u} h1 h2 nf => by
    obtain ⟨z, hz⟩ := (r.obj n p u h1 h2).there nf
    rw [e] at hz; cases hz
  refine ⟨by simp [r.len], fun i j a x y hi hj xi yj nx ny => ?_, fun P hP => tabG_new (r.tab P hP) e, fun n a u h1 h2 => ?_⟩
  · rcases last hi xi with ⟨_, h1, h2⟩ | ⟨e1, e2, e3⟩ <;> rcases last hj yj with ⟨_, k1, k2⟩ | ⟨f1, f2, f3⟩
    · exact r.nd i j a x y h1 k1 h2 k2 nx ny
    · subst f2; exact (bad h1 h2 nx).elim
    · subst e2; exact (bad k1 k2 ny).elim
    · rw [e1, f1]
  · rcases last h1 h2 with ⟨_, k1, k2⟩ | ⟨_, rfl, rfl⟩
    · exact (r.obj n a u k1 k2).le' (Le.new' e) fun ⟨z, hz⟩ => upd_ne (ne_of_none hz e)
    · exact q
theorem nodup_inj {α : Type} : ∀ {l : List α} {i j : Nat}, l.Nodup → (hi : i < l.length) → (hj : j < l.length) → l[i] = l[j] → i = j := by
  intro l i j nd hi hj e
  rw [List.nodup_iff_pairwise_ne, List.pairwise_iff_getElem] at nd
  rcases Nat.lt_trichotomy i j with c | c | c
  · exact absurd e (nd i j hi hj c)
  · exact c
  · exact absurd e.symm (nd j i hj hi c)
/-- an object is changed -/
theorem Le.chg {K : Frag} {p : Addr} {o u : HO} (e : H p = some u) (m : Mut (some u)) : Le K H μ (upd H p o) μ := ⟨⟨[], by simp⟩, fun a vs r => by
  have ne : ∀ {b : Addr} {z : HO}, H b = some z → ¬ Mut (some z) → b ≠ p := fun {b z} hb hm q => by
    rw [q, e] at hb; cases hb; exact hm m
  rcases r with (r | ⟨ob, r⟩) | r
  · exact .inl (.inl (by rw [upd_ne (ne r (fun z => z))]; exact r))
  · exact .inl (.inr ⟨ob, by rw [upd_ne (ne r (fun z => z))]; exact r⟩)
  · exact .inr r⟩
theorem RelH.chg (r : RelH g H μ h) {n : Nat} {p : Addr} {o u : HO} {d : DO} (hn : μ[n]? = some p) (e : H p = some u) (m : Mut (some u)) (q : RO g (upd H p o) μ p d) (ko : ∃ z, h[n]? = some z ∧ isFl z = false) (nd : isFl d = false) : RelH g (upd H p o) μ (h.set n d) := by
  obtain ⟨z0, hz0, nz0⟩ := ko
  have hl : n < h.length := (List.getElem?_eq_some_iff.mp hz0).1
  have back : ∀ {k : Nat} {x : DO}, (h.set n d)[k]? = some x → isFl x = false → ∃ y, h[k]? = some y ∧ isFl y = false := fun {k x} hx nx => by
    by_cases c : n = k
    · subst c; exact ⟨z0, hz0, nz0⟩
    · rw [List.getElem?_set_ne c] at hx; exact ⟨x, hx, nx⟩
  refine ⟨by rw [List.length_set]; exact r.len, fun i j a x y hi hj xi yj nx ny => ?_, fun P hP => ?_, fun k a v h1 h2 => ?_⟩
  · obtain ⟨x', hx', nx'⟩ := back xi nx
    obtain ⟨y', hy', ny'⟩ := back yj ny
    exact r.nd i j a x' y' hi hj hx' hy' nx' ny'
  · obtain ⟨ps, h1, h2⟩ := r.tab P hP
    refine ⟨ps, ?_, h2⟩
    rw [upd_ne]
    · exact h1
    · intro z
      rw [z, e] at h1; cases h1; exact m
  · by_cases c : n = k
    · subst c
      rw [hn] at h1; cases h1
      rw [List.getElem?_set_self hl] at h2; cases h2
      exact q
    · rw [List.getElem?_set_ne c] at h2
      have ro := r.obj k a v h1 h2
      cases hf : isFl v with
      | false =>
        refine ro.le' (Le.chg e m) fun _ => upd_ne fun z => ?_
        subst z
        exact c (r.nd n k a z0 v hn h1 hz0 h2 nz0 hf)
      | true =>
        cases v with
        | fl xs =>
          obtain ⟨vs, g2, h3 | h3⟩ := ro
          · obtain ⟨ob, h3⟩ := h3
            refine ⟨vs, g2.le (Le.chg e m), .inl ⟨ob, ?_⟩⟩
            rw [upd_ne (fun z => by subst z; rw [e] at h3; cases h3; exact m)]
            exact h3
          · exact ⟨vs, g2.le (Le.chg e m), .inr h3⟩
        | _ => cases hf
end
end DL
set_option Elab.async false
set_option linter.all false
set_option maxRecDepth 100000
set_option maxHeartbeats 4000000
namespace DL
open PySem PySem.Spec PyProof.Rows L2
open PySem.W (Frag)
/-- what is wanted of an exception: its class, its fields, the names, the heap -/
abbrev DXW := Value → List (Str × D) → Env → DH → Prop
abbrev VD := D → DH → Prop
abbrev DE := DXW → Env → DH → VD → Prop
abbrev DT := DXW → Env → DH → (Bool → DH → Prop) → Prop
abbrev DA := DXW → Env → DH → (List D → DH → Prop) → Prop
def XF (g : G) (H : Hp) (μ : List Addr) (od : Option Addr) (fs : List (Str × D)) : Prop := match od with
  | none => fs = []
  | some dx => fs ≠ [] ∧ ∃ vfs, H dx = some (.xd vfs) ∧ Paired (fun (p : Str × V) (q : Str × D) => p.1 = q.1 ∧ RV g.K H μ p.2 q.2) vfs fs
def Post (g : G) (H : Hp) (μ : List Addr) (Q0 : VD) (Q : VK) : Prop := ∀ (d : D) (h' : DH) (v : V) (H' : Hp) (μ' : List Addr), Q0 d h' → RelH g H' μ' h' → Le g.K H μ H' μ' → RV g.K H' μ' v d → Q v H'
def PostT (g : G) (H : Hp) (μ : List Addr) (Q0 : Bool → DH → Prop) (Q : Bool → Hp → Prop) : Prop := ∀ (b : Bool) (h' : DH) (H' : Hp) (μ' : List Addr), Q0 b h' → RelH g H' μ' h' → Le g.K H μ H' μ' → Q b H'
def PostA (g : G) (H : Hp) (μ : List Addr) (Q0 : List D → DH → Prop) (Q : List V → Hp → Prop) : Prop := ∀ (d : List D) (h' : DH) (v : List V) (H' : Hp) (μ' : List Addr), Q0 d h' → RelH g H' μ' h' → Le g.K H μ H' μ' → RVs g.K H' μ' v d → Q v H'
def PostX (g : G) (H : Hp) (μ : List Addr) (E0 : DXW) (W : WX) : Prop := ∀ (c : Value) (fs : List (Str × D)) (env' : Env) (h' : DH) (od : Option Addr) (σ' : L2.St) (H' : Hp) (μ' : List Addr),
  E0 c fs env' h' → RelH g H' μ' h' → RelE g.K H' μ' σ' env' → Le g.K H μ H' μ' → XF g H' μ' od fs → W c od σ' H'
section
variable {g : G} {H H' : Hp} {μ μ' : List Addr}
theorem Post.le {Q0 : VD} {Q : VK} (p : Post g H μ Q0 Q) (l : Le g.K H μ H' μ') : Post g H' μ' Q0 Q := fun d h' v H2 μ2 q r l2 rv => p d h' v H2 μ2 q r (l.trans l2) rv
theorem PostT.le {Q0 : Bool → DH → Prop} {Q : Bool → Hp → Prop} (p : PostT g H μ Q0 Q) (l : Le g.K H μ H' μ') : PostT g H' μ' Q0 Q := fun d h' H2 μ2 q r l2 => p d h' H2 μ2 q r (l.trans l2)
theorem PostA.le {Q0 : List D → DH → Prop} {Q : List V → Hp → Prop} (p : PostA g H μ Q0 Q) (l : Le g.K H μ H' μ') : PostA g H' μ' Q0 Q := fun d h' v H2 μ2 q r l2 rv => p d h' v H2 μ2 q r (l.trans l2) rv
theorem PostX.le {E0 : DXW} {W : WX} (p : PostX g H μ E0 W) (l : Le g.K H μ H' μ') : PostX g H' μ' E0 W := fun c fs env h' od σ H2 μ2 q r re l2 x => p c fs env h' od σ H2 μ2 q r re (l.trans l2) x
end
def LE (g : G) (W : WX) (ε : DE) : TE := fun σ H Q => ∃ μ env h Q0 E0, RelH g H μ h ∧ RelE g.K H μ σ env ∧ ε E0 env h Q0 ∧ Post g H μ Q0 Q ∧ PostX g H μ E0 W
def LT (g : G) (W : WX) (ε : DT) : TT := fun σ H Q => ∃ μ env h Q0 E0, RelH g H μ h ∧ RelE g.K H μ σ env ∧ ε E0 env h Q0 ∧ PostT g H μ Q0 Q ∧ PostX g H μ E0 W
def LA (g : G) (W : WX) (ε : DA) : TA := fun σ H Q => ∃ μ env h Q0 E0, RelH g H μ h ∧ RelE g.K H μ σ env ∧ ε E0 env h Q0 ∧ PostA g H μ Q0 Q ∧ PostX g H μ E0 W
def PD (X : Cx) (T : List Addr) (W : WX) (e : Expr) (ε : DE) : Prop := PE X e (LE (gOf X T) W ε)
def PDT (X : Cx) (T : List Addr) (W : WX) (e : Expr) (ε : DT) : Prop := PT X e (LT (gOf X T) W ε)
def PDW (X : Cx) (T : List Addr) (W : WX) (e : Expr) (ε : DT) : Prop := PW X e (LT (gOf X T) W ε)
def PDA (X : Cx) (T : List Addr) (W : WX) (es : List Expr) (ε : DA) : Prop := PA X es (LA (gOf X T) W ε)
section
variable {X : Cx} {T : List Addr} {W : WX}
theorem PE.imp {e : Expr} {t t' : TE} (h : PE X e t) (i : ∀ σ H Q, t' σ H Q → t σ H Q) : PE X e t' := ⟨fun pins s σ H Q I q => h.run pins s σ H Q I (i σ H Q q)⟩
theorem PT.imp {e : Expr} {t t' : TT} (h : PT X e t) (i : ∀ σ H Q, t' σ H Q → t σ H Q) : PT X e t' := ⟨fun pins s σ H Q I q => h.run pins s σ H Q I (i σ H Q q)⟩
theorem PW.imp {e : Expr} {t t' : TT} (h : PW X e t) (i : ∀ σ H Q, t' σ H Q → t σ H Q) : PW X e t' := ⟨fun wh pins s σ H Q I q => h.run wh pins s σ H Q I (i σ H Q q)⟩
theorem PA.imp {e : List Expr} {t t' : TA} (h : PA X e t) (i : ∀ σ H Q, t' σ H Q → t σ H Q) : PA X e t' := ⟨fun pos pins s σ H Q I q => h.run pos pins s σ H Q I (i σ H Q q)⟩
/-! ### names, constants -/
def eVar (i : Nat) : DE := fun _ env h Q => ∃ d, env[i]? = some (some d) ∧ Q d h
def eC (d : D) : DE := fun _ _ h Q => Q d h
theorem pd_var {i : Nat} {x : Str} {pos : Pos} (hN : X.N[i]? = some x) (hv : Vis X.env.scope x) (hd : (x == ("__debug__" : Str)) = false := by decide) (hcd : (x == ("__classdict__" : Str)) = false := by decide) : PD X T W (.Name x pos) (eVar i) :=
  PE.imp (pe_var hN hv hd hcd) fun σ H Q ⟨μ, env, h, Q0, E0, r, re, ⟨d, hd, q⟩, p, _⟩ => by
    obtain ⟨v, h1, h2⟩ := re.at' i d hd
    exact ⟨v, h1, p d h v H μ q r .refl h2⟩
theorem pd_const {e : Expr} {v : V} {d : D} (h : PE X e (tC v)) (q : ∀ K H μ, RV K H μ v d) : PD X T W e (eC d) :=
  PE.imp h fun σ H Q ⟨μ, env, h, Q0, E0, r, re, q0, p, _⟩ => p d h v H μ q0 r .refl (q _ _ _)
theorem pd_int {i j pos} : PD X T W (.Constant (.int i) j pos) (eC (.int i)) := pd_const pe_int fun _ _ _ => .int i
theorem pd_bl {i j pos} : PD X T W (.Constant (.bool i) j pos) (eC (.bl i)) := pd_const pe_bl fun _ _ _ => .bl i
theorem pd_non {j pos} : PD X T W (.Constant .none j pos) (eC .non) := pd_const pe_non fun _ _ _ => .non
theorem pd_str {x j pos} : PD X T W (.Constant (.str x) j pos) (eC (.str x)) := pd_const pe_str fun _ _ _ => .str x
theorem pd_gint {x : Str} {i : Int} {pos : Pos} (hg : Gl X x) (hm : ∃ t, X.mg x = some (.int i t)) (hd : (x == ("__debug__" : Str)) = false := by decide) : PD X T W (.Name x pos) (eC (.int i)) := by
  obtain ⟨t, hm⟩ := hm
  exact pd_const (pe_glob (v := .int i) hg hm ⟨t, rfl⟩ hd) fun _ _ _ => .int i
theorem pd_gstr {x y : Str} {pos : Pos} (hg : Gl X x) (hm : ∃ t, X.mg x = some (.str y t)) (hd : (x == ("__debug__" : Str)) = false := by decide) : PD X T W (.Name x pos) (eC (.str y)) := by
  obtain ⟨t, hm⟩ := hm
  exact pd_const (pe_glob (v := .str y) hg hm ⟨t, rfl⟩ hd) fun _ _ _ => .str y
/-! ### arguments, displays -/
def aNil : DA := fun _ _ h Q => Q [] h
def aCons (ε : DE) (α : DA) : DA := fun E env h Q => ε E env h fun x h1 => α E env h1 fun xs h2 => Q (x :: xs) h2
theorem pda_nil : PDA X T W [] aNil := PA.imp pa_nil fun σ H Q ⟨μ, env, h, Q0, E0, r, re, q, p, _⟩ => p [] h [] H μ q r .refl .nil
theorem pda_cons {e : Expr} {es : List Expr} {ε : DE} {α : DA} (ha : PD X T W e ε) (hr : PDA X T W es α) (hs : starEach (e :: es) X.env = (false, eval e X.env) :: starEach es X.env := by rfl) : PDA X T W (e :: es) (aCons ε α) :=
  PA.imp (pa_cons ha hr hs) fun σ H Q ⟨μ, env, h, Q0, E0, r, re, q, p, px⟩ =>
    ⟨μ, env, h, _, E0, r, re, q, fun x h1 v H1 μ1 q1 r1 l1 rv => ⟨μ1, env, h1, _, E0, r1, re.le l1, q1, fun xs h2 vs H2 μ2 q2 r2 l2 rvs => p _ _ _ _ _ q2 r2 (l1.trans l2) (.cons (rv.le l2) rvs), px.le l1⟩, px⟩
def eTup (α : DA) : DE := fun E env h Q => α E env h fun xs h1 => xs.length ≤ 1000000 ∧ Q (.tup xs) h1
def eLst (α : DA) : DE := fun E env h Q => α E env h fun xs h1 => xs.length ≤ 1000000 ∧ Q (.ref h1.length) (h1 ++ [.lst xs])
theorem line_le {n : Nat} (h : n ≤ 1000000) : n ≤ sizeLine := by rw [sizeLine_eq]; omega
section
variable {g : G} {H : Hp} {μ : List Addr} {h : DH} {Q0 : VD} {Q : VK}
theorem new_tup (r : RelH g H μ h) {vs : List V} {xs : List D} (rv : RVs g.K H μ vs xs) (q : Q0 (.tup xs) h) (p : Post g H μ Q0 Q) {t : Addr} (ht : H t = none) : Q (.ref t) (upd H t (.tup vs)) :=
  p _ _ _ _ _ q (r.side ht) (Le.new ht) (.tup (.inl (.inl upd_same)) (rv.le (Le.new ht)))
theorem new_lst (r : RelH g H μ h) {vs : List V} {xs : List D} (rv : RVs g.K H μ vs xs) (q : Q0 (.ref h.length) (h ++ [.lst xs])) (p : Post g H μ Q0 Q) {t : Addr} (ht : H t = none) : Q (.ref t) (upd H t (.lst vs)) :=
  p _ _ _ _ _ q (r.made ht ⟨vs, upd_same, rv.le (Le.new' ht)⟩) (Le.new' ht) (.ref (by rw [List.getElem?_append_right (by rw [r.len]; exact Nat.le_refl _), r.len, Nat.sub_self]; rfl))
end
theorem pd_tup {es : List Expr} {α : DA} {x1 : Nat} {pos : Pos} (ha : PDA X T W es α) : PD X T W (.Tuple es x1 pos) (eTup α) :=
  PE.imp (pe_tup ha) fun σ H Q ⟨μ, env, h, Q0, E0, r, re, q, p, px⟩ =>
    ⟨μ, env, h, _, E0, r, re, q, fun xs h1 vs H1 μ1 ⟨z, q1⟩ r1 l1 rv => ⟨by rw [rv.length]; exact line_le z, fun t ht => new_tup r1 rv q1 (p.le l1) ht⟩, px⟩
theorem pd_lst {es : List Expr} {α : DA} {pos : Pos} (ha : PDA X T W es α) : PD X T W (.List es pos) (eLst α) :=
  PE.imp (pe_lst ha) fun σ H Q ⟨μ, env, h, Q0, E0, r, re, q, p, px⟩ =>
    ⟨μ, env, h, _, E0, r, re, q, fun xs h1 vs H1 μ1 ⟨z, q1⟩ r1 l1 rv => ⟨by rw [rv.length]; exact line_le z, fun t ht => new_lst r1 rv q1 (p.le l1) ht⟩, px⟩
end
/-! ### operators by values -/
abbrev D2 := D → D → DH → VD → Prop
def OpD (g : G) (r : R2) (δ : D2) : Prop := ∀ (H : Hp) (μ : List Addr) (h : DH) (vx vy : V) (x y : D) (Q0 : VD) (Q : VK), RelH g H μ h → RV g.K H μ vx x → RV g.K H μ vy y → δ x y h Q0 → Post g H μ Q0 Q → r vx vy H Q
def eOp (δ : D2) (a b : DE) : DE := fun E env h Q => a E env h fun x h1 => b E env h1 fun y h2 => δ x y h2 Q
section
variable {X : Cx} {T : List Addr} {W : WX} {a b : Expr} {εa εb : DE} {r : R2} {δ : D2} {pos : Pos}
theorem op_read {g : G} (hd : OpD g r δ) : ∀ σ H Q, LE g W (eOp δ εa εb) σ H Q → tOp r (LE g W εa) (LE g W εb) σ H Q := fun σ H Q ⟨μ, env, h, Q0, E0, r, re, q, p, px⟩ =>
  ⟨μ, env, h, _, E0, r, re, q, fun x h1 v H1 μ1 q1 r1 l1 rv => ⟨μ1, env, h1, _, E0, r1, re.le l1, q1, fun y h2 u H2 μ2 q2 r2 l2 ru => hd H2 μ2 h2 v u x y Q0 Q r2 (rv.le l2) ru q2 (p.le (l1.trans l2)), px.le l1⟩, px⟩
theorem pd_op {op : Operator} (ho : OpR X (binaryOp op) r) (hd : OpD (gOf X T) r δ) (ha : PD X T W a εa) (hb : PD X T W b εb) : PD X T W (.BinOp a op b pos) (eOp δ εa εb) := PE.imp (pe_op ho ha hb) (op_read hd)
theorem pd_cmp {op : CmpOp} (ho : OpR X (compareOp op) r) (hd : OpD (gOf X T) r δ) (ha : PD X T W a εa) (hb : PD X T W b εb) (hm : behindInMarks op b = false) : PD X T W (.Compare a [op] [b] pos) (eOp δ εa εb) := PE.imp (pe_cmpR ho ha hb hm) (op_read hd)
theorem pd_ix (ho : IxR X r) (hd : OpD (gOf X T) r δ) (ha : PD X T W a εa) (hb : PD X T W b εb) (hs : PlainIx b := by exact fun _ _ => rfl) : PD X T W (.Subscript a b pos) (eOp δ εa εb) := PE.imp (pe_ix ho ha hb hs) (op_read hd)
end
theorem OpD.or {g : G} {r r' : R2} {δ δ' : D2} (a : OpD g r δ) (b : OpD g r' δ') : OpD g (fun x y H Q => r x y H Q ∨ r' x y H Q) (fun x y h Q => δ x y h Q ∨ δ' x y h Q) := fun H μ h vx vy x y Q0 Q rh rx ry q p =>
  q.elim (fun z => .inl (a H μ h vx vy x y Q0 Q rh rx ry z p)) fun z => .inr (b H μ h vx vy x y Q0 Q rh rx ry z p)
theorem OpD.sel {g : G} {r r' : R2} {δ δ' : D2} (a : OpD g r δ) (i : ∀ x y h Q, δ' x y h Q → δ x y h Q) (j : ∀ x y H Q, r x y H Q → r' x y H Q) : OpD g r' δ' := fun H μ h vx vy x y Q0 Q rh rx ry q p => j _ _ _ _ (a H μ h vx vy x y Q0 Q rh rx ry (i _ _ _ _ q) p)
/-- a list's items -/
def lstOf (h : DH) (n : Nat) : Option (List D) := match h[n]? with
  | some (.lst xs) => some xs
  | some (.fl xs) => some xs
  | _ => none
def mlst (h : DH) (n : Nat) : Option (List D) := match h[n]? with
  | some (.lst xs) => some xs
  | _ => none
theorem mlst_eq {h : DH} {n : Nat} {xs : List D} (e : mlst h n = some xs) : h[n]? = some (.lst xs) := by
  unfold mlst at e; split at e
  · cases e; assumption
  · cases e
theorem lst_at {g : G} {H : Hp} {μ : List Addr} {h : DH} {n : Nat} {a : Addr} {xs : List D} (r : RelH g H μ h) (hn : μ[n]? = some a) (e : lstOf h n = some xs) : ∃ vs, SqL g.K H a vs ∧ RVs g.K H μ vs xs := by
  unfold lstOf at e
  split at e
  · rename_i ys e2
    cases e
    obtain ⟨vs, h1, h2⟩ := r.obj n a _ hn e2
    exact ⟨vs, .inl (.inl h1), h2⟩
  · rename_i ys e2
    cases e
    exact (r.obj n a _ hn e2).sqL
  · cases e
theorem mlst_at {g : G} {H : Hp} {μ : List Addr} {h : DH} {n : Nat} {a : Addr} {xs : List D} (r : RelH g H μ h) (hn : μ[n]? = some a) (e : mlst h n = some xs) : ∃ vs, H a = some (.lst vs) ∧ RVs g.K H μ vs xs := r.obj n a _ hn (mlst_eq e)
def dAdd : D2 := fun x y h Q => match x, y with
  | .int i, .int j => Q (.int (i + j)) h
  | .str i, .str j => i.length + j.length ≤ 1000000 ∧ Q (.str (i ++ j)) h
  | .tup xs, .tup ys => xs.length + ys.length ≤ 1000000 ∧ Q (.tup (xs ++ ys)) h
  | .ref m, .ref n => ∃ xs ys, mlst h m = some xs ∧ mlst h n = some ys ∧ xs.length + ys.length ≤ 1000000 ∧ Q (.ref h.length) (h ++ [.lst (xs ++ ys)])
  | _, _ => False
theorem op_addD {X : Cx} : ∃ r, OpR X (binaryOp .Add) r ∧ ∀ T, OpD (gOf X T) r dAdd := by
  refine ⟨_, op_add.or (op_add_str.or (op_catA.or op_cat)), fun T H μ h vx vy x y Q0 Q rh rx ry q p => ?_⟩
  unfold dAdd at q
  split at q
  · rw [rx.inv_int, ry.inv_int]
    exact .inl ⟨_, _, rfl, rfl, p _ _ _ _ _ q rh .refl (.int _)⟩
  · rw [rx.inv_str, ry.inv_str]
    exact .inr (.inl ⟨_, _, rfl, rfl, line_le q.1, p _ _ _ _ _ q.2 rh .refl (.str _)⟩)
  · obtain ⟨a, vs, rfl, h1, h2⟩ := rx.inv_tup
    obtain ⟨b, us, rfl, h3, h4⟩ := ry.inv_tup
    obtain ⟨z, q⟩ := q
    refine .inr (.inr (.inl ⟨a, b, vs, us, rfl, rfl, h1, h3, ?_, fun e => ?_, fun _ e => ?_, fun _ _ t ht => new_tup rh (h2.append h4) q p ht⟩))
    · rw [h2.length, h4.length]; exact line_le z
    · subst e
      cases h2
      exact p _ _ _ _ _ q rh .refl ry
    · subst e
      cases h4
      rw [List.append_nil] at q
      exact p _ _ _ _ _ q rh .refl rx
  · obtain ⟨a, rfl, h1⟩ := rx.inv_ref
    obtain ⟨b, rfl, h2⟩ := ry.inv_ref
    obtain ⟨xs, ys, e1, e2, z, q⟩ := q
    obtain ⟨vs, h3, h4⟩ := mlst_at rh h1 e1
    obtain ⟨us, h5, h6⟩ := mlst_at rh h2 e2
    exact .inr (.inr (.inr ⟨a, b, vs, us, rfl, rfl, h3, h5, by rw [h4.length, h6.length]; exact line_le z, fun t ht => new_lst rh (h4.append h6) q p ht⟩))
  · exact q.elim
def dSub : D2 := fun x y h Q => match x, y with
  | .int i, .int j => Q (.int (i - j)) h
  | _, _ => False
theorem op_intD {X : Cx} {f : Value → Value → Sem Value} {k : Int → Int → D} {kv : Int → Int → V} {δ : D2} {r : R2} (ho : OpR X f r) (hr : ∀ i j H Q, Q (kv i j) H → r (.int i) (.int j) H Q) (hk : ∀ i j K H μ, RV K H μ (kv i j) (k i j))
    (hδ : ∀ x y h Q, δ x y h Q → ∃ i j, x = .int i ∧ y = .int j ∧ Q (k i j) h) : ∃ r, OpR X f r ∧ ∀ T, OpD (gOf X T) r δ :=
  ⟨_, ho, fun T H μ h vx vy x y Q0 Q rh rx ry q p => by
    obtain ⟨i, j, rfl, rfl, q2⟩ := hδ _ _ _ _ q
    rw [rx.inv_int, ry.inv_int]
    exact hr _ _ _ _ (p _ _ _ _ _ q2 rh .refl (hk _ _ _ _ _))⟩
theorem two_int {P : Int → Int → Prop} {x y : D} (q : match x, y with | .int i, .int j => P i j | _, _ => False) : ∃ i j, x = .int i ∧ y = .int j ∧ P i j := by
  split at q
  · exact ⟨_, _, rfl, rfl, q⟩
  · exact q.elim
theorem op_subD {X : Cx} : ∃ r, OpR X (binaryOp .Sub) r ∧ ∀ T, OpD (gOf X T) r dSub :=
  op_intD (k := fun i j => .int (i - j)) op_sub (fun i j H Q q => ⟨i, j, rfl, rfl, q⟩) (fun _ _ _ _ _ => .int _) fun x y h Q q => two_int q
def dLt : D2 := fun x y h Q => match x, y with | .int i, .int j => Q (.bl (decide (i < j))) h | _, _ => False
def dLe : D2 := fun x y h Q => match x, y with | .int i, .int j => Q (.bl (decide (i ≤ j))) h | _, _ => False
def dGt : D2 := fun x y h Q => match x, y with | .int i, .int j => Q (.bl (decide (j < i))) h | _, _ => False
def dGe : D2 := fun x y h Q => match x, y with | .int i, .int j => Q (.bl (decide (j ≤ i))) h | _, _ => False
theorem op_ltD {X : Cx} : ∃ r, OpR X (compareOp .Lt) r ∧ ∀ T, OpD (gOf X T) r dLt :=
  op_intD (k := fun i j => .bl (decide (i < j))) op_lt (fun i j H Q q => ⟨i, j, rfl, rfl, q⟩) (fun _ _ _ _ _ => .bl _) fun x y h Q q => two_int q
theorem op_leD {X : Cx} : ∃ r, OpR X (compareOp .LtE) r ∧ ∀ T, OpD (gOf X T) r dLe :=
  op_intD (k := fun i j => .bl (decide (i ≤ j))) op_le (fun i j H Q q => ⟨i, j, rfl, rfl, q⟩) (fun _ _ _ _ _ => .bl _) fun x y h Q q => two_int q
theorem op_gtD {X : Cx} : ∃ r, OpR X (compareOp .Gt) r ∧ ∀ T, OpD (gOf X T) r dGt :=
  op_intD (k := fun i j => .bl (decide (j < i))) op_gt (fun i j H Q q => ⟨i, j, rfl, rfl, q⟩) (fun _ _ _ _ _ => .bl _) fun x y h Q q => two_int q
theorem op_geD {X : Cx} : ∃ r, OpR X (compareOp .GtE) r ∧ ∀ T, OpD (gOf X T) r dGe :=
  op_intD (k := fun i j => .bl (decide (j ≤ i))) op_ge (fun i j H Q q => ⟨i, j, rfl, rfl, q⟩) (fun _ _ _ _ _ => .bl _) fun x y h Q q => two_int q
/-- * of whole numbers, a list or a tuple so many times -/
def dMul : D2 := fun x y h Q => match x, y with
  | .int i, .int j => i.natAbs.log2 + j.natAbs.log2 < 1000000 ∧ Q (.int (i * j)) h
  | .ref n, .int k => ∃ xs, mlst h n = some xs ∧ -1000 ≤ k ∧ k ≤ 1000 ∧ xs.length ≤ 1000 ∧ Q (.ref h.length) (h ++ [.lst (List.replicate k.toNat xs).flatten])
  | .tup xs, .int k => xs ≠ [] ∧ 2 ≤ k ∧ k ≤ 1000 ∧ xs.length ≤ 1000 ∧ Q (.tup (List.replicate k.toNat xs).flatten) h
  | _, _ => False
theorem RVs.rep {K : Frag} {H : Hp} {μ : List Addr} {vs : List V} {xs : List D} (r : RVs K H μ vs xs) : ∀ n, RVs K H μ (List.replicate n vs).flatten (List.replicate n xs).flatten
  | 0 => .nil
  | n + 1 => by
    rw [List.replicate_succ, List.replicate_succ, List.flatten_cons, List.flatten_cons]
    exact r.append (r.rep n)
theorem op_mulD {X : Cx} : ∃ r, OpR X (binaryOp .Mult) r ∧ ∀ T, OpD (gOf X T) r dMul := by
  refine ⟨_, op_mulW.or (op_rep.or op_repT), fun T H μ h vx vy x y Q0 Q rh rx ry q p => ?_⟩
  unfold dMul at q
  split at q
  · rw [rx.inv_int, ry.inv_int]
    exact .inl ⟨_, _, rfl, rfl, q.1, p _ _ _ _ _ q.2 rh .refl (.int _)⟩
  · obtain ⟨a, rfl, h1⟩ := rx.inv_ref
    rw [ry.inv_int]
    rename_i k
    obtain ⟨xs, e1, z0, z1, z2, q⟩ := q
    obtain ⟨vs, h3, h4⟩ := mlst_at rh h1 e1
    refine .inr (.inl ⟨a, k, vs, rfl, rfl, h3, by omega, by omega, ?_, fun t ht => new_lst rh (h4.rep _) q p ht⟩)
    rw [h4.length, sizeLine_eq]
    have := Nat.mul_le_mul z2 (show k.toNat ≤ 1000 by omega)
    omega
  · obtain ⟨a, vs, rfl, h1, h2⟩ := rx.inv_tup
    rw [ry.inv_int]
    obtain ⟨n, z1, z2, z3, q⟩ := q
    exact .inr (.inr ⟨a, _, vs, rfl, rfl, h1, fun e => n (by subst e; cases h2; rfl), z1, z2, by rw [h2.length]; exact z3, fun t ht => new_tup rh (h2.rep _) q p ht⟩)
  · exact q.elim
end DL
set_option Elab.async false
set_option linter.all false
set_option maxRecDepth 100000
set_option maxHeartbeats 4000000
namespace DL
open PySem PySem.Spec PyProof.Rows L2
open PySem.W (Frag)
/-- where one stands: what may be raised is taken, loops may be left by it, nothing is handled -/
structure Std (X : Cx) (W : WX) : Prop where
  tk : Takes X W
  po : PassesOwn (model X.prog X.w) X.A X.env X.xe
  calm : X.calm = true
  nd : X.N.Nodup
structure DEnds where
  nx : Env → DH → Prop
  rt : VD
  bk : Env → DH → Prop := fun _ _ => False
  ct : Env → DH → Prop := fun _ _ => False
  xc : DXW
abbrev DS := DEnds → Env → DH → Prop
def PostS (g : G) (H : Hp) (μ : List Addr) (Q0 : Env → DH → Prop) (Q : L2.St → Hp → Prop) : Prop := ∀ (env' : Env) (h' : DH) (σ' : L2.St) (H' : Hp) (μ' : List Addr), Q0 env' h' → RelH g H' μ' h' → RelE g.K H' μ' σ' env' → Le g.K H μ H' μ' → Q σ' H'
theorem PostS.le {g : G} {H H' : Hp} {μ μ' : List Addr} {Q0 : Env → DH → Prop} {Q : L2.St → Hp → Prop} (p : PostS g H μ Q0 Q) (l : Le g.K H μ H' μ') : PostS g H' μ' Q0 Q := fun e h' σ H2 μ2 q r re l2 => p e h' σ H2 μ2 q r re (l.trans l2)
structure PostD (g : G) (W : WX) (H : Hp) (μ : List Addr) (D0 : DEnds) (D : Ends) : Prop where
  nx : PostS g H μ D0.nx D.nx
  rt : Post g H μ D0.rt D.rt
  bk : PostS g H μ D0.bk D.bk
  ct : PostS g H μ D0.ct D.ct
  xc : PostX g H μ D0.xc W
theorem PostD.le {g : G} {W : WX} {H H' : Hp} {μ μ' : List Addr} {D0 : DEnds} {D : Ends} (p : PostD g W H μ D0 D) (l : Le g.K H μ H' μ') : PostD g W H' μ' D0 D := ⟨p.nx.le l, p.rt.le l, p.bk.le l, p.ct.le l, p.xc.le l⟩
def LS (g : G) (W : WX) (τ : DS) : TS := fun D σ H => ∃ μ env h D0, RelH g H μ h ∧ RelE g.K H μ σ env ∧ τ D0 env h ∧ PostD g W H μ D0 D
def PDS (X : Cx) (T : List Addr) (W : WX) (st : Stmt) (τ : DS) : Prop := PS X st (LS (gOf X T) W τ)
def PDSs (X : Cx) (T : List Addr) (W : WX) (sts : List Stmt) (τ : DS) : Prop := PSs X sts (LS (gOf X T) W τ)
section
variable {X : Cx} {T : List Addr} {W : WX}
theorem PS.imp {st : Stmt} {t t' : TS} (h : PS X st t) (i : ∀ D σ H, t' D σ H → t D σ H) : PS X st t' := ⟨fun pins s σ H D I q => h.run pins s σ H D I (i D σ H q)⟩
theorem PSs.imp {st : List Stmt} {t t' : TS} (h : PSs X st t) (i : ∀ D σ H, t' D σ H → t D σ H) : PSs X st t' := ⟨fun pins s σ H D I q => h.run pins s σ H D I (i D σ H q)⟩
/-! ### truth, tests -/
/-- a value's truth -/
def dTru (x : D) (h : DH) (Q : Bool → DH → Prop) : Prop := match x with
  | .non => Q false h
  | .bl b => Q b h
  | .int i => Q (i != 0) h
  | .str s => s.length ≤ 1000000 ∧ Q ((s.length : Int) != 0) h
  | .tup xs => Q (!xs.isEmpty) h
  | .ref n => ∃ xs, lstOf h n = some xs ∧ Q (!xs.isEmpty) h
  | .obj _ => False
theorem isEmpty_rv {K : Frag} {H : Hp} {μ : List Addr} {vs : List V} {xs : List D} (r : RVs K H μ vs xs) : (!vs.isEmpty) = !xs.isEmpty := by cases r <;> rfl
theorem tru_D {g : G} {H : Hp} {μ : List Addr} {h : DH} {v : V} {x : D} {Q : Bool → DH → Prop} (rh : RelH g H μ h) (rv : RV g.K H μ v x) (q : dTru x h Q) : ∃ k, TruV g.K v H k ∧ Q k h := by
  cases x with
  | non => rw [rv.inv_non]; exact ⟨_, rfl, q⟩
  | bl b => rw [rv.inv_bl]; exact ⟨_, rfl, q⟩
  | int i => rw [rv.inv_int]; exact ⟨_, rfl, q⟩
  | str s => rw [rv.inv_str]; exact ⟨_, ⟨line_le q.1, rfl⟩, q.2⟩
  | tup xs =>
    obtain ⟨a, vs, rfl, h1, h2⟩ := rv.inv_tup
    exact ⟨_, .inr (.inl ⟨vs, h1, rfl⟩), by rw [isEmpty_rv h2]; exact q⟩
  | ref n =>
    obtain ⟨a, rfl, h1⟩ := rv.inv_ref
    obtain ⟨xs, e, q⟩ := q
    obtain ⟨vs, h2, h3⟩ := lst_at rh h1 e
    exact ⟨_, .inl ⟨vs, h2, rfl⟩, by rw [isEmpty_rv h3]; exact q⟩
  | obj a => exact q.elim
def eTru (ε : DE) : DT := fun E env h Q => ε E env h fun x h1 => dTru x h1 Q
/-- a value that is a bool, as a test -/
def eTst (ε : DE) : DT := fun E env h Q => ε E env h fun x h1 => ∃ k, x = .bl k ∧ Q k h1
theorem pdt_tru {e : Expr} {ε : DE} (h : PD X T W e ε) (he : ∀ whole, isTrue e X.env whole = (do let v ← whole; standAt e.pos; holding [v] (truthy v)) := by intro _; rfl) : PDT X T W e (eTru ε) :=
  PT.imp (pt_truth h he) fun σ H Q ⟨μ, env, h, Q0, E0, r, re, q, p, px⟩ => ⟨μ, env, h, _, E0, r, re, q, fun x h1 v H1 μ1 q1 r1 l1 rv => by
    obtain ⟨k, h2, h3⟩ := tru_D r1 rv q1
    exact ⟨k, h2, p _ _ _ _ h3 r1 l1⟩, px⟩
theorem pdt_cmp {op : CmpOp} {a b : Expr} {εa εb : DE} {r : R2} {δ : D2} {pos : Pos} (ho : OpR X (compareOp op) r) (hd : OpD (gOf X T) r δ) (ha : PD X T W a εa) (hb : PD X T W b εb) (hm : behindInMarks op b = false) : PDT X T W (.Compare a [op] [b] pos) (eTst (eOp δ εa εb)) :=
  PT.imp (pt_cmpR ho ha hb hm) fun σ H Q ⟨μ, env, h, Q0, E0, r, re, q, p, px⟩ =>
    op_read hd σ H _ ⟨μ, env, h, _, E0, r, re, q, fun x h1 v H1 μ1 ⟨k, e, q1⟩ r1 l1 rv => by subst e; rw [rv.inv_bl]; exact ⟨k, rfl, p _ _ _ _ q1 r1 l1⟩, px⟩
def eChain (δ δ' : D2) (a b c : DE) : DE := fun E env h Q => a E env h fun x h1 => b E env h1 fun y h2 => δ x y h2 fun z h3 => ∃ k, z = .bl k ∧ if k = true then c E env h3 fun w h4 => δ' y w h4 Q else Q (.bl false) h3
section
variable {a b c : Expr} {εa εb εc : DE} {r r' : R2} {δ δ' : D2} {pos : Pos}
theorem chain_read {g : G} (hd : OpD g r δ) (hd' : OpD g r' δ') : ∀ σ H Q, LE g W (eChain δ δ' εa εb εc) σ H Q → tChain r r' (LE g W εa) (LE g W εb) (LE g W εc) σ H Q := fun σ H Q ⟨μ, env, h, Q0, E0, r, re, q, p, px⟩ =>
  ⟨μ, env, h, _, E0, r, re, q, fun x h1 v H1 μ1 q1 r1 l1 rv => ⟨μ1, env, h1, _, E0, r1, re.le l1, q1, fun y h2 u H2 μ2 q2 r2 l2 ru =>
    hd H2 μ2 h2 v u x y _ _ r2 (rv.le l2) ru q2 fun z h3 t H3 μ3 ⟨k, e, q3⟩ r3 l3 rz => by
      subst e
      rw [rz.inv_bl]
      refine ⟨k, rfl, ?_⟩
      cases k with
      | false => exact p _ _ _ _ _ q3 r3 (l1.trans (l2.trans l3)) (.bl _)
      | true =>
        have lt := l1.trans (l2.trans l3)
        refine ⟨μ3, env, h3, _, E0, r3, re.le lt, q3, fun y' h4 u' H4 μ4 q4 r4 l4 ru' => hd' H4 μ4 h4 u u' y y' Q0 Q r4 (ru.le (l3.trans l4)) ru' q4 (p.le (lt.trans l4)), px.le lt⟩, px.le l1⟩, px⟩
theorem pd_chain {op op' : CmpOp} (ho : OpR X (compareOp op) r) (hd : OpD (gOf X T) r δ) (ho' : OpR X (compareOp op') r') (hd' : OpD (gOf X T) r' δ') (ha : PD X T W a εa) (hb : PD X T W b εb) (hc : PD X T W c εc)
    (hm : lastMarks [op, op'] [b, c] = false := by with_unfolding_all rfl) : PD X T W (.Compare a [op, op'] [b, c] pos) (eChain δ δ' εa εb εc) := PE.imp (pe_chain ho ho' ha hb hc hm) (chain_read hd hd')
theorem pdt_chain {op op' : CmpOp} (ho : OpR X (compareOp op) r) (hd : OpD (gOf X T) r δ) (ho' : OpR X (compareOp op') r') (hd' : OpD (gOf X T) r' δ') (ha : PD X T W a εa) (hb : PD X T W b εb) (hc : PD X T W c εc)
    (hm : lastMarks [op, op'] [b, c] = false := by with_unfolding_all rfl) : PDT X T W (.Compare a [op, op'] [b, c] pos) (eTst (eChain δ δ' εa εb εc)) :=
  PT.imp (pt_chain ho ho' ha hb hc hm) fun σ H Q ⟨μ, env, h, Q0, E0, r, re, q, p, px⟩ =>
    chain_read hd hd' σ H _ ⟨μ, env, h, _, E0, r, re, q, fun x h1 v H1 μ1 ⟨k, e, q1⟩ r1 l1 rv => by subst e; rw [rv.inv_bl]; exact ⟨k, rfl, p _ _ _ _ q1 r1 l1⟩, px⟩
end
def eNotT (t : DT) : DT := fun E env h Q => t E env h fun b h1 => Q (!b) h1
def eAnd (t u : DT) : DT := fun E env h Q => t E env h fun b h1 => if b = true then u E env h1 Q else Q false h1
def eOr (t u : DT) : DT := fun E env h Q => t E env h fun b h1 => if b = true then Q true h1 else u E env h1 Q
section
variable {a b : Expr} {rest : List Expr} {α β : DT} {εa εb : DE} {pos : Pos}
theorem pdt_not (ha : PDT X T W a α) : PDT X T W (.UnaryOp .Not a pos) (eNotT α) :=
  PT.imp (pt_not ha) fun σ H Q ⟨μ, env, h, Q0, E0, r, re, q, p, px⟩ => ⟨μ, env, h, _, E0, r, re, q, fun b h1 H1 μ1 q1 r1 l1 => p _ _ _ _ q1 r1 l1, px⟩
theorem pdw_and1 (ha : PDT X T W a α) : PDW X T W (.BoolOp .And [a] pos) α := pw_and1 ha
theorem pdw_or1 (ha : PDT X T W a α) : PDW X T W (.BoolOp .Or [a] pos) α := pw_or1 ha
theorem pdw_and (ha : PDT X T W a α) (hb : PDW X T W (.BoolOp .And (b :: rest) pos) β) : PDW X T W (.BoolOp .And (a :: b :: rest) pos) (eAnd α β) :=
  PW.imp (pw_and ha hb) fun σ H Q ⟨μ, env, h, Q0, E0, r, re, q, p, px⟩ => ⟨μ, env, h, _, E0, r, re, q, fun b h1 H1 μ1 q1 r1 l1 => by
    cases b with
    | true => exact ⟨μ1, env, h1, _, E0, r1, re.le l1, q1, p.le l1, px.le l1⟩
    | false => exact p _ _ _ _ q1 r1 l1, px⟩
theorem pdw_or (ha : PDT X T W a α) (hb : PDW X T W (.BoolOp .Or (b :: rest) pos) β) : PDW X T W (.BoolOp .Or (a :: b :: rest) pos) (eOr α β) :=
  PW.imp (pw_or ha hb) fun σ H Q ⟨μ, env, h, Q0, E0, r, re, q, p, px⟩ => ⟨μ, env, h, _, E0, r, re, q, fun b h1 H1 μ1 q1 r1 l1 => by
    cases b with
    | false => exact ⟨μ1, env, h1, _, E0, r1, re.le l1, q1, p.le l1, px.le l1⟩
    | true => exact p _ _ _ _ q1 r1 l1, px⟩
theorem PDW.pt {e : Expr} (h : PDW X T W e α) : PDT X T W e α := PW.pt h
/-- .. as values -/
def eNot (ε : DE) : DE := fun E env h Q => ε E env h fun x h1 => dTru x h1 fun b h2 => Q (.bl (!b)) h2
def eAndV (ε δ : DE) : DE := fun E env h Q => ε E env h fun x h1 => dTru x h1 fun b h2 => if b = true then δ E env h2 Q else Q x h2
def eOrV (ε δ : DE) : DE := fun E env h Q => ε E env h fun x h1 => dTru x h1 fun b h2 => if b = true then Q x h2 else δ E env h2 Q
theorem pd_not (ha : PD X T W a εa) : PD X T W (.UnaryOp .Not a pos) (eNot εa) :=
  PE.imp (pe_notT ha) fun σ H Q ⟨μ, env, h, Q0, E0, r, re, q, p, px⟩ => ⟨μ, env, h, _, E0, r, re, q, fun x h1 v H1 μ1 q1 r1 l1 rv => by
    obtain ⟨k, h2, h3⟩ := tru_D r1 rv q1
    exact ⟨k, h2, p _ _ _ _ _ h3 r1 l1 (.bl _)⟩, px⟩
theorem pd_one {op : BoolOp} (ha : PD X T W a εa) : PD X T W (.BoolOp op [a] pos) εa := pe_one ha
theorem pd_and (ha : PD X T W a εa) (hb : PD X T W (.BoolOp .And (b :: rest) pos) εb) : PD X T W (.BoolOp .And (a :: b :: rest) pos) (eAndV εa εb) :=
  PE.imp (pe_andT ha hb) fun σ H Q ⟨μ, env, h, Q0, E0, r, re, q, p, px⟩ => ⟨μ, env, h, _, E0, r, re, q, fun x h1 v H1 μ1 q1 r1 l1 rv => by
    obtain ⟨k, h2, h3⟩ := tru_D r1 rv q1
    refine ⟨k, h2, ?_⟩
    cases k with
    | true => exact ⟨μ1, env, h1, _, E0, r1, re.le l1, h3, p.le l1, px.le l1⟩
    | false => exact p _ _ _ _ _ h3 r1 l1 rv, px⟩
theorem pd_or (ha : PD X T W a εa) (hb : PD X T W (.BoolOp .Or (b :: rest) pos) εb) : PD X T W (.BoolOp .Or (a :: b :: rest) pos) (eOrV εa εb) :=
  PE.imp (pe_orT ha hb) fun σ H Q ⟨μ, env, h, Q0, E0, r, re, q, p, px⟩ => ⟨μ, env, h, _, E0, r, re, q, fun x h1 v H1 μ1 q1 r1 l1 rv => by
    obtain ⟨k, h2, h3⟩ := tru_D r1 rv q1
    refine ⟨k, h2, ?_⟩
    cases k with
    | false => exact ⟨μ1, env, h1, _, E0, r1, re.le l1, h3, p.le l1, px.le l1⟩
    | true => exact p _ _ _ _ _ h3 r1 l1 rv, px⟩
def eIf (t : DT) (a b : DE) : DE := fun E env h Q => t E env h fun k h1 => if k = true then a E env h1 Q else b E env h1 Q
theorem pd_if {c : Expr} (hc : PDT X T W c α) (ha : PD X T W a εa) (hb : PD X T W b εb) : PD X T W (.IfExp c a b pos) (eIf α εa εb) :=
  PE.imp (pe_ifExp hc ha hb) fun σ H Q ⟨μ, env, h, Q0, E0, r, re, q, p, px⟩ => ⟨μ, env, h, _, E0, r, re, q, fun k h1 H1 μ1 q1 r1 l1 => by
    cases k with
    | true => exact ⟨μ1, env, h1, _, E0, r1, re.le l1, q1, p.le l1, px.le l1⟩
    | false => exact ⟨μ1, env, h1, _, E0, r1, re.le l1, q1, p.le l1, px.le l1⟩, px⟩
/-- is None -/
def isNon : D → Bool
  | .non => true
  | _ => false
def dIsN : D2 := fun x y h Q => y = .non ∧ Q (.bl (isNon x)) h
def dNotN : D2 := fun x y h Q => y = .non ∧ Q (.bl (!isNon x)) h
theorem rv_non {K : Frag} {H : Hp} {μ : List Addr} {v : V} {x : D} (r : RV K H μ v x) : decide (v = .non) = isNon x := by
  cases r <;> first | rfl | simp [isNon]
theorem op_isND : ∃ r, OpR X (compareOp .Is) r ∧ ∀ T, OpD (gOf X T) r dIsN := ⟨_, op_isN, fun T H μ h vx vy x y Q0 Q rh rx ry ⟨e, q⟩ p => by
  subst e
  exact ⟨ry.inv_non, by rw [rv_non rx]; exact p _ _ _ _ _ q rh .refl (.bl _)⟩⟩
theorem op_notND : ∃ r, OpR X (compareOp .IsNot) r ∧ ∀ T, OpD (gOf X T) r dNotN := ⟨_, op_notN, fun T H μ h vx vy x y Q0 Q rh rx ry ⟨e, q⟩ p => by
  subst e
  exact ⟨ry.inv_non, by rw [rv_non rx]; exact p _ _ _ _ _ q rh .refl (.bl _)⟩⟩
/-- is True, is False -/
def dIsB : D2 := fun x y h Q => match x, y with | .bl a, .bl b => Q (.bl (decide (a = b))) h | _, _ => False
theorem op_isBD : ∃ r, OpR X (compareOp .Is) r ∧ ∀ T, OpD (gOf X T) r dIsB := ⟨_, op_isBl, fun T H μ h vx vy x y Q0 Q rh rx ry q p => by
  unfold dIsB at q
  split at q
  · rw [rx.inv_bl, ry.inv_bl]
    exact ⟨_, _, rfl, rfl, p _ _ _ _ _ q rh .refl (.bl _)⟩
  · exact q.elim⟩
/-- -a -/
def eNeg (ε : DE) : DE := fun E env h Q => ε E env h fun x h1 => match x with | .int i => Q (.int (-i)) h1 | _ => False
theorem pd_neg (ha : PD X T W a εa) : PD X T W (.UnaryOp .USub a pos) (eNeg εa) :=
  PE.imp (pe_un un_neg ha) fun σ H Q ⟨μ, env, h, Q0, E0, r, re, q, p, px⟩ => ⟨μ, env, h, _, E0, r, re, q, fun x h1 v H1 μ1 q1 r1 l1 rv => by
    cases x with
    | int i => rw [rv.inv_int]; exact ⟨i, rfl, p _ _ _ _ _ q1 r1 l1 (.int _)⟩
    | _ => exact q1.elim, px⟩
end
/-! ### statements -/
def dNext : DS := fun D env h => D.nx env h
def dSeq (t u : DS) : DS := fun D env h => t { D with nx := u D } env h
def dExpr (ε : DE) : DS := fun D env h => ε D.xc env h fun _ h1 => D.nx env h1
def dRet (ε : DE) : DS := fun D env h => ε D.xc env h D.rt
def dRetN : DS := fun D _ h => D.rt .non h
def dIf (t : DT) (a b : DS) : DS := fun D env h => t D.xc env h fun k h1 => if k = true then a D env h1 else b D env h1
def dBrk : DS := fun D env h => D.bk env h
def dCnt : DS := fun D env h => D.ct env h
section
variable {st : Stmt} {rest sa sb : List Stmt} {t u : DS} {e : Expr} {ε : DE} {pos : Pos}
theorem pds_nil : PDSs X T W [] dNext := PSs.imp pss_nil fun D σ H ⟨μ, env, h, D0, r, re, q, p⟩ => p.nx env h σ H μ q r re .refl
theorem pds_cons (h1 : PDS X T W st t) (h2 : PDSs X T W rest u) : PDSs X T W (st :: rest) (dSeq t u) :=
  PSs.imp (pss_cons h1 h2) fun D σ H ⟨μ, env, h, D0, r, re, q, p⟩ => ⟨μ, env, h, _, r, re, q, ⟨fun env' h' σ' H' μ' q' r' re' l' => ⟨μ', env', h', D0, r', re', q', p.le l'⟩, p.rt, p.bk, p.ct, p.xc⟩⟩
theorem pds_one (h1 : PDS X T W st t) : PDSs X T W [st] t := pss_one h1
theorem pds_pass : PDS X T W (.Pass pos) dNext := PS.imp ps_pass fun D σ H ⟨μ, env, h, D0, r, re, q, p⟩ => p.nx env h σ H μ q r re .refl
theorem pds_brk : PDS X T W (.Break pos) dBrk := PS.imp ps_break fun D σ H ⟨μ, env, h, D0, r, re, q, p⟩ => p.bk env h σ H μ q r re .refl
theorem pds_cnt : PDS X T W (.Continue pos) dCnt := PS.imp ps_continue fun D σ H ⟨μ, env, h, D0, r, re, q, p⟩ => p.ct env h σ H μ q r re .refl
theorem pds_doc {x j pos pos'} : PDS X T W (.Expr (.Constant (.str x) j pos) pos') dNext := PS.imp ps_doc fun D σ H ⟨μ, env, h, D0, r, re, q, p⟩ => p.nx env h σ H μ q r re .refl
theorem pds_expr (he : PD X T W e ε) (hs : swapsWith e none pos.line X.env = pure false := by rfl) : PDS X T W (.Expr e pos) (dExpr ε) :=
  PS.imp (ps_expr he hs) fun D σ H ⟨μ, env, h, D0, r, re, q, p⟩ => ⟨μ, env, h, _, _, r, re, q, fun d h' v H' μ' q' r' l' rv => p.nx env h' σ H' μ' q' r' (re.le l') l', p.xc⟩
theorem pds_ret (he : PD X T W e ε) : PDS X T W (.Return (some e) pos) (dRet ε) :=
  PS.imp (ps_ret he) fun D σ H ⟨μ, env, h, D0, r, re, q, p⟩ => ⟨μ, env, h, _, _, r, re, q, p.rt, p.xc⟩
theorem pds_retN : PDS X T W (.Return none pos) dRetN := PS.imp ps_retN fun D σ H ⟨μ, env, h, D0, r, re, q, p⟩ => p.rt _ _ _ _ _ q r .refl .non
theorem pds_if {c : Expr} {α : DT} (hc : PDT X T W c α) (ha : PDSs X T W sa t) (hb : PDSs X T W sb u) : PDS X T W (.If c sa sb pos) (dIf α t u) :=
  PS.imp (ps_if hc ha hb) fun D σ H ⟨μ, env, h, D0, r, re, q, p⟩ => ⟨μ, env, h, _, _, r, re, q, fun k h1 H1 μ1 q1 r1 l1 => by
    cases k with
    | true => exact ⟨μ1, env, h1, D0, r1, re.le l1, q1, p.le l1⟩
    | false => exact ⟨μ1, env, h1, D0, r1, re.le l1, q1, p.le l1⟩, p.xc⟩
end
/-! ### targets -/
abbrev DG := DXW → D → Env → DH → (Env → DH → Prop) → Prop
abbrev DGs := DXW → List D → Env → DH → (Env → DH → Prop) → Prop
def LG (g : G) (W : WX) (γ : DG) : TG := fun v σ H Q => ∃ μ env h d Q0 E0, RelH g H μ h ∧ RelE g.K H μ σ env ∧ RV g.K H μ v d ∧ γ E0 d env h Q0 ∧ PostS g H μ Q0 Q ∧ PostX g H μ E0 W
def LGs (g : G) (W : WX) (γ : DGs) : TGs := fun vs σ H Q => ∃ μ env h ds Q0 E0, RelH g H μ h ∧ RelE g.K H μ σ env ∧ RVs g.K H μ vs ds ∧ γ E0 ds env h Q0 ∧ PostS g H μ Q0 Q ∧ PostX g H μ E0 W
def PDG (X : Cx) (T : List Addr) (W : WX) (e : Expr) (γ : DG) : Prop := PG X e (LG (gOf X T) W γ)
def PDGs (X : Cx) (T : List Addr) (W : WX) (es : List Expr) (γ : DGs) : Prop := PGs X es (LGs (gOf X T) W γ)
theorem PG.imp {e : Expr} {t t' : TG} (h : PG X e t) (i : ∀ v σ H Q, t' v σ H Q → t v σ H Q) : PG X e t' := ⟨fun pins s σ H v u Q I r q => h.run pins s σ H v u Q I r (i v σ H Q q)⟩
theorem PGs.imp {e : List Expr} {t t' : TGs} (h : PGs X e t) (i : ∀ v σ H Q, t' v σ H Q → t v σ H Q) : PGs X e t' := ⟨fun pins s σ H v u Q I r q => h.run pins s σ H v u Q I r (i v σ H Q q)⟩
def gVar (i : Nat) : DG := fun _ d env h Q => Q (env.set i (some d)) h
def gsNil : DGs := fun _ ds env h Q => ds = [] ∧ Q env h
def gsCons (γ : DG) (γs : DGs) : DGs := fun E ds env h Q => ∃ d r, ds = d :: r ∧ γ E d env h fun env1 h1 => γs E r env1 h1 Q
def gTupD (n : Nat) (γs : DGs) : DG := fun E d env h Q => ∃ ds, d = .tup ds ∧ ds.length = n ∧ γs E ds env h Q
theorem pdg_var {i : Nat} {x : Str} {pos : Pos} (S : Std X W) (hi : X.N[i]? = some x) (hx : Loc X.env.scope x) (hf : X.fn x = true ∨ X.env.scope.names.lookup x = some .local := by first | exact .inl rfl | exact .inr rfl | assumption) : PDG X T W (.Name x pos) (gVar i) :=
  PG.imp (pg_name S.nd hi hx hf) fun v σ H Q ⟨μ, env, h, d, Q0, E0, r, re, rv, q, p, px⟩ => p _ _ _ _ _ q r (re.put rv i) .refl
theorem pdgs_nil : PDGs X T W [] gsNil := PGs.imp pgs_nil fun v σ H Q ⟨μ, env, h, ds, Q0, E0, r, re, rv, ⟨e, q⟩, p, px⟩ => by
  subst e
  cases rv
  exact ⟨rfl, p _ _ _ _ _ q r re .refl⟩
theorem pdgs_cons {e : Expr} {es : List Expr} {γ : DG} {γs : DGs} (h1 : PDG X T W e γ) (h2 : PDGs X T W es γs)
    (hs : (assignEach (e :: es) X.env).map (·.2) = assign e X.env :: (assignEach es X.env).map (·.2) := by rfl) : PDGs X T W (e :: es) (gsCons γ γs) :=
  PGs.imp (pgs_cons h1 h2 hs) fun v σ H Q ⟨μ, env, h, ds, Q0, E0, r, re, rv, ⟨d, rest, e, q⟩, p, px⟩ => by
    subst e
    cases rv with
    | cons rv1 rv2 => exact ⟨_, _, rfl, μ, env, h, d, _, E0, r, re, rv1, q, fun env1 h1 σ1 H1 μ1 q1 r1 re1 l1 => ⟨μ1, env1, h1, rest, Q0, E0, r1, re1, rv2.le l1, q1, p.le l1, px.le l1⟩, px⟩
theorem pdg_tup {es : List Expr} {k : Nat} {pos : Pos} {γs : DGs} {n : Nat} (S : Std X W) (h : PDGs X T W es γs) (hn : (assignEach es X.env).length = n := by rfl) (hst : (assignEach es X.env).findIdx? (·.1) = none := by rfl) : PDG X T W (.Tuple es k pos) (gTupD n γs) :=
  PG.imp (pg_tup S.calm h hn hst) fun v σ H Q ⟨μ, env, h, d, Q0, E0, r, re, rv, ⟨ds, e, hl, q⟩, p, px⟩ => by
    subst e
    obtain ⟨a, vs, rfl, h1, h2⟩ := rv.inv_tup
    exact ⟨a, vs, rfl, h1, h2.length.trans hl, μ, env, h, ds, Q0, E0, r, re, h2, q, p, px⟩
def dAsg (ε : DE) (γ : DG) : DS := fun D env h => ε D.xc env h fun d h1 => γ D.xc d env h1 D.nx
section
variable {st : Stmt} {e tg : Expr} {ε : DE} {γ : DG} {pos : Pos}
theorem pds_asg (he : PD X T W e ε) (hg : PDG X T W tg γ) (hs : swapsWithSole [tg] e pos.line X.env = pure false := by rfl) (hw : swappedStores [tg] e X.env = pure none := by rfl)
    (h1 : (assignEach [tg] X.env).map (·.2) = [assign tg X.env] := by rfl) : PDS X T W (.Assign [tg] e pos) (dAsg ε γ) :=
  PS.imp (ps_asg he hg hs hw h1) fun D σ H ⟨μ, env, h, D0, r, re, q, p⟩ => ⟨μ, env, h, _, _, r, re, q, fun d h' v H' μ' q' r' l' rv => ⟨μ', env, h', d, _, _, r', re.le l', rv, q', p.nx.le l', p.xc.le l'⟩, p.xc⟩
theorem pds_set {i : Nat} {x : Str} {pos' : Pos} (S : Std X W) (hi : X.N[i]? = some x) (hx : Loc X.env.scope x) (he : PD X T W e ε) (hs : swapsWith e (some (.Name x pos')) pos.line X.env = pure false := by rfl) (hf : X.fn x = true ∨ X.env.scope.names.lookup x = some .local := by first | exact .inl rfl | exact .inr rfl | assumption) :
    PDS X T W (.Assign [.Name x pos'] e pos) (dAsg ε (gVar i)) :=
  PS.imp (ps_set S.nd hi hx he hs hf) fun D σ H ⟨μ, env, h, D0, r, re, q, p⟩ => ⟨μ, env, h, _, _, r, re, q, fun d h' v H' μ' q' r' l' rv => p.nx _ _ _ _ _ q' r' ((re.le l').put rv i) l', p.xc⟩
end
/-- a, b = x, y (no tuple is made) -/
def dPar (i j : Nat) (α : DA) : DS := fun D env h => α D.xc env h fun ds h1 => ∃ x y, ds = [x, y] ∧ D.nx ((env.set i (some x)).set j (some y)) h1
/-! ### while -/
def dWhile (t : DT) (b : DS) : DS := fun D env h => ∃ J : Nat → Env → DH → Prop, (∃ m, J m env h) ∧ ∀ m env h, J m env h → t D.xc env h fun k h1 =>
  if k = true then b { D with nx := fun env2 h2 => ∃ m', m' < m ∧ J m' env2 h2, ct := fun env2 h2 => ∃ m', m' < m ∧ J m' env2 h2, bk := D.nx } env h1 else D.nx env h1
theorem pds_while {c : Expr} {body : List Stmt} {α : DT} {τ : DS} {pos : Pos} (S : Std X W) (hc : PDT X T W c α) (hb : PDSs X T W body τ) : PDS X T W (.While c body [] pos) (dWhile α τ) :=
  PS.imp (ps_while S.po hc hb) fun D σ H ⟨μ, env, h, D0, r, re, ⟨J, ⟨m0, j0⟩, turn⟩, p⟩ => by
    refine ⟨fun m σ' H' => ∃ μ' env' h', RelH (gOf X T) H' μ' h' ∧ RelE X.K H' μ' σ' env' ∧ Le X.K H μ H' μ' ∧ J m env' h', ⟨m0, μ, env, h, r, re, .refl, j0⟩, ?_⟩
    rintro m σ1 H1 ⟨μ1, env1, h1, r1, re1, l1, j1⟩
    refine ⟨μ1, env1, h1, _, D0.xc, r1, re1, turn m env1 h1 j1, fun k h2 H2 μ2 q2 r2 l2 => ?_, p.xc.le l1⟩
    have lt := l1.trans l2
    cases k with
    | true =>
      rw [if_pos rfl] at q2
      dsimp only
      rw [if_pos rfl]
      refine ⟨fun σ' H' => ∃ m', m' < m ∧ ∃ μ' env' h', RelH (gOf X T) H' μ' h' ∧ RelE X.K H' μ' σ' env' ∧ Le X.K H μ H' μ' ∧ J m' env' h', fun _ _ z => z, μ2, env1, h2, _, r2, re1.le l2, q2, ⟨?_, p.rt.le lt, p.nx.le lt, ?_, p.xc.le lt⟩⟩
      · exact fun env' h' σ' H' μ' ⟨m', hm, j'⟩ r' re' l' => ⟨m', hm, μ', env', h', r', re', lt.trans l', j'⟩
      · exact fun env' h' σ' H' μ' ⟨m', hm, j'⟩ r' re' l' => ⟨m', hm, μ', env', h', r', re', lt.trans l', j'⟩
    | false =>
      rw [if_neg Bool.false_ne_true] at q2
      dsimp only
      rw [if_neg Bool.false_ne_true]
      exact p.nx _ _ _ _ _ q2 r2 (re1.le l2) lt
end
end DL
set_option Elab.async false
set_option linter.all false
set_option maxRecDepth 100000
set_option maxHeartbeats 2000000
/-! enumerate(t), t a tuple, in a for. -/
namespace SB
open PySem PySem.Spec PyProof.Rows L2
open Sem (wp)
theorem enum_tup_new {v : Value} {o : Obj} {Hh : Heap → Prop} (B : Begins v o Hh) :
    Meets (Builtin.«enumerate.__new__» ⟨[.type "enumerate", v], []⟩) (fun _ R s => Hh s.heap ∧
      R (.ok (.ret (.ref (s.heap.push o).objs.size))) { s with heap := (s.heap.push o).push { cls := .type "enumerate", data := .fields #[.none, .bool false, .ref s.heap.objs.size, rawInt 0, .none, .none] } }) :=
  .of_wp fun prog w A R s h => by
    obtain ⟨hp, g, d, tk, os⟩ := s
    obtain ⟨h1, h⟩ := h
    have hsub := sub_enumerate
    have q1 : ∀ {A' : Around} {E : Value → Shared → Prop} {Q : Value → Shared → Prop}, Q (.ref hp.objs.size) ⟨hp.push o, g, d, tk, os⟩ → wpAny (model prog w) A' (pyIter v) Q E ⟨hp, g, d, tk, os⟩ :=
      fun q => B.iter prog w _ _ ⟨hp, g, d, tk, os⟩ _ h1 q
    wp_walk using q1
    refine wpAny_stack_any fun st => wpAny_pure ?_
    split
    · rename_i c _ _ _ _ _
      cases (c == Value.type "enumerate") <;> (wp_walk using q1; exact ⟨_, rfl, h⟩)
    · wp_walk using q1
      exact ⟨_, rfl, h⟩
section
variable {prog : Program} {w : World} {A : Around} {E : Value → Shared → Prop} {s : Shared}
theorem call_enum_tup {t : Addr} {items : Array Value} {Q : Value → Shared → Prop} (hL : s.heap.IsTuple t items)
    (h : ∀ h', IsEnum h' (s.heap.objs.size + 1) s.heap.objs.size 0 .none → h'.IsTupleIter s.heap.objs.size t 0 → (∀ b o, s.heap.get? b = some o → h'.get? b = some o) →
      Q (.ref (s.heap.objs.size + 1)) { s with heap := h' }) :
    wpAny (model prog w) A (call (.type "enumerate") [.ref t]) Q E s := by
  refine callType_new F.called_enumerate (by decide) (F.typeCall_enumerate_1 _) (F.newCall_enumerate_1 _) (fun obj => F.args_object_init_2 obj _) F.entry_enumerate_new
    (enum_tup_new (begins_tuple t items)) ⟨hL, ?_⟩
  generalize ho : ({ cls := .type "tuple_iterator", data := .fields #[.ref t, .int 0 0] } : Obj) = o
  have hf : o.isFreed = false := by rw [← ho]; rfl
  have hz : (s.heap.push o).objs.size = s.heap.objs.size + 1 := Heap.size_push ..
  show _ ∧ _
  rw [hz]
  generalize hn : ({ cls := .type "enumerate", data := .fields #[.none, .bool false, .ref s.heap.objs.size, rawInt 0, .none, .none] } : Obj) = o2
  have he : ((s.heap.push o).push o2).get? (s.heap.objs.size + 1) = some o2 := by
    have q := Heap.get?_push_size (s.heap.push o) (o := o2) (by rw [← hn]; rfl)
    rw [hz] at q
    exact q
  have hi : ((s.heap.push o).push o2).get? s.heap.objs.size = some o := Heap.get?_push_of_some _ (Heap.get?_push_size _ (by rw [← ho]; rfl))
  subst hn
  subst ho
  exact ⟨⟨_, he, rfl⟩, h _ he ⟨_, hi, rfl, rfl⟩ fun b ob e => Heap.get?_push_of_some _ (Heap.get?_push_of_some _ e)⟩
end
/-- the tuple at a, each item in a new pair with its place -/
def Itet (K : PySem.W.Frag) (a : Addr) : It :=
  ⟨fun i H => ∃ (xs : List V) (x : V), SqT K H a xs ∧ xs[i]? = some x,
    fun i H v H' => ∃ T x, v = .ref T ∧ H T = none ∧ H' = upd H T (.tup [.int (i : Nat), x]) ∧ ∀ xs, SqT K H a xs → xs[i]? = some x,
    fun i H => ∃ xs : List V, SqT K H a xs ∧ xs.length = i⟩
theorem turn_enumT {P : Program} {w : World} {K : PySem.W.Frag} {elts : List Expr} {kk : Nat} {tpos : Pos} (a e it : Addr) (hai : a ≠ it) (hae : a ≠ e) :
    Turn P w K (.Tuple elts kk tpos) (Itet K a) [e, it] e (fun i h => (∃ old, IsEnum h e it ((i : Nat) : Int) old) ∧ h.IsTupleIter it a i ∧ e ≠ it) where
  mem := List.mem_cons_self
  obj := fun i h st b hb => by
    obtain ⟨⟨old, he⟩, ⟨o, ho, hc, hd⟩, _⟩ := st
    rcases List.mem_cons.mp hb with rfl | hb
    · exact ⟨_, he, fun v q => nomatch q⟩
    · rw [List.mem_singleton.mp hb]
      exact ⟨o, ho, fun v q => by rw [hd] at q; cases q⟩
  keep := fun i h h' st k => let ⟨⟨old, he⟩, hi, hne⟩ := st; ⟨⟨old, k e (by simp) _ he⟩, hi.at fun o q => k it (by simp) o q, hne⟩
  item := by
    intro X hP hw hK hc i pins s σ H E I hf st hg
    subst hP hw hK
    obtain ⟨⟨old, he⟩, hit, hne⟩ := st
    obtain ⟨xs, x, hq, hx⟩ := hg
    obtain ⟨its, rv, p, hz⟩ := I.tuple hq
    obtain ⟨u, hu, ru⟩ := rv.get hx
    have hel : e < s.heap.objs.size := Heap.lt_size he
    have hil : it < s.heap.objs.size := by obtain ⟨_, q, _⟩ := hit; exact Heap.lt_size q
    have hlt : i < its.toArray.size := by
      have := (List.getElem?_eq_some_iff.mp hu).1
      simpa using this
    have hh : X.A.in1.handled = none := I.ok.hd hc
    refine wpAny_pyNext_enum_itemD (Draws.tuple hh it a hai its.toArray) he ⟨hit, p⟩ hlt hne (by simp [hne, Ne.symm hae]) fun y h' tk hy ho hit' hT hsz hk => ?_
    have hyu : y = u := by
      have q : its[i]? = some y := by simpa using hy
      rw [hu] at q
      exact (Option.some.inj q).symm
    subst hyu
    refine ⟨_, rfl, wpAny_letOwnedTupleGo_enum (s := { s with heap := h', toks := tk + 1 }) ho fun h2 he' sb => ?_⟩
    have ne_e : s.heap.objs.size ≠ e := Nat.ne_of_gt hel
    have hT2 : h2.get? s.heap.objs.size = some { cls := .type "tuple", data := .seq #[.int i tk, y] } := (sb.2 _ ne_e).trans hT
    have new : ObjOk X.prog X.w (upd H s.heap.objs.size (.tup [.int (i : Nat), x])) h2 s.heap.objs.size (.tup [.int (i : Nat), x]) :=
      ⟨by show 2 ≤ sizeLine; decide, [.int i tk, y], .cons ⟨_, rfl⟩ (.cons ru .nil), ⟨_, hT2, rfl, _, rfl⟩⟩
    have kept : ∀ b ob, b ∉ [e, it] → s.heap.get? b = some ob → h2.get? b = some ob := fun b ob hb q => by
      have n1 : b ≠ e := fun z => hb (by simp [z])
      have n2 : b ≠ it := fun z => hb (by simp [z])
      exact (sb.2 b n1).trans (hk b ob n1 n2 q)
    have I1 : Inv X pins σ (upd H s.heap.objs.size (.tup [.int (i : Nat), x])) { s with heap := h2, toks := tk + 1 } := I.turnedNew (ch := [e, it]) kept hf (Nat.le_refl _) new
    refine ⟨.ref s.heap.objs.size, _, I1, rfl, ⟨_, x, rfl, I.hok.fresh (Nat.le_refl _), rfl, fun ys hys => by rw [I.tuple_inj hys hq]; exact hx⟩, ⟨⟨y, ?_⟩, hit'.1.at fun o q => (sb.2 it (Ne.symm hne)).trans q, hne⟩, fun b hb => ?_⟩
    · rw [show ((i + 1 : Nat) : Int) = (i : Int) + 1 by omega]
      exact he'
    · have hb' : b < s.heap.objs.size := by
        rcases List.mem_cons.mp hb with rfl | hb
        · exact hel
        · rw [List.mem_singleton.mp hb]; exact hil
      rw [upd_ne (Nat.ne_of_lt hb')]
      exact (hf b hb).1
  done := by
    intro X hP hw hK hc i pins s σ H E I hf st hg
    subst hP hw hK
    obtain ⟨⟨old, he⟩, hit, hne⟩ := st
    obtain ⟨xs, hq, hx⟩ := hg
    obtain ⟨its, rv, p, hz⟩ := I.tuple hq
    have hl : its.toArray.size = i := by rw [List.size_toArray, ← rv.length]; exact hx
    have hh : X.A.in1.handled = none := I.ok.hd hc
    obtain ⟨f0, f1, f2, f3, f4, f5⟩ := hf it (by simp)
    exact wpAny_pyNext_enum_endD (Draws.tuple hh it a hai its.toArray) he (by rw [hl]; exact ⟨hit, p⟩) fun h' eb => ⟨rfl, I.turned (t' := s.toks) (fun b o hb q => eb b o hb q) f0 f1 f3 f4 f5⟩
  self := fun A i s Q E st h => let ⟨⟨_, he⟩, _⟩ := st; wpAny_pyIter_enum he h
def iEnumT (K : PySem.W.Frag) (ta : TA) : TI := fun σ H R => ta σ H fun vs H1 => ∃ a xs, vs = [.ref a] ∧ SqT K H1 a xs ∧ R (Itet K a) H1
theorem pi_enumT {X : Cx} {e : Expr} {ta : TA} {p pos tpos : Pos} {elts : List Expr} {kk : Nat} (hg : Gl X "enumerate") (hm : X.mg "enumerate" = none) (ha : PA X [e] ta) (hs : starEach [e] X.env = [(false, eval e X.env)] := by rfl) :
    PI X (.Tuple elts kk tpos) (.Call (.Name "enumerate" p) [e] [] pos) (iEnumT X.K ta) := by
  refine ⟨fun pins s σ H R I h => ?_⟩
  refine Call_ (ld_blt I hg hm boot_enumerate (PyProof.Rows.callWith_type1 (thn (ha.run pos pins s σ H _ I h) fun us s1 ⟨vs, H1, I1, r1, q1⟩ => ?_) hs rfl))
  obtain ⟨a, xs, rfl, hq, q⟩ := q1
  obtain ⟨u, rfl, r⟩ : ∃ u, us = [u] ∧ RelV (.ref a) u := by
    cases r1 with
    | cons r rr => cases rr; exact ⟨_, rfl, r⟩
  obtain rfl : u = Value.ref a := r
  obtain ⟨its, rv, p', hz⟩ := I1.tuple hq
  have hal : a < s1.heap.objs.size := by obtain ⟨o, e, _⟩ := p'; exact Heap.lt_size e
  refine call_enum_tup p' fun h' he hit hk => wpAny_pyIter_enum he ?_
  have I2 : Inv X pins σ H1 { s1 with heap := h' } := I1.kept (t' := s1.toks) hk
  refine ⟨s1.heap.objs.size + 1, [s1.heap.objs.size + 1, s1.heap.objs.size], _, _, H1, rfl, I2, turn_enumT a (s1.heap.objs.size + 1) s1.heap.objs.size (Nat.ne_of_lt hal) (Nat.ne_of_lt (Nat.lt_succ_of_lt hal)), ⟨⟨.none, he⟩, hit, Nat.succ_ne_self _⟩, fun b hb => ?_, q⟩
  have hle : s1.heap.objs.size ≤ b := by
    rcases List.mem_cons.mp hb with rfl | hb
    · exact Nat.le_add_right _ _
    · rw [List.mem_singleton.mp hb]; exact Nat.le_refl _
  exact I1.fpOk hle (I1.hok.fresh hle)
theorem walk_enumT {K : PySem.W.Frag} {a : Addr} {xs : List V} : Walk (Itet K a) xs.length (fun H => SqT K H a xs) (YPair (fun i => some (.int (i : Nat))) (fun i => xs[i]?)) := by
  refine ⟨fun i _ hi q => ⟨xs, xs[i], q, by simp [hi]⟩, fun _ q => ⟨xs, q, rfl⟩, fun i H v H' _ q y => ?_⟩
  obtain ⟨T, x, h1, h2, h3, h4⟩ := y
  exact ⟨T, .int (i : Nat), x, h1, h2, h3, rfl, h4 xs q⟩
end SB
set_option Elab.async false
set_option linter.all false
set_option maxRecDepth 100000
set_option maxHeartbeats 4000000
namespace DL
open PySem PySem.Spec PyProof.Rows L2
open PySem.W (Frag)
/-! ### for -/
/-- what a loop goes over: its items, what has to be so of the heap at each turn -/
abbrev DI := DXW → Env → DH → (List D → (DH → Prop) → DH → Prop) → Prop
/-- the iterator J gives the items, while chk -/
def ItOk (g : G) (J : It) (items : List D) (chk : DH → Prop) (H0 : Hp) (μ0 : List Addr) : Prop :=
  ∀ (H : Hp) (μ : List Addr) (h : DH), RelH g H μ h → Le g.K H0 μ0 H μ → chk h →
    (∀ (i : Nat) (x : D), items[i]? = some x → J.go i H ∧ ∀ v H', J.yld i H v H' → RelH g H' μ h ∧ Le g.K H μ H' μ ∧ RV g.K H' μ v x) ∧ J.stop items.length H
def LI (g : G) (W : WX) (ι : DI) : TI := fun σ H R => ∃ μ env h R0 E0, RelH g H μ h ∧ RelE g.K H μ σ env ∧ ι E0 env h R0 ∧
  (∀ items chk h' J H' μ', R0 items chk h' → RelH g H' μ' h' → Le g.K H μ H' μ' → ItOk g J items chk H' μ' → R J H') ∧ PostX g H μ E0 W
def PDI (X : Cx) (T : List Addr) (W : WX) (tg iter : Expr) (ι : DI) : Prop := PI X tg iter (LI (gOf X T) W ι)
theorem PI.imp {X : Cx} {tg e : Expr} {t t' : TI} (h : PI X tg e t) (i : ∀ σ H Q, t' σ H Q → t σ H Q) : PI X tg e t' := ⟨fun pins s σ H Q I q => h.run pins s σ H Q I (i σ H Q q)⟩
def dLoop (γ : DG) (τ : DS) (K : DEnds) (chk : DH → Prop) : List D → Env → DH → Prop
  | [], env, h => chk h ∧ K.nx env h
  | x :: xs, env, h => chk h ∧ γ K.xc x env h fun env1 h1 => τ { K with nx := dLoop γ τ K chk xs, ct := dLoop γ τ K chk xs, bk := K.nx } env1 h1
def dFor (ι : DI) (γ : DG) (τ : DS) : DS := fun K env h => ι K.xc env h fun items chk h1 => dLoop γ τ K chk items env h1
theorem dLoop_chk {γ : DG} {τ : DS} {K : DEnds} {chk : DH → Prop} {xs : List D} {env : Env} {h : DH} (q : dLoop γ τ K chk xs env h) : chk h := by
  cases xs <;> exact q.1
section
variable {X : Cx} {T : List Addr} {W : WX}
theorem pds_for {iter tg : Expr} {body : List Stmt} {ι : DI} {γ : DG} {τ : DS} {pos : Pos} (S : Std X W) (hi : PDI X T W tg iter ι) (hg : PDG X T W tg γ) (hb : PDSs X T W body τ)
    (hs : ∀ x, foldedSetIterable iter X.env x = pure x := by intro _; rfl) : PDS X T W (.For tg iter body [] pos) (dFor ι γ τ) :=
  PS.imp (ps_for S.po S.calm hi hg hb hs) fun D σ H ⟨μ, env, h, D0, r, re, q, p⟩ => by
    refine ⟨μ, env, h, _, _, r, re, q, fun items chk h1 J H1 μ1 q1 r1 l1 ok => ?_, p.xc⟩
    refine ⟨fun i m σ' H' => m = items.length - i ∧ i ≤ items.length ∧ ∃ μ' env' h', RelH (gOf X T) H' μ' h' ∧ RelE X.K H' μ' σ' env' ∧ Le X.K H1 μ1 H' μ' ∧ dLoop γ τ D0 chk (items.drop i) env' h',
      ⟨items.length, by simp, Nat.zero_le _, μ1, env, h1, r1, re.le l1, .refl, q1⟩, ?_⟩
    rintro i m σ2 H2 ⟨rfl, hi, μ2, env2, h2, r2, re2, l2, q2⟩
    have lt := l1.trans l2
    obtain ⟨go, stop⟩ := ok H2 μ2 h2 r2 l2 (dLoop_chk q2)
    by_cases c : i < items.length
    · rw [List.drop_eq_getElem_cons c] at q2
      obtain ⟨_, q2⟩ := q2
      obtain ⟨g1, g2⟩ := go i items[i] (List.getElem?_eq_getElem c)
      refine .inr ⟨g1, fun σ' H' => ∃ μ' env' h', RelH (gOf X T) H' μ' h' ∧ RelE X.K H' μ' σ' env' ∧ Le X.K H1 μ1 H' μ' ∧ dLoop γ τ D0 chk (items.drop (i + 1)) env' h',
        fun σ' H' z => ⟨items.length - (i + 1), by omega, rfl, c, z⟩, fun v H3 y => ?_⟩
      obtain ⟨r3, l3, rv⟩ := g2 v H3 y
      refine ⟨μ2, env2, h2, items[i], _, _, r3, re2.le l3, rv, q2, fun env4 h4 σ4 H4 μ4 q4 r4 re4 l4 => ?_, p.xc.le (lt.trans l3)⟩
      have l24 := (l2.trans l3).trans l4
      have lt4 := (lt.trans l3).trans l4
      exact ⟨μ4, env4, h4, _, r4, re4, q4, ⟨fun env5 h5 σ5 H5 μ5 q5 r5 re5 l5 => ⟨μ5, env5, h5, r5, re5, l24.trans l5, q5⟩, p.rt.le lt4, p.nx.le lt4,
        fun env5 h5 σ5 H5 μ5 q5 r5 re5 l5 => ⟨μ5, env5, h5, r5, re5, l24.trans l5, q5⟩, p.xc.le lt4⟩⟩
    · have e : i = items.length := by omega
      subst e
      rw [List.drop_length] at q2
      exact .inl ⟨stop, p.nx _ _ _ _ _ q2.2 r2 re2 lt⟩
/-! ### what may be walked -/
/-- a list or a tuple -/
def iSeq (ε : DE) : DI := fun E env h R => ε E env h fun d h1 => match d with
  | .ref n => ∃ xs, lstOf h1 n = some xs ∧ R xs (fun h => lstOf h n = some xs) h1
  | .tup xs => R xs (fun _ => True) h1
  | _ => False
theorem itok_list {g : G} {H0 : Hp} {μ0 : List Addr} {n : Nat} {a : Addr} {xs : List D} (hn : μ0[n]? = some a) : ItOk g (Itl g.K a) xs (fun h => lstOf h n = some xs) H0 μ0 := fun H μ h r l e => by
  obtain ⟨vs, h1, h2⟩ := lst_at r (l.at hn) e
  refine ⟨fun i x hx => ?_, vs, h1, by rw [h2.length]; exact Nat.le_refl _⟩
  obtain ⟨v, h3, h4⟩ := h2.get hx
  refine ⟨⟨vs, v, h1, h3⟩, fun u H' y => ?_⟩
  obtain ⟨rfl, y⟩ := y
  have e2 := y vs h1
  rw [h3] at e2
  cases e2
  exact ⟨r, .refl, h4⟩
theorem itok_tup {g : G} {H0 : Hp} {μ0 : List Addr} {a : Addr} {vs : List V} {xs : List D} (ha : SqT g.K H0 a vs) (rv : RVs g.K H0 μ0 vs xs) : ItOk g (Itt g.K a) xs (fun _ => True) H0 μ0 := fun H μ h r l _ => by
  have h1 := l.tup _ _ ha
  have h2 := rv.le l
  refine ⟨fun i x hx => ?_, vs, h1, by rw [h2.length]; exact Nat.le_refl _⟩
  obtain ⟨v, h3, h4⟩ := h2.get hx
  refine ⟨⟨vs, v, h1, h3⟩, fun u H' y => ?_⟩
  obtain ⟨rfl, y⟩ := y
  have e2 := y vs h1
  rw [h3] at e2
  cases e2
  exact ⟨r, .refl, h4⟩
/-- a list or a tuple is walked, at the hand layer -/
theorem pi_seqA {tg l : Expr} {tl : TE} (hl : PE X l tl) : PI X tg l (fun σ H R => tl σ H fun x H1 => ∃ a, x = .ref a ∧ (((∃ xs, SqL X.K H1 a xs) ∧ R (Itl X.K a) H1) ∨ ((∃ xs, SqT X.K H1 a xs) ∧ R (Itt X.K a) H1))) := by
  refine ⟨fun pins s σ H R I h => ?_⟩
  refine thn (hl.run pins s σ H _ I h) fun v s1 ⟨x, H1, I1, r1, q1⟩ => ?_
  obtain ⟨a, rfl, q1⟩ := q1
  obtain rfl : v = Value.ref a := r1
  have fr : ∀ b ∈ [s1.heap.objs.size], FpOk X pins H1 b := fun b hb => by
    rw [List.mem_singleton.mp hb]
    exact I1.fpOk (Nat.le_refl _) (I1.hok.fresh (Nat.le_refl _))
  rcases q1 with ⟨⟨xs, hq⟩, q⟩ | ⟨⟨xs, hq⟩, q⟩
  · obtain ⟨its, _, pl, _⟩ := I1.list hq
    exact wpAny_pyIter_list pl.isList ⟨s1.heap.objs.size, [s1.heap.objs.size], _, Itl X.K a, H1, rfl, I1.kept (t' := s1.toks) fun b o e => Heap.get?_push_of_some _ e, turn_list a _, ⟨_, Heap.get?_push_size _ rfl, rfl, rfl⟩, fr, q⟩
  · obtain ⟨its, _, pl, _⟩ := I1.tuple hq
    exact wpAny_pyIter_tuple (show s1.heap.IsTuple a its.toArray from pl) ⟨s1.heap.objs.size, [s1.heap.objs.size], _, Itt X.K a, H1, rfl, I1.kept (t' := s1.toks) fun b o e => Heap.get?_push_of_some _ e, turn_tuple a _, ⟨_, Heap.get?_push_size _ rfl, rfl, rfl⟩, fr, q⟩
theorem pdi_seq {tg e : Expr} {ε : DE} (he : PD X T W e ε) : PDI X T W tg e (iSeq ε) :=
  PI.imp (pi_seqA he) fun σ H R ⟨μ, env, h, R0, E0, r, re, q, p, px⟩ => ⟨μ, env, h, _, E0, r, re, q, fun d h1 v H1 μ1 q1 r1 l1 rv => by
    cases d with
    | ref n =>
      obtain ⟨xs, e1, q1⟩ := q1
      obtain ⟨a, rfl, hn⟩ := rv.inv_ref
      obtain ⟨vs, h2, _⟩ := lst_at r1 hn e1
      exact ⟨a, rfl, .inl ⟨⟨vs, h2⟩, p _ _ _ _ _ _ q1 r1 l1 (itok_list hn)⟩⟩
    | tup xs =>
      obtain ⟨a, vs, rfl, h2, h3⟩ := rv.inv_tup
      exact ⟨a, rfl, .inr ⟨⟨vs, h2⟩, p _ _ _ _ _ _ q1 r1 l1 (itok_tup h2 h3)⟩⟩
    | _ => exact q1.elim, px⟩
/-- range -/
def rangeD (lo : Int) : Nat → List D
  | 0 => []
  | n + 1 => .int lo :: rangeD (lo + 1) n
theorem rangeD_len : ∀ (n : Nat) (lo : Int), (rangeD lo n).length = n
  | 0, _ => rfl
  | n + 1, lo => by rw [rangeD, List.length_cons, rangeD_len n]
theorem rangeD_get : ∀ (n : Nat) (lo : Int) (i : Nat) (x : D), (rangeD lo n)[i]? = some x → i < n ∧ x = .int (lo + i)
  | 0, _, i, x, e => by simp [rangeD] at e
  | n + 1, lo, 0, x, e => by simp [rangeD] at e; exact ⟨by omega, by rw [← e]; simp⟩
  | n + 1, lo, i + 1, x, e => by
    obtain ⟨h1, h2⟩ := rangeD_get n (lo + 1) i x (by simpa [rangeD] using e)
    exact ⟨by omega, by rw [h2]; congr 1; omega⟩
theorem itok_rng {g : G} {H0 : Hp} {μ0 : List Addr} {lo : Int} {n : Nat} : ItOk g (Itr lo n) (rangeD lo n) (fun _ => True) H0 μ0 := fun H μ h r l _ => by
  refine ⟨fun i x hx => ?_, by rw [rangeD_len]; exact Nat.le_refl _⟩
  obtain ⟨h1, rfl⟩ := rangeD_get n lo i x hx
  refine ⟨h1, fun v H' y => ?_⟩
  obtain ⟨rfl, rfl⟩ := y
  exact ⟨r, .refl, .int _⟩
def iRng1D (α : DA) : DI := fun E env h R => α E env h fun ds h1 => match ds with
  | [.int j] => -1000000 ≤ j ∧ j ≤ 1000000 ∧ R (rangeD 0 j.toNat) (fun _ => True) h1
  | _ => False
def iRng2D (α : DA) : DI := fun E env h R => α E env h fun ds h1 => match ds with
  | [.int i, .int j] => -1000000 ≤ i ∧ i ≤ 1000000 ∧ -1000000 ≤ j ∧ j ≤ 1000000 ∧ R (rangeD i (j - i).toNat) (fun _ => True) h1
  | _ => False
theorem RVs.inv1 {K : Frag} {H : Hp} {μ : List Addr} {vs : List V} {x : D} (r : RVs K H μ vs [x]) : ∃ v, vs = [v] ∧ RV K H μ v x := by
  cases r with
  | cons h r => cases r; exact ⟨_, rfl, h⟩
theorem RVs.inv2 {K : Frag} {H : Hp} {μ : List Addr} {vs : List V} {x y : D} (r : RVs K H μ vs [x, y]) : ∃ v u, vs = [v, u] ∧ RV K H μ v x ∧ RV K H μ u y := by
  cases r with
  | cons h r => obtain ⟨u, rfl, h2⟩ := RVs.inv1 r; exact ⟨_, _, rfl, h, h2⟩
theorem RVs.inv3 {K : Frag} {H : Hp} {μ : List Addr} {vs : List V} {x y z : D} (r : RVs K H μ vs [x, y, z]) : ∃ v u t, vs = [v, u, t] ∧ RV K H μ v x ∧ RV K H μ u y ∧ RV K H μ t z := by
  cases r with
  | cons h r => obtain ⟨u, t, rfl, h2, h3⟩ := RVs.inv2 r; exact ⟨_, _, _, rfl, h, h2, h3⟩
theorem pdi_rng1 {tg a : Expr} {α : DA} {p pos : Pos} (hg : Gl X "range") (hm : X.mg "range" = none) (ha : PDA X T W [a] α) (hs : starEach [a] X.env = [(false, eval a X.env)] := by rfl) : PDI X T W tg (.Call (.Name "range" p) [a] [] pos) (iRng1D α) :=
  PI.imp (pi_range1 hg hm ha hs) fun σ H R ⟨μ, env, h, R0, E0, r, re, q, p, px⟩ => ⟨μ, env, h, _, E0, r, re, q, fun ds h1 vs H1 μ1 q1 r1 l1 rv => by
    dsimp only at q1
    split at q1
    · obtain ⟨v, rfl, rv1⟩ := rv.inv1
      rw [rv1.inv_int]
      obtain ⟨z1, z2, q1⟩ := q1
      exact ⟨_, rfl, by omega, by omega, p _ _ _ _ _ _ q1 r1 l1 itok_rng⟩
    · exact q1.elim, px⟩
theorem pdi_rng2 {tg a b : Expr} {α : DA} {p pos : Pos} (hg : Gl X "range") (hm : X.mg "range" = none) (ha : PDA X T W [a, b] α) (hs : starEach [a, b] X.env = [(false, eval a X.env), (false, eval b X.env)] := by rfl) (hs2 : starEach [b] X.env = [(false, eval b X.env)] := by rfl) : PDI X T W tg (.Call (.Name "range" p) [a, b] [] pos) (iRng2D α) :=
  PI.imp (pi_range2 hg hm ha hs hs2) fun σ H R ⟨μ, env, h, R0, E0, r, re, q, p, px⟩ => ⟨μ, env, h, _, E0, r, re, q, fun ds h1 vs H1 μ1 q1 r1 l1 rv => by
    dsimp only at q1
    split at q1
    · obtain ⟨v, u, rfl, rv1, rv2⟩ := rv.inv2
      rw [rv1.inv_int, rv2.inv_int]
      obtain ⟨z1, z2, z3, z4, q1⟩ := q1
      exact ⟨_, _, rfl, ⟨by omega, by omega, by omega, by omega⟩, p _ _ _ _ _ _ q1 r1 l1 itok_rng⟩
    · exact q1.elim, px⟩
end
end DL
set_option Elab.async false
set_option linter.all false
set_option maxRecDepth 100000
set_option maxHeartbeats 4000000
namespace DL
open PySem PySem.Spec PyProof.Rows L2
open PySem.W (Frag)
/-! ### defs -/
/-- what is wanted of an exception that leaves a def -/
abbrev DXK := Value → List (Str × D) → DH → Prop
/-- a def's promise -/
abbrev DSp := List D → DH → VD → DXK → Prop
def PostE (g : G) (H : Hp) (μ : List Addr) (E0 : DXK) (E : XK) : Prop := ∀ (c : Value) (fs : List (Str × D)) (h' : DH) (od : Option Addr) (H' : Hp) (μ' : List Addr),
  E0 c fs h' → RelH g H' μ' h' → Le g.K H μ H' μ' → XF g H' μ' od fs → E c od H'
/-- .. at the hand layer -/
def spL (g : G) (sp : DSp) : Sp := fun vs H Q E => ∃ μ h ds Q0 E0, RelH g H μ h ∧ RVs g.K H μ vs ds ∧ sp ds h Q0 E0 ∧ Post g H μ Q0 Q ∧ PostE g H μ E0 E
/-- the def of this name keeps its promise -/
structure AtD (g : G) (mg : Str → Option Value) (base : Heap) (k : Nat) (x : Str) (ps : List Str) (sp : DSp) : Prop where
  ex : ∃ f fd, FnOk g.P g.w g.K mg base (L2.CX g.P g.w) k f fd ps (spL g sp) ∧ mg x = some (.ref f) ∧ PySem.W.keepIn g.K (.ref f) = true ∧ Binds g.K fd ps []
theorem AtD.mono {g : G} {mg : Str → Option Value} {base : Heap} {j k : Nat} {x : Str} {ps : List Str} {sp : DSp} (a : AtD g mg base j x ps sp) (h : j ≤ k) : AtD g mg base k x ps sp := by
  obtain ⟨f, fd, F, r⟩ := a.ex
  exact ⟨f, fd, F.mono h, r⟩
def eCall (sp : DSp) (α : DA) : DE := fun E env h Q => α E env h fun ds h1 => sp ds h1 Q fun c fs h2 => E c fs env h2
section
variable {X : Cx} {T : List Addr} {W : WX} {k j : Nat} {x : Str} {ps : List Str} {sp : DSp} {e : Expr} {es : List Expr} {α : DA} {p pos : Pos}
theorem pd_call (S : Std X W) (F : AtD (gOf X T) X.mg X.base j x ps sp) (hr : Room k X.A) (hj : j ≤ k) (hg : Gl X x) (ha : PDA X T W (e :: es) α)
    (hdb : (x == ("__debug__" : Str)) = false := by decide) (he : starEach (e :: es) X.env = (false, eval e X.env) :: starEach es X.env := by rfl) (hpl : (backTo pos (starEach es X.env)).any (·.1) = false := by rfl) :
    PD X T W (.Call (.Name x p) (e :: es) [] pos) (eCall sp α) := by
  obtain ⟨f, fd, F, hm, hk, hb⟩ := F.ex
  refine PE.imp (pe_callS (E := WE W) F (hr.mono hj) hg hm hk hb (fun σ => passAt S.tk σ) ha hdb he hpl) fun σ H Q ⟨μ, env, h, Q0, E0, r, re, q, p, px⟩ => ?_
  refine ⟨μ, env, h, _, E0, r, re, q, fun ds h1 vs H1 μ1 q1 r1 l1 rv => ⟨μ1, h1, ds, _, _, r1, rv, q1, p.le l1, ?_⟩, px⟩
  exact fun c fs h2 od H2 μ2 q2 r2 l2 xf => px _ _ _ _ _ _ _ _ q2 r2 (re.le (l1.trans l2)) (l1.trans l2) xf
end
/-- the names at the entry -/
def startD (n : Nat) (ds : List D) : Env := ds.map some ++ List.replicate (n - ds.length) none
theorem relE_start {K : Frag} {H : Hp} {μ : List Addr} {N : List Str} {vs : List V} {ds : List D} (rv : RVs K H μ vs ds) : RelE K H μ (L2.start N vs) (startD N.length ds) := by
  have hl := rv.length
  refine ⟨by unfold L2.start startD; simp [hl], fun i d e => ?_⟩
  unfold startD at e
  unfold L2.start
  by_cases c : i < ds.length
  · rw [List.getElem?_append_left (by simpa using c), List.getElem?_map] at e
    cases q : ds[i]? with
    | none => rw [q] at e; cases e
    | some d' =>
      rw [q] at e
      cases e
      obtain ⟨v, h1, h2⟩ := rv.get q
      exact ⟨v, by rw [List.getElem?_append_left (by simpa [hl] using c), List.getElem?_map, h1]; rfl, h2⟩
  · rw [List.getElem?_append_right (by simpa using c), List.getElem?_replicate] at e
    split at e <;> cases e
abbrev cxD (g : G) (mg : Str → Option Value) (base : Heap) (N : List Str) (qual : Str) (scope : Scope) (f : Addr) (cd : Value) (A : Around) (outer : List PySem.Env) (s : Shared) (H : Hp) (E : XK) : Cx := cxOf (L2.CX g.P g.w) g.P g.w g.K mg base N qual scope f cd A outer s H E

theorem std_of {g : G} {mg : Str → Option Value} {base : Heap} {N : List Str} {qual : Str} {scope : Scope} {f : Addr} {cd : Value} {A : Around} {outer : List PySem.Env} {s : Shared} {H : Hp} {E : XK} (nd : N.Nodup) :
    Std (cxD g mg base N qual scope f cd A outer s H E) (fun cls d _ H' => E cls d H') :=
  ⟨takes_of rfl rfl rfl rfl, passes_of rfl, rfl, nd⟩
theorem fnD_of {g : G} {mg : Str → Option Value} {base : Heap} {x qual : Str} {params : Arguments} {body : List Stmt} {scope : Scope} {f : Addr} {fd : FuncData} {N ps : List Str} {k : Nat} {sp : DSp}
    (F : FunD g.K x qual params body scope [] [] f fd) (S : FnScope N ps scope) (hm : mg x = some (.ref f)) (hb : Binds g.K fd ps []) (len : ∀ ds h Q E, sp ds h Q E → ds.length = ps.length)
    (hbody : ∃ τ : DS, (∀ (cdv : Value) (A : Around) (outer : List PySem.Env) (s : Shared) (H : Hp) (E : XK), g.K = g.K → Room k (A.deeper (envOfC qual scope s.heap.objs.size f cdv)) → PDSs (cxD g mg base N qual scope f cdv A outer s H E) g.T (fun cls d _ H' => E cls d H') body τ) ∧
      ∀ ds h Q E, sp ds h Q E → τ { nx := fun _ h' => Q .non h', rt := Q, xc := fun c fs _ h' => E c fs h' } (startD N.length ds) h) :
    AtD g mg base (k + 1) x ps sp := by
  obtain ⟨τ, hd, hq⟩ := hbody
  refine ⟨f, fd, F.ok S (fun vs H Q E ⟨μ, h, ds, Q0, E0, r, rv, q, _⟩ => by rw [rv.length]; exact len _ _ _ _ q) (fun cdv A outer s H vs Q E hr ⟨μ, h, ds, Q0, E0, r, rv, q, p, pe⟩ => ?_), hm, F.kp, hb⟩
  refine ⟨_, hd cdv A outer s H E rfl hr, μ, _, h, _, r, relE_start rv, hq ds h Q0 E0 q, ?_⟩
  refine ⟨fun env' h' σ' H' μ' q' r' re' l' => p _ _ _ _ _ q' r' l' .non, p, fun _ _ _ _ _ q' => q'.elim, fun _ _ _ _ _ q' => q'.elim, ?_⟩
  exact fun c fs env' h' od σ' H' μ' q' r' re' l' xf => pe c fs h' od H' μ' q' r' l' xf
end DL
set_option Elab.async false
set_option linter.all false
set_option maxRecDepth 100000
set_option maxHeartbeats 4000000
namespace DL
open PySem PySem.Spec PyProof.Rows L2
open PySem.W (Frag)
/-! ### subscripts -/
section
variable {X : Cx} {T : List Addr} {W : WX}
def dIx : D2 := fun x y h Q => match x, y with
  | .ref n, .int i => ∃ xs v, lstOf h n = some xs ∧ atI xs i = some v ∧ Q v h
  | .tup xs, .int i => ∃ v, atI xs i = some v ∧ Q v h
  | .str z, .int i => ∃ c, z.length ≤ 1000000 ∧ atI z.cps.toList i = some c ∧ Q (.str ⟨#[c]⟩) h
  | _, _ => False
theorem atI_rv {K : Frag} {H : Hp} {μ : List Addr} {vs : List V} {xs : List D} {i : Int} {x : D} (r : RVs K H μ vs xs) (e : atI xs i = some x) : ∃ v, atI vs i = some v ∧ RV K H μ v x := by
  unfold atI at e ⊢
  rw [r.length]
  cases q : ixN xs.length i with
  | none => rw [q] at e; cases e
  | some j =>
    rw [q] at e
    exact r.get e
theorem op_ixD : ∃ r, IxR X r ∧ ∀ T, OpD (gOf X T) r dIx := by
  refine ⟨_, ix_list.or (ix_tup.or ix_str), fun T H μ h vx vy x y Q0 Q rh rx ry q p => ?_⟩
  unfold dIx at q
  split at q
  · obtain ⟨a, rfl, h1⟩ := rx.inv_ref
    rw [ry.inv_int]
    obtain ⟨xs, v, e1, e2, q⟩ := q
    obtain ⟨vs, h2, h3⟩ := lst_at rh h1 e1
    obtain ⟨u, h4, h5⟩ := atI_rv h3 e2
    exact .inl ⟨a, vs, _, u, rfl, rfl, h2, h4, p _ _ _ _ _ q rh .refl h5⟩
  · obtain ⟨a, vs, rfl, h2, h3⟩ := rx.inv_tup
    rw [ry.inv_int]
    obtain ⟨v, e2, q⟩ := q
    obtain ⟨u, h4, h5⟩ := atI_rv h3 e2
    exact .inr (.inl ⟨a, vs, _, u, rfl, rfl, h2, h4, p _ _ _ _ _ q rh .refl h5⟩)
  · rw [rx.inv_str, ry.inv_int]
    obtain ⟨c, z, e, q⟩ := q
    exact .inr (.inr ⟨_, _, c, rfl, rfl, line_le z, e, p _ _ _ _ _ q rh .refl (.str _)⟩)
  · exact q.elim
/-! ### slices -/
abbrev DO' := DXW → Env → DH → (Option Int → DH → Prop) → Prop
def LO (g : G) (W : WX) (ε : DO') : TO := fun σ H Q => ∃ μ env h Q0 E0, RelH g H μ h ∧ RelE g.K H μ σ env ∧ ε E0 env h Q0 ∧ (∀ o h' H' μ', Q0 o h' → RelH g H' μ' h' → Le g.K H μ H' μ' → Q o H') ∧ PostX g H μ E0 W
def PDO (X : Cx) (T : List Addr) (W : WX) (e : Option Expr) (ε : DO') : Prop := PO X e (LO (gOf X T) W ε)
def oNone : DO' := fun _ _ h Q => Q none h
def oSome (ε : DE) : DO' := fun E env h Q => ε E env h fun x h1 => match x with | .int i => Q (some i) h1 | _ => False
theorem PO.imp {e : Option Expr} {t t' : TO} (h : PO X e t) (i : ∀ σ H Q, t' σ H Q → t σ H Q) : PO X e t' := ⟨fun pins s σ H Q I q => h.run pins s σ H Q I (i σ H Q q)⟩
theorem pdo_none : PDO X T W none oNone := PO.imp po_none fun σ H Q ⟨μ, env, h, Q0, E0, r, re, q, p, px⟩ => p _ _ _ _ q r .refl
theorem pdo_some {e : Expr} {ε : DE} (he : PD X T W e ε) : PDO X T W (some e) (oSome ε) := PO.imp (po_some he) fun σ H Q ⟨μ, env, h, Q0, E0, r, re, q, p, px⟩ => ⟨μ, env, h, _, E0, r, re, q, fun x h1 v H1 μ1 q1 r1 l1 rv => by
    cases x with
    | int i => rw [rv.inv_int]; exact ⟨i, rfl, p _ _ _ _ q1 r1 l1⟩
    | _ => exact q1.elim, px⟩
def cutD (xs : List D) (lo hi : Option Int) : List D := (xs.drop (HT.sIx xs.length 0 lo)).take (HT.sIx xs.length xs.length hi - HT.sIx xs.length 0 lo)
theorem cut_rv {K : Frag} {H : Hp} {μ : List Addr} {vs : List V} {xs : List D} (r : RVs K H μ vs xs) (lo hi : Option Int) : RVs K H μ (cutV vs lo hi) (cutD xs lo hi) := by
  unfold cutV cutD
  rw [r.length]
  exact (r.drop _).take _
def dSl (x : D) (lo hi : Option Int) (h : DH) (Q : VD) : Prop := match x with
  | .ref n => ∃ xs, lstOf h n = some xs ∧ Q (.ref h.length) (h ++ [.lst (cutD xs lo hi)])
  | .tup xs => Q (.tup (cutD xs lo hi)) h
  | .str z => z.length ≤ 1000000 ∧ Q (.str (cutS z lo hi)) h
  | _ => False
def eSl (ε : DE) (lo hi : DO') : DE := fun E env h Q => ε E env h fun x h1 => lo E env h1 fun l h2 => hi E env h2 fun u h3 => dSl x l u h3 Q
theorem cut_whole {α : Type} {n a b : Nat} {xs : List α} (hn : n = xs.length) (h1 : a = 0) (h2 : b = n) : (xs.drop a).take (b - a) = xs := by
  subst h1 h2 hn; simp
theorem pd_slice {e : Expr} {lo hi : Option Expr} {ε : DE} {εl εh : DO'} {p2 pos : Pos} (he : PD X T W e ε) (hl : PDO X T W lo εl) (hh : PDO X T W hi εh) : PD X T W (.Subscript e (.Slice lo hi none p2) pos) (eSl ε εl εh) :=
  PE.imp (pe_slice (sl_list.or (sl_tupA.or sl_str)) he hl hh) fun σ H Q ⟨μ, env, h, Q0, E0, r, re, q, p, px⟩ =>
    ⟨μ, env, h, _, E0, r, re, q, fun x h1 v H1 μ1 q1 r1 l1 rv => ⟨μ1, env, h1, _, E0, r1, re.le l1, q1, fun l h2 H2 μ2 q2 r2 l2 => ⟨μ2, env, h2, _, E0, r2, re.le (l1.trans l2), q2, fun u h3 H3 μ3 q3 r3 l3 => by
      have lt := l1.trans (l2.trans l3)
      have rv3 := rv.le (l2.trans l3)
      cases x with
      | ref n =>
        obtain ⟨a, rfl, hn⟩ := rv3.inv_ref
        obtain ⟨xs, e1, q3⟩ := q3
        obtain ⟨vs, h4, h5⟩ := lst_at r3 hn e1
        exact .inl ⟨a, vs, rfl, h4, fun t ht => new_lst r3 (cut_rv h5 l u) q3 (p.le lt) ht⟩
      | tup xs =>
        obtain ⟨a, vs, rfl, h4, h5⟩ := rv3.inv_tup
        refine .inr (.inl ⟨a, vs, rfl, h4, fun c => ?_, fun _ t ht => new_tup r3 (cut_rv h5 l u) q3 (p.le lt) ht⟩)
        have e : cutD xs l u = xs := by
          rw [h5.length] at c
          exact cut_whole rfl c.1 c.2
        have q4 : Q0 (.tup (cutD xs l u)) h3 := q3
        rw [e] at q4
        exact p _ _ _ _ _ q4 r3 lt rv3
      | str z => rw [rv3.inv_str]; exact .inr (.inr ⟨z, rfl, line_le q3.1, p _ _ _ _ _ q3.2 r3 lt (.str _)⟩)
      | _ => exact q3.elim, px.le (l1.trans l2)⟩, px.le l1⟩, px⟩
/-! ### built-ins by values -/
abbrev DC := List D → DH → VD → Prop
def CallOk (g : G) (r : List V → Hp → VK → Prop) (δ : DC) : Prop := ∀ (H : Hp) (μ : List Addr) (h : DH) (vs : List V) (ds : List D) (Q0 : VD) (Q : VK), RelH g H μ h → RVs g.K H μ vs ds → δ ds h Q0 → Post g H μ Q0 Q → r vs H Q
def eCB (δ : DC) (α : DA) : DE := fun E env h Q => α E env h fun ds h1 => δ ds h1 Q
section
variable {e : Expr} {es : List Expr} {α : DA} {id TT : String} {r : List V → Hp → VK → Prop} {δ : DC} {x : Str} {p pos : Pos}
theorem cb_read {g : G} (hd : CallOk g r δ) : ∀ σ H Q, LE g W (eCB δ α) σ H Q → tCB r (LA g W α) σ H Q := fun σ H Q ⟨μ, env, h, Q0, E0, rh, re, q, p, px⟩ =>
  ⟨μ, env, h, _, E0, rh, re, q, fun ds h1 vs H1 μ1 q1 r1 l1 rv => hd _ _ _ _ _ _ _ r1 rv q1 (p.le l1), px⟩
theorem pd_callB (hc : ∃ r, CallR X (.builtin id) r ∧ ∀ T, CallOk (gOf X T) r δ) (hg : Gl X x) (hm : X.mg x = none) (hv : bootBuiltins x = some (.builtin id)) (ha : PDA X T W (e :: es) α) (hn : x ≠ "__name__" := by decide) (hdb : (x == ("__debug__" : Str)) = false := by decide)
    (he : starEach (e :: es) X.env = (false, eval e X.env) :: starEach es X.env := by rfl) (hpl : (backTo pos (starEach es X.env)).any (·.1) = false := by rfl) : PD X T W (.Call (.Name x p) (e :: es) [] pos) (eCB δ α) := by
  obtain ⟨r, h1, h2⟩ := hc
  exact PE.imp (pe_callB h1 hg hm hv ha hn hdb he hpl) (cb_read (h2 T))
theorem pd_callTy (hc : ∃ r, CallR X (.type TT) r ∧ ∀ T, CallOk (gOf X T) r δ) (hg : Gl X x) (hm : X.mg x = none) (hv : bootBuiltins x = some (.type TT)) (ha : PDA X T W (e :: es) α) (hn : x ≠ "__name__" := by decide) (hdb : (x == ("__debug__" : Str)) = false := by decide)
    (he : starEach (e :: es) X.env = (false, eval e X.env) :: starEach es X.env := by rfl) (hpl : (backTo pos (starEach es X.env)).any (·.1) = false := by rfl) : PD X T W (.Call (.Name x p) (e :: es) [] pos) (eCB δ α) := by
  obtain ⟨r, h1, h2⟩ := hc
  exact PE.imp (pe_callTy h1 hg hm hv ha hn hdb he hpl) (cb_read (h2 T))
end
theorem ints_rv {K : Frag} {H : Hp} {μ : List Addr} : ∀ {vs : List V} {ns : List Int}, RVs K H μ vs (ns.map .int) → vs = ns.map V.int
  | _, [], r => by cases r; rfl
  | _, n :: ns, r => by
    cases r with
    | cons h r => rw [h.inv_int, ints_rv r]; rfl
theorem bls_rv {K : Frag} {H : Hp} {μ : List Addr} : ∀ {vs : List V} {ns : List Bool}, RVs K H μ vs (ns.map .bl) → vs = ns.map V.bl
  | _, [], r => by cases r; rfl
  | _, n :: ns, r => by
    cases r with
    | cons h r => rw [h.inv_bl, bls_rv r]; rfl
def cLen : DC := fun ds h Q => match ds with
  | [.ref n] => ∃ xs, lstOf h n = some xs ∧ Q (.int xs.length) h
  | [.tup xs] => Q (.int xs.length) h
  | [.str z] => z.length ≤ 1000000 ∧ Q (.int z.length) h
  | _ => False
theorem CallR.or {f : Value} {r r' : List V → Hp → VK → Prop} (h : CallR X f r) (h' : CallR X f r') : CallR X f (fun vs H Q => r vs H Q ∨ r' vs H Q) := by
  intro pins s σ H vs us Q I rv q
  rcases q with q | q
  · exact h pins s σ H vs us Q I rv q
  · exact h' pins s σ H vs us Q I rv q
theorem cb_len : ∃ r, CallR X (.builtin "len") r ∧ ∀ T, CallOk (gOf X T) r cLen := by
  refine ⟨_, CallR.or call_len_seq call_len_str, fun T H μ h vs ds Q0 Q rh rv q p => ?_⟩
  unfold cLen at q
  split at q
  · obtain ⟨v, rfl, rv1⟩ := rv.inv1
    replace rv := rv1
    obtain ⟨a, rfl, h1⟩ := rv.inv_ref
    obtain ⟨xs, e, q⟩ := q
    obtain ⟨vs, h2, h3⟩ := lst_at rh h1 e
    exact .inl ⟨a, vs, rfl, .inl h2, by rw [h3.length]; exact p _ _ _ _ _ q rh .refl (.int _)⟩
  · obtain ⟨v, rfl, rv1⟩ := rv.inv1
    replace rv := rv1
    obtain ⟨a, vs, rfl, h2, h3⟩ := rv.inv_tup
    exact .inl ⟨a, vs, rfl, .inr h2, by rw [h3.length]; exact p _ _ _ _ _ q rh .refl (.int _)⟩
  · obtain ⟨v, rfl, rv1⟩ := rv.inv1
    replace rv := rv1
    rw [rv.inv_str]
    exact .inr ⟨_, rfl, line_le q.1, p _ _ _ _ _ q.2 rh .refl (.int _)⟩
  · exact q.elim
def cList : DC := fun ds h Q => match ds with
  | [.ref n] => ∃ xs, lstOf h n = some xs ∧ Q (.ref h.length) (h ++ [.lst xs])
  | [.tup xs] => Q (.ref h.length) (h ++ [.lst xs])
  | _ => False
theorem cb_list : ∃ r, CallR X (.type "list") r ∧ ∀ T, CallOk (gOf X T) r cList := by
  refine ⟨_, call_list_of, fun T H μ h vs ds Q0 Q rh rv q p => ?_⟩
  unfold cList at q
  split at q
  · obtain ⟨v, rfl, rv1⟩ := rv.inv1
    replace rv := rv1
    obtain ⟨a, rfl, h1⟩ := rv.inv_ref
    obtain ⟨xs, e, q⟩ := q
    obtain ⟨vs, h2, h3⟩ := lst_at rh h1 e
    exact ⟨a, vs, rfl, .inl h2, fun t ht => new_lst rh h3 q p ht⟩
  · obtain ⟨v, rfl, rv1⟩ := rv.inv1
    replace rv := rv1
    obtain ⟨a, vs, rfl, h2, h3⟩ := rv.inv_tup
    exact ⟨a, vs, rfl, .inr h2, fun t ht => new_lst rh h3 q p ht⟩
  · exact q.elim
def cTup : DC := fun ds h Q => match ds with
  | [.ref n] => ∃ xs, lstOf h n = some xs ∧ Q (.tup xs) h
  | [.tup xs] => Q (.tup xs) h
  | _ => False
theorem cb_tup : ∃ r, CallR X (.type "tuple") r ∧ ∀ T, CallOk (gOf X T) r cTup := by
  refine ⟨_, call_tuple_of, fun T H μ h vs ds Q0 Q rh rv q p => ?_⟩
  unfold cTup at q
  split at q
  · obtain ⟨v, rfl, rv1⟩ := rv.inv1
    replace rv := rv1
    obtain ⟨a, rfl, h1⟩ := rv.inv_ref
    obtain ⟨xs, e, q⟩ := q
    obtain ⟨vs, h2, h3⟩ := lst_at rh h1 e
    exact ⟨a, vs, rfl, .inl ⟨h2, fun t ht => new_tup rh h3 q p ht⟩⟩
  · obtain ⟨v, rfl, rv1⟩ := rv.inv1
    replace rv := rv1
    obtain ⟨a, vs, rfl, h2, h3⟩ := rv.inv_tup
    exact ⟨a, vs, rfl, .inr ⟨h2, p _ _ _ _ _ q rh .refl rv⟩⟩
  · exact q.elim
def cInt : DC := fun ds h Q => match ds with
  | [.int i] => Q (.int i) h
  | _ => False
theorem cb_int : ∃ r, CallR X (.type "int") r ∧ ∀ T, CallOk (gOf X T) r cInt := by
  refine ⟨_, call_int1, fun T H μ h vs ds Q0 Q rh rv q p => ?_⟩
  unfold cInt at q
  split at q
  · obtain ⟨v, rfl, rv1⟩ := rv.inv1
    replace rv := rv1
    rw [rv.inv_int]
    exact .inl ⟨_, rfl, p _ _ _ _ _ q rh .refl (.int _)⟩
  · exact q.elim
/-- of a list of whole numbers -/
def cSum : DC := fun ds h Q => match ds with
  | [.ref n] => ∃ ns : List Int, lstOf h n = some (ns.map .int) ∧ Q (.int ns.sum) h
  | _ => False
theorem cb_sum (S : Std X W) : ∃ r, CallR X (.builtin "sum") r ∧ ∀ T, CallOk (gOf X T) r cSum := by
  refine ⟨_, cr_sum S.calm, fun T H μ h vs ds Q0 Q rh rv q p => ?_⟩
  unfold cSum at q
  split at q
  · obtain ⟨v, rfl, rv1⟩ := rv.inv1
    replace rv := rv1
    obtain ⟨a, rfl, h1⟩ := rv.inv_ref
    obtain ⟨ns, e, q⟩ := q
    obtain ⟨vs, h2, h3⟩ := lst_at rh h1 e
    rw [ints_rv h3] at h2
    exact ⟨a, ns, rfl, h2, p _ _ _ _ _ q rh .refl (.int _)⟩
  · exact q.elim
/-- the greatest, the least of two, of a list -/
def cMax : DC := fun ds h Q => match ds with
  | [.int i, .int j] => Q (.int (if j > i then j else i)) h
  | [.ref n] => ∃ ns : List Int, lstOf h n = some (ns.map .int) ∧ 0 < ns.length ∧ ∀ m, m ∈ ns → (∀ y, y ∈ ns → y ≤ m) → Q (.int m) h
  | _ => False
def cMin : DC := fun ds h Q => match ds with
  | [.int i, .int j] => Q (.int (if j < i then j else i)) h
  | [.ref n] => ∃ ns : List Int, lstOf h n = some (ns.map .int) ∧ 0 < ns.length ∧ ∀ m, m ∈ ns → (∀ y, y ∈ ns → m ≤ y) → Q (.int m) h
  | _ => False
theorem cb_max (S : Std X W) : ∃ r, CallR X (.builtin "max") r ∧ ∀ T, CallOk (gOf X T) r cMax := by
  refine ⟨_, CallR.or (call_max2 S.calm) (cr_max S.calm), fun T H μ h vs ds Q0 Q rh rv q p => ?_⟩
  unfold cMax at q
  split at q
  · obtain ⟨v, u, rfl, rv1, ru⟩ := rv.inv2
    replace rv := rv1
    rw [rv.inv_int, ru.inv_int]
    exact .inl ⟨_, _, rfl, p _ _ _ _ _ q rh .refl (.int _)⟩
  · obtain ⟨v, rfl, rv1⟩ := rv.inv1
    replace rv := rv1
    obtain ⟨a, rfl, h1⟩ := rv.inv_ref
    obtain ⟨ns, e, z, q⟩ := q
    obtain ⟨vs, h2, h3⟩ := lst_at rh h1 e
    rw [ints_rv h3] at h2
    exact .inr ⟨a, ns, rfl, h2, z, fun m h4 h5 => p _ _ _ _ _ (q m h4 h5) rh .refl (.int _)⟩
  · exact q.elim
theorem cb_min (S : Std X W) : ∃ r, CallR X (.builtin "min") r ∧ ∀ T, CallOk (gOf X T) r cMin := by
  refine ⟨_, CallR.or (call_min2 S.calm) (cr_min S.calm), fun T H μ h vs ds Q0 Q rh rv q p => ?_⟩
  unfold cMin at q
  split at q
  · obtain ⟨v, u, rfl, rv1, ru⟩ := rv.inv2
    replace rv := rv1
    rw [rv.inv_int, ru.inv_int]
    exact .inl ⟨_, _, rfl, p _ _ _ _ _ q rh .refl (.int _)⟩
  · obtain ⟨v, rfl, rv1⟩ := rv.inv1
    replace rv := rv1
    obtain ⟨a, rfl, h1⟩ := rv.inv_ref
    obtain ⟨ns, e, z, q⟩ := q
    obtain ⟨vs, h2, h3⟩ := lst_at rh h1 e
    rw [ints_rv h3] at h2
    exact .inr ⟨a, ns, rfl, h2, z, fun m h4 h5 => p _ _ _ _ _ (q m h4 h5) rh .refl (.int _)⟩
  · exact q.elim
/-! ### stores and methods of lists -/
theorem chg_lst {g : G} {H : Hp} {μ : List Addr} {h : DH} {n : Nat} {a : Addr} {vs us : List V} {ys : List D} (r : RelH g H μ h) (hn : μ[n]? = some a) {zs : List D} (eo : h[n]? = some (.lst zs)) (e : H a = some (.lst vs)) (ru : RVs g.K H μ us ys) : RelH g (upd H a (.lst us)) μ (h.set n (.lst ys)) ∧ Le g.K H μ (upd H a (.lst us)) μ :=
  have l : Le g.K H μ (upd H a (.lst us)) μ := Le.chg e trivial
  ⟨r.chg hn e trivial ⟨us, upd_same, ru.le l⟩ ⟨_, eo, rfl⟩ rfl, l⟩
def gIx (εo εi : DE) : DG := fun E d env h Q => εo E env h fun o h1 => εi E env h1 fun i h2 => match o, i with
  | .ref n, .int k => ∃ xs j, mlst h2 n = some xs ∧ ixN xs.length k = some j ∧ Q env (h2.set n (.lst (xs.set j d)))
  | _, _ => False
theorem pdg_ix {o i : Expr} {εo εi : DE} {pos : Pos} (ho : PD X T W o εo) (hi : PD X T W i εi)
    (ha : ∀ v, assign (.Subscript o i pos) X.env v = (do
      let ov ← holding [v] (eval o X.env)
      let iv ← holding [v, ov] (eval i X.env)
      standAt pos
      holding [v, ov, iv] (setItem ov iv v)
      release [v, ov, iv] []) := by intro _; rfl) : PDG X T W (.Subscript o i pos) (gIx εo εi) :=
  PG.imp (pg_sub ho hi set_list ha) fun v σ H Q ⟨μ, env, h, d, Q0, E0, r, re, rv, q, p, px⟩ =>
    ⟨μ, env, h, _, E0, r, re, q, fun x h1 u H1 μ1 q1 r1 l1 ru => ⟨μ1, env, h1, _, E0, r1, re.le l1, q1, fun y h2 t H2 μ2 q2 r2 l2 rt => by
      have ru2 := ru.le l2
      dsimp only at q2
      split at q2
      · obtain ⟨a, rfl, hn⟩ := ru2.inv_ref
        rw [rt.inv_int]
        obtain ⟨xs, j, e1, e2, q2⟩ := q2
        obtain ⟨vs, h4, h5⟩ := mlst_at r2 hn e1
        have lt := l1.trans l2
        obtain ⟨r3, l3⟩ := chg_lst r2 hn (mlst_eq e1) h4 (h5.set (rv.le lt) j)
        exact ⟨a, vs, _, j, rfl, rfl, h4, by rw [h5.length]; exact e2, p _ _ _ _ _ q2 r3 (re.le (lt.trans l3)) (lt.trans l3)⟩
      · exact q2.elim, px.le l1⟩, px⟩
/-- a method of a list -/
def MtOk (g : G) (r : V → List V → Hp → VK → Prop) (δ : D → List D → DH → VD → Prop) : Prop := ∀ (H : Hp) (μ : List Addr) (h : DH) (v : V) (d : D) (vs : List V) (ds : List D) (Q0 : VD) (Q : VK), RelH g H μ h → RV g.K H μ v d → RVs g.K H μ vs ds → δ d ds h Q0 → Post g H μ Q0 Q → r v vs H Q
/-- the value is of this kind -/
def isTy (TT : String) (d : D) (h : DH) : Prop := match d with
  | .ref n => TT = "list" ∧ ∃ xs, lstOf h n = some xs
  | .str _ => TT = "str"
  | _ => False
theorem isTy_ok {g : G} {H : Hp} {μ : List Addr} {h : DH} {TT : String} {v : V} {d : D} (r : RelH g H μ h) (rv : RV g.K H μ v d) (q : isTy TT d h) : tyV g.K TT v H := by
  cases d with
  | ref n =>
    obtain ⟨a, rfl, hn⟩ := rv.inv_ref
    obtain ⟨e, xs, e1⟩ := q
    obtain ⟨vs, h2, _⟩ := lst_at r hn e1
    exact .inl ⟨e, vs, h2⟩
  | str z => rw [rv.inv_str]; exact q
  | _ => exact q.elim
def eMt (TT : String) (δ : D → List D → DH → VD → Prop) (εo : DE) (α : DA) : DE := fun E env h Q => εo E env h fun d h1 => isTy TT d h1 ∧ α E env h1 fun ds h2 => δ d ds h2 Q
section
variable {o e : Expr} {es : List Expr} {εo : DE} {α : DA} {name : Str} {apos cpos : Pos} {TT id : String} {r : V → List V → Hp → VK → Prop} {δ : D → List D → DH → VD → Prop}
theorem pd_bm0 (pa : PlainAttrs TT) (slot : Slot TT name id) (hty : typeOf (.builtin id) = pure (.type "method_descriptor")) (hm : MtR X id r) (hd : MtOk (gOf X T) r δ) (ho : PD X T W o εo)
    (hbase : attributeBase o name X.env (eval o X.env) = eval o X.env := by rfl) (hline : (apos.endLine == cpos.line) = true := by rfl) : PD X T W (.Call (.Attribute o name apos) [] [] cpos) (eMt TT δ εo aNil) :=
  PE.imp (pe_bm0 pa slot hty hm ho hbase hline) fun σ H Q ⟨μ, env, h, Q0, E0, rh, re, q, p, px⟩ => ⟨μ, env, h, _, E0, rh, re, q, fun d h1 v H1 μ1 ⟨q1, q2⟩ r1 l1 rv => ⟨isTy_ok r1 rv q1, hd _ _ _ _ _ _ _ _ _ r1 rv .nil q2 (p.le l1)⟩, px⟩
theorem pd_bm (pa : PlainAttrs TT) (slot : Slot TT name id) (hty : typeOf (.builtin id) = pure (.type "method_descriptor")) (hm : MtR X id r) (hd : MtOk (gOf X T) r δ) (ho : PD X T W o εo) (ha : PDA X T W (e :: es) α)
    (hbase : attributeBase o name X.env (eval o X.env) = eval o X.env := by rfl)
    (hfew : ((backTo cpos (starEach (e :: es) X.env)).all (fun x => !x.1) && (backToKw cpos (keywordEach [] X.env)).all (fun x => x.1.isSome)
      && decide ((e :: es).length + ([] : List Keyword).length + (if ([] : List Keyword).isEmpty then 0 else 1) < 30)) = true := by rfl)
    (hline : (apos.endLine == cpos.line) = true := by rfl) (hs : starEach (e :: es) X.env = (false, eval e X.env) :: starEach es X.env := by rfl) (hplain : (backTo cpos (starEach es X.env)).any (·.1) = false := by rfl) :
    PD X T W (.Call (.Attribute o name apos) (e :: es) [] cpos) (eMt TT δ εo α) :=
  PE.imp (pe_bm pa slot hty hm ho ha hbase hfew hline hs hplain) fun σ H Q ⟨μ, env, h, Q0, E0, rh, re, q, p, px⟩ => ⟨μ, env, h, _, E0, rh, re, q, fun d h1 v H1 μ1 ⟨q1, q2⟩ r1 l1 rv =>
    ⟨isTy_ok r1 rv q1, μ1, env, h1, _, E0, r1, re.le l1, q2, fun ds h2 vs H2 μ2 q3 r2 l2 rvs => hd _ _ _ _ _ _ _ _ _ r2 (rv.le l2) rvs q3 (p.le (l1.trans l2)), px.le l1⟩, px⟩
end
def mAppend (d : D) (ds : List D) (h : DH) (Q : VD) : Prop := match d, ds with
  | .ref n, [y] => ∃ xs, mlst h n = some xs ∧ xs.length ≤ 1000000 ∧ Q .non (h.set n (.lst (xs ++ [y])))
  | _, _ => False
theorem mok_append {g : G} : MtOk g rAppend mAppend := fun H μ h v d vs ds Q0 Q r rv rvs q p => by
  unfold mAppend at q
  split at q
  · obtain ⟨a, rfl, hn⟩ := rv.inv_ref
    obtain ⟨u, rfl, ru⟩ := rvs.inv1
    obtain ⟨xs, e1, z, q⟩ := q
    obtain ⟨ws, h4, h5⟩ := mlst_at r hn e1
    obtain ⟨r3, l3⟩ := chg_lst r hn (mlst_eq e1) h4 (h5.append (.one ru))
    exact ⟨a, ws, u, rfl, rfl, h4, by rw [h5.length, sizeLine_eq]; omega, p _ _ _ _ _ q r3 l3 .non⟩
  · exact q.elim
def mExtend (d : D) (ds : List D) (h : DH) (Q : VD) : Prop := match d, ds with
  | .ref n, [.ref m] => ∃ xs ys, mlst h n = some xs ∧ mlst h m = some ys ∧ xs.length + ys.length ≤ 1000000 ∧ Q .non (h.set n (.lst (xs ++ ys)))
  | _, _ => False
theorem mok_extend {g : G} : MtOk g rExtend mExtend := fun H μ h v d vs ds Q0 Q r rv rvs q p => by
  unfold mExtend at q
  split at q
  · obtain ⟨a, rfl, hn⟩ := rv.inv_ref
    obtain ⟨u, rfl, ru⟩ := rvs.inv1
    obtain ⟨b, rfl, hm⟩ := ru.inv_ref
    obtain ⟨xs, ys, e1, e2, z, q⟩ := q
    obtain ⟨ws, h4, h5⟩ := mlst_at r hn e1
    obtain ⟨us, h6, h7⟩ := mlst_at r hm e2
    obtain ⟨r3, l3⟩ := chg_lst r hn (mlst_eq e1) h4 (h5.append h7)
    exact ⟨a, b, ws, us, rfl, rfl, h4, h6, by rw [h5.length, h7.length]; exact line_le z, p _ _ _ _ _ q r3 l3 .non⟩
  · exact q.elim
def mPop (d : D) (ds : List D) (h : DH) (Q : VD) : Prop := match d, ds with
  | .ref n, [] => ∃ xs y, mlst h n = some xs ∧ xs[xs.length - 1]? = some y ∧ Q y (h.set n (.lst xs.dropLast))
  | _, _ => False
theorem RVs.dropLast {K : Frag} {H : Hp} {μ : List Addr} {vs : List V} {xs : List D} (r : RVs K H μ vs xs) : RVs K H μ vs.dropLast xs.dropLast := by
  rw [List.dropLast_eq_take, List.dropLast_eq_take, r.length]
  exact r.take _
theorem mok_pop {g : G} : MtOk g rPop mPop := fun H μ h v d vs ds Q0 Q r rv rvs q p => by
  unfold mPop at q
  split at q
  · obtain ⟨a, rfl, hn⟩ := rv.inv_ref
    cases rvs
    obtain ⟨xs, y, e1, e2, q⟩ := q
    obtain ⟨ws, h4, h5⟩ := mlst_at r hn e1
    obtain ⟨u, h6, h7⟩ := h5.get e2
    obtain ⟨r3, l3⟩ := chg_lst r hn (mlst_eq e1) h4 h5.dropLast
    exact ⟨a, ws, u, rfl, rfl, h4, by rw [h5.length]; exact h6, p _ _ _ _ _ q r3 l3 (h7.le l3)⟩
  · exact q.elim
end
end DL
set_option Elab.async false
set_option linter.all false
set_option maxRecDepth 100000
set_option maxHeartbeats 4000000
namespace DL
open PySem PySem.Spec PyProof.Rows L2
open PySem.W (Frag)
/-! ### comprehensions -/
def wipeD (env : Env) : List Nat → Env
  | [] => env
  | v :: vs => (wipeD env vs).set v none
theorem wipeD_len (env : Env) : ∀ vs, (wipeD env vs).length = env.length
  | [] => rfl
  | v :: vs => by unfold wipeD; rw [List.length_set, wipeD_len env vs]
theorem wipeD_some {env : Env} {i : Nat} {x : D} : ∀ {vs : List Nat}, (wipeD env vs)[i]? = some (some x) → env[i]? = some (some x) ∧ i ∉ vs
  | [], h => ⟨h, by simp⟩
  | v :: vs, h => by
    unfold wipeD at h
    by_cases hi : v = i
    · subst hi
      rw [List.getElem?_set] at h
      simp only [if_true] at h
      split at h <;> cases h
    · rw [List.getElem?_set_ne hi] at h
      obtain ⟨h1, h2⟩ := wipeD_some h
      exact ⟨h1, fun z => (List.mem_cons.mp z).elim (fun e => hi e.symm) h2⟩
theorem wipe_keep {σ : L2.St} {i : Nat} : ∀ {vs : List Nat}, i ∉ vs → (wipe σ vs)[i]? = σ[i]?
  | [], _ => rfl
  | v :: vs, h => by
    unfold wipe
    rw [List.getElem?_set_ne (fun e => h (by rw [e]; exact List.mem_cons_self))]
    exact wipe_keep fun z => h (List.mem_cons_of_mem _ z)
theorem RelE.wipe {K : Frag} {H : Hp} {μ : List Addr} {σ : L2.St} {env : Env} (r : RelE K H μ σ env) (vs : List Nat) : RelE K H μ (wipe σ vs) (wipeD env vs) :=
  ⟨by rw [wipe_length, wipeD_len]; exact r.len, fun i d e => by
    obtain ⟨h1, h2⟩ := wipeD_some e
    obtain ⟨v, h3, h4⟩ := r.at' i d h1
    exact ⟨v, by rw [wipe_keep h2]; exact h3, h4⟩⟩
theorem wipe_set {σ : L2.St} {i : Nat} {x : Option V} : ∀ {vs : List Nat}, i ∈ vs → wipe (σ.set i x) vs = wipe σ vs
  | v :: vs, h => by
    unfold wipe
    by_cases c : i ∈ vs
    · rw [wipe_set c]
    · have e : v = i := by
        rcases List.mem_cons.mp h with e | e
        · exact e.symm
        · exact absurd e c
      subst e
      have key : ∀ (us : List Nat) (τ : L2.St), (wipe (τ.set v x) us).set v none = (wipe τ us).set v none := fun us => by
        induction us with
        | nil => intro τ; unfold wipe; rw [List.set_set]
        | cons u us ih =>
          intro τ
          unfold wipe
          by_cases q : u = v
          · subst q
            rw [List.set_set, List.set_set]
            exact ih τ
          · rw [List.set_comm _ _ q, List.set_comm _ _ q, ih τ]
      exact key vs σ
theorem wipe_wipe (σ : L2.St) (vs : List Nat) : wipe (wipe σ vs) vs = wipe σ vs := by
  have key : ∀ us : List Nat, (∀ i ∈ us, i ∈ vs) → wipe (wipe σ us) vs = wipe σ vs := fun us => by
    induction us with
    | nil => intro _; rfl
    | cons u us ih =>
      intro h
      show wipe ((wipe σ us).set u none) vs = _
      rw [wipe_set (h u List.mem_cons_self)]
      exact ih fun i hi => h i (List.mem_cons_of_mem _ hi)
  exact key vs fun _ h => h
/-! targets of a comprehension: names, tuples of names -/
abbrev Tgt := D → Env → Option Env
def TgOk (K : Frag) (g : TG) (tgt : Tgt) (vs : List Nat) : Prop := ∀ (v : V) (d : D) (σ : L2.St) (env env' : Env) (H : Hp) (μ : List Addr) (Q : L2.St → Hp → Prop), RelE K H μ σ env → RV K H μ v d → tgt d env = some env' →
  (∀ σ', RelE K H μ σ' env' → wipe σ' vs = wipe σ vs → Q σ' H) → g v σ H Q
def TgsOk (K : Frag) (g : TGs) (tgt : List D → Env → Option Env) (vs : List Nat) : Prop := ∀ (v : List V) (d : List D) (σ : L2.St) (env env' : Env) (H : Hp) (μ : List Addr) (Q : L2.St → Hp → Prop), RelE K H μ σ env → RVs K H μ v d → tgt d env = some env' →
  (∀ σ', RelE K H μ σ' env' → wipe σ' vs = wipe σ vs → Q σ' H) → g v σ H Q
def tgVar (i : Nat) : Tgt := fun d env => some (env.set i (some d))
def tgsNil : List D → Env → Option Env := fun ds env => match ds with
  | [] => some env
  | _ => none
def tgsCons (t : Tgt) (u : List D → Env → Option Env) : List D → Env → Option Env := fun ds env => match ds with
  | d :: r => (t d env).bind (u r)
  | [] => none
def tgTup (n : Nat) (t : List D → Env → Option Env) : Tgt := fun d env => match d with
  | .tup ds => if ds.length = n then t ds env else none
  | _ => none
theorem tg_var {K : Frag} {i : Nat} {vs : List Nat} (h : i ∈ vs) : TgOk K (gName i) (tgVar i) vs := fun v d σ env env' H μ Q re rv e q => by
  cases e
  exact q _ (re.put rv i) (wipe_set h)
theorem tgs_nil {K : Frag} {vs : List Nat} : TgsOk K gNil tgsNil vs := fun v d σ env env' H μ Q re rv e q => by
  unfold tgsNil at e
  split at e
  · cases e
    cases rv
    exact ⟨rfl, q _ re rfl⟩
  · cases e
theorem tgs_cons {K : Frag} {vs : List Nat} {g : TG} {gs : TGs} {t : Tgt} {u : List D → Env → Option Env} (h1 : TgOk K g t vs) (h2 : TgsOk K gs u vs) : TgsOk K (gCons g gs) (tgsCons t u) vs := fun v d σ env env' H μ Q re rv e q => by
  unfold tgsCons at e
  split at e
  · cases rv with
    | cons rv1 rv2 =>
      obtain ⟨env1, e1, e2⟩ := Option.bind_eq_some_iff.mp e
      exact ⟨_, _, rfl, h1 _ _ _ _ _ _ _ _ re rv1 e1 fun σ1 re1 w1 => h2 _ _ _ _ _ _ _ _ re1 rv2 e2 fun σ2 re2 w2 => q σ2 re2 (w2.trans w1)⟩
  · cases e
theorem tg_tup {K : Frag} {vs : List Nat} {gs : TGs} {u : List D → Env → Option Env} {n : Nat} (h : TgsOk K gs u vs) : TgOk K (gTup K n gs) (tgTup n u) vs := fun v d σ env env' H μ Q re rv e q => by
  unfold tgTup at e
  split at e
  · split at e
    · rename_i hn
      obtain ⟨a, us, rfl, h1, h2⟩ := rv.inv_tup
      exact ⟨a, us, rfl, h1, h2.length.trans hn, h _ _ _ _ _ _ _ _ re h2 e q⟩
    · cases e
  · cases e
/-- nothing may be raised -/
def EF : DXW := fun _ _ _ _ => False
def WF : WX := fun _ _ _ _ => False
theorem postF {g : G} {H : Hp} {μ : List Addr} : PostX g H μ EF WF := fun _ _ _ _ _ _ _ _ q => q.elim
theorem std_blk {X : Cx} (hc : X.calm = true) (nd : X.N.Nodup) {s : Shared} {H : Hp} {scope : Scope} {env : PySem.Env} {fp : List Addr} : Std (X.blk s H scope env fp) WF :=
  ⟨fun u s' ⟨_, _, _, _, _, _, _, _, _, _, _, _, _, _, _, _, w⟩ => w.elim, PassesOwn.never, hc, nd⟩
/-- a loop that fills the list at n0 -/
def cLoop (n0 : Nat) (tgt : Tgt) (tt : DT) (ε : DE) (chk : DH → Prop) (env0 : Env) (Qd : DH → Prop) : List D → DH → Prop
  | [], h => chk h ∧ Qd h
  | x :: xs, h => chk h ∧ ∃ env2, tgt x env0 = some env2 ∧ tt EF env2 h fun b h3 =>
      if b = true then ε EF env2 h3 fun y h4 => ∃ acc, mlst h4 n0 = some acc ∧ acc.length ≤ 1000000 ∧ cLoop n0 tgt tt ε chk env0 Qd xs (h4.set n0 (.lst (acc ++ [y])))
      else cLoop n0 tgt tt ε chk env0 Qd xs h3
theorem cLoop_chk {n0 : Nat} {tgt : Tgt} {tt : DT} {ε : DE} {chk : DH → Prop} {env0 : Env} {Qd : DH → Prop} {xs : List D} {h : DH} (q : cLoop n0 tgt tt ε chk env0 Qd xs h) : chk h := by cases xs <;> exact q.1
def eLc (ι : DI) (tgt : Tgt) (tt : DT) (ε : DE) (vs : List Nat) : DE := fun E env h Q => ι E env h fun items chk h1 => cLoop h1.length tgt tt ε chk (wipeD env vs) (Q (.ref h1.length)) items (h1 ++ [.lst []])
def yes : DT := fun _ _ h Q => Q true h
section
variable {X : Cx} {T : List Addr} {W : WX}
def PDTs (X : Cx) (T : List Addr) (W : WX) (es : List Expr) (ε : DT) : Prop := PTs X es (LT (gOf X T) W ε)
theorem PTs.imp {e : List Expr} {t t' : TT} (h : PTs X e t) (i : ∀ σ H Q, t' σ H Q → t σ H Q) : PTs X e t' := ⟨fun pins s σ H Q I q => h.run pins s σ H Q I (i σ H Q q)⟩
theorem pdts_nil : PDTs X T W [] yes := PTs.imp pts_nil fun σ H Q ⟨μ, env, h, Q0, E0, r, re, q, p, px⟩ => p _ _ _ _ q r .refl
theorem pdts_one {e : Expr} {α : DT} (h : PDT X T W e α) : PDTs X T W [e] α := pts_one h
/-- the reading of a comprehension -/
theorem lc_read {g : G} {ι : DI} {tgt : Tgt} {tt : DT} {ε : DE} {vs : List Nat} {gg : TG} (tk : TgOk g.K gg tgt vs) : ∀ σ H Q, LE g W (eLc ι tgt tt ε vs) σ H Q → tLc (LI g W ι) gg (LT g WF tt) (LE g WF ε) vs σ H Q := fun σ H Q ⟨μ, env, h, Q0, E0, r, re, q, p, px⟩ => by
  refine ⟨μ, env, h, _, _, r, re, q, fun items chk h1 J H1 μ1 q1 r1 l1 ok L hL => ?_, px⟩
  have ln : Le g.K H1 μ1 (upd H1 L (.lst [])) (μ1 ++ [L]) := Le.new' hL
  have hat : (μ1 ++ [L])[h1.length]? = some L := by rw [List.getElem?_append_right (by rw [r1.len]; exact Nat.le_refl _), r1.len, Nat.sub_self]; rfl
  refine ⟨fun i m H' => m = items.length - i ∧ i ≤ items.length ∧ ∃ μ' h', RelH g H' μ' h' ∧ Le g.K H1 μ1 H' μ' ∧ μ'[h1.length]? = some L ∧ cLoop h1.length tgt tt ε chk (wipeD env vs) (Q0 (.ref h1.length)) (items.drop i) h',
    ⟨items.length, by simp, Nat.zero_le _, μ1 ++ [L], _, r1.made (d := .lst []) hL ⟨[], upd_same, .nil⟩, ln, hat, q1⟩, ?_⟩
  rintro i m H2 ⟨rfl, hi, μ2, h2, r2, l2, at2, q2⟩
  have lt := l1.trans l2
  obtain ⟨go, stop⟩ := ok H2 μ2 h2 r2 l2 (cLoop_chk q2)
  by_cases c : i < items.length
  · rw [List.drop_eq_getElem_cons c] at q2
    obtain ⟨_, env2, e2, q2⟩ := q2
    obtain ⟨g1, g2⟩ := go i items[i] (List.getElem?_eq_getElem c)
    refine .inr ⟨g1, fun H' => ∃ μ' h', RelH g H' μ' h' ∧ Le g.K H1 μ1 H' μ' ∧ μ'[h1.length]? = some L ∧ cLoop h1.length tgt tt ε chk (wipeD env vs) (Q0 (.ref h1.length)) (items.drop (i + 1)) h',
      fun H' z => ⟨items.length - (i + 1), by omega, rfl, c, z⟩, fun v H3 y => ?_⟩
    obtain ⟨r3, l3, rv⟩ := g2 v H3 y
    have l13 := l2.trans l3
    refine tk v items[i] (L2.wipe σ vs) (wipeD env vs) env2 H3 μ2 _ ((re.le (l1.trans l13)).wipe vs) rv e2 fun σ2 re2 w2 => ⟨w2.trans (wipe_wipe σ vs), ?_⟩
    refine ⟨μ2, env2, h2, _, EF, r3, re2, q2, fun b h4 H4 μ4 q4 r4 l4 => ?_, postF⟩
    have l14 := l13.trans l4
    cases b with
    | false => exact ⟨μ4, h4, r4, l14, l4.at at2, q4⟩
    | true =>
      refine ⟨μ4, env2, h4, _, EF, r4, re2.le l4, q4, fun y h5 u H5 μ5 ⟨acc, ea, za, q5⟩ r5 l5 ru => ?_, postF⟩
      have at5 := l5.at (l4.at at2)
      obtain ⟨ws, hw, rw'⟩ := mlst_at r5 at5 ea
      obtain ⟨r6, l6⟩ := chg_lst r5 at5 (mlst_eq ea) hw (rw'.append (.one ru))
      exact ⟨ws, hw, by rw [rw'.length, sizeLine_eq]; omega, μ5, _, r6, l14.trans (l5.trans l6), at5, q5⟩
  · have e : i = items.length := by omega
    subst e
    rw [List.drop_length] at q2
    exact .inl ⟨stop, p _ _ _ _ _ q2.2 r2 lt (.ref at2)⟩
theorem pd_lc {elt tg iter : Expr} {ifs : List Expr} {scope : Scope} {own : List (Str × Nat)} {pos : Pos} {ι : DI} {tgt : Tgt} {tt : DT} {ε : DE} {gg : TG} (S : Std X W) (hi : PDI X T W tg iter ι) (ok : BlkOk X.N X.env.scope scope own) (tk : TgOk X.K gg tgt (own.map (·.2)))
    (hg : ∀ (s : Shared) (H : Hp) (C : Addr) (cl : List (Str × Addr)) (fp : List Addr), Std (X.blk s H scope (compEnvC scope cl C X.env) fp) WF → PG (X.blk s H scope (compEnvC scope cl C X.env) fp) tg gg)
    (ht : ∀ (s : Shared) (H : Hp) (C : Addr) (cl : List (Str × Addr)) (fp : List Addr), Std (X.blk s H scope (compEnvC scope cl C X.env) fp) WF → PDTs (X.blk s H scope (compEnvC scope cl C X.env) fp) T WF ifs tt)
    (he : ∀ (s : Shared) (H : Hp) (C : Addr) (cl : List (Str × Addr)) (fp : List Addr), Std (X.blk s H scope (compEnvC scope cl C X.env) fp) WF → PD (X.blk s H scope (compEnvC scope cl C X.env) fp) T WF elt ε)
    (hs : ∀ x, foldedSetIterable iter X.env x = pure x := by intro _; rfl) : PD X T W (.ListComp elt [⟨tg, iter, ifs, 0⟩] scope pos) (eLc ι tgt tt ε (own.map (·.2))) :=
  PE.imp (pe_lc (wi := LI (gOf X T) W ι) (tt := LT (gOf X T) WF tt) (te := LE (gOf X T) WF ε) S.calm S.nd hi ok (fun s H C cl fp => hg s H C cl fp (std_blk S.calm S.nd)) (fun s H C cl fp => ht s H C cl fp (std_blk S.calm S.nd)) (fun s H C cl fp => he s H C cl fp (std_blk S.calm S.nd)) hs) (lc_read tk)
/-- name = [..], on one line -/
theorem pds_setLc {i : Nat} {y : Str} {py : Pos} {elt tg iter : Expr} {ifs : List Expr} {scope : Scope} {own : List (Str × Nat)} {pos spos : Pos} {ι : DI} {tgt : Tgt} {tt : DT} {ε : DE} {gg : TG} (S : Std X W) (hy : X.N[i]? = some y) (hyl : X.env.scope.names.lookup y = some .local)
    (hsw : swapsWith (.ListComp elt [⟨tg, iter, ifs, 0⟩] scope pos) (some (.Name y py)) spos.line X.env = pure true) (hi : PDI X T W tg iter ι) (ok : BlkOk X.N X.env.scope scope own) (tk : TgOk X.K gg tgt (own.map (·.2)))
    (hg : ∀ (s : Shared) (H : Hp) (C : Addr) (cl : List (Str × Addr)) (fp : List Addr), Std (X.blk s H scope (compEnvC scope cl C X.env) fp) WF → PG (X.blk s H scope (compEnvC scope cl C X.env) fp) tg gg)
    (ht : ∀ (s : Shared) (H : Hp) (C : Addr) (cl : List (Str × Addr)) (fp : List Addr), Std (X.blk s H scope (compEnvC scope cl C X.env) fp) WF → PDTs (X.blk s H scope (compEnvC scope cl C X.env) fp) T WF ifs tt)
    (he : ∀ (s : Shared) (H : Hp) (C : Addr) (cl : List (Str × Addr)) (fp : List Addr), Std (X.blk s H scope (compEnvC scope cl C X.env) fp) WF → PD (X.blk s H scope (compEnvC scope cl C X.env) fp) T WF elt ε)
    (hs : ∀ x, foldedSetIterable iter X.env x = pure x := by intro _; rfl) : PDS X T W (.Assign [.Name y py] (.ListComp elt [⟨tg, iter, ifs, 0⟩] scope pos) spos) (dAsg (eLc ι tgt tt ε (own.map (·.2))) (gVar i)) :=
  PS.imp (ps_setLc (wi := LI (gOf X T) W ι) (tt := LT (gOf X T) WF tt) (te := LE (gOf X T) WF ε) S.calm S.nd hy hyl hsw hi ok (fun s H C cl fp => hg s H C cl fp (std_blk S.calm S.nd)) (fun s H C cl fp => ht s H C cl fp (std_blk S.calm S.nd)) (fun s H C cl fp => he s H C cl fp (std_blk S.calm S.nd)) hs) fun D σ H ⟨μ, env, h, D0, r, re, q, p⟩ =>
    lc_read tk σ H _ ⟨μ, env, h, _, _, r, re, q, fun d h' v H' μ' q' r' l' rv => p.nx _ _ _ _ _ q' r' ((re.le l').put rv i) l', p.xc⟩
end
end DL
set_option Elab.async false
set_option linter.all false
set_option maxRecDepth 100000
set_option maxHeartbeats 4000000
namespace DL
open PySem PySem.Spec PyProof.Rows L2
open PySem.W (Frag alike dataLt)
/-! ### data: ==, <, in -/
mutual
/-- a value without lists, as data -/
def toP : D → Option PyData
  | .non => some .none
  | .bl b => some (.bool b)
  | .int i => some (.int i)
  | .str x => some (.str x)
  | .tup xs => (toPs xs).map .tuple
  | .ref _ => none
  | .obj _ => none
def toPs : List D → Option (List PyData)
  | [] => some []
  | x :: xs => match toP x, toPs xs with
    | some a, some as => some (a :: as)
    | _, _ => none
end
/-- .. with lists, to a depth -/
def toPf (h : DH) : Nat → D → Option PyData
  | 0, x => toP x
  | n + 1, .ref m => match lstOf h m with
    | some xs => (xs.mapM (toPf h n)).map .list
    | none => none
  | n + 1, .tup xs => (xs.mapM (toPf h n)).map .tuple
  | _ + 1, x => toP x
section
variable {g : G} {H : Hp} {μ : List Addr} {h : DH}
mutual
theorem toP_dp {K : Frag} : ∀ (x : D) (v : V) (a : PyData), RV K H μ v x → toP x = some a → Dp K H v a
  | .non, v, a, r, e => by simp only [toP] at e; cases e; rw [r.inv_non]; exact .non
  | .bl b, v, a, r, e => by simp only [toP] at e; cases e; rw [r.inv_bl]; exact .bl b
  | .int b, v, a, r, e => by simp only [toP] at e; cases e; rw [r.inv_int]; exact .int b
  | .str b, v, a, r, e => by simp only [toP] at e; cases e; rw [r.inv_str]; exact .str b
  | .tup xs, v, a, r, e => by
    simp only [toP] at e
    obtain ⟨as, e1, rfl⟩ := Option.map_eq_some_iff.mp e
    obtain ⟨b, vs, rfl, h1, h2⟩ := r.inv_tup
    exact .tup h1 (toPs_dp xs vs as h2 e1)
  | .ref _, v, a, r, e => by simp [toP] at e
  | .obj _, v, a, r, e => by simp [toP] at e
theorem toPs_dp {K : Frag} : ∀ (xs : List D) (vs : List V) (as : List PyData), RVs K H μ vs xs → toPs xs = some as → DpAll K H vs as
  | [], vs, as, r, e => by simp only [toPs] at e; cases e; cases r; exact .nil
  | x :: xs, vs, as, r, e => by
    simp only [toPs] at e
    split at e
    · cases e
      cases r with
      | cons r1 r2 => exact .cons (toP_dp x _ _ r1 (by assumption)) (toPs_dp xs _ _ r2 (by assumption))
    · cases e
end
theorem mapM_dp {K : Frag} {f : D → Option PyData} (hf : ∀ (x : D) (v : V) (a : PyData), RV K H μ v x → f x = some a → Dp K H v a) : ∀ (xs : List D) (vs : List V) (as : List PyData), RVs K H μ vs xs → xs.mapM f = some as → DpAll K H vs as
  | [], vs, as, r, e => by simp at e; subst e; cases r; exact .nil
  | x :: xs, vs, as, r, e => by
    rw [List.mapM_cons] at e
    obtain ⟨a, e1, e2⟩ := Option.bind_eq_some_iff.mp e
    obtain ⟨bs, e3, e4⟩ := Option.bind_eq_some_iff.mp e2
    cases e4
    cases r with
    | cons r1 r2 => exact .cons (hf x _ _ r1 e1) (mapM_dp hf xs _ _ r2 e3)
theorem toPf_dp (r : RelH g H μ h) : ∀ (n : Nat) (x : D) (v : V) (a : PyData), RV g.K H μ v x → toPf h n x = some a → Dp g.K H v a
  | 0, x, v, a, rv, e => toP_dp x v a rv e
  | n + 1, .ref m, v, a, rv, e => by
    simp only [toPf] at e
    split at e
    · rename_i xs e1
      obtain ⟨as, e2, rfl⟩ := Option.map_eq_some_iff.mp e
      obtain ⟨b, rfl, hm⟩ := rv.inv_ref
      obtain ⟨vs, h1, h2⟩ := lst_at r hm e1
      exact .lst h1 (mapM_dp (toPf_dp r n) xs vs as h2 e2)
    · cases e
  | n + 1, .tup xs, v, a, rv, e => by
    simp only [toPf] at e
    obtain ⟨as, e2, rfl⟩ := Option.map_eq_some_iff.mp e
    obtain ⟨b, vs, rfl, h1, h2⟩ := rv.inv_tup
    exact .tup h1 (mapM_dp (toPf_dp r n) xs vs as h2 e2)
  | _ + 1, .non, v, a, rv, e => toP_dp _ v a rv e
  | _ + 1, .bl _, v, a, rv, e => toP_dp _ v a rv e
  | _ + 1, .int _, v, a, rv, e => toP_dp _ v a rv e
  | _ + 1, .str _, v, a, rv, e => toP_dp _ v a rv e
  | _ + 1, .obj _, v, a, rv, e => toP_dp _ v a rv e
end
/-- == -/
def dEqG (x y : D) (h : DH) (Q : Bool → Prop) : Prop := ∃ n a b, toPf h n x = some a ∧ toPf h n y = some b ∧ SeqAt.shaped a = true ∧ SeqAt.shaped b = true ∧ Q (PyData.eqv a b)
def dEq : D2 := fun x y h Q => match x, y with
  | .int i, .int j => Q (.bl (decide (i = j))) h
  | .str i, .str j => Q (.bl (decide (i = j))) h
  | x, y => dEqG x y h fun b => Q (.bl b) h
def dNe : D2 := fun x y h Q => match x, y with
  | .int i, .int j => Q (.bl (!decide (i = j))) h
  | .str i, .str j => Q (.bl (!decide (i = j))) h
  | x, y => dEqG x y h fun b => Q (.bl (!b)) h
section
variable {X : Cx} {T : List Addr} {W : WX}
theorem op_eqDD (hu : X.A.units + 64 < cLine) : ∃ r, OpR X (compareOp .Eq) r ∧ ∀ T, OpD (gOf X T) r dEq := by
  refine ⟨_, op_eq.or (op_eqD hu), fun T H μ h vx vy x y Q0 Q rh rx ry q p => ?_⟩
  unfold dEq at q
  split at q
  · rename_i i j
    rw [rx.inv_int, ry.inv_int]
    refine .inl ⟨rfl, ?_⟩
    have e : decide (V.int i = V.int j) = decide (i = j) := by by_cases c : i = j <;> simp [c]
    rw [e]
    exact p _ _ _ _ _ q rh .refl (.bl _)
  · rename_i i j
    rw [rx.inv_str, ry.inv_str]
    refine .inl ⟨rfl, ?_⟩
    have e : decide (V.str i = V.str j) = decide (i = j) := by by_cases c : i = j <;> simp [c]
    rw [e]
    exact p _ _ _ _ _ q rh .refl (.bl _)
  · obtain ⟨n, a, b, e1, e2, s1, s2, q⟩ := q
    exact .inr ⟨a, b, toPf_dp rh n _ _ _ rx e1, toPf_dp rh n _ _ _ ry e2, s1, s2, p _ _ _ _ _ q rh .refl (.bl _)⟩
theorem op_neDD (hu : X.A.units + 64 < cLine) : ∃ r, OpR X (compareOp .NotEq) r ∧ ∀ T, OpD (gOf X T) r dNe := by
  refine ⟨_, op_ne.or (op_neD hu), fun T H μ h vx vy x y Q0 Q rh rx ry q p => ?_⟩
  unfold dNe at q
  split at q
  · rename_i i j
    rw [rx.inv_int, ry.inv_int]
    refine .inl ⟨rfl, ?_⟩
    have e : decide (V.int i = V.int j) = decide (i = j) := by by_cases c : i = j <;> simp [c]
    rw [e]
    exact p _ _ _ _ _ q rh .refl (.bl _)
  · rename_i i j
    rw [rx.inv_str, ry.inv_str]
    refine .inl ⟨rfl, ?_⟩
    have e : decide (V.str i = V.str j) = decide (i = j) := by by_cases c : i = j <;> simp [c]
    rw [e]
    exact p _ _ _ _ _ q rh .refl (.bl _)
  · obtain ⟨n, a, b, e1, e2, s1, s2, q⟩ := q
    exact .inr ⟨a, b, toPf_dp rh n _ _ _ rx e1, toPf_dp rh n _ _ _ ry e2, s1, s2, p _ _ _ _ _ q rh .refl (.bl _)⟩
/-! the order of data -/
def rCmp (K : Frag) (f : PyData → PyData → Bool) : R2 := fun x y H Q => ∃ a b, Dp K H x a ∧ Dp K H y b ∧ alike a b = true ∧ a ≠ .none ∧ min a.depth b.depth ≤ 60 ∧ Q (.bl (f a b)) H
theorem op_cmpR {op : CmpOp} {f : PyData → PyData → Bool} (hu : X.A.units + 64 < cLine)
    (hr : ∀ (da db : PyData) (A : Around) (s : Shared) (a b : Value) (as bs : List Addr), Reads s.heap a da as → Reads s.heap b db bs → alike da db = true → da ≠ .none → A.units + min da.depth db.depth < cLine → PySem.SeqAt.RcOp op A s a b (f da db)) (he : ∀ a b : Value, compareOp op a b = richCompare op a b := by intros; rfl) : OpR X (compareOp op) (rCmp X.K f) := by
  intro pins s σ H x y v u Q I rx ry h
  obtain ⟨a, b, h1, h2, h3, h4, h5, q⟩ := h
  obtain ⟨as, r1⟩ := Dp.reads I a x v h1 rx
  obtain ⟨bs, r2⟩ := Dp.reads I b y u h2 ry
  rw [he]
  exact hr a b X.A s v u as bs r1 r2 h3 h4 (by omega) X.prog X.w X.xe (EP X pins σ Q) ⟨.bl _, H, I, rfl, q⟩
def dCmpG (f : PyData → PyData → Bool) (x y : D) (h : DH) (Q : VD) : Prop := ∃ n a b, toPf h n x = some a ∧ toPf h n y = some b ∧ alike a b = true ∧ a ≠ .none ∧ min a.depth b.depth ≤ 60 ∧ Q (.bl (f a b)) h
theorem cmpD {f : PyData → PyData → Bool} {g : G} : OpD g (rCmp g.K f) (dCmpG f) := fun H μ h vx vy x y Q0 Q rh rx ry ⟨n, a, b, e1, e2, e3, e4, e5, q⟩ p =>
  ⟨a, b, toPf_dp rh n _ _ _ rx e1, toPf_dp rh n _ _ _ ry e2, e3, e4, e5, p _ _ _ _ _ q rh .refl (.bl _)⟩
/-- <=, > of whole numbers or of data -/
def dLeA : D2 := fun x y h Q => match x, y with | .int i, .int j => Q (.bl (decide (i ≤ j))) h | x, y => dCmpG (fun a b => !dataLt b a) x y h Q
def dGtA : D2 := fun x y h Q => match x, y with | .int i, .int j => Q (.bl (decide (j < i))) h | x, y => dCmpG (fun a b => dataLt b a) x y h Q
theorem op_leDD (hu : X.A.units + 64 < cLine) : ∃ r, OpR X (compareOp .LtE) r ∧ ∀ T, OpD (gOf X T) r dLeA := by
  obtain ⟨r, h1, h2⟩ := op_leD (X := X)
  refine ⟨_, h1.or (op_cmpR hu PySem.W.rcLe_alike), fun T H μ h vx vy x y Q0 Q rh rx ry q p => ?_⟩
  unfold dLeA at q
  split at q
  · exact .inl (h2 T H μ h _ _ _ _ Q0 Q rh rx ry q p)
  · exact .inr (cmpD (g := gOf X T) H μ h _ _ _ _ Q0 Q rh rx ry q p)
theorem op_gtDD (hu : X.A.units + 64 < cLine) : ∃ r, OpR X (compareOp .Gt) r ∧ ∀ T, OpD (gOf X T) r dGtA := by
  obtain ⟨r, h1, h2⟩ := op_gtD (X := X)
  refine ⟨_, h1.or (op_cmpR hu PySem.W.rcGt_alike), fun T H μ h vx vy x y Q0 Q rh rx ry q p => ?_⟩
  unfold dGtA at q
  split at q
  · exact .inl (h2 T H μ h _ _ _ _ Q0 Q rh rx ry q p)
  · exact .inr (cmpD (g := gOf X T) H μ h _ _ _ _ Q0 Q rh rx ry q p)
/-! x in a list or a tuple of data -/
def dInG (x y : D) (h : DH) (Q : Bool → Prop) : Prop := match y with
  | .ref m => ∃ n xs a as, lstOf h m = some xs ∧ toPf h n x = some a ∧ xs.mapM (toPf h n) = some as ∧ SeqAt.shaped a = true ∧ SeqAt.shaped (.list as) = true ∧ Q (as.any fun z => PyData.eqv z a)
  | _ => False
def dIn : D2 := fun x y h Q => dInG x y h fun b => Q (.bl b) h
def dNotIn : D2 := fun x y h Q => dInG x y h fun b => Q (.bl (!b)) h
theorem in_dp {g : G} {H : Hp} {μ : List Addr} {h : DH} {vx vy : V} {x y : D} {Q : Bool → Prop} (rh : RelH g H μ h) (rx : RV g.K H μ vx x) (ry : RV g.K H μ vy y) (q : dInG x y h Q) :
    ∃ a as, Dp g.K H vx a ∧ Dp g.K H vy (.list as) ∧ SeqAt.shaped a = true ∧ SeqAt.shaped (.list as) = true ∧ Q (as.any fun z => PyData.eqv z a) := by
  unfold dInG at q
  split at q
  · obtain ⟨n, xs, a, as, e1, e2, e3, s1, s2, q⟩ := q
    obtain ⟨b, rfl, hm⟩ := ry.inv_ref
    obtain ⟨vs, h1, h2⟩ := lst_at rh hm e1
    exact ⟨a, as, toPf_dp rh n _ _ _ rx e2, .lst h1 (mapM_dp (toPf_dp rh n) xs vs as h2 e3), s1, s2, q⟩
  · exact q.elim
theorem op_inDD (hu : X.A.units + 65 < cLine) : ∃ r, OpR X (compareOp .In) r ∧ ∀ T, OpD (gOf X T) r dIn := ⟨_, op_inD hu, fun T H μ h vx vy x y Q0 Q rh rx ry q p => by
  obtain ⟨a, as, d1, d2, s1, s2, q⟩ := in_dp rh rx ry q
  exact ⟨a, as, d1, d2, s1, s2, p _ _ _ _ _ q rh .refl (.bl _)⟩⟩
theorem op_notInDD (hu : X.A.units + 65 < cLine) : ∃ r, OpR X (compareOp .NotIn) r ∧ ∀ T, OpD (gOf X T) r dNotIn := ⟨_, op_notInD hu, fun T H μ h vx vy x y Q0 Q rh rx ry q p => by
  obtain ⟨a, as, d1, d2, s1, s2, q⟩ := in_dp rh rx ry q
  exact ⟨a, as, d1, d2, s1, s2, p _ _ _ _ _ q rh .refl (.bl _)⟩⟩
end
end DL
set_option Elab.async false
set_option linter.all false
set_option maxRecDepth 100000
set_option maxHeartbeats 4000000
namespace DL
open PySem PySem.Spec PyProof.Rows L2
open PySem.W (Frag)
/-! ### dicts whose keys are tuples -/
section
variable {X : Cx} {pins : List (Addr × Obj)} {σ : L2.St} {H : Hp} {s : Shared} {μ : List Addr}
mutual
theorem nested_rv (I : Inv X pins σ H s) : ∀ (d : D) (v : V) (u : Value) (k : NestedKey), RV X.K H μ v d → RelV v u → nk d = some k → NestedIs s.heap k u
  | .int i, v, u, k, r, q, e => by
    simp only [nk] at e; cases e
    rw [r.inv_int] at q
    obtain ⟨t, rfl⟩ := q
    exact .int i t
  | .str i, v, u, k, r, q, e => by
    simp only [nk] at e; cases e
    rw [r.inv_str] at q
    obtain ⟨t, rfl⟩ := q
    exact .text i t
  | .tup xs, v, u, k, r, q, e => by
    simp only [nk] at e
    obtain ⟨ks, e1, rfl⟩ := Option.map_eq_some_iff.mp e
    obtain ⟨a, vs, rfl, h1, h2⟩ := r.inv_tup
    obtain rfl : u = Value.ref a := q
    obtain ⟨its, rv, ⟨o, ho, hc, n, hd⟩, _⟩ := I.tuple h1
    exact .tup ho hc hd (nesteds_rv I xs vs its ks h2 rv e1)
  | .non, _, _, _, _, _, e => by simp [nk] at e
  | .bl _, _, _, _, _, _, e => by simp [nk] at e
  | .ref _, _, _, _, _, _, e => by simp [nk] at e
  | .obj _, _, _, _, _, _, e => by simp [nk] at e
theorem nesteds_rv (I : Inv X pins σ H s) : ∀ (d : List D) (v : List V) (u : List Value) (k : List NestedKey), RVs X.K H μ v d → Vals v u → nks d = some k → NestedAll s.heap k u
  | [], v, u, k, r, q, e => by
    simp only [nks] at e; cases e
    cases r; cases q
    exact .nil
  | x :: xs, v, u, k, r, q, e => by
    simp only [nks] at e
    split at e
    · cases e
      cases r with
      | cons r1 r2 =>
        cases q with
        | cons q1 q2 => exact .cons (nested_rv I x _ _ _ r1 q1 (by assumption)) (nesteds_rv I xs _ _ _ r2 q2 (by assumption))
    · cases e
end
theorem is_rv (I : Inv X pins σ H s) {d : D} {a : Addr} {k : NestedKey} (r : RV X.K H μ (.ref a) d) (e : nk d = some k) (hz : k.depth ≤ 8) : (nestedKind X.prog X.w).is s.heap k a := ⟨nested_rv I d _ _ k r rfl e, hz⟩
/-- the pairs with their values -/
abbrev P3 : NestedKey × Addr × V → NestedKey × Addr × Value → Prop := fun p q => p.1 = q.1 ∧ p.2.1 = q.2.1 ∧ RelV p.2.2 q.2.2
theorem p3_keys : ∀ {ks : List (NestedKey × Addr × V)} {xs : List (NestedKey × Addr × Value)}, Paired P3 ks xs → xs.map (·.1) = ks.map (·.1)
  | _, _, .nil => rfl
  | _, _, .cons h r => by rw [List.map_cons, List.map_cons, p3_keys r, h.1]
theorem raw_at (I : Inv X pins σ H s) {d : Addr} {ks : List (NestedKey × Addr × V)} {ep : Nat} (e : H d = some (DctO X.prog X.w d ks ep)) : RawD X.prog X.w s.heap d ks ep := (I.hok d _ e).1
theorem dctO_ok {P : Program} {w : World} {h : Heap} {d : Addr} {ks : List (NestedKey × Addr × V)} {ep : Nat} (x : RawD P w h d ks ep) : ObjOk P w H h d (DctO P w d ks ep) := by
  refine ⟨x, ?_, fun h1 h2 ⟨a, b, c, f, xs, p, o, es, e, r⟩ k => ⟨a, b, c, f, xs, p, o, es, k o e, r⟩⟩
  obtain ⟨_, _, _, _, _, _, o, es, e, _⟩ := x
  exact ⟨o, e⟩
theorem dictH_at (I : Inv X pins σ H s) {d : Addr} {ks : List (NestedKey × Addr × V)} {kvs : List (D × D)} {ep : Nat} (e : H d = some (DctO X.prog X.w d ks ep)) (pk : Paired (KR X.K H μ) ks kvs) :
    ∃ xs, Paired P3 ks xs ∧ s.heap.DictOfH (nestedKind X.prog X.w) d xs ∧ (d == sysModules) = false ∧ (∃ o es, s.heap.get? d = some o ∧ o.ExactDict ∧ o.data = .dict es ep ∧ es.toList = xs.map (entryOfKey (nestedKind X.prog X.w))) ∧ ks.length ≤ sizeLine := by
  obtain ⟨a, nd, c, dp, xs, p, o, es, he, hx, hd, hes⟩ := raw_at I e
  have e1 := p3_keys p
  refine ⟨xs, p, ⟨o, es, ep, he, hx, hd, hes, ?_, by rw [e1]; exact nd⟩, a, ⟨o, es, he, hx, hd, hes⟩, c⟩
  clear hes nd c e1 e
  induction p generalizing kvs with
  | nil => intro x hx; cases hx
  | cons hp _ ih =>
    cases pk with
    | cons hk pk =>
      intro x hx
      rcases List.mem_cons.mp hx with z | z
      · rw [z]
        obtain ⟨q1, q2, _⟩ := hp
        rw [← q1, ← q2]
        exact is_rv I hk.2.1 hk.1 (dp _ List.mem_cons_self)
      · exact ih pk (fun k hk => dp k (List.mem_cons_of_mem _ hk)) x z
end
/-- what a dict has at a key -/
def dlook (kvs : List (D × D)) (y : D) : Option D := (kvs.find? fun p => decide (nk p.1 = nk y)).map (·.2)
def dput (kvs : List (D × D)) (y v : D) : List (D × D) := if (dlook kvs y).isSome then kvs.map fun p => if nk p.1 = nk y then (p.1, v) else p else kvs ++ [(y, v)]
section
variable {K : Frag} {H : Hp} {μ : List Addr}
theorem look_rel : ∀ {ks : List (NestedKey × Addr × V)} {xs : List (NestedKey × Addr × Value)} {kvs : List (D × D)} {y : D} {k : NestedKey}, Paired P3 ks xs → Paired (KR K H μ) ks kvs → nk y = some k →
    (dlook kvs y = none ∧ atKey xs k = none) ∨ ∃ dv b u v, dlook kvs y = some dv ∧ atKey xs k = some (b, u) ∧ RelV v u ∧ RV K H μ v dv
  | [], _, _, y, k, .nil, .nil, _ => .inl ⟨rfl, rfl⟩
  | p :: ks, x :: xs, q :: kvs, y, k, .cons h1 t1, .cons h2 t2, e => by
    have hk : decide (nk q.1 = nk y) = decide (x.1 = k) := by
      rw [h2.1, e, h1.1]
      by_cases c : x.1 = k
      · rw [c]; simp
      · have c2 : ¬ some x.1 = some k := fun z => c (Option.some.inj z)
        rw [decide_eq_false c, decide_eq_false c2]
    by_cases c : x.1 = k
    · rw [decide_eq_true c] at hk
      refine .inr ⟨q.2, x.2.1, x.2.2, p.2.2, ?_, ?_, h1.2.2, h2.2.2⟩
      · unfold dlook; rw [List.find?_cons, hk]; rfl
      · unfold atKey; rw [List.find?_cons, decide_eq_true c]; rfl
    · rw [decide_eq_false c] at hk
      have e1 : dlook (q :: kvs) y = dlook kvs y := by unfold dlook; rw [List.find?_cons, hk]
      have e2 : atKey (x :: xs) k = atKey xs k := by unfold atKey; rw [List.find?_cons, decide_eq_false c]
      rw [e1, e2]
      exact look_rel t1 t2 e
theorem put_rel {ks : List (NestedKey × Addr × V)} {xs : List (NestedKey × Addr × Value)} {kvs : List (D × D)} {y dv : D} {k : NestedKey} {a : Addr} {v : V} {u : Value} (h1 : Paired P3 ks xs) (h2 : Paired (KR K H μ) ks kvs) (e : nk y = some k) (ha : RV K H μ (.ref a) y) (rv : RV K H μ v dv) (ru : RelV v u) :
    ∃ ks', Paired P3 ks' (storedH xs k a u) ∧ Paired (KR K H μ) ks' (dput kvs y dv) ∧ ks'.length ≤ ks.length + 1 := by
  rcases look_rel h1 h2 e with ⟨e1, e2⟩ | ⟨w, b, t, z, e1, e2, _, _⟩
  · refine ⟨ks ++ [(k, a, v)], ?_, ?_, by simp⟩
    · rw [storedH_new e2]
      clear e1 e2 h2
      induction h1 with
      | nil => exact .cons ⟨rfl, rfl, ru⟩ .nil
      | cons h _ ih => exact .cons h ih
    · unfold dput
      rw [e1, if_neg (by simp)]
      clear e1 e2 h1
      induction h2 with
      | nil => exact .cons ⟨e, ha, rv⟩ .nil
      | cons h _ ih => exact .cons h ih
  · refine ⟨ks.map fun p => if p.1 = k then (p.1, p.2.1, v) else p, ?_, ?_, by simp⟩
    · rw [storedH_old e2]
      clear e1 e2 h2
      induction h1 with
      | nil => exact .nil
      | @cons p q _ _ h _ ih =>
        refine .cons ?_ ih
        show P3 (if p.1 = k then (p.1, p.2.1, v) else p) (putAt k u q)
        unfold putAt
        by_cases c : p.1 = k
        · rw [if_pos c, if_pos (h.1 ▸ c)]; exact ⟨h.1, h.2.1, ru⟩
        · rw [if_neg c, if_neg (fun z => c (h.1.trans z))]; exact h
    · unfold dput
      rw [e1, if_pos (by simp)]
      clear e1 e2 h1
      induction h2 with
      | nil => exact .nil
      | @cons p q _ _ h _ ih =>
        refine .cons ?_ ih
        have hq : (nk q.1 = nk y) ↔ p.1 = k := by rw [h.1, e]; exact ⟨fun z => Option.some.inj z, fun z => by rw [z]⟩
        show KR K H μ (if p.1 = k then (p.1, p.2.1, v) else p) (if nk q.1 = nk y then (q.1, dv) else q)
        by_cases c : p.1 = k
        · rw [if_pos c, if_pos (hq.mpr c)]; exact ⟨h.1, h.2.1, rv⟩
        · rw [if_neg c, if_neg (fun z => c (hq.mp z))]; exact h
end
/-- a key: a tuple of ints and texts, nested not deep -/
def KeyOk (y : D) : Prop := ∃ xs k, y = .tup xs ∧ nk y = some k ∧ k.depth ≤ 8
section
variable {X : Cx} {T : List Addr} {W : WX}
/-! {} -/
def eDnew : DE := fun _ _ h Q => Q (.ref h.length) (h ++ [.dct [] 0])
theorem pd_dnew {pos : Pos} : PD X T W (.Dict [] [] pos) eDnew := ⟨fun pins s σ H Q I ⟨μ, env, h, Q0, E0, r, re, q, p, px⟩ => by
  have nsys : (s.heap.objs.size == sysModules) = false := (dt_empty (P := X.prog) (w := X.w) (H := H) s.heap I.big).2.1
  have hn : H s.heap.objs.size = none := I.hok.fresh (Nat.le_refl _)
  have raw : RawD X.prog X.w (s.heap.push { cls := .type "dict", data := .dict #[] }) s.heap.objs.size [] 0 := ⟨nsys, List.nodup_nil, Nat.zero_le _, fun _ z => (by cases z), [], .nil, _, #[], Heap.get?_push_size _ rfl, ⟨rfl, rfl, rfl⟩, rfl, rfl⟩
  refine wpAny_Dict_empty ⟨.ref s.heap.objs.size, _, I.laid (a := s.heap.objs.size) (o := DctO X.prog X.w s.heap.objs.size [] 0) (t' := s.toks) (fun _ _ q => Heap.get?_push_of_some _ q) (Nat.le_refl _) (dctO_ok raw), rfl, ?_⟩
  exact p _ _ _ _ _ q (r.made (d := .dct [] 0) hn ⟨[], upd_same, .nil⟩) (Le.new' hn) (.ref (by rw [List.getElem?_append_right (by rw [r.len]; exact Nat.le_refl _), r.len, Nat.sub_self]; rfl))⟩
/-! d[k] -/
def rGetD (g : G) : R2 := fun x y H Q => ∃ μ d a ks kvs ep dk k, x = .ref d ∧ y = .ref a ∧ H d = some (DctO g.P g.w d ks ep) ∧ Paired (KR g.K H μ) ks kvs ∧ RV g.K H μ (.ref a) dk ∧ nk dk = some k ∧ k.depth ≤ 8 ∧
  ∃ dv, dlook kvs dk = some dv ∧ ∀ v, RV g.K H μ v dv → Q v H
theorem get_core (hu : X.A.units + 20 < cLine) {pins : List (Addr × Obj)} {s : Shared} {σ : L2.St} {H : Hp} {x y : V} {v u : Value} {Q : VK} (I : Inv X pins σ H s) (rx : RelV x v) (ry : RelV y u) (h : rGetD (gOf X T) x y H Q) : wpAny (model X.prog X.w) X.A (getItem v u) (EP X pins σ Q) X.xe s := by
  obtain ⟨μ, d, a, ks, kvs, ep, dk, k, rfl, rfl, hd, pk, ra, ek, hz, dv, hl, q⟩ := h
  obtain rfl : v = Value.ref d := rx
  obtain rfl : u = Value.ref a := ry
  obtain ⟨xs, p3, D, _⟩ := dictH_at I hd pk
  rcases look_rel p3 pk ek with ⟨e1, _⟩ | ⟨w, b, t, z, e1, e2, r1, r2⟩
  · rw [hl] at e1; cases e1
  · rw [hl] at e1; cases e1
    exact wpAny_getItem_heap (show X.A.units + 1 + 8 < cLine by omega) (is_rv I ra ek hz) D e2 ⟨z, H, I.tok _, r1, q z r2⟩
theorem ix_dct (hu : X.A.units + 20 < cLine) : IxR X (rGetD (gOf X T)) := by
  intro value slice pins s σ H x y v u Q I rx ry h hs
  obtain ⟨μ, d, a, ks, kvs, ep, dk, k, rfl, rfl, hd, pk, ra, ek, hz, dv, hl, q⟩ := h
  obtain ⟨xs, p3, D, _⟩ := dictH_at I hd pk
  have g := get_core (T := T) hu I rx ry ⟨μ, d, a, ks, kvs, ep, dk, k, rfl, rfl, hd, pk, ra, ek, hz, dv, hl, q⟩
  obtain rfl : v = Value.ref d := rx
  exact tail_any D.typeIs slot_dict_getitem.lookup g hs
def dGetD (x y : D) (h : DH) (Q : VD) : Prop := match x with
  | .ref n => ∃ kvs ep dv, h[n]? = some (.dct kvs ep) ∧ KeyOk y ∧ dlook kvs y = some dv ∧ Q dv h
  | _ => False
theorem getD_ok {g : G} : OpD g (rGetD g) dGetD := fun H μ h vx vy x y Q0 Q rh rx ry q p => by
  unfold dGetD at q
  split at q
  · obtain ⟨kvs, ep, dv, e, ⟨xs, k, rfl, ek, hz⟩, hl, q⟩ := q
    obtain ⟨d, rfl, hn⟩ := rx.inv_ref
    obtain ⟨a, vs, rfl, h1, h2⟩ := ry.inv_tup
    obtain ⟨ks, hd, pk⟩ := rh.obj _ _ _ hn e
    exact ⟨μ, d, a, ks, kvs, ep, _, k, rfl, rfl, hd, pk, ry, ek, hz, dv, hl, fun v rv => p _ _ _ _ _ q rh .refl rv⟩
  · exact q.elim
/-- a subscript of anything -/
def dIxA : D2 := fun x y h Q => match x with
  | .ref n => match h[n]? with
    | some (.dct kvs _) => KeyOk y ∧ ∃ dv, dlook kvs y = some dv ∧ Q dv h
    | _ => dIx x y h Q
  | _ => dIx x y h Q
theorem op_ixA (hu : X.A.units + 20 < cLine) : ∃ r, IxR X r ∧ OpD (gOf X T) r dIxA := by
  obtain ⟨r, h1, h2⟩ := op_ixD (X := X)
  refine ⟨_, h1.or (ix_dct (T := T) hu), fun H μ h vx vy x y Q0 Q rh rx ry q p => ?_⟩
  unfold dIxA at q
  split at q
  · split at q
    · rename_i n _ kvs ep e
      obtain ⟨ko, dv, hl, q⟩ := q
      exact .inr (getD_ok H μ h _ _ (.ref n) y Q0 Q rh rx ry ⟨kvs, ep, dv, e, ko, hl, q⟩ p)
    · exact .inl (h2 T H μ h _ _ _ _ Q0 Q rh rx ry q p)
  · exact .inl (h2 T H μ h _ _ _ _ Q0 Q rh rx ry q p)
/-! k in d -/
def rInD' (g : G) (neg : Bool) : R2 := fun y x H Q => ∃ μ d a ks kvs ep dk k, x = .ref d ∧ y = .ref a ∧ H d = some (DctO g.P g.w d ks ep) ∧ Paired (KR g.K H μ) ks kvs ∧ RV g.K H μ (.ref a) dk ∧ nk dk = some k ∧ k.depth ≤ 8 ∧ Q (.bl (if neg then !(dlook kvs dk).isSome else (dlook kvs dk).isSome)) H
theorem look_some {K : Frag} {H : Hp} {μ : List Addr} {ks : List (NestedKey × Addr × V)} {xs : List (NestedKey × Addr × Value)} {kvs : List (D × D)} {y : D} {k : NestedKey} (h1 : Paired P3 ks xs) (h2 : Paired (KR K H μ) ks kvs) (e : nk y = some k) : (atKey xs k).isSome = (dlook kvs y).isSome := by
  rcases look_rel h1 h2 e with ⟨e1, e2⟩ | ⟨w, b, t, z, e1, e2, _, _⟩
  · rw [e1, e2]; rfl
  · rw [e1, e2]; rfl
theorem op_in_dct (hu : X.A.units + 20 < cLine) : OpR X (compareOp .In) (rInD' (gOf X T) false) := by
  intro pins s σ H x y v u Q I rx ry h
  obtain ⟨μ, d, a, ks, kvs, ep, dk, k, rfl, rfl, hd, pk, ra, ek, hz, q⟩ := h
  obtain rfl : u = Value.ref d := ry
  obtain rfl : v = Value.ref a := rx
  obtain ⟨xs, p3, D, ns, _⟩ := dictH_at I hd pk
  refine wpAny_in_heap (show X.A.units + 1 + 8 < cLine by omega) (is_rv I ra ek hz) ns D ?_
  rw [look_some p3 pk ek]
  exact ⟨.bl _, H, I.tok _, rfl, q⟩
theorem op_notin_dct (hu : X.A.units + 20 < cLine) : OpR X (compareOp .NotIn) (rInD' (gOf X T) true) := by
  intro pins s σ H x y v u Q I rx ry h
  obtain ⟨μ, d, a, ks, kvs, ep, dk, k, rfl, rfl, hd, pk, ra, ek, hz, q⟩ := h
  obtain rfl : u = Value.ref d := ry
  obtain rfl : v = Value.ref a := rx
  obtain ⟨xs, p3, D, ns, _⟩ := dictH_at I hd pk
  show wpAny _ _ (do return Value.bool (!(← contains (.ref d) (.ref a)))) _ X.xe s
  refine wpAny_bind (wpAny_contains_heap (show X.A.units + 1 + 8 < cLine by omega) (is_rv I ra ek hz) ns D (wpAny_pure ?_))
  rw [look_some p3 pk ek]
  exact ⟨.bl _, H, I.tok _, rfl, q⟩
def dInD (neg : Bool) : D2 := fun y x h Q => match x with
  | .ref n => ∃ kvs ep, h[n]? = some (.dct kvs ep) ∧ KeyOk y ∧ Q (.bl (if neg then !(dlook kvs y).isSome else (dlook kvs y).isSome)) h
  | _ => False
theorem inD_ok {g : G} {neg : Bool} : OpD g (rInD' g neg) (dInD neg) := fun H μ h vy vx y x Q0 Q rh ry rx q p => by
  unfold dInD at q
  split at q
  · obtain ⟨kvs, ep, e, ⟨xs, k, rfl, ek, hz⟩, q⟩ := q
    obtain ⟨d, rfl, hn⟩ := rx.inv_ref
    obtain ⟨a, vs, rfl, h1, h2⟩ := ry.inv_tup
    obtain ⟨ks, hd, pk⟩ := rh.obj _ _ _ hn e
    exact ⟨μ, d, a, ks, kvs, ep, _, k, rfl, rfl, hd, pk, ry, ek, hz, p _ _ _ _ _ q rh .refl (.bl _)⟩
  · exact q.elim
/-- in, not in, of a dict, a list -/
def dInA (neg : Bool) : D2 := fun y x h Q => match x with
  | .ref n => match h[n]? with
    | some (.dct kvs _) => KeyOk y ∧ Q (.bl (if neg then !(dlook kvs y).isSome else (dlook kvs y).isSome)) h
    | _ => dInG y x h fun b => Q (.bl (if neg then !b else b)) h
  | _ => False
theorem op_inA (hu : X.A.units + 65 < cLine) : ∃ r, OpR X (compareOp .In) r ∧ OpD (gOf X T) r (dInA false) := by
  obtain ⟨r, h1, h2⟩ := op_inDD hu
  refine ⟨_, h1.or (op_in_dct (T := T) (by omega)), fun H μ h vx vy x y Q0 Q rh rx ry q p => ?_⟩
  unfold dInA at q
  split at q
  · split at q
    · rename_i n _ kvs ep e
      exact .inr (inD_ok H μ h _ _ x (.ref n) Q0 Q rh rx ry ⟨kvs, ep, e, q⟩ p)
    · exact .inl (h2 T H μ h _ _ _ _ Q0 Q rh rx ry q p)
  · exact q.elim
theorem op_notinA (hu : X.A.units + 65 < cLine) : ∃ r, OpR X (compareOp .NotIn) r ∧ OpD (gOf X T) r (dInA true) := by
  obtain ⟨r, h1, h2⟩ := op_notInDD hu
  refine ⟨_, h1.or (op_notin_dct (T := T) (by omega)), fun H μ h vx vy x y Q0 Q rh rx ry q p => ?_⟩
  unfold dInA at q
  split at q
  · split at q
    · rename_i n _ kvs ep e
      exact .inr (inD_ok H μ h _ _ x (.ref n) Q0 Q rh rx ry ⟨kvs, ep, e, q⟩ p)
    · exact .inl (h2 T H μ h _ _ _ _ Q0 Q rh rx ry q p)
  · exact q.elim
/-! d[k] = v -/
def rPutD (g : G) : V → V → V → Hp → (Hp → Prop) → Prop := fun x y v H Q => ∃ μ d a ks kvs ep dk k dv, x = .ref d ∧ y = .ref a ∧ H d = some (DctO g.P g.w d ks ep) ∧ Paired (KR g.K H μ) ks kvs ∧ RV g.K H μ (.ref a) dk ∧ nk dk = some k ∧ k.depth ≤ 8 ∧ RV g.K H μ v dv ∧ kvs.length ≤ 1000000 ∧
  ∀ ks' ep', Paired (KR g.K H μ) ks' (dput kvs dk dv) → Q (upd H d (DctO g.P g.w d ks' ep'))
theorem paired_len {α β : Type} {F : α → β → Prop} : ∀ {xs : List α} {ys : List β}, Paired F xs ys → xs.length = ys.length
  | _, _, .nil => rfl
  | _, _, .cons _ r => congrArg Nat.succ (paired_len r)
theorem set_dct (hu : X.A.units + 20 < cLine) : PSet X (rPutD (gOf X T)) := by
  intro pins s σ H o i v ov iv u Q I ro ri rv h
  obtain ⟨μ, d, a, ks, kvs, ep, dk, k, dv, rfl, rfl, hd, pk, ra, ek, hz, rdv, hl, q⟩ := h
  obtain rfl : ov = Value.ref d := ro
  obtain rfl : iv = Value.ref a := ri
  obtain ⟨xs, p3, D, ns, _⟩ := dictH_at I hd pk
  obtain ⟨_, _, _, dp, _⟩ := raw_at I hd
  have hlen : xs.length = kvs.length := (paired_len p3).symm.trans (paired_len pk)
  refine wpAny_setItem_heap (hsz := by rw [hlen]; exact line_le hl) (knd := nestedKind X.prog X.w) (show X.A.units + 1 + 8 < cLine by omega) (is_rv I ra ek hz) D fun h' D' sb => ?_
  obtain ⟨ks', p3', pk', hl'⟩ := put_rel p3 pk ek ra rdv rv
  obtain ⟨o', es', ep', he', hx', hd', hes', hall', nd'⟩ := D'
  have e1 := p3_keys p3'
  have raw : RawD X.prog X.w h' d ks' ep' := by
    refine ⟨ns, by rw [← e1]; exact nd', ?_, fun p hp => ?_, _, p3', o', es', he', hx', hd', hes'⟩
    · have := paired_len pk
      rw [sizeLine_eq]; omega
    · have : p.1 ∈ ks'.map (·.1) := List.mem_map.mpr ⟨p, hp, rfl⟩
      rw [← e1] at this
      obtain ⟨x, hx, ex⟩ := List.mem_map.mp this
      rw [← ex]
      exact (hall' x hx).2
  have J : Inv X pins σ (upd H d (DctO X.prog X.w d ks' ep')) { s with heap := h', toks := s.toks + (nestedKind X.prog X.w).draws k } :=
    I.write (x := d) (e := d) (by rw [hd]; trivial) (.inl rfl) (fun b ob hb q => (sb.2 b hb).trans q) ⟨o', he'⟩ (dctO_ok raw)
  exact ⟨_, J, q _ _ pk'⟩
theorem PSet.or {r r' : V → V → V → Hp → (Hp → Prop) → Prop} (h : PSet X r) (h' : PSet X r') : PSet X (fun o i v H Q => r o i v H Q ∨ r' o i v H Q) := by
  intro pins s σ H o i v ov iv u Q I ro ri rv q
  rcases q with q | q
  · exact h pins s σ H o i v ov iv u Q I ro ri rv q
  · exact h' pins s σ H o i v ov iv u Q I ro ri rv q
/-- a store to a list's or a dict's item -/
def setA (o i d : D) (h : DH) (Q : DH → Prop) : Prop := match o with
  | .ref n => match h[n]? with
    | some (.lst xs) => (match i with | .int k => ∃ j, ixN xs.length k = some j ∧ Q (h.set n (.lst (xs.set j d))) | _ => False)
    | some (.dct kvs _) => KeyOk i ∧ kvs.length ≤ 1000000 ∧ ∀ ep', Q (h.set n (.dct (dput kvs i d) ep'))
    | _ => False
  | _ => False
def PSetOk (g : G) (r : V → V → V → Hp → (Hp → Prop) → Prop) : Prop := ∀ (H : Hp) (μ : List Addr) (h : DH) (vo vi v : V) (o i d : D) (Q0 : DH → Prop) (Q : Hp → Prop), RelH g H μ h → RV g.K H μ vo o → RV g.K H μ vi i → RV g.K H μ v d → setA o i d h Q0 →
  (∀ h' H', Q0 h' → RelH g H' μ h' → Le g.K H μ H' μ → Q H') → r vo vi v H Q
theorem set_any (hu : X.A.units + 20 < cLine) : ∃ r, PSet X r ∧ PSetOk (gOf X T) r := by
  refine ⟨_, PSet.or set_list (set_dct (T := T) hu), fun H μ h vo vi v o i d Q0 Q rh ro ri rv q p => ?_⟩
  unfold setA at q
  split at q
  · split at q
    · rename_i n _ xs e
      split at q
      · obtain ⟨a, rfl, hn⟩ := ro.inv_ref
        rw [ri.inv_int]
        obtain ⟨j, e2, q⟩ := q
        obtain ⟨vs, h4, h5⟩ := rh.obj _ _ _ hn e
        obtain ⟨r3, l3⟩ := chg_lst rh hn e h4 (h5.set rv j)
        exact .inl ⟨a, vs, _, j, rfl, rfl, h4, by rw [h5.length]; exact e2, p _ _ q r3 l3⟩
      · exact q.elim
    · rename_i n _ kvs ep e
      obtain ⟨⟨xs, k, rfl, ek, hz⟩, hl, q⟩ := q
      obtain ⟨a, rfl, hn⟩ := ro.inv_ref
      obtain ⟨b, vs, rfl, h1, h2⟩ := ri.inv_tup
      obtain ⟨ks, hd, pk⟩ := rh.obj _ _ _ hn e
      refine .inr ⟨μ, a, b, ks, kvs, ep, _, k, d, rfl, rfl, hd, pk, ri, ek, hz, rv, hl, fun ks' ep' pk' => ?_⟩
      have l : Le X.K H μ (upd H a (DctO X.prog X.w a ks' ep')) μ := Le.chg hd trivial
      exact p _ _ (q ep') (rh.chg hn hd trivial ⟨ks', upd_same, pairedLe (fun _ _ z => KR.le (g := gOf X T) l z) pk'⟩ ⟨_, e, rfl⟩ rfl) l
    · exact q.elim
  · exact q.elim
def gSto (εo εi : DE) : DG := fun E d env h Q => εo E env h fun o h1 => εi E env h1 fun i h2 => setA o i d h2 fun h3 => Q env h3
theorem pdg_sto {o i : Expr} {εo εi : DE} {pos : Pos} (hu : X.A.units + 20 < cLine) (ho : PD X T W o εo) (hi : PD X T W i εi)
    (ha : ∀ v, assign (.Subscript o i pos) X.env v = (do
      let ov ← holding [v] (eval o X.env)
      let iv ← holding [v, ov] (eval i X.env)
      standAt pos
      holding [v, ov, iv] (setItem ov iv v)
      release [v, ov, iv] []) := by intro _; rfl) : PDG X T W (.Subscript o i pos) (gSto εo εi) := by
  obtain ⟨r, h1, h2⟩ := set_any (X := X) (T := T) hu
  exact PG.imp (pg_sub ho hi h1 ha) fun v σ H Q ⟨μ, env, h, d, Q0, E0, rh, re, rv, q, p, px⟩ =>
    ⟨μ, env, h, _, E0, rh, re, q, fun x h1 u H1 μ1 q1 r1 l1 ru => ⟨μ1, env, h1, _, E0, r1, re.le l1, q1, fun y h3 t H2 μ2 q2 r2 l2 rt =>
      h2 H2 μ2 h3 _ _ _ _ _ _ _ _ r2 (ru.le l2) rt (rv.le (l1.trans l2)) q2 fun h' H' q' r' l' => p _ _ _ _ _ q' r' (re.le ((l1.trans l2).trans l')) ((l1.trans l2).trans l'), px.le l1⟩, px⟩
/-! d[k] op= e, of lists and dicts -/
def PGetOk (g : G) (r : V → V → Hp → VK → Prop) (δ : D2) : Prop := OpD g r δ
theorem get_any (hu : X.A.units + 20 < cLine) : ∃ r, PGet X r ∧ OpD (gOf X T) r dGetD := ⟨_, fun pins s σ H o i ov iv Q I ro ri q => get_core (T := T) hu I ro ri q, getD_ok⟩
end
end DL
set_option Elab.async false
set_option linter.all false
set_option maxRecDepth 100000
set_option maxHeartbeats 4000000
namespace DL
open PySem PySem.Spec PyProof.Rows L2
open PySem.W (Frag)
/-! ### walking over a dict with tuples as keys -/
section
variable {P : Program} {w : World} {K : Frag} {tg : Expr} {d : Addr}
/-- its keys, its items, while it stands -/
def Idk (P : Program) (w : World) (d : Addr) (n : Nat) (ep : Nat) : It :=
  ⟨fun i H => ∃ ks, H d = some (DctO P w d ks ep) ∧ ks.length = n ∧ i < n, fun i H x H' => H' = H ∧ ∀ ks, H d = some (DctO P w d ks ep) → ∃ p, ks[i]? = some p ∧ x = .ref p.2.1, fun i H => ∃ ks, H d = some (DctO P w d ks ep) ∧ ks.length = n ∧ n ≤ i⟩
def Idi (P : Program) (w : World) (d : Addr) (n : Nat) (ep : Nat) : It :=
  ⟨fun i H => ∃ ks, H d = some (DctO P w d ks ep) ∧ ks.length = n ∧ i < n, fun i H x H' => ∃ t a v, x = .ref t ∧ H t = none ∧ H' = upd H t (.tup [.ref a, v]) ∧ ∀ ks, H d = some (DctO P w d ks ep) → ∃ k, ks[i]? = some (k, a, v),
    fun i H => ∃ ks, H d = some (DctO P w d ks ep) ∧ ks.length = n ∧ n ≤ i⟩
theorem relV_one {x y : V} {u : Value} (h : L2.RelV x u) (h' : L2.RelV y u) : x = y := L2.RelV.inj h h'
theorem paired_at {α β : Type} {F : α → β → Prop} : ∀ {xs : List α} {ys : List β} {i : Nat} {x : α}, Paired F xs ys → xs[i]? = some x → ∃ y, ys[i]? = some y ∧ F x y
  | _, _, _, _, .nil, e => by simp at e
  | _, _, 0, _, .cons h _, e => by simp at e; subst e; exact ⟨_, rfl, h⟩
  | _, _, i + 1, x, .cons _ r, e => by
    obtain ⟨y, h1, h2⟩ := paired_at (i := i) (x := x) r (by simpa using e)
    exact ⟨y, by simpa using h1, h2⟩
theorem raw_es {X : Cx} {pins : List (Addr × Obj)} {σ : L2.St} {H : Hp} {s : Shared} (I : Inv X pins σ H s) {ks : List (NestedKey × Addr × V)} {ep : Nat} (e : H d = some (DctO X.prog X.w d ks ep)) :
    ∃ es : Array DictEntry, s.heap.DictRaw d es ep ∧ es.size = ks.length ∧ (d == sysModules) = false ∧ ∀ (i : Nat) (hi : i < es.size) (p : NestedKey × Addr × V), ks[i]? = some p → es[i].key = .ref p.2.1 ∧ RelV p.2.2 es[i].val := by
  obtain ⟨ns, _, _, _, xs, p3, o, es, he, hx, hd, hes⟩ := raw_at I e
  have l1 := paired_len p3
  have hsz : es.size = ks.length := by rw [size_of_entries hes, l1]
  refine ⟨es, ⟨o, he, hx, hd⟩, hsz, ns, fun i hi p hp => ?_⟩
  have e2 := entry_at hes i
  rw [Array.getElem?_eq_getElem hi] at e2
  obtain ⟨x, hx2, hpx⟩ : ∃ x, xs[i]? = some x ∧ P3 p x := by
    exact paired_at p3 hp
  rw [hx2, Option.map_some] at e2
  have e3 := Option.some.inj e2
  rw [e3]
  exact ⟨by rw [hpx.2.1]; rfl, hpx.2.2⟩
theorem raw_one {h : Heap} {d : Addr} {es es' : Array DictEntry} {ep ep' : Nat} (a : h.DictRaw d es ep) (b : h.DictRaw d es' ep') : es = es' := by
  obtain ⟨o, h1, _, h2⟩ := a
  obtain ⟨o', h3, _, h4⟩ := b
  rw [h1] at h3; cases h3
  rw [h2] at h4; cases h4
  rfl
theorem turn_dk {n ep : Nat} (it : Addr) : Turn P w K tg (Idk P w d n ep) [it] it (fun i h => h.IsKeyIter it d i n ep) where
  mem := by simp
  obj := fun i h st b hb => by
    rw [List.mem_singleton.mp hb]
    obtain ⟨oi, e, _, dd⟩ := st
    exact ⟨oi, e, fun v z => by rw [dd] at z; cases z⟩
  keep := fun i h h' st k => st.at fun oi e => k it (by simp) oi e
  item := by
    intro X hP hw hK hc i pins s σ H E I hf st hg
    subst hP hw hK
    obtain ⟨ks, hd, hn, hi⟩ := hg
    subst hn
    obtain ⟨f0, f1, f2, f3, f4, f5⟩ := hf it (by simp)
    obtain ⟨es, raw, hsz, ns, hes⟩ := raw_es I hd
    rw [← hsz] at st hi
    obtain ⟨p, hp⟩ : ∃ p, ks[i]? = some p := ⟨ks[i]'(hsz ▸ hi), List.getElem?_eq_getElem _⟩
    have uni : ∀ ks', H d = some (DctO X.prog X.w d ks' ep) → ∃ p', ks'[i]? = some p' ∧ V.ref p.2.1 = .ref p'.2.1 := fun ks' hd' => by
      obtain ⟨es', raw', hsz', _, hes'⟩ := raw_es I hd'
      obtain rfl := raw_one raw raw'
      have hi' : i < ks'.length := by omega
      refine ⟨ks'[i], List.getElem?_eq_getElem hi', ?_⟩
      have e1 := (hes i hi p hp).1
      rw [(hes' i hi ks'[i] (List.getElem?_eq_getElem hi')).1] at e1
      injection e1 with e1
      rw [e1]
    refine wpAny_pyNext_keys_item_raw st raw hi fun h' st' sb => ?_
    have I1 : Inv X pins σ H { s with heap := h' } := I.turned (t' := s.toks) (fun b ob hb e => (sb.2 b hb).trans e) f0 f1 f3 f4 f5
    obtain ⟨oi, e, c, dd⟩ := id st'
    refine ⟨_, rfl, go_of (s := { s with heap := h' }) e c dd (by decide) ⟨.ref p.2.1, H, I1, (hes i hi p hp).1, ⟨rfl, uni⟩, ?_, fun b hb => (hf b hb).1⟩⟩
    show h'.IsKeyIter it d (i + 1) ks.length ep
    rw [← hsz]
    exact st'
  done := by
    intro X hP hw hK hc i pins s σ H E I hf st hg
    subst hP hw hK
    obtain ⟨ks, hd, hn, hi⟩ := hg
    subst hn
    obtain ⟨f0, f1, f2, f3, f4, f5⟩ := hf it (by simp)
    obtain ⟨es, raw, hsz, ns, hes⟩ := raw_es I hd
    rw [← hsz] at st hi
    exact wpAny_pyNext_keys_end_raw (I.ok.hd hc) st raw hi fun h' eb => ⟨rfl, I.turned (t' := s.toks) (fun b ob hb e => eb b ob hb e) f0 f1 f3 f4 f5⟩
  self := fun A i s Q E st h => wpAny_pyIter_keyiter st h
theorem turn_di {n ep : Nat} {elts : List Expr} {kk : Nat} {tpos : Pos} (it : Addr) : Turn P w K (.Tuple elts kk tpos) (Idi P w d n ep) [it] it (fun i h => ∃ ok ov, IsItemIter h it d i n ep ok ov) where
  mem := by simp
  obj := fun i h st b hb => by
    rw [List.mem_singleton.mp hb]
    obtain ⟨ok, ov, e⟩ := st
    exact ⟨_, e, fun v z => nomatch z⟩
  keep := fun i h h' st k => let ⟨ok, ov, e⟩ := st; ⟨ok, ov, k it (by simp) _ e⟩
  item := by
    intro X hP hw hK hc i pins s σ H E I hf st hg
    subst hP hw hK
    obtain ⟨ks, hd, hn, hi⟩ := hg
    subst hn
    obtain ⟨es, raw, hsz, ns, hes⟩ := raw_es I hd
    obtain ⟨ok, ov, he⟩ := st
    rw [← hsz] at he hi
    obtain ⟨p, hp⟩ : ∃ p, ks[i]? = some p := ⟨ks[i]'(hsz ▸ hi), List.getElem?_eq_getElem _⟩
    obtain ⟨hk1, hv1⟩ := hes i hi p hp
    have hlt : it < s.heap.objs.size := Heap.lt_size he
    have uni : ∀ ks', H d = some (DctO X.prog X.w d ks' ep) → ∃ k, ks'[i]? = some (k, p.2.1, p.2.2) := fun ks' hd' => by
      obtain ⟨es', raw', hsz', _, hes'⟩ := raw_es I hd'
      obtain rfl := raw_one raw raw'
      have hi' : i < ks'.length := by omega
      have g1 := hes' i hi ks'[i] (List.getElem?_eq_getElem hi')
      have e1 := hk1
      rw [g1.1] at e1
      injection e1 with e1
      have e2 := relV_one g1.2 hv1
      refine ⟨ks'[i].1, ?_⟩
      rw [List.getElem?_eq_getElem hi', ← e1, ← e2]
    refine wpAny_pyNext_items_item_raw he raw hi fun h' ho hT hz hk => ?_
    refine ⟨_, rfl, wpAny_letOwnedTupleGo_items (s := { s with heap := h' }) ho fun h'' he' sb => ?_⟩
    have hT2 : h''.get? s.heap.objs.size = some { cls := .type "tuple", data := .seq #[es[i].key, es[i].val] } := (sb.2 _ (Nat.ne_of_gt hlt)).trans hT
    have new : ObjOk X.prog X.w (upd H s.heap.objs.size (.tup [.ref p.2.1, p.2.2])) h'' s.heap.objs.size (.tup [.ref p.2.1, p.2.2]) :=
      ⟨by show 2 ≤ sizeLine; decide, [es[i].key, es[i].val], .cons hk1 (.cons hv1 .nil), ⟨_, hT2, rfl, _, rfl⟩⟩
    have I1 : Inv X pins σ (upd H s.heap.objs.size (.tup [.ref p.2.1, p.2.2])) { s with heap := h'' } :=
      I.turnedNew (t' := s.toks) (ch := [it]) (fun b ob hb e => (sb.2 b (by simpa using hb)).trans (hk b ob (by simpa using hb) e)) hf (Nat.le_refl _) new
    refine ⟨.ref s.heap.objs.size, _, I1, rfl, ⟨_, p.2.1, p.2.2, rfl, I.hok.fresh (Nat.le_refl _), rfl, uni⟩, ⟨es[i].key, es[i].val, ?_⟩, fun b hb => ?_⟩
    · rw [← hsz]; exact he'
    · rw [List.mem_singleton.mp hb, upd_ne (Nat.ne_of_lt hlt)]
      exact (hf it (by simp)).1
  done := by
    intro X hP hw hK hc i pins s σ H E I hf st hg
    subst hP hw hK
    obtain ⟨ks, hd, hn, hi⟩ := hg
    subst hn
    obtain ⟨f0, f1, f2, f3, f4, f5⟩ := hf it (by simp)
    obtain ⟨es, raw, hsz, ns, hes⟩ := raw_es I hd
    obtain ⟨ok, ov, he⟩ := st
    rw [← hsz] at he hi
    exact wpAny_pyNext_items_end_raw (I.ok.hd hc) he raw hi fun h' eb => ⟨rfl, I.turned (t' := s.toks) (fun b ob hb e => eb b ob hb e) f0 f1 f3 f4 f5⟩
  self := fun A i s Q E st h => let ⟨_, _, e⟩ := st; PySem.W.kcp_self e h
end
section
variable {X : Cx} {T : List Addr} {W : WX} {tg e : Expr} {td : TE} {ε : DE} {apos cpos : Pos}
abbrev iDk (P : Program) (w : World) (td : TE) : TI := fun σ H R => td σ H fun x H1 => ∃ d ks ep, x = .ref d ∧ H1 d = some (DctO P w d ks ep) ∧ R (Idk P w d ks.length ep) H1
abbrev iDi (P : Program) (w : World) (td : TE) : TI := fun σ H R => td σ H fun x H1 => ∃ d ks ep, x = .ref d ∧ H1 d = some (DctO P w d ks ep) ∧ R (Idi P w d ks.length ep) H1
theorem pi_dk (he : PE X e td) : PI X tg e (iDk X.prog X.w td) := by
  refine ⟨fun pins s σ H R I h => ?_⟩
  refine thn (he.run pins s σ H _ I h) fun u s1 ⟨x, H1, I1, rx, d, ks, ep, ex, hd, q⟩ => ?_
  subst ex
  obtain rfl : u = Value.ref d := rx
  obtain ⟨es, raw, hsz, ns, _⟩ := raw_es I1 hd
  refine wpAny_pyIter_dict_raw ns raw (pi_one (tk := s1.toks) I1 _ (turn_dk _) ⟨_, Heap.get?_push_size _ rfl, rfl, ?_⟩ q)
  rw [hsz] <;> rfl
theorem pi_dkM (he : PE X e td) (hbase : attributeBase e "keys" X.env (eval e X.env) = eval e X.env := by rfl) (hline : (apos.endLine == cpos.line) = true := by rfl) : PI X tg (.Call (.Attribute e "keys" apos) [] [] cpos) (iDk X.prog X.w td) := by
  refine ⟨fun pins s σ H R I h => ?_⟩
  refine wpAny_Call_method (T := "dict") (id := "dict.keys") hbase rfl hline F.plainAttrs_dict F.slot_dict_keys F.type_dict_keys (thn (he.run pins s σ H _ I h) fun u s1 ⟨x, H1, I1, rx, d, ks, ep, ex, hd, q⟩ => ?_)
  subst ex
  obtain rfl : u = Value.ref d := rx
  obtain ⟨es, raw, hsz, ns, _⟩ := raw_es I1 hd
  obtain ⟨o, ho, hx, hdt⟩ := id raw
  refine ⟨raw.typeIs, fun a ha => by injection ha with ha; subst ha; exact ⟨o, ho, hx.2.1⟩, ?_⟩
  have I2 : Inv X pins σ H1 { s1 with heap := s1.heap.push { cls := .type "dict_keys", data := .fields #[.ref d] } } := I1.kept (t' := s1.toks) fun b ob q => Heap.get?_push_of_some _ q
  have raw2 := raw.push { cls := .type "dict_keys", data := .fields #[.ref d] }
  have fin : wpAny (model X.prog X.w) X.A (pyIter (.ref s1.heap.objs.size)) (PIE X pins σ tg R) X.xe { s1 with heap := s1.heap.push { cls := .type "dict_keys", data := .fields #[.ref d] } } := by
    refine wpAny_pyIter_keys_raw (d := d) ⟨_, Heap.get?_push_size _ rfl, rfl, rfl⟩ raw2 (pi_one (tk := s1.toks) I2 _ (turn_dk _) ⟨_, Heap.get?_push_size _ rfl, rfl, ?_⟩ q)
    rw [hsz] <;> rfl
  show wpAny _ _ (callWith cpos (.builtin "dict.keys") [.ref d] [] []) _ X.xe s1
  exact method_meetsIn F.slot_dict_keys F.entry_dict_keys rfl (PySem.evalArgs_none ⟨rfl, raw.typeIs, F.args_dict_keys_1 _, _, meets_dict_keys_raw d ns, ⟨es, ep, raw⟩, fin⟩)
theorem pi_diM {elts : List Expr} {kk : Nat} {tpos : Pos} (he : PE X e td) (hbase : attributeBase e "items" X.env (eval e X.env) = eval e X.env := by rfl) (hline : (apos.endLine == cpos.line) = true := by rfl) : PI X (.Tuple elts kk tpos) (.Call (.Attribute e "items" apos) [] [] cpos) (iDi X.prog X.w td) := by
  refine ⟨fun pins s σ H R I h => ?_⟩
  refine wpAny_Call_method (T := "dict") (id := "dict.items") hbase rfl hline F.plainAttrs_dict F.slot_dict_items F.type_dict_items (thn (he.run pins s σ H _ I h) fun u s1 ⟨x, H1, I1, rx, d, ks, ep, ex, hd, q⟩ => ?_)
  subst ex
  obtain rfl : u = Value.ref d := rx
  obtain ⟨es, raw, hsz, ns, _⟩ := raw_es I1 hd
  obtain ⟨o, ho, hx, hdt⟩ := id raw
  refine ⟨raw.typeIs, fun a ha => by injection ha with ha; subst ha; exact ⟨o, ho, hx.2.1⟩, ?_⟩
  have I2 : Inv X pins σ H1 { s1 with heap := s1.heap.push { cls := .type "dict_items", data := .fields #[.ref d] } } := I1.kept (t' := s1.toks) fun b ob q => Heap.get?_push_of_some _ q
  have raw2 := raw.push { cls := .type "dict_items", data := .fields #[.ref d] }
  have fin : wpAny (model X.prog X.w) X.A (pyIter (.ref s1.heap.objs.size)) (PIE X pins σ (.Tuple elts kk tpos) R) X.xe { s1 with heap := s1.heap.push { cls := .type "dict_items", data := .fields #[.ref d] } } := by
    refine wpAny_pyIter_items_raw (d := d) ⟨_, Heap.get?_push_size _ rfl, rfl, rfl⟩ raw2 (pi_one (tk := s1.toks) I2 _ (turn_di _) ⟨.none, .none, ?_⟩ q)
    rw [← hsz]
    exact Heap.get?_push_size _ rfl
  show wpAny _ _ (callWith cpos (.builtin "dict.items") [.ref d] [] []) _ X.xe s1
  exact method_meetsIn F.slot_dict_items F.entry_dict_items rfl (PySem.evalArgs_none ⟨rfl, raw.typeIs, F.args_dict_items_1 _, _, meets_dict_items_raw d ns, ⟨es, ep, raw⟩, fin⟩)
theorem paired_get {α β : Type} {F : α → β → Prop} : ∀ {xs : List α} {ys : List β} {i : Nat} {x : α} {y : β}, Paired F xs ys → xs[i]? = some x → ys[i]? = some y → F x y
  | _, _, _, _, _, .nil, e, _ => by simp at e
  | _, _, 0, _, _, .cons h _, e, f => by simp at e f; subst e; subst f; exact h
  | _, _, i + 1, _, _, .cons _ r, e, f => paired_get (i := i) r (by simpa using e) (by simpa using f)
theorem paired_get' {α β : Type} {F : α → β → Prop} {xs : List α} {ys : List β} {i : Nat} {y : β} (r : Paired F xs ys) (e : ys[i]? = some y) : ∃ x, xs[i]? = some x ∧ F x y := by
  have hl := paired_len r
  have hi : i < xs.length := by rw [hl]; exact (List.getElem?_eq_some_iff.mp e).1
  exact ⟨xs[i], List.getElem?_eq_getElem hi, paired_get r (List.getElem?_eq_getElem hi) e⟩
theorem itok_dk {g : G} {H0 : Hp} {μ0 : List Addr} {n : Nat} {d : Addr} {kvs : List (D × D)} {ep : Nat} (hn : μ0[n]? = some d) : ItOk g (Idk g.P g.w d kvs.length ep) (kvs.map (·.1)) (fun h => h[n]? = some (.dct kvs ep)) H0 μ0 := fun H μ h r l e => by
  obtain ⟨ks, hd, pk⟩ := r.obj n d _ (l.at hn) e
  have hl := paired_len pk
  refine ⟨fun i x hx => ?_, ks, hd, hl, by rw [List.length_map]; exact Nat.le_refl _⟩
  rw [List.getElem?_map] at hx
  obtain ⟨q, hq, rfl⟩ := Option.map_eq_some_iff.mp hx
  obtain ⟨p, hp, hk⟩ := paired_get' pk hq
  refine ⟨⟨ks, hd, hl, (List.getElem?_eq_some_iff.mp hq).1⟩, fun v H' y => ?_⟩
  obtain ⟨rfl, y⟩ := y
  obtain ⟨p', hp', rfl⟩ := y ks hd
  rw [hp] at hp'; cases hp'
  exact ⟨r, .refl, hk.2.1⟩
theorem itok_di {g : G} {H0 : Hp} {μ0 : List Addr} {n : Nat} {d : Addr} {kvs : List (D × D)} {ep : Nat} (hn : μ0[n]? = some d) : ItOk g (Idi g.P g.w d kvs.length ep) (kvs.map fun p => .tup [p.1, p.2]) (fun h => h[n]? = some (.dct kvs ep)) H0 μ0 := fun H μ h r l e => by
  obtain ⟨ks, hd, pk⟩ := r.obj n d _ (l.at hn) e
  have hl := paired_len pk
  refine ⟨fun i x hx => ?_, ks, hd, hl, by rw [List.length_map]; exact Nat.le_refl _⟩
  rw [List.getElem?_map] at hx
  obtain ⟨q, hq, rfl⟩ := Option.map_eq_some_iff.mp hx
  obtain ⟨p, hp, hk⟩ := paired_get' pk hq
  refine ⟨⟨ks, hd, hl, (List.getElem?_eq_some_iff.mp hq).1⟩, fun v H' y => ?_⟩
  obtain ⟨t, a, u, rfl, ht, rfl, y⟩ := y
  obtain ⟨k, hk2⟩ := y ks hd
  rw [hp] at hk2; cases hk2
  have l2 : Le g.K H μ (upd H t (.tup [.ref a, u])) μ := Le.new ht
  exact ⟨r.side ht, l2, .tup (.inl (.inl upd_same)) (.cons (hk.2.1.le l2) (.cons (hk.2.2.le l2) .nil))⟩
/-- for k in d, for k in d.keys(), for k, v in d.items() -/
def iKeysD (ε : DE) : DI := fun E env h R => ε E env h fun d h1 => ∃ n kvs ep, d = .ref n ∧ h1[n]? = some (.dct kvs ep) ∧ R (kvs.map (·.1)) (fun h => h[n]? = some (.dct kvs ep)) h1
def iItemsD (ε : DE) : DI := fun E env h R => ε E env h fun d h1 => ∃ n kvs ep, d = .ref n ∧ h1[n]? = some (.dct kvs ep) ∧ R (kvs.map fun p => .tup [p.1, p.2]) (fun h => h[n]? = some (.dct kvs ep)) h1
theorem keys_read {g : G} : ∀ σ H R, LI g W (iKeysD ε) σ H R → iDk g.P g.w (LE g W ε) σ H R := fun σ H R ⟨μ, env, h, R0, E0, r, re, q, p, px⟩ => ⟨μ, env, h, _, E0, r, re, q, fun d h1 v H1 μ1 ⟨n, kvs, ep, e, e1, q1⟩ r1 l1 rv => by
  subst e
  obtain ⟨a, rfl, hn⟩ := rv.inv_ref
  obtain ⟨ks, hd, pk⟩ := r1.obj n a _ hn e1
  refine ⟨a, ks, ep, rfl, hd, ?_⟩
  rw [paired_len pk]
  exact p _ _ _ _ _ _ q1 r1 l1 (itok_dk hn), px⟩
theorem pdi_keys (he : PD X T W e ε) : PDI X T W tg e (iKeysD ε) := PI.imp (pi_dk he) keys_read
theorem pdi_keysM (he : PD X T W e ε) (hbase : attributeBase e "keys" X.env (eval e X.env) = eval e X.env := by rfl) (hline : (apos.endLine == cpos.line) = true := by rfl) : PDI X T W tg (.Call (.Attribute e "keys" apos) [] [] cpos) (iKeysD ε) := PI.imp (pi_dkM he hbase hline) keys_read
theorem pdi_itemsM {elts : List Expr} {kk : Nat} {tpos : Pos} (he : PD X T W e ε) (hbase : attributeBase e "items" X.env (eval e X.env) = eval e X.env := by rfl) (hline : (apos.endLine == cpos.line) = true := by rfl) : PDI X T W (.Tuple elts kk tpos) (.Call (.Attribute e "items" apos) [] [] cpos) (iItemsD ε) :=
  PI.imp (pi_diM he hbase hline) fun σ H R ⟨μ, env, h, R0, E0, r, re, q, p, px⟩ => ⟨μ, env, h, _, E0, r, re, q, fun d h1 v H1 μ1 ⟨n, kvs, ep, e, e1, q1⟩ r1 l1 rv => by
    subst e
    obtain ⟨a, rfl, hn⟩ := rv.inv_ref
    obtain ⟨ks, hd, pk⟩ := r1.obj n a _ hn e1
    refine ⟨a, ks, ep, rfl, hd, ?_⟩
    rw [paired_len pk]
    exact p _ _ _ _ _ _ q1 r1 l1 (itok_di hn), px⟩
end
end DL
set_option Elab.async false
set_option linter.all false
set_option maxRecDepth 100000
set_option maxHeartbeats 4000000
namespace DL
open PySem PySem.Spec PyProof.Rows L2
open PySem.W (Frag EachIs dataLe dataLt AllAlike Sortable alike)
/-! ### sorted(..) of data -/
mutual
def stillP : PyData → Bool
  | .list _ => false
  | .dict _ => false
  | .tuple xs => stillPs xs
  | _ => true
def stillPs : List PyData → Bool
  | [] => true
  | x :: xs => stillP x && stillPs xs
end
mutual
theorem toP_still : ∀ (x : D) (a : PyData), toP x = some a → stillP a = true
  | .non, a, e => by simp only [toP] at e; cases e; rfl
  | .bl _, a, e => by simp only [toP] at e; cases e; rfl
  | .int _, a, e => by simp only [toP] at e; cases e; rfl
  | .str _, a, e => by simp only [toP] at e; cases e; rfl
  | .tup xs, a, e => by
    simp only [toP] at e
    obtain ⟨as, e1, rfl⟩ := Option.map_eq_some_iff.mp e
    simp only [stillP]
    exact toPs_still xs as e1
  | .ref _, a, e => by simp [toP] at e
  | .obj _, a, e => by simp [toP] at e
theorem toPs_still : ∀ (xs : List D) (as : List PyData), toPs xs = some as → stillPs as = true
  | [], as, e => by simp only [toPs] at e; cases e; rfl
  | x :: xs, as, e => by
    simp only [toPs] at e
    split at e
    · cases e
      simp only [stillPs, Bool.and_eq_true]
      exact ⟨toP_still x _ (by assumption), toPs_still xs _ (by assumption)⟩
    · cases e
end
mutual
theorem still_nil : ∀ (d : PyData) {h : Heap} {v : Value} {as : List Addr}, stillP d = true → Reads h v d as → as = []
  | .none, _, _, _, _, r => by cases r; rfl
  | .bool _, _, _, _, _, r => by cases r; rfl
  | .int _, _, _, _, _, r => by cases r; rfl
  | .str _, _, _, _, _, r => by cases r; rfl
  | .list _, _, _, _, s, _ => by simp [stillP] at s
  | .dict _, _, _, _, s, _ => by simp [stillP] at s
  | .tuple xs, _, _, _, s, r => by
    cases r with
    | tuple h1 h2 h3 h4 => exact stills_nil xs (by simpa [stillP] using s) h4
theorem stills_nil : ∀ (ds : List PyData) {h : Heap} {v : List Value} {as : List Addr}, stillPs ds = true → ReadsAll h v ds as → as = []
  | [], _, _, _, _, r => by cases r; rfl
  | d :: ds, _, _, _, s, r => by
    cases r with
    | cons r1 r2 =>
      have z := Bool.and_eq_true_iff.mp (show (stillP d && stillPs ds) = true by simpa [stillPs] using s)
      rw [still_nil d z.1 r1, stills_nil ds z.2 r2]; rfl
end
section
variable {prog : Program} {w : World} {A : Around} {E : Value → Shared → Prop} {s : Shared} {β : Type} {vs : List Value} {bs : List β} {enc : β → PyData} {R : Value → β → Prop}
/-- what can be sorted; of one item it may be the empty tuple too, as nothing is compared -/
def SortB (ds : List PyData) : Prop := (∀ d, d ∈ ds → ∃ x r, d = .tuple (x :: r)) ∨ (∀ d, d ∈ ds → d ≠ .none ∧ ∀ xs, d ≠ .tuple xs) ∨ (ds.length ≤ 1 ∧ ∀ d, d ∈ ds → d ≠ .none)
theorem sortB_tuples {β : Type} {enc : β → PyData} {bs : List β} (h : ∀ b, ∃ x r, enc b = .tuple (x :: r)) : SortB (bs.map enc) := .inl fun d hd => by
  obtain ⟨b, _, rfl⟩ := List.mem_map.mp hd
  exact h b
theorem sortsAt_B {vs : List Value} {ds : List PyData} (e : EachIs (fun v d => ∃ as, Reads s.heap v d as) vs ds) (hal : AllAlike ds) (hk : SortB ds) (hu : ∀ d, d ∈ ds → A.units + d.depth < cLine) : PySem.W.SortsAt prog w A s (PySem.W.dataKind s.heap ds) vs := by
  rcases hk with hk | hk | ⟨few, hn⟩
  · exact PySem.W.SortsAt.data e hal (.inl hk) hu
  · exact PySem.W.SortsAt.data e hal (.inr hk) hu
  · refine ⟨fun v hv => ?_, PyProof.Rows.general', ?_, fun h2 => absurd h2 (by rw [e.length]; omega)⟩
    · obtain ⟨d, hd, as, r⟩ := e.left v hv
      exact ⟨_, PySem.W.dataKind_some hal hd r⟩
    · intro E x y a b Q ha hb hq
      obtain ⟨d, as, hd, ra, rfl⟩ := PySem.W.dataKind_inv ha
      obtain ⟨d', as', hd', rb, rfl⟩ := PySem.W.dataKind_inv hb
      show wpAny _ _ (PyProof.Rows.oneLt' false x y) _ _ _
      exact PySem.W.oneLt_alike (f := false) (fun z => by cases z) ra rb (hal d hd d' hd') (hn d hd) (Nat.lt_of_le_of_lt (Nat.add_le_add_left (Nat.min_le_left _ _) _) (hu d hd)) hq
theorem list_sortB {a : Addr} {n : Nat} {Q : Value → Shared → Prop} (ho : s.heap.get? a = some (seqObj "list" vs.toArray n)) (e : EachIs R vs bs) (er : EachIs (fun v b => ∃ as, Reads s.heap v (enc b) as ∧ a ∉ as) vs bs) (hal : AllAlike (bs.map enc)) (hk : SortB (bs.map enc)) (hL : bs.length ≤ sizeLine)
    (hu : ∀ b, b ∈ bs → A.units + 1 + (enc b).depth < cLine) (h : ∀ out, out.length = bs.length → EachIs R out (bs.mergeSort (dataLe false enc)) → Q .none { s with heap := sortedHeap s.heap a vs (List.toArray out) }) :
    wpAny (model prog w) A (call (.builtin "list.sort") [.ref a]) Q E s := by
  have er' : EachIs (fun v b => ∃ as, Reads (PySem.W.sortingHeap s.heap a vs) v (enc b) as) vs bs := PySem.W.each_keepBut (h' := PySem.W.sortingHeap s.heap a vs) (fun _ _ hb q => PySem.W.sortingHeap_old hb q) (fun o q => by rw [ho] at q; rw [← Option.some.inj q]) hal er
  refine wpAny_call_entry slot_list_sort ⟨_, ho, rfl⟩ entry_list_sort (PySem.W.list_sort_vals (κ := PySem.W.dataKind (PySem.W.sortingHeap s.heap a vs) (bs.map enc)) ho (sortsAt_B (s := { s with heap := PySem.W.sortingHeap s.heap a vs }) (PySem.W.each_map (R := fun v d => ∃ as, Reads (PySem.W.sortingHeap s.heap a vs) v d as) enc er') hal hk (PySem.W.bound_map hu)) (by rw [e.length]; exact hL) ⟨.none, rfl, ?_⟩) (args_list_sort _)
  exact h _ (by rw [PySem.W.sortVals_length false rfl]; exact e.length) (PySem.W.sortVals_data false e er' hal)
end
section
variable {prog : Program} {w : World} {A : Around} {E : Value → Shared → Prop} {s : Shared} {β : Type} {enc : β → PyData} {R : Value → β → Prop}
/-- sorted(x), by what collecting x gives -/
theorem sorted_any {x : Value} {Q : Value → Shared → Prop}
    (hc : wpAny (model prog w) A.in1 (collect x) (fun vs s1 => ∃ bs : List β, EachIs R vs bs ∧ EachIs (fun v b => Reads s1.heap v (enc b) []) vs bs ∧ AllAlike (bs.map enc) ∧ SortB (bs.map enc) ∧ bs.length ≤ sizeLine ∧
      (∀ b ∈ bs, A.units + 3 + (enc b).depth < cLine) ∧
      ∀ (p : Addr) (s2 : Shared) (out : List Value) (c : Nat), (∀ b o, s1.heap.get? b = some o → s2.heap.get? b = some o) → s2.gens = s1.gens → s2.os = s1.os → s1.heap.objs.size ≤ p →
        s2.heap.get? p = some (seqObj "list" out.toArray c) → EachIs R out (bs.mergeSort (dataLe false enc)) → Q (.ref p) s2) E s) :
    wpAny (model prog w) A (call (.builtin "sorted") [x]) Q E s := by
  refine Calls.call_function_entry kind_sorted plain_sorted entry_sorted (args_sorted1 _) ?_
  unfold Builtin.«sorted»
  refine wpAny_bind (m := checkCount "sorted" 1 1 _) (wpAny_pure (wpAny_bind (wpAny_mono hc (fun vs s1 h1 => ?_) fun _ _ e => e)))
  obtain ⟨bs, e1, e2, hal, hk, hL, hu, hq⟩ := h1
  refine wpAny_bind (wpAny_newList ?_ (by rw [e1.length]; exact hL))
  have ho : (s1.heap.push (seqObj "list" vs.toArray 0)).get? s1.heap.objs.size = some (seqObj "list" vs.toArray 0) := Heap.get?_push_size _ rfl
  have kp : ∀ b o, s1.heap.get? b = some o → (s1.heap.push (seqObj "list" vs.toArray 0)).get? b = some o := fun b o e => Heap.get?_push_of_some _ e
  refine wpAny_bind (wpAny_holding (list_sortB (s := { s1 with heap := s1.heap.push (seqObj "list" vs.toArray 0) }) (R := R) (enc := enc) (bs := bs) ho e1 (e2.mono fun v b r => ⟨[], PyProof.Rows.Reads.keeps kp r, List.not_mem_nil⟩) hal hk hL ?_ fun out hout hS => ?_))
  · intro b hb
    have := hu b hb
    show A.units + 1 + 1 + _ < _
    omega
  · obtain ⟨c, hcc⟩ := sortedHeap_at (vs := vs) (out := out.toArray) ho
    refine wpAny_pure ⟨_, rfl, hq s1.heap.objs.size { s1 with heap := sortedHeap (s1.heap.push (seqObj "list" vs.toArray 0)) s1.heap.objs.size vs out.toArray } out c (fun b o e => ?_) rfl rfl (Nat.le_refl _) hcc hS⟩
    have hlt := Heap.lt_size e
    show (sortedHeap (s1.heap.push (seqObj "list" vs.toArray 0)) s1.heap.objs.size vs out.toArray).get? b = some o
    rw [sortedHeap_old (Nat.ne_of_lt hlt) (by rw [size_push']; exact Nat.lt_succ_of_lt hlt)]
    exact kp b o e
end
/-- data of a value -/
def datP (x : D) : PyData := (toP x).getD .none
/-- in order -/
def leD (a b : D) : Bool := !dataLt (datP b) (datP a)
def sortD (xs : List D) : List D := xs.mergeSort leD
/-- what can be sorted -/
structure CanSort (xs : List D) : Prop where
  all : ∀ x ∈ xs, ∃ a, toP x = some a ∧ a.depth ≤ 60
  alike : AllAlike (xs.map datP)
  able : SortB (xs.map datP)
  len : xs.length ≤ 1000000
section
variable {X : Cx} {T : List Addr} {W : WX}
theorem each_rv {pins : List (Addr × Obj)} {σ : L2.St} {H : Hp} {μ : List Addr} {s : Shared} (I : Inv X pins σ H s) : ∀ {vs : List V} {us : List Value} {xs : List D}, RVs X.K H μ vs xs → Vals vs us → (∀ x ∈ xs, ∃ a, toP x = some a ∧ a.depth ≤ 60) →
    EachIs (fun u (b : D × V) => L2.RelV b.2 u ∧ RV X.K H μ b.2 b.1) us (xs.zip vs) ∧ EachIs (fun u (b : D × V) => Reads s.heap u (datP b.1) []) us (xs.zip vs) ∧ (xs.zip vs).map (·.1) = xs
  | _, _, _, .nil, .nil, _ => ⟨.nil, .nil, rfl⟩
  | v :: vs, u :: us, x :: xs, .cons r rs, .cons q qs, al => by
    obtain ⟨h1, h2, h3⟩ := each_rv I rs qs fun y hy => al y (List.mem_cons_of_mem _ hy)
    obtain ⟨a, ha, _⟩ := al x List.mem_cons_self
    obtain ⟨as, hr⟩ := Dp.reads I a v u (toP_dp x v a r ha) q
    have e := still_nil a (toP_still x a ha) hr
    subst e
    have hd : datP x = a := by unfold datP; rw [ha]; rfl
    exact ⟨.cons ⟨q, r⟩ h1, .cons (by show Reads s.heap u (datP x) []; rw [hd]; exact hr) h2, by rw [List.zip_cons_cons, List.map_cons, h3]⟩
theorem each_out {K : Frag} {H : Hp} {μ : List Addr} {us : List Value} {bs : List (D × V)} (h : EachIs (fun u (b : D × V) => L2.RelV b.2 u ∧ RV K H μ b.2 b.1) us bs) : Vals (bs.map (·.2)) us ∧ RVs K H μ (bs.map (·.2)) (bs.map (·.1)) := by
  induction h with
  | nil => exact ⟨.nil, .nil⟩
  | cons h1 _ ih => exact ⟨.cons h1.1 ih.1, .cons h1.2 ih.2⟩
theorem sort_fst (bs : List (D × V)) : (bs.mergeSort (dataLe false fun b : D × V => datP b.1)).map (·.1) = sortD (bs.map (·.1)) := by
  have e : (dataLe false fun b : D × V => datP b.1) = fun a b => leD a.1 b.1 := by
    rw [PySem.W.dataLe_eq]
    funext a b
    rfl
  rw [e, sortD]
  exact (List.map_mergeSort (f := fun b : D × V => b.1) (r := fun a b : D × V => leD a.1 b.1) (s := leD) (fun a _ b _ => rfl))
/-- behind collecting -/
theorem sorted_fin {pins : List (Addr × Obj)} {σ : L2.St} {H : Hp} {μ : List Addr} {h : DH} {s : Shared} {Q0 : VD} {Q : VK} {x : Value} {vs : List V} {xs : List D} (I : Inv X pins σ H s) (rh : RelH (gOf X T) H μ h) (hu : X.A.units + 64 < cLine) (rv : RVs X.K H μ vs xs) (cs : CanSort xs)
    (hc : ∀ (R : List Value → Shared → Prop), (∀ us s1, Vals vs us → (∀ b o, s.heap.get? b = some o → s1.heap.get? b = some o) → s1.gens = s.gens → s1.os = s.os → R us s1) → wpAny (model X.prog X.w) X.A.in1 (collect x) R X.xe s)
    (q : Q0 (.ref h.length) (h ++ [.lst (sortD xs)])) (p : Post (gOf X T) H μ Q0 Q) : wpAny (model X.prog X.w) X.A (call (.builtin "sorted") [x]) (EP X pins σ Q) X.xe s := by
  refine sorted_any (β := D × V) (enc := fun b => datP b.1) (R := fun u (b : D × V) => L2.RelV b.2 u ∧ RV X.K H μ b.2 b.1) (hc _ fun us s1 ru k g o => ?_)
  have I1 : Inv X pins σ H s1 := I.call' (ch := []) o (Un.kept k) (I.hok.kept k) (by rw [g]; exact I.bare) (fun _ z => nomatch z)
  obtain ⟨e1, e2, e3⟩ := each_rv I1 rv ru cs.all
  have el : (xs.zip vs).length = xs.length := by
    have z := congrArg List.length e3
    rwa [List.length_map] at z
  have em : (xs.zip vs).map (fun b : D × V => datP b.1) = xs.map datP := by
    rw [show (fun b : D × V => datP b.1) = datP ∘ (fun b : D × V => b.1) from rfl, ← List.map_map, e3]
  refine ⟨xs.zip vs, e1, e2, by rw [em]; exact cs.alike, by rw [em]; exact cs.able, by rw [el]; exact line_le cs.len, fun b hb => ?_, fun t s2 out c k2 g2 o2 hp hg hS => ?_⟩
  · have hb1 : b.1 ∈ xs := by rw [← e3]; exact List.mem_map.mpr ⟨b, hb, rfl⟩
    obtain ⟨a, ha, hz⟩ := cs.all _ hb1
    have hd : datP b.1 = a := by unfold datP; rw [ha]; rfl
    show X.A.units + 3 + (datP b.1).depth < cLine
    rw [hd]; omega
  · obtain ⟨v1, v2⟩ := each_out hS
    rw [sort_fst, e3] at v2
    have hn : H t = none := I1.hok.fresh hp
    have hlen : (((xs.zip vs).mergeSort (dataLe false fun b : D × V => datP b.1)).map (·.2)).length ≤ sizeLine := by
      rw [List.length_map, List.length_mergeSort, el]; exact line_le cs.len
    have J : Inv X pins σ (upd H t (.lst (((xs.zip vs).mergeSort (dataLe false fun b : D × V => datP b.1)).map (·.2)))) s2 :=
      I1.call' (ch := []) o2 (Un.laid k2 hp hn) (I1.hok.laid k2 hp ⟨hlen, out, c, v1, hg⟩) (by rw [g2]; exact I1.bare) (fun _ z => nomatch z)
    exact ⟨.ref t, _, J, rfl, new_lst rh v2 q p hn⟩
end
end DL
set_option Elab.async false
set_option linter.all false
set_option maxRecDepth 100000
set_option maxHeartbeats 4000000
namespace DL
open PySem PySem.Spec PyProof.Rows L2
open PySem.W (Frag)
/-! ### comprehensions of two clauses -/
/-- a loop that fills the list, whatever comes behind it -/
theorem loop_read {g : G} {tgt : Tgt} {tt : DT} {ε : DE} {vs : List Nat} {gg : TG} (tk : TgOk g.K gg tgt vs) {J : It} {items : List D} {chk : DH → Prop} {H1 Hs : Hp} {μ1 μs : List Addr} {hs : DH} {σ : L2.St} {env : Env} {n0 : Nat} {L : Addr} {Qd : DH → Prop} (Qn : Hp → Prop)
    (ok : ItOk g J items chk H1 μ1) (re : RelE g.K H1 μ1 σ env) (rs : RelH g Hs μs hs) (ls : Le g.K H1 μ1 Hs μs) (at0 : μs[n0]? = some L) (q : cLoop n0 tgt tt ε chk (wipeD env vs) Qd items hs)
    (fin : ∀ H' μ' h', Qd h' → RelH g H' μ' h' → Le g.K H1 μ1 H' μ' → μ'[n0]? = some L → Qn H') :
    ∃ W : Nat → Nat → Hp → Prop, (∃ m, W 0 m Hs) ∧ ∀ i m H, W i m H → (J.stop i H ∧ Qn H) ∨ (J.go i H ∧ ∃ Nx : Hp → Prop, (∀ H', Nx H' → ∃ m', m' < m ∧ W (i + 1) m' H') ∧ ∀ x H', J.yld i H x H' → gg x (wipe σ vs) H' fun σ2 H2 => wipe σ2 vs = wipe σ vs ∧ LT g WF tt σ2 H2 fun b H3 =>
      if b = true then LE g WF ε σ2 H3 fun y H4 => ∃ acc, H4 L = some (.lst acc) ∧ acc.length < sizeLine ∧ Nx (upd H4 L (.lst (acc ++ [y]))) else Nx H3) := by
  refine ⟨fun i m H' => m = items.length - i ∧ i ≤ items.length ∧ ∃ μ' h', RelH g H' μ' h' ∧ Le g.K H1 μ1 H' μ' ∧ μ'[n0]? = some L ∧ cLoop n0 tgt tt ε chk (wipeD env vs) Qd (items.drop i) h',
    ⟨items.length, by simp, Nat.zero_le _, μs, hs, rs, ls, at0, q⟩, ?_⟩
  rintro i m H2 ⟨rfl, hi, μ2, h2, r2, l2, at2, q2⟩
  obtain ⟨go, stop⟩ := ok H2 μ2 h2 r2 l2 (cLoop_chk q2)
  by_cases c : i < items.length
  · rw [List.drop_eq_getElem_cons c] at q2
    obtain ⟨_, env2, e2, q2⟩ := q2
    obtain ⟨g1, g2⟩ := go i items[i] (List.getElem?_eq_getElem c)
    refine .inr ⟨g1, fun H' => ∃ μ' h', RelH g H' μ' h' ∧ Le g.K H1 μ1 H' μ' ∧ μ'[n0]? = some L ∧ cLoop n0 tgt tt ε chk (wipeD env vs) Qd (items.drop (i + 1)) h',
      fun H' z => ⟨items.length - (i + 1), by omega, rfl, c, z⟩, fun v H3 y => ?_⟩
    obtain ⟨r3, l3, rv⟩ := g2 v H3 y
    have l13 := l2.trans l3
    refine tk v items[i] (L2.wipe σ vs) (wipeD env vs) env2 H3 μ2 _ ((re.le l13).wipe vs) rv e2 fun σ2 re2 w2 => ⟨w2.trans (wipe_wipe σ vs), ?_⟩
    refine ⟨μ2, env2, h2, _, EF, r3, re2, q2, fun b h4 H4 μ4 q4 r4 l4 => ?_, postF⟩
    have l14 := l13.trans l4
    cases b with
    | false => exact ⟨μ4, h4, r4, l14, l4.at at2, q4⟩
    | true =>
      refine ⟨μ4, env2, h4, _, EF, r4, re2.le l4, q4, fun y h5 u H5 μ5 ⟨acc, ea, za, q5⟩ r5 l5 ru => ?_, postF⟩
      have at5 := l5.at (l4.at at2)
      obtain ⟨ws, hw, rw'⟩ := mlst_at r5 at5 ea
      obtain ⟨r6, l6⟩ := chg_lst r5 at5 (mlst_eq ea) hw (rw'.append (.one ru))
      exact ⟨ws, hw, by rw [rw'.length, sizeLine_eq]; omega, μ5, _, r6, l14.trans (l5.trans l6), at5, q5⟩
  · have e : i = items.length := by omega
    subst e
    rw [List.drop_length] at q2
    exact .inl ⟨stop, fin _ _ _ q2.2 r2 l2 at2⟩
def cLoop2 (n0 : Nat) (tgt : Tgt) (tt : DT) (ι1 : DI) (tgt1 : Tgt) (tt1 : DT) (vs1 : List Nat) (ε : DE) (chk : DH → Prop) (env0 : Env) (Qd : DH → Prop) : List D → DH → Prop
  | [], h => chk h ∧ Qd h
  | x :: xs, h => chk h ∧ ∃ env2, tgt x env0 = some env2 ∧ tt EF env2 h fun b h3 =>
      if b = true then ι1 EF env2 h3 fun items1 chk1 h4 => cLoop n0 tgt1 tt1 ε chk1 (wipeD env2 vs1) (cLoop2 n0 tgt tt ι1 tgt1 tt1 vs1 ε chk env0 Qd xs) items1 h4
      else cLoop2 n0 tgt tt ι1 tgt1 tt1 vs1 ε chk env0 Qd xs h3
theorem cLoop2_chk {n0 : Nat} {tgt tgt1 : Tgt} {tt tt1 : DT} {ι1 : DI} {vs1 : List Nat} {ε : DE} {chk : DH → Prop} {env0 : Env} {Qd : DH → Prop} {xs : List D} {h : DH} (q : cLoop2 n0 tgt tt ι1 tgt1 tt1 vs1 ε chk env0 Qd xs h) : chk h := by cases xs <;> exact q.1
def eLc2 (ι : DI) (tgt : Tgt) (tt : DT) (ι1 : DI) (tgt1 : Tgt) (tt1 : DT) (ε : DE) (vs vs1 : List Nat) : DE := fun E env h Q => ι E env h fun items chk h1 => cLoop2 h1.length tgt tt ι1 tgt1 tt1 vs1 ε chk (wipeD env vs) (Q (.ref h1.length)) items (h1 ++ [.lst []])
section
variable {X : Cx} {T : List Addr} {W : WX}
theorem lc2_read {g : G} {ι ι1 : DI} {tgt tgt1 : Tgt} {tt tt1 : DT} {ε : DE} {vs vs1 : List Nat} {gg gg1 : TG} (tk : TgOk g.K gg tgt vs) (tk1 : TgOk g.K gg1 tgt1 vs1) : ∀ σ H Q, LE g W (eLc2 ι tgt tt ι1 tgt1 tt1 ε vs vs1) σ H Q →
    tLc2 (LI g W ι) gg (LT g WF tt) (LI g WF ι1) gg1 (LT g WF tt1) (LE g WF ε) vs vs1 σ H Q := fun σ H Q ⟨μ, env, h, Q0, E0, r, re, q, p, px⟩ => by
  refine ⟨μ, env, h, _, _, r, re, q, fun items chk h1 J H1 μ1 q1 r1 l1 ok L hL => ?_, px⟩
  have ln : Le g.K H1 μ1 (upd H1 L (.lst [])) (μ1 ++ [L]) := Le.new' hL
  have hat : (μ1 ++ [L])[h1.length]? = some L := by rw [List.getElem?_append_right (by rw [r1.len]; exact Nat.le_refl _), r1.len, Nat.sub_self]; rfl
  refine ⟨fun i m H' => m = items.length - i ∧ i ≤ items.length ∧ ∃ μ' h', RelH g H' μ' h' ∧ Le g.K H1 μ1 H' μ' ∧ μ'[h1.length]? = some L ∧ cLoop2 h1.length tgt tt ι1 tgt1 tt1 vs1 ε chk (wipeD env vs) (Q0 (.ref h1.length)) (items.drop i) h',
    ⟨items.length, by simp, Nat.zero_le _, μ1 ++ [L], _, r1.made (d := .lst []) hL ⟨[], upd_same, .nil⟩, ln, hat, q1⟩, ?_⟩
  rintro i m H2 ⟨rfl, hi, μ2, h2, r2, l2, at2, q2⟩
  have lt := l1.trans l2
  obtain ⟨go, stop⟩ := ok H2 μ2 h2 r2 l2 (cLoop2_chk q2)
  by_cases c : i < items.length
  · rw [List.drop_eq_getElem_cons c] at q2
    obtain ⟨_, env2, e2, q2⟩ := q2
    obtain ⟨g1, g2⟩ := go i items[i] (List.getElem?_eq_getElem c)
    refine .inr ⟨g1, fun H' => ∃ μ' h', RelH g H' μ' h' ∧ Le g.K H1 μ1 H' μ' ∧ μ'[h1.length]? = some L ∧ cLoop2 h1.length tgt tt ι1 tgt1 tt1 vs1 ε chk (wipeD env vs) (Q0 (.ref h1.length)) (items.drop (i + 1)) h',
      fun H' z => ⟨items.length - (i + 1), by omega, rfl, c, z⟩, fun v H3 y => ?_⟩
    obtain ⟨r3, l3, rv⟩ := g2 v H3 y
    have l13 := l2.trans l3
    refine tk v items[i] (L2.wipe σ vs) (wipeD env vs) env2 H3 μ2 _ ((re.le (l1.trans l13)).wipe vs) rv e2 fun σ2 re2 w2 => ⟨w2.trans (wipe_wipe σ vs), ?_⟩
    refine ⟨μ2, env2, h2, _, EF, r3, re2, q2, fun b h4 H4 μ4 q4 r4 l4 => ?_, postF⟩
    have l14 := l13.trans l4
    cases b with
    | false => exact ⟨μ4, h4, r4, l14, l4.at at2, q4⟩
    | true =>
      refine ⟨μ4, env2, h4, _, EF, r4, re2.le l4, q4, fun items1 chk1 h5 J1 H5 μ5 q5 r5 l5 ok1 => ?_, postF⟩
      refine loop_read tk1 _ ok1 (re2.le (l4.trans l5)) r5 .refl (l5.at (l4.at at2)) q5 fun H6 μ6 h6 q6 r6 l6 at6 => ⟨μ6, h6, r6, (l14.trans l5).trans l6, at6, q6⟩
  · have e : i = items.length := by omega
    subst e
    rw [List.drop_length] at q2
    exact .inl ⟨stop, p _ _ _ _ _ q2.2 r2 lt (.ref at2)⟩
variable {elt tg iter tg1 iter1 : Expr} {ifs ifs1 : List Expr} {scope : Scope} {own : List (Str × Nat)} {vs1 : List Nat} {pos spos : Pos} {ι ι1 : DI} {tgt tgt1 : Tgt} {tt tt1 : DT} {ε : DE} {gg gg1 : TG}
theorem pd_lc2 (S : Std X W) (hi : PDI X T W tg iter ι) (ok : BlkOk X.N X.env.scope scope own) (hv : ∀ i ∈ vs1, i ∈ own.map (·.2)) (tk : TgOk X.K gg tgt (own.map (·.2))) (tk1 : TgOk X.K gg1 tgt1 vs1)
    (hg : ∀ (s : Shared) (H : Hp) (C : Addr) (cl : List (Str × Addr)) (fp : List Addr), Std (X.blk s H scope (compEnvC scope cl C X.env) fp) WF → PG (X.blk s H scope (compEnvC scope cl C X.env) fp) tg gg)
    (ht : ∀ (s : Shared) (H : Hp) (C : Addr) (cl : List (Str × Addr)) (fp : List Addr), Std (X.blk s H scope (compEnvC scope cl C X.env) fp) WF → PDTs (X.blk s H scope (compEnvC scope cl C X.env) fp) T WF ifs tt)
    (hi1 : ∀ (s : Shared) (H : Hp) (C : Addr) (cl : List (Str × Addr)) (fp : List Addr), Std (X.blk s H scope (compEnvC scope cl C X.env) fp) WF → PDI (X.blk s H scope (compEnvC scope cl C X.env) fp) T WF tg1 iter1 ι1)
    (hg1 : ∀ (s : Shared) (H : Hp) (C : Addr) (cl : List (Str × Addr)) (fp : List Addr), Std (X.blk s H scope (compEnvC scope cl C X.env) fp) WF → PG (X.blk s H scope (compEnvC scope cl C X.env) fp) tg1 gg1)
    (ht1 : ∀ (s : Shared) (H : Hp) (C : Addr) (cl : List (Str × Addr)) (fp : List Addr), Std (X.blk s H scope (compEnvC scope cl C X.env) fp) WF → PDTs (X.blk s H scope (compEnvC scope cl C X.env) fp) T WF ifs1 tt1)
    (he : ∀ (s : Shared) (H : Hp) (C : Addr) (cl : List (Str × Addr)) (fp : List Addr), Std (X.blk s H scope (compEnvC scope cl C X.env) fp) WF → PD (X.blk s H scope (compEnvC scope cl C X.env) fp) T WF elt ε)
    (hs : ∀ x, foldedSetIterable iter X.env x = pure x := by intro _; rfl) (hs1 : ∀ env x, foldedSetIterable iter1 env x = pure x := by intro _ _; rfl) :
    PD X T W (.ListComp elt [⟨tg, iter, ifs, 0⟩, ⟨tg1, iter1, ifs1, 0⟩] scope pos) (eLc2 ι tgt tt ι1 tgt1 tt1 ε (own.map (·.2)) vs1) :=
  PE.imp (pe_lc2 (wi := LI (gOf X T) W ι) (tt := LT (gOf X T) WF tt) (wi1 := LI (gOf X T) WF ι1) (tt1 := LT (gOf X T) WF tt1) (te := LE (gOf X T) WF ε) S.calm S.nd hi ok hv (fun s H C cl fp => hg s H C cl fp (std_blk S.calm S.nd)) (fun s H C cl fp => ht s H C cl fp (std_blk S.calm S.nd))
    (fun s H C cl fp => hi1 s H C cl fp (std_blk S.calm S.nd)) (fun s H C cl fp => hg1 s H C cl fp (std_blk S.calm S.nd)) (fun s H C cl fp => ht1 s H C cl fp (std_blk S.calm S.nd)) (fun s H C cl fp => he s H C cl fp (std_blk S.calm S.nd)) hs hs1) (lc2_read tk tk1)
end
end DL
set_option Elab.async false
set_option linter.all false
set_option maxRecDepth 100000
set_option maxHeartbeats 4000000
namespace DL
open PySem PySem.Spec PyProof.Rows L2
open PySem.W (Frag)
/-! ### the forms that are written by program -/
section
variable {X : Cx} {T : List Addr} {W : WX} {a b c : Expr} {εa εb εc : DE} {δ δ' : D2} {pos : Pos}
def OpE (X : Cx) (T : List Addr) (f : Value → Value → Sem Value) (δ : D2) : Prop := ∃ r, OpR X f r ∧ OpD (gOf X T) r δ
def IxE (X : Cx) (T : List Addr) (δ : D2) : Prop := ∃ r, IxR X r ∧ OpD (gOf X T) r δ
theorem OpE.of {f : Value → Value → Sem Value} (h : ∃ r, OpR X f r ∧ ∀ T, OpD (gOf X T) r δ) : OpE X T f δ := let ⟨r, h1, h2⟩ := h; ⟨r, h1, h2 T⟩
theorem o_add : OpE X T (binaryOp .Add) dAdd := .of op_addD
theorem o_sub : OpE X T (binaryOp .Sub) dSub := .of op_subD
theorem o_mul : OpE X T (binaryOp .Mult) dMul := .of op_mulD
theorem o_eq {k : Nat} (hr : Room k X.A) : OpE X T (compareOp .Eq) dEq := .of (op_eqDD hr.units)
theorem o_ne {k : Nat} (hr : Room k X.A) : OpE X T (compareOp .NotEq) dNe := .of (op_neDD hr.units)
theorem o_lt {k : Nat} (hr : Room k X.A) : OpE X T (compareOp .Lt) dLt := .of op_ltD
theorem o_le {k : Nat} (hr : Room k X.A) : OpE X T (compareOp .LtE) dLeA := .of (op_leDD hr.units)
theorem o_gt {k : Nat} (hr : Room k X.A) : OpE X T (compareOp .Gt) dGtA := .of (op_gtDD hr.units)
theorem o_ge {k : Nat} (hr : Room k X.A) : OpE X T (compareOp .GtE) dGe := .of op_geD
theorem o_isN : OpE X T (compareOp .Is) dIsN := .of op_isND
theorem o_notN : OpE X T (compareOp .IsNot) dNotN := .of op_notND
theorem o_isB : OpE X T (compareOp .Is) dIsB := .of op_isBD
theorem units_in {k : Nat} (hr : Room k X.A) : X.A.units + 65 < cLine := by have := hr.un; omega
theorem units_20 {k : Nat} (hr : Room k X.A) : X.A.units + 20 < cLine := by have := hr.un; omega
theorem o_in {k : Nat} (hr : Room k X.A) : OpE X T (compareOp .In) (dInA false) := op_inA (units_in hr)
theorem o_notin {k : Nat} (hr : Room k X.A) : OpE X T (compareOp .NotIn) (dInA true) := op_notinA (units_in hr)
theorem o_ix {k : Nat} (hr : Room k X.A) : IxE X T dIxA := op_ixA (units_20 hr)
theorem op_rdI {k : Int → Int → D} {C : Int → Int → Prop} {f : Value → Value → Sem Value} {kv : Int → Int → V} (h : OpR X f (rI C kv)) (hk : ∀ i j K H μ, RV K H μ (kv i j) (k i j)) : OpE X T f (fun x y h Q => ∃ i j, x = .int i ∧ y = .int j ∧ C i j ∧ Q (k i j) h) :=
  ⟨_, h, fun H μ h vx vy x y Q0 Q rh rx ry ⟨i, j, e1, e2, c, q⟩ p => by
    subst e1 e2
    rw [rx.inv_int, ry.inv_int]
    exact ⟨i, j, rfl, rfl, c, p _ _ _ _ _ q rh .refl (hk _ _ _ _ _)⟩⟩
/-- the divisor is above 0 -/
def dMod : D2 := fun x y h Q => ∃ i j, x = .int i ∧ y = .int j ∧ (0 < j) ∧ Q (.int (i % j)) h
def dFdv : D2 := fun x y h Q => ∃ i j, x = .int i ∧ y = .int j ∧ CDivW i j ∧ Q (.int (i / j)) h
def dPow : D2 := fun x y h Q => ∃ i j, x = .int i ∧ y = .int j ∧ CPow i j ∧ Q (.int (i ^ j.toNat)) h
theorem o_mod : OpE X T (binaryOp .Mod) dMod := op_rdI op_mod fun _ _ _ _ _ => .int _
theorem o_fdv : OpE X T (binaryOp .FloorDiv) dFdv := op_rdI op_fdivW fun _ _ _ _ _ => .int _
theorem o_pow : OpE X T (binaryOp .Pow) dPow := op_rdI op_pow fun _ _ _ _ _ => .int _
theorem e_op {op : Operator} (h : OpE X T (binaryOp op) δ) (ha : PD X T W a εa) (hb : PD X T W b εb) : PD X T W (.BinOp a op b pos) (eOp δ εa εb) := let ⟨_, h1, h2⟩ := h; pd_op h1 h2 ha hb
theorem e_cmp {op : CmpOp} (h : OpE X T (compareOp op) δ) (ha : PD X T W a εa) (hb : PD X T W b εb) (hm : behindInMarks op b = false := by first | exact nomark _ | rfl) : PD X T W (.Compare a [op] [b] pos) (eOp δ εa εb) := let ⟨_, h1, h2⟩ := h; pd_cmp h1 h2 ha hb hm
theorem t_cmp {op : CmpOp} (h : OpE X T (compareOp op) δ) (ha : PD X T W a εa) (hb : PD X T W b εb) (hm : behindInMarks op b = false := by first | exact nomark _ | rfl) : PDT X T W (.Compare a [op] [b] pos) (eTst (eOp δ εa εb)) := let ⟨_, h1, h2⟩ := h; pdt_cmp h1 h2 ha hb hm
theorem e_chain {op op' : CmpOp} (h : OpE X T (compareOp op) δ) (h' : OpE X T (compareOp op') δ') (ha : PD X T W a εa) (hb : PD X T W b εb) (hc : PD X T W c εc) (hm : lastMarks [op, op'] [b, c] = false := by with_unfolding_all rfl) : PD X T W (.Compare a [op, op'] [b, c] pos) (eChain δ δ' εa εb εc) :=
  let ⟨_, h1, h2⟩ := h; let ⟨_, h3, h4⟩ := h'; pd_chain h1 h2 h3 h4 ha hb hc hm
theorem t_chain {op op' : CmpOp} (h : OpE X T (compareOp op) δ) (h' : OpE X T (compareOp op') δ') (ha : PD X T W a εa) (hb : PD X T W b εb) (hc : PD X T W c εc) (hm : lastMarks [op, op'] [b, c] = false := by with_unfolding_all rfl) : PDT X T W (.Compare a [op, op'] [b, c] pos) (eTst (eChain δ δ' εa εb εc)) :=
  let ⟨_, h1, h2⟩ := h; let ⟨_, h3, h4⟩ := h'; pdt_chain h1 h2 h3 h4 ha hb hc hm
theorem e_ix (h : IxE X T δ) (ha : PD X T W a εa) (hb : PD X T W b εb) (hs : PlainIx b := by exact fun _ _ => rfl) : PD X T W (.Subscript a b pos) (eOp δ εa εb) := let ⟨_, h1, h2⟩ := h; pd_ix h1 h2 ha hb hs
/-! sorted -/
def cSort : DC := fun ds h Q => match ds with
  | [.ref n] => match h[n]? with
    | some (.dct kvs _) => CanSort (kvs.map (·.1)) ∧ Q (.ref h.length) (h ++ [.lst (sortD (kvs.map (·.1)))])
    | _ => ∃ xs, lstOf h n = some xs ∧ CanSort xs ∧ Q (.ref h.length) (h ++ [.lst (sortD xs)])
  | _ => False
theorem cb_read' {g : G} {e : Expr} {es : List Expr} {α : DA} {δ : DC} : True := trivial
theorem kr_fst {K : Frag} {H : Hp} {μ : List Addr} : ∀ {ks : List (NestedKey × Addr × V)} {kvs : List (D × D)}, Paired (KR K H μ) ks kvs → RVs K H μ (ks.map fun p : NestedKey × Addr × V => V.ref p.2.1) (kvs.map (·.1))
  | _, _, .nil => .nil
  | _, _, .cons h r => .cons h.2.1 (kr_fst r)
theorem refs_vals : ∀ l : List (NestedKey × Addr × V), Vals (l.map fun p : NestedKey × Addr × V => V.ref p.2.1) (l.map fun p : NestedKey × Addr × V => Value.ref p.2.1)
  | [] => .nil
  | p :: l => .cons rfl (refs_vals l)
theorem keys_of {es : Array DictEntry} {ks : List (NestedKey × Addr × V)} {acc : Array Value} (hsz : es.size = ks.length) (hes : ∀ (i : Nat) (hi : i < es.size) (p : NestedKey × Addr × V), ks[i]? = some p → es[i].key = .ref p.2.1 ∧ L2.RelV p.2.2 es[i].val)
    (h : ItemsOf (fun i v => ∃ hi : i < es.size, v = es[i].key) acc es.size) : Vals (ks.map fun p : NestedKey × Addr × V => V.ref p.2.1) acc.toList := by
  have e : acc.toList = ks.map fun p : NestedKey × Addr × V => Value.ref p.2.1 := by
    refine List.ext_getElem? fun i => ?_
    by_cases hi : i < ks.length
    · have ha : i < acc.size := by rw [h.1, hsz]; exact hi
      have e1 : acc[i]? = some acc[i] := Array.getElem?_eq_getElem ha
      obtain ⟨hi2, hv⟩ := h.2 i _ e1
      rw [Array.getElem?_toList, e1, hv, (hes i hi2 ks[i] (List.getElem?_eq_getElem hi)).1, List.getElem?_map, List.getElem?_eq_getElem hi]; rfl
    · rw [List.getElem?_eq_none (by rw [Array.length_toList, h.1, hsz]; omega), List.getElem?_eq_none (by rw [List.length_map]; omega)]
  rw [e]
  exact refs_vals ks
def rSortD (g : G) : List V → Hp → VK → Prop := fun vs H Q => ∃ μ h d Q0, vs = [.ref d] ∧ RelH g H μ h ∧ Post g H μ Q0 Q ∧ ((∃ us xs, SqL g.K H d us ∧ RVs g.K H μ us xs ∧ CanSort xs ∧ Q0 (.ref h.length) (h ++ [.lst (sortD xs)])) ∨
  ∃ ks kvs ep, H d = some (DctO g.P g.w d ks ep) ∧ Paired (KR g.K H μ) ks kvs ∧ CanSort (kvs.map (·.1)) ∧ Q0 (.ref h.length) (h ++ [.lst (sortD (kvs.map (·.1)))]))
theorem cr_sortD (S : Std X W) (hu : X.A.units + 64 < cLine) : CallR X (.builtin "sorted") (rSortD (gOf X T)) := by
  intro pins s σ H vs us Q I r h
  obtain ⟨μ, h, d, Q0, rfl, rh, p, q⟩ := h
  obtain ⟨u, rfl, ru⟩ : ∃ u, us = [u] ∧ L2.RelV (.ref d) u := by
    cases r with
    | cons r rr => cases rr; exact ⟨_, rfl, r⟩
  obtain rfl : u = Value.ref d := ru
  rcases q with ⟨ws, xs, hs, rv, cs, q⟩ | ⟨ks, kvs, ep, hd, pk, cs, q⟩
  · obtain ⟨its, rits, pl, hz⟩ := I.list hs
    refine sorted_fin I rh hu rv cs (fun R hR => collect_list pl.isList (hR its _ rits (fun b o e => ?_) rfl rfl) (by rw [← rits.length]; exact hz)) q p
    have hlt := Heap.lt_size e
    show ((s.heap.push (seqObj "list" #[] 0)).update s.heap.objs.size _).get? b = some o
    rw [Heap.get?_update_ne _ _ _ _ (Nat.ne_of_lt hlt)]
    exact Heap.get?_push_of_some _ e
  · obtain ⟨es, raw, hsz, ns, hes⟩ := raw_es I hd
    have hl := paired_len pk
    have hk : kvs.length ≤ 1000000 := by have := cs.len; rwa [List.length_map] at this
    refine sorted_fin I rh hu (kr_fst pk) cs (fun R hR => PySem.W.kdu_collect (A := X.A.in1) (K := KdlSrc.rawDict (d := d) (es := es) (ep := ep) ns) (I.ok.hd S.calm) raw (by rw [hsz, hl]; exact line_le hk) fun h' tk acc k hacc => ?_) q p
    exact hR _ _ (keys_of hsz hes hacc) k rfl rfl
theorem cok_sort {g : G} : CallOk g (rSortD g) cSort := fun H μ h vs ds Q0 Q rh rv q p => by
  unfold cSort at q
  split at q
  · obtain ⟨v, rfl, r1⟩ := rv.inv1
    obtain ⟨d, rfl, hn⟩ := r1.inv_ref
    split at q
    · rename_i kvs ep e
      obtain ⟨ks, hd, pk⟩ := rh.obj _ _ _ hn e
      exact ⟨μ, h, d, Q0, rfl, rh, p, .inr ⟨ks, kvs, ep, hd, pk, q.1, q.2⟩⟩
    · obtain ⟨xs, e, cs, q⟩ := q
      obtain ⟨us, h1, h2⟩ := lst_at rh hn e
      exact ⟨μ, h, d, Q0, rfl, rh, p, .inl ⟨us, xs, h1, h2, cs, q⟩⟩
  · exact q.elim
/-! built-ins by name -/
section
variable {e : Expr} {es : List Expr} {α : DA} {x : Str} {p : Pos}
theorem pd_sort (S : Std X W) {k : Nat} (hr : Room k X.A) (hg : Gl X "sorted") (hm : X.mg "sorted" = none) (ha : PDA X T W (e :: es) α)
    (he : starEach (e :: es) X.env = (false, eval e X.env) :: starEach es X.env := by rfl) (hpl : (backTo pos (starEach es X.env)).any (·.1) = false := by rfl) : PD X T W (.Call (.Name "sorted" p) (e :: es) [] pos) (eCB cSort α) :=
  PE.imp (pe_callB (cr_sortD (T := T) S hr.units) hg hm boot_sorted ha (by decide) (by decide) he hpl) (cb_read cok_sort)
theorem pd_len (hg : Gl X "len") (hm : X.mg "len" = none) (ha : PDA X T W (e :: es) α)
    (he : starEach (e :: es) X.env = (false, eval e X.env) :: starEach es X.env := by rfl) (hpl : (backTo pos (starEach es X.env)).any (·.1) = false := by rfl) : PD X T W (.Call (.Name "len" p) (e :: es) [] pos) (eCB cLen α) := pd_callB cb_len hg hm (by decide +kernel) ha (by decide) (by decide) he hpl
theorem pd_list (hg : Gl X "list") (hm : X.mg "list" = none) (ha : PDA X T W (e :: es) α)
    (he : starEach (e :: es) X.env = (false, eval e X.env) :: starEach es X.env := by rfl) (hpl : (backTo pos (starEach es X.env)).any (·.1) = false := by rfl) : PD X T W (.Call (.Name "list" p) (e :: es) [] pos) (eCB cList α) := pd_callTy cb_list hg hm (by decide +kernel) ha (by decide) (by decide) he hpl
theorem pd_tuple (hg : Gl X "tuple") (hm : X.mg "tuple" = none) (ha : PDA X T W (e :: es) α)
    (he : starEach (e :: es) X.env = (false, eval e X.env) :: starEach es X.env := by rfl) (hpl : (backTo pos (starEach es X.env)).any (·.1) = false := by rfl) : PD X T W (.Call (.Name "tuple" p) (e :: es) [] pos) (eCB cTup α) := pd_callTy cb_tup hg hm (by decide +kernel) ha (by decide) (by decide) he hpl
theorem pd_intc (hg : Gl X "int") (hm : X.mg "int" = none) (ha : PDA X T W (e :: es) α)
    (he : starEach (e :: es) X.env = (false, eval e X.env) :: starEach es X.env := by rfl) (hpl : (backTo pos (starEach es X.env)).any (·.1) = false := by rfl) : PD X T W (.Call (.Name "int" p) (e :: es) [] pos) (eCB cInt α) := pd_callTy cb_int hg hm (by decide +kernel) ha (by decide) (by decide) he hpl
theorem pd_sum (S : Std X W) (hg : Gl X "sum") (hm : X.mg "sum" = none) (ha : PDA X T W (e :: es) α)
    (he : starEach (e :: es) X.env = (false, eval e X.env) :: starEach es X.env := by rfl) (hpl : (backTo pos (starEach es X.env)).any (·.1) = false := by rfl) : PD X T W (.Call (.Name "sum" p) (e :: es) [] pos) (eCB cSum α) := pd_callB (cb_sum S) hg hm (by decide +kernel) ha (by decide) (by decide) he hpl
theorem pd_max (S : Std X W) (hg : Gl X "max") (hm : X.mg "max" = none) (ha : PDA X T W (e :: es) α)
    (he : starEach (e :: es) X.env = (false, eval e X.env) :: starEach es X.env := by rfl) (hpl : (backTo pos (starEach es X.env)).any (·.1) = false := by rfl) : PD X T W (.Call (.Name "max" p) (e :: es) [] pos) (eCB cMax α) := pd_callB (cb_max S) hg hm (by decide +kernel) ha (by decide) (by decide) he hpl
theorem pd_min (S : Std X W) (hg : Gl X "min") (hm : X.mg "min" = none) (ha : PDA X T W (e :: es) α)
    (he : starEach (e :: es) X.env = (false, eval e X.env) :: starEach es X.env := by rfl) (hpl : (backTo pos (starEach es X.env)).any (·.1) = false := by rfl) : PD X T W (.Call (.Name "min" p) (e :: es) [] pos) (eCB cMin α) := pd_callB (cb_min S) hg hm (by decide +kernel) ha (by decide) (by decide) he hpl
end
/-! list(range(n)) -/
def eLRg (ε : DE) : DE := fun E env h Q => ε E env h fun x h1 => match x with | .int j => 0 ≤ j ∧ j ≤ 1000000 ∧ Q (.ref h1.length) (h1 ++ [.lst (rangeD 0 j.toNat)]) | _ => False
theorem range_rv {K : Frag} {H : Hp} {μ : List Addr} : ∀ (n : Nat) (lo : Int), RVs K H μ ((List.range n).map fun i => V.int (lo + (i : Nat))) (rangeD lo n)
  | 0, _ => .nil
  | n + 1, lo => by
    rw [List.range_succ_eq_map, List.map_cons, List.map_map, rangeD]
    refine .cons (by rw [show lo + ((0 : Nat) : Int) = lo by simp]; exact .int lo) ?_
    have := range_rv (K := K) (H := H) (μ := μ) n (lo + 1)
    refine Eq.subst (motive := fun l => RVs K H μ l (rangeD (lo + 1) n)) ?_ this
    refine List.map_congr_left fun i _ => ?_
    show V.int (lo + 1 + (i : Int)) = V.int (lo + ((i + 1 : Nat) : Int))
    congr 1
    omega
theorem pd_lrg {a : Expr} {εa : DE} {p p2 p3 : Pos} (S : Std X W) (hg : Gl X "list") (hm : X.mg "list" = none) (hg2 : Gl X "range") (hm2 : X.mg "range" = none) (ha : PD X T W a εa)
    (na : starEach [a] X.env = (false, eval a X.env) :: starEach [] X.env := by rfl) (nb : starEach [.Call (.Name "range" p2) [a] [] p3] X.env = (false, eval (.Call (.Name "range" p2) [a] [] p3) X.env) :: starEach [] X.env := by rfl) : PD X T W (.Call (.Name "list" p) [.Call (.Name "range" p2) [a] [] p3] [] pos) (eLRg εa) :=
  PE.imp (pe_listRg S.calm hg hm (prg_1 hg2 hm2 ha na) nb) fun σ H Q ⟨μ, env, h, Q0, E0, r, re, q, p, px⟩ => ⟨μ, env, h, _, E0, r, re, q, fun x h1 v H1 μ1 q1 r1 l1 rv => by
    cases x with
    | int j =>
      rw [rv.inv_int]
      obtain ⟨z0, z, q1⟩ := q1
      refine ⟨j, rfl, ⟨by omega, by omega, by omega, by omega, by omega⟩, fun t ht => ?_⟩
      · have hh := range_rv (K := X.K) (H := H1) (μ := μ1) j.toNat 0
        have e : rgV 0 j = (List.range j.toNat).map fun i => V.int (0 + (i : Nat)) := by unfold rgV; rw [Int.sub_zero]
        rw [e]
        exact new_lst r1 hh q1 (p.le l1) ht
    | _ => exact q1.elim, px⟩
/-! a, b = x, y -/
theorem pds_par {i j : Nat} {x y : Str} {a b : Expr} {α : DA} {px py pt : Pos} {kt k2 pt2} (S : Std X W) (hi : X.N[i]? = some x) (hj : X.N[j]? = some y) (hij : i ≠ j)
    (hx : X.env.scope.names.lookup x = some .local) (hy : X.env.scope.names.lookup y = some .local) (ha : PDA X T W [a, b] α)
    (hw : swappedStores [.Tuple [.Name x px, .Name y py] kt pt] (.Tuple [a, b] k2 pt2) X.env = pure (some [x, y]))
    (hs : swapsWithSole [.Tuple [.Name x px, .Name y py] kt pt] (.Tuple [a, b] k2 pt2) pos.line X.env = pure false := by rfl) :
    PDS X T W (.Assign [.Tuple [.Name x px, .Name y py] kt pt] (.Tuple [a, b] k2 pt2) pos) (dPar i j α) :=
  PS.imp (ps_par S.calm S.nd hi hj hij hx hy ha hw hs) fun D σ H ⟨μ, env, h, D0, r, re, q, p⟩ => ⟨μ, env, h, _, _, r, re, q, fun ds h1 vs H1 μ1 ⟨x, y, e, q1⟩ r1 l1 rv => by
    subst e
    obtain ⟨v, u, rfl, rv1, ru⟩ := rv.inv2
    exact ⟨v, u, rfl, p.nx _ _ _ _ _ q1 r1 (((re.le l1).put rv1 i).put ru j) l1⟩, p.xc⟩
def dPar3 (i j l : Nat) (α : DA) : DS := fun D env h => α D.xc env h fun ds h1 => ∃ x y z, ds = [x, y, z] ∧ D.nx (((env.set i (some x)).set j (some y)).set l (some z)) h1
theorem pds_par3 {i j l : Nat} {x y z : Str} {a b c : Expr} {α : DA} {px py pz pt : Pos} {kt k2 pt2} (S : Std X W) (hi : X.N[i]? = some x) (hj : X.N[j]? = some y) (hl : X.N[l]? = some z) (hij : i ≠ j) (hil : i ≠ l) (hjl : j ≠ l)
    (hx : X.env.scope.names.lookup x = some .local) (hy : X.env.scope.names.lookup y = some .local) (hz : X.env.scope.names.lookup z = some .local) (ha : PDA X T W [a, b, c] α)
    (hw : swappedStores [.Tuple [.Name x px, .Name y py, .Name z pz] kt pt] (.Tuple [a, b, c] k2 pt2) X.env = pure (some [x, y, z]))
    (hs : swapsWithSole [.Tuple [.Name x px, .Name y py, .Name z pz] kt pt] (.Tuple [a, b, c] k2 pt2) pos.line X.env = pure false := by rfl) :
    PDS X T W (.Assign [.Tuple [.Name x px, .Name y py, .Name z pz] kt pt] (.Tuple [a, b, c] k2 pt2) pos) (dPar3 i j l α) :=
  PS.imp (ps_par3 S.calm S.nd hi hj hl hij hil hjl hx hy hz ha hw hs) fun D σ H ⟨μ, env, h, D0, r, re, q, p⟩ => ⟨μ, env, h, _, _, r, re, q, fun ds h1 vs H1 μ1 ⟨x, y, z, e, q1⟩ r1 l1 rv => by
    subst e
    obtain ⟨v, u, t, rfl, rv1, ru, rt⟩ := rv.inv3
    exact ⟨v, u, t, rfl, p.nx _ _ _ _ _ q1 r1 ((((re.le l1).put rv1 i).put ru j).put rt l) l1⟩, p.xc⟩
/-! name op= e -/
def dAug (i : Nat) (f : Int → Int → Int) (ε : DE) : DS := fun D env h => ∃ x, env[i]? = some (some (.int x)) ∧ ε D.xc env h fun y h1 => match y with | .int j => D.nx (env.set i (some (.int (f x j)))) h1 | _ => False
theorem pds_aug {i : Nat} {x : Str} {e : Expr} {ε : DE} {op : Operator} {f : Int → Int → Int} {pos' : Pos} (S : Std X W) (hi : X.N[i]? = some x) (hx : Loc X.env.scope x) (he : PD X T W e ε) (ho : PIp X op (ipI f)) (hf : X.fn x = true ∨ X.env.scope.names.lookup x = some .local := by first | exact .inl rfl | exact .inr rfl | assumption) :
    PDS X T W (.AugAssign (.Name x pos') op e pos) (dAug i f ε) :=
  PS.imp (ps_aug S.nd hi hx he ho hf) fun D σ H ⟨μ, env, h, D0, r, re, ⟨x0, ex, q⟩, p⟩ => by
    obtain ⟨v, h1, h2⟩ := re.at' i _ ex
    rw [h2.inv_int] at h1
    refine ⟨_, h1, μ, env, h, _, _, r, re, q, fun y h1 u H1 μ1 q1 r1 l1 ru => ?_, p.xc⟩
    cases y with
    | int j => rw [ru.inv_int]; exact ⟨x0, j, rfl, rfl, p.nx _ _ _ _ _ q1 r1 ((re.le l1).put (.int _) i) l1⟩
    | _ => exact q1.elim
/-! xs.append(e) and the like -/
theorem pd_append {o e : Expr} {es : List Expr} {εo : DE} {α : DA} {apos cpos : Pos} (ho : PD X T W o εo) (ha : PDA X T W (e :: es) α)
    (hbase : attributeBase o "append" X.env (eval o X.env) = eval o X.env := by rfl)
    (hfew : ((backTo cpos (starEach (e :: es) X.env)).all (fun x => !x.1) && (backToKw cpos (keywordEach [] X.env)).all (fun x => x.1.isSome)
      && decide ((e :: es).length + ([] : List Keyword).length + (if ([] : List Keyword).isEmpty then 0 else 1) < 30)) = true := by rfl)
    (hline : (apos.endLine == cpos.line) = true := by rfl) (hs : starEach (e :: es) X.env = (false, eval e X.env) :: starEach es X.env := by rfl) (hplain : (backTo cpos (starEach es X.env)).any (·.1) = false := by rfl) :
    PD X T W (.Call (.Attribute o "append" apos) (e :: es) [] cpos) (eMt "list" mAppend εo α) := pd_bm PySem.F.plainAttrs_list PySem.F.slot_list_append PySem.F.type_list_append mt_append mok_append ho ha hbase hfew hline hs hplain
theorem pd_extend {o e : Expr} {es : List Expr} {εo : DE} {α : DA} {apos cpos : Pos} (ho : PD X T W o εo) (ha : PDA X T W (e :: es) α)
    (hbase : attributeBase o "extend" X.env (eval o X.env) = eval o X.env := by rfl)
    (hfew : ((backTo cpos (starEach (e :: es) X.env)).all (fun x => !x.1) && (backToKw cpos (keywordEach [] X.env)).all (fun x => x.1.isSome)
      && decide ((e :: es).length + ([] : List Keyword).length + (if ([] : List Keyword).isEmpty then 0 else 1) < 30)) = true := by rfl)
    (hline : (apos.endLine == cpos.line) = true := by rfl) (hs : starEach (e :: es) X.env = (false, eval e X.env) :: starEach es X.env := by rfl) (hplain : (backTo cpos (starEach es X.env)).any (·.1) = false := by rfl) :
    PD X T W (.Call (.Attribute o "extend" apos) (e :: es) [] cpos) (eMt "list" mExtend εo α) := pd_bm PySem.F.plainAttrs_list PySem.F.slot_list_extend PySem.F.type_list_extend mt_extend mok_extend ho ha hbase hfew hline hs hplain
theorem pd_pop {o : Expr} {εo : DE} {apos cpos : Pos} (ho : PD X T W o εo) (hbase : attributeBase o "pop" X.env (eval o X.env) = eval o X.env := by rfl) (hline : (apos.endLine == cpos.line) = true := by rfl) :
    PD X T W (.Call (.Attribute o "pop" apos) [] [] cpos) (eMt "list" mPop εo aNil) := pd_bm0 PySem.F.plainAttrs_list PySem.F.slot_list_pop PySem.F.type_list_pop mt_pop mok_pop ho hbase hline
end
end DL
set_option Elab.async false
set_option linter.all false
set_option maxRecDepth 100000
set_option maxHeartbeats 4000000
namespace DL
open PySem PySem.Spec PyProof.Rows L2
open PySem.W (Frag)
/-! ### enumerate, zip -/
def zipD : List D → List D → List D
  | x :: xs, y :: ys => .tup [x, y] :: zipD xs ys
  | _, _ => []
def enumD (k : Nat) : List D → List D
  | [] => []
  | x :: xs => .tup [.int (k : Nat), x] :: enumD (k + 1) xs
theorem zipD_len : ∀ (xs ys : List D), (zipD xs ys).length = min xs.length ys.length
  | x :: xs, y :: ys => by rw [zipD, List.length_cons, zipD_len xs ys, List.length_cons, List.length_cons]; omega
  | [], _ => by simp [zipD]
  | _ :: _, [] => by simp [zipD]
theorem zipD_get : ∀ (xs ys : List D) (i : Nat) (z : D), (zipD xs ys)[i]? = some z → ∃ x y, xs[i]? = some x ∧ ys[i]? = some y ∧ z = .tup [x, y]
  | x :: xs, y :: ys, 0, z, e => by simp [zipD] at e; exact ⟨x, y, rfl, rfl, e.symm⟩
  | x :: xs, y :: ys, i + 1, z, e => by
    obtain ⟨a, b, h1, h2, h3⟩ := zipD_get xs ys i z (by simpa [zipD] using e)
    exact ⟨a, b, by simpa using h1, by simpa using h2, h3⟩
  | [], _, i, z, e => by simp [zipD] at e
  | _ :: _, [], i, z, e => by simp [zipD] at e
theorem enumD_len : ∀ (xs : List D) (k : Nat), (enumD k xs).length = xs.length
  | [], _ => rfl
  | x :: xs, k => by rw [enumD, List.length_cons, enumD_len xs, List.length_cons]
theorem enumD_get : ∀ (xs : List D) (k i : Nat) (z : D), (enumD k xs)[i]? = some z → ∃ x, xs[i]? = some x ∧ z = .tup [.int ((k + i : Nat) : Int), x]
  | x :: xs, k, 0, z, e => by simp [enumD] at e; exact ⟨x, rfl, e.symm⟩
  | x :: xs, k, i + 1, z, e => by
    obtain ⟨a, h1, h2⟩ := enumD_get xs (k + 1) i z (by simpa [enumD] using e)
    exact ⟨a, by simpa using h1, by rw [h2]; congr 3; omega⟩
  | [], _, i, z, e => by simp [enumD] at e
section
variable {g : G} {H0 : Hp} {μ0 : List Addr}
theorem new_pair {H : Hp} {μ : List Addr} {h : DH} {t : Addr} {v u : V} {x y : D} (r : RelH g H μ h) (ht : H t = none) (rv : RV g.K H μ v x) (ru : RV g.K H μ u y) :
    RelH g (upd H t (.tup [v, u])) μ h ∧ Le g.K H μ (upd H t (.tup [v, u])) μ ∧ RV g.K (upd H t (.tup [v, u])) μ (.ref t) (.tup [x, y]) :=
  have l : Le g.K H μ (upd H t (.tup [v, u])) μ := Le.new ht
  ⟨r.side ht, l, .tup (.inl (.inl upd_same)) (.cons (rv.le l) (.cons (ru.le l) .nil))⟩
theorem itok_zipT {a b : Addr} {vs us : List V} {xs ys : List D} (ha : SqT g.K H0 a vs) (rv : RVs g.K H0 μ0 vs xs) (hb : SqT g.K H0 b us) (ru : RVs g.K H0 μ0 us ys) : ItOk g (RZ.ItzT g.K a b) (zipD xs ys) (fun _ => True) H0 μ0 := fun H μ h r l _ => by
  have h1 := l.tup _ _ ha
  have h2 := l.tup _ _ hb
  have rv := rv.le l
  have ru := ru.le l
  refine ⟨fun i z hz => ?_, vs, us, h1, h2, by rw [zipD_len, rv.length, ru.length]; omega⟩
  obtain ⟨x, y, e1, e2, rfl⟩ := zipD_get xs ys i z hz
  obtain ⟨v, f1, f2⟩ := rv.get e1
  obtain ⟨u, f3, f4⟩ := ru.get e2
  refine ⟨⟨vs, us, v, u, h1, h2, f1, f3⟩, fun w H' q => ?_⟩
  obtain ⟨t, v', u', rfl, ht, rfl, q1, q2⟩ := q
  have e3 := q1 vs h1
  have e4 := q2 us h2
  rw [f1] at e3; rw [f3] at e4
  cases e3; cases e4
  exact new_pair r ht f2 f4
theorem itok_zipL {a b n m : Nat} {ad bd : Addr} {xs ys : List D} (hn : μ0[n]? = some ad) (hm : μ0[m]? = some bd) : ItOk g (Itz g.K ad bd) (zipD xs ys) (fun h => lstOf h n = some xs ∧ lstOf h m = some ys) H0 μ0 := fun H μ h r l ⟨c1, c2⟩ => by
  obtain ⟨vs, h1, rv⟩ := lst_at r (l.at hn) c1
  obtain ⟨us, h2, ru⟩ := lst_at r (l.at hm) c2
  refine ⟨fun i z hz => ?_, vs, us, h1, h2, by rw [zipD_len, rv.length, ru.length]; omega⟩
  obtain ⟨x, y, e1, e2, rfl⟩ := zipD_get xs ys i z hz
  obtain ⟨v, f1, f2⟩ := rv.get e1
  obtain ⟨u, f3, f4⟩ := ru.get e2
  refine ⟨⟨vs, us, v, u, h1, h2, f1, f3⟩, fun w H' q => ?_⟩
  obtain ⟨t, v', u', rfl, ht, rfl, q1, q2⟩ := q
  have e3 := q1 vs h1
  have e4 := q2 us h2
  rw [f1] at e3; rw [f3] at e4
  cases e3; cases e4
  exact new_pair r ht f2 f4
theorem itok_enumT {a : Addr} {vs : List V} {xs : List D} (ha : SqT g.K H0 a vs) (rv : RVs g.K H0 μ0 vs xs) : ItOk g (SB.Itet g.K a) (enumD 0 xs) (fun _ => True) H0 μ0 := fun H μ h r l _ => by
  have h1 := l.tup _ _ ha
  have rv := rv.le l
  refine ⟨fun i z hz => ?_, vs, h1, by rw [enumD_len, rv.length]⟩
  obtain ⟨x, e1, rfl⟩ := enumD_get xs 0 i z hz
  obtain ⟨v, f1, f2⟩ := rv.get e1
  refine ⟨⟨vs, v, h1, f1⟩, fun w H' q => ?_⟩
  obtain ⟨t, v', rfl, ht, rfl, q1⟩ := q
  have e3 := q1 vs h1
  rw [f1] at e3
  cases e3
  rw [Nat.zero_add]
  exact new_pair r ht (.int _) f2
end
section
variable {X : Cx} {T : List Addr} {W : WX} {e e2 : Expr} {α : DA} {p pos tpos : Pos} {elts : List Expr} {kk : Nat}
def iZipD (α : DA) : DI := fun E env h R => α E env h fun ds h1 => match ds with
  | [.tup xs, .tup ys] => R (zipD xs ys) (fun _ => True) h1
  | [.ref n, .ref m] => ∃ xs ys, lstOf h1 n = some xs ∧ lstOf h1 m = some ys ∧ R (zipD xs ys) (fun h => lstOf h n = some xs ∧ lstOf h m = some ys) h1
  | _ => False
theorem pdi_zip (hg : Gl X "zip") (hm : X.mg "zip" = none) (ha : PDA X T W [e, e2] α)
    (hs : starEach [e, e2] X.env = (false, eval e X.env) :: starEach [e2] X.env := by rfl) (hpl : (backTo pos (starEach [e2] X.env)).any (·.1) = false := by rfl) : PDI X T W (.Tuple elts kk tpos) (.Call (.Name "zip" p) [e, e2] [] pos) (iZipD α) :=
  PI.imp (RZ.pi_zipA hg hm ha hs hpl) fun σ H R ⟨μ, env, h, R0, E0, r, re, q, p, px⟩ => ⟨μ, env, h, _, E0, r, re, q, fun ds h1 vs H1 μ1 q1 r1 l1 rv => by
    dsimp only at q1
    split at q1
    · obtain ⟨v, u, rfl, rv1, ru⟩ := rv.inv2
      obtain ⟨a, ws, rfl, h2, h3⟩ := rv1.inv_tup
      obtain ⟨b, us, rfl, h4, h5⟩ := ru.inv_tup
      exact ⟨a, b, ws, us, rfl, .inr ⟨h2, h4, p _ _ _ _ _ _ q1 r1 l1 (itok_zipT h2 h3 h4 h5)⟩⟩
    · obtain ⟨v, u, rfl, rv1, ru⟩ := rv.inv2
      obtain ⟨a, rfl, h2⟩ := rv1.inv_ref
      obtain ⟨b, rfl, h4⟩ := ru.inv_ref
      obtain ⟨xs, ys, e1, e2, q1⟩ := q1
      obtain ⟨ws, h6, _⟩ := lst_at r1 h2 e1
      obtain ⟨us, h7, _⟩ := lst_at r1 h4 e2
      exact ⟨a, b, ws, us, rfl, .inl ⟨h6, h7, p _ _ _ _ _ _ q1 r1 l1 (itok_zipL (a := 0) (b := 0) h2 h4)⟩⟩
    · exact q1.elim, px⟩
def iEnumD (α : DA) : DI := fun E env h R => α E env h fun ds h1 => match ds with
  | [.tup xs] => R (enumD 0 xs) (fun _ => True) h1
  | _ => False
theorem pdi_enum (hg : Gl X "enumerate") (hm : X.mg "enumerate" = none) (ha : PDA X T W [e] α) (hs : starEach [e] X.env = [(false, eval e X.env)] := by rfl) : PDI X T W (.Tuple elts kk tpos) (.Call (.Name "enumerate" p) [e] [] pos) (iEnumD α) :=
  PI.imp (SB.pi_enumT hg hm ha hs) fun σ H R ⟨μ, env, h, R0, E0, r, re, q, p, px⟩ => ⟨μ, env, h, _, E0, r, re, q, fun ds h1 vs H1 μ1 q1 r1 l1 rv => by
    dsimp only at q1
    split at q1
    · obtain ⟨v, rfl, rv1⟩ := rv.inv1
      obtain ⟨a, ws, rfl, h2, h3⟩ := rv1.inv_tup
      exact ⟨a, ws, rfl, h2, p _ _ _ _ _ _ q1 r1 l1 (itok_enumT h2 h3)⟩
    · exact q1.elim, px⟩
end
/-- the built-in names are the built-ins' -/
structure BltD (mg : Str → Option Value) : Prop where
  isi : mg "isinstance" = none
  len : mg "len" = none
  all : mg "all" = none
  any : mg "any" = none
  tuple : mg "tuple" = none
  list : mg "list" = none
  int : mg "int" = none
  bool : mg "bool" = none
  str : mg "str" = none
  set : mg "set" = none
  sorted : mg "sorted" = none
  max : mg "max" = none
  min : mg "min" = none
  sum : mg "sum" = none
  range : mg "range" = none
  enumerate : mg "enumerate" = none
  zip : mg "zip" = none
  dict : mg "dict" = none
  super : mg "super" = none
end DL
set_option Elab.async false
set_option linter.all false
namespace DL
open PySem PySem.Spec PyProof.Rows L2
def top (i : Nat) : Stmt := PySem.Challenge.pw_scatterbooks_k00_whole_steps_and_walks.main.body.getD i (.Pass ⟨0, 0, 0, 0⟩)
end DL
set_option Elab.async false
set_option linter.all false
set_option maxRecDepth 100000
set_option maxHeartbeats 4000000
namespace DL
open PySem PySem.Spec PyProof.Rows L2
open PySem.W (Frag)
section
variable {X : Cx} {T : List Addr} {W : WX}
section
variable {elt tg iter tg1 iter1 : Expr} {ifs ifs1 : List Expr} {scope : Scope} {own : List (Str × Nat)} {vs1 : List Nat} {pos spos : Pos} {ι ι1 : DI} {tgt tgt1 : Tgt} {tt tt1 : DT} {ε : DE} {gg gg1 : TG}
theorem pds_setLc2 {i : Nat} {y : Str} {py : Pos} (S : Std X W) (hy : X.N[i]? = some y) (hyl : X.env.scope.names.lookup y = some .local)
    (hsw : swapsWith (.ListComp elt [⟨tg, iter, ifs, 0⟩, ⟨tg1, iter1, ifs1, 0⟩] scope pos) (some (.Name y py)) spos.line X.env = pure true) (hi : PDI X T W tg iter ι) (ok : BlkOk X.N X.env.scope scope own) (hv : ∀ i ∈ vs1, i ∈ own.map (·.2)) (tk : TgOk X.K gg tgt (own.map (·.2))) (tk1 : TgOk X.K gg1 tgt1 vs1)
    (hg : ∀ (s : Shared) (H : Hp) (C : Addr) (cl : List (Str × Addr)) (fp : List Addr), Std (X.blk s H scope (compEnvC scope cl C X.env) fp) WF → PG (X.blk s H scope (compEnvC scope cl C X.env) fp) tg gg)
    (ht : ∀ (s : Shared) (H : Hp) (C : Addr) (cl : List (Str × Addr)) (fp : List Addr), Std (X.blk s H scope (compEnvC scope cl C X.env) fp) WF → PDTs (X.blk s H scope (compEnvC scope cl C X.env) fp) T WF ifs tt)
    (hi1 : ∀ (s : Shared) (H : Hp) (C : Addr) (cl : List (Str × Addr)) (fp : List Addr), Std (X.blk s H scope (compEnvC scope cl C X.env) fp) WF → PDI (X.blk s H scope (compEnvC scope cl C X.env) fp) T WF tg1 iter1 ι1)
    (hg1 : ∀ (s : Shared) (H : Hp) (C : Addr) (cl : List (Str × Addr)) (fp : List Addr), Std (X.blk s H scope (compEnvC scope cl C X.env) fp) WF → PG (X.blk s H scope (compEnvC scope cl C X.env) fp) tg1 gg1)
    (ht1 : ∀ (s : Shared) (H : Hp) (C : Addr) (cl : List (Str × Addr)) (fp : List Addr), Std (X.blk s H scope (compEnvC scope cl C X.env) fp) WF → PDTs (X.blk s H scope (compEnvC scope cl C X.env) fp) T WF ifs1 tt1)
    (he : ∀ (s : Shared) (H : Hp) (C : Addr) (cl : List (Str × Addr)) (fp : List Addr), Std (X.blk s H scope (compEnvC scope cl C X.env) fp) WF → PD (X.blk s H scope (compEnvC scope cl C X.env) fp) T WF elt ε)
    (hs : ∀ x, foldedSetIterable iter X.env x = pure x := by intro _; rfl) (hs1 : ∀ env x, foldedSetIterable iter1 env x = pure x := by intro _ _; rfl) :
    PDS X T W (.Assign [.Name y py] (.ListComp elt [⟨tg, iter, ifs, 0⟩, ⟨tg1, iter1, ifs1, 0⟩] scope pos) spos) (dAsg (eLc2 ι tgt tt ι1 tgt1 tt1 ε (own.map (·.2)) vs1) (gVar i)) :=
  PS.imp (ps_setLc2 (wi := LI (gOf X T) W ι) (tt := LT (gOf X T) WF tt) (wi1 := LI (gOf X T) WF ι1) (tt1 := LT (gOf X T) WF tt1) (te := LE (gOf X T) WF ε) S.calm S.nd hy hyl hsw hi ok hv (fun s H C cl fp => hg s H C cl fp (std_blk S.calm S.nd)) (fun s H C cl fp => ht s H C cl fp (std_blk S.calm S.nd))
    (fun s H C cl fp => hi1 s H C cl fp (std_blk S.calm S.nd)) (fun s H C cl fp => hg1 s H C cl fp (std_blk S.calm S.nd)) (fun s H C cl fp => ht1 s H C cl fp (std_blk S.calm S.nd)) (fun s H C cl fp => he s H C cl fp (std_blk S.calm S.nd)) hs hs1) fun D σ H ⟨μ, env, h, D0, r, re, q, p⟩ =>
    lc2_read tk tk1 σ H _ ⟨μ, env, h, _, _, r, re, q, fun d h' v H' μ' q' r' l' rv => p.nx _ _ _ _ _ q' r' ((re.le l').put rv i) l', p.xc⟩
end
/-! len of a dict too -/
def cLenA : DC := fun ds h Q => match ds with
  | [.ref n] => match h[n]? with
    | some (.dct kvs _) => kvs.length ≤ 1000000 ∧ Q (.int kvs.length) h
    | _ => cLen ds h Q
  | _ => cLen ds h Q
def rLenD (g : G) : List V → Hp → VK → Prop := fun vs H Q => ∃ μ d ks kvs ep, vs = [.ref d] ∧ H d = some (DctO g.P g.w d ks ep) ∧ Paired (KR g.K H μ) ks kvs ∧ kvs.length ≤ 1000000 ∧ Q (.int kvs.length) H
theorem cr_lenD : CallR X (.builtin "len") (rLenD (gOf X T)) := by
  intro pins s σ H vs us Q I r h
  obtain ⟨μ, d, ks, kvs, ep, rfl, hd, pk, hz, q⟩ := h
  obtain ⟨u, rfl, ru⟩ : ∃ u, us = [u] ∧ L2.RelV (.ref d) u := by
    cases r with
    | cons r rr => cases rr; exact ⟨_, rfl, r⟩
  obtain rfl : u = Value.ref d := ru
  obtain ⟨xs, p3, D, ns, _⟩ := dictH_at I hd pk
  have hl : kvs.length = xs.length := (paired_len pk).symm.trans (paired_len p3)
  refine call_len_dictH (knd := nestedKind X.prog X.w) ns D (by rw [← hl]; omega) ?_
  rw [← hl]
  exact ⟨.int ((kvs.length : Nat) : Int), H, I.tok _, ⟨_, rfl⟩, q⟩
theorem cb_lenA : ∃ r, CallR X (.builtin "len") r ∧ CallOk (gOf X T) r cLenA := by
  obtain ⟨r, h1, h2⟩ := cb_len (X := X)
  refine ⟨_, CallR.or h1 (cr_lenD (T := T)), fun H μ h vs ds Q0 Q rh rv q p => ?_⟩
  unfold cLenA at q
  split at q
  · split at q
    · rename_i n _ kvs ep e
      obtain ⟨v, rfl, r1⟩ := rv.inv1
      obtain ⟨d, rfl, hn⟩ := r1.inv_ref
      obtain ⟨ks, hd, pk⟩ := rh.obj _ _ _ hn e
      exact .inr ⟨μ, d, ks, kvs, ep, rfl, hd, pk, q.1, p _ _ _ _ _ q.2 rh .refl (.int _)⟩
    · exact .inl (h2 T H μ h _ _ _ _ rh rv q p)
  · exact .inl (h2 T H μ h _ _ _ _ rh rv q p)
section
variable {e : Expr} {es : List Expr} {α : DA} {x : Str} {p pos : Pos}
theorem pd_lenA (hg : Gl X "len") (hm : X.mg "len" = none) (ha : PDA X T W (e :: es) α)
    (he : starEach (e :: es) X.env = (false, eval e X.env) :: starEach es X.env := by rfl) (hpl : (backTo pos (starEach es X.env)).any (·.1) = false := by rfl) : PD X T W (.Call (.Name "len" p) (e :: es) [] pos) (eCB cLenA α) := by
  obtain ⟨r, h1, h2⟩ := cb_lenA (X := X) (T := T)
  exact PE.imp (pe_callB h1 hg hm (by decide +kernel) ha (by decide) (by decide) he hpl) (cb_read h2)
end
/-! isinstance of data, by built-in types -/
/-- the name of a value's type -/
def tyD (h : DH) : D → Option String
  | .non => some "NoneType"
  | .bl _ => some "bool"
  | .int _ => some "int"
  | .str _ => some "str"
  | .tup _ => some "tuple"
  | .ref n => match h[n]? with
    | some (.lst _) => some "list"
    | some (.fl _) => some "list"
    | some (.dk _) => some "dict"
    | _ => none
  | .obj _ => none
theorem ty_rv {g : G} {H : Hp} {μ : List Addr} {h : DH} {v : V} {d : D} {t : String} (rh : RelH g H μ h) (rv : RV g.K H μ v d) (e : tyD h d = some t) : TyX g.K H v (.type t) := by
  cases d with
  | non => rw [rv.inv_non]; cases e; exact .base .non
  | bl b => rw [rv.inv_bl]; cases e; exact .base (.bl b)
  | int i => rw [rv.inv_int]; cases e; exact .base (.int i)
  | str x => rw [rv.inv_str]; cases e; exact .base (.str x)
  | tup xs =>
    cases e
    obtain ⟨a, vs, rfl, h1, _⟩ := rv.inv_tup
    rcases h1 with (h1 | ⟨o, h1⟩) | ⟨o, h1⟩
    · exact .base (.tup h1)
    · exact .fTuple h1
    · obtain ⟨its, n, h1, h2, _⟩ := h1
      exact .kTuple h1 h2
  | ref n =>
    obtain ⟨a, rfl, hn⟩ := rv.inv_ref
    simp only [tyD] at e
    split at e
    · rename_i xs eo
      cases e
      obtain ⟨vs, h1, _⟩ := rh.obj n a _ hn eo
      exact .base (.lst h1)
    · rename_i xs eo
      cases e
      obtain ⟨vs, h1, _⟩ := (rh.obj n a _ hn eo).sqL
      rcases h1 with (h1 | ⟨o', h1⟩) | ⟨o', h1⟩
      · exact .base (.lst h1)
      · exact .base (.frz h1)
      · obtain ⟨its, n, h1, h2, _⟩ := h1
        exact .kList h1 h2
    · rename_i xs eo
      cases e
      obtain ⟨vs, h1, _⟩ := rh.obj n a _ hn eo
      exact .base (.dK h1)
    · cases e
  | obj a => cases e
/-- by one type, by some -/
def isiAny (t : String) : List String → Option Bool
  | [] => some false
  | c :: cs => match kitB t c with
    | some true => some true
    | some false => isiAny t cs
    | none => none
def eIsi (cs : List String) (ε : DE) : DE := fun E env h Q => ε E env h fun x h1 => ∃ t b, tyD h1 x = some t ∧ isiAny t cs = some b ∧ Q (.bl b) h1
theorem kit_any {K : Frag} {t : String} : ∀ {cs : List String} {b : Bool}, isiAny t cs = some b → PySem.W.kitAny K (.type t) (cs.map Value.type) = some b
  | [], b, e => by cases e; rfl
  | c :: cs, b, e => by
    unfold isiAny at e
    split at e
    · rename_i h; cases e; exact kitAny_cons (kit_ty h) (fun z => by cases z) fun _ => rfl
    · rename_i h; exact kitAny_cons (kit_ty h) (fun _ => kit_any e) fun z => by cases z
    · cases e
theorem isi_one {t c : String} {b : Bool} (e : isiAny t [c] = some b) : kitB t c = some b := by
  unfold isiAny at e
  split at e
  · rename_i h; cases e; exact h
  · rename_i h; cases e; exact h
  · cases e
section
variable {e : Expr} {ε : DE} {x : Str} {p p2 pos : Pos} {TT : String}
theorem pd_isi (hg : Gl X "isinstance") (hm : X.mg "isinstance" = none) (hg2 : Gl X x) (hm2 : X.mg x = none) (hv : bootBuiltins x = some (.type TT)) (he : PD X T W e ε) (hn : x ≠ "__name__" := by decide) (hd : (x == ("__debug__" : Str)) = false := by decide)
    (h1 : starEach [e, .Name x p2] X.env = (false, eval e X.env) :: starEach [.Name x p2] X.env := by rfl) (h2 : starEach [.Name x p2] X.env = (false, eval (.Name x p2) X.env) :: starEach [] X.env := by rfl) (hpl : (backTo pos (starEach [.Name x p2] X.env)).any (·.1) = false := by rfl) :
    PD X T W (.Call (.Name "isinstance" p) [e, .Name x p2] [] pos) (eIsi [TT] ε) :=
  PE.imp (pe_callB call_isi hg hm boot_isinstance (pa_cons he (pa_cons (pe_bltn (v := .ty TT) hg2 hm2 hv rfl hn hd) pa_nil h2) h1) (by decide) (by decide) h1 hpl) fun σ H Q ⟨μ, env, h, Q0, E0, r, re, q, p, px⟩ =>
    ⟨μ, env, h, _, E0, r, re, q, fun d h1 v H1 μ1 ⟨t, b, e1, e2, q1⟩ r1 l1 rv => ⟨v, .ty TT, .type t, .type TT, b, rfl, .ty TT, ty_rv r1 rv e1, kit_ty (isi_one e2), p _ _ _ _ _ q1 r1 l1 (.bl _)⟩, px⟩
/-- the names of types, as expressions -/
inductive TyNames (X : Cx) : List Expr → List String → Prop where
  | nil : TyNames X [] []
  | cons {x : Str} {q : Pos} {c : String} {es : List Expr} {cs : List String} (hg : Gl X x) (hm : X.mg x = none) (hv : bootBuiltins x = some (.type c)) (r : TyNames X es cs)
      (hn : x ≠ "__name__" := by decide) (hd : (x == ("__debug__" : Str)) = false := by decide) (hs : starEach (.Name x q :: es) X.env = (false, eval (.Name x q) X.env) :: starEach es X.env := by rfl) : TyNames X (.Name x q :: es) (c :: cs)
theorem TyNames.pa : ∀ {es : List Expr} {cs : List String}, TyNames X es cs → PA X es (fun σ H Q => Q (cs.map V.ty) H)
  | _, _, .nil => PA.imp pa_nil fun σ H Q q => q
  | _, _, .cons hg hm hv r hn hd hs => PA.imp (pa_cons (pe_bltn (v := .ty _) hg hm hv rfl hn hd) r.pa hs) fun σ H Q q => q
theorem clsvs : ∀ cs : List String, Paired ClsV (cs.map V.ty) (cs.map Value.type)
  | [] => .nil
  | c :: cs => .cons (.ty c) (clsvs cs)
theorem pd_isiT {es : List Expr} {cs : List String} {k : Nat} {tp : Pos} (hg : Gl X "isinstance") (hm : X.mg "isinstance" = none) (hc : TyNames X es cs) (hz : cs.length ≤ 100) (he : PD X T W e ε)
    (h1 : starEach [e, .Tuple es k tp] X.env = (false, eval e X.env) :: starEach [.Tuple es k tp] X.env := by rfl) (h2 : starEach [.Tuple es k tp] X.env = (false, eval (.Tuple es k tp) X.env) :: starEach [] X.env := by rfl) (hpl : (backTo pos (starEach [.Tuple es k tp] X.env)).any (·.1) = false := by rfl) :
    PD X T W (.Call (.Name "isinstance" p) [e, .Tuple es k tp] [] pos) (eIsi cs ε) :=
  PE.imp (pe_callB call_isiT hg hm boot_isinstance (pa_cons he (pa_cons (pe_tup hc.pa) pa_nil h2) h1) (by decide) (by decide) h1 hpl) fun σ H Q ⟨μ, env, h, Q0, E0, r, re, q, p, px⟩ =>
    ⟨μ, env, h, _, E0, r, re, q, fun d h1 v H1 μ1 ⟨t, b, e1, e2, q1⟩ r1 l1 rv => ⟨by rw [List.length_map, sizeLine_eq]; omega, fun a ha => by
      have l2 : Le X.K H1 μ1 (upd H1 a (.tup (cs.map V.ty))) μ1 := Le.new ha
      have r2 : RelH (gOf X T) (upd H1 a (.tup (cs.map V.ty))) μ1 h1 := r1.side ha
      exact ⟨v, a, _, .type t, _, b, rfl, upd_same, clsvs cs, ty_rv r2 (rv.le l2) e1, kit_any e2, p _ _ _ _ _ q1 r2 (l1.trans l2) (.bl _)⟩⟩, px⟩
end
/-! [::-1] -/
section
variable {prog : Program} {w : World} {A : Around} {E : Value → Shared → Prop} {s : Shared}
theorem applied_back {sl : Addr} {u : Tok} {n : Nat} {Q : Int × Int × Nat → Shared → Prop} (hs : s.heap.IsSliceOf sl .none .none (.int (-1) u)) (h : Q ((n : Int) - 1, -1, n) s) :
    wpAny (model prog w) A (Builtin.Slice.sliceApplied (.ref sl) (pure (n : Int))) Q E s := by
  obtain ⟨os, ho, _, hd⟩ := id hs
  unfold Builtin.Slice.sliceApplied Builtin.Slice.sliceFields
  refine wpAny_bind (wpAny_bind (wpAny_field ho hd (x := .none) rfl (wpAny_bind (wpAny_field ho hd (x := .none) rfl (wpAny_bind (wpAny_field ho hd (x := .int (-1) u) rfl (wpAny_pure ?_)))))))
  refine wpAny_bind (slicePart_int ?_)
  show wpAny _ _ (if ((-1 : Int) == 0) = true then _ else _) _ _ s
  rw [if_neg (by decide)]
  refine wpAny_bind (slicePart_none (wpAny_bind (slicePart_none (wpAny_bind (wpAny_pure ?_)))))
  have e1 : Builtin.Slice.sliceAdjust none none (-1) (n : Int) = ((n : Int) - 1, -1) := rfl
  have e2 : Builtin.Slice.slicePlaces ((n : Int) - 1) (-1) (-1) = n := by
    unfold Builtin.Slice.slicePlaces
    have h1 : ¬ ((-1 : Int) > 0) := by omega
    rw [if_neg h1]
    split
    · rw [show (- -1 : Int) = 1 by decide, Int.ediv_one]; omega
    · omega
  show wpAny _ _ (match Builtin.Slice.sliceAdjust none none (-1) (n : Int) with | (lo, hi) => pure (lo, (-1 : Int), Builtin.Slice.slicePlaces lo hi (-1))) _ _ s
  rw [e1]
  show wpAny _ _ (pure ((n : Int) - 1, (-1 : Int), Builtin.Slice.slicePlaces ((n : Int) - 1) (-1) (-1))) _ _ s
  rw [e2]
  exact wpAny_pure h
theorem pick_back (xs : Array Value) : ((List.range xs.size).filterMap fun (k : Nat) => xs[((xs.size : Int) - 1 + (k : Int) * (-1)).toNat]?).toArray = xs.toList.reverse.toArray := by
  have e : ((List.range xs.size).filterMap fun (k : Nat) => xs[((xs.size : Int) - 1 + (k : Int) * (-1)).toNat]?) = ((List.range xs.size).map fun k => xs.size - 1 - k).filterMap (xs[·]?) := by
    rw [List.filterMap_map]
    congr 1
    funext k
    have : ((xs.size : Int) - 1 + (k : Int) * (-1)).toNat = xs.size - 1 - k := by omega
    rw [this]
    rfl
  rw [e, PySem.W.krv_range, List.filterMap_reverse, PySem.W.krv_all]
theorem item_back {t sl : Addr} {items : Array Value} {u : Tok} {Q : Value → Shared → Prop} (ht : IsTup s.heap t items) (hs : s.heap.IsSliceOf sl .none .none (.int (-1) u)) (hsz : items.size ≤ sizeLine)
    (h : Q (.ref s.heap.objs.size) { s with heap := s.heap.push { cls := .type "tuple", data := .seq items.toList.reverse.toArray } }) : wpAny (model prog w) A (getItem (.ref t) (.ref sl)) Q E s := by
  have fits : sizeOk (.seq items.toList.reverse.toArray) := by
    show items.toList.reverse.toArray.size ≤ sizeLine
    rw [List.size_toArray, List.length_reverse, Array.length_toList]; exact hsz
  obtain ⟨os, hos, hcs, _⟩ := id hs
  have isl : s.TypeIs (.ref sl) "slice" := ⟨os, hos, hcs⟩
  unfold getItem
  refine wpAny_holding (wpAny_bind (wpAny_sequenceKey ht.typeIs (by decide) ?_))
  refine wpAny_bind (wpAny_callSpecial?_slot (name := Str.ofString "__getitem__") ht.typeIs slot_tuple_getitem (wpAny_call_entry slot_tuple_getitem ht.typeIs entry_tuple_getitem ?_ (args_tuple_getitem _ _)))
  show wpAny _ _ (Builtin.Tuple.tupleItemsOf (.ref t) >>= _) _ _ s
  refine wpAny_bind (tupleItemsOf_ ht (wpAny_bind (wpAny_typeOf isl ?_)))
  rw [if_pos (by decide)]
  refine wpAny_bind (applied_back hs ?_)
  have hno : ¬ ((((items.size : Int) - 1) == 0 && (-1 : Int) == 1 && items.size == items.size) = true) := by
    intro q
    rw [Bool.and_eq_true, Bool.and_eq_true] at q
    exact absurd q.1.2 (by decide)
  show wpAny _ _ (if (((items.size : Int) - 1) == 0 && (-1 : Int) == 1 && items.size == items.size) = true then _ else _) _ _ s
  rw [if_neg hno, pick_back]
  first
    | (refine wpAny_bind (m := Builtin.Tuple.tupleExact _) (wpAny_newObj_type (wpAny_pure ?_) fits); exact ⟨_, rfl, wpAny_pure h⟩)
    | (refine wpAny_bind (m := Builtin.Tuple.tupleExact _) (wpAny_newObj_type (wpAny_bind (wpAny_pure ?_)) fits); exact wpAny_pure ⟨_, rfl, wpAny_pure h⟩)
    | (refine wpAny_bind (wpAny_bind (m := Builtin.Tuple.tupleExact _) (wpAny_newObj_type (wpAny_pure ?_) fits)); first | exact ⟨_, rfl, wpAny_pure h⟩ | exact wpAny_pure ⟨_, rfl, wpAny_pure h⟩)
end
section
variable {X : Cx} {T : List Addr} {W : WX}
def dRev (x : D) (h : DH) (Q : VD) : Prop := match x with
  | .ref n => ∃ xs, lstOf h n = some xs ∧ Q (.ref h.length) (h ++ [.lst xs.reverse])
  | .tup xs => Q (.tup xs.reverse) h
  | _ => False
def eRev (ε : DE) : DE := fun E env h Q => ε E env h fun x h1 => dRev x h1 Q
/-- the reading of values: a list, a tuple -/
def tRevA (K : Frag) (te : TE) : TE := fun σ H Q => te σ H fun x H1 => ∃ a xs, x = .ref a ∧ ((SqT K H1 a xs ∧ ∀ p, H1 p = none → Q (.ref p) (upd H1 p (.tup xs.reverse))) ∨ (SqL K H1 a xs ∧ ∀ p, H1 p = none → Q (.ref p) (upd H1 p (.lst xs.reverse))))
theorem pe_revA {e : Expr} {te : TE} {k : Nat} {p1 p2 p3 pos : Pos} (he : PE X e te) : PE X (.Subscript e (.Slice none none (some (.UnaryOp .USub (.Constant (.int 1) k p1) p2)) p3) pos) (tRevA X.K te) := by
  refine ⟨fun pins s σ H Q I h => ?_⟩
  refine Subscript_ (thn (he.run pins s σ H _ I h) fun v s1 ⟨x, H1, I1, r1, a, xs, ex, q⟩ => ?_)
  subst ex
  cases r1
  have minus : PO X (some (.UnaryOp .USub (.Constant (.int 1) k p1) p2)) (tPart (tUn (rU fun i => .int (-i)) (tC (.int 1)))) := po_some (pe_un un_neg pe_int)
  refine wpAny_Slice (thn (po_none.run pins s1 σ H1 (fun o H2 => o = none ∧ H2 = H1) I1 ⟨rfl, rfl⟩) fun vl s2 ⟨l, H2, I2, pl, el, e2⟩ => ?_)
  subst el e2
  refine thn (po_none.run pins s2 σ H2 (fun o H3 => o = none ∧ H3 = H2) I2 ⟨rfl, rfl⟩) fun vu s3 ⟨u, H3, I3, pu, eu, e3⟩ => ?_
  subst eu e3
  refine thn (minus.run pins s3 σ H3 (fun o H4 => o = some (-1) ∧ H4 = H3) I3 ⟨1, rfl, -1, rfl, rfl, rfl⟩) fun vs s4 ⟨o, H4, I4, ps, eo, e4⟩ => ?_
  subst eo e4
  have I5 : Inv X pins σ H4 { s4 with heap := s4.heap.push { cls := .type "slice", data := .fields #[vl, vu, vs] } } := I4.kept (t' := s4.toks) fun b ob q => Heap.get?_push_of_some _ q
  show wpAny (model X.prog X.w) X.A (subscriptTail e _ (.ref a) (.ref s4.heap.objs.size)) (EP X pins σ Q) X.xe _
  rcases q with ⟨hx, q⟩ | ⟨hx, q⟩
  · obtain ⟨its, r, ht, hz⟩ := I5.tuple hx
    cases pl
    cases pu
    cases ps
    refine tail_any (ops := [.ref a, .ref s4.heap.objs.size]) ht.typeIs PyProof.Rows.slot_tuple_getitem.lookup ?_ (by with_unfolding_all rfl)
    refine item_back (s := { s4 with heap := s4.heap.push _ }) ht (Heap.IsSliceOf.new _ _ _ _) (by rw [List.size_toArray, ← r.length]; exact hz) ?_
    refine ⟨.ref _, _, I5.laid (t' := s4.toks) (o := .tup xs.reverse) (fun b ob q => Heap.get?_push_of_some _ q) (Nat.le_refl _) ?_, rfl, q _ (I5.hok.fresh (Nat.le_refl _))⟩
    exact ⟨by rw [List.length_reverse]; exact hz, _, r.reverse, IsTup.new _ _⟩
  · obtain ⟨its, r, ht, hz⟩ := I5.list hx
    have hlen := r.length
    refine tail_any (ops := [.ref a, .ref s4.heap.objs.size]) ht.isList.typeIs PySem.slot_list_getitem.lookup ?_ (by with_unfolding_all rfl)
    refine wpAny_getItem_list_slice ht.isList (Heap.IsSliceOf.new _ vl vu vs) pl pu ps (by decide) ?_ (by rw [List.size_toArray]; omega)
    rw [PySem.W.krv_pick]
    refine ⟨.ref _, _, I5.laid (t' := s4.toks) (o := .lst xs.reverse) (fun b ob q => Heap.get?_push_of_some _ q) (Nat.le_refl _) ?_, rfl, q _ (I5.hok.fresh (Nat.le_refl _))⟩
    exact ⟨by rw [List.length_reverse]; exact hz, _, 0, r.reverse, Heap.get?_push_size _ rfl⟩
theorem pd_rev {e : Expr} {ε : DE} {k : Nat} {p1 p2 p3 pos : Pos} (he : PD X T W e ε) : PD X T W (.Subscript e (.Slice none none (some (.UnaryOp .USub (.Constant (.int 1) k p1) p2)) p3) pos) (eRev ε) :=
  PE.imp (pe_revA he) fun σ H Q ⟨μ, env, h, Q0, E0, r, re, q, p, px⟩ => ⟨μ, env, h, _, E0, r, re, q, fun x h1 v H1 μ1 q1 r1 l1 rv => by
    replace q1 : dRev x h1 Q0 := q1
    unfold dRev at q1
    split at q1
    · obtain ⟨a, rfl, hn⟩ := rv.inv_ref
      obtain ⟨xs, e1, q1⟩ := q1
      obtain ⟨vs, h2, h3⟩ := lst_at r1 hn e1
      exact ⟨a, vs, rfl, .inr ⟨h2, fun t ht => new_lst r1 h3.reverse q1 (p.le l1) ht⟩⟩
    · obtain ⟨a, vs, rfl, h2, h3⟩ := rv.inv_tup
      exact ⟨a, vs, rfl, .inl ⟨h2, fun t ht => new_tup r1 h3.reverse q1 (p.le l1) ht⟩⟩
    · exact q1.elim, px⟩
end
end
end DL
set_option Elab.async false
set_option linter.all false
set_option maxRecDepth 100000
set_option maxHeartbeats 4000000
namespace DL
open PySem PySem.Spec PyProof.Rows L2
open PySem.W (Frag)
/-! ### sorted(d.keys()), list(d.keys()) -/
section
variable {X : Cx} {T : List Addr} {W : WX} {e : Expr} {ε : DE} {p apos cpos pos : Pos}
/-- a view of the keys is made -/
theorem keys_made {td : TE} {QA : Value → Shared → Prop} (he : PE X e td) {pins : List (Addr × Obj)} {s : Shared} {σ : L2.St} {H : Hp}
    (hbase : attributeBase e "keys" X.env (eval e X.env) = eval e X.env) (hline : (apos.endLine == cpos.line) = true) (I : Inv X pins σ H s)
    (h : td σ H fun x H1 => ∃ d ks ep, x = .ref d ∧ H1 d = some (DctO X.prog X.w d ks ep) ∧ ∀ (s2 : Shared) (r : Addr) (es : Array DictEntry), Inv X pins σ H1 s2 → s2.heap.DictRaw d es ep → PySem.W.KdlKeysView s2.heap r d → es.size = ks.length →
      (∀ (i : Nat) (hi : i < es.size) (q : NestedKey × Addr × V), ks[i]? = some q → es[i].key = .ref q.2.1 ∧ L2.RelV q.2.2 es[i].val) → QA (.ref r) s2) :
    wpAny (model X.prog X.w) X.A (eval (.Call (.Attribute e "keys" apos) [] [] cpos) X.env) QA X.xe s := by
  refine wpAny_Call_method (T := "dict") (id := "dict.keys") hbase rfl hline F.plainAttrs_dict F.slot_dict_keys F.type_dict_keys (thn (he.run pins s σ H _ I h) fun u t ⟨x, H1, I1, rx, d, ks, ep, ex, hd, q⟩ => ?_)
  subst ex
  obtain rfl : u = Value.ref d := rx
  obtain ⟨es, raw, hsz, ns, hes⟩ := raw_es I1 hd
  obtain ⟨o, ho, hx, hdt⟩ := id raw
  refine ⟨raw.typeIs, fun a ha => by injection ha with ha; subst ha; exact ⟨o, ho, hx.2.1⟩, ?_⟩
  have I2 : Inv X pins σ H1 { t with heap := t.heap.push { cls := .type "dict_keys", data := .fields #[.ref d] } } := I1.kept (t' := t.toks) fun b ob z => Heap.get?_push_of_some _ z
  have fin : QA (.ref t.heap.objs.size) { t with heap := t.heap.push { cls := .type "dict_keys", data := .fields #[.ref d] } } := q _ _ es I2 (raw.push _) ⟨_, Heap.get?_push_size _ rfl, rfl, rfl⟩ hsz hes
  show wpAny _ _ (callWith cpos (.builtin "dict.keys") [.ref d] [] []) _ X.xe t
  exact method_meetsIn F.slot_dict_keys F.entry_dict_keys rfl (PySem.evalArgs_none ⟨rfl, raw.typeIs, F.args_dict_keys_1 _, _, meets_dict_keys_raw d ns, ⟨es, ep, raw⟩, fin⟩)
/-- the reading: the keys of a dict, then something -/
abbrev tKeysC (X : Cx) (T : List Addr) (td : TE) (F : List D → DH → VD → Prop) : TE := fun σ H Q => td σ H fun x H1 => ∃ μ h d ks kvs ep Q0, x = .ref d ∧ RelH (gOf X T) H1 μ h ∧ H1 d = some (DctO X.prog X.w d ks ep) ∧ Paired (KR X.K H1 μ) ks kvs ∧ Post (gOf X T) H1 μ Q0 Q ∧ F (kvs.map (·.1)) h Q0
def fSort : List D → DH → VD → Prop := fun ks h Q => CanSort ks ∧ Q (.ref h.length) (h ++ [.lst (sortD ks)])
def fList : List D → DH → VD → Prop := fun ks h Q => ks.length ≤ 1000000 ∧ Q (.ref h.length) (h ++ [.lst ks])
def eSortedKeys (ε : DE) : DE := fun E env h Q => ε E env h fun x h1 => ∃ n kvs ep, x = .ref n ∧ h1[n]? = some (.dct kvs ep) ∧ fSort (kvs.map (·.1)) h1 Q
def eListKeys (ε : DE) : DE := fun E env h Q => ε E env h fun x h1 => ∃ n kvs ep, x = .ref n ∧ h1[n]? = some (.dct kvs ep) ∧ fList (kvs.map (·.1)) h1 Q
theorem keysC_read {F : List D → DH → VD → Prop} : ∀ σ H Q, LE (gOf X T) W (fun E env h Q => ε E env h fun x h1 => ∃ n kvs ep, x = .ref n ∧ h1[n]? = some (.dct kvs ep) ∧ F (kvs.map (·.1)) h1 Q) σ H Q → tKeysC X T (LE (gOf X T) W ε) F σ H Q :=
  fun σ H Q ⟨μ, env, h, Q0, E0, r, re, q, p, px⟩ => ⟨μ, env, h, _, E0, r, re, q, fun x h1 v H1 μ1 ⟨n, kvs, ep, ex, e1, q1⟩ r1 l1 rv => by
    subst ex
    obtain ⟨d, rfl, hn⟩ := rv.inv_ref
    obtain ⟨ks, hd, pk⟩ := r1.obj n d _ hn e1
    exact ⟨μ1, h1, d, ks, kvs, ep, Q0, rfl, r1, hd, pk, p.le l1, q1⟩, px⟩
theorem pd_sortedKeys (S : Std X W) {k : Nat} (hr : Room k X.A) (hg : Gl X "sorted") (hm : X.mg "sorted" = none) (he : PD X T W e ε)
    (hbase : attributeBase e "keys" X.env (eval e X.env) = eval e X.env := by rfl) (hline : (apos.endLine == cpos.line) = true := by rfl)
    (hs : starEach [.Call (.Attribute e "keys" apos) [] [] cpos] X.env = (false, eval (.Call (.Attribute e "keys" apos) [] [] cpos) X.env) :: starEach [] X.env := by rfl) : PD X T W (.Call (.Name "sorted" p) [.Call (.Attribute e "keys" apos) [] [] cpos] [] pos) (eSortedKeys ε) := by
  refine PE.imp (t := tKeysC X T (LE (gOf X T) W ε) fSort) ⟨fun pins s σ H Q I h => ?_⟩ (keysC_read (F := fSort))
  refine wpAny_Call_Name_kw (ld_blt I hg hm boot_sorted ?_)
  refine PyProof.Rows.callWith_builtin1 ?_ hs (by rfl)
  rw [hs]
  show wpAny _ _ (spliced ((false, eval (.Call (.Attribute e "keys" apos) [] [] cpos) X.env) :: backTo pos (starEach [] X.env))) _ _ s
  refine Calls.spliced_cons (keys_made (apos := apos) (cpos := cpos) he hbase hline I ?_)
  obtain ⟨μ0, env0, h0, Q0, E0, r0, re0, q0, p0, px0⟩ := h
  refine ⟨μ0, env0, h0, Q0, E0, r0, re0, q0, fun x h1 v H1 μ1 q1 r1 l1 rv => ?_, px0⟩
  obtain ⟨μ, hh, d, ks, kvs, ep, Q1, ex, rh, hd, pk, pp, cs, qq⟩ := p0 x h1 v H1 μ1 q1 r1 l1 rv
  refine ⟨d, ks, ep, ex, hd, fun s2 r es I2 raw V2 hsz hes => ?_⟩
  show wpAny _ _ (spliced []) _ _ _
  refine Calls.spliced_nil ?_
  have hl := paired_len pk
  have hk : kvs.length ≤ 1000000 := by have := cs.len; rwa [List.length_map] at this
  refine sorted_fin (T := T) I2 rh hr.units (kr_fst pk) cs (fun R hR => PySem.W.kdu_collect (A := X.A.in1) (K := KdlSrc.rawKeys (r := r) (d := d) (es := es) (ep := ep)) (I2.ok.hd S.calm) ⟨V2, raw⟩ (by rw [hsz, hl]; exact line_le hk) fun h' tk acc k hacc => ?_) qq pp
  exact hR _ _ (keys_of hsz hes hacc) k rfl rfl
theorem pd_listKeys (S : Std X W) {k : Nat} (hr : Room k X.A) (hg : Gl X "list") (hm : X.mg "list" = none) (he : PD X T W e ε)
    (hbase : attributeBase e "keys" X.env (eval e X.env) = eval e X.env := by rfl) (hline : (apos.endLine == cpos.line) = true := by rfl)
    (hs : starEach [.Call (.Attribute e "keys" apos) [] [] cpos] X.env = (false, eval (.Call (.Attribute e "keys" apos) [] [] cpos) X.env) :: starEach [] X.env := by rfl) : PD X T W (.Call (.Name "list" p) [.Call (.Attribute e "keys" apos) [] [] cpos] [] pos) (eListKeys ε) := by
  refine PE.imp (t := tKeysC X T (LE (gOf X T) W ε) fList) ⟨fun pins s σ H Q I h => ?_⟩ (keysC_read (F := fList))
  refine wpAny_Call_Name_kw (ld_blt I hg hm PyProof.Rows.boot_list ?_)
  refine PyProof.Rows.callWith_type1 ?_ hs (by rfl)
  rw [hs]
  show wpAny _ _ (spliced ((false, eval (.Call (.Attribute e "keys" apos) [] [] cpos) X.env) :: backTo pos (starEach [] X.env))) _ _ s
  refine Calls.spliced_cons (keys_made (apos := apos) (cpos := cpos) he hbase hline I ?_)
  obtain ⟨μ0, env0, h0, Q0, E0, r0, re0, q0, p0, px0⟩ := h
  refine ⟨μ0, env0, h0, Q0, E0, r0, re0, q0, fun x h1 v H1 μ1 q1 r1 l1 rv => ?_, px0⟩
  obtain ⟨μ, hh, d, ks, kvs, ep, Q1, ex, rh, hd, pk, pp, hk, qq⟩ := p0 x h1 v H1 μ1 q1 r1 l1 rv
  refine ⟨d, ks, ep, ex, hd, fun s2 r es I2 raw V2 hsz hes => ?_⟩
  show wpAny _ _ (spliced []) _ _ _
  refine Calls.spliced_nil ?_
  have hl := paired_len pk
  rw [List.length_map] at hk
  refine PySem.W.kdl_call (K := KdlSrc.rawKeys (r := r) (d := d) (es := es) (ep := ep)) (I2.ok.hd S.calm) ⟨V2, raw⟩ (by rw [hsz, hl]; exact line_le hk) fun h' tk acc c hkeep hS hacc => ?_
  have ht := I2.hok.fresh (a := s2.heap.objs.size) (Nat.le_refl _)
  refine ⟨.ref s2.heap.objs.size, upd H1 s2.heap.objs.size (.lst (ks.map fun p : NestedKey × Addr × V => V.ref p.2.1)), I2.laid hkeep (Nat.le_refl _) ⟨by rw [List.length_map, hl]; exact line_le hk, acc.toList, c, keys_of hsz hes hacc, by rw [Array.toArray_toList]; exact hS⟩, rfl, ?_⟩
  exact new_lst rh (kr_fst pk) qq pp ht
end
end DL
set_option Elab.async false
set_option linter.all false
set_option maxRecDepth 100000
set_option maxHeartbeats 4000000
set_option pp.maxSteps 300
namespace DL
open PySem PySem.Spec PyProof.Rows L2
open PySem.W (Frag)
/-! ### {k: v for ..}, the keys tuples -/
/-- an entry is put by a comprehension -/
theorem put_entry {X : Cx} {T : List Addr} {pins : List (Addr × Obj)} {σ : L2.St} {H : Hp} {s : Shared} {Er : Value → Shared → Prop} {y v o : V} {u r ov : Value} {Nx : Hp → Prop} {Q : Unit → Shared → Prop} (hu : X.A.units + 20 < cLine) (I : Inv X pins σ H s)
    (ro : L2.RelV o ov) (ry : L2.RelV y u) (rv : L2.RelV v r) (h : rPutD (gOf X T) o y v H Nx) (k : ∀ s' H', Inv X pins σ H' s' → Nx H' → Q () s') : ∃ d, ov = .ref d ∧ wpAny (model X.prog X.w) X.A (dictSet d u r) Q Er s := by
  obtain ⟨μ, d, a, ks, kvs, ep, dk, k0, dv, rfl, rfl, hd, pk, ra, ek, hz, rdv, hl, q⟩ := h
  obtain rfl : ov = Value.ref d := ro
  obtain rfl : u = Value.ref a := ry
  refine ⟨d, rfl, ?_⟩
  obtain ⟨xs, p3, D, ns, _⟩ := dictH_at I hd pk
  obtain ⟨_, _, _, dp, _⟩ := raw_at I hd
  have hlen : xs.length = kvs.length := (paired_len p3).symm.trans (paired_len pk)
  refine wpAny_dictSet_heap (hsz := by rw [hlen]; exact line_le hl) (knd := nestedKind X.prog X.w) (show X.A.units + 8 < cLine by omega) (is_rv I ra ek hz) D fun h' D' sb => ?_
  obtain ⟨ks', p3', pk', hl'⟩ := put_rel p3 pk ek ra rdv rv
  obtain ⟨o', es', ep', he', hx', hd', hes', hall', nd'⟩ := D'
  have e1 := p3_keys p3'
  have raw : RawD X.prog X.w h' d ks' ep' := by
    refine ⟨ns, by rw [← e1]; exact nd', ?_, fun p hp => ?_, _, p3', o', es', he', hx', hd', hes'⟩
    · have := paired_len pk
      rw [sizeLine_eq]; omega
    · have : p.1 ∈ ks'.map (·.1) := List.mem_map.mpr ⟨p, hp, rfl⟩
      rw [← e1] at this
      obtain ⟨x, hx, ex⟩ := List.mem_map.mp this
      rw [← ex]
      exact (hall' x hx).2
  have J : Inv X pins σ (upd H d (DctO X.prog X.w d ks' ep')) { s with heap := h', toks := s.toks + (nestedKind X.prog X.w).draws k0 } :=
    I.write (x := d) (e := d) (by rw [hd]; trivial) (.inl rfl) (fun b ob hb q => (sb.2 b hb).trans q) ⟨o', he'⟩ (dctO_ok raw)
  exact k _ _ J (q _ _ pk')
section
variable {X : Cx} {T : List Addr} {W : WX}
/-- by turns: W i m, what stands ahead of turn i -/
def tDcD (g : G) (wi : TI) (gg : TG) (tk tv : TE) (vs : List Nat) : TE := fun σ H Q => wi σ H fun J H1 => ∀ D, H1 D = none → ∃ Wn : Nat → Nat → Hp → Prop, (∃ m, Wn 0 m (upd H1 D (DctO g.P g.w D [] 0))) ∧ ∀ i m H, Wn i m H →
  (J.stop i H ∧ Q (.ref D) H) ∨ (J.go i H ∧ ∃ Nx : Hp → Prop, (∀ H', Nx H' → ∃ m', m' < m ∧ Wn (i + 1) m' H') ∧ ∀ x H', J.yld i H x H' → gg x (L2.wipe σ vs) H' fun σ2 H2 => L2.wipe σ2 vs = L2.wipe σ vs ∧
    tk σ2 H2 fun y H4 => tv σ2 H4 fun z H5 => rPutD g (.ref D) y z H5 Nx)
theorem dcD_run {pins : List (Addr × Obj)} {s : Shared} {σ : L2.St} {H : Hp} {Q : VK} {kx vx tg iter : Expr} {scope : Scope} {own : List (Str × Nat)} {pos ps2 : Pos} {wi : TI} {gg : TG} {tk tv : TE} {use : Option (Value → Sem Unit)} {QF : Value → Shared → Prop}
    (calm : X.calm = true) (hu : X.A.units + 20 < cLine) (nd : X.N.Nodup) (I : Inv X pins σ H s) (hi : PI X tg iter wi) (bk : BlkOk X.N X.env.scope scope own)
    (mg : ∀ (s : Shared) (H : Hp) (C : Addr) (cl : List (Str × Addr)) (fp : List Addr), PG (X.blk s H scope (compEnvC scope cl C X.env) fp) tg gg)
    (mk : ∀ (s : Shared) (H : Hp) (C : Addr) (cl : List (Str × Addr)) (fp : List Addr), PE (X.blk s H scope (compEnvC scope cl C X.env) fp) kx tk)
    (mv : ∀ (s : Shared) (H : Hp) (C : Addr) (cl : List (Str × Addr)) (fp : List Addr), PE (X.blk s H scope (compEnvC scope cl C X.env) fp) vx tv) (hs : ∀ x, foldedSetIterable iter X.env x = pure x)
    (h : tDcD (gOf X T) wi gg tk tv (own.map (·.2)) σ H Q)
    (fin : ∀ D C t m H', Inv X pins σ H' t → Q (.ref D) H' → t.heap.Ns C m → FpOk X pins H' C → compPost (model X.prog X.w) X.A X.xe use QF (.ref D) C (.ok .next) t) :
    wpAny (model X.prog X.w) X.A (comprehension (.DictComp kx vx [⟨tg, iter, [], 0⟩] scope pos) scope X.env ps2 newDict false (eval iter X.env) use) QF X.xe s := by
  have cells : ∀ y ∈ scope.names, y.2 = .free → ∃ c, X.env.cells.lookup y.1 = some c := fun y hy e =>
    (bk.free y hy e).elim (fun k => I.ok.has _ (.inl k)) fun k => I.ok.has _ (.inr k)
  refine wpAny_comprehension_free (use := use) rfl hs (closure_ok cells) bk.kind (fun y hy e => by rw [bk.uniq y hy, e]) (thn (hi.run pins s σ H _ I h) fun xv t1 hx => thn hx fun iv t2 z2 => ?_)
  obtain ⟨it, fp, tn, J, H2, e, I2, TT, st2, f2, q⟩ := z2
  subst e
  refine wpAny_newObj_type (newEnv_comp ?_)
  -- the dict's place
  generalize hD : t2.heap.objs.size = D
  have none_D : H2 D = none := I2.hok.fresh (Nat.le_of_eq hD)
  obtain ⟨Wn, ⟨m0, w0⟩, turn⟩ := q D none_D
  have nsys : (D == sysModules) = false := by rw [← hD]; exact (dt_empty (P := X.prog) (w := X.w) (H := H2) t2.heap I2.big).2.1
  generalize hs3 : ({ t2 with heap := t2.heap.push { cls := .type "dict", data := .dict #[] } } : Shared) = t3
  have h3 : t3.heap = t2.heap.push { cls := .type "dict", data := .dict #[] } := by rw [← hs3]
  have I3 : Inv X pins σ (upd H2 D (DctO X.prog X.w D [] 0)) t3 := by
    rw [← hs3]
    have raw : RawD X.prog X.w (t2.heap.push { cls := .type "dict", data := .dict #[] }) D [] 0 := ⟨nsys, List.nodup_nil, Nat.zero_le _, fun _ z => (by cases z), [], .nil, _, #[], by rw [← hD]; exact Heap.get?_push_size _ rfl, ⟨rfl, rfl, rfl⟩, rfl, rfl⟩
    exact I2.laid (t' := t2.toks) (fun b o z => Heap.get?_push_of_some _ z) (Nat.le_of_eq hD) (dctO_ok raw)
  have low : ∀ b ∈ fp, b < t2.heap.objs.size := fun b hb => let ⟨o, e, _⟩ := TT.obj _ _ st2 b hb; Heap.lt_size e
  have f3 : ∀ b ∈ fp, FpOk X pins (upd H2 D (DctO X.prog X.w D [] 0)) b ∧ b < t3.heap.objs.size := fun b hb =>
    ⟨⟨by rw [upd_ne (by rw [← hD]; exact Nat.ne_of_lt (low b hb))]; exact (f2 b hb).1, (f2 b hb).2⟩, by rw [h3, Heap.size_push]; exact Nat.lt_succ_of_lt (low b hb)⟩
  have st3 : tn 0 t3.heap := TT.keep _ _ _ st2 fun b _ o e => by rw [h3]; exact Heap.get?_push_of_some _ e
  have I4 := block_start I3 bk nd f3
  have pg := mg t3 (upd H2 D (DctO X.prog X.w D [] 0)) t3.heap.objs.size (cellsFrom (t3.heap.objs.size + 1) scope.names (cloFrom X.env.cells scope.names [])) fp
  have pk := mk t3 (upd H2 D (DctO X.prog X.w D [] 0)) t3.heap.objs.size (cellsFrom (t3.heap.objs.size + 1) scope.names (cloFrom X.env.cells scope.names [])) fp
  have pv := mv t3 (upd H2 D (DctO X.prog X.w D [] 0)) t3.heap.objs.size (cellsFrom (t3.heap.objs.size + 1) scope.names (cloFrom X.env.cells scope.names [])) fp
  have nfp : ∀ b ∈ fp, (upd H2 D (DctO X.prog X.w D [] 0)) b = none := fun b hb => (f3 b hb).1.1
  show codeAny _ _ (.compStart (.DictComp kx vx [⟨tg, iter, [], 0⟩] scope pos) 0 (.ref it) (.ref D) (compEnvC scope (cellsFrom (t3.heap.objs.size + 1) scope.names (cloFrom X.env.cells scope.names [])) t3.heap.objs.size X.env)) (compPost (model X.prog X.w) X.A X.xe use QF (.ref D) t3.heap.objs.size) { t3 with heap := pushCells (t3.heap.push { cls := .type "dict", data := .dict #[] }) scope.names }
  generalize hce : compEnvC scope (cellsFrom (t3.heap.objs.size + 1) scope.names (cloFrom X.env.cells scope.names [])) t3.heap.objs.size X.env = ce at I4 pg pk pv ⊢
  have cL : ce.locals = t3.heap.objs.size := by subst hce; rfl
  generalize hH3 : upd H2 D (DctO X.prog X.w D [] 0) = H3 at I3 I4 pg pk pv w0 nfp f3
  generalize hs4 : ({ t3 with heap := pushCells (t3.heap.push { cls := .type "dict", data := .dict #[] }) scope.names } : Shared) = t4 at I4 ⊢
  have st4 : tn 0 t4.heap := TT.keep _ _ _ st3 fun b _ o e => by rw [← hs4]; exact pushCells_keeps _ _ _ _ (Heap.get?_push_of_some _ e)
  have hold : ∀ {τ : L2.St} {G' : Hp} {t' : Shared}, Inv (X.blk t3 H3 scope ce fp) [] τ G' t' → (∀ b ∈ fp, G' b = none) → ∀ b ∈ fp, FpOk (X.blk t3 H3 scope ce fp) [] G' b := fun {τ G' t'} I' hn b hb =>
    ⟨hn b hb, (I'.ok.exf b hb).1, I'.ok.exfs b hb, .inl hb, fun x c e => (I'.ok.exf b hb).2 x c e, fun p hp => absurd (show p ∈ ([] : List (Addr × Obj)) ++ [] from hp) (by simp)⟩
  have loop : codeAny (model X.prog X.w) X.A (.compLoop (.DictComp kx vx [⟨tg, iter, [], 0⟩] scope pos) 0 (.ref it) (.ref D) ce) (compPost (model X.prog X.w) X.A X.xe use QF (.ref D) t3.heap.objs.size) t4 := by
    refine compLoop_anyD (fun n t' => ∃ i G', Inv (X.blk t3 H3 scope ce fp) [] (L2.wipe σ (own.map (·.2))) G' t' ∧ tn i t'.heap ∧ (∀ b ∈ fp, G' b = none) ∧ Wn i n G') ?_ m0 ⟨0, H3, I4, st4, nfp, w0⟩
    rintro n t5 ⟨i, H5, I5, st5, n5, w5⟩
    rcases turn i n H5 w5 with ⟨stop, qq⟩ | ⟨go, Nx, hNx, step⟩
    · refine thnF (TT.done (X.blk t3 H3 scope ce fp) rfl rfl rfl calm i [] t5 _ H5 (fun _ _ => False) I5 (hold I5 n5) st5 stop) fun r t6 ⟨hr, I6⟩ => ?_
      subst hr
      have I7 : Inv X pins σ H5 t6 := I3.call' (ch := fp) I6.os I6.base I6.hok I6.bare fun b hb => ⟨(f3 b hb).1.2.2.2.1, (f3 b hb).1.2.1, (f3 b hb).1.2.2.2.2.1, (f3 b hb).1.2.2.2.2.2⟩
      have nC : H5 t3.heap.objs.size = none := by
        have z : H5 ce.locals = none := I6.free
        rwa [cL] at z
      obtain ⟨m, hn, _⟩ := I6.loc
      replace hn : t6.heap.Ns ce.locals m := hn
      rw [cL] at hn
      exact fin D t3.heap.objs.size t6 m H5 I7 qq hn (I3.fpOk (Nat.le_refl _) nC)
    · refine thnF (TT.item (X.blk t3 H3 scope ce fp) rfl rfl rfl calm i [] t5 _ H5 (fun _ _ => False) I5 (hold I5 n5) st5 go) fun r t6 ⟨u, hr, h6⟩ => ?_
      subst hr
      refine thnF h6 fun _ t7 ⟨x, H7, I7, r7, y7, st7, n7⟩ => ?_
      have I7' := I7.pinned (hold I7 n7) (TT.obj _ _ st7)
      refine thnF (pg.run _ t7 _ H7 x u _ I7' r7 (step x H7 y7)) fun _ t8 ⟨σ8, H8, I8, hw8, q8⟩ => ?_
      refine wpAny_pure ?_
      simp only [if_true]
      refine thnF (pk.run _ t8 σ8 H8 _ I8 q8) fun z t10 ⟨yk, H10, I10, r10, q10⟩ => ?_
      refine thnF (pv.run _ t10 σ8 H10 _ I10 q10) fun z2 t11 ⟨yv, H11, I11, r11, q11⟩ => ?_
      obtain ⟨d, ed, done⟩ := put_entry (X := X.blk t3 H3 scope ce fp) (T := T) (o := .ref D) (ov := .ref D) (Q := fun _ s₆ => ∃ m, m < n ∧ ∃ i G', Inv (X.blk t3 H3 scope ce fp) [] (L2.wipe σ (own.map (·.2))) G' s₆ ∧ tn i s₆.heap ∧ (∀ b ∈ fp, G' b = none) ∧ Wn i m G') hu I11 rfl r10 r11 q11 (fun t' G' I' nx => by
        obtain ⟨m', hm, w'⟩ := hNx G' nx
        have pin' : ∀ b ∈ fp, ∀ o, t7.heap.get? b = some o → t'.heap.get? b = some o ∧ G' b = none := fun b hb o e =>
          let z := I'.pin (b, o) (List.mem_append_right _ (List.mem_append_right _ (mem_pinsAt hb e)))
          ⟨z.1, z.2.1⟩
        have hl : (L2.wipe σ (own.map (·.2))).length = σ8.length := by rw [← hw8, wipe_length]
        refine ⟨m', hm, i + 1, G', (I'.unpinned (pins := [])).weak hl (fun j v e => ?_), TT.keep _ _ _ st7 fun b hb o e => (pin' b hb o e).1, fun b hb => ?_, w'⟩
        · rw [← hw8] at e
          exact (wipe_some e).1
        · obtain ⟨o, e, _⟩ := TT.obj _ _ st7 b hb
          exact (pin' b hb o e).2)
      cases ed
      exact done
  exact codeAny_compStart_dict loop (TT.self X.A 0 _ _ _ st4 loop)
end
end DL
set_option Elab.async false
set_option linter.all false
set_option maxRecDepth 100000
set_option maxHeartbeats 4000000
set_option pp.maxSteps 300
namespace DL
open PySem PySem.Spec PyProof.Rows L2
open PySem.W (Frag)
section
variable {X : Cx} {T : List Addr} {W : WX}
theorem pe_dcD {kx vx tg iter : Expr} {scope : Scope} {own : List (Str × Nat)} {pos : Pos} {wi : TI} {gg : TG} {tk tv : TE} (calm : X.calm = true) (hu : X.A.units + 20 < cLine) (nd : X.N.Nodup) (hi : PI X tg iter wi) (bk : BlkOk X.N X.env.scope scope own)
    (mg : ∀ (s : Shared) (H : Hp) (C : Addr) (cl : List (Str × Addr)) (fp : List Addr), PG (X.blk s H scope (compEnvC scope cl C X.env) fp) tg gg)
    (mk : ∀ (s : Shared) (H : Hp) (C : Addr) (cl : List (Str × Addr)) (fp : List Addr), PE (X.blk s H scope (compEnvC scope cl C X.env) fp) kx tk)
    (mv : ∀ (s : Shared) (H : Hp) (C : Addr) (cl : List (Str × Addr)) (fp : List Addr), PE (X.blk s H scope (compEnvC scope cl C X.env) fp) vx tv) (hs : ∀ x, foldedSetIterable iter X.env x = pure x := by intro _; rfl) :
    PE X (.DictComp kx vx [⟨tg, iter, [], 0⟩] scope pos) (tDcD (gOf X T) wi gg tk tv (own.map (·.2))) := ⟨fun pins s σ H Q I h => by
  rw [arm_eval_DictComp]
  refine dcD_run calm hu nd I hi bk mg mk mv hs h fun D C t m H' J q hn f => ⟨m, hn, fun hp sb => ?_⟩
  obtain ⟨g0, g1, g2, g3, g4, g5⟩ := f
  exact ⟨.ref D, H', J.turned (t' := t.toks) (fun b o hb e => (sb.2 b hb).trans e) g0 g1 g3 g4 g5, rfl, q⟩⟩
/-- name = {..} on one line -/
theorem ps_setDcD {i : Nat} {y : Str} {py : Pos} {kx vx tg iter : Expr} {scope : Scope} {own : List (Str × Nat)} {pos spos : Pos} {wi : TI} {gg : TG} {tk tv : TE} (calm : X.calm = true) (hu : X.A.units + 20 < cLine) (nd : X.N.Nodup) (hy : X.N[i]? = some y) (hyl : X.env.scope.names.lookup y = some .local)
    (hsw : swapsWith (.DictComp kx vx [⟨tg, iter, [], 0⟩] scope pos) (some (.Name y py)) spos.line X.env = pure true) (hi : PI X tg iter wi) (bk : BlkOk X.N X.env.scope scope own)
    (mg : ∀ (s : Shared) (H : Hp) (C : Addr) (cl : List (Str × Addr)) (fp : List Addr), PG (X.blk s H scope (compEnvC scope cl C X.env) fp) tg gg)
    (mk : ∀ (s : Shared) (H : Hp) (C : Addr) (cl : List (Str × Addr)) (fp : List Addr), PE (X.blk s H scope (compEnvC scope cl C X.env) fp) kx tk)
    (mv : ∀ (s : Shared) (H : Hp) (C : Addr) (cl : List (Str × Addr)) (fp : List Addr), PE (X.blk s H scope (compEnvC scope cl C X.env) fp) vx tv) (hs : ∀ x, foldedSetIterable iter X.env x = pure x := by intro _; rfl) :
    PS X (.Assign [.Name y py] (.DictComp kx vx [⟨tg, iter, [], 0⟩] scope pos) spos) (tAsg (tDcD (gOf X T) wi gg tk tv (own.map (·.2))) (gName i)) := ⟨fun pins s σ H D I h => by
  rw [exec_Assign_Name_used _ _ _ _ hsw]
  refine wpAny_bind (wpAny_standAt (wpAny_bind ?_))
  show wpAny _ X.A (do let _ ← comprehension (.DictComp kx vx [⟨tg, iter, [], 0⟩] scope pos) scope X.env (firstIterPos [⟨tg, iter, [], 0⟩] pos) newDict false (eval iter X.env) (some (assign (.Name y py) X.env))) _ _ s
  replace h : tDcD (gOf X T) wi gg tk tv (own.map (·.2)) σ H (fun x H1 => gName i x σ H1 D.nx) := h
  refine wpAny_bind (thn (dcD_run (QF := fun _ s' => SP X pins D .next s') calm hu nd I hi bk mg mk mv hs h fun L C t m H' J q hn f => ?_) fun _ s' hq => wpAny_pure (wpAny_pure hq))
  show wpAny _ _ (assign (.Name y py) X.env (.ref L)) _ _ _
  refine wpAny_assign_Name (store_ok2 (v := V.ref L) J nd hy (.inl hyl) rfl (fun t2 J2 ⟨a, sb, ha⟩ => ?_) (.inr hyl))
  obtain ⟨g0, g1, g2, g3, g4, g5⟩ := f
  have apart : C ≠ a := ha.elim (fun z => by rw [z]; exact g1) fun z e => g4 y a z e.symm
  exact ⟨m, hn.sameBut sb apart, fun hp sb3 => ⟨_, H', J2.turned (t' := t2.toks) (fun b o hb e => (sb3.2 b hb).trans e) g0 g1 g3 g4 g5, q⟩⟩⟩
/-- a loop that fills the dict at n0 -/
def cLoopD (n0 : Nat) (tgt : Tgt) (εk εv : DE) (chk : DH → Prop) (env0 : Env) (Qd : DH → Prop) : List D → DH → Prop
  | [], h => chk h ∧ Qd h
  | x :: xs, h => chk h ∧ ∃ env2, tgt x env0 = some env2 ∧ εk EF env2 h fun y h3 => εv EF env2 h3 fun z h4 => ∃ kvs ep, h4[n0]? = some (.dct kvs ep) ∧ KeyOk y ∧ kvs.length ≤ 1000000 ∧ ∀ ep', cLoopD n0 tgt εk εv chk env0 Qd xs (h4.set n0 (.dct (dput kvs y z) ep'))
theorem cLoopD_chk {n0 : Nat} {tgt : Tgt} {εk εv : DE} {chk : DH → Prop} {env0 : Env} {Qd : DH → Prop} {xs : List D} {h : DH} (q : cLoopD n0 tgt εk εv chk env0 Qd xs h) : chk h := by cases xs <;> exact q.1
def eDc (ι : DI) (tgt : Tgt) (εk εv : DE) (vs : List Nat) : DE := fun E env h Q => ι E env h fun items chk h1 => cLoopD h1.length tgt εk εv chk (wipeD env vs) (Q (.ref h1.length)) items (h1 ++ [.dct [] 0])
theorem dc_read {g : G} {ι : DI} {tgt : Tgt} {εk εv : DE} {vs : List Nat} {gg : TG} (tk : TgOk g.K gg tgt vs) : ∀ σ H Q, LE g W (eDc ι tgt εk εv vs) σ H Q → tDcD g (LI g W ι) gg (LE g WF εk) (LE g WF εv) vs σ H Q := fun σ H Q ⟨μ, env, h, Q0, E0, r, re, q, p, px⟩ => by
  refine ⟨μ, env, h, _, _, r, re, q, fun items chk h1 J H1 μ1 q1 r1 l1 ok L hL => ?_, px⟩
  have ln : Le g.K H1 μ1 (upd H1 L (DctO g.P g.w L [] 0)) (μ1 ++ [L]) := Le.new' hL
  have hat : (μ1 ++ [L])[h1.length]? = some L := by rw [List.getElem?_append_right (by rw [r1.len]; exact Nat.le_refl _), r1.len, Nat.sub_self]; rfl
  refine ⟨fun i m H' => m = items.length - i ∧ i ≤ items.length ∧ ∃ μ' h', RelH g H' μ' h' ∧ Le g.K H1 μ1 H' μ' ∧ μ'[h1.length]? = some L ∧ cLoopD h1.length tgt εk εv chk (wipeD env vs) (Q0 (.ref h1.length)) (items.drop i) h',
    ⟨items.length, by simp, Nat.zero_le _, μ1 ++ [L], _, r1.made (d := .dct [] 0) hL ⟨[], upd_same, .nil⟩, ln, hat, q1⟩, ?_⟩
  rintro i m H2 ⟨rfl, hi, μ2, h2, r2, l2, at2, q2⟩
  have lt := l1.trans l2
  obtain ⟨go, stop⟩ := ok H2 μ2 h2 r2 l2 (cLoopD_chk q2)
  by_cases c : i < items.length
  · rw [List.drop_eq_getElem_cons c] at q2
    obtain ⟨_, env2, e2, q2⟩ := q2
    obtain ⟨g1, g2⟩ := go i items[i] (List.getElem?_eq_getElem c)
    refine .inr ⟨g1, fun H' => ∃ μ' h', RelH g H' μ' h' ∧ Le g.K H1 μ1 H' μ' ∧ μ'[h1.length]? = some L ∧ cLoopD h1.length tgt εk εv chk (wipeD env vs) (Q0 (.ref h1.length)) (items.drop (i + 1)) h',
      fun H' z => ⟨items.length - (i + 1), by omega, rfl, c, z⟩, fun v H3 y => ?_⟩
    obtain ⟨r3, l3, rv⟩ := g2 v H3 y
    have l13 := l2.trans l3
    refine tk v items[i] (L2.wipe σ vs) (wipeD env vs) env2 H3 μ2 _ ((re.le (l1.trans l13)).wipe vs) rv e2 fun σ2 re2 w2 => ⟨w2.trans (wipe_wipe σ vs), ?_⟩
    refine ⟨μ2, env2, h2, _, EF, r3, re2, q2, fun y h4 u H4 μ4 q4 r4 l4 ru => ?_, postF⟩
    refine ⟨μ4, env2, h4, _, EF, r4, re2.le l4, q4, fun z h5 t H5 μ5 q5 r5 l5 rt => ?_, postF⟩
    obtain ⟨kvs, ep, e5, ⟨xs, k, rfl, ek, hz⟩, hl, q5⟩ := q5
    have at5 := l5.at (l4.at at2)
    obtain ⟨b, us, rfl, h6, h7⟩ := (ru.le l5).inv_tup
    obtain ⟨ks, hd, pk⟩ := r5.obj _ _ _ at5 e5
    refine ⟨μ5, L, b, ks, kvs, ep, _, k, z, rfl, rfl, hd, pk, ru.le l5, ek, hz, rt, hl, fun ks' ep' pk' => ?_⟩
    have l6 : Le g.K H5 μ5 (upd H5 L (DctO g.P g.w L ks' ep')) μ5 := Le.chg hd trivial
    exact ⟨μ5, _, r5.chg (d := .dct (dput kvs (.tup xs) z) ep') at5 hd trivial ⟨ks', upd_same, pairedLe (fun _ _ z => KR.le (g := g) l6 z) pk'⟩ ⟨_, e5, rfl⟩ rfl, (l13.trans (l4.trans l5)).trans l6, at5, q5 ep'⟩
  · have e : i = items.length := by omega
    subst e
    rw [List.drop_length] at q2
    exact .inl ⟨stop, p _ _ _ _ _ q2.2 r2 lt (.ref at2)⟩
section
variable {kx vx tg iter : Expr} {scope : Scope} {own : List (Str × Nat)} {pos : Pos} {ι : DI} {tgt : Tgt} {εk εv : DE} {gg : TG}
theorem pd_dc (S : Std X W) {k : Nat} (hr : Room k X.A) (hi : PDI X T W tg iter ι) (ok : BlkOk X.N X.env.scope scope own) (tk : TgOk X.K gg tgt (own.map (·.2)))
    (hg : ∀ (s : Shared) (H : Hp) (C : Addr) (cl : List (Str × Addr)) (fp : List Addr), Std (X.blk s H scope (compEnvC scope cl C X.env) fp) WF → PG (X.blk s H scope (compEnvC scope cl C X.env) fp) tg gg)
    (hk : ∀ (s : Shared) (H : Hp) (C : Addr) (cl : List (Str × Addr)) (fp : List Addr), Std (X.blk s H scope (compEnvC scope cl C X.env) fp) WF → PD (X.blk s H scope (compEnvC scope cl C X.env) fp) T WF kx εk)
    (hv : ∀ (s : Shared) (H : Hp) (C : Addr) (cl : List (Str × Addr)) (fp : List Addr), Std (X.blk s H scope (compEnvC scope cl C X.env) fp) WF → PD (X.blk s H scope (compEnvC scope cl C X.env) fp) T WF vx εv)
    (hs : ∀ x, foldedSetIterable iter X.env x = pure x := by intro _; rfl) : PD X T W (.DictComp kx vx [⟨tg, iter, [], 0⟩] scope pos) (eDc ι tgt εk εv (own.map (·.2))) :=
  PE.imp (pe_dcD (T := T) (wi := LI (gOf X T) W ι) (tk := LE (gOf X T) WF εk) (tv := LE (gOf X T) WF εv) S.calm (units_20 hr) S.nd hi ok (fun s H C cl fp => hg s H C cl fp (std_blk S.calm S.nd)) (fun s H C cl fp => hk s H C cl fp (std_blk S.calm S.nd)) (fun s H C cl fp => hv s H C cl fp (std_blk S.calm S.nd)) hs) (dc_read tk)
theorem pds_setDc {i : Nat} {y : Str} {py spos : Pos} (S : Std X W) {k : Nat} (hr : Room k X.A) (hy : X.N[i]? = some y) (hyl : X.env.scope.names.lookup y = some .local)
    (hsw : swapsWith (.DictComp kx vx [⟨tg, iter, [], 0⟩] scope pos) (some (.Name y py)) spos.line X.env = pure true) (hi : PDI X T W tg iter ι) (ok : BlkOk X.N X.env.scope scope own) (tk : TgOk X.K gg tgt (own.map (·.2)))
    (hg : ∀ (s : Shared) (H : Hp) (C : Addr) (cl : List (Str × Addr)) (fp : List Addr), Std (X.blk s H scope (compEnvC scope cl C X.env) fp) WF → PG (X.blk s H scope (compEnvC scope cl C X.env) fp) tg gg)
    (hk : ∀ (s : Shared) (H : Hp) (C : Addr) (cl : List (Str × Addr)) (fp : List Addr), Std (X.blk s H scope (compEnvC scope cl C X.env) fp) WF → PD (X.blk s H scope (compEnvC scope cl C X.env) fp) T WF kx εk)
    (hv : ∀ (s : Shared) (H : Hp) (C : Addr) (cl : List (Str × Addr)) (fp : List Addr), Std (X.blk s H scope (compEnvC scope cl C X.env) fp) WF → PD (X.blk s H scope (compEnvC scope cl C X.env) fp) T WF vx εv)
    (hs : ∀ x, foldedSetIterable iter X.env x = pure x := by intro _; rfl) : PDS X T W (.Assign [.Name y py] (.DictComp kx vx [⟨tg, iter, [], 0⟩] scope pos) spos) (dAsg (eDc ι tgt εk εv (own.map (·.2))) (gVar i)) :=
  PS.imp (ps_setDcD (T := T) (wi := LI (gOf X T) W ι) (tk := LE (gOf X T) WF εk) (tv := LE (gOf X T) WF εv) S.calm (units_20 hr) S.nd hy hyl hsw hi ok (fun s H C cl fp => hg s H C cl fp (std_blk S.calm S.nd)) (fun s H C cl fp => hk s H C cl fp (std_blk S.calm S.nd)) (fun s H C cl fp => hv s H C cl fp (std_blk S.calm S.nd)) hs) fun D σ H ⟨μ, env, h, D0, r, re, q, p⟩ =>
    dc_read tk σ H _ ⟨μ, env, h, _, _, r, re, q, fun d h' v H' μ' q' r' l' rv => p.nx _ _ _ _ _ q' r' ((re.le l').put rv i) l', p.xc⟩
theorem sw_dict {y : Str} {py : Pos} {gs : List Comprehension} {l : Nat} {env : PySem.Env} (hk : env.scope.kind = .function) (hy : env.scope.names.lookup y = some .local) (hl : (py.line == pos.line) = true)
    (ha : (scope.names.any fun (n, k) => n == y && (k == .local || k == .cell)) = false) : swapsWith (.DictComp kx vx gs scope pos) (some (.Name y py)) l env = pure true := by
  have k1 : env.kindOf y = some .local := hy
  have k2 : env.blockKind = .function := by unfold PySem.Env.blockKind; rw [hk]; rfl
  unfold swapsWith
  simp only [k2, k1, ha, Expr.pos, hl]
  rfl
end
end
end DL
set_option Elab.async false
set_option linter.all false
set_option maxRecDepth 100000
set_option maxHeartbeats 4000000
set_option pp.maxSteps 300
namespace DL
open PySem PySem.Spec PyProof.Rows L2
open PySem.W (Frag AlikeAll max_list_default min_list_default maxD_ints minD_ints)
/-! ### max(xs, default=d), min(xs, default=d) -/
theorem ints_read {h : Heap} : ∀ {us : List Value} {ns : List Int}, IntsAre us ns → ReadsAll h us (ns.map PyData.int) []
  | _, _, .nil => .nil
  | _, _, .cons n t r => .cons (as := []) (bs := []) (.int n t) (ints_read r)
theorem alike_ints (ns : List Int) : AlikeAll (ns.map PyData.int) := ⟨fun x hx y hy => by
  obtain ⟨i, _, rfl⟩ := List.mem_map.mp hx
  obtain ⟨j, _, rfl⟩ := List.mem_map.mp hy
  rfl, fun x hx => by
  obtain ⟨i, _, rfl⟩ := List.mem_map.mp hx
  exact fun z => nomatch z⟩
theorem depth_ints : ∀ ns : List Int, PyData.depthAll (ns.map PyData.int) = 0
  | [] => rfl
  | n :: ns => by
    show max 0 (PyData.depthAll (ns.map PyData.int)) = 0
    rw [depth_ints ns]; rfl
section
variable {X : Cx} {T : List Addr} {W : WX} {p pos kp : Pos} {a b : Expr} {εa εb : DE}
def rMaxDf (K : Frag) : List V → List V → Hp → VK → Prop := fun vs zs H Q => ∃ (l : Addr) (ns : List Int) (d : V), vs = [.ref l] ∧ zs = [d] ∧ SqL K H l (ns.map V.int) ∧ (ns = [] → Q d H) ∧ ∀ n r, ns = n :: r → Q (.int (r.foldl max n)) H
def rMinDf (K : Frag) : List V → List V → Hp → VK → Prop := fun vs zs H Q => ∃ (l : Addr) (ns : List Int) (d : V), vs = [.ref l] ∧ zs = [d] ∧ SqL K H l (ns.map V.int) ∧ (ns = [] → Q d H) ∧ ∀ n r, ns = n :: r → Q (.int (r.foldl min n)) H
theorem cr_maxDf (hc : X.calm = true) (hu : X.A.units + 8 < cLine) : CallRK X (.builtin "max") ["default"] (rMaxDf X.K) := by
  intro pins s σ H xs zs us ws Q I r1 r2 h
  obtain ⟨l, ns, d, rfl, rfl, hs, q0, q⟩ := h
  obtain ⟨its, rv, hl, _⟩ := I.list hs
  rw [Vals.ref1 r1]
  obtain ⟨w, rfl, rw'⟩ : ∃ w, ws = [w] ∧ L2.RelV d w := by
    cases r2 with
    | cons r rr => cases rr; exact ⟨_, rfl, r⟩
  refine max_list_default (I.ok.hd hc) hl.isList (ints_read rv.ints) (alike_ints ns) (by rw [depth_ints]; omega) (fun e h' tk hk => ?_) fun y ys i v h' tk bs e hv hr hk => ?_
  · cases ns with
    | nil => exact ⟨d, H, I.kept hk, rw', q0 rfl⟩
    | cons n r => cases e
  · cases ns with
    | nil => cases e
    | cons n r =>
      cases e
      rw [maxD_ints] at hr
      cases hr
      exact ⟨.int _, H, I.kept hk, ⟨_, rfl⟩, q n r rfl⟩
theorem cr_minDf (hc : X.calm = true) (hu : X.A.units + 8 < cLine) : CallRK X (.builtin "min") ["default"] (rMinDf X.K) := by
  intro pins s σ H xs zs us ws Q I r1 r2 h
  obtain ⟨l, ns, d, rfl, rfl, hs, q0, q⟩ := h
  obtain ⟨its, rv, hl, _⟩ := I.list hs
  rw [Vals.ref1 r1]
  obtain ⟨w, rfl, rw'⟩ : ∃ w, ws = [w] ∧ L2.RelV d w := by
    cases r2 with
    | cons r rr => cases rr; exact ⟨_, rfl, r⟩
  refine min_list_default (I.ok.hd hc) hl.isList (ints_read rv.ints) (alike_ints ns) (by rw [depth_ints]; omega) (fun e h' tk hk => ?_) fun y ys i v h' tk bs e hv hr hk => ?_
  · cases ns with
    | nil => exact ⟨d, H, I.kept hk, rw', q0 rfl⟩
    | cons n r => cases e
  · cases ns with
    | nil => cases e
    | cons n r =>
      cases e
      rw [minD_ints] at hr
      cases hr
      exact ⟨.int _, H, I.kept hk, ⟨_, rfl⟩, q n r rfl⟩
def bestD (f : Int → Int → Int) (x d : D) (h : DH) (Q : VD) : Prop := match x with
  | .ref n => ∃ ns : List Int, lstOf h n = some (ns.map .int) ∧ match ns with
    | [] => Q d h
    | i :: r => Q (.int (r.foldl f i)) h
  | _ => False
def eMaxd (εa εb : DE) : DE := fun E env h Q => εa E env h fun x h1 => εb E env h1 fun d h2 => bestD max x d h2 Q
def eMind (εa εb : DE) : DE := fun E env h Q => εa E env h fun x h1 => εb E env h1 fun d h2 => bestD min x d h2 Q
theorem best_read {g : G} {f : Int → Int → Int} {r : List V → List V → Hp → VK → Prop} (hr : ∀ (vs zs : List V) (H : Hp) (Q : VK), (∃ (l : Addr) (ns : List Int) (d : V), vs = [.ref l] ∧ zs = [d] ∧ SqL g.K H l (ns.map V.int) ∧ (ns = [] → Q d H) ∧ ∀ n r, ns = n :: r → Q (.int (r.foldl f n)) H) → r vs zs H Q) :
    ∀ σ H Q, LE g W (fun E env h Q => εa E env h fun x h1 => εb E env h1 fun d h2 => bestD f x d h2 Q) σ H Q → tCKw r (tCons (LE g W εa) tNil) (tCons (LE g W εb) tNil) σ H Q := fun σ H Q ⟨μ, env, h, Q0, E0, r0, re, q, p, px⟩ =>
  ⟨μ, env, h, _, E0, r0, re, q, fun x h1 v H1 μ1 q1 r1 l1 rv => ⟨μ1, env, h1, _, E0, r1, re.le l1, q1, fun d h2 u H2 μ2 q2 r2 l2 ru => hr _ _ _ _ (by
    unfold bestD at q2
    split at q2
    · obtain ⟨l, rfl, hn⟩ := rv.inv_ref
      obtain ⟨ns, e, q2⟩ := q2
      obtain ⟨vs, h3, h4⟩ := lst_at r2 (l2.at hn) e
      rw [ints_rv h4] at h3
      refine ⟨l, ns, u, rfl, rfl, h3, fun e => ?_, fun n r e => ?_⟩
      · subst e; exact p _ _ _ _ _ q2 r2 (l1.trans l2) ru
      · subst e; exact p _ _ _ _ _ q2 r2 (l1.trans l2) (.int _)
    · exact q2.elim), px.le l1⟩, px⟩
theorem pd_maxd (S : Std X W) {k : Nat} (hr : Room k X.A) (hg : Gl X "max") (hm : X.mg "max" = none) (ha : PD X T W a εa) (hb : PD X T W b εb)
    (h1 : starEach [a] X.env = (false, eval a X.env) :: starEach [] X.env := by rfl) (h2 : backTo pos (starEach [a] X.env) = (false, eval a X.env) :: backTo pos (starEach [] X.env) := by rfl) (hpl : (backTo pos (starEach [a] X.env)).any (·.1) = false := by rfl)
    (hall : (backToKw pos (keywordEach [⟨some "default", b, kp⟩] X.env)).all (·.1.isSome) = true := by rfl) (hnone : (backToKw pos (keywordEach [⟨some "default", b, kp⟩] X.env)).any (·.1.isNone) = false := by rfl) (hks : (backToKw pos (keywordEach [⟨some "default", b, kp⟩] X.env)).filterMap (·.1) = (["default"] : List Str) := by rfl) :
    PD X T W (.Call (.Name "max" p) [a] [⟨some "default", b, kp⟩] pos) (eMaxd εa εb) :=
  PE.imp (pe_callBK (cr_maxDf S.calm (by have := hr.un; omega)) hg hm (by decide +kernel) (pa_cons ha pa_nil h1) (pk_cons hb pk_nil) (by decide) (by decide) h2 hpl hall hnone hks) (best_read fun _ _ _ _ z => z)
theorem pd_mind (S : Std X W) {k : Nat} (hr : Room k X.A) (hg : Gl X "min") (hm : X.mg "min" = none) (ha : PD X T W a εa) (hb : PD X T W b εb)
    (h1 : starEach [a] X.env = (false, eval a X.env) :: starEach [] X.env := by rfl) (h2 : backTo pos (starEach [a] X.env) = (false, eval a X.env) :: backTo pos (starEach [] X.env) := by rfl) (hpl : (backTo pos (starEach [a] X.env)).any (·.1) = false := by rfl)
    (hall : (backToKw pos (keywordEach [⟨some "default", b, kp⟩] X.env)).all (·.1.isSome) = true := by rfl) (hnone : (backToKw pos (keywordEach [⟨some "default", b, kp⟩] X.env)).any (·.1.isNone) = false := by rfl) (hks : (backToKw pos (keywordEach [⟨some "default", b, kp⟩] X.env)).filterMap (·.1) = (["default"] : List Str) := by rfl) :
    PD X T W (.Call (.Name "min" p) [a] [⟨some "default", b, kp⟩] pos) (eMind εa εb) :=
  PE.imp (pe_callBK (cr_minDf S.calm (by have := hr.un; omega)) hg hm (by decide +kernel) (pa_cons ha pa_nil h1) (pk_cons hb pk_nil) (by decide) (by decide) h2 hpl hall hnone hks) (best_read fun _ _ _ _ z => z)
/-! ### d[k] op= e -/
def augD (f : Int → Int → Int) (x y : D) (Q : Int → Prop) : Prop := match x, y with
  | .int m, .int n => Q (f m n)
  | _, _ => False
theorem augD_inv {f : Int → Int → Int} {x y : D} {Q : Int → Prop} (h : augD f x y Q) : ∃ m n, x = .int m ∧ y = .int n ∧ Q (f m n) := by
  unfold augD at h
  split at h
  · exact ⟨_, _, rfl, rfl, h⟩
  · exact h.elim
def dAugS (εo εi : DE) (f : Int → Int → Int) (εe : DE) : DS := fun D env h => εo D.xc env h fun o h1 => εi D.xc env h1 fun i h2 => dGetD o i h2 fun x h3 => εe D.xc env h3 fun y h4 => augD f x y fun z => setA o i (.int z) h4 fun h5 => D.nx env h5
theorem pds_augS {o i e : Expr} {εo εi εe : DE} {op : Operator} {f : Int → Int → Int} {tpos : Pos} (S : Std X W) {k : Nat} (hr : Room k X.A) (ho : PD X T W o εo) (hi : PD X T W i εi) (he : PD X T W e εe) (hp : PIp X op (ipI f))
    (ha : ∀ ov iv new, augStore i ov iv new = (do holding [new, ov, iv] (setItem ov iv new); release [new, ov, iv] []; pure .next) := by intros; rfl) : PDS X T W (.AugAssign (.Subscript o i tpos) op e pos) (dAugS εo εi f εe) := by
  obtain ⟨rg, g1, g2⟩ := get_any (X := X) (T := T) (units_20 hr)
  obtain ⟨rs, s1, s2⟩ := set_any (X := X) (T := T) (units_20 hr)
  refine PS.imp (ps_augS ho hi g1 he hp s1 ha) fun D σ H ⟨μ, env, h, D0, r, re, q, px⟩ =>
    ⟨μ, env, h, _, D0.xc, r, re, q, fun vo h1 v H1 μ1 q1 r1 l1 rv => ⟨μ1, env, h1, _, D0.xc, r1, re.le l1, q1, fun vi h2 u H2 μ2 q2 r2 l2 ru => ?_, px.xc.le l1⟩, px.xc⟩
  refine g2 H2 μ2 h2 v u vo vi _ _ r2 (rv.le l2) ru q2 fun x h3 w H3 μ3 q3 r3 l3 rx => ?_
  have lt := l1.trans (l2.trans l3)
  refine ⟨μ3, env, h3, _, D0.xc, r3, re.le lt, q3, fun y h4 z H4 μ4 q4 r4 l4 ry => ?_, px.xc.le lt⟩
  obtain ⟨m, n, rfl, rfl, q4⟩ := augD_inv q4
  rw [rx.inv_int, ry.inv_int]
  refine ⟨m, n, rfl, rfl, ?_⟩
  have l5 := lt.trans l4
  exact s2 H4 μ4 h4 _ _ _ _ _ _ _ _ r4 (rv.le ((l2.trans l3).trans l4)) (ru.le (l3.trans l4)) (.int _) q4 fun h' H' q' r' l' => px.nx _ _ _ _ _ q' r' (re.le (l5.trans l')) (l5.trans l')
/-! ### what is never reached -/
def dNever : DS := fun _ _ _ => False
theorem pds_never {st : Stmt} : PDS X T W st dNever := ⟨fun pins s σ H D I ⟨_, _, _, _, _, _, q, _⟩ => q.elim⟩
end
end DL
set_option Elab.async false
set_option linter.all false
set_option maxRecDepth 100000
set_option maxHeartbeats 4000000
set_option pp.maxSteps 300
namespace DL
open PySem PySem.Spec PyProof.Rows L2
open PySem.W (Frag)
open PySem.F (excBase_ValueError)
/-! ### errors of the program -/
/-- an own class of errors without fields, under ValueError -/
structure Err0 (g : G) (mg : Str → Option Value) (x : Str) (C : Addr) : Prop where
  gC : mg x = some (.ref C)
  kC : PySem.W.keepIn g.K (.ref C) = true
  ex : PySem.W.excIn g.K C [.type "ValueError", .type "Exception", .type "BaseException", .type "object"] "ValueError.__new__" = true
  sub : PySem.W.subIn g.K (.ref C) (.type "BaseException") = some true
  ty : PySem.W.typeIn g.K (.ref C) = some (.type "type")
def dRaise0 (C : Addr) : DS := fun D env h => D.xc (.ref C) [] env h
section
variable {X : Cx} {T : List Addr} {W : WX}
theorem pds_raise0 {x m : Str} {C : Addr} {j : Nat} {p p2 pos pos2 : Pos} (S : Std X W) (er : Err0 (gOf X T) X.mg x C) (hg : Gl X x) (hdb : (x == ("__debug__" : Str)) = false := by decide) :
    PDS X T W (.Raise (some (.Call (.Name x p) [.Constant (.str m) j p2] [] pos)) none pos2) (dRaise0 C) :=
  PS.imp (ps_raise S.calm S.tk (pmk_own excBase_ValueError er.ex er.gC er.kC (raises_own er.sub er.ty) hg hdb)) fun D σ H ⟨μ, env, h, D0, r, re, q, p⟩ =>
    p.xc _ _ _ _ none _ _ _ q r re .refl rfl
/-! ### try: .. except C as e: .. -/
theorem RelE.unset {K : Frag} {H : Hp} {μ : List Addr} {σ : L2.St} {env : Env} (r : RelE K H μ σ env) (i : Nat) : RelE K H μ (σ.set i none) (env.set i none) := by
  refine ⟨by rw [List.length_set, List.length_set]; exact r.len, fun j e hj => ?_⟩
  by_cases c : i = j
  · subst c
    rw [List.getElem?_set] at hj
    simp only [if_true] at hj
    split at hj <;> cases hj
  · rw [List.getElem?_set_ne c] at hj
    obtain ⟨u, h1, h2⟩ := r.at' j e hj
    exact ⟨u, by rw [List.getElem?_set_ne c]; exact h1, h2⟩
/-- the handler's reading: at the error's place, its class -/
def dTryAs (K : Frag) (c0 : Value) (i : Nat) (τb : DS) (τs : Addr → Value → DS) : DS := fun D env h => τb { D with xc := fun c fs env' h' => ∃ b, PySem.W.exmOne K c c0 = some b ∧
  (b = true → fs = [] ∧ ∀ a, τs a c { nx := fun e2 h2 => D.nx (e2.set i none) h2, rt := D.rt, bk := fun e2 h2 => D.bk (e2.set i none) h2, ct := fun e2 h2 => D.ct (e2.set i none) h2, xc := EF } (env'.set i (some (.obj a))) h') ∧ (b = false → D.xc c fs env' h') } env h
theorem pds_tryAs {x n : Str} {c0 : Value} {i : Nat} {body suite : List Stmt} {b₀ : Stmt} {np pos pos' : Pos} {τb : DS} {τs : Addr → Value → DS} (S : Std X W) (hs : X.stack = X.env :: X.outer) (hf : X.env.frame = some X.env.locals) (hi : X.N[i]? = some n) (hln : X.env.kindOf n = some .local) (hc : Names X x c0)
    (hb : ∀ (W : WX) (pn : List (Addr × Obj)) (xe : Value → Shared → Prop), Std (X.tr pn xe) W → PDSs (X.tr pn xe) T W body τb)
    (hsu : ∀ (a : Addr) (oe : Obj) (cls : Value) (pn : List (Addr × Obj)), Zc cls none oe → (∃ vs, oe.data = .fields vs) → PDSs (X.suite a ((a, oe) :: pn)) T WF (b₀ :: suite) (τs a cls)) :
    PDS X T W (.Try body [.ExceptHandler (some (.Name x np)) (some n) (b₀ :: suite) pos'] [] [] pos) (dTryAs X.K c0 i τb τs) := by
  refine PS.imp (ps_try_as (c := c0) (Wout := W) (tb := fun W => LS (gOf X T) W τb) (ts := fun a cls d => fun D σ H => d = none ∧ LS (gOf X T) WF (τs a cls) D σ H) hs hf S.nd hi hln hc S.tk (fun W pn xe tk po => hb W pn xe ⟨tk, po, S.calm, S.nd⟩)
    fun a oe cls d pn hz hd => ?_) fun D σ H ⟨μ, env, h, D0, r, re, q, p⟩ => ⟨μ, env, h, _, r, re, q, ⟨p.nx, p.rt, p.bk, p.ct, ?_⟩⟩
  · cases d with
    | none => exact PSs.imp (hsu a oe cls pn hz hd) fun D σ H z => z.2
    | some dx => exact ⟨fun pins s σ H D I z => nomatch z.1⟩
  · intro c fs env' h' od σ' H' μ' q' r' re' l' xf
    obtain ⟨b, e, yes, no⟩ := q'
    refine ⟨b, e, fun hb a na => ?_, fun hb => p.xc _ _ _ _ _ _ _ _ (no hb) r' re' l' xf⟩
    obtain ⟨ef, q2⟩ := yes hb
    subst ef
    have eo : od = none := by
      cases od with
      | none => rfl
      | some dx => exact absurd rfl xf.1
    refine ⟨eo, μ', _, h', _, r', re'.put (.obj a) i, q2 a, ⟨?_, p.rt.le l', ?_, ?_, postF⟩⟩
    · exact fun e2 h2 σ2 H2 μ2 q3 r2 re2 l2 => p.nx _ _ _ _ _ q3 r2 (re2.unset i) (l'.trans l2)
    · exact fun e2 h2 σ2 H2 μ2 q3 r2 re2 l2 => p.bk _ _ _ _ _ q3 r2 (re2.unset i) (l'.trans l2)
    · exact fun e2 h2 σ2 H2 μ2 q3 r2 re2 l2 => p.ct _ _ _ _ _ q3 r2 (re2.unset i) (l'.trans l2)
/-! isinstance(error, C) in a handler: of its own class -/
theorem isi_own {prog : Program} {w : World} {A : Around} {E : Value → Shared → Prop} {s : Shared} {Q : Value → Shared → Prop} {x C : Addr} {ox : Obj} {od : Option Obj} (I : PySem.W.InstAt s.heap x ox C od) (h : ∀ tk, Q (.bool true) { s with toks := tk }) :
    wpAny (model prog w) A (call (.builtin "isinstance") [.ref x, .ref C]) Q E s := by
  refine call_isinstance (S := fun _ R s => (∃ ox od, PySem.W.InstAt s.heap x ox C od) ∧ ∀ tk, R (.ok (.ret (.bool true))) { s with toks := tk }) (fun prog w A R s hs => isinstance_outer ?_ (fun z => nomatch z)) ⟨⟨_, _, I⟩, h⟩
  obtain ⟨h0, g, d, tt, os⟩ := s
  obtain ⟨⟨ox, od, I⟩, hq⟩ := hs
  unfold Builtin.«isinstance.nested»
  refine wpAny_bind ((I.type (M := model prog w)).at ?_)
  rw [if_pos (beq_self_eq_true _)]
  first
    | exact wpAny_bind (wpAny_rule (hq tt))
    | exact wpAny_bind (wpAny_rule (wpAny_pure (hq tt)))
    | (repeat (any_goals (first | assumption | wp_step)); exact hq tt)
def eIsOwn (a : Addr) (cls : Value) (C : Addr) (ε : DE) : DE := fun E env h Q => ε E env h fun x h1 => x = .obj a ∧ cls = .ref C ∧ Q (.bl true) h1
def rIsOwn (a : Addr) (cls : Value) (C : Addr) : List V → Hp → VK → Prop := fun xs H Q => xs = [.ref a, .ref C] ∧ cls = .ref C ∧ Q (.bl true) H
theorem cr_isOwn {a C : Addr} {cls : Value} {oe : Obj} {pn : List (Addr × Obj)} (hz : Zc cls none oe) (hf : ∃ vs, oe.data = .fields vs) : CallR (X.suite a ((a, oe) :: pn)) (.builtin "isinstance") (rIsOwn a cls C) := by
  intro pins s σ H xs us Q I r h
  obtain ⟨rfl, ec, q⟩ := h
  obtain ⟨u1, u2, rfl, r1, r2⟩ : ∃ u1 u2, us = [u1, u2] ∧ L2.RelV (.ref a) u1 ∧ L2.RelV (.ref C) u2 := by
    cases r with
    | cons r1 rr =>
      cases rr with
      | cons r2 rr => cases rr; exact ⟨_, _, rfl, r1, r2⟩
  obtain rfl : u1 = Value.ref a := r1
  obtain rfl : u2 = Value.ref C := r2
  obtain ⟨hget, _⟩ := I.pin (a, oe) (List.mem_append.mpr (.inl List.mem_cons_self))
  obtain ⟨vs, hv⟩ := hf
  have J : PySem.W.InstAt s.heap a oe C none := ⟨hget, by rw [hz.1]; exact ec, by unfold PySem.W.notCls; rw [hv], by rw [hz.2]; trivial⟩
  exact isi_own J fun tk => ⟨.bl true, H, I.tok tk, rfl, q⟩
theorem pd_isOwn {a C : Addr} {cls : Value} {oe : Obj} {pn : List (Addr × Obj)} {e : Expr} {ε : DE} {x : Str} {p p2 pos : Pos} (hz : Zc cls none oe) (hf : ∃ vs, oe.data = .fields vs) (hg : Gl X "isinstance") (hm : X.mg "isinstance" = none) (hg2 : Gl X x) (hm2 : X.mg x = some (.ref C))
    (he : PD (X.suite a ((a, oe) :: pn)) T WF e ε) (hd : (x == ("__debug__" : Str)) = false := by decide)
    (h1 : starEach [e, .Name x p2] X.env = (false, eval e X.env) :: starEach [.Name x p2] X.env := by rfl) (h2 : starEach [.Name x p2] X.env = (false, eval (.Name x p2) X.env) :: starEach [] X.env := by rfl) (hpl : (backTo pos (starEach [.Name x p2] X.env)).any (·.1) = false := by rfl) :
    PD (X.suite a ((a, oe) :: pn)) T WF (.Call (.Name "isinstance" p) [e, .Name x p2] [] pos) (eIsOwn a cls C ε) :=
  PE.imp (pe_callB (X := X.suite a ((a, oe) :: pn)) (cr_isOwn (C := C) hz hf) hg hm boot_isinstance (pa_cons he (pa_cons (pe_glob (X := X.suite a ((a, oe) :: pn)) (v := .ref C) hg2 hm2 rfl hd) pa_nil h2) h1) (by decide) (by decide) h1 hpl) fun σ H Q ⟨μ, env, h, Q0, E0, r, re, q, p, px⟩ =>
    ⟨μ, env, h, _, E0, r, re, q, fun d h1 v H1 μ1 ⟨ed, ec, q1⟩ r1 l1 rv => by
      subst ed
      rw [rv.inv_obj]
      exact ⟨rfl, ec, p _ _ _ _ _ q1 r1 l1 (.bl _)⟩, px⟩
end
end DL
set_option Elab.async false
set_option linter.all false
set_option maxRecDepth 100000
set_option maxHeartbeats 4000000
namespace DL
open PySem PySem.Spec PyProof.Rows L2
open PySem.W (Frag)
/-! ### tables of up to 512 places -/
def orb (m : Nat) : Nat → Nat → List Nat
  | 0, _ => []
  | f + 1, x => x :: orb m f ((x * 5 + 1) % (m + 1))
theorem orb_mem (m : Nat) : ∀ (f a j : Nat), j ∈ orb m f (lcgN m a) → ∃ b, b < f ∧ lcgN m (a + b) = j
  | 0, a, j, h => by simp [orb] at h
  | f + 1, a, j, h => by
    rcases List.mem_cons.mp h with e | e
    · exact ⟨0, Nat.succ_pos _, e.symm⟩
    · obtain ⟨b, hb, e2⟩ := orb_mem m f (a + 1) j e
      exact ⟨b + 1, Nat.succ_lt_succ hb, by rw [← e2]; congr 1; omega⟩
theorem orb511 : ((List.range 512).all fun j => (orb 511 512 0).contains j) = true := by decide +kernel
theorem turn511 : lcgN 511 512 = 0 := by decide +kernel
theorem meets511 {j : Nat} (h : j ≤ 511) : ∃ b, b ≤ 511 ∧ lcgN 511 b = j := by
  have q := List.all_eq_true.mp orb511 j (List.mem_range.mpr (by omega))
  obtain ⟨b, h1, h2⟩ := orb_mem 511 512 0 j (List.contains_iff_mem.mp q)
  exact ⟨b, by omega, by rw [← h2, Nat.zero_add]⟩
theorem again511 : ∀ k, lcgN 511 (512 + k) = lcgN 511 k
  | 0 => turn511
  | k + 1 => by
    show (lcgN 511 (512 + k) * 5 + 1) % 512 = (lcgN 511 k * 5 + 1) % 512
    rw [again511 k]
/-- the masks -/
def MaskD (m : Nat) : Prop := m = 7 ∨ m = 31 ∨ m = 127 ∨ m = 511
theorem MaskD.cases {m : Nat} (h : MaskD m) : MaskOk m ∨ m = 511 := by
  rcases h with e | e | e | e
  · exact .inl (.inl e)
  · exact .inl (.inr (.inl e))
  · exact .inl (.inr (.inr e))
  · exact .inr e
theorem MaskD.odd {m : Nat} (h : MaskD m) : m % 2 = 1 := by rcases h with e | e | e | e <;> (subst e; rfl)
theorem MaskD.all {m : Nat} (h : MaskD m) {i j : Nat} (hi : i ≤ m) (hj : j ≤ m) : ∃ k, k ≤ m ∧ lcgI m i k = j := by
  rcases h.cases with h | e
  · exact lcgI_all h hi hj
  · subst e
    obtain ⟨a, a1, a2⟩ := meets511 hi
    obtain ⟨b, b1, b2⟩ := meets511 hj
    by_cases c : a ≤ b
    · exact ⟨b - a, by omega, by rw [← a2, lcgN_add, show a + (b - a) = b by omega, b2]⟩
    · exact ⟨512 + b - a, by omega, by rw [← a2, lcgN_add, show a + (512 + b - a) = 512 + b by omega, again511, b2]⟩
theorem MaskD.run {m : Nat} (h : MaskD m) (x : Int) {j : Nat} (hj : j ≤ m) : ∃ n, n ≤ m + 12 ∧ runI m (SetTable.bits x) n = j := by
  obtain ⟨k, k1, k2⟩ := h.all (runI_le m (SetTable.bits x) 12) hj
  exact ⟨12 + k, by omega, (runI_tail (bits_lt x) k).trans k2⟩
theorem way_in (m : Nat) (x : Int) (k : Nat) : way m x k ≤ m := by
  have r := runEnd_bd (show SetTable.bits x % (m + 1) ≤ m from Nat.le_of_lt_succ (Nat.mod_lt _ (Nat.succ_pos _)))
  have q := nth_in (m := m) k (runAt m (SetTable.bits x % (m + 1)) (SetTable.bits x)) (show SetTable.bits x % (m + 1) + (SetTable.runEnd m (SetTable.bits x % (m + 1)) - SetTable.bits x % (m + 1)) ≤ m by omega)
  exact Nat.le_trans (Nat.le_add_right _ _) q
theorem TabD.md {t : SetTable} {hs : List Int} (T : TabD t hs) : MaskD t.mask := T.mok
/-- what is asked of a table, but for the room -/
structure TabC (t : SetTable) (hs : List Int) : Prop where
  ris : Ris t.place.toList
  dm : t.dummies = #[]
  sz : t.place.size = hs.length
  md : MaskD t.mask
  bd : ∀ x ∈ t.place.toList, x ≤ t.mask
  reach : ∀ (i : Nat) (h : Int) (j : Nat), hs[i]? = some h → t.place.toList[i]? = some j → ∃ k, way t.mask h k = j ∧ ∀ k', k' < k → way t.mask h k' ∈ t.place.toList
theorem TabC.first {t : SetTable} {hs : List Int} (T : TabC t hs) (room : hs.length ≤ t.mask) (x : Int) : ∃ K, K < 10 * SetTable.turns t.mask ∧ way t.mask x K ∉ t.place.toList ∧ ∀ k, k < K → way t.mask x k ∈ t.place.toList := by
  obtain ⟨j, hj, out⟩ := st_missing t.place.toList (t.mask + 1) (by rw [Array.length_toList, T.sz]; omega)
  obtain ⟨n, hn, e⟩ := T.md.run x (Nat.le_of_lt_succ hj)
  obtain ⟨k, hk, e2⟩ := run_nth t.mask (SetTable.bits x) n
  have ej : way t.mask x k = j := by
    show (nth t.mask (runAt t.mask (SetTable.bits x % (t.mask + 1)) (SetTable.bits x)) k).j = j
    rw [e2]; exact e
  obtain ⟨K, k1, k2, k3⟩ := st_least (p := fun k => way t.mask x k ∉ t.place.toList) k (by rw [ej]; exact out)
  exact ⟨K, by unfold SetTable.turns; omega, k2, fun k' hk' => Classical.not_not.mp (k3 k' hk')⟩
theorem TabC.ahead {t : SetTable} {hs : List Int} (T : TabC t hs) {x : Int} {K i j : Nat} (free : way t.mask x K ∉ t.place.toList) (hi : hs[i]? = some x) (hj : t.place.toList[i]? = some j) : ∃ k, k < K ∧ way t.mask x k = j := by
  obtain ⟨k, e, busy⟩ := T.reach i x j hi hj
  refine ⟨k, Nat.lt_of_not_le fun le => ?_, e⟩
  rcases Nat.lt_or_eq_of_le le with lt | eq
  · exact free (busy K lt)
  · rw [eq, e] at free
    exact free (List.mem_of_getElem? hj)
theorem TabC.put {t : SetTable} {hs : List Int} (T : TabC t hs) {x : Int} {K : Nat} (free : way t.mask x K ∉ t.place.toList) (busy : ∀ k, k < K → way t.mask x k ∈ t.place.toList) :
    ∃ n t1, t.put (way t.mask x K) = (t1, n) ∧ n ≤ hs.length ∧ TabC t1 (hs.take n ++ x :: hs.drop n) ∧ t1.mask = t.mask ∧ t1.led = t.led ∧ t1.plain = t.plain ∧ t1.fill = hs.length + 1 := by
  have jm := way_in t.mask x K
  generalize ej : way t.mask x K = j at free jm
  obtain ⟨le, _, _⟩ := below_cut T.ris j
  have lp : SetTable.below t.place j ≤ t.place.toList.length := by rw [Array.length_toList]; exact le
  have lh : SetTable.below t.place j ≤ hs.length := T.sz ▸ le
  have new : t.place[SetTable.below t.place j]? ≠ some j := fun e => free (List.mem_of_getElem? (by rw [Array.getElem?_toList]; exact e))
  have rows := put_place t j
  have size1 : (t.put j).1.place.size = hs.length + 1 := by rw [← Array.length_toList, rows, len_ins _ lp, Array.length_toList, T.sz]
  have keep : ∀ {y : Nat}, y ∈ t.place.toList → y ∈ (t.put j).1.place.toList := fun {y} hy => rows ▸ mem_ins.2 (.inr hy)
  refine ⟨SetTable.below t.place j, (t.put j).1, rfl, lh, ⟨ris_insert T.ris new, put_dm T.dm j, by rw [len_ins _ lh]; exact size1, T.md, fun y hy => ?_, fun i h' j' h1 h2 => ?_⟩, rfl, rfl, rfl, ?_⟩
  · rcases mem_ins.1 (rows ▸ hy) with e | e
    · rw [e]; exact jm
    · exact T.bd y e
  · rw [tins_get hs lh] at h1
    rw [rows, tins_get _ lp] at h2
    have old : ∀ {i0 : Nat}, hs[i0]? = some h' → t.place.toList[i0]? = some j' → ∃ k, way t.mask h' k = j' ∧ ∀ k', k' < k → way t.mask h' k' ∈ (t.put j).1.place.toList := fun {i0} g1 g2 =>
      let ⟨k, e, z⟩ := T.reach i0 h' j' g1 g2
      ⟨k, e, fun k' hk' => keep (z k' hk')⟩
    split at h1
    · rename_i c
      rw [if_pos c] at h2
      exact old h1 h2
    · rename_i c
      rw [if_neg c] at h2
      split at h1
      · rename_i d
        rw [if_pos d] at h2
        cases h1
        cases h2
        exact ⟨K, ej, fun k' hk' => keep (busy k' hk')⟩
      · rename_i d
        rw [if_neg d] at h2
        exact old h1 h2
  · show (t.put j).1.place.size + (t.put j).1.dummies.size = hs.length + 1
    rw [size1, put_dm T.dm j]; rfl
/-! laid anew -/
theorem find_free {m : Nat} (hm : MaskD m) (owner : Array (Option Nat)) (x : Int) {j : Nat} (hj : j ≤ m) (hf : oAt owner j = none) :
    ∃ K, SetTable.layClean.free m owner (SetTable.turns m) (SetTable.bits x % (m + 1)) (SetTable.bits x) = some (way m x K) ∧ oAt owner (way m x K) = none ∧ ∀ k, k < K → oAt owner (way m x k) ≠ none := by
  obtain ⟨n, hn, e⟩ := hm.run x hj
  have at_n : way m x (off m (SetTable.bits x % (m + 1)) (SetTable.bits x) n) = j := by
    show (nth m (runAt m (SetTable.bits x % (m + 1)) (SetTable.bits x)) (off m (SetTable.bits x % (m + 1)) (SetTable.bits x) n)).j = j
    rw [nth_off, itL_run]; exact e
  obtain ⟨K, k1, k2, k3⟩ := st_least (p := fun k => oAt owner (way m x k) = none) _ (show oAt owner (way m x (off m (SetTable.bits x % (m + 1)) (SetTable.bits x) n)) = none by rw [at_n]; exact hf)
  refine ⟨K, free_spec m owner _ n _ _ K (by unfold SetTable.turns; omega) k1 (fun k hk => ?_) ?_, k2, k3⟩
  · cases z : oAt owner (nth m (runAt m (SetTable.bits x % (m + 1)) (SetTable.bits x)) k).j with
    | none => exact absurd z (k3 k hk)
    | some v => rfl
  · rw [show oAt owner (nth m (runAt m (SetTable.bits x % (m + 1)) (SetTable.bits x)) K).j = none from k2]; rfl
theorem own_step {m : Nat} (hm : MaskD m) {done : List Int} {owner : Array (Option Nat)} (O : Own m done owner) (few : done.length ≤ m) (x : Int) :
    ∃ j, SetTable.layClean.free m owner (SetTable.turns m) (SetTable.bits x % (m + 1)) (SetTable.bits x) = some j ∧ Own m (done ++ [x]) (owner.setIfInBounds j (some done.length)) := by
  obtain ⟨ps, len, cover⟩ := O.ps
  obtain ⟨j0, h0, out⟩ := st_missing ps (m + 1) (by omega)
  have free0 : oAt owner j0 = none := Classical.not_not.mp fun z => out (cover j0 (Nat.le_of_lt_succ h0) z)
  obtain ⟨K, e1, e2, e3⟩ := find_free hm owner x (Nat.le_of_lt_succ h0) free0
  have jm := way_in m x K
  generalize ej : way m x K = j at e1 e2 jm
  have self := oAt_set_self (owner := owner) (some done.length) (show j < owner.size by rw [O.sz]; omega)
  have more : ∀ {i : Nat}, oAt owner i ≠ none → oAt (owner.setIfInBounds j (some done.length)) i ≠ none := fun {i} hi => by
    by_cases c : i = j
    · rw [c, self]; exact fun z => nomatch z
    · rw [oAt_set_ne _ c]; exact hi
  refine ⟨j, e1, by rw [Array.size_setIfInBounds]; exact O.sz, fun i k hi e => ?_, fun k hk => ?_, j :: ps, by rw [List.length_cons, List.length_append, len]; rfl, fun i hi e => ?_⟩
  · by_cases c : i = j
    · subst c
      rw [self] at e
      cases e
      exact ⟨x, K, by rw [List.getElem?_append_right (Nat.le_refl _), Nat.sub_self]; rfl, ej, fun k' hk' => more (e3 k' hk')⟩
    · rw [oAt_set_ne _ c] at e
      obtain ⟨y, K', a1, a2, a3⟩ := O.at_ i k hi e
      exact ⟨y, K', by rw [List.getElem?_append_left (List.getElem?_eq_some_iff.mp a1).1]; exact a1, a2, fun k' hk' => more (a3 k' hk')⟩
  · rw [List.length_append, List.length_singleton] at hk
    rcases Nat.lt_or_eq_of_le (Nat.le_of_lt_succ hk) with c | c
    · obtain ⟨i, hi, e⟩ := O.all k c
      exact ⟨i, hi, by rw [oAt_set_ne _ (fun z => by rw [z, e2] at e; cases e)]; exact e⟩
    · exact ⟨j, jm, c ▸ self⟩
  · by_cases c : i = j
    · rw [c]; exact List.mem_cons_self
    · rw [oAt_set_ne _ c] at e; exact List.mem_cons_of_mem _ (cover i hi e)
theorem own_all {m : Nat} (hm : MaskD m) : ∀ (rest done : List Int) (owner : Array (Option Nat)), Own m done owner → done.length + rest.length ≤ m →
    ∃ owner', rest.foldl (stepF m) (some (owner, done.length)) = some (owner', (done ++ rest).length) ∧ Own m (done ++ rest) owner'
  | [], done, owner, O, _ => ⟨owner, by simp, by simpa using O⟩
  | x :: rest, done, owner, O, few => by
    rw [List.length_cons] at few
    obtain ⟨j, e, O1⟩ := own_step hm O (by omega) x
    obtain ⟨o2, f, O2⟩ := own_all hm rest (done ++ [x]) _ O1 (by rw [List.length_append, List.length_singleton]; omega)
    rw [List.append_assoc, List.singleton_append] at f O2
    rw [List.length_append (as := done) (bs := [x]), List.length_singleton] at f
    exact ⟨o2, by rw [List.foldl_cons, stepF_some e]; exact f, O2⟩
theorem clean_ok {m : Nat} (hm : MaskD m) {hs : Array Int} (few : hs.size ≤ m) : ∃ owner, SetTable.layClean m hs = some owner ∧ Own m hs.toList owner := by
  obtain ⟨owner, f, O⟩ := own_all hm hs.toList [] _ (Own.init m) (by rw [Array.length_toList]; simpa using few)
  exact ⟨owner, by rw [layClean_eq, show hs.toList.foldl (stepF m) (some (Array.replicate (m + 1) none, 0)) = _ from f]; rfl, by simpa using O⟩
theorem relaid_D (t : SetTable) {hs : Array Int} {wanted M : Nat} (hw : SetTable.sizeAbove wanted - 1 = M) (hM : MaskD M) (few : hs.size ≤ M) :
    ∃ t' order, t.relaid hs wanted = some (t', order) ∧ order.toList.Perm (List.range hs.size) ∧ TabC t' (order.toList.map fun i => hs.getD i 0) ∧ t'.mask = M ∧ t'.led = t.led ∧ t'.plain = t.plain := by
  obtain ⟨owner, e, O⟩ := clean_ok hM few
  have eq : t.relaid hs wanted = some (tabOf t M owner, ((liveOf M owner).map (·.2)).toArray) := by rw [relaid_eq, hw, e]; rfl
  obtain ⟨r1, r2⟩ : Ris ((liveOf M owner).map (·.1)) ∧ ∀ x ∈ (liveOf M owner).map (·.1), x ∈ List.range (M + 1) := ris_live (fun j => owner.getD j none) (List.range (M + 1)) (by
    unfold Ris
    first | exact List.pairwise_lt_range | exact List.pairwise_lt_range _)
  have live : ∀ {p : Nat × Nat}, p ∈ liveOf M owner → p.1 ≤ M ∧ oAt owner p.1 = some p.2 := fun {p} hp => (mem_live O.sz).1 hp
  have all_in : ∀ k, k < hs.size → k ∈ (liveOf M owner).map (·.2) := fun k hk => by
    obtain ⟨j, b1, b2⟩ := O.all k (by rw [Array.length_toList]; exact hk)
    exact List.mem_map.mpr ⟨(j, k), (mem_live O.sz).2 ⟨b1, b2⟩, rfl⟩
  have len : (liveOf M owner).length = hs.size := by
    obtain ⟨ps, p1, p2⟩ := O.ps
    have nd1 : ((liveOf M owner).map Prod.fst).Nodup := (show List.Pairwise (· < ·) ((liveOf M owner).map Prod.fst) from r1).imp fun h => Nat.ne_of_lt h
    have le := nat_nodup_len ((liveOf M owner).map Prod.fst) ps nd1 fun x hx => by
      obtain ⟨q, hq, rfl⟩ := List.mem_map.mp hx
      obtain ⟨b1, b2⟩ := live hq
      exact p2 _ b1 (by rw [b2]; exact fun z => nomatch z)
    have ge := nat_nodup_len (List.range hs.size) ((liveOf M owner).map (·.2)) List.nodup_range fun k hk => all_in k (List.mem_range.mp hk)
    rw [List.length_map, p1] at le
    have z : hs.toList.length = hs.size := rfl
    rw [List.length_map, List.length_range] at ge
    omega
  refine ⟨_, _, eq, perm_range hs.size _ (by show ((liveOf M owner).map (·.2)).length = _; rw [List.length_map, len]) all_in, ⟨r1, rfl, ?_, hM, fun x hx => ?_, fun i h j h1 h2 => ?_⟩, rfl, rfl, rfl⟩
  · show ((liveOf M owner).map (·.1)).toArray.size = (((liveOf M owner).map (·.2)).map fun i => hs.getD i 0).length
    simp
  · exact Nat.le_of_lt_succ (List.mem_range.mp (r2 x hx))
  · replace h1 : (((liveOf M owner).map (·.2)).map fun i => hs.getD i 0)[i]? = some h := h1
    replace h2 : ((liveOf M owner).map (·.1))[i]? = some j := h2
    simp only [List.getElem?_map] at h1 h2
    cases hq : (liveOf M owner)[i]? with
    | none => rw [hq] at h2; cases h2
    | some q =>
      rw [hq] at h1 h2
      cases h2
      cases h1
      obtain ⟨b1, b2⟩ := live (List.mem_of_getElem? hq)
      obtain ⟨h0, K, a1, a2, a3⟩ := O.at_ q.1 q.2 b1 b2
      have e0 : hs.getD q.2 0 = h0 := by rw [Array.getD_eq_getD_getElem?, ← Array.getElem?_toList, a1]; rfl
      show ∃ k, way M (hs.getD q.2 0) k = q.1 ∧ ∀ k', k' < k → way M (hs.getD q.2 0) k' ∈ (liveOf M owner).map (·.1)
      rw [e0]
      refine ⟨K, a2, fun k' hk' => ?_⟩
      obtain ⟨k2, z⟩ := Option.ne_none_iff_exists'.mp (a3 k' hk')
      exact List.mem_map.mpr ⟨(way M h0 k', k2), (mem_live O.sz).2 ⟨way_in M h0 k', z⟩, rfl⟩
theorem grown_5 : SetTable.sizeAbove (SetTable.grown 5) = 32 := by decide +kernel
theorem grown_19 : SetTable.sizeAbove (SetTable.grown 19) = 128 := by decide +kernel
theorem grown_77 : SetTable.sizeAbove (SetTable.grown 77) = 512 := by decide +kernel
end DL
set_option Elab.async false
set_option linter.all false
set_option maxRecDepth 100000
set_option maxHeartbeats 4000000
/-! A set of tuples: the search along the table, adding, laying anew. -/
namespace DL
open PySem PySem.Spec PyProof.Rows L2
open PySem.W (Frag)
mutual
/-- numbers and tuples of such -/
def plainK : NestedKey → Bool
  | .num _ => true
  | .tup ks => plainKs ks
  | _ => false
def plainKs : List NestedKey → Bool
  | [] => true
  | k :: ks => plainK k && plainKs ks
end
section
variable (P : Program) (w : World)
abbrev hR (r : NestedKey) : Int := (nestedKind P w).hash r
variable (hf : NestedKey → Int)
abbrev AtR (h : Heap) (p : NestedKey × Addr) : Prop := (nestedKind P w).is h p.1 p.2
abbrev AtK (h : Heap) (p : NestedKey × Addr) : Prop := (nestedKind P w).is h p.1 p.2 ∧ plainK p.1 = true
abbrev cell (p : NestedKey × Addr) : Int × Value := (hf p.1, Value.ref p.2)
/-- a question put to a value has this answer and changes nothing -/
def Mute (f : Nat → Value → Sem Bool) (b : Bool) (n : Nat) (z : Shared) (v : Value) : Prop := ∀ (A : Around) (E : Value → Shared → Prop) (Q : Bool → Shared → Prop), Q b z → wpAny (model P w) A (f n v) Q E z
/-- the table's rows and places -/
structure Tb (ks : List (NestedKey × Addr)) (es : Array (Int × Value)) (t : SetTable) : Prop where
  hes : es.toList = ks.map (cell hf)
  ok : TabC t (ks.map fun p => hf p.1)
  one : (ks.map (·.1)).Nodup
  val : t.plain = true
  ruled : w.params.followText "set-order" = true ∨ t.led = true
  gap : 5 * ks.length < 3 * t.mask
end
section
variable {P : Program} {w : World} {A : Around} {E : Value → Shared → Prop} {z : Shared}
theorem cls_tup {n : Nat} {b : Addr} {o : Obj} {vs : Array Value} {m : Nat} (hg : z.heap.get? b = some o) (hk : o.cls = .type "tuple") (hv : o.data = .seq vs m)
    (all : ∀ v ∈ vs.toList, Mute P w ofAClassStatement false n z v) : Mute P w ofAClassStatement false (n + 1) z (.ref b) := by
  intro A E Q hq
  unfold ofAClassStatement
  refine wpAny_bind (wpAny_typeOf ⟨o, hg, hk⟩ ?_)
  dsimp only
  simp only [show (("tuple" : String) == "tuple") = true from by decide, if_true, Bool.not_true, Bool.false_eq_true, if_false]
  refine wpAny_bind (wpAny_pure ?_)
  try simp only [Bool.not_true, Bool.false_eq_true, if_false]
  refine wpAny_bind (wpAny_seqItems hg hv ?_)
  dsimp only
  rw [← Array.forIn_toList]
  refine wpAny_bind (wpAny_forIn_list _ (fun rest r z' => r.1 = none ∧ z' = z ∧ ∀ v ∈ rest, Mute P w ofAClassStatement false n z v) _ ?_ ?_ _ _ ⟨rfl, rfl, all⟩)
  · rintro v rest r z' ⟨_, rfl, al⟩
    refine wpAny_bind (al v List.mem_cons_self _ _ _ ?_)
    simp only [Bool.false_eq_true, if_false]
    exact wpAny_pure ⟨rfl, rfl, fun u hu => al u (List.mem_cons_of_mem _ hu)⟩
  · rintro ⟨r1, r2⟩ z' ⟨e, rfl, _⟩
    cases e
    exact wpAny_pure hq
theorem hsh_tup {n : Nat} {b : Addr} {o : Obj} {vs : Array Value} {m : Nat} (hg : z.heap.get? b = some o) (hk : o.cls = .type "tuple") (hv : o.data = .seq vs m)
    (all : ∀ v ∈ vs.toList, Mute P w hashByValue true n z v) : Mute P w hashByValue true (n + 1) z (.ref b) := by
  intro A E Q hq
  unfold hashByValue
  refine wpAny_bind (wpAny_specialOf ⟨o, hg, hk⟩ F.slot_tuple_hash.lookup ?_)
  show wpAny _ _ (seqItems? (.ref b) >>= _) _ _ z
  refine wpAny_bind (wpAny_seqItems hg hv ?_)
  show wpAny _ _ (forIn vs _ _ >>= _) _ _ z
  rw [← Array.forIn_toList]
  refine wpAny_bind (wpAny_forIn_list _ (fun rest r z' => r.1 = none ∧ z' = z ∧ ∀ v ∈ rest, Mute P w hashByValue true n z v) _ ?_ ?_ _ _ ⟨rfl, rfl, all⟩)
  · rintro v rest r z' ⟨_, rfl, al⟩
    refine wpAny_bind (al v List.mem_cons_self _ _ _ ?_)
    simp only [Bool.not_true, Bool.false_eq_true, if_false]
    exact wpAny_pure ⟨rfl, rfl, fun u hu => al u (List.mem_cons_of_mem _ hu)⟩
  · rintro ⟨r1, r2⟩ z' ⟨e, rfl, _⟩
    cases e
    exact wpAny_pure hq
theorem depth_in {k : NestedKey} : ∀ {ks : List NestedKey}, k ∈ ks → k.depth ≤ NestedKey.depthAll ks
  | x :: xs, h => by
    show k.depth ≤ max x.depth (NestedKey.depthAll xs)
    rcases List.mem_cons.mp h with e | e
    · rw [e]; exact Nat.le_max_left _ _
    · exact Nat.le_trans (depth_in e) (Nat.le_max_right _ _)
theorem each_key {h : Heap} : ∀ {ks : List NestedKey} {us : List Value}, NestedAll h ks us → ∀ v ∈ us, ∃ k ∈ ks, NestedIs h k v
  | _, _, .nil => fun v hv => nomatch hv
  | _, _, .cons a r => fun v hv => by
    rcases List.mem_cons.mp hv with e | e
    · exact ⟨_, List.mem_cons_self, by rw [e]; exact a⟩
    · obtain ⟨k, h1, h2⟩ := each_key r v e
      exact ⟨k, List.mem_cons_of_mem _ h1, h2⟩
theorem plain_in {k : NestedKey} : ∀ {ks : List NestedKey}, plainKs ks = true → k ∈ ks → plainK k = true
  | x :: xs, h, m => by
    obtain ⟨h1, h2⟩ := Bool.and_eq_true_iff.mp (show (plainK x && plainKs xs) = true from h)
    rcases List.mem_cons.mp m with e | e
    · rw [e]; exact h1
    · exact plain_in h2 e
theorem mute_key {f : Nat → Value → Sem Bool} {b : Bool} (num : ∀ n i v h, NestedIs h (.num i) v → f n v = pure b)
    (tup : ∀ {n : Nat} {c : Addr} {o : Obj} {vs : Array Value} {m : Nat}, z.heap.get? c = some o → o.cls = .type "tuple" → o.data = .seq vs m → (∀ v ∈ vs.toList, Mute P w f b n z v) → Mute P w f b (n + 1) z (.ref c)) :
    ∀ (n : Nat) (k : NestedKey) (v : Value), NestedIs z.heap k v → plainK k = true → k.depth ≤ n → Mute P w f b n z v := by
  intro n
  induction n with
  | zero =>
    intro k v h pl d
    cases k with
    | num i => intro A E Q hq; rw [num 0 i v _ h]; exact wpAny_pure hq
    | tup ks => exact absurd d (Nat.not_succ_le_zero _)
    | none => cases pl
    | text i => cases pl
  | succ n ih =>
    intro k v h pl d
    cases k with
    | num i => intro A E Q hq; rw [num _ i v _ h]; exact wpAny_pure hq
    | none => cases pl
    | text i => cases pl
    | tup ks =>
      have d' : NestedKey.depthAll ks ≤ n := Nat.le_of_succ_le_succ d
      cases h with
      | tup h1 h2 h3 h4 =>
        refine tup h1 h2 h3 fun u hu => ?_
        obtain ⟨k, hk, hi⟩ := each_key h4 u hu
        exact ih k u hi (plain_in pl hk) (Nat.le_trans (depth_in hk) d')
theorem cls_key {p : NestedKey × Addr} (h : AtR P w z.heap p) (pl : plainK p.1 = true) : Mute P w ofAClassStatement false 8 z (.ref p.2) :=
  mute_key (fun n i v _ q => by cases q <;> (unfold ofAClassStatement; rfl)) cls_tup 8 _ _ h.1 pl h.2
theorem hsh_key {p : NestedKey × Addr} (h : AtR P w z.heap p) (pl : plainK p.1 = true) : Mute P w hashByValue true 8 z (.ref p.2) :=
  mute_key (fun n i v _ q => by cases q <;> (unfold hashByValue; rfl)) hsh_tup 8 _ _ h.1 pl h.2
theorem unseen {q : NestedKey × Addr} (hq : AtK P w z.heap q) : ∀ (ys : List (NestedKey × Addr)), (∀ p ∈ ys, AtK P w z.heap p) → ∀ {Q : Bool → Shared → Prop}, Q false z →
    wpAny (model P w) A (searchCouldBeSeen (.ref q.2) (ys.map fun p => Value.ref p.2)) Q E z := by
  intro ys hy Q h
  unfold searchCouldBeSeen
  refine wpAny_bind (wpAny_forIn_list _ (fun rest r z' => r.1 = none ∧ z' = z ∧ ∃ l : List (NestedKey × Addr), rest = l.map (fun p => Value.ref p.2) ∧ ∀ p ∈ l, AtK P w z.heap p) _ ?_ ?_ _ _ ⟨rfl, rfl, ys, rfl, hy⟩)
  · rintro v rest r z' ⟨_, rfl, l, e, al⟩
    cases l with
    | nil => cases e
    | cons p l =>
      rw [List.map_cons] at e
      injection e with e1 e2
      subst e1 e2
      have next : (none : Option Bool) = none ∧ z' = z' ∧ ∃ l2 : List (NestedKey × Addr), (l.map fun p => Value.ref p.2) = l2.map (fun p => Value.ref p.2) ∧ ∀ p ∈ l2, AtK P w z'.heap p := ⟨rfl, rfl, l, rfl, fun p hp => al p (List.mem_cons_of_mem _ hp)⟩
      have hp := al p List.mem_cons_self
      dsimp only
      split
      · exact wpAny_pure next
      · refine wpAny_bind ((nestedKind P w).quiet hq.1 ?_)
        simp only [Bool.not_true, Bool.false_eq_true, if_false]
        refine wpAny_bind ((nestedKind P w).quiet hp.1 ?_)
        simp only [Bool.not_true, Bool.false_eq_true, if_false]
        refine wpAny_bind (cls_key hq.1 hq.2 _ _ _ ?_)
        simp only [Bool.false_eq_true, if_false]
        refine wpAny_bind (cls_key hp.1 hp.2 _ _ _ ?_)
        simp only [Bool.false_eq_true, if_false]
        exact wpAny_pure next
  · rintro ⟨r1, r2⟩ z' ⟨e, rfl, _⟩
    cases e
    exact wpAny_pure h
end
section
variable {P : Program} {w : World} {hf : NestedKey → Int} {ks : List (NestedKey × Addr)} {es : Array (Int × Value)} {t : SetTable}
theorem Tb.size (T : Tb w hf ks es t) : es.size = ks.length := by
  rw [← Array.length_toList, T.hes, List.length_map]
theorem Tb.places (T : Tb w hf ks es t) : t.place.size = ks.length := by
  rw [T.ok.sz, List.length_map]
theorem fits_of {n : Nat} (h1 : t.place.size = n) (h2 : t.dummies = #[]) (h3 : n ≤ t.mask) : t.fits n = true := by
  unfold SetTable.fits SetTable.fill
  rw [h2, h1, beq_self_eq_true, Bool.true_and, decide_eq_true_eq]
  exact h3
theorem Tb.fits (T : Tb w hf ks es t) : t.fits es.size = true :=
  fits_of (by rw [T.places, T.size]) T.ok.dm (by have := T.gap; have := T.size; omega)
theorem Tb.row (T : Tb w hf ks es t) {i : Nat} {p : NestedKey × Addr} (h : ks[i]? = some p) : es[i]? = some (cell hf p) := by
  rw [← Array.getElem?_toList, T.hes, List.getElem?_map, h, Option.map_some]
end
section
variable {P : Program} {w : World} {A : Around} {E : Value → Shared → Prop} {z : Shared} {hf : NestedKey → Int} {S : Addr} {ks : List (NestedKey × Addr)} {es : Array (Int × Value)} {ep : Nat} {t : SetTable}
theorem calm_on (m : Nat) : ∀ (n : Nat) (p : SetTable.Probe), p.dummy = none → (nth m p n).dummy = none
  | 0, _, h => h
  | n + 1, p, h => calm_on m n (adv m p) (by unfold adv; split <;> exact h)
theorem probe_go (t : SetTable) (f : Nat → Int) (h : Int) (p : SetTable.Probe) : t.probe f h p = SetTable.probe.go t f h (10 * SetTable.turns t.mask) p := rfl
/-- the search for a rule, from the c-th place of its way on -/
theorem seek {o : Obj} (hS : z.heap.get? S = some o) (hD : o.data = .set es ep t) (T : Tb w hf ks es t) (hks : ∀ p ∈ ks, AtK P w z.heap p) {q : NestedKey × Addr} (hq : AtK P w z.heap q) (hu : A.units + 8 < cLine)
    {p0 : SetTable.Probe} (calm : p0.dummy = none) {K : Nat} (hKt : K < 10 * SetTable.turns t.mask) (free : (nth t.mask p0 K).j ∉ t.place.toList) (busy : ∀ c, c < K → (nth t.mask p0 c).j ∈ t.place.toList) {Q : SetFound → Shared → Prop}
    (old : q.1 ∈ ks.map (·.1) → Q (.there none) z) (new : q.1 ∉ ks.map (·.1) → Q (.free ((nth t.mask p0 K).j) false) z) :
    ∀ (f c : Nat) (st : Option SetTable.Probe), c ≤ K → K < f + c → st.getD (t.probeStart (hf q.1)) = nth t.mask p0 c →
      (∀ (i : Nat) p, ks[i]? = some p → p.1 = q.1 → ∃ d, c ≤ d ∧ d < K ∧ t.place.toList[i]? = some ((nth t.mask p0 d).j)) →
      wpAny (model P w) A (setSearchFrom S (.ref q.2) (hf q.1) true f st) Q E z := by
  intro f
  induction f with
  | zero => intro c st h1 h2; exact absurd h2 (by omega)
  | succ f ih =>
    intro c st hc hfu hst left
    rw [setSearchFrom_succ]
    refine wpAny_bind (wpAny_setState_of hS hD T.fits ?_)
    dsimp only
    refine wp_if_neg (by unfold SetTable.gaveWay; rw [T.ok.md.odd]; decide) ?_
    try refine wpAny_bind (wpAny_pure ?_)
    rw [hst]
    have step : ∀ d, nth t.mask (nth t.mask p0 c) d = nth t.mask p0 (c + d) := fun d => (nth_add ..).symm
    have sp := go_spec t T.ok.ris T.ok.dm (fun i => (es[i]?.map (·.1)).getD 0) (hf q.1) (10 * SetTable.turns t.mask) (K - c) (nth t.mask p0 c) (calm_on _ _ _ calm) (by omega)
      (fun d hd => by rw [step]; exact busy _ (by omega)) (by rw [step, Nat.add_sub_cancel' hc]; exact free)
    have code : ∀ (i : Nat) p, ks[i]? = some p → (es[i]?.map (·.1)).getD 0 = hf p.1 := fun i p hp => by rw [T.row hp, Option.map_some, Option.getD_some]
    simp only [step, Nat.add_sub_cancel' hc] at sp
    rcases sp with ⟨d, i, hd, hi, hh, before, go⟩ | ⟨before, go⟩
    · rw [probe_go, go]
      dsimp only
      have hil : i < ks.length := by
        have h1 := (List.getElem?_eq_some_iff.mp hi).1
        rw [Array.length_toList, T.places] at h1
        exact h1
      obtain ⟨p, hp⟩ : ∃ p, ks[i]? = some p := ⟨_, List.getElem?_eq_getElem hil⟩
      have hm : p ∈ ks := List.mem_of_getElem? hp
      have look : wpAny (model P w) A (searchRest S (.ref q.2) (hf q.1) true f es t ((nth t.mask p0 (c + d)).j) i (nth t.mask p0 (c + (d + 1)))) Q E z := by
        unfold searchRest
        rw [T.row hp]
        dsimp only
        refine wpAny_bind (wpAny_holding ((nestedKind P w).eqBool hu (hks p hm).1 hq.1 ?_))
        refine wpAny_bind (wpAny_setState_of hS hD T.fits ?_)
        dsimp only
        by_cases same : p.1 = q.1
        · rw [show decide (p.1 = q.1) = true from decide_eq_true (by rw [same])]
          refine wp_if_pos rfl (wpAny_pure (old ?_))
          exact List.mem_map.mpr ⟨p, hm, same⟩
        · rw [show decide (p.1 = q.1) = false from decide_eq_false fun e => same e]
          refine wp_if_neg (by decide) ?_
          try refine wpAny_bind (wpAny_pure ?_)
          have hsl := slot_live T.ok.ris hi
          rw [sameMem]
          dsimp only
          simp only [if_true, hsl, T.row hp]
          refine wpAny_bind (wpAny_isSame_ref_self (wpAny_bind (wpAny_pure ?_)))
          simp only [if_true]
          refine wp_if_neg (by decide) ?_
          refine ih (c + (d + 1)) (some _) (by omega) (by omega) rfl fun i0 p0 h0 e0 => ?_
          obtain ⟨x, x1, x2, x3⟩ := left i0 p0 h0 e0
          refine ⟨x, ?_, x2, x3⟩
          by_cases lt : x < c + d
          · refine absurd (?_ : (es[i0]?.map (·.1)).getD 0 = hf q.1) (before (x - c) i0 (by omega) (by rw [Nat.add_sub_cancel' x1]; exact x3))
            rw [code i0 p0 h0, e0]
          · by_cases eq : x = c + d
            · rw [eq] at x3
              have s0 := slot_live T.ok.ris x3
              rw [hsl] at s0
              injection s0 with s0
              rw [← s0, hp] at h0
              cases h0
              exact absurd e0 same
            · omega
      by_cases hl : t.led = true
      · refine wp_if_neg (by rw [hl]; decide) ?_
        try refine wpAny_bind (wpAny_pure ?_)
        exact look
      · refine wp_if_pos (by rw [Bool.not_eq_true] at hl; rw [hl]; rfl) ?_
        have some_ : ∃ l : List (NestedKey × Addr), ((es.filter (·.1 == hf q.1)).toList.map (·.2)) = l.map (fun p => Value.ref p.2) ∧ ∀ p ∈ l, p ∈ ks := by
          refine ⟨ks.filter fun p => hf p.1 == hf q.1, ?_, fun p hp => (List.mem_filter.mp hp).1⟩
          rw [Array.toList_filter, T.hes, List.filter_map, List.map_map]
          rfl
        obtain ⟨l, el, hl2⟩ := some_
        rw [el]
        refine wpAny_bind (unseen hq l (fun p hp => hks p (hl2 p hp)) ?_)
        refine wp_if_neg (by decide) ?_
        try refine wpAny_bind (wpAny_pure ?_)
        exact look
    · rw [probe_go, go]
      dsimp only
      refine wpAny_pure (new fun hm => ?_)
      obtain ⟨p0, h0, e0⟩ := List.mem_map.mp hm
      obtain ⟨i0, h00⟩ := List.mem_iff_getElem?.mp h0
      obtain ⟨x, x1, x2, x3⟩ := left i0 p0 h00 e0
      refine before (x - c) i0 (by omega) (by rw [Nat.add_sub_cancel' x1]; exact x3) ?_
      show (es[i0]?.map (·.1)).getD 0 = _
      rw [code i0 p0 h00, e0]
theorem seek_at {o : Obj} (hS : z.heap.get? S = some o) (hD : o.data = .set es ep t) (T : Tb w hf ks es t) (hks : ∀ p ∈ ks, AtK P w z.heap p) {q : NestedKey × Addr} (hq : AtK P w z.heap q) (hu : A.units + 8 < cLine) {Q : SetFound → Shared → Prop}
    (old : q.1 ∈ ks.map (·.1) → Q (.there none) z)
    (new : ∀ K, q.1 ∉ ks.map (·.1) → way t.mask (hf q.1) K ∉ t.place.toList → (∀ c, c < K → way t.mask (hf q.1) c ∈ t.place.toList) → Q (.free (way t.mask (hf q.1) K) false) z) :
    wpAny (model P w) A (setSearch S (.ref q.2) (hf q.1) true) Q E z := by
  obtain ⟨K, k1, k2, k3⟩ := T.ok.first (by rw [List.length_map]; have := T.gap; omega) (hf q.1)
  have k4 : K < 100000 := by
    unfold SetTable.turns at k1
    rcases T.ok.md with e | e | e | e <;> (rw [e] at k1; omega)
  unfold setSearch
  refine seek (p0 := runAt t.mask (SetTable.bits (hf q.1) % (t.mask + 1)) (SetTable.bits (hf q.1))) hS hD T hks hq hu rfl k1 k2 k3 old (fun n => new K n k2 k3) 100000 0 none (Nat.zero_le _) (by omega) (start_run t _) fun i p hp e => ?_
  have hi : (ks.map fun p => hf p.1)[i]? = some (hf q.1) := by rw [List.getElem?_map, hp, Option.map_some, e]
  obtain ⟨j, hj⟩ : ∃ j, t.place.toList[i]? = some j := ⟨_, List.getElem?_eq_getElem (by rw [Array.length_toList, T.places]; exact (List.getElem?_eq_some_iff.mp hp).1)⟩
  obtain ⟨d, d1, d2⟩ := T.ok.ahead k2 hi hj
  exact ⟨d, Nat.zero_le _, d1, by rw [hj, ← d2]⟩
end
section
variable {P : Program} {w : World} {A : Around} {E : Value → Shared → Prop} {z : Shared} {hf : NestedKey → Int} {S : Addr} {ks : List (NestedKey × Addr)} {es : Array (Int × Value)} {ep : Nat} {t : SetTable}
/-- a rule's tuples stay where a set is written -/
theorem atR_but {h h' : Heap} {p : NestedKey × Addr} {o : Obj} (x : AtK P w h p) (hS : h.get? S = some o) (hD : o.data = .set es ep t) (b : Heap.SameBut S h h') : AtK P w h' p := by
  refine ⟨nestedKind_stays.stays (fun c oc vs n g1 g2 => ?_) x.1, x.2⟩
  refine (b.2 c fun e => ?_).trans g1
  subst e
  rw [hS] at g1
  cases g1
  rw [hD] at g2
  cases g2
theorem atR_keep {h h' : Heap} {p : NestedKey × Addr} (x : AtK P w h p) (k : ∀ c o, h.get? c = some o → h'.get? c = some o) : AtK P w h' p :=
  ⟨nestedKind_stays.stays (fun c oc vs n g1 _ => k c oc g1) x.1, x.2⟩
theorem range_gets {α : Type} (xs : List α) : (List.range xs.length).filterMap (fun i => xs[i]?) = xs := by
  induction xs with
  | nil => rfl
  | cons x xs ih =>
    rw [List.length_cons, List.range_succ_eq_map, List.filterMap_cons]
    simp only [List.getElem?_cons_zero, List.filterMap_map]
    have e : ((fun i => (x :: xs)[i]?) ∘ Nat.succ) = fun i => xs[i]? := funext fun i => by simp
    rw [e, ih]
theorem picks {hs : Array Int} (hh : hs.toList = ks.map fun p => hf p.1) : ∀ l : List Nat, (∀ i ∈ l, i < ks.length) → ((l.filterMap fun i => ks[i]?).map fun p => hf p.1) = l.map fun i => hs.getD i 0
  | [], _ => rfl
  | i :: l, h => by
    have hi := h i List.mem_cons_self
    have e : ks[i]? = some ks[i] := List.getElem?_eq_getElem hi
    have e2 : hs.getD i 0 = hf ks[i].1 := by
      rw [Array.getD_eq_getD_getElem?, ← Array.getElem?_toList, hh, List.getElem?_map, e, Option.map_some, Option.getD_some]
    rw [List.filterMap_cons_some e, List.map_cons, List.map_cons, picks hh l fun j hj => h j (List.mem_cons_of_mem _ hj), e2]
theorem put_at_perm {α : Type} (n : Nat) (x : α) (l : List α) : (l.take n ++ x :: l.drop n).Perm (x :: l) := by
  have h := List.perm_middle (a := x) (l₁ := l.take n) (l₂ := l.drop n)
  rwa [List.take_append_drop] at h
/-- laid anew -/
theorem relay_all {o : Obj} (hS : z.heap.get? S = some o) (hX : o.ExactSet) (hD : o.data = .set es ep t) (hes : es.toList = ks.map (cell hf)) (hpl : t.place.size = ks.length) (hdm : t.dummies = #[]) (hle : ks.length ≤ t.mask)
    (one : (ks.map (·.1)).Nodup) (val : t.plain = true) (ruled : w.params.followText "set-order" = true ∨ t.led = true) {M : Nat} (hM : MaskD M) (few : 5 * ks.length < 3 * M) {n : Nat} (hn : SetTable.sizeAbove n = M + 1) {Q : Unit → Shared → Prop}
    (go : ∀ h' ks' o' es' ep' t', Heap.SameBut S z.heap h' → h'.get? S = some o' → o'.ExactSet → o'.data = .set es' ep' t' → Tb w hf ks' es' t' → ks'.Perm ks → Q () { z with heap := h' }) :
    wpAny (model P w) A (setRelay S n) Q E z := by
  have hsz : es.size = ks.length := by rw [← Array.length_toList, hes, List.length_map]
  have hh : (es.map (·.1)).toList = ks.map fun p => hf p.1 := by
    rw [Array.toList_map, hes, List.map_map]; rfl
  have top : M ≤ 511 := by rcases hM with e | e | e | e <;> omega
  obtain ⟨t', order, e1, e2, e3, e4, e5, e6⟩ := relaid_D t (hs := es.map (·.1)) (wanted := n) (M := M) (by rw [hn]; rfl) hM (by rw [Array.size_map, hsz]; omega)
  rw [Array.size_map, hsz] at e2
  obtain ⟨ks', hks'⟩ : ∃ l, l = order.toList.filterMap fun i => ks[i]? := ⟨_, rfl⟩
  have pm : ks'.Perm ks := by
    have q := e2.filterMap fun i => ks[i]?
    rw [range_gets] at q
    rw [hks']; exact q
  have hnew : (order.filterMap (es[·]?)).toList = ks'.map (cell hf) := by
    rw [Array.toList_filterMap, hks', List.map_filterMap]
    refine congrArg (fun f => List.filterMap f order.toList) (funext fun i => ?_)
    rw [← Array.getElem?_toList, hes, List.getElem?_map]
  have hnz : (order.filterMap (es[·]?)).size = es.size := by
    rw [← Array.length_toList, hnew, List.length_map, pm.length_eq, hsz]
  have hcodes : (ks'.map fun p => hf p.1) = order.toList.map fun i => (es.map (·.1)).getD i 0 := by
    rw [hks']
    exact picks hh _ fun i hi => List.mem_range.mp (e2.mem_iff.mp hi)
  rw [setRelay_eq]
  refine wpAny_bind (wpAny_setState_of hS hD (fits_of (by rw [hpl, hsz]) hdm (by omega)) ?_)
  dsimp only
  refine wp_if_neg (by rw [hn, sizeLine_eq]; simp; omega) ?_
  try refine wpAny_bind (wpAny_pure ?_)
  rw [e1]
  dsimp only
  refine wpAny_bind ?_
  refine wp_if_neg (by rw [hnz]; simp) ?_
  try refine wpAny_bind (wpAny_pure ?_)
  refine wpAny_pure ?_
  dsimp only
  refine wpAny_storeSet_of hS hD ?_ (by rw [hnz, hsz, sizeLine_eq]; omega)
  refine go _ ks' _ _ (ep + 1) t' (Heap.SameBut.update ..) (store_at hS hD) ⟨hX.1, hX.2.1, hX.2.2⟩ rfl ⟨hnew, by rw [hcodes]; exact e3, (pm.map (·.1)).nodup_iff.mpr one, e6.trans val, by rw [e5]; exact ruled, by rw [pm.length_eq, e4]; omega⟩ pm
/-- a set of few rules at S -/
def Holds (P : Program) (w : World) (hf : NestedKey → Int) (S : Addr) (h : Heap) (ks : List (NestedKey × Addr)) : Prop := ∃ o es ep t, h.get? S = some o ∧ o.ExactSet ∧ o.data = .set es ep t ∧ Tb w hf ks es t
/-- adding a rule -/
theorem add_rule (H : Holds P w hf S z.heap ks) (hks : ∀ p ∈ ks, AtK P w z.heap p) {q : NestedKey × Addr} (hq : AtK P w z.heap q) (hu : A.units + 8 < cLine) (few : ks.length ≤ 300) {Q : Bool → Shared → Prop}
    (go : ∀ b h' ks', Heap.SameBut S z.heap h' → Holds P w hf S h' ks' → (q.1 ∈ ks.map (·.1) → ks' = ks) → (q.1 ∉ ks.map (·.1) → ks'.Perm (q :: ks)) → Q b { z with heap := h' }) :
    wpAny (model P w) A (setAddHashed S (.ref q.2) (hf q.1)) Q E z := by
  obtain ⟨o, es, ep, t, hS, hX, hD, T⟩ := H
  unfold setAddHashed
  refine wpAny_holding ?_
  rw [show (100000 : Nat) = 99999 + 1 from rfl, setAddHashedIn_succ]
  refine wpAny_bind (wpAny_setState_of hS hD T.fits ?_)
  dsimp only
  refine wp_if_neg (by unfold byScan; simp [Value.scannable]) ?_
  try refine wpAny_bind (wpAny_pure ?_)
  refine wpAny_bind (seek_at hS hD T hks hq hu (fun hm => ?_) fun K hm free busy => ?_)
  · dsimp only
    exact wpAny_pure (go false z.heap ks (Heap.SameBut.refl S z.heap) ⟨o, es, ep, t, hS, hX, hD, T⟩ (fun _ => rfl) fun n => absurd hm n)
  dsimp only
  refine wpAny_bind (wpAny_setState_of hS hD T.fits ?_)
  dsimp only
  obtain ⟨n1, t1, q1, q2, q3, q4, q5, q6, q9⟩ := T.ok.put free busy
  rw [q1]
  dsimp only
  rw [List.length_map] at q2 q9
  have pm := put_at_perm n1 q ks
  have rows : (SetTable.insertAt es n1 (hf q.1, Value.ref q.2)).toList = (ks.take n1 ++ q :: ks.drop n1).map (cell hf) := by
    rw [SetTable.toList_insertAt, T.hes, List.map_append, List.map_cons, List.map_take, List.map_drop]
  have codes : ((ks.map fun p => hf p.1).take n1 ++ hf q.1 :: (ks.map fun p => hf p.1).drop n1) = (ks.take n1 ++ q :: ks.drop n1).map fun p => hf p.1 := by
    rw [List.map_append, List.map_cons, List.map_take, List.map_drop]
  rw [codes] at q3
  generalize ks.take n1 ++ q :: ks.drop n1 = ks1 at pm rows q3
  have len1 : ks1.length = ks.length + 1 := pm.length_eq
  generalize SetTable.insertAt es n1 (hf q.1, Value.ref q.2) = es1 at rows ⊢
  have size1 : es1.size = ks1.length := by rw [← Array.length_toList, rows, List.length_map]
  have one1 : (ks1.map (·.1)).Nodup := (pm.map (·.1)).nodup_iff.mpr (by rw [List.map_cons]; exact List.nodup_cons.mpr ⟨hm, T.one⟩)
  have val1 : t1.plain = true := q6.trans T.val
  have ruled1 : w.params.followText "set-order" = true ∨ t1.led = true := by rw [q5]; exact T.ruled
  have tail : ∀ z1 : Shared, z1 = { z with heap := z.heap.update S (Obj.putSet es1 t1) } → wpAny (model P w) A (do
      if !false && t1.tooFull then setRelay S (SetTable.grown (es.size + 1))
      return true) Q E z1 := fun z1 ez => by
    subst ez
    have sb : Heap.SameBut S z.heap (z.heap.update S (Obj.putSet es1 t1)) := Heap.SameBut.update ..
    have g1 := store_at (es' := es1) (t' := t1) hS hD
    generalize z.heap.update S (Obj.putSet es1 t1) = h1 at sb g1 ⊢
    have full : t1.tooFull = true ↔ 5 * (ks.length + 1) ≥ 3 * t.mask := by
      unfold SetTable.tooFull
      rw [decide_eq_true_eq, q9, q4]
      omega
    by_cases hf1 : t1.tooFull = true
    · have m7 := full.mp hf1
      have gap := T.gap
      obtain ⟨M, hM, k5, hn⟩ : ∃ M, MaskD M ∧ 5 * (ks.length + 1) < 3 * M ∧ SetTable.sizeAbove (SetTable.grown (ks.length + 1)) = M + 1 := by
        rcases T.ok.md with e | e | e | e
        · have : ks.length = 4 := by omega
          exact ⟨31, .inr (.inl rfl), by omega, by rw [this]; exact grown_5⟩
        · have : ks.length = 18 := by omega
          exact ⟨127, .inr (.inr (.inl rfl)), by omega, by rw [this]; exact grown_19⟩
        · have : ks.length = 76 := by omega
          exact ⟨511, .inr (.inr (.inr rfl)), by omega, by rw [this]; exact grown_77⟩
        · omega
      refine wp_if_pos (by rw [hf1]; rfl) ?_
      refine wpAny_bind (relay_all (z := { z with heap := h1 }) (ks := ks1) g1 ⟨hX.1, hX.2.1, hX.2.2⟩ rfl rows (by rw [q3.sz, List.length_map]) q3.dm (by rw [q4]; omega) one1 val1 ruled1 hM (by omega) (by rw [T.size]; exact hn) ?_)
      intro h' ks' o' es' ep' t' sb' g' x' d' T' pm'
      exact wpAny_pure (go true h' ks' (sb.trans sb') ⟨o', es', ep', t', g', x', d', T'⟩ (fun y => absurd y hm) fun _ => pm'.trans pm)
    · refine wp_if_neg (by rw [Bool.not_eq_true] at hf1; rw [hf1]; decide) ?_
      try refine wpAny_bind (wpAny_pure ?_)
      have nf := mt full.mpr hf1
      exact wpAny_pure (go true h1 ks1 sb ⟨_, es1, ep + 1, t1, g1, ⟨hX.1, hX.2.1, hX.2.2⟩, rfl, ⟨rows, q3, one1, val1, ruled1, by rw [q4]; omega⟩⟩ (fun y => absurd y hm) fun _ => pm)
  refine wp_if_pos val1 (wpAny_bind (hsh_key hq.1 hq.2 _ _ _ ?_))
  simp only [if_true]
  refine wpAny_bind (wpAny_storeSet_of hS hD ?_ (by rw [size1, sizeLine_eq]; omega))
  exact tail _ rfl
end
end DL
set_option Elab.async false
set_option linter.all false
set_option maxRecDepth 100000
set_option maxHeartbeats 4000000
/-! set(t) of a tuple or a list of tuples. -/
namespace DL
open PySem PySem.Spec PyProof.Rows L2
open PySem.W (Frag)
/-- what a set has of the first i of src -/
structure Took (src : List (NestedKey × Addr)) (i : Nat) (ks : List (NestedKey × Addr)) : Prop where
  sub : ∀ p ∈ ks, p ∈ src
  all : ∀ p ∈ src.take i, p.1 ∈ ks.map (·.1)
  len : ks.length ≤ i
theorem Took.next {src ks ks' : List (NestedKey × Addr)} {i : Nat} {q : NestedKey × Addr} (T : Took src i ks) (h : src[i]? = some q) (old : q.1 ∈ ks.map (·.1) → ks' = ks) (new : q.1 ∉ ks.map (·.1) → ks'.Perm (q :: ks)) : Took src (i + 1) ks' := by
  have tk : src.take (i + 1) = src.take i ++ [q] := by rw [List.take_add_one, h]; rfl
  by_cases c : q.1 ∈ ks.map (·.1)
  · rw [old c]
    refine ⟨T.sub, fun p hp => ?_, Nat.le_succ_of_le T.len⟩
    rw [tk] at hp
    rcases List.mem_append.mp hp with x | x
    · exact T.all p x
    · rw [List.mem_singleton.mp x]; exact c
  · have pm := new c
    refine ⟨fun p hp => ?_, fun p hp => ?_, by rw [pm.length_eq]; exact Nat.succ_le_succ T.len⟩
    · rcases List.mem_cons.mp (pm.mem_iff.mp hp) with x | x
      · rw [x]; exact List.mem_of_getElem? h
      · exact T.sub p x
    · refine (pm.map (·.1)).mem_iff.mpr ?_
      rw [List.map_cons]
      rw [tk] at hp
      rcases List.mem_append.mp hp with x | x
      · exact List.mem_cons_of_mem _ (T.all p x)
      · rw [List.mem_singleton.mp x]; exact List.mem_cons_self
section
variable {P : Program} {w : World} {A : Around} {E : Value → Shared → Prop} {z : Shared}
theorem holds_but {S : Addr} {h h' : Heap} {ks : List (NestedKey × Addr)} {hf : NestedKey → Int} (x : Holds P w hf S h ks) (k : ∀ o, h.get? S = some o → h'.get? S = some o) : Holds P w hf S h' ks := by
  obtain ⟨o, es, ep, t, g, r⟩ := x
  exact ⟨o, es, ep, t, k o g, r⟩
theorem holds_none {S : Addr} {h : Heap} (g : h.get? S = some { cls := .type "set", dict := none, data := .set #[] 0 (.fresh 0 0 (!w.params.followText "set-order")) }) : Holds P w (hR P w) S h [] :=
  ⟨_, #[], 0, _, g, ⟨rfl, rfl, rfl⟩, rfl, ⟨rfl, ⟨List.Pairwise.nil, rfl, rfl, .inl rfl, fun x hx => (by cases hx), fun i h j hi => (by simp at hi)⟩, List.nodup_nil, rfl, by
    show _ ∨ (!w.params.followText "set-order") = true
    by_cases c : w.params.followText "set-order" = true
    · exact .inl c
    · exact .inr (by rw [Bool.not_eq_true] at c; rw [c]; rfl), (show 5 * 0 < 3 * 7 by decide)⟩⟩
end
section
variable {P : Program} {w : World} {A : Around} {E : Value → Shared → Prop} {z : Shared}
/-- a new set's object -/
abbrev blank (w : World) : Obj := { cls := .type "set", dict := none, data := .set #[] 0 (.fresh 0 0 (!w.params.followText "set-order")) }
/-- what set(..) leaves -/
def Made (P : Program) (w : World) (src : List (NestedKey × Addr)) (z : Shared) (r : Value) (z' : Shared) : Prop := ∃ h' tk ks, r = .ref z.heap.objs.size ∧ z' = { z with heap := h', toks := tk } ∧ Holds P w (hR P w) z.heap.objs.size h' ks ∧ Took src src.length ks ∧ (∀ b o, z.heap.get? b = some o → h'.get? b = some o)
end
section
variable {P : Program} {w : World} {A : Around} {E : Value → Shared → Prop} {z : Shared}
/-- the loop that fills a set -/
theorem fill_loopT {src : List (NestedKey × Addr)} {I S l : Addr} {items : Array Value} (hh : A.in1.handled = none) (hIl : l ≠ I) (hSI : S ≠ I) (hSl : S ≠ l) (hit : items.toList = src.map fun p => Value.ref p.2) (few : src.length ≤ 300) (hu : A.in1.units + 8 < cLine)
    {R : Result → Shared → Prop} {h0 : Heap} (sits : ∀ p ∈ src, AtK P w h0 p) (nS : h0.get? S = none) (nI : h0.get? I = none) {z0 : Shared}
    (fin : ∀ z ks, Moved [S, I] (fun a b => b = a) z0 z → (∀ b o, h0.get? b = some o → z.heap.get? b = some o) → Holds P w (hR P w) S z.heap ks → Took src src.length ks → R (.ok (.ret .none)) z) :
    ∀ (n i : Nat) (z : Shared) (ks : List (NestedKey × Addr)), n + i = src.length → (z.heap.IsTupleIter I l i ∧ z.heap.IsTuple l items) → Moved [S, I] (fun a b => b = a) z0 z → (∀ b o, h0.get? b = some o → z.heap.get? b = some o) →
      Holds P w (hR P w) S z.heap ks → Took src i ks → codeAny (model P w) A (.builtin "set.update.loop" ⟨[.ref S, .ref I], []⟩) R z := by
  have hlen : items.size = src.length := by rw [← Array.length_toList, hit, List.length_map]
  have W := (Walks.tuple (prog := P) (w := w) hh I l hIl items).toS
  have up : ∀ b ∈ [I], b ∈ [S, I] := fun b hb => List.mem_cons_of_mem _ hb
  have keep : ∀ {z1 z2 : Shared}, Moved [I] (fun a b => b = a) z1 z2 → (∀ b o, h0.get? b = some o → z1.heap.get? b = some o) → ∀ b o, h0.get? b = some o → z2.heap.get? b = some o := fun m k b o e =>
    m.heap b o (fun hb => by rw [List.mem_singleton.mp hb, nI] at e; cases e) (k b o e)
  have tr : ∀ {z1 z2 z3 : Shared}, Moved [S, I] (fun a b => b = a) z1 z2 → Moved [S, I] (fun a b => b = a) z2 z3 → Moved [S, I] (fun a b => b = a) z1 z3 := fun m1 m2 => m1.trans (fun _ _ _ e1 e2 => e2.trans e1) m2
  intro n
  induction n with
  | zero =>
    intro i z ks hi st mv k H T
    have ei : i = items.size := by omega
    subst ei
    refine codeAny_builtin F.entry_set_update_loop ?_
    rw [Around.under_plainId F.plain_set_update_loop _]
    show wpAny _ A.in1 (pyNext (.ref I) >>= _) _ _ z
    refine wpAny_bind (W.done z _ _ st fun z' m => ?_)
    rw [hlen] at T
    exact wpAny_pure (fin z' ks (tr mv (m.mono up)) (keep m k) (holds_but H fun o e => m.heap S o (fun y => hSI (List.mem_singleton.mp y)) e) T)
  | succ n ih =>
    intro i z ks hi st mv k H T
    refine codeAny_builtin F.entry_set_update_loop ?_
    rw [Around.under_plainId F.plain_set_update_loop _]
    show wpAny _ A.in1 (pyNext (.ref I) >>= _) _ _ z
    refine wpAny_bind (W.item i z _ _ (by omega) st fun v z' hv st' m => ?_)
    obtain ⟨q, hq, rfl⟩ : ∃ q, src[i]? = some q ∧ v = Value.ref q.2 := by
      have e : items.toList[i]? = some v := by rw [Array.getElem?_toList]; exact hv
      rw [hit, List.getElem?_map] at e
      cases g : src[i]? with
      | none => rw [g] at e; cases e
      | some q => rw [g] at e; exact ⟨q, rfl, (Option.some.inj e).symm⟩
    have k' := keep m k
    have H' : Holds P w (hR P w) S z'.heap ks := holds_but H fun o e => m.heap S o (fun y => hSI (List.mem_singleton.mp y)) e
    have sit : ∀ p ∈ src, AtK P w z'.heap p := fun p hp => atR_keep (sits p hp) k'
    show wpAny _ A.in1 (holding [Value.ref q.2] (setAdd S (.ref q.2)) >>= _) _ _ z'
    refine wpAny_bind (wpAny_holding ?_)
    unfold setAdd
    refine wpAny_holding (wpAny_bind ((nestedKind P w).pyHash hu (sit q (List.mem_of_getElem? hq)).1 ?_))
    refine add_rule (z := { z' with toks := z'.toks + (nestedKind P w).draws q.1 }) (hf := hR P w) H' (fun p hp => sit p (T.sub p hp)) (sit q (List.mem_of_getElem? hq)) hu (by have := T.len; omega) fun b h' ks' sb H2 old new => ?_
    have keepS : ∀ c, c ≠ S → ∀ o, z'.heap.get? c = some o → h'.get? c = some o := fun c hc o e => (sb.2 c hc).trans e
    have m2 : Moved [S, I] (fun a b => b = a) z' { z' with heap := h', toks := z'.toks + (nestedKind P w).draws q.1 } :=
      ⟨fun c o hc e => keepS c (fun y => hc (by rw [y]; exact List.mem_cons_self)) o e, rfl, rfl, rfl, Nat.le_add_right _ _⟩
    refine wpAny_pure ⟨plainId_quiet F.plain_set_update_loop _, ih (i + 1) _ ks' (by omega) (W.frame _ z' _ _ st' (Nat.le_add_right _ _) fun c hc o e => keepS c (fun y => ?_) o e) (tr (tr mv (m.mono up)) m2) (fun c o e => keepS c (fun y => ?_) o (k' c o e)) H2 (T.next hq old new)⟩
    · rcases List.mem_cons.mp hc with x | x
      · exact hSI (y.symm.trans x)
      · exact hSl (y.symm.trans (List.mem_singleton.mp x))
    · rw [y, nS] at e; cases e
end
section
variable {P : Program} {w : World} {A : Around} {E : Value → Shared → Prop} {z : Shared}
/-- its filling, from the blank set on -/
theorem fill_allT {src : List (NestedKey × Addr)} {l : Addr} {items : Array Value} (hh : A.in1.handled = none) (hl : z.heap.IsTuple l items) (hit : items.toList = src.map fun p => Value.ref p.2) (few : src.length ≤ 300) (hu : A.in1.units + 8 < cLine) (sits : ∀ p ∈ src, AtK P w z.heap p)
    {R : Result → Shared → Prop} (fin : ∀ z', Made P w src z (.ref z.heap.objs.size) z' → R (.ok (.ret .none)) z') :
    codeAny (model P w) A (.builtin "set.update.loop" ⟨[.ref z.heap.objs.size, .ref (z.heap.objs.size + 1)], []⟩) R
      { z with heap := (z.heap.push (blank w)).push { cls := .type "tuple_iterator", data := .fields #[.ref l, .int 0 0] } } := by
  have out : ∀ b, z.heap.objs.size ≤ b → z.heap.get? b = none := fun b hb => by
    cases g : z.heap.get? b with
    | none => rfl
    | some o => exact absurd (Nat.lt_of_lt_of_le (Heap.lt_size g) hb) (Nat.lt_irrefl _)
  have one : (z.heap.push (blank w)).objs.size = z.heap.objs.size + 1 := Heap.size_push ..
  obtain ⟨ol, hol, hol2⟩ := hl
  have lS := Heap.lt_size hol
  have kp : ∀ b o, z.heap.get? b = some o → ((z.heap.push (blank w)).push { cls := .type "tuple_iterator", data := .fields #[.ref l, .int 0 0] }).get? b = some o := fun b o e => Heap.get?_push_of_some _ (Heap.get?_push_of_some _ e)
  have gS : ((z.heap.push (blank w)).push { cls := .type "tuple_iterator", data := .fields #[.ref l, .int 0 0] }).get? z.heap.objs.size = some (blank w) := Heap.get?_push_of_some _ (Heap.get?_push_size _ rfl)
  have gI : ((z.heap.push (blank w)).push { cls := .type "tuple_iterator", data := .fields #[.ref l, .int 0 0] }).get? (z.heap.objs.size + 1) = some { cls := .type "tuple_iterator", data := .fields #[.ref l, .int 0 0] } := by
    rw [← one]; exact Heap.get?_push_size _ rfl
  refine fill_loopT (h0 := z.heap) (z0 := { z with heap := (z.heap.push (blank w)).push { cls := .type "tuple_iterator", data := .fields #[.ref l, .int 0 0] } }) hh (Nat.ne_of_lt (Nat.lt_succ_of_lt lS)) (Nat.ne_of_lt (Nat.lt_succ_self _)) (Nat.ne_of_gt lS) hit few hu sits (out _ (Nat.le_refl _)) (out _ (Nat.le_succ _)) (fun z' ks m k H T => fin z' ?_)
    src.length 0 _ [] rfl ⟨⟨_, gI, rfl, rfl⟩, ⟨ol, kp _ _ hol, hol2⟩⟩ (Moved.refl fun _ => rfl) kp (holds_none gS) ⟨fun p hp => (by cases hp), fun p hp => (by simp at hp), Nat.le_refl _⟩
  exact ⟨z'.heap, z'.toks, ks, rfl, m.eq_with, H, T, k⟩
end
section
variable {P : Program} {w : World} {A : Around} {E : Value → Shared → Prop} {z : Shared}
theorem call_setT {src : List (NestedKey × Addr)} {l : Addr} {items : Array Value} {Q : Value → Shared → Prop} (hh : A.handled = none) (hl : z.heap.IsTuple l items) (hit : items.toList = src.map fun p => Value.ref p.2) (few : src.length ≤ 300) (hu : A.units + 16 < cLine) (sits : ∀ p ∈ src, AtK P w z.heap p)
    (fin : ∀ z', Made P w src z (.ref z.heap.objs.size) z' → Q (.ref z.heap.objs.size) z') :
    wpAny (model P w) A (call (.type "set") [.ref l]) Q E z := by
  obtain ⟨mc, mt, hmro⟩ := F.called_set.mro
  have f1 := F.called_set.made
  have f2 := F.called_set.sub
  have f3 := F.called_set.notType
  have f4 := F.called_set.canCreate
  have f5 := F.typeCall_set_1 (.ref l)
  refine wpAny_call (codeAny_of_tree ?_)
  show wpAny _ _ (callAny (.type "set") _) _ _ z
  refine wpAny_pure ⟨Code.quiet_builtin _ (by decide +kernel), codeAny_builtin F.entry_type_call ?_⟩
  rw [Around.under_plain (weight_type_call_type "set" [.ref l] []) rfl]
  repeat (any_goals (first | assumption | wp_step))
  refine codeAny_mono (code_set_led1 (.ref l) (E := E) (Q₁ := fun v z1 => v = .ref z.heap.objs.size ∧ z1 = { z with heap := z.heap.push (blank w) }) ⟨rfl, rfl⟩) fun r z1 hr => ?_
  rcases r with e | fl
  · exact hr
  cases fl with
  | ret v =>
    obtain ⟨rfl, rfl⟩ := hr
    have ty : Shared.TypeIs { z with heap := z.heap.push (blank w) } (.ref z.heap.objs.size) "set" := ⟨_, Heap.get?_push_size _ rfl, rfl⟩
    have f6 := F.called_set.init.lookup
    have f7 := F.called_set.init.bind (.ref z.heap.objs.size)
    repeat (any_goals (first | assumption | wp_step))
    refine codeAny_mono (codeAny_call_builtin (R := wants (fun r z2 => r = .none ∧ Made P w src z (.ref z.heap.objs.size) z2) E) F.called_set.init.plain F.entry_set_init (check_set_init_1 ty ?_)) fun r2 z2 hr2 => ?_
    · have hl0 := hl
      obtain ⟨⟨oc, od, oda, osl⟩, hol, hcl, nl, hdl⟩ := hl
      simp only at hcl hdl
      subst hcl; subst hdl
      have hol1 : (z.heap.push (blank w)).get? l = some { cls := .type "tuple", dict := od, data := .seq items nl, slots := osl } := Heap.get?_push_of_some _ hol
      have g1 := F.sub_tuple_set
      have g2 := F.sub_tuple_frozenset
      have g3 : (Value.type "tuple" == Value.type "dict") = false := by decide
      have tup1 : (z.heap.push (blank w)).IsTuple l items := ⟨_, hol1, rfl, nl, rfl⟩
      unfold Builtin.«set.__init__» noKeywords Builtin.Frozenset.updateFrom
      generalize hPI : pyIter = PI
      wp_walk
      subst hPI
      refine wpAny_pyIter_tuple tup1 ?_
      refine wpAny_bind (wpAny_runValue ?_)
      rw [show (z.heap.push (blank w)).objs.size = z.heap.objs.size + 1 from Heap.size_push ..]
      refine fill_allT (by simp [hh]) hl0 hit few (by simp only [Around.in1_units]; omega) sits fun z' M => ?_
      show wpAny _ _ _ _ _ _
      refine wpAny_pure ?_
      exact wpAny_pure ⟨rfl, M⟩
    · rcases r2 with e | fl2
      · exact hr2
      cases fl2 with
      | ret r =>
        obtain ⟨rfl, M⟩ := hr2
        repeat (any_goals (first | assumption | wp_step))
        exact fin _ M
      | _ => exact hr2.elim
  | _ => exact hr.elim
end
section
variable {P : Program} {w : World} {A : Around} {E : Value → Shared → Prop} {z : Shared}
/-- the loop that fills a set -/
theorem fill_loopL {src : List (NestedKey × Addr)} {I S l : Addr} {items : Array Value} (hh : A.in1.handled = none) (hIl : l ≠ I) (hSI : S ≠ I) (hSl : S ≠ l) (hit : items.toList = src.map fun p => Value.ref p.2) (few : src.length ≤ 300) (hu : A.in1.units + 8 < cLine)
    {R : Result → Shared → Prop} {h0 : Heap} (sits : ∀ p ∈ src, AtK P w h0 p) (nS : h0.get? S = none) (nI : h0.get? I = none) {z0 : Shared}
    (fin : ∀ z ks, Moved [S, I] (fun a b => b = a) z0 z → (∀ b o, h0.get? b = some o → z.heap.get? b = some o) → Holds P w (hR P w) S z.heap ks → Took src src.length ks → R (.ok (.ret .none)) z) :
    ∀ (n i : Nat) (z : Shared) (ks : List (NestedKey × Addr)), n + i = src.length → (z.heap.IsListIter I l i ∧ z.heap.IsList l items) → Moved [S, I] (fun a b => b = a) z0 z → (∀ b o, h0.get? b = some o → z.heap.get? b = some o) →
      Holds P w (hR P w) S z.heap ks → Took src i ks → codeAny (model P w) A (.builtin "set.update.loop" ⟨[.ref S, .ref I], []⟩) R z := by
  have hlen : items.size = src.length := by rw [← Array.length_toList, hit, List.length_map]
  have W := (Walks.list (prog := P) (w := w) hh I l hIl items).toS
  have up : ∀ b ∈ [I], b ∈ [S, I] := fun b hb => List.mem_cons_of_mem _ hb
  have keep : ∀ {z1 z2 : Shared}, Moved [I] (fun a b => b = a) z1 z2 → (∀ b o, h0.get? b = some o → z1.heap.get? b = some o) → ∀ b o, h0.get? b = some o → z2.heap.get? b = some o := fun m k b o e =>
    m.heap b o (fun hb => by rw [List.mem_singleton.mp hb, nI] at e; cases e) (k b o e)
  have tr : ∀ {z1 z2 z3 : Shared}, Moved [S, I] (fun a b => b = a) z1 z2 → Moved [S, I] (fun a b => b = a) z2 z3 → Moved [S, I] (fun a b => b = a) z1 z3 := fun m1 m2 => m1.trans (fun _ _ _ e1 e2 => e2.trans e1) m2
  intro n
  induction n with
  | zero =>
    intro i z ks hi st mv k H T
    have ei : i = items.size := by omega
    subst ei
    refine codeAny_builtin F.entry_set_update_loop ?_
    rw [Around.under_plainId F.plain_set_update_loop _]
    show wpAny _ A.in1 (pyNext (.ref I) >>= _) _ _ z
    refine wpAny_bind (W.done z _ _ st fun z' m => ?_)
    rw [hlen] at T
    exact wpAny_pure (fin z' ks (tr mv (m.mono up)) (keep m k) (holds_but H fun o e => m.heap S o (fun y => hSI (List.mem_singleton.mp y)) e) T)
  | succ n ih =>
    intro i z ks hi st mv k H T
    refine codeAny_builtin F.entry_set_update_loop ?_
    rw [Around.under_plainId F.plain_set_update_loop _]
    show wpAny _ A.in1 (pyNext (.ref I) >>= _) _ _ z
    refine wpAny_bind (W.item i z _ _ (by omega) st fun v z' hv st' m => ?_)
    obtain ⟨q, hq, rfl⟩ : ∃ q, src[i]? = some q ∧ v = Value.ref q.2 := by
      have e : items.toList[i]? = some v := by rw [Array.getElem?_toList]; exact hv
      rw [hit, List.getElem?_map] at e
      cases g : src[i]? with
      | none => rw [g] at e; cases e
      | some q => rw [g] at e; exact ⟨q, rfl, (Option.some.inj e).symm⟩
    have k' := keep m k
    have H' : Holds P w (hR P w) S z'.heap ks := holds_but H fun o e => m.heap S o (fun y => hSI (List.mem_singleton.mp y)) e
    have sit : ∀ p ∈ src, AtK P w z'.heap p := fun p hp => atR_keep (sits p hp) k'
    show wpAny _ A.in1 (holding [Value.ref q.2] (setAdd S (.ref q.2)) >>= _) _ _ z'
    refine wpAny_bind (wpAny_holding ?_)
    unfold setAdd
    refine wpAny_holding (wpAny_bind ((nestedKind P w).pyHash hu (sit q (List.mem_of_getElem? hq)).1 ?_))
    refine add_rule (z := { z' with toks := z'.toks + (nestedKind P w).draws q.1 }) (hf := hR P w) H' (fun p hp => sit p (T.sub p hp)) (sit q (List.mem_of_getElem? hq)) hu (by have := T.len; omega) fun b h' ks' sb H2 old new => ?_
    have keepS : ∀ c, c ≠ S → ∀ o, z'.heap.get? c = some o → h'.get? c = some o := fun c hc o e => (sb.2 c hc).trans e
    have m2 : Moved [S, I] (fun a b => b = a) z' { z' with heap := h', toks := z'.toks + (nestedKind P w).draws q.1 } :=
      ⟨fun c o hc e => keepS c (fun y => hc (by rw [y]; exact List.mem_cons_self)) o e, rfl, rfl, rfl, Nat.le_add_right _ _⟩
    refine wpAny_pure ⟨plainId_quiet F.plain_set_update_loop _, ih (i + 1) _ ks' (by omega) (W.frame _ z' _ _ st' (Nat.le_add_right _ _) fun c hc o e => keepS c (fun y => ?_) o e) (tr (tr mv (m.mono up)) m2) (fun c o e => keepS c (fun y => ?_) o (k' c o e)) H2 (T.next hq old new)⟩
    · rcases List.mem_cons.mp hc with x | x
      · exact hSI (y.symm.trans x)
      · exact hSl (y.symm.trans (List.mem_singleton.mp x))
    · rw [y, nS] at e; cases e
end
section
variable {P : Program} {w : World} {A : Around} {E : Value → Shared → Prop} {z : Shared}
/-- its filling, from the blank set on -/
theorem fill_allL {src : List (NestedKey × Addr)} {l : Addr} {items : Array Value} (hh : A.in1.handled = none) (hl : z.heap.IsList l items) (hit : items.toList = src.map fun p => Value.ref p.2) (few : src.length ≤ 300) (hu : A.in1.units + 8 < cLine) (sits : ∀ p ∈ src, AtK P w z.heap p)
    {R : Result → Shared → Prop} (fin : ∀ z', Made P w src z (.ref z.heap.objs.size) z' → R (.ok (.ret .none)) z') :
    codeAny (model P w) A (.builtin "set.update.loop" ⟨[.ref z.heap.objs.size, .ref (z.heap.objs.size + 1)], []⟩) R
      { z with heap := (z.heap.push (blank w)).push { cls := .type "list_iterator", data := .fields #[.ref l, .int 0 0] } } := by
  have out : ∀ b, z.heap.objs.size ≤ b → z.heap.get? b = none := fun b hb => by
    cases g : z.heap.get? b with
    | none => rfl
    | some o => exact absurd (Nat.lt_of_lt_of_le (Heap.lt_size g) hb) (Nat.lt_irrefl _)
  have one : (z.heap.push (blank w)).objs.size = z.heap.objs.size + 1 := Heap.size_push ..
  obtain ⟨ol, hol, hol2⟩ := hl
  have lS := Heap.lt_size hol
  have kp : ∀ b o, z.heap.get? b = some o → ((z.heap.push (blank w)).push { cls := .type "list_iterator", data := .fields #[.ref l, .int 0 0] }).get? b = some o := fun b o e => Heap.get?_push_of_some _ (Heap.get?_push_of_some _ e)
  have gS : ((z.heap.push (blank w)).push { cls := .type "list_iterator", data := .fields #[.ref l, .int 0 0] }).get? z.heap.objs.size = some (blank w) := Heap.get?_push_of_some _ (Heap.get?_push_size _ rfl)
  have gI : ((z.heap.push (blank w)).push { cls := .type "list_iterator", data := .fields #[.ref l, .int 0 0] }).get? (z.heap.objs.size + 1) = some { cls := .type "list_iterator", data := .fields #[.ref l, .int 0 0] } := by
    rw [← one]; exact Heap.get?_push_size _ rfl
  refine fill_loopL (h0 := z.heap) (z0 := { z with heap := (z.heap.push (blank w)).push { cls := .type "list_iterator", data := .fields #[.ref l, .int 0 0] } }) hh (Nat.ne_of_lt (Nat.lt_succ_of_lt lS)) (Nat.ne_of_lt (Nat.lt_succ_self _)) (Nat.ne_of_gt lS) hit few hu sits (out _ (Nat.le_refl _)) (out _ (Nat.le_succ _)) (fun z' ks m k H T => fin z' ?_)
    src.length 0 _ [] rfl ⟨⟨_, gI, rfl, rfl⟩, ⟨ol, kp _ _ hol, hol2⟩⟩ (Moved.refl fun _ => rfl) kp (holds_none gS) ⟨fun p hp => (by cases hp), fun p hp => (by simp at hp), Nat.le_refl _⟩
  exact ⟨z'.heap, z'.toks, ks, rfl, m.eq_with, H, T, k⟩
end
section
variable {P : Program} {w : World} {A : Around} {E : Value → Shared → Prop} {z : Shared}
theorem call_setL {src : List (NestedKey × Addr)} {l : Addr} {items : Array Value} {Q : Value → Shared → Prop} (hh : A.handled = none) (hl : z.heap.IsList l items) (hit : items.toList = src.map fun p => Value.ref p.2) (few : src.length ≤ 300) (hu : A.units + 16 < cLine) (sits : ∀ p ∈ src, AtK P w z.heap p)
    (fin : ∀ z', Made P w src z (.ref z.heap.objs.size) z' → Q (.ref z.heap.objs.size) z') :
    wpAny (model P w) A (call (.type "set") [.ref l]) Q E z := by
  obtain ⟨mc, mt, hmro⟩ := F.called_set.mro
  have f1 := F.called_set.made
  have f2 := F.called_set.sub
  have f3 := F.called_set.notType
  have f4 := F.called_set.canCreate
  have f5 := F.typeCall_set_1 (.ref l)
  refine wpAny_call (codeAny_of_tree ?_)
  show wpAny _ _ (callAny (.type "set") _) _ _ z
  refine wpAny_pure ⟨Code.quiet_builtin _ (by decide +kernel), codeAny_builtin F.entry_type_call ?_⟩
  rw [Around.under_plain (weight_type_call_type "set" [.ref l] []) rfl]
  repeat (any_goals (first | assumption | wp_step))
  refine codeAny_mono (code_set_led1 (.ref l) (E := E) (Q₁ := fun v z1 => v = .ref z.heap.objs.size ∧ z1 = { z with heap := z.heap.push (blank w) }) ⟨rfl, rfl⟩) fun r z1 hr => ?_
  rcases r with e | fl
  · exact hr
  cases fl with
  | ret v =>
    obtain ⟨rfl, rfl⟩ := hr
    have ty : Shared.TypeIs { z with heap := z.heap.push (blank w) } (.ref z.heap.objs.size) "set" := ⟨_, Heap.get?_push_size _ rfl, rfl⟩
    have f6 := F.called_set.init.lookup
    have f7 := F.called_set.init.bind (.ref z.heap.objs.size)
    repeat (any_goals (first | assumption | wp_step))
    refine codeAny_mono (codeAny_call_builtin (R := wants (fun r z2 => r = .none ∧ Made P w src z (.ref z.heap.objs.size) z2) E) F.called_set.init.plain F.entry_set_init (check_set_init_1 ty ?_)) fun r2 z2 hr2 => ?_
    · have hl0 := hl
      obtain ⟨⟨oc, od, oda, osl⟩, hol, hcl, nl, hdl⟩ := hl
      simp only at hcl hdl
      subst hcl; subst hdl
      have hol1 : (z.heap.push (blank w)).get? l = some { cls := .type "list", dict := od, data := .seq items nl, slots := osl } := Heap.get?_push_of_some _ hol
      have g1 := PySem.F.sub_list_set
      have g2 := PySem.F.sub_list_frozenset
      have g3 : (Value.type "list" == Value.type "dict") = false := by decide
      have tup1 : (z.heap.push (blank w)).IsList l items := ⟨_, hol1, rfl, nl, rfl⟩
      unfold Builtin.«set.__init__» noKeywords Builtin.Frozenset.updateFrom
      generalize hPI : pyIter = PI
      wp_walk
      subst hPI
      refine wpAny_pyIter_list tup1 ?_
      refine wpAny_bind (wpAny_runValue ?_)
      rw [show (z.heap.push (blank w)).objs.size = z.heap.objs.size + 1 from Heap.size_push ..]
      refine fill_allL (by simp [hh]) hl0 hit few (by simp only [Around.in1_units]; omega) sits fun z' M => ?_
      show wpAny _ _ _ _ _ _
      refine wpAny_pure ?_
      exact wpAny_pure ⟨rfl, M⟩
    · rcases r2 with e | fl2
      · exact hr2
      cases fl2 with
      | ret r =>
        obtain ⟨rfl, M⟩ := hr2
        repeat (any_goals (first | assumption | wp_step))
        exact fin _ M
      | _ => exact hr2.elim
  | _ => exact hr.elim
end
end DL
set_option Elab.async false
set_option linter.all false
set_option maxRecDepth 100000
set_option maxHeartbeats 4000000
set_option pp.maxSteps 300
/-! Sets of tuples as values. -/
namespace DL
open PySem PySem.Spec PyProof.Rows L2
open PySem.W (Frag EachIs dataLe dataLt)
mutual
/-- the value of a key -/
def unk : NestedKey → D
  | .num i => .int i
  | .tup ks => .tup (unks ks)
  | _ => .non
def unks : List NestedKey → List D
  | [] => []
  | k :: ks => unk k :: unks ks
end
mutual
theorem unk_nk : ∀ (x : D) (k : NestedKey), nk x = some k → plainK k = true → unk k = x
  | .int i, k, e, _ => by simp only [nk] at e; cases e; rfl
  | .str s, k, e, p => by simp only [nk] at e; cases e; cases p
  | .tup xs, k, e, p => by
    simp only [nk] at e
    obtain ⟨ks, e1, rfl⟩ := Option.map_eq_some_iff.mp e
    show D.tup (unks ks) = .tup xs
    rw [unks_nks xs ks e1 p]
  | .non, _, e, _ => by simp [nk] at e
  | .bl _, _, e, _ => by simp [nk] at e
  | .ref _, _, e, _ => by simp [nk] at e
  | .obj _, _, e, _ => by simp [nk] at e
theorem unks_nks : ∀ (xs : List D) (ks : List NestedKey), nks xs = some ks → plainKs ks = true → unks ks = xs
  | [], ks, e, _ => by simp only [nks] at e; cases e; rfl
  | x :: xs, ks, e, p => by
    simp only [nks] at e
    split at e
    · cases e
      obtain ⟨p1, p2⟩ := Bool.and_eq_true_iff.mp p
      show unk _ :: unks _ = _
      rw [unk_nk x _ (by assumption) p1, unks_nks xs _ (by assumption) p2]
    · cases e
end
/-- what may stand in a set: tuples of ints, nested not deep -/
def SetKey (y : D) : Prop := ∃ xs k, y = .tup xs ∧ nk y = some k ∧ k.depth ≤ 8 ∧ plainK k = true
section
variable {X : Cx} {T : List Addr} {W : WX}
/-- behind collecting, the order not known before -/
theorem sorted_fin2 {pins : List (Addr × Obj)} {σ : L2.St} {H : Hp} {μ : List Addr} {h : DH} {s : Shared} {Q0 : VD} {Q : VK} {x : Value} {ds : List D} (I : Inv X pins σ H s) (rh : RelH (gOf X T) H μ h) (hu : X.A.units + 64 < cLine)
    (hc : ∀ (R : List Value → Shared → Prop), (∀ us s1 vs xs, RVs X.K H μ vs xs → xs.Perm ds → Vals vs us → (∀ b o, s.heap.get? b = some o → s1.heap.get? b = some o) → s1.gens = s.gens → s1.os = s.os → R us s1) → wpAny (model X.prog X.w) X.A.in1 (collect x) R X.xe s)
    (q0 : ∀ xs : List D, xs.Perm ds → CanSort xs ∧ Q0 (.ref h.length) (h ++ [.lst (sortD xs)])) (p : Post (gOf X T) H μ Q0 Q) : wpAny (model X.prog X.w) X.A (call (.builtin "sorted") [x]) (EP X pins σ Q) X.xe s := by
  refine sorted_any (β := D × V) (enc := fun b => datP b.1) (R := fun u (b : D × V) => L2.RelV b.2 u ∧ RV X.K H μ b.2 b.1) (hc _ fun us s1 vs xs rv pm ru k g o => ?_)
  obtain ⟨cs, q⟩ := q0 xs pm
  have I1 : Inv X pins σ H s1 := I.call' (ch := []) o (Un.kept k) (I.hok.kept k) (by rw [g]; exact I.bare) (fun _ z => nomatch z)
  obtain ⟨e1, e2, e3⟩ := each_rv I1 rv ru cs.all
  have el : (xs.zip vs).length = xs.length := by
    have z := congrArg List.length e3
    rwa [List.length_map] at z
  have em : (xs.zip vs).map (fun b : D × V => datP b.1) = xs.map datP := by
    rw [show (fun b : D × V => datP b.1) = datP ∘ (fun b : D × V => b.1) from rfl, ← List.map_map, e3]
  refine ⟨xs.zip vs, e1, e2, by rw [em]; exact cs.alike, by rw [em]; exact cs.able, by rw [el]; exact line_le cs.len, fun b hb => ?_, fun t s2 out c k2 g2 o2 hp hg hS => ?_⟩
  · have hb1 : b.1 ∈ xs := by rw [← e3]; exact List.mem_map.mpr ⟨b, hb, rfl⟩
    obtain ⟨a, ha, hz⟩ := cs.all _ hb1
    have hd : datP b.1 = a := by unfold datP; rw [ha]; rfl
    show X.A.units + 3 + (datP b.1).depth < cLine
    rw [hd]; omega
  · obtain ⟨v1, v2⟩ := each_out hS
    rw [sort_fst, e3] at v2
    have hn : H t = none := I1.hok.fresh hp
    have hlen : (((xs.zip vs).mergeSort (dataLe false fun b : D × V => datP b.1)).map (·.2)).length ≤ sizeLine := by
      rw [List.length_map, List.length_mergeSort, el]; exact line_le cs.len
    have J : Inv X pins σ (upd H t (.lst (((xs.zip vs).mergeSort (dataLe false fun b : D × V => datP b.1)).map (·.2)))) s2 :=
      I1.call' (ch := []) o2 (Un.laid k2 hp hn) (I1.hok.laid k2 hp ⟨hlen, out, c, v1, hg⟩) (by rw [g2]; exact I1.bare) (fun _ z => nomatch z)
    exact ⟨.ref t, _, J, rfl, new_lst rh v2 q p hn⟩

/-- the pairs of key and place -/
theorem src_keys {K : Frag} {H : Hp} {μ : List Addr} : ∀ {vs : List V} {xs : List D}, RVs K H μ vs xs → (∀ x ∈ xs, SetKey x) → ∃ src : List (NestedKey × Addr), vs = src.map (fun p => V.ref p.2) ∧ xs = src.map (fun p => unk p.1) ∧ ∀ p ∈ src, KR1 K H μ p (unk p.1) ∧ p.1.depth ≤ 8 ∧ plainK p.1 = true
  | _, _, .nil, _ => ⟨[], rfl, rfl, fun _ h => nomatch h⟩
  | _, _, .cons (x := x) r rs, al => by
    obtain ⟨src, rfl, e2, hk⟩ := src_keys rs fun y hy => al y (List.mem_cons_of_mem _ hy)
    obtain ⟨ys, k, rfl, ek, hz, pl⟩ := al x List.mem_cons_self
    obtain ⟨a, us, rfl, h1, h2⟩ := r.inv_tup
    have eu := unk_nk _ _ ek pl
    refine ⟨(k, a) :: src, rfl, by rw [List.map_cons, ← e2, eu], fun p hp => ?_⟩
    rcases List.mem_cons.mp hp with e | e
    · subst e
      exact ⟨⟨by rw [eu]; exact ek, by rw [eu]; exact r⟩, hz, pl⟩
    · exact hk p e
theorem refs_of : ∀ {src : List (NestedKey × Addr)} {us : List Value}, Vals (src.map fun p => V.ref p.2) us → us = src.map fun p => Value.ref p.2
  | [], _, .nil => rfl
  | p :: src, _, .cons r t => by
    cases r
    rw [refs_of t, List.map_cons]
theorem raw_of {P : Program} {w : World} {S : Addr} {h : Heap} {ks : List (NestedKey × Addr)} (x : Holds P w (hR P w) S h ks) (d : ∀ p ∈ ks, p.1.depth ≤ 8) : RawS P w h S ks := by
  obtain ⟨o, es, ep, t, g, ex, dt, T⟩ := x
  exact ⟨T.one, d, o, es, ep, t, g, ex, dt, T.hes, T.ruled, ⟨T.ok.ris, T.ok.dm, T.ok.sz, T.ok.md, T.ok.bd, T.ok.reach, T.val, by rw [List.length_map]; exact T.gap⟩⟩
theorem setO_ok {P : Program} {w : World} {H : Hp} {h : Heap} {a : Addr} {ks : List (NestedKey × Addr)} (x : RawS P w h a ks) : ObjOk P w H h a (SetO' P w a ks) := by
  refine ⟨x, ?_, fun h1 h2 y k => ?_⟩
  · obtain ⟨_, _, o, _, _, _, g, _⟩ := x
    exact ⟨o, g⟩
  · obtain ⟨n, d, o, es, ep, t, g, r⟩ := y
    exact ⟨n, d, o, es, ep, t, k _ g, r⟩
theorem kr1_map {K : Frag} {H : Hp} {μ : List Addr} : ∀ {ks : List (NestedKey × Addr)}, (∀ p ∈ ks, KR1 K H μ p (unk p.1)) → Paired (KR1 K H μ) ks (ks.map fun p => unk p.1)
  | [], _ => .nil
  | p :: ks, h => .cons (h p List.mem_cons_self) (kr1_map fun q hq => h q (List.mem_cons_of_mem _ hq))
theorem kr1_rvs {K : Frag} {H : Hp} {μ : List Addr} : ∀ {ks : List (NestedKey × Addr)} {ds : List D}, Paired (KR1 K H μ) ks ds → RVs K H μ (ks.map fun p => V.ref p.2) ds
  | _, _, .nil => .nil
  | _, _, .cons h r => .cons h.2 (kr1_rvs r)
/-- set(xs), xs a list or a tuple -/
def cSet : DC := fun ds h Q => ∃ x xs, ds = [x] ∧ (x = .tup xs ∨ ∃ n, x = .ref n ∧ lstOf h n = some xs) ∧ xs.length ≤ 300 ∧ (∀ y ∈ xs, SetKey y) ∧ ∀ ks : List D, (∀ y, y ∈ ks ↔ y ∈ xs) → ks.Nodup → Q (.ref h.length) (h ++ [.set ks])
def rSetD (g : G) : List V → Hp → VK → Prop := fun vs H Q => ∃ μ h l us xs Q0, vs = [.ref l] ∧ RelH g H μ h ∧ (SqT g.K H l us ∨ SqL g.K H l us) ∧ RVs g.K H μ us xs ∧ Post g H μ Q0 Q ∧ xs.length ≤ 300 ∧ (∀ y ∈ xs, SetKey y) ∧ ∀ ks : List D, (∀ y, y ∈ ks ↔ y ∈ xs) → ks.Nodup → Q0 (.ref h.length) (h ++ [.set ks])
theorem set_made {pins : List (Addr × Obj)} {s : Shared} {σ : L2.St} {H : Hp} {μ : List Addr} {h : DH} {src : List (NestedKey × Addr)} {Q0 : VD} {Q : VK} {z' : Shared} (I : Inv X pins σ H s) (rh : RelH (gOf X T) H μ h) (hk : ∀ p ∈ src, KR1 X.K H μ p (unk p.1) ∧ p.1.depth ≤ 8 ∧ plainK p.1 = true)
    (p : Post (gOf X T) H μ Q0 Q) (q : ∀ ks : List D, (∀ y, y ∈ ks ↔ y ∈ src.map (fun p => unk p.1)) → ks.Nodup → Q0 (.ref h.length) (h ++ [.set ks])) (M : Made X.prog X.w src s (.ref s.heap.objs.size) z') : EP X pins σ Q (.ref s.heap.objs.size) z' := by
  obtain ⟨h', tk, ks, _, rfl, Hs, TT, k⟩ := M
  have dp : ∀ p ∈ ks, p.1.depth ≤ 8 := fun p hp => (hk p (TT.sub p hp)).2.1
  have raw := raw_of Hs dp
  have hn := I.hok.fresh (a := s.heap.objs.size) (Nat.le_refl _)
  have kn : ∀ p ∈ ks, nk (unk p.1) = some p.1 := fun p hp => (hk p (TT.sub p hp)).1.1
  have nd : (ks.map fun p => unk p.1).Nodup := by
    have z : ks.Pairwise fun p q => p.1 ≠ q.1 := List.pairwise_map.mp raw.1
    exact List.pairwise_map.mpr (List.Pairwise.imp_of_mem (fun {p q} hp hq ne e => ne (Option.some.inj (by rw [← kn p hp, ← kn q hq, e]))) z)
  have mem : ∀ y, y ∈ ks.map (fun p => unk p.1) ↔ y ∈ src.map (fun p => unk p.1) := fun y => by
    constructor
    · intro hy
      obtain ⟨p, hp, rfl⟩ := List.mem_map.mp hy
      exact List.mem_map.mpr ⟨p, TT.sub p hp, rfl⟩
    · intro hy
      obtain ⟨p, hp, rfl⟩ := List.mem_map.mp hy
      obtain ⟨q, hq, e⟩ := List.mem_map.mp (TT.all p (by rw [List.take_length]; exact hp))
      exact List.mem_map.mpr ⟨q, hq, by show unk q.1 = unk p.1; rw [show q.1 = p.1 from e]⟩
  have l : Le X.K H μ (upd H s.heap.objs.size (SetO' X.prog X.w s.heap.objs.size ks)) (μ ++ [s.heap.objs.size]) := Le.new' hn
  refine ⟨.ref s.heap.objs.size, _, I.laid (a := s.heap.objs.size) (o := SetO' X.prog X.w s.heap.objs.size ks) (t' := tk) k (Nat.le_refl _) (setO_ok raw), rfl, ?_⟩
  exact p _ _ _ _ _ (q _ mem nd) (rh.made (d := .set (ks.map fun p => unk p.1)) hn ⟨ks, upd_same, kr1_map fun p hp => KR1.le (g := gOf X T) l (hk p (TT.sub p hp)).1⟩) l (.ref (by rw [List.getElem?_append_right (by rw [rh.len]; exact Nat.le_refl _), rh.len, Nat.sub_self]; rfl))
theorem cr_setD (S : Std X W) (hu : X.A.units + 64 < cLine) : CallR X (.type "set") (rSetD (gOf X T)) := by
  intro pins s σ H vs us Q I r h
  obtain ⟨μ, hh, l, ws, xs, Q0, rfl, rh, hl, rv, p, few, al, q⟩ := h
  rw [Vals.ref1 r]
  obtain ⟨src, rfl, rfl, hk⟩ := src_keys rv al
  rw [List.length_map] at few
  have sit : ∀ p ∈ src, AtK X.prog X.w s.heap p := fun p hp => ⟨is_rv I (hk p hp).1.2 (hk p hp).1.1 (hk p hp).2.1, (hk p hp).2.2⟩
  rcases hl with hl | hl
  · obtain ⟨its, ri, pl, _⟩ := I.tuple hl
    exact call_setT (src := src) (I.ok.hd S.calm) pl (by simpa using refs_of ri) few (by omega) sit fun z' M => set_made I rh hk p q M
  · obtain ⟨its, ri, pl, _⟩ := I.list hl
    exact call_setL (src := src) (I.ok.hd S.calm) pl.isList (by simpa using refs_of ri) few (by omega) sit fun z' M => set_made I rh hk p q M
theorem cok_set {g : G} : CallOk g (rSetD g) cSet := fun H μ h vs ds Q0 Q rh rv q p => by
  obtain ⟨x, xs, rfl, hx, few, al, q⟩ := q
  obtain ⟨v, rfl, r1⟩ := rv.inv1
  rcases hx with rfl | ⟨n, rfl, e⟩
  · obtain ⟨a, us, rfl, h1, h2⟩ := r1.inv_tup
    exact ⟨μ, h, a, us, xs, Q0, rfl, rh, .inl h1, h2, p, few, al, q⟩
  · obtain ⟨a, rfl, hn⟩ := r1.inv_ref
    obtain ⟨us, h1, h2⟩ := lst_at rh hn e
    exact ⟨μ, h, a, us, xs, Q0, rfl, rh, .inr h1, h2, p, few, al, q⟩
/-- sorted(x), x a set too -/
def cSortA : DC := fun ds h Q => match ds with
  | [.ref n] => match h[n]? with
    | some (.set ks) => ks.length ≤ 1000 ∧ ∀ xs : List D, xs.Perm ks → CanSort xs ∧ Q (.ref h.length) (h ++ [.lst (sortD xs)])
    | _ => cSort ds h Q
  | _ => cSort ds h Q
def rSortS (g : G) : List V → Hp → VK → Prop := fun vs H Q => ∃ μ h a ks ds Q0, vs = [.ref a] ∧ RelH g H μ h ∧ H a = some (SetO' g.P g.w a ks) ∧ Paired (KR1 g.K H μ) ks ds ∧ Post g H μ Q0 Q ∧ ds.length ≤ 1000 ∧ ∀ xs : List D, xs.Perm ds → CanSort xs ∧ Q0 (.ref h.length) (h ++ [.lst (sortD xs)])
theorem perm_of {α β : Type} {f : α → β} : ∀ {vs : List β} {l : List α}, vs.Perm (l.map f) → ∃ l2 : List α, vs = l2.map f ∧ l2.Perm l
  | [], l, h => ⟨[], rfl, by
    have e := List.nil_perm.mp h
    cases l with
    | nil => exact .nil
    | cons a l => cases e⟩
  | v :: vs, l, h => by
    obtain ⟨a, ha, e⟩ := List.mem_map.mp (h.mem_iff.mp List.mem_cons_self)
    obtain ⟨l1, l2, rfl⟩ := List.append_of_mem ha
    have pm : (l1 ++ a :: l2).Perm (a :: (l1 ++ l2)) := List.perm_middle
    have h2 := h.trans (pm.map f)
    rw [List.map_cons, e] at h2
    obtain ⟨l3, e3, p3⟩ := perm_of (List.Perm.cons_inv h2)
    exact ⟨a :: l3, by rw [List.map_cons, e, e3], (p3.cons a).trans pm.symm⟩
theorem zip_pair {K : Frag} {H : Hp} {μ : List Addr} : ∀ {ks : List (NestedKey × Addr)} {ds : List D}, Paired (KR1 K H μ) ks ds → (ks.zip ds).map (·.1) = ks ∧ (ks.zip ds).map (·.2) = ds ∧ ∀ p ∈ ks.zip ds, KR1 K H μ p.1 p.2
  | _, _, .nil => ⟨rfl, rfl, fun _ h => nomatch h⟩
  | _, _, .cons h r => by
    obtain ⟨e1, e2, e3⟩ := zip_pair r
    refine ⟨by rw [List.zip_cons_cons, List.map_cons, e1], by rw [List.zip_cons_cons, List.map_cons, e2], fun p hp => ?_⟩
    rcases List.mem_cons.mp hp with e | e
    · rw [e]; exact h
    · exact e3 p e
theorem rvs_zip {K : Frag} {H : Hp} {μ : List Addr} : ∀ {zs : List ((NestedKey × Addr) × D)}, (∀ p ∈ zs, KR1 K H μ p.1 p.2) → RVs K H μ (zs.map fun p => V.ref p.1.2) (zs.map (·.2)) ∧ Vals (zs.map fun p => V.ref p.1.2) (zs.map fun p => Value.ref p.1.2)
  | [], _ => ⟨.nil, .nil⟩
  | p :: zs, h => by
    obtain ⟨h1, h2⟩ := rvs_zip fun q hq => h q (List.mem_cons_of_mem _ hq)
    exact ⟨.cons (h p List.mem_cons_self).2 h1, .cons rfl h2⟩
theorem cr_sortS (S : Std X W) (hu : X.A.units + 64 < cLine) : CallR X (.builtin "sorted") (rSortS (gOf X T)) := by
  intro pins s σ H vs us Q I r h
  obtain ⟨μ, hh, a, ks, ds, Q0, rfl, rh, ha, pk, p, few, q⟩ := h
  rw [Vals.ref1 r]
  obtain ⟨nd, dp, o, es, ep, t, g, ex, dt, hes, ruled, TT⟩ := show RawS X.prog X.w s.heap a ks from (I.hok a _ ha).1
  have size : es.size = ks.length := by rw [← Array.length_toList, hes, List.length_map]
  have lk := paired_len pk
  have place : t.place.size = ks.length := by rw [TT.sz, List.length_map]
  refine sorted_fin2 (T := T) I rh hu (ds := ds) (fun R hR => ?_) q p
  refine collect_set (A := X.A.in1) (I.ok.hd S.calm) ⟨o, g, ex.1, dt⟩ (fits_of (by rw [place, size]) TT.dm (by have := TT.gap; rw [List.length_map] at this; omega)) (by unfold scanBound; omega) TT.ris ruled fun s1 vs k1 hz g1 o1 pm => ?_
  rw [hes, List.map_map] at pm
  obtain ⟨z1, z2, z3⟩ := zip_pair pk
  have pm2 : vs.Perm ((ks.zip ds).map fun p => Value.ref p.1.2) := by
    have e : ks.map ((·.2) ∘ fun p : NestedKey × Addr => ((nestedKind X.prog X.w).hash p.1, Value.ref p.2)) = (ks.zip ds).map fun p => Value.ref p.1.2 := by
      conv => lhs; rw [← z1]
      rw [List.map_map]; rfl
    rw [← e]; exact pm
  obtain ⟨zs, rfl, pz⟩ := perm_of pm2
  obtain ⟨r1, r2⟩ := rvs_zip (zs := zs) fun q hq => z3 q (pz.mem_iff.mp hq)
  exact hR _ s1 _ _ r1 (by have := pz.map (·.2); rw [z2] at this; exact this) r2 k1 g1 o1
theorem cb_sortA (S : Std X W) (hu : X.A.units + 64 < cLine) : ∃ r, CallR X (.builtin "sorted") r ∧ CallOk (gOf X T) r cSortA := by
  refine ⟨_, CallR.or (cr_sortD (T := T) S hu) (cr_sortS (T := T) S hu), fun H μ h vs ds Q0 Q rh rv q p => ?_⟩
  unfold cSortA at q
  split at q
  · split at q
    · rename_i n _ ks e
      obtain ⟨v, rfl, r1⟩ := rv.inv1
      obtain ⟨a, rfl, hn⟩ := r1.inv_ref
      obtain ⟨kp, ha, pk⟩ := rh.obj _ _ _ hn e
      exact .inr ⟨μ, h, a, kp, ks, Q0, rfl, rh, ha, pk, p, q.1, q.2⟩
    · exact .inl (cok_sort _ _ _ _ _ _ _ rh rv q p)
  · exact .inl (cok_sort _ _ _ _ _ _ _ rh rv q p)
section
variable {e : Expr} {es : List Expr} {α : DA} {p pos : Pos}
theorem pd_setc (S : Std X W) {k : Nat} (hr : Room k X.A) (hg : Gl X "set") (hm : X.mg "set" = none) (ha : PDA X T W (e :: es) α)
    (he : starEach (e :: es) X.env = (false, eval e X.env) :: starEach es X.env := by rfl) (hpl : (backTo pos (starEach es X.env)).any (·.1) = false := by rfl) : PD X T W (.Call (.Name "set" p) (e :: es) [] pos) (eCB cSet α) :=
  PE.imp (pe_callTy (cr_setD (T := T) S hr.units) hg hm PyProof.Rows.boot_set ha (by decide) (by decide) he hpl) (cb_read cok_set)
theorem pd_sortA (S : Std X W) {k : Nat} (hr : Room k X.A) (hg : Gl X "sorted") (hm : X.mg "sorted" = none) (ha : PDA X T W (e :: es) α)
    (he : starEach (e :: es) X.env = (false, eval e X.env) :: starEach es X.env := by rfl) (hpl : (backTo pos (starEach es X.env)).any (·.1) = false := by rfl) : PD X T W (.Call (.Name "sorted" p) (e :: es) [] pos) (eCB cSortA α) := by
  obtain ⟨r, h1, h2⟩ := cb_sortA (X := X) (T := T) S hr.units
  exact PE.imp (pe_callB h1 hg hm boot_sorted ha (by decide) (by decide) he hpl) (cb_read h2)
end
end
end DL
set_option Elab.async false
set_option linter.all false
set_option maxRecDepth 100000
set_option maxHeartbeats 4000000
set_option pp.maxSteps 300
namespace DL
open PySem PySem.Spec PyProof.Rows L2
open PySem.W (Frag)
/-! ### xs.extend(t), t a tuple too -/

theorem ext_tup (l : Addr) (xs : Array Value) (n : Nat) (b : Addr) (ys : Array Value) (n2 : Nat) (d2 : Option Addr) (sl2 : Array (Option Value)) (h0 : ¬(!xs.isEmpty && Builtin.List.listTooLong (xs.size + ys.size)) = true) (h1 : xs.size ≤ sizeLine) (h2 : xs.size + ys.size ≤ sizeLine + 1) :
    Meets (Builtin.«list.extend» ⟨[.ref l, .ref b], []⟩) (fun _ R s => s.heap.get? l = some { cls := .type "list", dict := none, data := .seq xs n, slots := #[] } ∧ s.heap.get? b = some { cls := .type "tuple", dict := d2, data := .seq ys n2, slots := sl2 } ∧ R (.ok (.ret Value.none)) { s with heap := s.heap.update l (Obj.mapSeq fun x => x ++ ys), toks := s.toks }) :=
  .of_wp fun prog w A R s h => by
    obtain ⟨hp, g, d, tk, os⟩ := s
    obtain ⟨hl, hb, h⟩ := h
    have f1 := PySem.AutoSeq1.idx_int
    have f2 := PySem.AutoSeq1.sub_tuple_tuple
    have f3 := PySem.AutoSeq1.sub_list_list
    have f4 := PySem.AutoSeq1.sub_tuple_list
    have f5 := PySem.AutoSeq1.sub_list_tuple
    have z : (xs ++ ys).size ≤ sizeLine + 1 := by rw [Array.size_append]; exact h2
    wp_walk using (wpAny_updateSeq hl rfl (hz := h1) (_hz' := z)), PySem.AutoSeq1.wpAny_loadPart' hl, PySem.AutoSeq1.wpAny_loadPart' hb
    exact ⟨_, rfl, h⟩
section
variable {X : Cx} {T : List Addr} {W : WX}
def rExtT (K : Frag) : V → List V → Hp → VK → Prop := fun x vs H Q => ∃ l b xs zs, x = .ref l ∧ vs = [.ref b] ∧ H l = some (.lst xs) ∧ SqT K H b zs ∧ xs.length + zs.length ≤ 1000000 ∧ Q .non (upd H l (.lst (xs ++ zs)))
theorem mt_extT : MtM X "list.extend" (rExtT X.K) := by
  intro pins s σ H x vs v us Q I rx rv h
  obtain ⟨l, b, xs, zs, rfl, rfl, hH, hB, hz, q⟩ := h
  cases rx
  obtain ⟨u, rfl, ru⟩ := rv.one
  cases ru
  obtain ⟨z, its, n, r, hl, e⟩ := I.lstM hH
  obtain ⟨its2, r2, hT, hz2⟩ := I.tuple hB
  obtain ⟨ot, et, ct, nt, dt⟩ := id hT
  have l1 := r.length
  have l2 := r2.length
  have hsz : its.toArray.size + its2.toArray.size ≤ sizeLine := by rw [List.size_toArray, List.size_toArray, ← l1, ← l2]; exact line_le hz
  have hlong : ¬ (!its.toArray.isEmpty && Builtin.List.listTooLong (its.toArray.size + its2.toArray.size)) = true := by
    rw [notLongL hsz, Bool.and_false]
    exact Bool.false_ne_true
  obtain ⟨oc, od, oda, osl⟩ := ot
  simp only at ct dt
  subst ct dt
  refine call_meets F.slot_list_extend ⟨_, e, rfl⟩ F.entry_list_extend (F.args_list_extend_2 _ _) (ext_tup l its.toArray n b its2.toArray nt od osl hlong (by rw [List.size_toArray]; omega) (by omega)) ⟨e, et, ?_⟩
  refine ⟨.non, _, I.lset (its' := its ++ its2) hH e (by simp) (r.append r2) ?_, rfl, q⟩
  rw [List.length_append]
  exact line_le hz
def mExtendA (d : D) (ds : List D) (h : DH) (Q : VD) : Prop := match d, ds with
  | .ref n, [.tup ys] => ∃ xs, mlst h n = some xs ∧ xs.length + ys.length ≤ 1000000 ∧ Q .non (h.set n (.lst (xs ++ ys)))
  | x, y => mExtend x y h Q
theorem mt_or {id : String} {r r' : V → List V → Hp → VK → Prop} (h : MtM X id r) (h' : MtM X id r') : MtM X id (fun x vs H Q => r x vs H Q ∨ r' x vs H Q) := by
  intro pins s σ H x xs v us Q I rx rv q
  rcases q with q | q
  · exact h pins s σ H x xs v us Q I rx rv q
  · exact h' pins s σ H x xs v us Q I rx rv q
theorem mok_extendA {g : G} : MtOk g (fun x vs H Q => rExtend x vs H Q ∨ rExtT g.K x vs H Q) mExtendA := fun H μ h v d vs ds Q0 Q r rv rvs q p => by
  unfold mExtendA at q
  split at q
  · obtain ⟨a, rfl, hn⟩ := rv.inv_ref
    obtain ⟨u, rfl, ru⟩ := rvs.inv1
    obtain ⟨b, us, rfl, h6, h7⟩ := ru.inv_tup
    obtain ⟨xs, e1, z, q⟩ := q
    obtain ⟨ws, h4, h5⟩ := mlst_at r hn e1
    obtain ⟨r3, l3⟩ := chg_lst r hn (mlst_eq e1) h4 (h5.append h7)
    exact .inr ⟨a, b, ws, us, rfl, rfl, h4, h6, by rw [h5.length, h7.length]; exact z, p _ _ _ _ _ q r3 l3 .non⟩
  · exact .inl (mok_extend H μ h v _ vs _ Q0 Q r rv rvs q p)
theorem pd_extendA {o e : Expr} {es : List Expr} {εo : DE} {α : DA} {apos cpos : Pos} (ho : PD X T W o εo) (ha : PDA X T W (e :: es) α)
    (hbase : attributeBase o "extend" X.env (eval o X.env) = eval o X.env := by rfl)
    (hfew : ((backTo cpos (starEach (e :: es) X.env)).all (fun x => !x.1) && (backToKw cpos (keywordEach [] X.env)).all (fun x => x.1.isSome)
      && decide ((e :: es).length + ([] : List Keyword).length + (if ([] : List Keyword).isEmpty then 0 else 1) < 30)) = true := by rfl)
    (hline : (apos.endLine == cpos.line) = true := by rfl) (hs : starEach (e :: es) X.env = (false, eval e X.env) :: starEach es X.env := by rfl) (hplain : (backTo cpos (starEach es X.env)).any (·.1) = false := by rfl) :
    PD X T W (.Call (.Attribute o "extend" apos) (e :: es) [] cpos) (eMt "list" mExtendA εo α) := pd_bm PySem.F.plainAttrs_list PySem.F.slot_list_extend PySem.F.type_list_extend (mt_or mt_extend mt_extT) mok_extendA ho ha hbase hfew hline hs hplain
end
end DL
set_option Elab.async false
set_option linter.all false
set_option maxRecDepth 100000
set_option maxHeartbeats 4000000
namespace DL
open PySem PySem.Spec PyProof.Rows L2
open PySem.W (Frag)
def tau_next_words (sp_turns : DSp) : DS := (dSeq (dAsg (eLc2 (iSeq (eVar 0)) (tgVar 3) yes (iSeq (eCall sp_turns (aCons (eVar 3) (aCons (eVar 1) aNil)))) (tgVar 4) yes (eVar 4) [3, 4] [4]) (gVar 2)) (dRet (eCB cTup (aCons (eCB cSortA (aCons (eCB cSet (aCons (eVar 2) aNil)) aNil)) aNil))))
def tau_check_book (sp_is_frame : DSp) (sp_is_rule : DSp) : DS := (dSeq (dIf (eNotT (eTru (eCall sp_is_frame (aCons (eVar 0) aNil)))) dNever dNext) (dSeq (dAsg (eVar 0) (gTupD 2 (gsCons (gVar 1) (gsCons (gVar 2) gsNil)))) (dFor (iEnumD (aCons (eVar 2) aNil)) (gTupD 2 (gsCons (gVar 3) (gsCons (gVar 4) gsNil))) (dSeq (dIf (eNotT (eTru (eCall sp_is_rule (aCons (eVar 4) (aCons (eVar 1) aNil))))) dNever dNext) (dIf (eAnd (eTst (eOp dGtA (eVar 3) (eC (.int 0)))) (eTst (eOp dLeA (eVar 4) (eOp dIxA (eVar 2) (eOp dSub (eVar 3) (eC (.int 1))))))) dNever dNext)))))
def tau_check_word (sp_is_letter : DSp) : DS := (dSeq (dIf (eOr (eNotT (eTru (eIsi ["tuple"] (eVar 0)))) (eTst (eOp dGtA (eCB cLenA (aCons (eVar 0) aNil)) (eVar 2)))) dNever dNext) (dFor (iEnumD (aCons (eVar 0) aNil)) (gTupD 2 (gsCons (gVar 3) (gsCons (gVar 4) gsNil))) (dIf (eNotT (eTru (eCall sp_is_letter (aCons (eVar 4) (aCons (eVar 1) aNil))))) dNever dNext)))
def tau_is_frame (sp_is_whole : DSp) : DS := (dSeq (dIf (eOr (eNotT (eTru (eIsi ["tuple"] (eVar 0)))) (eTst (eOp dNe (eCB cLenA (aCons (eVar 0) aNil)) (eC (.int 2))))) (dRet (eC (.bl false))) dNext) (dSeq (dAsg (eVar 0) (gTupD 2 (gsCons (gVar 1) (gsCons (gVar 2) gsNil)))) (dSeq (dIf (eOr (eNotT (eTru (eCall sp_is_whole (aCons (eVar 1) aNil)))) (eNotT (eTst (eChain dLeA dLeA (eC (.int 1)) (eVar 1) (eC (.int 4)))))) (dRet (eC (.bl false))) dNext) (dRet (eAndV (eIsi ["tuple"] (eVar 2)) (eOp dLeA (eCB cLenA (aCons (eVar 2) aNil)) (eC (.int 12))))))))
def tau_is_rule (sp_is_side : DSp) : DS := (dSeq (dIf (eOr (eNotT (eTru (eIsi ["tuple"] (eVar 0)))) (eTst (eOp dNe (eCB cLenA (aCons (eVar 0) aNil)) (eC (.int 2))))) (dRet (eC (.bl false))) dNext) (dSeq (dAsg (eVar 0) (gTupD 2 (gsCons (gVar 2) (gsCons (gVar 3) gsNil)))) (dSeq (dIf (eOr (eNotT (eTru (eCall sp_is_side (aCons (eVar 2) (aCons (eVar 1) aNil))))) (eNotT (eTru (eCall sp_is_side (aCons (eVar 3) (aCons (eVar 1) aNil)))))) (dRet (eC (.bl false))) dNext) (dRet (eAndV (eOp dEq (eCB cLenA (aCons (eVar 2) aNil)) (eCB cLenA (aCons (eVar 3) aNil))) (eOp dNe (eVar 2) (eVar 3)))))))
def tau_is_letter (sp_is_whole : DSp) : DS := (dRet (eAndV (eCall sp_is_whole (aCons (eVar 0) aNil)) (eChain dLeA dLt (eC (.int 0)) (eVar 0) (eVar 1))))
def tau_is_whole : DS := (dRet (eAndV (eIsi ["int"] (eVar 0)) (eNot (eIsi ["bool"] (eVar 0)))))
def tau_turns : DS := (dSeq (dAsg (eVar 0) (gTupD 2 (gsCons (gVar 3) (gsCons (gVar 4) gsNil)))) (dSeq (dAsg (eLst (aCons (eTup aNil) aNil)) (gVar 2)) (dSeq (dFor (iZipD (aCons (eVar 3) (aCons (eVar 4) aNil))) (gTupD 2 (gsCons (gVar 5) (gsCons (gVar 6) gsNil))) (dAsg (eLc2 (iSeq (eVar 2)) (tgVar 7) yes (iRng2D (aCons (eCB cLenA (aCons (eVar 7) aNil)) (aCons (eCB cLenA (aCons (eVar 1) aNil)) aNil))) (tgVar 8) (eTst (eOp dEq (eOp dIxA (eVar 1) (eVar 8)) (eVar 5))) (eOp dAdd (eOp dAdd (eVar 7) (eSl (eVar 1) (oSome (eCB cLenA (aCons (eVar 7) aNil))) (oSome (eVar 8)))) (eTup (aCons (eVar 6) aNil))) [7, 8] [8]) (gVar 2))) (dRet (eLc (iSeq (eVar 2)) (tgVar 7) yes (eOp dAdd (eVar 7) (eSl (eVar 1) (oSome (eCB cLenA (aCons (eVar 7) aNil))) oNone)) [7])))))
def tau_unwound : DS := (dSeq (dAsg (eDc (iItemsD (eVar 0)) (tgTup 2 (tgsCons (tgVar 5) (tgsCons (tgVar 6) tgsNil))) (eVar 5) (eCB cLenA (aCons (eVar 6) aNil)) [5, 6]) (gVar 1)) (dSeq (dAsg (eDc (iKeysD (eVar 0)) (tgVar 5) (eVar 5) (eLst aNil) [5]) (gVar 2)) (dSeq (dFor (iItemsD (eVar 0)) (gTupD 2 (gsCons (gVar 5) (gsCons (gVar 6) gsNil))) (dFor (iSeq (eVar 6)) (gVar 7) (dExpr (eMt "list" mAppend (eOp dIxA (eVar 2) (eVar 7)) (aCons (eVar 5) aNil))))) (dSeq (dAsg (eLc (iKeysD (eVar 0)) (tgVar 5) (eTst (eOp dEq (eOp dIxA (eVar 1) (eVar 5)) (eC (.int 0)))) (eVar 5) [5]) (gVar 3)) (dSeq (dAsg (eLst aNil) (gVar 4)) (dSeq (dWhile (eTru (eVar 3)) (dSeq (dAsg (eMt "list" mPop (eVar 3) aNil) (gVar 8)) (dSeq (dExpr (eMt "list" mAppend (eVar 4) (aCons (eVar 8) aNil))) (dFor (iSeq (eOp dIxA (eVar 2) (eVar 8))) (gVar 5) (dSeq (dAugS (eVar 1) (eVar 5) (fun x y => x - y) (eC (.int 1))) (dIf (eTst (eOp dEq (eOp dIxA (eVar 1) (eVar 5)) (eC (.int 0)))) (dExpr (eMt "list" mAppend (eVar 3) (aCons (eVar 5) aNil))) dNext)))))) (dRet (eVar 4))))))))
def tau_steps (sp_check_start : DSp) (sp_next_words : DSp) : DS := (dSeq (dExpr (eCall sp_check_start (aCons (eVar 0) (aCons (eVar 1) aNil)))) (dRet (eCall sp_next_words (aCons (eOp dIxA (eVar 0) (eC (.int 1))) (aCons (eVar 1) aNil)))))
def tau_all_come (sp_walk : DSp) : DS := (dRet (eCB cSortA (aCons (eCall sp_walk (aCons (eVar 0) (aCons (eVar 1) aNil))) aNil)))
def tau_walked_rests (sp_walk : DSp) : DS := (dRet (eCB cSortA (aCons (eLc (iItemsD (eCall sp_walk (aCons (eVar 0) (aCons (eVar 1) aNil)))) (tgTup 2 (tgsCons (tgVar 2) (tgsCons (tgVar 3) tgsNil))) (eNotT (eTru (eVar 3))) (eVar 2) [2, 3]) aNil)))
def tau_goes_on (sp_unwound : DSp) (sp_walk : DSp) : DS := (dSeq (dAsg (eCall sp_walk (aCons (eVar 0) (aCons (eVar 1) aNil))) (gVar 2)) (dRet (eOp dLt (eCB cLenA (aCons (eCall sp_unwound (aCons (eVar 2) aNil)) aNil)) (eCB cLenA (aCons (eVar 2) aNil)))))
def tau_longest (sp_unwound : DSp) (sp_walk : DSp) (cls_NotEnding : Addr) : DS := (dSeq (dAsg (eCall sp_walk (aCons (eVar 0) (aCons (eVar 1) aNil))) (gVar 2)) (dSeq (dAsg (eCall sp_unwound (aCons (eVar 2) aNil)) (gVar 3)) (dSeq (dIf (eTst (eOp dLt (eCB cLenA (aCons (eVar 3) aNil)) (eCB cLenA (aCons (eVar 2) aNil)))) (dRaise0 cls_NotEnding) dNext) (dSeq (dAsg eDnew (gVar 4)) (dSeq (dFor (iSeq (eVar 3)) (gVar 5) (dAsg (eMaxd (eLc (iSeq (eOp dIxA (eVar 2) (eVar 5))) (tgVar 6) yes (eOp dAdd (eOp dIxA (eVar 4) (eVar 6)) (eC (.int 1))) [6]) (eC (.int 0))) (gSto (eVar 4) (eVar 5)))) (dRet (eOp dIxA (eVar 4) (eVar 1))))))))
def tau_check_start (sp_check_book : DSp) (sp_check_word : DSp) : DS := (dSeq (dExpr (eCall sp_check_book (aCons (eVar 0) aNil))) (dExpr (eCall sp_check_word (aCons (eVar 1) (aCons (eOp dIxA (eVar 0) (eC (.int 0))) (aCons (eC (.int 8)) aNil))))))
def tau_walk (sp_check_start : DSp) (sp_next_words : DSp) : DS := (dSeq (dExpr (eCall sp_check_start (aCons (eVar 0) (aCons (eVar 1) aNil)))) (dSeq (dAsg eDnew (gVar 2)) (dSeq (dAsg (eLst (aCons (eVar 1) aNil)) (gVar 3)) (dSeq (dWhile (eTru (eVar 3)) (dSeq (dAsg (eMt "list" mPop (eVar 3) aNil) (gVar 4)) (dIf (eTst (eOp (dInA true) (eVar 4) (eVar 2))) (dSeq (dIf (eTst (eOp dEq (eCB cLenA (aCons (eVar 2) aNil)) (eC (.int 1500)))) dNever dNext) (dSeq (dAsg (eCall sp_next_words (aCons (eOp dIxA (eVar 0) (eC (.int 1))) (aCons (eVar 4) aNil))) (gSto (eVar 2) (eVar 4))) (dExpr (eMt "list" mExtendA (eVar 3) (aCons (eOp dIxA (eVar 2) (eVar 4)) aNil))))) dNext))) (dRet (eVar 2))))))
def tau__law_taken : DS := (dSeq (dIf (eTst (eOp dGtA (eOp dIxA (eVar 0) (eC (.int 3))) (eC (.int 0)))) (dSeq (dAsg (eOp dMod (eCB cInt (aCons (eOp dIxA (eVar 0) (eC (.int 3))) aNil)) (eVar 1)) (gVar 3)) (dSeq (dAsg (eOp dFdv (eOp dIxA (eVar 0) (eC (.int 3))) (eVar 1)) (gSto (eVar 0) (eC (.int 3)))) (dRet (eVar 3)))) dNext) (dSeq (dAsg (eOp dAdd (eOp dIxA (eVar 0) (eC (.int 1))) (eC (.int 1))) (gSto (eVar 0) (eC (.int 1)))) (dSeq (dIf (eTst (eOp dGtA (eOp dIxA (eVar 0) (eC (.int 1))) (eCB cLenA (aCons (eOp dIxA (eVar 0) (eC (.int 0))) aNil)))) (dSeq (dAsg (eOp dMod (eCB cInt (aCons (eOp dAdd (eOp dMul (eOp dIxA (eVar 0) (eC (.int 2))) (eC (.int 48271))) (eC (.int 11))) aNil)) (eC (.int 2147483647))) (gSto (eVar 0) (eC (.int 2)))) (dRet (eOp dMod (eCB cInt (aCons (eOp dFdv (eOp dIxA (eVar 0) (eC (.int 2))) (eC (.int 7))) aNil)) (eVar 1)))) dNext) (dSeq (dAsg (eOp dIxA (eOp dIxA (eVar 0) (eC (.int 0))) (eOp dSub (eOp dIxA (eVar 0) (eC (.int 1))) (eC (.int 1)))) (gVar 2)) (dSeq (dAsg (eOp dMod (eCB cInt (aCons (eOp dAdd (eOp dAdd (eOp dMul (eOp dIxA (eVar 0) (eC (.int 2))) (eC (.int 48271))) (eVar 2)) (eC (.int 11))) aNil)) (eC (.int 2147483647))) (gSto (eVar 0) (eC (.int 2)))) (dSeq (dIf (eTst (eOp dGe (eVar 2) (eOp dPow (eC (.int 10)) (eC (.int 18))))) (dAsg (eOp dFdv (eVar 2) (eVar 1)) (gSto (eVar 0) (eC (.int 3)))) dNext) (dRet (eOp dMod (eCB cInt (aCons (eVar 2) aNil)) (eVar 1)))))))))
def tau__law_order (sp__law_taken : DSp) : DS := (dSeq (dPar 3 4 (aCons (eLRg (eVar 1)) (aCons (eLst aNil) aNil))) (dSeq (dFor (iRng1D (aCons (eVar 1) aNil)) (gVar 2) (dSeq (dAsg (eCall sp__law_taken (aCons (eVar 0) (aCons (eCB cLenA (aCons (eVar 3) aNil)) aNil))) (gVar 5)) (dSeq (dExpr (eMt "list" mAppend (eVar 4) (aCons (eOp dIxA (eVar 3) (eVar 5)) aNil))) (dAsg (eOp dAdd (eSl (eVar 3) oNone (oSome (eVar 5))) (eSl (eVar 3) (oSome (eOp dAdd (eVar 5) (eC (.int 1)))) oNone)) (gVar 3))))) (dRet (eVar 4))))
def tau__law_letters (sp__law_taken : DSp) : DS := (dRet (eCB cTup (aCons (eLc (iRng1D (aCons (eVar 2) aNil)) (tgVar 3) yes (eCall sp__law_taken (aCons (eVar 0) (aCons (eVar 1) aNil))) [3]) aNil)))
def tau__law_book (sp__law_letters : DSp) (sp__law_order : DSp) (sp__law_taken : DSp) : DS := (dSeq (dPar3 5 6 7 (aCons (eOp dAdd (eC (.int 2)) (eCall sp__law_taken (aCons (eVar 0) (aCons (eOp dSub (eVar 1) (eC (.int 1))) aNil)))) (aCons (eCall sp__law_taken (aCons (eVar 0) (aCons (eC (.int 6)) aNil))) (aCons eDnew aNil)))) (dSeq (dAsg (eCall sp__law_order (aCons (eVar 0) (aCons (eVar 5) aNil))) (gVar 3)) (dSeq (dFor (iRng1D (aCons (eOp dAdd (eC (.int 1)) (eCall sp__law_taken (aCons (eVar 0) (aCons (eC (.int 4)) aNil)))) aNil)) (gVar 4) (dSeq (dAsg (eOp dAdd (eC (.int 1)) (eCall sp__law_taken (aCons (eVar 0) (aCons (eVar 2) aNil)))) (gVar 8)) (dSeq (dPar 9 10 (aCons (eCall sp__law_letters (aCons (eVar 0) (aCons (eVar 5) (aCons (eVar 8) aNil)))) (aCons (eCall sp__law_letters (aCons (eVar 0) (aCons (eVar 5) (aCons (eVar 8) aNil)))) aNil))) (dSeq (dIf (eTst (eOp dEq (eVar 6) (eC (.int 0)))) (dSeq (dAsg (eRev (eVar 9)) (gVar 10)) (dIf (eTst (eOp dGtA (eVar 9) (eVar 10))) (dPar 9 10 (aCons (eVar 10) (aCons (eVar 9) aNil))) dNext)) dNext) (dSeq (dIf (eAnd (eTst (eOp dEq (eVar 6) (eC (.int 1)))) (eTst (eOp dGtA (eOp dIxA (eVar 3) (eOp dIxA (eVar 10) (eNeg (eC (.int 1))))) (eOp dIxA (eVar 3) (eOp dIxA (eVar 9) (eNeg (eC (.int 1)))))))) (dPar 9 10 (aCons (eOp dAdd (eSl (eVar 9) oNone (oSome (eNeg (eC (.int 1))))) (eSl (eVar 10) (oSome (eNeg (eC (.int 1)))) oNone)) (aCons (eOp dAdd (eSl (eVar 10) oNone (oSome (eNeg (eC (.int 1))))) (eSl (eVar 9) (oSome (eNeg (eC (.int 1)))) oNone)) aNil))) dNext) (dSeq (dIf (eAnd (eTst (eOp dEq (eVar 6) (eC (.int 2)))) (eTst (eOp dGtA (eOp dIxA (eVar 3) (eOp dIxA (eVar 10) (eC (.int 0)))) (eOp dIxA (eVar 3) (eOp dIxA (eVar 9) (eC (.int 0))))))) (dPar 9 10 (aCons (eOp dAdd (eSl (eVar 10) oNone (oSome (eC (.int 1)))) (eSl (eVar 9) (oSome (eC (.int 1))) oNone)) (aCons (eOp dAdd (eSl (eVar 9) oNone (oSome (eC (.int 1)))) (eSl (eVar 10) (oSome (eC (.int 1))) oNone)) aNil))) dNext) (dSeq (dIf (eAnd (eTst (eOp dEq (eVar 6) (eC (.int 3)))) (eTst (eOp dGtA (eCB cSum (aCons (eLc (iSeq (eVar 10)) (tgVar 11) yes (eOp dIxA (eVar 3) (eVar 11)) [11]) aNil)) (eCB cSum (aCons (eLc (iSeq (eVar 9)) (tgVar 11) yes (eOp dIxA (eVar 3) (eVar 11)) [11]) aNil))))) (dPar 9 10 (aCons (eVar 10) (aCons (eVar 9) aNil))) dNext) (dIf (eTst (eOp dNe (eVar 9) (eVar 10))) (dAsg (eC (.bl true)) (gSto (eVar 7) (eTup (aCons (eVar 9) (aCons (eVar 10) aNil))))) dNext)))))))) (dRet (eTup (aCons (eVar 5) (aCons (eCB cTup (aCons (eSortedKeys (eVar 7)) aNil)) aNil)))))))
def tau__law_steps : DS := (dSeq (dAsg eDnew (gVar 2)) (dSeq (dFor (iSeq (eOp dIxA (eVar 0) (eC (.int 1)))) (gTupD 2 (gsCons (gVar 3) (gsCons (gVar 4) gsNil))) (dSeq (dAsg (eLst (aCons (eTup (aCons (eTup aNil) (aCons (eVar 1) aNil))) aNil)) (gVar 5)) (dSeq (dFor (iRng1D (aCons (eCB cLenA (aCons (eVar 3) aNil)) aNil)) (gVar 6) (dSeq (dAsg (eLst aNil) (gVar 7)) (dSeq (dFor (iSeq (eVar 5)) (gTupD 2 (gsCons (gVar 8) (gsCons (gVar 9) gsNil))) (dFor (iRng2D (aCons (eIf (eTst (eOp dNe (eVar 8) (eTup aNil))) (eOp dAdd (eOp dIxA (eVar 8) (eNeg (eC (.int 1)))) (eC (.int 1))) (eC (.int 0))) (aCons (eCB cLenA (aCons (eVar 1) aNil)) aNil))) (gVar 10) (dIf (eTst (eOp dEq (eOp dIxA (eVar 1) (eVar 10)) (eOp dIxA (eVar 3) (eVar 6)))) (dExpr (eMt "list" mAppend (eVar 7) (aCons (eTup (aCons (eOp dAdd (eVar 8) (eTup (aCons (eVar 10) aNil))) (aCons (eOp dAdd (eOp dAdd (eSl (eVar 9) oNone (oSome (eVar 10))) (eTup (aCons (eOp dIxA (eVar 4) (eVar 6)) aNil))) (eSl (eVar 9) (oSome (eOp dAdd (eVar 10) (eC (.int 1)))) oNone)) aNil))) aNil))) dNext))) (dAsg (eVar 7) (gVar 5))))) (dFor (iSeq (eVar 5)) (gTupD 2 (gsCons (gVar 8) (gsCons (gVar 9) gsNil))) (dAsg (eC (.bl true)) (gSto (eVar 2) (eVar 9))))))) (dRet (eSortedKeys (eVar 2)))))
def tau__law_walk (sp__law_steps : DSp) : DS := (dSeq (dPar 2 3 (aCons eDnew (aCons (eLst (aCons (eVar 1) aNil)) aNil))) (dSeq (dWhile (eTst (eOp dNe (eVar 3) (eLst aNil))) (dSeq (dAsg (eOp dIxA (eVar 3) (eC (.int 0))) (gVar 4)) (dSeq (dAsg (eSl (eVar 3) (oSome (eC (.int 1))) oNone) (gVar 3)) (dIf (eTst (eOp (dInA true) (eVar 4) (eVar 2))) (dSeq (dAsg (eCall sp__law_steps (aCons (eVar 0) (aCons (eVar 4) aNil))) (gSto (eVar 2) (eVar 4))) (dAsg (eOp dAdd (eVar 3) (eOp dIxA (eVar 2) (eVar 4))) (gVar 3))) dNext)))) (dRet (eVar 2))))
def tau__law_layers : DS := (dSeq (dAsg (eTup (aCons (eLst aNil) (aCons (eListKeys (eVar 0)) aNil))) (gTupD 2 (gsCons (gVar 1) (gsCons (gVar 2) gsNil)))) (dSeq (dWhile (eTst (eOp dNe (eVar 2) (eLst aNil))) (dSeq (dAsg (eLc (iSeq (eVar 2)) (tgVar 4) (eTst (eOp dEq (eLc (iSeq (eOp dIxA (eVar 0) (eVar 4))) (tgVar 5) (eTst (eOp (dInA false) (eVar 5) (eVar 2))) (eVar 5) [5]) (eLst aNil))) (eVar 4) [4]) (gVar 3)) (dSeq (dIf (eTst (eOp dEq (eVar 3) (eLst aNil))) (dRet (eC .non)) dNext) (dAsg (eTup (aCons (eOp dAdd (eVar 1) (eVar 3)) (aCons (eLc (iSeq (eVar 2)) (tgVar 4) (eTst (eOp (dInA true) (eVar 4) (eVar 3))) (eVar 4) [4]) aNil))) (gTupD 2 (gsCons (gVar 1) (gsCons (gVar 2) gsNil))))))) (dRet (eVar 1))))
def tau__law_last_ones : DS := (dRet (eCB cSortA (aCons (eLc (iKeysD (eVar 0)) (tgVar 1) (eTst (eOp dEq (eOp dIxA (eVar 0) (eVar 1)) (eLst aNil))) (eVar 1) [1]) aNil)))
def tau__law_alike (sp__law_alike : DSp) : DS := (dSeq (dIf (eTru (eIsi ["tuple", "list"] (eVar 1))) (dSeq (dIf (eOr (eNotT (eTru (eIsi ["tuple", "list"] (eVar 0)))) (eTst (eOp dNe (eIsi ["list"] (eVar 0)) (eIsi ["list"] (eVar 1))))) (dRet (eC (.bl false))) dNext) (dSeq (dIf (eTst (eOp dNe (eCB cLenA (aCons (eVar 0) aNil)) (eCB cLenA (aCons (eVar 1) aNil)))) (dRet (eC (.bl false))) dNext) (dRet (eOp dEq (eLc (iRng1D (aCons (eCB cLenA (aCons (eVar 1) aNil)) aNil)) (tgVar 2) (eNotT (eTru (eCall sp__law_alike (aCons (eOp dIxA (eVar 0) (eVar 2)) (aCons (eOp dIxA (eVar 1) (eVar 2)) aNil))))) (eVar 2) [2]) (eLst aNil))))) dNext) (dSeq (dIf (eOr (eTst (eOp dIsN (eVar 1) (eC .non))) (eTru (eIsi ["str"] (eVar 1)))) (dRet (eAndV (eOp dEq (eVar 0) (eVar 1)) (eOp dEq (eIsi ["str"] (eVar 0)) (eIsi ["str"] (eVar 1))))) dNext) (dRet (eAndV (eIsi ["int"] (eVar 0)) (eAndV (eOp dEq (eIsi ["bool"] (eVar 0)) (eIsi ["bool"] (eVar 1))) (eOp dEq (eVar 0) (eVar 1)))))))
def tau_law (sp__law_alike : DSp) (sp__law_book : DSp) (sp__law_last_ones : DSp) (sp__law_layers : DSp) (sp__law_letters : DSp) (sp__law_steps : DSp) (sp__law_taken : DSp) (sp__law_walk : DSp) (sp_all_come : DSp) (sp_goes_on : DSp) (sp_longest : DSp) (sp_steps : DSp) (sp_walked_rests : DSp) (K : Frag) (cls_NotEnding : Addr) (cls_ScatterError : Addr) : DS := (dSeq (dAsg (eLst (aCons (eVar 0) (aCons (eC (.int 0)) (aCons (eC (.int 10400)) (aCons (eC (.int 0)) aNil))))) (gVar 1)) (dSeq (dPar 10 11 (aCons (eCall sp__law_book (aCons (eVar 1) (aCons (eC (.int 3)) (aCons (eC (.int 3)) aNil)))) (aCons (eC .non) aNil))) (dSeq (dAsg (eCall sp__law_book (aCons (eVar 1) (aCons (eC (.int 4)) (aCons (eC (.int 3)) aNil)))) (gVar 2)) (dSeq (dAsg (eCall sp__law_letters (aCons (eVar 1) (aCons (eOp dIxA (eVar 2) (eC (.int 0))) (aCons (eCall sp__law_taken (aCons (eVar 1) (aCons (eC (.int 9)) aNil))) aNil)))) (gVar 3)) (dSeq (dIf (eNotT (eTru (eCall sp__law_alike (aCons (eCall sp_steps (aCons (eVar 2) (aCons (eVar 3) aNil))) (aCons (eCB cTup (aCons (eCall sp__law_steps (aCons (eVar 2) (aCons (eVar 3) aNil))) aNil)) aNil))))) (dRet (eC (.bl false))) dNext) (dSeq (dAsg (eCall sp__law_letters (aCons (eVar 1) (aCons (eOp dIxA (eVar 10) (eC (.int 0))) (aCons (eCall sp__law_taken (aCons (eVar 1) (aCons (eC (.int 5)) aNil))) aNil)))) (gVar 4)) (dSeq (dAsg (eCall sp__law_walk (aCons (eVar 10) (aCons (eVar 4) aNil))) (gVar 5)) (dSeq (dAsg (eCall sp__law_layers (aCons (eVar 5) aNil)) (gVar 6)) (dSeq (dIf (eNotT (eTru (eCall sp__law_alike (aCons (eCall sp_all_come (aCons (eVar 10) (aCons (eVar 4) aNil))) (aCons (eSortedKeys (eVar 5)) aNil))))) (dRet (eC (.bl false))) dNext) (dSeq (dIf (eNotT (eTru (eCall sp__law_alike (aCons (eCall sp_walked_rests (aCons (eVar 10) (aCons (eVar 4) aNil))) (aCons (eCall sp__law_last_ones (aCons (eVar 5) aNil)) aNil))))) (dRet (eC (.bl false))) dNext) (dSeq (dIf (eNotT (eTru (eCall sp__law_alike (aCons (eCall sp_goes_on (aCons (eVar 10) (aCons (eVar 4) aNil))) (aCons (eOp dIsN (eVar 6) (eC .non)) aNil))))) (dRet (eC (.bl false))) dNext) (dSeq (dTryAs K (.ref cls_ScatterError) 7 (dAsg (eCall sp_longest (aCons (eVar 10) (aCons (eVar 4) aNil))) (gVar 11)) (fun a cls => (dRet (eAndV (eIsOwn a cls cls_NotEnding (eVar 7)) (eOp dIsN (eVar 6) (eC .non)))))) (dSeq (dAsg eDnew (gVar 8)) (dSeq (dFor (iSeq (eIf (eTst (eOp dNotN (eVar 6) (eC .non))) (eVar 6) (eLst aNil))) (gVar 9) (dAsg (eOp dAdd (eCB cMax (aCons (eOp dAdd (eLst (aCons (eNeg (eC (.int 1))) aNil)) (eLc (iSeq (eOp dIxA (eVar 5) (eVar 9))) (tgVar 12) yes (eOp dIxA (eVar 8) (eVar 12)) [12])) aNil)) (eC (.int 1))) (gSto (eVar 8) (eVar 9)))) (dRet (eAndV (eOp dNotN (eVar 6) (eC .non)) (eCall sp__law_alike (aCons (eVar 11) (aCons (eOp dIxA (eVar 8) (eVar 4)) aNil)))))))))))))))))))
end DL
set_option Elab.async false
set_option linter.all false
set_option maxRecDepth 100000
set_option maxHeartbeats 4000000
namespace DL
open PySem PySem.Spec PyProof.Rows L2
open PySem.W (Frag)
abbrev st_next_words : Stmt := top 18
theorem sc_next_words : FnScope ["rules", "word", "found", "rule", "changed"] ["rules", "word"] (defScope (top 18)) := ⟨rfl, rfl, rfl, by decide +kernel, rfl, by decide +kernel, by decide +kernel⟩
theorem der_next_words {g : G} {mg : Str → Option Value} {base : Heap} {f : Addr} {k : Nat} (B : BltD mg) {sp_turns : DSp} (F_turns : AtD g mg base k "turns" ["rule", "word"] sp_turns) (cd : Value) (A : Around) (outer : List PySem.Env) (s : Shared) (H : Hp) (E : XK) (hr : Room k (A.deeper (envOfC "next_words" (defScope (top 18)) s.heap.objs.size f cd))) :
    PDSs (cxD g mg base ["rules", "word", "found", "rule", "changed"] "next_words" (defScope (top 18)) f cd A outer s H E) g.T (fun cls d _ H' => E cls d H') (defBody (top 18)) (tau_next_words sp_turns) := by
  have S : Std (cxD g mg base ["rules", "word", "found", "rule", "changed"] "next_words" (defScope (top 18)) f cd A outer s H E) (fun cls d _ H' => E cls d H') := std_of sc_next_words.nd
  unfold tau_next_words
  exact (pds_cons (pds_setLc2 (i := 2) (own := [("rule", 3), ("changed", 4)]) (vs1 := [4]) (tgt := (tgVar 3)) (tgt1 := (tgVar 4)) (tt := yes) (tt1 := yes) (ε := (eVar 4)) S rfl rfl (sw_true rfl rfl rfl (by decide +kernel)) (pdi_seq (pd_var (i := 0) rfl (by first | exact .inl rfl | exact .inr (.inl rfl) | exact .inr (.inr rfl)))) (blkOk_by (N := ["rules", "word", "found", "rule", "changed"]) (sc := (defScope (top 18))) (by decide +kernel)) (by decide) (tg_var (by decide)) (tg_var (by decide)) (fun _ _ _ _ _ S => (pg_name (i := 3) S.nd rfl (by first | exact .inl rfl | exact .inr rfl))) (fun _ _ _ _ _ S => pdts_nil) (fun _ _ _ _ _ S => (pdi_seq (pd_call S F_turns hr (Nat.le_refl _) rfl (pda_cons (pd_var (i := 3) rfl (by first | exact .inl rfl | exact .inr (.inl rfl) | exact .inr (.inr rfl))) (pda_cons (pd_var (i := 1) rfl (by first | exact .inl rfl | exact .inr (.inl rfl) | exact .inr (.inr rfl))) pda_nil))))) (fun _ _ _ _ _ S => (pg_name (i := 4) S.nd rfl (by first | exact .inl rfl | exact .inr rfl))) (fun _ _ _ _ _ S => pdts_nil) (fun _ _ _ _ _ S => (pd_var (i := 4) rfl (by first | exact .inl rfl | exact .inr (.inl rfl) | exact .inr (.inr rfl))))) (pds_one (pds_ret (pd_tuple rfl B.tuple (pda_cons (pd_sortA S hr rfl B.sorted (pda_cons (pd_setc S hr rfl B.set (pda_cons (pd_var (i := 2) rfl (by first | exact .inl rfl | exact .inr (.inl rfl) | exact .inr (.inr rfl))) pda_nil)) pda_nil)) pda_nil)))))
abbrev st_check_book : Stmt := top 10
theorem sc_check_book : FnScope ["book", "many", "rules", "index", "rule"] ["book"] (defScope (top 10)) := ⟨rfl, rfl, rfl, by decide +kernel, rfl, by decide +kernel, by decide +kernel⟩
theorem der_check_book {g : G} {mg : Str → Option Value} {base : Heap} {f : Addr} {k : Nat} (B : BltD mg) {sp_is_frame : DSp} (F_is_frame : AtD g mg base k "is_frame" ["value"] sp_is_frame) {sp_is_rule : DSp} (F_is_rule : AtD g mg base k "is_rule" ["value", "many"] sp_is_rule) (cd : Value) (A : Around) (outer : List PySem.Env) (s : Shared) (H : Hp) (E : XK) (hr : Room k (A.deeper (envOfC "check_book" (defScope (top 10)) s.heap.objs.size f cd))) :
    PDSs (cxD g mg base ["book", "many", "rules", "index", "rule"] "check_book" (defScope (top 10)) f cd A outer s H E) g.T (fun cls d _ H' => E cls d H') (defBody (top 10)) (tau_check_book sp_is_frame sp_is_rule) := by
  have S : Std (cxD g mg base ["book", "many", "rules", "index", "rule"] "check_book" (defScope (top 10)) f cd A outer s H E) (fun cls d _ H' => E cls d H') := std_of sc_check_book.nd
  unfold tau_check_book
  exact (pds_cons (pds_if (pdt_not (pdt_tru (pd_call S F_is_frame hr (Nat.le_refl _) rfl (pda_cons (pd_var (i := 0) rfl (by first | exact .inl rfl | exact .inr (.inl rfl) | exact .inr (.inr rfl))) pda_nil)))) (pds_one pds_never) pds_nil) (pds_cons (pds_asg (pd_var (i := 0) rfl (by first | exact .inl rfl | exact .inr (.inl rfl) | exact .inr (.inr rfl))) (pdg_tup S (pdgs_cons (pdg_var (i := 1) S rfl (by first | exact .inl rfl | exact .inr rfl)) (pdgs_cons (pdg_var (i := 2) S rfl (by first | exact .inl rfl | exact .inr rfl)) pdgs_nil)))) (pds_one (pds_for S (pdi_enum rfl B.enumerate (pda_cons (pd_var (i := 2) rfl (by first | exact .inl rfl | exact .inr (.inl rfl) | exact .inr (.inr rfl))) pda_nil)) (pdg_tup S (pdgs_cons (pdg_var (i := 3) S rfl (by first | exact .inl rfl | exact .inr rfl)) (pdgs_cons (pdg_var (i := 4) S rfl (by first | exact .inl rfl | exact .inr rfl)) pdgs_nil))) (pds_cons (pds_if (pdt_not (pdt_tru (pd_call S F_is_rule hr (Nat.le_refl _) rfl (pda_cons (pd_var (i := 4) rfl (by first | exact .inl rfl | exact .inr (.inl rfl) | exact .inr (.inr rfl))) (pda_cons (pd_var (i := 1) rfl (by first | exact .inl rfl | exact .inr (.inl rfl) | exact .inr (.inr rfl))) pda_nil))))) (pds_one pds_never) pds_nil) (pds_one (pds_if (PDW.pt (pdw_and (t_cmp (o_gt hr) (pd_var (i := 3) rfl (by first | exact .inl rfl | exact .inr (.inl rfl) | exact .inr (.inr rfl))) pd_int) (pdw_and1 (t_cmp (o_le hr) (pd_var (i := 4) rfl (by first | exact .inl rfl | exact .inr (.inl rfl) | exact .inr (.inr rfl))) (e_ix (o_ix hr) (pd_var (i := 2) rfl (by first | exact .inl rfl | exact .inr (.inl rfl) | exact .inr (.inr rfl))) (e_op o_sub (pd_var (i := 3) rfl (by first | exact .inl rfl | exact .inr (.inl rfl) | exact .inr (.inr rfl))) pd_int)))))) (pds_one pds_never) pds_nil)))))))
abbrev st_check_word : Stmt := top 11
theorem sc_check_word : FnScope ["word", "many", "most", "index", "item"] ["word", "many", "most"] (defScope (top 11)) := ⟨rfl, rfl, rfl, by decide +kernel, rfl, by decide +kernel, by decide +kernel⟩
theorem der_check_word {g : G} {mg : Str → Option Value} {base : Heap} {f : Addr} {k : Nat} (B : BltD mg) {sp_is_letter : DSp} (F_is_letter : AtD g mg base k "is_letter" ["value", "many"] sp_is_letter) (cd : Value) (A : Around) (outer : List PySem.Env) (s : Shared) (H : Hp) (E : XK) (hr : Room k (A.deeper (envOfC "check_word" (defScope (top 11)) s.heap.objs.size f cd))) :
    PDSs (cxD g mg base ["word", "many", "most", "index", "item"] "check_word" (defScope (top 11)) f cd A outer s H E) g.T (fun cls d _ H' => E cls d H') (defBody (top 11)) (tau_check_word sp_is_letter) := by
  have S : Std (cxD g mg base ["word", "many", "most", "index", "item"] "check_word" (defScope (top 11)) f cd A outer s H E) (fun cls d _ H' => E cls d H') := std_of sc_check_word.nd
  unfold tau_check_word
  exact (pds_cons (pds_if (PDW.pt (pdw_or (pdt_not (pdt_tru (pd_isi (TT := "tuple") rfl B.isi rfl B.tuple (by decide +kernel) (pd_var (i := 0) rfl (by first | exact .inl rfl | exact .inr (.inl rfl) | exact .inr (.inr rfl)))))) (pdw_or1 (t_cmp (o_gt hr) (pd_lenA rfl B.len (pda_cons (pd_var (i := 0) rfl (by first | exact .inl rfl | exact .inr (.inl rfl) | exact .inr (.inr rfl))) pda_nil)) (pd_var (i := 2) rfl (by first | exact .inl rfl | exact .inr (.inl rfl) | exact .inr (.inr rfl))))))) (pds_one pds_never) pds_nil) (pds_one (pds_for S (pdi_enum rfl B.enumerate (pda_cons (pd_var (i := 0) rfl (by first | exact .inl rfl | exact .inr (.inl rfl) | exact .inr (.inr rfl))) pda_nil)) (pdg_tup S (pdgs_cons (pdg_var (i := 3) S rfl (by first | exact .inl rfl | exact .inr rfl)) (pdgs_cons (pdg_var (i := 4) S rfl (by first | exact .inl rfl | exact .inr rfl)) pdgs_nil))) (pds_one (pds_if (pdt_not (pdt_tru (pd_call S F_is_letter hr (Nat.le_refl _) rfl (pda_cons (pd_var (i := 4) rfl (by first | exact .inl rfl | exact .inr (.inl rfl) | exact .inr (.inr rfl))) (pda_cons (pd_var (i := 1) rfl (by first | exact .inl rfl | exact .inr (.inl rfl) | exact .inr (.inr rfl))) pda_nil))))) (pds_one pds_never) pds_nil)))))
abbrev st_is_frame : Stmt := top 12
theorem sc_is_frame : FnScope ["value", "many", "rules"] ["value"] (defScope (top 12)) := ⟨rfl, rfl, rfl, by decide +kernel, rfl, by decide +kernel, by decide +kernel⟩
theorem der_is_frame {g : G} {mg : Str → Option Value} {base : Heap} {f : Addr} {k : Nat} (B : BltD mg) {sp_is_whole : DSp} (F_is_whole : AtD g mg base k "is_whole" ["value"] sp_is_whole) (c_MOST_LETTERS : ∃ t, mg "MOST_LETTERS" = some (.int 4 t)) (c_MOST_RULES : ∃ t, mg "MOST_RULES" = some (.int 12 t)) (cd : Value) (A : Around) (outer : List PySem.Env) (s : Shared) (H : Hp) (E : XK) (hr : Room k (A.deeper (envOfC "is_frame" (defScope (top 12)) s.heap.objs.size f cd))) :
    PDSs (cxD g mg base ["value", "many", "rules"] "is_frame" (defScope (top 12)) f cd A outer s H E) g.T (fun cls d _ H' => E cls d H') (defBody (top 12)) (tau_is_frame sp_is_whole) := by
  have S : Std (cxD g mg base ["value", "many", "rules"] "is_frame" (defScope (top 12)) f cd A outer s H E) (fun cls d _ H' => E cls d H') := std_of sc_is_frame.nd
  unfold tau_is_frame
  exact (pds_cons (pds_if (PDW.pt (pdw_or (pdt_not (pdt_tru (pd_isi (TT := "tuple") rfl B.isi rfl B.tuple (by decide +kernel) (pd_var (i := 0) rfl (by first | exact .inl rfl | exact .inr (.inl rfl) | exact .inr (.inr rfl)))))) (pdw_or1 (t_cmp (o_ne hr) (pd_lenA rfl B.len (pda_cons (pd_var (i := 0) rfl (by first | exact .inl rfl | exact .inr (.inl rfl) | exact .inr (.inr rfl))) pda_nil)) pd_int)))) (pds_one (pds_ret pd_bl)) pds_nil) (pds_cons (pds_asg (pd_var (i := 0) rfl (by first | exact .inl rfl | exact .inr (.inl rfl) | exact .inr (.inr rfl))) (pdg_tup S (pdgs_cons (pdg_var (i := 1) S rfl (by first | exact .inl rfl | exact .inr rfl)) (pdgs_cons (pdg_var (i := 2) S rfl (by first | exact .inl rfl | exact .inr rfl)) pdgs_nil)))) (pds_cons (pds_if (PDW.pt (pdw_or (pdt_not (pdt_tru (pd_call S F_is_whole hr (Nat.le_refl _) rfl (pda_cons (pd_var (i := 1) rfl (by first | exact .inl rfl | exact .inr (.inl rfl) | exact .inr (.inr rfl))) pda_nil)))) (pdw_or1 (pdt_not (t_chain (o_le hr) (o_le hr) pd_int (pd_var (i := 1) rfl (by first | exact .inl rfl | exact .inr (.inl rfl) | exact .inr (.inr rfl))) (pd_gint rfl c_MOST_LETTERS)))))) (pds_one (pds_ret pd_bl)) pds_nil) (pds_one (pds_ret (pd_and (pd_isi (TT := "tuple") rfl B.isi rfl B.tuple (by decide +kernel) (pd_var (i := 2) rfl (by first | exact .inl rfl | exact .inr (.inl rfl) | exact .inr (.inr rfl)))) (pd_one (e_cmp (o_le hr) (pd_lenA rfl B.len (pda_cons (pd_var (i := 2) rfl (by first | exact .inl rfl | exact .inr (.inl rfl) | exact .inr (.inr rfl))) pda_nil)) (pd_gint rfl c_MOST_RULES)))))))))
abbrev st_is_rule : Stmt := top 13
theorem sc_is_rule : FnScope ["value", "many", "left", "right"] ["value", "many"] (defScope (top 13)) := ⟨rfl, rfl, rfl, by decide +kernel, rfl, by decide +kernel, by decide +kernel⟩
theorem der_is_rule {g : G} {mg : Str → Option Value} {base : Heap} {f : Addr} {k : Nat} (B : BltD mg) {sp_is_side : DSp} (F_is_side : AtD g mg base k "is_side" ["value", "many"] sp_is_side) (cd : Value) (A : Around) (outer : List PySem.Env) (s : Shared) (H : Hp) (E : XK) (hr : Room k (A.deeper (envOfC "is_rule" (defScope (top 13)) s.heap.objs.size f cd))) :
    PDSs (cxD g mg base ["value", "many", "left", "right"] "is_rule" (defScope (top 13)) f cd A outer s H E) g.T (fun cls d _ H' => E cls d H') (defBody (top 13)) (tau_is_rule sp_is_side) := by
  have S : Std (cxD g mg base ["value", "many", "left", "right"] "is_rule" (defScope (top 13)) f cd A outer s H E) (fun cls d _ H' => E cls d H') := std_of sc_is_rule.nd
  unfold tau_is_rule
  exact (pds_cons (pds_if (PDW.pt (pdw_or (pdt_not (pdt_tru (pd_isi (TT := "tuple") rfl B.isi rfl B.tuple (by decide +kernel) (pd_var (i := 0) rfl (by first | exact .inl rfl | exact .inr (.inl rfl) | exact .inr (.inr rfl)))))) (pdw_or1 (t_cmp (o_ne hr) (pd_lenA rfl B.len (pda_cons (pd_var (i := 0) rfl (by first | exact .inl rfl | exact .inr (.inl rfl) | exact .inr (.inr rfl))) pda_nil)) pd_int)))) (pds_one (pds_ret pd_bl)) pds_nil) (pds_cons (pds_asg (pd_var (i := 0) rfl (by first | exact .inl rfl | exact .inr (.inl rfl) | exact .inr (.inr rfl))) (pdg_tup S (pdgs_cons (pdg_var (i := 2) S rfl (by first | exact .inl rfl | exact .inr rfl)) (pdgs_cons (pdg_var (i := 3) S rfl (by first | exact .inl rfl | exact .inr rfl)) pdgs_nil)))) (pds_cons (pds_if (PDW.pt (pdw_or (pdt_not (pdt_tru (pd_call S F_is_side hr (Nat.le_refl _) rfl (pda_cons (pd_var (i := 2) rfl (by first | exact .inl rfl | exact .inr (.inl rfl) | exact .inr (.inr rfl))) (pda_cons (pd_var (i := 1) rfl (by first | exact .inl rfl | exact .inr (.inl rfl) | exact .inr (.inr rfl))) pda_nil))))) (pdw_or1 (pdt_not (pdt_tru (pd_call S F_is_side hr (Nat.le_refl _) rfl (pda_cons (pd_var (i := 3) rfl (by first | exact .inl rfl | exact .inr (.inl rfl) | exact .inr (.inr rfl))) (pda_cons (pd_var (i := 1) rfl (by first | exact .inl rfl | exact .inr (.inl rfl) | exact .inr (.inr rfl))) pda_nil)))))))) (pds_one (pds_ret pd_bl)) pds_nil) (pds_one (pds_ret (pd_and (e_cmp (o_eq hr) (pd_lenA rfl B.len (pda_cons (pd_var (i := 2) rfl (by first | exact .inl rfl | exact .inr (.inl rfl) | exact .inr (.inr rfl))) pda_nil)) (pd_lenA rfl B.len (pda_cons (pd_var (i := 3) rfl (by first | exact .inl rfl | exact .inr (.inl rfl) | exact .inr (.inr rfl))) pda_nil))) (pd_one (e_cmp (o_ne hr) (pd_var (i := 2) rfl (by first | exact .inl rfl | exact .inr (.inl rfl) | exact .inr (.inr rfl))) (pd_var (i := 3) rfl (by first | exact .inl rfl | exact .inr (.inl rfl) | exact .inr (.inr rfl)))))))))))
abbrev st_is_letter : Stmt := top 15
theorem sc_is_letter : FnScope ["value", "many"] ["value", "many"] (defScope (top 15)) := ⟨rfl, rfl, rfl, by decide +kernel, rfl, by decide +kernel, by decide +kernel⟩
theorem der_is_letter {g : G} {mg : Str → Option Value} {base : Heap} {f : Addr} {k : Nat} (B : BltD mg) {sp_is_whole : DSp} (F_is_whole : AtD g mg base k "is_whole" ["value"] sp_is_whole) (cd : Value) (A : Around) (outer : List PySem.Env) (s : Shared) (H : Hp) (E : XK) (hr : Room k (A.deeper (envOfC "is_letter" (defScope (top 15)) s.heap.objs.size f cd))) :
    PDSs (cxD g mg base ["value", "many"] "is_letter" (defScope (top 15)) f cd A outer s H E) g.T (fun cls d _ H' => E cls d H') (defBody (top 15)) (tau_is_letter sp_is_whole) := by
  have S : Std (cxD g mg base ["value", "many"] "is_letter" (defScope (top 15)) f cd A outer s H E) (fun cls d _ H' => E cls d H') := std_of sc_is_letter.nd
  unfold tau_is_letter
  exact (pds_one (pds_ret (pd_and (pd_call S F_is_whole hr (Nat.le_refl _) rfl (pda_cons (pd_var (i := 0) rfl (by first | exact .inl rfl | exact .inr (.inl rfl) | exact .inr (.inr rfl))) pda_nil)) (pd_one (e_chain (o_le hr) (o_lt hr) pd_int (pd_var (i := 0) rfl (by first | exact .inl rfl | exact .inr (.inl rfl) | exact .inr (.inr rfl))) (pd_var (i := 1) rfl (by first | exact .inl rfl | exact .inr (.inl rfl) | exact .inr (.inr rfl))))))))
abbrev st_is_whole : Stmt := top 16
theorem sc_is_whole : FnScope ["value"] ["value"] (defScope (top 16)) := ⟨rfl, rfl, rfl, by decide +kernel, rfl, by decide +kernel, by decide +kernel⟩
theorem der_is_whole {g : G} {mg : Str → Option Value} {base : Heap} {f : Addr} {k : Nat} (B : BltD mg) (cd : Value) (A : Around) (outer : List PySem.Env) (s : Shared) (H : Hp) (E : XK) (hr : Room k (A.deeper (envOfC "is_whole" (defScope (top 16)) s.heap.objs.size f cd))) :
    PDSs (cxD g mg base ["value"] "is_whole" (defScope (top 16)) f cd A outer s H E) g.T (fun cls d _ H' => E cls d H') (defBody (top 16)) (tau_is_whole) := by
  have S : Std (cxD g mg base ["value"] "is_whole" (defScope (top 16)) f cd A outer s H E) (fun cls d _ H' => E cls d H') := std_of sc_is_whole.nd
  unfold tau_is_whole
  exact (pds_one (pds_ret (pd_and (pd_isi (TT := "int") rfl B.isi rfl B.int (by decide +kernel) (pd_var (i := 0) rfl (by first | exact .inl rfl | exact .inr (.inl rfl) | exact .inr (.inr rfl)))) (pd_one (pd_not (pd_isi (TT := "bool") rfl B.isi rfl B.bool (by decide +kernel) (pd_var (i := 0) rfl (by first | exact .inl rfl | exact .inr (.inl rfl) | exact .inr (.inr rfl)))))))))
abbrev st_turns : Stmt := top 19
theorem sc_turns : FnScope ["rule", "word", "begun", "left", "right", "letter", "change", "start", "at"] ["rule", "word"] (defScope (top 19)) := ⟨rfl, rfl, rfl, by decide +kernel, rfl, by decide +kernel, by decide +kernel⟩
theorem der_turns {g : G} {mg : Str → Option Value} {base : Heap} {f : Addr} {k : Nat} (B : BltD mg) (cd : Value) (A : Around) (outer : List PySem.Env) (s : Shared) (H : Hp) (E : XK) (hr : Room k (A.deeper (envOfC "turns" (defScope (top 19)) s.heap.objs.size f cd))) :
    PDSs (cxD g mg base ["rule", "word", "begun", "left", "right", "letter", "change", "start", "at"] "turns" (defScope (top 19)) f cd A outer s H E) g.T (fun cls d _ H' => E cls d H') (defBody (top 19)) (tau_turns) := by
  have S : Std (cxD g mg base ["rule", "word", "begun", "left", "right", "letter", "change", "start", "at"] "turns" (defScope (top 19)) f cd A outer s H E) (fun cls d _ H' => E cls d H') := std_of sc_turns.nd
  unfold tau_turns
  exact (pds_cons (pds_asg (pd_var (i := 0) rfl (by first | exact .inl rfl | exact .inr (.inl rfl) | exact .inr (.inr rfl))) (pdg_tup S (pdgs_cons (pdg_var (i := 3) S rfl (by first | exact .inl rfl | exact .inr rfl)) (pdgs_cons (pdg_var (i := 4) S rfl (by first | exact .inl rfl | exact .inr rfl)) pdgs_nil)))) (pds_cons (pds_set (i := 2) S rfl (by first | exact .inl rfl | exact .inr rfl) (pd_lst (pda_cons (pd_tup pda_nil) pda_nil))) (pds_cons (pds_for S (pdi_zip rfl B.zip (pda_cons (pd_var (i := 3) rfl (by first | exact .inl rfl | exact .inr (.inl rfl) | exact .inr (.inr rfl))) (pda_cons (pd_var (i := 4) rfl (by first | exact .inl rfl | exact .inr (.inl rfl) | exact .inr (.inr rfl))) pda_nil))) (pdg_tup S (pdgs_cons (pdg_var (i := 5) S rfl (by first | exact .inl rfl | exact .inr rfl)) (pdgs_cons (pdg_var (i := 6) S rfl (by first | exact .inl rfl | exact .inr rfl)) pdgs_nil))) (pds_one (pds_setLc2 (i := 2) (own := [("start", 7), ("at", 8)]) (vs1 := [8]) (tgt := (tgVar 7)) (tgt1 := (tgVar 8)) (tt := yes) (tt1 := (eTst (eOp dEq (eOp dIxA (eVar 1) (eVar 8)) (eVar 5)))) (ε := (eOp dAdd (eOp dAdd (eVar 7) (eSl (eVar 1) (oSome (eCB cLenA (aCons (eVar 7) aNil))) (oSome (eVar 8)))) (eTup (aCons (eVar 6) aNil)))) S rfl rfl (sw_true rfl rfl rfl (by decide +kernel)) (pdi_seq (pd_var (i := 2) rfl (by first | exact .inl rfl | exact .inr (.inl rfl) | exact .inr (.inr rfl)))) (blkOk_by (N := ["rule", "word", "begun", "left", "right", "letter", "change", "start", "at"]) (sc := (defScope (top 19))) (by decide +kernel)) (by decide) (tg_var (by decide)) (tg_var (by decide)) (fun _ _ _ _ _ S => (pg_name (i := 7) S.nd rfl (by first | exact .inl rfl | exact .inr rfl))) (fun _ _ _ _ _ S => pdts_nil) (fun _ _ _ _ _ S => (pdi_rng2 rfl B.range (pda_cons (pd_lenA rfl B.len (pda_cons (pd_var (i := 7) rfl (by first | exact .inl rfl | exact .inr (.inl rfl) | exact .inr (.inr rfl))) pda_nil)) (pda_cons (pd_lenA rfl B.len (pda_cons (pd_var (i := 1) rfl (by first | exact .inl rfl | exact .inr (.inl rfl) | exact .inr (.inr rfl))) pda_nil)) pda_nil)))) (fun _ _ _ _ _ S => (pg_name (i := 8) S.nd rfl (by first | exact .inl rfl | exact .inr rfl))) (fun _ _ _ _ _ S => (pdts_one (t_cmp (o_eq hr) (e_ix (o_ix hr) (pd_var (i := 1) rfl (by first | exact .inl rfl | exact .inr (.inl rfl) | exact .inr (.inr rfl))) (pd_var (i := 8) rfl (by first | exact .inl rfl | exact .inr (.inl rfl) | exact .inr (.inr rfl)))) (pd_var (i := 5) rfl (by first | exact .inl rfl | exact .inr (.inl rfl) | exact .inr (.inr rfl)))))) (fun _ _ _ _ _ S => (e_op o_add (e_op o_add (pd_var (i := 7) rfl (by first | exact .inl rfl | exact .inr (.inl rfl) | exact .inr (.inr rfl))) (pd_slice (pd_var (i := 1) rfl (by first | exact .inl rfl | exact .inr (.inl rfl) | exact .inr (.inr rfl))) (pdo_some (pd_lenA rfl B.len (pda_cons (pd_var (i := 7) rfl (by first | exact .inl rfl | exact .inr (.inl rfl) | exact .inr (.inr rfl))) pda_nil))) (pdo_some (pd_var (i := 8) rfl (by first | exact .inl rfl | exact .inr (.inl rfl) | exact .inr (.inr rfl)))))) (pd_tup (pda_cons (pd_var (i := 6) rfl (by first | exact .inl rfl | exact .inr (.inl rfl) | exact .inr (.inr rfl))) pda_nil))))))) (pds_one (pds_ret (pd_lc (own := [("start", 7)]) (tgt := (tgVar 7)) (tt := yes) (ε := (eOp dAdd (eVar 7) (eSl (eVar 1) (oSome (eCB cLenA (aCons (eVar 7) aNil))) oNone))) S (pdi_seq (pd_var (i := 2) rfl (by first | exact .inl rfl | exact .inr (.inl rfl) | exact .inr (.inr rfl)))) (blkOk_by (N := ["rule", "word", "begun", "left", "right", "letter", "change", "start", "at"]) (sc := (defScope (top 19))) (by decide +kernel)) (tg_var (by decide)) (fun _ _ _ _ _ S => (pg_name (i := 7) S.nd rfl (by first | exact .inl rfl | exact .inr rfl))) (fun _ _ _ _ _ S => pdts_nil) (fun _ _ _ _ _ S => (e_op o_add (pd_var (i := 7) rfl (by first | exact .inl rfl | exact .inr (.inl rfl) | exact .inr (.inr rfl))) (pd_slice (pd_var (i := 1) rfl (by first | exact .inl rfl | exact .inr (.inl rfl) | exact .inr (.inr rfl))) (pdo_some (pd_lenA rfl B.len (pda_cons (pd_var (i := 7) rfl (by first | exact .inl rfl | exact .inr (.inl rfl) | exact .inr (.inr rfl))) pda_nil))) pdo_none)))))))))
abbrev st_unwound : Stmt := top 20
theorem sc_unwound : FnScope ["graph", "waiting", "ahead", "ready", "done", "word", "found", "follower", "last"] ["graph"] (defScope (top 20)) := ⟨rfl, rfl, rfl, by decide +kernel, rfl, by decide +kernel, by decide +kernel⟩
theorem der_unwound {g : G} {mg : Str → Option Value} {base : Heap} {f : Addr} {k : Nat} (B : BltD mg) (cd : Value) (A : Around) (outer : List PySem.Env) (s : Shared) (H : Hp) (E : XK) (hr : Room k (A.deeper (envOfC "unwound" (defScope (top 20)) s.heap.objs.size f cd))) :
    PDSs (cxD g mg base ["graph", "waiting", "ahead", "ready", "done", "word", "found", "follower", "last"] "unwound" (defScope (top 20)) f cd A outer s H E) g.T (fun cls d _ H' => E cls d H') (defBody (top 20)) (tau_unwound) := by
  have S : Std (cxD g mg base ["graph", "waiting", "ahead", "ready", "done", "word", "found", "follower", "last"] "unwound" (defScope (top 20)) f cd A outer s H E) (fun cls d _ H' => E cls d H') := std_of sc_unwound.nd
  unfold tau_unwound
  exact (pds_cons (pds_set (i := 1) S rfl (by first | exact .inl rfl | exact .inr rfl) (pd_dc (own := [("word", 5), ("found", 6)]) (tgt := (tgTup 2 (tgsCons (tgVar 5) (tgsCons (tgVar 6) tgsNil)))) (εk := (eVar 5)) (εv := (eCB cLenA (aCons (eVar 6) aNil))) S hr (pdi_itemsM (pd_var (i := 0) rfl (by first | exact .inl rfl | exact .inr (.inl rfl) | exact .inr (.inr rfl)))) (blkOk_by (N := ["graph", "waiting", "ahead", "ready", "done", "word", "found", "follower", "last"]) (sc := (defScope (top 20))) (by decide +kernel)) (tg_tup (tgs_cons (tg_var (by decide)) (tgs_cons (tg_var (by decide)) tgs_nil))) (fun _ _ _ _ _ S => (pg_tup S.calm (pgs_cons (pg_name (i := 5) S.nd rfl (by first | exact .inl rfl | exact .inr rfl)) (pgs_cons (pg_name (i := 6) S.nd rfl (by first | exact .inl rfl | exact .inr rfl)) pgs_nil)))) (fun _ _ _ _ _ S => (pd_var (i := 5) rfl (by first | exact .inl rfl | exact .inr (.inl rfl) | exact .inr (.inr rfl)))) (fun _ _ _ _ _ S => (pd_lenA rfl B.len (pda_cons (pd_var (i := 6) rfl (by first | exact .inl rfl | exact .inr (.inl rfl) | exact .inr (.inr rfl))) pda_nil))))) (pds_cons (pds_setDc (i := 2) (own := [("word", 5)]) (tgt := (tgVar 5)) (εk := (eVar 5)) (εv := (eLst aNil)) S hr rfl rfl (sw_dict rfl rfl rfl (by decide +kernel)) (pdi_keys (pd_var (i := 0) rfl (by first | exact .inl rfl | exact .inr (.inl rfl) | exact .inr (.inr rfl)))) (blkOk_by (N := ["graph", "waiting", "ahead", "ready", "done", "word", "found", "follower", "last"]) (sc := (defScope (top 20))) (by decide +kernel)) (tg_var (by decide)) (fun _ _ _ _ _ S => (pg_name (i := 5) S.nd rfl (by first | exact .inl rfl | exact .inr rfl))) (fun _ _ _ _ _ S => (pd_var (i := 5) rfl (by first | exact .inl rfl | exact .inr (.inl rfl) | exact .inr (.inr rfl)))) (fun _ _ _ _ _ S => (pd_lst pda_nil))) (pds_cons (pds_for S (pdi_itemsM (pd_var (i := 0) rfl (by first | exact .inl rfl | exact .inr (.inl rfl) | exact .inr (.inr rfl)))) (pdg_tup S (pdgs_cons (pdg_var (i := 5) S rfl (by first | exact .inl rfl | exact .inr rfl)) (pdgs_cons (pdg_var (i := 6) S rfl (by first | exact .inl rfl | exact .inr rfl)) pdgs_nil))) (pds_one (pds_for S (pdi_seq (pd_var (i := 6) rfl (by first | exact .inl rfl | exact .inr (.inl rfl) | exact .inr (.inr rfl)))) (pdg_var (i := 7) S rfl (by first | exact .inl rfl | exact .inr rfl)) (pds_one (pds_expr (pd_append (e_ix (o_ix hr) (pd_var (i := 2) rfl (by first | exact .inl rfl | exact .inr (.inl rfl) | exact .inr (.inr rfl))) (pd_var (i := 7) rfl (by first | exact .inl rfl | exact .inr (.inl rfl) | exact .inr (.inr rfl)))) (pda_cons (pd_var (i := 5) rfl (by first | exact .inl rfl | exact .inr (.inl rfl) | exact .inr (.inr rfl))) pda_nil))))))) (pds_cons (pds_setLc (i := 3) (own := [("word", 5)]) (tgt := (tgVar 5)) (tt := (eTst (eOp dEq (eOp dIxA (eVar 1) (eVar 5)) (eC (.int 0))))) (ε := (eVar 5)) S rfl rfl (sw_true rfl rfl rfl (by decide +kernel)) (pdi_keys (pd_var (i := 0) rfl (by first | exact .inl rfl | exact .inr (.inl rfl) | exact .inr (.inr rfl)))) (blkOk_by (N := ["graph", "waiting", "ahead", "ready", "done", "word", "found", "follower", "last"]) (sc := (defScope (top 20))) (by decide +kernel)) (tg_var (by decide)) (fun _ _ _ _ _ S => (pg_name (i := 5) S.nd rfl (by first | exact .inl rfl | exact .inr rfl))) (fun _ _ _ _ _ S => (pdts_one (t_cmp (o_eq hr) (e_ix (o_ix hr) (pd_var (i := 1) rfl (by first | exact .inl rfl | exact .inr (.inl rfl) | exact .inr (.inr rfl))) (pd_var (i := 5) rfl (by first | exact .inl rfl | exact .inr (.inl rfl) | exact .inr (.inr rfl)))) pd_int))) (fun _ _ _ _ _ S => (pd_var (i := 5) rfl (by first | exact .inl rfl | exact .inr (.inl rfl) | exact .inr (.inr rfl))))) (pds_cons (pds_set (i := 4) S rfl (by first | exact .inl rfl | exact .inr rfl) (pd_lst pda_nil)) (pds_cons (pds_while S (pdt_tru (pd_var (i := 3) rfl (by first | exact .inl rfl | exact .inr (.inl rfl) | exact .inr (.inr rfl)))) (pds_cons (pds_set (i := 8) S rfl (by first | exact .inl rfl | exact .inr rfl) (pd_pop (pd_var (i := 3) rfl (by first | exact .inl rfl | exact .inr (.inl rfl) | exact .inr (.inr rfl))))) (pds_cons (pds_expr (pd_append (pd_var (i := 4) rfl (by first | exact .inl rfl | exact .inr (.inl rfl) | exact .inr (.inr rfl))) (pda_cons (pd_var (i := 8) rfl (by first | exact .inl rfl | exact .inr (.inl rfl) | exact .inr (.inr rfl))) pda_nil))) (pds_one (pds_for S (pdi_seq (e_ix (o_ix hr) (pd_var (i := 2) rfl (by first | exact .inl rfl | exact .inr (.inl rfl) | exact .inr (.inr rfl))) (pd_var (i := 8) rfl (by first | exact .inl rfl | exact .inr (.inl rfl) | exact .inr (.inr rfl))))) (pdg_var (i := 5) S rfl (by first | exact .inl rfl | exact .inr rfl)) (pds_cons (pds_augS S hr (pd_var (i := 1) rfl (by first | exact .inl rfl | exact .inr (.inl rfl) | exact .inr (.inr rfl))) (pd_var (i := 5) rfl (by first | exact .inl rfl | exact .inr (.inl rfl) | exact .inr (.inr rfl))) pd_int ip_sub) (pds_one (pds_if (t_cmp (o_eq hr) (e_ix (o_ix hr) (pd_var (i := 1) rfl (by first | exact .inl rfl | exact .inr (.inl rfl) | exact .inr (.inr rfl))) (pd_var (i := 5) rfl (by first | exact .inl rfl | exact .inr (.inl rfl) | exact .inr (.inr rfl)))) pd_int) (pds_one (pds_expr (pd_append (pd_var (i := 3) rfl (by first | exact .inl rfl | exact .inr (.inl rfl) | exact .inr (.inr rfl))) (pda_cons (pd_var (i := 5) rfl (by first | exact .inl rfl | exact .inr (.inl rfl) | exact .inr (.inr rfl))) pda_nil)))) pds_nil)))))))) (pds_one (pds_ret (pd_var (i := 4) rfl (by first | exact .inl rfl | exact .inr (.inl rfl) | exact .inr (.inr rfl)))))))))))
abbrev st_steps : Stmt := top 24
theorem sc_steps : FnScope ["book", "word"] ["book", "word"] (defScope (top 24)) := ⟨rfl, rfl, rfl, by decide +kernel, rfl, by decide +kernel, by decide +kernel⟩
theorem der_steps {g : G} {mg : Str → Option Value} {base : Heap} {f : Addr} {k : Nat} (B : BltD mg) {sp_check_start : DSp} (F_check_start : AtD g mg base k "check_start" ["book", "word"] sp_check_start) {sp_next_words : DSp} (F_next_words : AtD g mg base k "next_words" ["rules", "word"] sp_next_words) (cd : Value) (A : Around) (outer : List PySem.Env) (s : Shared) (H : Hp) (E : XK) (hr : Room k (A.deeper (envOfC "steps" (defScope (top 24)) s.heap.objs.size f cd))) :
    PDSs (cxD g mg base ["book", "word"] "steps" (defScope (top 24)) f cd A outer s H E) g.T (fun cls d _ H' => E cls d H') (defBody (top 24)) (tau_steps sp_check_start sp_next_words) := by
  have S : Std (cxD g mg base ["book", "word"] "steps" (defScope (top 24)) f cd A outer s H E) (fun cls d _ H' => E cls d H') := std_of sc_steps.nd
  unfold tau_steps
  exact (pds_cons (pds_expr (pd_call S F_check_start hr (Nat.le_refl _) rfl (pda_cons (pd_var (i := 0) rfl (by first | exact .inl rfl | exact .inr (.inl rfl) | exact .inr (.inr rfl))) (pda_cons (pd_var (i := 1) rfl (by first | exact .inl rfl | exact .inr (.inl rfl) | exact .inr (.inr rfl))) pda_nil)))) (pds_one (pds_ret (pd_call S F_next_words hr (Nat.le_refl _) rfl (pda_cons (e_ix (o_ix hr) (pd_var (i := 0) rfl (by first | exact .inl rfl | exact .inr (.inl rfl) | exact .inr (.inr rfl))) pd_int) (pda_cons (pd_var (i := 1) rfl (by first | exact .inl rfl | exact .inr (.inl rfl) | exact .inr (.inr rfl))) pda_nil))))))
abbrev st_all_come : Stmt := top 25
theorem sc_all_come : FnScope ["book", "word"] ["book", "word"] (defScope (top 25)) := ⟨rfl, rfl, rfl, by decide +kernel, rfl, by decide +kernel, by decide +kernel⟩
theorem der_all_come {g : G} {mg : Str → Option Value} {base : Heap} {f : Addr} {k : Nat} (B : BltD mg) {sp_walk : DSp} (F_walk : AtD g mg base k "walk" ["book", "word"] sp_walk) (cd : Value) (A : Around) (outer : List PySem.Env) (s : Shared) (H : Hp) (E : XK) (hr : Room k (A.deeper (envOfC "all_come" (defScope (top 25)) s.heap.objs.size f cd))) :
    PDSs (cxD g mg base ["book", "word"] "all_come" (defScope (top 25)) f cd A outer s H E) g.T (fun cls d _ H' => E cls d H') (defBody (top 25)) (tau_all_come sp_walk) := by
  have S : Std (cxD g mg base ["book", "word"] "all_come" (defScope (top 25)) f cd A outer s H E) (fun cls d _ H' => E cls d H') := std_of sc_all_come.nd
  unfold tau_all_come
  exact (pds_one (pds_ret (pd_sortA S hr rfl B.sorted (pda_cons (pd_call S F_walk hr (Nat.le_refl _) rfl (pda_cons (pd_var (i := 0) rfl (by first | exact .inl rfl | exact .inr (.inl rfl) | exact .inr (.inr rfl))) (pda_cons (pd_var (i := 1) rfl (by first | exact .inl rfl | exact .inr (.inl rfl) | exact .inr (.inr rfl))) pda_nil))) pda_nil))))
abbrev st_walked_rests : Stmt := top 26
theorem sc_walked_rests : FnScope ["book", "word", "come", "found"] ["book", "word"] (defScope (top 26)) := ⟨rfl, rfl, rfl, by decide +kernel, rfl, by decide +kernel, by decide +kernel⟩
theorem der_walked_rests {g : G} {mg : Str → Option Value} {base : Heap} {f : Addr} {k : Nat} (B : BltD mg) {sp_walk : DSp} (F_walk : AtD g mg base k "walk" ["book", "word"] sp_walk) (cd : Value) (A : Around) (outer : List PySem.Env) (s : Shared) (H : Hp) (E : XK) (hr : Room k (A.deeper (envOfC "walked_rests" (defScope (top 26)) s.heap.objs.size f cd))) :
    PDSs (cxD g mg base ["book", "word", "come", "found"] "walked_rests" (defScope (top 26)) f cd A outer s H E) g.T (fun cls d _ H' => E cls d H') (defBody (top 26)) (tau_walked_rests sp_walk) := by
  have S : Std (cxD g mg base ["book", "word", "come", "found"] "walked_rests" (defScope (top 26)) f cd A outer s H E) (fun cls d _ H' => E cls d H') := std_of sc_walked_rests.nd
  unfold tau_walked_rests
  exact (pds_one (pds_ret (pd_sortA S hr rfl B.sorted (pda_cons (pd_lc (own := [("come", 2), ("found", 3)]) (tgt := (tgTup 2 (tgsCons (tgVar 2) (tgsCons (tgVar 3) tgsNil)))) (tt := (eNotT (eTru (eVar 3)))) (ε := (eVar 2)) S (pdi_itemsM (pd_call S F_walk hr (Nat.le_refl _) rfl (pda_cons (pd_var (i := 0) rfl (by first | exact .inl rfl | exact .inr (.inl rfl) | exact .inr (.inr rfl))) (pda_cons (pd_var (i := 1) rfl (by first | exact .inl rfl | exact .inr (.inl rfl) | exact .inr (.inr rfl))) pda_nil)))) (blkOk_by (N := ["book", "word", "come", "found"]) (sc := (defScope (top 26))) (by decide +kernel)) (tg_tup (tgs_cons (tg_var (by decide)) (tgs_cons (tg_var (by decide)) tgs_nil))) (fun _ _ _ _ _ S => (pg_tup S.calm (pgs_cons (pg_name (i := 2) S.nd rfl (by first | exact .inl rfl | exact .inr rfl)) (pgs_cons (pg_name (i := 3) S.nd rfl (by first | exact .inl rfl | exact .inr rfl)) pgs_nil)))) (fun _ _ _ _ _ S => (pdts_one (pdt_not (pdt_tru (pd_var (i := 3) rfl (by first | exact .inl rfl | exact .inr (.inl rfl) | exact .inr (.inr rfl))))))) (fun _ _ _ _ _ S => (pd_var (i := 2) rfl (by first | exact .inl rfl | exact .inr (.inl rfl) | exact .inr (.inr rfl))))) pda_nil))))
abbrev st_goes_on : Stmt := top 27
theorem sc_goes_on : FnScope ["book", "word", "graph"] ["book", "word"] (defScope (top 27)) := ⟨rfl, rfl, rfl, by decide +kernel, rfl, by decide +kernel, by decide +kernel⟩
theorem der_goes_on {g : G} {mg : Str → Option Value} {base : Heap} {f : Addr} {k : Nat} (B : BltD mg) {sp_unwound : DSp} (F_unwound : AtD g mg base k "unwound" ["graph"] sp_unwound) {sp_walk : DSp} (F_walk : AtD g mg base k "walk" ["book", "word"] sp_walk) (cd : Value) (A : Around) (outer : List PySem.Env) (s : Shared) (H : Hp) (E : XK) (hr : Room k (A.deeper (envOfC "goes_on" (defScope (top 27)) s.heap.objs.size f cd))) :
    PDSs (cxD g mg base ["book", "word", "graph"] "goes_on" (defScope (top 27)) f cd A outer s H E) g.T (fun cls d _ H' => E cls d H') (defBody (top 27)) (tau_goes_on sp_unwound sp_walk) := by
  have S : Std (cxD g mg base ["book", "word", "graph"] "goes_on" (defScope (top 27)) f cd A outer s H E) (fun cls d _ H' => E cls d H') := std_of sc_goes_on.nd
  unfold tau_goes_on
  exact (pds_cons (pds_set (i := 2) S rfl (by first | exact .inl rfl | exact .inr rfl) (pd_call S F_walk hr (Nat.le_refl _) rfl (pda_cons (pd_var (i := 0) rfl (by first | exact .inl rfl | exact .inr (.inl rfl) | exact .inr (.inr rfl))) (pda_cons (pd_var (i := 1) rfl (by first | exact .inl rfl | exact .inr (.inl rfl) | exact .inr (.inr rfl))) pda_nil)))) (pds_one (pds_ret (e_cmp (o_lt hr) (pd_lenA rfl B.len (pda_cons (pd_call S F_unwound hr (Nat.le_refl _) rfl (pda_cons (pd_var (i := 2) rfl (by first | exact .inl rfl | exact .inr (.inl rfl) | exact .inr (.inr rfl))) pda_nil)) pda_nil)) (pd_lenA rfl B.len (pda_cons (pd_var (i := 2) rfl (by first | exact .inl rfl | exact .inr (.inl rfl) | exact .inr (.inr rfl))) pda_nil))))))
abbrev st_longest : Stmt := top 28
theorem sc_longest : FnScope ["book", "word", "graph", "order", "lengths", "come", "follower"] ["book", "word"] (defScope (top 28)) := ⟨rfl, rfl, rfl, by decide +kernel, rfl, by decide +kernel, by decide +kernel⟩
theorem der_longest {g : G} {mg : Str → Option Value} {base : Heap} {f : Addr} {k : Nat} (B : BltD mg) {sp_unwound : DSp} (F_unwound : AtD g mg base k "unwound" ["graph"] sp_unwound) {sp_walk : DSp} (F_walk : AtD g mg base k "walk" ["book", "word"] sp_walk) {cls_NotEnding : Addr} (x_NotEnding : Err0 g mg "NotEnding" cls_NotEnding) (cd : Value) (A : Around) (outer : List PySem.Env) (s : Shared) (H : Hp) (E : XK) (hr : Room k (A.deeper (envOfC "longest" (defScope (top 28)) s.heap.objs.size f cd))) :
    PDSs (cxD g mg base ["book", "word", "graph", "order", "lengths", "come", "follower"] "longest" (defScope (top 28)) f cd A outer s H E) g.T (fun cls d _ H' => E cls d H') (defBody (top 28)) (tau_longest sp_unwound sp_walk cls_NotEnding) := by
  have S : Std (cxD g mg base ["book", "word", "graph", "order", "lengths", "come", "follower"] "longest" (defScope (top 28)) f cd A outer s H E) (fun cls d _ H' => E cls d H') := std_of sc_longest.nd
  unfold tau_longest
  exact (pds_cons (pds_set (i := 2) S rfl (by first | exact .inl rfl | exact .inr rfl) (pd_call S F_walk hr (Nat.le_refl _) rfl (pda_cons (pd_var (i := 0) rfl (by first | exact .inl rfl | exact .inr (.inl rfl) | exact .inr (.inr rfl))) (pda_cons (pd_var (i := 1) rfl (by first | exact .inl rfl | exact .inr (.inl rfl) | exact .inr (.inr rfl))) pda_nil)))) (pds_cons (pds_set (i := 3) S rfl (by first | exact .inl rfl | exact .inr rfl) (pd_call S F_unwound hr (Nat.le_refl _) rfl (pda_cons (pd_var (i := 2) rfl (by first | exact .inl rfl | exact .inr (.inl rfl) | exact .inr (.inr rfl))) pda_nil))) (pds_cons (pds_if (t_cmp (o_lt hr) (pd_lenA rfl B.len (pda_cons (pd_var (i := 3) rfl (by first | exact .inl rfl | exact .inr (.inl rfl) | exact .inr (.inr rfl))) pda_nil)) (pd_lenA rfl B.len (pda_cons (pd_var (i := 2) rfl (by first | exact .inl rfl | exact .inr (.inl rfl) | exact .inr (.inr rfl))) pda_nil))) (pds_one (pds_raise0 S x_NotEnding rfl)) pds_nil) (pds_cons (pds_set (i := 4) S rfl (by first | exact .inl rfl | exact .inr rfl) pd_dnew) (pds_cons (pds_for S (pdi_seq (pd_var (i := 3) rfl (by first | exact .inl rfl | exact .inr (.inl rfl) | exact .inr (.inr rfl)))) (pdg_var (i := 5) S rfl (by first | exact .inl rfl | exact .inr rfl)) (pds_one (pds_asg (pd_maxd S hr rfl B.max (pd_lc (own := [("follower", 6)]) (tgt := (tgVar 6)) (tt := yes) (ε := (eOp dAdd (eOp dIxA (eVar 4) (eVar 6)) (eC (.int 1)))) S (pdi_seq (e_ix (o_ix hr) (pd_var (i := 2) rfl (by first | exact .inl rfl | exact .inr (.inl rfl) | exact .inr (.inr rfl))) (pd_var (i := 5) rfl (by first | exact .inl rfl | exact .inr (.inl rfl) | exact .inr (.inr rfl))))) (blkOk_by (N := ["book", "word", "graph", "order", "lengths", "come", "follower"]) (sc := (defScope (top 28))) (by decide +kernel)) (tg_var (by decide)) (fun _ _ _ _ _ S => (pg_name (i := 6) S.nd rfl (by first | exact .inl rfl | exact .inr rfl))) (fun _ _ _ _ _ S => pdts_nil) (fun _ _ _ _ _ S => (e_op o_add (e_ix (o_ix hr) (pd_var (i := 4) rfl (by first | exact .inl rfl | exact .inr (.inl rfl) | exact .inr (.inr rfl))) (pd_var (i := 6) rfl (by first | exact .inl rfl | exact .inr (.inl rfl) | exact .inr (.inr rfl)))) pd_int))) pd_int) (pdg_sto (units_20 hr) (pd_var (i := 4) rfl (by first | exact .inl rfl | exact .inr (.inl rfl) | exact .inr (.inr rfl))) (pd_var (i := 5) rfl (by first | exact .inl rfl | exact .inr (.inl rfl) | exact .inr (.inr rfl))))))) (pds_one (pds_ret (e_ix (o_ix hr) (pd_var (i := 4) rfl (by first | exact .inl rfl | exact .inr (.inl rfl) | exact .inr (.inr rfl))) (pd_var (i := 1) rfl (by first | exact .inl rfl | exact .inr (.inl rfl) | exact .inr (.inr rfl)))))))))))
abbrev st_check_start : Stmt := top 29
theorem sc_check_start : FnScope ["book", "word"] ["book", "word"] (defScope (top 29)) := ⟨rfl, rfl, rfl, by decide +kernel, rfl, by decide +kernel, by decide +kernel⟩
theorem der_check_start {g : G} {mg : Str → Option Value} {base : Heap} {f : Addr} {k : Nat} (B : BltD mg) {sp_check_book : DSp} (F_check_book : AtD g mg base k "check_book" ["book"] sp_check_book) {sp_check_word : DSp} (F_check_word : AtD g mg base k "check_word" ["word", "many", "most"] sp_check_word) (c_LONGEST_WORD : ∃ t, mg "LONGEST_WORD" = some (.int 8 t)) (cd : Value) (A : Around) (outer : List PySem.Env) (s : Shared) (H : Hp) (E : XK) (hr : Room k (A.deeper (envOfC "check_start" (defScope (top 29)) s.heap.objs.size f cd))) :
    PDSs (cxD g mg base ["book", "word"] "check_start" (defScope (top 29)) f cd A outer s H E) g.T (fun cls d _ H' => E cls d H') (defBody (top 29)) (tau_check_start sp_check_book sp_check_word) := by
  have S : Std (cxD g mg base ["book", "word"] "check_start" (defScope (top 29)) f cd A outer s H E) (fun cls d _ H' => E cls d H') := std_of sc_check_start.nd
  unfold tau_check_start
  exact (pds_cons (pds_expr (pd_call S F_check_book hr (Nat.le_refl _) rfl (pda_cons (pd_var (i := 0) rfl (by first | exact .inl rfl | exact .inr (.inl rfl) | exact .inr (.inr rfl))) pda_nil))) (pds_one (pds_expr (pd_call S F_check_word hr (Nat.le_refl _) rfl (pda_cons (pd_var (i := 1) rfl (by first | exact .inl rfl | exact .inr (.inl rfl) | exact .inr (.inr rfl))) (pda_cons (e_ix (o_ix hr) (pd_var (i := 0) rfl (by first | exact .inl rfl | exact .inr (.inl rfl) | exact .inr (.inr rfl))) pd_int) (pda_cons (pd_gint rfl c_LONGEST_WORD) pda_nil)))))))
abbrev st_walk : Stmt := top 30
theorem sc_walk : FnScope ["book", "word", "graph", "waiting", "come"] ["book", "word"] (defScope (top 30)) := ⟨rfl, rfl, rfl, by decide +kernel, rfl, by decide +kernel, by decide +kernel⟩
theorem der_walk {g : G} {mg : Str → Option Value} {base : Heap} {f : Addr} {k : Nat} (B : BltD mg) {sp_check_start : DSp} (F_check_start : AtD g mg base k "check_start" ["book", "word"] sp_check_start) {sp_next_words : DSp} (F_next_words : AtD g mg base k "next_words" ["rules", "word"] sp_next_words) (c_MOST_WORDS : ∃ t, mg "MOST_WORDS" = some (.int 1500 t)) (cd : Value) (A : Around) (outer : List PySem.Env) (s : Shared) (H : Hp) (E : XK) (hr : Room k (A.deeper (envOfC "walk" (defScope (top 30)) s.heap.objs.size f cd))) :
    PDSs (cxD g mg base ["book", "word", "graph", "waiting", "come"] "walk" (defScope (top 30)) f cd A outer s H E) g.T (fun cls d _ H' => E cls d H') (defBody (top 30)) (tau_walk sp_check_start sp_next_words) := by
  have S : Std (cxD g mg base ["book", "word", "graph", "waiting", "come"] "walk" (defScope (top 30)) f cd A outer s H E) (fun cls d _ H' => E cls d H') := std_of sc_walk.nd
  unfold tau_walk
  exact (pds_cons (pds_expr (pd_call S F_check_start hr (Nat.le_refl _) rfl (pda_cons (pd_var (i := 0) rfl (by first | exact .inl rfl | exact .inr (.inl rfl) | exact .inr (.inr rfl))) (pda_cons (pd_var (i := 1) rfl (by first | exact .inl rfl | exact .inr (.inl rfl) | exact .inr (.inr rfl))) pda_nil)))) (pds_cons (pds_set (i := 2) S rfl (by first | exact .inl rfl | exact .inr rfl) pd_dnew) (pds_cons (pds_set (i := 3) S rfl (by first | exact .inl rfl | exact .inr rfl) (pd_lst (pda_cons (pd_var (i := 1) rfl (by first | exact .inl rfl | exact .inr (.inl rfl) | exact .inr (.inr rfl))) pda_nil))) (pds_cons (pds_while S (pdt_tru (pd_var (i := 3) rfl (by first | exact .inl rfl | exact .inr (.inl rfl) | exact .inr (.inr rfl)))) (pds_cons (pds_set (i := 4) S rfl (by first | exact .inl rfl | exact .inr rfl) (pd_pop (pd_var (i := 3) rfl (by first | exact .inl rfl | exact .inr (.inl rfl) | exact .inr (.inr rfl))))) (pds_one (pds_if (t_cmp (o_notin hr) (pd_var (i := 4) rfl (by first | exact .inl rfl | exact .inr (.inl rfl) | exact .inr (.inr rfl))) (pd_var (i := 2) rfl (by first | exact .inl rfl | exact .inr (.inl rfl) | exact .inr (.inr rfl)))) (pds_cons (pds_if (t_cmp (o_eq hr) (pd_lenA rfl B.len (pda_cons (pd_var (i := 2) rfl (by first | exact .inl rfl | exact .inr (.inl rfl) | exact .inr (.inr rfl))) pda_nil)) (pd_gint rfl c_MOST_WORDS)) (pds_one pds_never) pds_nil) (pds_cons (pds_asg (pd_call S F_next_words hr (Nat.le_refl _) rfl (pda_cons (e_ix (o_ix hr) (pd_var (i := 0) rfl (by first | exact .inl rfl | exact .inr (.inl rfl) | exact .inr (.inr rfl))) pd_int) (pda_cons (pd_var (i := 4) rfl (by first | exact .inl rfl | exact .inr (.inl rfl) | exact .inr (.inr rfl))) pda_nil))) (pdg_sto (units_20 hr) (pd_var (i := 2) rfl (by first | exact .inl rfl | exact .inr (.inl rfl) | exact .inr (.inr rfl))) (pd_var (i := 4) rfl (by first | exact .inl rfl | exact .inr (.inl rfl) | exact .inr (.inr rfl))))) (pds_one (pds_expr (pd_extendA (pd_var (i := 3) rfl (by first | exact .inl rfl | exact .inr (.inl rfl) | exact .inr (.inr rfl))) (pda_cons (e_ix (o_ix hr) (pd_var (i := 2) rfl (by first | exact .inl rfl | exact .inr (.inl rfl) | exact .inr (.inr rfl))) (pd_var (i := 4) rfl (by first | exact .inl rfl | exact .inr (.inl rfl) | exact .inr (.inr rfl)))) pda_nil)))))) pds_nil)))) (pds_one (pds_ret (pd_var (i := 2) rfl (by first | exact .inl rfl | exact .inr (.inl rfl) | exact .inr (.inr rfl)))))))))
abbrev st__law_taken : Stmt := top 32
theorem sc__law_taken : FnScope ["row", "many", "cell", "found"] ["row", "many"] (defScope (top 32)) := ⟨rfl, rfl, rfl, by decide +kernel, rfl, by decide +kernel, by decide +kernel⟩
theorem der__law_taken {g : G} {mg : Str → Option Value} {base : Heap} {f : Addr} {k : Nat} (B : BltD mg) (cd : Value) (A : Around) (outer : List PySem.Env) (s : Shared) (H : Hp) (E : XK) (hr : Room k (A.deeper (envOfC "_law_taken" (defScope (top 32)) s.heap.objs.size f cd))) :
    PDSs (cxD g mg base ["row", "many", "cell", "found"] "_law_taken" (defScope (top 32)) f cd A outer s H E) g.T (fun cls d _ H' => E cls d H') (defBody (top 32)) (tau__law_taken) := by
  have S : Std (cxD g mg base ["row", "many", "cell", "found"] "_law_taken" (defScope (top 32)) f cd A outer s H E) (fun cls d _ H' => E cls d H') := std_of sc__law_taken.nd
  unfold tau__law_taken
  exact (pds_cons (pds_if (t_cmp (o_gt hr) (e_ix (o_ix hr) (pd_var (i := 0) rfl (by first | exact .inl rfl | exact .inr (.inl rfl) | exact .inr (.inr rfl))) pd_int) pd_int) (pds_cons (pds_set (i := 3) S rfl (by first | exact .inl rfl | exact .inr rfl) (e_op o_mod (pd_intc rfl B.int (pda_cons (e_ix (o_ix hr) (pd_var (i := 0) rfl (by first | exact .inl rfl | exact .inr (.inl rfl) | exact .inr (.inr rfl))) pd_int) pda_nil)) (pd_var (i := 1) rfl (by first | exact .inl rfl | exact .inr (.inl rfl) | exact .inr (.inr rfl))))) (pds_cons (pds_asg (e_op o_fdv (e_ix (o_ix hr) (pd_var (i := 0) rfl (by first | exact .inl rfl | exact .inr (.inl rfl) | exact .inr (.inr rfl))) pd_int) (pd_var (i := 1) rfl (by first | exact .inl rfl | exact .inr (.inl rfl) | exact .inr (.inr rfl)))) (pdg_sto (units_20 hr) (pd_var (i := 0) rfl (by first | exact .inl rfl | exact .inr (.inl rfl) | exact .inr (.inr rfl))) pd_int)) (pds_one (pds_ret (pd_var (i := 3) rfl (by first | exact .inl rfl | exact .inr (.inl rfl) | exact .inr (.inr rfl))))))) pds_nil) (pds_cons (pds_asg (e_op o_add (e_ix (o_ix hr) (pd_var (i := 0) rfl (by first | exact .inl rfl | exact .inr (.inl rfl) | exact .inr (.inr rfl))) pd_int) pd_int) (pdg_sto (units_20 hr) (pd_var (i := 0) rfl (by first | exact .inl rfl | exact .inr (.inl rfl) | exact .inr (.inr rfl))) pd_int)) (pds_cons (pds_if (t_cmp (o_gt hr) (e_ix (o_ix hr) (pd_var (i := 0) rfl (by first | exact .inl rfl | exact .inr (.inl rfl) | exact .inr (.inr rfl))) pd_int) (pd_lenA rfl B.len (pda_cons (e_ix (o_ix hr) (pd_var (i := 0) rfl (by first | exact .inl rfl | exact .inr (.inl rfl) | exact .inr (.inr rfl))) pd_int) pda_nil))) (pds_cons (pds_asg (e_op o_mod (pd_intc rfl B.int (pda_cons (e_op o_add (e_op o_mul (e_ix (o_ix hr) (pd_var (i := 0) rfl (by first | exact .inl rfl | exact .inr (.inl rfl) | exact .inr (.inr rfl))) pd_int) pd_int) pd_int) pda_nil)) pd_int) (pdg_sto (units_20 hr) (pd_var (i := 0) rfl (by first | exact .inl rfl | exact .inr (.inl rfl) | exact .inr (.inr rfl))) pd_int)) (pds_one (pds_ret (e_op o_mod (pd_intc rfl B.int (pda_cons (e_op o_fdv (e_ix (o_ix hr) (pd_var (i := 0) rfl (by first | exact .inl rfl | exact .inr (.inl rfl) | exact .inr (.inr rfl))) pd_int) pd_int) pda_nil)) (pd_var (i := 1) rfl (by first | exact .inl rfl | exact .inr (.inl rfl) | exact .inr (.inr rfl))))))) pds_nil) (pds_cons (pds_set (i := 2) S rfl (by first | exact .inl rfl | exact .inr rfl) (e_ix (o_ix hr) (e_ix (o_ix hr) (pd_var (i := 0) rfl (by first | exact .inl rfl | exact .inr (.inl rfl) | exact .inr (.inr rfl))) pd_int) (e_op o_sub (e_ix (o_ix hr) (pd_var (i := 0) rfl (by first | exact .inl rfl | exact .inr (.inl rfl) | exact .inr (.inr rfl))) pd_int) pd_int))) (pds_cons (pds_asg (e_op o_mod (pd_intc rfl B.int (pda_cons (e_op o_add (e_op o_add (e_op o_mul (e_ix (o_ix hr) (pd_var (i := 0) rfl (by first | exact .inl rfl | exact .inr (.inl rfl) | exact .inr (.inr rfl))) pd_int) pd_int) (pd_var (i := 2) rfl (by first | exact .inl rfl | exact .inr (.inl rfl) | exact .inr (.inr rfl)))) pd_int) pda_nil)) pd_int) (pdg_sto (units_20 hr) (pd_var (i := 0) rfl (by first | exact .inl rfl | exact .inr (.inl rfl) | exact .inr (.inr rfl))) pd_int)) (pds_cons (pds_if (t_cmp (o_ge hr) (pd_var (i := 2) rfl (by first | exact .inl rfl | exact .inr (.inl rfl) | exact .inr (.inr rfl))) (e_op o_pow pd_int pd_int)) (pds_one (pds_asg (e_op o_fdv (pd_var (i := 2) rfl (by first | exact .inl rfl | exact .inr (.inl rfl) | exact .inr (.inr rfl))) (pd_var (i := 1) rfl (by first | exact .inl rfl | exact .inr (.inl rfl) | exact .inr (.inr rfl)))) (pdg_sto (units_20 hr) (pd_var (i := 0) rfl (by first | exact .inl rfl | exact .inr (.inl rfl) | exact .inr (.inr rfl))) pd_int))) pds_nil) (pds_one (pds_ret (e_op o_mod (pd_intc rfl B.int (pda_cons (pd_var (i := 2) rfl (by first | exact .inl rfl | exact .inr (.inl rfl) | exact .inr (.inr rfl))) pda_nil)) (pd_var (i := 1) rfl (by first | exact .inl rfl | exact .inr (.inl rfl) | exact .inr (.inr rfl))))))))))))
abbrev st__law_order : Stmt := top 33
theorem sc__law_order : FnScope ["row", "many", "turn", "left", "found", "at"] ["row", "many"] (defScope (top 33)) := ⟨rfl, rfl, rfl, by decide +kernel, rfl, by decide +kernel, by decide +kernel⟩
theorem der__law_order {g : G} {mg : Str → Option Value} {base : Heap} {f : Addr} {k : Nat} (B : BltD mg) {sp__law_taken : DSp} (F__law_taken : AtD g mg base k "_law_taken" ["row", "many"] sp__law_taken) (cd : Value) (A : Around) (outer : List PySem.Env) (s : Shared) (H : Hp) (E : XK) (hr : Room k (A.deeper (envOfC "_law_order" (defScope (top 33)) s.heap.objs.size f cd))) :
    PDSs (cxD g mg base ["row", "many", "turn", "left", "found", "at"] "_law_order" (defScope (top 33)) f cd A outer s H E) g.T (fun cls d _ H' => E cls d H') (defBody (top 33)) (tau__law_order sp__law_taken) := by
  have S : Std (cxD g mg base ["row", "many", "turn", "left", "found", "at"] "_law_order" (defScope (top 33)) f cd A outer s H E) (fun cls d _ H' => E cls d H') := std_of sc__law_order.nd
  unfold tau__law_order
  exact (pds_cons (pds_par (i := 3) (j := 4) S rfl rfl (by decide) rfl rfl (pda_cons (pd_lrg S rfl B.list rfl B.range (pd_var (i := 1) rfl (by first | exact .inl rfl | exact .inr (.inl rfl) | exact .inr (.inr rfl)))) (pda_cons (pd_lst pda_nil) pda_nil)) (by rfl)) (pds_cons (pds_for S (pdi_rng1 rfl B.range (pda_cons (pd_var (i := 1) rfl (by first | exact .inl rfl | exact .inr (.inl rfl) | exact .inr (.inr rfl))) pda_nil)) (pdg_var (i := 2) S rfl (by first | exact .inl rfl | exact .inr rfl)) (pds_cons (pds_set (i := 5) S rfl (by first | exact .inl rfl | exact .inr rfl) (pd_call S F__law_taken hr (Nat.le_refl _) rfl (pda_cons (pd_var (i := 0) rfl (by first | exact .inl rfl | exact .inr (.inl rfl) | exact .inr (.inr rfl))) (pda_cons (pd_lenA rfl B.len (pda_cons (pd_var (i := 3) rfl (by first | exact .inl rfl | exact .inr (.inl rfl) | exact .inr (.inr rfl))) pda_nil)) pda_nil)))) (pds_cons (pds_expr (pd_append (pd_var (i := 4) rfl (by first | exact .inl rfl | exact .inr (.inl rfl) | exact .inr (.inr rfl))) (pda_cons (e_ix (o_ix hr) (pd_var (i := 3) rfl (by first | exact .inl rfl | exact .inr (.inl rfl) | exact .inr (.inr rfl))) (pd_var (i := 5) rfl (by first | exact .inl rfl | exact .inr (.inl rfl) | exact .inr (.inr rfl)))) pda_nil))) (pds_one (pds_set (i := 3) S rfl (by first | exact .inl rfl | exact .inr rfl) (e_op o_add (pd_slice (pd_var (i := 3) rfl (by first | exact .inl rfl | exact .inr (.inl rfl) | exact .inr (.inr rfl))) pdo_none (pdo_some (pd_var (i := 5) rfl (by first | exact .inl rfl | exact .inr (.inl rfl) | exact .inr (.inr rfl))))) (pd_slice (pd_var (i := 3) rfl (by first | exact .inl rfl | exact .inr (.inl rfl) | exact .inr (.inr rfl))) (pdo_some (e_op o_add (pd_var (i := 5) rfl (by first | exact .inl rfl | exact .inr (.inl rfl) | exact .inr (.inr rfl))) pd_int)) pdo_none))))))) (pds_one (pds_ret (pd_var (i := 4) rfl (by first | exact .inl rfl | exact .inr (.inl rfl) | exact .inr (.inr rfl)))))))
abbrev st__law_letters : Stmt := top 34
theorem sc__law_letters : FnScope ["row", "many", "long", "k"] ["row", "many", "long"] (defScope (top 34)) := ⟨rfl, rfl, rfl, by decide +kernel, rfl, by decide +kernel, by decide +kernel⟩
theorem der__law_letters {g : G} {mg : Str → Option Value} {base : Heap} {f : Addr} {k : Nat} (B : BltD mg) {sp__law_taken : DSp} (F__law_taken : AtD g mg base k "_law_taken" ["row", "many"] sp__law_taken) (cd : Value) (A : Around) (outer : List PySem.Env) (s : Shared) (H : Hp) (E : XK) (hr : Room k (A.deeper (envOfC "_law_letters" (defScope (top 34)) s.heap.objs.size f cd))) :
    PDSs (cxD g mg base ["row", "many", "long", "k"] "_law_letters" (defScope (top 34)) f cd A outer s H E) g.T (fun cls d _ H' => E cls d H') (defBody (top 34)) (tau__law_letters sp__law_taken) := by
  have S : Std (cxD g mg base ["row", "many", "long", "k"] "_law_letters" (defScope (top 34)) f cd A outer s H E) (fun cls d _ H' => E cls d H') := std_of sc__law_letters.nd
  unfold tau__law_letters
  exact (pds_one (pds_ret (pd_tuple rfl B.tuple (pda_cons (pd_lc (own := [("k", 3)]) (tgt := (tgVar 3)) (tt := yes) (ε := (eCall sp__law_taken (aCons (eVar 0) (aCons (eVar 1) aNil)))) S (pdi_rng1 rfl B.range (pda_cons (pd_var (i := 2) rfl (by first | exact .inl rfl | exact .inr (.inl rfl) | exact .inr (.inr rfl))) pda_nil)) (blkOk_by (N := ["row", "many", "long", "k"]) (sc := (defScope (top 34))) (by decide +kernel)) (tg_var (by decide)) (fun _ _ _ _ _ S => (pg_name (i := 3) S.nd rfl (by first | exact .inl rfl | exact .inr rfl))) (fun _ _ _ _ _ S => pdts_nil) (fun _ _ _ _ _ S => (pd_call S F__law_taken hr (Nat.le_refl _) rfl (pda_cons (pd_var (i := 0) rfl (by first | exact .inl rfl | exact .inr (.inl rfl) | exact .inr (.inr rfl))) (pda_cons (pd_var (i := 1) rfl (by first | exact .inl rfl | exact .inr (.inl rfl) | exact .inr (.inr rfl))) pda_nil))))) pda_nil))))
abbrev st__law_book : Stmt := top 35
theorem sc__law_book : FnScope ["row", "most", "long", "order", "turn", "many", "way", "rules", "size", "left", "right", "one"] ["row", "most", "long"] (defScope (top 35)) := ⟨rfl, rfl, rfl, by decide +kernel, rfl, by decide +kernel, by decide +kernel⟩
theorem der__law_book {g : G} {mg : Str → Option Value} {base : Heap} {f : Addr} {k : Nat} (B : BltD mg) {sp__law_letters : DSp} (F__law_letters : AtD g mg base k "_law_letters" ["row", "many", "long"] sp__law_letters) {sp__law_order : DSp} (F__law_order : AtD g mg base k "_law_order" ["row", "many"] sp__law_order) {sp__law_taken : DSp} (F__law_taken : AtD g mg base k "_law_taken" ["row", "many"] sp__law_taken) (cd : Value) (A : Around) (outer : List PySem.Env) (s : Shared) (H : Hp) (E : XK) (hr : Room k (A.deeper (envOfC "_law_book" (defScope (top 35)) s.heap.objs.size f cd))) :
    PDSs (cxD g mg base ["row", "most", "long", "order", "turn", "many", "way", "rules", "size", "left", "right", "one"] "_law_book" (defScope (top 35)) f cd A outer s H E) g.T (fun cls d _ H' => E cls d H') (defBody (top 35)) (tau__law_book sp__law_letters sp__law_order sp__law_taken) := by
  have S : Std (cxD g mg base ["row", "most", "long", "order", "turn", "many", "way", "rules", "size", "left", "right", "one"] "_law_book" (defScope (top 35)) f cd A outer s H E) (fun cls d _ H' => E cls d H') := std_of sc__law_book.nd
  unfold tau__law_book
  exact (pds_cons (pds_par3 (i := 5) (j := 6) (l := 7) S rfl rfl rfl (by decide) (by decide) (by decide) rfl rfl rfl (pda_cons (e_op o_add pd_int (pd_call S F__law_taken hr (Nat.le_refl _) rfl (pda_cons (pd_var (i := 0) rfl (by first | exact .inl rfl | exact .inr (.inl rfl) | exact .inr (.inr rfl))) (pda_cons (e_op o_sub (pd_var (i := 1) rfl (by first | exact .inl rfl | exact .inr (.inl rfl) | exact .inr (.inr rfl))) pd_int) pda_nil)))) (pda_cons (pd_call S F__law_taken hr (Nat.le_refl _) rfl (pda_cons (pd_var (i := 0) rfl (by first | exact .inl rfl | exact .inr (.inl rfl) | exact .inr (.inr rfl))) (pda_cons pd_int pda_nil))) (pda_cons pd_dnew pda_nil))) (by rfl)) (pds_cons (pds_set (i := 3) S rfl (by first | exact .inl rfl | exact .inr rfl) (pd_call S F__law_order hr (Nat.le_refl _) rfl (pda_cons (pd_var (i := 0) rfl (by first | exact .inl rfl | exact .inr (.inl rfl) | exact .inr (.inr rfl))) (pda_cons (pd_var (i := 5) rfl (by first | exact .inl rfl | exact .inr (.inl rfl) | exact .inr (.inr rfl))) pda_nil)))) (pds_cons (pds_for S (pdi_rng1 rfl B.range (pda_cons (e_op o_add pd_int (pd_call S F__law_taken hr (Nat.le_refl _) rfl (pda_cons (pd_var (i := 0) rfl (by first | exact .inl rfl | exact .inr (.inl rfl) | exact .inr (.inr rfl))) (pda_cons pd_int pda_nil)))) pda_nil)) (pdg_var (i := 4) S rfl (by first | exact .inl rfl | exact .inr rfl)) (pds_cons (pds_set (i := 8) S rfl (by first | exact .inl rfl | exact .inr rfl) (e_op o_add pd_int (pd_call S F__law_taken hr (Nat.le_refl _) rfl (pda_cons (pd_var (i := 0) rfl (by first | exact .inl rfl | exact .inr (.inl rfl) | exact .inr (.inr rfl))) (pda_cons (pd_var (i := 2) rfl (by first | exact .inl rfl | exact .inr (.inl rfl) | exact .inr (.inr rfl))) pda_nil))))) (pds_cons (pds_par (i := 9) (j := 10) S rfl rfl (by decide) rfl rfl (pda_cons (pd_call S F__law_letters hr (Nat.le_refl _) rfl (pda_cons (pd_var (i := 0) rfl (by first | exact .inl rfl | exact .inr (.inl rfl) | exact .inr (.inr rfl))) (pda_cons (pd_var (i := 5) rfl (by first | exact .inl rfl | exact .inr (.inl rfl) | exact .inr (.inr rfl))) (pda_cons (pd_var (i := 8) rfl (by first | exact .inl rfl | exact .inr (.inl rfl) | exact .inr (.inr rfl))) pda_nil)))) (pda_cons (pd_call S F__law_letters hr (Nat.le_refl _) rfl (pda_cons (pd_var (i := 0) rfl (by first | exact .inl rfl | exact .inr (.inl rfl) | exact .inr (.inr rfl))) (pda_cons (pd_var (i := 5) rfl (by first | exact .inl rfl | exact .inr (.inl rfl) | exact .inr (.inr rfl))) (pda_cons (pd_var (i := 8) rfl (by first | exact .inl rfl | exact .inr (.inl rfl) | exact .inr (.inr rfl))) pda_nil)))) pda_nil)) (by rfl)) (pds_cons (pds_if (t_cmp (o_eq hr) (pd_var (i := 6) rfl (by first | exact .inl rfl | exact .inr (.inl rfl) | exact .inr (.inr rfl))) pd_int) (pds_cons (pds_set (i := 10) S rfl (by first | exact .inl rfl | exact .inr rfl) (pd_rev (pd_var (i := 9) rfl (by first | exact .inl rfl | exact .inr (.inl rfl) | exact .inr (.inr rfl))))) (pds_one (pds_if (t_cmp (o_gt hr) (pd_var (i := 9) rfl (by first | exact .inl rfl | exact .inr (.inl rfl) | exact .inr (.inr rfl))) (pd_var (i := 10) rfl (by first | exact .inl rfl | exact .inr (.inl rfl) | exact .inr (.inr rfl)))) (pds_one (pds_par (i := 9) (j := 10) S rfl rfl (by decide) rfl rfl (pda_cons (pd_var (i := 10) rfl (by first | exact .inl rfl | exact .inr (.inl rfl) | exact .inr (.inr rfl))) (pda_cons (pd_var (i := 9) rfl (by first | exact .inl rfl | exact .inr (.inl rfl) | exact .inr (.inr rfl))) pda_nil)) (by rfl))) pds_nil))) pds_nil) (pds_cons (pds_if (PDW.pt (pdw_and (t_cmp (o_eq hr) (pd_var (i := 6) rfl (by first | exact .inl rfl | exact .inr (.inl rfl) | exact .inr (.inr rfl))) pd_int) (pdw_and1 (t_cmp (o_gt hr) (e_ix (o_ix hr) (pd_var (i := 3) rfl (by first | exact .inl rfl | exact .inr (.inl rfl) | exact .inr (.inr rfl))) (e_ix (o_ix hr) (pd_var (i := 10) rfl (by first | exact .inl rfl | exact .inr (.inl rfl) | exact .inr (.inr rfl))) (pd_neg pd_int))) (e_ix (o_ix hr) (pd_var (i := 3) rfl (by first | exact .inl rfl | exact .inr (.inl rfl) | exact .inr (.inr rfl))) (e_ix (o_ix hr) (pd_var (i := 9) rfl (by first | exact .inl rfl | exact .inr (.inl rfl) | exact .inr (.inr rfl))) (pd_neg pd_int))))))) (pds_one (pds_par (i := 9) (j := 10) S rfl rfl (by decide) rfl rfl (pda_cons (e_op o_add (pd_slice (pd_var (i := 9) rfl (by first | exact .inl rfl | exact .inr (.inl rfl) | exact .inr (.inr rfl))) pdo_none (pdo_some (pd_neg pd_int))) (pd_slice (pd_var (i := 10) rfl (by first | exact .inl rfl | exact .inr (.inl rfl) | exact .inr (.inr rfl))) (pdo_some (pd_neg pd_int)) pdo_none)) (pda_cons (e_op o_add (pd_slice (pd_var (i := 10) rfl (by first | exact .inl rfl | exact .inr (.inl rfl) | exact .inr (.inr rfl))) pdo_none (pdo_some (pd_neg pd_int))) (pd_slice (pd_var (i := 9) rfl (by first | exact .inl rfl | exact .inr (.inl rfl) | exact .inr (.inr rfl))) (pdo_some (pd_neg pd_int)) pdo_none)) pda_nil)) (by rfl))) pds_nil) (pds_cons (pds_if (PDW.pt (pdw_and (t_cmp (o_eq hr) (pd_var (i := 6) rfl (by first | exact .inl rfl | exact .inr (.inl rfl) | exact .inr (.inr rfl))) pd_int) (pdw_and1 (t_cmp (o_gt hr) (e_ix (o_ix hr) (pd_var (i := 3) rfl (by first | exact .inl rfl | exact .inr (.inl rfl) | exact .inr (.inr rfl))) (e_ix (o_ix hr) (pd_var (i := 10) rfl (by first | exact .inl rfl | exact .inr (.inl rfl) | exact .inr (.inr rfl))) pd_int)) (e_ix (o_ix hr) (pd_var (i := 3) rfl (by first | exact .inl rfl | exact .inr (.inl rfl) | exact .inr (.inr rfl))) (e_ix (o_ix hr) (pd_var (i := 9) rfl (by first | exact .inl rfl | exact .inr (.inl rfl) | exact .inr (.inr rfl))) pd_int)))))) (pds_one (pds_par (i := 9) (j := 10) S rfl rfl (by decide) rfl rfl (pda_cons (e_op o_add (pd_slice (pd_var (i := 10) rfl (by first | exact .inl rfl | exact .inr (.inl rfl) | exact .inr (.inr rfl))) pdo_none (pdo_some pd_int)) (pd_slice (pd_var (i := 9) rfl (by first | exact .inl rfl | exact .inr (.inl rfl) | exact .inr (.inr rfl))) (pdo_some pd_int) pdo_none)) (pda_cons (e_op o_add (pd_slice (pd_var (i := 9) rfl (by first | exact .inl rfl | exact .inr (.inl rfl) | exact .inr (.inr rfl))) pdo_none (pdo_some pd_int)) (pd_slice (pd_var (i := 10) rfl (by first | exact .inl rfl | exact .inr (.inl rfl) | exact .inr (.inr rfl))) (pdo_some pd_int) pdo_none)) pda_nil)) (by rfl))) pds_nil) (pds_cons (pds_if (PDW.pt (pdw_and (t_cmp (o_eq hr) (pd_var (i := 6) rfl (by first | exact .inl rfl | exact .inr (.inl rfl) | exact .inr (.inr rfl))) pd_int) (pdw_and1 (t_cmp (o_gt hr) (pd_sum S rfl B.sum (pda_cons (pd_lc (own := [("one", 11)]) (tgt := (tgVar 11)) (tt := yes) (ε := (eOp dIxA (eVar 3) (eVar 11))) S (pdi_seq (pd_var (i := 10) rfl (by first | exact .inl rfl | exact .inr (.inl rfl) | exact .inr (.inr rfl)))) (blkOk_by (N := ["row", "most", "long", "order", "turn", "many", "way", "rules", "size", "left", "right", "one"]) (sc := (defScope (top 35))) (by decide +kernel)) (tg_var (by decide)) (fun _ _ _ _ _ S => (pg_name (i := 11) S.nd rfl (by first | exact .inl rfl | exact .inr rfl))) (fun _ _ _ _ _ S => pdts_nil) (fun _ _ _ _ _ S => (e_ix (o_ix hr) (pd_var (i := 3) rfl (by first | exact .inl rfl | exact .inr (.inl rfl) | exact .inr (.inr rfl))) (pd_var (i := 11) rfl (by first | exact .inl rfl | exact .inr (.inl rfl) | exact .inr (.inr rfl)))))) pda_nil)) (pd_sum S rfl B.sum (pda_cons (pd_lc (own := [("one", 11)]) (tgt := (tgVar 11)) (tt := yes) (ε := (eOp dIxA (eVar 3) (eVar 11))) S (pdi_seq (pd_var (i := 9) rfl (by first | exact .inl rfl | exact .inr (.inl rfl) | exact .inr (.inr rfl)))) (blkOk_by (N := ["row", "most", "long", "order", "turn", "many", "way", "rules", "size", "left", "right", "one"]) (sc := (defScope (top 35))) (by decide +kernel)) (tg_var (by decide)) (fun _ _ _ _ _ S => (pg_name (i := 11) S.nd rfl (by first | exact .inl rfl | exact .inr rfl))) (fun _ _ _ _ _ S => pdts_nil) (fun _ _ _ _ _ S => (e_ix (o_ix hr) (pd_var (i := 3) rfl (by first | exact .inl rfl | exact .inr (.inl rfl) | exact .inr (.inr rfl))) (pd_var (i := 11) rfl (by first | exact .inl rfl | exact .inr (.inl rfl) | exact .inr (.inr rfl)))))) pda_nil)))))) (pds_one (pds_par (i := 9) (j := 10) S rfl rfl (by decide) rfl rfl (pda_cons (pd_var (i := 10) rfl (by first | exact .inl rfl | exact .inr (.inl rfl) | exact .inr (.inr rfl))) (pda_cons (pd_var (i := 9) rfl (by first | exact .inl rfl | exact .inr (.inl rfl) | exact .inr (.inr rfl))) pda_nil)) (by rfl))) pds_nil) (pds_one (pds_if (t_cmp (o_ne hr) (pd_var (i := 9) rfl (by first | exact .inl rfl | exact .inr (.inl rfl) | exact .inr (.inr rfl))) (pd_var (i := 10) rfl (by first | exact .inl rfl | exact .inr (.inl rfl) | exact .inr (.inr rfl)))) (pds_one (pds_asg pd_bl (pdg_sto (units_20 hr) (pd_var (i := 7) rfl (by first | exact .inl rfl | exact .inr (.inl rfl) | exact .inr (.inr rfl))) (pd_tup (pda_cons (pd_var (i := 9) rfl (by first | exact .inl rfl | exact .inr (.inl rfl) | exact .inr (.inr rfl))) (pda_cons (pd_var (i := 10) rfl (by first | exact .inl rfl | exact .inr (.inl rfl) | exact .inr (.inr rfl))) pda_nil)))))) pds_nil))))))))) (pds_one (pds_ret (pd_tup (pda_cons (pd_var (i := 5) rfl (by first | exact .inl rfl | exact .inr (.inl rfl) | exact .inr (.inr rfl))) (pda_cons (pd_tuple rfl B.tuple (pda_cons (pd_sortedKeys S hr rfl B.sorted (pd_var (i := 7) rfl (by first | exact .inl rfl | exact .inr (.inl rfl) | exact .inr (.inr rfl)))) pda_nil)) pda_nil))))))))
abbrev st__law_steps : Stmt := top 37
theorem sc__law_steps : FnScope ["book", "word", "found", "left", "right", "rows", "k", "more", "line", "here", "at"] ["book", "word"] (defScope (top 37)) := ⟨rfl, rfl, rfl, by decide +kernel, rfl, by decide +kernel, by decide +kernel⟩
theorem der__law_steps {g : G} {mg : Str → Option Value} {base : Heap} {f : Addr} {k : Nat} (B : BltD mg) (cd : Value) (A : Around) (outer : List PySem.Env) (s : Shared) (H : Hp) (E : XK) (hr : Room k (A.deeper (envOfC "_law_steps" (defScope (top 37)) s.heap.objs.size f cd))) :
    PDSs (cxD g mg base ["book", "word", "found", "left", "right", "rows", "k", "more", "line", "here", "at"] "_law_steps" (defScope (top 37)) f cd A outer s H E) g.T (fun cls d _ H' => E cls d H') (defBody (top 37)) (tau__law_steps) := by
  have S : Std (cxD g mg base ["book", "word", "found", "left", "right", "rows", "k", "more", "line", "here", "at"] "_law_steps" (defScope (top 37)) f cd A outer s H E) (fun cls d _ H' => E cls d H') := std_of sc__law_steps.nd
  unfold tau__law_steps
  exact (pds_cons (pds_set (i := 2) S rfl (by first | exact .inl rfl | exact .inr rfl) pd_dnew) (pds_cons (pds_for S (pdi_seq (e_ix (o_ix hr) (pd_var (i := 0) rfl (by first | exact .inl rfl | exact .inr (.inl rfl) | exact .inr (.inr rfl))) pd_int)) (pdg_tup S (pdgs_cons (pdg_var (i := 3) S rfl (by first | exact .inl rfl | exact .inr rfl)) (pdgs_cons (pdg_var (i := 4) S rfl (by first | exact .inl rfl | exact .inr rfl)) pdgs_nil))) (pds_cons (pds_set (i := 5) S rfl (by first | exact .inl rfl | exact .inr rfl) (pd_lst (pda_cons (pd_tup (pda_cons (pd_tup pda_nil) (pda_cons (pd_var (i := 1) rfl (by first | exact .inl rfl | exact .inr (.inl rfl) | exact .inr (.inr rfl))) pda_nil))) pda_nil))) (pds_cons (pds_for S (pdi_rng1 rfl B.range (pda_cons (pd_lenA rfl B.len (pda_cons (pd_var (i := 3) rfl (by first | exact .inl rfl | exact .inr (.inl rfl) | exact .inr (.inr rfl))) pda_nil)) pda_nil)) (pdg_var (i := 6) S rfl (by first | exact .inl rfl | exact .inr rfl)) (pds_cons (pds_set (i := 7) S rfl (by first | exact .inl rfl | exact .inr rfl) (pd_lst pda_nil)) (pds_cons (pds_for S (pdi_seq (pd_var (i := 5) rfl (by first | exact .inl rfl | exact .inr (.inl rfl) | exact .inr (.inr rfl)))) (pdg_tup S (pdgs_cons (pdg_var (i := 8) S rfl (by first | exact .inl rfl | exact .inr rfl)) (pdgs_cons (pdg_var (i := 9) S rfl (by first | exact .inl rfl | exact .inr rfl)) pdgs_nil))) (pds_one (pds_for S (pdi_rng2 rfl B.range (pda_cons (pd_if (t_cmp (o_ne hr) (pd_var (i := 8) rfl (by first | exact .inl rfl | exact .inr (.inl rfl) | exact .inr (.inr rfl))) (pd_tup pda_nil)) (e_op o_add (e_ix (o_ix hr) (pd_var (i := 8) rfl (by first | exact .inl rfl | exact .inr (.inl rfl) | exact .inr (.inr rfl))) (pd_neg pd_int)) pd_int) pd_int) (pda_cons (pd_lenA rfl B.len (pda_cons (pd_var (i := 1) rfl (by first | exact .inl rfl | exact .inr (.inl rfl) | exact .inr (.inr rfl))) pda_nil)) pda_nil))) (pdg_var (i := 10) S rfl (by first | exact .inl rfl | exact .inr rfl)) (pds_one (pds_if (t_cmp (o_eq hr) (e_ix (o_ix hr) (pd_var (i := 1) rfl (by first | exact .inl rfl | exact .inr (.inl rfl) | exact .inr (.inr rfl))) (pd_var (i := 10) rfl (by first | exact .inl rfl | exact .inr (.inl rfl) | exact .inr (.inr rfl)))) (e_ix (o_ix hr) (pd_var (i := 3) rfl (by first | exact .inl rfl | exact .inr (.inl rfl) | exact .inr (.inr rfl))) (pd_var (i := 6) rfl (by first | exact .inl rfl | exact .inr (.inl rfl) | exact .inr (.inr rfl))))) (pds_one (pds_expr (pd_append (pd_var (i := 7) rfl (by first | exact .inl rfl | exact .inr (.inl rfl) | exact .inr (.inr rfl))) (pda_cons (pd_tup (pda_cons (e_op o_add (pd_var (i := 8) rfl (by first | exact .inl rfl | exact .inr (.inl rfl) | exact .inr (.inr rfl))) (pd_tup (pda_cons (pd_var (i := 10) rfl (by first | exact .inl rfl | exact .inr (.inl rfl) | exact .inr (.inr rfl))) pda_nil))) (pda_cons (e_op o_add (e_op o_add (pd_slice (pd_var (i := 9) rfl (by first | exact .inl rfl | exact .inr (.inl rfl) | exact .inr (.inr rfl))) pdo_none (pdo_some (pd_var (i := 10) rfl (by first | exact .inl rfl | exact .inr (.inl rfl) | exact .inr (.inr rfl))))) (pd_tup (pda_cons (e_ix (o_ix hr) (pd_var (i := 4) rfl (by first | exact .inl rfl | exact .inr (.inl rfl) | exact .inr (.inr rfl))) (pd_var (i := 6) rfl (by first | exact .inl rfl | exact .inr (.inl rfl) | exact .inr (.inr rfl)))) pda_nil))) (pd_slice (pd_var (i := 9) rfl (by first | exact .inl rfl | exact .inr (.inl rfl) | exact .inr (.inr rfl))) (pdo_some (e_op o_add (pd_var (i := 10) rfl (by first | exact .inl rfl | exact .inr (.inl rfl) | exact .inr (.inr rfl))) pd_int)) pdo_none)) pda_nil))) pda_nil)))) pds_nil))))) (pds_one (pds_set (i := 5) S rfl (by first | exact .inl rfl | exact .inr rfl) (pd_var (i := 7) rfl (by first | exact .inl rfl | exact .inr (.inl rfl) | exact .inr (.inr rfl)))))))) (pds_one (pds_for S (pdi_seq (pd_var (i := 5) rfl (by first | exact .inl rfl | exact .inr (.inl rfl) | exact .inr (.inr rfl)))) (pdg_tup S (pdgs_cons (pdg_var (i := 8) S rfl (by first | exact .inl rfl | exact .inr rfl)) (pdgs_cons (pdg_var (i := 9) S rfl (by first | exact .inl rfl | exact .inr rfl)) pdgs_nil))) (pds_one (pds_asg pd_bl (pdg_sto (units_20 hr) (pd_var (i := 2) rfl (by first | exact .inl rfl | exact .inr (.inl rfl) | exact .inr (.inr rfl))) (pd_var (i := 9) rfl (by first | exact .inl rfl | exact .inr (.inl rfl) | exact .inr (.inr rfl))))))))))) (pds_one (pds_ret (pd_sortedKeys S hr rfl B.sorted (pd_var (i := 2) rfl (by first | exact .inl rfl | exact .inr (.inl rfl) | exact .inr (.inr rfl))))))))
abbrev st__law_walk : Stmt := top 38
theorem sc__law_walk : FnScope ["book", "word", "found", "rows", "here"] ["book", "word"] (defScope (top 38)) := ⟨rfl, rfl, rfl, by decide +kernel, rfl, by decide +kernel, by decide +kernel⟩
theorem der__law_walk {g : G} {mg : Str → Option Value} {base : Heap} {f : Addr} {k : Nat} (B : BltD mg) {sp__law_steps : DSp} (F__law_steps : AtD g mg base k "_law_steps" ["book", "word"] sp__law_steps) (cd : Value) (A : Around) (outer : List PySem.Env) (s : Shared) (H : Hp) (E : XK) (hr : Room k (A.deeper (envOfC "_law_walk" (defScope (top 38)) s.heap.objs.size f cd))) :
    PDSs (cxD g mg base ["book", "word", "found", "rows", "here"] "_law_walk" (defScope (top 38)) f cd A outer s H E) g.T (fun cls d _ H' => E cls d H') (defBody (top 38)) (tau__law_walk sp__law_steps) := by
  have S : Std (cxD g mg base ["book", "word", "found", "rows", "here"] "_law_walk" (defScope (top 38)) f cd A outer s H E) (fun cls d _ H' => E cls d H') := std_of sc__law_walk.nd
  unfold tau__law_walk
  exact (pds_cons (pds_par (i := 2) (j := 3) S rfl rfl (by decide) rfl rfl (pda_cons pd_dnew (pda_cons (pd_lst (pda_cons (pd_var (i := 1) rfl (by first | exact .inl rfl | exact .inr (.inl rfl) | exact .inr (.inr rfl))) pda_nil)) pda_nil)) (by rfl)) (pds_cons (pds_while S (t_cmp (o_ne hr) (pd_var (i := 3) rfl (by first | exact .inl rfl | exact .inr (.inl rfl) | exact .inr (.inr rfl))) (pd_lst pda_nil)) (pds_cons (pds_set (i := 4) S rfl (by first | exact .inl rfl | exact .inr rfl) (e_ix (o_ix hr) (pd_var (i := 3) rfl (by first | exact .inl rfl | exact .inr (.inl rfl) | exact .inr (.inr rfl))) pd_int)) (pds_cons (pds_set (i := 3) S rfl (by first | exact .inl rfl | exact .inr rfl) (pd_slice (pd_var (i := 3) rfl (by first | exact .inl rfl | exact .inr (.inl rfl) | exact .inr (.inr rfl))) (pdo_some pd_int) pdo_none)) (pds_one (pds_if (t_cmp (o_notin hr) (pd_var (i := 4) rfl (by first | exact .inl rfl | exact .inr (.inl rfl) | exact .inr (.inr rfl))) (pd_var (i := 2) rfl (by first | exact .inl rfl | exact .inr (.inl rfl) | exact .inr (.inr rfl)))) (pds_cons (pds_asg (pd_call S F__law_steps hr (Nat.le_refl _) rfl (pda_cons (pd_var (i := 0) rfl (by first | exact .inl rfl | exact .inr (.inl rfl) | exact .inr (.inr rfl))) (pda_cons (pd_var (i := 4) rfl (by first | exact .inl rfl | exact .inr (.inl rfl) | exact .inr (.inr rfl))) pda_nil))) (pdg_sto (units_20 hr) (pd_var (i := 2) rfl (by first | exact .inl rfl | exact .inr (.inl rfl) | exact .inr (.inr rfl))) (pd_var (i := 4) rfl (by first | exact .inl rfl | exact .inr (.inl rfl) | exact .inr (.inr rfl))))) (pds_one (pds_set (i := 3) S rfl (by first | exact .inl rfl | exact .inr rfl) (e_op o_add (pd_var (i := 3) rfl (by first | exact .inl rfl | exact .inr (.inl rfl) | exact .inr (.inr rfl))) (e_ix (o_ix hr) (pd_var (i := 2) rfl (by first | exact .inl rfl | exact .inr (.inl rfl) | exact .inr (.inr rfl))) (pd_var (i := 4) rfl (by first | exact .inl rfl | exact .inr (.inl rfl) | exact .inr (.inr rfl)))))))) pds_nil))))) (pds_one (pds_ret (pd_var (i := 2) rfl (by first | exact .inl rfl | exact .inr (.inl rfl) | exact .inr (.inr rfl)))))))
abbrev st__law_layers : Stmt := top 39
theorem sc__law_layers : FnScope ["told", "found", "left", "calm", "here", "there"] ["told"] (defScope (top 39)) := ⟨rfl, rfl, rfl, by decide +kernel, rfl, by decide +kernel, by decide +kernel⟩
theorem der__law_layers {g : G} {mg : Str → Option Value} {base : Heap} {f : Addr} {k : Nat} (B : BltD mg) (cd : Value) (A : Around) (outer : List PySem.Env) (s : Shared) (H : Hp) (E : XK) (hr : Room k (A.deeper (envOfC "_law_layers" (defScope (top 39)) s.heap.objs.size f cd))) :
    PDSs (cxD g mg base ["told", "found", "left", "calm", "here", "there"] "_law_layers" (defScope (top 39)) f cd A outer s H E) g.T (fun cls d _ H' => E cls d H') (defBody (top 39)) (tau__law_layers) := by
  have S : Std (cxD g mg base ["told", "found", "left", "calm", "here", "there"] "_law_layers" (defScope (top 39)) f cd A outer s H E) (fun cls d _ H' => E cls d H') := std_of sc__law_layers.nd
  unfold tau__law_layers
  exact (pds_cons (pds_asg (pd_tup (pda_cons (pd_lst pda_nil) (pda_cons (pd_listKeys S hr rfl B.list (pd_var (i := 0) rfl (by first | exact .inl rfl | exact .inr (.inl rfl) | exact .inr (.inr rfl)))) pda_nil))) (pdg_tup S (pdgs_cons (pdg_var (i := 1) S rfl (by first | exact .inl rfl | exact .inr rfl)) (pdgs_cons (pdg_var (i := 2) S rfl (by first | exact .inl rfl | exact .inr rfl)) pdgs_nil)))) (pds_cons (pds_while S (t_cmp (o_ne hr) (pd_var (i := 2) rfl (by first | exact .inl rfl | exact .inr (.inl rfl) | exact .inr (.inr rfl))) (pd_lst pda_nil)) (pds_cons (pds_set (i := 3) S rfl (by first | exact .inl rfl | exact .inr rfl) (pd_lc (own := [("here", 4)]) (tgt := (tgVar 4)) (tt := (eTst (eOp dEq (eLc (iSeq (eOp dIxA (eVar 0) (eVar 4))) (tgVar 5) (eTst (eOp (dInA false) (eVar 5) (eVar 2))) (eVar 5) [5]) (eLst aNil)))) (ε := (eVar 4)) S (pdi_seq (pd_var (i := 2) rfl (by first | exact .inl rfl | exact .inr (.inl rfl) | exact .inr (.inr rfl)))) (blkOk_by (N := ["told", "found", "left", "calm", "here", "there"]) (sc := (defScope (top 39))) (by decide +kernel)) (tg_var (by decide)) (fun _ _ _ _ _ S => (pg_name (i := 4) S.nd rfl (by first | exact .inl rfl | exact .inr rfl))) (fun _ _ _ _ _ S => (pdts_one (t_cmp (o_eq hr) (pd_lc (own := [("there", 5)]) (tgt := (tgVar 5)) (tt := (eTst (eOp (dInA false) (eVar 5) (eVar 2)))) (ε := (eVar 5)) S (pdi_seq (e_ix (o_ix hr) (pd_var (i := 0) rfl (by first | exact .inl rfl | exact .inr (.inl rfl) | exact .inr (.inr rfl))) (pd_var (i := 4) rfl (by first | exact .inl rfl | exact .inr (.inl rfl) | exact .inr (.inr rfl))))) (blkOk_by (N := ["told", "found", "left", "calm", "here", "there"]) (by rfl)) (tg_var (by decide)) (fun _ _ _ _ _ S => (pg_name (i := 5) S.nd rfl (by first | exact .inl rfl | exact .inr rfl))) (fun _ _ _ _ _ S => (pdts_one (t_cmp (o_in hr) (pd_var (i := 5) rfl (by first | exact .inl rfl | exact .inr (.inl rfl) | exact .inr (.inr rfl))) (pd_var (i := 2) rfl (by first | exact .inl rfl | exact .inr (.inl rfl) | exact .inr (.inr rfl)))))) (fun _ _ _ _ _ S => (pd_var (i := 5) rfl (by first | exact .inl rfl | exact .inr (.inl rfl) | exact .inr (.inr rfl))))) (pd_lst pda_nil)))) (fun _ _ _ _ _ S => (pd_var (i := 4) rfl (by first | exact .inl rfl | exact .inr (.inl rfl) | exact .inr (.inr rfl)))))) (pds_cons (pds_if (t_cmp (o_eq hr) (pd_var (i := 3) rfl (by first | exact .inl rfl | exact .inr (.inl rfl) | exact .inr (.inr rfl))) (pd_lst pda_nil)) (pds_one (pds_ret pd_non)) pds_nil) (pds_one (pds_asg (pd_tup (pda_cons (e_op o_add (pd_var (i := 1) rfl (by first | exact .inl rfl | exact .inr (.inl rfl) | exact .inr (.inr rfl))) (pd_var (i := 3) rfl (by first | exact .inl rfl | exact .inr (.inl rfl) | exact .inr (.inr rfl)))) (pda_cons (pd_lc (own := [("here", 4)]) (tgt := (tgVar 4)) (tt := (eTst (eOp (dInA true) (eVar 4) (eVar 3)))) (ε := (eVar 4)) S (pdi_seq (pd_var (i := 2) rfl (by first | exact .inl rfl | exact .inr (.inl rfl) | exact .inr (.inr rfl)))) (blkOk_by (N := ["told", "found", "left", "calm", "here", "there"]) (sc := (defScope (top 39))) (by decide +kernel)) (tg_var (by decide)) (fun _ _ _ _ _ S => (pg_name (i := 4) S.nd rfl (by first | exact .inl rfl | exact .inr rfl))) (fun _ _ _ _ _ S => (pdts_one (t_cmp (o_notin hr) (pd_var (i := 4) rfl (by first | exact .inl rfl | exact .inr (.inl rfl) | exact .inr (.inr rfl))) (pd_var (i := 3) rfl (by first | exact .inl rfl | exact .inr (.inl rfl) | exact .inr (.inr rfl)))))) (fun _ _ _ _ _ S => (pd_var (i := 4) rfl (by first | exact .inl rfl | exact .inr (.inl rfl) | exact .inr (.inr rfl))))) pda_nil))) (pdg_tup S (pdgs_cons (pdg_var (i := 1) S rfl (by first | exact .inl rfl | exact .inr rfl)) (pdgs_cons (pdg_var (i := 2) S rfl (by first | exact .inl rfl | exact .inr rfl)) pdgs_nil)))))))) (pds_one (pds_ret (pd_var (i := 1) rfl (by first | exact .inl rfl | exact .inr (.inl rfl) | exact .inr (.inr rfl)))))))
abbrev st__law_last_ones : Stmt := top 40
theorem sc__law_last_ones : FnScope ["told", "here"] ["told"] (defScope (top 40)) := ⟨rfl, rfl, rfl, by decide +kernel, rfl, by decide +kernel, by decide +kernel⟩
theorem der__law_last_ones {g : G} {mg : Str → Option Value} {base : Heap} {f : Addr} {k : Nat} (B : BltD mg) (cd : Value) (A : Around) (outer : List PySem.Env) (s : Shared) (H : Hp) (E : XK) (hr : Room k (A.deeper (envOfC "_law_last_ones" (defScope (top 40)) s.heap.objs.size f cd))) :
    PDSs (cxD g mg base ["told", "here"] "_law_last_ones" (defScope (top 40)) f cd A outer s H E) g.T (fun cls d _ H' => E cls d H') (defBody (top 40)) (tau__law_last_ones) := by
  have S : Std (cxD g mg base ["told", "here"] "_law_last_ones" (defScope (top 40)) f cd A outer s H E) (fun cls d _ H' => E cls d H') := std_of sc__law_last_ones.nd
  unfold tau__law_last_ones
  exact (pds_one (pds_ret (pd_sortA S hr rfl B.sorted (pda_cons (pd_lc (own := [("here", 1)]) (tgt := (tgVar 1)) (tt := (eTst (eOp dEq (eOp dIxA (eVar 0) (eVar 1)) (eLst aNil)))) (ε := (eVar 1)) S (pdi_keysM (pd_var (i := 0) rfl (by first | exact .inl rfl | exact .inr (.inl rfl) | exact .inr (.inr rfl)))) (blkOk_by (N := ["told", "here"]) (sc := (defScope (top 40))) (by decide +kernel)) (tg_var (by decide)) (fun _ _ _ _ _ S => (pg_name (i := 1) S.nd rfl (by first | exact .inl rfl | exact .inr rfl))) (fun _ _ _ _ _ S => (pdts_one (t_cmp (o_eq hr) (e_ix (o_ix hr) (pd_var (i := 0) rfl (by first | exact .inl rfl | exact .inr (.inl rfl) | exact .inr (.inr rfl))) (pd_var (i := 1) rfl (by first | exact .inl rfl | exact .inr (.inl rfl) | exact .inr (.inr rfl)))) (pd_lst pda_nil)))) (fun _ _ _ _ _ S => (pd_var (i := 1) rfl (by first | exact .inl rfl | exact .inr (.inl rfl) | exact .inr (.inr rfl))))) pda_nil))))
abbrev st__law_alike : Stmt := top 36
theorem sc__law_alike : FnScope ["found", "due", "k"] ["found", "due"] (defScope (top 36)) := ⟨rfl, rfl, rfl, by decide +kernel, rfl, by decide +kernel, by decide +kernel⟩
theorem der__law_alike {g : G} {mg : Str → Option Value} {base : Heap} {f : Addr} {k : Nat} (B : BltD mg) {sp__law_alike : DSp} (F__law_alike : AtD g mg base k "_law_alike" ["found", "due"] sp__law_alike) (cd : Value) (A : Around) (outer : List PySem.Env) (s : Shared) (H : Hp) (E : XK) (hr : Room k (A.deeper (envOfC "_law_alike" (defScope (top 36)) s.heap.objs.size f cd))) :
    PDSs (cxD g mg base ["found", "due", "k"] "_law_alike" (defScope (top 36)) f cd A outer s H E) g.T (fun cls d _ H' => E cls d H') (defBody (top 36)) (tau__law_alike sp__law_alike) := by
  have S : Std (cxD g mg base ["found", "due", "k"] "_law_alike" (defScope (top 36)) f cd A outer s H E) (fun cls d _ H' => E cls d H') := std_of sc__law_alike.nd
  unfold tau__law_alike
  exact (pds_cons (pds_if (pdt_tru (pd_isiT (cs := ["tuple", "list"]) rfl B.isi (.cons (c := "tuple") rfl B.tuple (by decide +kernel) (.cons (c := "list") rfl B.list (by decide +kernel) .nil)) (by decide) (pd_var (i := 1) rfl (by first | exact .inl rfl | exact .inr (.inl rfl) | exact .inr (.inr rfl))))) (pds_cons (pds_if (PDW.pt (pdw_or (pdt_not (pdt_tru (pd_isiT (cs := ["tuple", "list"]) rfl B.isi (.cons (c := "tuple") rfl B.tuple (by decide +kernel) (.cons (c := "list") rfl B.list (by decide +kernel) .nil)) (by decide) (pd_var (i := 0) rfl (by first | exact .inl rfl | exact .inr (.inl rfl) | exact .inr (.inr rfl)))))) (pdw_or1 (t_cmp (o_ne hr) (pd_isi (TT := "list") rfl B.isi rfl B.list (by decide +kernel) (pd_var (i := 0) rfl (by first | exact .inl rfl | exact .inr (.inl rfl) | exact .inr (.inr rfl)))) (pd_isi (TT := "list") rfl B.isi rfl B.list (by decide +kernel) (pd_var (i := 1) rfl (by first | exact .inl rfl | exact .inr (.inl rfl) | exact .inr (.inr rfl)))))))) (pds_one (pds_ret pd_bl)) pds_nil) (pds_cons (pds_if (t_cmp (o_ne hr) (pd_lenA rfl B.len (pda_cons (pd_var (i := 0) rfl (by first | exact .inl rfl | exact .inr (.inl rfl) | exact .inr (.inr rfl))) pda_nil)) (pd_lenA rfl B.len (pda_cons (pd_var (i := 1) rfl (by first | exact .inl rfl | exact .inr (.inl rfl) | exact .inr (.inr rfl))) pda_nil))) (pds_one (pds_ret pd_bl)) pds_nil) (pds_one (pds_ret (e_cmp (o_eq hr) (pd_lc (own := [("k", 2)]) (tgt := (tgVar 2)) (tt := (eNotT (eTru (eCall sp__law_alike (aCons (eOp dIxA (eVar 0) (eVar 2)) (aCons (eOp dIxA (eVar 1) (eVar 2)) aNil)))))) (ε := (eVar 2)) S (pdi_rng1 rfl B.range (pda_cons (pd_lenA rfl B.len (pda_cons (pd_var (i := 1) rfl (by first | exact .inl rfl | exact .inr (.inl rfl) | exact .inr (.inr rfl))) pda_nil)) pda_nil)) (blkOk_by (N := ["found", "due", "k"]) (sc := (defScope (top 36))) (by decide +kernel)) (tg_var (by decide)) (fun _ _ _ _ _ S => (pg_name (i := 2) S.nd rfl (by first | exact .inl rfl | exact .inr rfl))) (fun _ _ _ _ _ S => (pdts_one (pdt_not (pdt_tru (pd_call S F__law_alike hr (Nat.le_refl _) rfl (pda_cons (e_ix (o_ix hr) (pd_var (i := 0) rfl (by first | exact .inl rfl | exact .inr (.inl rfl) | exact .inr (.inr rfl))) (pd_var (i := 2) rfl (by first | exact .inl rfl | exact .inr (.inl rfl) | exact .inr (.inr rfl)))) (pda_cons (e_ix (o_ix hr) (pd_var (i := 1) rfl (by first | exact .inl rfl | exact .inr (.inl rfl) | exact .inr (.inr rfl))) (pd_var (i := 2) rfl (by first | exact .inl rfl | exact .inr (.inl rfl) | exact .inr (.inr rfl)))) pda_nil))))))) (fun _ _ _ _ _ S => (pd_var (i := 2) rfl (by first | exact .inl rfl | exact .inr (.inl rfl) | exact .inr (.inr rfl))))) (pd_lst pda_nil)))))) pds_nil) (pds_cons (pds_if (PDW.pt (pdw_or (t_cmp o_isN (pd_var (i := 1) rfl (by first | exact .inl rfl | exact .inr (.inl rfl) | exact .inr (.inr rfl))) pd_non) (pdw_or1 (pdt_tru (pd_isi (TT := "str") rfl B.isi rfl B.str (by decide +kernel) (pd_var (i := 1) rfl (by first | exact .inl rfl | exact .inr (.inl rfl) | exact .inr (.inr rfl)))))))) (pds_one (pds_ret (pd_and (e_cmp (o_eq hr) (pd_var (i := 0) rfl (by first | exact .inl rfl | exact .inr (.inl rfl) | exact .inr (.inr rfl))) (pd_var (i := 1) rfl (by first | exact .inl rfl | exact .inr (.inl rfl) | exact .inr (.inr rfl)))) (pd_one (e_cmp (o_eq hr) (pd_isi (TT := "str") rfl B.isi rfl B.str (by decide +kernel) (pd_var (i := 0) rfl (by first | exact .inl rfl | exact .inr (.inl rfl) | exact .inr (.inr rfl)))) (pd_isi (TT := "str") rfl B.isi rfl B.str (by decide +kernel) (pd_var (i := 1) rfl (by first | exact .inl rfl | exact .inr (.inl rfl) | exact .inr (.inr rfl))))))))) pds_nil) (pds_one (pds_ret (pd_and (pd_isi (TT := "int") rfl B.isi rfl B.int (by decide +kernel) (pd_var (i := 0) rfl (by first | exact .inl rfl | exact .inr (.inl rfl) | exact .inr (.inr rfl)))) (pd_and (e_cmp (o_eq hr) (pd_isi (TT := "bool") rfl B.isi rfl B.bool (by decide +kernel) (pd_var (i := 0) rfl (by first | exact .inl rfl | exact .inr (.inl rfl) | exact .inr (.inr rfl)))) (pd_isi (TT := "bool") rfl B.isi rfl B.bool (by decide +kernel) (pd_var (i := 1) rfl (by first | exact .inl rfl | exact .inr (.inl rfl) | exact .inr (.inr rfl))))) (pd_one (e_cmp (o_eq hr) (pd_var (i := 0) rfl (by first | exact .inl rfl | exact .inr (.inl rfl) | exact .inr (.inr rfl))) (pd_var (i := 1) rfl (by first | exact .inl rfl | exact .inr (.inl rfl) | exact .inr (.inr rfl)))))))))))
abbrev st_law : Stmt := top 41
theorem sc_law : FnScope ["script", "row", "wide", "long", "word", "told", "order", "error", "known", "here", "book", "found", "there"] ["script"] (defScope (top 41)) := ⟨rfl, rfl, rfl, by decide +kernel, rfl, by decide +kernel, by decide +kernel⟩
theorem der_law {g : G} {mg : Str → Option Value} {base : Heap} {f : Addr} {k : Nat} (B : BltD mg) {sp__law_alike : DSp} (F__law_alike : AtD g mg base k "_law_alike" ["found", "due"] sp__law_alike) {sp__law_book : DSp} (F__law_book : AtD g mg base k "_law_book" ["row", "most", "long"] sp__law_book) {sp__law_last_ones : DSp} (F__law_last_ones : AtD g mg base k "_law_last_ones" ["told"] sp__law_last_ones) {sp__law_layers : DSp} (F__law_layers : AtD g mg base k "_law_layers" ["told"] sp__law_layers) {sp__law_letters : DSp} (F__law_letters : AtD g mg base k "_law_letters" ["row", "many", "long"] sp__law_letters) {sp__law_steps : DSp} (F__law_steps : AtD g mg base k "_law_steps" ["book", "word"] sp__law_steps) {sp__law_taken : DSp} (F__law_taken : AtD g mg base k "_law_taken" ["row", "many"] sp__law_taken) {sp__law_walk : DSp} (F__law_walk : AtD g mg base k "_law_walk" ["book", "word"] sp__law_walk) {sp_all_come : DSp} (F_all_come : AtD g mg base k "all_come" ["book", "word"] sp_all_come) {sp_goes_on : DSp} (F_goes_on : AtD g mg base k "goes_on" ["book", "word"] sp_goes_on) {sp_longest : DSp} (F_longest : AtD g mg base k "longest" ["book", "word"] sp_longest) {sp_steps : DSp} (F_steps : AtD g mg base k "steps" ["book", "word"] sp_steps) {sp_walked_rests : DSp} (F_walked_rests : AtD g mg base k "walked_rests" ["book", "word"] sp_walked_rests) {cls_NotEnding : Addr} {cls_ScatterError : Addr} (x_NotEnding : Err0 g mg "NotEnding" cls_NotEnding) (y_ScatterError : mg "ScatterError" = some (.ref cls_ScatterError)) (cd : Value) (A : Around) (outer : List PySem.Env) (s : Shared) (H : Hp) (E : XK) (hr : Room k (A.deeper (envOfC "law" (defScope (top 41)) s.heap.objs.size f cd))) :
    PDSs (cxD g mg base ["script", "row", "wide", "long", "word", "told", "order", "error", "known", "here", "book", "found", "there"] "law" (defScope (top 41)) f cd A outer s H E) g.T (fun cls d _ H' => E cls d H') (defBody (top 41)) (tau_law sp__law_alike sp__law_book sp__law_last_ones sp__law_layers sp__law_letters sp__law_steps sp__law_taken sp__law_walk sp_all_come sp_goes_on sp_longest sp_steps sp_walked_rests g.K cls_NotEnding cls_ScatterError) := by
  have S : Std (cxD g mg base ["script", "row", "wide", "long", "word", "told", "order", "error", "known", "here", "book", "found", "there"] "law" (defScope (top 41)) f cd A outer s H E) (fun cls d _ H' => E cls d H') := std_of sc_law.nd
  unfold tau_law
  exact (pds_cons (pds_set (i := 1) S rfl (by first | exact .inl rfl | exact .inr rfl) (pd_lst (pda_cons (pd_var (i := 0) rfl (by first | exact .inl rfl | exact .inr (.inl rfl) | exact .inr (.inr rfl))) (pda_cons pd_int (pda_cons pd_int (pda_cons pd_int pda_nil)))))) (pds_cons (pds_par (i := 10) (j := 11) S rfl rfl (by decide) rfl rfl (pda_cons (pd_call S F__law_book hr (Nat.le_refl _) rfl (pda_cons (pd_var (i := 1) rfl (by first | exact .inl rfl | exact .inr (.inl rfl) | exact .inr (.inr rfl))) (pda_cons pd_int (pda_cons pd_int pda_nil)))) (pda_cons pd_non pda_nil)) (by rfl)) (pds_cons (pds_set (i := 2) S rfl (by first | exact .inl rfl | exact .inr rfl) (pd_call S F__law_book hr (Nat.le_refl _) rfl (pda_cons (pd_var (i := 1) rfl (by first | exact .inl rfl | exact .inr (.inl rfl) | exact .inr (.inr rfl))) (pda_cons pd_int (pda_cons pd_int pda_nil))))) (pds_cons (pds_set (i := 3) S rfl (by first | exact .inl rfl | exact .inr rfl) (pd_call S F__law_letters hr (Nat.le_refl _) rfl (pda_cons (pd_var (i := 1) rfl (by first | exact .inl rfl | exact .inr (.inl rfl) | exact .inr (.inr rfl))) (pda_cons (e_ix (o_ix hr) (pd_var (i := 2) rfl (by first | exact .inl rfl | exact .inr (.inl rfl) | exact .inr (.inr rfl))) pd_int) (pda_cons (pd_call S F__law_taken hr (Nat.le_refl _) rfl (pda_cons (pd_var (i := 1) rfl (by first | exact .inl rfl | exact .inr (.inl rfl) | exact .inr (.inr rfl))) (pda_cons pd_int pda_nil))) pda_nil))))) (pds_cons (pds_if (pdt_not (pdt_tru (pd_call S F__law_alike hr (Nat.le_refl _) rfl (pda_cons (pd_call S F_steps hr (Nat.le_refl _) rfl (pda_cons (pd_var (i := 2) rfl (by first | exact .inl rfl | exact .inr (.inl rfl) | exact .inr (.inr rfl))) (pda_cons (pd_var (i := 3) rfl (by first | exact .inl rfl | exact .inr (.inl rfl) | exact .inr (.inr rfl))) pda_nil))) (pda_cons (pd_tuple rfl B.tuple (pda_cons (pd_call S F__law_steps hr (Nat.le_refl _) rfl (pda_cons (pd_var (i := 2) rfl (by first | exact .inl rfl | exact .inr (.inl rfl) | exact .inr (.inr rfl))) (pda_cons (pd_var (i := 3) rfl (by first | exact .inl rfl | exact .inr (.inl rfl) | exact .inr (.inr rfl))) pda_nil))) pda_nil)) pda_nil))))) (pds_one (pds_ret pd_bl)) pds_nil) (pds_cons (pds_set (i := 4) S rfl (by first | exact .inl rfl | exact .inr rfl) (pd_call S F__law_letters hr (Nat.le_refl _) rfl (pda_cons (pd_var (i := 1) rfl (by first | exact .inl rfl | exact .inr (.inl rfl) | exact .inr (.inr rfl))) (pda_cons (e_ix (o_ix hr) (pd_var (i := 10) rfl (by first | exact .inl rfl | exact .inr (.inl rfl) | exact .inr (.inr rfl))) pd_int) (pda_cons (pd_call S F__law_taken hr (Nat.le_refl _) rfl (pda_cons (pd_var (i := 1) rfl (by first | exact .inl rfl | exact .inr (.inl rfl) | exact .inr (.inr rfl))) (pda_cons pd_int pda_nil))) pda_nil))))) (pds_cons (pds_set (i := 5) S rfl (by first | exact .inl rfl | exact .inr rfl) (pd_call S F__law_walk hr (Nat.le_refl _) rfl (pda_cons (pd_var (i := 10) rfl (by first | exact .inl rfl | exact .inr (.inl rfl) | exact .inr (.inr rfl))) (pda_cons (pd_var (i := 4) rfl (by first | exact .inl rfl | exact .inr (.inl rfl) | exact .inr (.inr rfl))) pda_nil)))) (pds_cons (pds_set (i := 6) S rfl (by first | exact .inl rfl | exact .inr rfl) (pd_call S F__law_layers hr (Nat.le_refl _) rfl (pda_cons (pd_var (i := 5) rfl (by first | exact .inl rfl | exact .inr (.inl rfl) | exact .inr (.inr rfl))) pda_nil))) (pds_cons (pds_if (pdt_not (pdt_tru (pd_call S F__law_alike hr (Nat.le_refl _) rfl (pda_cons (pd_call S F_all_come hr (Nat.le_refl _) rfl (pda_cons (pd_var (i := 10) rfl (by first | exact .inl rfl | exact .inr (.inl rfl) | exact .inr (.inr rfl))) (pda_cons (pd_var (i := 4) rfl (by first | exact .inl rfl | exact .inr (.inl rfl) | exact .inr (.inr rfl))) pda_nil))) (pda_cons (pd_sortedKeys S hr rfl B.sorted (pd_var (i := 5) rfl (by first | exact .inl rfl | exact .inr (.inl rfl) | exact .inr (.inr rfl)))) pda_nil))))) (pds_one (pds_ret pd_bl)) pds_nil) (pds_cons (pds_if (pdt_not (pdt_tru (pd_call S F__law_alike hr (Nat.le_refl _) rfl (pda_cons (pd_call S F_walked_rests hr (Nat.le_refl _) rfl (pda_cons (pd_var (i := 10) rfl (by first | exact .inl rfl | exact .inr (.inl rfl) | exact .inr (.inr rfl))) (pda_cons (pd_var (i := 4) rfl (by first | exact .inl rfl | exact .inr (.inl rfl) | exact .inr (.inr rfl))) pda_nil))) (pda_cons (pd_call S F__law_last_ones hr (Nat.le_refl _) rfl (pda_cons (pd_var (i := 5) rfl (by first | exact .inl rfl | exact .inr (.inl rfl) | exact .inr (.inr rfl))) pda_nil)) pda_nil))))) (pds_one (pds_ret pd_bl)) pds_nil) (pds_cons (pds_if (pdt_not (pdt_tru (pd_call S F__law_alike hr (Nat.le_refl _) rfl (pda_cons (pd_call S F_goes_on hr (Nat.le_refl _) rfl (pda_cons (pd_var (i := 10) rfl (by first | exact .inl rfl | exact .inr (.inl rfl) | exact .inr (.inr rfl))) (pda_cons (pd_var (i := 4) rfl (by first | exact .inl rfl | exact .inr (.inl rfl) | exact .inr (.inr rfl))) pda_nil))) (pda_cons (e_cmp o_isN (pd_var (i := 6) rfl (by first | exact .inl rfl | exact .inr (.inl rfl) | exact .inr (.inr rfl))) pd_non) pda_nil))))) (pds_one (pds_ret pd_bl)) pds_nil) (pds_cons (pds_tryAs (i := 7) (c0 := .ref cls_ScatterError) (τb := (dAsg (eCall sp_longest (aCons (eVar 10) (aCons (eVar 4) aNil))) (gVar 11))) (τs := fun a cls => (dRet (eAndV (eIsOwn a cls cls_NotEnding (eVar 7)) (eOp dIsN (eVar 6) (eC .non))))) S rfl rfl rfl rfl ⟨rfl, by decide, .inl y_ScatterError⟩ (fun W pn xe S => (pds_one (pds_set (i := 11) S rfl (by first | exact .inl rfl | exact .inr rfl) (pd_call S F_longest hr (Nat.le_refl _) rfl (pda_cons (pd_var (i := 10) rfl (by first | exact .inl rfl | exact .inr (.inl rfl) | exact .inr (.inr rfl))) (pda_cons (pd_var (i := 4) rfl (by first | exact .inl rfl | exact .inr (.inl rfl) | exact .inr (.inr rfl))) pda_nil)))))) (fun a oe cls pn hz hf => (pds_one (pds_ret (pd_and (pd_isOwn hz hf rfl B.isi rfl x_NotEnding.gC (pd_var (i := 7) rfl (by first | exact .inl rfl | exact .inr (.inl rfl) | exact .inr (.inr rfl)))) (pd_one (e_cmp o_isN (pd_var (i := 6) rfl (by first | exact .inl rfl | exact .inr (.inl rfl) | exact .inr (.inr rfl))) pd_non))))))) (pds_cons (pds_set (i := 8) S rfl (by first | exact .inl rfl | exact .inr rfl) pd_dnew) (pds_cons (pds_for S (pdi_seq (pd_if (t_cmp o_notN (pd_var (i := 6) rfl (by first | exact .inl rfl | exact .inr (.inl rfl) | exact .inr (.inr rfl))) pd_non) (pd_var (i := 6) rfl (by first | exact .inl rfl | exact .inr (.inl rfl) | exact .inr (.inr rfl))) (pd_lst pda_nil))) (pdg_var (i := 9) S rfl (by first | exact .inl rfl | exact .inr rfl)) (pds_one (pds_asg (e_op o_add (pd_max S rfl B.max (pda_cons (e_op o_add (pd_lst (pda_cons (pd_neg pd_int) pda_nil)) (pd_lc (own := [("there", 12)]) (tgt := (tgVar 12)) (tt := yes) (ε := (eOp dIxA (eVar 8) (eVar 12))) S (pdi_seq (e_ix (o_ix hr) (pd_var (i := 5) rfl (by first | exact .inl rfl | exact .inr (.inl rfl) | exact .inr (.inr rfl))) (pd_var (i := 9) rfl (by first | exact .inl rfl | exact .inr (.inl rfl) | exact .inr (.inr rfl))))) (blkOk_by (N := ["script", "row", "wide", "long", "word", "told", "order", "error", "known", "here", "book", "found", "there"]) (sc := (defScope (top 41))) (by decide +kernel)) (tg_var (by decide)) (fun _ _ _ _ _ S => (pg_name (i := 12) S.nd rfl (by first | exact .inl rfl | exact .inr rfl))) (fun _ _ _ _ _ S => pdts_nil) (fun _ _ _ _ _ S => (e_ix (o_ix hr) (pd_var (i := 8) rfl (by first | exact .inl rfl | exact .inr (.inl rfl) | exact .inr (.inr rfl))) (pd_var (i := 12) rfl (by first | exact .inl rfl | exact .inr (.inl rfl) | exact .inr (.inr rfl))))))) pda_nil)) pd_int) (pdg_sto (units_20 hr) (pd_var (i := 8) rfl (by first | exact .inl rfl | exact .inr (.inl rfl) | exact .inr (.inr rfl))) (pd_var (i := 9) rfl (by first | exact .inl rfl | exact .inr (.inl rfl) | exact .inr (.inr rfl))))))) (pds_one (pds_ret (pd_and (e_cmp o_notN (pd_var (i := 6) rfl (by first | exact .inl rfl | exact .inr (.inl rfl) | exact .inr (.inr rfl))) pd_non) (pd_one (pd_call S F__law_alike hr (Nat.le_refl _) rfl (pda_cons (pd_var (i := 11) rfl (by first | exact .inl rfl | exact .inr (.inl rfl) | exact .inr (.inr rfl))) (pda_cons (e_ix (o_ix hr) (pd_var (i := 8) rfl (by first | exact .inl rfl | exact .inr (.inl rfl) | exact .inr (.inr rfl))) (pd_var (i := 4) rfl (by first | exact .inl rfl | exact .inr (.inl rfl) | exact .inr (.inr rfl)))) pda_nil)))))))))))))))))))))
end DL
set_option Elab.async false
set_option linter.all false
set_option maxRecDepth 100000
set_option maxHeartbeats 2000000
/-! Generator expressions over a tuple whose element may call defs: all(..), tuple(..). -/
namespace SB
open PySem PySem.Spec PyProof.Rows L2

/-- the frame in which a generator expression's element runs -/
abbrev gEnv (X : Cx) (scope : Scope) (L : Addr) (code : Value) (bi : Addr) : Env :=
  genEnv scope (cloFrom X.env.cells scope.names []) L code bi X.env

/-- what the element gives at the place i, wherever it is asked: F i -/
def EltB (X : Cx) (scope : Scope) (x : Str) (elt : Expr) (s1 : Shared) (P : Addr) (its : List Value) (F : Nat → Value → Prop) : Prop :=
  ∀ (L : Addr) (code : Value) (A' : Around) (E' : Value → Shared → Prop) (i : Nat) (v : Value) (s₂ : Shared) (m₂ : Str → Option Value),
    A'.handled = none → A'.depth ≤ X.A.depth + 1 → A'.units ≤ X.A.units + 8 → its[i]? = some v → s₂.heap.Ns L m₂ → m₂ x = some v →
    (∀ b o, b ≠ P → s1.heap.get? b = some o → s₂.heap.get? b = some o) →
    wpAny (model X.prog X.w) A' (eval elt (gEnv X scope L code builtinsNs)) (fun y s₃ => F i y ∧ Keeps s₂ s₃) E' s₂

section
variable {X : Cx} {pins : List (Addr × Obj)} {σ : L2.St} {H : Hp} {s : Shared}

/-- a generator g that has not begun, over n items; H1: what was held ahead of it -/
def ReadyB (X : Cx) (pins : List (Addr × Obj)) (σ : L2.St) (H1 : Hp) (P : Addr) (n : Nat) (F : Nat → Value → Prop) (g : Addr) (s5 : Shared) : Prop :=
  ∃ (fp wr : List Addr) (G : Array GenState → Array GenState → Prop) (Fj : Nat → Value → Prop) (St : Nat → Shared → Prop),
    WalksS X.prog X.w X.A.in4 g fp wr G n Fj St ∧ St 0 s5 ∧ (∀ b ∈ fp, b < s5.heap.objs.size) ∧ g ∈ fp ∧
    (∀ i s9, St i s9 → s9.TypeIs (.ref g) "generator") ∧ (∀ j v, Fj j v → F j v) ∧
    ∀ s', Moved wr G s5 s' → ∃ H2, GxR.Tabbed P H1 H2 ∧ Inv X pins σ H2 s'

theorem gen_tup {c P : Addr} {elt iter : Expr} {x : Str} {px gpos : Pos} {scope : Scope} {te : TE} {k : Nat} {Q' : Value → Shared → Prop}
    {R : List V → (Nat → Value → Prop) → Hp → Prop} {W : V → Hp → Prop}
    (hr : Room k X.A) (TB : GxR.TabB X.base X.mg c P) (hcode : X.env.code = .ref c) (S : GxR.GenS X.env scope x) (hi : PE X iter te)
    (hs : ∀ v, genFold iter X.env v = pure v) (I : Inv X pins σ H s)
    (h : te σ H W) (hW : ∀ v H1, W v H1 → ∃ (yl : Addr) (xs : List V) (F : Nat → Value → Prop), v = .ref yl ∧ SqT X.K H1 yl xs ∧ GxR.TabG H1 P ∧
      (∀ s1 its, Inv X pins σ H1 s1 → Vals xs its → EltB X scope x elt s1 P its F) ∧ R xs F H1)
    (hQ : ∀ xs F H1 g s5, R xs F H1 → xs.length ≤ sizeLine → ReadyB X pins σ H1 P xs.length F g s5 → Q' (.ref g) s5) :
    wpAny (model X.prog X.w) X.A (eval (.GeneratorExp elt [⟨.Name x px, iter, [], 0⟩] scope gpos) X.env) Q' X.xe s := by
  refine wpAny_GeneratorExp_walksQD hr.hd S.co (closure_ok S.free) S.cell S.dot S.loc S.kind (by have := hr.dp; omega) ?_ hs
  refine thn (hi.run pins s σ H _ I h) fun xv s1 ⟨v, H1, I1, r1, q1⟩ => ?_
  obtain ⟨yl, xs, F, rfl, hyl, ⟨ps, hP, ht⟩, hel, q1⟩ := hW v H1 q1
  obtain rfl : xv = Value.ref yl := r1
  obtain ⟨its, rv, hT, hz⟩ := I1.tuple hyl
  have hel1 := hel s1 its I1 rv
  have hIT : s1.heap.IsTuple yl its.toArray := hT
  have hlen : its.length = xs.length := rv.length.symm
  refine wpAny_pyIter_tuple hIT ?_
  generalize ho : ({ cls := .type "tuple_iterator", data := .fields #[.ref yl, .int 0 0] } : Obj) = o
  have hitr : (s1.heap.push o).IsTupleIter s1.heap.objs.size yl 0 := by
    subst ho
    exact ⟨_, Heap.get?_push_size _ rfl, rfl, rfl⟩
  have hylt : yl < s1.heap.objs.size := by
    obtain ⟨_, e, _⟩ := _root_.id hIT
    exact Heap.lt_size e
  have hPs : s1.heap.get? P = some { cls := .none, data := .fields ps } := I1.hok P _ hP
  have hPlt : P < s1.heap.objs.size := Heap.lt_size hPs
  have hP2 : (s1.heap.push o).get? P = some { cls := .none, data := .fields ps } := Heap.get?_push_of_some _ hPs
  have cd : PySem.W.CodeHd (s1.heap.push o) c P := TB.code.keeps fun b u e => Heap.get?_push_of_some _ (I1.bk b u e)
  have lim2 : (s1.heap.push o).NoLimit := I1.nolimit.push o
  refine ⟨lim2, ?_⟩
  -- behind the code object, found or made
  have cont : ∀ (code : Value) (h3 : Heap) (tk : Nat) (ps' : Array Value), Heap.ExtBut P (s1.heap.push o) h3 → (s1.heap.push o).objs.size ≤ h3.objs.size →
      h3.get? P = some { cls := .none, data := .fields ps' } → (∃ more, ps' = ps ++ more) → TriplesOk ps'.toList →
      wpAny (model X.prog X.w) X.A (builtinsFor X.env.globals X.env.builtins) (fun bi s₄ =>
        ∃ Ia fp wr n₀ Pf St₀ pz Fz, Value.ref s1.heap.objs.size = .ref Ia ∧ (∀ A' : Around, A'.handled = none → Walks X.prog X.w A' Ia fp wr n₀ Pf St₀) ∧ St₀ 0 s₄.heap ∧
          (∀ b ∈ fp, b < s₄.heap.objs.size) ∧ s₄.heap.NoLimit ∧ cStatics ∉ wr ∧
          (∀ href : Heap, (∀ b o, s₄.heap.get? b = some o → href.get? b = some o) →
            QuietGenD X.prog X.w (genEnv scope (cloFrom X.env.cells scope.names []) s₄.heap.objs.size code bi X.env) x [] elt (List.range s₄.heap.objs.size) wr Pf pz Fz href (X.A.depth + 1) (X.A.units + 8)) ∧
          (∀ a h₅ tk gs, gs.bare = true → s₄.heap.objs.size < a → h₅.objs.size = a + 1 → (∀ b o, s₄.heap.get? b = some o → h₅.get? b = some o) →
            WalksS X.prog X.w X.A.in4 a (a :: s₄.heap.objs.size :: List.range s₄.heap.objs.size) (s₄.heap.objs.size :: wr) (GenOnlyQ s₄.gens.size) (passing pz n₀ 0).length
              (fun j y => ∃ i, (passing pz n₀ 0)[j]? = some i ∧ Fz i y) (GenAt X.prog X.w X.A.in4 a s₄.gens.size s₄.heap.objs.size (List.range s₄.heap.objs.size) wr pz n₀ Fz) →
            GenAt X.prog X.w X.A.in4 a s₄.gens.size s₄.heap.objs.size (List.range s₄.heap.objs.size) wr pz n₀ Fz 0 { s₄ with gens := s₄.gens.push gs, toks := tk, heap := h₅ } →
            Q' (.ref a) { s₄ with gens := s₄.gens.push gs, toks := tk, heap := h₅ })) X.xe { s1 with heap := h3, toks := tk } := by
    intro code h3 tk ps' hx hsz hP3 hmore ht3
    obtain ⟨bm, ob, e1, e2, e3, e4, e5, e6, e7, e8⟩ := TB.bm
    have keep3 : ∀ b u, b ≠ P → s1.heap.get? b = some u → h3.get? b = some u := fun b u hb e => hx b u hb (Heap.get?_push_of_some _ e)
    have sz3 : s1.heap.objs.size < h3.objs.size := by
      have sz2 : (s1.heap.push o).objs.size = s1.heap.objs.size + 1 := Heap.size_push ..
      omega
    have hcl : cStatics < s1.heap.objs.size := let ⟨_, hns, _⟩ := I1.nolimit; hns.lt
    have hcP : cStatics ≠ P := fun e => by
      obtain ⟨_, ⟨o', es, ep, ho', hd', _⟩, _⟩ := I1.nolimit
      rw [e, hPs] at ho'
      cases ho'
      cases hd'
    refine wpAny_builtinsFor (m := X.mg) (by rw [I1.ok.glob]; exact ((I1.mod.glob.keeps I1.bk).push o).extBut hx TB.gP) e1 e2 (keep3 _ _ e4 (I1.bk _ _ e5)) e6 e7 e8 ?_
    have hylP : yl ≠ P := fun z => by
      obtain ⟨_, e, _, _, hd1⟩ := _root_.id hIT
      rw [z, hPs] at e
      cases e
      cases hd1
    have hIT3 : h3.IsTuple yl its.toArray := by
      obtain ⟨o9, e, r⟩ := _root_.id hIT
      exact ⟨o9, keep3 _ _ hylP e, r⟩
    have hItr3 : h3.IsTupleIter s1.heap.objs.size yl 0 := hitr.at fun u e => hx _ u (Nat.ne_of_gt hPlt) e
    refine ⟨s1.heap.objs.size, [s1.heap.objs.size, yl], [s1.heap.objs.size], its.toArray.size, (fun i v => its.toArray[i]? = some v),
      (fun i h => h.IsTupleIter s1.heap.objs.size yl i ∧ h.IsTuple yl its.toArray), (fun _ => true), F, rfl,
      (fun A' hA => Walks.tuple hA _ _ (Nat.ne_of_lt hylt) _), ⟨hItr3, hIT3⟩, ?_, lim2.extBut hx hcP, ?_, ?_, ?_⟩
    · intro b hb
      show b < h3.objs.size
      rcases List.mem_cons.mp hb with z | z
      · rw [z]; exact sz3
      · rw [List.mem_singleton.mp z]; exact Nat.lt_trans hylt sz3
    · intro z
      exact Nat.ne_of_lt hcl (List.mem_singleton.mp z)
    · intro href hhref
      have kq : ∀ s₂ : Shared, (∀ b ∈ List.range h3.objs.size, b ∉ [s1.heap.objs.size] → ∀ o, href.get? b = some o → s₂.heap.get? b = some o) →
          ∀ b o, b ≠ P → s1.heap.get? b = some o → s₂.heap.get? b = some o := fun s₂ hk b u hb e => by
        have hl := Heap.lt_size e
        refine hk b (List.mem_range.mpr (Nat.lt_trans hl sz3)) (fun z => ?_) u (hhref b u (keep3 b u hb e))
        exact Nat.ne_of_lt hl (List.mem_singleton.mp z)
      refine ⟨fun A' E' i v s₂ m₂ hA _ _ hPv hn hm hk => ?_, fun A' E' i v s₂ m₂ hA hd hu hPv _ hn hm hk => ?_⟩
      · simp only [List.forIn_nil]
        exact wpAny_pure ⟨rfl, GxR.keeps_refl _⟩
      · have hv2 : its[i]? = some v := by simpa using hPv
        exact hel1 _ code A' E' i v s₂ m₂ hA hd hu hv2 hn hm (kq s₂ hk)
    · intro g h5 tk5 gs hgb hag hsz5 hk5 W5 hgat
      simp only [GxR.passing_true, List.length_range] at W5
      have hn5 : its.toArray.size = xs.length := by rw [List.size_toArray, hlen]
      rw [hn5] at W5 hgat
      have hag' : h3.objs.size < g := hag
      have hs5' : h5.objs.size = g + 1 := hsz5
      refine hQ xs F H1 g _ q1 hz ⟨_, _, _, _, _, W5, hgat, fun b hb => ?_, List.mem_cons_self, fun i s9 h9 => ?_, fun j v hv => ?_, fun s' hm => ?_⟩
      · show b < h5.objs.size
        rcases List.mem_cons.mp hb with z | z
        · rw [z, hs5']; exact Nat.lt_succ_self g
        · rcases List.mem_cons.mp z with z | z
          · rw [z, hs5']; exact Nat.lt_succ_of_lt hag'
          · have z2 : b < h3.objs.size := List.mem_range.mp z
            rw [hs5']; exact Nat.lt_succ_of_lt (Nat.lt_trans z2 hag')
      · obtain ⟨hg9, _⟩ := h9
        exact hg9.typeIs
      · obtain ⟨i, hij, hF⟩ := hv
        obtain ⟨_, ej⟩ := List.getElem?_eq_some_iff.mp hij
        rw [List.getElem_range] at ej
        rw [ej]; exact hF
      · obtain ⟨more, em⟩ := hmore
        have nwr : ∀ b u, s1.heap.get? b = some u → b ∉ h3.objs.size :: [s1.heap.objs.size] := fun b u e hb => by
          have hl := Heap.lt_size e
          rcases List.mem_cons.mp hb with z | z
          · exact Nat.lt_irrefl _ (Nat.lt_trans (z ▸ hl) sz3)
          · exact Nat.ne_of_lt hl (List.mem_singleton.mp z)
        have J := GxR.inv_tab (more := more) (h' := s'.heap) (g' := s'.gens) (d' := s'.drawn) (t' := s'.toks) I1 hP
          (fun b u hb e => hm.heap b u (nwr b u e) (hk5 b u (keep3 b u hb e)))
          (by rw [← em]; exact hm.heap P _ (nwr P _ hPs) (hk5 P _ hP3)) (AllBare.movedS (I1.bare.push hgb) hm)
        rw [GxR.sh_eta s1 s' hm.os] at J
        exact ⟨upd H1 P (.tbl (ps ++ more)), ⟨⟨ps ++ more, upd_same, by rw [← em]; exact ht3⟩, fun b hb => upd_ne hb⟩, J⟩
  cases hf : codeAmong gpos ps.toList with
  | none =>
    refine wpAny_genexprCodeX hcode (cd.code hP2 ht) (cd.tab hP2) hf fun c' h' tk hx hge hlt hco' _ htab' _ => ?_
    obtain ⟨o1, vs, f1, tf, fl, tg, inF, tx, tt, op, _, _, _, _, _, _, _, _, _, htr, _⟩ := hco'
    exact cont _ h' tk _ hx (Nat.le_trans hge (Nat.le_of_lt hlt)) htab'.2 ⟨_, rfl⟩ htr
  | some cv =>
    refine wpAny_genexprCode_hit hcode (cd.code hP2 ht) hf ?_
    exact cont cv (s1.heap.push o) s1.toks ps (Heap.ExtBut.refl _ _) (Nat.le_refl _) hP2 ⟨#[], by simp⟩ ht

/-- all(elt for x in e), e a tuple: its tests give bs -/
def tAllB (X : Cx) (scope : Scope) (x : Str) (elt : Expr) (P : Addr) (te : TE) : TE := fun σ H Q => te σ H fun v H1 =>
  ∃ (yl : Addr) (xs : List V) (bs : List Bool), v = .ref yl ∧ SqT X.K H1 yl xs ∧ bs.length = xs.length ∧ GxR.TabG H1 P ∧
    (∀ pins s1 its, Inv X pins σ H1 s1 → Vals xs its → EltB X scope x elt s1 P its (fun i y => ∃ b, bs[i]? = some b ∧ y = .bool b)) ∧
    ∀ H2, GxR.Tabbed P H1 H2 → Q (.bl (bs.all id)) H2
theorem getD_at {bs : List Bool} {j : Nat} (h : j < bs.length) : bs.getD j false = bs[j] := by
  rw [List.getD_eq_getElem?_getD, List.getElem?_eq_getElem h]; rfl
theorem all_range (bs : List Bool) : (List.range bs.length).all (fun i => bs.getD i false) = bs.all id := by
  rw [Bool.eq_iff_iff, List.all_eq_true, List.all_eq_true]
  constructor
  · intro h b hb
    obtain ⟨j, hj, e⟩ := List.getElem_of_mem hb
    have q := h j (List.mem_range.mpr hj)
    rw [getD_at hj, e] at q
    exact q
  · intro h j hj
    have hj' := List.mem_range.mp hj
    rw [getD_at hj']
    exact h _ (List.getElem_mem hj')
theorem pe_allB {c P : Addr} {elt iter : Expr} {x : Str} {px p pos gpos : Pos} {scope : Scope} {te : TE} {k : Nat}
    (hr : Room k X.A) (hg : Gl X "all") (hm : X.mg "all" = none) (TB : GxR.TabB X.base X.mg c P) (hcode : X.env.code = .ref c) (S : GxR.GenS X.env scope x) (hi : PE X iter te)
    (hs : ∀ v, genFold iter X.env v = pure v) (hb : bootBuiltins "all" = some (.builtin "all") := by decide +kernel)
    (he : starEach [.GeneratorExp elt [⟨.Name x px, iter, [], 0⟩] scope gpos] X.env = (false, eval (.GeneratorExp elt [⟨.Name x px, iter, [], 0⟩] scope gpos) X.env) :: starEach [] X.env := by rfl) :
    PE X (.Call (.Name "all" p) [.GeneratorExp elt [⟨.Name x px, iter, [], 0⟩] scope gpos] [] pos) (tAllB X scope x elt P te) := by
  refine ⟨fun pins s σ H Q I h => ?_⟩
  refine wpAny_Call_Name_kw (ld_blt I hg hm hb ?_)
  refine PyProof.Rows.callWith_builtin1 ?_ he (by rfl)
  rw [he]
  show wpAny _ _ (spliced ((false, eval (.GeneratorExp elt [⟨.Name x px, iter, [], 0⟩] scope gpos) X.env) :: backTo pos (starEach [] X.env))) _ _ s
  refine Calls.spliced_cons (gen_tup (R := fun xs F H1 => ∃ bs : List Bool, F = (fun i y => ∃ b, bs[i]? = some b ∧ y = .bool b) ∧ bs.length = xs.length ∧ ∀ H2, GxR.Tabbed P H1 H2 → Q (.bl (bs.all id)) H2)
    hr TB hcode S hi hs I h (fun v H1 ⟨yl, xs, bs, e, h1, h2, h3, h4, h5⟩ => ⟨yl, xs, _, e, h1, h3, h4 pins, bs, rfl, h2, h5⟩) fun xs F H1 g s5 hR hz hG => ?_)
  · obtain ⟨bs, rfl, hlen, hq⟩ := hR
    obtain ⟨fp, wr, G, Fj, St, W, hst, hfp, hgf, hT, hF, hI⟩ := hG
    refine Calls.spliced_nil ?_
    refine call_all_walkS (W.in4_1.self 0 _ _ _ hst ⟨g, fp, wr, G, _, Fj, St, (fun i => bs.getD i false), rfl, W.in4_1, hst, ?_, fun s' hmv => ?_⟩)
    · intro i v sj Qj Ej hy hQj
      obtain ⟨b, hb1, rfl⟩ := hF i v hy
      have e : bs.getD i false = b := by
        rw [List.getD_eq_getElem?_getD, hb1]; rfl
      have hQ2 : Qj (bs.getD i false) sj := hQj
      rw [e] at hQ2
      exact wpAny_truthy_bool hQ2
    · obtain ⟨H2, hT2, J⟩ := hI s' hmv
      refine ⟨.bl _, H2, J, rfl, ?_⟩
      rw [← hlen, all_range bs]
      exact hq H2 hT2

/-- tuple(elt for x in e), e a tuple: a new tuple of ys -/
def tTupB (X : Cx) (scope : Scope) (x : Str) (elt : Expr) (P : Addr) (te : TE) : TE := fun σ H Q => te σ H fun v H1 =>
  ∃ (yl : Addr) (xs ys : List V), v = .ref yl ∧ SqT X.K H1 yl xs ∧ ys.length = xs.length ∧ GxR.TabG H1 P ∧
    (∀ pins s1 its, Inv X pins σ H1 s1 → Vals xs its → EltB X scope x elt s1 P its (fun i y => ∃ z, ys[i]? = some z ∧ RelV z y)) ∧
    ∀ H2, GxR.Tabbed P H1 H2 → ∀ t, H2 t = none → Q (.ref t) (upd H2 t (.tup ys))
theorem vals_items {ys : List V} {acc : Array Value} {n : Nat} {F : Nat → Value → Prop} (hn : ys.length = n) (h : ItemsOf F acc n) (hF : ∀ j v, F j v → ∃ z, ys[j]? = some z ∧ RelV z v) : Vals ys acc.toList := by
  have key : ∀ (l : List Value) (zs : List V), zs.length = l.length → (∀ (j : Nat) v, l[j]? = some v → ∃ z, zs[j]? = some z ∧ RelV z v) → Vals zs l := by
    intro l
    induction l with
    | nil =>
      intro zs hz _
      cases zs with
      | nil => exact .nil
      | cons => simp at hz
    | cons v l ih =>
      intro zs hz hv
      cases zs with
      | nil => simp at hz
      | cons z zs =>
        obtain ⟨z', e1, e2⟩ := hv 0 v rfl
        have e3 : z = z' := by simpa using e1
        refine .cons (e3 ▸ e2) (ih zs (by simpa using hz) fun j u hu => ?_)
        obtain ⟨z2, f1, f2⟩ := hv (j + 1) u (by simpa using hu)
        exact ⟨z2, by simpa using f1, f2⟩
  refine key acc.toList ys ?_ fun j v hv => ?_
  · rw [hn, Array.length_toList]; exact h.1.symm
  · refine hF j v (h.2 j v ?_)
    simpa using hv
theorem pe_tupB {c P : Addr} {elt iter : Expr} {x : Str} {px p pos gpos : Pos} {scope : Scope} {te : TE} {k : Nat}
    (hr : Room k X.A) (hg : Gl X "tuple") (hm : X.mg "tuple" = none) (TB : GxR.TabB X.base X.mg c P) (hcode : X.env.code = .ref c) (S : GxR.GenS X.env scope x) (hi : PE X iter te)
    (hs : ∀ v, genFold iter X.env v = pure v) (hb : bootBuiltins "tuple" = some (.type "tuple") := by decide +kernel)
    (he : starEach [.GeneratorExp elt [⟨.Name x px, iter, [], 0⟩] scope gpos] X.env = (false, eval (.GeneratorExp elt [⟨.Name x px, iter, [], 0⟩] scope gpos) X.env) :: starEach [] X.env := by rfl)
    (hpl : (backTo pos (starEach [] X.env)).any (·.1) = false := by rfl) :
    PE X (.Call (.Name "tuple" p) [.GeneratorExp elt [⟨.Name x px, iter, [], 0⟩] scope gpos] [] pos) (tTupB X scope x elt P te) := by
  refine ⟨fun pins s σ H Q I h => ?_⟩
  refine wpAny_Call_Name_kw (ld_blt I hg hm hb ?_)
  refine PyProof.Rows.callWith_type1 ?_ he hpl
  rw [he]
  show wpAny _ _ (spliced ((false, eval (.GeneratorExp elt [⟨.Name x px, iter, [], 0⟩] scope gpos) X.env) :: backTo pos (starEach [] X.env))) _ _ s
  refine Calls.spliced_cons (gen_tup (R := fun xs F H1 => ∃ ys : List V, F = (fun i y => ∃ z, ys[i]? = some z ∧ RelV z y) ∧ ys.length = xs.length ∧ ∀ H2, GxR.Tabbed P H1 H2 → ∀ t, H2 t = none → Q (.ref t) (upd H2 t (.tup ys)))
    hr TB hcode S hi hs I h (fun v H1 ⟨yl, xs, ys, e, h1, h2, h3, h4, h5⟩ => ⟨yl, xs, _, e, h1, h3, h4 pins, ys, rfl, h2, h5⟩) fun xs F H1 g s5 hR hz hG => ?_)
  obtain ⟨ys, rfl, hlen, hq⟩ := hR
  obtain ⟨fp, wr, G, Fj, St, W, hst, hfp, hgf, hT, hF, hI⟩ := hG
  refine Calls.spliced_nil ?_
  refine call_tuple_gen (hsz := hz) W.in4_3 hT hst hfp hgf fun s' acc hm hacc => ?_
  obtain ⟨H2, hT2, J⟩ := hI s' hm
  have rv : Vals ys acc.toList := vals_items hlen hacc hF
  have hn : H2 s'.heap.objs.size = none := J.hok.fresh (Nat.le_refl _)
  have hz2 : ys.length ≤ sizeLine := hlen ▸ hz
  refine ⟨.ref s'.heap.objs.size, _, J.laid (t' := s'.toks) (a := s'.heap.objs.size) (o := .tup ys) (fun b u e => Heap.get?_push_of_some _ e) (Nat.le_refl _)
    ⟨hz2, acc.toList, rv, ?_⟩, rfl, hq H2 hT2 _ hn⟩
  exact ⟨_, Heap.get?_push_size _ rfl, rfl, _, by rw [Array.toArray_toList]⟩
end
end SB
set_option Elab.async false
set_option linter.all false
set_option maxRecDepth 100000
set_option maxHeartbeats 4000000
/-! is_side: all(..) over a generator whose element calls a def. -/
namespace DL
open PySem PySem.Spec PyProof.Rows L2
open PySem.W (Frag)
abbrev sLetter : Stmt := top 15
abbrev sWhole : Stmt := top 16
abbrev FnP (K : PySem.W.Frag) (x : Str) (st : Stmt) (f : Addr) (fd : FuncData) : Prop := FunD K x x (defArgs st) (defBody st) (defScope st) [] [] f fd
theorem Mod.keeps {K : PySem.W.Frag} {mg : Str → Option Value} {h h' : Heap} (m : L2.Mod K mg h) (k : ∀ b o, h.get? b = some o → h'.get? b = some o) : L2.Mod K mg h' :=
  ⟨m.kin.keeps k, m.glob.keeps k, let ⟨mb, h1, h2⟩ := m.blt; ⟨mb, h1.keeps k, h2⟩, m.nolimit.keeps k⟩
theorem keeps_trans {s s' s'' : Shared} (a : Keeps s s') (b : Keeps s' s'') : Keeps s s'' := by
  obtain ⟨h1, t1, rfl, k1⟩ := a
  obtain ⟨h2, t2, rfl, k2⟩ := b
  exact ⟨h2, t2, rfl, fun c o e => k2 c o (k1 c o e)⟩
theorem keeps_heap {s s' : Shared} (a : Keeps s s') : ∀ b o, s.heap.get? b = some o → s'.heap.get? b = some o := by
  obtain ⟨h1, t1, rfl, k1⟩ := a
  exact k1
section
variable {prog : Program} {w : World} {A : Around} {E : Value → Shared → Prop} {s : Shared} {K : PySem.W.Frag} {mg : Str → Option Value} {f : Addr} {fd : FuncData}
/-- a global or built-in name in a frame of the module -/
theorem glob_at {env : PySem.Env} {x : Str} {pos : Pos} {u : Value} {Q : Value → Shared → Prop} (G : L2.Mod K mg s.heap) (hk : env.scope.kind = .function) (hx : env.kindOf x = some .globalImplicit) (hg : env.globals = mainGlobals)
    (hm : mg x = some u) (h : Q u s) (hd : (x == ("__debug__" : Str)) = false := by decide) : wpAny (model prog w) A (eval (.Name x pos) env) Q E s :=
  Calls.Name_function_global hk hx (Calls.loadGlobal_global (by rw [hg]; exact G.glob) hm h) hd
theorem blt_at {env : PySem.Env} {x : Str} {pos : Pos} {u : Value} {Q : Value → Shared → Prop} (G : L2.Mod K mg s.heap) (hk : env.scope.kind = .function) (hx : env.kindOf x = some .globalImplicit) (hg : env.globals = mainGlobals) (hb : env.builtins = builtinsNs)
    (hm : mg x = none) (hv : bootBuiltins x = some u) (h : Q u s) (hn : x ≠ "__name__" := by decide) (hd : (x == ("__debug__" : Str)) = false := by decide) : wpAny (model prog w) A (eval (.Name x pos) env) Q E s := by
  obtain ⟨mb, hb1, hb2⟩ := G.blt
  exact Calls.Name_function_global hk hx (Calls.loadGlobal_builtin (by rw [hg]; exact G.glob) hm (by rw [hb]; exact hb1) ((hb2 x hn).trans hv) h) hd
theorem isi_call {env : PySem.Env} {x T : Str} {Tn : String} {v : Value} {b : Bool} {p p1 p2 pos : Pos} {m : Str → Option Value} {Q : Value → Shared → Prop} (G : L2.Mod K mg s.heap) (hk : env.scope.kind = .function)
    (hi : env.kindOf "isinstance" = some .globalImplicit) (hT : env.kindOf T = some .globalImplicit) (hx : env.kindOf x = some .local) (hg : env.globals = mainGlobals) (hb : env.builtins = builtinsNs)
    (m1 : mg "isinstance" = none) (m2 : mg T = none) (hv : bootBuiltins T = some (.type Tn)) (hn : s.heap.Ns env.locals m) (hm : m x = some v)
    (hc : ∀ Q' : Value → Shared → Prop, (∀ s', Keeps s s' → Q' (.bool b) s') → wpAny (model prog w) A (call (.builtin "isinstance") [v, .type Tn]) Q' E s)
    (h : ∀ s', Keeps s s' → Q (.bool b) s') (nT : T ≠ "__name__" := by decide) (dT : (T == ("__debug__" : Str)) = false := by decide) (dx : (x == ("__debug__" : Str)) = false := by decide) :
    wpAny (model prog w) A (eval (.Call (.Name "isinstance" p) [.Name x p1, .Name T p2] [] pos) env) Q E s := by
  refine wpAny_Call_Name_kw (blt_at G hk hi hg hb m1 boot_isinstance ?_)
  refine PyProof.Rows.callWith_builtin1 ?_ (by rfl) (by rfl)
  refine Calls.spliced_cons (wpAny_Name (wpAny_loadName_local hk hx hn hm ?_) dx)
  refine Calls.spliced_cons (blt_at G hk hT hg hb m2 hv ?_ nT dT)
  refine Calls.spliced_nil ?_
  exact hc _ h
theorem isWhole_int (G : L2.Mod K mg s.heap) (FN : FnP K "is_whole" sWhole f fd) (m1 : mg "isinstance" = none) (m2 : mg "int" = none) (m3 : mg "bool" = none) (hd : A.depth < recursionLimit) {i : Int} {t : Tok} {Q : Value → Shared → Prop}
    (h : ∀ s', Keeps s s' → Q (.bool true) s') : wpAny (model prog w) A (call (.ref f) [.int i t]) Q E s := by
  have b := FunD.bindsA (ps := ["value"]) FN fun _ _ _ _ _ _ us hl => match us, hl with | [_], _ => rfl
  obtain ⟨oc, od, dV, kV, doc, pm, an, cdv, ct, osl, rfl, lk, hcd, _, _⟩ := FN.ex
  refine wpAny_call ?_
  refine Att.call_fn (binds := [("value", .int i t)]) G.kin G.nolimit lk hcd hd (b s [_] rfl) (by first | rfl | decide | with_unfolding_all rfl) (fun s₁ IC => ?_) rfl rfl rfl
  obtain ⟨h₁, tk₁, rfl⟩ := IC.toInCall.same
  have k := IC.toInCall.keep
  have hn := IC.toInCall.ns
  have G1 := Mod.keeps G k
  have k1 : Keeps s { s with heap := h₁, toks := tk₁ } := ⟨h₁, tk₁, rfl, k⟩
  show wpAny _ _ (execs _ _) _ _ _
  refine wpAny_execs_cons ?_
  refine wpAny_Return_some ?_
  refine BoolOp_and ?_
  refine isi_call (b := true) (Tn := "int") (v := .int i t) G1 rfl rfl rfl rfl rfl rfl m1 m2 (by decide +kernel) hn rfl (fun Q' hq => ?_) fun s2 k2 => ?_
  · exact call_isinstance (isinstance_true F.isi_meta_int F.isi_self_int) ⟨typeIs_int _ _ _, hq _ (GxR.keeps_refl _)⟩
  refine wpAny_truthy_bool ?_
  refine BoolOp_one ?_
  refine UnaryOp_ ?_
  have G2 := Mod.keeps G1 (keeps_heap k2)
  refine isi_call (b := false) (Tn := "bool") (v := .int i t) G2 rfl rfl rfl rfl rfl rfl m1 m3 (by decide +kernel) (hn.keeps (keeps_heap k2)) rfl (fun Q' hq => ?_) fun s3 k3 => ?_
  · exact call_isinstance (isinstance_false_int (by decide) F.isi_meta_bool (by rw [isSubtype_type]; kernel_rfl)) (hq _ (GxR.keeps_tok _ _))
  exact not_of (wpAny_truthy_bool (h _ (keeps_trans k1 (keeps_trans k2 k3))))
theorem isLetter_int {fW : Addr} {fdW : FuncData} (G : L2.Mod K mg s.heap) (FN : FnP K "is_letter" sLetter f fd) (FW : FnP K "is_whole" sWhole fW fdW) (mW : mg "is_whole" = some (.ref fW)) (m1 : mg "isinstance" = none) (m2 : mg "int" = none) (m3 : mg "bool" = none)
    (hd : A.depth + 1 < recursionLimit) {i j : Int} {t u : Tok} {Q : Value → Shared → Prop}
    (h : ∀ s', Keeps s s' → Q (.bool (decide (0 ≤ i ∧ i < j))) s') : wpAny (model prog w) A (call (.ref f) [.int i t, .int j u]) Q E s := by
  have b := FunD.bindsA (ps := ["value", "many"]) FN fun _ _ _ _ _ _ us hl => match us, hl with | [_, _], _ => rfl
  obtain ⟨oc, od, dV, kV, doc, pm, an, cdv, ct, osl, rfl, lk, hcd, _, _⟩ := FN.ex
  refine wpAny_call ?_
  refine Att.call_fn (binds := [("value", .int i t), ("many", .int j u)]) G.kin G.nolimit lk hcd (by omega) (b s [_, _] rfl) (by first | rfl | decide | with_unfolding_all rfl) (fun s₁ IC => ?_) rfl rfl rfl
  obtain ⟨h₁, tk₁, rfl⟩ := IC.toInCall.same
  have k := IC.toInCall.keep
  have hn := IC.toInCall.ns
  have G1 := Mod.keeps G k
  have k1 : Keeps s { s with heap := h₁, toks := tk₁ } := ⟨h₁, tk₁, rfl, k⟩
  show wpAny _ _ (execs _ _) _ _ _
  refine wpAny_execs_cons ?_
  refine wpAny_Return_some ?_
  refine BoolOp_and ?_
  refine wpAny_Call_Name_kw (glob_at G1 rfl rfl rfl mW ?_)
  refine PySem.W.callWith_K (h₀ := h₁) G1.kin FW.kp ?_ rfl rfl
  refine Calls.spliced_cons (wpAny_Name (wpAny_loadName_local rfl rfl hn (v := .int i t) rfl ?_) (by decide))
  refine Calls.spliced_nil ⟨G1.kin, ?_⟩
  refine isWhole_int G1 FW m1 m2 m3 (by show A.depth + 1 < _; omega) fun s2 k2 => ?_
  refine wpAny_truthy_bool ?_
  refine BoolOp_one ?_
  have n2 := hn.keeps (keeps_heap k2)
  refine Compare_chain (wpAny_Constant_int ?_) (by with_unfolding_all rfl)
  refine chain_link (wpAny_Name (wpAny_loadName_local rfl rfl n2 (v := .int i t) rfl ?_) (by decide))
  refine PyProof.Rows.le_int ?_
  refine wpAny_truthy_bool ?_
  have k3 := keeps_trans k1 (keeps_trans k2 (GxR.keeps_tok s2 (s2.toks + 1)))
  by_cases c : 0 ≤ i
  · rw [if_pos (decide_eq_true c)]
    refine chain_last (wpAny_Name (wpAny_loadName_local rfl rfl n2 (v := .int j u) rfl ?_) (by decide))
    refine PyProof.Rows.lt_int ?_
    have e : decide (0 ≤ i ∧ i < j) = decide (i < j) := by simp [c]
    have h2 := h _ k3
    rw [e] at h2
    exact h2
  · rw [if_neg (by simpa using c)]
    have e : decide (0 ≤ i ∧ i < j) = false := by simp [c]
    have h2 := h _ k3
    rw [e] at h2
    simpa [c] using h2
end
/-! ### a def whose code object is told -/
theorem okC {P : Program} {w : World} {K : PySem.W.Frag} {mg : Str → Option Value} {base : Heap} {x qual : Str} {params : Arguments} {body : List Stmt} {scope : Scope} {dvs : List V} {kws : List (Str × V)} {f : Addr} {fd : FuncData}
    {CX : CXT} {N ps : List Str} {k : Nat} {sp : Sp} (F : FunD K x qual params body scope dvs kws f fd) (S : FnScope N ps scope) (len : ∀ vs H Q E, sp vs H Q E → vs.length = ps.length)
    (hbody : ∀ (A : Around) (outer : List PySem.Env) (s : Shared) (H : Hp) (vs : List V) (Q : VK) (E : XK), Room k (A.deeper (envOfC qual scope s.heap.objs.size f fd.code)) → sp vs H Q E →
      ∃ t, PSs (cxOf CX P w K mg base N qual scope f fd.code A outer s H E) body t ∧ t { nx := fun _ H' => Q .non H', rt := Q } (start N vs) H) : FnOk P w K mg base CX (k + 1) f fd ps sp := by
  obtain ⟨oc, od, dV, kV, doc, pm, an, cdv, ct, osl, rfl, lk, hcd, _, _⟩ := F.ex
  exact fn_of lk hcd S len hbody
theorem tyx_tup {K : PySem.W.Frag} {H : Hp} {a : Addr} {xs : List V} (h : SqT K H a xs) : TyX K H (.ref a) (.type "tuple") := by
  rcases h with (e | ⟨o, e⟩) | ⟨o, its, n, e, c, _⟩
  · exact .base (.tup e)
  · exact .fTuple e
  · exact .kTuple e c
/-- the captured names of a generator expression are cells of the def -/
def freeB (cells : List (Str × Addr)) (names : List (Str × NameKind)) : Bool := names.all fun y => match y.2 with
  | .free => (cells.lookup y.1).isSome
  | _ => true
theorem free_of {cells : List (Str × Addr)} {names : List (Str × NameKind)} (h : freeB cells names = true) : ∀ y ∈ names, y.2 = .free → ∃ c, cells.lookup y.1 = some c := fun y hy hf => by
  have q := List.all_eq_true.mp h y hy
  rw [hf] at q
  exact Option.isSome_iff_exists.mp q
abbrev sSide : Stmt := top 14
abbrev Side := List Int
def letterB (n x : Int) : Bool := decide (0 ≤ x ∧ x < n)
def sideB (n : Int) (s : Side) : Bool := decide (1 ≤ s.length ∧ s.length ≤ 3) && s.all (letterB n)
theorem scSide : FnScope ["value", "many"] ["value", "many"] (defScope sSide) := ⟨rfl, rfl, rfl, by decide +kernel, rfl, by decide +kernel, by decide +kernel⟩
/-- the places of a heap but for the table's -/
theorem relH_tabbed {g : G} {H H2 : Hp} {μ : List Addr} {h : DH} {tb : Addr} (r : RelH g H μ h) (hT : tb ∈ g.T) (t : GxR.Tabbed tb H H2) : RelH g H2 μ h ∧ Le g.K H μ H2 μ := by
  have at_ : ∀ {a : Addr} {o : HO}, H a = some o → (∀ ps, o ≠ .tbl ps) → H2 a = H a := fun {a o} e n => t.2 a fun z => by
    obtain ⟨ps, e2, _⟩ := r.tab tb hT
    rw [z, e2] at e
    exact n ps (Option.some.inj e).symm
  have l : Le g.K H μ H2 μ := ⟨⟨[], by simp⟩, fun a vs x => by
    rcases x with (x | ⟨o, x⟩) | x
    · exact .inl (.inl (by rw [at_ x (fun _ z => nomatch z)]; exact x))
    · exact .inl (.inr ⟨o, by rw [at_ x (fun _ z => nomatch z)]; exact x⟩)
    · exact .inr x⟩
  refine ⟨⟨r.len, r.nd, fun P hP => ?_, fun n a o h1 h2 => ?_⟩, l⟩
  · by_cases c : P = tb
    · rw [c]; exact t.1
    · obtain ⟨ps, e, z⟩ := r.tab P hP
      exact ⟨ps, by rw [t.2 P c]; exact e, z⟩
  · have q := r.obj n a o h1 h2
    by_cases hf : isFl o = true
    · cases o with
      | fl xs =>
        obtain ⟨vs, g2, h3 | h3⟩ := q
        · obtain ⟨ob, h3⟩ := h3
          exact ⟨vs, g2.le l, .inl ⟨ob, by rw [at_ h3 (fun _ z => nomatch z)]; exact h3⟩⟩
        · exact ⟨vs, g2.le l, .inr h3⟩
      | _ => cases hf
    refine q.le' l fun _ => ?_
    cases o with
    | lst xs => obtain ⟨_, e, _⟩ := q; exact at_ e (fun _ z => nomatch z)
    | fl xs => exact absurd rfl hf
    | dct kvs ep => obtain ⟨_, e, _⟩ := q; exact at_ e (fun _ z => nomatch z)
    | dk kvs => obtain ⟨_, e, _⟩ := q; exact at_ e (fun _ z => nomatch z)
    | set ds => obtain ⟨_, e, _⟩ := q; exact at_ e (fun _ z => nomatch z)
/-- is_side of a tuple of whole numbers -/
def spSide : DSp := fun ds h Q _ => ∃ (k : List Int) (n : Int), ds = [.tup (k.map .int), .int n] ∧ Q (.bl (sideB n k)) h
theorem ok_side {g : G} {mg : Str → Option Value} {base : Heap} {f fL fW c tb : Addr} {fd fdL fdW : FuncData} (F : FnP g.K "is_side" sSide f fd) (FL : FnP g.K "is_letter" sLetter fL fdL) (FW : FnP g.K "is_whole" sWhole fW fdW) (mL : mg "is_letter" = some (.ref fL)) (mW : mg "is_whole" = some (.ref fW))
    (B : BltD mg) (c3 : ∃ t, mg "LONGEST_SIDE" = some (.int 3 t)) (hc : fd.code = .ref c) (TB : GxR.TabB base mg c tb) (hT : tb ∈ g.T) : FnOk g.P g.w g.K mg base (L2.CX g.P g.w) 4 f fd ["value", "many"] (spL g spSide) := by
  obtain ⟨t3, m3⟩ := c3
  refine okC F scSide (fun vs H Q E h => ?_) (fun A outer s H vs Q E hr h => ?_)
  · obtain ⟨_, _, _, _, _, _, rv, ⟨k, n, rfl, _⟩, _⟩ := h
    exact rv.length
  obtain ⟨μ, hh, ds, Q0, E0, rh, rv, ⟨k, n, rfl, hq⟩, p, _⟩ := h
  obtain ⟨v1, v2, rfl, r1, r2⟩ := rv.inv2
  obtain ⟨a, us, rfl, hs, ru⟩ := r1.inv_tup
  rw [r2.inv_int]
  obtain rfl := ints_rv ru
  refine ⟨_, pss_cons (ps_if (PW.pt (pw_or (pt_not (pt_val (pe_callB call_isi (by rfl) B.isi boot_isinstance (pa_cons (pv 0) (pa_cons (pe_bltn (v := .ty "tuple") (by rfl) B.tuple PyProof.Rows.boot_tuple rfl) pa_nil)))))
      (pw_or1 (pt_not (pt_chain op_le op_le pe_int (pe_callB call_len_seq rfl B.len PySem.boot_len (pa_cons (pv 0) pa_nil)) (pe_glob (v := .int 3) rfl m3 ⟨_, rfl⟩)))))) (pss_one (ps_ret pe_bl)) pss_nil)
    (pss_one (ps_ret (SB.pe_allB hr rfl B.all TB hc ?hS (pv 0) ?hfold (by decide +kernel)))), ?_⟩
  case hS => exact ⟨rfl, rfl, by decide +kernel, by decide +kernel, by decide +kernel, free_of (by rfl)⟩
  case hfold => intro v; rfl
  refine ⟨_, rfl, .ref a, .ty "tuple", .type "tuple", .type "tuple", true, rfl, .ty _, tyx_tup hs, kit_ty (by decide +kernel), _, rfl, ?_⟩
  refine iteF ?_
  have hl : (k.map V.int).length = k.length := List.length_map _
  refine ⟨_, rfl, a, _, rfl, .inr hs, _, _, rfl, rfl, _, rfl, ?_⟩
  have ans : ∀ {b : Bool}, b = sideB n k → Q (.bl b) H := fun {b} e => by
    subst e
    exact p _ _ _ _ _ hq rh .refl (.bl _)
  refine ite2 (fun c1 => ?_) (fun c1 => ?_)
  case refine_2 =>
    have c1' : ¬ (1 : Int) ≤ (((k.map V.int).length : Nat) : Int) := by simpa using c1
    rw [hl] at c1'
    refine ⟨_, rfl, ?_⟩
    refine iteT ?_
    exact ans (by unfold sideB; rw [decide_eq_false (fun z => c1' (by omega))]; rfl)
  have c1' : (1 : Int) ≤ (((k.map V.int).length : Nat) : Int) := by simpa using c1
  rw [hl] at c1'
  refine ⟨_, _, rfl, rfl, _, rfl, ?_⟩
  by_cases c2 : (((k.map V.int).length : Nat) : Int) ≤ 3
  case neg =>
    rw [decide_eq_false c2]
    rw [hl] at c2
    refine iteT ?_
    exact ans (by unfold sideB; rw [decide_eq_false (fun z => c2 (by omega))]; rfl)
  rw [decide_eq_true c2]
  rw [hl] at c2
  refine iteF ?_
  refine ⟨_, rfl, a, k.map V.int, k.map (letterB n), rfl, hs, by rw [List.length_map, List.length_map], rh.tab tb hT, ?_, fun H2 t2 => ?_⟩
  case refine_2 =>
    obtain ⟨r2, l2⟩ := relH_tabbed rh hT t2
    have e : (k.map (letterB n)).all id = sideB n k := by
      unfold sideB
      rw [decide_eq_true (show 1 ≤ k.length ∧ k.length ≤ 3 by omega), Bool.true_and, List.all_map]; rfl
    show Q (.bl ((k.map (letterB n)).all id)) H2
    rw [e]
    exact p _ _ _ _ _ hq r2 l2 (.bl _)
  intro pins s1 its I rv L code A' E' i v s₂ m₂ hA hd hu hv hn hm hk
  have ntb : ∀ b, H b = none → b ≠ tb := fun b e z => by
    obtain ⟨ps, e1, _⟩ := rh.tab tb hT
    rw [z, e1] at e
    cases e
  have G1 : L2.Mod g.K mg s₂.heap := Mod.keeps I.mod fun b o e => hk b o (ntb b (I.bs b o e).2) (I.bs b o e).1
  obtain ⟨x, t, hx, rfl⟩ : ∃ x t, k[i]? = some x ∧ v = .int x t := by
    have q := rv.length
    rw [List.length_map] at q
    have hi : i < its.length := (List.getElem?_eq_some_iff.mp hv).1
    have e : (k.map V.int)[i]? = some (V.int (k[i]'(by omega))) := by rw [List.getElem?_map, List.getElem?_eq_getElem (by omega)]; rfl
    obtain ⟨u, e1, t, e2⟩ := rv.get e
    rw [hv] at e1
    cases e1
    exact ⟨_, t, List.getElem?_eq_getElem (by omega), e2⟩
  obtain ⟨m, hns, hloc⟩ := I.loc
  obtain ⟨u, ⟨t2, rfl⟩, hlook⟩ := hloc 1 "many" (.int n) rfl rfl (.inr (.inl rfl))
  rcases hlook with ⟨z, _⟩ | ⟨_, cc, hcc, hcell⟩
  · exact nomatch (show some NameKind.cell = some NameKind.local from z)
  have hcell2 : s₂.heap.IsCell cc (some (.int n t2)) := by
    obtain ⟨o, e, r⟩ := hcell
    exact ⟨o, hk cc o (ntb cc (I.freeC _ _ hcc)) e, r⟩
  refine wpAny_Call_Name_kw (glob_at G1 rfl rfl rfl mL ?_)
  refine PySem.W.callWith_K (h₀ := s₂.heap) G1.kin FL.kp ?_ rfl rfl
  refine Calls.spliced_cons (wpAny_Name (wpAny_loadName_local rfl rfl hn hm ?_) (by decide))
  refine Calls.spliced_cons (wpAny_Name (wpAny_loadName_free (c := cc) rfl rfl ?_ hcell2 ?_ (by decide)) (by decide))
  · have q : some (s.heap.objs.size + 1) = some cc := hcc
    cases q
    rfl
  refine Calls.spliced_nil ⟨G1.kin, ?_⟩
  refine isLetter_int G1 FL FW mW B.isi B.int B.bool ?_ fun s3 k3 => ⟨⟨_, ?_, rfl⟩, k3⟩
  · have h3 : A'.depth ≤ A.depth + 1 + 1 := hd
    have h4 : A.depth + 1 + 3 * 3 + 5 < recursionLimit := hr.dp
    omega
  · rw [List.getElem?_map, hx]; rfl
end DL
set_option Elab.async false
set_option linter.all false
set_option maxRecDepth 100000
set_option maxHeartbeats 0
namespace DL
open PySem PySem.Spec PyProof.Rows L2
open PySem.W (Frag)
/-! ### the head's look -/
def defD (x : Str) (i : Nat) : He.DefD := ⟨(x, none), x, x, defArgs (top i), defBody (top i), defScope (top i), [], []⟩
def names0 : List PySem.Str := ["ScatterError", "BadBook", "BadWord", "NotEnding", "TooMany", "MOST_LETTERS", "MOST_RULES", "LONGEST_SIDE", "check_book", "check_word", "is_frame", "is_rule"]
def names1 : List PySem.Str := ["is_side", "is_letter", "is_whole", "next_words", "turns", "unwound", "LONGEST_WORD", "MOST_WORDS", "steps", "all_come", "walked_rests", "goes_on"]
def names2 : List PySem.Str := ["longest", "check_start", "walk", "_law_taken", "_law_order", "_law_letters", "_law_book", "_law_alike", "_law_steps", "_law_walk", "_law_layers", "_law_last_ones"]
def names : List PySem.Str := names0 ++ (names1 ++ (names2))
def fn0 : List He.DefD := [defD "check_book" 10, defD "check_word" 11, defD "is_frame" 12, defD "is_rule" 13, defD "is_side" 14, defD "is_letter" 15, defD "is_whole" 16, defD "next_words" 18, defD "turns" 19, defD "unwound" 20, defD "steps" 24, defD "all_come" 25]
def fn1 : List He.DefD := [defD "walked_rests" 26, defD "goes_on" 27, defD "longest" 28, defD "check_start" 29, defD "walk" 30, defD "_law_taken" 32, defD "_law_order" 33, defD "_law_letters" 34, defD "_law_book" 35, defD "_law_alike" 36, defD "_law_steps" 37, defD "_law_walk" 38]
def fn2 : List He.DefD := [defD "_law_layers" 39, defD "_law_last_ones" 40, defD "law" 41]
def fn : List He.DefD := fn0 ++ (fn1 ++ (fn2))
def fa0 : List He.Fa := [.glo "check_book", .glo "check_word", .glo "is_frame", .glo "is_rule", .glo "is_side", .glo "is_letter", .glo "is_whole", .glo "next_words", .glo "turns", .glo "unwound", .glo "steps", .glo "all_come"]
def fa1 : List He.Fa := [.glo "walked_rests", .glo "goes_on", .glo "longest", .glo "check_start", .glo "walk", .glo "_law_taken", .glo "_law_order", .glo "_law_letters", .glo "_law_book", .glo "_law_alike", .glo "_law_steps", .glo "_law_walk"]
def fa2 : List He.Fa := [.glo "_law_layers", .glo "_law_last_ones", .glo "law", .free "isinstance", .free "len", .free "all", .free "any", .free "tuple", .free "list", .free "int", .free "bool", .free "str"]
def fa3 : List He.Fa := [.free "set", .free "sorted", .free "max", .free "min", .free "sum", .free "range", .free "enumerate", .free "zip", .free "dict", .free "super", .int "MOST_LETTERS" 4, .int "MOST_RULES" 12]
def fa4 : List He.Fa := [.int "LONGEST_SIDE" 3, .int "LONGEST_WORD" 8, .int "MOST_WORDS" 1500, .glo "ScatterError", .glo "NotEnding", .exc "NotEnding", .exm "NotEnding" "ScatterError" true]
def fa : List He.Fa := fa0 ++ (fa1 ++ (fa2 ++ (fa3 ++ (fa4))))
def tf : List He.Defn := [("is_side", none)]
abbrev RO' : PySem.W.OpenRow := PySem.W.OpenLaw.row PySem.Challenge.rw_scatterbooks_k00_whole_steps_and_walks
def hookY : PySem.W.Hook := He.hookX 6 fa fn [] tf (fun _ => true)
def ob (s : PySem.W.SharedT) : He.AlX := He.obsX 6 fa fn [] tf (fun _ => true) (HandSHeadRun.getT s)
theorem ob_eq (s : PySem.W.SharedT) : ob s = hookY.obs s.abs := He.obsX_eq (HandSHeadRun.getT_eq s)
end DL
set_option Elab.async false
set_option linter.all false
set_option maxRecDepth 100000
set_option maxHeartbeats 0
namespace DL
open PySem PySem.Spec PyProof.Rows L2
theorem run (w : World) : HandSHeadRun.RunEq RO' (PySem.W.view RO'.prog [41]) hookY ob 3000 names w := by
  intro os
  kernel_rfl
end DL
set_option Elab.async false
set_option linter.all false
set_option maxRecDepth 100000
set_option maxHeartbeats 4000000
namespace DL
open PySem PySem.Spec PyProof.Rows L2
open PySem.W (Frag)
/-! ### what the readings say: small defs -/
theorem start1 (n : Nat) (a : D) : startD (n + 1) [a] = some a :: List.replicate n none := by simp [startD]
theorem start2 (n : Nat) (a b : D) : startD (n + 2) [a, b] = some a :: some b :: List.replicate n none := by simp [startD]
theorem start3 (n : Nat) (a b c : D) : startD (n + 3) [a, b, c] = some a :: some b :: some c :: List.replicate n none := by simp [startD]
theorem iT {A B : Prop} (q : A) : (if true = true then A else B) := by rw [if_pos rfl]; exact q
theorem iF {A B : Prop} (q : B) : (if false = true then A else B) := by rw [if_neg (by decide)]; exact q
theorem trB {b : Bool} {h : DH} {Q : Bool → DH → Prop} (q : Q b h) : dTru (.bl b) h Q := q
section
variable {i j : Int} {h : DH} {Q : VD}
theorem i_add : dAdd (.int i) (.int j) h Q = Q (.int (i + j)) h := rfl
theorem i_sub : dSub (.int i) (.int j) h Q = Q (.int (i - j)) h := rfl
theorem i_gt : dGtA (.int i) (.int j) h Q = Q (.bl (decide (j < i))) h := rfl
theorem i_le : dLeA (.int i) (.int j) h Q = Q (.bl (decide (i ≤ j))) h := rfl
theorem i_lt : dLt (.int i) (.int j) h Q = Q (.bl (decide (i < j))) h := rfl
theorem i_ge : dGe (.int i) (.int j) h Q = Q (.bl (decide (j ≤ i))) h := rfl
theorem i_eq : dEq (.int i) (.int j) h Q = Q (.bl (decide (i = j))) h := rfl
theorem i_ne : dNe (.int i) (.int j) h Q = Q (.bl (!decide (i = j))) h := rfl
theorem i_tru {b : Bool} {Q : Bool → DH → Prop} : dTru (.bl b) h Q = Q b h := rfl
theorem i_len {xs : List D} : cLenA [.tup xs] h Q = Q (.int xs.length) h := rfl
theorem i_int : cInt [.int i] h Q = Q (.int i) h := rfl
theorem i_mod : dMod (.int i) (.int j) h Q = (0 < j ∧ Q (.int (i % j)) h) := propext ⟨fun ⟨_, _, e1, e2, r⟩ => by cases e1; cases e2; exact r, fun r => ⟨_, _, rfl, rfl, r⟩⟩
theorem i_fdv : dFdv (.int i) (.int j) h Q = (CDivW i j ∧ Q (.int (i / j)) h) := propext ⟨fun ⟨_, _, e1, e2, r⟩ => by cases e1; cases e2; exact r, fun r => ⟨_, _, rfl, rfl, r⟩⟩
theorem i_pow : dPow (.int i) (.int j) h Q = (CPow i j ∧ Q (.int (i ^ j.toNat)) h) := propext ⟨fun ⟨_, _, e1, e2, r⟩ => by cases e1; cases e2; exact r, fun r => ⟨_, _, rfl, rfl, r⟩⟩
theorem i_mul : dMul (.int i) (.int j) h Q = (i.natAbs.log2 + j.natAbs.log2 < 1000000 ∧ Q (.int (i * j)) h) := rfl
end
abbrev endsD (Q : VD) (E : DXK) : DEnds := { nx := fun _ h' => Q .non h', rt := Q, xc := fun c fs _ h' => E c fs h' }
theorem ixA_lst {h : DH} {n : Nat} {xs : List D} {i : Int} {v : D} {Q : VD} (e : lstOf h n = some xs) (a : atI xs i = some v) (q : Q v h) : dIxA (.ref n) (.int i) h Q := by
  unfold dIxA
  dsimp only
  split
  · rename_i e2
    unfold lstOf at e
    rw [e2] at e
    cases e
  · exact ⟨xs, v, e, a, q⟩
theorem ixA_tup {h : DH} {xs : List D} {i : Int} {v : D} {Q : VD} (a : atI xs i = some v) (q : Q v h) : dIxA (.tup xs) (.int i) h Q := ⟨v, a, q⟩
theorem setA_lst {h : DH} {n j : Nat} {xs : List D} {k : Int} {d : D} {Q : DH → Prop} (e : h[n]? = some (.lst xs)) (a : ixN xs.length k = some j) (q : Q (h.set n (.lst (xs.set j d)))) : setA (.ref n) (.int k) d h Q := by
  unfold setA
  dsimp only
  rw [e]
  exact ⟨j, a, q⟩
theorem lst_of {h : DH} {n : Nat} {xs : List D} (e : h[n]? = some (.lst xs)) : lstOf h n = some xs := by unfold lstOf; rw [e]
theorem lst_set_ne {h : DH} {n m : Nat} {o : DO} (ne : n ≠ m) : lstOf (h.set n o) m = lstOf h m := by unfold lstOf; rw [List.getElem?_set_ne ne]
theorem get_set {h : DH} {n : Nat} {o u : DO} (e : h[n]? = some u) : (h.set n o)[n]? = some o := by
  rw [List.getElem?_set_self (List.getElem?_eq_some_iff.mp e).1]
theorem lenA_lst {h : DH} {n : Nat} {xs : List D} {Q : VD} (e : lstOf h n = some xs) (q : Q (.int xs.length) h) : cLenA [.ref n] h Q := by
  unfold cLenA
  dsimp only
  split
  · rename_i e2
    unfold lstOf at e
    rw [e2] at e
    cases e
  · exact ⟨xs, e, q⟩
def spInt : DSp := fun ds h Q _ => ∃ i : Int, ds = [.int i] ∧ Q (.bl true) h
theorem sat_is_whole {ds : List D} {h : DH} {Q : VD} {E : DXK} (q : spInt ds h Q E) : tau_is_whole (endsD Q E) (startD 1 ds) h := by
  obtain ⟨i, rfl, q⟩ := q
  unfold tau_is_whole
  simp only [dSeq, dIf, dExpr, dRet, dRetN, dNext, dAsg, dNever, eVar, eC, eTup, eLst, aCons, aNil, eOp, eCB, eMt, eCall, eIf, eNotT, eAnd, eOr, eTru, eTst, eNot, eAndV, eOrV, eNeg, eIsi, eChain, gVar, gTupD, gsCons, gsNil, ↓reduceIte, Bool.false_eq_true, Bool.not_true, Bool.not_false, i_tru, i_len, decide_true, decide_false, List.length_map, yes, dFor, dPar, dPar3, eLRg, eSl, oNone, oSome, eDnew, eRev, eSortedKeys, eListKeys, wipeD, tgVar, gSto, eLc, iRng1D, iRng2D, iSeq, i_add, i_sub, i_gt, i_le, i_lt, i_ge, i_eq, i_ne, i_int, i_mod, i_fdv, i_mul, i_pow, start1, start2, start3, List.replicate, List.getElem?_cons_zero, List.getElem?_cons_succ, Option.some.injEq, exists_eq_left', List.set, Nat.reduceAdd, List.length_cons, List.length_nil, List.cons.injEq, and_true, true_and, exists_eq_left, exists_and_left, D.tup.injEq, D.int.injEq, D.bl.injEq]
  refine ⟨"int", rfl, true, by decide +kernel, ?_⟩
  simp only [dSeq, dIf, dExpr, dRet, dRetN, dNext, dAsg, dNever, eVar, eC, eTup, eLst, aCons, aNil, eOp, eCB, eMt, eCall, eIf, eNotT, eAnd, eOr, eTru, eTst, eNot, eAndV, eOrV, eNeg, eIsi, eChain, gVar, gTupD, gsCons, gsNil, ↓reduceIte, Bool.false_eq_true, Bool.not_true, Bool.not_false, i_tru, i_len, decide_true, decide_false, List.length_map, yes, dFor, dPar, dPar3, eLRg, eSl, oNone, oSome, eDnew, eRev, eSortedKeys, eListKeys, wipeD, tgVar, gSto, eLc, iRng1D, iRng2D, iSeq, i_add, i_sub, i_gt, i_le, i_lt, i_ge, i_eq, i_ne, i_int, i_mod, i_fdv, i_mul, i_pow, start1, start2, start3, List.replicate, List.getElem?_cons_zero, List.getElem?_cons_succ, Option.some.injEq, exists_eq_left', List.set, Nat.reduceAdd, List.length_cons, List.length_nil, List.cons.injEq, and_true, true_and, exists_eq_left, exists_and_left, D.tup.injEq, D.int.injEq, D.bl.injEq]
  exact ⟨"int", rfl, false, by decide +kernel, q⟩
def letD (n i : Int) : Bool := decide (0 ≤ i ∧ i < n)
def spLetter : DSp := fun ds h Q _ => ∃ i n : Int, ds = [.int i, .int n] ∧ Q (.bl (letD n i)) h
theorem sat_is_letter {ds : List D} {h : DH} {Q : VD} {E : DXK} (q : spLetter ds h Q E) : tau_is_letter spInt (endsD Q E) (startD 2 ds) h := by
  obtain ⟨i, n, rfl, q⟩ := q
  unfold tau_is_letter
  simp only [dSeq, dIf, dExpr, dRet, dRetN, dNext, dAsg, dNever, eVar, eC, eTup, eLst, aCons, aNil, eOp, eCB, eMt, eCall, eIf, eNotT, eAnd, eOr, eTru, eTst, eNot, eAndV, eOrV, eNeg, eIsi, eChain, gVar, gTupD, gsCons, gsNil, ↓reduceIte, Bool.false_eq_true, Bool.not_true, Bool.not_false, i_tru, i_len, decide_true, decide_false, List.length_map, yes, dFor, dPar, dPar3, eLRg, eSl, oNone, oSome, eDnew, eRev, eSortedKeys, eListKeys, wipeD, tgVar, gSto, eLc, iRng1D, iRng2D, iSeq, i_add, i_sub, i_gt, i_le, i_lt, i_ge, i_eq, i_ne, i_int, i_mod, i_fdv, i_mul, i_pow, start1, start2, start3, List.replicate, List.getElem?_cons_zero, List.getElem?_cons_succ, Option.some.injEq, exists_eq_left', List.set, Nat.reduceAdd, List.length_cons, List.length_nil, List.cons.injEq, and_true, true_and, exists_eq_left, exists_and_left, D.tup.injEq, D.int.injEq, D.bl.injEq]
  refine ⟨i, rfl, ?_⟩
  simp only [dSeq, dIf, dExpr, dRet, dRetN, dNext, dAsg, dNever, eVar, eC, eTup, eLst, aCons, aNil, eOp, eCB, eMt, eCall, eIf, eNotT, eAnd, eOr, eTru, eTst, eNot, eAndV, eOrV, eNeg, eIsi, eChain, gVar, gTupD, gsCons, gsNil, ↓reduceIte, Bool.false_eq_true, Bool.not_true, Bool.not_false, i_tru, i_len, decide_true, decide_false, List.length_map, yes, dFor, dPar, dPar3, eLRg, eSl, oNone, oSome, eDnew, eRev, eSortedKeys, eListKeys, wipeD, tgVar, gSto, eLc, iRng1D, iRng2D, iSeq, i_add, i_sub, i_gt, i_le, i_lt, i_ge, i_eq, i_ne, i_int, i_mod, i_fdv, i_mul, i_pow, start1, start2, start3, List.replicate, List.getElem?_cons_zero, List.getElem?_cons_succ, Option.some.injEq, exists_eq_left', List.set, Nat.reduceAdd, List.length_cons, List.length_nil, List.cons.injEq, and_true, true_and, exists_eq_left, exists_and_left, D.tup.injEq, D.int.injEq, D.bl.injEq]
  unfold letD at q
  by_cases c : 0 ≤ i
  · rw [if_pos (decide_eq_true c)]
    have e : decide (0 ≤ i ∧ i < n) = decide (i < n) := by simp [c]
    rw [e] at q
    exact q
  · rw [if_neg (by simpa using c)]
    have e : decide (0 ≤ i ∧ i < n) = false := by simp [c]
    rw [e] at q
    exact q
/-! the draws -/
structure RowH (h : DH) (r s : Nat) (ns : List Int) (a b c : Int) : Prop where
  row : h[r]? = some (.lst [.ref s, .int a, .int b, .int c])
  scr : lstOf h s = some (ns.map .int)
  ne : r ≠ s
  pos : 0 ≤ a
  low : 0 ≤ b
  top : b < 2147483647
def spTaken : DSp := fun ds h Q _ => ∃ (r s : Nat) (ns : List Int) (a b c m : Int), ds = [.ref r, .int m] ∧ RowH h r s ns a b c ∧ 1 ≤ m ∧ m ≤ 1000 ∧
  ∀ (v a' b' c' : Int), 0 ≤ v → v < m → RowH (h.set r (.lst [.ref s, .int a', .int b', .int c'])) r s ns a' b' c' → Q (.int v) (h.set r (.lst [.ref s, .int a', .int b', .int c']))
theorem RowH.next {h : DH} {r s : Nat} {ns : List Int} {a b c a' b' c' : Int} (R : RowH h r s ns a b c) (p : 0 ≤ a') (l : 0 ≤ b') (t : b' < 2147483647) : RowH (h.set r (.lst [.ref s, .int a', .int b', .int c'])) r s ns a' b' c' :=
  ⟨get_set R.row, by rw [lst_set_ne R.ne]; exact R.scr, R.ne, p, l, t⟩
theorem sat_taken {ds : List D} {h : DH} {Q : VD} {E : DXK} (q : spTaken ds h Q E) : tau__law_taken (endsD Q E) (startD 4 ds) h := by
  obtain ⟨r, s, ns, a, b, c, m, rfl, R, m1, m2, q⟩ := q
  have mok : ∀ x : Int, CDivW x m := fun x => ⟨by omega, by
    have : m.natAbs ≤ 1000 := by omega
    exact Nat.lt_of_le_of_lt (Nat.log2_le_self _) (by omega)⟩
  have mul : ∀ x : Int, 0 ≤ x → x < 2147483647 → x.natAbs.log2 + (48271 : Int).natAbs.log2 < 1000000 := fun x h0 h1 => by
    have e1 : x.natAbs < 2 ^ 31 := by omega
    have e2 : x.natAbs.log2 ≤ 31 := by
      by_cases z : x.natAbs = 0
      · rw [z]; decide
      · exact Nat.le_of_lt_succ (Nat.lt_of_lt_of_le ((Nat.log2_lt z).mpr e1) (by decide))
    have e3 : (48271 : Int).natAbs.log2 = 15 := by decide
    omega
  unfold tau__law_taken
  simp only [dSeq, dIf, dExpr, dRet, dRetN, dNext, dAsg, dNever, eVar, eC, eTup, eLst, aCons, aNil, eOp, eCB, eMt, eCall, eIf, eNotT, eAnd, eOr, eTru, eTst, eNot, eAndV, eOrV, eNeg, eIsi, eChain, gVar, gTupD, gsCons, gsNil, ↓reduceIte, Bool.false_eq_true, Bool.not_true, Bool.not_false, i_tru, i_len, decide_true, decide_false, List.length_map, yes, dFor, dPar, dPar3, eLRg, eSl, oNone, oSome, eDnew, eRev, eSortedKeys, eListKeys, wipeD, tgVar, gSto, eLc, iRng1D, iRng2D, iSeq, i_add, i_sub, i_gt, i_le, i_lt, i_ge, i_eq, i_ne, i_int, i_mod, i_fdv, i_mul, i_pow, start1, start2, start3, List.replicate, List.getElem?_cons_zero, List.getElem?_cons_succ, Option.some.injEq, exists_eq_left', List.set, Nat.reduceAdd, List.length_cons, List.length_nil, List.cons.injEq, and_true, true_and, exists_eq_left, exists_and_left, D.tup.injEq, D.int.injEq, D.bl.injEq]
  refine ixA_lst (lst_of R.row) (v := .int c) rfl ?_
  simp only [dSeq, dIf, dExpr, dRet, dRetN, dNext, dAsg, dNever, eVar, eC, eTup, eLst, aCons, aNil, eOp, eCB, eMt, eCall, eIf, eNotT, eAnd, eOr, eTru, eTst, eNot, eAndV, eOrV, eNeg, eIsi, eChain, gVar, gTupD, gsCons, gsNil, ↓reduceIte, Bool.false_eq_true, Bool.not_true, Bool.not_false, i_tru, i_len, decide_true, decide_false, List.length_map, yes, dFor, dPar, dPar3, eLRg, eSl, oNone, oSome, eDnew, eRev, eSortedKeys, eListKeys, wipeD, tgVar, gSto, eLc, iRng1D, iRng2D, iSeq, i_add, i_sub, i_gt, i_le, i_lt, i_ge, i_eq, i_ne, i_int, i_mod, i_fdv, i_mul, i_pow, start1, start2, start3, List.replicate, List.getElem?_cons_zero, List.getElem?_cons_succ, Option.some.injEq, exists_eq_left', List.set, Nat.reduceAdd, List.length_cons, List.length_nil, List.cons.injEq, and_true, true_and, exists_eq_left, exists_and_left, D.tup.injEq, D.int.injEq, D.bl.injEq]
  by_cases c0 : 0 < c
  · rw [if_pos (decide_eq_true c0)]
    refine ixA_lst (lst_of R.row) (v := .int c) rfl ?_
    simp only [dSeq, dIf, dExpr, dRet, dRetN, dNext, dAsg, dNever, eVar, eC, eTup, eLst, aCons, aNil, eOp, eCB, eMt, eCall, eIf, eNotT, eAnd, eOr, eTru, eTst, eNot, eAndV, eOrV, eNeg, eIsi, eChain, gVar, gTupD, gsCons, gsNil, ↓reduceIte, Bool.false_eq_true, Bool.not_true, Bool.not_false, i_tru, i_len, decide_true, decide_false, List.length_map, yes, dFor, dPar, dPar3, eLRg, eSl, oNone, oSome, eDnew, eRev, eSortedKeys, eListKeys, wipeD, tgVar, gSto, eLc, iRng1D, iRng2D, iSeq, i_add, i_sub, i_gt, i_le, i_lt, i_ge, i_eq, i_ne, i_int, i_mod, i_fdv, i_mul, i_pow, start1, start2, start3, List.replicate, List.getElem?_cons_zero, List.getElem?_cons_succ, Option.some.injEq, exists_eq_left', List.set, Nat.reduceAdd, List.length_cons, List.length_nil, List.cons.injEq, and_true, true_and, exists_eq_left, exists_and_left, D.tup.injEq, D.int.injEq, D.bl.injEq]
    refine ⟨by omega, ixA_lst (lst_of R.row) (v := .int c) rfl ?_⟩
    simp only [dSeq, dIf, dExpr, dRet, dRetN, dNext, dAsg, dNever, eVar, eC, eTup, eLst, aCons, aNil, eOp, eCB, eMt, eCall, eIf, eNotT, eAnd, eOr, eTru, eTst, eNot, eAndV, eOrV, eNeg, eIsi, eChain, gVar, gTupD, gsCons, gsNil, ↓reduceIte, Bool.false_eq_true, Bool.not_true, Bool.not_false, i_tru, i_len, decide_true, decide_false, List.length_map, yes, dFor, dPar, dPar3, eLRg, eSl, oNone, oSome, eDnew, eRev, eSortedKeys, eListKeys, wipeD, tgVar, gSto, eLc, iRng1D, iRng2D, iSeq, i_add, i_sub, i_gt, i_le, i_lt, i_ge, i_eq, i_ne, i_int, i_mod, i_fdv, i_mul, i_pow, start1, start2, start3, List.replicate, List.getElem?_cons_zero, List.getElem?_cons_succ, Option.some.injEq, exists_eq_left', List.set, Nat.reduceAdd, List.length_cons, List.length_nil, List.cons.injEq, and_true, true_and, exists_eq_left, exists_and_left, D.tup.injEq, D.int.injEq, D.bl.injEq]
    refine ⟨mok c, setA_lst R.row (k := 3) (j := 3) rfl ?_⟩
    exact q _ a b _ (Int.emod_nonneg _ (by omega)) (Int.emod_lt_of_pos _ (by omega)) (R.next R.pos R.low R.top)
  · rw [if_neg (by simpa using c0)]
    refine ixA_lst (lst_of R.row) (v := .int a) rfl ?_
    simp only [dSeq, dIf, dExpr, dRet, dRetN, dNext, dAsg, dNever, eVar, eC, eTup, eLst, aCons, aNil, eOp, eCB, eMt, eCall, eIf, eNotT, eAnd, eOr, eTru, eTst, eNot, eAndV, eOrV, eNeg, eIsi, eChain, gVar, gTupD, gsCons, gsNil, ↓reduceIte, Bool.false_eq_true, Bool.not_true, Bool.not_false, i_tru, i_len, decide_true, decide_false, List.length_map, yes, dFor, dPar, dPar3, eLRg, eSl, oNone, oSome, eDnew, eRev, eSortedKeys, eListKeys, wipeD, tgVar, gSto, eLc, iRng1D, iRng2D, iSeq, i_add, i_sub, i_gt, i_le, i_lt, i_ge, i_eq, i_ne, i_int, i_mod, i_fdv, i_mul, i_pow, start1, start2, start3, List.replicate, List.getElem?_cons_zero, List.getElem?_cons_succ, Option.some.injEq, exists_eq_left', List.set, Nat.reduceAdd, List.length_cons, List.length_nil, List.cons.injEq, and_true, true_and, exists_eq_left, exists_and_left, D.tup.injEq, D.int.injEq, D.bl.injEq]
    refine setA_lst R.row (k := 1) (j := 1) rfl ?_
    have R1 := R.next (a' := a + 1) (b' := b) (c' := c) (by have := R.pos; omega) R.low R.top
    refine ixA_lst (lst_of R1.row) (v := .int (a + 1)) rfl ?_
    refine ixA_lst (lst_of R1.row) (v := .ref s) rfl ?_
    refine lenA_lst R1.scr ?_
    simp only [dSeq, dIf, dExpr, dRet, dRetN, dNext, dAsg, dNever, eVar, eC, eTup, eLst, aCons, aNil, eOp, eCB, eMt, eCall, eIf, eNotT, eAnd, eOr, eTru, eTst, eNot, eAndV, eOrV, eNeg, eIsi, eChain, gVar, gTupD, gsCons, gsNil, ↓reduceIte, Bool.false_eq_true, Bool.not_true, Bool.not_false, i_tru, i_len, decide_true, decide_false, List.length_map, yes, dFor, dPar, dPar3, eLRg, eSl, oNone, oSome, eDnew, eRev, eSortedKeys, eListKeys, wipeD, tgVar, gSto, eLc, iRng1D, iRng2D, iSeq, i_add, i_sub, i_gt, i_le, i_lt, i_ge, i_eq, i_ne, i_int, i_mod, i_fdv, i_mul, i_pow, start1, start2, start3, List.replicate, List.getElem?_cons_zero, List.getElem?_cons_succ, Option.some.injEq, exists_eq_left', List.set, Nat.reduceAdd, List.length_cons, List.length_nil, List.cons.injEq, and_true, true_and, exists_eq_left, exists_and_left, D.tup.injEq, D.int.injEq, D.bl.injEq]
    have hl : ((ns.map D.int).length : Int) = (ns.length : Int) := by rw [List.length_map]
    by_cases c1 : (ns.length : Int) < a + 1
    · rw [if_pos (decide_eq_true c1)]
      refine ixA_lst (lst_of R1.row) (v := .int b) rfl ?_
      simp only [dSeq, dIf, dExpr, dRet, dRetN, dNext, dAsg, dNever, eVar, eC, eTup, eLst, aCons, aNil, eOp, eCB, eMt, eCall, eIf, eNotT, eAnd, eOr, eTru, eTst, eNot, eAndV, eOrV, eNeg, eIsi, eChain, gVar, gTupD, gsCons, gsNil, ↓reduceIte, Bool.false_eq_true, Bool.not_true, Bool.not_false, i_tru, i_len, decide_true, decide_false, List.length_map, yes, dFor, dPar, dPar3, eLRg, eSl, oNone, oSome, eDnew, eRev, eSortedKeys, eListKeys, wipeD, tgVar, gSto, eLc, iRng1D, iRng2D, iSeq, i_add, i_sub, i_gt, i_le, i_lt, i_ge, i_eq, i_ne, i_int, i_mod, i_fdv, i_mul, i_pow, start1, start2, start3, List.replicate, List.getElem?_cons_zero, List.getElem?_cons_succ, Option.some.injEq, exists_eq_left', List.set, Nat.reduceAdd, List.length_cons, List.length_nil, List.cons.injEq, and_true, true_and, exists_eq_left, exists_and_left, D.tup.injEq, D.int.injEq, D.bl.injEq]
      refine ⟨mul b R.low R.top, by omega, ?_⟩
      refine setA_lst R1.row (k := 2) (j := 2) rfl ?_
      have R2 := R1.next (a' := a + 1) (b' := (b * 48271 + 11) % 2147483647) (c' := c) R1.pos (Int.emod_nonneg _ (by omega)) (Int.emod_lt_of_pos _ (by omega))
      refine ixA_lst (lst_of R2.row) (v := .int ((b * 48271 + 11) % 2147483647)) rfl ?_
      simp only [dSeq, dIf, dExpr, dRet, dRetN, dNext, dAsg, dNever, eVar, eC, eTup, eLst, aCons, aNil, eOp, eCB, eMt, eCall, eIf, eNotT, eAnd, eOr, eTru, eTst, eNot, eAndV, eOrV, eNeg, eIsi, eChain, gVar, gTupD, gsCons, gsNil, ↓reduceIte, Bool.false_eq_true, Bool.not_true, Bool.not_false, i_tru, i_len, decide_true, decide_false, List.length_map, yes, dFor, dPar, dPar3, eLRg, eSl, oNone, oSome, eDnew, eRev, eSortedKeys, eListKeys, wipeD, tgVar, gSto, eLc, iRng1D, iRng2D, iSeq, i_add, i_sub, i_gt, i_le, i_lt, i_ge, i_eq, i_ne, i_int, i_mod, i_fdv, i_mul, i_pow, start1, start2, start3, List.replicate, List.getElem?_cons_zero, List.getElem?_cons_succ, Option.some.injEq, exists_eq_left', List.set, Nat.reduceAdd, List.length_cons, List.length_nil, List.cons.injEq, and_true, true_and, exists_eq_left, exists_and_left, D.tup.injEq, D.int.injEq, D.bl.injEq]
      refine ⟨⟨by omega, by decide⟩, by omega, ?_⟩
      simp only [List.set_set, List.set] at R2 ⊢
      exact q _ _ _ _ (Int.emod_nonneg _ (by omega)) (Int.emod_lt_of_pos _ (by omega)) R2
    · rw [if_neg (by simpa using c1)]
      have ha := R.pos
      have hk : a.toNat < ns.length := by omega
      obtain ⟨z, hz⟩ : ∃ z, ns[a.toNat]? = some z := ⟨_, List.getElem?_eq_getElem hk⟩
      refine ixA_lst (lst_of R1.row) (v := .ref s) rfl ?_
      refine ixA_lst (lst_of R1.row) (v := .int (a + 1)) rfl ?_
      simp only [dSeq, dIf, dExpr, dRet, dRetN, dNext, dAsg, dNever, eVar, eC, eTup, eLst, aCons, aNil, eOp, eCB, eMt, eCall, eIf, eNotT, eAnd, eOr, eTru, eTst, eNot, eAndV, eOrV, eNeg, eIsi, eChain, gVar, gTupD, gsCons, gsNil, ↓reduceIte, Bool.false_eq_true, Bool.not_true, Bool.not_false, i_tru, i_len, decide_true, decide_false, List.length_map, yes, dFor, dPar, dPar3, eLRg, eSl, oNone, oSome, eDnew, eRev, eSortedKeys, eListKeys, wipeD, tgVar, gSto, eLc, iRng1D, iRng2D, iSeq, i_add, i_sub, i_gt, i_le, i_lt, i_ge, i_eq, i_ne, i_int, i_mod, i_fdv, i_mul, i_pow, start1, start2, start3, List.replicate, List.getElem?_cons_zero, List.getElem?_cons_succ, Option.some.injEq, exists_eq_left', List.set, Nat.reduceAdd, List.length_cons, List.length_nil, List.cons.injEq, and_true, true_and, exists_eq_left, exists_and_left, D.tup.injEq, D.int.injEq, D.bl.injEq]
      refine ixA_lst R1.scr (v := .int z) ?_ ?_
      · unfold atI ixN
        rw [List.length_map, show a + 1 - 1 = a by omega, if_pos ha, if_pos (by omega)]
        show (ns.map D.int)[a.toNat]? = _
        rw [List.getElem?_map, hz]; rfl
      refine ixA_lst (lst_of R1.row) (v := .int b) rfl ?_
      simp only [dSeq, dIf, dExpr, dRet, dRetN, dNext, dAsg, dNever, eVar, eC, eTup, eLst, aCons, aNil, eOp, eCB, eMt, eCall, eIf, eNotT, eAnd, eOr, eTru, eTst, eNot, eAndV, eOrV, eNeg, eIsi, eChain, gVar, gTupD, gsCons, gsNil, ↓reduceIte, Bool.false_eq_true, Bool.not_true, Bool.not_false, i_tru, i_len, decide_true, decide_false, List.length_map, yes, dFor, dPar, dPar3, eLRg, eSl, oNone, oSome, eDnew, eRev, eSortedKeys, eListKeys, wipeD, tgVar, gSto, eLc, iRng1D, iRng2D, iSeq, i_add, i_sub, i_gt, i_le, i_lt, i_ge, i_eq, i_ne, i_int, i_mod, i_fdv, i_mul, i_pow, start1, start2, start3, List.replicate, List.getElem?_cons_zero, List.getElem?_cons_succ, Option.some.injEq, exists_eq_left', List.set, Nat.reduceAdd, List.length_cons, List.length_nil, List.cons.injEq, and_true, true_and, exists_eq_left, exists_and_left, D.tup.injEq, D.int.injEq, D.bl.injEq]
      refine ⟨mul b R.low R.top, by omega, ?_⟩
      refine setA_lst R1.row (k := 2) (j := 2) rfl ?_
      have R2 := R1.next (a' := a + 1) (b' := (b * 48271 + z + 11) % 2147483647) (c' := c) R1.pos (Int.emod_nonneg _ (by omega)) (Int.emod_lt_of_pos _ (by omega))
      simp only [dSeq, dIf, dExpr, dRet, dRetN, dNext, dAsg, dNever, eVar, eC, eTup, eLst, aCons, aNil, eOp, eCB, eMt, eCall, eIf, eNotT, eAnd, eOr, eTru, eTst, eNot, eAndV, eOrV, eNeg, eIsi, eChain, gVar, gTupD, gsCons, gsNil, ↓reduceIte, Bool.false_eq_true, Bool.not_true, Bool.not_false, i_tru, i_len, decide_true, decide_false, List.length_map, yes, dFor, dPar, dPar3, eLRg, eSl, oNone, oSome, eDnew, eRev, eSortedKeys, eListKeys, wipeD, tgVar, gSto, eLc, iRng1D, iRng2D, iSeq, i_add, i_sub, i_gt, i_le, i_lt, i_ge, i_eq, i_ne, i_int, i_mod, i_fdv, i_mul, i_pow, start1, start2, start3, List.replicate, List.getElem?_cons_zero, List.getElem?_cons_succ, Option.some.injEq, exists_eq_left', List.set, Nat.reduceAdd, List.length_cons, List.length_nil, List.cons.injEq, and_true, true_and, exists_eq_left, exists_and_left, D.tup.injEq, D.int.injEq, D.bl.injEq]
      refine ⟨⟨by decide, by decide, by decide⟩, ?_⟩
      by_cases c2 : (10 : Int) ^ (18 : Int).toNat ≤ z
      · rw [if_pos (decide_eq_true c2)]
        refine ⟨mok z, setA_lst R2.row (k := 3) (j := 3) rfl ?_⟩
        have R3 := R2.next (a' := a + 1) (b' := (b * 48271 + z + 11) % 2147483647) (c' := z / m) R2.pos R2.low R2.top
        simp only [dSeq, dIf, dExpr, dRet, dRetN, dNext, dAsg, dNever, eVar, eC, eTup, eLst, aCons, aNil, eOp, eCB, eMt, eCall, eIf, eNotT, eAnd, eOr, eTru, eTst, eNot, eAndV, eOrV, eNeg, eIsi, eChain, gVar, gTupD, gsCons, gsNil, ↓reduceIte, Bool.false_eq_true, Bool.not_true, Bool.not_false, i_tru, i_len, decide_true, decide_false, List.length_map, yes, dFor, dPar, dPar3, eLRg, eSl, oNone, oSome, eDnew, eRev, eSortedKeys, eListKeys, wipeD, tgVar, gSto, eLc, iRng1D, iRng2D, iSeq, i_add, i_sub, i_gt, i_le, i_lt, i_ge, i_eq, i_ne, i_int, i_mod, i_fdv, i_mul, i_pow, start1, start2, start3, List.replicate, List.getElem?_cons_zero, List.getElem?_cons_succ, Option.some.injEq, exists_eq_left', List.set, Nat.reduceAdd, List.length_cons, List.length_nil, List.cons.injEq, and_true, true_and, exists_eq_left, exists_and_left, D.tup.injEq, D.int.injEq, D.bl.injEq]
        refine ⟨by omega, ?_⟩
        simp only [List.set_set, List.set] at R3 ⊢
        exact q _ _ _ _ (Int.emod_nonneg _ (by omega)) (Int.emod_lt_of_pos _ (by omega)) R3
      · rw [if_neg (by simpa using c2)]
        refine ⟨by omega, ?_⟩
        simp only [List.set_set, List.set] at R2 ⊢
        exact q _ _ _ _ (Int.emod_nonneg _ (by omega)) (Int.emod_lt_of_pos _ (by omega)) R2
/-! loops by an invariant -/
theorem cLoop_inv {n0 : Nat} {tgt : Tgt} {tt : DT} {ε : DE} {chk : DH → Prop} {env0 : Env} {Qd : DH → Prop} (xs : List D) (I : Nat → DH → Prop)
    (step : ∀ (i : Nat) (x : D) (h : DH) (K : DH → Prop), xs[i]? = some x → I i h → (∀ h', I (i + 1) h' → K h') → chk h ∧ ∃ env2, tgt x env0 = some env2 ∧ tt EF env2 h fun b h3 =>
      if b = true then ε EF env2 h3 fun y h4 => ∃ acc, mlst h4 n0 = some acc ∧ acc.length ≤ 1000000 ∧ K (h4.set n0 (.lst (acc ++ [y]))) else K h3)
    (fin : ∀ h, I xs.length h → chk h ∧ Qd h) {h : DH} (h0 : I 0 h) : cLoop n0 tgt tt ε chk env0 Qd xs h := by
  have key : ∀ (ys : List D) (k : Nat), ys = xs.drop k → k ≤ xs.length → ∀ h, I k h → cLoop n0 tgt tt ε chk env0 Qd ys h := by
    intro ys
    induction ys with
    | nil =>
      intro k e hk h hi
      have hl : xs.length ≤ k := List.drop_eq_nil_iff.mp e.symm
      have ek : k = xs.length := by omega
      exact fin h (ek ▸ hi)
    | cons y ys ih =>
      intro k e hk h hi
      have hlt : k < xs.length := by
        have := congrArg List.length e
        rw [List.length_cons, List.length_drop] at this
        omega
      rw [List.drop_eq_getElem_cons hlt] at e
      injection e with e1 e2
      exact step k y h _ (by rw [List.getElem?_eq_getElem hlt, e1]) hi fun h' hi' => ih (k + 1) e2 hlt h' hi'
  exact key xs 0 rfl (Nat.zero_le _) h h0
theorem dLoop_inv {γ : DG} {τ : DS} {K : DEnds} {chk : DH → Prop} (xs : List D) (I : Nat → Env → DH → Prop)
    (step : ∀ (i : Nat) (x : D) (env : Env) (h : DH) (N : Env → DH → Prop), xs[i]? = some x → I i env h → (∀ env' h', I (i + 1) env' h' → N env' h') → chk h ∧ γ K.xc x env h fun env1 h1 => τ { K with nx := N, ct := N, bk := K.nx } env1 h1)
    (fin : ∀ env h, I xs.length env h → chk h ∧ K.nx env h) {env : Env} {h : DH} (h0 : I 0 env h) : dLoop γ τ K chk xs env h := by
  have key : ∀ (ys : List D) (k : Nat), ys = xs.drop k → k ≤ xs.length → ∀ env h, I k env h → dLoop γ τ K chk ys env h := by
    intro ys
    induction ys with
    | nil =>
      intro k e hk env h hi
      have hl : xs.length ≤ k := List.drop_eq_nil_iff.mp e.symm
      have ek : k = xs.length := by omega
      exact fin env h (ek ▸ hi)
    | cons y ys ih =>
      intro k e hk env h hi
      have hlt : k < xs.length := by
        have := congrArg List.length e
        rw [List.length_cons, List.length_drop] at this
        omega
      rw [List.drop_eq_getElem_cons hlt] at e
      injection e with e1 e2
      exact step k y env h _ (by rw [List.getElem?_eq_getElem hlt, e1]) hi fun env' h' hi' => ih (k + 1) e2 hlt env' h' hi'
  exact key xs 0 rfl (Nat.zero_le _) env h h0
/-! the row in later heaps -/
def Dr (h : DH) (r s : Nat) (ns : List Int) : Prop := ∃ a b c, RowH h r s ns a b c
/-- all stays but the object at r; more may have been made -/
structure Up (r : Nat) (h h' : DH) : Prop where
  len : h.length ≤ h'.length
  at' : ∀ n, n < h.length → n ≠ r → h'[n]? = h[n]?
theorem Up.refl {r : Nat} {h : DH} : Up r h h := ⟨Nat.le_refl _, fun _ _ _ => rfl⟩
theorem Up.trans {r : Nat} {h h' h'' : DH} (a : Up r h h') (b : Up r h' h'') : Up r h h'' :=
  ⟨Nat.le_trans a.len b.len, fun n hn ne => (b.at' n (Nat.lt_of_lt_of_le hn a.len) ne).trans (a.at' n hn ne)⟩
theorem Up.set {r : Nat} {h : DH} {o : DO} : Up r h (h.set r o) := ⟨by rw [List.length_set]; exact Nat.le_refl _, fun n _ ne => List.getElem?_set_ne (Ne.symm ne)⟩
theorem Up.new {r : Nat} {h : DH} {os : List DO} : Up r h (h ++ os) := ⟨by rw [List.length_append]; omega, fun n hn _ => List.getElem?_append_left hn⟩
/-- what is new may change -/
theorem Up.chg {r n : Nat} {h h' : DH} {o : DO} (a : Up r h h') (hn : h.length ≤ n) : Up r h (h'.set n o) :=
  ⟨by rw [List.length_set]; exact a.len, fun k hk ne => by rw [List.getElem?_set_ne (by omega)]; exact a.at' k hk ne⟩
theorem RowH.lt {h : DH} {r s : Nat} {ns : List Int} {a b c : Int} (R : RowH h r s ns a b c) : r < h.length := (List.getElem?_eq_some_iff.mp R.row).1
theorem lstOf_lt {h : DH} {s : Nat} {xs : List D} (e : lstOf h s = some xs) : s < h.length := by
  unfold lstOf at e
  split at e
  · rename_i e2; exact (List.getElem?_eq_some_iff.mp e2).1
  · rename_i e2; exact (List.getElem?_eq_some_iff.mp e2).1
  · cases e
theorem lstOf_eq {h h' : DH} {n : Nat} (e : h'[n]? = h[n]?) : lstOf h' n = lstOf h n := by unfold lstOf; rw [e]
/-- elsewhere a change, the row stays -/
theorem Dr.keep {h h' : DH} {r s : Nat} {ns : List Int} (d : Dr h r s ns) (er : h'[r]? = h[r]?) (es : h'[s]? = h[s]?) : Dr h' r s ns := by
  obtain ⟨a, b, c, R⟩ := d
  exact ⟨a, b, c, er.trans R.row, (lstOf_eq es).trans R.scr, R.ne, R.pos, R.low, R.top⟩
theorem Dr.lt {h : DH} {r s : Nat} {ns : List Int} (d : Dr h r s ns) : r < h.length ∧ s < h.length := by
  obtain ⟨a, b, c, R⟩ := d
  exact ⟨R.lt, lstOf_lt R.scr⟩
theorem Dr.new {h : DH} {os : List DO} {r s : Nat} {ns : List Int} (d : Dr h r s ns) : Dr (h ++ os) r s ns :=
  d.keep (List.getElem?_append_left d.lt.1) (List.getElem?_append_left d.lt.2)
theorem Dr.chg {h : DH} {n : Nat} {o : DO} {r s : Nat} {ns : List Int} (d : Dr h r s ns) (n1 : n ≠ r) (n2 : n ≠ s) : Dr (h.set n o) r s ns :=
  d.keep (List.getElem?_set_ne n1) (List.getElem?_set_ne n2)
/-- a draw, as its callers use it -/
def spTk : DSp := fun ds h Q _ => ∃ (r s : Nat) (ns : List Int) (m : Int), ds = [.ref r, .int m] ∧ Dr h r s ns ∧ 1 ≤ m ∧ m ≤ 1000 ∧ ∀ (v : Int) (h' : DH), 0 ≤ v → v < m → Up r h h' → h'.length = h.length → Dr h' r s ns → Q (.int v) h'
theorem sat_tk {ds : List D} {h : DH} {Q : VD} {E : DXK} (q : spTk ds h Q E) : tau__law_taken (endsD Q E) (startD 4 ds) h := by
  obtain ⟨r, s, ns, m, rfl, ⟨a, b, c, R⟩, m1, m2, q⟩ := q
  exact sat_taken ⟨r, s, ns, a, b, c, m, rfl, R, m1, m2, fun v a' b' c' v0 v1 R' => q v _ v0 v1 .set (List.length_set ..) ⟨_, _, _, R'⟩⟩
theorem mlst_of {h : DH} {n : Nat} {xs : List D} (e : h[n]? = some (.lst xs)) : mlst h n = some xs := by unfold mlst; rw [e]
/-- some letters -/
def spLetters : DSp := fun ds h Q _ => ∃ (r s : Nat) (ns : List Int) (m n : Int), ds = [.ref r, .int m, .int n] ∧ Dr h r s ns ∧ 1 ≤ m ∧ m ≤ 1000 ∧ 0 ≤ n ∧ n ≤ 1000 ∧
  ∀ (ls : List Int) (h' : DH), (ls.length : Int) = n → (∀ l ∈ ls, 0 ≤ l ∧ l < m) → Up r h h' → Dr h' r s ns → Q (.tup (ls.map .int)) h'
theorem sat_letters {ds : List D} {h : DH} {Q : VD} {E : DXK} (q : spLetters ds h Q E) : tau__law_letters spTk (endsD Q E) (startD 4 ds) h := by
  obtain ⟨r, s, ns, m, n, rfl, d, m1, m2, n1, n2, q⟩ := q
  unfold tau__law_letters
  simp only [dSeq, dIf, dExpr, dRet, dRetN, dNext, dAsg, dNever, eVar, eC, eTup, eLst, aCons, aNil, eOp, eCB, eMt, eCall, eIf, eNotT, eAnd, eOr, eTru, eTst, eNot, eAndV, eOrV, eNeg, eIsi, eChain, gVar, gTupD, gsCons, gsNil, ↓reduceIte, Bool.false_eq_true, Bool.not_true, Bool.not_false, i_tru, i_len, decide_true, decide_false, List.length_map, yes, dFor, dPar, dPar3, eLRg, eSl, oNone, oSome, eDnew, eRev, eSortedKeys, eListKeys, wipeD, tgVar, gSto, eLc, iRng1D, iRng2D, iSeq, i_add, i_sub, i_gt, i_le, i_lt, i_ge, i_eq, i_ne, i_int, i_mod, i_fdv, i_mul, i_pow, start1, start2, start3, List.replicate, List.getElem?_cons_zero, List.getElem?_cons_succ, Option.some.injEq, exists_eq_left', List.set, Nat.reduceAdd, List.length_cons, List.length_nil, List.cons.injEq, and_true, true_and, exists_eq_left, exists_and_left, D.tup.injEq, D.int.injEq, D.bl.injEq]
  refine ⟨by omega, by omega, ?_⟩
  have two := d.lt
  refine cLoop_inv (rangeD 0 n.toNat) (fun i h' => ∃ ls : List Int, ls.length = i ∧ (∀ l ∈ ls, 0 ≤ l ∧ l < m) ∧ Up r h h' ∧ Dr h' r s ns ∧ h'[h.length]? = some (.lst (ls.map .int))) (fun i x h1 K hx hi hK => ?_) (fun h1 hi => ?_) ⟨[], rfl, fun _ z => (by cases z), .new, d.new, by simp⟩
  · obtain ⟨ls, l1, l2, u, d1, e1⟩ := hi
    obtain ⟨hin, ex⟩ := rangeD_get _ _ _ _ hx
    subst ex
    refine ⟨trivial, _, rfl, ?_⟩
    simp only [dSeq, dIf, dExpr, dRet, dRetN, dNext, dAsg, dNever, eVar, eC, eTup, eLst, aCons, aNil, eOp, eCB, eMt, eCall, eIf, eNotT, eAnd, eOr, eTru, eTst, eNot, eAndV, eOrV, eNeg, eIsi, eChain, gVar, gTupD, gsCons, gsNil, ↓reduceIte, Bool.false_eq_true, Bool.not_true, Bool.not_false, i_tru, i_len, decide_true, decide_false, List.length_map, yes, dFor, dPar, dPar3, eLRg, eSl, oNone, oSome, eDnew, eRev, eSortedKeys, eListKeys, wipeD, tgVar, gSto, eLc, iRng1D, iRng2D, iSeq, i_add, i_sub, i_gt, i_le, i_lt, i_ge, i_eq, i_ne, i_int, i_mod, i_fdv, i_mul, i_pow, start1, start2, start3, List.replicate, List.getElem?_cons_zero, List.getElem?_cons_succ, Option.some.injEq, exists_eq_left', List.set, Nat.reduceAdd, List.length_cons, List.length_nil, List.cons.injEq, and_true, true_and, exists_eq_left, exists_and_left, D.tup.injEq, D.int.injEq, D.bl.injEq]
    refine ⟨r, s, ns, m, rfl, d1, m1, m2, fun v h2 v0 v1 u2 len2 d2 => ?_⟩
    have lt1 : h.length < h1.length := (List.getElem?_eq_some_iff.mp e1).1
    have e2 : h2[h.length]? = some (.lst (ls.map .int)) := (u2.at' _ lt1 (by omega)).trans e1
    refine ⟨_, mlst_of e2, by rw [List.length_map]; omega, hK _ ⟨ls ++ [v], by rw [List.length_append, l1]; rfl, fun l hl => ?_, (u.trans u2).chg (Nat.le_refl _), d2.chg (by omega) (by omega), by rw [get_set e2, List.map_append]; rfl⟩⟩
    rcases List.mem_append.mp hl with z | z
    · exact l2 l z
    · rw [List.mem_singleton.mp z]; exact ⟨v0, v1⟩
  · obtain ⟨ls, l1, l2, u, d1, e1⟩ := hi
    refine ⟨trivial, ls.map .int, lst_of e1, q ls h1 ?_ l2 u d1⟩
    rw [rangeD_len] at l1
    omega
end DL
set_option Elab.async false
set_option linter.all false
set_option maxRecDepth 100000
set_option maxHeartbeats 4000000
namespace DL
open PySem PySem.Spec PyProof.Rows L2
open PySem.W (Frag)
theorem cut_to {xs : List D} {v : Int} (h0 : 0 ≤ v) (h1 : v ≤ xs.length) : cutD xs none (some v) = xs.take v.toNat := by
  have e : HT.sIx xs.length xs.length (some v) = v.toNat := by
    show (if v < 0 then _ else min v.toNat xs.length) = _
    rw [if_neg (by omega)]; omega
  unfold cutD
  rw [e]
  show (xs.drop 0).take (v.toNat - 0) = _
  simp
theorem cut_from {xs : List D} {v : Int} (h0 : 0 ≤ v) (h1 : v ≤ xs.length) : cutD xs (some v) none = xs.drop v.toNat := by
  have e : HT.sIx xs.length 0 (some v) = v.toNat := by
    show (if v < 0 then _ else min v.toNat xs.length) = _
    rw [if_neg (by omega)]; omega
  unfold cutD
  rw [e]
  show (xs.drop v.toNat).take (xs.length - v.toNat) = _
  rw [List.take_of_length_le (by rw [List.length_drop]; exact Nat.le_refl _)]
theorem atI_nat {α : Type} {xs : List α} {v : Int} {x : α} (h0 : 0 ≤ v) (e : xs[v.toNat]? = some x) : atI xs v = some x := by
  have := (List.getElem?_eq_some_iff.mp e).1
  unfold atI ixN
  rw [if_pos h0, if_pos (by omega)]
  exact e
theorem add_lst {h : DH} {a b : Nat} {xs ys : List D} {Q : VD} (e1 : h[a]? = some (.lst xs)) (e2 : h[b]? = some (.lst ys)) (n : xs.length + ys.length ≤ 1000000) (q : Q (.ref h.length) (h ++ [.lst (xs ++ ys)])) : dAdd (.ref a) (.ref b) h Q :=
  ⟨xs, ys, mlst_of e1, mlst_of e2, n, q⟩
theorem sl_lst {h : DH} {a : Nat} {xs : List D} {lo hi : Option Int} {Q : VD} (e : lstOf h a = some xs) (q : Q (.ref h.length) (h ++ [.lst (cutD xs lo hi)])) : dSl (.ref a) lo hi h Q := ⟨xs, e, q⟩
theorem app_lst {h : DH} {a : Nat} {xs : List D} {y : D} {Q : VD} (e : h[a]? = some (.lst xs)) (n : xs.length ≤ 1000000) (q : Q .non (h.set a (.lst (xs ++ [y])))) : mAppend (.ref a) [y] h Q := ⟨xs, mlst_of e, n, q⟩
/-- an order of letters: as many numbers -/
def spOrder : DSp := fun ds h Q _ => ∃ (r s : Nat) (ns : List Int) (m : Int), ds = [.ref r, .int m] ∧ Dr h r s ns ∧ 1 ≤ m ∧ m ≤ 100 ∧
  ∀ (os : List Int) (h' : DH) (n : Nat), (os.length : Int) = m → h.length ≤ n → h'[n]? = some (.lst (os.map .int)) → Up r h h' → Dr h' r s ns → Q (.ref n) h'
theorem sat_order {ds : List D} {h : DH} {Q : VD} {E : DXK} (q : spOrder ds h Q E) : tau__law_order spTk (endsD Q E) (startD 6 ds) h := by
  obtain ⟨r, s, ns, m, rfl, d, m1, m2, q⟩ := q
  have two := d.lt
  unfold tau__law_order
  simp only [dSeq, dIf, dExpr, dRet, dRetN, dNext, dAsg, dNever, eVar, eC, eTup, eLst, aCons, aNil, eOp, eCB, eMt, eCall, eIf, eNotT, eAnd, eOr, eTru, eTst, eNot, eAndV, eOrV, eNeg, eIsi, eChain, gVar, gTupD, gsCons, gsNil, ↓reduceIte, Bool.false_eq_true, Bool.not_true, Bool.not_false, i_tru, i_len, decide_true, decide_false, List.length_map, yes, dFor, dPar, dPar3, eLRg, eSl, oNone, oSome, eDnew, eRev, eSortedKeys, eListKeys, wipeD, tgVar, gSto, eLc, iRng1D, iRng2D, iSeq, i_add, i_sub, i_gt, i_le, i_lt, i_ge, i_eq, i_ne, i_int, i_mod, i_fdv, i_mul, i_pow, start1, start2, start3, List.replicate, List.getElem?_cons_zero, List.getElem?_cons_succ, Option.some.injEq, exists_eq_left', List.set, Nat.reduceAdd, List.length_cons, List.length_nil, List.cons.injEq, and_true, true_and, exists_eq_left, exists_and_left, D.tup.injEq, D.int.injEq, D.bl.injEq]
  refine ⟨by omega, by omega, by omega, _, _, ⟨rfl, rfl⟩, ?_⟩
  refine ⟨by omega, by omega, ?_⟩
  have l1 : (h ++ [DO.lst (rangeD 0 m.toNat)]).length = h.length + 1 := by rw [List.length_append]; rfl
  rw [l1]
  refine dLoop_inv _ (fun i env h' => ∃ (t a : Option D) (l : Nat) (ls os : List Int), env = [some (.ref r), some (.int m), t, some (.ref l), some (.ref (h.length + 1)), a] ∧ h.length ≤ l ∧ l ≠ h.length + 1 ∧ h'[l]? = some (.lst (ls.map .int)) ∧ h'[h.length + 1]? = some (.lst (os.map .int)) ∧
    (ls.length : Int) = m - i ∧ os.length = i ∧ Up r h h' ∧ Dr h' r s ns) (fun i x env h1 N hx hi hN => ?_) (fun env h1 hi => ?_) ?_
  · obtain ⟨t, a, l, ls, os, rfl, l0, l2, e1, e2, n1, n2, u, d1⟩ := hi
    obtain ⟨hin, ex⟩ := rangeD_get _ _ _ _ hx
    subst ex
    refine ⟨trivial, ?_⟩
    simp only [dSeq, dIf, dExpr, dRet, dRetN, dNext, dAsg, dNever, eVar, eC, eTup, eLst, aCons, aNil, eOp, eCB, eMt, eCall, eIf, eNotT, eAnd, eOr, eTru, eTst, eNot, eAndV, eOrV, eNeg, eIsi, eChain, gVar, gTupD, gsCons, gsNil, ↓reduceIte, Bool.false_eq_true, Bool.not_true, Bool.not_false, i_tru, i_len, decide_true, decide_false, List.length_map, yes, dFor, dPar, dPar3, eLRg, eSl, oNone, oSome, eDnew, eRev, eSortedKeys, eListKeys, wipeD, tgVar, gSto, eLc, iRng1D, iRng2D, iSeq, i_add, i_sub, i_gt, i_le, i_lt, i_ge, i_eq, i_ne, i_int, i_mod, i_fdv, i_mul, i_pow, start1, start2, start3, List.replicate, List.getElem?_cons_zero, List.getElem?_cons_succ, Option.some.injEq, exists_eq_left', List.set, Nat.reduceAdd, List.length_cons, List.length_nil, List.cons.injEq, and_true, true_and, exists_eq_left, exists_and_left, D.tup.injEq, D.int.injEq, D.bl.injEq]
    refine lenA_lst (lst_of e1) ?_
    refine ⟨r, s, ns, _, rfl, d1, by rw [List.length_map]; omega, by rw [List.length_map]; omega, fun v h2 v0 v1 u2 len2 d2 => ?_⟩
    have lt1 : l < h1.length := (List.getElem?_eq_some_iff.mp e1).1
    have lt2 : h.length + 1 < h1.length := (List.getElem?_eq_some_iff.mp e2).1
    rw [List.length_map] at v1
    have f1 : h2[l]? = some (.lst (ls.map .int)) := (u2.at' _ lt1 (by omega)).trans e1
    have f2 : h2[h.length + 1]? = some (.lst (os.map .int)) := (u2.at' _ lt2 (by omega)).trans e2
    obtain ⟨z, hz⟩ : ∃ z, ls[v.toNat]? = some z := ⟨_, List.getElem?_eq_getElem (by omega)⟩
    simp only [dSeq, dIf, dExpr, dRet, dRetN, dNext, dAsg, dNever, eVar, eC, eTup, eLst, aCons, aNil, eOp, eCB, eMt, eCall, eIf, eNotT, eAnd, eOr, eTru, eTst, eNot, eAndV, eOrV, eNeg, eIsi, eChain, gVar, gTupD, gsCons, gsNil, ↓reduceIte, Bool.false_eq_true, Bool.not_true, Bool.not_false, i_tru, i_len, decide_true, decide_false, List.length_map, yes, dFor, dPar, dPar3, eLRg, eSl, oNone, oSome, eDnew, eRev, eSortedKeys, eListKeys, wipeD, tgVar, gSto, eLc, iRng1D, iRng2D, iSeq, i_add, i_sub, i_gt, i_le, i_lt, i_ge, i_eq, i_ne, i_int, i_mod, i_fdv, i_mul, i_pow, start1, start2, start3, List.replicate, List.getElem?_cons_zero, List.getElem?_cons_succ, Option.some.injEq, exists_eq_left', List.set, Nat.reduceAdd, List.length_cons, List.length_nil, List.cons.injEq, and_true, true_and, exists_eq_left, exists_and_left, D.tup.injEq, D.int.injEq, D.bl.injEq]
    refine ⟨⟨rfl, _, lst_of f2⟩, ixA_lst (lst_of f1) (v := .int z) (atI_nat v0 (by rw [List.getElem?_map, hz]; rfl)) ?_⟩
    refine app_lst f2 (by rw [List.length_map]; omega) ?_
    have f3 : (h2.set (h.length + 1) (.lst (os.map .int ++ [.int z])))[l]? = some (.lst (ls.map .int)) := by rw [List.getElem?_set_ne (by omega)]; exact f1
    have f4 : (h2.set (h.length + 1) (.lst (os.map .int ++ [.int z])))[h.length + 1]? = some (.lst (os.map .int ++ [.int z])) := get_set f2
    have d3 : Dr (h2.set (h.length + 1) (.lst (os.map .int ++ [.int z]))) r s ns := d2.chg (by omega) (by omega)
    have u3 : Up r h (h2.set (h.length + 1) (.lst (os.map .int ++ [.int z]))) := (u.trans u2).chg (Nat.le_succ _)
    have len3 : (h2.set (h.length + 1) (.lst (os.map .int ++ [.int z]))).length = h1.length := by rw [List.length_set, len2]
    generalize h2.set (h.length + 1) (.lst (os.map .int ++ [.int z])) = h3 at f3 f4 d3 u3 len3 ⊢
    refine sl_lst (lst_of f3) ?_
    refine sl_lst (lst_of (by rw [List.getElem?_append_left (by omega)]; exact f3)) ?_
    rw [cut_to v0 (by rw [List.length_map]; omega), cut_from (by omega) (by rw [List.length_map]; omega)]
    refine add_lst (xs := (ls.map .int).take v.toNat) (ys := (ls.map .int).drop (v + 1).toNat) ?_ ?_ ?_ ?_
    · rw [List.getElem?_append_left (by rw [List.length_append]; exact Nat.lt_succ_self _), List.getElem?_append_right (Nat.le_refl _), Nat.sub_self]; rfl
    · rw [List.getElem?_append_right (Nat.le_refl _), Nat.sub_self]; rfl
    · rw [List.length_take, List.length_drop, List.length_map]; omega
    · refine hN _ _ ⟨_, _, _, ls.take v.toNat ++ ls.drop (v + 1).toNat, os ++ [z], rfl, ?_, ?_, ?_, ?_, ?_, ?_, ?_, ?_⟩
      · simp only [List.length_append, List.length_cons, List.length_nil]; omega
      · simp only [List.length_append, List.length_cons, List.length_nil]; omega
      · rw [List.getElem?_append_right (Nat.le_refl _), Nat.sub_self, List.map_append, List.map_take, List.map_drop]; rfl
      · rw [List.append_assoc, List.append_assoc, List.getElem?_append_left (by omega), f4, List.map_append]; rfl
      · rw [List.length_append, List.length_take, List.length_drop]; omega
      · rw [List.length_append, n2]; rfl
      · exact ((u3.trans .new).trans .new).trans .new
      · exact d3.new.new.new
  · obtain ⟨t, a, l, ls, os, rfl, l0, l2, e1, e2, n1, n2, u, d1⟩ := hi
    rw [rangeD_len] at n2
    refine ⟨trivial, ?_⟩
    simp only [dSeq, dIf, dExpr, dRet, dRetN, dNext, dAsg, dNever, eVar, eC, eTup, eLst, aCons, aNil, eOp, eCB, eMt, eCall, eIf, eNotT, eAnd, eOr, eTru, eTst, eNot, eAndV, eOrV, eNeg, eIsi, eChain, gVar, gTupD, gsCons, gsNil, ↓reduceIte, Bool.false_eq_true, Bool.not_true, Bool.not_false, i_tru, i_len, decide_true, decide_false, List.length_map, yes, dFor, dPar, dPar3, eLRg, eSl, oNone, oSome, eDnew, eRev, eSortedKeys, eListKeys, wipeD, tgVar, gSto, eLc, iRng1D, iRng2D, iSeq, i_add, i_sub, i_gt, i_le, i_lt, i_ge, i_eq, i_ne, i_int, i_mod, i_fdv, i_mul, i_pow, start1, start2, start3, List.replicate, List.getElem?_cons_zero, List.getElem?_cons_succ, Option.some.injEq, exists_eq_left', List.set, Nat.reduceAdd, List.length_cons, List.length_nil, List.cons.injEq, and_true, true_and, exists_eq_left, exists_and_left, D.tup.injEq, D.int.injEq, D.bl.injEq]
    exact q os h1 _ (by omega) (Nat.le_succ _) e2 u d1
  · have er : ∃ ls : List Int, rangeD 0 m.toNat = ls.map .int ∧ ls.length = m.toNat := by
      have key : ∀ (n : Nat) (lo : Int), ∃ ls : List Int, rangeD lo n = ls.map .int ∧ ls.length = n := fun n => by
        induction n with
        | zero => intro lo; exact ⟨[], rfl, rfl⟩
        | succ n ih =>
          intro lo
          obtain ⟨ls, e1, e2⟩ := ih (lo + 1)
          exact ⟨lo :: ls, by rw [rangeD, e1]; rfl, by rw [List.length_cons, e2]⟩
      exact key _ _
    obtain ⟨ls, e1, e2⟩ := er
    refine ⟨_, _, h.length, ls, [], rfl, Nat.le_refl _, by omega, ?_, ?_, by omega, rfl, Up.new.trans .new, d.new.new⟩
    · rw [List.append_assoc, List.getElem?_append_right (Nat.le_refl _), Nat.sub_self, ← e1]; rfl
    · rw [List.getElem?_append_right (by rw [l1]; exact Nat.le_refl _), l1, Nat.sub_self]; rfl
end DL
set_option Elab.async false
set_option linter.all false
set_option maxRecDepth 100000
set_option maxHeartbeats 2000000
/-! Books as data: sides, rules, their order; what a heap keeps. -/
namespace SB
open PySem PySem.Spec PyProof.Rows L2

/-! ### plain data -/
abbrev Side := List Int
abbrev Rule := Side × Side
abbrev Book := Int × List Rule
def ltI : List Int → List Int → Bool
  | [], [] => false
  | [], _ :: _ => true
  | _ :: _, [] => false
  | x :: xs, y :: ys => if x = y then ltI xs ys else decide (x < y)
def ltR (a b : Rule) : Bool := if a.1 = b.1 then ltI a.2 b.2 else ltI a.1 b.1
theorem ltI_irr : ∀ xs : List Int, ltI xs xs = false
  | [] => rfl
  | x :: xs => by rw [ltI, if_pos rfl]; exact ltI_irr xs
theorem ltI_tri : ∀ xs ys : List Int, ltI xs ys = false → ltI ys xs = false → xs = ys
  | [], [], _, _ => rfl
  | [], _ :: _, h, _ => by simp [ltI] at h
  | _ :: _, [], _, h => by simp [ltI] at h
  | x :: xs, y :: ys, h, h' => by
    by_cases e : x = y
    · subst e
      rw [ltI, if_pos rfl] at h h'
      rw [ltI_tri xs ys h h']
    · rw [ltI, if_neg e] at h
      rw [ltI, if_neg (Ne.symm e)] at h'
      have h1 := of_decide_eq_false h
      have h2 := of_decide_eq_false h'
      omega
theorem ltI_asym : ∀ xs ys : List Int, ltI xs ys = true → ltI ys xs = false
  | [], [], h => by simp [ltI] at h
  | [], _ :: _, _ => rfl
  | _ :: _, [], h => by simp [ltI] at h
  | x :: xs, y :: ys, h => by
    by_cases e : x = y
    · subst e
      rw [ltI, if_pos rfl] at h ⊢
      exact ltI_asym xs ys h
    · rw [ltI, if_neg e] at h
      rw [ltI, if_neg (Ne.symm e)]
      have h1 := of_decide_eq_true h
      exact decide_eq_false (by omega)
theorem ltI_trans : ∀ xs ys zs : List Int, ltI xs ys = true → ltI ys zs = true → ltI xs zs = true
  | [], [], _, h, _ => by simp [ltI] at h
  | [], _ :: _, [], _, h => by simp [ltI] at h
  | [], _ :: _, _ :: _, _, _ => rfl
  | _ :: _, [], _, h, _ => by simp [ltI] at h
  | _ :: _, _ :: _, [], _, h => by simp [ltI] at h
  | x :: xs, y :: ys, z :: zs, h, h' => by
    rw [ltI] at h h' ⊢
    by_cases e : x = y
    · by_cases e' : y = z
      · subst e; subst e'
        rw [if_pos rfl] at h h' ⊢
        exact ltI_trans xs ys zs h h'
      · subst e
        rw [if_neg e'] at h' ⊢
        exact h'
    · rw [if_neg e] at h
      have h1 := of_decide_eq_true h
      by_cases e' : y = z
      · subst e'
        rw [if_neg e]
        exact h
      · rw [if_neg e'] at h'
        have h2 := of_decide_eq_true h'
        rw [if_neg (by omega)]
        exact decide_eq_true (by omega)
theorem ltR_irr (a : Rule) : ltR a a = false := by rw [ltR, if_pos rfl]; exact ltI_irr _
theorem ltR_tri (a b : Rule) (h : ltR a b = false) (h' : ltR b a = false) : a = b := by
  rw [ltR] at h h'
  by_cases e : a.1 = b.1
  · rw [if_pos e] at h
    rw [if_pos e.symm] at h'
    exact Prod.ext e (ltI_tri _ _ h h')
  · rw [if_neg e] at h
    rw [if_neg (Ne.symm e)] at h'
    exact absurd (ltI_tri _ _ h h') e
theorem ltR_asym (a b : Rule) (h : ltR a b = true) : ltR b a = false := by
  rw [ltR] at h ⊢
  by_cases e : a.1 = b.1
  · rw [if_pos e] at h
    rw [if_pos e.symm]
    exact ltI_asym _ _ h
  · rw [if_neg e] at h
    rw [if_neg (Ne.symm e)]
    exact ltI_asym _ _ h
theorem ltR_trans (a b c : Rule) (h : ltR a b = true) (h' : ltR b c = true) : ltR a c = true := by
  rw [ltR] at h h' ⊢
  by_cases e : a.1 = b.1
  · rw [if_pos e] at h
    rw [e]
    by_cases e' : b.1 = c.1
    · rw [if_pos e'] at h' ⊢
      exact ltI_trans _ _ _ h h'
    · rw [if_neg e'] at h' ⊢
      exact h'
  · rw [if_neg e] at h
    by_cases e' : b.1 = c.1
    · rw [if_pos e'] at h'
      rw [← e', if_neg e]
      exact h
    · rw [if_neg e'] at h'
      have q := ltI_trans _ _ _ h h'
      rw [if_neg (fun z => ?_)]
      · exact q
      · rw [z] at h
        have r := ltI_asym _ _ h
        rw [h'] at r
        cases r

/-! ### as Python's data -/
def dSide (s : Side) : PyData := .tuple (s.map .int)
def dRule (r : Rule) : PyData := .tuple [dSide r.1, dSide r.2]
def dRules (rs : List Rule) : PyData := .tuple (rs.map dRule)
def dBook (b : Book) : PyData := .tuple [.int b.1, dRules b.2]
theorem eqv_ints : ∀ xs ys : List Int, PyData.eqvAll (xs.map .int) (ys.map .int) = decide (xs = ys)
  | [], [] => rfl
  | [], _ :: _ => rfl
  | _ :: _, [] => rfl
  | x :: xs, y :: ys => by
    rw [List.map_cons, List.map_cons, PyData.eqvAll, eqv_ints xs ys, PyData.eqv]
    by_cases e : x = y
    · subst e; simp
    · simp [e]
theorem eqv_side (a b : Side) : PyData.eqv (dSide a) (dSide b) = decide (a = b) := by
  rw [dSide, dSide, PyData.eqv]; exact eqv_ints a b
theorem eqv_rule (a b : Rule) : PyData.eqv (dRule a) (dRule b) = decide (a = b) := by
  rw [dRule, dRule, PyData.eqv, PyData.eqvAll, PyData.eqvAll, PyData.eqvAll, eqv_side, eqv_side]
  obtain ⟨a1, a2⟩ := a
  obtain ⟨b1, b2⟩ := b
  by_cases e1 : a1 = b1 <;> by_cases e2 : a2 = b2 <;> simp [e1, e2]
theorem alike_side (a b : Side) : W.alike (dSide a) (dSide b) = true := by rw [dSide, dSide, W.alike]; exact W.alike_ints a b
theorem alike_rule (a b : Rule) : W.alike (dRule a) (dRule b) = true := by
  rw [dRule, dRule, W.alike, W.alikeAll, alike_side, W.alikeAll, alike_side, W.alikeAll] <;> rfl
theorem depth_ints (xs : List Int) : PyData.depthAll (xs.map .int) = 0 := W.depth_ints xs

/-! ### what a heap keeps: all but the tables of code objects, and the things at M that can change -/
def mutK : HO → Bool
  | .lst _ => true
  | .dK _ => true
  | .dT _ => true
  | .ext _ => true
  | .set _ _ => true
  | _ => false
def Ext (M : List Addr) (H H' : Hp) : Prop := ∀ b o, H b = some o → H' b = some o ∨ (∃ ps, o = .tbl ps) ∨ (mutK o = true ∧ b ∈ M)
def Tabs (T : List Addr) (H : Hp) : Prop := ∀ P ∈ T, GxR.TabG H P
section
variable {M M' T : List Addr} {H H' H'' : Hp} {a b p : Addr} {o : HO} {xs : List V} {K : PySem.W.Frag}
theorem Ext.refl : Ext M H H := fun _ _ e => .inl e
theorem Ext.mono (h : Ext M H H') (k : ∀ b ∈ M, b ∈ M') : Ext M' H H' := fun b o e => by
  rcases h b o e with z | z | ⟨z1, z2⟩
  · exact .inl z
  · exact .inr (.inl z)
  · exact .inr (.inr ⟨z1, k b z2⟩)
theorem Ext.trans (h : Ext M H H') (h' : Ext M H' H'') : Ext M H H'' := fun b o e => by
  rcases h b o e with z | z | z
  · exact h' b o z
  · exact .inr (.inl z)
  · exact .inr (.inr z)
theorem Ext.more (h : Ext [] H H') : Ext M H H' := h.mono fun _ q => nomatch q
theorem Ext.tup (h : Ext M H H') (e : H a = some (.tup xs)) : H' a = some (.tup xs) := by
  rcases h a _ e with z | ⟨ps, z⟩ | ⟨z, _⟩
  · exact z
  · cases z
  · cases z
theorem Ext.frz {u : Obj} (h : Ext M H H') (e : H a = some (.frz u o)) : H' a = some (.frz u o) := by
  rcases h a _ e with z | ⟨ps, z⟩ | ⟨z, _⟩
  · exact z
  · cases z
  · cases z
theorem Ext.xd {fs : List (Str × V)} (h : Ext M H H') (e : H a = some (.xd fs)) : H' a = some (.xd fs) := by
  rcases h a _ e with z | ⟨ps, z⟩ | ⟨z, _⟩
  · exact z
  · cases z
  · cases z
theorem Ext.keep (h : Ext M H H') (e : H a = some o) (n : a ∉ M) (t : ∀ ps, o ≠ .tbl ps) : H' a = some o := by
  rcases h a _ e with z | ⟨ps, z⟩ | ⟨_, z⟩
  · exact z
  · exact absurd z (t ps)
  · exact absurd z n
theorem Ext.lst (h : Ext M H H') (e : H a = some (.lst xs)) (n : a ∉ M) : H' a = some (.lst xs) := h.keep e n fun _ z => nomatch z
theorem Ext.new (e : H p = none) : Ext M H (upd H p o) := fun b u q => .inl (by rw [upd_ne (ne_of_none q e)]; exact q)
theorem Ext.set {u : HO} (e : H p = some u) (m : mutK u = true) (hp : p ∈ M) : Ext M H (upd H p o) := fun b v q => by
  by_cases hb : b = p
  · rw [hb, e] at q
    cases q
    exact .inr (.inr ⟨m, hb ▸ hp⟩)
  · exact .inl (by rw [upd_ne hb]; exact q)
/-- what was not there ahead may change -/
theorem Ext.drop (h : Ext (p :: M) H H') (e : H p = none) : Ext M H H' := fun b u q => by
  rcases h b u q with z | z | ⟨z1, z2⟩
  · exact .inl z
  · exact .inr (.inl z)
  · rcases List.mem_cons.mp z2 with z3 | z3
    · rw [z3, e] at q; cases q
    · exact .inr (.inr ⟨z1, z3⟩)
theorem Ext.tabbed {P : Addr} (t : GxR.TabG H P) (h : GxR.Tabbed P H H') : Ext M H H' := fun b u q => by
  by_cases hb : b = P
  · obtain ⟨ps, e, _⟩ := t
    rw [hb, e] at q
    cases q
    exact .inr (.inl ⟨ps, rfl⟩)
  · exact .inl (by rw [h.2 b hb]; exact q)
theorem Ext.rd (h : Ext M H H') {u : HO} (m : mutK u = false) (t : ∀ ps, u ≠ .tbl ps) (r : Rd H a u) : Rd H' a u := by
  rcases r with e | ⟨ob, e⟩
  · rcases h a _ e with z | ⟨ps, z⟩ | ⟨z, _⟩
    · exact .inl z
    · exact absurd z (t ps)
    · rw [m] at z; cases z
  · exact .inr ⟨ob, h.frz e⟩
theorem Ext.sqT (h : Ext M H H') (s : SqT K H a xs) : SqT K H' a xs := by
  rcases s with r | r
  · exact .inl (h.rd rfl (fun _ z => nomatch z) r)
  · exact .inr r
theorem Ext.sqL (h : Ext M H H') (s : SqL K H a xs) (n : a ∉ M) : SqL K H' a xs := by
  rcases s with (e | ⟨ob, e⟩) | r
  · exact .inl (.inl (h.lst e n))
  · exact .inl (.inr ⟨ob, h.frz e⟩)
  · exact .inr r
theorem Tabs.new (t : Tabs T H) (e : H p = none) : Tabs T (upd H p o) := fun P hP => by
  obtain ⟨ps, h1, h2⟩ := t P hP
  exact ⟨ps, by rw [upd_ne (ne_of_none h1 e)]; exact h1, h2⟩
theorem Tabs.set {u : HO} (t : Tabs T H) (e : H p = some u) (n : ∀ ps, u ≠ .tbl ps) : Tabs T (upd H p o) := fun P hP => by
  obtain ⟨ps, h1, h2⟩ := t P hP
  exact ⟨ps, by rw [upd_ne (ne_of h1 e fun z => n ps z.symm)]; exact h1, h2⟩
theorem Tabs.tabbed {P : Addr} (t : Tabs T H) (h : GxR.Tabbed P H H') : Tabs T H' := fun R hR => by
  by_cases e : R = P
  · rw [e]; exact h.1
  · obtain ⟨ps, h1, h2⟩ := t R hR
    exact ⟨ps, by rw [h.2 R e]; exact h1, h2⟩
end
/-! ### data of tuples, ints, texts, bools, None: they stay -/
mutual
def still : PyData → Bool
  | .list _ => false
  | .dict _ => false
  | .tuple xs => stillAll xs
  | _ => true
def stillAll : List PyData → Bool
  | [] => true
  | x :: xs => still x && stillAll xs
end
section
variable {M : List Addr} {H H' : Hp} {K : PySem.W.Frag}
mutual
theorem Dp.ext (h : Ext M H H') : ∀ {d : PyData} {v : V}, still d = true → Dp K H v d → Dp K H' v d
  | _, _, _, .non => .non
  | _, _, _, .bl b => .bl b
  | _, _, _, .int i => .int i
  | _, _, _, .str x => .str x
  | _, _, s, .lst _ _ => by simp [still] at s
  | _, _, s, .tup h1 h2 => .tup (h.sqT h1) (DpAll.ext h (by simpa [still] using s) h2)
theorem DpAll.ext (h : Ext M H H') : ∀ {ds : List PyData} {vs : List V}, stillAll ds = true → DpAll K H vs ds → DpAll K H' vs ds
  | _, _, _, .nil => .nil
  | _, _, s, .cons h1 h2 => by
    have z := Bool.and_eq_true_iff.mp (show (still _ && stillAll _) = true from by simpa [stillAll] using s)
    exact .cons (Dp.ext h z.1 h1) (DpAll.ext h z.2 h2)
end
end
theorem still_ints : ∀ xs : List Int, stillAll (xs.map .int) = true
  | [] => rfl
  | x :: xs => by rw [List.map_cons, stillAll, still, still_ints xs] <;> first | rfl | simp
theorem still_side (s : Side) : still (dSide s) = true := by rw [dSide, still]; exact still_ints s
theorem still_rule (r : Rule) : still (dRule r) = true := by
  rw [dRule, still, stillAll, still_side, stillAll, still_side, stillAll] <;> rfl
theorem still_all : ∀ rs : List Rule, stillAll (rs.map dRule) = true
  | [] => rfl
  | r :: rs => by rw [List.map_cons, stillAll, still_rule, still_all rs] <;> rfl
theorem still_rules (rs : List Rule) : still (dRules rs) = true := by rw [dRules, still]; exact still_all rs
theorem still_book (b : Book) : still (dBook b) = true := by
  rw [dBook, still, stillAll, still, stillAll, still_rules, stillAll] <;> first | rfl | simp
section
variable {H : Hp} {K : PySem.W.Frag} {v : V} {vs : List V}
theorem dp_ints : ∀ {xs : List Int} {vs : List V}, DpAll K H vs (xs.map .int) ↔ vs = xs.map V.int
  | [], _ => ⟨fun h => by cases h; rfl, fun h => by subst h; exact .nil⟩
  | x :: xs, vs => ⟨fun h => by
      cases h with
      | cons h1 h2 =>
        cases h1
        rw [dp_ints.mp h2]
        rfl, fun h => by
      subst h
      exact .cons (.int x) (dp_ints.mpr rfl)⟩
theorem dp_side {s : Side} : Dp K H v (dSide s) ↔ ∃ a, v = .ref a ∧ SqT K H a (s.map V.int) := by
  constructor
  · intro h
    rw [dSide] at h
    cases h with
    | tup h1 h2 => rw [dp_ints.mp h2] at h1; exact ⟨_, rfl, h1⟩
  · rintro ⟨a, rfl, h⟩
    exact .tup h (dp_ints.mpr rfl)
theorem dp_rule {r : Rule} : Dp K H v (dRule r) ↔ ∃ a x y, v = .ref a ∧ SqT K H a [x, y] ∧ Dp K H x (dSide r.1) ∧ Dp K H y (dSide r.2) := by
  constructor
  · intro h
    rw [dRule] at h
    cases h with
    | tup h1 h2 =>
      cases h2 with
      | cons q1 q2 =>
        cases q2 with
        | cons q3 q4 => cases q4; exact ⟨_, _, _, rfl, h1, q1, q3⟩
  · rintro ⟨a, x, y, rfl, h, h1, h2⟩
    exact .tup h (.cons h1 (.cons h2 .nil))
theorem dp_rules {rs : List Rule} : Dp K H v (dRules rs) ↔ ∃ a vs, v = .ref a ∧ SqT K H a vs ∧ DpAll K H vs (rs.map dRule) := by
  constructor
  · intro h
    rw [dRules] at h
    cases h with
    | tup h1 h2 => exact ⟨_, _, rfl, h1, h2⟩
  · rintro ⟨a, vs, rfl, h1, h2⟩
    exact .tup h1 h2
theorem dp_book {b : Book} : Dp K H v (dBook b) ↔ ∃ a y, v = .ref a ∧ SqT K H a [.int b.1, y] ∧ Dp K H y (dRules b.2) := by
  constructor
  · intro h
    rw [dBook] at h
    cases h with
    | tup h1 h2 =>
      cases h2 with
      | cons q1 q2 =>
        cases q1
        cases q2 with
        | cons q3 q4 => cases q4; exact ⟨_, _, rfl, h1, q3⟩
  · rintro ⟨a, y, rfl, h, h1⟩
    exact .tup h (.cons (.int _) (.cons h1 .nil))
theorem dpAll_length : ∀ {ds : List PyData} {vs : List V}, DpAll K H vs ds → vs.length = ds.length
  | _, _, .nil => rfl
  | _, _, .cons _ h => congrArg Nat.succ (dpAll_length h)
theorem dpAll_get : ∀ {ds : List PyData} {vs : List V} {i : Nat} {v : V}, DpAll K H vs ds → vs[i]? = some v → ∃ d, ds[i]? = some d ∧ Dp K H v d
  | _, _, _, _, .nil, e => by simp at e
  | _, _, 0, _, .cons h _, e => by simp at e; subst e; exact ⟨_, rfl, h⟩
  | _, _, i + 1, _, .cons _ h, e => by
    obtain ⟨d, h1, h2⟩ := dpAll_get (i := i) h (by simpa using e)
    exact ⟨d, by simpa using h1, h2⟩
end

/-! ### the order of rules in the machine -/
section
variable {X : Cx} {pins : List (Addr × Obj)} {σ : L2.St} {H : Hp} {s : Shared}
theorem side_at (I : Inv X pins σ H s) {x : V} {u : Value} {k : Side} (h : Dp X.K H x (dSide k)) (r : RelV x u) : ∃ a its, u = .ref a ∧ s.heap.IsTuple a its.toArray ∧ IntsAre its k := by
  obtain ⟨a, rfl, hs⟩ := dp_side.mp h
  obtain rfl : u = Value.ref a := r
  obtain ⟨its, rv, ht, _⟩ := I.tuple hs
  exact ⟨a, its, rfl, ht, Vals.ints rv⟩
theorem le_lex : ∀ (k i : Nat) (xs ys : List Int), min xs.length ys.length - i = k → i ≤ min xs.length ys.length →
    Ob.lexAt (fun j => decide (xs.getD j 0 = ys.getD j 0)) (fun j => decide (xs.getD j 0 ≤ ys.getD j 0)) (decide (xs.length ≤ ys.length)) i k = !ltI (ys.drop i) (xs.drop i)
  | 0, i, xs, ys, hk, hi => by
    rw [Ob.lexAt_zero]
    by_cases c : xs.length ≤ ys.length
    · have e : i = xs.length := by omega
      rw [decide_eq_true c, e, List.drop_length]
      cases ys.drop xs.length <;> rfl
    · have e : i = ys.length := by omega
      rw [decide_eq_false c, e, List.drop_length]
      cases q : xs.drop ys.length with
      | nil => rw [List.drop_eq_nil_iff] at q; omega
      | cons => rfl
  | k + 1, i, xs, ys, hk, hi => by
    have h1 : i < xs.length := by omega
    have h2 : i < ys.length := by omega
    have g1 : xs.getD i 0 = xs[i] := by rw [List.getD_eq_getElem?_getD, List.getElem?_eq_getElem h1]; rfl
    have g2 : ys.getD i 0 = ys[i] := by rw [List.getD_eq_getElem?_getD, List.getElem?_eq_getElem h2]; rfl
    rw [Ob.lexAt_succ, List.drop_eq_getElem_cons h1, List.drop_eq_getElem_cons h2, ltI, g1, g2]
    by_cases c : xs[i] = ys[i]
    · rw [if_pos (decide_eq_true c), if_pos c.symm]
      exact le_lex k (i + 1) xs ys (by omega) (by omega)
    · rw [if_neg (by simpa using c), if_neg (Ne.symm c)]
      by_cases d : xs[i] ≤ ys[i]
      · rw [decide_eq_true d, decide_eq_false (by omega)]; rfl
      · rw [decide_eq_false d, decide_eq_true (by omega)]; rfl
theorem eqAt_ints {A : Around} {s : Shared} {xs ys : List Value} {k m : List Int} (h1 : IntsAre xs k) (h2 : IntsAre ys m) (j : Nat) (a : j < xs.toArray.size) (b : j < ys.toArray.size) :
    SeqAt.EqAt A s xs.toArray[j] ys.toArray[j] (decide (k.getD j 0 = m.getD j 0)) := by
  have at_ : ∀ (zs : List Value) (n : List Int) (q : j < zs.toArray.size), IntsAre zs n → ∃ t, zs.toArray[j] = .int (n.getD j 0) t := fun zs n q hz =>
    PyProof.Rows.IntsAre.int_at hz j _ (by simp at q; simp [q])
  obtain ⟨t, et⟩ := at_ xs k a h1
  obtain ⟨t', et'⟩ := at_ ys m b h2
  rw [et, et']
  have z : (k.getD j 0 == m.getD j 0) = decide (k.getD j 0 = m.getD j 0) := by
    by_cases q : k.getD j 0 = m.getD j 0
    · rw [decide_eq_true q]; exact beq_iff_eq.mpr q
    · rw [decide_eq_false q]; exact beq_eq_false_iff_ne.mpr q
  rw [← z]
  exact SeqAt.EqAt.int_int _ _ _ _
theorem int_item {zs : List Value} {n : List Int} (hz : IntsAre zs n) (j : Nat) (q : j < zs.toArray.size) : ∃ t, zs.toArray[j] = .int (n.getD j 0) t :=
  PyProof.Rows.IntsAre.int_at hz j _ (by simp at q; simp [q])
theorem rc_le_side {A : Around} {s : Shared} {a b : Addr} {xs ys : List Value} {k m : Side} (ha : s.heap.IsTuple a xs.toArray) (hb : s.heap.IsTuple b ys.toArray) (h1 : IntsAre xs k) (h2 : IntsAre ys m) (hu : A.units < cLine) :
    Ob.RcOp .LtE A s (.ref a) (.ref b) (!ltI m k) := by
  have R := Ob.RcOp.tuples_le (A := A) (s := s) (e := fun j => decide (k.getD j 0 = m.getD j 0)) (r := fun j => decide (k.getD j 0 ≤ m.getD j 0)) ha hb hu
    (fun j q1 q2 => eqAt_ints h1 h2 j q1 q2) (fun j q1 q2 _ => by
      obtain ⟨t, et⟩ := int_item h1 j q1
      obtain ⟨t', et'⟩ := int_item h2 j q2
      rw [et, et']
      exact Ob.RcOp.le_int _ _ _ _)
  rw [List.size_toArray, List.size_toArray, h1.length, h2.length, le_lex (min k.length m.length) 0 k m (by omega) (by omega)] at R
  exact R
/-- a <= b of two rules -/
def rLeR (K : PySem.W.Frag) : R2 := fun x y H Q => ∃ a b : Rule, Dp K H x (dRule a) ∧ Dp K H y (dRule b) ∧ Q (.bl (!ltR b a)) H
theorem op_leR (hu : X.A.units + 3 < cLine) : OpR X (compareOp .LtE) (rLeR X.K) := by
  intro pins s σ H x y v u Q I rx ry h
  obtain ⟨a, b, ha, hb, q⟩ := h
  obtain ⟨p, x1, x2, rfl, hp, hx1, hx2⟩ := dp_rule.mp ha
  obtain ⟨p', y1, y2, rfl, hp', hy1, hy2⟩ := dp_rule.mp hb
  obtain rfl : v = Value.ref p := rx
  obtain rfl : u = Value.ref p' := ry
  obtain ⟨its, rv, ht, _⟩ := I.tuple hp
  obtain ⟨its', rv', ht', _⟩ := I.tuple hp'
  have two : ∀ {c d : V} {l : List Value}, Vals [c, d] l → ∃ c' d', l = [c', d'] ∧ RelV c c' ∧ RelV d d' := fun {c d l} r => by
    cases r with
    | cons r1 r2 =>
      cases r2 with
      | cons r3 r4 => cases r4; exact ⟨_, _, rfl, r1, r3⟩
  obtain ⟨u1, u2, rfl, q1, q2⟩ := two rv
  obtain ⟨w1, w2, rfl, q3, q4⟩ := two rv'
  obtain ⟨a1, i1, rfl, t1, n1⟩ := side_at I hx1 q1
  obtain ⟨a2, i2, rfl, t2, n2⟩ := side_at I hx2 q2
  obtain ⟨b1, j1, rfl, t3, n3⟩ := side_at I hy1 q3
  obtain ⟨b2, j2, rfl, t4, n4⟩ := side_at I hy2 q4
  have eqs : ∀ {x y : V} {u w' : Value} {k m : Side}, Dp X.K H x (dSide k) → Dp X.K H y (dSide m) → RelV x u → RelV y w' → SeqAt.EqAt X.A.in1 s u w' (decide (k = m)) := fun {x y u w' k m} hx hy r r' => by
    obtain ⟨as, e1⟩ := Dp.reads I _ x u hx r
    obtain ⟨bs, e2⟩ := Dp.reads I _ y w' hy r'
    have d : (dSide k).depth = 1 := by rw [dSide, PyData.depth, depth_ints]
    have z := PySem.W.eqAt_alike _ _ X.A.in1 s u w' as bs e1 e2 (alike_side k m) (by show X.A.units + 1 + _ < _; rw [d]; omega)
    rw [eqv_side] at z
    exact z
  have E1 := eqs hx1 hy1 q1 q3
  have E2 := eqs hx2 hy2 q2 q4
  have hu1 : X.A.in1.units < cLine := by show X.A.units + 1 < _; omega
  have R1 := rc_le_side t1 t3 n1 n3 hu1
  have R2 := rc_le_side t2 t4 n2 n4 hu1
  have R := Ob.RcOp.tuples_le (A := X.A) (s := s) (e := fun j => if j = 0 then decide (a.1 = b.1) else decide (a.2 = b.2)) (r := fun j => if j = 0 then !ltI b.1 a.1 else !ltI b.2 a.2) ht ht' (by omega)
    (fun j z1 z2 => by
      have : j = 0 ∨ j = 1 := by simp at z1; omega
      rcases this with rfl | rfl
      · exact E1
      · exact E2) (fun j z1 z2 _ => by
      have : j = 0 ∨ j = 1 := by simp at z1; omega
      rcases this with rfl | rfl
      · exact R1
      · exact R2)
  have e : Ob.lexAt (fun j => if j = 0 then decide (a.1 = b.1) else decide (a.2 = b.2)) (fun j => if j = 0 then !ltI b.1 a.1 else !ltI b.2 a.2) true 0 2 = !ltR b a := by
    rw [Ob.lexAt_succ, Ob.lexAt_succ, Ob.lexAt_zero, ltR]
    by_cases c1 : a.1 = b.1
    · rw [if_pos (by simpa using c1), if_pos c1.symm]
      by_cases c2 : a.2 = b.2
      · rw [if_pos (by simpa using c2), c2, ltI_irr]; rfl
      · rw [if_neg (by simpa using c2)]; rfl
    · rw [if_neg (by simpa using c1), if_neg (Ne.symm c1)]; rfl
  have R' : Ob.RcOp .LtE X.A s (.ref p) (.ref p') (!ltR b a) := e ▸ R
  exact R' X.prog X.w X.xe (EP X pins σ Q) ⟨.bl _, H, I, rfl, q⟩
end
end SB
set_option Elab.async false
set_option linter.all false
set_option maxRecDepth 100000
set_option maxHeartbeats 2000000
/-! sorted(..) of rules: off a list, a dict's keys. -/
namespace SB
open PySem PySem.Spec PyProof.Rows L2
open PySem.W (EachIs dataLe dataLt AllAlike Sortable alike)
/-! ### the order -/
theorem ltI_core : ∀ xs ys : List Int, decide (xs < ys) = ltI xs ys
  | [], [] => by simp [ltI]
  | [], _ :: _ => by simp [ltI]
  | _ :: _, [] => by simp [ltI]
  | x :: xs, y :: ys => by
    have ih := ltI_core xs ys
    rw [ltI]
    by_cases e : x = y
    · subst e
      rw [if_pos rfl, ← ih]
      simp
    · rw [if_neg e]
      by_cases d : x < y
      · rw [decide_eq_true d]; exact decide_eq_true (List.cons_lt_cons_iff.mpr (.inl d))
      · rw [decide_eq_false d]
        have : ¬ (x :: xs < y :: ys) := by
          intro z
          rcases List.cons_lt_cons_iff.mp z with z | ⟨z, _⟩
          · exact d z
          · exact e z
        exact decide_eq_false this
theorem dataLt_side (a b : Side) : dataLt (dSide a) (dSide b) = ltI a b := by
  rw [dSide, dSide, PySem.W.dataLt_tuple]
  exact (PySem.W.dataLt_ints a b).trans (ltI_core a b)
theorem dataLt_rule (a b : Rule) : dataLt (dRule a) (dRule b) = ltR a b := by
  rw [dRule, dRule, PySem.W.dataLt_pair (alike_side _ _) (alike_side _ _), eqv_side, eqv_side, dataLt_side, dataLt_side, ltR]
  by_cases e : a.1 = b.1
  · rw [if_pos (by simpa using e), if_pos e]
    by_cases e2 : a.2 = b.2
    · rw [if_pos (by simpa using e2), e2, ltI_irr]
    · rw [if_neg (by simpa using e2)]
  · rw [if_neg (by simpa using e), if_neg e]
/-- a list of rules in order -/
def sortR (rs : List Rule) : List Rule := rs.mergeSort fun a b => !ltR b a
theorem leR_total (a b : Rule) : (!ltR b a || !ltR a b) = true := by
  cases h : ltR a b with
  | false => simp
  | true => rw [ltR_asym a b h]; rfl
theorem leR_trans (a b c : Rule) (h : (!ltR b a) = true) (h' : (!ltR c b) = true) : (!ltR c a) = true := by
  have h1 : ltR b a = false := by simpa using h
  have h2 : ltR c b = false := by simpa using h'
  cases q : ltR c a with
  | false => rfl
  | true =>
    cases q2 : ltR a b with
    | true => rw [ltR_trans c a b q q2] at h2; cases h2
    | false =>
      rw [ltR_tri a b q2 h1] at q
      rw [q] at h2
      cases h2
theorem sortR_perm (rs : List Rule) : (sortR rs).Perm rs := List.mergeSort_perm _ _
theorem sortR_up (rs : List Rule) : (sortR rs).Pairwise fun a b => ltR b a = false := by
  have h := List.pairwise_mergeSort (le := fun a b => !ltR b a) leR_trans leR_total rs
  exact h.imp fun q => by simpa using q
theorem sort_map {β : Type} (g : β → Rule) : ∀ bs : List β, (bs.mergeSort (dataLe false fun b => dRule (g b))).map g = sortR (bs.map g) := fun bs => by
  have e : (dataLe false fun b => dRule (g b)) = fun a b => (fun x y : Rule => !ltR y x) (g a) (g b) := by
    rw [PySem.W.dataLe_eq]
    funext a b
    simp only [cond_false]
    rw [dataLt_rule]
  rw [e, sortR]
  exact (List.map_mergeSort (f := g) (r := fun a b => (fun x y : Rule => !ltR y x) (g a) (g b)) (s := fun x y : Rule => !ltR y x) (fun a _ b _ => rfl))

/-! ### off anything that is collected -/
theorem still_reads : ∀ (d : PyData) {h : Heap} {v : Value} {as : List Addr}, still d = true → Reads h v d as → as = [] := by
  intro d h v as hs hr
  exact (PyData.rec (motive_1 := fun d => ∀ (v : Value) (as : List Addr), still d = true → Reads h v d as → as = []) (motive_2 := fun ds => ∀ (vs : List Value) (as : List Addr), stillAll ds = true → ReadsAll h vs ds as → as = [])
    (motive_3 := fun _ => True) (motive_4 := fun _ => True)
    (fun v as _ r => by cases r; rfl) (fun b v as _ r => by cases r; rfl) (fun i v as _ r => by cases r; rfl) (fun x v as _ r => by cases r; rfl)
    (fun xs _ v as s _ => by simp [still] at s) (fun xs ih v as s r => by
      cases r with
      | tuple h1 h2 h3 h4 => exact ih _ _ (by simpa [still] using s) h4) (fun _ _ v as s _ => by simp [still] at s)
    (fun vs as _ r => by cases r; rfl) (fun x xs ih1 ih2 vs as s r => by
      cases r with
      | cons r1 r2 =>
        have z := Bool.and_eq_true_iff.mp (show (still x && stillAll xs) = true by simpa [stillAll] using s)
        rw [ih1 _ _ z.1 r1, ih2 _ _ z.2 r2]; rfl) trivial (fun _ _ _ _ => trivial) (fun _ _ _ _ => trivial) d) v as hs hr
section
variable {prog : Program} {w : World} {A : Around} {E : Value → Shared → Prop} {s : Shared} {β : Type} {enc : β → PyData} {R : Value → β → Prop}
theorem sorted_col {x : Value} {Q : Value → Shared → Prop}
    (hc : wpAny (model prog w) A.in1 (collect x) (fun vs s1 => ∃ bs : List β, EachIs R vs bs ∧ EachIs (fun v b => Reads s1.heap v (enc b) []) vs bs ∧ AllAlike (bs.map enc) ∧ Sortable (bs.map enc) ∧ bs.length ≤ sizeLine ∧
      (∀ b ∈ bs, A.units + 3 + (enc b).depth < cLine) ∧
      ∀ (p : Addr) (s2 : Shared) (out : List Value) (c : Nat), (∀ b o, s1.heap.get? b = some o → s2.heap.get? b = some o) → s2.gens = s1.gens → s2.os = s1.os → s1.heap.objs.size ≤ p →
        s2.heap.get? p = some (seqObj "list" out.toArray c) → EachIs R out (bs.mergeSort (dataLe false enc)) → Q (.ref p) s2) E s) :
    wpAny (model prog w) A (call (.builtin "sorted") [x]) Q E s := by
  refine Calls.call_function_entry kind_sorted plain_sorted entry_sorted (args_sorted1 _) ?_
  unfold Builtin.«sorted»
  refine wpAny_bind (m := checkCount "sorted" 1 1 _) (wpAny_pure ?_)
  refine wpAny_bind (wpAny_mono hc (fun vs s1 h1 => ?_) fun _ _ e => e)
  obtain ⟨bs, e1, e2, hal, hk, hL, hu, hq⟩ := h1
  have hvl : vs.length ≤ sizeLine := by rw [e1.length]; exact hL
  refine wpAny_bind (wpAny_newList ?_ hvl)
  have ho : (s1.heap.push (seqObj "list" vs.toArray 0)).get? s1.heap.objs.size = some (seqObj "list" vs.toArray 0) := Heap.get?_push_size _ rfl
  have kp : ∀ b o, s1.heap.get? b = some o → (s1.heap.push (seqObj "list" vs.toArray 0)).get? b = some o := fun b o e => Heap.get?_push_of_some _ e
  refine wpAny_bind (wpAny_holding (PySem.W.list_sort_data (s := { s1 with heap := s1.heap.push (seqObj "list" vs.toArray 0) }) (R := R) (enc := enc) (bs := bs) ho e1 ?_ hal hk hL ?_ fun out hout hS => ?_))
  · exact e2.mono fun v b r => ⟨[], PyProof.Rows.Reads.keeps kp r, List.not_mem_nil⟩
  · intro b hb
    have := hu b hb
    show A.units + 1 + 1 + _ < _
    omega
  · obtain ⟨c, hcc⟩ := sortedHeap_at (vs := vs) (out := out.toArray) ho
    refine wpAny_pure ⟨_, rfl, hq s1.heap.objs.size { s1 with heap := sortedHeap (s1.heap.push (seqObj "list" vs.toArray 0)) s1.heap.objs.size vs out.toArray } out c (fun b o e => ?_) rfl rfl (Nat.le_refl _) hcc hS⟩
    have hlt := Heap.lt_size e
    show (sortedHeap (s1.heap.push (seqObj "list" vs.toArray 0)) s1.heap.objs.size vs out.toArray).get? b = some o
    rw [sortedHeap_old (Nat.ne_of_lt hlt) (by rw [size_push']; exact Nat.lt_succ_of_lt hlt)]
    exact kp b o e
end
end SB
set_option Elab.async false
set_option linter.all false
set_option maxRecDepth 100000
set_option maxHeartbeats 4000000
namespace DL
open PySem PySem.Spec PyProof.Rows L2
open PySem.W (Frag dataLt alike)
open SB (Rule Book dSide dRule ltR ltI eqv_side eqv_rule alike_side alike_rule dataLt_rule dataLt_side)
/-! ### words, rules, books as values -/
abbrev wD (l : List Int) : D := .tup (l.map .int)
abbrev ruleD (p : Rule) : D := .tup [wD p.1, wD p.2]
abbrev bookD (b : Book) : D := .tup [.int b.1, .tup (b.2.map ruleD)]
theorem toPs_ints : ∀ l : List Int, toPs (l.map .int) = some (l.map .int)
  | [] => rfl
  | x :: l => by rw [List.map_cons, toPs, toP, toPs_ints l]; rfl
theorem toP_w (l : List Int) : toP (wD l) = some (dSide l) := by rw [wD, toP, toPs_ints]; rfl
theorem toP_rule (p : Rule) : toP (ruleD p) = some (dRule p) := by rw [ruleD, toP, toPs, toP_w, toPs, toP_w, toPs]; rfl
theorem shaped_w (k : List Int) : SeqAt.shaped (dSide k) = true := by
  have h : ∀ xs : List Int, PyData.canLayAll0 (xs.map .int) = true := fun xs => by
    induction xs with
    | nil => rfl
    | cons x xs ih => rw [List.map_cons, PyData.canLayAll0, ih, PyData.canLay0]; rfl
  rw [SeqAt.shaped, dSide, PyData.canLay0, h, PyData.depth, depth_ints]; rfl

theorem eq_w {a b : List Int} {h : DH} {Q : VD} (q : Q (.bl (decide (a = b))) h) : dEq (wD a) (wD b) h Q := ⟨0, _, _, toP_w a, toP_w b, shaped_w a, shaped_w b, by rw [eqv_side]; exact q⟩
theorem ne_w {a b : List Int} {h : DH} {Q : VD} (q : Q (.bl (!decide (a = b))) h) : dNe (wD a) (wD b) h Q := ⟨0, _, _, toP_w a, toP_w b, shaped_w a, shaped_w b, by rw [eqv_side]; exact q⟩
theorem depth_r (p : Rule) : (dRule p).depth ≤ 60 := by
  have d : ∀ l : List Int, (dSide l).depth = 1 := fun l => by show PyData.depthAll (l.map .int) + 1 = 1; rw [depth_ints]
  show max (dSide p.1).depth (max (dSide p.2).depth 0) + 1 ≤ 60
  rw [d, d]; decide
theorem le_rule {a b : Rule} {h : DH} {Q : VD} (q : Q (.bl (!ltR b a)) h) : dLeA (ruleD a) (ruleD b) h Q :=
  ⟨0, _, _, toP_rule a, toP_rule b, alike_rule a b, (fun z => nomatch (show PyData.tuple _ = PyData.none from z)), by have := depth_r a; omega, by show Q (.bl (!dataLt (dRule b) (dRule a))) h; rw [dataLt_rule]; exact q⟩
theorem gt_w {a b : List Int} {h : DH} {Q : VD} (q : Q (.bl (ltI b a)) h) : dGtA (wD a) (wD b) h Q :=
  ⟨0, _, _, toP_w a, toP_w b, alike_side a b, (fun z => nomatch (show PyData.tuple _ = PyData.none from z)), by
    have d : (dSide a).depth = 1 := by show PyData.depthAll (a.map .int) + 1 = 1; rw [depth_ints]
    omega, by show Q (.bl (dataLt (dSide b) (dSide a))) h; rw [dataLt_side]; exact q⟩
structure OkRule (n : Int) (p : Rule) : Prop where
  one : 1 ≤ p.1.length
  three : p.1.length ≤ 3
  same : p.1.length = p.2.length
  l : ∀ x ∈ p.1, 0 ≤ x ∧ x < n
  r : ∀ x ∈ p.2, 0 ≤ x ∧ x < n
  ne : p.1 ≠ p.2
structure OkBook (b : Book) : Prop where
  lo : 1 ≤ b.1
  hi : b.1 ≤ 4
  few : b.2.length ≤ 12
  each : ∀ p ∈ b.2, OkRule b.1 p
  up : b.2.Pairwise fun x y => ltR x y = true
theorem side_ok {n : Int} {l : List Int} (h1 : 1 ≤ l.length) (h2 : l.length ≤ 3) (h : ∀ x ∈ l, 0 ≤ x ∧ x < n) : sideB n l = true := by
  unfold sideB
  rw [decide_eq_true (show 1 ≤ l.length ∧ l.length ≤ 3 from ⟨h1, h2⟩), Bool.true_and]
  exact List.all_eq_true.mpr fun x hx => decide_eq_true (h x hx)
/-- is_rule of a rule -/
def spRule : DSp := fun ds h Q _ => ∃ (p : Rule) (n : Int), ds = [ruleD p, .int n] ∧ OkRule n p ∧ Q (.bl true) h
theorem lenA_tup {h : DH} {xs : List D} {Q : VD} (q : Q (.int xs.length) h) : cLenA [.tup xs] h Q := q
theorem start2' (n : Nat) (a b : D) : startD (n + 2) [a, b] = some a :: some b :: List.replicate n none := start2 n a b
theorem sat_is_rule {ds : List D} {h : DH} {Q : VD} {E : DXK} (q : spRule ds h Q E) : tau_is_rule spSide (endsD Q E) (startD 4 ds) h := by
  obtain ⟨p, n, rfl, ok, q⟩ := q
  unfold tau_is_rule
  simp only [dSeq, dIf, dExpr, dRet, dRetN, dNext, dAsg, dNever, eVar, eC, eTup, eLst, aCons, aNil, eOp, eCB, eMt, eCall, eIf, eNotT, eAnd, eOr, eTru, eTst, eNot, eAndV, eOrV, eNeg, eIsi, eChain, gVar, gTupD, gsCons, gsNil, ↓reduceIte, Bool.false_eq_true, Bool.not_true, Bool.not_false, i_tru, i_len, decide_true, decide_false, List.length_map, yes, dFor, dPar, dPar3, eLRg, eSl, oNone, oSome, eDnew, eRev, eSortedKeys, eListKeys, wipeD, tgVar, gSto, eLc, iRng1D, iRng2D, iSeq, i_add, i_sub, i_gt, i_le, i_lt, i_ge, i_eq, i_ne, i_int, i_mod, i_fdv, i_mul, i_pow, start1, start2, start3, List.replicate, List.getElem?_cons_zero, List.getElem?_cons_succ, Option.some.injEq, exists_eq_left', List.set, Nat.reduceAdd, List.length_cons, List.length_nil, List.cons.injEq, and_true, true_and, exists_eq_left, exists_and_left, D.tup.injEq, D.int.injEq, D.bl.injEq]
  refine ⟨"tuple", rfl, true, by decide +kernel, ?_⟩
  simp only [dSeq, dIf, dExpr, dRet, dRetN, dNext, dAsg, dNever, eVar, eC, eTup, eLst, aCons, aNil, eOp, eCB, eMt, eCall, eIf, eNotT, eAnd, eOr, eTru, eTst, eNot, eAndV, eOrV, eNeg, eIsi, eChain, gVar, gTupD, gsCons, gsNil, ↓reduceIte, Bool.false_eq_true, Bool.not_true, Bool.not_false, i_tru, i_len, decide_true, decide_false, List.length_map, yes, dFor, dPar, dPar3, eLRg, eSl, oNone, oSome, eDnew, eRev, eSortedKeys, eListKeys, wipeD, tgVar, gSto, eLc, iRng1D, iRng2D, iSeq, i_add, i_sub, i_gt, i_le, i_lt, i_ge, i_eq, i_ne, i_int, i_mod, i_fdv, i_mul, i_pow, start1, start2, start3, List.replicate, List.getElem?_cons_zero, List.getElem?_cons_succ, Option.some.injEq, exists_eq_left', List.set, Nat.reduceAdd, List.length_cons, List.length_nil, List.cons.injEq, and_true, true_and, exists_eq_left, exists_and_left, D.tup.injEq, D.int.injEq, D.bl.injEq]
  refine ⟨_, _, ⟨rfl, rfl⟩, _, _, rfl, rfl, ?_⟩
  refine ⟨p.1, n, rfl, ?_⟩
  rw [side_ok ok.one ok.three ok.l]
  simp only [dSeq, dIf, dExpr, dRet, dRetN, dNext, dAsg, dNever, eVar, eC, eTup, eLst, aCons, aNil, eOp, eCB, eMt, eCall, eIf, eNotT, eAnd, eOr, eTru, eTst, eNot, eAndV, eOrV, eNeg, eIsi, eChain, gVar, gTupD, gsCons, gsNil, ↓reduceIte, Bool.false_eq_true, Bool.not_true, Bool.not_false, i_tru, i_len, decide_true, decide_false, List.length_map, yes, dFor, dPar, dPar3, eLRg, eSl, oNone, oSome, eDnew, eRev, eSortedKeys, eListKeys, wipeD, tgVar, gSto, eLc, iRng1D, iRng2D, iSeq, i_add, i_sub, i_gt, i_le, i_lt, i_ge, i_eq, i_ne, i_int, i_mod, i_fdv, i_mul, i_pow, start1, start2, start3, List.replicate, List.getElem?_cons_zero, List.getElem?_cons_succ, Option.some.injEq, exists_eq_left', List.set, Nat.reduceAdd, List.length_cons, List.length_nil, List.cons.injEq, and_true, true_and, exists_eq_left, exists_and_left, D.tup.injEq, D.int.injEq, D.bl.injEq]
  refine ⟨p.2, n, rfl, ?_⟩
  rw [side_ok (by rw [← ok.same]; exact ok.one) (by rw [← ok.same]; exact ok.three) ok.r]
  simp only [dSeq, dIf, dExpr, dRet, dRetN, dNext, dAsg, dNever, eVar, eC, eTup, eLst, aCons, aNil, eOp, eCB, eMt, eCall, eIf, eNotT, eAnd, eOr, eTru, eTst, eNot, eAndV, eOrV, eNeg, eIsi, eChain, gVar, gTupD, gsCons, gsNil, ↓reduceIte, Bool.false_eq_true, Bool.not_true, Bool.not_false, i_tru, i_len, decide_true, decide_false, List.length_map, yes, dFor, dPar, dPar3, eLRg, eSl, oNone, oSome, eDnew, eRev, eSortedKeys, eListKeys, wipeD, tgVar, gSto, eLc, iRng1D, iRng2D, iSeq, i_add, i_sub, i_gt, i_le, i_lt, i_ge, i_eq, i_ne, i_int, i_mod, i_fdv, i_mul, i_pow, start1, start2, start3, List.replicate, List.getElem?_cons_zero, List.getElem?_cons_succ, Option.some.injEq, exists_eq_left', List.set, Nat.reduceAdd, List.length_cons, List.length_nil, List.cons.injEq, and_true, true_and, exists_eq_left, exists_and_left, D.tup.injEq, D.int.injEq, D.bl.injEq]
  rw [ok.same]
  simp only [dSeq, dIf, dExpr, dRet, dRetN, dNext, dAsg, dNever, eVar, eC, eTup, eLst, aCons, aNil, eOp, eCB, eMt, eCall, eIf, eNotT, eAnd, eOr, eTru, eTst, eNot, eAndV, eOrV, eNeg, eIsi, eChain, gVar, gTupD, gsCons, gsNil, ↓reduceIte, Bool.false_eq_true, Bool.not_true, Bool.not_false, i_tru, i_len, decide_true, decide_false, List.length_map, yes, dFor, dPar, dPar3, eLRg, eSl, oNone, oSome, eDnew, eRev, eSortedKeys, eListKeys, wipeD, tgVar, gSto, eLc, iRng1D, iRng2D, iSeq, i_add, i_sub, i_gt, i_le, i_lt, i_ge, i_eq, i_ne, i_int, i_mod, i_fdv, i_mul, i_pow, start1, start2, start3, List.replicate, List.getElem?_cons_zero, List.getElem?_cons_succ, Option.some.injEq, exists_eq_left', List.set, Nat.reduceAdd, List.length_cons, List.length_nil, List.cons.injEq, and_true, true_and, exists_eq_left, exists_and_left, D.tup.injEq, D.int.injEq, D.bl.injEq]
  refine ne_w ?_
  rw [decide_eq_false ok.ne]
  exact q

/-- is_frame of a book -/
def spFrame : DSp := fun ds h Q _ => ∃ b : Book, ds = [bookD b] ∧ 1 ≤ b.1 ∧ b.1 ≤ 4 ∧ b.2.length ≤ 12 ∧ Q (.bl true) h
theorem sat_is_frame {ds : List D} {h : DH} {Q : VD} {E : DXK} (q : spFrame ds h Q E) : tau_is_frame spInt (endsD Q E) (startD 3 ds) h := by
  obtain ⟨b, rfl, b1, b2, b3, q⟩ := q
  unfold tau_is_frame
  simp only [dSeq, dIf, dExpr, dRet, dRetN, dNext, dAsg, dNever, eVar, eC, eTup, eLst, aCons, aNil, eOp, eCB, eMt, eCall, eIf, eNotT, eAnd, eOr, eTru, eTst, eNot, eAndV, eOrV, eNeg, eIsi, eChain, gVar, gTupD, gsCons, gsNil, ↓reduceIte, Bool.false_eq_true, Bool.not_true, Bool.not_false, i_tru, i_len, decide_true, decide_false, List.length_map, yes, dFor, dPar, dPar3, eLRg, eSl, oNone, oSome, eDnew, eRev, eSortedKeys, eListKeys, wipeD, tgVar, gSto, eLc, iRng1D, iRng2D, iSeq, i_add, i_sub, i_gt, i_le, i_lt, i_ge, i_eq, i_ne, i_int, i_mod, i_fdv, i_mul, i_pow, start1, start2, start3, List.replicate, List.getElem?_cons_zero, List.getElem?_cons_succ, Option.some.injEq, exists_eq_left', List.set, Nat.reduceAdd, List.length_cons, List.length_nil, List.cons.injEq, and_true, true_and, exists_eq_left, exists_and_left, D.tup.injEq, D.int.injEq, D.bl.injEq]
  refine ⟨"tuple", rfl, true, by decide +kernel, ?_⟩
  simp only [dSeq, dIf, dExpr, dRet, dRetN, dNext, dAsg, dNever, eVar, eC, eTup, eLst, aCons, aNil, eOp, eCB, eMt, eCall, eIf, eNotT, eAnd, eOr, eTru, eTst, eNot, eAndV, eOrV, eNeg, eIsi, eChain, gVar, gTupD, gsCons, gsNil, ↓reduceIte, Bool.false_eq_true, Bool.not_true, Bool.not_false, i_tru, i_len, decide_true, decide_false, List.length_map, yes, dFor, dPar, dPar3, eLRg, eSl, oNone, oSome, eDnew, eRev, eSortedKeys, eListKeys, wipeD, tgVar, gSto, eLc, iRng1D, iRng2D, iSeq, i_add, i_sub, i_gt, i_le, i_lt, i_ge, i_eq, i_ne, i_int, i_mod, i_fdv, i_mul, i_pow, start1, start2, start3, List.replicate, List.getElem?_cons_zero, List.getElem?_cons_succ, Option.some.injEq, exists_eq_left', List.set, Nat.reduceAdd, List.length_cons, List.length_nil, List.cons.injEq, and_true, true_and, exists_eq_left, exists_and_left, D.tup.injEq, D.int.injEq, D.bl.injEq]
  refine ⟨_, _, ⟨rfl, rfl⟩, _, _, rfl, rfl, ?_⟩
  refine ⟨b.1, rfl, ?_⟩
  simp only [dSeq, dIf, dExpr, dRet, dRetN, dNext, dAsg, dNever, eVar, eC, eTup, eLst, aCons, aNil, eOp, eCB, eMt, eCall, eIf, eNotT, eAnd, eOr, eTru, eTst, eNot, eAndV, eOrV, eNeg, eIsi, eChain, gVar, gTupD, gsCons, gsNil, ↓reduceIte, Bool.false_eq_true, Bool.not_true, Bool.not_false, i_tru, i_len, decide_true, decide_false, List.length_map, yes, dFor, dPar, dPar3, eLRg, eSl, oNone, oSome, eDnew, eRev, eSortedKeys, eListKeys, wipeD, tgVar, gSto, eLc, iRng1D, iRng2D, iSeq, i_add, i_sub, i_gt, i_le, i_lt, i_ge, i_eq, i_ne, i_int, i_mod, i_fdv, i_mul, i_pow, start1, start2, start3, List.replicate, List.getElem?_cons_zero, List.getElem?_cons_succ, Option.some.injEq, exists_eq_left', List.set, Nat.reduceAdd, List.length_cons, List.length_nil, List.cons.injEq, and_true, true_and, exists_eq_left, exists_and_left, D.tup.injEq, D.int.injEq, D.bl.injEq]
  rw [decide_eq_true b1]
  simp only [dSeq, dIf, dExpr, dRet, dRetN, dNext, dAsg, dNever, eVar, eC, eTup, eLst, aCons, aNil, eOp, eCB, eMt, eCall, eIf, eNotT, eAnd, eOr, eTru, eTst, eNot, eAndV, eOrV, eNeg, eIsi, eChain, gVar, gTupD, gsCons, gsNil, ↓reduceIte, Bool.false_eq_true, Bool.not_true, Bool.not_false, i_tru, i_len, decide_true, decide_false, List.length_map, yes, dFor, dPar, dPar3, eLRg, eSl, oNone, oSome, eDnew, eRev, eSortedKeys, eListKeys, wipeD, tgVar, gSto, eLc, iRng1D, iRng2D, iSeq, i_add, i_sub, i_gt, i_le, i_lt, i_ge, i_eq, i_ne, i_int, i_mod, i_fdv, i_mul, i_pow, start1, start2, start3, List.replicate, List.getElem?_cons_zero, List.getElem?_cons_succ, Option.some.injEq, exists_eq_left', List.set, Nat.reduceAdd, List.length_cons, List.length_nil, List.cons.injEq, and_true, true_and, exists_eq_left, exists_and_left, D.tup.injEq, D.int.injEq, D.bl.injEq]
  rw [decide_eq_true b2]
  simp only [dSeq, dIf, dExpr, dRet, dRetN, dNext, dAsg, dNever, eVar, eC, eTup, eLst, aCons, aNil, eOp, eCB, eMt, eCall, eIf, eNotT, eAnd, eOr, eTru, eTst, eNot, eAndV, eOrV, eNeg, eIsi, eChain, gVar, gTupD, gsCons, gsNil, ↓reduceIte, Bool.false_eq_true, Bool.not_true, Bool.not_false, i_tru, i_len, decide_true, decide_false, List.length_map, yes, dFor, dPar, dPar3, eLRg, eSl, oNone, oSome, eDnew, eRev, eSortedKeys, eListKeys, wipeD, tgVar, gSto, eLc, iRng1D, iRng2D, iSeq, i_add, i_sub, i_gt, i_le, i_lt, i_ge, i_eq, i_ne, i_int, i_mod, i_fdv, i_mul, i_pow, start1, start2, start3, List.replicate, List.getElem?_cons_zero, List.getElem?_cons_succ, Option.some.injEq, exists_eq_left', List.set, Nat.reduceAdd, List.length_cons, List.length_nil, List.cons.injEq, and_true, true_and, exists_eq_left, exists_and_left, D.tup.injEq, D.int.injEq, D.bl.injEq]
  refine ⟨"tuple", rfl, true, by decide +kernel, ?_⟩
  simp only [dSeq, dIf, dExpr, dRet, dRetN, dNext, dAsg, dNever, eVar, eC, eTup, eLst, aCons, aNil, eOp, eCB, eMt, eCall, eIf, eNotT, eAnd, eOr, eTru, eTst, eNot, eAndV, eOrV, eNeg, eIsi, eChain, gVar, gTupD, gsCons, gsNil, ↓reduceIte, Bool.false_eq_true, Bool.not_true, Bool.not_false, i_tru, i_len, decide_true, decide_false, List.length_map, yes, dFor, dPar, dPar3, eLRg, eSl, oNone, oSome, eDnew, eRev, eSortedKeys, eListKeys, wipeD, tgVar, gSto, eLc, iRng1D, iRng2D, iSeq, i_add, i_sub, i_gt, i_le, i_lt, i_ge, i_eq, i_ne, i_int, i_mod, i_fdv, i_mul, i_pow, start1, start2, start3, List.replicate, List.getElem?_cons_zero, List.getElem?_cons_succ, Option.some.injEq, exists_eq_left', List.set, Nat.reduceAdd, List.length_cons, List.length_nil, List.cons.injEq, and_true, true_and, exists_eq_left, exists_and_left, D.tup.injEq, D.int.injEq, D.bl.injEq]
  rw [decide_eq_true (show ((b.2.length : Nat) : Int) ≤ 12 by omega)]
  exact q
theorem enumD_at (xs : List D) (i : Nat) (z : D) (e : (enumD 0 xs)[i]? = some z) : ∃ x, xs[i]? = some x ∧ z = .tup [.int (i : Nat), x] := by
  obtain ⟨x, h1, h2⟩ := enumD_get xs 0 i z e
  exact ⟨x, h1, by rw [h2, Nat.zero_add]⟩
/-- check_word of a word -/
def spWord : DSp := fun ds h Q _ => ∃ (l : List Int) (n m : Int), ds = [wD l, .int n, .int m] ∧ (l.length : Int) ≤ m ∧ (∀ x ∈ l, 0 ≤ x ∧ x < n) ∧ Q .non h
theorem sat_check_word {ds : List D} {h : DH} {Q : VD} {E : DXK} (q : spWord ds h Q E) : tau_check_word spLetter (endsD Q E) (startD 5 ds) h := by
  obtain ⟨l, n, m, rfl, hl, al, q⟩ := q
  unfold tau_check_word
  simp only [dSeq, dIf, dExpr, dRet, dRetN, dNext, dAsg, dNever, eVar, eC, eTup, eLst, aCons, aNil, eOp, eCB, eMt, eCall, eIf, eNotT, eAnd, eOr, eTru, eTst, eNot, eAndV, eOrV, eNeg, eIsi, eChain, gVar, gTupD, gsCons, gsNil, ↓reduceIte, Bool.false_eq_true, Bool.not_true, Bool.not_false, i_tru, i_len, decide_true, decide_false, List.length_map, yes, dFor, dPar, dPar3, eLRg, eSl, oNone, oSome, eDnew, eRev, eSortedKeys, eListKeys, wipeD, tgVar, gSto, eLc, iRng1D, iRng2D, iSeq, i_add, i_sub, i_gt, i_le, i_lt, i_ge, i_eq, i_ne, i_int, i_mod, i_fdv, i_mul, i_pow, start1, start2, start3, List.replicate, List.getElem?_cons_zero, List.getElem?_cons_succ, Option.some.injEq, exists_eq_left', List.set, Nat.reduceAdd, List.length_cons, List.length_nil, List.cons.injEq, and_true, true_and, exists_eq_left, exists_and_left, D.tup.injEq, D.int.injEq, D.bl.injEq]
  refine ⟨"tuple", rfl, true, by decide +kernel, ?_⟩
  simp only [dSeq, dIf, dExpr, dRet, dRetN, dNext, dAsg, dNever, eVar, eC, eTup, eLst, aCons, aNil, eOp, eCB, eMt, eCall, eIf, eNotT, eAnd, eOr, eTru, eTst, eNot, eAndV, eOrV, eNeg, eIsi, eChain, gVar, gTupD, gsCons, gsNil, ↓reduceIte, Bool.false_eq_true, Bool.not_true, Bool.not_false, i_tru, i_len, decide_true, decide_false, List.length_map, yes, dFor, dPar, dPar3, eLRg, eSl, oNone, oSome, eDnew, eRev, eSortedKeys, eListKeys, wipeD, tgVar, gSto, eLc, iRng1D, iRng2D, iSeq, i_add, i_sub, i_gt, i_le, i_lt, i_ge, i_eq, i_ne, i_int, i_mod, i_fdv, i_mul, i_pow, start1, start2, start3, List.replicate, List.getElem?_cons_zero, List.getElem?_cons_succ, Option.some.injEq, exists_eq_left', List.set, Nat.reduceAdd, List.length_cons, List.length_nil, List.cons.injEq, and_true, true_and, exists_eq_left, exists_and_left, D.tup.injEq, D.int.injEq, D.bl.injEq]
  rw [decide_eq_false (show ¬ m < ((l.length : Nat) : Int) by omega)]
  simp only [dSeq, dIf, dExpr, dRet, dRetN, dNext, dAsg, dNever, eVar, eC, eTup, eLst, aCons, aNil, eOp, eCB, eMt, eCall, eIf, eNotT, eAnd, eOr, eTru, eTst, eNot, eAndV, eOrV, eNeg, eIsi, eChain, gVar, gTupD, gsCons, gsNil, ↓reduceIte, Bool.false_eq_true, Bool.not_true, Bool.not_false, i_tru, i_len, decide_true, decide_false, List.length_map, yes, dFor, dPar, dPar3, eLRg, eSl, oNone, oSome, eDnew, eRev, eSortedKeys, eListKeys, wipeD, tgVar, gSto, eLc, iRng1D, iRng2D, iSeq, i_add, i_sub, i_gt, i_le, i_lt, i_ge, i_eq, i_ne, i_int, i_mod, i_fdv, i_mul, i_pow, start1, start2, start3, List.replicate, List.getElem?_cons_zero, List.getElem?_cons_succ, Option.some.injEq, exists_eq_left', List.set, Nat.reduceAdd, List.length_cons, List.length_nil, List.cons.injEq, and_true, true_and, exists_eq_left, exists_and_left, D.tup.injEq, D.int.injEq, D.bl.injEq]
  unfold iEnumD
  simp only [dSeq, dIf, dExpr, dRet, dRetN, dNext, dAsg, dNever, eVar, eC, eTup, eLst, aCons, aNil, eOp, eCB, eMt, eCall, eIf, eNotT, eAnd, eOr, eTru, eTst, eNot, eAndV, eOrV, eNeg, eIsi, eChain, gVar, gTupD, gsCons, gsNil, ↓reduceIte, Bool.false_eq_true, Bool.not_true, Bool.not_false, i_tru, i_len, decide_true, decide_false, List.length_map, yes, dFor, dPar, dPar3, eLRg, eSl, oNone, oSome, eDnew, eRev, eSortedKeys, eListKeys, wipeD, tgVar, gSto, eLc, iRng1D, iRng2D, iSeq, i_add, i_sub, i_gt, i_le, i_lt, i_ge, i_eq, i_ne, i_int, i_mod, i_fdv, i_mul, i_pow, start1, start2, start3, List.replicate, List.getElem?_cons_zero, List.getElem?_cons_succ, Option.some.injEq, exists_eq_left', List.set, Nat.reduceAdd, List.length_cons, List.length_nil, List.cons.injEq, and_true, true_and, exists_eq_left, exists_and_left, D.tup.injEq, D.int.injEq, D.bl.injEq]
  refine dLoop_inv _ (fun i env h' => (∃ a b, env = [some (wD l), some (.int n), some (.int m), a, b]) ∧ h' = h) (fun i x env h1 N hx hi hN => ?_) (fun env h1 hi => ?_) ⟨⟨_, _, rfl⟩, rfl⟩
  · obtain ⟨⟨a, b, rfl⟩, rfl⟩ := hi
    obtain ⟨z, hz, rfl⟩ := enumD_at _ _ _ hx
    rw [List.getElem?_map] at hz
    obtain ⟨y, hy, rfl⟩ := Option.map_eq_some_iff.mp hz
    refine ⟨trivial, ?_⟩
    simp only [dSeq, dIf, dExpr, dRet, dRetN, dNext, dAsg, dNever, eVar, eC, eTup, eLst, aCons, aNil, eOp, eCB, eMt, eCall, eIf, eNotT, eAnd, eOr, eTru, eTst, eNot, eAndV, eOrV, eNeg, eIsi, eChain, gVar, gTupD, gsCons, gsNil, ↓reduceIte, Bool.false_eq_true, Bool.not_true, Bool.not_false, i_tru, i_len, decide_true, decide_false, List.length_map, yes, dFor, dPar, dPar3, eLRg, eSl, oNone, oSome, eDnew, eRev, eSortedKeys, eListKeys, wipeD, tgVar, gSto, eLc, iRng1D, iRng2D, iSeq, i_add, i_sub, i_gt, i_le, i_lt, i_ge, i_eq, i_ne, i_int, i_mod, i_fdv, i_mul, i_pow, start1, start2, start3, List.replicate, List.getElem?_cons_zero, List.getElem?_cons_succ, Option.some.injEq, exists_eq_left', List.set, Nat.reduceAdd, List.length_cons, List.length_nil, List.cons.injEq, and_true, true_and, exists_eq_left, exists_and_left, D.tup.injEq, D.int.injEq, D.bl.injEq]
    refine ⟨_, _, ⟨rfl, rfl⟩, _, _, rfl, rfl, ?_⟩
    refine ⟨y, n, rfl, ?_⟩
    have ok : letD n y = true := decide_eq_true (al y (List.mem_of_getElem? hy))
    rw [ok]
    simp only [dSeq, dIf, dExpr, dRet, dRetN, dNext, dAsg, dNever, eVar, eC, eTup, eLst, aCons, aNil, eOp, eCB, eMt, eCall, eIf, eNotT, eAnd, eOr, eTru, eTst, eNot, eAndV, eOrV, eNeg, eIsi, eChain, gVar, gTupD, gsCons, gsNil, ↓reduceIte, Bool.false_eq_true, Bool.not_true, Bool.not_false, i_tru, i_len, decide_true, decide_false, List.length_map, yes, dFor, dPar, dPar3, eLRg, eSl, oNone, oSome, eDnew, eRev, eSortedKeys, eListKeys, wipeD, tgVar, gSto, eLc, iRng1D, iRng2D, iSeq, i_add, i_sub, i_gt, i_le, i_lt, i_ge, i_eq, i_ne, i_int, i_mod, i_fdv, i_mul, i_pow, start1, start2, start3, List.replicate, List.getElem?_cons_zero, List.getElem?_cons_succ, Option.some.injEq, exists_eq_left', List.set, Nat.reduceAdd, List.length_cons, List.length_nil, List.cons.injEq, and_true, true_and, exists_eq_left, exists_and_left, D.tup.injEq, D.int.injEq, D.bl.injEq]
    exact hN _ _ ⟨⟨_, _, rfl⟩, rfl⟩
  · obtain ⟨⟨a, b, rfl⟩, rfl⟩ := hi
    exact ⟨trivial, q⟩
/-- check_book of a book -/
def spCheck : DSp := fun ds h Q _ => ∃ b : Book, ds = [bookD b] ∧ OkBook b ∧ Q .non h
theorem sat_check_book {ds : List D} {h : DH} {Q : VD} {E : DXK} (q : spCheck ds h Q E) : tau_check_book spFrame spRule (endsD Q E) (startD 5 ds) h := by
  obtain ⟨b, rfl, ok, q⟩ := q
  unfold tau_check_book
  simp only [dSeq, dIf, dExpr, dRet, dRetN, dNext, dAsg, dNever, eVar, eC, eTup, eLst, aCons, aNil, eOp, eCB, eMt, eCall, eIf, eNotT, eAnd, eOr, eTru, eTst, eNot, eAndV, eOrV, eNeg, eIsi, eChain, gVar, gTupD, gsCons, gsNil, ↓reduceIte, Bool.false_eq_true, Bool.not_true, Bool.not_false, i_tru, i_len, decide_true, decide_false, List.length_map, yes, dFor, dPar, dPar3, eLRg, eSl, oNone, oSome, eDnew, eRev, eSortedKeys, eListKeys, wipeD, tgVar, gSto, eLc, iRng1D, iRng2D, iSeq, i_add, i_sub, i_gt, i_le, i_lt, i_ge, i_eq, i_ne, i_int, i_mod, i_fdv, i_mul, i_pow, start1, start2, start3, List.replicate, List.getElem?_cons_zero, List.getElem?_cons_succ, Option.some.injEq, exists_eq_left', List.set, Nat.reduceAdd, List.length_cons, List.length_nil, List.cons.injEq, and_true, true_and, exists_eq_left, exists_and_left, D.tup.injEq, D.int.injEq, D.bl.injEq]
  refine ⟨b, rfl, ok.lo, ok.hi, ok.few, ?_⟩
  simp only [dSeq, dIf, dExpr, dRet, dRetN, dNext, dAsg, dNever, eVar, eC, eTup, eLst, aCons, aNil, eOp, eCB, eMt, eCall, eIf, eNotT, eAnd, eOr, eTru, eTst, eNot, eAndV, eOrV, eNeg, eIsi, eChain, gVar, gTupD, gsCons, gsNil, ↓reduceIte, Bool.false_eq_true, Bool.not_true, Bool.not_false, i_tru, i_len, decide_true, decide_false, List.length_map, yes, dFor, dPar, dPar3, eLRg, eSl, oNone, oSome, eDnew, eRev, eSortedKeys, eListKeys, wipeD, tgVar, gSto, eLc, iRng1D, iRng2D, iSeq, i_add, i_sub, i_gt, i_le, i_lt, i_ge, i_eq, i_ne, i_int, i_mod, i_fdv, i_mul, i_pow, start1, start2, start3, List.replicate, List.getElem?_cons_zero, List.getElem?_cons_succ, Option.some.injEq, exists_eq_left', List.set, Nat.reduceAdd, List.length_cons, List.length_nil, List.cons.injEq, and_true, true_and, exists_eq_left, exists_and_left, D.tup.injEq, D.int.injEq, D.bl.injEq]
  refine ⟨_, _, ⟨rfl, rfl⟩, _, _, rfl, rfl, ?_⟩
  unfold iEnumD
  simp only [dSeq, dIf, dExpr, dRet, dRetN, dNext, dAsg, dNever, eVar, eC, eTup, eLst, aCons, aNil, eOp, eCB, eMt, eCall, eIf, eNotT, eAnd, eOr, eTru, eTst, eNot, eAndV, eOrV, eNeg, eIsi, eChain, gVar, gTupD, gsCons, gsNil, ↓reduceIte, Bool.false_eq_true, Bool.not_true, Bool.not_false, i_tru, i_len, decide_true, decide_false, List.length_map, yes, dFor, dPar, dPar3, eLRg, eSl, oNone, oSome, eDnew, eRev, eSortedKeys, eListKeys, wipeD, tgVar, gSto, eLc, iRng1D, iRng2D, iSeq, i_add, i_sub, i_gt, i_le, i_lt, i_ge, i_eq, i_ne, i_int, i_mod, i_fdv, i_mul, i_pow, start1, start2, start3, List.replicate, List.getElem?_cons_zero, List.getElem?_cons_succ, Option.some.injEq, exists_eq_left', List.set, Nat.reduceAdd, List.length_cons, List.length_nil, List.cons.injEq, and_true, true_and, exists_eq_left, exists_and_left, D.tup.injEq, D.int.injEq, D.bl.injEq]
  refine dLoop_inv _ (fun i env h' => (∃ a c, env = [some (bookD b), some (.int b.1), some (.tup (b.2.map ruleD)), a, c]) ∧ h' = h) (fun i x env h1 N hx hi hN => ?_) (fun env h1 hi => ?_) ⟨⟨_, _, rfl⟩, rfl⟩
  · obtain ⟨⟨a, c, rfl⟩, rfl⟩ := hi
    obtain ⟨z, hz, rfl⟩ := enumD_at _ _ _ hx
    rw [List.getElem?_map] at hz
    obtain ⟨p, hp, rfl⟩ := Option.map_eq_some_iff.mp hz
    refine ⟨trivial, ?_⟩
    simp only [dSeq, dIf, dExpr, dRet, dRetN, dNext, dAsg, dNever, eVar, eC, eTup, eLst, aCons, aNil, eOp, eCB, eMt, eCall, eIf, eNotT, eAnd, eOr, eTru, eTst, eNot, eAndV, eOrV, eNeg, eIsi, eChain, gVar, gTupD, gsCons, gsNil, ↓reduceIte, Bool.false_eq_true, Bool.not_true, Bool.not_false, i_tru, i_len, decide_true, decide_false, List.length_map, yes, dFor, dPar, dPar3, eLRg, eSl, oNone, oSome, eDnew, eRev, eSortedKeys, eListKeys, wipeD, tgVar, gSto, eLc, iRng1D, iRng2D, iSeq, i_add, i_sub, i_gt, i_le, i_lt, i_ge, i_eq, i_ne, i_int, i_mod, i_fdv, i_mul, i_pow, start1, start2, start3, List.replicate, List.getElem?_cons_zero, List.getElem?_cons_succ, Option.some.injEq, exists_eq_left', List.set, Nat.reduceAdd, List.length_cons, List.length_nil, List.cons.injEq, and_true, true_and, exists_eq_left, exists_and_left, D.tup.injEq, D.int.injEq, D.bl.injEq]
    refine ⟨_, _, ⟨rfl, rfl⟩, _, _, rfl, rfl, ?_⟩
    refine ⟨p, b.1, rfl, ok.each p (List.mem_of_getElem? hp), ?_⟩
    simp only [dSeq, dIf, dExpr, dRet, dRetN, dNext, dAsg, dNever, eVar, eC, eTup, eLst, aCons, aNil, eOp, eCB, eMt, eCall, eIf, eNotT, eAnd, eOr, eTru, eTst, eNot, eAndV, eOrV, eNeg, eIsi, eChain, gVar, gTupD, gsCons, gsNil, ↓reduceIte, Bool.false_eq_true, Bool.not_true, Bool.not_false, i_tru, i_len, decide_true, decide_false, List.length_map, yes, dFor, dPar, dPar3, eLRg, eSl, oNone, oSome, eDnew, eRev, eSortedKeys, eListKeys, wipeD, tgVar, gSto, eLc, iRng1D, iRng2D, iSeq, i_add, i_sub, i_gt, i_le, i_lt, i_ge, i_eq, i_ne, i_int, i_mod, i_fdv, i_mul, i_pow, start1, start2, start3, List.replicate, List.getElem?_cons_zero, List.getElem?_cons_succ, Option.some.injEq, exists_eq_left', List.set, Nat.reduceAdd, List.length_cons, List.length_nil, List.cons.injEq, and_true, true_and, exists_eq_left, exists_and_left, D.tup.injEq, D.int.injEq, D.bl.injEq]
    cases i with
    | zero =>
      refine iF ?_
      exact hN _ _ ⟨⟨_, _, rfl⟩, rfl⟩
    | succ j =>
      rw [decide_eq_true (show (0 : Int) < ((j + 1 : Nat) : Int) by omega)]
      simp only [dSeq, dIf, dExpr, dRet, dRetN, dNext, dAsg, dNever, eVar, eC, eTup, eLst, aCons, aNil, eOp, eCB, eMt, eCall, eIf, eNotT, eAnd, eOr, eTru, eTst, eNot, eAndV, eOrV, eNeg, eIsi, eChain, gVar, gTupD, gsCons, gsNil, ↓reduceIte, Bool.false_eq_true, Bool.not_true, Bool.not_false, i_tru, i_len, decide_true, decide_false, List.length_map, yes, dFor, dPar, dPar3, eLRg, eSl, oNone, oSome, eDnew, eRev, eSortedKeys, eListKeys, wipeD, tgVar, gSto, eLc, iRng1D, iRng2D, iSeq, i_add, i_sub, i_gt, i_le, i_lt, i_ge, i_eq, i_ne, i_int, i_mod, i_fdv, i_mul, i_pow, start1, start2, start3, List.replicate, List.getElem?_cons_zero, List.getElem?_cons_succ, Option.some.injEq, exists_eq_left', List.set, Nat.reduceAdd, List.length_cons, List.length_nil, List.cons.injEq, and_true, true_and, exists_eq_left, exists_and_left, D.tup.injEq, D.int.injEq, D.bl.injEq]
      obtain ⟨p0, hp0⟩ : ∃ p0, b.2[j]? = some p0 := ⟨_, List.getElem?_eq_getElem (by have := (List.getElem?_eq_some_iff.mp hp).1; omega)⟩
      refine ixA_tup (v := ruleD p0) (atI_nat (by omega) (by rw [show (((j + 1 : Nat) : Int) - 1).toNat = j by omega, List.getElem?_map, hp0]; rfl)) ?_
      refine le_rule ?_
      have lt : ltR p0 p = true := by
        have q1 := (List.getElem?_eq_some_iff.mp hp0)
        have q2 := (List.getElem?_eq_some_iff.mp hp)
        have := List.pairwise_iff_getElem.mp ok.up j (j + 1) q1.1 q2.1 (Nat.lt_succ_self _)
        rw [q1.2, q2.2] at this
        exact this
      rw [lt]
      simp only [dSeq, dIf, dExpr, dRet, dRetN, dNext, dAsg, dNever, eVar, eC, eTup, eLst, aCons, aNil, eOp, eCB, eMt, eCall, eIf, eNotT, eAnd, eOr, eTru, eTst, eNot, eAndV, eOrV, eNeg, eIsi, eChain, gVar, gTupD, gsCons, gsNil, ↓reduceIte, Bool.false_eq_true, Bool.not_true, Bool.not_false, i_tru, i_len, decide_true, decide_false, List.length_map, yes, dFor, dPar, dPar3, eLRg, eSl, oNone, oSome, eDnew, eRev, eSortedKeys, eListKeys, wipeD, tgVar, gSto, eLc, iRng1D, iRng2D, iSeq, i_add, i_sub, i_gt, i_le, i_lt, i_ge, i_eq, i_ne, i_int, i_mod, i_fdv, i_mul, i_pow, start1, start2, start3, List.replicate, List.getElem?_cons_zero, List.getElem?_cons_succ, Option.some.injEq, exists_eq_left', List.set, Nat.reduceAdd, List.length_cons, List.length_nil, List.cons.injEq, and_true, true_and, exists_eq_left, exists_and_left, D.tup.injEq, D.int.injEq, D.bl.injEq]
      exact hN _ _ ⟨⟨_, _, rfl⟩, rfl⟩
  · obtain ⟨⟨a, c, rfl⟩, rfl⟩ := hi
    exact ⟨trivial, q⟩
/-- check_start of a book and a word -/
def spStart : DSp := fun ds h Q _ => ∃ (b : Book) (l : List Int), ds = [bookD b, wD l] ∧ OkBook b ∧ l.length ≤ 8 ∧ (∀ x ∈ l, 0 ≤ x ∧ x < b.1) ∧ Q .non h
theorem sat_check_start {ds : List D} {h : DH} {Q : VD} {E : DXK} (q : spStart ds h Q E) : tau_check_start spCheck spWord (endsD Q E) (startD 2 ds) h := by
  obtain ⟨b, l, rfl, ok, hl, al, q⟩ := q
  unfold tau_check_start
  simp only [dSeq, dIf, dExpr, dRet, dRetN, dNext, dAsg, dNever, eVar, eC, eTup, eLst, aCons, aNil, eOp, eCB, eMt, eCall, eIf, eNotT, eAnd, eOr, eTru, eTst, eNot, eAndV, eOrV, eNeg, eIsi, eChain, gVar, gTupD, gsCons, gsNil, ↓reduceIte, Bool.false_eq_true, Bool.not_true, Bool.not_false, i_tru, i_len, decide_true, decide_false, List.length_map, yes, dFor, dPar, dPar3, eLRg, eSl, oNone, oSome, eDnew, eRev, eSortedKeys, eListKeys, wipeD, tgVar, gSto, eLc, iRng1D, iRng2D, iSeq, i_add, i_sub, i_gt, i_le, i_lt, i_ge, i_eq, i_ne, i_int, i_mod, i_fdv, i_mul, i_pow, start1, start2, start3, List.replicate, List.getElem?_cons_zero, List.getElem?_cons_succ, Option.some.injEq, exists_eq_left', List.set, Nat.reduceAdd, List.length_cons, List.length_nil, List.cons.injEq, and_true, true_and, exists_eq_left, exists_and_left, D.tup.injEq, D.int.injEq, D.bl.injEq]
  refine ⟨b, rfl, ok, ?_⟩
  simp only [dSeq, dIf, dExpr, dRet, dRetN, dNext, dAsg, dNever, eVar, eC, eTup, eLst, aCons, aNil, eOp, eCB, eMt, eCall, eIf, eNotT, eAnd, eOr, eTru, eTst, eNot, eAndV, eOrV, eNeg, eIsi, eChain, gVar, gTupD, gsCons, gsNil, ↓reduceIte, Bool.false_eq_true, Bool.not_true, Bool.not_false, i_tru, i_len, decide_true, decide_false, List.length_map, yes, dFor, dPar, dPar3, eLRg, eSl, oNone, oSome, eDnew, eRev, eSortedKeys, eListKeys, wipeD, tgVar, gSto, eLc, iRng1D, iRng2D, iSeq, i_add, i_sub, i_gt, i_le, i_lt, i_ge, i_eq, i_ne, i_int, i_mod, i_fdv, i_mul, i_pow, start1, start2, start3, List.replicate, List.getElem?_cons_zero, List.getElem?_cons_succ, Option.some.injEq, exists_eq_left', List.set, Nat.reduceAdd, List.length_cons, List.length_nil, List.cons.injEq, and_true, true_and, exists_eq_left, exists_and_left, D.tup.injEq, D.int.injEq, D.bl.injEq]
  refine ixA_tup (v := .int b.1) rfl ?_
  exact ⟨l, b.1, 8, rfl, by omega, al, q⟩
end DL
set_option Elab.async false
set_option linter.all false
set_option maxRecDepth 100000
set_option maxHeartbeats 4000000
namespace DL
open PySem PySem.Spec PyProof.Rows L2
open PySem.W (Frag dataLt alike AllAlike Sortable)
open SB (Rule Book dSide dRule ltR ltI eqv_side eqv_rule alike_side alike_rule dataLt_rule dataLt_side sortR)
/-! ### a drawn book -/
def nkI (l : List Int) : NestedKey := .tup (l.map .num)
theorem nks_ints : ∀ l : List Int, nks (l.map .int) = some (l.map .num)
  | [] => rfl
  | x :: l => by rw [List.map_cons, nks, nks_ints l, nk]; rfl
theorem nk_w (l : List Int) : nk (wD l) = some (nkI l) := by rw [wD, nk, nks_ints]; rfl
def nkR (p : Rule) : NestedKey := .tup [nkI p.1, nkI p.2]
theorem nk_rule (p : Rule) : nk (ruleD p) = some (nkR p) := by rw [ruleD, nk, nks, nk_w, nks, nk_w, nks]; rfl
theorem num_in : ∀ a b : List Int, a.map NestedKey.num = b.map .num → a = b
  | [], [], _ => rfl
  | [], _ :: _, h => by cases h
  | _ :: _, [], h => by cases h
  | x :: a, y :: b, h => by
    rw [List.map_cons, List.map_cons] at h
    injection h with h1 h2
    injection h1 with h1
    rw [h1, num_in a b h2]
theorem nkI_inj {a b : List Int} (h : nkI a = nkI b) : a = b := by injection h with h; exact num_in a b h
theorem nkR_inj {a b : Rule} (h : nkR a = nkR b) : a = b := by
  injection h with h
  injection h with h1 h2
  injection h2 with h2 _
  exact Prod.ext (nkI_inj h1) (nkI_inj h2)
theorem dp_nums : ∀ l : List Int, NestedKey.depthAll (l.map .num) = 0
  | [] => rfl
  | x :: l => by show max 0 (NestedKey.depthAll (l.map .num)) = 0; rw [dp_nums l]; rfl
theorem depth_nkI (l : List Int) : (nkI l).depth = 1 := by show NestedKey.depthAll (l.map .num) + 1 = 1; rw [dp_nums]
theorem depth_nkR (p : Rule) : (nkR p).depth = 2 := by
  show max (nkI p.1).depth (max (nkI p.2).depth 0) + 1 = 2
  rw [depth_nkI, depth_nkI]; rfl
theorem keyOk_w (l : List Int) : KeyOk (wD l) := ⟨_, _, rfl, nk_w l, by rw [depth_nkI]; decide⟩
theorem keyOk_rule (p : Rule) : KeyOk (ruleD p) := ⟨_, _, rfl, nk_rule p, by rw [depth_nkR]; decide⟩
abbrev entR (p : Rule) : D × D := (ruleD p, .bl true)
theorem dput_rule (ks : List Rule) (p : Rule) : dput (ks.map entR) (ruleD p) (.bl true) = (if p ∈ ks then ks else ks ++ [p]).map entR := by
  have look : (dlook (ks.map entR) (ruleD p)).isSome = decide (p ∈ ks) := by
    unfold dlook
    rw [Option.isSome_map]
    refine Bool.eq_iff_iff.mpr ?_
    rw [List.find?_isSome, decide_eq_true_eq]
    constructor
    · rintro ⟨x, hx, e⟩
      obtain ⟨q, hq, rfl⟩ := List.mem_map.mp hx
      have e2 : nk (ruleD q) = nk (ruleD p) := of_decide_eq_true e
      rw [nk_rule, nk_rule] at e2
      rw [← nkR_inj (Option.some.inj e2)]; exact hq
    · exact fun hp => ⟨entR p, List.mem_map.mpr ⟨p, hp, rfl⟩, decide_eq_true rfl⟩
  unfold dput
  rw [look]
  by_cases c : p ∈ ks
  · rw [if_pos (decide_eq_true c), if_pos c]
    rw [List.map_map]
    refine List.map_congr_left fun q hq => ?_
    show (if nk (ruleD q) = nk (ruleD p) then (ruleD q, D.bl true) else entR q) = entR q
    split <;> rfl
  · rw [if_neg (by simpa using c), if_neg c, List.map_append]; rfl
/-- what stands while the rules are drawn -/
structure Bk (h0 : DH) (r s : Nat) (ns : List Int) (o d : Nat) (os : List Int) (many long : Int) (i : Nat) (h : DH) : Prop where
  up : Up r h0 h
  dr : Dr h r s ns
  on : h0.length ≤ o
  dn : h0.length ≤ d
  ne : d ≠ o
  oat : h[o]? = some (.lst (os.map .int))
  olen : (os.length : Int) = many
  rules : ∃ (ks : List Rule) (ep : Nat), h[d]? = some (.dct (ks.map entR) ep) ∧ ks.Nodup ∧ (∀ p ∈ ks, OkRule many p ∧ (p.1.length : Int) ≤ long) ∧ ks.length ≤ i
structure Two (many long : Int) (a b : List Int) : Prop where
  one : 1 ≤ a.length
  le : (a.length : Int) ≤ long
  same : a.length = b.length
  l : ∀ x ∈ a, 0 ≤ x ∧ x < many
  r : ∀ x ∈ b, 0 ≤ x ∧ x < many
section
variable {h0 h : DH} {r s o d i : Nat} {ns os : List Int} {most many long way : Int} {a b : List Int} {t z y : Option D} {N : Env → DH → Prop} {DD : DEnds}
theorem bk_last (B : Bk h0 r s ns o d os many long i h) (Tw : Two many long a b) (l3 : long ≤ 3) (few : i ≤ 100) (hN : ∀ h', Bk h0 r s ns o d os many long (i + 1) h' → N [some (.ref r), some (.int most), some (.int long), some (.ref o), t, some (.int many), some (.int way), some (.ref d), z, some (wD a), some (wD b), y] h') :
    (dIf (eTst (eOp dNe (eVar 9) (eVar 10))) (dAsg (eC (.bl true)) (gSto (eVar 7) (eTup (aCons (eVar 9) (aCons (eVar 10) aNil))))) dNext) { DD with nx := N } [some (.ref r), some (.int most), some (.int long), some (.ref o), t, some (.int many), some (.int way), some (.ref d), z, some (wD a), some (wD b), y] h := by
  obtain ⟨ks, ep, e, nd, ok, len⟩ := B.rules
  simp only [dSeq, dIf, dExpr, dRet, dRetN, dNext, dAsg, dNever, eVar, eC, eTup, eLst, aCons, aNil, eOp, eCB, eMt, eCall, eIf, eNotT, eAnd, eOr, eTru, eTst, eNot, eAndV, eOrV, eNeg, eIsi, eChain, gVar, gTupD, gsCons, gsNil, ↓reduceIte, Bool.false_eq_true, Bool.not_true, Bool.not_false, i_tru, i_len, decide_true, decide_false, List.length_map, yes, dFor, dPar, dPar3, eLRg, eSl, oNone, oSome, eDnew, eRev, eSortedKeys, eListKeys, wipeD, tgVar, gSto, eLc, iRng1D, iRng2D, iSeq, i_add, i_sub, i_gt, i_le, i_lt, i_ge, i_eq, i_ne, i_int, i_mod, i_fdv, i_mul, i_pow, start1, start2, start3, List.replicate, List.getElem?_cons_zero, List.getElem?_cons_succ, Option.some.injEq, exists_eq_left', List.set, Nat.reduceAdd, List.length_cons, List.length_nil, List.cons.injEq, and_true, true_and, exists_eq_left, exists_and_left, D.tup.injEq, D.int.injEq, D.bl.injEq]
  refine ne_w ?_
  have lt := (List.getElem?_eq_some_iff.mp e).1
  have d3 := B.dr.lt
  have rd : r ≠ d := fun z => by obtain ⟨x1, x2, x3, R⟩ := B.dr; have := R.row; rw [z, e] at this; cases this
  by_cases c : a = b
  · rw [decide_eq_true c]
    exact ⟨_, rfl, iF (hN h ⟨B.up, B.dr, B.on, B.dn, B.ne, B.oat, B.olen, ks, ep, e, nd, ok, by omega⟩)⟩
  · rw [decide_eq_false c]
    refine ⟨_, rfl, iT ⟨by decide, ?_⟩⟩
    show setA (.ref d) (ruleD (a, b)) (.bl true) h _
    unfold setA
    dsimp only
    rw [e]
    refine ⟨keyOk_rule _, by rw [List.length_map]; omega, fun ep' => ?_⟩
    rw [dput_rule]
    have e2 := get_set (o := .dct ((if (a, b) ∈ ks then ks else ks ++ [(a, b)]).map entR) ep') e
    refine hN _ ⟨B.up.chg B.dn, B.dr.chg (Ne.symm rd) ?_, B.on, B.dn, B.ne, by rw [List.getElem?_set_ne B.ne]; exact B.oat, B.olen, _, ep', e2, ?_, ?_, ?_⟩
    · intro z
      obtain ⟨x1, x2, x3, R⟩ := B.dr
      have q := R.scr
      unfold lstOf at q
      rw [← z, e] at q
      cases q
    · by_cases m : (a, b) ∈ ks
      · rw [if_pos m]; exact nd
      · rw [if_neg m]
        exact List.nodup_append.mpr ⟨nd, by simp, fun x hx y hy => by rw [List.mem_singleton.mp hy]; exact fun z => m (z ▸ hx)⟩
    · intro p hp
      by_cases m : (a, b) ∈ ks
      · rw [if_pos m] at hp; exact ok p hp
      · rw [if_neg m] at hp
        rcases List.mem_append.mp hp with hp | hp
        · exact ok p hp
        · rw [List.mem_singleton.mp hp]
          exact ⟨⟨Tw.one, by have := Tw.le; show a.length ≤ 3; omega, Tw.same, Tw.l, Tw.r, c⟩, Tw.le⟩
    · split
      · omega
      · rw [List.length_append]; exact Nat.succ_le_succ len
theorem Bk.new {os' : List DO} (B : Bk h0 r s ns o d os many long i h) : Bk h0 r s ns o d os many long i (h ++ os') := by
  obtain ⟨ks, ep, e, k1, k2, k3⟩ := B.rules
  have keep : ∀ {n : Nat} {v : DO}, h[n]? = some v → (h ++ os')[n]? = some v := fun {n v} q => by rw [List.getElem?_append_left (List.getElem?_eq_some_iff.mp q).1]; exact q
  exact ⟨B.up.trans .new, B.dr.new, B.on, B.dn, B.ne, keep B.oat, B.olen, ks, ep, keep e, k1, k2, k3⟩
theorem atI_last {α : Type} {xs : List α} (h : 1 ≤ xs.length) : atI xs (-1) = xs[xs.length - 1]? := by
  unfold atI ixN
  rw [if_neg (by decide), if_pos (by omega)]
  show xs[((-1 : Int) + xs.length).toNat]? = _
  congr 1
  omega
theorem cut_init {xs : List DL.D} (h : 1 ≤ xs.length) : cutD xs none (some (-1)) = xs.take (xs.length - 1) := by
  have e : HT.sIx xs.length xs.length (some (-1)) = xs.length - 1 := by
    show (if (-1 : Int) < 0 then ((-1 : Int) + xs.length).toNat else min (-1 : Int).toNat xs.length) = _
    rw [if_pos (by decide)]; omega
  unfold cutD
  rw [e]
  show (xs.drop 0).take (xs.length - 1 - 0) = _
  simp
theorem cut_lst {xs : List DL.D} (h : 1 ≤ xs.length) : cutD xs (some (-1)) none = xs.drop (xs.length - 1) := by
  have e : HT.sIx xs.length 0 (some (-1)) = xs.length - 1 := by
    show (if (-1 : Int) < 0 then ((-1 : Int) + xs.length).toNat else min (-1 : Int).toNat xs.length) = _
    rw [if_pos (by decide)]; omega
  unfold cutD
  rw [e]
  show (xs.drop (xs.length - 1)).take (xs.length - (xs.length - 1)) = _
  rw [List.take_of_length_le (by rw [List.length_drop]; exact Nat.le_refl _)]
/-- an item of the order -/
theorem ord_at {h : DH} {o : Nat} {os : List Int} {x : Int} {Q : VD} (e : h[o]? = some (.lst (os.map .int))) (x0 : 0 ≤ x) (x1 : x < os.length) (q : ∀ v, Q (.int v) h) : dIxA (.ref o) (.int x) h Q := by
  obtain ⟨v, hv⟩ : ∃ v, os[x.toNat]? = some v := ⟨_, List.getElem?_eq_getElem (by omega)⟩
  exact ixA_lst (lst_of e) (v := .int v) (atI_nat x0 (by rw [List.getElem?_map, hv]; rfl)) (q v)
theorem Two.swap (Tw : Two many long a b) : Two many long b a := ⟨by rw [← Tw.same]; exact Tw.one, by rw [← Tw.same]; exact Tw.le, Tw.same.symm, Tw.r, Tw.l⟩
theorem sl_i {Q : VD} (h1 : 1 ≤ a.length) (q : Q (wD (a.take (a.length - 1))) h) : dSl (wD a) none (some (-1)) h Q := by
  show Q (.tup (cutD (a.map .int) none (some (-1)))) h
  rw [cut_init (by rw [List.length_map]; exact h1), List.length_map, ← List.map_take]; exact q
theorem sl_l {Q : VD} (h1 : 1 ≤ a.length) (q : Q (wD (a.drop (a.length - 1))) h) : dSl (wD a) (some (-1)) none h Q := by
  show Q (.tup (cutD (a.map .int) (some (-1)) none)) h
  rw [cut_lst (by rw [List.length_map]; exact h1), List.length_map, ← List.map_drop]; exact q
theorem sl_h {Q : VD} (h1 : 1 ≤ a.length) (q : Q (wD (a.take 1)) h) : dSl (wD a) none (some 1) h Q := by
  show Q (.tup (cutD (a.map .int) none (some 1))) h
  rw [cut_to (by decide) (by rw [List.length_map]; omega), ← List.map_take]; exact q
theorem sl_t {Q : VD} (h1 : 1 ≤ a.length) (q : Q (wD (a.drop 1)) h) : dSl (wD a) (some 1) none h Q := by
  show Q (.tup (cutD (a.map .int) (some 1) none)) h
  rw [cut_from (by decide) (by rw [List.length_map]; omega), ← List.map_drop]; exact q
theorem add_w {Q : VD} (n : a.length + b.length ≤ 1000000) (q : Q (wD (a ++ b)) h) : dAdd (wD a) (wD b) h Q := by
  refine ⟨by rw [List.length_map, List.length_map]; exact n, ?_⟩
  rw [← List.map_append]; exact q
theorem rev_w {Q : VD} (q : Q (wD a.reverse) h) : dRev (wD a) h Q := by
  show Q (.tup (a.map .int).reverse) h
  rw [← List.map_reverse]; exact q
theorem mem_tk {a b : List Int} {n m : Nat} {x many : Int} (h1 : ∀ x ∈ a, 0 ≤ x ∧ x < many) (h2 : ∀ x ∈ b, 0 ≤ x ∧ x < many) (h : x ∈ a.take n ++ b.drop m) : 0 ≤ x ∧ x < many := by
  rcases List.mem_append.mp h with h | h
  · exact h1 x (List.mem_of_mem_take h)
  · exact h2 x (List.mem_of_mem_drop h)
theorem last_at (h1 : 1 ≤ a.length) : ∃ x, x ∈ a ∧ atI (a.map DL.D.int) (-1) = some (.int x) := by
  have hl : a.length - 1 < a.length := by omega
  refine ⟨a[a.length - 1], List.getElem_mem hl, ?_⟩
  rw [atI_last (by rw [List.length_map]; exact h1), List.length_map, List.getElem?_map, List.getElem?_eq_getElem hl]; rfl
theorem bk_0 (B : Bk h0 r s ns o d os many long i h) (Tw : Two many long a b) (hN : ∀ a b, Two many long a b → N [some (.ref r), some (.int most), some (.int long), some (.ref o), t, some (.int many), some (.int way), some (.ref d), z, some (wD a), some (wD b), y] h) :
    (dIf (eTst (eOp dEq (eVar 6) (eC (.int 0)))) (dSeq (dAsg (eRev (eVar 9)) (gVar 10)) (dIf (eTst (eOp dGtA (eVar 9) (eVar 10))) (dPar 9 10 (aCons (eVar 10) (aCons (eVar 9) aNil))) dNext)) dNext) { DD with nx := N } [some (.ref r), some (.int most), some (.int long), some (.ref o), t, some (.int many), some (.int way), some (.ref d), z, some (wD a), some (wD b), y] h := by
  have T2 : Two many long a a.reverse := ⟨Tw.one, Tw.le, (List.length_reverse ..).symm, Tw.l, fun x hx => Tw.l x (List.mem_reverse.mp hx)⟩
  simp only [dSeq, dIf, dExpr, dRet, dRetN, dNext, dAsg, dNever, eVar, eC, eTup, eLst, aCons, aNil, eOp, eCB, eMt, eCall, eIf, eNotT, eAnd, eOr, eTru, eTst, eNot, eAndV, eOrV, eNeg, eIsi, eChain, gVar, gTupD, gsCons, gsNil, ↓reduceIte, Bool.false_eq_true, Bool.not_true, Bool.not_false, i_tru, i_len, decide_true, decide_false, List.length_map, yes, dFor, dPar, dPar3, eLRg, eSl, oNone, oSome, eDnew, eRev, eSortedKeys, eListKeys, wipeD, tgVar, gSto, eLc, iRng1D, iRng2D, iSeq, i_add, i_sub, i_gt, i_le, i_lt, i_ge, i_eq, i_ne, i_int, i_mod, i_fdv, i_mul, i_pow, start1, start2, start3, List.replicate, List.getElem?_cons_zero, List.getElem?_cons_succ, Option.some.injEq, exists_eq_left', List.set, Nat.reduceAdd, List.length_cons, List.length_nil, List.cons.injEq, and_true, true_and, exists_eq_left, exists_and_left, D.tup.injEq, D.int.injEq, D.bl.injEq]
  by_cases c : way = 0
  · rw [decide_eq_true c]
    refine iT (rev_w (gt_w ⟨_, rfl, ?_⟩))
    cases ltI a.reverse a
    · exact iF (hN _ _ T2)
    · exact iT ⟨_, _, ⟨rfl, rfl⟩, hN _ _ T2.swap⟩
  · rw [decide_eq_false c]
    exact iF (hN a b Tw)
theorem bk_1 (B : Bk h0 r s ns o d os many long i h) (Tw : Two many long a b) (l3 : long ≤ 3) (hN : ∀ a b, Two many long a b → N [some (.ref r), some (.int most), some (.int long), some (.ref o), t, some (.int many), some (.int way), some (.ref d), z, some (wD a), some (wD b), y] h) :
    (dIf (eAnd (eTst (eOp dEq (eVar 6) (eC (.int 1)))) (eTst (eOp dGtA (eOp dIxA (eVar 3) (eOp dIxA (eVar 10) (eNeg (eC (.int 1))))) (eOp dIxA (eVar 3) (eOp dIxA (eVar 9) (eNeg (eC (.int 1)))))))) (dPar 9 10 (aCons (eOp dAdd (eSl (eVar 9) oNone (oSome (eNeg (eC (.int 1))))) (eSl (eVar 10) (oSome (eNeg (eC (.int 1)))) oNone)) (aCons (eOp dAdd (eSl (eVar 10) oNone (oSome (eNeg (eC (.int 1))))) (eSl (eVar 9) (oSome (eNeg (eC (.int 1)))) oNone)) aNil))) dNext) { DD with nx := N } [some (.ref r), some (.int most), some (.int long), some (.ref o), t, some (.int many), some (.int way), some (.ref d), z, some (wD a), some (wD b), y] h := by
  have e1 := Tw.one
  have e2 := Tw.same
  have e3 := Tw.le
  obtain ⟨xa, ma, pa⟩ := last_at (a := a) e1
  obtain ⟨xb, mb, pb⟩ := last_at (a := b) (by omega)
  simp only [dSeq, dIf, dExpr, dRet, dRetN, dNext, dAsg, dNever, eVar, eC, eTup, eLst, aCons, aNil, eOp, eCB, eMt, eCall, eIf, eNotT, eAnd, eOr, eTru, eTst, eNot, eAndV, eOrV, eNeg, eIsi, eChain, gVar, gTupD, gsCons, gsNil, ↓reduceIte, Bool.false_eq_true, Bool.not_true, Bool.not_false, i_tru, i_len, decide_true, decide_false, List.length_map, yes, dFor, dPar, dPar3, eLRg, eSl, oNone, oSome, eDnew, eRev, eSortedKeys, eListKeys, wipeD, tgVar, gSto, eLc, iRng1D, iRng2D, iSeq, i_add, i_sub, i_gt, i_le, i_lt, i_ge, i_eq, i_ne, i_int, i_mod, i_fdv, i_mul, i_pow, start1, start2, start3, List.replicate, List.getElem?_cons_zero, List.getElem?_cons_succ, Option.some.injEq, exists_eq_left', List.set, Nat.reduceAdd, List.length_cons, List.length_nil, List.cons.injEq, and_true, true_and, exists_eq_left, exists_and_left, D.tup.injEq, D.int.injEq, D.bl.injEq]
  by_cases c : way = 1
  · rw [decide_eq_true c]
    refine iT (ixA_tup pb (ord_at B.oat (Tw.r _ mb).1 (by rw [B.olen]; exact (Tw.r _ mb).2) fun v1 => ?_))
    refine ixA_tup pa (ord_at B.oat (Tw.l _ ma).1 (by rw [B.olen]; exact (Tw.l _ ma).2) fun v2 => ⟨_, rfl, ?_⟩)
    cases decide (v2 < v1)
    · exact iF (hN _ _ Tw)
    · refine iT (sl_i e1 (sl_l (by omega) (add_w (by rw [List.length_take, List.length_drop]; omega) (sl_i (by omega) (sl_l e1 (add_w (by rw [List.length_take, List.length_drop]; omega) ⟨_, _, ⟨rfl, rfl⟩, hN _ _ ?_⟩))))))
      exact ⟨by rw [List.length_append, List.length_take, List.length_drop]; omega, by rw [List.length_append, List.length_take, List.length_drop]; omega, by rw [List.length_append, List.length_append, List.length_take, List.length_take, List.length_drop, List.length_drop]; omega, fun x => mem_tk Tw.l Tw.r, fun x => mem_tk Tw.r Tw.l⟩
  · rw [decide_eq_false c]
    exact iF (hN a b Tw)
theorem bk_2 (B : Bk h0 r s ns o d os many long i h) (Tw : Two many long a b) (l3 : long ≤ 3) (hN : ∀ a b, Two many long a b → N [some (.ref r), some (.int most), some (.int long), some (.ref o), t, some (.int many), some (.int way), some (.ref d), z, some (wD a), some (wD b), y] h) :
    (dIf (eAnd (eTst (eOp dEq (eVar 6) (eC (.int 2)))) (eTst (eOp dGtA (eOp dIxA (eVar 3) (eOp dIxA (eVar 10) (eC (.int 0)))) (eOp dIxA (eVar 3) (eOp dIxA (eVar 9) (eC (.int 0))))))) (dPar 9 10 (aCons (eOp dAdd (eSl (eVar 10) oNone (oSome (eC (.int 1)))) (eSl (eVar 9) (oSome (eC (.int 1))) oNone)) (aCons (eOp dAdd (eSl (eVar 9) oNone (oSome (eC (.int 1)))) (eSl (eVar 10) (oSome (eC (.int 1))) oNone)) aNil))) dNext) { DD with nx := N } [some (.ref r), some (.int most), some (.int long), some (.ref o), t, some (.int many), some (.int way), some (.ref d), z, some (wD a), some (wD b), y] h := by
  have e1 := Tw.one
  have e2 := Tw.same
  have e3 := Tw.le
  have head : ∀ {l : List Int}, 1 ≤ l.length → ∃ x, x ∈ l ∧ atI (l.map DL.D.int) 0 = some (.int x) := fun {l} hl => ⟨l[0], List.getElem_mem hl, atI_nat (by decide) (by rw [List.getElem?_map, show (0 : Int).toNat = 0 from rfl, List.getElem?_eq_getElem hl]; rfl)⟩
  obtain ⟨xa, ma, pa⟩ := head (l := a) e1
  obtain ⟨xb, mb, pb⟩ := head (l := b) (by omega)
  simp only [dSeq, dIf, dExpr, dRet, dRetN, dNext, dAsg, dNever, eVar, eC, eTup, eLst, aCons, aNil, eOp, eCB, eMt, eCall, eIf, eNotT, eAnd, eOr, eTru, eTst, eNot, eAndV, eOrV, eNeg, eIsi, eChain, gVar, gTupD, gsCons, gsNil, ↓reduceIte, Bool.false_eq_true, Bool.not_true, Bool.not_false, i_tru, i_len, decide_true, decide_false, List.length_map, yes, dFor, dPar, dPar3, eLRg, eSl, oNone, oSome, eDnew, eRev, eSortedKeys, eListKeys, wipeD, tgVar, gSto, eLc, iRng1D, iRng2D, iSeq, i_add, i_sub, i_gt, i_le, i_lt, i_ge, i_eq, i_ne, i_int, i_mod, i_fdv, i_mul, i_pow, start1, start2, start3, List.replicate, List.getElem?_cons_zero, List.getElem?_cons_succ, Option.some.injEq, exists_eq_left', List.set, Nat.reduceAdd, List.length_cons, List.length_nil, List.cons.injEq, and_true, true_and, exists_eq_left, exists_and_left, D.tup.injEq, D.int.injEq, D.bl.injEq]
  by_cases c : way = 2
  · rw [decide_eq_true c]
    refine iT (ixA_tup pb (ord_at B.oat (Tw.r _ mb).1 (by rw [B.olen]; exact (Tw.r _ mb).2) fun v1 => ?_))
    refine ixA_tup pa (ord_at B.oat (Tw.l _ ma).1 (by rw [B.olen]; exact (Tw.l _ ma).2) fun v2 => ⟨_, rfl, ?_⟩)
    cases decide (v2 < v1)
    · exact iF (hN _ _ Tw)
    · refine iT (sl_h (by omega) (sl_t e1 (add_w (by rw [List.length_take, List.length_drop]; omega) (sl_h e1 (sl_t (by omega) (add_w (by rw [List.length_take, List.length_drop]; omega) ⟨_, _, ⟨rfl, rfl⟩, hN _ _ ?_⟩))))))
      exact ⟨by rw [List.length_append, List.length_take, List.length_drop]; omega, by rw [List.length_append, List.length_take, List.length_drop]; omega, by rw [List.length_append, List.length_append, List.length_take, List.length_take, List.length_drop, List.length_drop]; omega, fun x => mem_tk Tw.r Tw.l, fun x => mem_tk Tw.l Tw.r⟩
  · rw [decide_eq_false c]
    exact iF (hN a b Tw)
/-- the numbers that an order gives to a side -/
theorem bk_sum (B : Bk h0 r s ns o d os many long i h) (Tw : ∀ x ∈ a, 0 ≤ x ∧ x < many) (l : a.length ≤ 3) {env : Env} {chk : DH → Prop} (hc : ∀ h, chk h) (he : env[3]? = some (some (.ref o))) (hlen : env.length = 12) {Q : VD} (hQ : ∀ (v : Int) (os' : List DO), Q (.int v) (h ++ os')) :
    cLoop h.length (tgVar 11) yes (eOp dIxA (eVar 3) (eVar 11)) chk env (fun h' => cSum [.ref h.length] h' Q) (a.map .int) (h ++ [.lst []]) := by
  refine cLoop_inv _ (fun j h' => ∃ ps : List Int, ps.length = j ∧ h' = h ++ [.lst (ps.map .int)]) (fun j x h1 K hx hi hK => ?_) (fun h1 hi => ?_) ⟨[], rfl, rfl⟩
  · obtain ⟨ps, p1, rfl⟩ := hi
    rw [List.getElem?_map] at hx
    obtain ⟨x0, hx0, rfl⟩ := Option.map_eq_some_iff.mp hx
    have rx := Tw x0 (List.mem_of_getElem? hx0)
    refine ⟨hc _, _, rfl, ?_⟩
    show yes _ _ _ _
    unfold yes
    refine iT ?_
    refine ⟨.ref o, by rw [List.getElem?_set_ne (by decide)]; exact he, .int x0, by rw [List.getElem?_set_self (by rw [hlen]; decide)], ?_⟩
    have B1 := B.new (os' := [.lst (ps.map .int)])
    refine ord_at B1.oat rx.1 (by rw [B.olen]; exact rx.2) fun v => ?_
    have e : (h ++ [DO.lst (ps.map .int)])[h.length]? = some (.lst (ps.map .int)) := by rw [List.getElem?_append_right (Nat.le_refl _), Nat.sub_self]; rfl
    have hl : j < a.length := (List.getElem?_eq_some_iff.mp hx0).1
    refine ⟨_, mlst_of e, by rw [List.length_map]; omega, hK _ ⟨ps ++ [v], by rw [List.length_append, p1]; rfl, ?_⟩⟩
    rw [List.set_append_right _ _ (Nat.le_refl _), Nat.sub_self, List.map_append]; rfl
  · obtain ⟨ps, p1, rfl⟩ := hi
    exact ⟨hc _, ps, lst_of (by rw [List.getElem?_append_right (Nat.le_refl _), Nat.sub_self]; rfl), hQ _ _⟩
theorem bk_3 (B : Bk h0 r s ns o d os many long i h) (Tw : Two many long a b) (l3 : long ≤ 3) (hN : ∀ a b h, Bk h0 r s ns o d os many long i h → Two many long a b → N [some (.ref r), some (.int most), some (.int long), some (.ref o), t, some (.int many), some (.int way), some (.ref d), z, some (wD a), some (wD b), y] h) :
    (dIf (eAnd (eTst (eOp dEq (eVar 6) (eC (.int 3)))) (eTst (eOp dGtA (eCB cSum (aCons (eLc (iSeq (eVar 10)) (tgVar 11) yes (eOp dIxA (eVar 3) (eVar 11)) [11]) aNil)) (eCB cSum (aCons (eLc (iSeq (eVar 9)) (tgVar 11) yes (eOp dIxA (eVar 3) (eVar 11)) [11]) aNil))))) (dPar 9 10 (aCons (eVar 10) (aCons (eVar 9) aNil))) dNext) { DD with nx := N } [some (.ref r), some (.int most), some (.int long), some (.ref o), t, some (.int many), some (.int way), some (.ref d), z, some (wD a), some (wD b), y] h := by
  have e2 := Tw.same
  have e3 := Tw.le
  simp only [dSeq, dIf, dExpr, dRet, dRetN, dNext, dAsg, dNever, eVar, eC, eTup, eLst, aCons, aNil, eOp, eCB, eMt, eCall, eIf, eNotT, eAnd, eOr, eTru, eTst, eNot, eAndV, eOrV, eNeg, eIsi, eChain, gVar, gTupD, gsCons, gsNil, ↓reduceIte, Bool.false_eq_true, Bool.not_true, Bool.not_false, i_tru, i_len, decide_true, decide_false, List.length_map, yes, dFor, dPar, dPar3, eLRg, eSl, oNone, oSome, eDnew, eRev, eSortedKeys, eListKeys, wipeD, tgVar, gSto, eLc, iRng1D, iRng2D, iSeq, i_add, i_sub, i_gt, i_le, i_lt, i_ge, i_eq, i_ne, i_int, i_mod, i_fdv, i_mul, i_pow, start1, start2, start3, List.replicate, List.getElem?_cons_zero, List.getElem?_cons_succ, Option.some.injEq, exists_eq_left', List.set, Nat.reduceAdd, List.length_cons, List.length_nil, List.cons.injEq, and_true, true_and, exists_eq_left, exists_and_left, D.tup.injEq, D.int.injEq, D.bl.injEq]
  by_cases c : way = 3
  · rw [decide_eq_true c]
    refine iT ?_
    refine bk_sum B Tw.r (by omega) (fun _ => trivial) rfl rfl fun v1 o1 => ?_
    refine bk_sum B.new Tw.l (by omega) (fun _ => trivial) rfl rfl fun v2 o2 => ?_
    refine ⟨_, rfl, ?_⟩
    cases decide (v2 < v1)
    · exact iF (hN _ _ _ B.new.new Tw)
    · exact iT ⟨_, _, ⟨rfl, rfl⟩, hN _ _ _ B.new.new Tw.swap⟩
  · rw [decide_eq_false c]
    exact iF (hN a b h B Tw)
end
end DL
set_option Elab.async false
set_option linter.all false
set_option maxRecDepth 100000
set_option maxHeartbeats 4000000
namespace DL
open PySem PySem.Spec PyProof.Rows L2
open PySem.W (Frag dataLt alike AllAlike Sortable)
open SB (Rule Book dSide dRule ltR ltI eqv_side eqv_rule alike_side alike_rule dataLt_rule dataLt_side sortR sortR_perm sortR_up ltR_tri)
theorem dat_rule (p : Rule) : datP (ruleD p) = dRule p := by unfold datP; rw [toP_rule]; rfl
theorem sort_rules (ks : List Rule) : sortD (ks.map ruleD) = (sortR ks).map ruleD := by
  unfold sortD sortR
  refine (List.map_mergeSort (f := ruleD) (r := fun a b => !ltR b a) (s := leD) (fun a _ b _ => ?_)).symm
  show (!ltR b a) = !dataLt (datP (ruleD b)) (datP (ruleD a))
  rw [dat_rule, dat_rule, dataLt_rule]
theorem can_rules {ks : List Rule} (h : ks.length ≤ 1000000) : CanSort (ks.map ruleD) := by
  have e : (ks.map ruleD).map datP = ks.map dRule := by rw [List.map_map]; exact List.map_congr_left fun p _ => dat_rule p
  refine ⟨fun x hx => ?_, ?_, ?_, by rw [List.length_map]; exact h⟩
  · obtain ⟨p, _, rfl⟩ := List.mem_map.mp hx
    exact ⟨_, toP_rule p, depth_r p⟩
  · rw [e]
    exact PySem.W.AllAlike.of fun b b' => alike_rule _ _
  · rw [e]
    exact sortB_tuples fun b => ⟨_, _, rfl⟩
theorem sortR_strict {ks : List Rule} (nd : ks.Nodup) : (sortR ks).Pairwise fun x y => ltR x y = true := by
  have nd2 : (sortR ks).Nodup := (sortR_perm ks).nodup_iff.mpr nd
  refine (List.Pairwise.and nd2 (sortR_up ks)).imp fun {x y} ⟨ne, le⟩ => ?_
  cases c : ltR x y with
  | true => rfl
  | false => exact absurd (ltR_tri x y c le) ne
/-- a book is drawn -/
def spBook : DSp := fun ds h Q _ => ∃ (r s : Nat) (ns : List Int) (most long : Int), ds = [.ref r, .int most, .int long] ∧ Dr h r s ns ∧ 2 ≤ most ∧ most ≤ 4 ∧ 1 ≤ long ∧ long ≤ 3 ∧
  ∀ (b : Book) (h' : DH), OkBook b → 2 ≤ b.1 → b.1 ≤ most → (∀ p ∈ b.2, (p.1.length : Int) ≤ long) → b.2.length ≤ 4 → Up r h h' → Dr h' r s ns → Q (bookD b) h'
def bkT7 : DS := (dIf (eTst (eOp dNe (eVar 9) (eVar 10))) (dAsg (eC (.bl true)) (gSto (eVar 7) (eTup (aCons (eVar 9) (aCons (eVar 10) aNil))))) dNext)
def bkT6 : DS := dSeq (dIf (eAnd (eTst (eOp dEq (eVar 6) (eC (.int 3)))) (eTst (eOp dGtA (eCB cSum (aCons (eLc (iSeq (eVar 10)) (tgVar 11) yes (eOp dIxA (eVar 3) (eVar 11)) [11]) aNil)) (eCB cSum (aCons (eLc (iSeq (eVar 9)) (tgVar 11) yes (eOp dIxA (eVar 3) (eVar 11)) [11]) aNil))))) (dPar 9 10 (aCons (eVar 10) (aCons (eVar 9) aNil))) dNext) bkT7
def bkT5 : DS := dSeq (dIf (eAnd (eTst (eOp dEq (eVar 6) (eC (.int 2)))) (eTst (eOp dGtA (eOp dIxA (eVar 3) (eOp dIxA (eVar 10) (eC (.int 0)))) (eOp dIxA (eVar 3) (eOp dIxA (eVar 9) (eC (.int 0))))))) (dPar 9 10 (aCons (eOp dAdd (eSl (eVar 10) oNone (oSome (eC (.int 1)))) (eSl (eVar 9) (oSome (eC (.int 1))) oNone)) (aCons (eOp dAdd (eSl (eVar 9) oNone (oSome (eC (.int 1)))) (eSl (eVar 10) (oSome (eC (.int 1))) oNone)) aNil))) dNext) bkT6
def bkT4 : DS := dSeq (dIf (eAnd (eTst (eOp dEq (eVar 6) (eC (.int 1)))) (eTst (eOp dGtA (eOp dIxA (eVar 3) (eOp dIxA (eVar 10) (eNeg (eC (.int 1))))) (eOp dIxA (eVar 3) (eOp dIxA (eVar 9) (eNeg (eC (.int 1)))))))) (dPar 9 10 (aCons (eOp dAdd (eSl (eVar 9) oNone (oSome (eNeg (eC (.int 1))))) (eSl (eVar 10) (oSome (eNeg (eC (.int 1)))) oNone)) (aCons (eOp dAdd (eSl (eVar 10) oNone (oSome (eNeg (eC (.int 1))))) (eSl (eVar 9) (oSome (eNeg (eC (.int 1)))) oNone)) aNil))) dNext) bkT5
def bkT3 : DS := dSeq (dIf (eTst (eOp dEq (eVar 6) (eC (.int 0)))) (dSeq (dAsg (eRev (eVar 9)) (gVar 10)) (dIf (eTst (eOp dGtA (eVar 9) (eVar 10))) (dPar 9 10 (aCons (eVar 10) (aCons (eVar 9) aNil))) dNext)) dNext) bkT4
def bkT2 : DS := dSeq (dPar 9 10 (aCons (eCall spLetters (aCons (eVar 0) (aCons (eVar 5) (aCons (eVar 8) aNil)))) (aCons (eCall spLetters (aCons (eVar 0) (aCons (eVar 5) (aCons (eVar 8) aNil)))) aNil))) bkT3
def bkT1 : DS := dSeq (dAsg (eOp dAdd (eC (.int 1)) (eCall spTk (aCons (eVar 0) (aCons (eVar 2) aNil)))) (gVar 8)) bkT2
theorem book_eq : tau__law_book spLetters spOrder spTk = dSeq (dPar3 5 6 7 (aCons (eOp dAdd (eC (.int 2)) (eCall spTk (aCons (eVar 0) (aCons (eOp dSub (eVar 1) (eC (.int 1))) aNil)))) (aCons (eCall spTk (aCons (eVar 0) (aCons (eC (.int 6)) aNil))) (aCons eDnew aNil)))) (dSeq (dAsg (eCall spOrder (aCons (eVar 0) (aCons (eVar 5) aNil))) (gVar 3)) (dSeq (dFor (iRng1D (aCons (eOp dAdd (eC (.int 1)) (eCall spTk (aCons (eVar 0) (aCons (eC (.int 4)) aNil)))) aNil)) (gVar 4) bkT1) (dRet (eTup (aCons (eVar 5) (aCons (eCB cTup (aCons (eSortedKeys (eVar 7)) aNil)) aNil)))))) := rfl
section
variable {h0 h : DH} {r s o d i : Nat} {ns os : List Int} {most many long way : Int} {a b : List Int} {t z y la lb : Option D} {DD : DEnds}
theorem bk_t3 (B : Bk h0 r s ns o d os many long i h) (Tw : Two many long a b) (l3 : long ≤ 3) (few : i ≤ 100) (hN : ∀ a b h', Bk h0 r s ns o d os many long (i + 1) h' → DD.nx [some (.ref r), some (.int most), some (.int long), some (.ref o), t, some (.int many), some (.int way), some (.ref d), z, some (wD a), some (wD b), y] h') : bkT3 DD [some (.ref r), some (.int most), some (.int long), some (.ref o), t, some (.int many), some (.int way), some (.ref d), z, some (wD a), some (wD b), y] h :=
  bk_0 (DD := DD) B Tw fun a b T1 => bk_1 (DD := DD) B T1 l3 fun a b T2 => bk_2 (DD := DD) B T2 l3 fun a b T3 => bk_3 (DD := DD) B T3 l3 fun a b h B2 T4 => bk_last (DD := DD) B2 T4 l3 few fun h' B3 => hN a b h' B3
theorem Bk.step {h' : DH} (rl : r < h0.length) (B : Bk h0 r s ns o d os many long i h) (u : Up r h h') (dr : Dr h' r s ns) : Bk h0 r s ns o d os many long i h' := by
  obtain ⟨ks, ep, e, k1, k2, k3⟩ := B.rules
  have lo := (List.getElem?_eq_some_iff.mp B.oat).1
  have ld := (List.getElem?_eq_some_iff.mp e).1
  have ro : o ≠ r := by have := B.on; omega
  have rd : d ≠ r := by have := B.dn; omega
  exact ⟨B.up.trans u, dr, B.on, B.dn, B.ne, (u.at' _ lo ro).trans B.oat, B.olen, ks, ep, (u.at' _ ld rd).trans e, k1, k2, k3⟩
end
theorem sat_book {ds : List D} {h : DH} {Q : VD} {E : DXK} (q : spBook ds h Q E) : tau__law_book spLetters spOrder spTk (endsD Q E) (startD 12 ds) h := by
  obtain ⟨r, s, ns, most, long, rfl, d0, m1, m2, l1, l2, q⟩ := q
  rw [book_eq]
  simp only [dSeq, dIf, dExpr, dRet, dRetN, dNext, dAsg, dNever, eVar, eC, eTup, eLst, aCons, aNil, eOp, eCB, eMt, eCall, eIf, eNotT, eAnd, eOr, eTru, eTst, eNot, eAndV, eOrV, eNeg, eIsi, eChain, gVar, gTupD, gsCons, gsNil, ↓reduceIte, Bool.false_eq_true, Bool.not_true, Bool.not_false, i_tru, i_len, decide_true, decide_false, List.length_map, yes, dFor, dPar, dPar3, eLRg, eSl, oNone, oSome, eDnew, eRev, eSortedKeys, eListKeys, wipeD, tgVar, gSto, eLc, iRng1D, iRng2D, iSeq, i_add, i_sub, i_gt, i_le, i_lt, i_ge, i_eq, i_ne, i_int, i_mod, i_fdv, i_mul, i_pow, start1, start2, start3, List.replicate, List.getElem?_cons_zero, List.getElem?_cons_succ, Option.some.injEq, exists_eq_left', List.set, Nat.reduceAdd, List.length_cons, List.length_nil, List.cons.injEq, and_true, true_and, exists_eq_left, exists_and_left, D.tup.injEq, D.int.injEq, D.bl.injEq]
  refine ⟨r, s, ns, _, rfl, d0, by omega, by omega, fun v1 h1 v1a v1b u1 len1 d1 => ?_⟩
  simp only [dSeq, dIf, dExpr, dRet, dRetN, dNext, dAsg, dNever, eVar, eC, eTup, eLst, aCons, aNil, eOp, eCB, eMt, eCall, eIf, eNotT, eAnd, eOr, eTru, eTst, eNot, eAndV, eOrV, eNeg, eIsi, eChain, gVar, gTupD, gsCons, gsNil, ↓reduceIte, Bool.false_eq_true, Bool.not_true, Bool.not_false, i_tru, i_len, decide_true, decide_false, List.length_map, yes, dFor, dPar, dPar3, eLRg, eSl, oNone, oSome, eDnew, eRev, eSortedKeys, eListKeys, wipeD, tgVar, gSto, eLc, iRng1D, iRng2D, iSeq, i_add, i_sub, i_gt, i_le, i_lt, i_ge, i_eq, i_ne, i_int, i_mod, i_fdv, i_mul, i_pow, start1, start2, start3, List.replicate, List.getElem?_cons_zero, List.getElem?_cons_succ, Option.some.injEq, exists_eq_left', List.set, Nat.reduceAdd, List.length_cons, List.length_nil, List.cons.injEq, and_true, true_and, exists_eq_left, exists_and_left, D.tup.injEq, D.int.injEq, D.bl.injEq]
  refine ⟨r, s, ns, _, rfl, d1, by omega, by omega, fun way h2 wa wb u2 len2 d2 => ?_⟩
  simp only [dSeq, dIf, dExpr, dRet, dRetN, dNext, dAsg, dNever, eVar, eC, eTup, eLst, aCons, aNil, eOp, eCB, eMt, eCall, eIf, eNotT, eAnd, eOr, eTru, eTst, eNot, eAndV, eOrV, eNeg, eIsi, eChain, gVar, gTupD, gsCons, gsNil, ↓reduceIte, Bool.false_eq_true, Bool.not_true, Bool.not_false, i_tru, i_len, decide_true, decide_false, List.length_map, yes, dFor, dPar, dPar3, eLRg, eSl, oNone, oSome, eDnew, eRev, eSortedKeys, eListKeys, wipeD, tgVar, gSto, eLc, iRng1D, iRng2D, iSeq, i_add, i_sub, i_gt, i_le, i_lt, i_ge, i_eq, i_ne, i_int, i_mod, i_fdv, i_mul, i_pow, start1, start2, start3, List.replicate, List.getElem?_cons_zero, List.getElem?_cons_succ, Option.some.injEq, exists_eq_left', List.set, Nat.reduceAdd, List.length_cons, List.length_nil, List.cons.injEq, and_true, true_and, exists_eq_left, exists_and_left, D.tup.injEq, D.int.injEq, D.bl.injEq]
  have two := d0.lt
  refine ⟨_, _, _, ⟨rfl, rfl, rfl⟩, ?_⟩
  refine ⟨r, s, ns, _, rfl, d2.new, by omega, by omega, fun os h3 o olen oge oat u3 d3 => ?_⟩
  simp only [dSeq, dIf, dExpr, dRet, dRetN, dNext, dAsg, dNever, eVar, eC, eTup, eLst, aCons, aNil, eOp, eCB, eMt, eCall, eIf, eNotT, eAnd, eOr, eTru, eTst, eNot, eAndV, eOrV, eNeg, eIsi, eChain, gVar, gTupD, gsCons, gsNil, ↓reduceIte, Bool.false_eq_true, Bool.not_true, Bool.not_false, i_tru, i_len, decide_true, decide_false, List.length_map, yes, dFor, dPar, dPar3, eLRg, eSl, oNone, oSome, eDnew, eRev, eSortedKeys, eListKeys, wipeD, tgVar, gSto, eLc, iRng1D, iRng2D, iSeq, i_add, i_sub, i_gt, i_le, i_lt, i_ge, i_eq, i_ne, i_int, i_mod, i_fdv, i_mul, i_pow, start1, start2, start3, List.replicate, List.getElem?_cons_zero, List.getElem?_cons_succ, Option.some.injEq, exists_eq_left', List.set, Nat.reduceAdd, List.length_cons, List.length_nil, List.cons.injEq, and_true, true_and, exists_eq_left, exists_and_left, D.tup.injEq, D.int.injEq, D.bl.injEq]
  refine ⟨r, s, ns, _, rfl, d3, by decide, by decide, fun v4 h4 v4a v4b u4 len4 d4 => ?_⟩
  simp only [dSeq, dIf, dExpr, dRet, dRetN, dNext, dAsg, dNever, eVar, eC, eTup, eLst, aCons, aNil, eOp, eCB, eMt, eCall, eIf, eNotT, eAnd, eOr, eTru, eTst, eNot, eAndV, eOrV, eNeg, eIsi, eChain, gVar, gTupD, gsCons, gsNil, ↓reduceIte, Bool.false_eq_true, Bool.not_true, Bool.not_false, i_tru, i_len, decide_true, decide_false, List.length_map, yes, dFor, dPar, dPar3, eLRg, eSl, oNone, oSome, eDnew, eRev, eSortedKeys, eListKeys, wipeD, tgVar, gSto, eLc, iRng1D, iRng2D, iSeq, i_add, i_sub, i_gt, i_le, i_lt, i_ge, i_eq, i_ne, i_int, i_mod, i_fdv, i_mul, i_pow, start1, start2, start3, List.replicate, List.getElem?_cons_zero, List.getElem?_cons_succ, Option.some.injEq, exists_eq_left', List.set, Nat.reduceAdd, List.length_cons, List.length_nil, List.cons.injEq, and_true, true_and, exists_eq_left, exists_and_left, D.tup.injEq, D.int.injEq, D.bl.injEq]
  refine ⟨by omega, by omega, ?_⟩
  have ln : (h2 ++ [DO.dct [] 0]).length = h2.length + 1 := by rw [List.length_append]; rfl
  have lo := (List.getElem?_eq_some_iff.mp oat).1
  have l3 := u3.len
  refine dLoop_inv _ (fun i env h' => ∃ t z la lb y, env = [some (.ref r), some (.int most), some (.int long), some (.ref o), t, some (.int (2 + v1)), some (.int way), some (.ref h2.length), z, la, lb, y] ∧ Bk h r s ns o h2.length os (2 + v1) long i h')
    (fun i x env g N hx hi hN => ?_) (fun env g hi => ?_) ⟨_, _, _, _, _, rfl, ?_⟩
  · obtain ⟨t, z, la, lb, y, rfl, B⟩ := hi
    obtain ⟨hin, _⟩ := rangeD_get _ _ _ _ hx
    refine ⟨trivial, ?_⟩
    unfold bkT1
    simp only [dSeq, dIf, dExpr, dRet, dRetN, dNext, dAsg, dNever, eVar, eC, eTup, eLst, aCons, aNil, eOp, eCB, eMt, eCall, eIf, eNotT, eAnd, eOr, eTru, eTst, eNot, eAndV, eOrV, eNeg, eIsi, eChain, gVar, gTupD, gsCons, gsNil, ↓reduceIte, Bool.false_eq_true, Bool.not_true, Bool.not_false, i_tru, i_len, decide_true, decide_false, List.length_map, yes, dFor, dPar, dPar3, eLRg, eSl, oNone, oSome, eDnew, eRev, eSortedKeys, eListKeys, wipeD, tgVar, gSto, eLc, iRng1D, iRng2D, iSeq, i_add, i_sub, i_gt, i_le, i_lt, i_ge, i_eq, i_ne, i_int, i_mod, i_fdv, i_mul, i_pow, start1, start2, start3, List.replicate, List.getElem?_cons_zero, List.getElem?_cons_succ, Option.some.injEq, exists_eq_left', List.set, Nat.reduceAdd, List.length_cons, List.length_nil, List.cons.injEq, and_true, true_and, exists_eq_left, exists_and_left, D.tup.injEq, D.int.injEq, D.bl.injEq]
    refine ⟨r, s, ns, _, rfl, B.dr, by omega, by omega, fun v5 g1 v5a v5b w1 len5 e1 => ?_⟩
    have B1 := B.step two.1 w1 e1
    simp only [dSeq, dIf, dExpr, dRet, dRetN, dNext, dAsg, dNever, eVar, eC, eTup, eLst, aCons, aNil, eOp, eCB, eMt, eCall, eIf, eNotT, eAnd, eOr, eTru, eTst, eNot, eAndV, eOrV, eNeg, eIsi, eChain, gVar, gTupD, gsCons, gsNil, ↓reduceIte, Bool.false_eq_true, Bool.not_true, Bool.not_false, i_tru, i_len, decide_true, decide_false, List.length_map, yes, dFor, dPar, dPar3, eLRg, eSl, oNone, oSome, eDnew, eRev, eSortedKeys, eListKeys, wipeD, tgVar, gSto, eLc, iRng1D, iRng2D, iSeq, i_add, i_sub, i_gt, i_le, i_lt, i_ge, i_eq, i_ne, i_int, i_mod, i_fdv, i_mul, i_pow, start1, start2, start3, List.replicate, List.getElem?_cons_zero, List.getElem?_cons_succ, Option.some.injEq, exists_eq_left', List.set, Nat.reduceAdd, List.length_cons, List.length_nil, List.cons.injEq, and_true, true_and, exists_eq_left, exists_and_left, D.tup.injEq, D.int.injEq, D.bl.injEq]
    unfold bkT2
    simp only [dSeq, dIf, dExpr, dRet, dRetN, dNext, dAsg, dNever, eVar, eC, eTup, eLst, aCons, aNil, eOp, eCB, eMt, eCall, eIf, eNotT, eAnd, eOr, eTru, eTst, eNot, eAndV, eOrV, eNeg, eIsi, eChain, gVar, gTupD, gsCons, gsNil, ↓reduceIte, Bool.false_eq_true, Bool.not_true, Bool.not_false, i_tru, i_len, decide_true, decide_false, List.length_map, yes, dFor, dPar, dPar3, eLRg, eSl, oNone, oSome, eDnew, eRev, eSortedKeys, eListKeys, wipeD, tgVar, gSto, eLc, iRng1D, iRng2D, iSeq, i_add, i_sub, i_gt, i_le, i_lt, i_ge, i_eq, i_ne, i_int, i_mod, i_fdv, i_mul, i_pow, start1, start2, start3, List.replicate, List.getElem?_cons_zero, List.getElem?_cons_succ, Option.some.injEq, exists_eq_left', List.set, Nat.reduceAdd, List.length_cons, List.length_nil, List.cons.injEq, and_true, true_and, exists_eq_left, exists_and_left, D.tup.injEq, D.int.injEq, D.bl.injEq]
    refine ⟨r, s, ns, _, _, rfl, e1, by omega, by omega, by omega, by omega, fun la1 g2 p1 p2 w2 e2 => ?_⟩
    have B2 := B1.step two.1 w2 e2
    simp only [dSeq, dIf, dExpr, dRet, dRetN, dNext, dAsg, dNever, eVar, eC, eTup, eLst, aCons, aNil, eOp, eCB, eMt, eCall, eIf, eNotT, eAnd, eOr, eTru, eTst, eNot, eAndV, eOrV, eNeg, eIsi, eChain, gVar, gTupD, gsCons, gsNil, ↓reduceIte, Bool.false_eq_true, Bool.not_true, Bool.not_false, i_tru, i_len, decide_true, decide_false, List.length_map, yes, dFor, dPar, dPar3, eLRg, eSl, oNone, oSome, eDnew, eRev, eSortedKeys, eListKeys, wipeD, tgVar, gSto, eLc, iRng1D, iRng2D, iSeq, i_add, i_sub, i_gt, i_le, i_lt, i_ge, i_eq, i_ne, i_int, i_mod, i_fdv, i_mul, i_pow, start1, start2, start3, List.replicate, List.getElem?_cons_zero, List.getElem?_cons_succ, Option.some.injEq, exists_eq_left', List.set, Nat.reduceAdd, List.length_cons, List.length_nil, List.cons.injEq, and_true, true_and, exists_eq_left, exists_and_left, D.tup.injEq, D.int.injEq, D.bl.injEq]
    refine ⟨r, s, ns, _, _, rfl, e2, by omega, by omega, by omega, by omega, fun lb1 g3 p3 p4 w3 e3 => ?_⟩
    have B3 := B2.step two.1 w3 e3
    refine ⟨_, _, ⟨rfl, rfl⟩, ?_⟩
    exact bk_t3 B3 ⟨by omega, by omega, by omega, p2, p4⟩ l2 (by omega) fun a b h' B4 => hN _ _ ⟨_, _, _, _, _, rfl, B4⟩
  · obtain ⟨t, z, la, lb, y, rfl, B⟩ := hi
    obtain ⟨ks, ep, e, k1, k2, k3⟩ := B.rules
    rw [rangeD_len] at k3
    refine ⟨trivial, ?_⟩
    simp only [dSeq, dIf, dExpr, dRet, dRetN, dNext, dAsg, dNever, eVar, eC, eTup, eLst, aCons, aNil, eOp, eCB, eMt, eCall, eIf, eNotT, eAnd, eOr, eTru, eTst, eNot, eAndV, eOrV, eNeg, eIsi, eChain, gVar, gTupD, gsCons, gsNil, ↓reduceIte, Bool.false_eq_true, Bool.not_true, Bool.not_false, i_tru, i_len, decide_true, decide_false, List.length_map, yes, dFor, dPar, dPar3, eLRg, eSl, oNone, oSome, eDnew, eRev, eSortedKeys, eListKeys, wipeD, tgVar, gSto, eLc, iRng1D, iRng2D, iSeq, i_add, i_sub, i_gt, i_le, i_lt, i_ge, i_eq, i_ne, i_int, i_mod, i_fdv, i_mul, i_pow, start1, start2, start3, List.replicate, List.getElem?_cons_zero, List.getElem?_cons_succ, Option.some.injEq, exists_eq_left', List.set, Nat.reduceAdd, List.length_cons, List.length_nil, List.cons.injEq, and_true, true_and, exists_eq_left, exists_and_left, D.tup.injEq, D.int.injEq, D.bl.injEq]
    have em : (ks.map entR).map (·.1) = ks.map ruleD := by rw [List.map_map]; rfl
    refine ⟨h2.length, rfl, _, ep, e, ?_⟩
    rw [em]
    refine ⟨can_rules (by omega), ?_⟩
    rw [sort_rules]
    have eg : (g ++ [DO.lst ((sortR ks).map ruleD)])[g.length]? = some (.lst ((sortR ks).map ruleD)) := by rw [List.getElem?_append_right (Nat.le_refl _), Nat.sub_self]; rfl
    refine ⟨_, lst_of eg, by decide, ?_⟩
    have lk := (sortR_perm ks).length_eq
    refine q (2 + v1, sortR ks) _ ⟨by show (1 : Int) ≤ 2 + v1; omega, by show 2 + v1 ≤ 4; omega, by show (sortR ks).length ≤ 12; omega, fun p hp => (k2 p ((sortR_perm ks).mem_iff.mp hp)).1, sortR_strict k1⟩ (by show (2 : Int) ≤ 2 + v1; omega) (by show 2 + v1 ≤ most; omega) (fun p hp => (k2 p ((sortR_perm ks).mem_iff.mp hp)).2) (by show (sortR ks).length ≤ 4; omega) (B.up.trans .new) B.dr.new
  · have dd : (h2 ++ [DO.dct [] 0])[h2.length]? = some (.dct [] 0) := by rw [List.getElem?_append_right (Nat.le_refl _), Nat.sub_self]; rfl
    refine ⟨((((u1.trans u2).trans .new).trans u3).trans u4), d4, by omega, by omega, by omega, (u4.at' _ lo (by omega)).trans oat, olen, [], 0, ?_, List.nodup_nil, fun _ z => (by cases z), Nat.le_refl _⟩
    rw [u4.at' _ (by omega) (by omega), u3.at' _ (by omega) (by omega)]
    exact dd
end DL
set_option Elab.async false
set_option linter.all false
set_option maxRecDepth 100000
set_option maxHeartbeats 4000000
namespace DL
open PySem PySem.Spec PyProof.Rows L2
open PySem.W (Frag dataLt alike AllAlike Sortable)
open SB (Rule Book dSide dRule ltR ltI)
theorem cLoop2_inv {n0 : Nat} {tgt tgt1 : Tgt} {tt tt1 : DT} {ι1 : DI} {vs1 : List Nat} {ε : DE} {chk : DH → Prop} {env0 : Env} {Qd : DH → Prop} (xs : List D) (I : Nat → DH → Prop)
    (step : ∀ (i : Nat) (x : D) (h : DH) (K : DH → Prop), xs[i]? = some x → I i h → (∀ h', I (i + 1) h' → K h') → chk h ∧ ∃ env2, tgt x env0 = some env2 ∧ tt EF env2 h fun b h3 =>
      if b = true then ι1 EF env2 h3 fun items1 chk1 h4 => cLoop n0 tgt1 tt1 ε chk1 (wipeD env2 vs1) K items1 h4 else K h3)
    (fin : ∀ h, I xs.length h → chk h ∧ Qd h) {h : DH} (h0 : I 0 h) : cLoop2 n0 tgt tt ι1 tgt1 tt1 vs1 ε chk env0 Qd xs h := by
  have key : ∀ (ys : List D) (k : Nat), ys = xs.drop k → k ≤ xs.length → ∀ h, I k h → cLoop2 n0 tgt tt ι1 tgt1 tt1 vs1 ε chk env0 Qd ys h := by
    intro ys
    induction ys with
    | nil =>
      intro k e hk h hi
      have hl : xs.length ≤ k := List.drop_eq_nil_iff.mp e.symm
      have ek : k = xs.length := by omega
      exact fin h (ek ▸ hi)
    | cons y ys ih =>
      intro k e hk h hi
      have hlt : k < xs.length := by
        have := congrArg List.length e
        rw [List.length_cons, List.length_drop] at this
        omega
      rw [List.drop_eq_getElem_cons hlt] at e
      injection e with e1 e2
      exact step k y h _ (by rw [List.getElem?_eq_getElem hlt, e1]) hi fun h' hi' => ih (k + 1) e2 hlt h' hi'
  exact key xs 0 rfl (Nat.zero_le _) h h0
/-! ### the turns of a word by a rule -/
def cel (w : List Int) (l c : Int) (st : List Int) (at_ : Nat) : List (List Int) := if w[at_]? = some l then [st ++ (w.take at_).drop st.length ++ [c]] else []
def gr1 (w : List Int) (l c : Int) (st : List Int) : List (List Int) := (List.range' st.length (w.length - st.length)).flatMap (cel w l c st)
def grow (w : List Int) (bs : List (List Int)) (q : Int × Int) : List (List Int) := bs.flatMap (gr1 w q.1 q.2)
def begun (p : Rule) (w : List Int) : List (List Int) := (p.1.zip p.2).foldl (grow w) [[]]
def turnsF (p : Rule) (w : List Int) : List (List Int) := (begun p w).map fun st => st ++ w.drop st.length
theorem take_flat {α β : Type} (f : α → List β) (xs : List α) (i : Nat) (x : α) (h : xs[i]? = some x) : (xs.take (i + 1)).flatMap f = (xs.take i).flatMap f ++ f x := by
  rw [List.take_add_one, h, List.flatMap_append]
  simp
theorem flat_le {α β : Type} (f : α → List β) (n : Nat) : ∀ (xs : List α), (∀ x ∈ xs, (f x).length ≤ n) → (xs.flatMap f).length ≤ xs.length * n
  | [], _ => by simp
  | x :: xs, h => by
    rw [List.flatMap_cons, List.length_append, List.length_cons, Nat.succ_mul]
    have := h x List.mem_cons_self
    have := flat_le f n xs fun y hy => h y (List.mem_cons_of_mem _ hy)
    omega
theorem cel_le (w : List Int) (l c : Int) (st : List Int) (a : Nat) : (cel w l c st a).length ≤ 1 := by unfold cel; split <;> simp
theorem gr1_le (w : List Int) (l c : Int) (st : List Int) : (gr1 w l c st).length ≤ w.length := by
  have := flat_le (cel w l c st) 1 (List.range' st.length (w.length - st.length)) fun x _ => cel_le w l c st x
  rw [List.length_range', Nat.mul_one] at this
  exact Nat.le_trans this (Nat.sub_le _ _)
theorem grow_le (w : List Int) (bs : List (List Int)) (q : Int × Int) : (grow w bs q).length ≤ bs.length * w.length := flat_le _ _ _ fun x _ => gr1_le w q.1 q.2 x
theorem cel_len {w : List Int} {l c : Int} {st : List Int} {a : Nat} {x : List Int} (hs : st.length ≤ a) (h : x ∈ cel w l c st a) : x.length = a + 1 ∧ a < w.length := by
  unfold cel at h
  split at h
  · rename_i e
    have ha := (List.getElem?_eq_some_iff.mp e).1
    rw [List.mem_singleton.mp h]
    refine ⟨?_, ha⟩
    simp only [List.length_append, List.length_drop, List.length_take, List.length_cons, List.length_nil]
    omega
  · cases h
theorem grow_len {w : List Int} {bs : List (List Int)} {q : Int × Int} (hb : ∀ x ∈ bs, x.length ≤ w.length) : ∀ x ∈ grow w bs q, x.length ≤ w.length := fun x hx => by
  obtain ⟨st, hst, h1⟩ := List.mem_flatMap.mp hx
  obtain ⟨a, ha, h2⟩ := List.mem_flatMap.mp h1
  obtain ⟨e, lt⟩ := cel_len (List.mem_range'_1.mp ha).1 h2
  omega
theorem cut_mid {xs : List D} {u v : Int} (h0 : 0 ≤ u) (h1 : u ≤ v) (h2 : v ≤ xs.length) : cutD xs (some u) (some v) = (xs.take v.toNat).drop u.toNat := by
  have e1 : HT.sIx xs.length 0 (some u) = u.toNat := by
    show (if u < 0 then (u + xs.length).toNat else min u.toNat xs.length) = _
    rw [if_neg (by omega)]; omega
  have e2 : HT.sIx xs.length xs.length (some v) = v.toNat := by
    show (if v < 0 then (v + xs.length).toNat else min v.toNat xs.length) = _
    rw [if_neg (by omega)]; omega
  unfold cutD
  rw [e1, e2, List.drop_take]
theorem sl_mid {w : List Int} {u v : Nat} {h : DH} {Q : VD} (h1 : u ≤ v) (h2 : v ≤ w.length) (q : Q (wD ((w.take v).drop u)) h) : dSl (wD w) (some (u : Nat)) (some (v : Nat)) h Q := by
  show Q (.tup (cutD (w.map .int) (some (u : Nat)) (some (v : Nat)))) h
  rw [cut_mid (by omega) (by omega) (by rw [List.length_map]; omega), Int.toNat_natCast, Int.toNat_natCast, ← List.map_take, ← List.map_drop]; exact q
theorem sl_rest {w : List Int} {u : Nat} {h : DH} {Q : VD} (h1 : u ≤ w.length) (q : Q (wD (w.drop u)) h) : dSl (wD w) (some (u : Nat)) none h Q := by
  show Q (.tup (cutD (w.map .int) (some (u : Nat)) none)) h
  rw [cut_from (by omega) (by rw [List.length_map]; omega), Int.toNat_natCast, ← List.map_drop]; exact q
theorem set_end {h : DH} {o u : DO} : (h ++ [o]).set h.length u = h ++ [u] := by rw [List.set_append_right _ _ (Nat.le_refl _), Nat.sub_self]; rfl
theorem at_end {h : DH} {o : DO} : (h ++ [o])[h.length]? = some o := by rw [List.getElem?_append_right (Nat.le_refl _), Nat.sub_self]; rfl
/-- one letter's turn of the comprehension -/
theorem lc_grow {w : List Int} {bs : List (List Int)} {l c : Int} {n : Nat} {h1 : DH} {x0 x3 x4 y7 y8 : Option D} {Qd : DH → Prop} (eight : w.length ≤ 8) (hn : n < h1.length) (hb : lstOf h1 n = some (bs.map wD)) (bl : ∀ st ∈ bs, st.length ≤ w.length) (few : bs.length ≤ 1000)
    (hQ : Qd (h1 ++ [.lst ((grow w bs (l, c)).map wD)])) :
    cLoop2 h1.length (tgVar 7) yes (iRng2D (aCons (eCB cLenA (aCons (eVar 7) aNil)) (aCons (eCB cLenA (aCons (eVar 1) aNil)) aNil))) (tgVar 8) (eTst (eOp dEq (eOp dIxA (eVar 1) (eVar 8)) (eVar 5))) [8]
      (eOp dAdd (eOp dAdd (eVar 7) (eSl (eVar 1) (oSome (eCB cLenA (aCons (eVar 7) aNil))) (oSome (eVar 8)))) (eTup (aCons (eVar 6) aNil))) (fun h => lstOf h n = some (bs.map wD)) (wipeD [x0, some (wD w), some (.ref n), x3, x4, some (.int l), some (.int c), y7, y8] [7, 8]) Qd (bs.map wD) (h1 ++ [.lst []]) := by
  have chk : ∀ o : DO, lstOf (h1 ++ [o]) n = some (bs.map wD) := fun o => by rw [lstOf_eq (List.getElem?_append_left hn)]; exact hb
  refine cLoop2_inv _ (fun i h' => h' = h1 ++ [.lst (((bs.take i).flatMap (gr1 w l c)).map wD)]) (fun i x h2 K hx hi hK => ?_) (fun h2 hi => ?_) rfl
  · subst hi
    rw [List.getElem?_map] at hx
    obtain ⟨st, hst, rfl⟩ := Option.map_eq_some_iff.mp hx
    have lst := bl st (List.mem_of_getElem? hst)
    have lacc : ((bs.take i).flatMap (gr1 w l c)).length ≤ 8000 := by
      have := flat_le (gr1 w l c) 8 (bs.take i) fun y _ => Nat.le_trans (gr1_le w l c y) eight
      rw [List.length_take] at this
      omega
    refine ⟨chk _, _, rfl, ?_⟩
    simp only [dSeq, dIf, dExpr, dRet, dRetN, dNext, dAsg, dNever, eVar, eC, eTup, eLst, aCons, aNil, eOp, eCB, eMt, eCall, eIf, eNotT, eAnd, eOr, eTru, eTst, eNot, eAndV, eOrV, eNeg, eIsi, eChain, gVar, gTupD, gsCons, gsNil, ↓reduceIte, Bool.false_eq_true, Bool.not_true, Bool.not_false, i_tru, i_len, decide_true, decide_false, List.length_map, yes, dFor, dPar, dPar3, eLRg, eSl, oNone, oSome, eDnew, eRev, eSortedKeys, eListKeys, wipeD, tgVar, gSto, eLc, iRng1D, iRng2D, iSeq, eLc2, i_add, i_sub, i_gt, i_le, i_lt, i_ge, i_eq, i_ne, i_int, i_mod, i_fdv, i_mul, i_pow, start1, start2, start3, List.replicate, List.getElem?_cons_zero, List.getElem?_cons_succ, Option.some.injEq, exists_eq_left', List.set, Nat.reduceAdd, List.length_cons, List.length_nil, List.cons.injEq, and_true, true_and, exists_eq_left, exists_and_left, D.tup.injEq, D.int.injEq, D.bl.injEq]
    refine ⟨by omega, by omega, by omega, by omega, ?_⟩
    rw [show ((w.length : Int) - (st.length : Int)).toNat = w.length - st.length by omega]
    refine cLoop_inv _ (fun j h' => h' = h1 ++ [.lst (((bs.take i).flatMap (gr1 w l c) ++ ((List.range' st.length (w.length - st.length)).take j).flatMap (cel w l c st)).map wD)]) (fun j x h2 K2 hx hi hK2 => ?_) (fun h2 hi => ?_) (by simp)
    · subst hi
      obtain ⟨hj, rfl⟩ := rangeD_get _ _ _ _ hx
      have inr : (List.range' st.length (w.length - st.length))[j]? = some (st.length + j) := by rw [List.getElem?_range' hj]; simp
      have next := take_flat (cel w l c st) _ j _ inr
      have lin : (((List.range' st.length (w.length - st.length)).take j).flatMap (cel w l c st)).length ≤ 8 := by
        have := flat_le (cel w l c st) 1 ((List.range' st.length (w.length - st.length)).take j) fun y _ => cel_le w l c st y
        rw [List.length_take, List.length_range'] at this
        omega
      obtain ⟨v, hv⟩ : ∃ v, w[st.length + j]? = some v := ⟨_, List.getElem?_eq_getElem (by omega)⟩
      refine ⟨trivial, _, rfl, ?_⟩
      simp only [dSeq, dIf, dExpr, dRet, dRetN, dNext, dAsg, dNever, eVar, eC, eTup, eLst, aCons, aNil, eOp, eCB, eMt, eCall, eIf, eNotT, eAnd, eOr, eTru, eTst, eNot, eAndV, eOrV, eNeg, eIsi, eChain, gVar, gTupD, gsCons, gsNil, ↓reduceIte, Bool.false_eq_true, Bool.not_true, Bool.not_false, i_tru, i_len, decide_true, decide_false, List.length_map, yes, dFor, dPar, dPar3, eLRg, eSl, oNone, oSome, eDnew, eRev, eSortedKeys, eListKeys, wipeD, tgVar, gSto, eLc, iRng1D, iRng2D, iSeq, eLc2, i_add, i_sub, i_gt, i_le, i_lt, i_ge, i_eq, i_ne, i_int, i_mod, i_fdv, i_mul, i_pow, start1, start2, start3, List.replicate, List.getElem?_cons_zero, List.getElem?_cons_succ, Option.some.injEq, exists_eq_left', List.set, Nat.reduceAdd, List.length_cons, List.length_nil, List.cons.injEq, and_true, true_and, exists_eq_left, exists_and_left, D.tup.injEq, D.int.injEq, D.bl.injEq]
      have hcast : ((st.length : Nat) : Int) + ((j : Nat) : Int) = ((st.length + j : Nat) : Int) := by omega
      rw [hcast]
      refine ixA_tup (v := .int v) (atI_nat (by omega) (by rw [Int.toNat_natCast, List.getElem?_map, hv]; rfl)) ?_
      simp only [dSeq, dIf, dExpr, dRet, dRetN, dNext, dAsg, dNever, eVar, eC, eTup, eLst, aCons, aNil, eOp, eCB, eMt, eCall, eIf, eNotT, eAnd, eOr, eTru, eTst, eNot, eAndV, eOrV, eNeg, eIsi, eChain, gVar, gTupD, gsCons, gsNil, ↓reduceIte, Bool.false_eq_true, Bool.not_true, Bool.not_false, i_tru, i_len, decide_true, decide_false, List.length_map, yes, dFor, dPar, dPar3, eLRg, eSl, oNone, oSome, eDnew, eRev, eSortedKeys, eListKeys, wipeD, tgVar, gSto, eLc, iRng1D, iRng2D, iSeq, eLc2, i_add, i_sub, i_gt, i_le, i_lt, i_ge, i_eq, i_ne, i_int, i_mod, i_fdv, i_mul, i_pow, start1, start2, start3, List.replicate, List.getElem?_cons_zero, List.getElem?_cons_succ, Option.some.injEq, exists_eq_left', List.set, Nat.reduceAdd, List.length_cons, List.length_nil, List.cons.injEq, and_true, true_and, exists_eq_left, exists_and_left, D.tup.injEq, D.int.injEq, D.bl.injEq]
      by_cases e : v = l
      · rw [decide_eq_true e]
        refine iT ?_
        refine sl_mid (by omega) (by omega) (add_w (by simp only [List.length_drop, List.length_take]; omega) ⟨by decide, ?_⟩)
        refine add_w (b := [c]) (by simp only [List.length_append, List.length_drop, List.length_take, List.length_cons, List.length_nil]; omega) ?_
        refine ⟨_, mlst_of at_end, by rw [List.length_map, List.length_append]; omega, hK2 _ ?_⟩
        rw [set_end, next]
        have ce : cel w l c st (st.length + j) = [st ++ (w.take (st.length + j)).drop st.length ++ [c]] := by unfold cel; rw [hv, e, if_pos rfl]
        rw [ce, ← List.append_assoc, List.map_append (l₁ := _ ++ _)]; rfl
      · rw [decide_eq_false e]
        refine iF (hK2 _ ?_)
        have ce : cel w l c st (st.length + j) = [] := by unfold cel; rw [hv, if_neg (fun z => e (Option.some.inj z))]
        rw [next, ce, List.append_nil]
    · subst hi
      refine ⟨trivial, hK _ ?_⟩
      have e3 : (List.range' st.length (w.length - st.length)).take (w.length - st.length) = List.range' st.length (w.length - st.length) := List.take_of_length_le (by rw [List.length_range']; exact Nat.le_refl _)
      rw [rangeD_len, e3, take_flat (gr1 w l c) bs i st hst]; rfl
  · subst hi
    refine ⟨chk _, ?_⟩
    rw [List.length_map, List.take_length]
    exact hQ
/-- the program's turns -/
def spTurns : DSp := fun ds h Q _ => ∃ (p : Rule) (w : List Int), ds = [ruleD p, wD w] ∧ p.1.length = p.2.length ∧ p.1.length ≤ 3 ∧ w.length ≤ 8 ∧
  ∀ (os' : List DO), Q (.ref (h.length + os'.length)) (h ++ os' ++ [.lst ((turnsF p w).map wD)])
theorem sat_turns {ds : List D} {h : DH} {Q : VD} {E : DXK} (q : spTurns ds h Q E) : tau_turns (endsD Q E) (startD 9 ds) h := by
  obtain ⟨p, w, rfl, same, three, eight, q⟩ := q
  unfold tau_turns
  simp only [dSeq, dIf, dExpr, dRet, dRetN, dNext, dAsg, dNever, eVar, eC, eTup, eLst, aCons, aNil, eOp, eCB, eMt, eCall, eIf, eNotT, eAnd, eOr, eTru, eTst, eNot, eAndV, eOrV, eNeg, eIsi, eChain, gVar, gTupD, gsCons, gsNil, ↓reduceIte, Bool.false_eq_true, Bool.not_true, Bool.not_false, i_tru, i_len, decide_true, decide_false, List.length_map, yes, dFor, dPar, dPar3, eLRg, eSl, oNone, oSome, eDnew, eRev, eSortedKeys, eListKeys, wipeD, tgVar, gSto, eLc, iRng1D, iRng2D, iSeq, eLc2, i_add, i_sub, i_gt, i_le, i_lt, i_ge, i_eq, i_ne, i_int, i_mod, i_fdv, i_mul, i_pow, start1, start2, start3, List.replicate, List.getElem?_cons_zero, List.getElem?_cons_succ, Option.some.injEq, exists_eq_left', List.set, Nat.reduceAdd, List.length_cons, List.length_nil, List.cons.injEq, and_true, true_and, exists_eq_left, exists_and_left, D.tup.injEq, D.int.injEq, D.bl.injEq]
  refine ⟨_, _, ⟨rfl, rfl⟩, _, _, rfl, rfl, by decide, by decide, ?_⟩
  unfold iZipD
  simp only [dSeq, dIf, dExpr, dRet, dRetN, dNext, dAsg, dNever, eVar, eC, eTup, eLst, aCons, aNil, eOp, eCB, eMt, eCall, eIf, eNotT, eAnd, eOr, eTru, eTst, eNot, eAndV, eOrV, eNeg, eIsi, eChain, gVar, gTupD, gsCons, gsNil, ↓reduceIte, Bool.false_eq_true, Bool.not_true, Bool.not_false, i_tru, i_len, decide_true, decide_false, List.length_map, yes, dFor, dPar, dPar3, eLRg, eSl, oNone, oSome, eDnew, eRev, eSortedKeys, eListKeys, wipeD, tgVar, gSto, eLc, iRng1D, iRng2D, iSeq, eLc2, i_add, i_sub, i_gt, i_le, i_lt, i_ge, i_eq, i_ne, i_int, i_mod, i_fdv, i_mul, i_pow, start1, start2, start3, List.replicate, List.getElem?_cons_zero, List.getElem?_cons_succ, Option.some.injEq, exists_eq_left', List.set, Nat.reduceAdd, List.length_cons, List.length_nil, List.cons.injEq, and_true, true_and, exists_eq_left, exists_and_left, D.tup.injEq, D.int.injEq, D.bl.injEq]
  have step_at : ∀ i, (p.1.zip p.2).take (i + 1) = (p.1.zip p.2).take i ++ ((p.1.zip p.2)[i]?).toList := fun i => List.take_add_one ..
  refine dLoop_inv _ (fun i env h' => ∃ (a b : Option D) (n : Nat) (os' : List DO), env = [some (ruleD p), some (wD w), some (.ref n), some (wD p.1), some (wD p.2), a, b, none, none] ∧ h' = h ++ os' ∧ n < h'.length ∧
    h'[n]? = some (.lst ((((p.1.zip p.2).take i).foldl (grow w) [[]]).map wD)) ∧ (((p.1.zip p.2).take i).foldl (grow w) [[]]).length ≤ 8 ^ i ∧ ∀ st ∈ ((p.1.zip p.2).take i).foldl (grow w) [[]], st.length ≤ w.length)
    (fun i x env h1 N hx hi hN => ?_) (fun env h1 hi => ?_) ⟨none, none, h.length, [DO.lst [D.tup []]], rfl, rfl, by rw [List.length_append]; exact Nat.lt_succ_self _, at_end, by simp, by simp⟩
  · obtain ⟨a, b, n, os', rfl, rfl, hn, hat, len, al⟩ := hi
    obtain ⟨x1, x2, e1, e2, rfl⟩ := zipD_get _ _ _ _ hx
    rw [List.getElem?_map] at e1 e2
    obtain ⟨l, hl, rfl⟩ := Option.map_eq_some_iff.mp e1
    obtain ⟨c, hc, rfl⟩ := Option.map_eq_some_iff.mp e2
    have hz : (p.1.zip p.2)[i]? = some (l, c) := List.getElem?_zip_eq_some.mpr ⟨hl, hc⟩
    have nx : ((p.1.zip p.2).take (i + 1)).foldl (grow w) [[]] = grow w (((p.1.zip p.2).take i).foldl (grow w) [[]]) (l, c) := by
      rw [step_at, hz, List.foldl_append]; rfl
    have i3 : i < 3 := by have := (List.getElem?_eq_some_iff.mp hl).1; omega
    have lim : (((p.1.zip p.2).take i).foldl (grow w) [[]]).length ≤ 64 := Nat.le_trans len (by
      have : 8 ^ i ≤ 8 ^ 2 := Nat.pow_le_pow_right (by decide) (by omega)
      omega)
    refine ⟨trivial, ?_⟩
    simp only [dSeq, dIf, dExpr, dRet, dRetN, dNext, dAsg, dNever, eVar, eC, eTup, eLst, aCons, aNil, eOp, eCB, eMt, eCall, eIf, eNotT, eAnd, eOr, eTru, eTst, eNot, eAndV, eOrV, eNeg, eIsi, eChain, gVar, gTupD, gsCons, gsNil, ↓reduceIte, Bool.false_eq_true, Bool.not_true, Bool.not_false, i_tru, i_len, decide_true, decide_false, List.length_map, yes, dFor, dPar, dPar3, eLRg, eSl, oNone, oSome, eDnew, eRev, eSortedKeys, eListKeys, wipeD, tgVar, gSto, eLc, iRng1D, iRng2D, iSeq, eLc2, i_add, i_sub, i_gt, i_le, i_lt, i_ge, i_eq, i_ne, i_int, i_mod, i_fdv, i_mul, i_pow, start1, start2, start3, List.replicate, List.getElem?_cons_zero, List.getElem?_cons_succ, Option.some.injEq, exists_eq_left', List.set, Nat.reduceAdd, List.length_cons, List.length_nil, List.cons.injEq, and_true, true_and, exists_eq_left, exists_and_left, D.tup.injEq, D.int.injEq, D.bl.injEq]
    refine ⟨_, _, ⟨rfl, rfl⟩, _, _, rfl, rfl, ?_⟩
    refine ⟨_, lst_of hat, ?_⟩
    refine lc_grow (y7 := none) (y8 := none) eight hn (lst_of hat) al (by omega) ?_
    refine hN _ _ ⟨_, _, (h ++ os').length, os' ++ [.lst ((grow w (((p.1.zip p.2).take i).foldl (grow w) [[]]) (l, c)).map wD)], rfl, by rw [List.append_assoc], by rw [List.length_append (bs := [_])]; exact Nat.lt_succ_self _, by rw [nx]; exact at_end, ?_, by rw [nx]; exact grow_len al⟩
    rw [nx, Nat.pow_succ]
    exact Nat.le_trans (grow_le _ _ _) (Nat.mul_le_mul len eight)
  · obtain ⟨a, b, n, os', rfl, rfl, hn, hat, len, al⟩ := hi
    have full : (p.1.zip p.2).take (zipD (p.1.map D.int) (p.2.map D.int)).length = p.1.zip p.2 := List.take_of_length_le (by rw [zipD_len, List.length_zip, List.length_map, List.length_map]; exact Nat.le_refl _)
    rw [full] at hat len al
    have lim : (begun p w).length ≤ 512 := Nat.le_trans len (by
      have : (zipD (p.1.map D.int) (p.2.map D.int)).length ≤ 3 := by rw [zipD_len, List.length_map]; omega
      have : 8 ^ (zipD (p.1.map D.int) (p.2.map D.int)).length ≤ 8 ^ 3 := Nat.pow_le_pow_right (by decide) this
      omega)
    refine ⟨trivial, ?_⟩
    simp only [dSeq, dIf, dExpr, dRet, dRetN, dNext, dAsg, dNever, eVar, eC, eTup, eLst, aCons, aNil, eOp, eCB, eMt, eCall, eIf, eNotT, eAnd, eOr, eTru, eTst, eNot, eAndV, eOrV, eNeg, eIsi, eChain, gVar, gTupD, gsCons, gsNil, ↓reduceIte, Bool.false_eq_true, Bool.not_true, Bool.not_false, i_tru, i_len, decide_true, decide_false, List.length_map, yes, dFor, dPar, dPar3, eLRg, eSl, oNone, oSome, eDnew, eRev, eSortedKeys, eListKeys, wipeD, tgVar, gSto, eLc, iRng1D, iRng2D, iSeq, eLc2, i_add, i_sub, i_gt, i_le, i_lt, i_ge, i_eq, i_ne, i_int, i_mod, i_fdv, i_mul, i_pow, start1, start2, start3, List.replicate, List.getElem?_cons_zero, List.getElem?_cons_succ, Option.some.injEq, exists_eq_left', List.set, Nat.reduceAdd, List.length_cons, List.length_nil, List.cons.injEq, and_true, true_and, exists_eq_left, exists_and_left, D.tup.injEq, D.int.injEq, D.bl.injEq]
    refine ⟨_, lst_of hat, ?_⟩
    have chk : ∀ o : DO, lstOf (h ++ os' ++ [o]) n = some ((begun p w).map wD) := fun o => by rw [lstOf_eq (List.getElem?_append_left hn)]; exact lst_of hat
    refine cLoop_inv _ (fun i h' => h' = h ++ os' ++ [.lst (((begun p w).take i).map fun st => wD (st ++ w.drop st.length))]) (fun i x h2 K hx hi hK => ?_) (fun h2 hi => ?_) rfl
    · subst hi
      rw [List.getElem?_map] at hx
      obtain ⟨st, hst, rfl⟩ := Option.map_eq_some_iff.mp hx
      have ls := al st (List.mem_of_getElem? hst)
      refine ⟨chk _, _, rfl, ?_⟩
      simp only [dSeq, dIf, dExpr, dRet, dRetN, dNext, dAsg, dNever, eVar, eC, eTup, eLst, aCons, aNil, eOp, eCB, eMt, eCall, eIf, eNotT, eAnd, eOr, eTru, eTst, eNot, eAndV, eOrV, eNeg, eIsi, eChain, gVar, gTupD, gsCons, gsNil, ↓reduceIte, Bool.false_eq_true, Bool.not_true, Bool.not_false, i_tru, i_len, decide_true, decide_false, List.length_map, yes, dFor, dPar, dPar3, eLRg, eSl, oNone, oSome, eDnew, eRev, eSortedKeys, eListKeys, wipeD, tgVar, gSto, eLc, iRng1D, iRng2D, iSeq, eLc2, i_add, i_sub, i_gt, i_le, i_lt, i_ge, i_eq, i_ne, i_int, i_mod, i_fdv, i_mul, i_pow, start1, start2, start3, List.replicate, List.getElem?_cons_zero, List.getElem?_cons_succ, Option.some.injEq, exists_eq_left', List.set, Nat.reduceAdd, List.length_cons, List.length_nil, List.cons.injEq, and_true, true_and, exists_eq_left, exists_and_left, D.tup.injEq, D.int.injEq, D.bl.injEq]
      refine sl_rest ls (add_w (by rw [List.length_drop]; omega) ?_)
      refine ⟨_, mlst_of at_end, by rw [List.length_map, List.length_take]; omega, hK _ ?_⟩
      rw [set_end, List.take_add_one, show (begun p w)[i]? = some st from hst, List.map_append]; rfl
    · subst hi
      refine ⟨chk _, ?_⟩
      rw [List.length_map, show (List.foldl (grow w) [[]] (p.1.zip p.2)) = begun p w from rfl, List.take_length]
      have := q os'
      unfold turnsF at this
      rw [List.map_map] at this
      rw [List.length_append]
      exact this
end DL
set_option Elab.async false
set_option linter.all false
set_option maxRecDepth 100000
set_option maxHeartbeats 4000000
namespace DL
open PySem PySem.Spec PyProof.Rows L2
open PySem.W (Frag dataLt alike AllAlike Sortable)
open SB (Rule Book dSide dRule ltR ltI ltI_irr ltI_tri ltI_asym ltI_trans alike_side dataLt_side)
/-! ### how many turns -/
def ways (n : Nat) : Nat → Nat → Nat
  | 0, _ => 1
  | k + 1, s => ((List.range' s (n - s)).map fun a => ways n k (a + 1)).sum
theorem sum_flat {α β : Type} (f : α → List β) (g : β → Nat) : ∀ xs : List α, ((xs.flatMap f).map g).sum = (xs.map fun x => ((f x).map g).sum).sum
  | [] => rfl
  | x :: xs => by rw [List.flatMap_cons, List.map_append, List.sum_append, sum_flat f g xs, List.map_cons, List.sum_cons]
theorem sum_le {α : Type} {f g : α → Nat} : ∀ xs : List α, (∀ x ∈ xs, f x ≤ g x) → (xs.map f).sum ≤ (xs.map g).sum
  | [], _ => Nat.le_refl _
  | x :: xs, h => by
    rw [List.map_cons, List.map_cons, List.sum_cons, List.sum_cons]
    exact Nat.add_le_add (h x List.mem_cons_self) (sum_le xs fun y hy => h y (List.mem_cons_of_mem _ hy))
theorem cel_sum {w : List Int} {l c : Int} {st : List Int} {a k : Nat} (ha : st.length ≤ a) : ((cel w l c st a).map fun x => ways w.length k x.length).sum ≤ ways w.length k (a + 1) := by
  have h : ∀ x ∈ cel w l c st a, x.length = a + 1 := fun x hx => (cel_len ha hx).1
  have := cel_le w l c st a
  generalize cel w l c st a = y at h this
  match y, h, this with
  | [], _, _ => exact Nat.zero_le _
  | [x], h, _ => simp [h x List.mem_cons_self]
  | _ :: _ :: _, _, h2 => simp at h2
theorem ways_le {w : List Int} : ∀ (qs : List (Int × Int)) (bs : List (List Int)), (qs.foldl (grow w) bs).length ≤ (bs.map fun st => ways w.length qs.length st.length).sum
  | [], bs => by
    show bs.length ≤ (bs.map fun _ => 1).sum
    induction bs with
    | nil => exact Nat.le_refl _
    | cons b bs ih => rw [List.length_cons, List.map_cons, List.sum_cons]; omega
  | q :: qs, bs => by
    refine Nat.le_trans (ways_le qs (grow w bs q)) ?_
    unfold grow
    rw [sum_flat]
    refine sum_le _ fun st _ => ?_
    unfold gr1
    rw [sum_flat]
    show _ ≤ ((List.range' st.length (w.length - st.length)).map fun a => ways w.length qs.length (a + 1)).sum
    exact sum_le _ fun a ha => cel_sum (List.mem_range'_1.mp ha).1
theorem ways_56 : ∀ n : Fin 9, ∀ k : Fin 4, ways n.val k.val 0 ≤ 56 + 14 := by decide +kernel
theorem ways_3 : ∀ n : Fin 9, ∀ k : Fin 4, ways n.val k.val 0 ≤ 56 := by decide +kernel
theorem turns_56 {p : Rule} {w : List Int} (same : p.1.length = p.2.length) (three : p.1.length ≤ 3) (eight : w.length ≤ 8) : (turnsF p w).length ≤ 56 := by
  unfold turnsF
  rw [List.length_map]
  have h := ways_le (w := w) (p.1.zip p.2) [[]]
  have e : (p.1.zip p.2).length = p.1.length := by rw [List.length_zip, ← same, Nat.min_self]
  rw [e] at h
  have := ways_3 ⟨w.length, by omega⟩ ⟨p.1.length, by omega⟩
  unfold begun
  simp only [List.map_cons, List.map_nil, List.sum_cons, List.sum_nil, List.length_nil] at h
  dsimp only at this
  omega
theorem foldl_len {w : List Int} : ∀ (qs : List (Int × Int)) (bs : List (List Int)), (∀ x ∈ bs, x.length ≤ w.length) → ∀ x ∈ qs.foldl (grow w) bs, x.length ≤ w.length
  | [], _, h => h
  | q :: qs, bs, h => foldl_len qs _ (grow_len h)
theorem turns_len {p : Rule} {w x : List Int} (h : x ∈ turnsF p w) : x.length = w.length := by
  obtain ⟨st, hst, rfl⟩ := List.mem_map.mp h
  have := foldl_len (w := w) (p.1.zip p.2) [[]] (by simp) st hst
  rw [List.length_append, List.length_drop]; omega
theorem turns_empty {p : Rule} (one : 1 ≤ p.1.length) (same : p.1.length = p.2.length) : turnsF p [] = [] := by
  have h := ways_le (w := []) (p.1.zip p.2) [[]]
  have e : (p.1.zip p.2).length = p.1.length := by rw [List.length_zip, ← same, Nat.min_self]
  rw [e] at h
  obtain ⟨k, hk⟩ : ∃ k, p.1.length = k + 1 := ⟨p.1.length - 1, by omega⟩
  rw [hk] at h
  have z : (begun p []).length ≤ 0 := h
  unfold turnsF
  rw [List.eq_nil_of_length_eq_zero (Nat.le_zero.mp z)]; rfl
/-! ### words in order -/
def sortW (l : List (List Int)) : List (List Int) := l.mergeSort fun a b => !ltI b a
theorem leW_total (a b : List Int) : (!ltI b a || !ltI a b) = true := by
  cases h : ltI a b with
  | false => simp
  | true => rw [ltI_asym a b h]; rfl
theorem leW_trans (a b c : List Int) (h : (!ltI b a) = true) (h' : (!ltI c b) = true) : (!ltI c a) = true := by
  have h1 : ltI b a = false := by simpa using h
  have h2 : ltI c b = false := by simpa using h'
  cases q : ltI c a with
  | false => rfl
  | true =>
    cases q2 : ltI a b with
    | true => rw [ltI_trans c a b q q2] at h2; cases h2
    | false =>
      rw [ltI_tri a b q2 h1] at q
      rw [q] at h2
      cases h2
theorem sortW_perm (l : List (List Int)) : (sortW l).Perm l := List.mergeSort_perm _ _
theorem sortW_up (l : List (List Int)) : (sortW l).Pairwise fun a b => ltI b a = false := by
  have h := List.pairwise_mergeSort (le := fun a b => !ltI b a) leW_trans leW_total l
  exact h.imp fun q => by simpa using q
theorem sortW_same {a b : List (List Int)} (h : a.Perm b) : sortW a = sortW b :=
  List.Perm.eq_of_pairwise (fun x y _ _ h1 h2 => ltI_tri x y h2 h1) (sortW_up a) (sortW_up b) ((sortW_perm a).trans (h.trans (sortW_perm b).symm))
theorem dat_w (l : List Int) : datP (wD l) = dSide l := by unfold datP; rw [toP_w]; rfl
theorem sort_words (l : List (List Int)) : sortD (l.map wD) = (sortW l).map wD := by
  unfold sortD sortW
  refine (List.map_mergeSort (f := wD) (r := fun a b => !ltI b a) (s := leD) (fun a _ b _ => ?_)).symm
  show (!ltI b a) = !dataLt (datP (wD b)) (datP (wD a))
  rw [dat_w, dat_w, dataLt_side]
theorem can_words {l : List (List Int)} (h : l.length ≤ 1000000) (ne : ∀ x ∈ l, x ≠ []) : CanSort (l.map wD) := by
  have e : (l.map wD).map datP = l.map dSide := by rw [List.map_map]; exact List.map_congr_left fun p _ => dat_w p
  refine ⟨fun x hx => ?_, ?_, ?_, by rw [List.length_map]; exact h⟩
  · obtain ⟨p, _, rfl⟩ := List.mem_map.mp hx
    refine ⟨_, toP_w p, ?_⟩
    have : (dSide p).depth = 1 := by show PyData.depthAll (p.map .int) + 1 = 1; rw [depth_ints]
    omega
  · rw [e]
    exact PySem.W.AllAlike.of fun b b' => alike_side _ _
  · rw [e]
    refine .inl fun d hd => ?_
    obtain ⟨x, hx, rfl⟩ := List.mem_map.mp hd
    cases x with
    | nil => exact absurd rfl (ne _ hx)
    | cons y ys => exact ⟨.int y, ys.map .int, rfl⟩
/-- each once -/
def dd : List (List Int) → List (List Int)
  | [] => []
  | x :: xs => if x ∈ dd xs then dd xs else x :: dd xs
theorem mem_dd {y : List Int} : ∀ {xs : List (List Int)}, y ∈ dd xs ↔ y ∈ xs
  | [] => Iff.rfl
  | x :: xs => by
    unfold dd
    split
    · rename_i h
      rw [mem_dd, List.mem_cons]
      exact ⟨.inr, fun z => z.elim (fun e => by rw [e]; exact mem_dd.mp h) id⟩
    · rw [List.mem_cons, List.mem_cons, mem_dd]
theorem nodup_dd : ∀ xs : List (List Int), (dd xs).Nodup
  | [] => List.nodup_nil
  | x :: xs => by
    unfold dd
    split
    · exact nodup_dd xs
    · rename_i h
      exact List.nodup_cons.mpr ⟨h, nodup_dd xs⟩
/-- the next words, in order -/
def nextF (rs : List Rule) (w : List Int) : List (List Int) := sortW (dd (rs.flatMap fun p => turnsF p w))
theorem wD_inj {a b : List Int} (h : wD a = wD b) : a = b := by
  injection h with h
  have key : ∀ a b : List Int, a.map D.int = b.map D.int → a = b := fun a => by
    induction a with
    | nil => intro b h; cases b with
      | nil => rfl
      | cons _ _ => cases h
    | cons x a ih => intro b h; cases b with
      | nil => cases h
      | cons y b =>
        rw [List.map_cons, List.map_cons] at h
        injection h with h1 h2
        injection h1 with h1
        rw [h1, ih b h2]
  exact key a b h
/-- what a set's order can be -/
theorem words_of {xs : List D} {ls : List (List Int)} (m : ∀ y, y ∈ xs ↔ y ∈ ls.map wD) (nd : xs.Nodup) : ∃ l' : List (List Int), xs = l'.map wD ∧ l'.Perm (dd ls) := by
  have key : ∀ xs : List D, (∀ y ∈ xs, y ∈ ls.map wD) → ∃ l' : List (List Int), xs = l'.map wD := fun xs => by
    induction xs with
    | nil => intro _; exact ⟨[], rfl⟩
    | cons x xs ih =>
      intro h
      obtain ⟨l', e⟩ := ih fun y hy => h y (List.mem_cons_of_mem _ hy)
      obtain ⟨a, _, ea⟩ := List.mem_map.mp (h x List.mem_cons_self)
      exact ⟨a :: l', by rw [List.map_cons, ea, e]⟩
  obtain ⟨l', rfl⟩ := key xs fun y hy => (m y).mp hy
  have nd' : l'.Nodup := List.Pairwise.imp (fun ne e => ne (by rw [e])) (List.pairwise_map.mp nd)
  refine ⟨l', rfl, (List.perm_ext_iff_of_nodup nd' (nodup_dd ls)).mpr fun a => ?_⟩
  rw [mem_dd]
  have := m (wD a)
  constructor
  · intro h
    obtain ⟨b, hb, e⟩ := List.mem_map.mp (this.mp (List.mem_map.mpr ⟨a, h, rfl⟩))
    rw [← wD_inj e]; exact hb
  · intro h
    obtain ⟨b, hb, e⟩ := List.mem_map.mp (this.mpr (List.mem_map.mpr ⟨a, h, rfl⟩))
    rw [← wD_inj e]; exact hb

theorem setKey_w (l : List Int) : SetKey (wD l) := ⟨_, _, rfl, nk_w l, by rw [depth_nkI]; decide, by
  have key : ∀ l : List Int, plainKs (l.map .num) = true := fun l => by
    induction l with
    | nil => rfl
    | cons x l ih => show (plainK (.num x) && plainKs (l.map .num)) = true; rw [ih]; rfl
  exact key l⟩
theorem dd_len (xs : List (List Int)) : (dd xs).length ≤ xs.length := by
  induction xs with
  | nil => exact Nat.le_refl _
  | cons x xs ih =>
    unfold dd
    split
    · rw [List.length_cons]; omega
    · rw [List.length_cons, List.length_cons]; omega
theorem found_le {rs : List Rule} {w : List Int} (five : rs.length ≤ 5) (eight : w.length ≤ 8) (ok : ∀ p ∈ rs, p.1.length = p.2.length ∧ p.1.length ≤ 3) (i : Nat) : ((rs.take i).flatMap fun p => turnsF p w).length ≤ 280 := by
  have := flat_le (fun p : Rule => turnsF p w) 56 (rs.take i) fun p hp => turns_56 (ok p (List.mem_of_mem_take hp)).1 (ok p (List.mem_of_mem_take hp)).2 eight
  rw [List.length_take] at this
  omega
/-- next_words -/
def spNext : DSp := fun ds h Q _ => ∃ (rs : List Rule) (w : List Int), ds = [.tup (rs.map ruleD), wD w] ∧ rs.length ≤ 5 ∧ (∀ p ∈ rs, 1 ≤ p.1.length ∧ p.1.length = p.2.length ∧ p.1.length ≤ 3) ∧ w.length ≤ 8 ∧
  ∀ os' : List DO, Q (.tup ((nextF rs w).map wD)) (h ++ os')
theorem next_len {rs : List Rule} {w x : List Int} (h : x ∈ dd (rs.flatMap fun p => turnsF p w)) : x.length = w.length := by
  obtain ⟨p, _, hx⟩ := List.mem_flatMap.mp (mem_dd.mp h)
  exact turns_len hx
theorem sat_next {ds : List D} {h : DH} {Q : VD} {E : DXK} (q : spNext ds h Q E) : tau_next_words spTurns (endsD Q E) (startD 5 ds) h := by
  obtain ⟨rs, w, rfl, five, ok, eight, q⟩ := q
  have ok2 : ∀ p ∈ rs, p.1.length = p.2.length ∧ p.1.length ≤ 3 := fun p hp => (ok p hp).2
  unfold tau_next_words
  simp only [dSeq, dIf, dExpr, dRet, dRetN, dNext, dAsg, dNever, eVar, eC, eTup, eLst, aCons, aNil, eOp, eCB, eMt, eCall, eIf, eNotT, eAnd, eOr, eTru, eTst, eNot, eAndV, eOrV, eNeg, eIsi, eChain, gVar, gTupD, gsCons, gsNil, ↓reduceIte, Bool.false_eq_true, Bool.not_true, Bool.not_false, i_tru, i_len, decide_true, decide_false, List.length_map, yes, dFor, dPar, dPar3, eLRg, eSl, oNone, oSome, eDnew, eRev, eSortedKeys, eListKeys, wipeD, tgVar, gSto, eLc, iRng1D, iRng2D, iSeq, eLc2, i_add, i_sub, i_gt, i_le, i_lt, i_ge, i_eq, i_ne, i_int, i_mod, i_fdv, i_mul, i_pow, start1, start2, start3, List.replicate, List.getElem?_cons_zero, List.getElem?_cons_succ, Option.some.injEq, exists_eq_left', List.set, Nat.reduceAdd, List.length_cons, List.length_nil, List.cons.injEq, and_true, true_and, exists_eq_left, exists_and_left, D.tup.injEq, D.int.injEq, D.bl.injEq]
  refine cLoop2_inv _ (fun i h' => ∃ os' : List DO, h' = h ++ [.lst (((rs.take i).flatMap fun p => turnsF p w).map wD)] ++ os') (fun i x h1 K hx hi hK => ?_) (fun h1 hi => ?_) ⟨[], by rw [List.append_nil]; rfl⟩
  · obtain ⟨os', rfl⟩ := hi
    rw [List.getElem?_map] at hx
    obtain ⟨p, hp, rfl⟩ := Option.map_eq_some_iff.mp hx
    have okp := ok p (List.mem_of_getElem? hp)
    refine ⟨trivial, _, rfl, ?_⟩
    simp only [dSeq, dIf, dExpr, dRet, dRetN, dNext, dAsg, dNever, eVar, eC, eTup, eLst, aCons, aNil, eOp, eCB, eMt, eCall, eIf, eNotT, eAnd, eOr, eTru, eTst, eNot, eAndV, eOrV, eNeg, eIsi, eChain, gVar, gTupD, gsCons, gsNil, ↓reduceIte, Bool.false_eq_true, Bool.not_true, Bool.not_false, i_tru, i_len, decide_true, decide_false, List.length_map, yes, dFor, dPar, dPar3, eLRg, eSl, oNone, oSome, eDnew, eRev, eSortedKeys, eListKeys, wipeD, tgVar, gSto, eLc, iRng1D, iRng2D, iSeq, eLc2, i_add, i_sub, i_gt, i_le, i_lt, i_ge, i_eq, i_ne, i_int, i_mod, i_fdv, i_mul, i_pow, start1, start2, start3, List.replicate, List.getElem?_cons_zero, List.getElem?_cons_succ, Option.some.injEq, exists_eq_left', List.set, Nat.reduceAdd, List.length_cons, List.length_nil, List.cons.injEq, and_true, true_and, exists_eq_left, exists_and_left, D.tup.injEq, D.int.injEq, D.bl.injEq]
    refine ⟨p, w, rfl, okp.2.1, okp.2.2, eight, fun o2 => ?_⟩
    have lacc := found_le five eight ok2 i
    have l56 := turns_56 okp.2.1 okp.2.2 eight
    simp only [dSeq, dIf, dExpr, dRet, dRetN, dNext, dAsg, dNever, eVar, eC, eTup, eLst, aCons, aNil, eOp, eCB, eMt, eCall, eIf, eNotT, eAnd, eOr, eTru, eTst, eNot, eAndV, eOrV, eNeg, eIsi, eChain, gVar, gTupD, gsCons, gsNil, ↓reduceIte, Bool.false_eq_true, Bool.not_true, Bool.not_false, i_tru, i_len, decide_true, decide_false, List.length_map, yes, dFor, dPar, dPar3, eLRg, eSl, oNone, oSome, eDnew, eRev, eSortedKeys, eListKeys, wipeD, tgVar, gSto, eLc, iRng1D, iRng2D, iSeq, eLc2, i_add, i_sub, i_gt, i_le, i_lt, i_ge, i_eq, i_ne, i_int, i_mod, i_fdv, i_mul, i_pow, start1, start2, start3, List.replicate, List.getElem?_cons_zero, List.getElem?_cons_succ, Option.some.injEq, exists_eq_left', List.set, Nat.reduceAdd, List.length_cons, List.length_nil, List.cons.injEq, and_true, true_and, exists_eq_left, exists_and_left, D.tup.injEq, D.int.injEq, D.bl.injEq]
    have at_n : ∀ (a : DO) (b o2 : List DO) (c : DO), (h ++ [a] ++ b ++ o2 ++ [c])[(h ++ [a] ++ b).length + o2.length]? = some c := fun a b o2 c => by
      rw [← List.length_append (as := h ++ [a] ++ b)]; exact at_end
    refine ⟨_, lst_of (at_n _ _ _ _), ?_⟩
    refine cLoop_inv _ (fun j h' => h' = h ++ [.lst (((rs.take i).flatMap (fun p => turnsF p w) ++ (turnsF p w).take j).map wD)] ++ os' ++ o2 ++ [.lst ((turnsF p w).map wD)]) (fun j x h2 K2 hx hi hK2 => ?_) (fun h2 hi => ?_) (by simp)
    · subst hi
      rw [List.getElem?_map] at hx
      obtain ⟨y, hy, rfl⟩ := Option.map_eq_some_iff.mp hx
      refine ⟨lst_of (by have := at_n (.lst (((rs.take i).flatMap (fun p => turnsF p w) ++ (turnsF p w).take j).map wD)) os' o2 (.lst ((turnsF p w).map wD)); simpa using this), _, rfl, ?_⟩
      simp only [dSeq, dIf, dExpr, dRet, dRetN, dNext, dAsg, dNever, eVar, eC, eTup, eLst, aCons, aNil, eOp, eCB, eMt, eCall, eIf, eNotT, eAnd, eOr, eTru, eTst, eNot, eAndV, eOrV, eNeg, eIsi, eChain, gVar, gTupD, gsCons, gsNil, ↓reduceIte, Bool.false_eq_true, Bool.not_true, Bool.not_false, i_tru, i_len, decide_true, decide_false, List.length_map, yes, dFor, dPar, dPar3, eLRg, eSl, oNone, oSome, eDnew, eRev, eSortedKeys, eListKeys, wipeD, tgVar, gSto, eLc, iRng1D, iRng2D, iSeq, eLc2, i_add, i_sub, i_gt, i_le, i_lt, i_ge, i_eq, i_ne, i_int, i_mod, i_fdv, i_mul, i_pow, start1, start2, start3, List.replicate, List.getElem?_cons_zero, List.getElem?_cons_succ, Option.some.injEq, exists_eq_left', List.set, Nat.reduceAdd, List.length_cons, List.length_nil, List.cons.injEq, and_true, true_and, exists_eq_left, exists_and_left, D.tup.injEq, D.int.injEq, D.bl.injEq]
      have at_h : (h ++ [DO.lst (((rs.take i).flatMap (fun p => turnsF p w) ++ (turnsF p w).take j).map wD)] ++ os' ++ o2 ++ [DO.lst ((turnsF p w).map wD)])[h.length]? = some (.lst (((rs.take i).flatMap (fun p => turnsF p w) ++ (turnsF p w).take j).map wD)) := by
        simp
      refine ⟨_, mlst_of at_h, by simp only [List.length_map, List.length_append, List.length_take]; omega, hK2 _ ?_⟩
      rw [List.take_add_one, hy]
      simp [List.append_assoc, List.set_append]
    · subst hi
      refine ⟨lst_of (by have := at_n (.lst (((rs.take i).flatMap (fun p => turnsF p w) ++ (turnsF p w).take ((turnsF p w).map wD).length).map wD)) os' o2 (.lst ((turnsF p w).map wD)); simpa using this), hK _ ⟨os' ++ o2 ++ [.lst ((turnsF p w).map wD)], ?_⟩⟩
      rw [List.length_map, List.take_length, take_flat (fun p => turnsF p w) rs i p hp]
      simp [List.append_assoc]
  · obtain ⟨os', rfl⟩ := hi
    rw [List.length_map, List.take_length]
    have all := found_le five eight ok2 rs.length
    rw [List.take_length] at all
    refine ⟨trivial, ?_⟩
    have at_h : (h ++ [DO.lst ((rs.flatMap fun p => turnsF p w).map wD)] ++ os')[h.length]? = some (.lst ((rs.flatMap fun p => turnsF p w).map wD)) := by simp
    refine ⟨_, _, rfl, .inr ⟨h.length, rfl, lst_of at_h⟩, by rw [List.length_map]; omega, fun y hy => ?_, fun ks m nd => ?_⟩
    · obtain ⟨x, _, rfl⟩ := List.mem_map.mp hy
      exact setKey_w x
    · obtain ⟨l', rfl, pm⟩ := words_of m nd
      have ll : l'.length ≤ 280 := by rw [pm.length_eq]; exact Nat.le_trans (dd_len _) all
      have nonempty : ∀ x ∈ l', x ≠ [] := fun x hx e => by
        have hl := next_len (pm.mem_iff.mp hx)
        rw [e] at hl
        have hw : w = [] := List.eq_nil_of_length_eq_zero hl.symm
        subst hw
        obtain ⟨p, hp, hxp⟩ := List.mem_flatMap.mp (mem_dd.mp (pm.mem_iff.mp hx))
        rw [turns_empty (ok p hp).1 (ok p hp).2.1] at hxp
        cases hxp
      show cSortA [.ref _] _ _
      unfold cSortA
      dsimp only
      rw [at_end]
      refine ⟨by rw [List.length_map]; omega, fun xs px => ?_⟩
      obtain ⟨l2, rfl, p2⟩ := perm_of px
      refine ⟨can_words (by have := p2.length_eq; omega) fun x hx => nonempty x (p2.mem_iff.mp hx), ?_⟩
      rw [sort_words, sortW_same (p2.trans pm)]
      refine ⟨_, lst_of at_end, ?_⟩
      unfold nextF at q
      have := q ([DO.lst ((rs.flatMap fun p => turnsF p w).map wD)] ++ os' ++ [.set (l'.map wD)] ++ [.lst ((sortW (dd (rs.flatMap fun p => turnsF p w))).map wD)])
      simpa [List.append_assoc] using this
end DL
set_option Elab.async false
set_option linter.all false
set_option maxRecDepth 100000
set_option maxHeartbeats 4000000
namespace DL
open PySem PySem.Spec PyProof.Rows L2
open PySem.W (Frag dataLt alike AllAlike Sortable)
open SB (Rule Book dSide dRule ltR ltI ltI_irr ltI_tri ltI_asym ltI_trans alike_side dataLt_side)
/-! ### steps -/
def spSteps : DSp := fun ds h Q _ => ∃ (b : Book) (l : List Int), ds = [bookD b, wD l] ∧ OkBook b ∧ b.2.length ≤ 5 ∧ l.length ≤ 8 ∧ (∀ x ∈ l, 0 ≤ x ∧ x < b.1) ∧ ∀ os' : List DO, Q (.tup ((nextF b.2 l).map wD)) (h ++ os')
theorem sat_steps {ds : List D} {h : DH} {Q : VD} {E : DXK} (q : spSteps ds h Q E) : tau_steps spStart spNext (endsD Q E) (startD 2 ds) h := by
  obtain ⟨b, l, rfl, ok, five, hl, al, q⟩ := q
  unfold tau_steps
  simp only [dSeq, dIf, dExpr, dRet, dRetN, dNext, dAsg, dNever, eVar, eC, eTup, eLst, aCons, aNil, eOp, eCB, eMt, eCall, eIf, eNotT, eAnd, eOr, eTru, eTst, eNot, eAndV, eOrV, eNeg, eIsi, eChain, gVar, gTupD, gsCons, gsNil, ↓reduceIte, Bool.false_eq_true, Bool.not_true, Bool.not_false, i_tru, i_len, decide_true, decide_false, List.length_map, yes, dFor, dPar, dPar3, eLRg, eSl, oNone, oSome, eDnew, eRev, eSortedKeys, eListKeys, wipeD, tgVar, gSto, eLc, iRng1D, iRng2D, iSeq, eLc2, i_add, i_sub, i_gt, i_le, i_lt, i_ge, i_eq, i_ne, i_int, i_mod, i_fdv, i_mul, i_pow, start1, start2, start3, List.replicate, List.getElem?_cons_zero, List.getElem?_cons_succ, Option.some.injEq, exists_eq_left', List.set, Nat.reduceAdd, List.length_cons, List.length_nil, List.cons.injEq, and_true, true_and, exists_eq_left, exists_and_left, D.tup.injEq, D.int.injEq, D.bl.injEq]
  refine ⟨b, l, rfl, ok, hl, al, ?_⟩
  simp only [dSeq, dIf, dExpr, dRet, dRetN, dNext, dAsg, dNever, eVar, eC, eTup, eLst, aCons, aNil, eOp, eCB, eMt, eCall, eIf, eNotT, eAnd, eOr, eTru, eTst, eNot, eAndV, eOrV, eNeg, eIsi, eChain, gVar, gTupD, gsCons, gsNil, ↓reduceIte, Bool.false_eq_true, Bool.not_true, Bool.not_false, i_tru, i_len, decide_true, decide_false, List.length_map, yes, dFor, dPar, dPar3, eLRg, eSl, oNone, oSome, eDnew, eRev, eSortedKeys, eListKeys, wipeD, tgVar, gSto, eLc, iRng1D, iRng2D, iSeq, eLc2, i_add, i_sub, i_gt, i_le, i_lt, i_ge, i_eq, i_ne, i_int, i_mod, i_fdv, i_mul, i_pow, start1, start2, start3, List.replicate, List.getElem?_cons_zero, List.getElem?_cons_succ, Option.some.injEq, exists_eq_left', List.set, Nat.reduceAdd, List.length_cons, List.length_nil, List.cons.injEq, and_true, true_and, exists_eq_left, exists_and_left, D.tup.injEq, D.int.injEq, D.bl.injEq]
  refine ixA_tup (v := .tup (b.2.map ruleD)) rfl ?_
  exact ⟨b.2, l, rfl, five, fun p hp => ⟨(ok.each p hp).one, (ok.each p hp).same, (ok.each p hp).three⟩, hl, q⟩
/-! ### the law's own steps -/
def hereF (w st : List Int) : List Int := st ++ w.drop st.length
def rowD (w : List Int) (x : List Int × List Int) : D := .tup [wD x.1, wD (hereF w x.2)]
def GoodR (w : List Int) (x : List Int × List Int) : Prop := x.2.length ≤ w.length ∧ x.1.length ≤ x.2.length ∧ ((x.1 = [] ∧ x.2 = []) ∨ ∃ u, x.1 = u ++ [(x.2.length : Int) - 1] ∧ 1 ≤ x.2.length)
theorem here_next {w st : List Int} {c : Int} {a : Nat} (h1 : st.length ≤ a) (h2 : a < w.length) : (hereF w st).take a ++ [c] ++ (hereF w st).drop (a + 1) = hereF w (st ++ (w.take a).drop st.length ++ [c]) := by
  unfold hereF
  have e1 : (st ++ w.drop st.length).take a = st ++ (w.take a).drop st.length := by
    rw [List.take_append, List.take_of_length_le h1, List.drop_take]
  have e2 : (st ++ w.drop st.length).drop (a + 1) = w.drop (a + 1) := by
    rw [List.drop_append, List.drop_eq_nil_of_le (by omega), List.nil_append, List.drop_drop]
    congr 1; omega
  have e3 : (st ++ (w.take a).drop st.length ++ [c]).length = a + 1 := by
    simp only [List.length_append, List.length_drop, List.length_take, List.length_cons, List.length_nil]; omega
  rw [e1, e2, e3]
theorem here_len {w st : List Int} (h : st.length ≤ w.length) : (hereF w st).length = w.length := by unfold hereF; rw [List.length_append, List.length_drop]; omega
theorem last_line {u : List Int} {v : Int} : atI ((u ++ [v]).map D.int) (-1) = some (.int v) := by
  rw [atI_last (by simp), List.length_map, List.getElem?_map]
  simp
theorem set_same {h : DH} {n : Nat} {o : DO} (e : h[n]? = some o) : h.set n o = h := by
  refine List.ext_getElem? fun i => ?_
  rw [List.getElem?_set]
  split
  · rename_i c
    subst c
    rw [if_pos (List.getElem?_eq_some_iff.mp e).1, e]
  · rfl
theorem sl_to {w : List Int} {v : Nat} {h : DH} {Q : VD} (h2 : v ≤ w.length) (q : Q (wD (w.take v)) h) : dSl (wD w) none (some (v : Nat)) h Q := by
  show Q (.tup (cutD (w.map .int) none (some (v : Nat)))) h
  rw [cut_to (by omega) (by rw [List.length_map]; omega), Int.toNat_natCast, ← List.map_take]; exact q
def lsIf : DS := (dIf (eTst (eOp dEq (eOp dIxA (eVar 1) (eVar 10)) (eOp dIxA (eVar 3) (eVar 6)))) (dExpr (eMt "list" mAppend (eVar 7) (aCons (eTup (aCons (eOp dAdd (eVar 8) (eTup (aCons (eVar 10) aNil))) (aCons (eOp dAdd (eOp dAdd (eSl (eVar 9) oNone (oSome (eVar 10))) (eTup (aCons (eOp dIxA (eVar 4) (eVar 6)) aNil))) (eSl (eVar 9) (oSome (eOp dAdd (eVar 10) (eC (.int 1)))) oNone)) aNil))) aNil))) dNext)
def lsBody : DS := (dFor (iRng2D (aCons (eIf (eTst (eOp dNe (eVar 8) (eTup aNil))) (eOp dAdd (eOp dIxA (eVar 8) (eNeg (eC (.int 1)))) (eC (.int 1))) (eC (.int 0))) (aCons (eCB cLenA (aCons (eVar 1) aNil)) aNil))) (gVar 10) lsIf)
section
variable {w : List Int} {p : Rule} {k : Nat} {l c : Int} {nR nM : Nat} {h : DH} {x0 x2 : Option D} {DD : DEnds}
/-- one row -/
theorem ls_row {line st : List Int} {M : List (List Int × List Int)} {a10 : Option D} (eight : w.length ≤ 8) (hl : p.1[k]? = some l) (hc : p.2[k]? = some c) (g : GoodR w (line, st)) (hM : h[nM]? = some (.lst (M.map (rowD w)))) (gM : ∀ x ∈ M, GoodR w x) (few : M.length ≤ 10000)
    (hN : ∀ (a10 : Option D) (M' : List (List Int × List Int)), (∀ x ∈ M', GoodR w x) → M'.map (·.2) = M.map (·.2) ++ gr1 w l c st →
      DD.nx [x0, some (wD w), x2, some (wD p.1), some (wD p.2), some (.ref nR), some (.int (k : Nat)), some (.ref nM), some (wD line), some (wD (hereF w st)), a10] (h.set nM (.lst (M'.map (rowD w))))) :
    lsBody DD [x0, some (wD w), x2, some (wD p.1), some (wD p.2), some (.ref nR), some (.int (k : Nat)), some (.ref nM), some (wD line), some (wD (hereF w st)), a10] h := by
  obtain ⟨s1, s2, s3⟩ := g
  dsimp only at s1 s2 s3
  unfold lsBody
  simp only [dSeq, dIf, dExpr, dRet, dRetN, dNext, dAsg, dNever, eVar, eC, eTup, eLst, aCons, aNil, eOp, eCB, eMt, eCall, eIf, eNotT, eAnd, eOr, eTru, eTst, eNot, eAndV, eOrV, eNeg, eIsi, eChain, gVar, gTupD, gsCons, gsNil, ↓reduceIte, Bool.false_eq_true, Bool.not_true, Bool.not_false, i_tru, i_len, decide_true, decide_false, List.length_map, yes, dFor, dPar, dPar3, eLRg, eSl, oNone, oSome, eDnew, eRev, eSortedKeys, eListKeys, wipeD, tgVar, gSto, eLc, iRng1D, iRng2D, iSeq, eLc2, i_add, i_sub, i_gt, i_le, i_lt, i_ge, i_eq, i_ne, i_int, i_mod, i_fdv, i_mul, i_pow, start1, start2, start3, List.replicate, List.getElem?_cons_zero, List.getElem?_cons_succ, Option.some.injEq, exists_eq_left', List.set, Nat.reduceAdd, List.length_cons, List.length_nil, List.cons.injEq, and_true, true_and, exists_eq_left, exists_and_left, D.tup.injEq, D.int.injEq, D.bl.injEq]
  have hlen := here_len s1
  have fin : dLoop (gVar 10) lsIf DD (fun _ => True) (rangeD (st.length : Nat) (w.length - st.length)) [x0, some (wD w), x2, some (wD p.1), some (wD p.2), some (.ref nR), some (.int (k : Nat)), some (.ref nM), some (wD line), some (wD (hereF w st)), a10] h := by
    refine dLoop_inv _ (fun j env h' => ∃ (a10 : Option D) (M' : List (List Int × List Int)), env = [x0, some (wD w), x2, some (wD p.1), some (wD p.2), some (.ref nR), some (.int (k : Nat)), some (.ref nM), some (wD line), some (wD (hereF w st)), a10] ∧
      h' = h.set nM (.lst (M'.map (rowD w))) ∧ (∀ x ∈ M', GoodR w x) ∧ M'.length ≤ M.length + j ∧ M'.map (·.2) = M.map (·.2) ++ ((List.range' st.length (w.length - st.length)).take j).flatMap (cel w l c st))
      (fun j x env h1 N hx hi hN2 => ?_) (fun env h1 hi => ?_) ⟨a10, M, rfl, (set_same hM).symm, gM, Nat.le_refl _, by simp⟩
    · obtain ⟨a10, M', rfl, rfl, g', len', e'⟩ := hi
      obtain ⟨hj, rfl⟩ := rangeD_get _ _ _ _ hx
      have inr : (List.range' st.length (w.length - st.length))[j]? = some (st.length + j) := by rw [List.getElem?_range' hj]; simp
      have next := take_flat (cel w l c st) _ j _ inr
      obtain ⟨v, hv⟩ : ∃ v, w[st.length + j]? = some v := ⟨_, List.getElem?_eq_getElem (by omega)⟩
      have hcast : ((st.length : Nat) : Int) + ((j : Nat) : Int) = ((st.length + j : Nat) : Int) := by omega
      rw [hcast]
      refine ⟨trivial, ?_⟩
      unfold lsIf
      simp only [dSeq, dIf, dExpr, dRet, dRetN, dNext, dAsg, dNever, eVar, eC, eTup, eLst, aCons, aNil, eOp, eCB, eMt, eCall, eIf, eNotT, eAnd, eOr, eTru, eTst, eNot, eAndV, eOrV, eNeg, eIsi, eChain, gVar, gTupD, gsCons, gsNil, ↓reduceIte, Bool.false_eq_true, Bool.not_true, Bool.not_false, i_tru, i_len, decide_true, decide_false, List.length_map, yes, dFor, dPar, dPar3, eLRg, eSl, oNone, oSome, eDnew, eRev, eSortedKeys, eListKeys, wipeD, tgVar, gSto, eLc, iRng1D, iRng2D, iSeq, eLc2, i_add, i_sub, i_gt, i_le, i_lt, i_ge, i_eq, i_ne, i_int, i_mod, i_fdv, i_mul, i_pow, start1, start2, start3, List.replicate, List.getElem?_cons_zero, List.getElem?_cons_succ, Option.some.injEq, exists_eq_left', List.set, Nat.reduceAdd, List.length_cons, List.length_nil, List.cons.injEq, and_true, true_and, exists_eq_left, exists_and_left, D.tup.injEq, D.int.injEq, D.bl.injEq]
      refine ixA_tup (v := .int v) (atI_nat (by omega) (by rw [Int.toNat_natCast, List.getElem?_map, hv]; rfl)) ?_
      refine ixA_tup (v := .int l) (atI_nat (by omega) (by rw [Int.toNat_natCast, List.getElem?_map, hl]; rfl)) ?_
      simp only [dSeq, dIf, dExpr, dRet, dRetN, dNext, dAsg, dNever, eVar, eC, eTup, eLst, aCons, aNil, eOp, eCB, eMt, eCall, eIf, eNotT, eAnd, eOr, eTru, eTst, eNot, eAndV, eOrV, eNeg, eIsi, eChain, gVar, gTupD, gsCons, gsNil, ↓reduceIte, Bool.false_eq_true, Bool.not_true, Bool.not_false, i_tru, i_len, decide_true, decide_false, List.length_map, yes, dFor, dPar, dPar3, eLRg, eSl, oNone, oSome, eDnew, eRev, eSortedKeys, eListKeys, wipeD, tgVar, gSto, eLc, iRng1D, iRng2D, iSeq, eLc2, i_add, i_sub, i_gt, i_le, i_lt, i_ge, i_eq, i_ne, i_int, i_mod, i_fdv, i_mul, i_pow, start1, start2, start3, List.replicate, List.getElem?_cons_zero, List.getElem?_cons_succ, Option.some.injEq, exists_eq_left', List.set, Nat.reduceAdd, List.length_cons, List.length_nil, List.cons.injEq, and_true, true_and, exists_eq_left, exists_and_left, D.tup.injEq, D.int.injEq, D.bl.injEq]
      have eM : (h.set nM (.lst (M'.map (rowD w))))[nM]? = some (.lst (M'.map (rowD w))) := get_set hM
      by_cases e : v = l
      · rw [decide_eq_true e]
        refine iT ⟨⟨rfl, _, lst_of eM⟩, by decide, ?_⟩
        have l1 : line.length ≤ 8 := by omega
        refine add_w (b := [((st.length + j : Nat) : Int)]) (by simp only [List.length_cons, List.length_nil]; omega) ?_
        refine sl_to (by omega) (ixA_tup (v := .int c) (atI_nat (by omega) (by rw [Int.toNat_natCast, List.getElem?_map, hc]; rfl)) ⟨by decide, ?_⟩)
        refine add_w (b := [c]) (by simp only [List.length_take, List.length_cons, List.length_nil]; omega) ?_
        rw [show (((st.length + j : Nat) : Int) + 1) = ((st.length + j + 1 : Nat) : Int) by omega]
        refine sl_rest (by omega) (add_w (by simp only [List.length_append, List.length_take, List.length_drop, List.length_cons, List.length_nil]; omega) ⟨by decide, ?_⟩)
        rw [here_next (by omega) (by omega)]
        have ce : cel w l c st (st.length + j) = [st ++ (w.take (st.length + j)).drop st.length ++ [c]] := by unfold cel; rw [hv, e, if_pos rfl]
        have nl : (st ++ (w.take (st.length + j)).drop st.length ++ [c]).length = st.length + j + 1 := by
          simp only [List.length_append, List.length_drop, List.length_take, List.length_cons, List.length_nil]; omega
        refine app_lst eM (by rw [List.length_map]; omega) (hN2 _ _ ⟨_, M' ++ [(line ++ [((st.length + j : Nat) : Int)], st ++ (w.take (st.length + j)).drop st.length ++ [c])], rfl, by rw [List.set_set, List.map_append]; rfl, fun x hx => ?_, by rw [List.length_append]; exact Nat.succ_le_succ len', ?_⟩)
        · rcases List.mem_append.mp hx with hx | hx
          · exact g' x hx
          · rw [List.mem_singleton.mp hx]
            refine ⟨by dsimp only; rw [nl]; omega, by dsimp only; rw [nl, List.length_append]; show line.length + 1 ≤ _; omega, .inr ⟨line, ?_, by dsimp only; omega⟩⟩
            dsimp only
            rw [nl]
            congr 2
            omega
        · rw [List.map_append, e', next, ce, ← List.append_assoc]; rfl
      · rw [decide_eq_false e]
        have ce : cel w l c st (st.length + j) = [] := by unfold cel; rw [hv, if_neg (fun z => e (Option.some.inj z))]
        refine iF (hN2 _ _ ⟨_, M', rfl, rfl, g', by omega, by rw [next, ce, List.append_nil]; exact e'⟩)
    · obtain ⟨a10, M', rfl, rfl, g', len', e'⟩ := hi
      have e3 : (List.range' st.length (w.length - st.length)).take (w.length - st.length) = List.range' st.length (w.length - st.length) := List.take_of_length_le (by rw [List.length_range']; exact Nat.le_refl _)
      rw [rangeD_len, e3] at e'
      exact ⟨trivial, hN a10 M' g' e'⟩
  refine ⟨by decide, ?_⟩
  refine ne_w (b := []) ⟨_, rfl, ?_⟩
  rcases s3 with ⟨e1, e2⟩ | ⟨u, e1, e2⟩
  · subst e1; subst e2
    refine iF ⟨by omega, by omega, by omega, by omega, ?_⟩
    exact fin
  · subst e1
    rw [decide_eq_false (by simp)]
    refine iT (ixA_tup last_line ?_)
    simp only [dSeq, dIf, dExpr, dRet, dRetN, dNext, dAsg, dNever, eVar, eC, eTup, eLst, aCons, aNil, eOp, eCB, eMt, eCall, eIf, eNotT, eAnd, eOr, eTru, eTst, eNot, eAndV, eOrV, eNeg, eIsi, eChain, gVar, gTupD, gsCons, gsNil, ↓reduceIte, Bool.false_eq_true, Bool.not_true, Bool.not_false, i_tru, i_len, decide_true, decide_false, List.length_map, yes, dFor, dPar, dPar3, eLRg, eSl, oNone, oSome, eDnew, eRev, eSortedKeys, eListKeys, wipeD, tgVar, gSto, eLc, iRng1D, iRng2D, iSeq, eLc2, i_add, i_sub, i_gt, i_le, i_lt, i_ge, i_eq, i_ne, i_int, i_mod, i_fdv, i_mul, i_pow, start1, start2, start3, List.replicate, List.getElem?_cons_zero, List.getElem?_cons_succ, Option.some.injEq, exists_eq_left', List.set, Nat.reduceAdd, List.length_cons, List.length_nil, List.cons.injEq, and_true, true_and, exists_eq_left, exists_and_left, D.tup.injEq, D.int.injEq, D.bl.injEq]
    rw [show (st.length : Int) - 1 + 1 = (st.length : Nat) by omega]
    refine ⟨by omega, by omega, by omega, by omega, ?_⟩
    rw [show ((w.length : Int) - (st.length : Int)).toNat = w.length - st.length by omega]
    exact fin
end
end DL
set_option Elab.async false
set_option linter.all false
set_option maxRecDepth 100000
set_option maxHeartbeats 4000000
namespace DL
open PySem PySem.Spec PyProof.Rows L2
open PySem.W (Frag dataLt alike AllAlike Sortable)
open SB (Rule Book dSide dRule ltR ltI ltI_irr ltI_tri ltI_asym ltI_trans alike_side dataLt_side)
def lsK : DS := dSeq (dAsg (eLst aNil) (gVar 7)) (dSeq (dFor (iSeq (eVar 5)) (gTupD 2 (gsCons (gVar 8) (gsCons (gVar 9) gsNil))) lsBody) (dAsg (eVar 7) (gVar 5)))
def lsFill : DS := dFor (iSeq (eVar 5)) (gTupD 2 (gsCons (gVar 8) (gsCons (gVar 9) gsNil))) (dAsg (eC (.bl true)) (gSto (eVar 2) (eVar 9)))
def lsRule : DS := dSeq (dAsg (eLst (aCons (eTup (aCons (eTup aNil) (aCons (eVar 1) aNil))) aNil)) (gVar 5)) (dSeq (dFor (iRng1D (aCons (eCB cLenA (aCons (eVar 3) aNil)) aNil)) (gVar 6) lsK) lsFill)
theorem lsteps_eq : tau__law_steps = dSeq (dAsg eDnew (gVar 2)) (dSeq (dFor (iSeq (eOp dIxA (eVar 0) (eC (.int 1)))) (gTupD 2 (gsCons (gVar 3) (gsCons (gVar 4) gsNil))) lsRule) (dRet (eSortedKeys (eVar 2)))) := rfl
section
variable {w : List Int} {p : Rule} {k : Nat} {l c : Int} {nR : Nat} {h : DH} {x0 x2 a7 a8 a9 a10 : Option D} {DD : DEnds} {R : List (List Int × List Int)}
/-- one letter -/
theorem ls_k (eight : w.length ≤ 8) (hl : p.1[k]? = some l) (hc : p.2[k]? = some c) (hR : h[nR]? = some (.lst (R.map (rowD w)))) (gR : ∀ x ∈ R, GoodR w x) (few : R.length ≤ 1000)
    (hN : ∀ (a7 a8 a9 a10 : Option D) (R' : List (List Int × List Int)), (∀ x ∈ R', GoodR w x) → R'.map (·.2) = grow w (R.map (·.2)) (l, c) →
      DD.nx [x0, some (wD w), x2, some (wD p.1), some (wD p.2), some (.ref h.length), some (.int (k : Nat)), a7, a8, a9, a10] (h ++ [.lst (R'.map (rowD w))])) :
    lsK DD [x0, some (wD w), x2, some (wD p.1), some (wD p.2), some (.ref nR), some (.int (k : Nat)), a7, a8, a9, a10] h := by
  have hn := (List.getElem?_eq_some_iff.mp hR).1
  unfold lsK
  simp only [dSeq, dIf, dExpr, dRet, dRetN, dNext, dAsg, dNever, eVar, eC, eTup, eLst, aCons, aNil, eOp, eCB, eMt, eCall, eIf, eNotT, eAnd, eOr, eTru, eTst, eNot, eAndV, eOrV, eNeg, eIsi, eChain, gVar, gTupD, gsCons, gsNil, ↓reduceIte, Bool.false_eq_true, Bool.not_true, Bool.not_false, i_tru, i_len, decide_true, decide_false, List.length_map, yes, dFor, dPar, dPar3, eLRg, eSl, oNone, oSome, eDnew, eRev, eSortedKeys, eListKeys, wipeD, tgVar, gSto, eLc, iRng1D, iRng2D, iSeq, eLc2, i_add, i_sub, i_gt, i_le, i_lt, i_ge, i_eq, i_ne, i_int, i_mod, i_fdv, i_mul, i_pow, start1, start2, start3, List.replicate, List.getElem?_cons_zero, List.getElem?_cons_succ, Option.some.injEq, exists_eq_left', List.set, Nat.reduceAdd, List.length_cons, List.length_nil, List.cons.injEq, and_true, true_and, exists_eq_left, exists_and_left, D.tup.injEq, D.int.injEq, D.bl.injEq]
  refine ⟨by decide, _, lst_of (by rw [List.getElem?_append_left hn]; exact hR), ?_⟩
  have chk : ∀ o : DO, lstOf (h ++ [o]) nR = some (R.map (rowD w)) := fun o => by rw [lstOf_eq (List.getElem?_append_left hn)]; exact lst_of hR
  refine dLoop_inv _ (fun i env h' => ∃ (a8 a9 a10 : Option D) (M : List (List Int × List Int)), env = [x0, some (wD w), x2, some (wD p.1), some (wD p.2), some (.ref nR), some (.int (k : Nat)), some (.ref h.length), a8, a9, a10] ∧
    h' = h ++ [.lst (M.map (rowD w))] ∧ (∀ x ∈ M, GoodR w x) ∧ M.map (·.2) = ((R.map (·.2)).take i).flatMap (gr1 w l c)) (fun i x env h1 N hx hi hN2 => ?_) (fun env h1 hi => ?_) ⟨_, _, _, [], rfl, rfl, fun _ z => (by cases z), by simp⟩
  · obtain ⟨a8, a9, a10, M, rfl, rfl, gM, eM⟩ := hi
    rw [List.getElem?_map] at hx
    obtain ⟨⟨line, st⟩, hz, rfl⟩ := Option.map_eq_some_iff.mp hx
    refine ⟨chk _, ?_⟩
    unfold rowD
    simp only [dSeq, dIf, dExpr, dRet, dRetN, dNext, dAsg, dNever, eVar, eC, eTup, eLst, aCons, aNil, eOp, eCB, eMt, eCall, eIf, eNotT, eAnd, eOr, eTru, eTst, eNot, eAndV, eOrV, eNeg, eIsi, eChain, gVar, gTupD, gsCons, gsNil, ↓reduceIte, Bool.false_eq_true, Bool.not_true, Bool.not_false, i_tru, i_len, decide_true, decide_false, List.length_map, yes, dFor, dPar, dPar3, eLRg, eSl, oNone, oSome, eDnew, eRev, eSortedKeys, eListKeys, wipeD, tgVar, gSto, eLc, iRng1D, iRng2D, iSeq, eLc2, i_add, i_sub, i_gt, i_le, i_lt, i_ge, i_eq, i_ne, i_int, i_mod, i_fdv, i_mul, i_pow, start1, start2, start3, List.replicate, List.getElem?_cons_zero, List.getElem?_cons_succ, Option.some.injEq, exists_eq_left', List.set, Nat.reduceAdd, List.length_cons, List.length_nil, List.cons.injEq, and_true, true_and, exists_eq_left, exists_and_left, D.tup.injEq, D.int.injEq, D.bl.injEq]
    refine ⟨_, _, ⟨rfl, rfl⟩, _, _, rfl, rfl, ?_⟩
    have lM : M.length ≤ 8000 := by
      have e1 := congrArg List.length eM
      rw [List.length_map] at e1
      have := flat_le (gr1 w l c) 8 ((R.map (·.2)).take i) fun y _ => Nat.le_trans (gr1_le w l c y) eight
      rw [List.length_take, List.length_map] at this
      omega
    refine ls_row (nM := h.length) (M := M) eight hl hc (gR _ (List.mem_of_getElem? hz)) at_end gM (by omega) fun a10 M' g' e' => ?_
    rw [set_end]
    have hz2 : (R.map (·.2))[i]? = some st := by rw [List.getElem?_map, hz]; rfl
    exact hN2 _ _ ⟨_, _, a10, M', rfl, rfl, g', by rw [e', eM, take_flat (gr1 w l c) _ i st hz2]⟩
  · obtain ⟨a8, a9, a10, M, rfl, rfl, gM, eM⟩ := hi
    refine ⟨chk _, ?_⟩
    simp only [dSeq, dIf, dExpr, dRet, dRetN, dNext, dAsg, dNever, eVar, eC, eTup, eLst, aCons, aNil, eOp, eCB, eMt, eCall, eIf, eNotT, eAnd, eOr, eTru, eTst, eNot, eAndV, eOrV, eNeg, eIsi, eChain, gVar, gTupD, gsCons, gsNil, ↓reduceIte, Bool.false_eq_true, Bool.not_true, Bool.not_false, i_tru, i_len, decide_true, decide_false, List.length_map, yes, dFor, dPar, dPar3, eLRg, eSl, oNone, oSome, eDnew, eRev, eSortedKeys, eListKeys, wipeD, tgVar, gSto, eLc, iRng1D, iRng2D, iSeq, eLc2, i_add, i_sub, i_gt, i_le, i_lt, i_ge, i_eq, i_ne, i_int, i_mod, i_fdv, i_mul, i_pow, start1, start2, start3, List.replicate, List.getElem?_cons_zero, List.getElem?_cons_succ, Option.some.injEq, exists_eq_left', List.set, Nat.reduceAdd, List.length_cons, List.length_nil, List.cons.injEq, and_true, true_and, exists_eq_left, exists_and_left, D.tup.injEq, D.int.injEq, D.bl.injEq]
    refine hN _ _ _ _ M gM ?_
    rw [eM, List.length_map, List.take_of_length_le (by rw [List.length_map]; exact Nat.le_refl _)]; rfl
abbrev entW (l : List Int) : D × D := (wD l, .bl true)
theorem dput_word (ks : List (List Int)) (l : List Int) : dput (ks.map entW) (wD l) (.bl true) = (if l ∈ ks then ks else ks ++ [l]).map entW := by
  have look : (dlook (ks.map entW) (wD l)).isSome = decide (l ∈ ks) := by
    unfold dlook
    rw [Option.isSome_map]
    refine Bool.eq_iff_iff.mpr ?_
    rw [List.find?_isSome, decide_eq_true_eq]
    constructor
    · rintro ⟨x, hx, e⟩
      obtain ⟨q, hq, rfl⟩ := List.mem_map.mp hx
      have e2 : nk (wD q) = nk (wD l) := of_decide_eq_true e
      rw [nk_w, nk_w] at e2
      rw [← nkI_inj (Option.some.inj e2)]; exact hq
    · exact fun hp => ⟨entW l, List.mem_map.mpr ⟨l, hp, rfl⟩, decide_eq_true rfl⟩
  unfold dput
  rw [look]
  by_cases c : l ∈ ks
  · rw [if_pos (decide_eq_true c), if_pos c]
    rw [List.map_map]
    refine List.map_congr_left fun q hq => ?_
    show (if nk (wD q) = nk (wD l) then (wD q, D.bl true) else entW q) = entW q
    split <;> rfl
  · rw [if_neg (by simpa using c), if_neg c, List.map_append]; rfl
/-- the words found go into the dict -/
theorem ls_fill {d : Nat} {ks : List (List Int)} {ep : Nat} {a6 : Option D} {x3 x4 : Option D} (hR : h[nR]? = some (.lst (R.map (rowD w)))) (hd : h[d]? = some (.dct (ks.map entW) ep)) (nd : ks.Nodup) (few : ks.length + R.length ≤ 100000)
    (hN : ∀ (a8 a9 : Option D) (ks' : List (List Int)) (ep' : Nat), ks'.Nodup → (∀ y, y ∈ ks' ↔ y ∈ ks ∨ y ∈ R.map fun x => hereF w x.2) → ks'.length ≤ ks.length + R.length →
      DD.nx [x0, some (wD w), some (.ref d), x3, x4, some (.ref nR), a6, a7, a8, a9, a10] (h.set d (.dct (ks'.map entW) ep'))) :
    lsFill DD [x0, some (wD w), some (.ref d), x3, x4, some (.ref nR), a6, a7, a8, a9, a10] h := by
  unfold lsFill
  simp only [dSeq, dIf, dExpr, dRet, dRetN, dNext, dAsg, dNever, eVar, eC, eTup, eLst, aCons, aNil, eOp, eCB, eMt, eCall, eIf, eNotT, eAnd, eOr, eTru, eTst, eNot, eAndV, eOrV, eNeg, eIsi, eChain, gVar, gTupD, gsCons, gsNil, ↓reduceIte, Bool.false_eq_true, Bool.not_true, Bool.not_false, i_tru, i_len, decide_true, decide_false, List.length_map, yes, dFor, dPar, dPar3, eLRg, eSl, oNone, oSome, eDnew, eRev, eSortedKeys, eListKeys, wipeD, tgVar, gSto, eLc, iRng1D, iRng2D, iSeq, eLc2, i_add, i_sub, i_gt, i_le, i_lt, i_ge, i_eq, i_ne, i_int, i_mod, i_fdv, i_mul, i_pow, start1, start2, start3, List.replicate, List.getElem?_cons_zero, List.getElem?_cons_succ, Option.some.injEq, exists_eq_left', List.set, Nat.reduceAdd, List.length_cons, List.length_nil, List.cons.injEq, and_true, true_and, exists_eq_left, exists_and_left, D.tup.injEq, D.int.injEq, D.bl.injEq]
  refine ⟨_, lst_of hR, ?_⟩
  have ne : d ≠ nR := fun e => by rw [e, hR] at hd; cases hd
  have chk : ∀ o : DO, lstOf (h.set d o) nR = some (R.map (rowD w)) := fun o => by rw [lst_set_ne ne]; exact lst_of hR
  refine dLoop_inv _ (fun i env h' => ∃ (a8 a9 : Option D) (ks' : List (List Int)) (ep' : Nat), env = [x0, some (wD w), some (.ref d), x3, x4, some (.ref nR), a6, a7, a8, a9, a10] ∧ h' = h.set d (.dct (ks'.map entW) ep') ∧ ks'.Nodup ∧
    (∀ y, y ∈ ks' ↔ y ∈ ks ∨ y ∈ (R.take i).map fun x => hereF w x.2) ∧ ks'.length ≤ ks.length + i) (fun i x env h1 N hx hi hN2 => ?_) (fun env h1 hi => ?_) ⟨_, _, ks, ep, rfl, (set_same hd).symm, nd, fun y => by simp, Nat.le_refl _⟩
  · obtain ⟨a8, a9, ks', ep', rfl, rfl, nd', m', l'⟩ := hi
    rw [List.getElem?_map] at hx
    obtain ⟨⟨line, st⟩, hz, rfl⟩ := Option.map_eq_some_iff.mp hx
    have hi' := (List.getElem?_eq_some_iff.mp hz).1
    refine ⟨chk _, ?_⟩
    unfold rowD
    simp only [dSeq, dIf, dExpr, dRet, dRetN, dNext, dAsg, dNever, eVar, eC, eTup, eLst, aCons, aNil, eOp, eCB, eMt, eCall, eIf, eNotT, eAnd, eOr, eTru, eTst, eNot, eAndV, eOrV, eNeg, eIsi, eChain, gVar, gTupD, gsCons, gsNil, ↓reduceIte, Bool.false_eq_true, Bool.not_true, Bool.not_false, i_tru, i_len, decide_true, decide_false, List.length_map, yes, dFor, dPar, dPar3, eLRg, eSl, oNone, oSome, eDnew, eRev, eSortedKeys, eListKeys, wipeD, tgVar, gSto, eLc, iRng1D, iRng2D, iSeq, eLc2, i_add, i_sub, i_gt, i_le, i_lt, i_ge, i_eq, i_ne, i_int, i_mod, i_fdv, i_mul, i_pow, start1, start2, start3, List.replicate, List.getElem?_cons_zero, List.getElem?_cons_succ, Option.some.injEq, exists_eq_left', List.set, Nat.reduceAdd, List.length_cons, List.length_nil, List.cons.injEq, and_true, true_and, exists_eq_left, exists_and_left, D.tup.injEq, D.int.injEq, D.bl.injEq]
    refine ⟨_, _, ⟨rfl, rfl⟩, _, _, rfl, rfl, ?_⟩
    unfold setA
    dsimp only
    rw [get_set hd]
    refine ⟨keyOk_w _, by rw [List.length_map]; omega, fun ep2 => ?_⟩
    rw [dput_word, List.set_set]
    refine hN2 _ _ ⟨_, _, _, ep2, rfl, rfl, ?_, fun y => ?_, ?_⟩
    · by_cases m : hereF w st ∈ ks'
      · rw [if_pos m]; exact nd'
      · rw [if_neg m]
        exact List.nodup_append.mpr ⟨nd', by simp, fun x hx y hy => by rw [List.mem_singleton.mp hy]; exact fun z => m (z ▸ hx)⟩
    · rw [List.take_add_one, hz, List.map_append]
      show y ∈ _ ↔ y ∈ ks ∨ y ∈ ((R.take i).map fun x => hereF w x.2) ++ [hereF w st]
      rw [List.mem_append, List.mem_singleton, ← or_assoc, ← m' y]
      by_cases m : hereF w st ∈ ks'
      · rw [if_pos m]
        exact ⟨.inl, fun z => z.elim id fun e => e ▸ m⟩
      · rw [if_neg m, List.mem_append, List.mem_singleton]
    · split
      · omega
      · rw [List.length_append]; exact Nat.succ_le_succ l'
  · obtain ⟨a8, a9, ks', ep', rfl, rfl, nd', m', l'⟩ := hi
    rw [List.length_map] at m' l'
    rw [List.take_length] at m'
    exact ⟨chk _, hN _ _ ks' ep' nd' m' l'⟩
end
end DL
set_option Elab.async false
set_option linter.all false
set_option maxRecDepth 100000
set_option maxHeartbeats 4000000
namespace DL
open PySem PySem.Spec PyProof.Rows L2
open PySem.W (Frag dataLt alike AllAlike Sortable)
open SB (Rule Book dSide dRule ltR ltI ltI_irr ltI_tri ltI_asym ltI_trans alike_side dataLt_side)
section
variable {w : List Int} {p : Rule} {h : DH} {x0 a5 a6 a7 a8 a9 a10 : Option D} {DD : DEnds}
/-- one rule -/
theorem ls_rule {d : Nat} {ks : List (List Int)} {ep : Nat} (eight : w.length ≤ 8) (same : p.1.length = p.2.length) (three : p.1.length ≤ 3) (hd : h[d]? = some (.dct (ks.map entW) ep)) (nd : ks.Nodup) (few : ks.length ≤ 90000)
    (hN : ∀ (a5 a6 a7 a8 a9 a10 : Option D) (ks' : List (List Int)) (ep' : Nat) (os' : List DO), ks'.Nodup → (∀ y, y ∈ ks' ↔ y ∈ ks ∨ y ∈ turnsF p w) → ks'.length ≤ ks.length + 512 →
      DD.nx [x0, some (wD w), some (.ref d), some (wD p.1), some (wD p.2), a5, a6, a7, a8, a9, a10] ((h ++ os').set d (.dct (ks'.map entW) ep'))) :
    lsRule DD [x0, some (wD w), some (.ref d), some (wD p.1), some (wD p.2), a5, a6, a7, a8, a9, a10] h := by
  have ld := (List.getElem?_eq_some_iff.mp hd).1
  have step_at : ∀ i, (p.1.zip p.2).take (i + 1) = (p.1.zip p.2).take i ++ ((p.1.zip p.2)[i]?).toList := fun i => List.take_add_one ..
  unfold lsRule
  simp only [dSeq, dIf, dExpr, dRet, dRetN, dNext, dAsg, dNever, eVar, eC, eTup, eLst, aCons, aNil, eOp, eCB, eMt, eCall, eIf, eNotT, eAnd, eOr, eTru, eTst, eNot, eAndV, eOrV, eNeg, eIsi, eChain, gVar, gTupD, gsCons, gsNil, ↓reduceIte, Bool.false_eq_true, Bool.not_true, Bool.not_false, i_tru, i_len, decide_true, decide_false, List.length_map, yes, dFor, dPar, dPar3, eLRg, eSl, oNone, oSome, eDnew, eRev, eSortedKeys, eListKeys, wipeD, tgVar, gSto, eLc, iRng1D, iRng2D, iSeq, eLc2, i_add, i_sub, i_gt, i_le, i_lt, i_ge, i_eq, i_ne, i_int, i_mod, i_fdv, i_mul, i_pow, start1, start2, start3, List.replicate, List.getElem?_cons_zero, List.getElem?_cons_succ, Option.some.injEq, exists_eq_left', List.set, Nat.reduceAdd, List.length_cons, List.length_nil, List.cons.injEq, and_true, true_and, exists_eq_left, exists_and_left, D.tup.injEq, D.int.injEq, D.bl.injEq]
  refine ⟨by decide, by decide, by decide, by omega, by omega, ?_⟩
  have pow : ∀ i, i ≤ 3 → 8 ^ i ≤ 512 := fun i hi => Nat.pow_le_pow_right (by decide) hi
  refine dLoop_inv _ (fun i env h' => ∃ (nR : Nat) (R : List (List Int × List Int)) (os' : List DO) (a6 a7 a8 a9 a10 : Option D), env = [x0, some (wD w), some (.ref d), some (wD p.1), some (wD p.2), some (.ref nR), a6, a7, a8, a9, a10] ∧
    h' = h ++ os' ∧ h'[nR]? = some (.lst (R.map (rowD w))) ∧ (∀ x ∈ R, GoodR w x) ∧ R.map (·.2) = ((p.1.zip p.2).take i).foldl (grow w) [[]] ∧ R.length ≤ 8 ^ i) (fun i x env h1 N hx hi hN2 => ?_) (fun env h1 hi => ?_)
    ⟨h.length, [([], [])], [DO.lst [.tup [.tup [], wD w]]], _, _, _, _, _, rfl, rfl, ?_, fun x hx => ?_, by simp, by simp⟩
  · obtain ⟨nR, R, os', a6, a7, a8, a9, a10, rfl, rfl, hR, gR, eR, lR⟩ := hi
    obtain ⟨hj, rfl⟩ := rangeD_get _ _ _ _ hx
    rw [Int.toNat_natCast] at hj
    obtain ⟨l, hl⟩ : ∃ l, p.1[i]? = some l := ⟨_, List.getElem?_eq_getElem hj⟩
    obtain ⟨c, hc⟩ : ∃ c, p.2[i]? = some c := ⟨_, List.getElem?_eq_getElem (by omega)⟩
    have hz : (p.1.zip p.2)[i]? = some (l, c) := List.getElem?_zip_eq_some.mpr ⟨hl, hc⟩
    have nx : ((p.1.zip p.2).take (i + 1)).foldl (grow w) [[]] = grow w (((p.1.zip p.2).take i).foldl (grow w) [[]]) (l, c) := by
      rw [step_at, hz, List.foldl_append]; rfl
    refine ⟨trivial, ?_⟩
    simp only [dSeq, dIf, dExpr, dRet, dRetN, dNext, dAsg, dNever, eVar, eC, eTup, eLst, aCons, aNil, eOp, eCB, eMt, eCall, eIf, eNotT, eAnd, eOr, eTru, eTst, eNot, eAndV, eOrV, eNeg, eIsi, eChain, gVar, gTupD, gsCons, gsNil, ↓reduceIte, Bool.false_eq_true, Bool.not_true, Bool.not_false, i_tru, i_len, decide_true, decide_false, List.length_map, yes, dFor, dPar, dPar3, eLRg, eSl, oNone, oSome, eDnew, eRev, eSortedKeys, eListKeys, wipeD, tgVar, gSto, eLc, iRng1D, iRng2D, iSeq, eLc2, i_add, i_sub, i_gt, i_le, i_lt, i_ge, i_eq, i_ne, i_int, i_mod, i_fdv, i_mul, i_pow, start1, start2, start3, List.replicate, List.getElem?_cons_zero, List.getElem?_cons_succ, Option.some.injEq, exists_eq_left', List.set, Nat.reduceAdd, List.length_cons, List.length_nil, List.cons.injEq, and_true, true_and, exists_eq_left, exists_and_left, D.tup.injEq, D.int.injEq, D.bl.injEq]
    rw [show (0 : Int) + ((i : Nat) : Int) = ((i : Nat) : Int) by omega]
    have := pow i (by omega)
    refine ls_k eight hl hc hR gR (by omega) fun a7 a8 a9 a10 R' g' e' => ?_
    refine hN2 _ _ ⟨_, R', os' ++ [.lst (R'.map (rowD w))], _, _, _, _, _, rfl, by rw [List.append_assoc], at_end, g', by rw [e', eR, nx], ?_⟩
    have e1 := congrArg List.length e'
    rw [List.length_map] at e1
    rw [e1, Nat.pow_succ]
    refine Nat.le_trans (grow_le _ _ _) (Nat.mul_le_mul ?_ eight)
    rw [List.length_map]; exact lR
  · obtain ⟨nR, R, os', a6, a7, a8, a9, a10, rfl, rfl, hR, gR, eR, lR⟩ := hi
    rw [rangeD_len, Int.toNat_natCast] at eR lR
    have full : (p.1.zip p.2).take p.1.length = p.1.zip p.2 := List.take_of_length_le (by rw [List.length_zip]; exact Nat.min_le_left _ _)
    rw [full] at eR
    have := pow p.1.length three
    refine ⟨trivial, ?_⟩
    refine ls_fill hR (by rw [List.getElem?_append_left ld]; exact hd) nd (by omega) fun a8 a9 ks' ep' nd' m' l' => ?_
    refine hN _ _ _ _ _ _ ks' ep' os' nd' (fun y => ?_) (by omega)
    rw [m' y]
    have e : (R.map fun x => hereF w x.2) = turnsF p w := by
      unfold turnsF begun
      rw [← eR, List.map_map]; rfl
    rw [e]
  · show (h ++ [DO.lst [.tup [.tup [], wD w]]])[h.length]? = some (.lst ([(([] : List Int), ([] : List Int))].map (rowD w)))
    rw [at_end]
    unfold rowD hereF
    simp
  · rw [List.mem_singleton.mp hx]
    exact ⟨Nat.zero_le _, Nat.le_refl _, .inl ⟨rfl, rfl⟩⟩
end
/-- the law's own steps -/
def spLSteps : DSp := fun ds h Q _ => ∃ (b : Book) (w : List Int), ds = [bookD b, wD w] ∧ b.2.length ≤ 12 ∧ (∀ p ∈ b.2, 1 ≤ p.1.length ∧ p.1.length = p.2.length ∧ p.1.length ≤ 3) ∧ w.length ≤ 8 ∧
  ∀ os' : List DO, Q (.ref (h.length + os'.length)) (h ++ os' ++ [.lst ((nextF b.2 w).map wD)])
theorem sat_lsteps {ds : List D} {h : DH} {Q : VD} {E : DXK} (q : spLSteps ds h Q E) : tau__law_steps (endsD Q E) (startD 11 ds) h := by
  obtain ⟨b, w, rfl, twelve, ok, eight, q⟩ := q
  rw [lsteps_eq]
  simp only [dSeq, dIf, dExpr, dRet, dRetN, dNext, dAsg, dNever, eVar, eC, eTup, eLst, aCons, aNil, eOp, eCB, eMt, eCall, eIf, eNotT, eAnd, eOr, eTru, eTst, eNot, eAndV, eOrV, eNeg, eIsi, eChain, gVar, gTupD, gsCons, gsNil, ↓reduceIte, Bool.false_eq_true, Bool.not_true, Bool.not_false, i_tru, i_len, decide_true, decide_false, List.length_map, yes, dFor, dPar, dPar3, eLRg, eSl, oNone, oSome, eDnew, eRev, eSortedKeys, eListKeys, wipeD, tgVar, gSto, eLc, iRng1D, iRng2D, iSeq, eLc2, i_add, i_sub, i_gt, i_le, i_lt, i_ge, i_eq, i_ne, i_int, i_mod, i_fdv, i_mul, i_pow, start1, start2, start3, List.replicate, List.getElem?_cons_zero, List.getElem?_cons_succ, Option.some.injEq, exists_eq_left', List.set, Nat.reduceAdd, List.length_cons, List.length_nil, List.cons.injEq, and_true, true_and, exists_eq_left, exists_and_left, D.tup.injEq, D.int.injEq, D.bl.injEq]
  refine ixA_tup (v := .tup (b.2.map ruleD)) rfl ?_
  simp only [dSeq, dIf, dExpr, dRet, dRetN, dNext, dAsg, dNever, eVar, eC, eTup, eLst, aCons, aNil, eOp, eCB, eMt, eCall, eIf, eNotT, eAnd, eOr, eTru, eTst, eNot, eAndV, eOrV, eNeg, eIsi, eChain, gVar, gTupD, gsCons, gsNil, ↓reduceIte, Bool.false_eq_true, Bool.not_true, Bool.not_false, i_tru, i_len, decide_true, decide_false, List.length_map, yes, dFor, dPar, dPar3, eLRg, eSl, oNone, oSome, eDnew, eRev, eSortedKeys, eListKeys, wipeD, tgVar, gSto, eLc, iRng1D, iRng2D, iSeq, eLc2, i_add, i_sub, i_gt, i_le, i_lt, i_ge, i_eq, i_ne, i_int, i_mod, i_fdv, i_mul, i_pow, start1, start2, start3, List.replicate, List.getElem?_cons_zero, List.getElem?_cons_succ, Option.some.injEq, exists_eq_left', List.set, Nat.reduceAdd, List.length_cons, List.length_nil, List.cons.injEq, and_true, true_and, exists_eq_left, exists_and_left, D.tup.injEq, D.int.injEq, D.bl.injEq]
  refine dLoop_inv _ (fun i env h' => ∃ (a3 a4 a5 a6 a7 a8 a9 a10 : Option D) (ks : List (List Int)) (ep : Nat) (os' : List DO), env = [some (bookD b), some (wD w), some (.ref h.length), a3, a4, a5, a6, a7, a8, a9, a10] ∧
    h' = h ++ [.dct (ks.map entW) ep] ++ os' ∧ ks.Nodup ∧ (∀ y, y ∈ ks ↔ y ∈ (b.2.take i).flatMap fun p => turnsF p w) ∧ ks.length ≤ 512 * i) (fun i x env h1 N hx hi hN => ?_) (fun env h1 hi => ?_)
    ⟨_, _, _, _, _, _, _, _, [], 0, [], rfl, by simp, List.nodup_nil, fun y => by simp, Nat.le_refl _⟩
  · obtain ⟨a3, a4, a5, a6, a7, a8, a9, a10, ks, ep, os', rfl, rfl, nd, m, lk⟩ := hi
    rw [List.getElem?_map] at hx
    obtain ⟨p, hp, rfl⟩ := Option.map_eq_some_iff.mp hx
    have okp := ok p (List.mem_of_getElem? hp)
    have hi' := (List.getElem?_eq_some_iff.mp hp).1
    refine ⟨trivial, ?_⟩
    simp only [dSeq, dIf, dExpr, dRet, dRetN, dNext, dAsg, dNever, eVar, eC, eTup, eLst, aCons, aNil, eOp, eCB, eMt, eCall, eIf, eNotT, eAnd, eOr, eTru, eTst, eNot, eAndV, eOrV, eNeg, eIsi, eChain, gVar, gTupD, gsCons, gsNil, ↓reduceIte, Bool.false_eq_true, Bool.not_true, Bool.not_false, i_tru, i_len, decide_true, decide_false, List.length_map, yes, dFor, dPar, dPar3, eLRg, eSl, oNone, oSome, eDnew, eRev, eSortedKeys, eListKeys, wipeD, tgVar, gSto, eLc, iRng1D, iRng2D, iSeq, eLc2, i_add, i_sub, i_gt, i_le, i_lt, i_ge, i_eq, i_ne, i_int, i_mod, i_fdv, i_mul, i_pow, start1, start2, start3, List.replicate, List.getElem?_cons_zero, List.getElem?_cons_succ, Option.some.injEq, exists_eq_left', List.set, Nat.reduceAdd, List.length_cons, List.length_nil, List.cons.injEq, and_true, true_and, exists_eq_left, exists_and_left, D.tup.injEq, D.int.injEq, D.bl.injEq]
    refine ⟨_, _, ⟨rfl, rfl⟩, _, _, rfl, rfl, ?_⟩
    refine ls_rule (d := h.length) (ks := ks) (ep := ep) eight okp.2.1 okp.2.2 (by simp) nd (by omega) fun a5 a6 a7 a8 a9 a10 ks' ep' o2 nd' m' l' => ?_
    refine hN _ _ ⟨_, _, _, _, _, _, _, _, ks', ep', os' ++ o2, rfl, by simp [List.set_append], nd', fun y => ?_, by omega⟩
    rw [m' y, take_flat (fun p => turnsF p w) b.2 i p hp, List.mem_append, m y]
  · obtain ⟨a3, a4, a5, a6, a7, a8, a9, a10, ks, ep, os', rfl, rfl, nd, m, lk⟩ := hi
    rw [List.length_map] at m lk
    rw [List.take_length] at m
    refine ⟨trivial, ?_⟩
    simp only [dSeq, dIf, dExpr, dRet, dRetN, dNext, dAsg, dNever, eVar, eC, eTup, eLst, aCons, aNil, eOp, eCB, eMt, eCall, eIf, eNotT, eAnd, eOr, eTru, eTst, eNot, eAndV, eOrV, eNeg, eIsi, eChain, gVar, gTupD, gsCons, gsNil, ↓reduceIte, Bool.false_eq_true, Bool.not_true, Bool.not_false, i_tru, i_len, decide_true, decide_false, List.length_map, yes, dFor, dPar, dPar3, eLRg, eSl, oNone, oSome, eDnew, eRev, eSortedKeys, eListKeys, wipeD, tgVar, gSto, eLc, iRng1D, iRng2D, iSeq, eLc2, i_add, i_sub, i_gt, i_le, i_lt, i_ge, i_eq, i_ne, i_int, i_mod, i_fdv, i_mul, i_pow, start1, start2, start3, List.replicate, List.getElem?_cons_zero, List.getElem?_cons_succ, Option.some.injEq, exists_eq_left', List.set, Nat.reduceAdd, List.length_cons, List.length_nil, List.cons.injEq, and_true, true_and, exists_eq_left, exists_and_left, D.tup.injEq, D.int.injEq, D.bl.injEq]
    have em : (ks.map entW).map (·.1) = ks.map wD := by rw [List.map_map]; rfl
    have pm : ks.Perm (dd (b.2.flatMap fun p => turnsF p w)) := (List.perm_ext_iff_of_nodup nd (nodup_dd _)).mpr fun a => by rw [mem_dd, m a]
    have nonempty : ∀ x ∈ ks, x ≠ [] := fun x hx e => by
      have hl := next_len (pm.mem_iff.mp hx)
      rw [e] at hl
      have hw : w = [] := List.eq_nil_of_length_eq_zero hl.symm
      subst hw
      obtain ⟨p, hp, hxp⟩ := List.mem_flatMap.mp ((m x).mp hx)
      rw [turns_empty (ok p hp).1 (ok p hp).2.1] at hxp
      cases hxp
    refine ⟨h.length, rfl, ks.map entW, ep, by simp, ?_⟩
    rw [em]
    refine ⟨can_words (by omega) nonempty, ?_⟩
    rw [sort_words, sortW_same pm]
    have := q ([DO.dct (ks.map entW) ep] ++ os')
    unfold nextF at this
    simpa [List.append_assoc, Nat.add_assoc] using this
end DL
set_option Elab.async false
set_option linter.all false
set_option maxRecDepth 100000
set_option maxHeartbeats 4000000
namespace DL
open PySem PySem.Spec PyProof.Rows L2
open PySem.W (Frag dataLt alike AllAlike Sortable)
/-! ### alike -/
/-- the same data, at most n deep -/
inductive SameD (h : DH) : Nat → D → D → Prop where
  | int (n : Nat) (i : Int) : SameD h n (.int i) (.int i)
  | bl (n : Nat) (b : Bool) : SameD h n (.bl b) (.bl b)
  | tup {n : Nat} {xs ys : List D} (l : xs.length ≤ 100000) (h1 : xs.length = ys.length) (h2 : ∀ (i : Nat) (x y : D), xs[i]? = some x → ys[i]? = some y → SameD h n x y) : SameD h (n + 1) (.tup xs) (.tup ys)
  | lst {n a b : Nat} {xs ys : List D} (l : xs.length ≤ 100000) (ea : h[a]? = some (.lst xs)) (eb : h[b]? = some (.lst ys)) (h1 : xs.length = ys.length) (h2 : ∀ (i : Nat) (x y : D), xs[i]? = some x → ys[i]? = some y → SameD h n x y) : SameD h (n + 1) (.ref a) (.ref b)
theorem SameD.new {h : DH} {os : List DO} : ∀ {n : Nat} {x y : D}, SameD h n x y → SameD (h ++ os) n x y
  | _, _, _, .int n i => .int n i
  | _, _, _, .bl n b => .bl n b
  | _, _, _, .tup l h1 h2 => .tup l h1 fun i x y e1 e2 => (h2 i x y e1 e2).new
  | _, _, _, .lst l ea eb h1 h2 => .lst l (by rw [List.getElem?_append_left (List.getElem?_eq_some_iff.mp ea).1]; exact ea) (by rw [List.getElem?_append_left (List.getElem?_eq_some_iff.mp eb).1]; exact eb) h1 fun i x y e1 e2 => (h2 i x y e1 e2).new
def spAlike (n : Nat) : DSp := fun ds h Q _ => ∃ x y, ds = [x, y] ∧ SameD h n x y ∧ ∀ os' : List DO, Q (.bl true) (h ++ os')
def spNone : DSp := fun _ _ _ _ => False
theorem eq_empty {h : DH} {a b : Nat} {Q : VD} (ea : h[a]? = some (.lst [])) (eb : h[b]? = some (.lst [])) (q : Q (.bl true) h) : dEq (.ref a) (.ref b) h Q :=
  ⟨1, .list [], .list [], by simp only [toPf]; rw [lst_of ea]; rfl, by simp only [toPf]; rw [lst_of eb]; rfl, by decide, by decide, q⟩
theorem eqv_bl (a b : Bool) : PyData.eqv (.bool a) (.bool b) = decide (a = b) := by cases a <;> cases b <;> rfl
theorem eq_bl {a b : Bool} {h : DH} {Q : VD} (q : Q (.bl (decide (a = b))) h) : dEq (.bl a) (.bl b) h Q := ⟨0, .bool a, .bool b, rfl, rfl, by cases a <;> rfl, by cases b <;> rfl, by rw [eqv_bl]; exact q⟩
theorem ne_bl {a b : Bool} {h : DH} {Q : VD} (q : Q (.bl (!decide (a = b))) h) : dNe (.bl a) (.bl b) h Q := ⟨0, .bool a, .bool b, rfl, rfl, by cases a <;> rfl, by cases b <;> rfl, by rw [eqv_bl]; exact q⟩
theorem alike_all {h : DH} {n : Nat} {sp : DSp} {xs ys : List D} {x y : D} {Q : VD} (hsp : ∀ ds h Q E, spAlike n ds h Q E → sp ds h Q E) (h1 : xs.length = ys.length) (l : xs.length ≤ 100000) (h2 : ∀ (i : Nat) (x y : D), xs[i]? = some x → ys[i]? = some y → SameD h n x y)
    (ix : ∀ (os : List DO) (k : Nat) (v : D) (K : VD), xs[k]? = some v → K v (h ++ os) → dIxA x (.int (k : Nat)) (h ++ os) K) (iy : ∀ (os : List DO) (k : Nat) (v : D) (K : VD), ys[k]? = some v → K v (h ++ os) → dIxA y (.int (k : Nat)) (h ++ os) K) (q : ∀ os' : List DO, Q (.bl true) (h ++ os')) :
    cLoop h.length (tgVar 2) (eNotT (eTru (eCall sp (aCons (eOp dIxA (eVar 0) (eVar 2)) (aCons (eOp dIxA (eVar 1) (eVar 2)) aNil))))) (eVar 2) (fun _ => True) [some x, some y, none] (fun h' => 0 ≤ 1000000 ∧ dEq (.ref h.length) (.ref h'.length) (h' ++ [.lst []]) Q) (rangeD 0 ys.length) (h ++ [.lst []]) := by
  refine cLoop_inv _ (fun i h' => ∃ os' : List DO, h' = h ++ ([.lst []] ++ os')) (fun i z h1' K hx hi hK => ?_) (fun h1' hi => ?_) ⟨[], by simp⟩
  · obtain ⟨os', rfl⟩ := hi
    obtain ⟨hj, rfl⟩ := rangeD_get _ _ _ _ hx
    rw [Int.zero_add]
    obtain ⟨u, hu⟩ : ∃ u, xs[i]? = some u := ⟨_, List.getElem?_eq_getElem (by omega)⟩
    obtain ⟨v, hv⟩ : ∃ v, ys[i]? = some v := ⟨_, List.getElem?_eq_getElem hj⟩
    refine ⟨trivial, _, rfl, ?_⟩
    simp only [dSeq, dIf, dExpr, dRet, dRetN, dNext, dAsg, dNever, eVar, eC, eTup, eLst, aCons, aNil, eOp, eCB, eMt, eCall, eIf, eNotT, eAnd, eOr, eTru, eTst, eNot, eAndV, eOrV, eNeg, eIsi, eChain, gVar, gTupD, gsCons, gsNil, ↓reduceIte, Bool.false_eq_true, Bool.not_true, Bool.not_false, i_tru, i_len, decide_true, decide_false, List.length_map, yes, dFor, dPar, dPar3, eLRg, eSl, oNone, oSome, eDnew, eRev, eSortedKeys, eListKeys, wipeD, tgVar, gSto, eLc, iRng1D, iRng2D, iSeq, eLc2, i_add, i_sub, i_gt, i_le, i_lt, i_ge, i_eq, i_ne, i_int, i_mod, i_fdv, i_mul, i_pow, start1, start2, start3, List.replicate, List.getElem?_cons_zero, List.getElem?_cons_succ, Option.some.injEq, exists_eq_left', List.set, Nat.reduceAdd, List.length_cons, List.length_nil, List.cons.injEq, and_true, true_and, exists_eq_left, exists_and_left, D.tup.injEq, D.int.injEq, D.bl.injEq]
    refine ix _ _ u _ hu (iy _ _ v _ hv (hsp _ _ _ _ ⟨u, v, rfl, (h2 i u v hu hv).new, fun o2 => ?_⟩))
    simp only [dSeq, dIf, dExpr, dRet, dRetN, dNext, dAsg, dNever, eVar, eC, eTup, eLst, aCons, aNil, eOp, eCB, eMt, eCall, eIf, eNotT, eAnd, eOr, eTru, eTst, eNot, eAndV, eOrV, eNeg, eIsi, eChain, gVar, gTupD, gsCons, gsNil, ↓reduceIte, Bool.false_eq_true, Bool.not_true, Bool.not_false, i_tru, i_len, decide_true, decide_false, List.length_map, yes, dFor, dPar, dPar3, eLRg, eSl, oNone, oSome, eDnew, eRev, eSortedKeys, eListKeys, wipeD, tgVar, gSto, eLc, iRng1D, iRng2D, iSeq, eLc2, i_add, i_sub, i_gt, i_le, i_lt, i_ge, i_eq, i_ne, i_int, i_mod, i_fdv, i_mul, i_pow, start1, start2, start3, List.replicate, List.getElem?_cons_zero, List.getElem?_cons_succ, Option.some.injEq, exists_eq_left', List.set, Nat.reduceAdd, List.length_cons, List.length_nil, List.cons.injEq, and_true, true_and, exists_eq_left, exists_and_left, D.tup.injEq, D.int.injEq, D.bl.injEq]
    exact hK _ ⟨os' ++ o2, by simp [List.append_assoc]⟩
  · obtain ⟨os', rfl⟩ := hi
    refine ⟨trivial, by decide, eq_empty (by simp) at_end ?_⟩
    have := q ([.lst []] ++ os' ++ [.lst []])
    simpa [List.append_assoc] using this
theorem sat_alike {n : Nat} {sp : DSp} {ds : List D} {h : DH} {Q : VD} {E : DXK} (hsp : ∀ m, n = m + 1 → ∀ ds h Q E, spAlike m ds h Q E → sp ds h Q E) (q : spAlike n ds h Q E) : tau__law_alike sp (endsD Q E) (startD 3 ds) h := by
  obtain ⟨x, y, rfl, s, q⟩ := q
  have q0 : Q (.bl true) h := by have := q []; rwa [List.append_nil] at this
  unfold tau__law_alike
  simp only [dSeq, dIf, dExpr, dRet, dRetN, dNext, dAsg, dNever, eVar, eC, eTup, eLst, aCons, aNil, eOp, eCB, eMt, eCall, eIf, eNotT, eAnd, eOr, eTru, eTst, eNot, eAndV, eOrV, eNeg, eIsi, eChain, gVar, gTupD, gsCons, gsNil, ↓reduceIte, Bool.false_eq_true, Bool.not_true, Bool.not_false, i_tru, i_len, decide_true, decide_false, List.length_map, yes, dFor, dPar, dPar3, eLRg, eSl, oNone, oSome, eDnew, eRev, eSortedKeys, eListKeys, wipeD, tgVar, gSto, eLc, iRng1D, iRng2D, iSeq, eLc2, i_add, i_sub, i_gt, i_le, i_lt, i_ge, i_eq, i_ne, i_int, i_mod, i_fdv, i_mul, i_pow, start1, start2, start3, List.replicate, List.getElem?_cons_zero, List.getElem?_cons_succ, Option.some.injEq, exists_eq_left', List.set, Nat.reduceAdd, List.length_cons, List.length_nil, List.cons.injEq, and_true, true_and, exists_eq_left, exists_and_left, D.tup.injEq, D.int.injEq, D.bl.injEq]
  cases s with
  | int n i =>
    refine ⟨"int", rfl, false, by decide +kernel, iF ⟨rfl, false, rfl, iF ⟨"int", rfl, false, by decide +kernel, iF ⟨"int", rfl, true, by decide +kernel, iT ⟨"int", rfl, false, by decide +kernel, "int", rfl, false, by decide +kernel, eq_bl ?_⟩⟩⟩⟩⟩
    simp only [dSeq, dIf, dExpr, dRet, dRetN, dNext, dAsg, dNever, eVar, eC, eTup, eLst, aCons, aNil, eOp, eCB, eMt, eCall, eIf, eNotT, eAnd, eOr, eTru, eTst, eNot, eAndV, eOrV, eNeg, eIsi, eChain, gVar, gTupD, gsCons, gsNil, ↓reduceIte, Bool.false_eq_true, Bool.not_true, Bool.not_false, i_tru, i_len, decide_true, decide_false, List.length_map, yes, dFor, dPar, dPar3, eLRg, eSl, oNone, oSome, eDnew, eRev, eSortedKeys, eListKeys, wipeD, tgVar, gSto, eLc, iRng1D, iRng2D, iSeq, eLc2, i_add, i_sub, i_gt, i_le, i_lt, i_ge, i_eq, i_ne, i_int, i_mod, i_fdv, i_mul, i_pow, start1, start2, start3, List.replicate, List.getElem?_cons_zero, List.getElem?_cons_succ, Option.some.injEq, exists_eq_left', List.set, Nat.reduceAdd, List.length_cons, List.length_nil, List.cons.injEq, and_true, true_and, exists_eq_left, exists_and_left, D.tup.injEq, D.int.injEq, D.bl.injEq]
    exact q0
  | bl n b =>
    refine ⟨"bool", rfl, false, by decide +kernel, iF ⟨rfl, false, rfl, iF ⟨"bool", rfl, false, by decide +kernel, iF ⟨"bool", rfl, true, by decide +kernel, iT ⟨"bool", rfl, true, by decide +kernel, "bool", rfl, true, by decide +kernel, eq_bl ?_⟩⟩⟩⟩⟩
    simp only [dSeq, dIf, dExpr, dRet, dRetN, dNext, dAsg, dNever, eVar, eC, eTup, eLst, aCons, aNil, eOp, eCB, eMt, eCall, eIf, eNotT, eAnd, eOr, eTru, eTst, eNot, eAndV, eOrV, eNeg, eIsi, eChain, gVar, gTupD, gsCons, gsNil, ↓reduceIte, Bool.false_eq_true, Bool.not_true, Bool.not_false, i_tru, i_len, decide_true, decide_false, List.length_map, yes, dFor, dPar, dPar3, eLRg, eSl, oNone, oSome, eDnew, eRev, eSortedKeys, eListKeys, wipeD, tgVar, gSto, eLc, iRng1D, iRng2D, iSeq, eLc2, i_add, i_sub, i_gt, i_le, i_lt, i_ge, i_eq, i_ne, i_int, i_mod, i_fdv, i_mul, i_pow, start1, start2, start3, List.replicate, List.getElem?_cons_zero, List.getElem?_cons_succ, Option.some.injEq, exists_eq_left', List.set, Nat.reduceAdd, List.length_cons, List.length_nil, List.cons.injEq, and_true, true_and, exists_eq_left, exists_and_left, D.tup.injEq, D.int.injEq, D.bl.injEq]
    refine eq_bl ?_
    rw [decide_eq_true rfl]
    exact q0
  | @tup m xs ys l h1 h2 =>
    refine ⟨"tuple", rfl, true, by decide +kernel, iT ⟨"tuple", rfl, true, by decide +kernel, iF ⟨"tuple", rfl, false, by decide +kernel, "tuple", rfl, false, by decide +kernel, ne_bl ⟨false, rfl, iF ?_⟩⟩⟩⟩
    simp only [dSeq, dIf, dExpr, dRet, dRetN, dNext, dAsg, dNever, eVar, eC, eTup, eLst, aCons, aNil, eOp, eCB, eMt, eCall, eIf, eNotT, eAnd, eOr, eTru, eTst, eNot, eAndV, eOrV, eNeg, eIsi, eChain, gVar, gTupD, gsCons, gsNil, ↓reduceIte, Bool.false_eq_true, Bool.not_true, Bool.not_false, i_tru, i_len, decide_true, decide_false, List.length_map, yes, dFor, dPar, dPar3, eLRg, eSl, oNone, oSome, eDnew, eRev, eSortedKeys, eListKeys, wipeD, tgVar, gSto, eLc, iRng1D, iRng2D, iSeq, eLc2, i_add, i_sub, i_gt, i_le, i_lt, i_ge, i_eq, i_ne, i_int, i_mod, i_fdv, i_mul, i_pow, start1, start2, start3, List.replicate, List.getElem?_cons_zero, List.getElem?_cons_succ, Option.some.injEq, exists_eq_left', List.set, Nat.reduceAdd, List.length_cons, List.length_nil, List.cons.injEq, and_true, true_and, exists_eq_left, exists_and_left, D.tup.injEq, D.int.injEq, D.bl.injEq]
    rw [h1]
    simp only [dSeq, dIf, dExpr, dRet, dRetN, dNext, dAsg, dNever, eVar, eC, eTup, eLst, aCons, aNil, eOp, eCB, eMt, eCall, eIf, eNotT, eAnd, eOr, eTru, eTst, eNot, eAndV, eOrV, eNeg, eIsi, eChain, gVar, gTupD, gsCons, gsNil, ↓reduceIte, Bool.false_eq_true, Bool.not_true, Bool.not_false, i_tru, i_len, decide_true, decide_false, List.length_map, yes, dFor, dPar, dPar3, eLRg, eSl, oNone, oSome, eDnew, eRev, eSortedKeys, eListKeys, wipeD, tgVar, gSto, eLc, iRng1D, iRng2D, iSeq, eLc2, i_add, i_sub, i_gt, i_le, i_lt, i_ge, i_eq, i_ne, i_int, i_mod, i_fdv, i_mul, i_pow, start1, start2, start3, List.replicate, List.getElem?_cons_zero, List.getElem?_cons_succ, Option.some.injEq, exists_eq_left', List.set, Nat.reduceAdd, List.length_cons, List.length_nil, List.cons.injEq, and_true, true_and, exists_eq_left, exists_and_left, D.tup.injEq, D.int.injEq, D.bl.injEq]
    refine ⟨by omega, by omega, ?_⟩
    rw [Int.toNat_natCast]
    refine alike_all (hsp m rfl) h1 l h2 (fun os k v K e z => ixA_tup (atI_nat (by omega) (by rw [Int.toNat_natCast]; exact e)) z) (fun os k v K e z => ixA_tup (atI_nat (by omega) (by rw [Int.toNat_natCast]; exact e)) z) q
  | @lst m a b xs ys l ea eb h1 h2 =>
    have ty : ∀ {n : Nat} {zs : List D}, h[n]? = some (.lst zs) → tyD h (.ref n) = some "list" := fun {n zs} e => by unfold tyD; dsimp only; rw [e]
    refine ⟨"list", ty eb, true, by decide +kernel, iT ⟨"list", ty ea, true, by decide +kernel, iF ⟨"list", ty ea, true, by decide +kernel, "list", ty eb, true, by decide +kernel, ne_bl ⟨false, rfl, iF ?_⟩⟩⟩⟩
    refine lenA_lst (lst_of ea) (lenA_lst (lst_of eb) ?_)
    simp only [dSeq, dIf, dExpr, dRet, dRetN, dNext, dAsg, dNever, eVar, eC, eTup, eLst, aCons, aNil, eOp, eCB, eMt, eCall, eIf, eNotT, eAnd, eOr, eTru, eTst, eNot, eAndV, eOrV, eNeg, eIsi, eChain, gVar, gTupD, gsCons, gsNil, ↓reduceIte, Bool.false_eq_true, Bool.not_true, Bool.not_false, i_tru, i_len, decide_true, decide_false, List.length_map, yes, dFor, dPar, dPar3, eLRg, eSl, oNone, oSome, eDnew, eRev, eSortedKeys, eListKeys, wipeD, tgVar, gSto, eLc, iRng1D, iRng2D, iSeq, eLc2, i_add, i_sub, i_gt, i_le, i_lt, i_ge, i_eq, i_ne, i_int, i_mod, i_fdv, i_mul, i_pow, start1, start2, start3, List.replicate, List.getElem?_cons_zero, List.getElem?_cons_succ, Option.some.injEq, exists_eq_left', List.set, Nat.reduceAdd, List.length_cons, List.length_nil, List.cons.injEq, and_true, true_and, exists_eq_left, exists_and_left, D.tup.injEq, D.int.injEq, D.bl.injEq]
    rw [h1]
    simp only [dSeq, dIf, dExpr, dRet, dRetN, dNext, dAsg, dNever, eVar, eC, eTup, eLst, aCons, aNil, eOp, eCB, eMt, eCall, eIf, eNotT, eAnd, eOr, eTru, eTst, eNot, eAndV, eOrV, eNeg, eIsi, eChain, gVar, gTupD, gsCons, gsNil, ↓reduceIte, Bool.false_eq_true, Bool.not_true, Bool.not_false, i_tru, i_len, decide_true, decide_false, List.length_map, yes, dFor, dPar, dPar3, eLRg, eSl, oNone, oSome, eDnew, eRev, eSortedKeys, eListKeys, wipeD, tgVar, gSto, eLc, iRng1D, iRng2D, iSeq, eLc2, i_add, i_sub, i_gt, i_le, i_lt, i_ge, i_eq, i_ne, i_int, i_mod, i_fdv, i_mul, i_pow, start1, start2, start3, List.replicate, List.getElem?_cons_zero, List.getElem?_cons_succ, Option.some.injEq, exists_eq_left', List.set, Nat.reduceAdd, List.length_cons, List.length_nil, List.cons.injEq, and_true, true_and, exists_eq_left, exists_and_left, D.tup.injEq, D.int.injEq, D.bl.injEq]
    refine lenA_lst (lst_of eb) ?_
    simp only [dSeq, dIf, dExpr, dRet, dRetN, dNext, dAsg, dNever, eVar, eC, eTup, eLst, aCons, aNil, eOp, eCB, eMt, eCall, eIf, eNotT, eAnd, eOr, eTru, eTst, eNot, eAndV, eOrV, eNeg, eIsi, eChain, gVar, gTupD, gsCons, gsNil, ↓reduceIte, Bool.false_eq_true, Bool.not_true, Bool.not_false, i_tru, i_len, decide_true, decide_false, List.length_map, yes, dFor, dPar, dPar3, eLRg, eSl, oNone, oSome, eDnew, eRev, eSortedKeys, eListKeys, wipeD, tgVar, gSto, eLc, iRng1D, iRng2D, iSeq, eLc2, i_add, i_sub, i_gt, i_le, i_lt, i_ge, i_eq, i_ne, i_int, i_mod, i_fdv, i_mul, i_pow, start1, start2, start3, List.replicate, List.getElem?_cons_zero, List.getElem?_cons_succ, Option.some.injEq, exists_eq_left', List.set, Nat.reduceAdd, List.length_cons, List.length_nil, List.cons.injEq, and_true, true_and, exists_eq_left, exists_and_left, D.tup.injEq, D.int.injEq, D.bl.injEq]
    refine ⟨by omega, by omega, ?_⟩
    rw [Int.toNat_natCast]
    refine alike_all (hsp m rfl) h1 l h2 (fun os k v K e z => ixA_lst (lst_of (by rw [List.getElem?_append_left (List.getElem?_eq_some_iff.mp ea).1]; exact ea)) (atI_nat (by omega) (by rw [Int.toNat_natCast]; exact e)) z)
      (fun os k v K e z => ixA_lst (lst_of (by rw [List.getElem?_append_left (List.getElem?_eq_some_iff.mp eb).1]; exact eb)) (atI_nat (by omega) (by rw [Int.toNat_natCast]; exact e)) z) q
end DL
set_option Elab.async false
set_option linter.all false
set_option maxRecDepth 100000
set_option maxHeartbeats 4000000
namespace DL
open PySem PySem.Spec PyProof.Rows L2
open PySem.W (Frag dataLt alike AllAlike Sortable)
open SB (Rule Book)
/-! ### walking -/
inductive Rch (N : List Int → List (List Int)) (w : List Int) : List Int → Prop where
  | self : Rch N w w
  | step {v u : List Int} : Rch N w v → u ∈ N v → Rch N w u
theorem next_len' {rs : List Rule} {v u : List Int} (h : u ∈ nextF rs v) : u.length = v.length := next_len ((sortW_perm _).mem_iff.mp h)
theorem rch_len {rs : List Rule} {w v : List Int} (h : Rch (nextF rs) w v) : v.length = w.length := by
  induction h with
  | self => rfl
  | step _ h ih => exact (next_len' h).trans ih
theorem nextF_le {rs : List Rule} {v : List Int} (five : rs.length ≤ 5) (eight : v.length ≤ 8) (ok : ∀ p ∈ rs, 1 ≤ p.1.length ∧ p.1.length = p.2.length ∧ p.1.length ≤ 3) : (nextF rs v).length ≤ 280 := by
  have h1 := (sortW_perm (dd (rs.flatMap fun p => turnsF p v))).length_eq
  have h2 := dd_len (rs.flatMap fun p => turnsF p v)
  have h3 := found_le five eight (fun p hp => (ok p hp).2) rs.length
  rw [List.take_length] at h3
  unfold nextF
  omega
theorem dlook_map (f : List Int → D) (ks : List (List Int)) (v : List Int) : dlook (ks.map fun u => (wD u, f u)) (wD v) = if v ∈ ks then some (f v) else none := by
  unfold dlook
  induction ks with
  | nil => rfl
  | cons u ks ih =>
    rw [List.map_cons, List.find?_cons]
    dsimp only
    by_cases c : u = v
    · subst c
      rw [decide_eq_true rfl, if_pos List.mem_cons_self]; rfl
    · have e : decide (nk (wD u) = nk (wD v)) = false := decide_eq_false fun z => by
        rw [nk_w, nk_w] at z
        exact c (nkI_inj (Option.some.inj z))
      rw [e]
      dsimp only
      rw [ih]
      by_cases m : v ∈ ks
      · rw [if_pos m, if_pos (List.mem_cons_of_mem _ m)]
      · rw [if_neg m, if_neg (fun z => (List.mem_cons.mp z).elim (fun e => c e.symm) m)]
/-- a dict of words -/
abbrev grD (f : List Int → D) (ks : List (List Int)) : List (D × D) := ks.map fun u => (wD u, f u)
theorem dput_new (f : List Int → D) {ks : List (List Int)} {v : List Int} (h : v ∉ ks) : dput (grD f ks) (wD v) (f v) = grD f (ks ++ [v]) := by
  unfold dput
  rw [dlook_map, if_neg h]
  simp
theorem lenA_dct {h : DH} {n ep : Nat} {kvs : List (D × D)} {Q : VD} (e : h[n]? = some (.dct kvs ep)) (z : kvs.length ≤ 1000000) (q : Q (.int kvs.length) h) : cLenA [.ref n] h Q := by
  unfold cLenA
  dsimp only
  rw [e]
  exact ⟨z, q⟩
theorem ixA_dct {h : DH} {n ep : Nat} {kvs : List (D × D)} {y dv : D} {Q : VD} (e : h[n]? = some (.dct kvs ep)) (k : KeyOk y) (l : dlook kvs y = some dv) (q : Q dv h) : dIxA (.ref n) y h Q := by
  unfold dIxA
  dsimp only
  rw [e]
  exact ⟨k, dv, l, q⟩
theorem setA_dct {h : DH} {n ep : Nat} {kvs : List (D × D)} {y v : D} {Q : DH → Prop} (e : h[n]? = some (.dct kvs ep)) (k : KeyOk y) (z : kvs.length ≤ 1000000) (q : ∀ ep', Q (h.set n (.dct (dput kvs y v) ep'))) : setA (.ref n) y v h Q := by
  unfold setA
  dsimp only
  rw [e]
  exact ⟨k, z, q⟩
theorem extA_tup {h : DH} {n : Nat} {xs ys : List D} {Q : VD} (e : h[n]? = some (.lst xs)) (z : xs.length + ys.length ≤ 1000000) (q : Q .non (h.set n (.lst (xs ++ ys)))) : mExtendA (.ref n) [.tup ys] h Q := ⟨xs, mlst_of e, z, q⟩
def spWalk : DSp := fun ds h Q _ => ∃ (b : Book) (w : List Int) (B : Nat), ds = [bookD b, wD w] ∧ OkBook b ∧ b.2.length ≤ 5 ∧ w.length ≤ 8 ∧ (∀ x ∈ w, 0 ≤ x ∧ x < b.1) ∧ B ≤ 1000 ∧ (∀ ks : List (List Int), ks.Nodup → (∀ v ∈ ks, Rch (nextF b.2) w v) → ks.length ≤ B) ∧
  ∀ (h' : DH) (n ep : Nat) (ks : List (List Int)), h.length ≤ n → (∀ k, k < h.length → h'[k]? = h[k]?) → h.length ≤ h'.length → h'[n]? = some (.dct (grD (fun v => .tup ((nextF b.2 v).map wD)) ks) ep) → ks.Nodup → (∀ v, v ∈ ks ↔ Rch (nextF b.2) w v) → Q (.ref n) h'
/-- while walking: what stands -/
structure Wk (h h' : DH) (b : Book) (w : List Int) (ks : List (List Int)) (ep : Nat) (st : List (List Int)) : Prop where
  d : h'[h.length]? = some (.dct (grD (fun v => .tup ((nextF b.2 v).map wD)) ks) ep)
  q : h'[h.length + 1]? = some (.lst (st.map wD))
  keep : ∀ k, k < h.length → h'[k]? = h[k]?
  nd : ks.Nodup
  r1 : ∀ v ∈ ks, Rch (nextF b.2) w v
  cl : ∀ v ∈ ks, ∀ u ∈ nextF b.2 v, u ∈ ks ∨ u ∈ st
  r2 : ∀ v ∈ st, Rch (nextF b.2) w v
  ww : w ∈ ks ∨ w ∈ st
  few : st.length ≤ 280 * ks.length + 1
def wkJ (h : DH) (b : Book) (w : List Int) (B : Nat) (m : Nat) (env : Env) (h' : DH) : Prop := ∃ (a4 : Option D) (ks : List (List Int)) (ep : Nat) (st : List (List Int)), env = [some (bookD b), some (wD w), some (.ref h.length), some (.ref (h.length + 1)), a4] ∧ Wk h h' b w ks ep st ∧ m = (B - ks.length) * 301 + st.length
theorem sat_walk {ds : List D} {h : DH} {Q : VD} {E : DXK} (q : spWalk ds h Q E) : tau_walk spStart spNext (endsD Q E) (startD 5 ds) h := by
  obtain ⟨b, w, B, rfl, ok, five, eight, al, thou, hB, q⟩ := q
  have okr : ∀ p ∈ b.2, 1 ≤ p.1.length ∧ p.1.length = p.2.length ∧ p.1.length ≤ 3 := fun p hp => ⟨(ok.each p hp).one, (ok.each p hp).same, (ok.each p hp).three⟩
  unfold tau_walk
  simp only [dSeq, dIf, dExpr, dRet, dRetN, dNext, dAsg, dNever, eVar, eC, eTup, eLst, aCons, aNil, eOp, eCB, eMt, eCall, eIf, eNotT, eAnd, eOr, eTru, eTst, eNot, eAndV, eOrV, eNeg, eIsi, eChain, gVar, gTupD, gsCons, gsNil, ↓reduceIte, Bool.false_eq_true, Bool.not_true, Bool.not_false, i_tru, i_len, decide_true, decide_false, List.length_map, yes, dFor, dPar, dPar3, eLRg, eSl, oNone, oSome, eDnew, eRev, eSortedKeys, eListKeys, wipeD, tgVar, gSto, eLc, iRng1D, iRng2D, iSeq, eLc2, i_add, i_sub, i_gt, i_le, i_lt, i_ge, i_eq, i_ne, i_int, i_mod, i_fdv, i_mul, i_pow, start1, start2, start3, List.replicate, List.getElem?_cons_zero, List.getElem?_cons_succ, Option.some.injEq, exists_eq_left', List.set, Nat.reduceAdd, List.length_cons, List.length_nil, List.cons.injEq, and_true, true_and, exists_eq_left, exists_and_left, D.tup.injEq, D.int.injEq, D.bl.injEq]
  refine ⟨b, w, rfl, ok, eight, al, ?_⟩
  simp only [dSeq, dIf, dExpr, dRet, dRetN, dNext, dAsg, dNever, eVar, eC, eTup, eLst, aCons, aNil, eOp, eCB, eMt, eCall, eIf, eNotT, eAnd, eOr, eTru, eTst, eNot, eAndV, eOrV, eNeg, eIsi, eChain, gVar, gTupD, gsCons, gsNil, ↓reduceIte, Bool.false_eq_true, Bool.not_true, Bool.not_false, i_tru, i_len, decide_true, decide_false, List.length_map, yes, dFor, dPar, dPar3, eLRg, eSl, oNone, oSome, eDnew, eRev, eSortedKeys, eListKeys, wipeD, tgVar, gSto, eLc, iRng1D, iRng2D, iSeq, eLc2, i_add, i_sub, i_gt, i_le, i_lt, i_ge, i_eq, i_ne, i_int, i_mod, i_fdv, i_mul, i_pow, start1, start2, start3, List.replicate, List.getElem?_cons_zero, List.getElem?_cons_succ, Option.some.injEq, exists_eq_left', List.set, Nat.reduceAdd, List.length_cons, List.length_nil, List.cons.injEq, and_true, true_and, exists_eq_left, exists_and_left, D.tup.injEq, D.int.injEq, D.bl.injEq]
  refine ⟨by decide, ?_⟩
  unfold dWhile
  have l1 : (h ++ [DO.dct [] 0]).length = h.length + 1 := by rw [List.length_append]; rfl
  rw [l1]
  refine ⟨wkJ h b w B, ⟨B * 301 + 1, none, [], 0, [w], rfl, ⟨?_, ?_, ?_, List.nodup_nil, fun _ z => (by cases z), fun _ z => (by cases z), fun v hv => by rw [List.mem_singleton.mp hv]; exact .self, .inr List.mem_cons_self, by simp⟩, by simp⟩, ?_⟩
  · rw [List.append_assoc, List.getElem?_append_right (Nat.le_refl _), Nat.sub_self]; rfl
  · rw [← l1]; exact at_end
  · intro k hk
    rw [List.append_assoc, List.getElem?_append_left hk]
  rintro m env h' ⟨a4, ks, ep, st, rfl, W, rfl⟩
  have ksB := hB ks W.nd W.r1
  have ld := (List.getElem?_eq_some_iff.mp W.d).1
  have lq := (List.getElem?_eq_some_iff.mp W.q).1
  simp only [dSeq, dIf, dExpr, dRet, dRetN, dNext, dAsg, dNever, eVar, eC, eTup, eLst, aCons, aNil, eOp, eCB, eMt, eCall, eIf, eNotT, eAnd, eOr, eTru, eTst, eNot, eAndV, eOrV, eNeg, eIsi, eChain, gVar, gTupD, gsCons, gsNil, ↓reduceIte, Bool.false_eq_true, Bool.not_true, Bool.not_false, i_tru, i_len, decide_true, decide_false, List.length_map, yes, dFor, dPar, dPar3, eLRg, eSl, oNone, oSome, eDnew, eRev, eSortedKeys, eListKeys, wipeD, tgVar, gSto, eLc, iRng1D, iRng2D, iSeq, eLc2, i_add, i_sub, i_gt, i_le, i_lt, i_ge, i_eq, i_ne, i_int, i_mod, i_fdv, i_mul, i_pow, start1, start2, start3, List.replicate, List.getElem?_cons_zero, List.getElem?_cons_succ, Option.some.injEq, exists_eq_left', List.set, Nat.reduceAdd, List.length_cons, List.length_nil, List.cons.injEq, and_true, true_and, exists_eq_left, exists_and_left, D.tup.injEq, D.int.injEq, D.bl.injEq]
  refine ⟨_, lst_of W.q, ?_⟩
  cases hst : st.getLast? with
  | none =>
    have e0 : st = [] := List.getLast?_eq_none_iff.mp hst
    subst e0
    refine iF ?_
    refine q h' _ ep ks (Nat.le_refl _) W.keep (by omega) W.d W.nd fun v => ⟨W.r1 v, fun hr => ?_⟩
    induction hr with
    | self => exact W.ww.elim id fun z => (by cases z)
    | step _ hu ih => exact (W.cl _ ih _ hu).elim id fun z => (by cases z)
  | some v =>
    obtain ⟨s0, rfl⟩ : ∃ s0, st = s0 ++ [v] := List.getLast?_eq_some_iff.mp hst
    have ne : (!(((s0 ++ [v]).map wD).isEmpty)) = true := by simp
    rw [ne]
    simp only [dSeq, dIf, dExpr, dRet, dRetN, dNext, dAsg, dNever, eVar, eC, eTup, eLst, aCons, aNil, eOp, eCB, eMt, eCall, eIf, eNotT, eAnd, eOr, eTru, eTst, eNot, eAndV, eOrV, eNeg, eIsi, eChain, gVar, gTupD, gsCons, gsNil, ↓reduceIte, Bool.false_eq_true, Bool.not_true, Bool.not_false, i_tru, i_len, decide_true, decide_false, List.length_map, yes, dFor, dPar, dPar3, eLRg, eSl, oNone, oSome, eDnew, eRev, eSortedKeys, eListKeys, wipeD, tgVar, gSto, eLc, iRng1D, iRng2D, iSeq, eLc2, i_add, i_sub, i_gt, i_le, i_lt, i_ge, i_eq, i_ne, i_int, i_mod, i_fdv, i_mul, i_pow, start1, start2, start3, List.replicate, List.getElem?_cons_zero, List.getElem?_cons_succ, Option.some.injEq, exists_eq_left', List.set, Nat.reduceAdd, List.length_cons, List.length_nil, List.cons.injEq, and_true, true_and, exists_eq_left, exists_and_left, D.tup.injEq, D.int.injEq, D.bl.injEq]
    have few := W.few
    rw [List.length_append] at few
    have rv : Rch (nextF b.2) w v := W.r2 v (by simp)
    have vl := rch_len rv
    refine ⟨⟨rfl, _, lst_of W.q⟩, _, wD v, mlst_of W.q, by simp, ?_⟩
    have dl : ((s0 ++ [v]).map wD).dropLast = s0.map wD := by rw [List.map_append]; exact List.dropLast_concat
    rw [dl]
    have d1 : (h'.set (h.length + 1) (.lst (s0.map wD)))[h.length]? = some (.dct (grD (fun v => .tup ((nextF b.2 v).map wD)) ks) ep) := by rw [List.getElem?_set_ne (by omega)]; exact W.d
    have q1 : (h'.set (h.length + 1) (.lst (s0.map wD)))[h.length + 1]? = some (.lst (s0.map wD)) := get_set W.q
    have k1 : ∀ k, k < h.length → (h'.set (h.length + 1) (.lst (s0.map wD)))[k]? = h[k]? := fun k hk => by rw [List.getElem?_set_ne (by omega)]; exact W.keep k hk
    generalize h'.set (h.length + 1) (.lst (s0.map wD)) = h1 at d1 q1 k1 ⊢
    unfold dInA
    dsimp only
    rw [d1]
    refine ⟨keyOk_w v, ?_⟩
    rw [dlook_map]
    by_cases c : v ∈ ks
    · rw [if_pos c]
      refine ⟨false, rfl, iF ?_⟩
      refine ⟨_, ?_, _, ks, ep, s0, rfl, ⟨d1, q1, k1, W.nd, W.r1, fun u hu x hx => ?_, fun u hu => W.r2 u (List.mem_append_left _ hu), ?_, by omega⟩, rfl⟩
      · rw [List.length_append]; show _ < _ + (s0.length + 1); omega
      · rcases W.cl u hu x hx with z | z
        · exact .inl z
        · rcases List.mem_append.mp z with z | z
          · exact .inr z
          · rw [List.mem_singleton.mp z]; exact .inl c
      · rcases W.ww with z | z
        · exact .inl z
        · rcases List.mem_append.mp z with z | z
          · exact .inr z
          · rw [List.mem_singleton.mp z]; exact .inl c
    · rw [if_neg c]
      refine ⟨true, rfl, iT ?_⟩
      have nd2 : (ks ++ [v]).Nodup := List.nodup_append.mpr ⟨W.nd, by simp, fun x hx y hy => by rw [List.mem_singleton.mp hy]; exact fun z => c (z ▸ hx)⟩
      have r2' : ∀ u ∈ ks ++ [v], Rch (nextF b.2) w u := fun u hu => (List.mem_append.mp hu).elim (W.r1 u) fun z => by rw [List.mem_singleton.mp z]; exact rv
      have ksB2 := hB _ nd2 r2'
      rw [List.length_append] at ksB2
      have ksB3 : ks.length + 1 ≤ B := ksB2
      refine lenA_dct d1 (by rw [List.length_map]; omega) ⟨false, ?_, iF ?_⟩
      · show D.bl (decide (((grD _ ks).length : Int) = 1500)) = .bl false
        rw [decide_eq_false (by rw [List.length_map]; omega)]
      refine ixA_tup (v := .tup (b.2.map ruleD)) rfl ⟨b.2, v, rfl, five, okr, by omega, fun os' => ?_⟩
      have m1 : ∀ {k : Nat} {o : DO}, h1[k]? = some o → (h1 ++ os')[k]? = some o := fun {k o} e => by rw [List.getElem?_append_left (List.getElem?_eq_some_iff.mp e).1]; exact e
      refine setA_dct (m1 d1) (keyOk_w v) (by rw [List.length_map]; omega) fun ep' => ?_
      have pn : dput (grD (fun v => D.tup ((nextF b.2 v).map wD)) ks) (wD v) (.tup ((nextF b.2 v).map wD)) = grD (fun v => D.tup ((nextF b.2 v).map wD)) (ks ++ [v]) := dput_new _ c
      rw [pn]
      have d2 := get_set (o := .dct (grD (fun v => D.tup ((nextF b.2 v).map wD)) (ks ++ [v])) ep') (m1 d1)
      have q2 : ((h1 ++ os').set h.length (.dct (grD (fun v => D.tup ((nextF b.2 v).map wD)) (ks ++ [v])) ep'))[h.length + 1]? = some (.lst (s0.map wD)) := by rw [List.getElem?_set_ne (by omega)]; exact m1 q1
      have k2 : ∀ k, k < h.length → ((h1 ++ os').set h.length (.dct (grD (fun v => D.tup ((nextF b.2 v).map wD)) (ks ++ [v])) ep'))[k]? = h[k]? := fun k hk => by
        have := (List.getElem?_eq_some_iff.mp d1).1
        rw [List.getElem?_set_ne (by omega), List.getElem?_append_left (by omega)]; exact k1 k hk
      generalize (h1 ++ os').set h.length (.dct (grD (fun v => D.tup ((nextF b.2 v).map wD)) (ks ++ [v])) ep') = h2 at d2 q2 k2 ⊢
      refine ⟨⟨rfl, _, lst_of q2⟩, ixA_dct d2 (keyOk_w v) (dv := .tup ((nextF b.2 v).map wD)) (by rw [dlook_map, if_pos (by simp)]) ?_⟩
      have nl := nextF_le (v := v) five (by omega) okr
      have one : [v].length = 1 := rfl
      refine extA_tup q2 (by rw [List.length_map, List.length_map]; omega) ?_
      have dq := (List.getElem?_eq_some_iff.mp q2).1
      rw [← List.map_append]
      refine ⟨_, ?_, _, ks ++ [v], ep', s0 ++ nextF b.2 v, rfl, ⟨by rw [List.getElem?_set_ne (by omega)]; exact d2, get_set q2, fun k hk => by rw [List.getElem?_set_ne (by omega)]; exact k2 k hk, nd2, r2', fun u hu x hx => ?_, fun u hu => ?_, ?_, ?_⟩, rfl⟩
      · simp only [List.length_append, List.length_cons, List.length_nil]
        omega
      · rcases List.mem_append.mp hu with z | z
        · rcases W.cl u z x hx with y | y
          · exact .inl (List.mem_append_left _ y)
          · rcases List.mem_append.mp y with y | y
            · exact .inr (List.mem_append_left _ y)
            · exact .inl (List.mem_append_right _ y)
        · rw [List.mem_singleton.mp z] at hx
          exact .inr (List.mem_append_right _ hx)
      · rcases List.mem_append.mp hu with z | z
        · exact W.r2 u (List.mem_append_left _ z)
        · exact .step rv z
      · rcases W.ww with z | z
        · exact .inl (List.mem_append_left _ z)
        · rcases List.mem_append.mp z with z | z
          · exact .inr (List.mem_append_left _ z)
          · exact .inl (List.mem_append_right _ z)
      · simp only [List.length_append, List.length_cons, List.length_nil]
        omega
end DL
set_option Elab.async false
set_option linter.all false
set_option maxRecDepth 100000
set_option maxHeartbeats 4000000
namespace DL
open PySem PySem.Spec PyProof.Rows L2
open PySem.W (Frag dataLt alike AllAlike Sortable)
open SB (Rule Book dSide)
/-! ### the law's own walk -/
theorem words_P : ∀ st : List (List Int), (st.map wD).mapM (fun x => toP x) = some (st.map dSide)
  | [] => rfl
  | x :: st => by rw [List.map_cons, List.mapM_cons, toP_w, words_P st]; rfl
theorem lay_words : ∀ st : List (List Int), PyData.canLayAll0 (st.map dSide) = true
  | [] => rfl
  | x :: st => by
    have q := shaped_w x
    rw [SeqAt.shaped, Bool.and_eq_true] at q
    rw [List.map_cons, PyData.canLayAll0, lay_words st, q.1]; rfl
theorem depth_words : ∀ st : List (List Int), PyData.depthAll (st.map dSide) ≤ 1
  | [] => Nat.zero_le _
  | x :: st => by
    have d : (dSide x).depth = 1 := by show PyData.depthAll (x.map .int) + 1 = 1; rw [depth_ints]
    show max (dSide x).depth (PyData.depthAll (st.map dSide)) ≤ 1
    have := depth_words st
    omega
theorem shaped_words (st : List (List Int)) : SeqAt.shaped (.list (st.map dSide)) = true := by
  rw [SeqAt.shaped, PyData.canLay0, lay_words st]
  have := depth_words st
  show decide (PyData.depthAll (st.map dSide) + 1 ≤ 64) = true
  exact decide_eq_true (by omega)
theorem ne_nil {h : DH} {a b : Nat} {st : List (List Int)} {Q : VD} (ea : h[a]? = some (.lst (st.map wD))) (eb : h[b]? = some (.lst [])) (q : Q (.bl (!st.isEmpty)) h) : dNe (.ref a) (.ref b) h Q :=
  ⟨1, .list (st.map dSide), .list [], by simp only [toPf]; rw [lst_of ea]; dsimp only; rw [words_P]; rfl, by simp only [toPf]; rw [lst_of eb]; rfl, shaped_words st, by decide, by
    have e : PyData.eqv (.list (st.map dSide)) (.list []) = st.isEmpty := by cases st <;> rfl
    rw [e]; exact q⟩
abbrev grL (ks : List (List Int × Nat)) : List (D × D) := ks.map fun p => (wD p.1, .ref p.2)
theorem dlookL (ks : List (List Int × Nat)) (v : List Int) : (dlook (grL ks) (wD v)).isSome = decide (v ∈ ks.map (·.1)) := by
  unfold dlook
  rw [Option.isSome_map]
  refine Bool.eq_iff_iff.mpr ?_
  rw [List.find?_isSome, decide_eq_true_eq]
  constructor
  · rintro ⟨x, hx, e⟩
    obtain ⟨q, hq, rfl⟩ := List.mem_map.mp hx
    have e2 : nk (wD q.1) = nk (wD v) := of_decide_eq_true e
    rw [nk_w, nk_w] at e2
    rw [← nkI_inj (Option.some.inj e2)]
    exact List.mem_map.mpr ⟨q, hq, rfl⟩
  · intro hv
    obtain ⟨q, hq, rfl⟩ := List.mem_map.mp hv
    exact ⟨_, List.mem_map.mpr ⟨q, hq, rfl⟩, decide_eq_true rfl⟩
theorem dputL {ks : List (List Int × Nat)} {v : List Int} {m : Nat} (h : v ∉ ks.map (·.1)) : dput (grL ks) (wD v) (.ref m) = grL (ks ++ [(v, m)]) := by
  unfold dput
  rw [dlookL, decide_eq_false h]
  simp
theorem dlookL_at {ks : List (List Int × Nat)} {v : List Int} {m : Nat} (h : v ∉ ks.map (·.1)) : dlook (grL (ks ++ [(v, m)])) (wD v) = some (.ref m) := by
  show (List.find? (fun p => decide (nk p.1 = nk (wD v))) ((ks ++ [(v, m)]).map fun p : List Int × Nat => (wD p.1, D.ref p.2))).map (·.2) = _
  rw [List.map_append, List.find?_append]
  have e : (grL ks).find? (fun p => decide (nk p.1 = nk (wD v))) = none := by
    have q := dlookL ks v
    rw [decide_eq_false h] at q
    unfold dlook at q
    rw [Option.isSome_map] at q
    exact Option.not_isSome_iff_eq_none.mp (by rw [q]; decide)
  rw [e]
  simp
structure Lw (h h' : DH) (b : Book) (w : List Int) (ks : List (List Int × Nat)) (ep : Nat) (st : List (List Int)) (nq : Nat) : Prop where
  d : h'[h.length]? = some (.dct (grL ks) ep)
  qq : h'[nq]? = some (.lst (st.map wD))
  qn : h.length < nq
  keep : ∀ k, k < h.length → h'[k]? = h[k]?
  nd : (ks.map (·.1)).Nodup
  at' : ∀ p ∈ ks, h.length < p.2 ∧ h'[p.2]? = some (.lst ((nextF b.2 p.1).map wD))
  r1 : ∀ p ∈ ks, Rch (nextF b.2) w p.1
  cl : ∀ p ∈ ks, ∀ u ∈ nextF b.2 p.1, u ∈ ks.map (·.1) ∨ u ∈ st
  r2 : ∀ v ∈ st, Rch (nextF b.2) w v
  ww : w ∈ ks.map (·.1) ∨ w ∈ st
  few : st.length ≤ 280 * ks.length + 1
def lwJ (h : DH) (b : Book) (w : List Int) (B : Nat) (m : Nat) (env : Env) (h' : DH) : Prop := ∃ (a4 : Option D) (ks : List (List Int × Nat)) (ep : Nat) (st : List (List Int)) (q : Nat), env = [some (bookD b), some (wD w), some (.ref h.length), some (.ref q), a4] ∧ Lw h h' b w ks ep st q ∧ m = (B - ks.length) * 301 + st.length
def spLWalk : DSp := fun ds h Q _ => ∃ (b : Book) (w : List Int) (B : Nat), ds = [bookD b, wD w] ∧ b.2.length ≤ 5 ∧ (∀ p ∈ b.2, 1 ≤ p.1.length ∧ p.1.length = p.2.length ∧ p.1.length ≤ 3) ∧ w.length ≤ 8 ∧ B ≤ 1000 ∧ (∀ ks : List (List Int), ks.Nodup → (∀ v ∈ ks, Rch (nextF b.2) w v) → ks.length ≤ B) ∧
  ∀ (h' : DH) (ep : Nat) (ks : List (List Int × Nat)), (∀ k, k < h.length → h'[k]? = h[k]?) → h.length ≤ h'.length → h'[h.length]? = some (.dct (grL ks) ep) → (ks.map (·.1)).Nodup → (∀ p ∈ ks, h.length < p.2 ∧ h'[p.2]? = some (.lst ((nextF b.2 p.1).map wD))) → (∀ v, v ∈ ks.map (·.1) ↔ Rch (nextF b.2) w v) → Q (.ref h.length) h'
theorem sat_lwalk {ds : List D} {h : DH} {Q : VD} {E : DXK} (q : spLWalk ds h Q E) : tau__law_walk spLSteps (endsD Q E) (startD 5 ds) h := by
  obtain ⟨b, w, B, rfl, five, okr, eight, thou, hB, q⟩ := q
  unfold tau__law_walk
  simp only [dSeq, dIf, dExpr, dRet, dRetN, dNext, dAsg, dNever, eVar, eC, eTup, eLst, aCons, aNil, eOp, eCB, eMt, eCall, eIf, eNotT, eAnd, eOr, eTru, eTst, eNot, eAndV, eOrV, eNeg, eIsi, eChain, gVar, gTupD, gsCons, gsNil, ↓reduceIte, Bool.false_eq_true, Bool.not_true, Bool.not_false, i_tru, i_len, decide_true, decide_false, List.length_map, yes, dFor, dPar, dPar3, eLRg, eSl, oNone, oSome, eDnew, eRev, eSortedKeys, eListKeys, wipeD, tgVar, gSto, eLc, iRng1D, iRng2D, iSeq, eLc2, i_add, i_sub, i_gt, i_le, i_lt, i_ge, i_eq, i_ne, i_int, i_mod, i_fdv, i_mul, i_pow, start1, start2, start3, List.replicate, List.getElem?_cons_zero, List.getElem?_cons_succ, Option.some.injEq, exists_eq_left', List.set, Nat.reduceAdd, List.length_cons, List.length_nil, List.cons.injEq, and_true, true_and, exists_eq_left, exists_and_left, D.tup.injEq, D.int.injEq, D.bl.injEq]
  refine ⟨by decide, _, _, ⟨rfl, rfl⟩, ?_⟩
  unfold dWhile
  have l1 : (h ++ [DO.dct [] 0]).length = h.length + 1 := by rw [List.length_append]; rfl
  rw [l1]
  refine ⟨lwJ h b w B, ⟨B * 301 + 1, none, [], 0, [w], h.length + 1, rfl, ⟨?_, ?_, Nat.lt_succ_self _, ?_, List.nodup_nil, fun _ z => (by cases z), fun _ z => (by cases z), fun _ z => (by cases z), fun v hv => by rw [List.mem_singleton.mp hv]; exact .self, .inr List.mem_cons_self, by simp⟩, by simp⟩, ?_⟩
  · rw [List.append_assoc, List.getElem?_append_right (Nat.le_refl _), Nat.sub_self]; rfl
  · rw [← l1]; exact at_end
  · intro k hk
    rw [List.append_assoc, List.getElem?_append_left hk]
  rintro m env h' ⟨a4, ks, ep, st, nq, rfl, W, rfl⟩
  have ksB := hB _ W.nd fun v hv => by
    obtain ⟨p, hp, rfl⟩ := List.mem_map.mp hv
    exact W.r1 p hp
  rw [List.length_map] at ksB
  have ld := (List.getElem?_eq_some_iff.mp W.d).1
  have lq := (List.getElem?_eq_some_iff.mp W.qq).1
  have mono : ∀ {os : List DO} {k : Nat} {o : DO}, h'[k]? = some o → (h' ++ os)[k]? = some o := fun {os k o} e => by rw [List.getElem?_append_left (List.getElem?_eq_some_iff.mp e).1]; exact e
  simp only [dSeq, dIf, dExpr, dRet, dRetN, dNext, dAsg, dNever, eVar, eC, eTup, eLst, aCons, aNil, eOp, eCB, eMt, eCall, eIf, eNotT, eAnd, eOr, eTru, eTst, eNot, eAndV, eOrV, eNeg, eIsi, eChain, gVar, gTupD, gsCons, gsNil, ↓reduceIte, Bool.false_eq_true, Bool.not_true, Bool.not_false, i_tru, i_len, decide_true, decide_false, List.length_map, yes, dFor, dPar, dPar3, eLRg, eSl, oNone, oSome, eDnew, eRev, eSortedKeys, eListKeys, wipeD, tgVar, gSto, eLc, iRng1D, iRng2D, iSeq, eLc2, i_add, i_sub, i_gt, i_le, i_lt, i_ge, i_eq, i_ne, i_int, i_mod, i_fdv, i_mul, i_pow, start1, start2, start3, List.replicate, List.getElem?_cons_zero, List.getElem?_cons_succ, Option.some.injEq, exists_eq_left', List.set, Nat.reduceAdd, List.length_cons, List.length_nil, List.cons.injEq, and_true, true_and, exists_eq_left, exists_and_left, D.tup.injEq, D.int.injEq, D.bl.injEq]
  refine ⟨by decide, ne_nil (mono W.qq) at_end ⟨_, rfl, ?_⟩⟩
  cases st with
  | nil =>
    refine iF ?_
    refine q _ ep ks (fun k hk => ?_) (by rw [List.length_append]; omega) (mono W.d) W.nd (fun p hp => ⟨(W.at' p hp).1, mono (W.at' p hp).2⟩) fun v => ⟨fun hv => ?_, fun hr => ?_⟩
    · rw [List.getElem?_append_left (by omega)]; exact W.keep k hk
    · obtain ⟨p, hp, rfl⟩ := List.mem_map.mp hv
      exact W.r1 p hp
    · induction hr with
      | self => exact W.ww.elim id fun z => (by cases z)
      | step _ hu ih =>
        obtain ⟨p, hp, e⟩ := List.mem_map.mp ih
        rw [← e] at hu
        exact (W.cl p hp _ hu).elim id fun z => (by cases z)
  | cons v s0 =>
    refine iT (ixA_lst (lst_of (mono W.qq)) (v := wD v) (atI_nat (by decide) rfl) (sl_lst (lst_of (mono W.qq)) ?_))
    rw [cut_from (by decide) (by rw [List.length_map, List.length_cons]; omega)]
    have few := W.few
    rw [List.length_cons] at few
    have rv : Rch (nextF b.2) w v := W.r2 v List.mem_cons_self
    have vl := rch_len rv
    have e1 : ((v :: s0).map wD).drop (1 : Int).toNat = s0.map wD := rfl
    rw [e1]
    have ln : (h' ++ [DO.lst []]).length = h'.length + 1 := by rw [List.length_append]; rfl
    have keep1 : ∀ {k : Nat} {o : DO}, h'[k]? = some o → (h' ++ [DO.lst []] ++ [DO.lst (s0.map wD)])[k]? = some o := fun {k o} e => by rw [List.append_assoc]; exact mono e
    have q1 : (h' ++ [DO.lst []] ++ [DO.lst (s0.map wD)])[(h' ++ [DO.lst []]).length]? = some (.lst (s0.map wD)) := at_end
    have k1 : ∀ k, k < h.length → (h' ++ [DO.lst []] ++ [DO.lst (s0.map wD)])[k]? = h[k]? := fun k hk => by rw [List.append_assoc, List.getElem?_append_left (by omega)]; exact W.keep k hk
    rw [ln] at q1 ⊢
    have d1 := keep1 W.d
    have a1 : ∀ p ∈ ks, h.length < p.2 ∧ (h' ++ [DO.lst []] ++ [DO.lst (s0.map wD)])[p.2]? = some (.lst ((nextF b.2 p.1).map wD)) := fun p hp => ⟨(W.at' p hp).1, keep1 (W.at' p hp).2⟩
    generalize h' ++ [DO.lst []] ++ [DO.lst (s0.map wD)] = h1 at q1 k1 d1 a1 ⊢
    unfold dInA
    dsimp only
    rw [d1]
    refine ⟨keyOk_w v, ?_⟩
    rw [dlookL]
    by_cases c : v ∈ ks.map (·.1)
    · rw [decide_eq_true c]
      refine ⟨false, rfl, iF ⟨_, ?_, _, ks, ep, s0, h'.length + 1, rfl, ⟨d1, q1, by omega, k1, W.nd, a1, W.r1, fun p hp x hx => ?_, fun u hu => W.r2 u (List.mem_cons_of_mem _ hu), ?_, by omega⟩, rfl⟩⟩
      · rw [List.length_cons]; omega
      · rcases W.cl p hp x hx with z | z
        · exact .inl z
        · rcases List.mem_cons.mp z with z | z
          · rw [z]; exact .inl c
          · exact .inr z
      · rcases W.ww with z | z
        · exact .inl z
        · rcases List.mem_cons.mp z with z | z
          · rw [z]; exact .inl c
          · exact .inr z
    · rw [decide_eq_false c]
      refine ⟨true, rfl, iT ⟨b, v, rfl, by omega, okr, by omega, fun os' => ?_⟩⟩
      have l1' := (List.getElem?_eq_some_iff.mp q1).1
      have m1 : ∀ {k : Nat} {o : DO}, h1[k]? = some o → (h1 ++ os' ++ [.lst ((nextF b.2 v).map wD)])[k]? = some o := fun {k o} e => by rw [List.append_assoc, List.getElem?_append_left (List.getElem?_eq_some_iff.mp e).1]; exact e
      have n1 : (h1 ++ os' ++ [DO.lst ((nextF b.2 v).map wD)])[h1.length + os'.length]? = some (.lst ((nextF b.2 v).map wD)) := by rw [← List.length_append]; exact at_end
      have k2 : ∀ k, k < h.length → (h1 ++ os' ++ [DO.lst ((nextF b.2 v).map wD)])[k]? = h[k]? := fun k hk => by rw [List.append_assoc, List.getElem?_append_left (by omega)]; exact k1 k hk
      have d2 := m1 d1
      have q2 := m1 q1
      have a2 : ∀ p ∈ ks, h.length < p.2 ∧ (h1 ++ os' ++ [DO.lst ((nextF b.2 v).map wD)])[p.2]? = some (.lst ((nextF b.2 p.1).map wD)) := fun p hp => ⟨(a1 p hp).1, m1 (a1 p hp).2⟩
      have nmg : h.length < h1.length + os'.length := by omega
      generalize h1.length + os'.length = nm at n1 nmg ⊢
      generalize h1 ++ os' ++ [DO.lst ((nextF b.2 v).map wD)] = h2 at n1 k2 d2 q2 a2 ⊢
      have nmd : nm ≠ h.length := fun z => by rw [z, d2] at n1; cases n1
      have nml : h.length < nm ∨ nm < h.length := by omega
      refine setA_dct d2 (keyOk_w v) (by rw [List.length_map]; omega) fun ep' => ?_
      rw [dputL c]
      have nd2 : ((ks ++ [(v, nm)]).map (·.1)).Nodup := by
        rw [List.map_append]
        exact List.nodup_append.mpr ⟨W.nd, by simp, fun x hx y hy => by rw [List.mem_singleton.mp hy]; exact fun z => c (by have z2 : x = v := z; rw [← z2]; exact hx)⟩
      have r2' : ∀ p ∈ ks ++ [(v, nm)], Rch (nextF b.2) w p.1 := fun p hp => (List.mem_append.mp hp).elim (W.r1 p) fun z => by rw [List.mem_singleton.mp z]; exact rv
      have ksB2 := hB _ nd2 fun u hu => by
        obtain ⟨p, hp, rfl⟩ := List.mem_map.mp hu
        exact r2' p hp
      rw [List.length_map, List.length_append] at ksB2
      have ksB3 : ks.length + 1 ≤ B := ksB2
      have nl := nextF_le (v := v) five (by omega) okr
      refine ixA_dct (get_set d2) (keyOk_w v) (dlookL_at c) ?_
      have s1 : ∀ {k : Nat} {o u : DO}, k ≠ h.length → h2[k]? = some o → (h2.set h.length u)[k]? = some o := fun {k o u} ne e => by rw [List.getElem?_set_ne (Ne.symm ne)]; exact e
      refine add_lst (s1 (by omega) q2) (s1 nmd n1) (by rw [List.length_map, List.length_map]; omega) ?_
      rw [← List.map_append]
      have f1 : ∀ {k : Nat} {o : DO} {u x : DO}, k ≠ h.length → h2[k]? = some o → (h2.set h.length u ++ [x])[k]? = some o := fun {k o u x} ne e => by
        rw [List.getElem?_append_left (by rw [List.length_set]; exact (List.getElem?_eq_some_iff.mp e).1)]; exact s1 ne e
      have ld2 := (List.getElem?_eq_some_iff.mp d2).1
      refine ⟨_, ?_, _, ks ++ [(v, nm)], ep', s0 ++ nextF b.2 v, _, rfl, ⟨?_, at_end, by rw [List.length_set]; omega, fun k hk => ?_, nd2, fun p hp => ?_, r2', fun p hp x hx => ?_, fun u hu => ?_, ?_, ?_⟩, rfl⟩
      · simp only [List.length_append, List.length_cons, List.length_nil]; omega
      · rw [List.getElem?_append_left (by rw [List.length_set]; exact ld2)]; exact get_set d2
      · rw [List.getElem?_append_left (by rw [List.length_set]; omega), List.getElem?_set_ne (by omega)]; exact k2 k hk
      · rcases List.mem_append.mp hp with z | z
        · exact ⟨(a2 p z).1, f1 (by have := (a2 p z).1; omega) (a2 p z).2⟩
        · rw [List.mem_singleton.mp z]
          exact ⟨nmg, f1 nmd n1⟩
      · rw [List.map_append]
        rcases List.mem_append.mp hp with z | z
        · rcases W.cl p z x hx with y | y
          · exact .inl (List.mem_append_left _ y)
          · rcases List.mem_cons.mp y with y | y
            · rw [y]; exact .inl (List.mem_append_right _ (by simp))
            · exact .inr (List.mem_append_left _ y)
        · rw [List.mem_singleton.mp z] at hx
          exact .inr (List.mem_append_right _ hx)
      · rcases List.mem_append.mp hu with z | z
        · exact W.r2 u (List.mem_cons_of_mem _ z)
        · exact .step rv z
      · rw [List.map_append]
        rcases W.ww with z | z
        · exact .inl (List.mem_append_left _ z)
        · rcases List.mem_cons.mp z with z | z
          · rw [z]; exact .inl (List.mem_append_right _ (by simp))
          · exact .inr (List.mem_append_left _ z)
      · simp only [List.length_append, List.length_cons, List.length_nil]; omega
end DL
set_option Elab.async false
set_option linter.all false
set_option maxRecDepth 100000
set_option maxHeartbeats 4000000
namespace DL
open PySem PySem.Spec PyProof.Rows L2
open PySem.W (Frag)
open SB (Rule Book)
/-! ### how many words can come -/
def codeW (n : Nat) : List Int → Nat
  | [] => 0
  | x :: l => x.toNat + n * codeW n l
theorem codeW_lt {n : Nat} : ∀ l : List Int, (∀ x ∈ l, 0 ≤ x ∧ x < (n : Int)) → codeW n l < n ^ l.length
  | [], _ => by simp [codeW]
  | x :: l, h => by
    have h1 := codeW_lt l fun y hy => h y (List.mem_cons_of_mem _ hy)
    have h2 := h x List.mem_cons_self
    have h3 : n * (codeW n l + 1) ≤ n * n ^ l.length := Nat.mul_le_mul_left n h1
    rw [List.length_cons, Nat.pow_succ, Nat.mul_comm (n ^ l.length)]
    show x.toNat + n * codeW n l < _
    rw [Nat.mul_add] at h3
    omega
theorem codeW_inj {n : Nat} : ∀ a b : List Int, a.length = b.length → (∀ x ∈ a, 0 ≤ x ∧ x < (n : Int)) → (∀ x ∈ b, 0 ≤ x ∧ x < (n : Int)) → codeW n a = codeW n b → a = b
  | [], [], _, _, _, _ => rfl
  | [], _ :: _, h, _, _, _ => by simp at h
  | _ :: _, [], h, _, _, _ => by simp at h
  | x :: a, y :: b, hl, ha, hb, e => by
    have h1 := ha x List.mem_cons_self
    have h2 := hb y List.mem_cons_self
    have e' : x.toNat + n * codeW n a = y.toNat + n * codeW n b := e
    have m1 : (x.toNat + n * codeW n a) % n = x.toNat := by rw [Nat.add_mul_mod_self_left, Nat.mod_eq_of_lt (by omega)]
    have m2 : (y.toNat + n * codeW n b) % n = y.toNat := by rw [Nat.add_mul_mod_self_left, Nat.mod_eq_of_lt (by omega)]
    have exy : x.toNat = y.toNat := by rw [← m1, ← m2, e']
    have ec : codeW n a = codeW n b := Nat.eq_of_mul_eq_mul_left (show 0 < n by omega) (by omega)
    rw [show x = y by omega, codeW_inj a b (by simpa using hl) (fun z hz => ha z (List.mem_cons_of_mem _ hz)) (fun z hz => hb z (List.mem_cons_of_mem _ hz)) ec]
theorem begun_let {w : List Int} : ∀ (qs : List (Int × Int)) (bs : List (List Int)) (P : Int → Prop), (∀ y ∈ w, P y) → (∀ q ∈ qs, P q.2) → (∀ x ∈ bs, ∀ y ∈ x, P y) → ∀ x ∈ qs.foldl (grow w) bs, ∀ y ∈ x, P y
  | [], _, _, _, _, h => h
  | q :: qs, bs, P, hw, hq, h => begun_let qs _ P hw (fun r hr => hq r (List.mem_cons_of_mem _ hr)) fun x hx y hy => by
    obtain ⟨st, hst, h1⟩ := List.mem_flatMap.mp hx
    obtain ⟨a, ha, h2⟩ := List.mem_flatMap.mp h1
    unfold cel at h2
    split at h2
    · rw [List.mem_singleton.mp h2] at hy
      rcases List.mem_append.mp hy with hy | hy
      · rcases List.mem_append.mp hy with hy | hy
        · exact h st hst y hy
        · exact hw y (List.mem_of_mem_take (List.mem_of_mem_drop hy))
      · rw [List.mem_singleton.mp hy]; exact hq q List.mem_cons_self
    · cases h2
theorem turns_let {p : Rule} {w x : List Int} (P : Int → Prop) (hw : ∀ y ∈ w, P y) (hp : ∀ y ∈ p.2, P y) (h : x ∈ turnsF p w) : ∀ y ∈ x, P y := by
  obtain ⟨st, hst, rfl⟩ := List.mem_map.mp h
  intro y hy
  rcases List.mem_append.mp hy with hy | hy
  · exact begun_let (p.1.zip p.2) [[]] P hw (fun q hq => hp q.2 (List.of_mem_zip hq).2) (by simp) st hst y hy
  · exact hw y (List.mem_of_mem_drop hy)
theorem rch_let {b : Book} {w v : List Int} (ok : OkBook b) (hw : ∀ x ∈ w, 0 ≤ x ∧ x < b.1) (h : Rch (nextF b.2) w v) : ∀ x ∈ v, 0 ≤ x ∧ x < b.1 := by
  induction h with
  | self => exact hw
  | step _ hu ih =>
    have hu2 := (sortW_perm _).mem_iff.mp hu
    obtain ⟨p, hp, hx⟩ := List.mem_flatMap.mp (mem_dd.mp hu2)
    exact turns_let (fun y => 0 ≤ y ∧ y < b.1) ih (ok.each p hp).r hx
/-- at most so many words come -/
theorem rch_few {b : Book} {w : List Int} (ok : OkBook b) (hw : ∀ x ∈ w, 0 ≤ x ∧ x < b.1) (ks : List (List Int)) (nd : ks.Nodup) (h : ∀ v ∈ ks, Rch (nextF b.2) w v) : ks.length ≤ b.1.toNat ^ w.length := by
  have hn : ((b.1.toNat : Nat) : Int) = b.1 := by have := ok.lo; omega
  have rng : ∀ v ∈ ks, ∀ x ∈ v, 0 ≤ x ∧ x < ((b.1.toNat : Nat) : Int) := fun v hv => by rw [hn]; exact rch_let ok hw (h v hv)
  have q := nat_nodup_len (ks.map (codeW b.1.toNat)) (List.range (b.1.toNat ^ w.length)) (List.pairwise_map.mpr (List.Pairwise.imp_of_mem (fun {x y} hx hy ne e => ne (codeW_inj x y ((rch_len (h x hx)).trans (rch_len (h y hy)).symm) (rng x hx) (rng y hy) e)) nd)) fun c hc => by
    obtain ⟨v, hv, rfl⟩ := List.mem_map.mp hc
    have := codeW_lt v (rng v hv)
    rw [rch_len (h v hv)] at this
    exact List.mem_range.mpr this
  rwa [List.length_map, List.length_range] at q
end DL
set_option linter.all false
namespace DL
/-! ### what no run for ever comes from -/
abbrev Wd := List Int
inductive Gd (N : Wd → List Wd) (ks : List Wd) : Wd → Prop where
  | mk {v : Wd} : v ∈ ks → (∀ u ∈ N v, Gd N ks u) → Gd N ks v
/-- each stands behind all its next words; whatever could come is there -/
structure Topo (N : Wd → List Wd) (ks ord : List Wd) : Prop where
  nd : ord.Nodup
  sub : ∀ v ∈ ord, v ∈ ks
  pre : ∀ (i : Nat) (v : Wd), ord[i]? = some v → ∀ u ∈ N v, u ∈ ord.take i
  all : ∀ v ∈ ks, (∀ u ∈ N v, u ∈ ord) → v ∈ ord
theorem Topo.gd {N : Wd → List Wd} {ks ord : List Wd} (t : Topo N ks ord) : ∀ (n i : Nat) (v : Wd), i < n → ord[i]? = some v → Gd N ks v
  | 0, _, _, h, _ => absurd h (Nat.not_lt_zero _)
  | n + 1, i, v, h, e => .mk (t.sub v (List.mem_of_getElem? e)) fun u hu => by
    obtain ⟨j, hj, ej⟩ := List.getElem_of_mem (t.pre i v e u hu)
    rw [List.length_take] at hj
    refine t.gd n j u (by omega) ?_
    rw [← ej, List.getElem_take]
    exact List.getElem?_eq_getElem _
theorem Topo.iff {N : Wd → List Wd} {ks ord : List Wd} (t : Topo N ks ord) (v : Wd) : v ∈ ord ↔ Gd N ks v := by
  constructor
  · intro h
    obtain ⟨i, hi, e⟩ := List.getElem_of_mem h
    exact t.gd (i + 1) i v (Nat.lt_succ_self _) (by rw [← e]; exact List.getElem?_eq_getElem _)
  · intro h
    induction h with
    | mk hv _ ih => exact t.all _ hv ih
theorem nd_len {α : Type} [DecidableEq α] : ∀ (xs ys : List α), xs.Nodup → (∀ x ∈ xs, x ∈ ys) → xs.length ≤ ys.length
  | [], _, _, _ => Nat.zero_le _
  | x :: xs, ys, nd, h => by
    have hx := h x List.mem_cons_self
    rw [List.nodup_cons] at nd
    have q := nd_len xs (ys.erase x) nd.2 fun z hz => (List.mem_erase_of_ne (fun e : z = x => nd.1 (e ▸ hz))).mpr (h z (List.mem_cons_of_mem _ hz))
    rw [List.length_erase_of_mem hx] at q
    have := List.length_pos_of_mem hx
    rw [List.length_cons]; omega
theorem Topo.full {N : Wd → List Wd} {ks ord : List Wd} (t : Topo N ks ord) (nd : ks.Nodup) : ord.length < ks.length ↔ ¬ ∀ v ∈ ks, Gd N ks v := by
  constructor
  · intro h q
    have := nd_len ks ord nd fun v hv => (t.iff v).mpr (q v hv)
    omega
  · intro h
    refine Nat.lt_of_not_le fun c => h fun v hv => (t.iff v).mp ?_
    refine Classical.byContradiction fun nv => ?_
    have := nd_len (v :: ord) ks (List.nodup_cons.mpr ⟨nv, t.nd⟩) fun u hu => (List.mem_cons.mp hu).elim (fun e => e ▸ hv) (t.sub u)
    rw [List.length_cons] at this
    omega
/-- the longest runs, told along a list -/
def bst (xs : List Int) : Int := xs.foldl max (-1) + 1
def lngs (N : Wd → List Wd) : List Wd → (Wd → Int) → Wd → Int
  | [], f => f
  | v :: vs, f => lngs N vs fun u => if u = v then bst ((N v).map f) else f u
theorem lngs_keep (N : Wd → List Wd) : ∀ (vs : List Wd) (f : Wd → Int) (u : Wd), u ∉ vs → lngs N vs f u = f u
  | [], _, _, _ => rfl
  | v :: vs, f, u, h => by
    rw [lngs, lngs_keep N vs _ u fun z => h (List.mem_cons_of_mem _ z)]
    rw [if_neg fun e => h (by rw [e]; exact List.mem_cons_self)]
theorem lngs_app (N : Wd → List Wd) : ∀ (a b : List Wd) (f : Wd → Int), lngs N (a ++ b) f = lngs N b (lngs N a f)
  | [], _, _ => rfl
  | v :: a, b, f => by rw [List.cons_append, lngs, lngs_app N a b, lngs]
theorem lngs_at {N : Wd → List Wd} {ks ord : List Wd} (t : Topo N ks ord) (f : Wd → Int) {v : Wd} (hv : v ∈ ord) : lngs N ord f v = bst ((N v).map (lngs N ord f)) := by
  obtain ⟨i, hi, e⟩ := List.getElem_of_mem hv
  have e' : ord[i]? = some v := by rw [← e]; exact List.getElem?_eq_getElem _
  have sp : ord = ord.take i ++ v :: ord.drop (i + 1) := by
    rw [← e, ← List.drop_eq_getElem_cons hi, List.take_append_drop]
  have nd := t.nd
  rw [sp] at nd
  have nd2 := List.nodup_append.mp nd
  have nv : v ∉ ord.drop (i + 1) := (List.nodup_cons.mp nd2.2.1).1
  have l1 : lngs N ord f v = bst ((N v).map (lngs N (ord.take i) f)) := by
    rw [sp, lngs_app, lngs, lngs_keep _ _ _ _ nv, if_pos rfl, ← sp]
  rw [l1]
  congr 1
  refine List.map_congr_left fun u hu => ?_
  have hu2 := t.pre i v e' u hu
  have nu : u ∉ v :: ord.drop (i + 1) := fun z => nd2.2.2 u hu2 u z rfl
  rw [sp, lngs_app, ← sp, lngs_keep _ _ _ _ nu]
theorem lngs_one {N : Wd → List Wd} {ks a b : List Wd} (ta : Topo N ks a) (tb : Topo N ks b) (f g : Wd → Int) {v : Wd} (h : Gd N ks v) : lngs N a f v = lngs N b g v := by
  induction h with
  | mk hv hu ih =>
    rw [lngs_at ta f ((ta.iff _).mpr (.mk hv hu)), lngs_at tb g ((tb.iff _).mpr (.mk hv hu))]
    congr 1
    exact List.map_congr_left fun u hu => ih u hu
theorem fold_ge : ∀ (xs : List Int) (m : Int), m ≤ xs.foldl max m
  | [], _ => Int.le_refl _
  | x :: xs, m => Int.le_trans (Int.le_max_left m x) (fold_ge xs _)
theorem bst_pos (xs : List Int) : 0 ≤ bst xs := by unfold bst; have := fold_ge xs (-1); omega
theorem fold_succ : ∀ (xs : List Int) (m : Int), (xs.map (· + 1)).foldl max (m + 1) = xs.foldl max m + 1
  | [], _ => rfl
  | x :: xs, m => by
    rw [List.map_cons, List.foldl_cons, List.foldl_cons, ← fold_succ xs (max m x)]
    congr 1
    omega
theorem bst_cons (x : Int) (xs : List Int) (h : 0 ≤ x) : (xs.map (· + 1)).foldl max (x + 1) = bst (x :: xs) := by
  rw [fold_succ]
  unfold bst
  rw [List.foldl_cons, show max (-1) x = x by omega]
theorem fold_mem : ∀ (xs : List Int) (m : Int), xs.foldl max m ∈ m :: xs ∧ ∀ y ∈ m :: xs, y ≤ xs.foldl max m
  | [], m => by simp
  | x :: xs, m => by
    obtain ⟨h1, h2⟩ := fold_mem xs (max m x)
    rw [List.foldl_cons]
    constructor
    · rcases List.mem_cons.mp h1 with e | e
      · rw [e]
        rcases Int.le_total m x with c | c
        · rw [show max m x = x by omega]; simp
        · rw [show max m x = m by omega]; simp
      · exact List.mem_cons_of_mem _ (List.mem_cons_of_mem _ e)
    · intro y hy
      have h3 := h2 _ List.mem_cons_self
      rcases List.mem_cons.mp hy with rfl | hy
      · omega
      · rcases List.mem_cons.mp hy with rfl | hy
        · omega
        · exact h2 _ (List.mem_cons_of_mem _ hy)
/-! the ready ones and the done ones -/
theorem filt_one {p : Wd → Bool} {x : Wd} : ∀ {xs : List Wd}, xs.Nodup → x ∈ xs → p x = true → (xs.filter fun u => p u && !decide (u = x)).length + 1 = (xs.filter p).length
  | [], _, h, _ => absurd h List.not_mem_nil
  | y :: ys, nd, h, hp => by
    rw [List.nodup_cons] at nd
    by_cases c : y = x
    · subst c
      have e : (ys.filter fun u => p u && !decide (u = y)) = ys.filter p := List.filter_congr fun u hu => by
        have ne : u ≠ y := fun z => nd.1 (z ▸ hu)
        simp [ne]
      rw [List.filter_cons, List.filter_cons, hp, if_pos rfl, e]
      simp
    · have hx : x ∈ ys := (List.mem_cons.mp h).elim (fun z => absurd z.symm c) id
      have ih := filt_one nd.2 hx hp
      rw [List.filter_cons, List.filter_cons]
      have e : (p y && !decide (y = x)) = p y := by simp [c]
      rw [e]
      cases p y with
      | true => simp only [if_true, List.length_cons]; omega
      | false => simpa using ih
theorem nd_filter {p : Wd → Bool} {xs : List Wd} (h : xs.Nodup) : (xs.filter p).Nodup := List.Pairwise.filter _ h
structure Kahn (N : Wd → List Wd) (ks : List Wd) (c : Wd → Int) (rd dn : List Wd) : Prop where
  nd : (rd ++ dn).Nodup
  sub : ∀ v ∈ rd ++ dn, v ∈ ks
  cnt : ∀ v ∈ ks, c v = (((N v).filter fun u => !decide (u ∈ dn)).length : Nat)
  zero : ∀ v ∈ ks, c v = 0 → v ∈ rd ++ dn
  rz : ∀ v ∈ rd, c v = 0
  pre : ∀ (i : Nat) (v : Wd), dn[i]? = some v → ∀ u ∈ N v, u ∈ dn.take i
theorem Kahn.start {N : Wd → List Wd} {ks : List Wd} (nd : ks.Nodup) : Kahn N ks (fun v => ((N v).length : Nat)) (ks.filter fun v => decide (((N v).length : Int) = 0)) [] where
  nd := by rw [List.append_nil]; exact nd_filter nd
  sub := fun v hv => by rw [List.append_nil] at hv; exact (List.mem_filter.mp hv).1
  cnt := fun v _ => by
    have e : ((N v).filter fun u => !decide (u ∈ ([] : List Wd))) = N v := List.filter_eq_self.mpr fun u _ => by simp
    rw [e]
  zero := fun v hv e => by rw [List.append_nil]; exact List.mem_filter.mpr ⟨hv, decide_eq_true e⟩
  rz := fun v hv => of_decide_eq_true (List.mem_filter.mp hv).2
  pre := fun i v e => by simp at e
theorem Kahn.all_done {N : Wd → List Wd} {ks : List Wd} {c : Wd → Int} {rd dn : List Wd} (k : Kahn N ks c rd dn) {v : Wd} (hv : v ∈ ks) (z : c v = 0) : ∀ u ∈ N v, u ∈ dn := fun u hu => by
  have e := k.cnt v hv
  rw [z] at e
  have e2 : ((N v).filter fun u => !decide (u ∈ dn)) = [] := List.eq_nil_of_length_eq_zero (by omega)
  have q := List.filter_eq_nil_iff.mp e2 u hu
  simpa using q
theorem Kahn.done_zero {N : Wd → List Wd} {ks : List Wd} {c : Wd → Int} {rd dn : List Wd} (k : Kahn N ks c rd dn) {v : Wd} (hv : v ∈ dn) : c v = 0 := by
  obtain ⟨i, hi, e⟩ := List.getElem_of_mem hv
  have p := k.pre i v (by rw [← e]; exact List.getElem?_eq_getElem _)
  rw [k.cnt v (k.sub v (List.mem_append_right _ hv))]
  have e2 : ((N v).filter fun u => !decide (u ∈ dn)) = [] := List.filter_eq_nil_iff.mpr fun u hu => by
    have := List.mem_of_mem_take (p u hu)
    simpa using this
  rw [e2]; rfl
theorem Kahn.next {N : Wd → List Wd} {ks : List Wd} {c : Wd → Int} {rd0 dn : List Wd} {last : Wd} (nN : ∀ v ∈ ks, (N v).Nodup) (ndk : ks.Nodup) (k : Kahn N ks c (rd0 ++ [last]) dn) :
    Kahn N ks (fun v => c v - if v ∈ ks.filter (fun v => decide (last ∈ N v)) then 1 else 0) (rd0 ++ (ks.filter fun v => decide (last ∈ N v)).filter fun v => decide (c v = 1)) (dn ++ [last]) := by
  have lr : last ∈ rd0 ++ [last] := List.mem_append_right _ List.mem_cons_self
  have nd1 := List.nodup_append.mp k.nd
  have lk : last ∈ ks := k.sub last (List.mem_append_left _ lr)
  have ldn : last ∉ dn := fun z => nd1.2.2 last lr last z rfl
  have cl : c last = 0 := k.rz last lr
  -- a word before the last has a count above 0
  have pos : ∀ v ∈ ks, last ∈ N v → 1 ≤ c v := fun v hv hl => by
    rw [k.cnt v hv]
    have : last ∈ (N v).filter fun u => !decide (u ∈ dn) := List.mem_filter.mpr ⟨hl, by simpa using ldn⟩
    have := List.length_pos_of_mem this
    omega
  have mA : ∀ v, v ∈ ks.filter (fun v => decide (last ∈ N v)) ↔ v ∈ ks ∧ last ∈ N v := fun v => by rw [List.mem_filter, decide_eq_true_eq]
  have newc : ∀ v ∈ ks, (c v - if v ∈ ks.filter (fun v => decide (last ∈ N v)) then 1 else 0) = (((N v).filter fun u => !decide (u ∈ dn ++ [last])).length : Nat) := fun v hv => by
    by_cases hl : last ∈ N v
    · rw [if_pos ((mA v).mpr ⟨hv, hl⟩), k.cnt v hv]
      have q := filt_one (p := fun u => !decide (u ∈ dn)) (nN v hv) hl (by simpa using ldn)
      have e : ((N v).filter fun u => !decide (u ∈ dn ++ [last])) = (N v).filter fun u => (!decide (u ∈ dn)) && !decide (u = last) := List.filter_congr fun u _ => by
        simp only [List.mem_append, List.mem_singleton, Bool.decide_or, Bool.not_or]
      rw [e]
      omega
    · rw [if_neg (fun z => hl ((mA v).mp z).2), k.cnt v hv]
      have e : ((N v).filter fun u => !decide (u ∈ dn ++ [last])) = (N v).filter fun u => !decide (u ∈ dn) := List.filter_congr fun u hu => by
        have ne : u ≠ last := fun z => hl (z ▸ hu)
        simp [ne]
      rw [e, Int.sub_zero]
  have nd0 := List.nodup_append.mp nd1.1
  have mN : ∀ v, v ∈ (ks.filter fun v => decide (last ∈ N v)).filter (fun v => decide (c v = 1)) ↔ (v ∈ ks ∧ last ∈ N v) ∧ c v = 1 := fun v => by rw [List.mem_filter, mA, decide_eq_true_eq]
  refine ⟨?_, fun v hv => ?_, newc, fun v hv z => ?_, fun v hv => ?_, fun i v e u hu => ?_⟩
  · refine List.nodup_append.mpr ⟨List.nodup_append.mpr ⟨nd0.1, nd_filter (nd_filter ndk), fun a ha b hb e => ?_⟩, List.nodup_append.mpr ⟨nd1.2.1, by simp, fun a ha b hb e => ?_⟩, fun a ha b hb e => ?_⟩
    · subst e
      have h0 := k.rz a (List.mem_append_left _ ha)
      have h1 := ((mN a).mp hb).2
      omega
    · rw [List.mem_singleton.mp hb] at e
      exact ldn (e ▸ ha)
    · subst e
      rcases List.mem_append.mp hb with hb | hb
      · rcases List.mem_append.mp ha with ha | ha
        · exact nd1.2.2 a (List.mem_append_left _ ha) a hb rfl
        · have h1 := ((mN a).mp ha).2
          have h0 := k.done_zero hb
          omega
      · rw [List.mem_singleton.mp hb] at ha
        rcases List.mem_append.mp ha with ha | ha
        · exact nd0.2.2 last ha last List.mem_cons_self rfl
        · have h1 := ((mN last).mp ha).2
          omega
  · rcases List.mem_append.mp hv with hv | hv
    · rcases List.mem_append.mp hv with hv | hv
      · exact k.sub v (List.mem_append_left _ (List.mem_append_left _ hv))
      · exact ((mN v).mp hv).1.1
    · rcases List.mem_append.mp hv with hv | hv
      · exact k.sub v (List.mem_append_right _ hv)
      · rw [List.mem_singleton.mp hv]; exact lk
  · by_cases ha : v ∈ ks.filter (fun v => decide (last ∈ N v))
    · rw [if_pos ha] at z
      exact List.mem_append_left _ (List.mem_append_right _ ((mN v).mpr ⟨(mA v).mp ha, by omega⟩))
    · rw [if_neg ha] at z
      have q := k.zero v hv (by omega)
      rcases List.mem_append.mp q with q | q
      · rcases List.mem_append.mp q with q | q
        · exact List.mem_append_left _ (List.mem_append_left _ q)
        · exact List.mem_append_right _ (List.mem_append_right _ q)
      · exact List.mem_append_right _ (List.mem_append_left _ q)
  · rcases List.mem_append.mp hv with hv | hv
    · have h0 := k.rz v (List.mem_append_left _ hv)
      have vk := k.sub v (List.mem_append_left _ (List.mem_append_left _ hv))
      have na : v ∉ ks.filter (fun v => decide (last ∈ N v)) := fun z => by
        have := pos v vk ((mA v).mp z).2
        omega
      rw [if_neg na]; omega
    · have q := (mN v).mp hv
      rw [if_pos ((mA v).mpr q.1)]; omega
  · by_cases c : i < dn.length
    · rw [List.getElem?_append_left c] at e
      rw [List.take_append_of_le_length (by omega)]
      exact k.pre i v e u hu
    · have hi := (List.getElem?_eq_some_iff.mp e).1
      rw [List.length_append, List.length_cons, List.length_nil] at hi
      have ei : i = dn.length := by omega
      subst ei
      rw [List.getElem?_append_right (Nat.le_refl _), Nat.sub_self] at e
      have ev : last = v := by simpa using e
      subst ev
      rw [List.take_append_of_le_length (Nat.le_refl _), List.take_length]
      exact k.all_done lk cl u hu
theorem Kahn.topo {N : Wd → List Wd} {ks : List Wd} {c : Wd → Int} {dn : List Wd} (k : Kahn N ks c [] dn) : Topo N ks dn where
  nd := k.nd
  sub := k.sub
  pre := k.pre
  all := fun v hv h => k.zero v hv (by
    rw [k.cnt v hv]
    have e2 : ((N v).filter fun u => !decide (u ∈ dn)) = [] := List.filter_eq_nil_iff.mpr fun u hu => by
      have := h u hu
      simpa using this
    rw [e2]; rfl)
/-! the law's layers: what is found, what is left -/
structure Lay (N : Wd → List Wd) (ks F L : List Wd) : Prop where
  nd : (F ++ L).Nodup
  mem : ∀ v, v ∈ F ++ L ↔ v ∈ ks
  pre : ∀ (i : Nat) (v : Wd), F[i]? = some v → ∀ u ∈ N v, u ∈ F.take i
def calmB (N : Wd → List Wd) (L : List Wd) (v : Wd) : Bool := ((N v).filter fun u => decide (u ∈ L)).isEmpty
theorem Lay.next {N : Wd → List Wd} {ks F L : List Wd} (cl : ∀ v ∈ ks, ∀ u ∈ N v, u ∈ ks) (k : Lay N ks F L) : Lay N ks (F ++ L.filter (calmB N L)) (L.filter fun v => !decide (v ∈ L.filter (calmB N L))) := by
  have nd1 := List.nodup_append.mp k.nd
  refine ⟨?_, fun v => ?_, fun i v e u hu => ?_⟩
  · refine List.nodup_append.mpr ⟨List.nodup_append.mpr ⟨nd1.1, nd_filter nd1.2.1, fun a ha b hb => nd1.2.2 a ha b (List.mem_filter.mp hb).1⟩, nd_filter nd1.2.1, fun a ha b hb e => ?_⟩
    subst e
    have h2 := List.mem_filter.mp hb
    rcases List.mem_append.mp ha with ha | ha
    · exact nd1.2.2 a ha a h2.1 rfl
    · have := h2.2
      rw [decide_eq_true ha] at this
      cases this
  · rw [← k.mem v]
    simp only [List.mem_append, List.mem_filter]
    by_cases c : calmB N L v = true
    · simp [c]
    · simp [c]
  · have key : v ∈ F ++ L.filter (calmB N L) := List.mem_of_getElem? e
    by_cases c : i < F.length
    · rw [List.getElem?_append_left c] at e
      rw [List.take_append_of_le_length (by omega)]
      exact k.pre i v e u hu
    · rw [List.getElem?_append_right (by omega)] at e
      have hv := List.mem_filter.mp (List.mem_of_getElem? e)
      have vk := (k.mem v).mp (List.mem_append_right _ hv.1)
      have uk := (k.mem u).mpr (cl v vk u hu)
      have nl : u ∉ L := fun z => by
        have := List.isEmpty_iff.mp hv.2
        have := List.filter_eq_nil_iff.mp this u hu
        simp [z] at this
      have uF : u ∈ F := (List.mem_append.mp uk).elim id fun z => absurd z nl
      rw [List.take_append]
      refine List.mem_append_left _ ?_
      rw [List.take_of_length_le (by omega)]
      exact uF
theorem Lay.topo {N : Wd → List Wd} {ks F : List Wd} (k : Lay N ks F []) : Topo N ks F where
  nd := by have := k.nd; rwa [List.append_nil] at this
  sub := fun v hv => (k.mem v).mp (List.mem_append_left _ hv)
  pre := k.pre
  all := fun v hv _ => by have := (k.mem v).mpr hv; rwa [List.append_nil] at this
theorem Lay.stuck {N : Wd → List Wd} {ks F L : List Wd} (k : Lay N ks F L) (ne : L ≠ []) (e : L.filter (calmB N L) = []) : ¬ ∀ v ∈ ks, Gd N ks v := fun h => by
  have bad : ∀ v, Gd N ks v → v ∉ L := fun v hv => by
    induction hv with
    | @mk v hv _ ih =>
      intro z
      have q := List.filter_eq_nil_iff.mp e v z
      refine q (List.isEmpty_iff.mpr (List.filter_eq_nil_iff.mpr fun u hu => ?_))
      have := ih u hu
      simpa using this
  cases L with
  | nil => exact ne rfl
  | cons v L => exact bad v (h v ((k.mem v).mp (List.mem_append_right _ List.mem_cons_self))) List.mem_cons_self
end DL
set_option Elab.async false
set_option linter.all false
set_option maxRecDepth 100000
set_option maxHeartbeats 4000000
namespace DL
open PySem PySem.Spec PyProof.Rows L2
open PySem.W (Frag)
open SB (Rule Book)
/-! ### in an order: each behind all its next words -/
theorem cLoopD_inv {n0 : Nat} {tgt : Tgt} {εk εv : DE} {chk : DH → Prop} {env0 : Env} {Qd : DH → Prop} (xs : List D) (I : Nat → DH → Prop)
    (step : ∀ (i : Nat) (x : D) (h : DH) (K : DH → Prop), xs[i]? = some x → I i h → (∀ h', I (i + 1) h' → K h') → chk h ∧ ∃ env2, tgt x env0 = some env2 ∧ εk EF env2 h fun y h3 => εv EF env2 h3 fun z h4 =>
      ∃ kvs ep, h4[n0]? = some (.dct kvs ep) ∧ KeyOk y ∧ kvs.length ≤ 1000000 ∧ ∀ ep', K (h4.set n0 (.dct (dput kvs y z) ep')))
    (fin : ∀ h, I xs.length h → chk h ∧ Qd h) {h : DH} (h0 : I 0 h) : cLoopD n0 tgt εk εv chk env0 Qd xs h := by
  have key : ∀ (ys : List D) (k : Nat), ys = xs.drop k → k ≤ xs.length → ∀ h, I k h → cLoopD n0 tgt εk εv chk env0 Qd ys h := by
    intro ys
    induction ys with
    | nil =>
      intro k e hk h hi
      have hl : xs.length ≤ k := List.drop_eq_nil_iff.mp e.symm
      have ek : k = xs.length := by omega
      exact fin h (ek ▸ hi)
    | cons y ys ih =>
      intro k e hk h hi
      have hlt : k < xs.length := by
        have := congrArg List.length e
        rw [List.length_cons, List.length_drop] at this
        omega
      rw [List.drop_eq_getElem_cons hlt] at e
      injection e with e1 e2
      exact step k y h _ (by rw [List.getElem?_eq_getElem hlt, e1]) hi fun h' hi' => ih (k + 1) e2 hlt h' hi'
  exact key xs 0 rfl (Nat.zero_le _) h h0
theorem dput_old (f : List Int → D) {ks : List (List Int)} {v : List Int} {y : D} (h : v ∈ ks) : dput (grD f ks) (wD v) y = grD (fun u => if u = v then y else f u) ks := by
  unfold dput
  rw [dlook_map, if_pos h, if_pos (show (some (f v)).isSome = true from rfl), List.map_map]
  refine List.map_congr_left fun u _ => ?_
  show (if nk (wD u) = nk (wD v) then (wD u, y) else (wD u, f u)) = (wD u, if u = v then y else f u)
  by_cases c : u = v
  · subst c; rw [if_pos rfl, if_pos rfl]
  · rw [if_neg c, if_neg fun z => c (nkI_inj (Option.some.inj (by rw [nk_w, nk_w] at z; exact z)))]
theorem take_next {ks : List Wd} {i : Nat} {v : Wd} (e : ks[i]? = some v) : ks.take (i + 1) = ks.take i ++ [v] := by rw [List.take_add_one, e]; rfl
theorem not_in_take {ks : List Wd} (nd : ks.Nodup) {i : Nat} {v : Wd} (e : ks[i]? = some v) : v ∉ ks.take i := fun h => by
  obtain ⟨hi, e1⟩ := List.getElem?_eq_some_iff.mp e
  obtain ⟨j, hj, ej⟩ := List.getElem_of_mem h
  rw [List.length_take] at hj
  rw [List.getElem_take, ← e1] at ej
  have := nodup_inj nd (by omega) hi ej
  omega
theorem idx_at {ks : List Wd} (nd : ks.Nodup) {i : Nat} {v : Wd} (e : ks[i]? = some v) : ks.idxOf v = i := by
  obtain ⟨hi, e1⟩ := List.getElem?_eq_some_iff.mp e
  rw [← e1]
  exact nd.idxOf_getElem i hi
theorem idx_lt {ks : List Wd} {v : Wd} (h : v ∈ ks) : ks.idxOf v < ks.length := List.idxOf_lt_length_iff.mpr h
theorem idx_inj {ks : List Wd} {u v : Wd} (hu : u ∈ ks) (hv : v ∈ ks) (e : ks.idxOf u = ks.idxOf v) : u = v := by
  have h1 := List.getElem_idxOf (idx_lt hu)
  have h2 := List.getElem_idxOf (idx_lt hv)
  have h3 : ks[ks.idxOf u]'(idx_lt hu) = ks[ks.idxOf v]'(idx_lt hv) := by congr 1
  rw [← h1, ← h2, h3]
abbrev gN (N : Wd → List Wd) (ks : List Wd) : List (D × D) := grD (fun v => .tup ((N v).map wD)) ks
abbrev gI (c : Wd → Int) (ks : List Wd) : List (D × D) := grD (fun v => .int (c v)) ks
abbrev gR (b : Nat) (ks all : List Wd) : List (D × D) := grD (fun v => .ref (b + all.idxOf v)) ks
section
variable {h : DH} {n ep : Nat} {N : Wd → List Wd} {ks : List Wd}
/-- how many next words each has -/
theorem dc_len {Qd : DH → Prop} (hn : h[n]? = some (.dct (gN N ks) ep)) (nd : ks.Nodup) (few : ks.length ≤ 1000) (fin : ∀ ep', Qd (h ++ [.dct (gI (fun v => ((N v).length : Nat)) ks) ep'])) :
    cLoopD h.length (tgTup 2 (tgsCons (tgVar 5) (tgsCons (tgVar 6) tgsNil))) (eVar 5) (eCB cLenA (aCons (eVar 6) aNil)) (fun h => h[n]? = some (.dct (gN N ks) ep))
      (wipeD [some (.ref n), none, none, none, none, none, none, none, none] [5, 6]) Qd ((gN N ks).map fun p => .tup [p.1, p.2]) (h ++ [.dct [] 0]) := by
  have ln := (List.getElem?_eq_some_iff.mp hn).1
  refine cLoopD_inv _ (fun i h' => ∃ e, h' = h ++ [.dct (gI (fun v => ((N v).length : Nat)) (ks.take i)) e]) (fun i x h1 K hx hi hK => ?_) (fun h1 hi => ?_) ⟨0, rfl⟩
  · obtain ⟨e, rfl⟩ := hi
    rw [List.getElem?_map, List.getElem?_map] at hx
    obtain ⟨v, hv, rfl⟩ : ∃ v, ks[i]? = some v ∧ D.tup [wD v, .tup ((N v).map wD)] = x := by
      cases hv : ks[i]? with
      | none => rw [hv] at hx; cases hx
      | some v => rw [hv] at hx; exact ⟨v, rfl, Option.some.inj hx⟩
    refine ⟨by rw [List.getElem?_append_left ln]; exact hn, _, rfl, ?_⟩
    simp only [dSeq, dIf, dExpr, dRet, dRetN, dNext, dAsg, dNever, eVar, eC, eTup, eLst, aCons, aNil, eOp, eCB, eMt, eCall, eIf, eNotT, eAnd, eOr, eTru, eTst, eNot, eAndV, eOrV, eNeg, eIsi, eChain, gVar, gTupD, gsCons, gsNil, ↓reduceIte, Bool.false_eq_true, Bool.not_true, Bool.not_false, i_tru, i_len, decide_true, decide_false, List.length_map, yes, dFor, dPar, dPar3, eLRg, eSl, oNone, oSome, eDnew, eRev, eSortedKeys, eListKeys, wipeD, tgVar, gSto, eLc, iRng1D, iRng2D, iSeq, eLc2, i_add, i_sub, i_gt, i_le, i_lt, i_ge, i_eq, i_ne, i_int, i_mod, i_fdv, i_mul, i_pow, start1, start2, start3, List.replicate, List.getElem?_cons_zero, List.getElem?_cons_succ, Option.some.injEq, exists_eq_left', List.set, Nat.reduceAdd, List.length_cons, List.length_nil, List.cons.injEq, and_true, true_and, exists_eq_left, exists_and_left, D.tup.injEq, D.int.injEq, D.bl.injEq]
    refine ⟨_, e, at_end, keyOk_w v, by rw [List.length_map, List.length_take]; omega, fun e' => hK _ ⟨e', ?_⟩⟩
    rw [set_end, take_next hv]
    have := dput_new (fun v => .int ((N v).length : Nat)) (not_in_take nd hv)
    rw [this]
  · obtain ⟨e, rfl⟩ := hi
    refine ⟨by rw [List.getElem?_append_left ln]; exact hn, ?_⟩
    rw [List.length_map, List.length_map, List.take_length]
    exact fin e
/-- a list for each -/
theorem dc_lst {n1 : Nat} {Qd : DH → Prop} (hn : h[n]? = some (.dct (gN N ks) ep)) (nd : ks.Nodup) (few : ks.length ≤ 1000) (fin : ∀ ep', Qd (h ++ [.dct (gR (h.length + 1) ks ks) ep'] ++ List.replicate ks.length (.lst []))) :
    cLoopD h.length (tgVar 5) (eVar 5) (eLst aNil) (fun h => h[n]? = some (.dct (gN N ks) ep))
      (wipeD [some (.ref n), some (.ref n1), none, none, none, none, none, none, none] [5]) Qd ((gN N ks).map (·.1)) (h ++ [.dct [] 0]) := by
  have ln := (List.getElem?_eq_some_iff.mp hn).1
  refine cLoopD_inv _ (fun i h' => ∃ e, h' = h ++ [.dct (gR (h.length + 1) (ks.take i) ks) e] ++ List.replicate i (.lst [])) (fun i x h1 K hx hi hK => ?_) (fun h1 hi => ?_) ⟨0, by simp⟩
  · obtain ⟨e, rfl⟩ := hi
    rw [List.getElem?_map, List.getElem?_map] at hx
    obtain ⟨v, hv, rfl⟩ : ∃ v, ks[i]? = some v ∧ wD v = x := by
      cases hv : ks[i]? with
      | none => rw [hv] at hx; cases hx
      | some v => rw [hv] at hx; exact ⟨v, rfl, Option.some.inj hx⟩
    refine ⟨by rw [List.append_assoc, List.getElem?_append_left ln]; exact hn, _, rfl, ?_⟩
    simp only [dSeq, dIf, dExpr, dRet, dRetN, dNext, dAsg, dNever, eVar, eC, eTup, eLst, aCons, aNil, eOp, eCB, eMt, eCall, eIf, eNotT, eAnd, eOr, eTru, eTst, eNot, eAndV, eOrV, eNeg, eIsi, eChain, gVar, gTupD, gsCons, gsNil, ↓reduceIte, Bool.false_eq_true, Bool.not_true, Bool.not_false, i_tru, i_len, decide_true, decide_false, List.length_map, yes, dFor, dPar, dPar3, eLRg, eSl, oNone, oSome, eDnew, eRev, eSortedKeys, eListKeys, wipeD, tgVar, gSto, eLc, iRng1D, iRng2D, iSeq, eLc2, i_add, i_sub, i_gt, i_le, i_lt, i_ge, i_eq, i_ne, i_int, i_mod, i_fdv, i_mul, i_pow, start1, start2, start3, List.replicate, List.getElem?_cons_zero, List.getElem?_cons_succ, Option.some.injEq, exists_eq_left', List.set, Nat.reduceAdd, List.length_cons, List.length_nil, List.cons.injEq, and_true, true_and, exists_eq_left, exists_and_left, D.tup.injEq, D.int.injEq, D.bl.injEq]
    refine ⟨by decide, gR (h.length + 1) (ks.take i) ks, e, ?_, keyOk_w v, by rw [List.length_map, List.length_take]; omega, fun e' => hK _ ⟨e', ?_⟩⟩
    · rw [List.append_assoc, List.append_assoc, List.getElem?_append_right (Nat.le_refl _), Nat.sub_self]; rfl
    · have el : (h ++ [DO.dct (gR (h.length + 1) (ks.take i) ks) e] ++ List.replicate i (DO.lst [])).length = h.length + 1 + ks.idxOf v := by
        rw [idx_at nd hv]; simp; omega
      rw [el]
      have := dput_new (fun v => .ref (h.length + 1 + ks.idxOf v)) (not_in_take nd hv)
      rw [this, take_next hv, List.replicate_succ', List.append_assoc, List.append_assoc, List.append_assoc, List.set_append_right _ _ (Nat.le_refl _), Nat.sub_self]
      rfl
  · obtain ⟨e, rfl⟩ := hi
    refine ⟨by rw [List.append_assoc, List.getElem?_append_left ln]; exact hn, ?_⟩
    rw [List.length_map, List.length_map, List.take_length]
    exact fin e
end
/-- what stands while it is unwound -/
structure Un (h h' : DH) (ks : List Wd) (c : Wd → Int) (A : Wd → List Wd) : Prop where
  keep : ∀ k, k < h.length → h'[k]? = h[k]?
  w : ∃ ep, h'[h.length]? = some (.dct (gI c ks) ep)
  a : ∃ ep, h'[h.length + 1]? = some (.dct (gR (h.length + 2) ks ks) ep)
  l : ∀ v ∈ ks, h'[h.length + 2 + ks.idxOf v]? = some (.lst ((A v).map wD))
  len : h.length + 2 + ks.length ≤ h'.length
section
variable {h h' : DH} {ks : List Wd} {c : Wd → Int} {A : Wd → List Wd}
theorem Un.far (u : Un h h' ks c A) {h2 : DH} (f : ∀ k, k < h.length + 2 + ks.length → h2[k]? = h'[k]?) (l : h'.length ≤ h2.length) : Un h h2 ks c A := by
  refine ⟨fun k hk => (f k (by omega)).trans (u.keep k hk), ?_, ?_, fun v hv => ?_, Nat.le_trans u.len l⟩
  · rw [f _ (by omega)]; exact u.w
  · cases ks with
    | nil => rw [show h2[h.length + 1]? = h'[h.length + 1]? from f _ (by simp)]; exact u.a
    | cons v vs => rw [f _ (by omega)]; exact u.a
  · have := idx_lt hv
    rw [f _ (by omega)]; exact u.l v hv
theorem Un.push (u : Un h h' ks c A) {o : DO} : Un h (h' ++ [o]) ks c A := u.far (fun k hk => by have := u.len; rw [List.getElem?_append_left (by omega)]) (by rw [List.length_append]; omega)
theorem Un.put (u : Un h h' ks c A) {k : Nat} {o : DO} (hk : h.length + 2 + ks.length ≤ k) : Un h (h'.set k o) ks c A := u.far (fun j hj => by rw [List.getElem?_set_ne (by omega)]) (by rw [List.length_set]; exact Nat.le_refl _)
theorem Un.setA (u : Un h h' ks c A) {v : Wd} (hv : v ∈ ks) {B : List Wd} : Un h (h'.set (h.length + 2 + ks.idxOf v) (.lst (B.map wD))) ks c (fun x => if x = v then B else A x) := by
  refine ⟨fun k hk => ?_, ?_, ?_, fun x hx => ?_, by rw [List.length_set]; exact u.len⟩
  · rw [List.getElem?_set_ne (by omega)]; exact u.keep k hk
  · rw [List.getElem?_set_ne (by omega)]; exact u.w
  · rw [List.getElem?_set_ne (by omega)]; exact u.a
  · by_cases e : x = v
    · subst e
      rw [if_pos rfl]
      exact get_set (u.l x hx)
    · rw [if_neg e, List.getElem?_set_ne (fun z => e (idx_inj hx hv (by omega)))]
      exact u.l x hx
theorem Un.setW (u : Un h h' ks c A) {c' : Wd → Int} {ep : Nat} : Un h (h'.set h.length (.dct (gI c' ks) ep)) ks c' A := by
  obtain ⟨e, hw⟩ := u.w
  refine ⟨fun k hk => ?_, ⟨ep, get_set hw⟩, ?_, fun x hx => ?_, by rw [List.length_set]; exact u.len⟩
  · rw [List.getElem?_set_ne (by omega)]; exact u.keep k hk
  · rw [List.getElem?_set_ne (by omega)]; exact u.a
  · rw [List.getElem?_set_ne (by omega)]; exact u.l x hx
theorem Un.eqA (u : Un h h' ks c A) {B : Wd → List Wd} (e : ∀ v ∈ ks, A v = B v) : Un h h' ks c B := ⟨u.keep, u.w, u.a, fun v hv => by rw [← e v hv]; exact u.l v hv, u.len⟩
theorem Un.eqC (u : Un h h' ks c A) {c' : Wd → Int} (e : ∀ v ∈ ks, c v = c' v) : Un h h' ks c' A := ⟨u.keep, by
  obtain ⟨ep, hw⟩ := u.w
  refine ⟨ep, hw.trans ?_⟩
  have : gI c ks = gI c' ks := List.map_congr_left fun v hv => by show (wD v, D.int (c v)) = (wD v, D.int (c' v)); rw [e v hv]
  rw [this], u.a, u.l, u.len⟩
end
end DL
set_option Elab.async false
set_option linter.all false
set_option maxRecDepth 100000
set_option maxHeartbeats 4000000
namespace DL
open PySem PySem.Spec PyProof.Rows L2
open PySem.W (Frag)
open SB (Rule Book)
/-- those ahead of a word -/
def bh (N : Wd → List Wd) (ks : List Wd) (v : Wd) : List Wd := ks.filter fun w => decide (v ∈ N w)
theorem bh_next {N : Wd → List Wd} {ks : List Wd} {i : Nat} {w v : Wd} (e : ks[i]? = some w) : bh N (ks.take (i + 1)) v = bh N (ks.take i) v ++ if v ∈ N w then [w] else [] := by
  unfold bh
  rw [take_next e, List.filter_append]
  by_cases c : v ∈ N w
  · simp [c]
  · simp [c]
theorem bh_len {N : Wd → List Wd} {ks : List Wd} {i : Nat} {v : Wd} : (bh N (ks.take i) v).length ≤ i := by
  refine Nat.le_trans (List.length_filter_le _ _) ?_
  rw [List.length_take]; omega
def spUnw : DSp := fun ds h Q _ => ∃ (N : Wd → List Wd) (ks : List Wd) (n ep : Nat), ds = [.ref n] ∧ h[n]? = some (.dct (gN N ks) ep) ∧ ks.Nodup ∧ ks.length ≤ 1000 ∧ (∀ v ∈ ks, (N v).Nodup ∧ ∀ u ∈ N v, u ∈ ks) ∧
  ∀ (h' : DH) (m : Nat) (dn : List Wd), h.length ≤ m → h.length ≤ h'.length → (∀ k, k < h.length → h'[k]? = h[k]?) → h'[m]? = some (.lst (dn.map wD)) → Topo N ks dn → Q (.ref m) h'
section
variable {h h' : DH} {n ep : Nat} {N : Wd → List Wd} {ks : List Wd} {c : Wd → Int}
/-- the word goes to each of its next words' list -/
theorem un_row {i : Nat} {w : Wd} {a7 : Option D} {K : DEnds} (e : ks[i]? = some w) (few : ks.length ≤ 1000) (nw : (N w).Nodup) (cw : ∀ u ∈ N w, u ∈ ks) (u : Un h h' ks c (bh N (ks.take i)))
    (q : ∀ (a7 : Option D) (h2 : DH), Un h h2 ks c (bh N (ks.take (i + 1))) → h2.length = h'.length → K.nx [some (.ref n), some (.ref h.length), some (.ref (h.length + 1)), none, none, some (wD w), some (.tup ((N w).map wD)), a7, none] h2) :
    dLoop (gVar 7) (dExpr (eMt "list" mAppend (eOp dIxA (eVar 2) (eVar 7)) (aCons (eVar 5) aNil))) K (fun _ => True) ((N w).map wD) [some (.ref n), some (.ref h.length), some (.ref (h.length + 1)), none, none, some (wD w), some (.tup ((N w).map wD)), a7, none] h' := by
  have hi := (List.getElem?_eq_some_iff.mp e).1
  refine dLoop_inv _ (fun j env h2 => ∃ a7, env = [some (.ref n), some (.ref h.length), some (.ref (h.length + 1)), none, none, some (wD w), some (.tup ((N w).map wD)), a7, none] ∧ h2.length = h'.length ∧
    Un h h2 ks c (fun v => bh N (ks.take i) v ++ if v ∈ (N w).take j then [w] else [])) (fun j x env h2 M hx hi2 hM => ?_) (fun env h2 hi2 => ?_) ⟨_, rfl, rfl, u.eqA fun v _ => by simp⟩
  · obtain ⟨b7, rfl, el, U⟩ := hi2
    rw [List.getElem?_map] at hx
    obtain ⟨f, hf, rfl⟩ := Option.map_eq_some_iff.mp hx
    have fk := cw f (List.mem_of_getElem? hf)
    refine ⟨trivial, ?_⟩
    simp only [dSeq, dIf, dExpr, dRet, dRetN, dNext, dAsg, dNever, eVar, eC, eTup, eLst, aCons, aNil, eOp, eCB, eMt, eCall, eIf, eNotT, eAnd, eOr, eTru, eTst, eNot, eAndV, eOrV, eNeg, eIsi, eChain, gVar, gTupD, gsCons, gsNil, ↓reduceIte, Bool.false_eq_true, Bool.not_true, Bool.not_false, i_tru, i_len, decide_true, decide_false, List.length_map, yes, dFor, dPar, dPar3, eLRg, eSl, oNone, oSome, eDnew, eRev, eSortedKeys, eListKeys, wipeD, tgVar, gSto, eLc, iRng1D, iRng2D, iSeq, eLc2, i_add, i_sub, i_gt, i_le, i_lt, i_ge, i_eq, i_ne, i_int, i_mod, i_fdv, i_mul, i_pow, start1, start2, start3, List.replicate, List.getElem?_cons_zero, List.getElem?_cons_succ, Option.some.injEq, exists_eq_left', List.set, Nat.reduceAdd, List.length_cons, List.length_nil, List.cons.injEq, and_true, true_and, exists_eq_left, exists_and_left, D.tup.injEq, D.int.injEq, D.bl.injEq]
    obtain ⟨ea, ha⟩ := U.a
    have lf := U.l f fk
    have nf := not_in_take nw hf
    rw [if_neg nf, List.append_nil] at lf
    refine ixA_dct ha (keyOk_w f) (dv := .ref (h.length + 2 + ks.idxOf f)) (by rw [dlook_map, if_pos fk]) ⟨⟨rfl, _, lst_of lf⟩, app_lst lf (by rw [List.length_map]; have := bh_len (N := N) (ks := ks) (i := i) (v := f); omega) (hM _ _ ⟨_, rfl, by rw [List.length_set]; exact el, ?_⟩)⟩
    have U2 := U.setA fk (B := bh N (ks.take i) f ++ [w])
    rw [List.map_append] at U2
    refine U2.eqA fun v hv => ?_
    have tn : (N w).take (j + 1) = (N w).take j ++ [f] := take_next hf
    by_cases ev : v = f
    · subst ev
      rw [if_pos rfl, if_pos (by rw [tn]; simp)]
    · rw [if_neg ev]
      congr 1
      rw [tn]
      have : (v ∈ (N w).take j ++ [f]) ↔ v ∈ (N w).take j := by simp [ev]
      simp only [this]
  · obtain ⟨b7, rfl, el, U⟩ := hi2
    refine ⟨trivial, q _ h2 (U.eqA fun v _ => ?_) el⟩
    rw [List.length_map, List.take_length, bh_next e]
end
end DL
set_option Elab.async false
set_option linter.all false
set_option maxRecDepth 100000
set_option maxHeartbeats 4000000
namespace DL
open PySem PySem.Spec PyProof.Rows L2
open PySem.W (Frag)
open SB (Rule Book)
section
variable {h h' : DH} {n ep : Nat} {N : Wd → List Wd} {ks : List Wd} {c : Wd → Int}
abbrev LL (h : DH) (ks : List Wd) : Nat := h.length + 2 + ks.length
def cj (c : Wd → Int) (xs : List Wd) (v : Wd) : Int := c v - if v ∈ xs then 1 else 0
theorem gI_put {c : Wd → Int} {ks : List Wd} {w : Wd} (hw : w ∈ ks) (a : Int) : dput (gI c ks) (wD w) (.int a) = gI (fun u => if u = w then a else c u) ks := by
  rw [dput_old _ hw]
  refine List.map_congr_left fun u _ => ?_
  by_cases e : u = w
  · simp only [if_pos e]
  · simp only [if_neg e]
theorem cj_next {c : Wd → Int} {xs : List Wd} {j : Nat} {w : Wd} (nd : xs.Nodup) (e : xs[j]? = some w) (v : Wd) : (if v = w then cj c (xs.take j) w - 1 else cj c (xs.take j) v) = cj c (xs.take (j + 1)) v := by
  have nw := not_in_take nd e
  have tn : xs.take (j + 1) = xs.take j ++ [w] := take_next e
  unfold cj
  by_cases ev : v = w
  · subst ev
    rw [if_pos rfl, if_neg nw, if_pos (by rw [tn]; simp)]; omega
  · rw [if_neg ev, tn]
    have : (v ∈ xs.take j ++ [w]) ↔ v ∈ xs.take j := by simp [ev]
    simp only [this]
/-- one less for each that is ahead -/
theorem un_turn {rd0 dn : List Wd} {last : Wd} {a5 a6 a7 : Option D} {K : DEnds} (nd : ks.Nodup) (few : ks.length ≤ 1000) (lr : rd0.length ≤ 1000) (lk : last ∈ ks) (u : Un h h' ks c (bh N ks)) (hr : h'[LL h ks]? = some (.lst (rd0.map wD))) (hd : h'[LL h ks + 1]? = some (.lst (dn.map wD)))
    (q : ∀ (a5 : Option D) (h2 : DH), Un h h2 ks (cj c (bh N ks last)) (bh N ks) → h2[LL h ks]? = some (.lst ((rd0 ++ (bh N ks last).filter fun v => decide (c v = 1)).map wD)) → h2[LL h ks + 1]? = some (.lst (dn.map wD)) →
      K.nx [some (.ref n), some (.ref h.length), some (.ref (h.length + 1)), some (.ref (LL h ks)), some (.ref (LL h ks + 1)), a5, a6, a7, some (wD last)] h2) :
    dLoop (gVar 5) (dSeq (dAugS (eVar 1) (eVar 5) (fun x y => x - y) (eC (.int 1))) (dIf (eTst (eOp dEq (eOp dIxA (eVar 1) (eVar 5)) (eC (.int 0)))) (dExpr (eMt "list" mAppend (eVar 3) (aCons (eVar 5) aNil))) dNext)) K
      (fun h2 => lstOf h2 (h.length + 2 + ks.idxOf last) = some ((bh N ks last).map wD)) ((bh N ks last).map wD) [some (.ref n), some (.ref h.length), some (.ref (h.length + 1)), some (.ref (LL h ks)), some (.ref (LL h ks + 1)), a5, a6, a7, some (wD last)] h' := by
  have nb : (bh N ks last).Nodup := nd_filter nd
  have lb : (bh N ks last).length ≤ 1000 := Nat.le_trans (List.length_filter_le _ _) few
  refine dLoop_inv _ (fun j env h2 => ∃ a5, env = [some (.ref n), some (.ref h.length), some (.ref (h.length + 1)), some (.ref (LL h ks)), some (.ref (LL h ks + 1)), a5, a6, a7, some (wD last)] ∧ Un h h2 ks (cj c ((bh N ks last).take j)) (bh N ks) ∧
    h2[LL h ks]? = some (.lst ((rd0 ++ ((bh N ks last).take j).filter fun v => decide (c v = 1)).map wD)) ∧ h2[LL h ks + 1]? = some (.lst (dn.map wD))) (fun j x env h2 M hx hi2 hM => ?_) (fun env h2 hi2 => ?_)
    ⟨_, rfl, u.eqC fun v _ => by simp [cj], by simpa using hr, hd⟩
  · obtain ⟨b5, rfl, U, hr2, hd2⟩ := hi2
    rw [List.getElem?_map] at hx
    obtain ⟨w, hw, rfl⟩ := Option.map_eq_some_iff.mp hx
    have wk : w ∈ ks := (List.mem_filter.mp (List.mem_of_getElem? hw)).1
    refine ⟨lst_of (U.l last lk), ?_⟩
    obtain ⟨ew, hww⟩ := U.w
    have eL : LL h ks = h.length + 2 + ks.length := rfl
    simp only [dSeq, dIf, dExpr, dRet, dRetN, dNext, dAsg, dNever, eVar, eC, eTup, eLst, aCons, aNil, eOp, eCB, eMt, eCall, eIf, eNotT, eAnd, eOr, eTru, eTst, eNot, eAndV, eOrV, eNeg, eIsi, eChain, gVar, gTupD, gsCons, gsNil, ↓reduceIte, Bool.false_eq_true, Bool.not_true, Bool.not_false, i_tru, i_len, decide_true, decide_false, List.length_map, yes, dFor, dPar, dPar3, eLRg, eSl, oNone, oSome, eDnew, eRev, eSortedKeys, eListKeys, wipeD, tgVar, gSto, eLc, iRng1D, iRng2D, iSeq, eLc2, i_add, i_sub, i_gt, i_le, i_lt, i_ge, i_eq, i_ne, i_int, i_mod, i_fdv, i_mul, i_pow, start1, start2, start3, List.replicate, List.getElem?_cons_zero, List.getElem?_cons_succ, Option.some.injEq, exists_eq_left', List.set, Nat.reduceAdd, List.length_cons, List.length_nil, List.cons.injEq, and_true, true_and, exists_eq_left, exists_and_left, D.tup.injEq, D.int.injEq, D.bl.injEq]
    simp only [dAugS]
    simp only [dSeq, dIf, dExpr, dRet, dRetN, dNext, dAsg, dNever, eVar, eC, eTup, eLst, aCons, aNil, eOp, eCB, eMt, eCall, eIf, eNotT, eAnd, eOr, eTru, eTst, eNot, eAndV, eOrV, eNeg, eIsi, eChain, gVar, gTupD, gsCons, gsNil, ↓reduceIte, Bool.false_eq_true, Bool.not_true, Bool.not_false, i_tru, i_len, decide_true, decide_false, List.length_map, yes, dFor, dPar, dPar3, eLRg, eSl, oNone, oSome, eDnew, eRev, eSortedKeys, eListKeys, wipeD, tgVar, gSto, eLc, iRng1D, iRng2D, iSeq, eLc2, i_add, i_sub, i_gt, i_le, i_lt, i_ge, i_eq, i_ne, i_int, i_mod, i_fdv, i_mul, i_pow, start1, start2, start3, List.replicate, List.getElem?_cons_zero, List.getElem?_cons_succ, Option.some.injEq, exists_eq_left', List.set, Nat.reduceAdd, List.length_cons, List.length_nil, List.cons.injEq, and_true, true_and, exists_eq_left, exists_and_left, D.tup.injEq, D.int.injEq, D.bl.injEq]
    refine ⟨_, ew, _, hww, keyOk_w w, by rw [dlook_map, if_pos wk], ?_⟩
    dsimp only [augD]
    refine setA_dct hww (keyOk_w w) (by rw [List.length_map]; omega) fun ep' => ?_
    rw [gI_put wk]
    have U2 := (U.setW (c' := fun u => if u = w then cj c ((bh N ks last).take j) w - 1 else cj c ((bh N ks last).take j) u) (ep := ep')).eqC fun v _ => cj_next nb hw v
    have g2 := get_set (o := .dct (gI (fun u => if u = w then cj c ((bh N ks last).take j) w - 1 else cj c ((bh N ks last).take j) u) ks) ep') hww
    have r2 : (h2.set h.length (.dct (gI (fun u => if u = w then cj c ((bh N ks last).take j) w - 1 else cj c ((bh N ks last).take j) u) ks) ep'))[LL h ks]? = some (.lst ((rd0 ++ ((bh N ks last).take j).filter fun v => decide (c v = 1)).map wD)) := (by rw [List.getElem?_set_ne (by omega)]; exact hr2)
    have d2 : (h2.set h.length (.dct (gI (fun u => if u = w then cj c ((bh N ks last).take j) w - 1 else cj c ((bh N ks last).take j) u) ks) ep'))[LL h ks + 1]? = some (.lst (dn.map wD)) := (by rw [List.getElem?_set_ne (by omega)]; exact hd2)
    generalize h2.set h.length (.dct (gI (fun u => if u = w then cj c ((bh N ks last).take j) w - 1 else cj c ((bh N ks last).take j) u) ks) ep') = h3 at U2 g2 r2 d2 ⊢
    refine ixA_dct g2 (keyOk_w w) (dv := .int (cj c ((bh N ks last).take j) w - 1)) (by rw [dlook_map, if_pos wk]; show some (D.int (if w = w then _ else _)) = _; rw [if_pos rfl]) ?_
    have e1 : cj c ((bh N ks last).take j) w = c w := by unfold cj; rw [if_neg (not_in_take nb hw)]; omega
    rw [e1]
    have tn : (bh N ks last).take (j + 1) = (bh N ks last).take j ++ [w] := take_next hw
    simp only [dSeq, dIf, dExpr, dRet, dRetN, dNext, dAsg, dNever, eVar, eC, eTup, eLst, aCons, aNil, eOp, eCB, eMt, eCall, eIf, eNotT, eAnd, eOr, eTru, eTst, eNot, eAndV, eOrV, eNeg, eIsi, eChain, gVar, gTupD, gsCons, gsNil, ↓reduceIte, Bool.false_eq_true, Bool.not_true, Bool.not_false, i_tru, i_len, decide_true, decide_false, List.length_map, yes, dFor, dPar, dPar3, eLRg, eSl, oNone, oSome, eDnew, eRev, eSortedKeys, eListKeys, wipeD, tgVar, gSto, eLc, iRng1D, iRng2D, iSeq, eLc2, i_add, i_sub, i_gt, i_le, i_lt, i_ge, i_eq, i_ne, i_int, i_mod, i_fdv, i_mul, i_pow, start1, start2, start3, List.replicate, List.getElem?_cons_zero, List.getElem?_cons_succ, Option.some.injEq, exists_eq_left', List.set, Nat.reduceAdd, List.length_cons, List.length_nil, List.cons.injEq, and_true, true_and, exists_eq_left, exists_and_left, D.tup.injEq, D.int.injEq, D.bl.injEq]
    by_cases z : c w - 1 = 0
    · rw [decide_eq_true z]
      refine iT ⟨⟨rfl, _, lst_of r2⟩, app_lst r2 ?_ (hM _ _ ⟨_, rfl, U2.put (Nat.le_refl _), ?_, ?_⟩)⟩
      · have := List.length_filter_le (fun v => decide (c v = 1)) ((bh N ks last).take j)
        rw [List.length_take] at this
        rw [List.length_map, List.length_append]; omega
      · rw [get_set r2, tn, List.filter_append]
        have : ([w].filter fun v => decide (c v = 1)) = [w] := by simp; omega
        rw [this, ← List.append_assoc, List.map_append (l₁ := _ ++ _)]; rfl
      · rw [List.getElem?_set_ne (by omega)]; exact d2
    · rw [decide_eq_false z]
      refine iF (hM _ _ ⟨_, rfl, U2, ?_, d2⟩)
      have : ([w].filter fun v => decide (c v = 1)) = [] := by simp; omega
      rw [r2, tn, List.filter_append, this, List.append_nil]
  · obtain ⟨b5, rfl, U, hr2, hd2⟩ := hi2
    rw [List.length_map, List.take_length] at U hr2
    exact ⟨lst_of (U.l last lk), q _ h2 U hr2 hd2⟩
/-- those without next words -/
theorem lc_ready {h1 : DH} {a5 a6 a7 : Option D} {Qd : DH → Prop} (few : ks.length ≤ 1000) (hn : h1[n]? = some (.dct (gN N ks) ep)) (u : Un h h1 ks c (bh N ks))
    (fin : Qd (h1 ++ [.lst ((ks.filter fun v => decide (c v = 0)).map wD)])) :
    cLoop h1.length (tgVar 5) (eTst (eOp dEq (eOp dIxA (eVar 1) (eVar 5)) (eC (.int 0)))) (eVar 5) (fun h => h[n]? = some (.dct (gN N ks) ep))
      (wipeD [some (.ref n), some (.ref h.length), some (.ref (h.length + 1)), none, none, a5, a6, a7, none] [5]) Qd ((gN N ks).map (·.1)) (h1 ++ [.lst []]) := by
  have ln := (List.getElem?_eq_some_iff.mp hn).1
  refine cLoop_inv _ (fun i h' => h' = h1 ++ [.lst (((ks.take i).filter fun v => decide (c v = 0)).map wD)]) (fun i x h2 K hx hi hK => ?_) (fun h2 hi => ?_) (by simp)
  · subst hi
    rw [List.getElem?_map, List.getElem?_map] at hx
    obtain ⟨v, hv, rfl⟩ : ∃ v, ks[i]? = some v ∧ wD v = x := by
      cases hv : ks[i]? with
      | none => rw [hv] at hx; cases hx
      | some v => rw [hv] at hx; exact ⟨v, rfl, Option.some.inj hx⟩
    have vk := List.mem_of_getElem? hv
    refine ⟨by rw [List.getElem?_append_left ln]; exact hn, _, rfl, ?_⟩
    simp only [dSeq, dIf, dExpr, dRet, dRetN, dNext, dAsg, dNever, eVar, eC, eTup, eLst, aCons, aNil, eOp, eCB, eMt, eCall, eIf, eNotT, eAnd, eOr, eTru, eTst, eNot, eAndV, eOrV, eNeg, eIsi, eChain, gVar, gTupD, gsCons, gsNil, ↓reduceIte, Bool.false_eq_true, Bool.not_true, Bool.not_false, i_tru, i_len, decide_true, decide_false, List.length_map, yes, dFor, dPar, dPar3, eLRg, eSl, oNone, oSome, eDnew, eRev, eSortedKeys, eListKeys, wipeD, tgVar, gSto, eLc, iRng1D, iRng2D, iSeq, eLc2, i_add, i_sub, i_gt, i_le, i_lt, i_ge, i_eq, i_ne, i_int, i_mod, i_fdv, i_mul, i_pow, start1, start2, start3, List.replicate, List.getElem?_cons_zero, List.getElem?_cons_succ, Option.some.injEq, exists_eq_left', List.set, Nat.reduceAdd, List.length_cons, List.length_nil, List.cons.injEq, and_true, true_and, exists_eq_left, exists_and_left, D.tup.injEq, D.int.injEq, D.bl.injEq]
    obtain ⟨ew, hw⟩ := (u.push (o := .lst (((ks.take i).filter fun v => decide (c v = 0)).map wD))).w
    refine ixA_dct hw (keyOk_w v) (dv := .int (c v)) (by rw [dlook_map, if_pos vk]) ?_
    simp only [dSeq, dIf, dExpr, dRet, dRetN, dNext, dAsg, dNever, eVar, eC, eTup, eLst, aCons, aNil, eOp, eCB, eMt, eCall, eIf, eNotT, eAnd, eOr, eTru, eTst, eNot, eAndV, eOrV, eNeg, eIsi, eChain, gVar, gTupD, gsCons, gsNil, ↓reduceIte, Bool.false_eq_true, Bool.not_true, Bool.not_false, i_tru, i_len, decide_true, decide_false, List.length_map, yes, dFor, dPar, dPar3, eLRg, eSl, oNone, oSome, eDnew, eRev, eSortedKeys, eListKeys, wipeD, tgVar, gSto, eLc, iRng1D, iRng2D, iSeq, eLc2, i_add, i_sub, i_gt, i_le, i_lt, i_ge, i_eq, i_ne, i_int, i_mod, i_fdv, i_mul, i_pow, start1, start2, start3, List.replicate, List.getElem?_cons_zero, List.getElem?_cons_succ, Option.some.injEq, exists_eq_left', List.set, Nat.reduceAdd, List.length_cons, List.length_nil, List.cons.injEq, and_true, true_and, exists_eq_left, exists_and_left, D.tup.injEq, D.int.injEq, D.bl.injEq]
    by_cases z : c v = 0
    · rw [decide_eq_true z]
      refine iT ⟨_, mlst_of at_end, ?_, hK _ ?_⟩
      · have := List.length_filter_le (fun v => decide (c v = 0)) (ks.take i)
        rw [List.length_take] at this
        rw [List.length_map]; omega
      · rw [set_end, take_next hv, List.filter_append]
        have : ([v].filter fun v => decide (c v = 0)) = [v] := by simp [z]
        rw [this, List.map_append]; rfl
    · rw [decide_eq_false z]
      refine iF (hK _ ?_)
      have : ([v].filter fun v => decide (c v = 0)) = [] := by simp [z]
      rw [take_next hv, List.filter_append, this, List.append_nil]
  · subst hi
    refine ⟨by rw [List.getElem?_append_left ln]; exact hn, ?_⟩
    rw [List.length_map, List.length_map, List.take_length]
    exact fin
end
end DL
set_option Elab.async false
set_option linter.all false
set_option maxRecDepth 100000
set_option maxHeartbeats 4000000
namespace DL
open PySem PySem.Spec PyProof.Rows L2
open PySem.W (Frag)
open SB (Rule Book)
def wuJ (h : DH) (n : Nat) (N : Wd → List Wd) (ks : List Wd) (m : Nat) (env : Env) (h' : DH) : Prop := ∃ (a5 a6 a7 a8 : Option D) (c : Wd → Int) (rd dn : List Wd), env = [some (.ref n), some (.ref h.length), some (.ref (h.length + 1)), some (.ref (LL h ks)), some (.ref (LL h ks + 1)), a5, a6, a7, a8] ∧
  Un h h' ks c (bh N ks) ∧ h'[LL h ks]? = some (.lst (rd.map wD)) ∧ h'[LL h ks + 1]? = some (.lst (dn.map wD)) ∧ Kahn N ks c rd dn ∧ m = ks.length - dn.length
theorem sat_unwound {ds : List D} {h : DH} {Q : VD} {E : DXK} (q : spUnw ds h Q E) : tau_unwound (endsD Q E) (startD 9 ds) h := by
  obtain ⟨N, ks, n, ep, rfl, hn, nd, few, ok, q⟩ := q
  have ln := (List.getElem?_eq_some_iff.mp hn).1
  unfold tau_unwound
  simp only [dSeq, dIf, dExpr, dRet, dRetN, dNext, dAsg, dNever, eVar, eC, eTup, eLst, aCons, aNil, eOp, eCB, eMt, eCall, eIf, eNotT, eAnd, eOr, eTru, eTst, eNot, eAndV, eOrV, eNeg, eIsi, eChain, gVar, gTupD, gsCons, gsNil, ↓reduceIte, Bool.false_eq_true, Bool.not_true, Bool.not_false, i_tru, i_len, decide_true, decide_false, List.length_map, yes, dFor, dPar, dPar3, eLRg, eSl, oNone, oSome, eDnew, eRev, eSortedKeys, eListKeys, wipeD, tgVar, gSto, eLc, iRng1D, iRng2D, iSeq, eLc2, i_add, i_sub, i_gt, i_le, i_lt, i_ge, i_eq, i_ne, i_int, i_mod, i_fdv, i_mul, i_pow, start1, start2, start3, List.replicate, List.getElem?_cons_zero, List.getElem?_cons_succ, Option.some.injEq, exists_eq_left', List.set, Nat.reduceAdd, List.length_cons, List.length_nil, List.cons.injEq, and_true, true_and, exists_eq_left, exists_and_left, D.tup.injEq, D.int.injEq, D.bl.injEq, eDc, iItemsD, iKeysD]
  refine ⟨n, rfl, _, ep, hn, dc_len hn nd few fun e1 => ?_⟩
  have hn1 : (h ++ [DO.dct (gI (fun v => ((N v).length : Nat)) ks) e1])[n]? = some (.dct (gN N ks) ep) := by rw [List.getElem?_append_left ln]; exact hn
  refine ⟨n, rfl, _, ep, hn1, dc_lst hn1 nd few fun e2 => ?_⟩
  have l1 : (h ++ [DO.dct (gI (fun v => ((N v).length : Nat)) ks) e1]).length = h.length + 1 := by rw [List.length_append]; rfl
  rw [l1]
  have U0 : Un h (h ++ [DO.dct (gI (fun v => ((N v).length : Nat)) ks) e1] ++ [DO.dct (gR (h.length + 1 + 1) ks ks) e2] ++ List.replicate ks.length (DO.lst [])) ks (fun v => ((N v).length : Nat)) (bh N (ks.take 0)) := by
    refine ⟨fun k hk => ?_, ⟨e1, ?_⟩, ⟨e2, ?_⟩, fun v hv => ?_, ?_⟩
    · rw [List.append_assoc, List.append_assoc, List.getElem?_append_left hk]
    · rw [List.append_assoc, List.append_assoc, List.getElem?_append_right (Nat.le_refl _), Nat.sub_self]; rfl
    · rw [List.append_assoc, List.getElem?_append_right (by rw [l1]; exact Nat.le_refl _), l1, Nat.sub_self]; rfl
    · have := idx_lt hv
      rw [List.getElem?_append_right (by rw [List.length_append, l1]; show h.length + 1 + 1 ≤ _; omega), List.length_append, l1, List.getElem?_replicate]
      rw [if_pos (by show _ - (h.length + 1 + 1) < _; omega)]
      simp [bh]
    · rw [List.length_append, List.length_append, l1, List.length_replicate]
      show _ ≤ h.length + 1 + 1 + _
      omega
  have le0 : (h ++ [DO.dct (gI (fun v => ((N v).length : Nat)) ks) e1] ++ [DO.dct (gR (h.length + 1 + 1) ks ks) e2] ++ List.replicate ks.length (DO.lst [])).length = LL h ks := by
    rw [List.length_append, List.length_append, l1, List.length_replicate]; rfl
  generalize h ++ [DO.dct (gI (fun v => ((N v).length : Nat)) ks) e1] ++ [DO.dct (gR (h.length + 1 + 1) ks ks) e2] ++ List.replicate ks.length (DO.lst []) = h0 at U0 le0 ⊢
  refine ⟨n, rfl, _, ep, (U0.keep n ln).trans hn, dLoop_inv _ (fun i env h' => ∃ a5 a6 a7, env = [some (.ref n), some (.ref h.length), some (.ref (h.length + 1)), none, none, a5, a6, a7, none] ∧ h'.length = LL h ks ∧ Un h h' ks (fun v => ((N v).length : Nat)) (bh N (ks.take i)))
    (fun i x env h1 M hx hi hM => ?_) (fun env h1 hi => ?_) ⟨_, _, _, rfl, le0, U0⟩⟩
  · obtain ⟨a5, a6, a7, rfl, el, U⟩ := hi
    rw [List.getElem?_map, List.getElem?_map] at hx
    obtain ⟨v, hv, rfl⟩ : ∃ v, ks[i]? = some v ∧ D.tup [wD v, .tup ((N v).map wD)] = x := by
      cases hv : ks[i]? with
      | none => rw [hv] at hx; cases hx
      | some v => rw [hv] at hx; exact ⟨v, rfl, Option.some.inj hx⟩
    have vk := List.mem_of_getElem? hv
    refine ⟨(U.keep n ln).trans hn, ?_⟩
    simp only [dSeq, dIf, dExpr, dRet, dRetN, dNext, dAsg, dNever, eVar, eC, eTup, eLst, aCons, aNil, eOp, eCB, eMt, eCall, eIf, eNotT, eAnd, eOr, eTru, eTst, eNot, eAndV, eOrV, eNeg, eIsi, eChain, gVar, gTupD, gsCons, gsNil, ↓reduceIte, Bool.false_eq_true, Bool.not_true, Bool.not_false, i_tru, i_len, decide_true, decide_false, List.length_map, yes, dFor, dPar, dPar3, eLRg, eSl, oNone, oSome, eDnew, eRev, eSortedKeys, eListKeys, wipeD, tgVar, gSto, eLc, iRng1D, iRng2D, iSeq, eLc2, i_add, i_sub, i_gt, i_le, i_lt, i_ge, i_eq, i_ne, i_int, i_mod, i_fdv, i_mul, i_pow, start1, start2, start3, List.replicate, List.getElem?_cons_zero, List.getElem?_cons_succ, Option.some.injEq, exists_eq_left', List.set, Nat.reduceAdd, List.length_cons, List.length_nil, List.cons.injEq, and_true, true_and, exists_eq_left, exists_and_left, D.tup.injEq, D.int.injEq, D.bl.injEq]
    refine ⟨_, _, ⟨rfl, rfl⟩, _, _, rfl, rfl, ?_⟩
    exact un_row hv few (ok v vk).1 (ok v vk).2 U fun a7 h2 U2 el2 => hM _ _ ⟨_, _, _, rfl, el2.trans el, U2⟩
  · obtain ⟨a5, a6, a7, rfl, el, U⟩ := hi
    rw [List.length_map, List.length_map, List.take_length] at U
    have hn3 := (U.keep n ln).trans hn
    refine ⟨hn3, ?_⟩
    simp only [dSeq, dIf, dExpr, dRet, dRetN, dNext, dAsg, dNever, eVar, eC, eTup, eLst, aCons, aNil, eOp, eCB, eMt, eCall, eIf, eNotT, eAnd, eOr, eTru, eTst, eNot, eAndV, eOrV, eNeg, eIsi, eChain, gVar, gTupD, gsCons, gsNil, ↓reduceIte, Bool.false_eq_true, Bool.not_true, Bool.not_false, i_tru, i_len, decide_true, decide_false, List.length_map, yes, dFor, dPar, dPar3, eLRg, eSl, oNone, oSome, eDnew, eRev, eSortedKeys, eListKeys, wipeD, tgVar, gSto, eLc, iRng1D, iRng2D, iSeq, eLc2, i_add, i_sub, i_gt, i_le, i_lt, i_ge, i_eq, i_ne, i_int, i_mod, i_fdv, i_mul, i_pow, start1, start2, start3, List.replicate, List.getElem?_cons_zero, List.getElem?_cons_succ, Option.some.injEq, exists_eq_left', List.set, Nat.reduceAdd, List.length_cons, List.length_nil, List.cons.injEq, and_true, true_and, exists_eq_left, exists_and_left, D.tup.injEq, D.int.injEq, D.bl.injEq, iKeysD]
    refine ⟨n, rfl, _, ep, hn3, lc_ready (a5 := a5) few hn3 U ?_⟩
    rw [el]
    have U3 := (U.push (o := .lst ((ks.filter fun v => decide (((N v).length : Int) = 0)).map wD))).push (o := .lst [])
    have r3 : (h1 ++ [DO.lst ((ks.filter fun v => decide (((N v).length : Int) = 0)).map wD)] ++ [DO.lst []])[LL h ks]? = some (.lst ((ks.filter fun v => decide (((N v).length : Int) = 0)).map wD)) := by
      rw [List.append_assoc, List.getElem?_append_right (by rw [el]; exact Nat.le_refl _), el, Nat.sub_self]; rfl
    have le3 : (h1 ++ [DO.lst ((ks.filter fun v => decide (((N v).length : Int) = 0)).map wD)]).length = LL h ks + 1 := by rw [List.length_append, el]; rfl
    have d3 : (h1 ++ [DO.lst ((ks.filter fun v => decide (((N v).length : Int) = 0)).map wD)] ++ [DO.lst []])[LL h ks + 1]? = some (.lst (([] : List Wd).map wD)) := by rw [← le3]; exact at_end
    refine ⟨by decide, ?_⟩
    rw [le3]
    generalize h1 ++ [DO.lst ((ks.filter fun v => decide (((N v).length : Int) = 0)).map wD)] ++ [DO.lst []] = h3 at U3 r3 d3 ⊢
    unfold dWhile
    refine ⟨wuJ h n N ks, ⟨_, _, _, _, _, _, _, _, rfl, U3, r3, d3, Kahn.start nd, rfl⟩, ?_⟩
    rintro m env h4 ⟨b5, b6, b7, b8, c, rd, dn, rfl, U4, r4, d4, kn, rfl⟩
    have lt := nd_len _ _ kn.nd kn.sub
    rw [List.length_append] at lt
    simp only [dSeq, dIf, dExpr, dRet, dRetN, dNext, dAsg, dNever, eVar, eC, eTup, eLst, aCons, aNil, eOp, eCB, eMt, eCall, eIf, eNotT, eAnd, eOr, eTru, eTst, eNot, eAndV, eOrV, eNeg, eIsi, eChain, gVar, gTupD, gsCons, gsNil, ↓reduceIte, Bool.false_eq_true, Bool.not_true, Bool.not_false, i_tru, i_len, decide_true, decide_false, List.length_map, yes, dFor, dPar, dPar3, eLRg, eSl, oNone, oSome, eDnew, eRev, eSortedKeys, eListKeys, wipeD, tgVar, gSto, eLc, iRng1D, iRng2D, iSeq, eLc2, i_add, i_sub, i_gt, i_le, i_lt, i_ge, i_eq, i_ne, i_int, i_mod, i_fdv, i_mul, i_pow, start1, start2, start3, List.replicate, List.getElem?_cons_zero, List.getElem?_cons_succ, Option.some.injEq, exists_eq_left', List.set, Nat.reduceAdd, List.length_cons, List.length_nil, List.cons.injEq, and_true, true_and, exists_eq_left, exists_and_left, D.tup.injEq, D.int.injEq, D.bl.injEq]
    refine ⟨_, lst_of r4, ?_⟩
    cases hst : rd.getLast? with
    | none =>
      have e0 : rd = [] := List.getLast?_eq_none_iff.mp hst
      subst e0
      refine iF ?_
      exact q h4 _ dn (by unfold LL; omega) (by have := U4.len; omega) U4.keep d4 kn.topo
    | some v =>
      obtain ⟨s0, rfl⟩ : ∃ s0, rd = s0 ++ [v] := List.getLast?_eq_some_iff.mp hst
      have ne : (!(((s0 ++ [v]).map wD).isEmpty)) = true := by simp
      rw [ne]
      simp only [dSeq, dIf, dExpr, dRet, dRetN, dNext, dAsg, dNever, eVar, eC, eTup, eLst, aCons, aNil, eOp, eCB, eMt, eCall, eIf, eNotT, eAnd, eOr, eTru, eTst, eNot, eAndV, eOrV, eNeg, eIsi, eChain, gVar, gTupD, gsCons, gsNil, ↓reduceIte, Bool.false_eq_true, Bool.not_true, Bool.not_false, i_tru, i_len, decide_true, decide_false, List.length_map, yes, dFor, dPar, dPar3, eLRg, eSl, oNone, oSome, eDnew, eRev, eSortedKeys, eListKeys, wipeD, tgVar, gSto, eLc, iRng1D, iRng2D, iSeq, eLc2, i_add, i_sub, i_gt, i_le, i_lt, i_ge, i_eq, i_ne, i_int, i_mod, i_fdv, i_mul, i_pow, start1, start2, start3, List.replicate, List.getElem?_cons_zero, List.getElem?_cons_succ, Option.some.injEq, exists_eq_left', List.set, Nat.reduceAdd, List.length_cons, List.length_nil, List.cons.injEq, and_true, true_and, exists_eq_left, exists_and_left, D.tup.injEq, D.int.injEq, D.bl.injEq]
      rw [List.length_append] at lt
      have one : [v].length = 1 := rfl
      have vk := kn.sub v (by simp)
      refine ⟨⟨rfl, _, lst_of r4⟩, _, wD v, mlst_of r4, by simp, ?_⟩
      have dl : ((s0 ++ [v]).map wD).dropLast = s0.map wD := by rw [List.map_append]; exact List.dropLast_concat
      rw [dl]
      have U5 := U4.put (k := LL h ks) (o := .lst (s0.map wD)) (Nat.le_refl _)
      have r5 := get_set (o := .lst (s0.map wD)) r4
      have d5 : (h4.set (LL h ks) (.lst (s0.map wD)))[LL h ks + 1]? = some (.lst (dn.map wD)) := by rw [List.getElem?_set_ne (by omega)]; exact d4
      generalize h4.set (LL h ks) (.lst (s0.map wD)) = h5 at U5 r5 d5 ⊢
      refine ⟨⟨rfl, _, lst_of d5⟩, app_lst d5 (by rw [List.length_map]; omega) ?_⟩
      have e6 : dn.map wD ++ [wD v] = (dn ++ [v]).map wD := by rw [List.map_append]; rfl
      rw [e6]
      have U6 := U5.put (k := LL h ks + 1) (o := .lst ((dn ++ [v]).map wD)) (Nat.le_succ _)
      have r6 : (h5.set (LL h ks + 1) (.lst ((dn ++ [v]).map wD)))[LL h ks]? = some (.lst (s0.map wD)) := by rw [List.getElem?_set_ne (by omega)]; exact r5
      have d6 := get_set (o := .lst ((dn ++ [v]).map wD)) d5
      generalize h5.set (LL h ks + 1) (.lst ((dn ++ [v]).map wD)) = h6 at U6 r6 d6 ⊢
      obtain ⟨ea, ha⟩ := U6.a
      refine ixA_dct ha (keyOk_w v) (dv := .ref (h.length + 2 + ks.idxOf v)) (by rw [dlook_map, if_pos vk]) ⟨_, lst_of (U6.l v vk), ?_⟩
      refine un_turn nd few (by omega) vk U6 r6 d6 fun a5 h7 U7 r7 d7 => ?_
      refine ⟨_, ?_, _, _, _, _, _, _, _, rfl, U7, r7, d7, kn.next (fun v hv => (ok v hv).1) nd, rfl⟩
      rw [List.length_append]
      show ks.length - (dn.length + 1) < _
      omega
end DL
set_option Elab.async false
set_option linter.all false
set_option maxRecDepth 100000
set_option maxHeartbeats 4000000
namespace DL
open PySem PySem.Spec PyProof.Rows L2
open PySem.W (Frag)
open SB (Rule Book dSide eqv_side)
/-! ### the law's layers -/
/-- all that stood stands -/
structure Ex (h h' : DH) : Prop where
  len : h.length ≤ h'.length
  old : ∀ k, k < h.length → h'[k]? = h[k]?
section
variable {h h' h2 : DH}
theorem Ex.refl : Ex h h := ⟨Nat.le_refl _, fun _ _ => rfl⟩
theorem Ex.trans (a : Ex h h') (b : Ex h' h2) : Ex h h2 := ⟨Nat.le_trans a.len b.len, fun k hk => (b.old k (Nat.lt_of_lt_of_le hk a.len)).trans (a.old k hk)⟩
theorem Ex.push {os : List DO} (a : Ex h h') : Ex h (h' ++ os) := ⟨by rw [List.length_append]; have := a.len; omega, fun k hk => by rw [List.getElem?_append_left (Nat.lt_of_lt_of_le hk a.len)]; exact a.old k hk⟩
theorem Ex.put (a : Ex h h') {k : Nat} {o : DO} (hk : h.length ≤ k) : Ex h (h'.set k o) := ⟨by rw [List.length_set]; exact a.len, fun j hj => by rw [List.getElem?_set_ne (by omega)]; exact a.old j hj⟩
theorem Ex.get (a : Ex h h') {k : Nat} {o : DO} (e : h[k]? = some o) : h'[k]? = some o := (a.old k (List.getElem?_eq_some_iff.mp e).1).trans e
end
theorem eq_nil {h : DH} {a b : Nat} {st : List (List Int)} {Q : VD} (ea : h[a]? = some (.lst (st.map wD))) (eb : h[b]? = some (.lst [])) (q : Q (.bl st.isEmpty) h) : dEq (.ref a) (.ref b) h Q :=
  ⟨1, .list (st.map dSide), .list [], by simp only [toPf]; rw [lst_of ea]; dsimp only; rw [words_P]; rfl, by simp only [toPf]; rw [lst_of eb]; rfl, shaped_words st, by decide, by
    have e : PyData.eqv (.list (st.map dSide)) (.list []) = st.isEmpty := by cases st <;> rfl
    rw [e]; exact q⟩
theorem any_words (L : List Wd) (v : Wd) : ((L.map dSide).any fun z => PyData.eqv z (dSide v)) = decide (v ∈ L) := by
  induction L with
  | nil => rfl
  | cons u L ih =>
    rw [List.map_cons, List.any_cons, ih, eqv_side]
    by_cases c : u = v
    · subst c; simp
    · have c2 : v ≠ u := fun z => c z.symm
      simp [c, c2]
theorem inA_words {h : DH} {m : Nat} {L : List Wd} {v : Wd} {neg : Bool} {Q : VD} (e : h[m]? = some (.lst (L.map wD))) (q : Q (.bl (if neg then !decide (v ∈ L) else decide (v ∈ L))) h) : dInA neg (wD v) (.ref m) h Q := by
  unfold dInA
  dsimp only
  rw [e]
  refine ⟨0, _, _, _, lst_of e, toP_w v, words_P L, shaped_w v, shaped_words L, ?_⟩
  rw [any_words]
  exact q
section
variable {h h1 : DH} {n ep nL : Nat} {N : Wd → List Wd} {ks : List (Wd × Nat)} {L : List Wd}
theorem inA_in {h : DH} {m : Nat} {L : List Wd} {v : Wd} {Q : VD} (e : h[m]? = some (.lst (L.map wD))) (q : Q (.bl (decide (v ∈ L))) h) : dInA false (wD v) (.ref m) h Q := inA_words e q
theorem inA_out {h : DH} {m : Nat} {L : List Wd} {v : Wd} {Q : VD} (e : h[m]? = some (.lst (L.map wD))) (q : Q (.bl (!decide (v ∈ L))) h) : dInA true (wD v) (.ref m) h Q := inA_words e q
theorem look_L {v : Wd} {m : Nat} (nd : (ks.map (·.1)).Nodup) (h : (v, m) ∈ ks) : dlook (grL ks) (wD v) = some (.ref m) := by
  unfold dlook
  induction ks with
  | nil => cases h
  | cons p ks ih =>
    rw [List.map_cons, List.nodup_cons] at nd
    show (List.find? (fun p => decide (nk p.1 = nk (wD v))) ((wD p.1, D.ref p.2) :: grL ks)).map (·.2) = _
    rw [List.find?_cons]
    dsimp only
    by_cases c : p.1 = v
    · rcases List.mem_cons.mp h with e | e
      · subst e
        rw [decide_eq_true rfl]; rfl
      · exact absurd (List.mem_map.mpr ⟨_, e, c.symm⟩) nd.1
    · have e : decide (nk (wD p.1) = nk (wD v)) = false := decide_eq_false fun z => by
        rw [nk_w, nk_w] at z
        exact c (nkI_inj (Option.some.inj z))
      rw [e]
      dsimp only
      exact ih nd.2 ((List.mem_cons.mp h).elim (fun z => absurd (by rw [← z]) c) id)
/-- the calm ones -/
theorem lay_calm {a1 a3 a5 : Option D} {Qd : DH → Prop} (hn : h1[n]? = some (.dct (grL ks) ep)) (nd : (ks.map (·.1)).Nodup) (at_ : ∀ p ∈ ks, h1[p.2]? = some (.lst ((N p.1).map wD)) ∧ (N p.1).length ≤ 280) (hL : h1[nL]? = some (.lst (L.map wD))) (few : L.length ≤ 1000) (sub : ∀ v ∈ L, v ∈ ks.map (·.1))
    (fin : ∀ h2, Ex h1 h2 → h2[h1.length]? = some (.lst ((L.filter (calmB N L)).map wD)) → Qd h2) :
    cLoop h1.length (tgVar 4) (eTst (eOp dEq (eLc (iSeq (eOp dIxA (eVar 0) (eVar 4))) (tgVar 5) (eTst (eOp (dInA false) (eVar 5) (eVar 2))) (eVar 5) [5]) (eLst aNil))) (eVar 4) (fun h => lstOf h nL = some (L.map wD))
      [some (.ref n), a1, some (.ref nL), a3, none, a5] Qd (L.map wD) (h1 ++ [.lst []]) := by
  refine cLoop_inv _ (fun i h' => Ex h1 h' ∧ h'[h1.length]? = some (.lst (((L.take i).filter (calmB N L)).map wD))) (fun i x h2 K hx hi hK => ?_) (fun h2 hi => ?_) ⟨Ex.refl.push, at_end⟩
  · obtain ⟨X, hA⟩ := hi
    rw [List.getElem?_map] at hx
    obtain ⟨v, hv, rfl⟩ := Option.map_eq_some_iff.mp hx
    obtain ⟨p, hp, rfl⟩ := List.mem_map.mp (sub v (List.mem_of_getElem? hv))
    refine ⟨lst_of (X.get hL), _, rfl, ?_⟩
    simp only [dSeq, dIf, dExpr, dRet, dRetN, dNext, dAsg, dNever, eVar, eC, eTup, eLst, aCons, aNil, eOp, eCB, eMt, eCall, eIf, eNotT, eAnd, eOr, eTru, eTst, eNot, eAndV, eOrV, eNeg, eIsi, eChain, gVar, gTupD, gsCons, gsNil, ↓reduceIte, Bool.false_eq_true, Bool.not_true, Bool.not_false, i_tru, i_len, decide_true, decide_false, List.length_map, yes, dFor, dPar, dPar3, eLRg, eSl, oNone, oSome, eDnew, eRev, eSortedKeys, eListKeys, wipeD, tgVar, gSto, eLc, iRng1D, iRng2D, iSeq, eLc2, i_add, i_sub, i_gt, i_le, i_lt, i_ge, i_eq, i_ne, i_int, i_mod, i_fdv, i_mul, i_pow, start1, start2, start3, List.replicate, List.getElem?_cons_zero, List.getElem?_cons_succ, Option.some.injEq, exists_eq_left', List.set, Nat.reduceAdd, List.length_cons, List.length_nil, List.cons.injEq, and_true, true_and, exists_eq_left, exists_and_left, D.tup.injEq, D.int.injEq, D.bl.injEq]
    have la := X.get (at_ p hp).1
    have few2 := (at_ p hp).2
    refine ixA_dct (X.get hn) (keyOk_w p.1) (look_L nd hp) ⟨_, lst_of la, ?_⟩
    refine cLoop_inv _ (fun j h' => h' = h2 ++ [.lst ((((N p.1).take j).filter fun u => decide (u ∈ L)).map wD)]) (fun j x h3 K3 hx hi hK3 => ?_) (fun h3 hi => ?_) (by simp)
    · subst hi
      rw [List.getElem?_map] at hx
      obtain ⟨u, hu, rfl⟩ := Option.map_eq_some_iff.mp hx
      refine ⟨lst_of ((Ex.refl.push (os := _)).get la), _, rfl, ?_⟩
      simp only [dSeq, dIf, dExpr, dRet, dRetN, dNext, dAsg, dNever, eVar, eC, eTup, eLst, aCons, aNil, eOp, eCB, eMt, eCall, eIf, eNotT, eAnd, eOr, eTru, eTst, eNot, eAndV, eOrV, eNeg, eIsi, eChain, gVar, gTupD, gsCons, gsNil, ↓reduceIte, Bool.false_eq_true, Bool.not_true, Bool.not_false, i_tru, i_len, decide_true, decide_false, List.length_map, yes, dFor, dPar, dPar3, eLRg, eSl, oNone, oSome, eDnew, eRev, eSortedKeys, eListKeys, wipeD, tgVar, gSto, eLc, iRng1D, iRng2D, iSeq, eLc2, i_add, i_sub, i_gt, i_le, i_lt, i_ge, i_eq, i_ne, i_int, i_mod, i_fdv, i_mul, i_pow, start1, start2, start3, List.replicate, List.getElem?_cons_zero, List.getElem?_cons_succ, Option.some.injEq, exists_eq_left', List.set, Nat.reduceAdd, List.length_cons, List.length_nil, List.cons.injEq, and_true, true_and, exists_eq_left, exists_and_left, D.tup.injEq, D.int.injEq, D.bl.injEq]
      refine inA_in ((X.push (os := _)).get hL) ⟨_, rfl, ?_⟩
      have tn := take_next hu
      by_cases c : u ∈ L
      · rw [decide_eq_true c]
        refine iT ⟨_, mlst_of at_end, ?_, hK3 _ ?_⟩
        · have := List.length_filter_le (fun u => decide (u ∈ L)) ((N p.1).take j)
          rw [List.length_take] at this
          rw [List.length_map]; omega
        · rw [set_end, tn, List.filter_append]
          have : ([u].filter fun u => decide (u ∈ L)) = [u] := by simp [c]
          rw [this, List.map_append]; rfl
      · rw [decide_eq_false c]
        refine iF (hK3 _ ?_)
        have : ([u].filter fun u => decide (u ∈ L)) = [] := by simp [c]
        rw [tn, List.filter_append, this, List.append_nil]
    · subst hi
      rw [List.length_map, List.take_length]
      refine ⟨lst_of ((Ex.refl.push (os := _)).get la), ?_⟩
      refine ⟨by decide, eq_nil ((Ex.refl.push (os := _)).get at_end) at_end ⟨_, rfl, ?_⟩⟩
      have X2 : Ex h1 (h2 ++ [.lst (((N p.1).filter fun u => decide (u ∈ L)).map wD)] ++ [.lst []]) := X.push.push
      have A2 : (h2 ++ [.lst (((N p.1).filter fun u => decide (u ∈ L)).map wD)] ++ [.lst []])[h1.length]? = some (.lst (((L.take i).filter (calmB N L)).map wD)) := (Ex.refl.push.push (os := _)).get hA
      generalize h2 ++ [.lst (((N p.1).filter fun u => decide (u ∈ L)).map wD)] ++ [.lst []] = h4 at X2 A2 ⊢
      have tn := take_next hv
      show if calmB N L p.1 = true then _ else _
      by_cases c : calmB N L p.1 = true
      · rw [if_pos c]
        refine ⟨_, mlst_of A2, ?_, hK _ ⟨X2.put (Nat.le_refl _), ?_⟩⟩
        · have := List.length_filter_le (calmB N L) (L.take i)
          rw [List.length_take] at this
          rw [List.length_map]; omega
        · rw [get_set A2, tn, List.filter_append]
          have : ([p.1].filter (calmB N L)) = [p.1] := by simp [c]
          rw [this, List.map_append]; rfl
      · rw [if_neg c]
        refine hK _ ⟨X2, ?_⟩
        have : ([p.1].filter (calmB N L)) = [] := by simp [c]
        rw [A2, tn, List.filter_append, this, List.append_nil]
  · obtain ⟨X, hA⟩ := hi
    rw [List.length_map, List.take_length] at hA
    exact ⟨lst_of (X.get hL), fin h2 X hA⟩
/-- the others -/
theorem lay_rest {C : List Wd} {nC : Nat} {a0 a1 a5 : Option D} {Qd : DH → Prop} (hL : h1[nL]? = some (.lst (L.map wD))) (hC : h1[nC]? = some (.lst (C.map wD))) (few : L.length ≤ 1000)
    (fin : Qd (h1 ++ [.lst ((L.filter fun v => !decide (v ∈ C)).map wD)])) :
    cLoop h1.length (tgVar 4) (eTst (eOp (dInA true) (eVar 4) (eVar 3))) (eVar 4) (fun h => lstOf h nL = some (L.map wD)) [a0, a1, some (.ref nL), some (.ref nC), none, a5] Qd (L.map wD) (h1 ++ [.lst []]) := by
  refine cLoop_inv _ (fun i h' => h' = h1 ++ [.lst (((L.take i).filter fun v => !decide (v ∈ C)).map wD)]) (fun i x h2 K hx hi hK => ?_) (fun h2 hi => ?_) (by simp)
  · subst hi
    rw [List.getElem?_map] at hx
    obtain ⟨v, hv, rfl⟩ := Option.map_eq_some_iff.mp hx
    refine ⟨lst_of ((Ex.refl.push (os := _)).get hL), _, rfl, ?_⟩
    simp only [dSeq, dIf, dExpr, dRet, dRetN, dNext, dAsg, dNever, eVar, eC, eTup, eLst, aCons, aNil, eOp, eCB, eMt, eCall, eIf, eNotT, eAnd, eOr, eTru, eTst, eNot, eAndV, eOrV, eNeg, eIsi, eChain, gVar, gTupD, gsCons, gsNil, ↓reduceIte, Bool.false_eq_true, Bool.not_true, Bool.not_false, i_tru, i_len, decide_true, decide_false, List.length_map, yes, dFor, dPar, dPar3, eLRg, eSl, oNone, oSome, eDnew, eRev, eSortedKeys, eListKeys, wipeD, tgVar, gSto, eLc, iRng1D, iRng2D, iSeq, eLc2, i_add, i_sub, i_gt, i_le, i_lt, i_ge, i_eq, i_ne, i_int, i_mod, i_fdv, i_mul, i_pow, start1, start2, start3, List.replicate, List.getElem?_cons_zero, List.getElem?_cons_succ, Option.some.injEq, exists_eq_left', List.set, Nat.reduceAdd, List.length_cons, List.length_nil, List.cons.injEq, and_true, true_and, exists_eq_left, exists_and_left, D.tup.injEq, D.int.injEq, D.bl.injEq]
    refine inA_out ((Ex.refl.push (os := _)).get hC) ⟨_, rfl, ?_⟩
    have tn := take_next hv
    by_cases c : v ∈ C
    · rw [decide_eq_true c]
      refine iF (hK _ ?_)
      have : ([v].filter fun v => !decide (v ∈ C)) = [] := by simp [c]
      rw [tn, List.filter_append, this, List.append_nil]
    · rw [decide_eq_false c]
      refine iT ⟨_, mlst_of at_end, ?_, hK _ ?_⟩
      · have := List.length_filter_le (fun v => !decide (v ∈ C)) (L.take i)
        rw [List.length_take] at this
        rw [List.length_map]; omega
      · rw [set_end, tn, List.filter_append]
        have : ([v].filter fun v => !decide (v ∈ C)) = [v] := by simp [c]
        rw [this, List.map_append]; rfl
  · subst hi
    rw [List.length_map, List.take_length]
    exact ⟨lst_of ((Ex.refl.push (os := _)).get hL), fin⟩
end
end DL
set_option Elab.async false
set_option linter.all false
set_option maxRecDepth 100000
set_option maxHeartbeats 4000000
namespace DL
open PySem PySem.Spec PyProof.Rows L2
open PySem.W (Frag)
open SB (Rule Book dSide eqv_side)
def spLayers : DSp := fun ds h Q _ => ∃ (N : Wd → List Wd) (ks : List (Wd × Nat)) (n ep : Nat), ds = [.ref n] ∧ h[n]? = some (.dct (grL ks) ep) ∧ (ks.map (·.1)).Nodup ∧ ks.length ≤ 1000 ∧
  (∀ p ∈ ks, h[p.2]? = some (.lst ((N p.1).map wD)) ∧ (N p.1).length ≤ 280 ∧ ∀ u ∈ N p.1, u ∈ ks.map (·.1)) ∧
  (∀ (h' : DH) (m : Nat) (F : List Wd), Ex h h' → h'[m]? = some (.lst (F.map wD)) → Topo N (ks.map (·.1)) F → (∀ v ∈ ks.map (·.1), v ∈ F) → Q (.ref m) h') ∧
  (∀ h' : DH, Ex h h' → (¬ ∀ v ∈ ks.map (·.1), Gd N (ks.map (·.1)) v) → Q .non h')
def wlJ (h : DH) (n : Nat) (N : Wd → List Wd) (ks : List (Wd × Nat)) (m : Nat) (env : Env) (h' : DH) : Prop := ∃ (a3 a4 a5 : Option D) (F L : List Wd) (nF nL : Nat), env = [some (.ref n), some (.ref nF), some (.ref nL), a3, a4, a5] ∧
  Ex h h' ∧ h'[nF]? = some (.lst (F.map wD)) ∧ h'[nL]? = some (.lst (L.map wD)) ∧ Lay N (ks.map (·.1)) F L ∧ m = L.length
theorem sat_layers {ds : List D} {h : DH} {Q : VD} {E : DXK} (q : spLayers ds h Q E) : tau__law_layers (endsD Q E) (startD 6 ds) h := by
  obtain ⟨N, ks, n, ep, rfl, hn, nd, few, ok, q1, q2⟩ := q
  unfold tau__law_layers
  simp only [dSeq, dIf, dExpr, dRet, dRetN, dNext, dAsg, dNever, eVar, eC, eTup, eLst, aCons, aNil, eOp, eCB, eMt, eCall, eIf, eNotT, eAnd, eOr, eTru, eTst, eNot, eAndV, eOrV, eNeg, eIsi, eChain, gVar, gTupD, gsCons, gsNil, ↓reduceIte, Bool.false_eq_true, Bool.not_true, Bool.not_false, i_tru, i_len, decide_true, decide_false, List.length_map, yes, dFor, dPar, dPar3, eLRg, eSl, oNone, oSome, eDnew, eRev, eSortedKeys, eListKeys, wipeD, tgVar, gSto, eLc, iRng1D, iRng2D, iSeq, eLc2, i_add, i_sub, i_gt, i_le, i_lt, i_ge, i_eq, i_ne, i_int, i_mod, i_fdv, i_mul, i_pow, start1, start2, start3, List.replicate, List.getElem?_cons_zero, List.getElem?_cons_succ, Option.some.injEq, exists_eq_left', List.set, Nat.reduceAdd, List.length_cons, List.length_nil, List.cons.injEq, and_true, true_and, exists_eq_left, exists_and_left, D.tup.injEq, D.int.injEq, D.bl.injEq, fList]
  refine ⟨by decide, n, rfl, _, ep, (Ex.refl.push (os := _)).get hn, by rw [List.length_map]; omega, by decide, _, _, ⟨rfl, rfl⟩, _, _, rfl, rfl, ?_⟩
  have ekeys : (grL ks).map (·.1) = (ks.map (·.1)).map wD := by rw [List.map_map, List.map_map]; rfl
  have l1 : (h ++ [DO.lst []]).length = h.length + 1 := by rw [List.length_append]; rfl
  rw [ekeys]
  unfold dWhile
  refine ⟨wlJ h n N ks, ⟨_, _, _, _, [], ks.map (·.1), _, _, rfl, Ex.refl.push.push, (Ex.refl.push (os := _)).get at_end, at_end, ⟨by simpa using nd, fun v => by simp, fun i v e => by simp at e⟩, rfl⟩, ?_⟩
  have two : (ks.map (·.1)).length = ks.length := List.length_map _
  rintro m env h1 ⟨a3, a4, a5, F, L, nF, nL, rfl, X, hF, hL, Y, rfl⟩
  have lt := nd_len _ _ Y.nd fun v hv => (Y.mem v).mp hv
  rw [List.length_append, two] at lt
  simp only [dSeq, dIf, dExpr, dRet, dRetN, dNext, dAsg, dNever, eVar, eC, eTup, eLst, aCons, aNil, eOp, eCB, eMt, eCall, eIf, eNotT, eAnd, eOr, eTru, eTst, eNot, eAndV, eOrV, eNeg, eIsi, eChain, gVar, gTupD, gsCons, gsNil, ↓reduceIte, Bool.false_eq_true, Bool.not_true, Bool.not_false, i_tru, i_len, decide_true, decide_false, List.length_map, yes, dFor, dPar, dPar3, eLRg, eSl, oNone, oSome, eDnew, eRev, eSortedKeys, eListKeys, wipeD, tgVar, gSto, eLc, iRng1D, iRng2D, iSeq, eLc2, i_add, i_sub, i_gt, i_le, i_lt, i_ge, i_eq, i_ne, i_int, i_mod, i_fdv, i_mul, i_pow, start1, start2, start3, List.replicate, List.getElem?_cons_zero, List.getElem?_cons_succ, Option.some.injEq, exists_eq_left', List.set, Nat.reduceAdd, List.length_cons, List.length_nil, List.cons.injEq, and_true, true_and, exists_eq_left, exists_and_left, D.tup.injEq, D.int.injEq, D.bl.injEq]
  refine ⟨by decide, ne_nil ((Ex.refl.push (os := _)).get hL) at_end ⟨_, rfl, ?_⟩⟩
  by_cases e0 : L = []
  · subst e0
    refine iF (q1 _ nF F X.push ((Ex.refl.push (os := _)).get hF) Y.topo fun v hv => ?_)
    have := (Y.mem v).mpr hv
    rwa [List.append_nil] at this
  · have ne : (!L.isEmpty) = true := by cases L with
      | nil => exact absurd rfl e0
      | cons _ _ => rfl
    rw [ne]
    refine iT ?_
    have X2 : Ex h (h1 ++ [DO.lst []]) := X.push
    have hF2 : (h1 ++ [DO.lst []])[nF]? = some (.lst (F.map wD)) := (Ex.refl.push (os := _)).get hF
    have hL2 : (h1 ++ [DO.lst []])[nL]? = some (.lst (L.map wD)) := (Ex.refl.push (os := _)).get hL
    generalize h1 ++ [DO.lst []] = h2 at X2 hF2 hL2 ⊢
    refine ⟨_, lst_of hL2, lay_calm (a5 := a5) (X2.get hn) nd (fun p hp => ⟨X2.get (ok p hp).1, (ok p hp).2.1⟩) hL2 (by omega) (fun v hv => (Y.mem v).mp (List.mem_append_right _ hv)) fun h3 X3 hC => ?_⟩
    refine ⟨by decide, eq_nil ((Ex.refl.push (os := _)).get hC) at_end ⟨_, rfl, ?_⟩⟩
    by_cases e1 : L.filter (calmB N L) = []
    · have e2 : (L.filter (calmB N L)).isEmpty = true := List.isEmpty_iff.mpr e1
      rw [e2]
      exact iT (q2 _ (X2.trans X3.push) (Y.stuck e0 e1))
    · have e2 : (L.filter (calmB N L)).isEmpty = false := by
        cases c : (L.filter (calmB N L)).isEmpty with
        | false => rfl
        | true => exact absurd (List.isEmpty_iff.mp c) e1
      rw [e2]
      refine iF ?_
      have X4 : Ex h (h3 ++ [DO.lst []]) := X2.trans X3.push
      have hF4 : (h3 ++ [DO.lst []])[nF]? = some (.lst (F.map wD)) := (Ex.refl.push (os := _)).get (X3.get hF2)
      have hL4 : (h3 ++ [DO.lst []])[nL]? = some (.lst (L.map wD)) := (Ex.refl.push (os := _)).get (X3.get hL2)
      have hC4 : (h3 ++ [DO.lst []])[h2.length]? = some (.lst ((L.filter (calmB N L)).map wD)) := (Ex.refl.push (os := _)).get hC
      generalize h3 ++ [DO.lst []] = h4 at X4 hF4 hL4 hC4 ⊢
      have few3 := List.length_filter_le (calmB N L) L
      refine add_lst hF4 hC4 (by rw [List.length_map, List.length_map]; omega) ?_
      rw [← List.map_append]
      have X5 : Ex h4 (h4 ++ [DO.lst ((F ++ L.filter (calmB N L)).map wD)]) := Ex.refl.push
      have hF5 : (h4 ++ [DO.lst ((F ++ L.filter (calmB N L)).map wD)])[h4.length]? = some (.lst ((F ++ L.filter (calmB N L)).map wD)) := at_end
      generalize h4 ++ [DO.lst ((F ++ L.filter (calmB N L)).map wD)] = h5 at X5 hF5 ⊢
      refine ⟨_, lst_of (X5.get hL4), lay_rest (a5 := a5) (X5.get hL4) (X5.get hC4) (by omega) ?_⟩
      refine ⟨by decide, _, _, ⟨rfl, rfl⟩, _, _, rfl, rfl, ?_⟩
      refine ⟨_, ?_, _, _, _, F ++ L.filter (calmB N L), _, _, _, rfl, (X4.trans X5).push, (Ex.refl.push (os := _)).get hF5, at_end, Y.next (fun v hv => ?_), rfl⟩
      · have z : ∃ v ∈ L, v ∈ L.filter (calmB N L) := by
          cases c : L.filter (calmB N L) with
          | nil => exact absurd c e1
          | cons v vs =>
            have hv : v ∈ L.filter (calmB N L) := by rw [c]; exact List.mem_cons_self
            exact ⟨v, (List.mem_filter.mp hv).1, List.mem_cons_self⟩
        obtain ⟨v, hv, hc⟩ := z
        exact List.length_filter_lt_length_iff_exists.mpr ⟨v, hv, by simpa using hc⟩
      · obtain ⟨p, hp, rfl⟩ := List.mem_map.mp hv
        exact (ok p hp).2.2
end DL
set_option Elab.async false
set_option linter.all false
set_option maxRecDepth 100000
set_option maxHeartbeats 4000000
namespace DL
open PySem PySem.Spec PyProof.Rows L2
open PySem.W (Frag dataLt alike AllAlike Sortable)
open SB (Rule Book dSide alike_side)
theorem can_words2 {l : List (List Int)} (h : l.length ≤ 1000000) (ne : (∀ x ∈ l, x ≠ []) ∨ l.length ≤ 1) : CanSort (l.map wD) := by
  rcases ne with ne | ne
  · exact can_words h ne
  · have e : (l.map wD).map datP = l.map dSide := by rw [List.map_map]; exact List.map_congr_left fun p _ => dat_w p
    refine ⟨fun x hx => ?_, ?_, ?_, by rw [List.length_map]; exact h⟩
    · obtain ⟨p, _, rfl⟩ := List.mem_map.mp hx
      refine ⟨_, toP_w p, ?_⟩
      have : (dSide p).depth = 1 := by show PyData.depthAll (p.map .int) + 1 = 1; rw [depth_ints]
      omega
    · rw [e]
      exact PySem.W.AllAlike.of fun b b' => alike_side _ _
    · rw [e]
      refine .inr (.inr ⟨by rw [List.length_map]; exact ne, fun d hd => ?_⟩)
      obtain ⟨x, _, rfl⟩ := List.mem_map.mp hd
      intro z; cases z
theorem nextF_nd (rs : List Rule) (v : Wd) : (nextF rs v).Nodup := (sortW_perm _).nodup_iff.mpr (nodup_dd _)
theorem Gd.congr {N : Wd → List Wd} {a b : List Wd} (m : ∀ v, v ∈ a → v ∈ b) {v : Wd} (h : Gd N a v) : Gd N b v := by
  induction h with
  | mk hv _ ih => exact .mk (m _ hv) ih
/-- the words that come, each once -/
structure Cm (b : Book) (w : Wd) (ks : List Wd) : Prop where
  nd : ks.Nodup
  mem : ∀ v, v ∈ ks ↔ Rch (nextF b.2) w v
theorem Cm.closed {b : Book} {w : Wd} {ks : List Wd} (c : Cm b w ks) : ∀ v ∈ ks, (nextF b.2 v).Nodup ∧ ∀ u ∈ nextF b.2 v, u ∈ ks := fun v hv => ⟨nextF_nd _ _, fun u hu => (c.mem u).mpr (.step ((c.mem v).mp hv) hu)⟩
theorem Cm.one {b : Book} {w : Wd} {ks : List Wd} (c : Cm b w ks) : (∀ x ∈ ks, x ≠ []) ∨ ks.length ≤ 1 := by
  by_cases e : w = []
  · right
    have q := nd_len ks [[]] c.nd fun v hv => by
      have := rch_len ((c.mem v).mp hv)
      rw [e] at this
      rw [List.eq_nil_of_length_eq_zero this]; exact List.mem_cons_self
    exact q
  · left
    intro x hx z
    have := rch_len ((c.mem x).mp hx)
    rw [z] at this
    exact e (List.eq_nil_of_length_eq_zero this.symm)
theorem one_filter {ks : List Wd} {p : Wd → Bool} (h : (∀ x ∈ ks, x ≠ []) ∨ ks.length ≤ 1) : (∀ x ∈ ks.filter p, x ≠ []) ∨ (ks.filter p).length ≤ 1 :=
  h.elim (fun z => .inl fun x hx => z x (List.mem_filter.mp hx).1) fun z => .inr (Nat.le_trans (List.length_filter_le _ _) z)
theorem Cm.bad {b : Book} {w : Wd} {ks as : List Wd} (c : Cm b w ks) (d : Cm b w as) : (∀ v ∈ ks, Gd (nextF b.2) ks v) ↔ ∀ v ∈ as, Gd (nextF b.2) as v :=
  ⟨fun h v hv => (h v ((c.mem v).mpr ((d.mem v).mp hv))).congr fun u hu => (d.mem u).mpr ((c.mem u).mp hu), fun h v hv => (h v ((d.mem v).mpr ((c.mem v).mp hv))).congr fun u hu => (c.mem u).mpr ((d.mem u).mp hu)⟩
/-- what is asked of a word to be walked from -/
structure Wok (b : Book) (w : Wd) : Prop where
  ok : OkBook b
  five : b.2.length ≤ 5
  eight : w.length ≤ 8
  al : ∀ x ∈ w, 0 ≤ x ∧ x < b.1
  few : b.1.toNat ^ w.length ≤ 1000
theorem walk_of {b : Book} {w : Wd} {h : DH} {Q : VD} {E : DXK} (o : Wok b w) (q : ∀ (h' : DH) (n ep : Nat) (ks : List Wd), Ex h h' → h.length ≤ n → h'[n]? = some (.dct (gN (nextF b.2) ks) ep) → Cm b w ks → ks.length ≤ 1000 → Q (.ref n) h') : spWalk [bookD b, wD w] h Q E :=
  ⟨b, w, b.1.toNat ^ w.length, rfl, o.ok, o.five, o.eight, o.al, o.few, fun ks nd m => rch_few o.ok o.al ks nd m, fun h' n ep ks h1 h2 h3 h4 nd m => q h' n ep ks ⟨h3, h2⟩ h1 h4 ⟨nd, m⟩ (Nat.le_trans (rch_few o.ok o.al ks nd fun v hv => (m v).mp hv) o.few)⟩
def spAllCome : DSp := fun ds h Q _ => ∃ (b : Book) (w : Wd), ds = [bookD b, wD w] ∧ Wok b w ∧ ∀ (h' : DH) (m : Nat) (ks : List Wd), Ex h h' → Cm b w ks → h'[m]? = some (.lst ((sortW ks).map wD)) → Q (.ref m) h'
theorem sort_dct {h : DH} {n ep : Nat} {f : Wd → D} {ks : List Wd} {Q : VD} (e : h[n]? = some (.dct (grD f ks) ep)) (few : ks.length ≤ 1000000) (one : (∀ x ∈ ks, x ≠ []) ∨ ks.length ≤ 1) (q : Q (.ref h.length) (h ++ [.lst ((sortW ks).map wD)])) : cSortA [.ref n] h Q := by
  unfold cSortA
  dsimp only
  rw [e]
  unfold cSort
  dsimp only
  rw [e]
  have ek : (grD f ks).map (·.1) = ks.map wD := by rw [List.map_map]; rfl
  dsimp only
  rw [ek]
  exact ⟨can_words2 few one, by rw [sort_words]; exact q⟩
theorem sort_lst {h : DH} {n : Nat} {ks : List Wd} {Q : VD} (e : h[n]? = some (.lst (ks.map wD))) (few : ks.length ≤ 1000000) (one : (∀ x ∈ ks, x ≠ []) ∨ ks.length ≤ 1) (q : Q (.ref h.length) (h ++ [.lst ((sortW ks).map wD)])) : cSortA [.ref n] h Q := by
  unfold cSortA
  dsimp only
  rw [e]
  unfold cSort
  dsimp only
  rw [e]
  exact ⟨_, lst_of e, can_words2 few one, by rw [sort_words]; exact q⟩
theorem sat_all_come {ds : List D} {h : DH} {Q : VD} {E : DXK} (q : spAllCome ds h Q E) : tau_all_come spWalk (endsD Q E) (startD 2 ds) h := by
  obtain ⟨b, w, rfl, o, q⟩ := q
  unfold tau_all_come
  simp only [dSeq, dIf, dExpr, dRet, dRetN, dNext, dAsg, dNever, eVar, eC, eTup, eLst, aCons, aNil, eOp, eCB, eMt, eCall, eIf, eNotT, eAnd, eOr, eTru, eTst, eNot, eAndV, eOrV, eNeg, eIsi, eChain, gVar, gTupD, gsCons, gsNil, ↓reduceIte, Bool.false_eq_true, Bool.not_true, Bool.not_false, i_tru, i_len, decide_true, decide_false, List.length_map, yes, dFor, dPar, dPar3, eLRg, eSl, oNone, oSome, eDnew, eRev, eSortedKeys, eListKeys, wipeD, tgVar, gSto, eLc, iRng1D, iRng2D, iSeq, eLc2, i_add, i_sub, i_gt, i_le, i_lt, i_ge, i_eq, i_ne, i_int, i_mod, i_fdv, i_mul, i_pow, start1, start2, start3, List.replicate, List.getElem?_cons_zero, List.getElem?_cons_succ, Option.some.injEq, exists_eq_left', List.set, Nat.reduceAdd, List.length_cons, List.length_nil, List.cons.injEq, and_true, true_and, exists_eq_left, exists_and_left, D.tup.injEq, D.int.injEq, D.bl.injEq]
  refine walk_of o fun h' n ep ks X hn e c few => ?_
  exact sort_dct e (by omega) c.one (q _ _ ks X.push c at_end)
def restB (N : Wd → List Wd) (v : Wd) : Bool := (N v).isEmpty
def spRests : DSp := fun ds h Q _ => ∃ (b : Book) (w : Wd), ds = [bookD b, wD w] ∧ Wok b w ∧ ∀ (h' : DH) (m : Nat) (ks : List Wd), Ex h h' → Cm b w ks → h'[m]? = some (.lst ((sortW (ks.filter (restB (nextF b.2)))).map wD)) → Q (.ref m) h'
theorem sat_walked_rests {ds : List D} {h : DH} {Q : VD} {E : DXK} (q : spRests ds h Q E) : tau_walked_rests spWalk (endsD Q E) (startD 4 ds) h := by
  obtain ⟨b, w, rfl, o, q⟩ := q
  unfold tau_walked_rests
  simp only [dSeq, dIf, dExpr, dRet, dRetN, dNext, dAsg, dNever, eVar, eC, eTup, eLst, aCons, aNil, eOp, eCB, eMt, eCall, eIf, eNotT, eAnd, eOr, eTru, eTst, eNot, eAndV, eOrV, eNeg, eIsi, eChain, gVar, gTupD, gsCons, gsNil, ↓reduceIte, Bool.false_eq_true, Bool.not_true, Bool.not_false, i_tru, i_len, decide_true, decide_false, List.length_map, yes, dFor, dPar, dPar3, eLRg, eSl, oNone, oSome, eDnew, eRev, eSortedKeys, eListKeys, wipeD, tgVar, gSto, eLc, iRng1D, iRng2D, iSeq, eLc2, i_add, i_sub, i_gt, i_le, i_lt, i_ge, i_eq, i_ne, i_int, i_mod, i_fdv, i_mul, i_pow, start1, start2, start3, List.replicate, List.getElem?_cons_zero, List.getElem?_cons_succ, Option.some.injEq, exists_eq_left', List.set, Nat.reduceAdd, List.length_cons, List.length_nil, List.cons.injEq, and_true, true_and, exists_eq_left, exists_and_left, D.tup.injEq, D.int.injEq, D.bl.injEq, iItemsD]
  refine walk_of o fun h1 n ep ks X hn e c few => ?_
  have ln := (List.getElem?_eq_some_iff.mp e).1
  refine ⟨n, rfl, _, ep, e, ?_⟩
  refine cLoop_inv _ (fun i h' => h' = h1 ++ [.lst (((ks.take i).filter (restB (nextF b.2))).map wD)]) (fun i x h2 K hx hi hK => ?_) (fun h2 hi => ?_) (by simp)
  · subst hi
    rw [List.getElem?_map, List.getElem?_map] at hx
    obtain ⟨v, hv, rfl⟩ : ∃ v, ks[i]? = some v ∧ D.tup [wD v, .tup ((nextF b.2 v).map wD)] = x := by
      cases hv : ks[i]? with
      | none => rw [hv] at hx; cases hx
      | some v => rw [hv] at hx; exact ⟨v, rfl, Option.some.inj hx⟩
    refine ⟨by rw [List.getElem?_append_left ln]; exact e, _, rfl, ?_⟩
    simp only [dSeq, dIf, dExpr, dRet, dRetN, dNext, dAsg, dNever, eVar, eC, eTup, eLst, aCons, aNil, eOp, eCB, eMt, eCall, eIf, eNotT, eAnd, eOr, eTru, eTst, eNot, eAndV, eOrV, eNeg, eIsi, eChain, gVar, gTupD, gsCons, gsNil, ↓reduceIte, Bool.false_eq_true, Bool.not_true, Bool.not_false, i_tru, i_len, decide_true, decide_false, List.length_map, yes, dFor, dPar, dPar3, eLRg, eSl, oNone, oSome, eDnew, eRev, eSortedKeys, eListKeys, wipeD, tgVar, gSto, eLc, iRng1D, iRng2D, iSeq, eLc2, i_add, i_sub, i_gt, i_le, i_lt, i_ge, i_eq, i_ne, i_int, i_mod, i_fdv, i_mul, i_pow, start1, start2, start3, List.replicate, List.getElem?_cons_zero, List.getElem?_cons_succ, Option.some.injEq, exists_eq_left', List.set, Nat.reduceAdd, List.length_cons, List.length_nil, List.cons.injEq, and_true, true_and, exists_eq_left, exists_and_left, D.tup.injEq, D.int.injEq, D.bl.injEq]
    show if (!(!((nextF b.2 v).map wD).isEmpty)) = true then _ else _
    have ee : (!(!((nextF b.2 v).map wD).isEmpty)) = restB (nextF b.2) v := by unfold restB; cases nextF b.2 v <;> rfl
    rw [ee]
    have tn := take_next hv
    by_cases z : restB (nextF b.2) v = true
    · rw [if_pos z]
      refine ⟨_, mlst_of at_end, ?_, hK _ ?_⟩
      · have := List.length_filter_le (restB (nextF b.2)) (ks.take i)
        rw [List.length_take] at this
        rw [List.length_map]; omega
      · rw [set_end, tn, List.filter_append]
        have : ([v].filter (restB (nextF b.2))) = [v] := by simp [z]
        rw [this, List.map_append]; rfl
    · rw [if_neg z]
      refine hK _ ?_
      have : ([v].filter (restB (nextF b.2))) = [] := by simp [z]
      rw [tn, List.filter_append, this, List.append_nil]
  · subst hi
    rw [List.length_map, List.length_map, List.take_length]
    refine ⟨by rw [List.getElem?_append_left ln]; exact e, ?_⟩
    have := List.length_filter_le (restB (nextF b.2)) ks
    exact sort_lst at_end (by omega) (one_filter c.one) (q _ _ ks X.push.push c at_end)
/-- the law's last ones -/
def spLast : DSp := fun ds h Q _ => ∃ (N : Wd → List Wd) (ks : List (Wd × Nat)) (n ep : Nat), ds = [.ref n] ∧ h[n]? = some (.dct (grL ks) ep) ∧ (ks.map (·.1)).Nodup ∧ ks.length ≤ 1000 ∧ ((∀ x ∈ ks.map (·.1), x ≠ []) ∨ ks.length ≤ 1) ∧
  (∀ p ∈ ks, h[p.2]? = some (.lst ((N p.1).map wD))) ∧ ∀ (h' : DH) (m : Nat), Ex h h' → h'[m]? = some (.lst ((sortW ((ks.map (·.1)).filter (restB N))).map wD)) → Q (.ref m) h'
theorem sat_last {ds : List D} {h : DH} {Q : VD} {E : DXK} (q : spLast ds h Q E) : tau__law_last_ones (endsD Q E) (startD 2 ds) h := by
  obtain ⟨N, ks, n, ep, rfl, hn, nd, few, one, ok, q⟩ := q
  unfold tau__law_last_ones
  simp only [dSeq, dIf, dExpr, dRet, dRetN, dNext, dAsg, dNever, eVar, eC, eTup, eLst, aCons, aNil, eOp, eCB, eMt, eCall, eIf, eNotT, eAnd, eOr, eTru, eTst, eNot, eAndV, eOrV, eNeg, eIsi, eChain, gVar, gTupD, gsCons, gsNil, ↓reduceIte, Bool.false_eq_true, Bool.not_true, Bool.not_false, i_tru, i_len, decide_true, decide_false, List.length_map, yes, dFor, dPar, dPar3, eLRg, eSl, oNone, oSome, eDnew, eRev, eSortedKeys, eListKeys, wipeD, tgVar, gSto, eLc, iRng1D, iRng2D, iSeq, eLc2, i_add, i_sub, i_gt, i_le, i_lt, i_ge, i_eq, i_ne, i_int, i_mod, i_fdv, i_mul, i_pow, start1, start2, start3, List.replicate, List.getElem?_cons_zero, List.getElem?_cons_succ, Option.some.injEq, exists_eq_left', List.set, Nat.reduceAdd, List.length_cons, List.length_nil, List.cons.injEq, and_true, true_and, exists_eq_left, exists_and_left, D.tup.injEq, D.int.injEq, D.bl.injEq, iKeysD]
  refine ⟨n, rfl, _, ep, hn, ?_⟩
  refine cLoop_inv _ (fun i h' => Ex h h' ∧ h'[h.length]? = some (.lst ((((ks.take i).map (·.1)).filter (restB N)).map wD))) (fun i x h2 K hx hi hK => ?_) (fun h2 hi => ?_) ⟨Ex.refl.push, at_end⟩
  · obtain ⟨X, hA⟩ := hi
    rw [List.getElem?_map, List.getElem?_map] at hx
    obtain ⟨p, hp, rfl⟩ : ∃ p, ks[i]? = some p ∧ wD p.1 = x := by
      cases hv : ks[i]? with
      | none => rw [hv] at hx; cases hx
      | some v => rw [hv] at hx; exact ⟨v, rfl, Option.some.inj hx⟩
    have pk := List.mem_of_getElem? hp
    refine ⟨X.get hn, _, rfl, ?_⟩
    simp only [dSeq, dIf, dExpr, dRet, dRetN, dNext, dAsg, dNever, eVar, eC, eTup, eLst, aCons, aNil, eOp, eCB, eMt, eCall, eIf, eNotT, eAnd, eOr, eTru, eTst, eNot, eAndV, eOrV, eNeg, eIsi, eChain, gVar, gTupD, gsCons, gsNil, ↓reduceIte, Bool.false_eq_true, Bool.not_true, Bool.not_false, i_tru, i_len, decide_true, decide_false, List.length_map, yes, dFor, dPar, dPar3, eLRg, eSl, oNone, oSome, eDnew, eRev, eSortedKeys, eListKeys, wipeD, tgVar, gSto, eLc, iRng1D, iRng2D, iSeq, eLc2, i_add, i_sub, i_gt, i_le, i_lt, i_ge, i_eq, i_ne, i_int, i_mod, i_fdv, i_mul, i_pow, start1, start2, start3, List.replicate, List.getElem?_cons_zero, List.getElem?_cons_succ, Option.some.injEq, exists_eq_left', List.set, Nat.reduceAdd, List.length_cons, List.length_nil, List.cons.injEq, and_true, true_and, exists_eq_left, exists_and_left, D.tup.injEq, D.int.injEq, D.bl.injEq]
    refine ixA_dct (X.get hn) (keyOk_w p.1) (look_L nd pk) ⟨by decide, eq_nil ((Ex.refl.push (os := _)).get (X.get (ok p pk))) at_end ⟨_, rfl, ?_⟩⟩
    have X2 : Ex h (h2 ++ [DO.lst []]) := X.push
    have A2 : (h2 ++ [DO.lst []])[h.length]? = some (.lst ((((ks.take i).map (·.1)).filter (restB N)).map wD)) := (Ex.refl.push (os := _)).get hA
    generalize h2 ++ [DO.lst []] = h4 at X2 A2 ⊢
    have tn : (ks.take (i + 1)).map (·.1) = (ks.take i).map (·.1) ++ [p.1] := by rw [List.take_add_one, hp, List.map_append]; rfl
    show if restB N p.1 = true then _ else _
    by_cases c : restB N p.1 = true
    · rw [if_pos c]
      refine ⟨_, mlst_of A2, ?_, hK _ ⟨X2.put (Nat.le_refl _), ?_⟩⟩
      · have := List.length_filter_le (restB N) ((ks.take i).map (·.1))
        rw [List.length_map, List.length_take] at this
        rw [List.length_map]; omega
      · rw [get_set A2, tn, List.filter_append]
        have : ([p.1].filter (restB N)) = [p.1] := by simp [c]
        rw [this, List.map_append]; rfl
    · rw [if_neg c]
      refine hK _ ⟨X2, ?_⟩
      have : ([p.1].filter (restB N)) = [] := by simp [c]
      rw [A2, tn, List.filter_append, this, List.append_nil]
  · obtain ⟨X, hA⟩ := hi
    rw [List.length_map, List.length_map, List.take_length] at hA
    have := List.length_filter_le (restB N) (ks.map (·.1))
    have e2 : (ks.map (·.1)).length = ks.length := List.length_map _
    refine ⟨X.get hn, sort_lst hA (by omega) (one_filter (by rw [e2]; exact one)) (q _ _ X.push at_end)⟩
end DL
set_option Elab.async false
set_option linter.all false
set_option maxRecDepth 100000
set_option maxHeartbeats 4000000
namespace DL
open PySem PySem.Spec PyProof.Rows L2
open PySem.W (Frag)
open SB (Rule Book)
/-! ### what goes on, longest -/
theorem unw_of {b : Book} {w : Wd} {ks : List Wd} {h : DH} {n ep : Nat} {Q : VD} {E : DXK} (c : Cm b w ks) (few : ks.length ≤ 1000) (e : h[n]? = some (.dct (gN (nextF b.2) ks) ep))
    (q : ∀ (h' : DH) (m : Nat) (dn : List Wd), Ex h h' → h.length ≤ m → h'[m]? = some (.lst (dn.map wD)) → Topo (nextF b.2) ks dn → Q (.ref m) h') : spUnw [.ref n] h Q E :=
  ⟨nextF b.2, ks, n, ep, rfl, e, c.nd, few, c.closed, fun h' m dn h1 h2 h3 h4 t => q h' m dn ⟨h2, h3⟩ h1 h4 t⟩
def spGoes : DSp := fun ds h Q _ => ∃ (b : Book) (w : Wd), ds = [bookD b, wD w] ∧ Wok b w ∧ ∀ (h' : DH) (ks : List Wd) (g : Bool), Ex h h' → Cm b w ks → (g = true ↔ ¬ ∀ v ∈ ks, Gd (nextF b.2) ks v) → Q (.bl g) h'
theorem sat_goes_on {ds : List D} {h : DH} {Q : VD} {E : DXK} (q : spGoes ds h Q E) : tau_goes_on spUnw spWalk (endsD Q E) (startD 3 ds) h := by
  obtain ⟨b, w, rfl, o, q⟩ := q
  unfold tau_goes_on
  simp only [dSeq, dIf, dExpr, dRet, dRetN, dNext, dAsg, dNever, eVar, eC, eTup, eLst, aCons, aNil, eOp, eCB, eMt, eCall, eIf, eNotT, eAnd, eOr, eTru, eTst, eNot, eAndV, eOrV, eNeg, eIsi, eChain, gVar, gTupD, gsCons, gsNil, ↓reduceIte, Bool.false_eq_true, Bool.not_true, Bool.not_false, i_tru, i_len, decide_true, decide_false, List.length_map, yes, dFor, dPar, dPar3, eLRg, eSl, oNone, oSome, eDnew, eRev, eSortedKeys, eListKeys, wipeD, tgVar, gSto, eLc, iRng1D, iRng2D, iSeq, eLc2, i_add, i_sub, i_gt, i_le, i_lt, i_ge, i_eq, i_ne, i_int, i_mod, i_fdv, i_mul, i_pow, start1, start2, start3, List.replicate, List.getElem?_cons_zero, List.getElem?_cons_succ, Option.some.injEq, exists_eq_left', List.set, Nat.reduceAdd, List.length_cons, List.length_nil, List.cons.injEq, and_true, true_and, exists_eq_left, exists_and_left, D.tup.injEq, D.int.injEq, D.bl.injEq]
  refine walk_of o fun h1 n ep ks X hn e c few => ?_
  refine unw_of c few e fun h2 m dn X2 hm hd t => ?_
  refine lenA_lst (lst_of hd) (lenA_dct (X2.get e) (by rw [List.length_map]; omega) ?_)
  simp only [dSeq, dIf, dExpr, dRet, dRetN, dNext, dAsg, dNever, eVar, eC, eTup, eLst, aCons, aNil, eOp, eCB, eMt, eCall, eIf, eNotT, eAnd, eOr, eTru, eTst, eNot, eAndV, eOrV, eNeg, eIsi, eChain, gVar, gTupD, gsCons, gsNil, ↓reduceIte, Bool.false_eq_true, Bool.not_true, Bool.not_false, i_tru, i_len, decide_true, decide_false, List.length_map, yes, dFor, dPar, dPar3, eLRg, eSl, oNone, oSome, eDnew, eRev, eSortedKeys, eListKeys, wipeD, tgVar, gSto, eLc, iRng1D, iRng2D, iSeq, eLc2, i_add, i_sub, i_gt, i_le, i_lt, i_ge, i_eq, i_ne, i_int, i_mod, i_fdv, i_mul, i_pow, start1, start2, start3, List.replicate, List.getElem?_cons_zero, List.getElem?_cons_succ, Option.some.injEq, exists_eq_left', List.set, Nat.reduceAdd, List.length_cons, List.length_nil, List.cons.injEq, and_true, true_and, exists_eq_left, exists_and_left, D.tup.injEq, D.int.injEq, D.bl.injEq]
  refine q h2 ks _ (X.trans X2) c ?_
  rw [decide_eq_true_eq, ← t.full c.nd]
  omega
def spLongest (C : Addr) : DSp := fun ds h Q E => ∃ (b : Book) (w : Wd), ds = [bookD b, wD w] ∧ Wok b w ∧ ∀ (h' : DH) (ks : List Wd), Ex h h' → Cm b w ks →
  (((∀ v ∈ ks, Gd (nextF b.2) ks v) → ∀ ord, Topo (nextF b.2) ks ord → Q (.int (lngs (nextF b.2) ord (fun _ => 0) w)) h') ∧ ((¬ ∀ v ∈ ks, Gd (nextF b.2) ks v) → E (.ref C) [] h'))
section
variable {N : Wd → List Wd} {ord : List Wd}
theorem lngs_take {i : Nat} {v : Wd} (e : ord[i]? = some v) (f : Wd → Int) (u : Wd) : lngs N (ord.take (i + 1)) f u = if u = v then bst ((N v).map (lngs N (ord.take i) f)) else lngs N (ord.take i) f u := by
  rw [take_next e, lngs_app]; rfl
theorem lngs_pos (vs : List Wd) : ∀ (f : Wd → Int), (∀ u, 0 ≤ f u) → ∀ u, 0 ≤ lngs N vs f u := by
  induction vs with
  | nil => exact fun f h u => h u
  | cons v vs ih =>
    intro f h u
    rw [lngs]
    refine ih _ (fun x => ?_) u
    by_cases c : x = v
    · rw [if_pos c]; exact bst_pos _
    · rw [if_neg c]; exact h x
end
theorem best_at {h : DH} {n : Nat} {xs : List Int} {Q : VD} (e : h[n]? = some (.lst ((xs.map (· + 1)).map .int))) (pos : ∀ x ∈ xs, 0 ≤ x) (q : Q (.int (bst xs)) h) : bestD max (.ref n) (.int 0) h Q := by
  refine ⟨_, lst_of e, ?_⟩
  cases xs with
  | nil => exact q
  | cons x xs =>
    show Q (.int ((xs.map (· + 1)).foldl max (x + 1))) h
    rw [bst_cons x xs (pos x List.mem_cons_self)]
    exact q
theorem sat_longest {C : Addr} {ds : List D} {h : DH} {Q : VD} {E : DXK} (q : spLongest C ds h Q E) : tau_longest spUnw spWalk C (endsD Q E) (startD 7 ds) h := by
  obtain ⟨b, w, rfl, o, q⟩ := q
  unfold tau_longest
  simp only [dSeq, dIf, dExpr, dRet, dRetN, dNext, dAsg, dNever, eVar, eC, eTup, eLst, aCons, aNil, eOp, eCB, eMt, eCall, eIf, eNotT, eAnd, eOr, eTru, eTst, eNot, eAndV, eOrV, eNeg, eIsi, eChain, gVar, gTupD, gsCons, gsNil, ↓reduceIte, Bool.false_eq_true, Bool.not_true, Bool.not_false, i_tru, i_len, decide_true, decide_false, List.length_map, yes, dFor, dPar, dPar3, eLRg, eSl, oNone, oSome, eDnew, eRev, eSortedKeys, eListKeys, wipeD, tgVar, gSto, eLc, iRng1D, iRng2D, iSeq, eLc2, i_add, i_sub, i_gt, i_le, i_lt, i_ge, i_eq, i_ne, i_int, i_mod, i_fdv, i_mul, i_pow, start1, start2, start3, List.replicate, List.getElem?_cons_zero, List.getElem?_cons_succ, Option.some.injEq, exists_eq_left', List.set, Nat.reduceAdd, List.length_cons, List.length_nil, List.cons.injEq, and_true, true_and, exists_eq_left, exists_and_left, D.tup.injEq, D.int.injEq, D.bl.injEq]
  refine walk_of o fun h1 n ep ks X hn e c few => ?_
  refine unw_of c few e fun h2 m dn X2 hm hd t => ?_
  simp only [dSeq, dIf, dExpr, dRet, dRetN, dNext, dAsg, dNever, eVar, eC, eTup, eLst, aCons, aNil, eOp, eCB, eMt, eCall, eIf, eNotT, eAnd, eOr, eTru, eTst, eNot, eAndV, eOrV, eNeg, eIsi, eChain, gVar, gTupD, gsCons, gsNil, ↓reduceIte, Bool.false_eq_true, Bool.not_true, Bool.not_false, i_tru, i_len, decide_true, decide_false, List.length_map, yes, dFor, dPar, dPar3, eLRg, eSl, oNone, oSome, eDnew, eRev, eSortedKeys, eListKeys, wipeD, tgVar, gSto, eLc, iRng1D, iRng2D, iSeq, eLc2, i_add, i_sub, i_gt, i_le, i_lt, i_ge, i_eq, i_ne, i_int, i_mod, i_fdv, i_mul, i_pow, start1, start2, start3, List.replicate, List.getElem?_cons_zero, List.getElem?_cons_succ, Option.some.injEq, exists_eq_left', List.set, Nat.reduceAdd, List.length_cons, List.length_nil, List.cons.injEq, and_true, true_and, exists_eq_left, exists_and_left, D.tup.injEq, D.int.injEq, D.bl.injEq]
  refine lenA_lst (lst_of hd) (lenA_dct (X2.get e) (by rw [List.length_map]; omega) ?_)
  simp only [dSeq, dIf, dExpr, dRet, dRetN, dNext, dAsg, dNever, eVar, eC, eTup, eLst, aCons, aNil, eOp, eCB, eMt, eCall, eIf, eNotT, eAnd, eOr, eTru, eTst, eNot, eAndV, eOrV, eNeg, eIsi, eChain, gVar, gTupD, gsCons, gsNil, ↓reduceIte, Bool.false_eq_true, Bool.not_true, Bool.not_false, i_tru, i_len, decide_true, decide_false, List.length_map, yes, dFor, dPar, dPar3, eLRg, eSl, oNone, oSome, eDnew, eRev, eSortedKeys, eListKeys, wipeD, tgVar, gSto, eLc, iRng1D, iRng2D, iSeq, eLc2, i_add, i_sub, i_gt, i_le, i_lt, i_ge, i_eq, i_ne, i_int, i_mod, i_fdv, i_mul, i_pow, start1, start2, start3, List.replicate, List.getElem?_cons_zero, List.getElem?_cons_succ, Option.some.injEq, exists_eq_left', List.set, Nat.reduceAdd, List.length_cons, List.length_nil, List.cons.injEq, and_true, true_and, exists_eq_left, exists_and_left, D.tup.injEq, D.int.injEq, D.bl.injEq]
  have full := t.full c.nd
  have X12 := X.trans X2
  by_cases lt : dn.length < ks.length
  · rw [decide_eq_true (by omega)]
    refine iT ?_
    simp only [dSeq, dIf, dExpr, dRet, dRetN, dNext, dAsg, dNever, eVar, eC, eTup, eLst, aCons, aNil, eOp, eCB, eMt, eCall, eIf, eNotT, eAnd, eOr, eTru, eTst, eNot, eAndV, eOrV, eNeg, eIsi, eChain, gVar, gTupD, gsCons, gsNil, ↓reduceIte, Bool.false_eq_true, Bool.not_true, Bool.not_false, i_tru, i_len, decide_true, decide_false, List.length_map, yes, dFor, dPar, dPar3, eLRg, eSl, oNone, oSome, eDnew, eRev, eSortedKeys, eListKeys, wipeD, tgVar, gSto, eLc, iRng1D, iRng2D, iSeq, eLc2, i_add, i_sub, i_gt, i_le, i_lt, i_ge, i_eq, i_ne, i_int, i_mod, i_fdv, i_mul, i_pow, start1, start2, start3, List.replicate, List.getElem?_cons_zero, List.getElem?_cons_succ, Option.some.injEq, exists_eq_left', List.set, Nat.reduceAdd, List.length_cons, List.length_nil, List.cons.injEq, and_true, true_and, exists_eq_left, exists_and_left, D.tup.injEq, D.int.injEq, D.bl.injEq, dRaise0]
    exact (q h2 ks X12 c).2 (full.mp lt)
  · rw [decide_eq_false (by omega)]
    refine iF ?_
    have all : ∀ v ∈ ks, Gd (nextF b.2) ks v := Classical.byContradiction fun z => lt (full.mpr z)
    have lk := nd_len _ _ t.nd t.sub
    refine ⟨_, lst_of ((Ex.refl.push (os := _)).get hd), ?_⟩
    have ln2 := (List.getElem?_eq_some_iff.mp hd).1
    refine dLoop_inv _ (fun i env h' => ∃ (a5 a6 : Option D) (ep' : Nat), env = [some (bookD b), some (wD w), some (.ref n), some (.ref m), some (.ref h2.length), a5, a6] ∧ Ex h2 h' ∧ h'[h2.length]? = some (.dct (gI (lngs (nextF b.2) (dn.take i) (fun _ => 0)) (dn.take i)) ep'))
      (fun i x env h3 M hx hi hM => ?_) (fun env h3 hi => ?_) ⟨_, _, 0, rfl, Ex.refl.push, at_end⟩
    · obtain ⟨a5, a6, ep', rfl, X3, hA⟩ := hi
      rw [List.getElem?_map] at hx
      obtain ⟨v, hv, rfl⟩ := Option.map_eq_some_iff.mp hx
      have vk := t.sub v (List.mem_of_getElem? hv)
      have pre := t.pre i v hv
      refine ⟨lst_of (X3.get hd), ?_⟩
      simp only [dSeq, dIf, dExpr, dRet, dRetN, dNext, dAsg, dNever, eVar, eC, eTup, eLst, aCons, aNil, eOp, eCB, eMt, eCall, eIf, eNotT, eAnd, eOr, eTru, eTst, eNot, eAndV, eOrV, eNeg, eIsi, eChain, gVar, gTupD, gsCons, gsNil, ↓reduceIte, Bool.false_eq_true, Bool.not_true, Bool.not_false, i_tru, i_len, decide_true, decide_false, List.length_map, yes, dFor, dPar, dPar3, eLRg, eSl, oNone, oSome, eDnew, eRev, eSortedKeys, eListKeys, wipeD, tgVar, gSto, eLc, iRng1D, iRng2D, iSeq, eLc2, i_add, i_sub, i_gt, i_le, i_lt, i_ge, i_eq, i_ne, i_int, i_mod, i_fdv, i_mul, i_pow, start1, start2, start3, List.replicate, List.getElem?_cons_zero, List.getElem?_cons_succ, Option.some.injEq, exists_eq_left', List.set, Nat.reduceAdd, List.length_cons, List.length_nil, List.cons.injEq, and_true, true_and, exists_eq_left, exists_and_left, D.tup.injEq, D.int.injEq, D.bl.injEq, eMaxd]
      refine ixA_dct (X3.get (X2.get e)) (keyOk_w v) (dv := .tup ((nextF b.2 v).map wD)) (by rw [dlook_map, if_pos vk]) ?_
      dsimp only
      have vl : (nextF b.2 v).length ≤ 1000 := Nat.le_trans (nd_len _ _ (c.closed v vk).1 (c.closed v vk).2) few
      refine cLoop_inv _ (fun j h' => h' = h3 ++ [.lst (((((nextF b.2 v).take j).map (lngs (nextF b.2) (dn.take i) fun _ => 0)).map (· + 1)).map .int)]) (fun j x h4 K hx hi hK => ?_) (fun h4 hi => ?_) (by simp)
      · subst hi
        rw [List.getElem?_map] at hx
        obtain ⟨u, hu, rfl⟩ := Option.map_eq_some_iff.mp hx
        refine ⟨trivial, _, rfl, ?_⟩
        simp only [dSeq, dIf, dExpr, dRet, dRetN, dNext, dAsg, dNever, eVar, eC, eTup, eLst, aCons, aNil, eOp, eCB, eMt, eCall, eIf, eNotT, eAnd, eOr, eTru, eTst, eNot, eAndV, eOrV, eNeg, eIsi, eChain, gVar, gTupD, gsCons, gsNil, ↓reduceIte, Bool.false_eq_true, Bool.not_true, Bool.not_false, i_tru, i_len, decide_true, decide_false, List.length_map, yes, dFor, dPar, dPar3, eLRg, eSl, oNone, oSome, eDnew, eRev, eSortedKeys, eListKeys, wipeD, tgVar, gSto, eLc, iRng1D, iRng2D, iSeq, eLc2, i_add, i_sub, i_gt, i_le, i_lt, i_ge, i_eq, i_ne, i_int, i_mod, i_fdv, i_mul, i_pow, start1, start2, start3, List.replicate, List.getElem?_cons_zero, List.getElem?_cons_succ, Option.some.injEq, exists_eq_left', List.set, Nat.reduceAdd, List.length_cons, List.length_nil, List.cons.injEq, and_true, true_and, exists_eq_left, exists_and_left, D.tup.injEq, D.int.injEq, D.bl.injEq]
        refine ixA_dct ((Ex.refl.push (os := _)).get hA) (keyOk_w u) (dv := .int (lngs (nextF b.2) (dn.take i) (fun _ => 0) u)) (by rw [dlook_map, if_pos (pre u (List.mem_of_getElem? hu))]) ?_
        simp only [dSeq, dIf, dExpr, dRet, dRetN, dNext, dAsg, dNever, eVar, eC, eTup, eLst, aCons, aNil, eOp, eCB, eMt, eCall, eIf, eNotT, eAnd, eOr, eTru, eTst, eNot, eAndV, eOrV, eNeg, eIsi, eChain, gVar, gTupD, gsCons, gsNil, ↓reduceIte, Bool.false_eq_true, Bool.not_true, Bool.not_false, i_tru, i_len, decide_true, decide_false, List.length_map, yes, dFor, dPar, dPar3, eLRg, eSl, oNone, oSome, eDnew, eRev, eSortedKeys, eListKeys, wipeD, tgVar, gSto, eLc, iRng1D, iRng2D, iSeq, eLc2, i_add, i_sub, i_gt, i_le, i_lt, i_ge, i_eq, i_ne, i_int, i_mod, i_fdv, i_mul, i_pow, start1, start2, start3, List.replicate, List.getElem?_cons_zero, List.getElem?_cons_succ, Option.some.injEq, exists_eq_left', List.set, Nat.reduceAdd, List.length_cons, List.length_nil, List.cons.injEq, and_true, true_and, exists_eq_left, exists_and_left, D.tup.injEq, D.int.injEq, D.bl.injEq]
        refine ⟨_, mlst_of at_end, ?_, hK _ ?_⟩
        · rw [List.length_map, List.length_map, List.length_map, List.length_take]; omega
        · rw [set_end, take_next hu, List.map_append, List.map_append, List.map_append]; rfl
      · subst hi
        rw [List.length_map, List.take_length]
        refine ⟨trivial, best_at at_end (fun x hx => ?_) ?_⟩
        · obtain ⟨u, _, rfl⟩ := List.mem_map.mp hx
          exact lngs_pos _ _ (fun _ => Int.le_refl 0) u
        have hA4 := (Ex.refl.push (os := [DO.lst ((((nextF b.2 v).map (lngs (nextF b.2) (dn.take i) fun _ => 0)).map (· + 1)).map .int)])).get hA
        have X4 : Ex h2 (h3 ++ [DO.lst ((((nextF b.2 v).map (lngs (nextF b.2) (dn.take i) fun _ => 0)).map (· + 1)).map .int)]) := X3.push
        generalize h3 ++ [DO.lst ((((nextF b.2 v).map (lngs (nextF b.2) (dn.take i) fun _ => 0)).map (· + 1)).map .int)] = h5 at hA4 X4 ⊢
        refine setA_dct hA4 (keyOk_w v) (by rw [List.length_map, List.length_take]; omega) fun ep2 => hM _ _ ⟨_, _, ep2, rfl, X4.put (Nat.le_refl _), ?_⟩
        rw [get_set hA4]
        have nv := not_in_take t.nd hv
        have e1 : gI (lngs (nextF b.2) (dn.take i) fun _ => 0) (dn.take i) = gI (lngs (nextF b.2) (dn.take (i + 1)) fun _ => 0) (dn.take i) := List.map_congr_left fun u hu => by
          show (wD u, D.int _) = (wD u, D.int _)
          rw [lngs_take hv, if_neg (fun z : u = v => nv (by rw [← z]; exact hu))]
        have e2 : bst ((nextF b.2 v).map (lngs (nextF b.2) (dn.take i) fun _ => 0)) = lngs (nextF b.2) (dn.take (i + 1)) (fun _ => 0) v := by rw [lngs_take hv, if_pos rfl]
        rw [e1, e2]
        have := dput_new (fun v => .int (lngs (nextF b.2) (dn.take (i + 1)) (fun _ => 0) v)) nv
        rw [this, ← take_next hv]
    · obtain ⟨a5, a6, ep', rfl, X3, hA⟩ := hi
      rw [List.length_map, List.take_length] at hA
      refine ⟨lst_of (X3.get hd), ?_⟩
      have wd : w ∈ dn := (t.iff w).mpr (all w ((c.mem w).mpr .self))
      simp only [dSeq, dIf, dExpr, dRet, dRetN, dNext, dAsg, dNever, eVar, eC, eTup, eLst, aCons, aNil, eOp, eCB, eMt, eCall, eIf, eNotT, eAnd, eOr, eTru, eTst, eNot, eAndV, eOrV, eNeg, eIsi, eChain, gVar, gTupD, gsCons, gsNil, ↓reduceIte, Bool.false_eq_true, Bool.not_true, Bool.not_false, i_tru, i_len, decide_true, decide_false, List.length_map, yes, dFor, dPar, dPar3, eLRg, eSl, oNone, oSome, eDnew, eRev, eSortedKeys, eListKeys, wipeD, tgVar, gSto, eLc, iRng1D, iRng2D, iSeq, eLc2, i_add, i_sub, i_gt, i_le, i_lt, i_ge, i_eq, i_ne, i_int, i_mod, i_fdv, i_mul, i_pow, start1, start2, start3, List.replicate, List.getElem?_cons_zero, List.getElem?_cons_succ, Option.some.injEq, exists_eq_left', List.set, Nat.reduceAdd, List.length_cons, List.length_nil, List.cons.injEq, and_true, true_and, exists_eq_left, exists_and_left, D.tup.injEq, D.int.injEq, D.bl.injEq]
      refine ixA_dct hA (keyOk_w w) (dv := .int (lngs (nextF b.2) dn (fun _ => 0) w)) (by rw [dlook_map, if_pos wd]) ?_
      exact (q h3 ks (X12.trans X3) c).1 all dn t
end DL
set_option Elab.async false
set_option linter.all false
set_option maxRecDepth 100000
set_option maxHeartbeats 4000000
namespace DL
open PySem PySem.Spec PyProof.Rows L2
open PySem.W (Frag)
open SB (Rule Book)
/-! ### the law: its end -/
/-- the law's walk, in the heap -/
structure Td (b : Book) (w : Wd) (h : DH) (n : Nat) (ks : List (Wd × Nat)) : Prop where
  d : ∃ ep, h[n]? = some (.dct (grL ks) ep)
  c : Cm b w (ks.map (·.1))
  few : ks.length ≤ 1000
  at_ : ∀ p ∈ ks, h[p.2]? = some (.lst ((nextF b.2 p.1).map wD))
theorem Td.ex {b : Book} {w : Wd} {h h' : DH} {n : Nat} {ks : List (Wd × Nat)} (t : Td b w h n ks) (X : Ex h h') : Td b w h' n ks :=
  ⟨let ⟨ep, e⟩ := t.d; ⟨ep, X.get e⟩, t.c, t.few, fun p hp => X.get (t.at_ p hp)⟩
theorem same_w {h : DH} {n : Nat} {v : Wd} (l : v.length ≤ 100000) : SameD h (n + 1) (wD v) (wD v) :=
  .tup (by rw [List.length_map]; exact l) rfl fun i x y e1 e2 => by
    rw [e1] at e2
    cases e2
    rw [List.getElem?_map] at e1
    obtain ⟨k, _, rfl⟩ := Option.map_eq_some_iff.mp e1
    exact .int _ _
theorem same_ws {h : DH} {a b : Nat} {L : List Wd} (ea : h[a]? = some (.lst (L.map wD))) (eb : h[b]? = some (.lst (L.map wD))) (l : L.length ≤ 100000) (al : ∀ v ∈ L, v.length ≤ 100000) : SameD h 2 (.ref a) (.ref b) :=
  .lst (by rw [List.length_map]; exact l) ea eb rfl fun i x y e1 e2 => by
    rw [e1] at e2
    cases e2
    rw [List.getElem?_map] at e1
    obtain ⟨k, hk, rfl⟩ := Option.map_eq_some_iff.mp e1
    exact same_w (al k (List.mem_of_getElem? hk))
theorem same_ts {h : DH} {L : List Wd} (l : L.length ≤ 100000) (al : ∀ v ∈ L, v.length ≤ 100000) : SameD h 2 (.tup (L.map wD)) (.tup (L.map wD)) :=
  .tup (by rw [List.length_map]; exact l) rfl fun i x y e1 e2 => by
    rw [e1] at e2
    cases e2
    rw [List.getElem?_map] at e1
    obtain ⟨k, hk, rfl⟩ := Option.map_eq_some_iff.mp e1
    exact same_w (al k (List.mem_of_getElem? hk))
theorem max_at {h : DH} {n : Nat} {xs : List Int} {Q : VD} (e : h[n]? = some (.lst ((-1 :: xs).map .int))) (q : Q (.int (xs.foldl max (-1))) h) : cMax [.ref n] h Q := by
  refine ⟨_, lst_of e, by simp, fun m hm al => ?_⟩
  obtain ⟨h1, h2⟩ := fold_mem xs (-1)
  have : m = xs.foldl max (-1) := Int.le_antisymm (h2 m hm) (al _ h1)
  rw [this]
  exact q
abbrev spAl : DSp := spAlike 2
def lawZ : DS := dSeq (dAsg eDnew (gVar 8)) (dSeq (dFor (iSeq (eIf (eTst (eOp dNotN (eVar 6) (eC .non))) (eVar 6) (eLst aNil))) (gVar 9) (dAsg (eOp dAdd (eCB cMax (aCons (eOp dAdd (eLst (aCons (eNeg (eC (.int 1))) aNil)) (eLc (iSeq (eOp dIxA (eVar 5) (eVar 9))) (tgVar 12) yes (eOp dIxA (eVar 8) (eVar 12)) [12])) aNil)) (eC (.int 1))) (gSto (eVar 8) (eVar 9))))
      (dRet (eAndV (eOp dNotN (eVar 6) (eC .non)) (eCall spAl (aCons (eVar 11) (aCons (eOp dIxA (eVar 8) (eVar 4)) aNil))))))
theorem law_end {b : Book} {w : Wd} {h : DH} {Q : VD} {E : DXK} {nT m : Nat} {ks : List (Wd × Nat)} {F : List Wd} {a0 a1 a2 a3 a7 a8 a9 a10 a12 : Option D} {x : Int} (t : Td b w h nT ks) (hF : h[m]? = some (.lst (F.map wD))) (tp : Topo (nextF b.2) (ks.map (·.1)) F) (wF : w ∈ F)
    (ex : x = lngs (nextF b.2) F (fun _ => 0) w) (q : ∀ h', Q (.bl true) h') :
    lawZ (endsD Q E)
      [a0, a1, a2, a3, some (wD w), some (.ref nT), some (.ref m), a7, a8, a9, a10, some (.int x), a12] h := by
  obtain ⟨ep, hd⟩ := t.d
  have e2 : (ks.map (·.1)).length = ks.length := List.length_map _
  have lk := nd_len _ _ tp.nd tp.sub
  have few := t.few
  unfold lawZ
  simp only [dSeq, dIf, dExpr, dRet, dRetN, dNext, dAsg, dNever, eVar, eC, eTup, eLst, aCons, aNil, eOp, eCB, eMt, eCall, eIf, eNotT, eAnd, eOr, eTru, eTst, eNot, eAndV, eOrV, eNeg, eIsi, eChain, gVar, gTupD, gsCons, gsNil, ↓reduceIte, Bool.false_eq_true, Bool.not_true, Bool.not_false, i_tru, i_len, decide_true, decide_false, List.length_map, yes, dFor, dPar, dPar3, eLRg, eSl, oNone, oSome, eDnew, eRev, eSortedKeys, eListKeys, wipeD, tgVar, gSto, eLc, iRng1D, iRng2D, iSeq, eLc2, i_add, i_sub, i_gt, i_le, i_lt, i_ge, i_eq, i_ne, i_int, i_mod, i_fdv, i_mul, i_pow, start1, start2, start3, List.replicate, List.getElem?_cons_zero, List.getElem?_cons_succ, Option.some.injEq, exists_eq_left', List.set, Nat.reduceAdd, List.length_cons, List.length_nil, List.cons.injEq, and_true, true_and, exists_eq_left, exists_and_left, D.tup.injEq, D.int.injEq, D.bl.injEq, dNotN, isNon]
  refine ⟨_, lst_of ((Ex.refl.push (os := _)).get hF), ?_⟩
  refine dLoop_inv _ (fun i env h' => ∃ (a9 a12 : Option D) (ep' : Nat), env = [a0, a1, a2, a3, some (wD w), some (.ref nT), some (.ref m), a7, some (.ref h.length), a9, a10, some (.int x), a12] ∧ Ex h h' ∧ h'[h.length]? = some (.dct (gI (lngs (nextF b.2) (F.take i) (fun _ => 0)) (F.take i)) ep'))
    (fun i z env h3 M hx hi hM => ?_) (fun env h3 hi => ?_) ⟨_, _, 0, rfl, Ex.refl.push, at_end⟩
  · obtain ⟨a9, a12, ep', rfl, X3, hA⟩ := hi
    rw [List.getElem?_map] at hx
    obtain ⟨v, hv, rfl⟩ := Option.map_eq_some_iff.mp hx
    have vk := tp.sub v (List.mem_of_getElem? hv)
    have pre := tp.pre i v hv
    obtain ⟨p, hp, epv⟩ := List.mem_map.mp vk
    have hp' : (v, p.2) ∈ ks := by rw [← epv]; exact hp
    have hl := t.at_ p hp
    rw [epv] at hl
    refine ⟨lst_of (X3.get hF), ?_⟩
    simp only [dSeq, dIf, dExpr, dRet, dRetN, dNext, dAsg, dNever, eVar, eC, eTup, eLst, aCons, aNil, eOp, eCB, eMt, eCall, eIf, eNotT, eAnd, eOr, eTru, eTst, eNot, eAndV, eOrV, eNeg, eIsi, eChain, gVar, gTupD, gsCons, gsNil, ↓reduceIte, Bool.false_eq_true, Bool.not_true, Bool.not_false, i_tru, i_len, decide_true, decide_false, List.length_map, yes, dFor, dPar, dPar3, eLRg, eSl, oNone, oSome, eDnew, eRev, eSortedKeys, eListKeys, wipeD, tgVar, gSto, eLc, iRng1D, iRng2D, iSeq, eLc2, i_add, i_sub, i_gt, i_le, i_lt, i_ge, i_eq, i_ne, i_int, i_mod, i_fdv, i_mul, i_pow, start1, start2, start3, List.replicate, List.getElem?_cons_zero, List.getElem?_cons_succ, Option.some.injEq, exists_eq_left', List.set, Nat.reduceAdd, List.length_cons, List.length_nil, List.cons.injEq, and_true, true_and, exists_eq_left, exists_and_left, D.tup.injEq, D.int.injEq, D.bl.injEq]
    refine ⟨by decide, ixA_dct ((X3.push (os := _)).get hd) (keyOk_w v) (look_L t.c.nd hp') ⟨_, lst_of ((X3.push (os := _)).get hl), ?_⟩⟩
    have vl : (nextF b.2 v).length ≤ 1000 := Nat.le_trans (nd_len _ _ (t.c.closed v vk).1 (t.c.closed v vk).2) (by rw [e2]; exact few)
    have X4 : Ex h (h3 ++ [DO.lst [D.int (-1)]]) := X3.push
    have hA4 : (h3 ++ [DO.lst [D.int (-1)]])[h.length]? = some (.dct (gI (lngs (nextF b.2) (F.take i) (fun _ => 0)) (F.take i)) ep') := (Ex.refl.push (os := _)).get hA
    have hm4 : (h3 ++ [DO.lst [D.int (-1)]])[h3.length]? = some (.lst [.int (-1)]) := at_end
    generalize h3 ++ [DO.lst [D.int (-1)]] = h4 at X4 hA4 hm4 ⊢
    refine cLoop_inv _ (fun j h' => h' = h4 ++ [.lst ((((nextF b.2 v).take j).map (lngs (nextF b.2) (F.take i) fun _ => 0)).map .int)]) (fun j x h5 K hx hi hK => ?_) (fun h5 hi => ?_) (by simp)
    · subst hi
      rw [List.getElem?_map] at hx
      obtain ⟨u, hu, rfl⟩ := Option.map_eq_some_iff.mp hx
      refine ⟨lst_of ((X4.push (os := _)).get hl), _, rfl, ?_⟩
      simp only [dSeq, dIf, dExpr, dRet, dRetN, dNext, dAsg, dNever, eVar, eC, eTup, eLst, aCons, aNil, eOp, eCB, eMt, eCall, eIf, eNotT, eAnd, eOr, eTru, eTst, eNot, eAndV, eOrV, eNeg, eIsi, eChain, gVar, gTupD, gsCons, gsNil, ↓reduceIte, Bool.false_eq_true, Bool.not_true, Bool.not_false, i_tru, i_len, decide_true, decide_false, List.length_map, yes, dFor, dPar, dPar3, eLRg, eSl, oNone, oSome, eDnew, eRev, eSortedKeys, eListKeys, wipeD, tgVar, gSto, eLc, iRng1D, iRng2D, iSeq, eLc2, i_add, i_sub, i_gt, i_le, i_lt, i_ge, i_eq, i_ne, i_int, i_mod, i_fdv, i_mul, i_pow, start1, start2, start3, List.replicate, List.getElem?_cons_zero, List.getElem?_cons_succ, Option.some.injEq, exists_eq_left', List.set, Nat.reduceAdd, List.length_cons, List.length_nil, List.cons.injEq, and_true, true_and, exists_eq_left, exists_and_left, D.tup.injEq, D.int.injEq, D.bl.injEq]
      refine ixA_dct ((Ex.refl.push (os := _)).get hA4) (keyOk_w u) (dv := .int (lngs (nextF b.2) (F.take i) (fun _ => 0) u)) (by rw [dlook_map, if_pos (pre u (List.mem_of_getElem? hu))]) ?_
      refine ⟨_, mlst_of at_end, ?_, hK _ ?_⟩
      · rw [List.length_map, List.length_map, List.length_take]; omega
      · rw [set_end, take_next hu, List.map_append, List.map_append]; rfl
    · subst hi
      rw [List.length_map, List.take_length]
      refine ⟨lst_of ((X4.push (os := _)).get hl), add_lst ((Ex.refl.push (os := _)).get hm4) at_end (by rw [List.length_map, List.length_map]; show 1 + _ ≤ _; omega) ?_⟩
      refine max_at (xs := (nextF b.2 v).map (lngs (nextF b.2) (F.take i) fun _ => 0)) at_end ?_
      simp only [dSeq, dIf, dExpr, dRet, dRetN, dNext, dAsg, dNever, eVar, eC, eTup, eLst, aCons, aNil, eOp, eCB, eMt, eCall, eIf, eNotT, eAnd, eOr, eTru, eTst, eNot, eAndV, eOrV, eNeg, eIsi, eChain, gVar, gTupD, gsCons, gsNil, ↓reduceIte, Bool.false_eq_true, Bool.not_true, Bool.not_false, i_tru, i_len, decide_true, decide_false, List.length_map, yes, dFor, dPar, dPar3, eLRg, eSl, oNone, oSome, eDnew, eRev, eSortedKeys, eListKeys, wipeD, tgVar, gSto, eLc, iRng1D, iRng2D, iSeq, eLc2, i_add, i_sub, i_gt, i_le, i_lt, i_ge, i_eq, i_ne, i_int, i_mod, i_fdv, i_mul, i_pow, start1, start2, start3, List.replicate, List.getElem?_cons_zero, List.getElem?_cons_succ, Option.some.injEq, exists_eq_left', List.set, Nat.reduceAdd, List.length_cons, List.length_nil, List.cons.injEq, and_true, true_and, exists_eq_left, exists_and_left, D.tup.injEq, D.int.injEq, D.bl.injEq]
      have X6 : Ex h (h4 ++ [DO.lst (((nextF b.2 v).map (lngs (nextF b.2) (F.take i) fun _ => 0)).map .int)] ++ [DO.lst ([D.int (-1)] ++ ((nextF b.2 v).map (lngs (nextF b.2) (F.take i) fun _ => 0)).map .int)]) := X4.push.push
      have hA6 : (h4 ++ [DO.lst (((nextF b.2 v).map (lngs (nextF b.2) (F.take i) fun _ => 0)).map .int)] ++ [DO.lst ([D.int (-1)] ++ ((nextF b.2 v).map (lngs (nextF b.2) (F.take i) fun _ => 0)).map .int)])[h.length]? = some (.dct (gI (lngs (nextF b.2) (F.take i) (fun _ => 0)) (F.take i)) ep') := (Ex.refl.push.push (os := _)).get hA4
      generalize h4 ++ [DO.lst (((nextF b.2 v).map (lngs (nextF b.2) (F.take i) fun _ => 0)).map .int)] ++ [DO.lst ([D.int (-1)] ++ ((nextF b.2 v).map (lngs (nextF b.2) (F.take i) fun _ => 0)).map .int)] = h6 at X6 hA6 ⊢
      refine setA_dct hA6 (keyOk_w v) (by rw [List.length_map, List.length_take]; omega) fun ep2 => hM _ _ ⟨_, _, ep2, rfl, X6.put (Nat.le_refl _), ?_⟩
      rw [get_set hA6]
      have nv := not_in_take tp.nd hv
      have e1 : gI (lngs (nextF b.2) (F.take i) fun _ => 0) (F.take i) = gI (lngs (nextF b.2) (F.take (i + 1)) fun _ => 0) (F.take i) := List.map_congr_left fun u hu => by
        show (wD u, D.int _) = (wD u, D.int _)
        rw [lngs_take hv, if_neg (fun z : u = v => nv (by rw [← z]; exact hu))]
      have e2 : ((nextF b.2 v).map (lngs (nextF b.2) (F.take i) fun _ => 0)).foldl max (-1) + 1 = lngs (nextF b.2) (F.take (i + 1)) (fun _ => 0) v := by rw [lngs_take hv, if_pos rfl]; rfl
      rw [e1, e2]
      have := dput_new (fun v => .int (lngs (nextF b.2) (F.take (i + 1)) (fun _ => 0) v)) nv
      rw [this, ← take_next hv]
  · obtain ⟨a9, a12, ep', rfl, X3, hA⟩ := hi
    rw [List.length_map, List.take_length] at hA
    refine ⟨lst_of (X3.get hF), ?_⟩
    simp only [dSeq, dIf, dExpr, dRet, dRetN, dNext, dAsg, dNever, eVar, eC, eTup, eLst, aCons, aNil, eOp, eCB, eMt, eCall, eIf, eNotT, eAnd, eOr, eTru, eTst, eNot, eAndV, eOrV, eNeg, eIsi, eChain, gVar, gTupD, gsCons, gsNil, ↓reduceIte, Bool.false_eq_true, Bool.not_true, Bool.not_false, i_tru, i_len, decide_true, decide_false, List.length_map, yes, dFor, dPar, dPar3, eLRg, eSl, oNone, oSome, eDnew, eRev, eSortedKeys, eListKeys, wipeD, tgVar, gSto, eLc, iRng1D, iRng2D, iSeq, eLc2, i_add, i_sub, i_gt, i_le, i_lt, i_ge, i_eq, i_ne, i_int, i_mod, i_fdv, i_mul, i_pow, start1, start2, start3, List.replicate, List.getElem?_cons_zero, List.getElem?_cons_succ, Option.some.injEq, exists_eq_left', List.set, Nat.reduceAdd, List.length_cons, List.length_nil, List.cons.injEq, and_true, true_and, exists_eq_left, exists_and_left, D.tup.injEq, D.int.injEq, D.bl.injEq, dNotN, isNon]
    refine ixA_dct hA (keyOk_w w) (dv := .int (lngs (nextF b.2) F (fun _ => 0) w)) (by rw [dlook_map, if_pos wF]) ?_
    exact ⟨_, _, rfl, by rw [ex]; exact .int 2 _, fun os => q _⟩
end DL
set_option Elab.async false
set_option linter.all false
set_option maxRecDepth 100000
set_option maxHeartbeats 4000000
namespace DL
open PySem PySem.Spec PyProof.Rows L2
open PySem.W (Frag)
open SB (Rule Book)
/-- what the layers gave -/
def Od (b : Book) (ks : List Wd) (h : DH) (od : D) : Prop := (∃ m F, od = .ref m ∧ h[m]? = some (.lst (F.map wD)) ∧ Topo (nextF b.2) ks F ∧ ∀ v ∈ ks, v ∈ F) ∨ (od = .non ∧ ¬ ∀ v ∈ ks, Gd (nextF b.2) ks v)
theorem Od.ex {b : Book} {ks : List Wd} {h h' : DH} {od : D} (X : Ex h h') (o : Od b ks h od) : Od b ks h' od := o.imp (fun ⟨m, F, e, e2, t, al⟩ => ⟨m, F, e, X.get e2, t, al⟩) id
theorem Topo.congr {N : Wd → List Wd} {a b ord : List Wd} (m : ∀ v, v ∈ a ↔ v ∈ b) (t : Topo N a ord) : Topo N b ord := ⟨t.nd, fun v hv => (m v).mp (t.sub v hv), t.pre, fun v hv h => t.all v ((m v).mpr hv) h⟩
theorem Od.isNon {b : Book} {ks : List Wd} {h : DH} {od : D} (o : Od b ks h od) : DL.isNon od = true ↔ ¬ ∀ v ∈ ks, Gd (nextF b.2) ks v := by
  rcases o with ⟨m, F, rfl, _, t, al⟩ | ⟨rfl, bad⟩
  · exact ⟨fun z => Bool.noConfusion (show false = true from z), fun z => absurd (fun v hv => (t.iff v).mp (al v hv)) z⟩
  · exact ⟨fun _ => bad, fun _ => rfl⟩
theorem Cm.long {b : Book} {w : Wd} {ks : List Wd} (c : Cm b w ks) (eight : w.length ≤ 8) : ∀ v ∈ ks, v.length ≤ 100000 := fun v hv => by
  have := rch_len ((c.mem v).mp hv)
  omega
theorem Cm.perm {b : Book} {w : Wd} {ks as : List Wd} (c : Cm b w ks) (d : Cm b w as) : ks.Perm as := (List.perm_ext_iff_of_nodup c.nd d.nd).mpr fun v => (c.mem v).trans (d.mem v).symm
def lawT (K : Frag) (C C0 : Addr) : DS := dSeq (dTryAs K (.ref C0) 7 (dAsg (eCall (spLongest C) (aCons (eVar 10) (aCons (eVar 4) aNil))) (gVar 11)) (fun a cls => (dRet (eAndV (eIsOwn a cls C (eVar 7)) (eOp dIsN (eVar 6) (eC .non))))))
    lawZ
def lawA (K : Frag) (C C0 : Addr) : DS := dSeq (dIf (eNotT (eTru (eCall spAl (aCons (eCall spAllCome (aCons (eVar 10) (aCons (eVar 4) aNil))) (aCons (eSortedKeys (eVar 5)) aNil))))) (dRet (eC (.bl false))) dNext)
    (dSeq (dIf (eNotT (eTru (eCall spAl (aCons (eCall spRests (aCons (eVar 10) (aCons (eVar 4) aNil))) (aCons (eCall spLast (aCons (eVar 5) aNil)) aNil))))) (dRet (eC (.bl false))) dNext)
    (dSeq (dIf (eNotT (eTru (eCall spAl (aCons (eCall spGoes (aCons (eVar 10) (aCons (eVar 4) aNil))) (aCons (eOp dIsN (eVar 6) (eC .non)) aNil))))) (dRet (eC (.bl false))) dNext)
    (lawT K C C0)))
section
variable {K : Frag} {C C0 : Addr} {b : Book} {w : Wd} {h : DH} {Q : VD} {E : DXK} {nT : Nat} {ks : List (Wd × Nat)} {od : D} {a0 a1 a2 a3 a7 a8 a9 a10 a11 a12 : Option D}
theorem law_try (hK : PySem.W.exmOne K (.ref C) (.ref C0) = some true) (o : Wok b w) (t : Td b w h nT ks) (od_ : Od b (ks.map (·.1)) h od) (q : ∀ h', Q (.bl true) h') :
    lawT K C C0 (endsD Q E)
      [a0, a1, a2, a3, some (wD w), some (.ref nT), some od, a7, a8, a9, some (bookD b), a11, a12] h := by
  unfold lawT dSeq
  dsimp only
  unfold dTryAs
  simp only [dSeq, dIf, dExpr, dRet, dRetN, dNext, dAsg, dNever, eVar, eC, eTup, eLst, aCons, aNil, eOp, eCB, eMt, eCall, eIf, eNotT, eAnd, eOr, eTru, eTst, eNot, eAndV, eOrV, eNeg, eIsi, eChain, gVar, gTupD, gsCons, gsNil, ↓reduceIte, Bool.false_eq_true, Bool.not_true, Bool.not_false, i_tru, i_len, decide_true, decide_false, List.length_map, yes, dFor, dPar, dPar3, eLRg, eSl, oNone, oSome, eDnew, eRev, eSortedKeys, eListKeys, wipeD, tgVar, gSto, eLc, iRng1D, iRng2D, iSeq, eLc2, i_add, i_sub, i_gt, i_le, i_lt, i_ge, i_eq, i_ne, i_int, i_mod, i_fdv, i_mul, i_pow, start1, start2, start3, List.replicate, List.getElem?_cons_zero, List.getElem?_cons_succ, Option.some.injEq, exists_eq_left', List.set, Nat.reduceAdd, List.length_cons, List.length_nil, List.cons.injEq, and_true, true_and, exists_eq_left, exists_and_left, D.tup.injEq, D.int.injEq, D.bl.injEq]
  refine ⟨b, w, rfl, o, fun h' ks' X c => ⟨fun good ord to => ?_, fun bad => ?_⟩⟩
  · have od2 := od_.ex X
    have good2 := (c.bad t.c).mp good
    rcases od2 with ⟨m, F, rfl, hF, tp, al⟩ | ⟨rfl, bad⟩
    · refine law_end (t.ex X) hF tp (al w ((t.c.mem w).mpr .self)) ?_ q
      exact lngs_one (to.congr fun v => (c.mem v).trans (t.c.mem v).symm) tp _ _ ((tp.iff w).mp (al w ((t.c.mem w).mpr .self)))
    · exact absurd good2 bad
  · have bad2 : ¬ ∀ v ∈ ks.map (·.1), Gd (nextF b.2) (ks.map (·.1)) v := fun z => bad ((c.bad t.c).mpr z)
    refine ⟨true, hK, fun _ => ⟨rfl, fun a => ?_⟩, fun z => by cases z⟩
    simp only [dSeq, dIf, dExpr, dRet, dRetN, dNext, dAsg, dNever, eVar, eC, eTup, eLst, aCons, aNil, eOp, eCB, eMt, eCall, eIf, eNotT, eAnd, eOr, eTru, eTst, eNot, eAndV, eOrV, eNeg, eIsi, eChain, gVar, gTupD, gsCons, gsNil, ↓reduceIte, Bool.false_eq_true, Bool.not_true, Bool.not_false, i_tru, i_len, decide_true, decide_false, List.length_map, yes, dFor, dPar, dPar3, eLRg, eSl, oNone, oSome, eDnew, eRev, eSortedKeys, eListKeys, wipeD, tgVar, gSto, eLc, iRng1D, iRng2D, iSeq, eLc2, i_add, i_sub, i_gt, i_le, i_lt, i_ge, i_eq, i_ne, i_int, i_mod, i_fdv, i_mul, i_pow, start1, start2, start3, List.replicate, List.getElem?_cons_zero, List.getElem?_cons_succ, Option.some.injEq, exists_eq_left', List.set, Nat.reduceAdd, List.length_cons, List.length_nil, List.cons.injEq, and_true, true_and, exists_eq_left, exists_and_left, D.tup.injEq, D.int.injEq, D.bl.injEq, eIsOwn, dIsN]
    rw [od_.isNon.mpr bad2]
    exact q _
/-- from the first question on -/
theorem law_asks (hK : PySem.W.exmOne K (.ref C) (.ref C0) = some true) (o : Wok b w) (t : Td b w h nT ks) (od_ : Od b (ks.map (·.1)) h od) (q : ∀ h', Q (.bl true) h') :
    lawA K C C0 (endsD Q E)
      [a0, a1, a2, a3, some (wD w), some (.ref nT), some od, a7, a8, a9, some (bookD b), a11, a12] h := by
  have e2 : (ks.map (·.1)).length = ks.length := List.length_map _
  have few := t.few
  have al := t.c.long o.eight
  have allow : ∀ (ws : List Wd), (∀ v ∈ ws, v ∈ ks.map (·.1)) → ∀ v ∈ sortW ws, v.length ≤ 100000 := fun ws hw v hv => al v (hw v ((sortW_perm ws).mem_iff.mp hv))
  unfold lawA dSeq
  simp only [dSeq, dIf, dExpr, dRet, dRetN, dNext, dAsg, dNever, eVar, eC, eTup, eLst, aCons, aNil, eOp, eCB, eMt, eCall, eIf, eNotT, eAnd, eOr, eTru, eTst, eNot, eAndV, eOrV, eNeg, eIsi, eChain, gVar, gTupD, gsCons, gsNil, ↓reduceIte, Bool.false_eq_true, Bool.not_true, Bool.not_false, i_tru, i_len, decide_true, decide_false, List.length_map, yes, dFor, dPar, dPar3, eLRg, eSl, oNone, oSome, eDnew, eRev, eSortedKeys, eListKeys, wipeD, tgVar, gSto, eLc, iRng1D, iRng2D, iSeq, eLc2, i_add, i_sub, i_gt, i_le, i_lt, i_ge, i_eq, i_ne, i_int, i_mod, i_fdv, i_mul, i_pow, start1, start2, start3, List.replicate, List.getElem?_cons_zero, List.getElem?_cons_succ, Option.some.injEq, exists_eq_left', List.set, Nat.reduceAdd, List.length_cons, List.length_nil, List.cons.injEq, and_true, true_and, exists_eq_left, exists_and_left, D.tup.injEq, D.int.injEq, D.bl.injEq]
  refine ⟨b, w, rfl, o, fun h1 m1 ks1 X1 c1 e1 => ?_⟩
  have t1 := t.ex X1
  obtain ⟨ep1, d1⟩ := t1.d
  have ek : (grL ks).map (·.1) = (ks.map (·.1)).map wD := by rw [List.map_map, List.map_map]; rfl
  have one2 : (∀ x ∈ ks.map (·.1), x ≠ []) ∨ ks.length ≤ 1 := by rw [← e2]; exact t.c.one
  refine ⟨nT, rfl, _, ep1, d1, by rw [ek]; exact can_words2 (by omega) t.c.one, ?_⟩
  rw [ek, sort_words]
  have sl : (sortW (ks.map (·.1))).length ≤ 1000 := by rw [(sortW_perm _).length_eq]; omega
  have e1' := e1
  rw [sortW_same (c1.perm t.c)] at e1'
  refine ⟨_, _, rfl, same_ws ((Ex.refl.push (os := _)).get e1') at_end (by omega) (allow _ fun v hv => hv), fun os1 => ?_⟩
  have X2 : Ex h (h1 ++ [DO.lst ((sortW (ks.map (·.1))).map wD)] ++ os1) := X1.push.push
  generalize h1 ++ [DO.lst ((sortW (ks.map (·.1))).map wD)] ++ os1 = h2 at X2 ⊢
  simp only [dSeq, dIf, dExpr, dRet, dRetN, dNext, dAsg, dNever, eVar, eC, eTup, eLst, aCons, aNil, eOp, eCB, eMt, eCall, eIf, eNotT, eAnd, eOr, eTru, eTst, eNot, eAndV, eOrV, eNeg, eIsi, eChain, gVar, gTupD, gsCons, gsNil, ↓reduceIte, Bool.false_eq_true, Bool.not_true, Bool.not_false, i_tru, i_len, decide_true, decide_false, List.length_map, yes, dFor, dPar, dPar3, eLRg, eSl, oNone, oSome, eDnew, eRev, eSortedKeys, eListKeys, wipeD, tgVar, gSto, eLc, iRng1D, iRng2D, iSeq, eLc2, i_add, i_sub, i_gt, i_le, i_lt, i_ge, i_eq, i_ne, i_int, i_mod, i_fdv, i_mul, i_pow, start1, start2, start3, List.replicate, List.getElem?_cons_zero, List.getElem?_cons_succ, Option.some.injEq, exists_eq_left', List.set, Nat.reduceAdd, List.length_cons, List.length_nil, List.cons.injEq, and_true, true_and, exists_eq_left, exists_and_left, D.tup.injEq, D.int.injEq, D.bl.injEq]
  refine ⟨b, w, rfl, o, fun h3 m3 ks3 X3 c3 e3 => ?_⟩
  have t3 := t.ex (X2.trans X3)
  obtain ⟨ep3, d3⟩ := t3.d
  refine ⟨nextF b.2, ks, nT, ep3, rfl, d3, t.c.nd, few, one2, t3.at_, fun h4 m4 X4 e4 => ?_⟩
  have pf := (c3.perm t.c).filter (restB (nextF b.2))
  rw [sortW_same pf] at e3
  have sl2 : (sortW ((ks.map (·.1)).filter (restB (nextF b.2)))).length ≤ 1000 := by
    rw [(sortW_perm _).length_eq]
    have := List.length_filter_le (restB (nextF b.2)) (ks.map (·.1))
    omega
  refine ⟨_, _, rfl, same_ws (X4.get e3) e4 (by omega) (allow _ fun v hv => (List.mem_filter.mp hv).1), fun os4 => ?_⟩
  have X5 : Ex h (h4 ++ os4) := ((X2.trans X3).trans X4).push
  generalize h4 ++ os4 = h5 at X5 ⊢
  simp only [dSeq, dIf, dExpr, dRet, dRetN, dNext, dAsg, dNever, eVar, eC, eTup, eLst, aCons, aNil, eOp, eCB, eMt, eCall, eIf, eNotT, eAnd, eOr, eTru, eTst, eNot, eAndV, eOrV, eNeg, eIsi, eChain, gVar, gTupD, gsCons, gsNil, ↓reduceIte, Bool.false_eq_true, Bool.not_true, Bool.not_false, i_tru, i_len, decide_true, decide_false, List.length_map, yes, dFor, dPar, dPar3, eLRg, eSl, oNone, oSome, eDnew, eRev, eSortedKeys, eListKeys, wipeD, tgVar, gSto, eLc, iRng1D, iRng2D, iSeq, eLc2, i_add, i_sub, i_gt, i_le, i_lt, i_ge, i_eq, i_ne, i_int, i_mod, i_fdv, i_mul, i_pow, start1, start2, start3, List.replicate, List.getElem?_cons_zero, List.getElem?_cons_succ, Option.some.injEq, exists_eq_left', List.set, Nat.reduceAdd, List.length_cons, List.length_nil, List.cons.injEq, and_true, true_and, exists_eq_left, exists_and_left, D.tup.injEq, D.int.injEq, D.bl.injEq]
  refine ⟨b, w, rfl, o, fun h6 ks6 g X6 c6 hg => ?_⟩
  have X7 := X5.trans X6
  have od7 := od_.ex X7
  simp only [dSeq, dIf, dExpr, dRet, dRetN, dNext, dAsg, dNever, eVar, eC, eTup, eLst, aCons, aNil, eOp, eCB, eMt, eCall, eIf, eNotT, eAnd, eOr, eTru, eTst, eNot, eAndV, eOrV, eNeg, eIsi, eChain, gVar, gTupD, gsCons, gsNil, ↓reduceIte, Bool.false_eq_true, Bool.not_true, Bool.not_false, i_tru, i_len, decide_true, decide_false, List.length_map, yes, dFor, dPar, dPar3, eLRg, eSl, oNone, oSome, eDnew, eRev, eSortedKeys, eListKeys, wipeD, tgVar, gSto, eLc, iRng1D, iRng2D, iSeq, eLc2, i_add, i_sub, i_gt, i_le, i_lt, i_ge, i_eq, i_ne, i_int, i_mod, i_fdv, i_mul, i_pow, start1, start2, start3, List.replicate, List.getElem?_cons_zero, List.getElem?_cons_succ, Option.some.injEq, exists_eq_left', List.set, Nat.reduceAdd, List.length_cons, List.length_nil, List.cons.injEq, and_true, true_and, exists_eq_left, exists_and_left, D.tup.injEq, D.int.injEq, D.bl.injEq, dIsN]
  have eg : g = isNon od := by
    have z : g = true ↔ isNon od = true := (hg.trans (not_congr (c6.bad t.c))).trans od7.isNon.symm
    cases g <;> cases h0 : isNon od <;> simp_all
  refine ⟨_, _, rfl, by rw [eg]; exact .bl 2 _, fun os7 => ?_⟩
  simp only [dSeq, dIf, dExpr, dRet, dRetN, dNext, dAsg, dNever, eVar, eC, eTup, eLst, aCons, aNil, eOp, eCB, eMt, eCall, eIf, eNotT, eAnd, eOr, eTru, eTst, eNot, eAndV, eOrV, eNeg, eIsi, eChain, gVar, gTupD, gsCons, gsNil, ↓reduceIte, Bool.false_eq_true, Bool.not_true, Bool.not_false, i_tru, i_len, decide_true, decide_false, List.length_map, yes, dFor, dPar, dPar3, eLRg, eSl, oNone, oSome, eDnew, eRev, eSortedKeys, eListKeys, wipeD, tgVar, gSto, eLc, iRng1D, iRng2D, iSeq, eLc2, i_add, i_sub, i_gt, i_le, i_lt, i_ge, i_eq, i_ne, i_int, i_mod, i_fdv, i_mul, i_pow, start1, start2, start3, List.replicate, List.getElem?_cons_zero, List.getElem?_cons_succ, Option.some.injEq, exists_eq_left', List.set, Nat.reduceAdd, List.length_cons, List.length_nil, List.cons.injEq, and_true, true_and, exists_eq_left, exists_and_left, D.tup.injEq, D.int.injEq, D.bl.injEq]
  exact law_try hK o (t.ex X7.push) (od7.ex Ex.refl.push) q
end
end DL
set_option Elab.async false
set_option linter.all false
set_option maxRecDepth 100000
set_option maxHeartbeats 4000000
namespace DL
open PySem PySem.Spec PyProof.Rows L2
open PySem.W (Frag)
open SB (Rule Book)
theorem law_eq (K : Frag) (C C0 : Addr) : tau_law spAl spBook spLast spLayers spLetters spLSteps spTk spLWalk spAllCome spGoes (spLongest C) spSteps spRests K C C0 = dSeq (dAsg (eLst (aCons (eVar 0) (aCons (eC (.int 0)) (aCons (eC (.int 10400)) (aCons (eC (.int 0)) aNil))))) (gVar 1))
    (dSeq (dPar 10 11 (aCons (eCall spBook (aCons (eVar 1) (aCons (eC (.int 3)) (aCons (eC (.int 3)) aNil)))) (aCons (eC .non) aNil)))
    (dSeq (dAsg (eCall spBook (aCons (eVar 1) (aCons (eC (.int 4)) (aCons (eC (.int 3)) aNil)))) (gVar 2))
    (dSeq (dAsg (eCall spLetters (aCons (eVar 1) (aCons (eOp dIxA (eVar 2) (eC (.int 0))) (aCons (eCall spTk (aCons (eVar 1) (aCons (eC (.int 9)) aNil))) aNil)))) (gVar 3))
    (dSeq (dIf (eNotT (eTru (eCall spAl (aCons (eCall spSteps (aCons (eVar 2) (aCons (eVar 3) aNil))) (aCons (eCB cTup (aCons (eCall spLSteps (aCons (eVar 2) (aCons (eVar 3) aNil))) aNil)) aNil))))) (dRet (eC (.bl false))) dNext)
    (dSeq (dAsg (eCall spLetters (aCons (eVar 1) (aCons (eOp dIxA (eVar 10) (eC (.int 0))) (aCons (eCall spTk (aCons (eVar 1) (aCons (eC (.int 5)) aNil))) aNil)))) (gVar 4))
    (dSeq (dAsg (eCall spLWalk (aCons (eVar 10) (aCons (eVar 4) aNil))) (gVar 5))
    (dSeq (dAsg (eCall spLayers (aCons (eVar 5) aNil)) (gVar 6))
    (lawA K C C0)))))))) := rfl
theorem Up.ex {r : Nat} {h h' : DH} (u : Up r h h') (hr : h.length ≤ r) : Ex h h' := ⟨u.len, fun k hk => u.at' k hk (by omega)⟩
/-- the law's promise -/
def spLaw : DSp := fun ds h Q _ => ∃ (s : Nat) (ns : List Int), ds = [.ref s] ∧ lstOf h s = some (ns.map .int) ∧ ∀ h', Q (.bl true) h'
theorem sat_law {K : Frag} {C C0 : Addr} (hK : PySem.W.exmOne K (.ref C) (.ref C0) = some true) {ds : List D} {h : DH} {Q : VD} {E : DXK} (q : spLaw ds h Q E) : tau_law spAl spBook spLast spLayers spLetters spLSteps spTk spLWalk spAllCome spGoes (spLongest C) spSteps spRests K C C0 (endsD Q E) (startD 13 ds) h := by
  obtain ⟨s, ns, rfl, hs, q⟩ := q
  have ls := lstOf_lt hs
  rw [law_eq]
  simp only [dSeq, dIf, dExpr, dRet, dRetN, dNext, dAsg, dNever, eVar, eC, eTup, eLst, aCons, aNil, eOp, eCB, eMt, eCall, eIf, eNotT, eAnd, eOr, eTru, eTst, eNot, eAndV, eOrV, eNeg, eIsi, eChain, gVar, gTupD, gsCons, gsNil, ↓reduceIte, Bool.false_eq_true, Bool.not_true, Bool.not_false, i_tru, i_len, decide_true, decide_false, List.length_map, yes, dFor, dPar, dPar3, eLRg, eSl, oNone, oSome, eDnew, eRev, eSortedKeys, eListKeys, wipeD, tgVar, gSto, eLc, iRng1D, iRng2D, iSeq, eLc2, i_add, i_sub, i_gt, i_le, i_lt, i_ge, i_eq, i_ne, i_int, i_mod, i_fdv, i_mul, i_pow, start1, start2, start3, List.replicate, List.getElem?_cons_zero, List.getElem?_cons_succ, Option.some.injEq, exists_eq_left', List.set, Nat.reduceAdd, List.length_cons, List.length_nil, List.cons.injEq, and_true, true_and, exists_eq_left, exists_and_left, D.tup.injEq, D.int.injEq, D.bl.injEq]
  refine ⟨by decide, ?_⟩
  have dr : Dr (h ++ [DO.lst [.ref s, .int 0, .int 10400, .int 0]]) h.length s ns := ⟨0, 10400, 0, at_end, by rw [lstOf_eq (List.getElem?_append_left ls)]; exact hs, by omega, by decide, by decide, by decide⟩
  generalize h ++ [DO.lst [.ref s, .int 0, .int 10400, .int 0]] = h0 at dr ⊢
  refine ⟨h.length, s, ns, 3, 3, rfl, dr, by decide, by decide, by decide, by decide, fun b h1 okb b2 b3 bl bf u1 d1 => ?_⟩
  refine ⟨_, _, ⟨rfl, rfl⟩, ?_⟩
  refine ⟨h.length, s, ns, 4, 3, rfl, d1, by decide, by decide, by decide, by decide, fun wb h2 okw w2 w3 wl wf u2 d2 => ?_⟩
  simp only [dSeq, dIf, dExpr, dRet, dRetN, dNext, dAsg, dNever, eVar, eC, eTup, eLst, aCons, aNil, eOp, eCB, eMt, eCall, eIf, eNotT, eAnd, eOr, eTru, eTst, eNot, eAndV, eOrV, eNeg, eIsi, eChain, gVar, gTupD, gsCons, gsNil, ↓reduceIte, Bool.false_eq_true, Bool.not_true, Bool.not_false, i_tru, i_len, decide_true, decide_false, List.length_map, yes, dFor, dPar, dPar3, eLRg, eSl, oNone, oSome, eDnew, eRev, eSortedKeys, eListKeys, wipeD, tgVar, gSto, eLc, iRng1D, iRng2D, iSeq, eLc2, i_add, i_sub, i_gt, i_le, i_lt, i_ge, i_eq, i_ne, i_int, i_mod, i_fdv, i_mul, i_pow, start1, start2, start3, List.replicate, List.getElem?_cons_zero, List.getElem?_cons_succ, Option.some.injEq, exists_eq_left', List.set, Nat.reduceAdd, List.length_cons, List.length_nil, List.cons.injEq, and_true, true_and, exists_eq_left, exists_and_left, D.tup.injEq, D.int.injEq, D.bl.injEq]
  refine ixA_tup (v := .int wb.1) rfl ?_
  refine ⟨h.length, s, ns, 9, rfl, d2, by decide, by decide, fun n9 h3 n0 n1 u3 l3 d3 => ?_⟩
  refine ⟨h.length, s, ns, wb.1, n9, rfl, d3, by omega, by omega, n0, by omega, fun long h4 ll al4 u4 d4 => ?_⟩
  simp only [dSeq, dIf, dExpr, dRet, dRetN, dNext, dAsg, dNever, eVar, eC, eTup, eLst, aCons, aNil, eOp, eCB, eMt, eCall, eIf, eNotT, eAnd, eOr, eTru, eTst, eNot, eAndV, eOrV, eNeg, eIsi, eChain, gVar, gTupD, gsCons, gsNil, ↓reduceIte, Bool.false_eq_true, Bool.not_true, Bool.not_false, i_tru, i_len, decide_true, decide_false, List.length_map, yes, dFor, dPar, dPar3, eLRg, eSl, oNone, oSome, eDnew, eRev, eSortedKeys, eListKeys, wipeD, tgVar, gSto, eLc, iRng1D, iRng2D, iSeq, eLc2, i_add, i_sub, i_gt, i_le, i_lt, i_ge, i_eq, i_ne, i_int, i_mod, i_fdv, i_mul, i_pow, start1, start2, start3, List.replicate, List.getElem?_cons_zero, List.getElem?_cons_succ, Option.some.injEq, exists_eq_left', List.set, Nat.reduceAdd, List.length_cons, List.length_nil, List.cons.injEq, and_true, true_and, exists_eq_left, exists_and_left, D.tup.injEq, D.int.injEq, D.bl.injEq]
  refine ⟨wb, long, rfl, okw, by omega, by omega, al4, fun os5 => ?_⟩
  have d5 := d4.new (os := os5)
  generalize h4 ++ os5 = h5 at d5 ⊢
  refine ⟨wb, long, rfl, by omega, fun p hp => ⟨(okw.each p hp).one, (okw.each p hp).same, (okw.each p hp).three⟩, by omega, fun os6 => ?_⟩
  have d6 := (d5.new (os := os6)).new (os := [DO.lst ((nextF wb.2 long).map wD)])
  have lst6 : (h5 ++ os6 ++ [DO.lst ((nextF wb.2 long).map wD)])[h5.length + os6.length]? = some (.lst ((nextF wb.2 long).map wD)) := by rw [← List.length_append]; exact at_end
  generalize h5 ++ os6 ++ [DO.lst ((nextF wb.2 long).map wD)] = h6 at d6 lst6 ⊢
  refine ⟨_, lst_of lst6, ?_⟩
  have nl := nextF_le (rs := wb.2) (v := long) (by omega) (by omega) fun p hp => ⟨(okw.each p hp).one, (okw.each p hp).same, (okw.each p hp).three⟩
  refine ⟨_, _, rfl, same_ts (by omega) (fun v hv => by have := next_len' hv; omega), fun os7 => ?_⟩
  have d7 := d6.new (os := os7)
  generalize h6 ++ os7 = h7 at d7 ⊢
  simp only [dSeq, dIf, dExpr, dRet, dRetN, dNext, dAsg, dNever, eVar, eC, eTup, eLst, aCons, aNil, eOp, eCB, eMt, eCall, eIf, eNotT, eAnd, eOr, eTru, eTst, eNot, eAndV, eOrV, eNeg, eIsi, eChain, gVar, gTupD, gsCons, gsNil, ↓reduceIte, Bool.false_eq_true, Bool.not_true, Bool.not_false, i_tru, i_len, decide_true, decide_false, List.length_map, yes, dFor, dPar, dPar3, eLRg, eSl, oNone, oSome, eDnew, eRev, eSortedKeys, eListKeys, wipeD, tgVar, gSto, eLc, iRng1D, iRng2D, iSeq, eLc2, i_add, i_sub, i_gt, i_le, i_lt, i_ge, i_eq, i_ne, i_int, i_mod, i_fdv, i_mul, i_pow, start1, start2, start3, List.replicate, List.getElem?_cons_zero, List.getElem?_cons_succ, Option.some.injEq, exists_eq_left', List.set, Nat.reduceAdd, List.length_cons, List.length_nil, List.cons.injEq, and_true, true_and, exists_eq_left, exists_and_left, D.tup.injEq, D.int.injEq, D.bl.injEq]
  refine ixA_tup (v := .int b.1) rfl ?_
  refine ⟨h.length, s, ns, 5, rfl, d7, by decide, by decide, fun n5 h8 m0 m1 u8 l8 d8 => ?_⟩
  refine ⟨h.length, s, ns, b.1, n5, rfl, d8, by omega, by omega, m0, by omega, fun w h9 lw al9 u9 d9 => ?_⟩
  have okr : ∀ p ∈ b.2, 1 ≤ p.1.length ∧ p.1.length = p.2.length ∧ p.1.length ≤ 3 := fun p hp => ⟨(okb.each p hp).one, (okb.each p hp).same, (okb.each p hp).three⟩
  have few : b.1.toNat ^ w.length ≤ 1000 := by
    have h1 : b.1.toNat ≤ 4 := by omega
    have h2 : w.length ≤ 4 := by omega
    exact Nat.le_trans (Nat.pow_le_pow_left h1 _) (Nat.le_trans (Nat.pow_le_pow_right (by decide) h2) (by decide))
  have o : Wok b w := ⟨okb, by omega, by omega, al9, few⟩
  refine ⟨b, w, b.1.toNat ^ w.length, rfl, by omega, okr, by omega, few, fun ks nd m => rch_few okb al9 ks nd m, fun h10 ep ks k1 k2 hd nd at_ mem => ?_⟩
  have kl : ks.length ≤ 1000 := by
    have := rch_few okb al9 (ks.map (·.1)) nd fun v hv => (mem v).mp hv
    rw [List.length_map] at this
    omega
  have t : Td b w h10 h9.length ks := ⟨⟨ep, hd⟩, ⟨nd, mem⟩, kl, fun p hp => (at_ p hp).2⟩
  simp only [dSeq, dIf, dExpr, dRet, dRetN, dNext, dAsg, dNever, eVar, eC, eTup, eLst, aCons, aNil, eOp, eCB, eMt, eCall, eIf, eNotT, eAnd, eOr, eTru, eTst, eNot, eAndV, eOrV, eNeg, eIsi, eChain, gVar, gTupD, gsCons, gsNil, ↓reduceIte, Bool.false_eq_true, Bool.not_true, Bool.not_false, i_tru, i_len, decide_true, decide_false, List.length_map, yes, dFor, dPar, dPar3, eLRg, eSl, oNone, oSome, eDnew, eRev, eSortedKeys, eListKeys, wipeD, tgVar, gSto, eLc, iRng1D, iRng2D, iSeq, eLc2, i_add, i_sub, i_gt, i_le, i_lt, i_ge, i_eq, i_ne, i_int, i_mod, i_fdv, i_mul, i_pow, start1, start2, start3, List.replicate, List.getElem?_cons_zero, List.getElem?_cons_succ, Option.some.injEq, exists_eq_left', List.set, Nat.reduceAdd, List.length_cons, List.length_nil, List.cons.injEq, and_true, true_and, exists_eq_left, exists_and_left, D.tup.injEq, D.int.injEq, D.bl.injEq]
  refine ⟨nextF b.2, ks, h9.length, ep, rfl, hd, nd, kl, fun p hp => ⟨(at_ p hp).2, ?_, fun u hu => ?_⟩, fun h11 m F X hF tp all => ?_, fun h11 X bad => ?_⟩
  · have hv := rch_len ((mem p.1).mp (List.mem_map.mpr ⟨p, hp, rfl⟩))
    exact nextF_le (by omega) (by omega) okr
  · exact (mem u).mpr (.step ((mem p.1).mp (List.mem_map.mpr ⟨p, hp, rfl⟩)) hu)
  · simp only [dSeq, dIf, dExpr, dRet, dRetN, dNext, dAsg, dNever, eVar, eC, eTup, eLst, aCons, aNil, eOp, eCB, eMt, eCall, eIf, eNotT, eAnd, eOr, eTru, eTst, eNot, eAndV, eOrV, eNeg, eIsi, eChain, gVar, gTupD, gsCons, gsNil, ↓reduceIte, Bool.false_eq_true, Bool.not_true, Bool.not_false, i_tru, i_len, decide_true, decide_false, List.length_map, yes, dFor, dPar, dPar3, eLRg, eSl, oNone, oSome, eDnew, eRev, eSortedKeys, eListKeys, wipeD, tgVar, gSto, eLc, iRng1D, iRng2D, iSeq, eLc2, i_add, i_sub, i_gt, i_le, i_lt, i_ge, i_eq, i_ne, i_int, i_mod, i_fdv, i_mul, i_pow, start1, start2, start3, List.replicate, List.getElem?_cons_zero, List.getElem?_cons_succ, Option.some.injEq, exists_eq_left', List.set, Nat.reduceAdd, List.length_cons, List.length_nil, List.cons.injEq, and_true, true_and, exists_eq_left, exists_and_left, D.tup.injEq, D.int.injEq, D.bl.injEq]
    exact law_asks hK o (t.ex X) (.inl ⟨m, F, rfl, hF, tp, all⟩) q
  · simp only [dSeq, dIf, dExpr, dRet, dRetN, dNext, dAsg, dNever, eVar, eC, eTup, eLst, aCons, aNil, eOp, eCB, eMt, eCall, eIf, eNotT, eAnd, eOr, eTru, eTst, eNot, eAndV, eOrV, eNeg, eIsi, eChain, gVar, gTupD, gsCons, gsNil, ↓reduceIte, Bool.false_eq_true, Bool.not_true, Bool.not_false, i_tru, i_len, decide_true, decide_false, List.length_map, yes, dFor, dPar, dPar3, eLRg, eSl, oNone, oSome, eDnew, eRev, eSortedKeys, eListKeys, wipeD, tgVar, gSto, eLc, iRng1D, iRng2D, iSeq, eLc2, i_add, i_sub, i_gt, i_le, i_lt, i_ge, i_eq, i_ne, i_int, i_mod, i_fdv, i_mul, i_pow, start1, start2, start3, List.replicate, List.getElem?_cons_zero, List.getElem?_cons_succ, Option.some.injEq, exists_eq_left', List.set, Nat.reduceAdd, List.length_cons, List.length_nil, List.cons.injEq, and_true, true_and, exists_eq_left, exists_and_left, D.tup.injEq, D.int.injEq, D.bl.injEq]
    exact law_asks hK o (t.ex X) (.inr ⟨rfl, bad⟩) q
end DL
set_option Elab.async false
set_option linter.all false
set_option maxRecDepth 100000
set_option maxHeartbeats 4000000
namespace DL
open PySem PySem.Spec PyProof.Rows L2
open PySem.W (Frag)
theorem rvs_of_ints {K : Frag} {H : Hp} {μ : List Addr} : ∀ ns : List Int, RVs K H μ (ns.map V.int) (ns.map D.int)
  | [] => .nil
  | n :: ns => .cons (.int n) (rvs_of_ints ns)
/-- the law's call: its script, as a list that may be locked or lie in the fragment -/
theorem law_entry {P : Program} {w : World} {K : Frag} {T : List Addr} {H : Hp} {a : Addr} {ns : List Int} (tab : ∀ p ∈ T, GxR.TabG H p) (hS : SqL K H a (ns.map V.int)) : spL ⟨P, w, K, T⟩ spLaw [.ref a] H (fun v _ => v = .bl true) fun _ _ _ => False := by
  have out : ∀ o : DO, (∀ n : Nat, n = 0 → lstOf [o] n = some (ns.map .int)) → RelH ⟨P, w, K, T⟩ H [a] [o] → spL ⟨P, w, K, T⟩ spLaw [.ref a] H (fun v _ => v = .bl true) fun _ _ _ => False := fun o hl r =>
    ⟨[a], [o], [.ref 0], fun d _ => d = .bl true, fun _ _ _ => False, r, .cons (.ref rfl) .nil, ⟨0, ns, rfl, hl 0 rfl, fun _ => rfl⟩,
      fun d h' v H' μ' e _ _ rv => by subst e; exact rv.inv_bl, fun _ _ _ _ _ _ z => z.elim⟩
  have mk : ∀ o : DO, RO ⟨P, w, K, T⟩ H [a] a o → RelH ⟨P, w, K, T⟩ H [a] [o] := fun o q => by
    refine ⟨rfl, fun i j _ _ _ hi hj _ _ _ _ => ?_, tab, fun n b u h1 h2 => ?_⟩
    · have h1 := (List.getElem?_eq_some_iff.mp hi).1
      have h2 := (List.getElem?_eq_some_iff.mp hj).1
      simp at h1 h2
      omega
    · have l := (List.getElem?_eq_some_iff.mp h1).1
      have e : n = 0 := by simp at l; omega
      subst e
      cases h1; cases h2
      exact q
  rcases hS with (h | ⟨o, h⟩) | ⟨o, its, n, h⟩
  · exact out (.lst (ns.map .int)) (fun n e => by subst e; rfl) (mk _ ⟨_, h, rvs_of_ints ns⟩)
  · exact out (.fl (ns.map .int)) (fun n e => by subst e; rfl) (mk _ ⟨_, rvs_of_ints ns, .inl ⟨o, h⟩⟩)
  · exact out (.fl (ns.map .int)) (fun n e => by subst e; rfl) (mk _ ⟨_, rvs_of_ints ns, .inr ⟨o, its, n, h⟩⟩)
end DL
set_option Elab.async false
set_option linter.all false
set_option maxRecDepth 100000
set_option maxHeartbeats 4000000
/-! From the start-up to the law. -/
namespace DL
open PySem PySem.Spec PyProof.Rows L2
open PySem.W (Frag)
theorem code_at {K : Frag} {x : Str} {st : Stmt} {fd : FuncData} (F : FnP K x st (He.fAd K (x, none)) fd) : fd.code = .ref (He.codeOf K (x, none)) := by
  obtain ⟨oc, od, dV, kV, doc, pm, an, cdv, ct, osl, rfl, lk, hcd, _⟩ := F.ex
  obtain ⟨c, rfl⟩ := He.codeIn_ref hcd
  rw [He.codeOf_eq lk rfl]
/-- a def's address, its words, its place in the names -/
structure Def (K : Frag) (mg : Str → Option Value) (x : Str) (st : Stmt) (f : Addr) (fd : FuncData) : Prop where
  w : FnP K x st f fd
  m : mg x = some (.ref f)
theorem def_of {K : Frag} {h : Heap} {mg : Str → Option Value} (X : K.In h) (Gm : h.Ns mainGlobals mg) (c : He.SaysD fa fn K) {x : Str} {i : Nat} (h1 : defD x i ∈ fn) (h2 : He.Fa.glo x ∈ fa) : ∃ fd, Def K mg x (top i) (He.fAd K (x, none)) fd := by
  obtain ⟨fd, F⟩ := c.defs h1
  exact ⟨fd, F, He.glo_ok X Gm (c.facts h2)⟩
theorem b1 {K : Frag} {x a : Str} {st : Stmt} {f : Addr} {fd : FuncData} (F : FnP K x st f fd) (h : ∀ (kV doc pm : Value) (an : Option Addr) (cdv ct : Value) (u : Value), bindArgs (PySem.W.fnOf x x (defArgs st) (defBody st) (defScope st) .none kV doc pm an cdv ct) ⟨[u], []⟩ = pure [(a, u)]) : Binds K fd [a] [] :=
  F.bindsN fun kV doc pm an cdv ct us hl => match us, hl with | [u], _ => h kV doc pm an cdv ct u
theorem b2 {K : Frag} {x a b : Str} {st : Stmt} {f : Addr} {fd : FuncData} (F : FnP K x st f fd) (h : ∀ (kV doc pm : Value) (an : Option Addr) (cdv ct : Value) (u v : Value), bindArgs (PySem.W.fnOf x x (defArgs st) (defBody st) (defScope st) .none kV doc pm an cdv ct) ⟨[u, v], []⟩ = pure [(a, u), (b, v)]) : Binds K fd [a, b] [] :=
  F.bindsN fun kV doc pm an cdv ct us hl => match us, hl with | [u, v], _ => h kV doc pm an cdv ct u v
theorem b3 {K : Frag} {x a b c : Str} {st : Stmt} {f : Addr} {fd : FuncData} (F : FnP K x st f fd) (h : ∀ (kV doc pm : Value) (an : Option Addr) (cdv ct : Value) (u v z : Value), bindArgs (PySem.W.fnOf x x (defArgs st) (defBody st) (defScope st) .none kV doc pm an cdv ct) ⟨[u, v, z], []⟩ = pure [(a, u), (b, v), (c, z)]) : Binds K fd [a, b, c] [] :=
  F.bindsN fun kV doc pm an cdv ct us hl => match us, hl with | [u, v, z], _ => h kV doc pm an cdv ct u v z
theorem b4 {K : Frag} {x a b c d : Str} {st : Stmt} {f : Addr} {fd : FuncData} (F : FnP K x st f fd) (h : ∀ (kV doc pm : Value) (an : Option Addr) (cdv ct : Value) (u v z y : Value), bindArgs (PySem.W.fnOf x x (defArgs st) (defBody st) (defScope st) .none kV doc pm an cdv ct) ⟨[u, v, z, y], []⟩ = pure [(a, u), (b, v), (c, z), (d, y)]) : Binds K fd [a, b, c, d] [] :=
  F.bindsN fun kV doc pm an cdv ct us hl => match us, hl with | [u, v, z, y], _ => h kV doc pm an cdv ct u v z y
theorem b5 {K : Frag} {x a b c d e : Str} {st : Stmt} {f : Addr} {fd : FuncData} (F : FnP K x st f fd) (h : ∀ (kV doc pm : Value) (an : Option Addr) (cdv ct : Value) (u v z y t : Value), bindArgs (PySem.W.fnOf x x (defArgs st) (defBody st) (defScope st) .none kV doc pm an cdv ct) ⟨[u, v, z, y, t], []⟩ = pure [(a, u), (b, v), (c, z), (d, y), (e, t)]) : Binds K fd [a, b, c, d, e] [] :=
  F.bindsN fun kV doc pm an cdv ct us hl => match us, hl with | [u, v, z, y, t], _ => h kV doc pm an cdv ct u v z y t
theorem fnOk_of {g : G} {mg : Str → Option Value} {base : Heap} {x qual : Str} {params : Arguments} {body : List Stmt} {scope : Scope} {f : Addr} {fd : FuncData} {N ps : List Str} {k : Nat} {sp : DSp}
    (F : FunD g.K x qual params body scope [] [] f fd) (S : FnScope N ps scope) (len : ∀ ds h Q E, sp ds h Q E → ds.length = ps.length)
    (hbody : ∃ τ : DS, (∀ (cdv : Value) (A : Around) (outer : List PySem.Env) (s : Shared) (H : Hp) (E : XK), g.K = g.K → Room k (A.deeper (envOfC qual scope s.heap.objs.size f cdv)) → PDSs (cxD g mg base N qual scope f cdv A outer s H E) g.T (fun cls d _ H' => E cls d H') body τ) ∧
      ∀ ds h Q E, sp ds h Q E → τ { nx := fun _ h' => Q .non h', rt := Q, xc := fun c fs _ h' => E c fs h' } (startD N.length ds) h) :
    FnOk g.P g.w g.K mg base (L2.CX g.P g.w) (k + 1) f fd ps (spL g sp) := by
  obtain ⟨τ, hd, hq⟩ := hbody
  refine F.ok S (fun vs H Q E ⟨μ, h, ds, Q0, E0, r, rv, q, _⟩ => by rw [rv.length]; exact len _ _ _ _ q) (fun cdv A outer s H vs Q E hr ⟨μ, h, ds, Q0, E0, r, rv, q, p, pe⟩ => ?_)
  refine ⟨_, hd cdv A outer s H E rfl hr, μ, _, h, _, r, relE_start rv, hq ds h Q0 E0 q, ?_⟩
  refine ⟨fun env' h' σ' H' μ' q' r' re' l' => p _ _ _ _ _ q' r' l' .non, p, fun _ _ _ _ _ q' => q'.elim, fun _ _ _ _ _ q' => q'.elim, ?_⟩
  exact fun c fs env' h' od σ' H' μ' q' r' re' l' xf => pe c fs h' od H' μ' q' r' l' xf
/-- the tables' addresses -/
def tabs (K : Frag) : List Addr := tf.map fun p => (He.cT K p).2
theorem ok_law {P : Program} {w : World} {K : Frag} {h base : Heap} {mg : Str → Option Value} (X : K.In h) (Gm : h.Ns mainGlobals mg) (c : He.SaysD fa fn K) (TB : ∀ p ∈ tf, GxR.TabB base mg (He.cT K p).1 (He.cT K p).2)
    {fd : FuncData} (DLw : Def K mg "law" (top 41) (He.fAd K ("law", none)) fd) : FnOk P w K mg base (L2.CX P w) 10 (He.fAd K ("law", none)) fd ["script"] (spL ⟨P, w, K, tabs K⟩ spLaw) := by
  let g : G := ⟨P, w, K, tabs K⟩
  have hg : g = ⟨P, w, K, tabs K⟩ := rfl
  obtain ⟨_, D_check_book⟩ := def_of X Gm c (x := "check_book") (i := 10) (by simp [fn, fn0, fn1, fn2]) (by simp [fa, fa0, fa1, fa2, fa3, fa4])
  obtain ⟨_, D_check_word⟩ := def_of X Gm c (x := "check_word") (i := 11) (by simp [fn, fn0, fn1, fn2]) (by simp [fa, fa0, fa1, fa2, fa3, fa4])
  obtain ⟨_, D_is_frame⟩ := def_of X Gm c (x := "is_frame") (i := 12) (by simp [fn, fn0, fn1, fn2]) (by simp [fa, fa0, fa1, fa2, fa3, fa4])
  obtain ⟨_, D_is_rule⟩ := def_of X Gm c (x := "is_rule") (i := 13) (by simp [fn, fn0, fn1, fn2]) (by simp [fa, fa0, fa1, fa2, fa3, fa4])
  obtain ⟨_, D_is_side⟩ := def_of X Gm c (x := "is_side") (i := 14) (by simp [fn, fn0, fn1, fn2]) (by simp [fa, fa0, fa1, fa2, fa3, fa4])
  obtain ⟨_, D_is_letter⟩ := def_of X Gm c (x := "is_letter") (i := 15) (by simp [fn, fn0, fn1, fn2]) (by simp [fa, fa0, fa1, fa2, fa3, fa4])
  obtain ⟨_, D_is_whole⟩ := def_of X Gm c (x := "is_whole") (i := 16) (by simp [fn, fn0, fn1, fn2]) (by simp [fa, fa0, fa1, fa2, fa3, fa4])
  obtain ⟨_, D_next_words⟩ := def_of X Gm c (x := "next_words") (i := 18) (by simp [fn, fn0, fn1, fn2]) (by simp [fa, fa0, fa1, fa2, fa3, fa4])
  obtain ⟨_, D_turns⟩ := def_of X Gm c (x := "turns") (i := 19) (by simp [fn, fn0, fn1, fn2]) (by simp [fa, fa0, fa1, fa2, fa3, fa4])
  obtain ⟨_, D_unwound⟩ := def_of X Gm c (x := "unwound") (i := 20) (by simp [fn, fn0, fn1, fn2]) (by simp [fa, fa0, fa1, fa2, fa3, fa4])
  obtain ⟨_, D_steps⟩ := def_of X Gm c (x := "steps") (i := 24) (by simp [fn, fn0, fn1, fn2]) (by simp [fa, fa0, fa1, fa2, fa3, fa4])
  obtain ⟨_, D_all_come⟩ := def_of X Gm c (x := "all_come") (i := 25) (by simp [fn, fn0, fn1, fn2]) (by simp [fa, fa0, fa1, fa2, fa3, fa4])
  obtain ⟨_, D_walked_rests⟩ := def_of X Gm c (x := "walked_rests") (i := 26) (by simp [fn, fn0, fn1, fn2]) (by simp [fa, fa0, fa1, fa2, fa3, fa4])
  obtain ⟨_, D_goes_on⟩ := def_of X Gm c (x := "goes_on") (i := 27) (by simp [fn, fn0, fn1, fn2]) (by simp [fa, fa0, fa1, fa2, fa3, fa4])
  obtain ⟨_, D_longest⟩ := def_of X Gm c (x := "longest") (i := 28) (by simp [fn, fn0, fn1, fn2]) (by simp [fa, fa0, fa1, fa2, fa3, fa4])
  obtain ⟨_, D_check_start⟩ := def_of X Gm c (x := "check_start") (i := 29) (by simp [fn, fn0, fn1, fn2]) (by simp [fa, fa0, fa1, fa2, fa3, fa4])
  obtain ⟨_, D_walk⟩ := def_of X Gm c (x := "walk") (i := 30) (by simp [fn, fn0, fn1, fn2]) (by simp [fa, fa0, fa1, fa2, fa3, fa4])
  obtain ⟨_, D__law_taken⟩ := def_of X Gm c (x := "_law_taken") (i := 32) (by simp [fn, fn0, fn1, fn2]) (by simp [fa, fa0, fa1, fa2, fa3, fa4])
  obtain ⟨_, D__law_order⟩ := def_of X Gm c (x := "_law_order") (i := 33) (by simp [fn, fn0, fn1, fn2]) (by simp [fa, fa0, fa1, fa2, fa3, fa4])
  obtain ⟨_, D__law_letters⟩ := def_of X Gm c (x := "_law_letters") (i := 34) (by simp [fn, fn0, fn1, fn2]) (by simp [fa, fa0, fa1, fa2, fa3, fa4])
  obtain ⟨_, D__law_book⟩ := def_of X Gm c (x := "_law_book") (i := 35) (by simp [fn, fn0, fn1, fn2]) (by simp [fa, fa0, fa1, fa2, fa3, fa4])
  obtain ⟨_, D__law_alike⟩ := def_of X Gm c (x := "_law_alike") (i := 36) (by simp [fn, fn0, fn1, fn2]) (by simp [fa, fa0, fa1, fa2, fa3, fa4])
  obtain ⟨_, D__law_steps⟩ := def_of X Gm c (x := "_law_steps") (i := 37) (by simp [fn, fn0, fn1, fn2]) (by simp [fa, fa0, fa1, fa2, fa3, fa4])
  obtain ⟨_, D__law_walk⟩ := def_of X Gm c (x := "_law_walk") (i := 38) (by simp [fn, fn0, fn1, fn2]) (by simp [fa, fa0, fa1, fa2, fa3, fa4])
  obtain ⟨_, D__law_layers⟩ := def_of X Gm c (x := "_law_layers") (i := 39) (by simp [fn, fn0, fn1, fn2]) (by simp [fa, fa0, fa1, fa2, fa3, fa4])
  obtain ⟨_, D__law_last_ones⟩ := def_of X Gm c (x := "_law_last_ones") (i := 40) (by simp [fn, fn0, fn1, fn2]) (by simp [fa, fa0, fa1, fa2, fa3, fa4])
  have B : BltD mg := ⟨He.free_ok X Gm (c.facts (f := .free "isinstance") (by simp [fa, fa0, fa1, fa2, fa3, fa4])), He.free_ok X Gm (c.facts (f := .free "len") (by simp [fa, fa0, fa1, fa2, fa3, fa4])), He.free_ok X Gm (c.facts (f := .free "all") (by simp [fa, fa0, fa1, fa2, fa3, fa4])), He.free_ok X Gm (c.facts (f := .free "any") (by simp [fa, fa0, fa1, fa2, fa3, fa4])), He.free_ok X Gm (c.facts (f := .free "tuple") (by simp [fa, fa0, fa1, fa2, fa3, fa4])), He.free_ok X Gm (c.facts (f := .free "list") (by simp [fa, fa0, fa1, fa2, fa3, fa4])), He.free_ok X Gm (c.facts (f := .free "int") (by simp [fa, fa0, fa1, fa2, fa3, fa4])), He.free_ok X Gm (c.facts (f := .free "bool") (by simp [fa, fa0, fa1, fa2, fa3, fa4])), He.free_ok X Gm (c.facts (f := .free "str") (by simp [fa, fa0, fa1, fa2, fa3, fa4])), He.free_ok X Gm (c.facts (f := .free "set") (by simp [fa, fa0, fa1, fa2, fa3, fa4])), He.free_ok X Gm (c.facts (f := .free "sorted") (by simp [fa, fa0, fa1, fa2, fa3, fa4])), He.free_ok X Gm (c.facts (f := .free "max") (by simp [fa, fa0, fa1, fa2, fa3, fa4])), He.free_ok X Gm (c.facts (f := .free "min") (by simp [fa, fa0, fa1, fa2, fa3, fa4])), He.free_ok X Gm (c.facts (f := .free "sum") (by simp [fa, fa0, fa1, fa2, fa3, fa4])), He.free_ok X Gm (c.facts (f := .free "range") (by simp [fa, fa0, fa1, fa2, fa3, fa4])), He.free_ok X Gm (c.facts (f := .free "enumerate") (by simp [fa, fa0, fa1, fa2, fa3, fa4])), He.free_ok X Gm (c.facts (f := .free "zip") (by simp [fa, fa0, fa1, fa2, fa3, fa4])), He.free_ok X Gm (c.facts (f := .free "dict") (by simp [fa, fa0, fa1, fa2, fa3, fa4])), He.free_ok X Gm (c.facts (f := .free "super") (by simp [fa, fa0, fa1, fa2, fa3, fa4]))⟩
  have c_MOST_LETTERS := He.int_ok X Gm (c.facts (f := .int "MOST_LETTERS" 4) (by simp [fa, fa0, fa1, fa2, fa3, fa4]))
  have c_MOST_RULES := He.int_ok X Gm (c.facts (f := .int "MOST_RULES" 12) (by simp [fa, fa0, fa1, fa2, fa3, fa4]))
  have c_LONGEST_SIDE := He.int_ok X Gm (c.facts (f := .int "LONGEST_SIDE" 3) (by simp [fa, fa0, fa1, fa2, fa3, fa4]))
  have c_LONGEST_WORD := He.int_ok X Gm (c.facts (f := .int "LONGEST_WORD" 8) (by simp [fa, fa0, fa1, fa2, fa3, fa4]))
  have c_MOST_WORDS := He.int_ok X Gm (c.facts (f := .int "MOST_WORDS" 1500) (by simp [fa, fa0, fa1, fa2, fa3, fa4]))
  obtain ⟨z1_NotEnding, z2_NotEnding, z3_NotEnding, z4_NotEnding⟩ := He.exc_ok (c.facts (f := .exc "NotEnding") (by simp [fa, fa0, fa1, fa2, fa3, fa4]))
  have x_NotEnding : Err0 g mg "NotEnding" (He.ga K "NotEnding") := ⟨He.glo_ok X Gm (c.facts (f := .glo "NotEnding") (by simp [fa, fa0, fa1, fa2, fa3, fa4])), z2_NotEnding, z1_NotEnding, z3_NotEnding, z4_NotEnding⟩
  have y_ScatterError : mg "ScatterError" = some (.ref (He.ga K "ScatterError")) := He.glo_ok X Gm (c.facts (f := .glo "ScatterError") (by simp [fa, fa0, fa1, fa2, fa3, fa4]))
  have bA := b2 D__law_alike.w fun _ _ _ _ _ _ _ _ => rfl
  have AN : AtD g mg base 1 "_law_alike" ["found", "due"] spNone := fnD_of D__law_alike.w sc__law_alike D__law_alike.m bA (fun _ _ _ _ q => q.elim) ⟨fun _ _ _ => False, fun _ _ _ _ _ _ _ _ => ⟨fun _ _ _ _ _ _ ⟨_, _, _, _, _, _, z, _⟩ => z.elim⟩, fun _ _ _ _ q => q.elim⟩
  have A0 : AtD g mg base 2 "_law_alike" ["found", "due"] (spAlike 0) := fnD_of D__law_alike.w sc__law_alike D__law_alike.m bA (fun ds h Q E q => by first | (obtain ⟨e, _⟩ := q; rw [e]; rfl) | (obtain ⟨_, e, _⟩ := q; rw [e]; rfl) | (obtain ⟨_, _, e, _⟩ := q; rw [e]; rfl) | (obtain ⟨_, _, _, e, _⟩ := q; rw [e]; rfl) | (obtain ⟨_, _, _, _, e, _⟩ := q; rw [e]; rfl) | (obtain ⟨_, _, _, _, _, e, _⟩ := q; rw [e]; rfl) | (obtain ⟨_, _, _, _, _, _, e, _⟩ := q; rw [e]; rfl) | (obtain ⟨_, _, _, _, _, _, _, e, _⟩ := q; rw [e]; rfl)) ⟨_, fun cd A outer s H E _ hr => der__law_alike B AN cd A outer s H E hr, fun ds h Q E q => sat_alike (fun m e => by cases e) q⟩
  have A1 : AtD g mg base 3 "_law_alike" ["found", "due"] (spAlike 1) := fnD_of D__law_alike.w sc__law_alike D__law_alike.m bA (fun ds h Q E q => by first | (obtain ⟨e, _⟩ := q; rw [e]; rfl) | (obtain ⟨_, e, _⟩ := q; rw [e]; rfl) | (obtain ⟨_, _, e, _⟩ := q; rw [e]; rfl) | (obtain ⟨_, _, _, e, _⟩ := q; rw [e]; rfl) | (obtain ⟨_, _, _, _, e, _⟩ := q; rw [e]; rfl) | (obtain ⟨_, _, _, _, _, e, _⟩ := q; rw [e]; rfl) | (obtain ⟨_, _, _, _, _, _, e, _⟩ := q; rw [e]; rfl) | (obtain ⟨_, _, _, _, _, _, _, e, _⟩ := q; rw [e]; rfl)) ⟨_, fun cd A outer s H E _ hr => der__law_alike B A0 cd A outer s H E hr, fun ds h Q E q => sat_alike (fun m e _ _ _ _ q => by cases e; exact q) q⟩
  have A2 : AtD g mg base 4 "_law_alike" ["found", "due"] (spAlike 2) := fnD_of D__law_alike.w sc__law_alike D__law_alike.m bA (fun ds h Q E q => by first | (obtain ⟨e, _⟩ := q; rw [e]; rfl) | (obtain ⟨_, e, _⟩ := q; rw [e]; rfl) | (obtain ⟨_, _, e, _⟩ := q; rw [e]; rfl) | (obtain ⟨_, _, _, e, _⟩ := q; rw [e]; rfl) | (obtain ⟨_, _, _, _, e, _⟩ := q; rw [e]; rfl) | (obtain ⟨_, _, _, _, _, e, _⟩ := q; rw [e]; rfl) | (obtain ⟨_, _, _, _, _, _, e, _⟩ := q; rw [e]; rfl) | (obtain ⟨_, _, _, _, _, _, _, e, _⟩ := q; rw [e]; rfl)) ⟨_, fun cd A outer s H E _ hr => der__law_alike B A1 cd A outer s H E hr, fun ds h Q E q => sat_alike (fun m e _ _ _ _ q => by cases e; exact q) q⟩
  have A__law_alike := A2
  have A__law_taken : AtD g mg base 1 "_law_taken" ["row", "many"] spTk := fnD_of D__law_taken.w sc__law_taken D__law_taken.m (b2 D__law_taken.w fun _ _ _ _ _ _ _ _ => rfl) (fun ds h Q E q => by first | (obtain ⟨e, _⟩ := q; rw [e]; rfl) | (obtain ⟨_, e, _⟩ := q; rw [e]; rfl) | (obtain ⟨_, _, e, _⟩ := q; rw [e]; rfl) | (obtain ⟨_, _, _, e, _⟩ := q; rw [e]; rfl) | (obtain ⟨_, _, _, _, e, _⟩ := q; rw [e]; rfl) | (obtain ⟨_, _, _, _, _, e, _⟩ := q; rw [e]; rfl) | (obtain ⟨_, _, _, _, _, _, e, _⟩ := q; rw [e]; rfl) | (obtain ⟨_, _, _, _, _, _, _, e, _⟩ := q; rw [e]; rfl)) ⟨_, fun cd A outer s H E _ hr => der__law_taken B cd A outer s H E hr, fun ds h Q E q => sat_tk q⟩
  have A__law_letters : AtD g mg base 2 "_law_letters" ["row", "many", "long"] spLetters := fnD_of D__law_letters.w sc__law_letters D__law_letters.m (b3 D__law_letters.w fun _ _ _ _ _ _ _ _ _ => rfl) (fun ds h Q E q => by first | (obtain ⟨e, _⟩ := q; rw [e]; rfl) | (obtain ⟨_, e, _⟩ := q; rw [e]; rfl) | (obtain ⟨_, _, e, _⟩ := q; rw [e]; rfl) | (obtain ⟨_, _, _, e, _⟩ := q; rw [e]; rfl) | (obtain ⟨_, _, _, _, e, _⟩ := q; rw [e]; rfl) | (obtain ⟨_, _, _, _, _, e, _⟩ := q; rw [e]; rfl) | (obtain ⟨_, _, _, _, _, _, e, _⟩ := q; rw [e]; rfl) | (obtain ⟨_, _, _, _, _, _, _, e, _⟩ := q; rw [e]; rfl)) ⟨_, fun cd A outer s H E _ hr => der__law_letters B (A__law_taken.mono (by decide)) cd A outer s H E hr, fun ds h Q E q => sat_letters q⟩
  have A__law_order : AtD g mg base 2 "_law_order" ["row", "many"] spOrder := fnD_of D__law_order.w sc__law_order D__law_order.m (b2 D__law_order.w fun _ _ _ _ _ _ _ _ => rfl) (fun ds h Q E q => by first | (obtain ⟨e, _⟩ := q; rw [e]; rfl) | (obtain ⟨_, e, _⟩ := q; rw [e]; rfl) | (obtain ⟨_, _, e, _⟩ := q; rw [e]; rfl) | (obtain ⟨_, _, _, e, _⟩ := q; rw [e]; rfl) | (obtain ⟨_, _, _, _, e, _⟩ := q; rw [e]; rfl) | (obtain ⟨_, _, _, _, _, e, _⟩ := q; rw [e]; rfl) | (obtain ⟨_, _, _, _, _, _, e, _⟩ := q; rw [e]; rfl) | (obtain ⟨_, _, _, _, _, _, _, e, _⟩ := q; rw [e]; rfl)) ⟨_, fun cd A outer s H E _ hr => der__law_order B (A__law_taken.mono (by decide)) cd A outer s H E hr, fun ds h Q E q => sat_order q⟩
  have A__law_book : AtD g mg base 3 "_law_book" ["row", "most", "long"] spBook := fnD_of D__law_book.w sc__law_book D__law_book.m (b3 D__law_book.w fun _ _ _ _ _ _ _ _ _ => rfl) (fun ds h Q E q => by first | (obtain ⟨e, _⟩ := q; rw [e]; rfl) | (obtain ⟨_, e, _⟩ := q; rw [e]; rfl) | (obtain ⟨_, _, e, _⟩ := q; rw [e]; rfl) | (obtain ⟨_, _, _, e, _⟩ := q; rw [e]; rfl) | (obtain ⟨_, _, _, _, e, _⟩ := q; rw [e]; rfl) | (obtain ⟨_, _, _, _, _, e, _⟩ := q; rw [e]; rfl) | (obtain ⟨_, _, _, _, _, _, e, _⟩ := q; rw [e]; rfl) | (obtain ⟨_, _, _, _, _, _, _, e, _⟩ := q; rw [e]; rfl)) ⟨_, fun cd A outer s H E _ hr => der__law_book B (A__law_letters.mono (by decide)) (A__law_order.mono (by decide)) (A__law_taken.mono (by decide)) cd A outer s H E hr, fun ds h Q E q => sat_book q⟩
  have A__law_last_ones : AtD g mg base 1 "_law_last_ones" ["told"] spLast := fnD_of D__law_last_ones.w sc__law_last_ones D__law_last_ones.m (b1 D__law_last_ones.w fun _ _ _ _ _ _ _ => rfl) (fun ds h Q E q => by first | (obtain ⟨e, _⟩ := q; rw [e]; rfl) | (obtain ⟨_, e, _⟩ := q; rw [e]; rfl) | (obtain ⟨_, _, e, _⟩ := q; rw [e]; rfl) | (obtain ⟨_, _, _, e, _⟩ := q; rw [e]; rfl) | (obtain ⟨_, _, _, _, e, _⟩ := q; rw [e]; rfl) | (obtain ⟨_, _, _, _, _, e, _⟩ := q; rw [e]; rfl) | (obtain ⟨_, _, _, _, _, _, e, _⟩ := q; rw [e]; rfl) | (obtain ⟨_, _, _, _, _, _, _, e, _⟩ := q; rw [e]; rfl)) ⟨_, fun cd A outer s H E _ hr => der__law_last_ones B cd A outer s H E hr, fun ds h Q E q => sat_last q⟩
  have A__law_layers : AtD g mg base 1 "_law_layers" ["told"] spLayers := fnD_of D__law_layers.w sc__law_layers D__law_layers.m (b1 D__law_layers.w fun _ _ _ _ _ _ _ => rfl) (fun ds h Q E q => by first | (obtain ⟨e, _⟩ := q; rw [e]; rfl) | (obtain ⟨_, e, _⟩ := q; rw [e]; rfl) | (obtain ⟨_, _, e, _⟩ := q; rw [e]; rfl) | (obtain ⟨_, _, _, e, _⟩ := q; rw [e]; rfl) | (obtain ⟨_, _, _, _, e, _⟩ := q; rw [e]; rfl) | (obtain ⟨_, _, _, _, _, e, _⟩ := q; rw [e]; rfl) | (obtain ⟨_, _, _, _, _, _, e, _⟩ := q; rw [e]; rfl) | (obtain ⟨_, _, _, _, _, _, _, e, _⟩ := q; rw [e]; rfl)) ⟨_, fun cd A outer s H E _ hr => der__law_layers B cd A outer s H E hr, fun ds h Q E q => sat_layers q⟩
  have A__law_steps : AtD g mg base 1 "_law_steps" ["book", "word"] spLSteps := fnD_of D__law_steps.w sc__law_steps D__law_steps.m (b2 D__law_steps.w fun _ _ _ _ _ _ _ _ => rfl) (fun ds h Q E q => by first | (obtain ⟨e, _⟩ := q; rw [e]; rfl) | (obtain ⟨_, e, _⟩ := q; rw [e]; rfl) | (obtain ⟨_, _, e, _⟩ := q; rw [e]; rfl) | (obtain ⟨_, _, _, e, _⟩ := q; rw [e]; rfl) | (obtain ⟨_, _, _, _, e, _⟩ := q; rw [e]; rfl) | (obtain ⟨_, _, _, _, _, e, _⟩ := q; rw [e]; rfl) | (obtain ⟨_, _, _, _, _, _, e, _⟩ := q; rw [e]; rfl) | (obtain ⟨_, _, _, _, _, _, _, e, _⟩ := q; rw [e]; rfl)) ⟨_, fun cd A outer s H E _ hr => der__law_steps B cd A outer s H E hr, fun ds h Q E q => sat_lsteps q⟩
  have A__law_walk : AtD g mg base 2 "_law_walk" ["book", "word"] spLWalk := fnD_of D__law_walk.w sc__law_walk D__law_walk.m (b2 D__law_walk.w fun _ _ _ _ _ _ _ _ => rfl) (fun ds h Q E q => by first | (obtain ⟨e, _⟩ := q; rw [e]; rfl) | (obtain ⟨_, e, _⟩ := q; rw [e]; rfl) | (obtain ⟨_, _, e, _⟩ := q; rw [e]; rfl) | (obtain ⟨_, _, _, e, _⟩ := q; rw [e]; rfl) | (obtain ⟨_, _, _, _, e, _⟩ := q; rw [e]; rfl) | (obtain ⟨_, _, _, _, _, e, _⟩ := q; rw [e]; rfl) | (obtain ⟨_, _, _, _, _, _, e, _⟩ := q; rw [e]; rfl) | (obtain ⟨_, _, _, _, _, _, _, e, _⟩ := q; rw [e]; rfl)) ⟨_, fun cd A outer s H E _ hr => der__law_walk B (A__law_steps.mono (by decide)) cd A outer s H E hr, fun ds h Q E q => sat_lwalk q⟩
  have A_is_whole : AtD g mg base 1 "is_whole" ["value"] spInt := fnD_of D_is_whole.w sc_is_whole D_is_whole.m (b1 D_is_whole.w fun _ _ _ _ _ _ _ => rfl) (fun ds h Q E q => by first | (obtain ⟨e, _⟩ := q; rw [e]; rfl) | (obtain ⟨_, e, _⟩ := q; rw [e]; rfl) | (obtain ⟨_, _, e, _⟩ := q; rw [e]; rfl) | (obtain ⟨_, _, _, e, _⟩ := q; rw [e]; rfl) | (obtain ⟨_, _, _, _, e, _⟩ := q; rw [e]; rfl) | (obtain ⟨_, _, _, _, _, e, _⟩ := q; rw [e]; rfl) | (obtain ⟨_, _, _, _, _, _, e, _⟩ := q; rw [e]; rfl) | (obtain ⟨_, _, _, _, _, _, _, e, _⟩ := q; rw [e]; rfl)) ⟨_, fun cd A outer s H E _ hr => der_is_whole B cd A outer s H E hr, fun ds h Q E q => sat_is_whole q⟩
  have A_is_frame : AtD g mg base 2 "is_frame" ["value"] spFrame := fnD_of D_is_frame.w sc_is_frame D_is_frame.m (b1 D_is_frame.w fun _ _ _ _ _ _ _ => rfl) (fun ds h Q E q => by first | (obtain ⟨e, _⟩ := q; rw [e]; rfl) | (obtain ⟨_, e, _⟩ := q; rw [e]; rfl) | (obtain ⟨_, _, e, _⟩ := q; rw [e]; rfl) | (obtain ⟨_, _, _, e, _⟩ := q; rw [e]; rfl) | (obtain ⟨_, _, _, _, e, _⟩ := q; rw [e]; rfl) | (obtain ⟨_, _, _, _, _, e, _⟩ := q; rw [e]; rfl) | (obtain ⟨_, _, _, _, _, _, e, _⟩ := q; rw [e]; rfl) | (obtain ⟨_, _, _, _, _, _, _, e, _⟩ := q; rw [e]; rfl)) ⟨_, fun cd A outer s H E _ hr => der_is_frame B (A_is_whole.mono (by decide)) c_MOST_LETTERS c_MOST_RULES cd A outer s H E hr, fun ds h Q E q => sat_is_frame q⟩
  have A_is_side : AtD g mg base 4 "is_side" ["value", "many"] spSide := ⟨_, _, ok_side D_is_side.w D_is_letter.w D_is_whole.w D_is_letter.m D_is_whole.m B c_LONGEST_SIDE (code_at D_is_side.w) (TB ("is_side", none) (by simp [tf])) (by simp [tabs, tf, hg]), D_is_side.m, D_is_side.w.kp, (b2 D_is_side.w fun _ _ _ _ _ _ _ _ => rfl)⟩
  have A_is_rule : AtD g mg base 5 "is_rule" ["value", "many"] spRule := fnD_of D_is_rule.w sc_is_rule D_is_rule.m (b2 D_is_rule.w fun _ _ _ _ _ _ _ _ => rfl) (fun ds h Q E q => by first | (obtain ⟨e, _⟩ := q; rw [e]; rfl) | (obtain ⟨_, e, _⟩ := q; rw [e]; rfl) | (obtain ⟨_, _, e, _⟩ := q; rw [e]; rfl) | (obtain ⟨_, _, _, e, _⟩ := q; rw [e]; rfl) | (obtain ⟨_, _, _, _, e, _⟩ := q; rw [e]; rfl) | (obtain ⟨_, _, _, _, _, e, _⟩ := q; rw [e]; rfl) | (obtain ⟨_, _, _, _, _, _, e, _⟩ := q; rw [e]; rfl) | (obtain ⟨_, _, _, _, _, _, _, e, _⟩ := q; rw [e]; rfl)) ⟨_, fun cd A outer s H E _ hr => der_is_rule B (A_is_side.mono (by decide)) cd A outer s H E hr, fun ds h Q E q => sat_is_rule q⟩
  have A_check_book : AtD g mg base 6 "check_book" ["book"] spCheck := fnD_of D_check_book.w sc_check_book D_check_book.m (b1 D_check_book.w fun _ _ _ _ _ _ _ => rfl) (fun ds h Q E q => by first | (obtain ⟨e, _⟩ := q; rw [e]; rfl) | (obtain ⟨_, e, _⟩ := q; rw [e]; rfl) | (obtain ⟨_, _, e, _⟩ := q; rw [e]; rfl) | (obtain ⟨_, _, _, e, _⟩ := q; rw [e]; rfl) | (obtain ⟨_, _, _, _, e, _⟩ := q; rw [e]; rfl) | (obtain ⟨_, _, _, _, _, e, _⟩ := q; rw [e]; rfl) | (obtain ⟨_, _, _, _, _, _, e, _⟩ := q; rw [e]; rfl) | (obtain ⟨_, _, _, _, _, _, _, e, _⟩ := q; rw [e]; rfl)) ⟨_, fun cd A outer s H E _ hr => der_check_book B (A_is_frame.mono (by decide)) (A_is_rule.mono (by decide)) cd A outer s H E hr, fun ds h Q E q => sat_check_book q⟩
  have A_is_letter : AtD g mg base 2 "is_letter" ["value", "many"] spLetter := fnD_of D_is_letter.w sc_is_letter D_is_letter.m (b2 D_is_letter.w fun _ _ _ _ _ _ _ _ => rfl) (fun ds h Q E q => by first | (obtain ⟨e, _⟩ := q; rw [e]; rfl) | (obtain ⟨_, e, _⟩ := q; rw [e]; rfl) | (obtain ⟨_, _, e, _⟩ := q; rw [e]; rfl) | (obtain ⟨_, _, _, e, _⟩ := q; rw [e]; rfl) | (obtain ⟨_, _, _, _, e, _⟩ := q; rw [e]; rfl) | (obtain ⟨_, _, _, _, _, e, _⟩ := q; rw [e]; rfl) | (obtain ⟨_, _, _, _, _, _, e, _⟩ := q; rw [e]; rfl) | (obtain ⟨_, _, _, _, _, _, _, e, _⟩ := q; rw [e]; rfl)) ⟨_, fun cd A outer s H E _ hr => der_is_letter B (A_is_whole.mono (by decide)) cd A outer s H E hr, fun ds h Q E q => sat_is_letter q⟩
  have A_check_word : AtD g mg base 3 "check_word" ["word", "many", "most"] spWord := fnD_of D_check_word.w sc_check_word D_check_word.m (b3 D_check_word.w fun _ _ _ _ _ _ _ _ _ => rfl) (fun ds h Q E q => by first | (obtain ⟨e, _⟩ := q; rw [e]; rfl) | (obtain ⟨_, e, _⟩ := q; rw [e]; rfl) | (obtain ⟨_, _, e, _⟩ := q; rw [e]; rfl) | (obtain ⟨_, _, _, e, _⟩ := q; rw [e]; rfl) | (obtain ⟨_, _, _, _, e, _⟩ := q; rw [e]; rfl) | (obtain ⟨_, _, _, _, _, e, _⟩ := q; rw [e]; rfl) | (obtain ⟨_, _, _, _, _, _, e, _⟩ := q; rw [e]; rfl) | (obtain ⟨_, _, _, _, _, _, _, e, _⟩ := q; rw [e]; rfl)) ⟨_, fun cd A outer s H E _ hr => der_check_word B (A_is_letter.mono (by decide)) cd A outer s H E hr, fun ds h Q E q => sat_check_word q⟩
  have A_check_start : AtD g mg base 7 "check_start" ["book", "word"] spStart := fnD_of D_check_start.w sc_check_start D_check_start.m (b2 D_check_start.w fun _ _ _ _ _ _ _ _ => rfl) (fun ds h Q E q => by first | (obtain ⟨e, _⟩ := q; rw [e]; rfl) | (obtain ⟨_, e, _⟩ := q; rw [e]; rfl) | (obtain ⟨_, _, e, _⟩ := q; rw [e]; rfl) | (obtain ⟨_, _, _, e, _⟩ := q; rw [e]; rfl) | (obtain ⟨_, _, _, _, e, _⟩ := q; rw [e]; rfl) | (obtain ⟨_, _, _, _, _, e, _⟩ := q; rw [e]; rfl) | (obtain ⟨_, _, _, _, _, _, e, _⟩ := q; rw [e]; rfl) | (obtain ⟨_, _, _, _, _, _, _, e, _⟩ := q; rw [e]; rfl)) ⟨_, fun cd A outer s H E _ hr => der_check_start B (A_check_book.mono (by decide)) (A_check_word.mono (by decide)) c_LONGEST_WORD cd A outer s H E hr, fun ds h Q E q => sat_check_start q⟩
  have A_turns : AtD g mg base 1 "turns" ["rule", "word"] spTurns := fnD_of D_turns.w sc_turns D_turns.m (b2 D_turns.w fun _ _ _ _ _ _ _ _ => rfl) (fun ds h Q E q => by first | (obtain ⟨e, _⟩ := q; rw [e]; rfl) | (obtain ⟨_, e, _⟩ := q; rw [e]; rfl) | (obtain ⟨_, _, e, _⟩ := q; rw [e]; rfl) | (obtain ⟨_, _, _, e, _⟩ := q; rw [e]; rfl) | (obtain ⟨_, _, _, _, e, _⟩ := q; rw [e]; rfl) | (obtain ⟨_, _, _, _, _, e, _⟩ := q; rw [e]; rfl) | (obtain ⟨_, _, _, _, _, _, e, _⟩ := q; rw [e]; rfl) | (obtain ⟨_, _, _, _, _, _, _, e, _⟩ := q; rw [e]; rfl)) ⟨_, fun cd A outer s H E _ hr => der_turns B cd A outer s H E hr, fun ds h Q E q => sat_turns q⟩
  have A_next_words : AtD g mg base 2 "next_words" ["rules", "word"] spNext := fnD_of D_next_words.w sc_next_words D_next_words.m (b2 D_next_words.w fun _ _ _ _ _ _ _ _ => rfl) (fun ds h Q E q => by first | (obtain ⟨e, _⟩ := q; rw [e]; rfl) | (obtain ⟨_, e, _⟩ := q; rw [e]; rfl) | (obtain ⟨_, _, e, _⟩ := q; rw [e]; rfl) | (obtain ⟨_, _, _, e, _⟩ := q; rw [e]; rfl) | (obtain ⟨_, _, _, _, e, _⟩ := q; rw [e]; rfl) | (obtain ⟨_, _, _, _, _, e, _⟩ := q; rw [e]; rfl) | (obtain ⟨_, _, _, _, _, _, e, _⟩ := q; rw [e]; rfl) | (obtain ⟨_, _, _, _, _, _, _, e, _⟩ := q; rw [e]; rfl)) ⟨_, fun cd A outer s H E _ hr => der_next_words B (A_turns.mono (by decide)) cd A outer s H E hr, fun ds h Q E q => sat_next q⟩
  have A_walk : AtD g mg base 8 "walk" ["book", "word"] spWalk := fnD_of D_walk.w sc_walk D_walk.m (b2 D_walk.w fun _ _ _ _ _ _ _ _ => rfl) (fun ds h Q E q => by first | (obtain ⟨e, _⟩ := q; rw [e]; rfl) | (obtain ⟨_, e, _⟩ := q; rw [e]; rfl) | (obtain ⟨_, _, e, _⟩ := q; rw [e]; rfl) | (obtain ⟨_, _, _, e, _⟩ := q; rw [e]; rfl) | (obtain ⟨_, _, _, _, e, _⟩ := q; rw [e]; rfl) | (obtain ⟨_, _, _, _, _, e, _⟩ := q; rw [e]; rfl) | (obtain ⟨_, _, _, _, _, _, e, _⟩ := q; rw [e]; rfl) | (obtain ⟨_, _, _, _, _, _, _, e, _⟩ := q; rw [e]; rfl)) ⟨_, fun cd A outer s H E _ hr => der_walk B (A_check_start.mono (by decide)) (A_next_words.mono (by decide)) c_MOST_WORDS cd A outer s H E hr, fun ds h Q E q => sat_walk q⟩
  have A_all_come : AtD g mg base 9 "all_come" ["book", "word"] spAllCome := fnD_of D_all_come.w sc_all_come D_all_come.m (b2 D_all_come.w fun _ _ _ _ _ _ _ _ => rfl) (fun ds h Q E q => by first | (obtain ⟨e, _⟩ := q; rw [e]; rfl) | (obtain ⟨_, e, _⟩ := q; rw [e]; rfl) | (obtain ⟨_, _, e, _⟩ := q; rw [e]; rfl) | (obtain ⟨_, _, _, e, _⟩ := q; rw [e]; rfl) | (obtain ⟨_, _, _, _, e, _⟩ := q; rw [e]; rfl) | (obtain ⟨_, _, _, _, _, e, _⟩ := q; rw [e]; rfl) | (obtain ⟨_, _, _, _, _, _, e, _⟩ := q; rw [e]; rfl) | (obtain ⟨_, _, _, _, _, _, _, e, _⟩ := q; rw [e]; rfl)) ⟨_, fun cd A outer s H E _ hr => der_all_come B (A_walk.mono (by decide)) cd A outer s H E hr, fun ds h Q E q => sat_all_come q⟩
  have A_unwound : AtD g mg base 1 "unwound" ["graph"] spUnw := fnD_of D_unwound.w sc_unwound D_unwound.m (b1 D_unwound.w fun _ _ _ _ _ _ _ => rfl) (fun ds h Q E q => by first | (obtain ⟨e, _⟩ := q; rw [e]; rfl) | (obtain ⟨_, e, _⟩ := q; rw [e]; rfl) | (obtain ⟨_, _, e, _⟩ := q; rw [e]; rfl) | (obtain ⟨_, _, _, e, _⟩ := q; rw [e]; rfl) | (obtain ⟨_, _, _, _, e, _⟩ := q; rw [e]; rfl) | (obtain ⟨_, _, _, _, _, e, _⟩ := q; rw [e]; rfl) | (obtain ⟨_, _, _, _, _, _, e, _⟩ := q; rw [e]; rfl) | (obtain ⟨_, _, _, _, _, _, _, e, _⟩ := q; rw [e]; rfl)) ⟨_, fun cd A outer s H E _ hr => der_unwound B cd A outer s H E hr, fun ds h Q E q => sat_unwound q⟩
  have A_goes_on : AtD g mg base 9 "goes_on" ["book", "word"] spGoes := fnD_of D_goes_on.w sc_goes_on D_goes_on.m (b2 D_goes_on.w fun _ _ _ _ _ _ _ _ => rfl) (fun ds h Q E q => by first | (obtain ⟨e, _⟩ := q; rw [e]; rfl) | (obtain ⟨_, e, _⟩ := q; rw [e]; rfl) | (obtain ⟨_, _, e, _⟩ := q; rw [e]; rfl) | (obtain ⟨_, _, _, e, _⟩ := q; rw [e]; rfl) | (obtain ⟨_, _, _, _, e, _⟩ := q; rw [e]; rfl) | (obtain ⟨_, _, _, _, _, e, _⟩ := q; rw [e]; rfl) | (obtain ⟨_, _, _, _, _, _, e, _⟩ := q; rw [e]; rfl) | (obtain ⟨_, _, _, _, _, _, _, e, _⟩ := q; rw [e]; rfl)) ⟨_, fun cd A outer s H E _ hr => der_goes_on B (A_unwound.mono (by decide)) (A_walk.mono (by decide)) cd A outer s H E hr, fun ds h Q E q => sat_goes_on q⟩
  have A_longest : AtD g mg base 9 "longest" ["book", "word"] (spLongest (He.ga K "NotEnding")) := fnD_of D_longest.w sc_longest D_longest.m (b2 D_longest.w fun _ _ _ _ _ _ _ _ => rfl) (fun ds h Q E q => by first | (obtain ⟨e, _⟩ := q; rw [e]; rfl) | (obtain ⟨_, e, _⟩ := q; rw [e]; rfl) | (obtain ⟨_, _, e, _⟩ := q; rw [e]; rfl) | (obtain ⟨_, _, _, e, _⟩ := q; rw [e]; rfl) | (obtain ⟨_, _, _, _, e, _⟩ := q; rw [e]; rfl) | (obtain ⟨_, _, _, _, _, e, _⟩ := q; rw [e]; rfl) | (obtain ⟨_, _, _, _, _, _, e, _⟩ := q; rw [e]; rfl) | (obtain ⟨_, _, _, _, _, _, _, e, _⟩ := q; rw [e]; rfl)) ⟨_, fun cd A outer s H E _ hr => der_longest B (A_unwound.mono (by decide)) (A_walk.mono (by decide)) x_NotEnding cd A outer s H E hr, fun ds h Q E q => sat_longest q⟩
  have A_steps : AtD g mg base 8 "steps" ["book", "word"] spSteps := fnD_of D_steps.w sc_steps D_steps.m (b2 D_steps.w fun _ _ _ _ _ _ _ _ => rfl) (fun ds h Q E q => by first | (obtain ⟨e, _⟩ := q; rw [e]; rfl) | (obtain ⟨_, e, _⟩ := q; rw [e]; rfl) | (obtain ⟨_, _, e, _⟩ := q; rw [e]; rfl) | (obtain ⟨_, _, _, e, _⟩ := q; rw [e]; rfl) | (obtain ⟨_, _, _, _, e, _⟩ := q; rw [e]; rfl) | (obtain ⟨_, _, _, _, _, e, _⟩ := q; rw [e]; rfl) | (obtain ⟨_, _, _, _, _, _, e, _⟩ := q; rw [e]; rfl) | (obtain ⟨_, _, _, _, _, _, _, e, _⟩ := q; rw [e]; rfl)) ⟨_, fun cd A outer s H E _ hr => der_steps B (A_check_start.mono (by decide)) (A_next_words.mono (by decide)) cd A outer s H E hr, fun ds h Q E q => sat_steps q⟩
  have A_walked_rests : AtD g mg base 9 "walked_rests" ["book", "word"] spRests := fnD_of D_walked_rests.w sc_walked_rests D_walked_rests.m (b2 D_walked_rests.w fun _ _ _ _ _ _ _ _ => rfl) (fun ds h Q E q => by first | (obtain ⟨e, _⟩ := q; rw [e]; rfl) | (obtain ⟨_, e, _⟩ := q; rw [e]; rfl) | (obtain ⟨_, _, e, _⟩ := q; rw [e]; rfl) | (obtain ⟨_, _, _, e, _⟩ := q; rw [e]; rfl) | (obtain ⟨_, _, _, _, e, _⟩ := q; rw [e]; rfl) | (obtain ⟨_, _, _, _, _, e, _⟩ := q; rw [e]; rfl) | (obtain ⟨_, _, _, _, _, _, e, _⟩ := q; rw [e]; rfl) | (obtain ⟨_, _, _, _, _, _, _, e, _⟩ := q; rw [e]; rfl)) ⟨_, fun cd A outer s H E _ hr => der_walked_rests B (A_walk.mono (by decide)) cd A outer s H E hr, fun ds h Q E q => sat_walked_rests q⟩
  exact fnOk_of DLw.w sc_law (fun ds h Q E q => by first | (obtain ⟨e, _⟩ := q; rw [e]; rfl) | (obtain ⟨_, e, _⟩ := q; rw [e]; rfl) | (obtain ⟨_, _, e, _⟩ := q; rw [e]; rfl) | (obtain ⟨_, _, _, e, _⟩ := q; rw [e]; rfl) | (obtain ⟨_, _, _, _, e, _⟩ := q; rw [e]; rfl) | (obtain ⟨_, _, _, _, _, e, _⟩ := q; rw [e]; rfl) | (obtain ⟨_, _, _, _, _, _, e, _⟩ := q; rw [e]; rfl) | (obtain ⟨_, _, _, _, _, _, _, e, _⟩ := q; rw [e]; rfl)) ⟨_, fun cd A outer s H E _ hr => der_law B (A__law_alike.mono (by decide)) (A__law_book.mono (by decide)) (A__law_last_ones.mono (by decide)) (A__law_layers.mono (by decide)) (A__law_letters.mono (by decide)) (A__law_steps.mono (by decide)) (A__law_taken.mono (by decide)) (A__law_walk.mono (by decide)) (A_all_come.mono (by decide)) (A_goes_on.mono (by decide)) (A_longest.mono (by decide)) (A_steps.mono (by decide)) (A_walked_rests.mono (by decide)) x_NotEnding y_ScatterError cd A outer s H E hr, fun ds h Q E q => sat_law (He.exm_ok (c.facts (f := .exm "NotEnding" "ScatterError" true) (by simp [fa, fa0, fa1, fa2, fa3, fa4]))) q⟩
end DL
set_option Elab.async false
set_option linter.all false
set_option maxRecDepth 100000
set_option maxHeartbeats 0
open PySem PySem.W PySem.Calls PyProof.Rows
theorem PySem.Challenge.cw_scatterbooks_k00_whole_steps_and_walks_holds : PySem.Challenge.rw_scatterbooks_k00_whole_steps_and_walks.Holds := by
  w_on; o_law
  refine HandSHeadRun.head_any (r := OpenLaw.row PySem.Challenge.rw_scatterbooks_k00_whole_steps_and_walks) (q := view (OpenLaw.row PySem.Challenge.rw_scatterbooks_k00_whole_steps_and_walks).prog [41]) (H := DL.hookY) (ob := DL.ob) (M := 3000) (loose := DL.names) (d := HandSHeadRun.topDef (OpenLaw.row PySem.Challenge.rw_scatterbooks_k00_whole_steps_and_walks).prog 41) (kwd := []) DL.ob_eq
    (by kernel_rfl) (fun s => by kernel_rfl) DL.run (by kernel_rfl) (by kernel_rfl) (by kernel_rfl) (by rfl) (by first | assumption | decide +kernel) (by decide +kernel) ⟨rfl, rfl, rfl, rfl, rfl, by decide +kernel⟩ ?hw ?hc
  case hw => w_witness2
  case hc =>
    refine LamX.walk_ofTsE (l := PySem.Challenge.rw_scatterbooks_k00_whole_steps_and_walks) (n := 63) (k := 10) (x := "script") (CX := fun w => L2.CX (PySem.Challenge.rw_scatterbooks_k00_whole_steps_and_walks).prog w) rfl (by decide) (by kernel_rfl) ⟨rfl, by decide, by decide⟩ ?F (fun _ _ _ _ _ ⟨_, _, _, _, _, _, _, _, _, _, _, _, z⟩ => z)
    intro w mg fa h Y G hmg0
    obtain ⟨K, KX, c⟩ := Y
    have hmg : mg ("law" : PySem.Str) = some (.ref fa) := by
      have e : (HandSHeadRun.topDef (OpenLaw.row PySem.Challenge.rw_scatterbooks_k00_whole_steps_and_walks).prog 41).name = ("law" : PySem.Str) := by kernel_rfl
      rw [← e]
      exact hmg0
    obtain ⟨fd, D⟩ := DL.def_of KX G c.t.d (x := "law") (i := 41) (by simp [DL.fn, DL.fn0, DL.fn1, DL.fn2]) (by simp [DL.fa, DL.fa0, DL.fa1, DL.fa2, DL.fa3, DL.fa4])
    have e := hmg.symm.trans D.m
    injection e with e
    injection e with e
    subst e
    refine ⟨K, KX, fd, DL.tf.map (He.cT K), DL.spL ⟨PySem.Challenge.rw_scatterbooks_k00_whole_steps_and_walks.prog, w, K, DL.tabs K⟩ DL.spLaw, ?_, ?_, ?_, ?_, ?_, ?_⟩
    · intro p hp
      obtain ⟨x, hx, rfl⟩ := List.mem_map.mp hp
      exact c.empty x hx
    · intro p hp
      obtain ⟨x, hx, rfl⟩ := List.mem_map.mp hp
      exact c.out x hx
    · intro p hp
      obtain ⟨x, hx, rfl⟩ := List.mem_map.mp hp
      exact PySem.W.codeHd_of_K KX (c.hd x hx)
    · intro s u
      exact L2.FunD.bindsA (ps := ["script"]) D.w (fun kV doc pm an cdv ct us hl => match us, hl with | [_], _ => rfl) s [u] rfl
    · intro H a ns _ _ hH hS
      exact DL.law_entry (fun P hP => by
        obtain ⟨x, hx, rfl⟩ := List.mem_map.mp hP
        exact ⟨#[], hH _ (List.mem_map.mpr ⟨x, hx, rfl⟩), trivial⟩) hS
    · intro base KB GB TB
      exact DL.ok_law KB GB c.t.d (fun p hp => (fun t => ⟨t.code, t.bm, t.gP⟩) (TB _ (List.mem_map.mpr ⟨p, hp, rfl⟩))) D
