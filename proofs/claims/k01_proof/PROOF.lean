import PyProof.Rows.All
import Wide.All
import OpenK.AllK
import Wide.FinOn
import HandS.ForMost
import HandS.Defaults
import HandS.IsInst
import PyProof.EqAt
import PyProof.EqKinds
import PyProof.TupleCall
import PyProof.GenCompD
import PyProof.TupleOfGen
import KE.KNest
import HandS.Base
import HandS.Call
import HandS.List
import HandS.Comp
import HandS.AnyAll
import PySem.Challenge.RW_scatterbooks_k01_whole_texts
import KE.LtData
import KE.SortData
import HandS.TupLe
import HandS.Deep
import KE.GoesEnum
import HandS.Walk
import KE.KDictKeyed
import KE.KDictCopyH
import KE.KDictSum
import HandS.TupSets
import HandS.Sort
import HandS.Style
import HandS.TupAny
import HandS.Conv
import HandS.SetFor
import HandS.Text
import HandS.FStr
import KE.KExcSuper
import PyProof.FString
import PyProof.FString4
import HandS.Exc
import HandS.ExcIs
import HandS.ExcSuper
import HandS.ExcOwn
import PyProof.WalksMore
import KE.KSortTup
import KE.KIsAll
import PyProof.IsInstance
import PyProof.ListStr
import HandS.More
import HandS.ExcField
import HandS.WordsExc
import KE.KStateDown
import Lean
import HandS.Ends
import HandS.Words
import HandS.Head0
import HandS.Head1
import HandS.Head2
import HandS.HeadEnd
import HandS.HeadHook1
import HandS.HeadHook2
import HandS.HeadHook3
import HandS.HeadHook4
import HandS.HeadWalk
set_option Elab.async false
/-! KGen -/
set_option Elab.async false
set_option linter.all false
set_option maxRecDepth 100000
set_option maxHeartbeats 2000000
/-! Generator expressions over a tuple whose element may call defs: all(..), tuple(..). -/
namespace SB
open PySem PySem.Spec PyProof.Rows L2

/-- the frame in which a generator expression's element runs -/
abbrev gEnv (X : Cx) (scope : Scope) (L : Addr) (code : Value) (bi : Addr) : Env :=
  genEnv scope (cloFrom X.env.cells scope.names []) L code bi X.env

/-- what the element gives at the place i, wherever it is asked: F i -/
def EltB (X : Cx) (scope : Scope) (x : Str) (elt : Expr) (s1 : Shared) (P : Addr) (its : List Value) (F : Nat → Value → Prop) : Prop :=
  ∀ (L : Addr) (code : Value) (A' : Around) (E' : Value → Shared → Prop) (i : Nat) (v : Value) (s₂ : Shared) (m₂ : Str → Option Value),
    A'.handled = none → A'.depth ≤ X.A.depth + 1 → A'.units ≤ X.A.units + 8 → its[i]? = some v → s₂.heap.Ns L m₂ → m₂ x = some v →
    (∀ b o, b ≠ P → s1.heap.get? b = some o → s₂.heap.get? b = some o) →
    wpAny (model X.prog X.w) A' (eval elt (gEnv X scope L code builtinsNs)) (fun y s₃ => F i y ∧ Keeps s₂ s₃) E' s₂

section
variable {X : Cx} {pins : List (Addr × Obj)} {σ : L2.St} {H : Hp} {s : Shared}

/-- a generator g that has not begun, over n items; H1: what was held ahead of it -/
def ReadyB (X : Cx) (pins : List (Addr × Obj)) (σ : L2.St) (H1 : Hp) (P : Addr) (n : Nat) (F : Nat → Value → Prop) (g : Addr) (s5 : Shared) : Prop :=
  ∃ (fp wr : List Addr) (G : Array GenState → Array GenState → Prop) (Fj : Nat → Value → Prop) (St : Nat → Shared → Prop),
    WalksS X.prog X.w X.A.in4 g fp wr G n Fj St ∧ St 0 s5 ∧ (∀ b ∈ fp, b < s5.heap.objs.size) ∧ g ∈ fp ∧
    (∀ i s9, St i s9 → s9.TypeIs (.ref g) "generator") ∧ (∀ j v, Fj j v → F j v) ∧
    ∀ s', Moved wr G s5 s' → ∃ H2, GxR.Tabbed P H1 H2 ∧ Inv X pins σ H2 s'

theorem gen_tup {c P : Addr} {elt iter : Expr} {x : Str} {px gpos : Pos} {scope : Scope} {te : TE} {k : Nat} {Q' : Value → Shared → Prop}
    {R : List V → (Nat → Value → Prop) → Hp → Prop} {W : V → Hp → Prop}
    (hr : Room k X.A) (TB : GxR.TabB X.base X.mg c P) (hcode : X.env.code = .ref c) (S : GxR.GenS X.env scope x) (hi : PE X iter te)
    (hs : ∀ v, genFold iter X.env v = pure v) (I : Inv X pins σ H s)
    (h : te σ H W) (hW : ∀ v H1, W v H1 → ∃ (yl : Addr) (xs : List V) (F : Nat → Value → Prop), v = .ref yl ∧ SqT X.K H1 yl xs ∧ GxR.TabG H1 P ∧
      (∀ s1 its, Inv X pins σ H1 s1 → Vals xs its → EltB X scope x elt s1 P its F) ∧ R xs F H1)
    (hQ : ∀ xs F H1 g s5, R xs F H1 → xs.length ≤ sizeLine → ReadyB X pins σ H1 P xs.length F g s5 → Q' (.ref g) s5) :
    wpAny (model X.prog X.w) X.A (eval (.GeneratorExp elt [⟨.Name x px, iter, [], 0⟩] scope gpos) X.env) Q' X.xe s := by
  refine wpAny_GeneratorExp_walksQD hr.hd S.co (closure_ok S.free) S.cell S.dot S.loc S.kind (by have := hr.dp; omega) ?_ hs
  refine thn (hi.run pins s σ H _ I h) fun xv s1 ⟨v, H1, I1, r1, q1⟩ => ?_
  obtain ⟨yl, xs, F, rfl, hyl, ⟨ps, hP, ht⟩, hel, q1⟩ := hW v H1 q1
  obtain rfl : xv = Value.ref yl := r1
  obtain ⟨its, rv, hT, hz⟩ := I1.tuple hyl
  have hel1 := hel s1 its I1 rv
  have hIT : s1.heap.IsTuple yl its.toArray := hT
  have hlen : its.length = xs.length := rv.length.symm
  refine wpAny_pyIter_tuple hIT ?_
  generalize ho : ({ cls := .type "tuple_iterator", data := .fields #[.ref yl, .int 0 0] } : Obj) = o
  have hitr : (s1.heap.push o).IsTupleIter s1.heap.objs.size yl 0 := by
    subst ho
    exact ⟨_, Heap.get?_push_size _ rfl, rfl, rfl⟩
  have hylt : yl < s1.heap.objs.size := by
    obtain ⟨_, e, _⟩ := _root_.id hIT
    exact Heap.lt_size e
  have hPs : s1.heap.get? P = some { cls := .none, data := .fields ps } := I1.hok P _ hP
  have hPlt : P < s1.heap.objs.size := Heap.lt_size hPs
  have hP2 : (s1.heap.push o).get? P = some { cls := .none, data := .fields ps } := Heap.get?_push_of_some _ hPs
  have cd : PySem.W.CodeHd (s1.heap.push o) c P := TB.code.keeps fun b u e => Heap.get?_push_of_some _ (I1.bk b u e)
  have lim2 : (s1.heap.push o).NoLimit := I1.nolimit.push o
  refine ⟨lim2, ?_⟩
  -- behind the code object, found or made
  have cont : ∀ (code : Value) (h3 : Heap) (tk : Nat) (ps' : Array Value), Heap.ExtBut P (s1.heap.push o) h3 → (s1.heap.push o).objs.size ≤ h3.objs.size →
      h3.get? P = some { cls := .none, data := .fields ps' } → (∃ more, ps' = ps ++ more) → TriplesOk ps'.toList →
      wpAny (model X.prog X.w) X.A (builtinsFor X.env.globals X.env.builtins) (fun bi s₄ =>
        ∃ Ia fp wr n₀ Pf St₀ pz Fz, Value.ref s1.heap.objs.size = .ref Ia ∧ (∀ A' : Around, A'.handled = none → Walks X.prog X.w A' Ia fp wr n₀ Pf St₀) ∧ St₀ 0 s₄.heap ∧
          (∀ b ∈ fp, b < s₄.heap.objs.size) ∧ s₄.heap.NoLimit ∧ cStatics ∉ wr ∧
          (∀ href : Heap, (∀ b o, s₄.heap.get? b = some o → href.get? b = some o) →
            QuietGenD X.prog X.w (genEnv scope (cloFrom X.env.cells scope.names []) s₄.heap.objs.size code bi X.env) x [] elt (List.range s₄.heap.objs.size) wr Pf pz Fz href (X.A.depth + 1) (X.A.units + 8)) ∧
          (∀ a h₅ tk gs, gs.bare = true → s₄.heap.objs.size < a → h₅.objs.size = a + 1 → (∀ b o, s₄.heap.get? b = some o → h₅.get? b = some o) →
            WalksS X.prog X.w X.A.in4 a (a :: s₄.heap.objs.size :: List.range s₄.heap.objs.size) (s₄.heap.objs.size :: wr) (GenOnlyQ s₄.gens.size) (passing pz n₀ 0).length
              (fun j y => ∃ i, (passing pz n₀ 0)[j]? = some i ∧ Fz i y) (GenAt X.prog X.w X.A.in4 a s₄.gens.size s₄.heap.objs.size (List.range s₄.heap.objs.size) wr pz n₀ Fz) →
            GenAt X.prog X.w X.A.in4 a s₄.gens.size s₄.heap.objs.size (List.range s₄.heap.objs.size) wr pz n₀ Fz 0 { s₄ with gens := s₄.gens.push gs, toks := tk, heap := h₅ } →
            Q' (.ref a) { s₄ with gens := s₄.gens.push gs, toks := tk, heap := h₅ })) X.xe { s1 with heap := h3, toks := tk } := by
    intro code h3 tk ps' hx hsz hP3 hmore ht3
    obtain ⟨bm, ob, e1, e2, e3, e4, e5, e6, e7, e8⟩ := TB.bm
    have keep3 : ∀ b u, b ≠ P → s1.heap.get? b = some u → h3.get? b = some u := fun b u hb e => hx b u hb (Heap.get?_push_of_some _ e)
    have sz3 : s1.heap.objs.size < h3.objs.size := by
      have sz2 : (s1.heap.push o).objs.size = s1.heap.objs.size + 1 := Heap.size_push ..
      omega
    have hcl : cStatics < s1.heap.objs.size := let ⟨_, hns, _⟩ := I1.nolimit; hns.lt
    have hcP : cStatics ≠ P := fun e => by
      obtain ⟨_, ⟨o', es, ep, ho', hd', _⟩, _⟩ := I1.nolimit
      rw [e, hPs] at ho'
      cases ho'
      cases hd'
    refine wpAny_builtinsFor (m := X.mg) (by rw [I1.ok.glob]; exact ((I1.mod.glob.keeps I1.bk).push o).extBut hx TB.gP) e1 e2 (keep3 _ _ e4 (I1.bk _ _ e5)) e6 e7 e8 ?_
    have hylP : yl ≠ P := fun z => by
      obtain ⟨_, e, _, _, hd1⟩ := _root_.id hIT
      rw [z, hPs] at e
      cases e
      cases hd1
    have hIT3 : h3.IsTuple yl its.toArray := by
      obtain ⟨o9, e, r⟩ := _root_.id hIT
      exact ⟨o9, keep3 _ _ hylP e, r⟩
    have hItr3 : h3.IsTupleIter s1.heap.objs.size yl 0 := hitr.at fun u e => hx _ u (Nat.ne_of_gt hPlt) e
    refine ⟨s1.heap.objs.size, [s1.heap.objs.size, yl], [s1.heap.objs.size], its.toArray.size, (fun i v => its.toArray[i]? = some v),
      (fun i h => h.IsTupleIter s1.heap.objs.size yl i ∧ h.IsTuple yl its.toArray), (fun _ => true), F, rfl,
      (fun A' hA => Walks.tuple hA _ _ (Nat.ne_of_lt hylt) _), ⟨hItr3, hIT3⟩, ?_, lim2.extBut hx hcP, ?_, ?_, ?_⟩
    · intro b hb
      show b < h3.objs.size
      rcases List.mem_cons.mp hb with z | z
      · rw [z]; exact sz3
      · rw [List.mem_singleton.mp z]; exact Nat.lt_trans hylt sz3
    · intro z
      exact Nat.ne_of_lt hcl (List.mem_singleton.mp z)
    · intro href hhref
      have kq : ∀ s₂ : Shared, (∀ b ∈ List.range h3.objs.size, b ∉ [s1.heap.objs.size] → ∀ o, href.get? b = some o → s₂.heap.get? b = some o) →
          ∀ b o, b ≠ P → s1.heap.get? b = some o → s₂.heap.get? b = some o := fun s₂ hk b u hb e => by
        have hl := Heap.lt_size e
        refine hk b (List.mem_range.mpr (Nat.lt_trans hl sz3)) (fun z => ?_) u (hhref b u (keep3 b u hb e))
        exact Nat.ne_of_lt hl (List.mem_singleton.mp z)
      refine ⟨fun A' E' i v s₂ m₂ hA _ _ hPv hn hm hk => ?_, fun A' E' i v s₂ m₂ hA hd hu hPv _ hn hm hk => ?_⟩
      · simp only [List.forIn_nil]
        exact wpAny_pure ⟨rfl, GxR.keeps_refl _⟩
      · have hv2 : its[i]? = some v := by simpa using hPv
        exact hel1 _ code A' E' i v s₂ m₂ hA hd hu hv2 hn hm (kq s₂ hk)
    · intro g h5 tk5 gs hgb hag hsz5 hk5 W5 hgat
      simp only [GxR.passing_true, List.length_range] at W5
      have hn5 : its.toArray.size = xs.length := by rw [List.size_toArray, hlen]
      rw [hn5] at W5 hgat
      have hag' : h3.objs.size < g := hag
      have hs5' : h5.objs.size = g + 1 := hsz5
      refine hQ xs F H1 g _ q1 hz ⟨_, _, _, _, _, W5, hgat, fun b hb => ?_, List.mem_cons_self, fun i s9 h9 => ?_, fun j v hv => ?_, fun s' hm => ?_⟩
      · show b < h5.objs.size
        rcases List.mem_cons.mp hb with z | z
        · rw [z, hs5']; exact Nat.lt_succ_self g
        · rcases List.mem_cons.mp z with z | z
          · rw [z, hs5']; exact Nat.lt_succ_of_lt hag'
          · have z2 : b < h3.objs.size := List.mem_range.mp z
            rw [hs5']; exact Nat.lt_succ_of_lt (Nat.lt_trans z2 hag')
      · obtain ⟨hg9, _⟩ := h9
        exact hg9.typeIs
      · obtain ⟨i, hij, hF⟩ := hv
        obtain ⟨_, ej⟩ := List.getElem?_eq_some_iff.mp hij
        rw [List.getElem_range] at ej
        rw [ej]; exact hF
      · obtain ⟨more, em⟩ := hmore
        have nwr : ∀ b u, s1.heap.get? b = some u → b ∉ h3.objs.size :: [s1.heap.objs.size] := fun b u e hb => by
          have hl := Heap.lt_size e
          rcases List.mem_cons.mp hb with z | z
          · exact Nat.lt_irrefl _ (Nat.lt_trans (z ▸ hl) sz3)
          · exact Nat.ne_of_lt hl (List.mem_singleton.mp z)
        have J := GxR.inv_tab (more := more) (h' := s'.heap) (g' := s'.gens) (d' := s'.drawn) (t' := s'.toks) I1 hP
          (fun b u hb e => hm.heap b u (nwr b u e) (hk5 b u (keep3 b u hb e)))
          (by rw [← em]; exact hm.heap P _ (nwr P _ hPs) (hk5 P _ hP3)) (AllBare.movedS (I1.bare.push hgb) hm)
        rw [GxR.sh_eta s1 s' hm.os] at J
        exact ⟨upd H1 P (.tbl (ps ++ more)), ⟨⟨ps ++ more, upd_same, by rw [← em]; exact ht3⟩, fun b hb => upd_ne hb⟩, J⟩
  cases hf : codeAmong gpos ps.toList with
  | none =>
    refine wpAny_genexprCodeX hcode (cd.code hP2 ht) (cd.tab hP2) hf fun c' h' tk hx hge hlt hco' _ htab' _ => ?_
    obtain ⟨o1, vs, f1, tf, fl, tg, inF, tx, tt, op, _, _, _, _, _, _, _, _, _, htr, _⟩ := hco'
    exact cont _ h' tk _ hx (Nat.le_trans hge (Nat.le_of_lt hlt)) htab'.2 ⟨_, rfl⟩ htr
  | some cv =>
    refine wpAny_genexprCode_hit hcode (cd.code hP2 ht) hf ?_
    exact cont cv (s1.heap.push o) s1.toks ps (Heap.ExtBut.refl _ _) (Nat.le_refl _) hP2 ⟨#[], by simp⟩ ht

/-- all(elt for x in e), e a tuple: its tests give bs -/
def tAllB (X : Cx) (scope : Scope) (x : Str) (elt : Expr) (P : Addr) (te : TE) : TE := fun σ H Q => te σ H fun v H1 =>
  ∃ (yl : Addr) (xs : List V) (bs : List Bool), v = .ref yl ∧ SqT X.K H1 yl xs ∧ bs.length = xs.length ∧ GxR.TabG H1 P ∧
    (∀ pins s1 its, Inv X pins σ H1 s1 → Vals xs its → EltB X scope x elt s1 P its (fun i y => ∃ b, bs[i]? = some b ∧ y = .bool b)) ∧
    ∀ H2, GxR.Tabbed P H1 H2 → Q (.bl (bs.all id)) H2
theorem getD_at {bs : List Bool} {j : Nat} (h : j < bs.length) : bs.getD j false = bs[j] := by
  rw [List.getD_eq_getElem?_getD, List.getElem?_eq_getElem h]; rfl
theorem all_range (bs : List Bool) : (List.range bs.length).all (fun i => bs.getD i false) = bs.all id := by
  rw [Bool.eq_iff_iff, List.all_eq_true, List.all_eq_true]
  constructor
  · intro h b hb
    obtain ⟨j, hj, e⟩ := List.getElem_of_mem hb
    have q := h j (List.mem_range.mpr hj)
    rw [getD_at hj, e] at q
    exact q
  · intro h j hj
    have hj' := List.mem_range.mp hj
    rw [getD_at hj']
    exact h _ (List.getElem_mem hj')
theorem pe_allB {c P : Addr} {elt iter : Expr} {x : Str} {px p pos gpos : Pos} {scope : Scope} {te : TE} {k : Nat}
    (hr : Room k X.A) (hg : Gl X "all") (hm : X.mg "all" = none) (TB : GxR.TabB X.base X.mg c P) (hcode : X.env.code = .ref c) (S : GxR.GenS X.env scope x) (hi : PE X iter te)
    (hs : ∀ v, genFold iter X.env v = pure v) (hb : bootBuiltins "all" = some (.builtin "all") := by decide +kernel)
    (he : starEach [.GeneratorExp elt [⟨.Name x px, iter, [], 0⟩] scope gpos] X.env = (false, eval (.GeneratorExp elt [⟨.Name x px, iter, [], 0⟩] scope gpos) X.env) :: starEach [] X.env := by rfl) :
    PE X (.Call (.Name "all" p) [.GeneratorExp elt [⟨.Name x px, iter, [], 0⟩] scope gpos] [] pos) (tAllB X scope x elt P te) := by
  refine ⟨fun pins s σ H Q I h => ?_⟩
  refine wpAny_Call_Name_kw (ld_blt I hg hm hb ?_)
  refine PyProof.Rows.callWith_builtin1 ?_ he (by rfl)
  rw [he]
  show wpAny _ _ (spliced ((false, eval (.GeneratorExp elt [⟨.Name x px, iter, [], 0⟩] scope gpos) X.env) :: backTo pos (starEach [] X.env))) _ _ s
  refine Calls.spliced_cons (gen_tup (R := fun xs F H1 => ∃ bs : List Bool, F = (fun i y => ∃ b, bs[i]? = some b ∧ y = .bool b) ∧ bs.length = xs.length ∧ ∀ H2, GxR.Tabbed P H1 H2 → Q (.bl (bs.all id)) H2)
    hr TB hcode S hi hs I h (fun v H1 ⟨yl, xs, bs, e, h1, h2, h3, h4, h5⟩ => ⟨yl, xs, _, e, h1, h3, h4 pins, bs, rfl, h2, h5⟩) fun xs F H1 g s5 hR hz hG => ?_)
  · obtain ⟨bs, rfl, hlen, hq⟩ := hR
    obtain ⟨fp, wr, G, Fj, St, W, hst, hfp, hgf, hT, hF, hI⟩ := hG
    refine Calls.spliced_nil ?_
    refine call_all_walkS (W.in4_1.self 0 _ _ _ hst ⟨g, fp, wr, G, _, Fj, St, (fun i => bs.getD i false), rfl, W.in4_1, hst, ?_, fun s' hmv => ?_⟩)
    · intro i v sj Qj Ej hy hQj
      obtain ⟨b, hb1, rfl⟩ := hF i v hy
      have e : bs.getD i false = b := by
        rw [List.getD_eq_getElem?_getD, hb1]; rfl
      have hQ2 : Qj (bs.getD i false) sj := hQj
      rw [e] at hQ2
      exact wpAny_truthy_bool hQ2
    · obtain ⟨H2, hT2, J⟩ := hI s' hmv
      refine ⟨.bl _, H2, J, rfl, ?_⟩
      rw [← hlen, all_range bs]
      exact hq H2 hT2

/-- tuple(elt for x in e), e a tuple: a new tuple of ys -/
def tTupB (X : Cx) (scope : Scope) (x : Str) (elt : Expr) (P : Addr) (te : TE) : TE := fun σ H Q => te σ H fun v H1 =>
  ∃ (yl : Addr) (xs ys : List V), v = .ref yl ∧ SqT X.K H1 yl xs ∧ ys.length = xs.length ∧ GxR.TabG H1 P ∧
    (∀ pins s1 its, Inv X pins σ H1 s1 → Vals xs its → EltB X scope x elt s1 P its (fun i y => ∃ z, ys[i]? = some z ∧ RelV z y)) ∧
    ∀ H2, GxR.Tabbed P H1 H2 → ∀ t, H2 t = none → Q (.ref t) (upd H2 t (.tup ys))
theorem vals_items {ys : List V} {acc : Array Value} {n : Nat} {F : Nat → Value → Prop} (hn : ys.length = n) (h : ItemsOf F acc n) (hF : ∀ j v, F j v → ∃ z, ys[j]? = some z ∧ RelV z v) : Vals ys acc.toList := by
  have key : ∀ (l : List Value) (zs : List V), zs.length = l.length → (∀ (j : Nat) v, l[j]? = some v → ∃ z, zs[j]? = some z ∧ RelV z v) → Vals zs l := by
    intro l
    induction l with
    | nil =>
      intro zs hz _
      cases zs with
      | nil => exact .nil
      | cons => simp at hz
    | cons v l ih =>
      intro zs hz hv
      cases zs with
      | nil => simp at hz
      | cons z zs =>
        obtain ⟨z', e1, e2⟩ := hv 0 v rfl
        have e3 : z = z' := by simpa using e1
        refine .cons (e3 ▸ e2) (ih zs (by simpa using hz) fun j u hu => ?_)
        obtain ⟨z2, f1, f2⟩ := hv (j + 1) u (by simpa using hu)
        exact ⟨z2, by simpa using f1, f2⟩
  refine key acc.toList ys ?_ fun j v hv => ?_
  · rw [hn, Array.length_toList]; exact h.1.symm
  · refine hF j v (h.2 j v ?_)
    simpa using hv
theorem pe_tupB {c P : Addr} {elt iter : Expr} {x : Str} {px p pos gpos : Pos} {scope : Scope} {te : TE} {k : Nat}
    (hr : Room k X.A) (hg : Gl X "tuple") (hm : X.mg "tuple" = none) (TB : GxR.TabB X.base X.mg c P) (hcode : X.env.code = .ref c) (S : GxR.GenS X.env scope x) (hi : PE X iter te)
    (hs : ∀ v, genFold iter X.env v = pure v) (hb : bootBuiltins "tuple" = some (.type "tuple") := by decide +kernel)
    (he : starEach [.GeneratorExp elt [⟨.Name x px, iter, [], 0⟩] scope gpos] X.env = (false, eval (.GeneratorExp elt [⟨.Name x px, iter, [], 0⟩] scope gpos) X.env) :: starEach [] X.env := by rfl)
    (hpl : (backTo pos (starEach [] X.env)).any (·.1) = false := by rfl) :
    PE X (.Call (.Name "tuple" p) [.GeneratorExp elt [⟨.Name x px, iter, [], 0⟩] scope gpos] [] pos) (tTupB X scope x elt P te) := by
  refine ⟨fun pins s σ H Q I h => ?_⟩
  refine wpAny_Call_Name_kw (ld_blt I hg hm hb ?_)
  refine PyProof.Rows.callWith_type1 ?_ he hpl
  rw [he]
  show wpAny _ _ (spliced ((false, eval (.GeneratorExp elt [⟨.Name x px, iter, [], 0⟩] scope gpos) X.env) :: backTo pos (starEach [] X.env))) _ _ s
  refine Calls.spliced_cons (gen_tup (R := fun xs F H1 => ∃ ys : List V, F = (fun i y => ∃ z, ys[i]? = some z ∧ RelV z y) ∧ ys.length = xs.length ∧ ∀ H2, GxR.Tabbed P H1 H2 → ∀ t, H2 t = none → Q (.ref t) (upd H2 t (.tup ys)))
    hr TB hcode S hi hs I h (fun v H1 ⟨yl, xs, ys, e, h1, h2, h3, h4, h5⟩ => ⟨yl, xs, _, e, h1, h3, h4 pins, ys, rfl, h2, h5⟩) fun xs F H1 g s5 hR hz hG => ?_)
  obtain ⟨ys, rfl, hlen, hq⟩ := hR
  obtain ⟨fp, wr, G, Fj, St, W, hst, hfp, hgf, hT, hF, hI⟩ := hG
  refine Calls.spliced_nil ?_
  refine call_tuple_gen (hsz := hz) W.in4_3 hT hst hfp hgf fun s' acc hm hacc => ?_
  obtain ⟨H2, hT2, J⟩ := hI s' hm
  have rv : Vals ys acc.toList := vals_items hlen hacc hF
  have hn : H2 s'.heap.objs.size = none := J.hok.fresh (Nat.le_refl _)
  have hz2 : ys.length ≤ sizeLine := hlen ▸ hz
  refine ⟨.ref s'.heap.objs.size, _, J.laid (t' := s'.toks) (a := s'.heap.objs.size) (o := .tup ys) (fun b u e => Heap.get?_push_of_some _ e) (Nat.le_refl _)
    ⟨hz2, acc.toList, rv, ?_⟩, rfl, hq H2 hT2 _ hn⟩
  exact ⟨_, Heap.get?_push_size _ rfl, rfl, _, by rw [Array.toArray_toList]⟩
end
end SB
/-! KLet -/
set_option Elab.async false
set_option linter.all false
set_option maxRecDepth 100000
set_option maxHeartbeats 4000000
namespace SB
open PySem PySem.Spec PyProof.Rows L2
def top (i : Nat) : Stmt := PySem.Challenge.pw_scatterbooks_k01_whole_texts.main.body.getD i (.Pass ⟨0, 0, 0, 0⟩)
abbrev sLetter : Stmt := top 15
abbrev sWhole : Stmt := top 16
abbrev FnP (K : PySem.W.Frag) (x : Str) (st : Stmt) (f : Addr) (fd : FuncData) : Prop := FunD K x x (defArgs st) (defBody st) (defScope st) [] [] f fd
theorem Mod.keeps {K : PySem.W.Frag} {mg : Str → Option Value} {h h' : Heap} (m : L2.Mod K mg h) (k : ∀ b o, h.get? b = some o → h'.get? b = some o) : L2.Mod K mg h' :=
  ⟨m.kin.keeps k, m.glob.keeps k, let ⟨mb, h1, h2⟩ := m.blt; ⟨mb, h1.keeps k, h2⟩, m.nolimit.keeps k⟩
theorem keeps_trans {s s' s'' : Shared} (a : Keeps s s') (b : Keeps s' s'') : Keeps s s'' := by
  obtain ⟨h1, t1, rfl, k1⟩ := a
  obtain ⟨h2, t2, rfl, k2⟩ := b
  exact ⟨h2, t2, rfl, fun c o e => k2 c o (k1 c o e)⟩
theorem keeps_heap {s s' : Shared} (a : Keeps s s') : ∀ b o, s.heap.get? b = some o → s'.heap.get? b = some o := by
  obtain ⟨h1, t1, rfl, k1⟩ := a
  exact k1
section
variable {prog : Program} {w : World} {A : Around} {E : Value → Shared → Prop} {s : Shared} {K : PySem.W.Frag} {mg : Str → Option Value} {f : Addr} {fd : FuncData}
/-- a global or built-in name in a frame of the module -/
theorem glob_at {env : Env} {x : Str} {pos : Pos} {u : Value} {Q : Value → Shared → Prop} (G : L2.Mod K mg s.heap) (hk : env.scope.kind = .function) (hx : env.kindOf x = some .globalImplicit) (hg : env.globals = mainGlobals)
    (hm : mg x = some u) (h : Q u s) (hd : (x == ("__debug__" : Str)) = false := by decide) : wpAny (model prog w) A (eval (.Name x pos) env) Q E s :=
  Calls.Name_function_global hk hx (Calls.loadGlobal_global (by rw [hg]; exact G.glob) hm h) hd
theorem blt_at {env : Env} {x : Str} {pos : Pos} {u : Value} {Q : Value → Shared → Prop} (G : L2.Mod K mg s.heap) (hk : env.scope.kind = .function) (hx : env.kindOf x = some .globalImplicit) (hg : env.globals = mainGlobals) (hb : env.builtins = builtinsNs)
    (hm : mg x = none) (hv : bootBuiltins x = some u) (h : Q u s) (hn : x ≠ "__name__" := by decide) (hd : (x == ("__debug__" : Str)) = false := by decide) : wpAny (model prog w) A (eval (.Name x pos) env) Q E s := by
  obtain ⟨mb, hb1, hb2⟩ := G.blt
  exact Calls.Name_function_global hk hx (Calls.loadGlobal_builtin (by rw [hg]; exact G.glob) hm (by rw [hb]; exact hb1) ((hb2 x hn).trans hv) h) hd
theorem isi_call {env : Env} {x T : Str} {Tn : String} {v : Value} {b : Bool} {p p1 p2 pos : Pos} {m : Str → Option Value} {Q : Value → Shared → Prop} (G : L2.Mod K mg s.heap) (hk : env.scope.kind = .function)
    (hi : env.kindOf "isinstance" = some .globalImplicit) (hT : env.kindOf T = some .globalImplicit) (hx : env.kindOf x = some .local) (hg : env.globals = mainGlobals) (hb : env.builtins = builtinsNs)
    (m1 : mg "isinstance" = none) (m2 : mg T = none) (hv : bootBuiltins T = some (.type Tn)) (hn : s.heap.Ns env.locals m) (hm : m x = some v)
    (hc : ∀ Q' : Value → Shared → Prop, (∀ s', Keeps s s' → Q' (.bool b) s') → wpAny (model prog w) A (call (.builtin "isinstance") [v, .type Tn]) Q' E s)
    (h : ∀ s', Keeps s s' → Q (.bool b) s') (nT : T ≠ "__name__" := by decide) (dT : (T == ("__debug__" : Str)) = false := by decide) (dx : (x == ("__debug__" : Str)) = false := by decide) :
    wpAny (model prog w) A (eval (.Call (.Name "isinstance" p) [.Name x p1, .Name T p2] [] pos) env) Q E s := by
  refine wpAny_Call_Name_kw (blt_at G hk hi hg hb m1 boot_isinstance ?_)
  refine PyProof.Rows.callWith_builtin1 ?_ (by rfl) (by rfl)
  refine Calls.spliced_cons (wpAny_Name (wpAny_loadName_local hk hx hn hm ?_) dx)
  refine Calls.spliced_cons (blt_at G hk hT hg hb m2 hv ?_ nT dT)
  refine Calls.spliced_nil ?_
  exact hc _ h
theorem isWhole_int (G : L2.Mod K mg s.heap) (FN : FnP K "is_whole" sWhole f fd) (m1 : mg "isinstance" = none) (m2 : mg "int" = none) (m3 : mg "bool" = none) (hd : A.depth < recursionLimit) {i : Int} {t : Tok} {Q : Value → Shared → Prop}
    (h : ∀ s', Keeps s s' → Q (.bool true) s') : wpAny (model prog w) A (call (.ref f) [.int i t]) Q E s := by
  have b := FunD.bindsA (ps := ["value"]) FN fun _ _ _ _ _ _ us hl => match us, hl with | [_], _ => rfl
  obtain ⟨oc, od, dV, kV, doc, pm, an, cdv, ct, osl, rfl, lk, hcd, _, _⟩ := FN.ex
  refine wpAny_call ?_
  refine Att.call_fn (binds := [("value", .int i t)]) G.kin G.nolimit lk hcd hd (b s [_] rfl) (by first | rfl | decide | with_unfolding_all rfl) (fun s₁ IC => ?_) rfl rfl rfl
  obtain ⟨h₁, tk₁, rfl⟩ := IC.toInCall.same
  have k := IC.toInCall.keep
  have hn := IC.toInCall.ns
  have G1 := Mod.keeps G k
  have k1 : Keeps s { s with heap := h₁, toks := tk₁ } := ⟨h₁, tk₁, rfl, k⟩
  show wpAny _ _ (execs _ _) _ _ _
  refine wpAny_execs_cons ?_
  refine wpAny_Return_some ?_
  refine BoolOp_and ?_
  refine isi_call (b := true) (Tn := "int") (v := .int i t) G1 rfl rfl rfl rfl rfl rfl m1 m2 (by decide +kernel) hn rfl (fun Q' hq => ?_) fun s2 k2 => ?_
  · exact call_isinstance (isinstance_true F.isi_meta_int F.isi_self_int) ⟨typeIs_int _ _ _, hq _ (GxR.keeps_refl _)⟩
  refine wpAny_truthy_bool ?_
  refine BoolOp_one ?_
  refine UnaryOp_ ?_
  have G2 := Mod.keeps G1 (keeps_heap k2)
  refine isi_call (b := false) (Tn := "bool") (v := .int i t) G2 rfl rfl rfl rfl rfl rfl m1 m3 (by decide +kernel) (hn.keeps (keeps_heap k2)) rfl (fun Q' hq => ?_) fun s3 k3 => ?_
  · exact call_isinstance (isinstance_false_int (by decide) F.isi_meta_bool (by rw [isSubtype_type]; kernel_rfl)) (hq _ (GxR.keeps_tok _ _))
  exact not_of (wpAny_truthy_bool (h _ (keeps_trans k1 (keeps_trans k2 k3))))
theorem isLetter_int {fW : Addr} {fdW : FuncData} (G : L2.Mod K mg s.heap) (FN : FnP K "is_letter" sLetter f fd) (FW : FnP K "is_whole" sWhole fW fdW) (mW : mg "is_whole" = some (.ref fW)) (m1 : mg "isinstance" = none) (m2 : mg "int" = none) (m3 : mg "bool" = none)
    (hd : A.depth + 1 < recursionLimit) {i j : Int} {t u : Tok} {Q : Value → Shared → Prop}
    (h : ∀ s', Keeps s s' → Q (.bool (decide (0 ≤ i ∧ i < j))) s') : wpAny (model prog w) A (call (.ref f) [.int i t, .int j u]) Q E s := by
  have b := FunD.bindsA (ps := ["value", "many"]) FN fun _ _ _ _ _ _ us hl => match us, hl with | [_, _], _ => rfl
  obtain ⟨oc, od, dV, kV, doc, pm, an, cdv, ct, osl, rfl, lk, hcd, _, _⟩ := FN.ex
  refine wpAny_call ?_
  refine Att.call_fn (binds := [("value", .int i t), ("many", .int j u)]) G.kin G.nolimit lk hcd (by omega) (b s [_, _] rfl) (by first | rfl | decide | with_unfolding_all rfl) (fun s₁ IC => ?_) rfl rfl rfl
  obtain ⟨h₁, tk₁, rfl⟩ := IC.toInCall.same
  have k := IC.toInCall.keep
  have hn := IC.toInCall.ns
  have G1 := Mod.keeps G k
  have k1 : Keeps s { s with heap := h₁, toks := tk₁ } := ⟨h₁, tk₁, rfl, k⟩
  show wpAny _ _ (execs _ _) _ _ _
  refine wpAny_execs_cons ?_
  refine wpAny_Return_some ?_
  refine BoolOp_and ?_
  refine wpAny_Call_Name_kw (glob_at G1 rfl rfl rfl mW ?_)
  refine PySem.W.callWith_K (h₀ := h₁) G1.kin FW.kp ?_ rfl rfl
  refine Calls.spliced_cons (wpAny_Name (wpAny_loadName_local rfl rfl hn (v := .int i t) rfl ?_) (by decide))
  refine Calls.spliced_nil ⟨G1.kin, ?_⟩
  refine isWhole_int G1 FW m1 m2 m3 (by show A.depth + 1 < _; omega) fun s2 k2 => ?_
  refine wpAny_truthy_bool ?_
  refine BoolOp_one ?_
  have n2 := hn.keeps (keeps_heap k2)
  refine Compare_chain (wpAny_Constant_int ?_) (by with_unfolding_all rfl)
  refine chain_link (wpAny_Name (wpAny_loadName_local rfl rfl n2 (v := .int i t) rfl ?_) (by decide))
  refine PyProof.Rows.le_int ?_
  refine wpAny_truthy_bool ?_
  have k3 := keeps_trans k1 (keeps_trans k2 (GxR.keeps_tok s2 (s2.toks + 1)))
  by_cases c : 0 ≤ i
  · rw [if_pos (decide_eq_true c)]
    refine chain_last (wpAny_Name (wpAny_loadName_local rfl rfl n2 (v := .int j u) rfl ?_) (by decide))
    refine PyProof.Rows.lt_int ?_
    have e : decide (0 ≤ i ∧ i < j) = decide (i < j) := by simp [c]
    have h2 := h _ k3
    rw [e] at h2
    exact h2
  · rw [if_neg (by simpa using c)]
    have e : decide (0 ≤ i ∧ i < j) = false := by simp [c]
    have h2 := h _ k3
    rw [e] at h2
    simpa [c] using h2
end
end SB
/-! KData -/
set_option Elab.async false
set_option linter.all false
set_option maxRecDepth 100000
set_option maxHeartbeats 2000000
/-! Books as data: sides, rules, their order; what a heap keeps. -/
namespace SB
open PySem PySem.Spec PyProof.Rows L2

/-! ### plain data -/
abbrev Side := List Int
abbrev Rule := Side × Side
abbrev Book := Int × List Rule
def ltI : List Int → List Int → Bool
  | [], [] => false
  | [], _ :: _ => true
  | _ :: _, [] => false
  | x :: xs, y :: ys => if x = y then ltI xs ys else decide (x < y)
def ltR (a b : Rule) : Bool := if a.1 = b.1 then ltI a.2 b.2 else ltI a.1 b.1
theorem ltI_irr : ∀ xs : List Int, ltI xs xs = false
  | [] => rfl
  | x :: xs => by rw [ltI, if_pos rfl]; exact ltI_irr xs
theorem ltI_tri : ∀ xs ys : List Int, ltI xs ys = false → ltI ys xs = false → xs = ys
  | [], [], _, _ => rfl
  | [], _ :: _, h, _ => by simp [ltI] at h
  | _ :: _, [], _, h => by simp [ltI] at h
  | x :: xs, y :: ys, h, h' => by
    by_cases e : x = y
    · subst e
      rw [ltI, if_pos rfl] at h h'
      rw [ltI_tri xs ys h h']
    · rw [ltI, if_neg e] at h
      rw [ltI, if_neg (Ne.symm e)] at h'
      have h1 := of_decide_eq_false h
      have h2 := of_decide_eq_false h'
      omega
theorem ltI_asym : ∀ xs ys : List Int, ltI xs ys = true → ltI ys xs = false
  | [], [], h => by simp [ltI] at h
  | [], _ :: _, _ => rfl
  | _ :: _, [], h => by simp [ltI] at h
  | x :: xs, y :: ys, h => by
    by_cases e : x = y
    · subst e
      rw [ltI, if_pos rfl] at h ⊢
      exact ltI_asym xs ys h
    · rw [ltI, if_neg e] at h
      rw [ltI, if_neg (Ne.symm e)]
      have h1 := of_decide_eq_true h
      exact decide_eq_false (by omega)
theorem ltI_trans : ∀ xs ys zs : List Int, ltI xs ys = true → ltI ys zs = true → ltI xs zs = true
  | [], [], _, h, _ => by simp [ltI] at h
  | [], _ :: _, [], _, h => by simp [ltI] at h
  | [], _ :: _, _ :: _, _, _ => rfl
  | _ :: _, [], _, h, _ => by simp [ltI] at h
  | _ :: _, _ :: _, [], _, h => by simp [ltI] at h
  | x :: xs, y :: ys, z :: zs, h, h' => by
    rw [ltI] at h h' ⊢
    by_cases e : x = y
    · by_cases e' : y = z
      · subst e; subst e'
        rw [if_pos rfl] at h h' ⊢
        exact ltI_trans xs ys zs h h'
      · subst e
        rw [if_neg e'] at h' ⊢
        exact h'
    · rw [if_neg e] at h
      have h1 := of_decide_eq_true h
      by_cases e' : y = z
      · subst e'
        rw [if_neg e]
        exact h
      · rw [if_neg e'] at h'
        have h2 := of_decide_eq_true h'
        rw [if_neg (by omega)]
        exact decide_eq_true (by omega)
theorem ltR_irr (a : Rule) : ltR a a = false := by rw [ltR, if_pos rfl]; exact ltI_irr _
theorem ltR_tri (a b : Rule) (h : ltR a b = false) (h' : ltR b a = false) : a = b := by
  rw [ltR] at h h'
  by_cases e : a.1 = b.1
  · rw [if_pos e] at h
    rw [if_pos e.symm] at h'
    exact Prod.ext e (ltI_tri _ _ h h')
  · rw [if_neg e] at h
    rw [if_neg (Ne.symm e)] at h'
    exact absurd (ltI_tri _ _ h h') e
theorem ltR_asym (a b : Rule) (h : ltR a b = true) : ltR b a = false := by
  rw [ltR] at h ⊢
  by_cases e : a.1 = b.1
  · rw [if_pos e] at h
    rw [if_pos e.symm]
    exact ltI_asym _ _ h
  · rw [if_neg e] at h
    rw [if_neg (Ne.symm e)]
    exact ltI_asym _ _ h
theorem ltR_trans (a b c : Rule) (h : ltR a b = true) (h' : ltR b c = true) : ltR a c = true := by
  rw [ltR] at h h' ⊢
  by_cases e : a.1 = b.1
  · rw [if_pos e] at h
    rw [e]
    by_cases e' : b.1 = c.1
    · rw [if_pos e'] at h' ⊢
      exact ltI_trans _ _ _ h h'
    · rw [if_neg e'] at h' ⊢
      exact h'
  · rw [if_neg e] at h
    by_cases e' : b.1 = c.1
    · rw [if_pos e'] at h'
      rw [← e', if_neg e]
      exact h
    · rw [if_neg e'] at h'
      have q := ltI_trans _ _ _ h h'
      rw [if_neg (fun z => ?_)]
      · exact q
      · rw [z] at h
        have r := ltI_asym _ _ h
        rw [h'] at r
        cases r

/-! ### as Python's data -/
def dSide (s : Side) : PyData := .tuple (s.map .int)
def dRule (r : Rule) : PyData := .tuple [dSide r.1, dSide r.2]
def dRules (rs : List Rule) : PyData := .tuple (rs.map dRule)
def dBook (b : Book) : PyData := .tuple [.int b.1, dRules b.2]
theorem eqv_ints : ∀ xs ys : List Int, PyData.eqvAll (xs.map .int) (ys.map .int) = decide (xs = ys)
  | [], [] => rfl
  | [], _ :: _ => rfl
  | _ :: _, [] => rfl
  | x :: xs, y :: ys => by
    rw [List.map_cons, List.map_cons, PyData.eqvAll, eqv_ints xs ys, PyData.eqv]
    by_cases e : x = y
    · subst e; simp
    · simp [e]
theorem eqv_side (a b : Side) : PyData.eqv (dSide a) (dSide b) = decide (a = b) := by
  rw [dSide, dSide, PyData.eqv]; exact eqv_ints a b
theorem eqv_rule (a b : Rule) : PyData.eqv (dRule a) (dRule b) = decide (a = b) := by
  rw [dRule, dRule, PyData.eqv, PyData.eqvAll, PyData.eqvAll, PyData.eqvAll, eqv_side, eqv_side]
  obtain ⟨a1, a2⟩ := a
  obtain ⟨b1, b2⟩ := b
  by_cases e1 : a1 = b1 <;> by_cases e2 : a2 = b2 <;> simp [e1, e2]
theorem alike_side (a b : Side) : W.alike (dSide a) (dSide b) = true := by rw [dSide, dSide, W.alike]; exact W.alike_ints a b
theorem alike_rule (a b : Rule) : W.alike (dRule a) (dRule b) = true := by
  rw [dRule, dRule, W.alike, W.alikeAll, alike_side, W.alikeAll, alike_side, W.alikeAll] <;> rfl
theorem depth_ints (xs : List Int) : PyData.depthAll (xs.map .int) = 0 := W.depth_ints xs

/-! ### what a heap keeps: all but the tables of code objects, and the things at M that can change -/
def mutK : HO → Bool
  | .lst _ => true
  | .dK _ => true
  | .dT _ => true
  | .ext _ => true
  | .set _ _ => true
  | _ => false
def Ext (M : List Addr) (H H' : Hp) : Prop := ∀ b o, H b = some o → H' b = some o ∨ (∃ ps, o = .tbl ps) ∨ (mutK o = true ∧ b ∈ M)
def Tabs (T : List Addr) (H : Hp) : Prop := ∀ P ∈ T, GxR.TabG H P
section
variable {M M' T : List Addr} {H H' H'' : Hp} {a b p : Addr} {o : HO} {xs : List V} {K : PySem.W.Frag}
theorem Ext.refl : Ext M H H := fun _ _ e => .inl e
theorem Ext.mono (h : Ext M H H') (k : ∀ b ∈ M, b ∈ M') : Ext M' H H' := fun b o e => by
  rcases h b o e with z | z | ⟨z1, z2⟩
  · exact .inl z
  · exact .inr (.inl z)
  · exact .inr (.inr ⟨z1, k b z2⟩)
theorem Ext.trans (h : Ext M H H') (h' : Ext M H' H'') : Ext M H H'' := fun b o e => by
  rcases h b o e with z | z | z
  · exact h' b o z
  · exact .inr (.inl z)
  · exact .inr (.inr z)
theorem Ext.more (h : Ext [] H H') : Ext M H H' := h.mono fun _ q => nomatch q
theorem Ext.tup (h : Ext M H H') (e : H a = some (.tup xs)) : H' a = some (.tup xs) := by
  rcases h a _ e with z | ⟨ps, z⟩ | ⟨z, _⟩
  · exact z
  · cases z
  · cases z
theorem Ext.frz {u : Obj} (h : Ext M H H') (e : H a = some (.frz u o)) : H' a = some (.frz u o) := by
  rcases h a _ e with z | ⟨ps, z⟩ | ⟨z, _⟩
  · exact z
  · cases z
  · cases z
theorem Ext.xd {fs : List (Str × V)} (h : Ext M H H') (e : H a = some (.xd fs)) : H' a = some (.xd fs) := by
  rcases h a _ e with z | ⟨ps, z⟩ | ⟨z, _⟩
  · exact z
  · cases z
  · cases z
theorem Ext.keep (h : Ext M H H') (e : H a = some o) (n : a ∉ M) (t : ∀ ps, o ≠ .tbl ps) : H' a = some o := by
  rcases h a _ e with z | ⟨ps, z⟩ | ⟨_, z⟩
  · exact z
  · exact absurd z (t ps)
  · exact absurd z n
theorem Ext.lst (h : Ext M H H') (e : H a = some (.lst xs)) (n : a ∉ M) : H' a = some (.lst xs) := h.keep e n fun _ z => nomatch z
theorem Ext.new (e : H p = none) : Ext M H (upd H p o) := fun b u q => .inl (by rw [upd_ne (ne_of_none q e)]; exact q)
theorem Ext.set {u : HO} (e : H p = some u) (m : mutK u = true) (hp : p ∈ M) : Ext M H (upd H p o) := fun b v q => by
  by_cases hb : b = p
  · rw [hb, e] at q
    cases q
    exact .inr (.inr ⟨m, hb ▸ hp⟩)
  · exact .inl (by rw [upd_ne hb]; exact q)
/-- what was not there ahead may change -/
theorem Ext.drop (h : Ext (p :: M) H H') (e : H p = none) : Ext M H H' := fun b u q => by
  rcases h b u q with z | z | ⟨z1, z2⟩
  · exact .inl z
  · exact .inr (.inl z)
  · rcases List.mem_cons.mp z2 with z3 | z3
    · rw [z3, e] at q; cases q
    · exact .inr (.inr ⟨z1, z3⟩)
theorem Ext.tabbed {P : Addr} (t : GxR.TabG H P) (h : GxR.Tabbed P H H') : Ext M H H' := fun b u q => by
  by_cases hb : b = P
  · obtain ⟨ps, e, _⟩ := t
    rw [hb, e] at q
    cases q
    exact .inr (.inl ⟨ps, rfl⟩)
  · exact .inl (by rw [h.2 b hb]; exact q)
theorem Ext.rd (h : Ext M H H') {u : HO} (m : mutK u = false) (t : ∀ ps, u ≠ .tbl ps) (r : Rd H a u) : Rd H' a u := by
  rcases r with e | ⟨ob, e⟩
  · rcases h a _ e with z | ⟨ps, z⟩ | ⟨z, _⟩
    · exact .inl z
    · exact absurd z (t ps)
    · rw [m] at z; cases z
  · exact .inr ⟨ob, h.frz e⟩
theorem Ext.sqT (h : Ext M H H') (s : SqT K H a xs) : SqT K H' a xs := by
  rcases s with r | r
  · exact .inl (h.rd rfl (fun _ z => nomatch z) r)
  · exact .inr r
theorem Ext.sqL (h : Ext M H H') (s : SqL K H a xs) (n : a ∉ M) : SqL K H' a xs := by
  rcases s with (e | ⟨ob, e⟩) | r
  · exact .inl (.inl (h.lst e n))
  · exact .inl (.inr ⟨ob, h.frz e⟩)
  · exact .inr r
theorem Tabs.new (t : Tabs T H) (e : H p = none) : Tabs T (upd H p o) := fun P hP => by
  obtain ⟨ps, h1, h2⟩ := t P hP
  exact ⟨ps, by rw [upd_ne (ne_of_none h1 e)]; exact h1, h2⟩
theorem Tabs.set {u : HO} (t : Tabs T H) (e : H p = some u) (n : ∀ ps, u ≠ .tbl ps) : Tabs T (upd H p o) := fun P hP => by
  obtain ⟨ps, h1, h2⟩ := t P hP
  exact ⟨ps, by rw [upd_ne (ne_of h1 e fun z => n ps z.symm)]; exact h1, h2⟩
theorem Tabs.tabbed {P : Addr} (t : Tabs T H) (h : GxR.Tabbed P H H') : Tabs T H' := fun R hR => by
  by_cases e : R = P
  · rw [e]; exact h.1
  · obtain ⟨ps, h1, h2⟩ := t R hR
    exact ⟨ps, by rw [h.2 R e]; exact h1, h2⟩
end
/-! ### data of tuples, ints, texts, bools, None: they stay -/
mutual
def still : PyData → Bool
  | .list _ => false
  | .dict _ => false
  | .tuple xs => stillAll xs
  | _ => true
def stillAll : List PyData → Bool
  | [] => true
  | x :: xs => still x && stillAll xs
end
section
variable {M : List Addr} {H H' : Hp} {K : PySem.W.Frag}
mutual
theorem Dp.ext (h : Ext M H H') : ∀ {d : PyData} {v : V}, still d = true → Dp K H v d → Dp K H' v d
  | _, _, _, .non => .non
  | _, _, _, .bl b => .bl b
  | _, _, _, .int i => .int i
  | _, _, _, .str x => .str x
  | _, _, s, .lst _ _ => by simp [still] at s
  | _, _, s, .tup h1 h2 => .tup (h.sqT h1) (DpAll.ext h (by simpa [still] using s) h2)
theorem DpAll.ext (h : Ext M H H') : ∀ {ds : List PyData} {vs : List V}, stillAll ds = true → DpAll K H vs ds → DpAll K H' vs ds
  | _, _, _, .nil => .nil
  | _, _, s, .cons h1 h2 => by
    have z := Bool.and_eq_true_iff.mp (show (still _ && stillAll _) = true from by simpa [stillAll] using s)
    exact .cons (Dp.ext h z.1 h1) (DpAll.ext h z.2 h2)
end
end
theorem still_ints : ∀ xs : List Int, stillAll (xs.map .int) = true
  | [] => rfl
  | x :: xs => by rw [List.map_cons, stillAll, still, still_ints xs] <;> first | rfl | simp
theorem still_side (s : Side) : still (dSide s) = true := by rw [dSide, still]; exact still_ints s
theorem still_rule (r : Rule) : still (dRule r) = true := by
  rw [dRule, still, stillAll, still_side, stillAll, still_side, stillAll] <;> rfl
theorem still_all : ∀ rs : List Rule, stillAll (rs.map dRule) = true
  | [] => rfl
  | r :: rs => by rw [List.map_cons, stillAll, still_rule, still_all rs] <;> rfl
theorem still_rules (rs : List Rule) : still (dRules rs) = true := by rw [dRules, still]; exact still_all rs
theorem still_book (b : Book) : still (dBook b) = true := by
  rw [dBook, still, stillAll, still, stillAll, still_rules, stillAll] <;> first | rfl | simp
section
variable {H : Hp} {K : PySem.W.Frag} {v : V} {vs : List V}
theorem dp_ints : ∀ {xs : List Int} {vs : List V}, DpAll K H vs (xs.map .int) ↔ vs = xs.map V.int
  | [], _ => ⟨fun h => by cases h; rfl, fun h => by subst h; exact .nil⟩
  | x :: xs, vs => ⟨fun h => by
      cases h with
      | cons h1 h2 =>
        cases h1
        rw [dp_ints.mp h2]
        rfl, fun h => by
      subst h
      exact .cons (.int x) (dp_ints.mpr rfl)⟩
theorem dp_side {s : Side} : Dp K H v (dSide s) ↔ ∃ a, v = .ref a ∧ SqT K H a (s.map V.int) := by
  constructor
  · intro h
    rw [dSide] at h
    cases h with
    | tup h1 h2 => rw [dp_ints.mp h2] at h1; exact ⟨_, rfl, h1⟩
  · rintro ⟨a, rfl, h⟩
    exact .tup h (dp_ints.mpr rfl)
theorem dp_rule {r : Rule} : Dp K H v (dRule r) ↔ ∃ a x y, v = .ref a ∧ SqT K H a [x, y] ∧ Dp K H x (dSide r.1) ∧ Dp K H y (dSide r.2) := by
  constructor
  · intro h
    rw [dRule] at h
    cases h with
    | tup h1 h2 =>
      cases h2 with
      | cons q1 q2 =>
        cases q2 with
        | cons q3 q4 => cases q4; exact ⟨_, _, _, rfl, h1, q1, q3⟩
  · rintro ⟨a, x, y, rfl, h, h1, h2⟩
    exact .tup h (.cons h1 (.cons h2 .nil))
theorem dp_rules {rs : List Rule} : Dp K H v (dRules rs) ↔ ∃ a vs, v = .ref a ∧ SqT K H a vs ∧ DpAll K H vs (rs.map dRule) := by
  constructor
  · intro h
    rw [dRules] at h
    cases h with
    | tup h1 h2 => exact ⟨_, _, rfl, h1, h2⟩
  · rintro ⟨a, vs, rfl, h1, h2⟩
    exact .tup h1 h2
theorem dp_book {b : Book} : Dp K H v (dBook b) ↔ ∃ a y, v = .ref a ∧ SqT K H a [.int b.1, y] ∧ Dp K H y (dRules b.2) := by
  constructor
  · intro h
    rw [dBook] at h
    cases h with
    | tup h1 h2 =>
      cases h2 with
      | cons q1 q2 =>
        cases q1
        cases q2 with
        | cons q3 q4 => cases q4; exact ⟨_, _, rfl, h1, q3⟩
  · rintro ⟨a, y, rfl, h, h1⟩
    exact .tup h (.cons (.int _) (.cons h1 .nil))
theorem dpAll_length : ∀ {ds : List PyData} {vs : List V}, DpAll K H vs ds → vs.length = ds.length
  | _, _, .nil => rfl
  | _, _, .cons _ h => congrArg Nat.succ (dpAll_length h)
theorem dpAll_get : ∀ {ds : List PyData} {vs : List V} {i : Nat} {v : V}, DpAll K H vs ds → vs[i]? = some v → ∃ d, ds[i]? = some d ∧ Dp K H v d
  | _, _, _, _, .nil, e => by simp at e
  | _, _, 0, _, .cons h _, e => by simp at e; subst e; exact ⟨_, rfl, h⟩
  | _, _, i + 1, _, .cons _ h, e => by
    obtain ⟨d, h1, h2⟩ := dpAll_get (i := i) h (by simpa using e)
    exact ⟨d, by simpa using h1, h2⟩
end

/-! ### the order of rules in the machine -/
section
variable {X : Cx} {pins : List (Addr × Obj)} {σ : L2.St} {H : Hp} {s : Shared}
theorem side_at (I : Inv X pins σ H s) {x : V} {u : Value} {k : Side} (h : Dp X.K H x (dSide k)) (r : RelV x u) : ∃ a its, u = .ref a ∧ s.heap.IsTuple a its.toArray ∧ IntsAre its k := by
  obtain ⟨a, rfl, hs⟩ := dp_side.mp h
  obtain rfl : u = Value.ref a := r
  obtain ⟨its, rv, ht, _⟩ := I.tuple hs
  exact ⟨a, its, rfl, ht, Vals.ints rv⟩
theorem le_lex : ∀ (k i : Nat) (xs ys : List Int), min xs.length ys.length - i = k → i ≤ min xs.length ys.length →
    Ob.lexAt (fun j => decide (xs.getD j 0 = ys.getD j 0)) (fun j => decide (xs.getD j 0 ≤ ys.getD j 0)) (decide (xs.length ≤ ys.length)) i k = !ltI (ys.drop i) (xs.drop i)
  | 0, i, xs, ys, hk, hi => by
    rw [Ob.lexAt_zero]
    by_cases c : xs.length ≤ ys.length
    · have e : i = xs.length := by omega
      rw [decide_eq_true c, e, List.drop_length]
      cases ys.drop xs.length <;> rfl
    · have e : i = ys.length := by omega
      rw [decide_eq_false c, e, List.drop_length]
      cases q : xs.drop ys.length with
      | nil => rw [List.drop_eq_nil_iff] at q; omega
      | cons => rfl
  | k + 1, i, xs, ys, hk, hi => by
    have h1 : i < xs.length := by omega
    have h2 : i < ys.length := by omega
    have g1 : xs.getD i 0 = xs[i] := by rw [List.getD_eq_getElem?_getD, List.getElem?_eq_getElem h1]; rfl
    have g2 : ys.getD i 0 = ys[i] := by rw [List.getD_eq_getElem?_getD, List.getElem?_eq_getElem h2]; rfl
    rw [Ob.lexAt_succ, List.drop_eq_getElem_cons h1, List.drop_eq_getElem_cons h2, ltI, g1, g2]
    by_cases c : xs[i] = ys[i]
    · rw [if_pos (decide_eq_true c), if_pos c.symm]
      exact le_lex k (i + 1) xs ys (by omega) (by omega)
    · rw [if_neg (by simpa using c), if_neg (Ne.symm c)]
      by_cases d : xs[i] ≤ ys[i]
      · rw [decide_eq_true d, decide_eq_false (by omega)]; rfl
      · rw [decide_eq_false d, decide_eq_true (by omega)]; rfl
theorem eqAt_ints {A : Around} {s : Shared} {xs ys : List Value} {k m : List Int} (h1 : IntsAre xs k) (h2 : IntsAre ys m) (j : Nat) (a : j < xs.toArray.size) (b : j < ys.toArray.size) :
    SeqAt.EqAt A s xs.toArray[j] ys.toArray[j] (decide (k.getD j 0 = m.getD j 0)) := by
  have at_ : ∀ (zs : List Value) (n : List Int) (q : j < zs.toArray.size), IntsAre zs n → ∃ t, zs.toArray[j] = .int (n.getD j 0) t := fun zs n q hz =>
    PyProof.Rows.IntsAre.int_at hz j _ (by simp at q; simp [q])
  obtain ⟨t, et⟩ := at_ xs k a h1
  obtain ⟨t', et'⟩ := at_ ys m b h2
  rw [et, et']
  have z : (k.getD j 0 == m.getD j 0) = decide (k.getD j 0 = m.getD j 0) := by
    by_cases q : k.getD j 0 = m.getD j 0
    · rw [decide_eq_true q]; exact beq_iff_eq.mpr q
    · rw [decide_eq_false q]; exact beq_eq_false_iff_ne.mpr q
  rw [← z]
  exact SeqAt.EqAt.int_int _ _ _ _
theorem int_item {zs : List Value} {n : List Int} (hz : IntsAre zs n) (j : Nat) (q : j < zs.toArray.size) : ∃ t, zs.toArray[j] = .int (n.getD j 0) t :=
  PyProof.Rows.IntsAre.int_at hz j _ (by simp at q; simp [q])
theorem rc_le_side {A : Around} {s : Shared} {a b : Addr} {xs ys : List Value} {k m : Side} (ha : s.heap.IsTuple a xs.toArray) (hb : s.heap.IsTuple b ys.toArray) (h1 : IntsAre xs k) (h2 : IntsAre ys m) (hu : A.units < cLine) :
    Ob.RcOp .LtE A s (.ref a) (.ref b) (!ltI m k) := by
  have R := Ob.RcOp.tuples_le (A := A) (s := s) (e := fun j => decide (k.getD j 0 = m.getD j 0)) (r := fun j => decide (k.getD j 0 ≤ m.getD j 0)) ha hb hu
    (fun j q1 q2 => eqAt_ints h1 h2 j q1 q2) (fun j q1 q2 _ => by
      obtain ⟨t, et⟩ := int_item h1 j q1
      obtain ⟨t', et'⟩ := int_item h2 j q2
      rw [et, et']
      exact Ob.RcOp.le_int _ _ _ _)
  rw [List.size_toArray, List.size_toArray, h1.length, h2.length, le_lex (min k.length m.length) 0 k m (by omega) (by omega)] at R
  exact R
/-- a <= b of two rules -/
def rLeR (K : PySem.W.Frag) : R2 := fun x y H Q => ∃ a b : Rule, Dp K H x (dRule a) ∧ Dp K H y (dRule b) ∧ Q (.bl (!ltR b a)) H
theorem op_leR (hu : X.A.units + 3 < cLine) : OpR X (compareOp .LtE) (rLeR X.K) := by
  intro pins s σ H x y v u Q I rx ry h
  obtain ⟨a, b, ha, hb, q⟩ := h
  obtain ⟨p, x1, x2, rfl, hp, hx1, hx2⟩ := dp_rule.mp ha
  obtain ⟨p', y1, y2, rfl, hp', hy1, hy2⟩ := dp_rule.mp hb
  obtain rfl : v = Value.ref p := rx
  obtain rfl : u = Value.ref p' := ry
  obtain ⟨its, rv, ht, _⟩ := I.tuple hp
  obtain ⟨its', rv', ht', _⟩ := I.tuple hp'
  have two : ∀ {c d : V} {l : List Value}, Vals [c, d] l → ∃ c' d', l = [c', d'] ∧ RelV c c' ∧ RelV d d' := fun {c d l} r => by
    cases r with
    | cons r1 r2 =>
      cases r2 with
      | cons r3 r4 => cases r4; exact ⟨_, _, rfl, r1, r3⟩
  obtain ⟨u1, u2, rfl, q1, q2⟩ := two rv
  obtain ⟨w1, w2, rfl, q3, q4⟩ := two rv'
  obtain ⟨a1, i1, rfl, t1, n1⟩ := side_at I hx1 q1
  obtain ⟨a2, i2, rfl, t2, n2⟩ := side_at I hx2 q2
  obtain ⟨b1, j1, rfl, t3, n3⟩ := side_at I hy1 q3
  obtain ⟨b2, j2, rfl, t4, n4⟩ := side_at I hy2 q4
  have eqs : ∀ {x y : V} {u w' : Value} {k m : Side}, Dp X.K H x (dSide k) → Dp X.K H y (dSide m) → RelV x u → RelV y w' → SeqAt.EqAt X.A.in1 s u w' (decide (k = m)) := fun {x y u w' k m} hx hy r r' => by
    obtain ⟨as, e1⟩ := Dp.reads I _ x u hx r
    obtain ⟨bs, e2⟩ := Dp.reads I _ y w' hy r'
    have d : (dSide k).depth = 1 := by rw [dSide, PyData.depth, depth_ints]
    have z := PySem.W.eqAt_alike _ _ X.A.in1 s u w' as bs e1 e2 (alike_side k m) (by show X.A.units + 1 + _ < _; rw [d]; omega)
    rw [eqv_side] at z
    exact z
  have E1 := eqs hx1 hy1 q1 q3
  have E2 := eqs hx2 hy2 q2 q4
  have hu1 : X.A.in1.units < cLine := by show X.A.units + 1 < _; omega
  have R1 := rc_le_side t1 t3 n1 n3 hu1
  have R2 := rc_le_side t2 t4 n2 n4 hu1
  have R := Ob.RcOp.tuples_le (A := X.A) (s := s) (e := fun j => if j = 0 then decide (a.1 = b.1) else decide (a.2 = b.2)) (r := fun j => if j = 0 then !ltI b.1 a.1 else !ltI b.2 a.2) ht ht' (by omega)
    (fun j z1 z2 => by
      have : j = 0 ∨ j = 1 := by simp at z1; omega
      rcases this with rfl | rfl
      · exact E1
      · exact E2) (fun j z1 z2 _ => by
      have : j = 0 ∨ j = 1 := by simp at z1; omega
      rcases this with rfl | rfl
      · exact R1
      · exact R2)
  have e : Ob.lexAt (fun j => if j = 0 then decide (a.1 = b.1) else decide (a.2 = b.2)) (fun j => if j = 0 then !ltI b.1 a.1 else !ltI b.2 a.2) true 0 2 = !ltR b a := by
    rw [Ob.lexAt_succ, Ob.lexAt_succ, Ob.lexAt_zero, ltR]
    by_cases c1 : a.1 = b.1
    · rw [if_pos (by simpa using c1), if_pos c1.symm]
      by_cases c2 : a.2 = b.2
      · rw [if_pos (by simpa using c2), c2, ltI_irr]; rfl
      · rw [if_neg (by simpa using c2)]; rfl
    · rw [if_neg (by simpa using c1), if_neg (Ne.symm c1)]; rfl
  have R' : Ob.RcOp .LtE X.A s (.ref p) (.ref p') (!ltR b a) := e ▸ R
  exact R' X.prog X.w X.xe (EP X pins σ Q) ⟨.bl _, H, I, rfl, q⟩
end
end SB
/-! KCheck -/
set_option Elab.async false
set_option linter.all false
set_option maxRecDepth 100000
set_option maxHeartbeats 4000000
namespace SB
open PySem PySem.Spec PyProof.Rows L2
/-! ### a def whose code object is told -/
theorem okC {P : Program} {w : World} {K : PySem.W.Frag} {mg : Str → Option Value} {base : Heap} {x qual : Str} {params : Arguments} {body : List Stmt} {scope : Scope} {dvs : List V} {kws : List (Str × V)} {f : Addr} {fd : FuncData}
    {CX : CXT} {N ps : List Str} {k : Nat} {sp : Sp} (F : FunD K x qual params body scope dvs kws f fd) (S : FnScope N ps scope) (len : ∀ vs H Q E, sp vs H Q E → vs.length = ps.length)
    (hbody : ∀ (A : Around) (outer : List Env) (s : Shared) (H : Hp) (vs : List V) (Q : VK) (E : XK), Room k (A.deeper (envOfC qual scope s.heap.objs.size f fd.code)) → sp vs H Q E →
      ∃ t, PSs (cxOf CX P w K mg base N qual scope f fd.code A outer s H E) body t ∧ t { nx := fun _ H' => Q .non H', rt := Q } (start N vs) H) : FnOk P w K mg base CX (k + 1) f fd ps sp := by
  obtain ⟨oc, od, dV, kV, doc, pm, an, cdv, ct, osl, rfl, lk, hcd, _, _⟩ := F.ex
  exact fn_of lk hcd S len hbody
theorem tyx_tup {K : PySem.W.Frag} {H : Hp} {a : Addr} {xs : List V} (h : SqT K H a xs) : TyX K H (.ref a) (.type "tuple") := by
  rcases h with (e | ⟨o, e⟩) | ⟨o, its, n, e, c, _⟩
  · exact .base (.tup e)
  · exact .fTuple e
  · exact .kTuple e c
/-- the captured names of a generator expression are cells of the def -/
def freeB (cells : List (Str × Addr)) (names : List (Str × NameKind)) : Bool := names.all fun y => match y.2 with
  | .free => (cells.lookup y.1).isSome
  | _ => true
theorem free_of {cells : List (Str × Addr)} {names : List (Str × NameKind)} (h : freeB cells names = true) : ∀ y ∈ names, y.2 = .free → ∃ c, cells.lookup y.1 = some c := fun y hy hf => by
  have q := List.all_eq_true.mp h y hy
  rw [hf] at q
  exact Option.isSome_iff_exists.mp q
/-! ### built-in names, constants -/
structure Blt (mg : Str → Option Value) : Prop where
  isi : mg "isinstance" = none
  len : mg "len" = none
  all : mg "all" = none
  tuple : mg "tuple" = none
  list : mg "list" = none
  int : mg "int" = none
  bool : mg "bool" = none
  str : mg "str" = none
  set : mg "set" = none
  sorted : mg "sorted" = none
  max : mg "max" = none
  sum : mg "sum" = none
  range : mg "range" = none
  enumerate : mg "enumerate" = none
  super : mg "super" = none
structure Cst (mg : Str → Option Value) : Prop where
  letters : ∃ t, mg "MOST_LETTERS" = some (.int 4 t)
  rules : ∃ t, mg "MOST_RULES" = some (.int 12 t)
  side : ∃ t, mg "LONGEST_SIDE" = some (.int 3 t)
  digits : ∃ t, mg "DIGITS" = some (.str "0123456789" t)
/-! ### the tests of values -/
def letterB (n x : Int) : Bool := decide (0 ≤ x ∧ x < n)
def sideB (n : Int) (s : Side) : Bool := decide (1 ≤ s.length ∧ s.length ≤ 3) && s.all (letterB n)
def ruleB (n : Int) (r : Rule) : Bool := sideB n r.1 && (sideB n r.2 && (decide (r.1.length = r.2.length) && decide (r.1 ≠ r.2)))
def frameB (b : Book) : Bool := decide (1 ≤ b.1 ∧ b.1 ≤ 4) && decide (b.2.length ≤ 12)
abbrev sCheck : Stmt := top 11
abbrev sFrame : Stmt := top 12
abbrev sRule : Stmt := top 13
abbrev sSide : Stmt := top 14
/-- what a test of data promises: its answer, all is kept -/
def spTest (K : PySem.W.Frag) (T : List Addr) (args : List V → Hp → Prop) (ans : Bool) (H : Hp) (Q : VK) : Prop := ∀ H', Ext [] H H' → Tabs T H' → Q (.bl ans) H'
def spSide (K : PySem.W.Frag) (T : List Addr) : Sp := fun vs H Q _ => ∃ (v : V) (n : Int) (k : Side), vs = [v, .int n] ∧ Dp K H v (dSide k) ∧ Tabs T H ∧ ∀ H', Ext [] H H' → Tabs T H' → Q (.bl (sideB n k)) H'
def spRule (K : PySem.W.Frag) (T : List Addr) : Sp := fun vs H Q _ => ∃ (v : V) (n : Int) (r : Rule), vs = [v, .int n] ∧ Dp K H v (dRule r) ∧ Tabs T H ∧ ∀ H', Ext [] H H' → Tabs T H' → Q (.bl (ruleB n r)) H'
def spFrame (K : PySem.W.Frag) (T : List Addr) : Sp := fun vs H Q _ => ∃ (v : V) (b : Book), vs = [v] ∧ Dp K H v (dBook b) ∧ Tabs T H ∧ ∀ H', Ext [] H H' → Tabs T H' → Q (.bl (frameB b)) H'
section
variable {P : Program} {w : World} {K : PySem.W.Frag} {mg : Str → Option Value} {base : Heap} {T : List Addr}
theorem scSide : FnScope ["value", "many"] ["value", "many"] (defScope sSide) := ⟨rfl, rfl, rfl, by decide +kernel, rfl, by decide +kernel, by decide +kernel⟩
theorem ok_side {f fL fW c tb : Addr} {fd fdL fdW : FuncData} (F : FnP K "is_side" sSide f fd) (FL : FnP K "is_letter" sLetter fL fdL) (FW : FnP K "is_whole" sWhole fW fdW) (mL : mg "is_letter" = some (.ref fL)) (mW : mg "is_whole" = some (.ref fW))
    (B : Blt mg) (C : Cst mg) (hc : fd.code = .ref c) (TB : GxR.TabB base mg c tb) (hT : tb ∈ T) : FnOk P w K mg base CX0 4 f fd ["value", "many"] (spSide K T) := by
  obtain ⟨t3, m3⟩ := C.side
  refine okC F scSide (fun vs H Q E h => ?_) (fun A outer s H vs Q E hr h => ?_)
  · obtain ⟨v, n, k, rfl, _⟩ := h
    rfl
  obtain ⟨v, n, k, rfl, hv, hT0, hq⟩ := h
  obtain ⟨a, rfl, hs⟩ := dp_side.mp hv
  refine ⟨_, pss_cons (ps_if (PW.pt (pw_or (pt_not (pt_val (pe_callB call_isi (by rfl) B.isi boot_isinstance (pa_cons (pv 0) (pa_cons (pe_bltn (v := .ty "tuple") (by rfl) B.tuple boot_tuple rfl) pa_nil)))))
      (pw_or1 (pt_not (pt_chain op_le op_le pe_int (pe_callB call_len_seq rfl B.len PySem.boot_len (pa_cons (pv 0) pa_nil)) (pe_glob (v := .int 3) rfl m3 ⟨_, rfl⟩)))))) (pss_one (ps_ret pe_bl)) pss_nil)
    (pss_one (ps_ret (pe_allB hr rfl B.all TB hc ?hS (pv 0) ?hfold (by decide +kernel)))), ?_⟩
  case hS => exact ⟨rfl, rfl, by decide +kernel, by decide +kernel, by decide +kernel, free_of (by rfl)⟩
  case hfold => intro v; rfl
  refine ⟨_, rfl, .ref a, .ty "tuple", .type "tuple", .type "tuple", true, rfl, .ty _, tyx_tup hs, kit_ty (by decide +kernel), _, rfl, ?_⟩
  refine iteF ?_
  have hl : (k.map V.int).length = k.length := List.length_map _
  refine ⟨_, rfl, a, _, rfl, .inr hs, _, _, rfl, rfl, _, rfl, ?_⟩
  have no : ∀ {H' : Hp}, Ext [] H H' → Tabs T H' → ¬ (1 ≤ k.length ∧ k.length ≤ 3) → Q (.bl false) H' := fun {H'} e1 e2 z => by
    have q := hq H' e1 e2
    rw [sideB, decide_eq_false z] at q
    exact q
  refine ite2 (fun c1 => ?_) (fun c1 => ?_)
  case refine_2 =>
    have c1' : ¬ (1 : Int) ≤ (((k.map V.int).length : Nat) : Int) := by simpa using c1
    rw [hl] at c1'
    refine ⟨_, rfl, ?_⟩
    refine iteT ?_
    exact no .refl hT0 fun z => c1' (by omega)
  have c1' : (1 : Int) ≤ (((k.map V.int).length : Nat) : Int) := by simpa using c1
  rw [hl] at c1'
  refine ⟨_, _, rfl, rfl, _, rfl, ?_⟩
  by_cases c2 : (((k.map V.int).length : Nat) : Int) ≤ 3
  case neg =>
    rw [decide_eq_false c2]
    rw [hl] at c2
    refine iteT ?_
    exact no .refl hT0 fun z => c2 (by omega)
  rw [decide_eq_true c2]
  rw [hl] at c2
  refine iteF ?_
  -- all(is_letter(item, many) for item in value)
  refine ⟨_, rfl, a, k.map V.int, k.map (letterB n), rfl, hs, by rw [List.length_map, List.length_map], hT0 tb hT, ?_, fun H2 t2 => ?_⟩
  case refine_2 =>
    have q := hq H2 (.tabbed (hT0 tb hT) t2) (hT0.tabbed t2)
    have e : (k.map (letterB n)).all id = k.all (letterB n) := by rw [List.all_map]; rfl
    rw [sideB, decide_eq_true (show 1 ≤ k.length ∧ k.length ≤ 3 by omega), Bool.true_and] at q
    show Q (.bl ((k.map (letterB n)).all id)) H2
    rw [e]
    exact q
  intro pins s1 its I rv L code A' E' i v s₂ m₂ hA hd hu hv hn hm hk
  have ntb : ∀ b, H b = none → b ≠ tb := fun b e z => by
    obtain ⟨ps, e1, _⟩ := hT0 tb hT
    rw [z, e1] at e
    cases e
  have G1 : L2.Mod K mg s₂.heap := Mod.keeps I.mod fun b o e => hk b o (ntb b (I.bs b o e).2) (I.bs b o e).1
  obtain ⟨x, t, hx, rfl⟩ : ∃ x t, k[i]? = some x ∧ v = .int x t := by
    have q := rv.length
    rw [List.length_map] at q
    have hi : i < its.length := (List.getElem?_eq_some_iff.mp hv).1
    have e : (k.map V.int)[i]? = some (V.int (k[i]'(by omega))) := by rw [List.getElem?_map, List.getElem?_eq_getElem (by omega)]; rfl
    obtain ⟨u, e1, t, e2⟩ := rv.get e
    rw [hv] at e1
    cases e1
    exact ⟨_, t, List.getElem?_eq_getElem (by omega), e2⟩
  obtain ⟨m, hns, hloc⟩ := I.loc
  obtain ⟨u, ⟨t2, rfl⟩, hlook⟩ := hloc 1 "many" (.int n) rfl rfl (.inr (.inl rfl))
  rcases hlook with ⟨z, _⟩ | ⟨_, cc, hcc, hcell⟩
  · exact nomatch (show some NameKind.cell = some NameKind.local from z)
  have hcell2 : s₂.heap.IsCell cc (some (.int n t2)) := by
    obtain ⟨o, e, r⟩ := hcell
    exact ⟨o, hk cc o (ntb cc (I.freeC _ _ hcc)) e, r⟩
  refine wpAny_Call_Name_kw (glob_at G1 rfl rfl rfl mL ?_)
  refine PySem.W.callWith_K (h₀ := s₂.heap) G1.kin FL.kp ?_ rfl rfl
  refine Calls.spliced_cons (wpAny_Name (wpAny_loadName_local rfl rfl hn hm ?_) (by decide))
  refine Calls.spliced_cons (wpAny_Name (wpAny_loadName_free (c := cc) rfl rfl ?_ hcell2 ?_ (by decide)) (by decide))
  · have q : some (s.heap.objs.size + 1) = some cc := hcc
    cases q
    rfl
  refine Calls.spliced_nil ⟨G1.kin, ?_⟩
  refine isLetter_int G1 FL FW mW B.isi B.int B.bool ?_ fun s3 k3 => ⟨⟨_, ?_, rfl⟩, k3⟩
  · have h3 : A'.depth ≤ A.depth + 1 + 1 := hd
    have h4 : A.depth + 1 + 3 * 3 + 5 < recursionLimit := hr.dp
    omega
  · rw [List.getElem?_map, hx]; rfl
end
end SB
/-! KCheck2 -/
set_option Elab.async false
set_option linter.all false
set_option maxRecDepth 100000
set_option maxHeartbeats 4000000
namespace SB
open PySem PySem.Spec PyProof.Rows L2
/-- what a call of a def whose promise is sp takes: name, place -/
structure At (P : Program) (w : World) (K : PySem.W.Frag) (mg : Str → Option Value) (base : Heap) (CX : CXT) (k : Nat) (x : Str) (ps : List Str) (sp : Sp) (f : Addr) (fd : FuncData) : Prop where
  ok : FnOk P w K mg base CX k f fd ps sp
  mg_ : mg x = some (.ref f)
  kp : PySem.W.keepIn K (.ref f) = true
  bd : Binds K fd ps []
section
variable {P : Program} {w : World} {K : PySem.W.Frag} {mg : Str → Option Value} {base : Heap} {T : List Addr}
theorem shaped_side (k : Side) : SeqAt.shaped (dSide k) = true := by
  have h : ∀ xs : List Int, PyData.canLayAll0 (xs.map .int) = true := fun xs => by
    induction xs with
    | nil => rfl
    | cons x xs ih => rw [List.map_cons, PyData.canLayAll0, ih, PyData.canLay0]; rfl
  rw [SeqAt.shaped, dSide, PyData.canLay0, h, PyData.depth, depth_ints]; rfl
theorem scRule : FnScope ["value", "many", "left", "right"] ["value", "many"] (defScope sRule) := ⟨rfl, rfl, rfl, by decide +kernel, rfl, by decide +kernel, by decide +kernel⟩
theorem ok_rule {f fS : Addr} {fd fdS : FuncData} (F : FnP K "is_rule" sRule f fd) (S : At P w K mg base CX0 4 "is_side" ["value", "many"] (spSide K T) fS fdS) (B : Blt mg) : FnOk P w K mg base CX0 5 f fd ["value", "many"] (spRule K T) := by
  refine okC F scRule (fun vs H Q E h => ?_) (fun A outer s H vs Q E hr h => ?_)
  · obtain ⟨v, n, r, rfl, _⟩ := h
    rfl
  obtain ⟨v, n, r, rfl, hv, hT0, hq⟩ := h
  obtain ⟨a, x, y, rfl, hs, hx, hy⟩ := dp_rule.mp hv
  refine ⟨_, pss_cons (ps_if (PW.pt (pw_or (pt_not (pt_val (pe_callB call_isi (by rfl) B.isi boot_isinstance (pa_cons (pv 0) (pa_cons (pe_bltn (v := .ty "tuple") (by rfl) B.tuple boot_tuple rfl) pa_nil)))))
      (pw_or1 (pt_cmpR op_ne (pe_callB call_len_seq rfl B.len PySem.boot_len (pa_cons (pv 0) pa_nil)) pe_int (nomark _))))) (pss_one (ps_ret pe_bl)) pss_nil)
    (pss_cons (ps_asg (pv 0) (pg_tup (by rfl) (pgs_cons (pg_name (i := 2) scRule.nd rfl (.inl rfl)) (pgs_cons (pg_name (i := 3) scRule.nd rfl (.inl rfl)) pgs_nil))))
    (pss_cons (ps_if (PW.pt (pw_or (pt_not (pt_val (pe_call S.ok hr rfl S.mg_ S.kp S.bd .nil pass0 (pa_cons (pv 2) (pa_cons (pv 1) pa_nil)))))
      (pw_or1 (pt_not (pt_val (pe_call S.ok hr rfl S.mg_ S.kp S.bd .nil pass0 (pa_cons (pv 3) (pa_cons (pv 1) pa_nil)))))))) (pss_one (ps_ret pe_bl)) pss_nil)
    (pss_one (ps_ret (pe_and (pe_cmpR op_eq (pe_callB call_len_seq rfl B.len PySem.boot_len (pa_cons (pv 2) pa_nil)) (pe_callB call_len_seq rfl B.len PySem.boot_len (pa_cons (pv 3) pa_nil)) (nomark _))
      (pe_one (pe_cmpR (op_neD hr.units) (pv 2) (pv 3) (nomark _)))))))), ?_⟩
  refine ⟨_, rfl, .ref a, .ty "tuple", .type "tuple", .type "tuple", true, rfl, .ty _, tyx_tup hs, kit_ty (by decide +kernel), _, rfl, ?_⟩
  refine iteF ?_
  refine ⟨_, rfl, a, _, rfl, .inr hs, rfl, _, rfl, ?_⟩
  refine iteF ?_
  refine ⟨_, rfl, a, _, rfl, hs, rfl, _, _, rfl, _, _, rfl, rfl, ?_⟩
  -- is_side(left, many), is_side(right, many)
  refine ⟨_, rfl, _, rfl, _, n, r.1, rfl, hx, hT0, fun H1 e1 t1 => ⟨_, rfl, ?_⟩⟩
  have ans : ∀ {H' : Hp}, Ext [] H H' → Tabs T H' → ∀ {b : Bool}, ruleB n r = b → Q (.bl b) H' := fun {H'} e t {b} z => z ▸ hq H' e t
  cases c1 : sideB n r.1 with
  | false =>
    refine iteT ?_
    refine iteT ?_
    exact ans e1 t1 (by rw [ruleB, c1]; rfl)
  | true =>
    refine iteF ?_
    refine ⟨_, rfl, _, rfl, _, n, r.2, rfl, Dp.ext e1 (still_side _) hy, t1, fun H2 e2 t2 => ⟨_, rfl, ?_⟩⟩
    have e12 := e1.trans e2
    cases c2 : sideB n r.2 with
    | false =>
      refine iteT ?_
      exact ans e12 t2 (by rw [ruleB, c1, c2]; rfl)
    | true =>
      refine iteF ?_
      obtain ⟨ax, rfl, hsx⟩ := dp_side.mp (Dp.ext e12 (still_side _) hx)
      obtain ⟨ay, rfl, hsy⟩ := dp_side.mp (Dp.ext e12 (still_side _) hy)
      refine ⟨_, rfl, ax, _, rfl, .inr hsx, _, rfl, ay, _, rfl, .inr hsy, rfl, ?_⟩
      rw [List.length_map, List.length_map]
      by_cases c3 : r.1.length = r.2.length
      · rw [decide_eq_true (show V.int ((r.1.length : Nat) : Int) = V.int ((r.2.length : Nat) : Int) by rw [c3])]
        refine ⟨true, rfl, ?_⟩
        refine iteT ?_
        refine ⟨_, rfl, _, rfl, dSide r.1, dSide r.2, dp_side.mpr ⟨ax, rfl, hsx⟩, dp_side.mpr ⟨ay, rfl, hsy⟩, shaped_side _, shaped_side _, ?_⟩
        refine ans e12 t2 ?_
        rw [ruleB, c1, c2, decide_eq_true c3, eqv_side]
        by_cases c4 : r.1 = r.2 <;> simp [c4]
      · rw [decide_eq_false (show ¬ V.int ((r.1.length : Nat) : Int) = V.int ((r.2.length : Nat) : Int) by intro z; injection z with z; omega)]
        refine ⟨false, rfl, ?_⟩
        refine iteF ?_
        exact ans e12 t2 (by rw [ruleB, c1, c2, decide_eq_false c3]; rfl)
end
end SB
/-! KEnum -/
set_option Elab.async false
set_option linter.all false
set_option maxRecDepth 100000
set_option maxHeartbeats 2000000
/-! enumerate(t), t a tuple, in a for. -/
namespace SB
open PySem PySem.Spec PyProof.Rows L2
open Sem (wp)
theorem enum_tup_new {v : Value} {o : Obj} {Hh : Heap → Prop} (B : Begins v o Hh) :
    Meets (Builtin.«enumerate.__new__» ⟨[.type "enumerate", v], []⟩) (fun _ R s => Hh s.heap ∧
      R (.ok (.ret (.ref (s.heap.push o).objs.size))) { s with heap := (s.heap.push o).push { cls := .type "enumerate", data := .fields #[.none, .bool false, .ref s.heap.objs.size, rawInt 0, .none, .none] } }) :=
  .of_wp fun prog w A R s h => by
    obtain ⟨hp, g, d, tk, os⟩ := s
    obtain ⟨h1, h⟩ := h
    have hsub := sub_enumerate
    have q1 : ∀ {A' : Around} {E : Value → Shared → Prop} {Q : Value → Shared → Prop}, Q (.ref hp.objs.size) ⟨hp.push o, g, d, tk, os⟩ → wpAny (model prog w) A' (pyIter v) Q E ⟨hp, g, d, tk, os⟩ :=
      fun q => B.iter prog w _ _ ⟨hp, g, d, tk, os⟩ _ h1 q
    wp_walk using q1
    refine wpAny_stack_any fun st => wpAny_pure ?_
    split
    · rename_i c _ _ _ _ _
      cases (c == Value.type "enumerate") <;> (wp_walk using q1; exact ⟨_, rfl, h⟩)
    · wp_walk using q1
      exact ⟨_, rfl, h⟩
section
variable {prog : Program} {w : World} {A : Around} {E : Value → Shared → Prop} {s : Shared}
theorem call_enum_tup {t : Addr} {items : Array Value} {Q : Value → Shared → Prop} (hL : s.heap.IsTuple t items)
    (h : ∀ h', IsEnum h' (s.heap.objs.size + 1) s.heap.objs.size 0 .none → h'.IsTupleIter s.heap.objs.size t 0 → (∀ b o, s.heap.get? b = some o → h'.get? b = some o) →
      Q (.ref (s.heap.objs.size + 1)) { s with heap := h' }) :
    wpAny (model prog w) A (call (.type "enumerate") [.ref t]) Q E s := by
  refine callType_new F.called_enumerate (by decide) (F.typeCall_enumerate_1 _) (F.newCall_enumerate_1 _) (fun obj => F.args_object_init_2 obj _) F.entry_enumerate_new
    (enum_tup_new (begins_tuple t items)) ⟨hL, ?_⟩
  generalize ho : ({ cls := .type "tuple_iterator", data := .fields #[.ref t, .int 0 0] } : Obj) = o
  have hf : o.isFreed = false := by rw [← ho]; rfl
  have hz : (s.heap.push o).objs.size = s.heap.objs.size + 1 := Heap.size_push ..
  show _ ∧ _
  rw [hz]
  generalize hn : ({ cls := .type "enumerate", data := .fields #[.none, .bool false, .ref s.heap.objs.size, rawInt 0, .none, .none] } : Obj) = o2
  have he : ((s.heap.push o).push o2).get? (s.heap.objs.size + 1) = some o2 := by
    have q := Heap.get?_push_size (s.heap.push o) (o := o2) (by rw [← hn]; rfl)
    rw [hz] at q
    exact q
  have hi : ((s.heap.push o).push o2).get? s.heap.objs.size = some o := Heap.get?_push_of_some _ (Heap.get?_push_size _ (by rw [← ho]; rfl))
  subst hn
  subst ho
  exact ⟨⟨_, he, rfl⟩, h _ he ⟨_, hi, rfl, rfl⟩ fun b ob e => Heap.get?_push_of_some _ (Heap.get?_push_of_some _ e)⟩
end
/-- the tuple at a, each item in a new pair with its place -/
def Itet (K : PySem.W.Frag) (a : Addr) : It :=
  ⟨fun i H => ∃ (xs : List V) (x : V), SqT K H a xs ∧ xs[i]? = some x,
    fun i H v H' => ∃ T x, v = .ref T ∧ H T = none ∧ H' = upd H T (.tup [.int (i : Nat), x]) ∧ ∀ xs, SqT K H a xs → xs[i]? = some x,
    fun i H => ∃ xs : List V, SqT K H a xs ∧ xs.length = i⟩
theorem turn_enumT {P : Program} {w : World} {K : PySem.W.Frag} {elts : List Expr} {kk : Nat} {tpos : Pos} (a e it : Addr) (hai : a ≠ it) (hae : a ≠ e) :
    Turn P w K (.Tuple elts kk tpos) (Itet K a) [e, it] e (fun i h => (∃ old, IsEnum h e it ((i : Nat) : Int) old) ∧ h.IsTupleIter it a i ∧ e ≠ it) where
  mem := List.mem_cons_self
  obj := fun i h st b hb => by
    obtain ⟨⟨old, he⟩, ⟨o, ho, hc, hd⟩, _⟩ := st
    rcases List.mem_cons.mp hb with rfl | hb
    · exact ⟨_, he, fun v q => nomatch q⟩
    · rw [List.mem_singleton.mp hb]
      exact ⟨o, ho, fun v q => by rw [hd] at q; cases q⟩
  keep := fun i h h' st k => let ⟨⟨old, he⟩, hi, hne⟩ := st; ⟨⟨old, k e (by simp) _ he⟩, hi.at fun o q => k it (by simp) o q, hne⟩
  item := by
    intro X hP hw hK hc i pins s σ H E I hf st hg
    subst hP hw hK
    obtain ⟨⟨old, he⟩, hit, hne⟩ := st
    obtain ⟨xs, x, hq, hx⟩ := hg
    obtain ⟨its, rv, p, hz⟩ := I.tuple hq
    obtain ⟨u, hu, ru⟩ := rv.get hx
    have hel : e < s.heap.objs.size := Heap.lt_size he
    have hil : it < s.heap.objs.size := by obtain ⟨_, q, _⟩ := hit; exact Heap.lt_size q
    have hlt : i < its.toArray.size := by
      have := (List.getElem?_eq_some_iff.mp hu).1
      simpa using this
    have hh : X.A.in1.handled = none := I.ok.hd hc
    refine wpAny_pyNext_enum_itemD (Draws.tuple hh it a hai its.toArray) he ⟨hit, p⟩ hlt hne (by simp [hne, Ne.symm hae]) fun y h' tk hy ho hit' hT hsz hk => ?_
    have hyu : y = u := by
      have q : its[i]? = some y := by simpa using hy
      rw [hu] at q
      exact (Option.some.inj q).symm
    subst hyu
    refine ⟨_, rfl, wpAny_letOwnedTupleGo_enum (s := { s with heap := h', toks := tk + 1 }) ho fun h2 he' sb => ?_⟩
    have ne_e : s.heap.objs.size ≠ e := Nat.ne_of_gt hel
    have hT2 : h2.get? s.heap.objs.size = some { cls := .type "tuple", data := .seq #[.int i tk, y] } := (sb.2 _ ne_e).trans hT
    have new : ObjOk X.prog X.w (upd H s.heap.objs.size (.tup [.int (i : Nat), x])) h2 s.heap.objs.size (.tup [.int (i : Nat), x]) :=
      ⟨by show 2 ≤ sizeLine; decide, [.int i tk, y], .cons ⟨_, rfl⟩ (.cons ru .nil), ⟨_, hT2, rfl, _, rfl⟩⟩
    have kept : ∀ b ob, b ∉ [e, it] → s.heap.get? b = some ob → h2.get? b = some ob := fun b ob hb q => by
      have n1 : b ≠ e := fun z => hb (by simp [z])
      have n2 : b ≠ it := fun z => hb (by simp [z])
      exact (sb.2 b n1).trans (hk b ob n1 n2 q)
    have I1 : Inv X pins σ (upd H s.heap.objs.size (.tup [.int (i : Nat), x])) { s with heap := h2, toks := tk + 1 } := I.turnedNew (ch := [e, it]) kept hf (Nat.le_refl _) new
    refine ⟨.ref s.heap.objs.size, _, I1, rfl, ⟨_, x, rfl, I.hok.fresh (Nat.le_refl _), rfl, fun ys hys => by rw [I.tuple_inj hys hq]; exact hx⟩, ⟨⟨y, ?_⟩, hit'.1.at fun o q => (sb.2 it (Ne.symm hne)).trans q, hne⟩, fun b hb => ?_⟩
    · rw [show ((i + 1 : Nat) : Int) = (i : Int) + 1 by omega]
      exact he'
    · have hb' : b < s.heap.objs.size := by
        rcases List.mem_cons.mp hb with rfl | hb
        · exact hel
        · rw [List.mem_singleton.mp hb]; exact hil
      rw [upd_ne (Nat.ne_of_lt hb')]
      exact (hf b hb).1
  done := by
    intro X hP hw hK hc i pins s σ H E I hf st hg
    subst hP hw hK
    obtain ⟨⟨old, he⟩, hit, hne⟩ := st
    obtain ⟨xs, hq, hx⟩ := hg
    obtain ⟨its, rv, p, hz⟩ := I.tuple hq
    have hl : its.toArray.size = i := by rw [List.size_toArray, ← rv.length]; exact hx
    have hh : X.A.in1.handled = none := I.ok.hd hc
    obtain ⟨f0, f1, f2, f3, f4, f5⟩ := hf it (by simp)
    exact wpAny_pyNext_enum_endD (Draws.tuple hh it a hai its.toArray) he (by rw [hl]; exact ⟨hit, p⟩) fun h' eb => ⟨rfl, I.turned (t' := s.toks) (fun b o hb q => eb b o hb q) f0 f1 f3 f4 f5⟩
  self := fun A i s Q E st h => let ⟨⟨_, he⟩, _⟩ := st; wpAny_pyIter_enum he h
def iEnumT (K : PySem.W.Frag) (ta : TA) : TI := fun σ H R => ta σ H fun vs H1 => ∃ a xs, vs = [.ref a] ∧ SqT K H1 a xs ∧ R (Itet K a) H1
theorem pi_enumT {X : Cx} {e : Expr} {ta : TA} {p pos tpos : Pos} {elts : List Expr} {kk : Nat} (hg : Gl X "enumerate") (hm : X.mg "enumerate" = none) (ha : PA X [e] ta) (hs : starEach [e] X.env = [(false, eval e X.env)] := by rfl) :
    PI X (.Tuple elts kk tpos) (.Call (.Name "enumerate" p) [e] [] pos) (iEnumT X.K ta) := by
  refine ⟨fun pins s σ H R I h => ?_⟩
  refine Call_ (ld_blt I hg hm boot_enumerate (PyProof.Rows.callWith_type1 (thn (ha.run pos pins s σ H _ I h) fun us s1 ⟨vs, H1, I1, r1, q1⟩ => ?_) hs rfl))
  obtain ⟨a, xs, rfl, hq, q⟩ := q1
  obtain ⟨u, rfl, r⟩ : ∃ u, us = [u] ∧ RelV (.ref a) u := by
    cases r1 with
    | cons r rr => cases rr; exact ⟨_, rfl, r⟩
  obtain rfl : u = Value.ref a := r
  obtain ⟨its, rv, p', hz⟩ := I1.tuple hq
  have hal : a < s1.heap.objs.size := by obtain ⟨o, e, _⟩ := p'; exact Heap.lt_size e
  refine call_enum_tup p' fun h' he hit hk => wpAny_pyIter_enum he ?_
  have I2 : Inv X pins σ H1 { s1 with heap := h' } := I1.kept (t' := s1.toks) hk
  refine ⟨s1.heap.objs.size + 1, [s1.heap.objs.size + 1, s1.heap.objs.size], _, _, H1, rfl, I2, turn_enumT a (s1.heap.objs.size + 1) s1.heap.objs.size (Nat.ne_of_lt hal) (Nat.ne_of_lt (Nat.lt_succ_of_lt hal)), ⟨⟨.none, he⟩, hit, Nat.succ_ne_self _⟩, fun b hb => ?_, q⟩
  have hle : s1.heap.objs.size ≤ b := by
    rcases List.mem_cons.mp hb with rfl | hb
    · exact Nat.le_add_right _ _
    · rw [List.mem_singleton.mp hb]; exact Nat.le_refl _
  exact I1.fpOk hle (I1.hok.fresh hle)
theorem walk_enumT {K : PySem.W.Frag} {a : Addr} {xs : List V} : Walk (Itet K a) xs.length (fun H => SqT K H a xs) (YPair (fun i => some (.int (i : Nat))) (fun i => xs[i]?)) := by
  refine ⟨fun i _ hi q => ⟨xs, xs[i], q, by simp [hi]⟩, fun _ q => ⟨xs, q, rfl⟩, fun i H v H' _ q y => ?_⟩
  obtain ⟨T, x, h1, h2, h3, h4⟩ := y
  exact ⟨T, .int (i : Nat), x, h1, h2, h3, rfl, h4 xs q⟩
end SB
/-! KCheck3 -/
set_option Elab.async false
set_option linter.all false
set_option maxRecDepth 100000
set_option maxHeartbeats 4000000
namespace SB
open PySem PySem.Spec PyProof.Rows L2
/-- .. of a def that lets nothing out -/
theorem okN {P : Program} {w : World} {K : PySem.W.Frag} {mg : Str → Option Value} {base : Heap} {x qual : Str} {params : Arguments} {body : List Stmt} {scope : Scope} {dvs : List V} {kws : List (Str × V)} {f : Addr} {fd : FuncData}
    {CX : CXT} {N ps : List Str} {k : Nat} {sp : Sp} (F : FunD K x qual params body scope dvs kws f fd) (S : FnScope N ps scope) (len : ∀ vs H Q E, sp vs H Q E → vs.length = ps.length)
    (hbody : ∀ (A : Around) (outer : List Env) (s : Shared) (H : Hp) (vs : List V) (Q : VK) (E : XK), Room k (A.deeper (envOfC qual scope s.heap.objs.size f fd.code)) → sp vs H Q E →
      ∃ t, PSs (cxOf CX P w K mg base N qual scope f fd.code A outer s H E).nox body t ∧ t { nx := fun _ H' => Q .non H', rt := Q } (start N vs) H) : FnOk P w K mg base CX (k + 1) f fd ps sp :=
  okC F S len fun A outer s H vs Q E hr h => by
    obtain ⟨t, h1, h2⟩ := hbody A outer s H vs Q E hr h
    exact ⟨t, PSs.nox h1, h2⟩
theorem units3 {k : Nat} {A : Around} (r : Room k A) : A.units + 3 < cLine := by have := r.un; omega
def spWhole : Sp := fun vs H Q _ => ∃ i : Int, vs = [.int i] ∧ Q (.bl true) H
/-- a book as the document has it -/
structure OkB (b : Book) : Prop where
  fr : frameB b = true
  rl : ∀ r ∈ b.2, ruleB b.1 r = true
  up : b.2.Pairwise fun x y => ltR x y = true
def spCheck (K : PySem.W.Frag) (T : List Addr) : Sp := fun vs H Q _ => ∃ (v : V) (b : Book), vs = [v] ∧ Dp K H v (dBook b) ∧ OkB b ∧ Tabs T H ∧ ∀ H', Ext [] H H' → Tabs T H' → Q .non H'
section
variable {P : Program} {w : World} {K : PySem.W.Frag} {mg : Str → Option Value} {base : Heap} {T : List Addr}
theorem scWhole : FnScope ["value"] ["value"] (defScope sWhole) := ⟨rfl, rfl, rfl, by decide +kernel, rfl, by decide +kernel, by decide +kernel⟩
theorem ok_whole {f : Addr} {fd : FuncData} (F : FnP K "is_whole" sWhole f fd) (B : Blt mg) : FnOk P w K mg base CX0 1 f fd ["value"] spWhole := by
  refine okC F scWhole (fun vs H Q E h => ?_) (fun A outer s H vs Q E hr h => ?_)
  · obtain ⟨i, rfl, _⟩ := h
    rfl
  obtain ⟨i, rfl, hq⟩ := h
  refine ⟨_, pss_one (ps_ret (pe_and (pe_callB call_isi (by rfl) B.isi boot_isinstance (pa_cons (pv 0) (pa_cons (pe_bltn (v := .ty "int") (by rfl) B.int boot_int rfl) pa_nil)))
    (pe_one (pe_not (pe_callB call_isi (by rfl) B.isi boot_isinstance (pa_cons (pv 0) (pa_cons (pe_bltn (v := .ty "bool") (by rfl) B.bool (by decide +kernel) rfl) pa_nil))))))), ?_⟩
  refine ⟨_, rfl, .int i, .ty "int", .type "int", .type "int", true, rfl, .ty _, .base (.int i), kit_ty (by decide +kernel), true, rfl, ?_⟩
  refine iteT ?_
  refine ⟨_, rfl, .int i, .ty "bool", .type "int", .type "bool", false, rfl, .ty _, .base (.int i), kit_ty (by decide +kernel), false, rfl, ?_⟩
  exact hq
theorem scFrame : FnScope ["value", "many", "rules"] ["value"] (defScope sFrame) := ⟨rfl, rfl, rfl, by decide +kernel, rfl, by decide +kernel, by decide +kernel⟩
theorem ok_frame {f fW : Addr} {fd fdW : FuncData} (F : FnP K "is_frame" sFrame f fd) (W : At P w K mg base CX0 1 "is_whole" ["value"] spWhole fW fdW) (B : Blt mg) (C : Cst mg) : FnOk P w K mg base CX0 2 f fd ["value"] (spFrame K T) := by
  obtain ⟨t4, m4⟩ := C.letters
  obtain ⟨t12, m12⟩ := C.rules
  refine okC F scFrame (fun vs H Q E h => ?_) (fun A outer s H vs Q E hr h => ?_)
  · obtain ⟨v, b, rfl, _⟩ := h
    rfl
  obtain ⟨v, b, rfl, hv, hT0, hq⟩ := h
  obtain ⟨a, y, rfl, hs, hy⟩ := dp_book.mp hv
  obtain ⟨ar, vs, rfl, hsr, hall⟩ := dp_rules.mp hy
  refine ⟨_, pss_cons (ps_if (PW.pt (pw_or (pt_not (pt_val (pe_callB call_isi (by rfl) B.isi boot_isinstance (pa_cons (pv 0) (pa_cons (pe_bltn (v := .ty "tuple") (by rfl) B.tuple boot_tuple rfl) pa_nil)))))
      (pw_or1 (pt_cmpR op_ne (pe_callB call_len_seq rfl B.len PySem.boot_len (pa_cons (pv 0) pa_nil)) pe_int (nomark _))))) (pss_one (ps_ret pe_bl)) pss_nil)
    (pss_cons (ps_asg (pv 0) (pg_tup (by rfl) (pgs_cons (pg_name (i := 1) scFrame.nd rfl (.inl rfl)) (pgs_cons (pg_name (i := 2) scFrame.nd rfl (.inl rfl)) pgs_nil))))
    (pss_cons (ps_if (PW.pt (pw_or (pt_not (pt_val (pe_call W.ok hr rfl W.mg_ W.kp W.bd .nil pass0 (pa_cons (pv 1) pa_nil))))
      (pw_or1 (pt_not (pt_chain op_le op_le pe_int (pv 1) (pe_glob (v := .int 4) rfl m4 ⟨_, rfl⟩)))))) (pss_one (ps_ret pe_bl)) pss_nil)
    (pss_one (ps_ret (pe_and (pe_callB call_isi (by rfl) B.isi boot_isinstance (pa_cons (pv 2) (pa_cons (pe_bltn (v := .ty "tuple") (by rfl) B.tuple boot_tuple rfl) pa_nil)))
      (pe_one (pe_cmpR op_le (pe_callB call_len_seq rfl B.len PySem.boot_len (pa_cons (pv 2) pa_nil)) (pe_glob (v := .int 12) rfl m12 ⟨_, rfl⟩) (nomark _)))))))), ?_⟩
  refine ⟨_, rfl, .ref a, .ty "tuple", .type "tuple", .type "tuple", true, rfl, .ty _, tyx_tup hs, kit_ty (by decide +kernel), _, rfl, ?_⟩
  refine iteF ?_
  refine ⟨_, rfl, a, _, rfl, .inr hs, rfl, _, rfl, ?_⟩
  refine iteF ?_
  refine ⟨_, rfl, a, _, rfl, hs, rfl, _, _, rfl, _, _, rfl, rfl, ?_⟩
  refine ⟨_, rfl, b.1, rfl, _, rfl, ?_⟩
  refine iteF ?_
  have ans : ∀ {c : Bool}, frameB b = c → Q (.bl c) H := fun {c} z => z ▸ hq H .refl hT0
  refine ⟨_, rfl, _, _, rfl, rfl, _, rfl, ?_⟩
  have no : ¬ (1 ≤ b.1 ∧ b.1 ≤ 4) → Q (.bl false) H := fun z => ans (by rw [frameB, decide_eq_false z]; rfl)
  refine ite2 (fun c1 => ?_) (fun c1 => ?_)
  case refine_2 =>
    have c1' : ¬ (1 : Int) ≤ b.1 := by simpa using c1
    refine ⟨_, rfl, ?_⟩
    refine iteT ?_
    exact no fun z => c1' z.1
  have c1' : (1 : Int) ≤ b.1 := by simpa using c1
  refine ⟨_, _, rfl, rfl, _, rfl, ?_⟩
  by_cases c2 : b.1 ≤ 4
  case neg =>
    rw [decide_eq_false c2]
    refine iteT ?_
    exact no fun z => c2 z.2
  rw [decide_eq_true c2]
  refine iteF ?_
  refine ⟨_, rfl, .ref ar, .ty "tuple", .type "tuple", .type "tuple", true, rfl, .ty _, tyx_tup hsr, kit_ty (by decide +kernel), _, rfl, ?_⟩
  refine iteT ?_
  refine ⟨_, rfl, ar, _, rfl, .inr hsr, _, _, rfl, rfl, ?_⟩
  have e : vs.length = b.2.length := by rw [dpAll_length hall, List.length_map]
  refine ans ?_
  rw [frameB, decide_eq_true (show 1 ≤ b.1 ∧ b.1 ≤ 4 from ⟨c1', c2⟩), e, Bool.true_and]
  by_cases c3 : b.2.length ≤ 12
  · rw [decide_eq_true c3]; exact (decide_eq_true (by omega)).symm
  · rw [decide_eq_false c3]; exact (decide_eq_false (by omega)).symm
theorem scCheck : FnScope ["book", "many", "rules", "index", "rule"] ["book"] (defScope sCheck) := ⟨rfl, rfl, rfl, by decide +kernel, rfl, by decide +kernel, by decide +kernel⟩
theorem ok_check {f fF fR : Addr} {fd fdF fdR : FuncData} (F : FnP K "check_book" sCheck f fd) (S : At P w K mg base CX0 2 "is_frame" ["value"] (spFrame K T) fF fdF) (R : At P w K mg base CX0 5 "is_rule" ["value", "many"] (spRule K T) fR fdR) (B : Blt mg) :
    FnOk P w K mg base CX0 6 f fd ["book"] (spCheck K T) := by
  refine okN F scCheck (fun vs H Q E h => ?_) (fun A outer s H vs Q E hr h => ?_)
  · obtain ⟨v, b, rfl, _⟩ := h
    rfl
  obtain ⟨v, b, rfl, hv, hb, hT0, hq⟩ := h
  refine ⟨_, pss_cons (ps_if (pt_not (pt_val (pe_call S.ok (hr.mono (by decide)) rfl S.mg_ S.kp S.bd .nil pass0 (pa_cons (pv 0) pa_nil)))) (pss_one ps_never) pss_nil)
    (pss_cons (ps_asg (pv 0) (pg_tup (by rfl) (pgs_cons (pg_name (i := 1) scCheck.nd rfl (.inl rfl)) (pgs_cons (pg_name (i := 2) scCheck.nd rfl (.inl rfl)) pgs_nil))))
    (pss_one (ps_for PassesOwn.never rfl (pi_enumT (by rfl) B.enumerate (pa_cons (pv 2) pa_nil)) (pg_tup (by rfl) (pgs_cons (pg_name (i := 3) scCheck.nd rfl (.inl rfl)) (pgs_cons (pg_name (i := 4) scCheck.nd rfl (.inl rfl)) pgs_nil)))
      (pss_cons (ps_if (pt_not (pt_val (pe_call R.ok hr rfl R.mg_ R.kp R.bd .nil pass0 (pa_cons (pv 4) (pa_cons (pv 1) pa_nil))))) (pss_one ps_never) pss_nil)
      (pss_one (ps_if (PW.pt (pw_and (pt_cmpR op_gt (pv 3) pe_int (nomark _)) (pw_and1 (pt_cmpR (op_leR (units3 hr)) (pv 4) (pe_ix ix_tup (pv 2) (pe_op op_sub (pv 3) pe_int) (fun _ _ => rfl)) (nomark _))))) (pss_one ps_never) pss_nil)))))), ?_⟩
  obtain ⟨a, y, rfl, hs, hy⟩ := dp_book.mp hv
  obtain ⟨ar, xs, rfl, hsr, hall⟩ := dp_rules.mp hy
  have hl : xs.length = b.2.length := by rw [dpAll_length hall, List.length_map]
  refine ⟨_, rfl, _, b, rfl, hv, hT0, fun H1 e1 t1 => ⟨_, rfl, ?_⟩⟩
  rw [hb.fr]
  refine iteF ?_
  refine ⟨_, rfl, a, _, rfl, e1.sqT hs, rfl, _, _, rfl, _, _, rfl, rfl, ?_⟩
  refine ⟨_, rfl, ar, xs, rfl, e1.sqT hsr, for_it (walk_enumT (K := K) (a := ar) (xs := xs)) (fun i σ H2 => ∃ p q, σ = [some (.ref a), some (.int b.1), some (.ref ar), p, q] ∧ Ext [] H H2 ∧ Tabs T H2) ⟨none, none, rfl, e1, t1⟩ ?_ ?_ ?_⟩
  · rintro i σ H2 _ ⟨p, q, rfl, e2, t2⟩
    exact e2.sqT hsr
  · rintro i v σ H2 H3 hi ⟨p, q, rfl, e2, t2⟩ ⟨tt, x1, x2, rfl, hn, rfl, hx1, hx2⟩
    cases hx1
    obtain ⟨d, hd1, hd2⟩ := dpAll_get hall hx2
    obtain ⟨r, hr1, rfl⟩ : ∃ r, b.2[i]? = some r ∧ d = dRule r := by
      rw [List.getElem?_map] at hd1
      cases q : b.2[i]? with
      | none => rw [q] at hd1; cases hd1
      | some r => rw [q] at hd1; exact ⟨r, rfl, (Option.some.inj hd1).symm⟩
    have e3 : Ext [] H (upd H2 tt (.tup [.int (i : Nat), x2])) := e2.trans (.new hn)
    have t3 : Tabs T (upd H2 tt (.tup [.int (i : Nat), x2])) := t2.new hn
    refine ⟨tt, _, rfl, SqT.of upd_same, rfl, _, _, rfl, _, _, rfl, rfl, ?_⟩
    -- is_rule(rule, many)
    refine ⟨_, rfl, _, rfl, x2, b.1, r, rfl, Dp.ext e3 (still_rule r) hd2, t3, fun H4 e4 t4 => ⟨_, rfl, ?_⟩⟩
    have hmem : r ∈ b.2 := List.mem_of_getElem? hr1
    rw [hb.rl r hmem]
    refine iteF ?_
    have e5 := e3.trans e4
    refine ⟨_, rfl, _, _, rfl, rfl, _, rfl, ?_⟩
    refine ite2 (fun c => ?_) (fun c => ?_)
    case refine_2 =>
      refine iteF ?_
      exact ⟨_, _, rfl, e5, t4⟩
    have c' : (0 : Int) < (i : Nat) := by simpa using c
    -- rule <= rules[index - 1]
    have hi1 : i - 1 < xs.length := by omega
    have hprev : xs[i - 1]? = some (xs[i - 1]) := List.getElem?_eq_getElem hi1
    obtain ⟨d', hd1', hd2'⟩ := dpAll_get hall hprev
    obtain ⟨r', hr1', rfl⟩ : ∃ r, b.2[i - 1]? = some r ∧ d' = dRule r := by
      rw [List.getElem?_map] at hd1'
      cases q : b.2[i - 1]? with
      | none => rw [q] at hd1'; cases hd1'
      | some r => rw [q] at hd1'; exact ⟨r, rfl, (Option.some.inj hd1').symm⟩
    have eix : ((i : Nat) : Int) - 1 = ((i - 1 : Nat) : Int) := by omega
    refine ⟨_, rfl, _, rfl, _, rfl, _, _, rfl, rfl, ar, xs, _, xs[i - 1], rfl, rfl, e5.sqT hsr, by rw [eix]; exact atI_nat hprev, r, r', Dp.ext e5 (still_rule r) hd2, Dp.ext e5 (still_rule r') hd2', _, rfl, ?_⟩
    have up : ltR r' r = true := by
      have h1 : i - 1 < b.2.length := by omega
      have h2 : i < b.2.length := by omega
      have q := List.pairwise_iff_getElem.mp hb.up (i - 1) i h1 h2 (by omega)
      rw [List.getElem?_eq_getElem h1] at hr1'
      rw [List.getElem?_eq_getElem h2] at hr1
      rw [Option.some.inj hr1', Option.some.inj hr1] at q
      exact q
    rw [up]
    refine iteF ?_
    exact ⟨_, _, rfl, e5, t4⟩
  · rintro σ H2 ⟨p, q, rfl, e2, t2⟩
    exact hq H2 e2 t2
end
end SB
/-! KSortR -/
set_option Elab.async false
set_option linter.all false
set_option maxRecDepth 100000
set_option maxHeartbeats 2000000
/-! sorted(..) of rules: off a list, a dict's keys. -/
namespace SB
open PySem PySem.Spec PyProof.Rows L2
open PySem.W (EachIs dataLe dataLt AllAlike Sortable alike)
/-! ### the order -/
theorem ltI_core : ∀ xs ys : List Int, decide (xs < ys) = ltI xs ys
  | [], [] => by simp [ltI]
  | [], _ :: _ => by simp [ltI]
  | _ :: _, [] => by simp [ltI]
  | x :: xs, y :: ys => by
    have ih := ltI_core xs ys
    rw [ltI]
    by_cases e : x = y
    · subst e
      rw [if_pos rfl, ← ih]
      simp
    · rw [if_neg e]
      by_cases d : x < y
      · rw [decide_eq_true d]; exact decide_eq_true (List.cons_lt_cons_iff.mpr (.inl d))
      · rw [decide_eq_false d]
        have : ¬ (x :: xs < y :: ys) := by
          intro z
          rcases List.cons_lt_cons_iff.mp z with z | ⟨z, _⟩
          · exact d z
          · exact e z
        exact decide_eq_false this
theorem dataLt_side (a b : Side) : dataLt (dSide a) (dSide b) = ltI a b := by
  rw [dSide, dSide, PySem.W.dataLt_tuple]
  exact (PySem.W.dataLt_ints a b).trans (ltI_core a b)
theorem dataLt_rule (a b : Rule) : dataLt (dRule a) (dRule b) = ltR a b := by
  rw [dRule, dRule, PySem.W.dataLt_pair (alike_side _ _) (alike_side _ _), eqv_side, eqv_side, dataLt_side, dataLt_side, ltR]
  by_cases e : a.1 = b.1
  · rw [if_pos (by simpa using e), if_pos e]
    by_cases e2 : a.2 = b.2
    · rw [if_pos (by simpa using e2), e2, ltI_irr]
    · rw [if_neg (by simpa using e2)]
  · rw [if_neg (by simpa using e), if_neg e]
/-- a list of rules in order -/
def sortR (rs : List Rule) : List Rule := rs.mergeSort fun a b => !ltR b a
theorem leR_total (a b : Rule) : (!ltR b a || !ltR a b) = true := by
  cases h : ltR a b with
  | false => simp
  | true => rw [ltR_asym a b h]; rfl
theorem leR_trans (a b c : Rule) (h : (!ltR b a) = true) (h' : (!ltR c b) = true) : (!ltR c a) = true := by
  have h1 : ltR b a = false := by simpa using h
  have h2 : ltR c b = false := by simpa using h'
  cases q : ltR c a with
  | false => rfl
  | true =>
    cases q2 : ltR a b with
    | true => rw [ltR_trans c a b q q2] at h2; cases h2
    | false =>
      rw [ltR_tri a b q2 h1] at q
      rw [q] at h2
      cases h2
theorem sortR_perm (rs : List Rule) : (sortR rs).Perm rs := List.mergeSort_perm _ _
theorem sortR_up (rs : List Rule) : (sortR rs).Pairwise fun a b => ltR b a = false := by
  have h := List.pairwise_mergeSort (le := fun a b => !ltR b a) leR_trans leR_total rs
  exact h.imp fun q => by simpa using q
theorem sort_map {β : Type} (g : β → Rule) : ∀ bs : List β, (bs.mergeSort (dataLe false fun b => dRule (g b))).map g = sortR (bs.map g) := fun bs => by
  have e : (dataLe false fun b => dRule (g b)) = fun a b => (fun x y : Rule => !ltR y x) (g a) (g b) := by
    rw [PySem.W.dataLe_eq]
    funext a b
    simp only [cond_false]
    rw [dataLt_rule]
  rw [e, sortR]
  exact (List.map_mergeSort (f := g) (r := fun a b => (fun x y : Rule => !ltR y x) (g a) (g b)) (s := fun x y : Rule => !ltR y x) (fun a _ b _ => rfl))

/-! ### off anything that is collected -/
theorem still_reads : ∀ (d : PyData) {h : Heap} {v : Value} {as : List Addr}, still d = true → Reads h v d as → as = [] := by
  intro d h v as hs hr
  exact (PyData.rec (motive_1 := fun d => ∀ (v : Value) (as : List Addr), still d = true → Reads h v d as → as = []) (motive_2 := fun ds => ∀ (vs : List Value) (as : List Addr), stillAll ds = true → ReadsAll h vs ds as → as = [])
    (motive_3 := fun _ => True) (motive_4 := fun _ => True)
    (fun v as _ r => by cases r; rfl) (fun b v as _ r => by cases r; rfl) (fun i v as _ r => by cases r; rfl) (fun x v as _ r => by cases r; rfl)
    (fun xs _ v as s _ => by simp [still] at s) (fun xs ih v as s r => by
      cases r with
      | tuple h1 h2 h3 h4 => exact ih _ _ (by simpa [still] using s) h4) (fun _ _ v as s _ => by simp [still] at s)
    (fun vs as _ r => by cases r; rfl) (fun x xs ih1 ih2 vs as s r => by
      cases r with
      | cons r1 r2 =>
        have z := Bool.and_eq_true_iff.mp (show (still x && stillAll xs) = true by simpa [stillAll] using s)
        rw [ih1 _ _ z.1 r1, ih2 _ _ z.2 r2]; rfl) trivial (fun _ _ _ _ => trivial) (fun _ _ _ _ => trivial) d) v as hs hr
section
variable {prog : Program} {w : World} {A : Around} {E : Value → Shared → Prop} {s : Shared} {β : Type} {enc : β → PyData} {R : Value → β → Prop}
theorem sorted_col {x : Value} {Q : Value → Shared → Prop}
    (hc : wpAny (model prog w) A.in1 (collect x) (fun vs s1 => ∃ bs : List β, EachIs R vs bs ∧ EachIs (fun v b => Reads s1.heap v (enc b) []) vs bs ∧ AllAlike (bs.map enc) ∧ Sortable (bs.map enc) ∧ bs.length ≤ sizeLine ∧
      (∀ b ∈ bs, A.units + 3 + (enc b).depth < cLine) ∧
      ∀ (p : Addr) (s2 : Shared) (out : List Value) (c : Nat), (∀ b o, s1.heap.get? b = some o → s2.heap.get? b = some o) → s2.gens = s1.gens → s2.os = s1.os → s1.heap.objs.size ≤ p →
        s2.heap.get? p = some (seqObj "list" out.toArray c) → EachIs R out (bs.mergeSort (dataLe false enc)) → Q (.ref p) s2) E s) :
    wpAny (model prog w) A (call (.builtin "sorted") [x]) Q E s := by
  refine Calls.call_function_entry kind_sorted plain_sorted entry_sorted (args_sorted1 _) ?_
  unfold Builtin.«sorted»
  refine wpAny_bind (m := checkCount "sorted" 1 1 _) (wpAny_pure ?_)
  refine wpAny_bind (wpAny_mono hc (fun vs s1 h1 => ?_) fun _ _ e => e)
  obtain ⟨bs, e1, e2, hal, hk, hL, hu, hq⟩ := h1
  have hvl : vs.length ≤ sizeLine := by rw [e1.length]; exact hL
  refine wpAny_bind (wpAny_newList ?_ hvl)
  have ho : (s1.heap.push (seqObj "list" vs.toArray 0)).get? s1.heap.objs.size = some (seqObj "list" vs.toArray 0) := Heap.get?_push_size _ rfl
  have kp : ∀ b o, s1.heap.get? b = some o → (s1.heap.push (seqObj "list" vs.toArray 0)).get? b = some o := fun b o e => Heap.get?_push_of_some _ e
  refine wpAny_bind (wpAny_holding (PySem.W.list_sort_data (s := { s1 with heap := s1.heap.push (seqObj "list" vs.toArray 0) }) (R := R) (enc := enc) (bs := bs) ho e1 ?_ hal hk hL ?_ fun out hout hS => ?_))
  · exact e2.mono fun v b r => ⟨[], PyProof.Rows.Reads.keeps kp r, List.not_mem_nil⟩
  · intro b hb
    have := hu b hb
    show A.units + 1 + 1 + _ < _
    omega
  · obtain ⟨c, hcc⟩ := sortedHeap_at (vs := vs) (out := out.toArray) ho
    refine wpAny_pure ⟨_, rfl, hq s1.heap.objs.size { s1 with heap := sortedHeap (s1.heap.push (seqObj "list" vs.toArray 0)) s1.heap.objs.size vs out.toArray } out c (fun b o e => ?_) rfl rfl (Nat.le_refl _) hcc hS⟩
    have hlt := Heap.lt_size e
    show (sortedHeap (s1.heap.push (seqObj "list" vs.toArray 0)) s1.heap.objs.size vs out.toArray).get? b = some o
    rw [sortedHeap_old (Nat.ne_of_lt hlt) (by rw [size_push']; exact Nat.lt_succ_of_lt hlt)]
    exact kp b o e
end
end SB
/-! KRuleDict -/
set_option Elab.async false
set_option linter.all false
set_option maxRecDepth 100000
set_option maxHeartbeats 2000000
/-! A dict whose keys are rules; sorted(..) of a list of rules and of such a dict's keys. -/
namespace SB
open PySem PySem.Spec PyProof.Rows L2
open PySem.W (EachIs dataLe dataLt AllAlike Sortable alike)
section
variable {X : Cx} {pins : List (Addr × Obj)} {σ : L2.St} {H : Hp} {s : Shared}
theorem reads_rule (I : Inv X pins σ H s) {v : V} {u : Value} {r : Rule} (h : Dp X.K H v (dRule r)) (q : RelV v u) : Reads s.heap u (dRule r) [] := by
  obtain ⟨as, h1⟩ := Dp.reads I _ v u h q
  rw [still_reads _ (still_rule r) h1] at h1
  exact h1
theorem each_rules (I : Inv X pins σ H s) : ∀ {xs : List V} {us : List Value} {rs : List Rule}, DpAll X.K H xs (rs.map dRule) → Vals xs us →
    EachIs (fun u (b : Rule × V) => RelV b.2 u ∧ Dp X.K H b.2 (dRule b.1)) us (rs.zip xs) ∧ (rs.zip xs).map (·.1) = rs ∧ (rs.zip xs).map (·.2) = xs
  | [], [], [], _, _ => ⟨.nil, rfl, rfl⟩
  | x :: xs, _, r :: rs, h, q => by
    cases h with
    | cons h1 h2 =>
      cases q with
      | cons q1 q2 =>
        obtain ⟨e1, e2, e3⟩ := each_rules I h2 q2
        exact ⟨.cons ⟨q1, h1⟩ e1, by rw [List.zip_cons_cons, List.map_cons, e2], by rw [List.zip_cons_cons, List.map_cons, e3]⟩
  | [], _, _ :: _, h, _ => by cases h
  | _ :: _, _, [], h, _ => by cases h
theorem each_vals {us : List Value} {bs : List (Rule × V)} (h : EachIs (fun u (b : Rule × V) => RelV b.2 u ∧ Dp X.K H b.2 (dRule b.1)) us bs) : Vals (bs.map (·.2)) us ∧ DpAll X.K H (bs.map (·.2)) ((bs.map (·.1)).map dRule) := by
  induction h with
  | nil => exact ⟨.nil, .nil⟩
  | cons h1 _ ih => exact ⟨.cons h1.1 ih.1, .cons h1.2 ih.2⟩
theorem alike_rules (bs : List (Rule × V)) : AllAlike (bs.map fun b => dRule b.1) := PySem.W.AllAlike.of fun b b' => alike_rule _ _
theorem sortable_rules (bs : List (Rule × V)) : Sortable (bs.map fun b => dRule b.1) := PySem.W.Sortable.tuples fun b => ⟨_, _, rfl⟩
theorem depth_rule (r : Rule) : (dRule r).depth = 2 := by
  rw [dRule, PyData.depth, PyData.depthAll, PyData.depthAll, PyData.depthAll, dSide, dSide, PyData.depth, PyData.depth, depth_ints, depth_ints]; rfl
/-- what sorted leaves -/
def rSortOut (K : PySem.W.Frag) (H : Hp) (rs : List Rule) (Q : VK) : Prop := ∀ (l : Addr) (ys : List V), H l = none → DpAll K H ys ((sortR rs).map dRule) → Q (.ref l) (upd H l (.lst ys))
/-- behind collecting, in one -/
theorem sorted_end (I : Inv X pins σ H s) {Q : VK} {x : Value} {xs : List V} {rs : List Rule} (hall : DpAll X.K H xs (rs.map dRule)) (hz : xs.length ≤ sizeLine) (hu : X.A.units + 8 < cLine)
    (hc : ∀ (R : List Value → Shared → Prop), (∀ us s1, Vals xs us → (∀ b o, s.heap.get? b = some o → s1.heap.get? b = some o) → s1.gens = s.gens → s1.os = s.os → R us s1) → wpAny (model X.prog X.w) X.A.in1 (collect x) R X.xe s)
    (hq : rSortOut X.K H rs Q) : wpAny (model X.prog X.w) X.A (call (.builtin "sorted") [x]) (EP X pins σ Q) X.xe s := by
  refine sorted_col (β := Rule × V) (enc := fun b => dRule b.1) (R := fun u (b : Rule × V) => RelV b.2 u ∧ Dp X.K H b.2 (dRule b.1)) (hc _ fun us s1 rv k g o => ?_)
  obtain ⟨e1, e2, e3⟩ := each_rules I hall rv
  have I1 : Inv X pins σ H s1 := I.call' (ch := []) o (Un.kept k) (I.hok.kept k) (by rw [g]; exact I.bare) (fun _ z => nomatch z)
  have el : (rs.zip xs).length = xs.length := by
    have q := congrArg List.length e3
    rwa [List.length_map] at q
  refine ⟨rs.zip xs, e1, ?_, alike_rules _, sortable_rules _, by rw [el]; exact hz, fun b _ => by rw [depth_rule]; omega, fun p s2 out c k2 g2 o2 hp hg hS => ?_⟩
  · exact e1.mono fun u b h => reads_rule I1 h.2 h.1
  · obtain ⟨v1, v2⟩ := each_vals hS
    have eS : ((rs.zip xs).mergeSort (dataLe false fun b : Rule × V => dRule b.1)).map (·.1) = sortR rs := by
      rw [sort_map (fun b : Rule × V => b.1), e2]
    rw [eS] at v2
    have hn : H p = none := I1.hok.fresh hp
    have hlen : (((rs.zip xs).mergeSort (dataLe false fun b : Rule × V => dRule b.1)).map (·.2)).length ≤ sizeLine := by
      rw [List.length_map, List.length_mergeSort, el]; exact hz
    have J : Inv X pins σ (upd H p (.lst (((rs.zip xs).mergeSort (dataLe false fun b : Rule × V => dRule b.1)).map (·.2)))) s2 :=
      I1.call' (ch := []) o2 (Un.laid k2 hp hn) (I1.hok.laid k2 hp ⟨hlen, out, c, v1, hg⟩) (by rw [g2]; exact I1.bare) (fun _ z => nomatch z)
    exact ⟨.ref p, _, J, rfl, hq p _ hn v2⟩
end
/-- sorted(xs), xs a list of rules -/
def rSortedR (K : PySem.W.Frag) : List V → Hp → VK → Prop := fun vs H Q => ∃ (a : Addr) (xs : List V) (rs : List Rule), vs = [.ref a] ∧ SqL K H a xs ∧ DpAll K H xs (rs.map dRule) ∧ rSortOut K H rs Q
theorem cr_sortedR {X : Cx} (hu : X.A.units + 8 < cLine) : CallR X (.builtin "sorted") (rSortedR X.K) := by
  intro pins s σ H vs us Q I r h
  obtain ⟨a, xs, rs, rfl, ha, hall, hq⟩ := h
  rw [Vals.ref1 r]
  obtain ⟨its, rv, pl, hz⟩ := I.list ha
  refine sorted_end I hall hz hu (fun R hR => collect_list pl.isList (hR its _ rv (fun b o e => ?_) rfl rfl) (by rw [← rv.length]; exact hz)) hq
  have hlt := Heap.lt_size e
  show ((s.heap.push (seqObj "list" #[] 0)).update s.heap.objs.size _).get? b = some o
  rw [Heap.get?_update_ne _ _ _ _ (Nat.ne_of_lt hlt)]
  exact Heap.get?_push_of_some _ e
end SB

namespace SB
open PySem PySem.Spec PyProof.Rows L2
/-! ### a dict whose keys are rules, all values True -/
def kSide (s : Side) : NestedKey := .tup (s.map .num)
def kRule (r : Rule) : NestedKey := .tup [kSide r.1, kSide r.2]
theorem num_inj : ∀ xs ys : List Int, xs.map NestedKey.num = ys.map NestedKey.num → xs = ys
  | [], [], _ => rfl
  | [], _ :: _, h => by simp at h
  | _ :: _, [], h => by simp at h
  | x :: xs, y :: ys, h => by
    rw [List.map_cons, List.map_cons] at h
    injection h with h1 h2
    injection h1 with h1
    rw [h1, num_inj xs ys h2]
theorem kRule_inj {a b : Rule} (h : kRule a = kRule b) : a = b := by
  unfold kRule kSide at h
  injection h with h
  injection h with h1 h
  injection h with h2 _
  injection h1 with h1
  injection h2 with h2
  exact Prod.ext (num_inj _ _ h1) (num_inj _ _ h2)
theorem depth_nums : ∀ xs : List Int, NestedKey.depthAll (xs.map .num) = 0
  | [] => rfl
  | x :: xs => by rw [List.map_cons, NestedKey.depthAll, depth_nums xs, NestedKey.depth]; rfl
theorem depth_kRule (r : Rule) : (kRule r).depth = 2 := by
  rw [kRule, NestedKey.depth, NestedKey.depthAll, NestedKey.depthAll, NestedKey.depthAll, kSide, kSide, NestedKey.depth, NestedKey.depth, depth_nums, depth_nums]; rfl
section
variable (P : Program) (w : World)
abbrev trip (p : Rule × Addr) : NestedKey × Addr × Value := (kRule p.1, p.2, .bool true)
def RawD (h : Heap) (d : Addr) (ks : List (Rule × Addr)) : Prop :=
  (d == sysModules) = false ∧ (ks.map (·.1)).Nodup ∧ ∃ o es ep, h.get? d = some o ∧ o.ExactDict ∧ o.data = .dict es ep ∧ es.toList = (ks.map trip).map (entryOfKey (nestedKind P w))
def RulesO (d : Addr) (ks : List (Rule × Addr)) : HO := .ext fun h => RawD P w h d ks
end
section
variable {P : Program} {w : World} {H : Hp} {h h' : Heap} {d : Addr} {ks : List (Rule × Addr)}
theorem RawD.at (x : RawD P w h d ks) (k : ∀ o, h.get? d = some o → h'.get? d = some o) : RawD P w h' d ks := by
  obtain ⟨x1, x2, o, es, ep, e, r⟩ := x
  exact ⟨x1, x2, o, es, ep, k o e, r⟩
theorem rulesO_ok (x : RawD P w h d ks) : ObjOk P w H h d (RulesO P w d ks) := by
  refine ⟨x, ?_, fun h1 h2 y k => RawD.at y k⟩
  obtain ⟨_, _, o, _, _, e, _⟩ := x
  exact ⟨o, e⟩
theorem rulesO_at (hok : HOk P w H h) (e : H d = some (RulesO P w d ks)) : RawD P w h d ks := (hok d _ e).1
end
section
variable {X : Cx} {pins : List (Addr × Obj)} {σ : L2.St} {H : Hp} {s : Shared}
theorem nested_ints {h : Heap} : ∀ {us : List Value} {k : List Int}, IntsAre us k → NestedAll h (k.map .num) us
  | _, _, .nil => .nil
  | _, _, .cons n t r => .cons (.int n t) (nested_ints r)
theorem nested_of (I : Inv X pins σ H s) {a : Addr} {r : Rule} (h : Dp X.K H (.ref a) (dRule r)) : (nestedKind X.prog X.w).is s.heap (kRule r) a := by
  refine ⟨?_, by rw [depth_kRule]; decide⟩
  obtain ⟨p, x, y, e, hp, hx, hy⟩ := dp_rule.mp h
  injection e with e
  subst e
  obtain ⟨its, rv, ⟨o, ho, hc, n, hd⟩, _⟩ := I.tuple hp
  obtain ⟨u1, u2, rfl, q1, q2⟩ : ∃ u1 u2, its = [u1, u2] ∧ RelV x u1 ∧ RelV y u2 := by
    cases rv with
    | cons r1 r2 =>
      cases r2 with
      | cons r3 r4 => cases r4; exact ⟨_, _, rfl, r1, r3⟩
  have side : ∀ {x : V} {u : Value} {k : Side}, Dp X.K H x (dSide k) → RelV x u → NestedIs s.heap (kSide k) u := fun {x u k} hx q => by
    obtain ⟨b, is, rfl, ⟨o, ho, hc, n, hd⟩, hi⟩ := side_at I hx q
    exact .tup ho hc hd (nested_ints hi)
  exact .tup ho hc hd (.cons (side hx q1) (.cons (side hy q2) .nil))
/-- all keys' tuples stand -/
def Keyed (K : PySem.W.Frag) (H : Hp) (ks : List (Rule × Addr)) : Prop := ∀ p ∈ ks, Dp K H (.ref p.2) (dRule p.1)
theorem dictOf_rules (I : Inv X pins σ H s) {d : Addr} {ks : List (Rule × Addr)} (hd : H d = some (RulesO X.prog X.w d ks)) (hk : Keyed X.K H ks) : s.heap.DictOfH (nestedKind X.prog X.w) d (ks.map trip) := by
  obtain ⟨_, nd, o, es, ep, e, ex, hdt, hes⟩ := rulesO_at I.hok hd
  refine ⟨o, es, ep, e, ex, hdt, hes, fun x hx => ?_, ?_⟩
  · obtain ⟨p, hp, rfl⟩ := List.mem_map.mp hx
    exact nested_of I (hk p hp)
  · rw [List.map_map]
    have e2 : ((fun x : NestedKey × Addr × Value => x.1) ∘ trip) = (fun p : Rule × Addr => kRule p.1) := rfl
    rw [e2, show (fun p : Rule × Addr => kRule p.1) = kRule ∘ (fun p => p.1) from rfl, ← List.map_map]
    exact (List.pairwise_map.mpr (nd.imp fun hne z => hne (kRule_inj z)))
/-- r put in, its tuple at a -/
def putR (ks : List (Rule × Addr)) (r : Rule) (a : Addr) : List (Rule × Addr) := if r ∈ ks.map (·.1) then ks else ks ++ [(r, a)]
theorem stored_trip (ks : List (Rule × Addr)) (r : Rule) (a : Addr) : storedH (ks.map trip) (kRule r) a (.bool true) = (putR ks r a).map trip := by
  have at_ : (atKey (ks.map trip) (kRule r)).isSome = decide (r ∈ ks.map (·.1)) := by
    induction ks with
    | nil => rfl
    | cons p ks ih =>
      unfold atKey at ih ⊢
      rw [List.map_cons, List.find?_cons]
      by_cases e : p.1 = r
      · simp [trip, e]
      · have e2 : ¬ kRule p.1 = kRule r := fun z => e (kRule_inj z)
        simp only [trip, e2, decide_false]
        rw [ih]
        simp [Ne.symm e]
  unfold putR
  by_cases c : r ∈ ks.map (·.1)
  · rw [if_pos c]
    unfold storedH
    rw [at_, decide_eq_true c, if_pos rfl, List.map_map]
    refine List.map_congr_left fun p _ => ?_
    show putAt (kRule r) (.bool true) (trip p) = trip p
    unfold putAt
    split <;> rfl
  · rw [if_neg c]
    unfold storedH
    rw [at_, decide_eq_false c, if_neg Bool.false_ne_true, List.map_append]; rfl
theorem putR_nodup {ks : List (Rule × Addr)} {r : Rule} {a : Addr} (h : (ks.map (·.1)).Nodup) : ((putR ks r a).map (·.1)).Nodup := by
  unfold putR
  by_cases c : r ∈ ks.map (·.1)
  · rw [if_pos c]; exact h
  · rw [if_neg c, List.map_append]
    refine List.nodup_append.mpr ⟨h, by simp, fun x hx y hy => ?_⟩
    rw [List.map_cons, List.map_nil, List.mem_singleton] at hy
    rw [hy]
    intro z
    have z2 : x = r := z
    rw [z2] at hx
    exact c hx
/-- {} -/
def tDNewR (P : Program) (w : World) : TE := fun _ H Q => ∀ d, H d = none → Q (.ref d) (upd H d (RulesO P w d []))
theorem pe_dnewR {pos : Pos} : PE X (.Dict [] [] pos) (tDNewR X.prog X.w) := ⟨fun pins s σ H Q I h => by
  have nsys : (s.heap.objs.size == sysModules) = false := (dt_empty (P := X.prog) (w := X.w) (H := H) s.heap I.big).2.1
  exact wpAny_Dict_empty ⟨.ref s.heap.objs.size, _, I.laid (a := s.heap.objs.size) (o := RulesO X.prog X.w s.heap.objs.size []) (t' := s.toks) (fun _ _ q => Heap.get?_push_of_some _ q) (Nat.le_refl _)
    (rulesO_ok ⟨nsys, List.nodup_nil, _, #[], 0, Heap.get?_push_size _ rfl, ⟨rfl, rfl, rfl⟩, rfl, rfl⟩), rfl, h _ (I.hok.fresh (Nat.le_refl _))⟩⟩
/-- d[key] = True -/
def rPutR (P : Program) (w : World) (K : PySem.W.Frag) : V → V → V → Hp → (Hp → Prop) → Prop := fun o i v H Q => ∃ (d a : Addr) (ks : List (Rule × Addr)) (r : Rule), o = .ref d ∧ i = .ref a ∧ v = .bl true ∧ H d = some (RulesO P w d ks) ∧
  Keyed K H ks ∧ Dp K H (.ref a) (dRule r) ∧ ks.length ≤ 1000 ∧ Q (upd H d (RulesO P w d (putR ks r a)))
theorem set_rules (hu : X.A.units + 20 < cLine) : PSet X (rPutR X.prog X.w X.K) := by
  intro pins s σ H o i v ov iv u Q I ro ri rv h
  obtain ⟨d, a, ks, r, rfl, rfl, rfl, hd, hk, hr, hn, hq⟩ := h
  obtain rfl : ov = Value.ref d := ro
  obtain rfl : iv = Value.ref a := ri
  obtain rfl : u = Value.bool true := rv
  have D := dictOf_rules I hd hk
  refine wpAny_setItem_heap (hsz := by rw [List.length_map, sizeLine_eq]; omega) (knd := nestedKind X.prog X.w) (by show X.A.units + 1 + 8 < cLine; omega) (nested_of I hr) D fun h' D' sb => ?_
  rw [stored_trip] at D'
  obtain ⟨o', es, ep, e, ex, hdt, hes, _, _⟩ := D'
  obtain ⟨nsys, nd, _⟩ := rulesO_at I.hok hd
  have J : Inv X pins σ (upd H d (RulesO X.prog X.w d (putR ks r a))) { s with heap := h', toks := s.toks + (nestedKind X.prog X.w).draws (kRule r) } :=
    I.write (x := d) (e := d) (by rw [hd]; trivial) (.inl rfl) (fun b ob hb q => (sb.2 b hb).trans q) ⟨o', e⟩ (rulesO_ok ⟨nsys, putR_nodup nd, o', es, ep, e, ex, hdt, hes⟩)
  exact ⟨_, J, hq⟩
/-- sorted(d.keys()) -/
def tSortedKeys (P : Program) (w : World) (K : PySem.W.Frag) (te : TE) : TE := fun σ H Q => te σ H fun x H1 => ∃ (d : Addr) (ks : List (Rule × Addr)), x = .ref d ∧ H1 d = some (RulesO P w d ks) ∧ Keyed K H1 ks ∧ ks.length ≤ 1000 ∧
  rSortOut K H1 (ks.map (·.1)) Q
theorem keys_vals {es : Array DictEntry} {ks : List (Rule × Addr)} {acc : Array Value} (hes : es.toList = (ks.map trip).map (entryOfKey (nestedKind X.prog X.w))) (h : ItemsOf (fun i v => ∃ hi : i < es.size, v = es[i].key) acc es.size) :
    Vals (ks.map fun p => V.ref p.2) acc.toList := by
  have e : acc.toList = ks.map fun p => Value.ref p.2 := by
    refine List.ext_getElem? fun i => ?_
    have hsz : es.size = ks.length := by
      have q := congrArg List.length hes
      rwa [Array.length_toList, List.length_map, List.length_map] at q
    by_cases hi : i < ks.length
    · have ha : i < acc.size := by rw [h.1, hsz]; exact hi
      have e1 : acc[i]? = some acc[i] := Array.getElem?_eq_getElem ha
      obtain ⟨hi2, hv⟩ := h.2 i _ e1
      have e2 : es.toList[i]? = some es[i] := by rw [Array.getElem?_toList]; exact Array.getElem?_eq_getElem hi2
      rw [hes, List.getElem?_map, List.getElem?_map, List.getElem?_eq_getElem hi] at e2
      have e3 : es[i].key = Value.ref ks[i].2 := by rw [← Option.some.inj e2]; rfl
      rw [Array.getElem?_toList, e1, hv, e3, List.getElem?_map, List.getElem?_eq_getElem hi]; rfl
    · rw [List.getElem?_eq_none (by rw [Array.length_toList, h.1, hsz]; omega), List.getElem?_eq_none (by rw [List.length_map]; omega)]
  rw [e]
  induction ks with
  | nil => exact .nil
  | cons p ks ih =>
    clear ih h e hes
    have key : ∀ l : List (Rule × Addr), Vals (l.map fun p => V.ref p.2) (l.map fun p => Value.ref p.2) := fun l => by
      induction l with
      | nil => exact .nil
      | cons p l ih => exact .cons rfl ih
    exact key (p :: ks)
theorem dpAll_keys {K : PySem.W.Frag} {H : Hp} : ∀ {ks : List (Rule × Addr)}, Keyed K H ks → DpAll K H (ks.map fun p => V.ref p.2) ((ks.map (·.1)).map dRule)
  | [], _ => .nil
  | p :: ks, h => .cons (h p List.mem_cons_self) (dpAll_keys fun q hq => h q (List.mem_cons_of_mem _ hq))
theorem pe_sortedKeys {e : Expr} {te : TE} {p apos cpos pos : Pos} (hu : X.A.units + 20 < cLine) (hc : X.calm = true) (hg : Gl X "sorted") (hm : X.mg "sorted" = none) (he : PE X e te)
    (hbase : attributeBase e "keys" X.env (eval e X.env) = eval e X.env := by rfl) (hline : (apos.endLine == cpos.line) = true := by rfl)
    (hs : starEach [.Call (.Attribute e "keys" apos) [] [] cpos] X.env = (false, eval (.Call (.Attribute e "keys" apos) [] [] cpos) X.env) :: starEach [] X.env := by rfl) :
    PE X (.Call (.Name "sorted" p) [.Call (.Attribute e "keys" apos) [] [] cpos] [] pos) (tSortedKeys X.prog X.w X.K te) := by
  refine ⟨fun pins s σ H Q I h => ?_⟩
  refine wpAny_Call_Name_kw (ld_blt I hg hm boot_sorted ?_)
  refine PyProof.Rows.callWith_builtin1 ?_ hs (by rfl)
  rw [hs]
  show wpAny _ _ (spliced ((false, eval (.Call (.Attribute e "keys" apos) [] [] cpos) X.env) :: backTo pos (starEach [] X.env))) _ _ s
  refine Calls.spliced_cons ?_
  refine wpAny_Call_method (T := "dict") (id := "dict.keys") hbase rfl hline F.plainAttrs_dict F.slot_dict_keys F.type_dict_keys (thn (he.run pins s σ H _ I h) fun u s1 ⟨x, H1, I1, rx, d, ks, ex, hd, hk, hn, hq⟩ => ?_)
  subst ex
  obtain rfl : u = Value.ref d := rx
  obtain ⟨nsys, _, o, es, ep, e, ex, hdt, hes⟩ := rulesO_at I1.hok hd
  have D : s1.heap.DictRaw d es ep := ⟨o, e, ex, hdt⟩
  refine ⟨D.typeIs, fun a ha => by injection ha with ha; subst ha; exact ⟨o, e, ex.2.1⟩, ?_⟩
  have hsz : es.size = ks.length := by
    have q := congrArg List.length hes
    rwa [Array.length_toList, List.length_map, List.length_map] at q
  have I2 : Inv X pins σ H1 { s1 with heap := s1.heap.push { cls := .type "dict_keys", data := .fields #[.ref d] } } := I1.kept (t' := s1.toks) fun b ob q => Heap.get?_push_of_some _ q
  show wpAny _ _ (callWith cpos (.builtin "dict.keys") [.ref d] [] []) _ X.xe s1
  refine method_meetsIn F.slot_dict_keys F.entry_dict_keys rfl (PySem.evalArgs_none ⟨rfl, D.typeIs, F.args_dict_keys_1 _, _, meets_dict_keys_raw d nsys, ⟨es, ep, D⟩, ?_⟩)
  show wpAny _ _ (spliced []) _ _ _
  refine Calls.spliced_nil ?_
  have D2 : (s1.heap.push { cls := .type "dict_keys", data := .fields #[.ref d] }).DictRaw d es ep := D.at fun o q => Heap.get?_push_of_some _ q
  have V2 : PySem.W.KdlKeysView (s1.heap.push { cls := .type "dict_keys", data := .fields #[.ref d] }) s1.heap.objs.size d := ⟨_, Heap.get?_push_size _ rfl, rfl, rfl⟩
  refine sorted_end (s := { s1 with heap := s1.heap.push { cls := .type "dict_keys", data := .fields #[.ref d] } }) I2 (dpAll_keys hk) (by rw [List.length_map, sizeLine_eq]; omega) (by omega) (fun R hR => ?_) hq
  refine PySem.W.kdu_collect (A := X.A.in1) (K := KdlSrc.rawKeys (r := s1.heap.objs.size) (d := d) (es := es) (ep := ep)) (I1.ok.hd hc) ⟨V2, D2⟩ (by rw [hsz, sizeLine_eq]; omega) fun h' tk acc k hacc => ?_
  exact hR _ _ (keys_vals hes hacc) k rfl rfl
end
end SB
/-! KRev -/
set_option Elab.async false
set_option linter.all false
set_option maxRecDepth 100000
set_option maxHeartbeats 2000000
/-! t[::-1] of a tuple; slices, sums, orders of sides -/
namespace SB
open PySem PySem.Spec PyProof.Rows L2
section
variable {prog : Program} {w : World} {A : Around} {E : Value → Shared → Prop} {s : Shared}
theorem applied_back {sl : Addr} {u : Tok} {n : Nat} {Q : Int × Int × Nat → Shared → Prop} (hs : s.heap.IsSliceOf sl .none .none (.int (-1) u)) (h : Q ((n : Int) - 1, -1, n) s) :
    wpAny (model prog w) A (Builtin.Slice.sliceApplied (.ref sl) (pure (n : Int))) Q E s := by
  obtain ⟨os, ho, _, hd⟩ := id hs
  unfold Builtin.Slice.sliceApplied Builtin.Slice.sliceFields
  refine wpAny_bind (wpAny_bind (wpAny_field ho hd (x := .none) rfl (wpAny_bind (wpAny_field ho hd (x := .none) rfl (wpAny_bind (wpAny_field ho hd (x := .int (-1) u) rfl (wpAny_pure ?_)))))))
  refine wpAny_bind (slicePart_int ?_)
  show wpAny _ _ (if ((-1 : Int) == 0) = true then _ else _) _ _ s
  rw [if_neg (by decide)]
  refine wpAny_bind (slicePart_none (wpAny_bind (slicePart_none (wpAny_bind (wpAny_pure ?_)))))
  have e1 : Builtin.Slice.sliceAdjust none none (-1) (n : Int) = ((n : Int) - 1, -1) := rfl
  have e2 : Builtin.Slice.slicePlaces ((n : Int) - 1) (-1) (-1) = n := by
    unfold Builtin.Slice.slicePlaces
    have h1 : ¬ ((-1 : Int) > 0) := by omega
    rw [if_neg h1]
    split
    · rw [show (- -1 : Int) = 1 by decide, Int.ediv_one]; omega
    · omega
  show wpAny _ _ (match Builtin.Slice.sliceAdjust none none (-1) (n : Int) with | (lo, hi) => pure (lo, (-1 : Int), Builtin.Slice.slicePlaces lo hi (-1))) _ _ s
  rw [e1]
  show wpAny _ _ (pure ((n : Int) - 1, (-1 : Int), Builtin.Slice.slicePlaces ((n : Int) - 1) (-1) (-1))) _ _ s
  rw [e2]
  exact wpAny_pure h
theorem pick_back (xs : Array Value) : ((List.range xs.size).filterMap fun (k : Nat) => xs[((xs.size : Int) - 1 + (k : Int) * (-1)).toNat]?).toArray = xs.toList.reverse.toArray := by
  have e : ((List.range xs.size).filterMap fun (k : Nat) => xs[((xs.size : Int) - 1 + (k : Int) * (-1)).toNat]?) = ((List.range xs.size).map fun k => xs.size - 1 - k).filterMap (xs[·]?) := by
    rw [List.filterMap_map]
    congr 1
    funext k
    have : ((xs.size : Int) - 1 + (k : Int) * (-1)).toNat = xs.size - 1 - k := by omega
    rw [this]
    rfl
  rw [e, PySem.W.krv_range, List.filterMap_reverse, PySem.W.krv_all]
theorem item_back {t sl : Addr} {items : Array Value} {u : Tok} {Q : Value → Shared → Prop} (ht : IsTup s.heap t items) (hs : s.heap.IsSliceOf sl .none .none (.int (-1) u)) (hsz : items.size ≤ sizeLine)
    (h : Q (.ref s.heap.objs.size) { s with heap := s.heap.push { cls := .type "tuple", data := .seq items.toList.reverse.toArray } }) : wpAny (model prog w) A (getItem (.ref t) (.ref sl)) Q E s := by
  have fits : sizeOk (.seq items.toList.reverse.toArray) := by
    show items.toList.reverse.toArray.size ≤ sizeLine
    rw [List.size_toArray, List.length_reverse, Array.length_toList]; exact hsz
  obtain ⟨os, hos, hcs, _⟩ := id hs
  have isl : s.TypeIs (.ref sl) "slice" := ⟨os, hos, hcs⟩
  unfold getItem
  refine wpAny_holding (wpAny_bind (wpAny_sequenceKey ht.typeIs (by decide) ?_))
  refine wpAny_bind (wpAny_callSpecial?_slot (name := Str.ofString "__getitem__") ht.typeIs slot_tuple_getitem (wpAny_call_entry slot_tuple_getitem ht.typeIs entry_tuple_getitem ?_ (args_tuple_getitem _ _)))
  show wpAny _ _ (Builtin.Tuple.tupleItemsOf (.ref t) >>= _) _ _ s
  refine wpAny_bind (tupleItemsOf_ ht (wpAny_bind (wpAny_typeOf isl ?_)))
  rw [if_pos (by decide)]
  refine wpAny_bind (applied_back hs ?_)
  have hno : ¬ ((((items.size : Int) - 1) == 0 && (-1 : Int) == 1 && items.size == items.size) = true) := by
    intro q
    rw [Bool.and_eq_true, Bool.and_eq_true] at q
    exact absurd q.1.2 (by decide)
  show wpAny _ _ (if (((items.size : Int) - 1) == 0 && (-1 : Int) == 1 && items.size == items.size) = true then _ else _) _ _ s
  rw [if_neg hno, pick_back]
  first
    | (refine wpAny_bind (m := Builtin.Tuple.tupleExact _) (wpAny_newObj_type (wpAny_pure ?_) fits); exact ⟨_, rfl, wpAny_pure h⟩)
    | (refine wpAny_bind (m := Builtin.Tuple.tupleExact _) (wpAny_newObj_type (wpAny_bind (wpAny_pure ?_)) fits); exact wpAny_pure ⟨_, rfl, wpAny_pure h⟩)
    | (refine wpAny_bind (wpAny_bind (m := Builtin.Tuple.tupleExact _) (wpAny_newObj_type (wpAny_pure ?_) fits)); first | exact ⟨_, rfl, wpAny_pure h⟩ | exact wpAny_pure ⟨_, rfl, wpAny_pure h⟩)
end
section
variable {X : Cx}
/-- t[::-1], t a tuple: a new one -/
def tRevT (K : PySem.W.Frag) (te : TE) : TE := fun σ H Q => te σ H fun x H1 => ∃ a xs, x = .ref a ∧ SqT K H1 a xs ∧ ∀ p, H1 p = none → Q (.ref p) (upd H1 p (.tup xs.reverse))
theorem pe_revT {e : Expr} {te : TE} {k : Nat} {p1 p2 p3 pos : Pos} (he : PE X e te) : PE X (.Subscript e (.Slice none none (some (.UnaryOp .USub (.Constant (.int 1) k p1) p2)) p3) pos) (tRevT X.K te) := by
  refine ⟨fun pins s σ H Q I h => ?_⟩
  refine Subscript_ (thn (he.run pins s σ H _ I h) fun v s1 ⟨x, H1, I1, r1, a, xs, ex, hx, q⟩ => ?_)
  subst ex
  cases r1
  have hst : PO X (some (.UnaryOp .USub (.Constant (.int 1) k p1) p2)) (tPart (tUn (rU fun i => .int (-i)) (tC (.int 1)))) := po_some (pe_un un_neg pe_int)
  refine wpAny_Slice (thn (po_none.run pins s1 σ H1 (fun o H2 => o = none ∧ H2 = H1) I1 ⟨rfl, rfl⟩) fun vl s2 ⟨l, H2, I2, pl, el, e2⟩ => ?_)
  subst el e2
  refine thn (po_none.run pins s2 σ H2 (fun o H3 => o = none ∧ H3 = H2) I2 ⟨rfl, rfl⟩) fun vu s3 ⟨u, H3, I3, pu, eu, e3⟩ => ?_
  subst eu e3
  refine thn (hst.run pins s3 σ H3 (fun o H4 => o = some (-1) ∧ H4 = H3) I3 ⟨1, rfl, -1, rfl, rfl, rfl⟩) fun vs s4 ⟨o, H4, I4, ps, eo, e4⟩ => ?_
  subst eo e4
  obtain ⟨its, r, ht, hz⟩ := I4.tuple hx
  have I5 : Inv X pins σ H4 { s4 with heap := s4.heap.push { cls := .type "slice", data := .fields #[vl, vu, vs] } } := I4.kept (t' := s4.toks) fun b ob q => Heap.get?_push_of_some _ q
  have ht5 : IsTup (s4.heap.push { cls := .type "slice", data := .fields #[vl, vu, vs] }) a its.toArray := by
    obtain ⟨o, e, z⟩ := ht
    exact ⟨o, Heap.get?_push_of_some _ e, z⟩
  cases pl
  cases pu
  cases ps
  show wpAny (model X.prog X.w) X.A (subscriptTail e _ (.ref a) (.ref s4.heap.objs.size)) (EP X pins σ Q) X.xe _
  refine tail_any (ops := [.ref a, .ref s4.heap.objs.size]) ht5.typeIs PyProof.Rows.slot_tuple_getitem.lookup ?_ (by with_unfolding_all rfl)
  refine item_back (s := { s4 with heap := s4.heap.push _ }) ht5 (Heap.IsSliceOf.new _ _ _ _) (by rw [List.size_toArray, ← r.length]; exact hz) ?_
  refine ⟨.ref _, _, I5.laid (t' := s4.toks) (o := .tup xs.reverse) (fun b ob q => Heap.get?_push_of_some _ q) (Nat.le_refl _) ?_, rfl, q _ (I5.hok.fresh (Nat.le_refl _))⟩
  exact ⟨by rw [List.length_reverse]; exact hz, _, r.reverse, IsTup.new _ _⟩
end
end SB
/-! KTaken -/
set_option Elab.async false
set_option linter.all false
set_option maxRecDepth 100000
set_option maxHeartbeats 4000000
namespace SB
open PySem PySem.Spec PyProof.Rows L2
abbrev sTaken : Stmt := top 36
/-- the drawing row at r: the script at a, its place, the mixed number, what is left of a great cell -/
def RowAt (H : Hp) (r a : Addr) : Prop := ∃ p h x : Int, H r = some (.lst [.ref a, .int p, .int h, .int x]) ∧ 0 ≤ p ∧ 0 ≤ h ∧ h < 2147483647 ∧ 0 ≤ x
/-- the script's list stands -/
def Scr (K : PySem.W.Frag) (H : Hp) (a : Addr) (r : Addr) : Prop := a ≠ r ∧ ∃ ns : List Int, SqL K H a (ns.map V.int)
def spTaken (K : PySem.W.Frag) (T : List Addr) : Sp := fun vs H Q _ => ∃ (r a : Addr) (ns : List Int) (m : Int), vs = [.ref r, .int m] ∧ 1 ≤ m ∧ m < 1073741824 ∧ RowAt H r a ∧ SqL K H a (ns.map V.int) ∧ a ≠ r ∧ Tabs T H ∧
  ∀ (x : Int) H', 0 ≤ x → x < m → Ext [r] H H' → RowAt H' r a → Tabs T H' → Q (.int x) H'
section
variable {P : Program} {w : World} {K : PySem.W.Frag} {mg : Str → Option Value} {base : Heap} {T : List Addr}
theorem scTaken : FnScope ["row", "many", "found", "cell"] ["row", "many"] (defScope sTaken) := ⟨rfl, rfl, rfl, by decide +kernel, rfl, by decide +kernel, by decide +kernel⟩
theorem ok_taken {f : Addr} {fd : FuncData} (F : FnP K "_law_taken" sTaken f fd) (B : Blt mg) : FnOk P w K mg base CX0 1 f fd ["row", "many"] (spTaken K T) := by
  refine okN F scTaken (fun vs H Q E h => ?_) (fun A outer s H vs Q E hr h => ?_)
  · obtain ⟨r, a, ns, m, rfl, _⟩ := h
    rfl
  obtain ⟨r, a, ns, m, rfl, hm1, hm2, ⟨p, h, x, hrow, hp, hh, hh2, hx⟩, hs, har, hT0, hq⟩ := h
  refine ⟨_, pss_cons (ps_if (pt_cmpR op_gt (pe_ix ix_list (pv 0) pe_int (fun _ _ => rfl)) pe_int (nomark _))
      (pss_cons (ps_set (i := 2) scTaken.nd rfl (Or.inl rfl) (pe_op op_mod (pe_callTy call_int1 (by rfl) B.int (by decide +kernel) (pa_cons (pe_ix ix_list (pv 0) pe_int (fun _ _ => rfl)) pa_nil)) (pv 1)))
      (pss_cons (ps_asg (pe_op op_fdivN (pe_ix ix_list (pv 0) pe_int (fun _ _ => rfl)) (pv 1)) (pg_sub (pv 0) pe_int set_list))
      (pss_one (ps_ret (pv 2))))) pss_nil)
    (pss_cons (ps_asg (pe_op op_add (pe_ix ix_list (pv 0) pe_int (fun _ _ => rfl)) pe_int) (pg_sub (pv 0) pe_int set_list))
    (pss_cons (ps_if (pt_cmpR op_gt (pe_ix ix_list (pv 0) pe_int (fun _ _ => rfl)) (pe_callB call_len_seq rfl B.len PySem.boot_len (pa_cons (pe_ix ix_list (pv 0) pe_int (fun _ _ => rfl)) pa_nil)) (nomark _))
      (pss_cons (ps_asg (pe_op op_mod (pe_callTy call_int1 (by rfl) B.int (by decide +kernel) (pa_cons (pe_op op_add (pe_op op_mul (pe_ix ix_list (pv 0) pe_int (fun _ _ => rfl)) pe_int) pe_int) pa_nil)) pe_int) (pg_sub (pv 0) pe_int set_list))
      (pss_one (ps_ret (pe_op op_mod (pe_callTy call_int1 (by rfl) B.int (by decide +kernel) (pa_cons (pe_op op_fdivN (pe_ix ix_list (pv 0) pe_int (fun _ _ => rfl)) pe_int) pa_nil)) (pv 1))))) pss_nil)
    (pss_cons (ps_set (i := 3) scTaken.nd rfl (Or.inl rfl) (pe_ix ix_list (pe_ix ix_list (pv 0) pe_int (fun _ _ => rfl)) (pe_op op_sub (pe_ix ix_list (pv 0) pe_int (fun _ _ => rfl)) pe_int) (fun _ _ => rfl)))
    (pss_cons (ps_asg (pe_op op_mod (pe_callTy call_int1 (by rfl) B.int (by decide +kernel) (pa_cons (pe_op op_add (pe_op op_add (pe_op op_mul (pe_ix ix_list (pv 0) pe_int (fun _ _ => rfl)) pe_int) (pv 3)) pe_int) pa_nil)) pe_int) (pg_sub (pv 0) pe_int set_list))
    (pss_cons (ps_if (pt_cmpR op_ge (pv 3) (pe_op op_pow pe_int pe_int) (nomark _)) (pss_one (ps_asg (pe_op op_fdivN (pv 3) (pv 1)) (pg_sub (pv 0) pe_int set_list))) pss_nil)
    (pss_one (ps_ret (pe_op op_mod (pe_callTy call_int1 (by rfl) B.int (by decide +kernel) (pa_cons (pv 3) pa_nil)) (pv 1))))))))), ?_⟩
  -- row[3] > 0
  refine ⟨_, rfl, r, _, 3, .int x, rfl, rfl, SqL.of hrow, rfl, _, _, rfl, rfl, _, rfl, ?_⟩
  have mpos : (0 : Int) < m := by omega
  refine ite2 (fun c => ?_) (fun c => ?_)
  · -- found = int(row[3]) % many; row[3] = row[3] // many; return found
    refine ⟨_, rfl, r, _, 3, .int x, rfl, rfl, SqL.of hrow, rfl, .inl ⟨x, rfl, ?_⟩⟩
    refine ⟨_, rfl, _, _, rfl, rfl, mpos, ?_⟩
    refine ⟨_, rfl, r, _, 3, .int x, rfl, rfl, SqL.of hrow, rfl, _, rfl, _, _, rfl, rfl, ⟨by omega, by omega⟩, ?_⟩
    refine ⟨_, rfl, r, _, 3, 3, rfl, rfl, hrow, rfl, ?_⟩
    refine ⟨_, rfl, ?_⟩
    refine hq (x % m) _ (Int.emod_nonneg _ (by omega)) (Int.emod_lt_of_pos _ mpos) (.set hrow rfl List.mem_cons_self) ⟨p, h, x.fdiv m, upd_same, hp, hh, hh2, ?_⟩ (hT0.set hrow fun _ z => nomatch z)
    rw [Int.fdiv_eq_ediv_of_nonneg _ (by omega)]
    exact Int.ediv_nonneg hx (by omega)
  -- row[1] = row[1] + 1
  refine ⟨_, rfl, r, _, 1, .int p, rfl, rfl, SqL.of hrow, rfl, _, _, rfl, rfl, ?_⟩
  refine ⟨_, rfl, r, _, 1, 1, rfl, rfl, hrow, rfl, ?_⟩
  have h1 : upd H r (.lst [.ref a, .int (p + 1), .int h, .int x]) r = some (.lst [.ref a, .int (p + 1), .int h, .int x]) := upd_same
  have e1 : Ext [r] H (upd H r (.lst [.ref a, .int (p + 1), .int h, .int x])) := .set hrow rfl List.mem_cons_self
  have t1 : Tabs T (upd H r (.lst [.ref a, .int (p + 1), .int h, .int x])) := hT0.set hrow fun _ z => nomatch z
  have hs1 : SqL K (upd H r (.lst [.ref a, .int (p + 1), .int h, .int x])) a (ns.map V.int) := e1.sqL hs (by simpa using har)
  show tSeq _ _ _ _ (upd H r (.lst [.ref a, .int (p + 1), .int h, .int x]))
  generalize upd H r (.lst [.ref a, .int (p + 1), .int h, .int x]) = H1 at h1 e1 t1 hs1 ⊢
  -- row[1] > len(row[0])
  refine ⟨_, rfl, r, _, 1, .int (p + 1), rfl, rfl, SqL.of h1, rfl, _, rfl, r, _, 0, .ref a, rfl, rfl, SqL.of h1, rfl, a, _, rfl, .inl hs1, _, _, rfl, rfl, _, rfl, ?_⟩
  rw [List.length_map]
  refine ite2 (fun c2 => ?_) (fun c2 => ?_)
  · refine ⟨_, rfl, r, _, 2, .int h, rfl, rfl, SqL.of h1, rfl, _, _, rfl, rfl, .inr ⟨by decide, by decide⟩, _, _, rfl, rfl, .inl ⟨_, rfl, _, _, rfl, rfl, (by show (0 : Int) < 2147483647; decide), ?_⟩⟩
    refine ⟨_, rfl, r, _, 2, 2, rfl, rfl, h1, rfl, ?_⟩
    have h2 : upd H1 r (.lst [.ref a, .int (p + 1), .int ((h * 48271 + 11) % 2147483647), .int x]) r = some (.lst [.ref a, .int (p + 1), .int ((h * 48271 + 11) % 2147483647), .int x]) := upd_same
    refine ⟨_, rfl, r, _, 2, .int ((h * 48271 + 11) % 2147483647), rfl, rfl, SqL.of h2, rfl, _, _, rfl, rfl, ⟨by decide, by decide⟩, .inl ⟨_, rfl, _, rfl, _, _, rfl, rfl, mpos, ?_⟩⟩
    refine hq _ _ (Int.emod_nonneg _ (by omega)) (Int.emod_lt_of_pos _ mpos) (e1.trans (.set h1 rfl List.mem_cons_self)) ⟨p + 1, (h * 48271 + 11) % 2147483647, x, upd_same, by omega, by omega, by omega, hx⟩ (t1.set h1 fun _ z => nomatch z)
  -- cell = row[0][row[1] - 1]
  have c2' : ¬ ((ns.length : Nat) : Int) < p + 1 := by simpa using c2
  have hj : p.toNat < ns.length := by omega
  have hcell : (ns.map V.int)[p.toNat]? = some (.int (ns[p.toNat])) := by rw [List.getElem?_map, List.getElem?_eq_getElem hj]; rfl
  have ep : p + 1 - 1 = ((p.toNat : Nat) : Int) := by omega
  refine ⟨_, rfl, r, _, 0, .ref a, rfl, rfl, SqL.of h1, rfl, _, rfl, r, _, 1, .int (p + 1), rfl, rfl, SqL.of h1, rfl, _, _, rfl, rfl, a, _, _, _, rfl, rfl, hs1, by rw [ep]; exact atI_nat hcell, ?_⟩
  generalize ns[p.toNat] = cell at hcell ⊢
  -- row[2] = int(row[2] * 48271 + cell + 11) % 2147483647
  refine ⟨_, rfl, r, _, 2, .int h, rfl, rfl, SqL.of h1, rfl, _, _, rfl, rfl, .inr ⟨by decide, by decide⟩, _, rfl, _, _, rfl, rfl, _, _, rfl, rfl, .inl ⟨_, rfl, _, _, rfl, rfl, (by show (0 : Int) < 2147483647; decide), ?_⟩⟩
  refine ⟨_, rfl, r, _, 2, 2, rfl, rfl, h1, rfl, ?_⟩
  have g0 : 0 ≤ (h * 48271 + cell + 11) % 2147483647 := Int.emod_nonneg _ (by decide)
  have g1 : (h * 48271 + cell + 11) % 2147483647 < 2147483647 := Int.emod_lt_of_pos _ (by decide)
  show tSeq _ _ _ _ (upd H1 r (.lst [.ref a, .int (p + 1), .int ((h * 48271 + cell + 11) % 2147483647), .int x]))
  generalize (h * 48271 + cell + 11) % 2147483647 = h' at g0 g1 ⊢
  have h2 : upd H1 r (.lst [.ref a, .int (p + 1), .int h', .int x]) r = some (.lst [.ref a, .int (p + 1), .int h', .int x]) := upd_same
  have e2 : Ext [r] H (upd H1 r (.lst [.ref a, .int (p + 1), .int h', .int x])) := e1.trans (.set h1 rfl List.mem_cons_self)
  have t2 : Tabs T (upd H1 r (.lst [.ref a, .int (p + 1), .int h', .int x])) := t1.set h1 fun _ z => nomatch z
  generalize upd H1 r (.lst [.ref a, .int (p + 1), .int h', .int x]) = H2 at h2 e2 t2 ⊢
  -- if cell >= 10 ** 18: row[3] = cell // many
  refine ⟨_, rfl, _, _, rfl, rfl, ⟨by decide, by decide, by decide⟩, _, _, rfl, rfl, _, rfl, ?_⟩
  refine ite2 (fun c3 => ?_) (fun c3 => ?_)
  · have c3' : (10 : Int) ^ 18 ≤ cell := by simpa using c3
    have c4 : (0 : Int) ≤ cell := Int.le_trans (by decide) c3'
    refine ⟨_, rfl, _, rfl, _, _, rfl, rfl, ⟨by omega, by omega⟩, ?_⟩
    refine ⟨_, rfl, r, _, 3, 3, rfl, rfl, h2, rfl, ?_⟩
    refine ⟨_, rfl, .inl ⟨_, rfl, _, rfl, _, _, rfl, rfl, mpos, ?_⟩⟩
    refine hq _ _ (Int.emod_nonneg _ (by omega)) (Int.emod_lt_of_pos _ mpos) (e2.trans (.set h2 rfl List.mem_cons_self)) ⟨p + 1, h', cell.fdiv m, upd_same, by omega, g0, g1, ?_⟩ (t2.set h2 fun _ z => nomatch z)
    rw [Int.fdiv_eq_ediv_of_nonneg _ (by omega)]
    exact Int.ediv_nonneg c4 (by omega)
  · refine ⟨_, rfl, .inl ⟨_, rfl, _, rfl, _, _, rfl, rfl, mpos, ?_⟩⟩
    exact hq _ _ (Int.emod_nonneg _ (by omega)) (Int.emod_lt_of_pos _ mpos) e2 ⟨p + 1, h', x, h2, by omega, g0, g1, hx⟩ t2
end
end SB
/-! KOrder -/
set_option Elab.async false
set_option linter.all false
set_option maxRecDepth 100000
set_option maxHeartbeats 4000000
namespace SB
open PySem PySem.Spec PyProof.Rows L2
abbrev sOrder : Stmt := top 37
theorem cut_take {xs : List V} {k : Nat} (h1 : k ≤ xs.length) : cutV xs none (some (k : Int)) = xs.take k := by
  unfold cutV
  rw [HT.sIx_none, HT.sIx_nat, List.drop_zero, Nat.sub_zero, Nat.min_eq_left h1]
theorem cut_drop {xs : List V} {k : Nat} (h1 : k ≤ xs.length) : cutV xs (some (k : Int)) none = xs.drop k := by
  unfold cutV
  rw [HT.sIx_none, HT.sIx_nat, Nat.min_eq_left h1, List.take_of_length_le]
  rw [List.length_drop]
  exact Nat.le_refl _
theorem two_of (k : Nat) : ((k : Int) + 1) = ((k + 1 : Nat) : Int) := by omega
/-- an order of 0 .. n - 1 -/
def OrdOf (n : Nat) (o : List Int) : Prop := o.Perm ((List.range n).map fun (k : Nat) => (k : Int))
theorem rg_map (n : Nat) : rgV 0 (n : Int) = ((List.range n).map fun (k : Nat) => (k : Int)).map V.int := by
  unfold rgV
  rw [List.map_map]
  have e : (((n : Int)) - 0).toNat = n := by omega
  rw [e]
  refine List.map_congr_left fun k _ => ?_
  show V.int (0 + (k : Int)) = V.int (k : Int)
  rw [Int.zero_add]
def spOrder (K : PySem.W.Frag) (T : List Addr) : Sp := fun vs H Q _ => ∃ (r a : Addr) (ns : List Int) (n : Nat), vs = [.ref r, .int n] ∧ n ≤ 1000 ∧ RowAt H r a ∧ SqL K H a (ns.map V.int) ∧ a ≠ r ∧ Tabs T H ∧
  ∀ (o : List Int) (l : Addr) H', OrdOf n o → Ext [r] H H' → RowAt H' r a → Tabs T H' → H l = none → l ≠ r → H' l = some (.lst (o.map V.int)) → Q (.ref l) H'
section
variable {P : Program} {w : World} {K : PySem.W.Frag} {mg : Str → Option Value} {base : Heap} {T : List Addr}
theorem RowAt.lst {H : Hp} {r a : Addr} (R : RowAt H r a) : ∃ xs, H r = some (.lst xs) := by obtain ⟨p, h, x, e, _⟩ := R; exact ⟨_, e⟩
theorem RowAt.ne {H : Hp} {r a p : Addr} (R : RowAt H r a) (h : H p = none) : p ≠ r := by
  obtain ⟨xs, e⟩ := R.lst
  exact fun z => ne_of_none e h z.symm
theorem RowAt.keep {H : Hp} {r a p : Addr} {o : HO} (R : RowAt H r a) (h : p ≠ r) : RowAt (upd H p o) r a := by
  obtain ⟨p', h', x, e, q⟩ := R
  exact ⟨p', h', x, by rw [upd_ne (Ne.symm h)]; exact e, q⟩
theorem RowAt.ext {H H' : Hp} {r a : Addr} {M : List Addr} (R : RowAt H r a) (e : Ext M H H') (h : r ∉ M) : RowAt H' r a := by
  obtain ⟨p', h', x, e', q⟩ := R
  exact ⟨p', h', x, e.lst e' h, q⟩
theorem scOrder : FnScope ["row", "many", "left", "found", "turn", "at"] ["row", "many"] (defScope sOrder) := ⟨rfl, rfl, rfl, by decide +kernel, rfl, by decide +kernel, by decide +kernel⟩
theorem ok_order {f fT : Addr} {fd fdT : FuncData} (F : FnP K "_law_order" sOrder f fd) (Tk : At P w K mg base CX0 1 "_law_taken" ["row", "many"] (spTaken K T) fT fdT) (B : Blt mg) : FnOk P w K mg base CX0 2 f fd ["row", "many"] (spOrder K T) := by
  refine okN F scOrder (fun vs H Q E h => ?_) (fun A outer s H vs Q E hr h => ?_)
  · obtain ⟨r, a, ns, n, rfl, _⟩ := h
    rfl
  obtain ⟨r, a, ns, n, rfl, hn, hrow, hs, har, hT0, hq⟩ := h
  refine ⟨_, pss_cons (ps_par (i := 2) (j := 3) rfl scOrder.nd rfl rfl (by decide) rfl rfl (pa_cons (pe_listRg rfl (by rfl) B.list (prg_1 (by rfl) B.range (pv 1))) (pa_cons (pe_lst pa_nil) pa_nil)) (by rfl))
    (pss_cons (ps_for PassesOwn.never rfl (pi_range1 (by rfl) B.range (pa_cons (pv 1) pa_nil)) (pg_name (i := 4) scOrder.nd rfl (.inl rfl))
      (pss_cons (ps_set (i := 5) scOrder.nd rfl (Or.inl rfl) (pe_call Tk.ok hr rfl Tk.mg_ Tk.kp Tk.bd .nil pass0 (pa_cons (pv 0) (pa_cons (pe_callB call_len_seq rfl B.len PySem.boot_len (pa_cons (pv 2) pa_nil)) pa_nil))))
      (pss_cons (ps_expr (pe_bm PySem.F.plainAttrs_list PySem.F.slot_list_append PySem.F.type_list_append mt_append (pv 3) (pa_cons (pe_ix ix_list (pv 2) (pv 5) (fun _ _ => rfl)) pa_nil)))
      (pss_one (ps_set (i := 2) scOrder.nd rfl (Or.inl rfl) (pe_op op_cat (pe_slice sl_list (pv 2) po_none (po_some (pv 5))) (pe_slice sl_list (pv 2) (po_some (pe_op op_add (pv 5) pe_int)) po_none)))))))
    (pss_one (ps_ret (pv 3)))), ?_⟩
  have rg : RgOk 0 (n : Int) := ⟨by omega, by omega, by omega, by omega, by omega⟩
  refine ⟨_, rfl, (n : Int), rfl, rg, fun l0 hl0 => ⟨by show 0 ≤ sizeLine; decide, fun g hg => ?_⟩⟩
  refine ⟨_, _, rfl, ?_⟩
  have nlg : l0 ≠ g := fun z => by rw [← z, upd_same] at hg; cases hg
  have hg0 : H g = none := by rw [upd_ne (Ne.symm nlg)] at hg; exact hg
  have ngr : g ≠ r := hrow.ne hg0
  have start_ : Ext [r] H (upd (upd H l0 (.lst (rgV 0 n))) g (.lst [])) := (Ext.new hl0).trans (.new hg)
  refine ⟨_, rfl, n, rfl, by omega, by omega, for_it (walk_range (lo := 0) (n := (n : Int).toNat)) (fun i σ H2 => ∃ (l : Addr) (L Fd : List Int) (p4 p5 : Option V),
      σ = [some (.ref r), some (.int n), some (.ref l), some (.ref g), p4, p5] ∧ Ext [r] H H2 ∧ RowAt H2 r a ∧ Tabs T H2 ∧ H2 l = some (.lst (L.map V.int)) ∧ H2 g = some (.lst (Fd.map V.int)) ∧ l ≠ g ∧ l ≠ r ∧
      OrdOf n (Fd ++ L) ∧ Fd.length = i)
    ⟨l0, (List.range n).map fun (k : Nat) => (k : Int), [], none, none, rfl, start_, (hrow.keep (hrow.ne hl0)).keep ngr, (hT0.new hl0).new hg, ?_, upd_same, nlg, hrow.ne hl0, List.Perm.refl _, rfl⟩ (fun _ _ _ _ _ => trivial) ?_ ?_⟩
  · rw [upd_ne nlg, upd_same, rg_map]
  · rintro i v σ H2 H3 hi ⟨l, L, Fd, p4, p5, rfl, e2, R2, t2, h1, h2, n1, n2, ho, hf⟩ ⟨rfl, rfl⟩
    have hlen : Fd.length + L.length = n := by
      have q := ho.length_eq
      rw [List.length_append, List.length_map, List.length_range] at q
      exact q
    have hi' : i < n := by omega
    -- at = _law_taken(row, len(left))
    refine ⟨_, rfl, _, rfl, l, _, rfl, .inl (SqL.of h1), ?_⟩
    rw [List.length_map]
    refine ⟨r, a, ns, (L.length : Int), rfl, by omega, by omega, R2, e2.sqL hs (by simpa using har), har, t2, fun x H4 x0 x1 e4 R4 t4 => ?_⟩
    obtain ⟨k, rfl⟩ : ∃ k : Nat, x = (k : Int) := ⟨x.toNat, by omega⟩
    have hk : k < L.length := by omega
    have h1' : H4 l = some (.lst (L.map V.int)) := e4.lst h1 (by simpa using n2)
    have h2' : H4 g = some (.lst (Fd.map V.int)) := e4.lst h2 (by simpa using ngr)
    -- found.append(left[at])
    refine ⟨_, rfl, .inl ⟨rfl, _, SqL.of h2'⟩, _, rfl, _, rfl, l, _, _, .int L[k], rfl, rfl, SqL.of h1', atI_nat (by rw [List.getElem?_map, List.getElem?_eq_getElem hk]; rfl), g, _, _, rfl, rfl, h2', ?_, ?_⟩
    · rw [List.length_map]
      exact Nat.lt_of_lt_of_le (show Fd.length < 1000 by omega) (by rw [sizeLine_eq]; decide)
    have e5 : Ext [r] H (upd H4 g (.lst (Fd.map V.int ++ [.int L[k]]))) := by
      have q : Ext (g :: [r]) H (upd H4 g (.lst (Fd.map V.int ++ [.int L[k]]))) := ((e2.trans e4).mono fun b hb => List.mem_cons_of_mem _ hb).trans (.set h2' rfl List.mem_cons_self)
      exact q.drop hg0
    have R5 : RowAt (upd H4 g (.lst (Fd.map V.int ++ [.int L[k]]))) r a := R4.keep ngr
    have t5 : Tabs T (upd H4 g (.lst (Fd.map V.int ++ [.int L[k]]))) := t4.set h2' fun _ z => nomatch z
    have h1'' : upd H4 g (.lst (Fd.map V.int ++ [.int L[k]])) l = some (.lst (L.map V.int)) := by rw [upd_ne n1]; exact h1'
    have h2'' : upd H4 g (.lst (Fd.map V.int ++ [.int L[k]])) g = some (.lst ((Fd ++ [L[k]]).map V.int)) := by rw [upd_same, List.map_append]; rfl
    -- left = left[:at] + left[at + 1:]
    refine ⟨_, rfl, _, rfl, _, rfl, l, _, rfl, SqL.of h1'', fun p1 hp1 => ?_⟩
    rw [cut_take (by rw [List.length_map]; omega)]
    have np1 : l ≠ p1 := ne_of_none h1'' hp1
    have g1 := e5.trans (Ext.new (M := [r]) (o := .lst ((L.map V.int).take k)) hp1)
    refine ⟨_, rfl, _, rfl, _, _, rfl, rfl, _, rfl, l, _, rfl, SqL.of (by rw [upd_ne np1]; exact h1''), fun p2 hp2 => ?_⟩
    rw [two_of, cut_drop (by rw [List.length_map]; omega)]
    have np12 : p1 ≠ p2 := fun z => by rw [← z, upd_same] at hp2; cases hp2
    have g2 := g1.trans (Ext.new (M := [r]) (o := .lst ((L.map V.int).drop (k + 1))) hp2)
    refine ⟨p1, p2, _, _, rfl, rfl, by rw [upd_ne np12, upd_same], upd_same, ?_, fun p3 hp3 => ?_⟩
    · rw [List.length_take, List.length_drop, List.length_map]
      exact Nat.le_of_lt (Nat.lt_of_lt_of_le (show _ < 2000 by omega) (by rw [sizeLine_eq]; decide))
    have g3 := g2.trans (Ext.new (M := [r]) (o := .lst ((L.map V.int).take k ++ (L.map V.int).drop (k + 1))) hp3)
    have n3r : p3 ≠ r := by
      have R6 := (R5.keep (o := .lst ((L.map V.int).take k)) (R5.ne hp1)).keep (o := .lst ((L.map V.int).drop (k + 1))) ((R5.keep (o := .lst ((L.map V.int).take k)) (R5.ne hp1)).ne hp2)
      exact R6.ne hp3
    refine ⟨p3, L.take k ++ L.drop (k + 1), Fd ++ [L[k]], _, _, rfl, g3, R5.ext (M := []) (((Ext.new hp1).trans (.new hp2)).trans (.new hp3)) List.not_mem_nil, ((t5.new hp1).new hp2).new hp3, ?_, ?_, ?_, n3r, ?_, ?_⟩
    · rw [upd_same, List.map_append, List.map_take, List.map_drop]
    · have ng1 : g ≠ p1 := ne_of_none h2'' hp1
      have q1 := h2''
      have q2 : upd (upd H4 g (.lst (Fd.map V.int ++ [.int L[k]]))) p1 (.lst ((L.map V.int).take k)) g = some (.lst ((Fd ++ [L[k]]).map V.int)) := by rw [upd_ne ng1]; exact q1
      have ng2 := ne_of_none q2 hp2
      have q3 : upd (upd (upd H4 g (.lst (Fd.map V.int ++ [.int L[k]]))) p1 (.lst ((L.map V.int).take k))) p2 (.lst ((L.map V.int).drop (k + 1))) g = some (.lst ((Fd ++ [L[k]]).map V.int)) := by rw [upd_ne ng2]; exact q2
      rw [upd_ne (ne_of_none q3 hp3)]
      exact q3
    · intro z
      have ng1 : g ≠ p1 := ne_of_none h2'' hp1
      have q2 : upd (upd H4 g (.lst (Fd.map V.int ++ [.int L[k]]))) p1 (.lst ((L.map V.int).take k)) g = some (.lst ((Fd ++ [L[k]]).map V.int)) := by rw [upd_ne ng1]; exact h2''
      have ng2 := ne_of_none q2 hp2
      have q3 : upd (upd (upd H4 g (.lst (Fd.map V.int ++ [.int L[k]]))) p1 (.lst ((L.map V.int).take k))) p2 (.lst ((L.map V.int).drop (k + 1))) g = some (.lst ((Fd ++ [L[k]]).map V.int)) := by rw [upd_ne ng2]; exact q2
      exact ne_of_none q3 hp3 z.symm
    · have pe : (L[k] :: (L.take k ++ L.drop (k + 1))).Perm L := by
        have q : L.take k ++ L[k] :: L.drop (k + 1) = L := by rw [← List.drop_eq_getElem_cons hk, List.take_append_drop]
        have q2 : (L[k] :: (L.take k ++ L.drop (k + 1))).Perm (L.take k ++ L[k] :: L.drop (k + 1)) := List.perm_middle.symm
        rw [q] at q2
        exact q2
      refine List.Perm.trans ?_ ho
      rw [List.append_assoc]
      exact List.Perm.append_left Fd pe
    · rw [List.length_append, hf]; rfl
  · rintro σ H2 ⟨l, L, Fd, p4, p5, rfl, e2, R2, t2, h1, h2, n1, n2, ho, hf⟩
    have hlen : Fd.length + L.length = n := by
      have q := ho.length_eq
      rw [List.length_append, List.length_map, List.length_range] at q
      exact q
    have e : L = [] := List.eq_nil_of_length_eq_zero (by omega)
    rw [e, List.append_nil] at ho
    exact ⟨_, rfl, hq Fd g H2 ho e2 R2 t2 hg0 ngr h2⟩
end
end SB
/-! KLetters -/
set_option Elab.async false
set_option linter.all false
set_option maxRecDepth 100000
set_option maxHeartbeats 4000000
namespace SB
open PySem PySem.Spec PyProof.Rows L2
abbrev sLetters : Stmt := top 38
abbrev sPick : Stmt := top 41
theorem yes_of {σ : L2.St} {H : Hp} {f : Bool → Hp → Prop} (h : f true H) : tYes σ H f := h
/-- letters below n -/
def Lets (n : Int) (k : Side) : Prop := ∀ x ∈ k, 0 ≤ x ∧ x < n
def spLetters (K : PySem.W.Frag) (T : List Addr) : Sp := fun vs H Q _ => ∃ (r a : Addr) (ns : List Int) (m : Int) (n : Nat), vs = [.ref r, .int m, .int n] ∧ 1 ≤ m ∧ m < 1073741824 ∧ n ≤ 1000 ∧ RowAt H r a ∧ SqL K H a (ns.map V.int) ∧ a ≠ r ∧ Tabs T H ∧
  ∀ (k : Side) (v : V) H', k.length = n → Lets m k → Ext [r] H H' → RowAt H' r a → Tabs T H' → Dp K H' v (dSide k) → Q v H'
section
variable {P : Program} {w : World} {K : PySem.W.Frag} {mg : Str → Option Value} {base : Heap} {T : List Addr}
theorem scLetters : FnScope ["row", "many", "long", "k"] ["row", "many", "long"] (defScope sLetters) := ⟨rfl, rfl, rfl, by decide +kernel, rfl, by decide +kernel, by decide +kernel⟩
theorem ok_letters {f fT : Addr} {fd fdT : FuncData} (F : FnP K "_law_letters" sLetters f fd) (Tk : At P w K mg base CX0 1 "_law_taken" ["row", "many"] (spTaken K T) fT fdT) (B : Blt mg) : FnOk P w K mg base CX0 2 f fd ["row", "many", "long"] (spLetters K T) := by
  refine okN F scLetters (fun vs H Q E h => ?_) (fun A outer s H vs Q E hr h => ?_)
  · obtain ⟨r, a, ns, m, n, rfl, _⟩ := h
    rfl
  obtain ⟨r, a, ns, m, n, rfl, hm1, hm2, hn, hrow, hs, har, hT0, hq⟩ := h
  refine ⟨_, pss_one (ps_ret (pe_callTy call_tuple_of (by rfl) B.tuple boot_tuple (pa_cons
    (pe_lc (own := [("k", 3)]) (g := gName 3) (tt := tYes) rfl scLetters.nd (pi_range1 (by rfl) B.range (pa_cons (pv 2) pa_nil)) (blkOk_by (own := [("k", 3)]) (N := ["row", "many", "long", "k"]) (sc := defScope sLetters) (by decide +kernel))
      (fun _ _ _ _ _ => pg_name (i := 3) scLetters.nd rfl (Or.inl rfl)) (fun _ _ _ _ _ => pts_nil)
      (fun _ _ _ _ _ => pe_call Tk.ok hr rfl Tk.mg_ Tk.kp Tk.bd .nil pass0 (pa_cons (pv 0) (pa_cons (pv 1) pa_nil)))) pa_nil))), ?_⟩
  refine ⟨_, rfl, n, rfl, by omega, by omega, fun D hD => lc_it (walk_range (lo := 0) (n := (n : Int).toNat)) (fun i H2 => ∃ k : Side, H2 D = some (.lst (k.map V.int)) ∧ k.length = i ∧ Lets m k ∧ Ext [r] H H2 ∧ RowAt H2 r a ∧ Tabs T H2)
    ⟨[], upd_same, rfl, fun x hx => absurd hx List.not_mem_nil, .new hD, hrow.keep (hrow.ne hD), hT0.new hD⟩ (fun _ _ _ _ => trivial) ?_ ?_⟩
  · rintro i v H2 H3 hi ⟨k, h1, h2, h3, e2, R2, t2⟩ ⟨rfl, rfl⟩
    refine ⟨rfl, yes_of ?_⟩
    refine iteT ?_
    refine ⟨_, rfl, _, rfl, r, a, ns, m, rfl, hm1, hm2, R2, e2.sqL hs (by simpa using har), har, t2, fun x H4 x0 x1 e4 R4 t4 => ?_⟩
    have nDr := hrow.ne hD
    have h1' : H4 D = some (.lst (k.map V.int)) := e4.lst h1 (by simpa using nDr)
    refine ⟨_, h1', ?_, k ++ [x], ?_, ?_, ?_, ?_, R4.keep nDr, t4.set h1' fun _ z => nomatch z⟩
    · rw [List.length_map]
      exact Nat.lt_of_lt_of_le (show k.length < 2000 by omega) (by rw [sizeLine_eq]; decide)
    · rw [upd_same, List.map_append]; rfl
    · rw [List.length_append, h2]; rfl
    · intro y hy
      rcases List.mem_append.mp hy with hy | hy
      · exact h3 y hy
      · rw [List.mem_singleton.mp hy]; exact ⟨x0, x1⟩
    · have q : Ext (D :: [r]) H (upd H4 D (.lst (k.map V.int ++ [.int x]))) := ((e2.trans e4).mono fun b hb => List.mem_cons_of_mem _ hb).trans (.set h1' rfl List.mem_cons_self)
      exact q.drop hD
  · rintro H2 ⟨k, h1, h2, h3, e2, R2, t2⟩
    refine ⟨D, _, rfl, .inl ⟨SqL.of h1, fun l hl => ?_⟩⟩
    exact hq k (.ref l) _ (by omega) h3 (e2.trans (.new hl)) (R2.keep (R2.ne hl)) (t2.new hl) (dp_side.mpr ⟨l, rfl, SqT.of upd_same⟩)
theorem scPick : FnScope ["row", "things"] ["row", "things"] (defScope sPick) := ⟨rfl, rfl, rfl, by decide +kernel, rfl, by decide +kernel, by decide +kernel⟩
/-- one of some things -/
def spPick (K : PySem.W.Frag) (T : List Addr) : Sp := fun vs H Q _ => ∃ (r a b : Addr) (ns : List Int) (xs : List V), vs = [.ref r, .ref b] ∧ SqL K H b xs ∧ b ≠ r ∧ 1 ≤ xs.length ∧ xs.length ≤ 1000 ∧ RowAt H r a ∧ SqL K H a (ns.map V.int) ∧ a ≠ r ∧ Tabs T H ∧
  ∀ (x : V) H', x ∈ xs → Ext [r] H H' → RowAt H' r a → Tabs T H' → Q x H'
theorem ok_pick {f fT : Addr} {fd fdT : FuncData} (F : FnP K "_law_pick" sPick f fd) (Tk : At P w K mg base CX0 1 "_law_taken" ["row", "many"] (spTaken K T) fT fdT) (B : Blt mg) : FnOk P w K mg base CX0 2 f fd ["row", "things"] (spPick K T) := by
  refine okN F scPick (fun vs H Q E h => ?_) (fun A outer s H vs Q E hr h => ?_)
  · obtain ⟨r, a, b, ns, xs, rfl, _⟩ := h
    rfl
  obtain ⟨r, a, b, ns, xs, rfl, hb, hbr, hx1, hx2, hrow, hs, har, hT0, hq⟩ := h
  refine ⟨_, pss_one (ps_ret (pe_ix ix_list (pv 1) (pe_call Tk.ok hr rfl Tk.mg_ Tk.kp Tk.bd .nil pass0 (pa_cons (pv 0) (pa_cons (pe_callB call_len_seq rfl B.len PySem.boot_len (pa_cons (pv 1) pa_nil)) pa_nil))) (fun _ _ => rfl))), ?_⟩
  refine ⟨_, rfl, _, rfl, _, rfl, b, _, rfl, .inl hb, r, a, ns, _, rfl, by omega, by omega, hrow, hs, har, hT0, fun x H1 x0 x1 e1 R1 t1 => ?_⟩
  obtain ⟨k, rfl⟩ : ∃ k : Nat, x = (k : Int) := ⟨x.toNat, by omega⟩
  have hk : k < xs.length := by omega
  exact ⟨b, xs, _, xs[k], rfl, rfl, e1.sqL hb (by simpa using hbr), atI_nat (List.getElem?_eq_getElem hk), hq _ H1 (List.getElem_mem hk) e1 R1 t1⟩
end
end SB
/-! KSide -/
set_option Elab.async false
set_option linter.all false
set_option maxRecDepth 100000
set_option maxHeartbeats 2000000
/-! what is done with sides: slices, sums of two, orders -/
namespace SB
open PySem PySem.Spec PyProof.Rows L2
/-- a heap that grew: all stands but what can change at M -/
structure Gw (M : List Addr) (H H' : Hp) : Prop where
  ext : Ext M H H'
  tab : ∀ T, Tabs T H → Tabs T H'
section
variable {M M' : List Addr} {H H' H'' : Hp} {p : Addr} {o : HO}
theorem Gw.refl : Gw M H H := ⟨.refl, fun _ t => t⟩
theorem Gw.trans (a : Gw M H H') (b : Gw M H' H'') : Gw M H H'' := ⟨a.ext.trans b.ext, fun T t => b.tab T (a.tab T t)⟩
theorem Gw.new (e : H p = none) : Gw M H (upd H p o) := ⟨.new e, fun _ t => t.new e⟩
theorem Gw.more (a : Gw [] H H') : Gw M H H' := ⟨a.ext.more, a.tab⟩
theorem Gw.mono (a : Gw M H H') (k : ∀ b ∈ M, b ∈ M') : Gw M' H H' := ⟨a.ext.mono k, a.tab⟩
theorem Gw.drop (a : Gw (p :: M) H H') (e : H p = none) : Gw M H H' := ⟨a.ext.drop e, a.tab⟩
theorem Gw.set {u : HO} (e : H p = some u) (m : mutK u = true) (hp : p ∈ M) : Gw M H (upd H p o) := ⟨.set e m hp, fun _ t => t.set e fun ps z => by rw [z] at m; cases m⟩
end
def cutI (k : List Int) (lo hi : Option Int) : List Int := (k.drop (HT.sIx k.length 0 lo)).take (HT.sIx k.length k.length hi - HT.sIx k.length 0 lo)
theorem cutV_ints (k : List Int) (lo hi : Option Int) : cutV (k.map V.int) lo hi = (cutI k lo hi).map V.int := by
  unfold cutV cutI
  rw [List.length_map, List.map_take, List.map_drop]
section
variable {X : Cx}
/-- s[lo:hi] of a side -/
def rSlS (K : PySem.W.Frag) : V → Option Int → Option Int → Hp → VK → Prop := fun x lo hi H Q => ∃ k : Side, Dp K H x (dSide k) ∧ ∀ v H', Gw [] H H' → Dp K H' v (dSide (cutI k lo hi)) → Q v H'
theorem sl_side : SlR X (rSlS X.K) := by
  intro pins s σ H x v vl vu lo hi sl Q I rx hs pl pu h
  obtain ⟨k, hx, q⟩ := h
  obtain ⟨a, rfl, ha⟩ := dp_side.mp hx
  refine sl_tupA pins s σ H _ v vl vu lo hi sl Q I rx hs pl pu ⟨a, _, rfl, ha, fun hw => q _ H .refl (dp_side.mpr ⟨a, rfl, ?_⟩), fun _ p hp => q _ _ (.new hp) (dp_side.mpr ⟨p, rfl, SqT.of ?_⟩)⟩
  · have e : cutV (k.map V.int) lo hi = k.map V.int := by
      unfold cutV
      rw [hw.1, hw.2, List.drop_zero, Nat.sub_zero, List.take_length]
    rw [← cutV_ints, e]
    exact ha
  · rw [upd_same, cutV_ints]
/-- s + t of sides -/
def rCatS (K : PySem.W.Frag) : R2 := fun x y H Q => ∃ k m : Side, Dp K H x (dSide k) ∧ Dp K H y (dSide m) ∧ k.length + m.length ≤ 1000 ∧ ∀ v H', Gw [] H H' → Dp K H' v (dSide (k ++ m)) → Q v H'
theorem op_catS : OpR X (binaryOp .Add) (rCatS X.K) := by
  intro pins s σ H x y v u Q I rx ry h
  obtain ⟨k, m, hx, hy, hz, q⟩ := h
  obtain ⟨a, rfl, ha⟩ := dp_side.mp hx
  obtain ⟨b, rfl, hb⟩ := dp_side.mp hy
  refine op_catA pins s σ H _ _ v u Q I rx ry ⟨a, b, _, _, rfl, rfl, ha, hb, ?_, fun z => q _ H .refl ?_, fun _ z => q _ H .refl ?_, fun _ _ p hp => q _ _ (.new hp) (dp_side.mpr ⟨p, rfl, SqT.of ?_⟩)⟩
  · rw [List.length_map, List.length_map, sizeLine_eq]; omega
  · rw [List.map_eq_nil_iff.mp z, List.nil_append]; exact hy
  · rw [List.map_eq_nil_iff.mp z, List.append_nil]; exact hx
  · rw [upd_same, List.map_append]
/-- s > t of sides: some answer -/
def rGtS (K : PySem.W.Frag) : R2 := fun x y H Q => ∃ k m : Side, Dp K H x (dSide k) ∧ Dp K H y (dSide m) ∧ ∀ b, Q (.bl b) H
theorem op_gtS (hu : X.A.units + 3 < cLine) : OpR X (compareOp .Gt) (rGtS X.K) := by
  intro pins s σ H x y v u Q I rx ry h
  obtain ⟨k, m, hx, hy, q⟩ := h
  obtain ⟨a, its, rfl, ha, h1⟩ := side_at I hx rx
  obtain ⟨b, its', rfl, hb, h2⟩ := side_at I hy ry
  have R := Ob.RcOp.tuples_gt (A := X.A) (s := s) (e := fun j => decide (k.getD j 0 = m.getD j 0)) (r := fun j => decide (m.getD j 0 < k.getD j 0)) ha hb (by omega)
    (fun j q1 q2 => eqAt_ints h1 h2 j q1 q2) (fun j q1 q2 _ => by
      obtain ⟨t, et⟩ := int_item h1 j q1
      obtain ⟨t', et'⟩ := int_item h2 j q2
      rw [et, et']
      exact Ob.RcOp.gt_int _ _ _ _)
  exact R X.prog X.w X.xe (EP X pins σ Q) ⟨.bl _, H, I, rfl, q _⟩
/-- s != t of sides -/
def rNeS (K : PySem.W.Frag) : R2 := fun x y H Q => ∃ k m : Side, Dp K H x (dSide k) ∧ Dp K H y (dSide m) ∧ Q (.bl (decide (k ≠ m))) H
theorem op_neS (hu : X.A.units + 64 < cLine) : OpR X (compareOp .NotEq) (rNeS X.K) := by
  intro pins s σ H x y v u Q I rx ry h
  obtain ⟨k, m, hx, hy, q⟩ := h
  refine op_neD hu pins s σ H x y v u Q I rx ry ⟨dSide k, dSide m, hx, hy, shaped_side k, shaped_side m, ?_⟩
  have e : (!PyData.eqv (dSide k) (dSide m)) = decide (k ≠ m) := by rw [eqv_side]; by_cases c : k = m <;> simp [c]
  rw [e]
  exact q
theorem op_eqS (hu : X.A.units + 64 < cLine) : OpR X (compareOp .Eq) (fun x y H Q => ∃ k m : Side, Dp X.K H x (dSide k) ∧ Dp X.K H y (dSide m) ∧ Q (.bl (decide (k = m))) H) := by
  intro pins s σ H x y v u Q I rx ry h
  obtain ⟨k, m, hx, hy, q⟩ := h
  refine op_eqD hu pins s σ H x y v u Q I rx ry ⟨dSide k, dSide m, hx, hy, shaped_side k, shaped_side m, ?_⟩
  rw [eqv_side]
  exact q
end
end SB
/-! KRSide -/
set_option Elab.async false
set_option linter.all false
set_option maxRecDepth 100000
set_option maxHeartbeats 4000000
namespace SB
open PySem PySem.Spec PyProof.Rows L2
abbrev sRSide : Stmt := top 34
abbrev sIsOrder : Stmt := top 33
theorem Gw.tabbed {M : List Addr} {H H' : Hp} {P : Addr} (t : GxR.TabG H P) (h : GxR.Tabbed P H H') : Gw M H H' := ⟨.tabbed t h, fun _ tt => tt.tabbed h⟩
/-- the letter order[k] for each letter k -/
def mapS (o : List Int) (k : Side) : Side := k.map fun x => o.getD x.toNat 0
def spRSide (K : PySem.W.Frag) (T : List Addr) : Sp := fun vs H Q _ => ∃ (v : V) (k : Side) (oa : Addr) (o : List Int), vs = [v, .ref oa] ∧ Dp K H v (dSide k) ∧ SqT K H oa (o.map V.int) ∧ Lets o.length k ∧ Tabs T H ∧ ∀ v H', Gw [] H H' → Dp K H' v (dSide (mapS o k)) → Q v H'
def spIsOrder (K : PySem.W.Frag) (T : List Addr) : Sp := fun vs H Q _ => ∃ (oa : Addr) (n : Nat) (o : List Int), vs = [.ref oa, .int (n : Int)] ∧ SqT K H oa (o.map V.int) ∧ OrdOf n o ∧ n ≤ 50 ∧ Tabs T H ∧ ∀ H', Gw [] H H' → Q (.bl true) H'
section
variable {P : Program} {w : World} {K : PySem.W.Frag} {mg : Str → Option Value} {base : Heap} {T : List Addr}
theorem ntb {H : Hp} {tb : Addr} (t : GxR.TabG H tb) : ∀ b, H b = none → b ≠ tb := fun b e z => by
  obtain ⟨ps, e1, _⟩ := t
  rw [z, e1] at e
  cases e
theorem scRSide : FnScope ["side", "order"] ["side", "order"] (defScope sRSide) := ⟨rfl, rfl, rfl, by decide +kernel, rfl, by decide +kernel, by decide +kernel⟩
theorem ok_rside {f c tb : Addr} {fd : FuncData} (F : FnP K "renamed_side" sRSide f fd) (B : Blt mg) (hc : fd.code = .ref c) (TB : GxR.TabB base mg c tb) (hT : tb ∈ T) : FnOk P w K mg base CX0 4 f fd ["side", "order"] (spRSide K T) := by
  refine okC F scRSide (fun vs H Q E h => ?_) (fun A outer s H vs Q E hr h => ?_)
  · obtain ⟨v, k, oa, o, rfl, _⟩ := h
    rfl
  obtain ⟨v, k, oa, o, rfl, hv, ho, hlet, hT0, hq⟩ := h
  obtain ⟨a, rfl, hs⟩ := dp_side.mp hv
  refine ⟨_, pss_one (ps_ret (pe_tupB hr rfl B.tuple TB hc ?hS (pv 0) ?hfold (by decide +kernel))), ?_⟩
  case hS => exact ⟨rfl, rfl, by decide +kernel, by decide +kernel, by decide +kernel, free_of (by rfl)⟩
  case hfold => intro v; rfl
  refine ⟨_, rfl, a, k.map V.int, (mapS o k).map V.int, rfl, hs, by unfold mapS; rw [List.length_map, List.length_map, List.length_map], hT0 tb hT, ?_, fun H2 t2 t ht => ?_⟩
  case refine_2 =>
    have g2 : Gw [] H H2 := .tabbed (hT0 tb hT) t2
    exact hq _ _ (g2.trans (.new ht)) (dp_side.mpr ⟨t, rfl, SqT.of upd_same⟩)
  intro pins s1 its I rv L code A' E' i v s₂ m₂ hA hd hu hv hn hm hk
  have nt := ntb (hT0 tb hT)
  obtain ⟨x, t, hx, rfl⟩ : ∃ x t, k[i]? = some x ∧ v = .int x t := by
    have q := rv.length
    rw [List.length_map] at q
    have hi : i < its.length := (List.getElem?_eq_some_iff.mp hv).1
    have e : (k.map V.int)[i]? = some (V.int (k[i]'(by omega))) := by rw [List.getElem?_map, List.getElem?_eq_getElem (by omega)]; rfl
    obtain ⟨u, e1, t, e2⟩ := rv.get e
    rw [hv] at e1
    cases e1
    exact ⟨_, t, List.getElem?_eq_getElem (by omega), e2⟩
  have hxl := hlet x (List.mem_of_getElem? hx)
  obtain ⟨m, hns, hloc⟩ := I.loc
  obtain ⟨u, t2, hlook⟩ := hloc 1 "order" (.ref oa) rfl rfl (.inr (.inl rfl))
  obtain rfl : u = Value.ref oa := t2
  rcases hlook with ⟨z, _⟩ | ⟨_, cc, hcc, hcell⟩
  · exact nomatch (show some NameKind.cell = some NameKind.local from z)
  have hcell2 : s₂.heap.IsCell cc (some (.ref oa)) := by
    obtain ⟨o', e, r⟩ := hcell
    exact ⟨o', hk cc o' (nt cc (I.freeC _ _ hcc)) e, r⟩
  obtain ⟨oits, orv, oT, hz⟩ := I.tuple ho
  have oT2 : s₂.heap.IsTuple oa oits.toArray := by
    obtain ⟨o', e, r⟩ := oT
    have ne : oa ≠ tb := by
      intro z
      obtain ⟨ps, e1, _⟩ := hT0 tb hT
      have hp := I.hok tb _ e1
      rw [z] at e
      have e2 : s1.heap.get? tb = some { cls := .none, data := .fields ps } := hp
      rw [e2] at e
      cases e
      exact nomatch r.1
    exact ⟨o', hk oa o' ne e, r⟩
  have hj : x.toNat < o.length := by omega
  obtain ⟨w', ew, rw'⟩ := orv.get (i := x.toNat) (x := V.int (o.getD x.toNat 0)) (by rw [List.getElem?_map, List.getElem?_eq_getElem hj, List.getD_eq_getElem?_getD, List.getElem?_eq_getElem hj]; rfl)
  have osz : oits.length = o.length := by rw [← orv.length, List.length_map]
  refine Subscript_ (wpAny_Name (wpAny_loadName_free (c := cc) rfl rfl ?_ hcell2 ?_ (by decide)) (by decide))
  · have q : some (s.heap.objs.size + 1) = some cc := hcc
    cases q
    rfl
  refine wpAny_Name (wpAny_loadName_local rfl rfl hn hm ?_) (by decide)
  have hn63 := line63
  rw [List.length_map] at hz
  refine subscriptTail_builtinR (x := w') oT2.typeIs slot_tuple_getitem.lookup (getItem_tuple (j := x.toNat) oT2 (by omega) (by omega) ?_ (by simpa using ew) ⟨rfl, ⟨_, ?_, rw'⟩, GxR.keeps_refl _⟩) (by first | rfl | with_unfolding_all rfl)
  · rw [List.size_toArray, osz]
    have q : ixN o.length x = some x.toNat := by
      unfold ixN
      rw [if_pos hxl.1, if_pos hxl.2]
    exact (ixN_seq q).1
  · unfold mapS
    rw [List.getElem?_map, List.getElem?_map, hx]; rfl
theorem scIsOrder : FnScope ["value", "many"] ["value", "many"] (defScope sIsOrder) := ⟨rfl, rfl, rfl, by decide +kernel, rfl, by decide +kernel, by decide +kernel⟩
/-- len(set(t)), t a tuple of distinct ints -/
def tLenSetT (K : PySem.W.Frag) (ta : TE) : TE := fun σ H Q => ta σ H fun x H1 => ∃ (l : Addr) (ns : List Int), x = V.ref l ∧ SqT K H1 l (ns.map V.int) ∧ ns.length < 64 ∧ ns.Nodup ∧ Q (.int ns.length) H1
theorem pe_lenSetT {X : Cx} {a : Expr} {ta : TE} {p p2 q pos : Pos} (hc : X.calm = true) (hg : Gl X "len") (hm : X.mg "len" = none) (hg2 : Gl X "set") (hm2 : X.mg "set" = none) (ha : PE X a ta)
    (na : starEach [a] X.env = (false, eval a X.env) :: starEach [] X.env := by rfl) : PE X (.Call (.Name "len" p) [.Call (.Name "set" p2) [a] [] q] [] pos) (tLenSetT X.K ta) := by
  refine ⟨fun pins s σ H Q I h => ?_⟩
  refine Call_ (ld_blt I hg hm PySem.boot_len (PyProof.Rows.callWith_builtin1 (PyProof.Rows.args_cons ?_ rfl) rfl rfl))
  refine Call_ (ld_blt I hg2 hm2 PyProof.Rows.boot_set (PyProof.Rows.callWith_type1 (PyProof.Rows.args_cons (thn (ha.run pins s σ H _ I h) fun v s1 ⟨x, H1, I1, r1, l, ns, e1, hq, h1, hnd, q1⟩ => PyProof.Rows.args_nil ?_) na) na rfl))
  subst e1
  cases r1
  obtain ⟨its, r, pl, hz⟩ := I1.tuple hq
  refine call_set_tupI (items := its.toArray) ns (I1.ok.hd hc) pl (by simpa using Vals.ints r) (by unfold scanBound; omega) fun h' tk c hS hcn hk => PyProof.Rows.args_nil ?_
  obtain ⟨o, es, ep, t, ho, hex, hd, _, hnk, hmem, _, hf, hn, _, _⟩ := hS
  have hcc : c = ns.length := by
    have hp : (es.toList.map keyOf).Perm ns := (List.perm_ext_iff_of_nodup hnk hnd).mpr fun k => by
      rw [← hmem k]
      exact ⟨fun z => of_decide_eq_true z, fun z => decide_eq_true z⟩
    have z := hp.length_eq
    rw [List.length_map, Array.length_toList] at z
    omega
  have I2 : Inv X pins σ H1 { s1 with heap := h', toks := tk } := I1.kept hk
  exact call_len_set ho hex hd hf (by rw [hn] <;> omega) ⟨.int ns.length, H1, I2.tok _, ⟨_, by rw [hn, hcc]⟩, q1⟩
theorem ord_nodup {n : Nat} {o : List Int} (h : OrdOf n o) : o.Nodup ∧ o.length = n ∧ ∀ x ∈ o, 0 ≤ x ∧ x < n := by
  have nd : ((List.range n).map fun (k : Nat) => (k : Int)).Nodup := by
    refine List.pairwise_map.mpr (List.Pairwise.imp ?_ (List.nodup_range (n := n)))
    intro a b hab z
    exact hab (by omega)
  refine ⟨h.symm.nodup nd, ?_, fun x hx => ?_⟩
  · have q := h.length_eq
    rw [List.length_map, List.length_range] at q
    exact q
  · obtain ⟨k, hk, rfl⟩ := List.mem_map.mp (h.mem_iff.mp hx)
    have := List.mem_range.mp hk
    omega
theorem ok_isorder {f fL fW c tb : Addr} {fd fdL fdW : FuncData} (F : FnP K "is_order" sIsOrder f fd) (FL : FnP K "is_letter" sLetter fL fdL) (FW : FnP K "is_whole" sWhole fW fdW) (mL : mg "is_letter" = some (.ref fL)) (mW : mg "is_whole" = some (.ref fW))
    (B : Blt mg) (hc : fd.code = .ref c) (TB : GxR.TabB base mg c tb) (hT : tb ∈ T) : FnOk P w K mg base CX0 4 f fd ["value", "many"] (spIsOrder K T) := by
  refine okN F scIsOrder (fun vs H Q E h => ?_) (fun A outer s H vs Q E hr h => ?_)
  · obtain ⟨oa, n, o, rfl, _⟩ := h
    rfl
  obtain ⟨a, n, o, rfl, hs, ho, hn50, hT0, hq⟩ := h
  obtain ⟨hnd, hlen, hmem⟩ := ord_nodup ho
  refine ⟨_, pss_cons (ps_if (PW.pt (pw_or (pt_not (pt_val (pe_callB call_isi (by rfl) B.isi boot_isinstance (pa_cons (pv 0) (pa_cons (pe_bltn (v := .ty "tuple") (by rfl) B.tuple boot_tuple rfl) pa_nil)))))
      (pw_or1 (pt_cmpR op_ne (pe_callB call_len_seq rfl B.len PySem.boot_len (pa_cons (pv 0) pa_nil)) (pv 1) (nomark _))))) (pss_one (ps_ret pe_bl)) pss_nil)
    (pss_one (ps_ret (pe_and (pe_allB hr rfl B.all TB hc ?hS (pv 0) ?hfold (by decide +kernel)) (pe_one (pe_cmpR op_eq (pe_lenSetT rfl rfl B.len rfl B.set (pv 0)) (pv 1) (nomark _)))))), ?_⟩
  case hS => exact ⟨rfl, rfl, by decide +kernel, by decide +kernel, by decide +kernel, free_of (by rfl)⟩
  case hfold => intro v; rfl
  refine ⟨_, rfl, .ref a, .ty "tuple", .type "tuple", .type "tuple", true, rfl, .ty _, tyx_tup hs, kit_ty (by decide +kernel), _, rfl, ?_⟩
  refine iteF ?_
  refine ⟨_, rfl, a, _, rfl, .inr hs, _, rfl, rfl, _, rfl, ?_⟩
  rw [List.length_map, hlen]
  rw [decide_eq_true rfl]
  refine iteF ?_
  refine ⟨_, rfl, a, o.map V.int, o.map (letterB n), rfl, hs, by rw [List.length_map, List.length_map], hT0 tb hT, ?_, fun H2 t2 => ?_⟩
  case refine_2 =>
    have e : (o.map (letterB n)).all id = true := by
      rw [List.all_map]
      exact List.all_eq_true.mpr fun x hx => decide_eq_true (hmem x hx)
    rw [e]
    have g2 : Gw [] H H2 := .tabbed (hT0 tb hT) t2
    refine ⟨_, rfl, ?_⟩
    refine iteT ?_
    refine ⟨_, rfl, a, o, rfl, g2.ext.sqT hs, by omega, hnd, _, rfl, rfl, ?_⟩
    rw [hlen, decide_eq_true rfl]
    exact hq H2 g2
  intro pins s1 its I rv L code A' E' i v s₂ m₂ hA hd hu hv hn hm hk
  have nt := ntb (hT0 tb hT)
  have G1 : L2.Mod K mg s₂.heap := Mod.keeps I.mod fun b o e => hk b o (nt b (I.bs b o e).2) (I.bs b o e).1
  obtain ⟨x, t, hx, rfl⟩ : ∃ x t, o[i]? = some x ∧ v = .int x t := by
    have q := rv.length
    rw [List.length_map] at q
    have hi : i < its.length := (List.getElem?_eq_some_iff.mp hv).1
    have e : (o.map V.int)[i]? = some (V.int (o[i]'(by omega))) := by rw [List.getElem?_map, List.getElem?_eq_getElem (by omega)]; rfl
    obtain ⟨u, e1, t, e2⟩ := rv.get e
    rw [hv] at e1
    cases e1
    exact ⟨_, t, List.getElem?_eq_getElem (by omega), e2⟩
  obtain ⟨m, hns, hloc⟩ := I.loc
  obtain ⟨u, ⟨t2, rfl⟩, hlook⟩ := hloc 1 "many" (.int n) rfl rfl (.inr (.inl rfl))
  rcases hlook with ⟨z, _⟩ | ⟨_, cc, hcc, hcell⟩
  · exact nomatch (show some NameKind.cell = some NameKind.local from z)
  have hcell2 : s₂.heap.IsCell cc (some (.int n t2)) := by
    obtain ⟨o, e, r⟩ := hcell
    exact ⟨o, hk cc o (nt cc (I.freeC _ _ hcc)) e, r⟩
  refine wpAny_Call_Name_kw (glob_at G1 rfl rfl rfl mL ?_)
  refine PySem.W.callWith_K (h₀ := s₂.heap) G1.kin FL.kp ?_ rfl rfl
  refine Calls.spliced_cons (wpAny_Name (wpAny_loadName_local rfl rfl hn hm ?_) (by decide))
  refine Calls.spliced_cons (wpAny_Name (wpAny_loadName_free (c := cc) rfl rfl ?_ hcell2 ?_ (by decide)) (by decide))
  · have q : some (s.heap.objs.size + 1) = some cc := hcc
    cases q
    rfl
  refine Calls.spliced_nil ⟨G1.kin, ?_⟩
  refine isLetter_int G1 FL FW mW B.isi B.int B.bool ?_ fun s3 k3 => ⟨⟨_, ?_, rfl⟩, k3⟩
  · have h3 : A'.depth ≤ A.depth + 1 + 1 := hd
    have h4 : A.depth + 1 + 3 * 3 + 5 < recursionLimit := hr.dp
    omega
  · rw [List.getElem?_map, hx]; rfl
end
end SB
/-! KWrite -/
set_option Elab.async false
set_option linter.all false
set_option maxRecDepth 100000
set_option maxHeartbeats 4000000
namespace SB
open PySem PySem.Spec PyProof.Rows L2
abbrev sWBook : Stmt := top 19
abbrev sWRule : Stmt := top 20
abbrev sWSide : Stmt := top 21
/-- a number as a text -/
def sgn (x : Int) : Str := Str.ofString (toString x)
def txtS (k : Side) : Str := PySem.Txt.join (Str.ofString "") (k.map sgn)
def txtR (r : Rule) : Str := (txtS r.1 ++ Str.ofString ">") ++ txtS r.2
def txtB (b : Book) : Str := PySem.Txt.join (Str.ofString " ") ((sgn b.1 ++ Str.ofString ":") :: b.2.map txtR)
theorem sgn_one {x : Int} (h0 : 0 ≤ x) (h1 : x ≤ 9) : (sgn x).length = 1 := by
  unfold sgn
  have : x = 0 ∨ x = 1 ∨ x = 2 ∨ x = 3 ∨ x = 4 ∨ x = 5 ∨ x = 6 ∨ x = 7 ∨ x = 8 ∨ x = 9 := by omega
  rcases this with rfl | rfl | rfl | rfl | rfl | rfl | rfl | rfl | rfl | rfl <;> decide +kernel
theorem log2_small {x : Int} (h0 : 0 ≤ x) (h1 : x ≤ 9) : x.natAbs.log2 < 1920 := by
  have : x = 0 ∨ x = 1 ∨ x = 2 ∨ x = 3 ∨ x = 4 ∨ x = 5 ∨ x = 6 ∨ x = 7 ∨ x = 8 ∨ x = 9 := by omega
  rcases this with rfl | rfl | rfl | rfl | rfl | rfl | rfl | rfl | rfl | rfl <;> decide
/-- letters of a book -/
def Small (k : Side) : Prop := ∀ x ∈ k, 0 ≤ x ∧ x ≤ 9
theorem str_cps (a b : Str) (h : a.cps.toList = b.cps.toList) : a = b := by
  cases a; cases b
  simp only at h
  rw [← Array.toList_inj.mp h] <;> rfl
theorem join_is (y : Str) (xs : List Str) : PySem.Txt.join y xs = Str.join y xs := TL.join_eq y xs
theorem join_len (y : Str) : ∀ xs : List Str, (PySem.Txt.join y xs).length ≤ (xs.map (·.length)).sum + xs.length * y.length := by
  intro xs
  rw [join_is]
  induction xs with
  | nil => exact Nat.zero_le _
  | cons x xs ih =>
    cases xs with
    | nil => show x.length ≤ _; rw [List.map_cons, List.sum_cons]; omega
    | cons z r =>
      show (x ++ y ++ Str.join y (z :: r)).length ≤ _
      rw [Str.length_append, Str.length_append, List.map_cons, List.sum_cons, List.length_cons, Nat.add_mul]
      omega
/-- with nothing between, each ahead of which the sign stands -/
theorem join_ahead (y : Str) : ∀ (x : Str) (xs : List Str), PySem.Txt.join y (x :: xs) = x ++ PySem.Txt.join (Str.ofString "") (xs.map fun t => y ++ t) := by
  have e0 : ∀ x : Str, x ++ Str.empty = x := fun x => str_cps _ _ (by simp [Str.empty, Str.cps_append])
  have e1 : Str.ofString "" = Str.empty := by decide +kernel
  have as : ∀ a b c : Str, (a ++ b) ++ c = a ++ (b ++ c) := fun a b c => str_cps _ _ (by simp [Str.cps_append])
  intro x xs
  rw [join_is, join_is, e1]
  induction xs generalizing x with
  | nil => exact (e0 x).symm
  | cons z r ih =>
    show x ++ y ++ Str.join y (z :: r) = x ++ Str.join Str.empty ((y ++ z) :: r.map fun t => y ++ t)
    rw [ih z]
    cases r with
    | nil =>
      show x ++ y ++ (z ++ Str.empty) = x ++ (y ++ z)
      rw [e0, as]
    | cons u r =>
      show x ++ y ++ (z ++ Str.join Str.empty ((u :: r).map fun t => y ++ t)) = x ++ ((y ++ z) ++ Str.empty ++ Str.join Str.empty ((u :: r).map fun t => y ++ t))
      rw [e0, as, as]
theorem sum_sgn {k : Side} (h : Small k) : ((k.map sgn).map (·.length)).sum = k.length := by
  induction k with
  | nil => rfl
  | cons x k ih =>
    have hx := h x List.mem_cons_self
    rw [List.map_cons, List.map_cons, List.sum_cons, sgn_one hx.1 hx.2, ih fun y hy => h y (List.mem_cons_of_mem _ hy), List.length_cons]
    omega
theorem s_empty_len : (Str.ofString "").length = 0 := by decide +kernel
theorem txtS_len {k : Side} (h : Small k) : (txtS k).length ≤ k.length := by
  have q := join_len (Str.ofString "") (k.map sgn)
  rw [sum_sgn h, s_empty_len] at q
  exact q
def spWSide (K : PySem.W.Frag) : Sp := fun vs H Q _ => ∃ (v : V) (k : Side), vs = [v] ∧ Dp K H v (dSide k) ∧ Small k ∧ k.length ≤ 100 ∧ ∀ H', Gw [] H H' → Q (.str (txtS k)) H'
def spWRule (K : PySem.W.Frag) : Sp := fun vs H Q _ => ∃ (v : V) (r : Rule), vs = [v] ∧ Dp K H v (dRule r) ∧ Small r.1 ∧ Small r.2 ∧ r.1.length ≤ 100 ∧ r.2.length ≤ 100 ∧ ∀ H', Gw [] H H' → Q (.str (txtR r)) H'
def spWBook (K : PySem.W.Frag) (T : List Addr) : Sp := fun vs H Q _ => ∃ (v : V) (b : Book), vs = [v] ∧ Dp K H v (dBook b) ∧ OkB b ∧ Tabs T H ∧ ∀ H', Ext [] H H' → Tabs T H' → Q (.str (txtB b)) H'
section
variable {P : Program} {w : World} {K : PySem.W.Frag} {mg : Str → Option Value} {base : Heap} {T : List Addr}
theorem small_line {n : Nat} (h : n ≤ 10000) : n ≤ sizeLine := by rw [sizeLine_eq]; omega
theorem lt_line {n : Nat} (h : n ≤ 10000) : n < sizeLine := Nat.lt_of_le_of_lt h (by rw [sizeLine_eq]; decide)
theorem scWSide : FnScope ["side", "letter"] ["side"] (defScope sWSide) := ⟨rfl, rfl, rfl, by decide +kernel, rfl, by decide +kernel, by decide +kernel⟩
theorem ok_wside {f : Addr} {fd : FuncData} (F : FnP K "write_side" sWSide f fd) (B : Blt mg) : FnOk P w K mg base CX0 1 f fd ["side"] (spWSide K) := by
  refine okN F scWSide (fun vs H Q E h => ?_) (fun A outer s H vs Q E hr h => ?_)
  · obtain ⟨v, k, rfl, _⟩ := h
    rfl
  obtain ⟨v, k, rfl, hv, hk, hn, hq⟩ := h
  obtain ⟨a, rfl, ha⟩ := dp_side.mp hv
  refine ⟨_, pss_one (ps_ret (pe_join pe_str (pe_lc (own := [("letter", 1)]) (g := gName 1) (tt := tYes) rfl scWSide.nd (pi_tup (pv 0)) (blkOk_by (own := [("letter", 1)]) (N := ["side", "letter"]) (sc := defScope sWSide) (by decide +kernel))
      (fun _ _ _ _ _ => pg_name (i := 1) scWSide.nd rfl (Or.inl rfl)) (fun _ _ _ _ _ => pts_nil)
      (fun _ _ _ _ _ => pe_callTy call_str_int (by rfl) B.str (by decide +kernel) (pa_cons (pv 1) pa_nil))))), ?_⟩
  refine ⟨⟨_, rfl⟩, _, rfl, a, rfl, ⟨_, ha⟩, fun D hD => lc_tup (K := K) (a := a) (xs := k.map V.int) (fun i H2 => H2 D = some (.lst (((k.take i).map sgn).map V.str)) ∧ Gw [D] H H2) ⟨upd_same, .new hD⟩ (fun i H2 _ ⟨_, g⟩ => g.ext.sqT ha) ?_ ?_⟩
  · rintro i x H2 hi ⟨e, g⟩
    obtain ⟨y, hy, rfl⟩ : ∃ y, k[i]? = some y ∧ x = .int y := by
      rw [List.getElem?_map] at hi
      cases q : k[i]? with
      | none => rw [q] at hi; cases hi
      | some y => rw [q] at hi; exact ⟨y, rfl, (Option.some.inj hi).symm⟩
    have hil : i < k.length := (List.getElem?_eq_some_iff.mp hy).1
    have hys := hk y (List.mem_of_getElem? hy)
    refine ⟨rfl, yes_of ?_⟩
    refine iteT ?_
    refine ⟨_, rfl, y, rfl, log2_small hys.1 hys.2, _, e, ?_, ?_, g.trans (.set e rfl List.mem_cons_self)⟩
    · rw [List.length_map, List.length_map, List.length_take]
      exact lt_line (by omega)
    · rw [upd_same, List.take_succ, hy, List.map_append, List.map_append]; rfl
  · rintro H2 ⟨e, g⟩
    rw [List.length_map, List.take_length] at e
    refine ⟨_, D, k.map sgn, rfl, rfl, .inl (SqL.of e), ?_, hq H2 (g.drop hD)⟩
    rw [sum_sgn hk, List.length_map, s_empty_len]
    omega
theorem scWRule : FnScope ["rule", "left", "right"] ["rule"] (defScope sWRule) := ⟨rfl, rfl, rfl, by decide +kernel, rfl, by decide +kernel, by decide +kernel⟩
theorem s_gt_len : (Str.ofString ">").length = 1 := by decide +kernel
theorem ok_wrule {f fS : Addr} {fd fdS : FuncData} (F : FnP K "write_rule" sWRule f fd) (S : At P w K mg base CX0 1 "write_side" ["side"] (spWSide K) fS fdS) : FnOk P w K mg base CX0 2 f fd ["rule"] (spWRule K) := by
  refine okN F scWRule (fun vs H Q E h => ?_) (fun A outer s H vs Q E hr h => ?_)
  · obtain ⟨v, r, rfl, _⟩ := h
    rfl
  obtain ⟨v, r, rfl, hv, h1, h2, h3, h4, hq⟩ := h
  obtain ⟨a, x, y, rfl, hs, hx, hy⟩ := dp_rule.mp hv
  refine ⟨_, pss_cons (ps_asg (pv 0) (pg_tup (by rfl) (pgs_cons (pg_name (i := 1) scWRule.nd rfl (.inl rfl)) (pgs_cons (pg_name (i := 2) scWRule.nd rfl (.inl rfl)) pgs_nil))))
    (pss_one (ps_ret (pe_op op_add_str (pe_op op_add_str (pe_call S.ok hr rfl S.mg_ S.kp S.bd .nil pass0 (pa_cons (pv 1) pa_nil)) pe_str) (pe_call S.ok hr rfl S.mg_ S.kp S.bd .nil pass0 (pa_cons (pv 2) pa_nil))))), ?_⟩
  refine ⟨_, rfl, a, _, rfl, hs, rfl, _, _, rfl, _, _, rfl, rfl, ?_⟩
  have e1 : ∀ a b : Str, (a ++ b).length = a.length + b.length := fun a b => Str.length_append a b
  have l1 := txtS_len h1
  have l2 := txtS_len h2
  have g1 := s_gt_len
  refine ⟨_, rfl, x, r.1, rfl, hx, h1, h3, fun H1 q1 => ⟨_, _, rfl, rfl, small_line (by omega), _, rfl, y, r.2, rfl, Dp.ext q1.ext (still_side _) hy, h2, h4, fun H2 q2 => ⟨_, _, rfl, rfl, small_line (by rw [e1]; omega), hq H2 (q1.trans q2)⟩⟩⟩
theorem txtR_len {r : Rule} (h1 : Small r.1) (h2 : Small r.2) : (txtR r).length ≤ r.1.length + 1 + r.2.length := by
  have e1 : ∀ a b : Str, (a ++ b).length = a.length + b.length := fun a b => Str.length_append a b
  have l1 := txtS_len h1
  have l2 := txtS_len h2
  unfold txtR
  rw [e1, e1, s_gt_len]
  omega
theorem rule_small {n : Int} {r : Rule} (hn : n ≤ 4) (h : ruleB n r = true) : Small r.1 ∧ Small r.2 ∧ r.1.length ≤ 3 ∧ r.2.length ≤ 3 := by
  unfold ruleB at h
  obtain ⟨h1, h⟩ := Bool.and_eq_true_iff.mp h
  obtain ⟨h2, _⟩ := Bool.and_eq_true_iff.mp h
  have key : ∀ s : Side, sideB n s = true → Small s ∧ s.length ≤ 3 := fun s hs => by
    unfold sideB at hs
    obtain ⟨q1, q2⟩ := Bool.and_eq_true_iff.mp hs
    have q1' := of_decide_eq_true q1
    refine ⟨fun x hx => ?_, q1'.2⟩
    have z := List.all_eq_true.mp q2 x hx
    unfold letterB at z
    have z' := of_decide_eq_true z
    omega
  exact ⟨(key _ h1).1, (key _ h2).1, (key _ h1).2, (key _ h2).2⟩
theorem okB_many {b : Book} (h : OkB b) : 1 ≤ b.1 ∧ b.1 ≤ 4 ∧ b.2.length ≤ 12 := by
  have q := h.fr
  unfold frameB at q
  obtain ⟨q1, q2⟩ := Bool.and_eq_true_iff.mp q
  have a := of_decide_eq_true q1
  have c := of_decide_eq_true q2
  exact ⟨a.1, a.2, c⟩
theorem sum_txt : ∀ {rs : List Rule}, (∀ r ∈ rs, (txtR r).length ≤ 7) → ((rs.map txtR).map (·.length)).sum ≤ 7 * rs.length
  | [], _ => Nat.le_refl _
  | r :: rs, h => by
    have ih := sum_txt (rs := rs) fun q hq => h q (List.mem_cons_of_mem _ hq)
    have h0 := h r List.mem_cons_self
    rw [List.map_cons, List.map_cons, List.sum_cons, List.length_cons]
    omega
theorem scWBook : FnScope ["book", "many", "rules", "rule"] ["book"] (defScope sWBook) := ⟨rfl, rfl, rfl, by decide +kernel, rfl, by decide +kernel, by decide +kernel⟩
theorem ok_wbook {f fC fR : Addr} {fd fdC fdR : FuncData} (F : FnP K "write_book" sWBook f fd) (Ck : At P w K mg base CX0 6 "check_book" ["book"] (spCheck K T) fC fdC) (R : At P w K mg base CX0 2 "write_rule" ["rule"] (spWRule K) fR fdR) : FnOk P w K mg base CX0 7 f fd ["book"] (spWBook K T) := by
  refine okN F scWBook (fun vs H Q E h => ?_) (fun A outer s H vs Q E hr h => ?_)
  · obtain ⟨v, b, rfl, _⟩ := h
    rfl
  obtain ⟨v, b, rfl, hv, hb, hT0, hq⟩ := h
  obtain ⟨hb1, hb4, hb12⟩ := okB_many hb
  refine ⟨_, pss_cons (ps_expr (pe_call Ck.ok (hr.mono (by decide)) rfl Ck.mg_ Ck.kp Ck.bd .nil pass0 (pa_cons (pv 0) pa_nil)))
    (pss_cons (ps_asg (pv 0) (pg_tup (by rfl) (pgs_cons (pg_name (i := 1) scWBook.nd rfl (.inl rfl)) (pgs_cons (pg_name (i := 2) scWBook.nd rfl (.inl rfl)) pgs_nil))))
    (pss_one (ps_ret (pe_join pe_str (pe_op op_cat (pe_lst (pa_cons (pe_joined (.cons (pe_fmt (pv 1)) (.cons pe_str .nil))) pa_nil))
      (pe_lc (own := [("rule", 3)]) (g := gName 3) (tt := tYes) rfl scWBook.nd (pi_tup (pv 2)) (blkOk_by (own := [("rule", 3)]) (N := ["book", "many", "rules", "rule"]) (sc := defScope sWBook) (by decide +kernel))
        (fun _ _ _ _ _ => pg_name (i := 3) scWBook.nd rfl (Or.inl rfl)) (fun _ _ _ _ _ => pts_nil)
        (fun _ _ _ _ _ => pe_call R.ok (hr.mono (by decide)) rfl R.mg_ R.kp R.bd .nil pass0 (pa_cons (pv 3) pa_nil)))))))), ?_⟩
  refine ⟨_, rfl, v, b, rfl, hv, hb, hT0, fun H1 e1 t1 => ?_⟩
  obtain ⟨a, y, rfl, hs, hy⟩ := dp_book.mp (Dp.ext e1 (still_book b) hv)
  obtain ⟨ar, xs, rfl, hsr, hall⟩ := dp_rules.mp hy
  have hl : xs.length = b.2.length := by rw [dpAll_length hall, List.length_map]
  refine ⟨_, rfl, a, _, rfl, hs, rfl, _, _, rfl, _, _, rfl, rfl, ?_⟩
  have lap : ∀ a b : Str, (a ++ b).length = a.length + b.length := fun a b => Str.length_append a b
  have ee : ∀ x : Str, Str.empty ++ x = x := fun x => str_cps _ _ (by simp [Str.empty, Str.cps_append])
  have l1 := sgn_one (x := b.1) (by omega) (by omega)
  have lc : (Str.ofString ":").length = 1 := by decide +kernel
  have ls : (Str.ofString " ").length = 1 := by decide +kernel
  refine ⟨⟨_, rfl⟩, _, rfl, .inr ⟨b.1, rfl, log2_small (by omega) (by omega), _, rfl, by rw [ee]; show (sgn b.1).length ≤ _; rw [l1]; exact small_line (by omega), _, rfl, ?_, by show 1 ≤ sizeLine; decide, fun g hg => ?_⟩⟩
  · rw [ee, lap]
    show (sgn b.1).length + _ ≤ _
    rw [l1, lc]; exact small_line (by omega)
  rw [ee]
  show tLc _ _ _ _ _ _ (upd H1 g (.lst [.str (sgn b.1 ++ Str.ofString ":")])) _
  have g0 : Gw [] H1 (upd H1 g (.lst [.str (sgn b.1 ++ Str.ofString ":")])) := .new hg
  refine ⟨_, rfl, ar, rfl, ⟨_, g0.ext.sqT hsr⟩, fun D hD => lc_tup (K := K) (a := ar) (xs := xs) (fun i H2 => H2 D = some (.lst (((b.2.take i).map txtR).map V.str)) ∧ Gw [D] (upd H1 g (.lst [.str (sgn b.1 ++ Str.ofString ":")])) H2) ⟨upd_same, .new hD⟩ (fun i H2 _ ⟨_, g⟩ => g.ext.sqT (g0.ext.sqT hsr)) ?_ ?_⟩
  · rintro i x H2 hi ⟨e, g2⟩
    obtain ⟨d, hd1, hd2⟩ := dpAll_get hall hi
    obtain ⟨r, hr1, rfl⟩ : ∃ r, b.2[i]? = some r ∧ d = dRule r := by
      rw [List.getElem?_map] at hd1
      cases q : b.2[i]? with
      | none => rw [q] at hd1; cases hd1
      | some r => rw [q] at hd1; exact ⟨r, rfl, (Option.some.inj hd1).symm⟩
    have hsm := rule_small hb4 (hb.rl r (List.mem_of_getElem? hr1))
    refine ⟨rfl, yes_of ?_⟩
    refine iteT ?_
    refine ⟨_, rfl, x, r, rfl, Dp.ext (g0.more.trans g2).ext (still_rule r) hd2, hsm.1, hsm.2.1, by omega, by omega, fun H3 g3 => ?_⟩
    have e3 := g3.ext.lst e List.not_mem_nil
    refine ⟨_, e3, ?_, ?_, (g2.trans g3.more).trans (.set e3 rfl List.mem_cons_self)⟩
    · rw [List.length_map, List.length_map, List.length_take]
      exact lt_line (by omega)
    · rw [upd_same, List.take_succ, hr1, List.map_append, List.map_append]; rfl
  · rintro H2 ⟨e, g2⟩
    rw [hl, List.take_length] at e
    have eg : H2 g = some (.lst [.str (sgn b.1 ++ Str.ofString ":")]) := by
      have ngD : g ≠ D := ne_of_none upd_same hD
      exact g2.ext.lst upd_same (by simpa using ngD)
    have g2' := g2.drop hD
    refine ⟨g, D, _, _, rfl, rfl, eg, e, ?_, fun p hp => ?_⟩
    · rw [List.length_map, List.length_map]
      exact small_line (show 1 + b.2.length ≤ 10000 by omega)
    refine ⟨_, p, (sgn b.1 ++ Str.ofString ":") :: b.2.map txtR, rfl, rfl, .inl (SqL.of (by rw [upd_same]; rfl)), ?_, ?_⟩
    · have hsum : ((b.2.map txtR).map (·.length)).sum ≤ 7 * b.2.length := sum_txt fun r hr => by
        have q := rule_small hb4 (hb.rl r hr)
        have q2 := txtR_len q.1 q.2.1
        omega
      rw [List.map_cons, List.sum_cons, lap, l1, lc, List.length_cons, List.length_map, ls]
      omega
    · have gf := (g0.trans g2').trans (Gw.new (M := []) (o := .lst ([.str (sgn b.1 ++ Str.ofString ":")] ++ (b.2.map txtR).map V.str)) hp)
      exact hq _ (e1.trans gf.ext) (gf.tab T t1)
end
end SB
/-! KErr -/
set_option Elab.async false
set_option linter.all false
set_option maxRecDepth 100000
set_option maxHeartbeats 2000000
/-! Own errors with a field, whose __init__ says super().__init__(..) and then stores the field. -/
namespace PySem
namespace ErrX
open PySem.W PySem.Calls PyProof.Rows PySem.HandSPX
/-- what the written part says of the class x with the field fld, at C, and of its __init__ (words as in st), at fI -/
structure ErrTxt (P : Program) (K : Frag) (mg : Str → Option Value) (x fld qual : Str) (st : Stmt) (C fI : Addr) : Prop where
  gC : mg x = some (.ref C)
  cls : ∃ nm q N bs bm sn sub ab col dd k0 k1 k2 k3 k5, K.lookup C = some (excClassObj nm q C N bs bm true sn sub ab col dd k0 k1 k2 k3 k5 "ValueError.__new__") ∧ refsVE bm = true
  sa : findIn K (.ref C) "__setattr__" = some (some (.builtin "object.__setattr__"))
  ga : findIn K (.ref C) "__getattribute__" = some (some (.builtin "BaseException.__getattribute__"))
  gg : findIn K (.ref C) "__getattr__" = some none
  noN : findIn K (.ref C) fld = some none
  iC : findIn K (.ref C) "__init__" = some (some (.ref fI))
  tC : typeIn K (.ref fI) = some (.type "function")
  kC : keepIn K (.ref C) = true
  exC : subIn K (.ref C) (.type "BaseException") = some true
  tyC : typeIn K (.ref C) = some (.type "type")
  hdC : hasDictIn K C = true
  sup : ks_superIn K C C "__init__" = some (some (.builtin "ValueError.__init__"))
  opq : nsIn K cStatics "thirdparty.any" = some none
  veC : subIn K (.ref C) (.type "ValueError") = some true
  mroC : mroIn K C (.ref C) = some true
  fn : ∃ (oc : Value) (od : Option Addr) (doc pm : Value) (an : Option Addr) (cda : Addr) (ct : Value) (osl : Array (Option Value)) (cc : Addr),
    K.lookup fI = some ⟨oc, od, .func (ksFn "__init__" qual (L2.defArgs st) (L2.defBody st) (L2.defScope st) .none .none doc pm an (.ref cda) ct cc), osl⟩ ∧ codeIn K (.ref cda) qual = true ∧
    (∃ ccl cdd vs ccs file tf, K.lookup cda = some ⟨ccl, cdd, .fields vs, ccs⟩ ∧ vs[2]? = some (.str file tf) ∧ ((P.main.file : Str) == file) = true) ∧ ∃ cl cld csl, K.lookup cc = some ⟨cl, cld, .cell (some (.ref C)), csl⟩
theorem one_size (v : Value) : [v].length ≤ sizeLine := by
  rw [sizeLine_eq]
  exact (by decide : 1 ≤ 16777216)
/-- what __init__ leaves of a fresh exception at x -/
structure InitEnd (fld : Str) (h h' : Heap) (x C dx : Addr) (v : Value) : Prop where
  keep : ∀ b o, b ≠ x → h.get? b = some o → h'.get? b = some o
  obj : ∃ t1 : Addr, h'.get? x = some { cls := .ref C, dict := some dx, data := .fields #[.ref t1, .none, .none, .none, .bool false, .none] }
  dbig : h.objs.size ≤ dx
  dne : dx ≠ x
  ns : h'.Ns1 dx (fun y => if y = fld then some v else none)
structure OwnMade (fld : Str) (h h' : Heap) (e C d : Addr) (v : Value) : Prop where
  keep : ∀ b o, h.get? b = some o → h'.get? b = some o
  new : h.objs.size ≤ e
  obj : ∃ oe vs, h'.get? e = some oe ∧ oe.cls = .ref C ∧ oe.dict = some d ∧ oe.data = .fields vs ∧ vs[1]? = some .none
  dbig : h.objs.size ≤ d
  dne : d ≠ e
  ns : h'.Ns1 d (fun y => if y = fld then some v else none)
section
variable {M : Model} {A : Around} {E : Value → Shared → Prop} {h : Heap} {g : Array GenState} {d : Drawn} {t : Nat} {os : OsState}
variable {nm q : Str} {C N : Addr} {bs bm bmB : List Value} {hdct : Bool} {sn : List Str} {sub : List Value} {ab : Bool} {col : Option Bool} {dd : Option Addr} {k0 k1 k2 k3 k5 : Option Value} {B newId initId : String}
theorem call_mw {prog : Program} {w : World} (F : ExcBaseFacts B newId initId bmB) (hst : initId.startsWith "lifetime." = false) {u e t0 : Addr} {rest : List Value} {Q : Value → Shared → Prop}
    (hC : h.get? C = some (excClassObj nm q C N bs bm hdct sn sub ab col dd k0 k1 k2 k3 k5 newId)) (he : h.get? e = some (HandSPX.excO C t0)) (hu : h.get? u = some (kxs_mw initId e)) (hrest : rest.length ≤ sizeLine)
    (hq : ∀ h' t1, (∀ b o, b ≠ e → h.get? b = some o → h'.get? b = some o) → h'.get? e = some (HandSPX.excO C t1) → Q .none ⟨h', g, d, t, os⟩) :
    wpAny (model prog w) A (call (.ref u) rest) Q E ⟨h, g, d, t, os⟩ := by
  refine wpAny_call (codeAny_of_tree ?_)
  show wpAny _ A.in1 (callAny (.ref u) ⟨rest, []⟩) _ _ _
  simp only [callAny]
  refine wpAny_bind (wpAny_load hu ?_)
  simp only [kxs_mw, show (Value.type "method-wrapper" == Value.type "method" || Value.type "method-wrapper" == Value.type "builtin_function_or_method" || Value.type "method-wrapper" == Value.type "method-wrapper") = true by decide, if_true]
  refine W.KFB.if_so (by decide) ?_
  refine wpAny_bind (ESX.check_bound F hC he rfl ?_)
  refine wpAny_bind (wpAny_pure (wpAny_pure ?_))
  refine ⟨Code.quiet_builtin _ hst, codeAny_builtin F.initEntry ?_⟩
  rw [Around.under_plainId F.init.plain _]
  wp_walk
  refine hq _ h.objs.size (fun b o hb ho => ?_) ?_
  · rw [Heap.get?_update_other _ _ (Ne.symm hb)]
    exact Heap.get?_push_of_some _ ho
  · rw [Heap.get?_update_self _ (Heap.get?_push_of_some _ he) rfl]
    rfl
end
section
variable {prog : Program} {w : World} {A : Around} {E : Value → Shared → Prop} {R : Result → Shared → Prop} {s : Shared} {K : Frag} {mg : Str → Option Value} {x fld qual : Str} {st : Stmt} {C fI : Addr}
theorem ldK {M : Model} {env : Env} {m : Str → Option Value} {x : Str} {pos : Pos} {v : Value} {Q : Value → Shared → Prop} {A : Around} {E : Value → Shared → Prop} {s : Shared} (hn : s.heap.Ns env.locals m) (hv : m x = some v) (h : Q v s)
    (hk : env.scope.kind = .function := by rfl) (hl : env.kindOf x = some .local := by rfl) (hd : (x == ("__debug__" : Str)) = false := by decide) :
    wpAny M A (eval (.Name x pos) env) Q E s := wpAny_Name (wpAny_loadName_local hk hl hn hv h) hd
/-- the text f'..{fld}..' is made, whatever it is -/
def Texts (prog : Program) (w : World) (qual : Str) (scope : Scope) (fld : Str) (v : Value) (je : Expr) : Prop :=
  ∀ (A : Around) (E : Value → Shared → Prop) (s : Shared) (Q : Value → Shared → Prop) (L f cc : Addr) (cd : Value) (x : Addr), s.heap.Ns L (fun y => [((("self" : Str)), Value.ref x), (fld, v)].reverse.lookup y) → (∀ u tk, Q u { s with toks := tk }) → wpAny (model prog w) A (eval je (ksEnv qual scope L f cd cc)) Q E s
/-- the words of such an __init__ -/
structure Words (prog : Program) (mg : Str → Option Value) (fld : Str) (st : Stmt) (je : Expr) (p0 p1 p2 p3 p4 q1 q2 q3 q4 : Pos) : Prop where
  hb : L2.defBody st = [.Expr (.Call (.Attribute (.Call (.Name "super" p0) [] [] p1) "__init__" p2) [je] [] p3) p4, .Assign [.Attribute (.Name "self" q1) fld q2] (.Name fld q3) q4]
  h1 : (L2.defScope st).names.lookup ("super" : Str) = some .globalImplicit
  h2 : (L2.defScope st).names.lookup ("__class__" : Str) = some .free
  h3 : (L2.defScope st).names.lookup ("self" : Str) = some .local
  h4 : (L2.defScope st).names.lookup fld = some .local
  h5 : (L2.defScope st).kind = .function
  h6 : ∀ x ∈ (L2.defScope st).names, x.2 ≠ .cell
  h7 : (L2.defScope st).isCoroutine = false
  h8 : (L2.defScope st).isGenerator = false
  h9 : ∃ ar : Arg, ((L2.defArgs st).posonlyargs ++ (L2.defArgs st).args).head? = some ar ∧ ar.arg = "self"
  hbind : ∀ (doc pm : Value) (an : Option Addr) (cdv ct : Value) (cc : Addr) (qual : Str) (e v : Value), bindArgs (ksFn "__init__" qual (L2.defArgs st) (L2.defBody st) (L2.defScope st) .none .none doc pm an cdv ct cc) ⟨[e, v], []⟩ = pure [((("self" : Str)), e), (fld, v)]
  he : ∀ env, ∃ pl, eval (.Call (.Attribute (.Call (.Name "super" p0) [] [] p1) "__init__" p2) [je] [] p3) env = (do
      let ov ← attributeBase (.Call (.Name "super" p0) [] [] p1) "__init__" env (eval (.Call (.Name "super" p0) [] [] p1) env)
      standAt p2.atName
      let (f, first) ← holding [ov] (getMethod ov "__init__" pl)
      callWith p3 f first (backTo p3 (starEach [je] env)) [])
  hi : ∀ (qual : Str) (L f : Addr) (cd : Value) (cc : Addr), interactive (ksEnv qual (L2.defScope st) L f cd cc) = false
  hs1 : ∀ env, starEach [je] env = (false, eval je env) :: starEach [] env
  hs2 : ∀ env, swapsWith (.Call (.Attribute (.Call (.Name "super" p0) [] [] p1) "__init__" p2) [je] [] p3) none p4.line env = pure false
  hs3 : ∀ env, swapsWith (.Name fld q3) (some (.Attribute (.Name "self" q1) fld q2)) q4.line env = pure false
  htop : (prog.main.scope.names.lookup ("super" : Str)).isSome = false
  hms : mg "super" = none
  hf2 : (fld == ("__debug__" : Str)) = false
  hne : fld ≠ "self"
theorem err_init {e t0 : Addr} {v : Value} {jl : List Expr} {jp p0 p1 p2 p3 p4 q1 q2 q3 q4 : Pos} (T : ErrTxt prog K mg x fld qual st C fI) (W : Words prog mg fld st (.JoinedStr jl jp) p0 p1 p2 p3 p4 q1 q2 q3 q4) (hJ : Texts prog w qual (L2.defScope st) fld v (.JoinedStr jl jp))
    (X : K.In s.heap) (G : L2.Mod K mg s.heap) (hx : s.heap.get? e = some (excO C t0)) (hnx : K.lookup e = none) (hroom : A.depth < recursionLimit)
    (hq : ∀ h' tk dx, InitEnd fld s.heap h' e C dx v → R (.ok (.ret .none)) { s with heap := h', toks := tk }) :
    codeAny (model prog w) A (.call (.ref fI) ⟨[.ref e, v], []⟩) R s := by
  obtain ⟨oc, od, doc, pm, an, cda, ct, osl, cc, ho, hcd, ⟨ccl, cdd, vs, ccs, file, tf, hcode, hvs, hfile⟩, cl, cld, csl, hcell⟩ := T.fn
  obtain ⟨nm, q, N, bs, bm, sn, sub, ab, col, dd, k0, k1, k2, k3, k5, hC, hbm⟩ := T.cls
  obtain ⟨ar, har, harg⟩ := W.h9
  have hcl : clsIn K C = some { name := nm, bases := bs, mro := .ref C :: bm, ns := N, qualname := q, hasDict := true, slotNames := sn, subclasses := sub, abstract := ab, collection := col, hasDel := false } := by unfold clsIn; rw [hC] <;> rfl
  refine ks_codeAny_call_defAt (body := L2.defBody st) (binds := [((("self" : Str)), Value.ref e), (fld, v)]) hroom (X _ _ ho) rfl G.nolimit (codeRec_of X hcd) rfl (BindsTo.of_eq (W.hbind _ _ _ _ _ _ _ _ _)) W.h6 ?_ (fun h₁ hn k => ?_) W.h7 W.h8 W.h5
  · intro y hy
    rcases List.mem_cons.mp hy with rfl | hy
    · exact W.h3
    · rw [List.mem_singleton.mp hy]; exact W.h4
  have X₁ : K.In h₁ := X.keeps k
  have hx₁ := k _ _ hx
  have hxL : e ≠ s.heap.objs.size := Nat.ne_of_lt (Heap.lt_size hx)
  have look1 : (fun y => [((("self" : Str)), Value.ref e), (fld, v)].reverse.lookup y) "self" = some (.ref e) := by
    have q : ((("self" : Str)) == fld) = false := by simpa using Ne.symm W.hne
    show List.lookup ("self" : Str) [(fld, v), ("self", Value.ref e)] = _
    simp [List.lookup, q]
  have look2 : (fun y => [((("self" : Str)), Value.ref e), (fld, v)].reverse.lookup y) fld = some v := by
    show List.lookup fld [(fld, v), ("self", Value.ref e)] = _
    simp [List.lookup]
  show wpAt (model prog w) (A.deeper (ksEnv qual (L2.defScope st) s.heap.objs.size fI (.ref cda) cc)) (.func (L2.defBody st) (ksEnv qual (L2.defScope st) s.heap.objs.size fI (.ref cda) cc)) (execs (L2.defBody st) (ksEnv qual (L2.defScope st) s.heap.objs.size fI (.ref cda) cc)) _ _ _
  generalize A.deeper (ksEnv qual (L2.defScope st) s.heap.objs.size fI (.ref cda) cc) = A1
  rw [W.hb]
  obtain ⟨pl, he⟩ := W.he (ksEnv qual (L2.defScope st) s.heap.objs.size fI (.ref cda) cc)
  refine ks_wpAt_execs_cons (ks_wpAt_Expr_any (ks_wpAt_MethodCall ?_ he) (W.hi _ _ _ _ _) (W.hs2 _))
  -- super()
  refine ks_wpAt_super_base (env := ksEnv qual (L2.defScope st) s.heap.objs.size fI (.ref cda) cc) W.h1 W.h2 (by decide) rfl (X₁ _ _ ho) rfl har rfl (X₁ _ _ hcode) rfl hvs hfile W.htop ?_
  have G₁ : L2.Mod K mg h₁ := SB.Mod.keeps G k
  obtain ⟨mb, hb1, hb2⟩ := G₁.blt
  refine ks_loadName_global W.h5 W.h1 (loadGlobal_builtin (env := ksEnv qual (L2.defScope st) s.heap.objs.size fI (.ref cda) cc) G₁.glob W.hms hb1 ((hb2 _ (by decide)).trans PyProof.Rows.Boot.«super») ⟨rfl, ?_⟩)
  refine wpAny_loadName_free W.h5 W.h2 rfl ⟨_, X₁ _ _ hcell, rfl⟩ ?_
  rw [harg]
  refine wpAny_loadName_local W.h5 W.h3 hn look1 ?_
  refine ks_wpAny_isType_cls (X₁ _ _ hC) rfl ⟨rfl, ?_⟩
  refine ks_wpAny_call_super (X₁ _ _ hC) rfl hx₁ rfl (fun c z => by cases z) (looks_mroIn X₁ T.mroC) (fun h₂ hso k2 => ?_)
  -- .__init__
  have X₂ : K.In h₂ := X₁.keeps k2
  have I₂ : InstAt h₂ e (excO C t0) C none := ⟨k2 _ _ hx₁, rfl, rfl, trivial⟩
  have hm : alongIn K "__init__" (((Value.ref C :: bm).dropWhile (· != .ref C)).drop 1) = some (some (.builtin "ValueError.__init__")) := by
    have z := T.sup
    unfold ks_superIn at z
    rw [hcl] at z
    exact z
  refine kxs_getMethod kxs_ValueError hso (looks_opaque X₂ T.opq) (l₀ := .ref C :: bm) (fun A Q E s k q => wpAny_bind ((looks_clsIn X₂ hcl) A _ E s k (wpAny_pure q))) rfl X₂ hm (I₂.type.andThen (looks_subIn X₂ T.veC)) (ks_ne X₂ I₂ hcl) (by decide) ?_
  have hns2 := hn.keeps k2
  have hmw : (h₂.push (kxs_mw "ValueError.__init__" e)).get? h₂.objs.size = some (kxs_mw "ValueError.__init__" e) := Heap.get?_push_size _ rfl
  have k3 : ∀ b o, h₂.get? b = some o → (h₂.push (kxs_mw "ValueError.__init__" e)).get? b = some o := fun b o z => Heap.get?_push_of_some _ z
  show wpAny _ _ (callWith p3 (.ref h₂.objs.size) [] (backTo p3 (starEach [.JoinedStr jl jp] _)) []) _ _ _
  rw [W.hs1]
  refine kxs_callWith (i := "ValueError.__init__") (x := e) (by rfl) (evalArgs_plain ?_)
  refine Calls.spliced_cons (hJ _ _ _ _ _ _ _ _ _ (hns2.keeps k3) fun u tk => ?_)
  refine Calls.spliced_nil ⟨hmw, ?_⟩
  refine call_mw F.excBase_ValueError (by decide +kernel) (k3 _ _ (k2 _ _ (X₁ _ _ hC))) (k3 _ _ (k2 _ _ hx₁)) hmw (one_size u) fun h₄ t1 k4 hx4 => ?_
  -- self.fld = fld
  show wpAt _ _ _ (execs _ _) _ _ _
  have k04 : ∀ b o, b ≠ e → h₁.get? b = some o → h₄.get? b = some o := fun b o hb z => k4 b o hb (k3 b o (k2 b o z))
  have hns4 : h₄.Ns s.heap.objs.size (fun y => [((("self" : Str)), Value.ref e), (fld, v)].reverse.lookup y) := by
    obtain ⟨oL, es, ep, hL, r⟩ := hn
    exact ⟨oL, es, ep, k04 _ _ (Ne.symm hxL) hL, r⟩
  have X₄ : K.In h₄ := fun a o z => k04 a o (fun y => by rw [y, hnx] at z; cases z) (X₁ a o z)
  refine wpAt_of_wpAny (wpAny_execs_cons (plainObj_wpAny_Assign_Attribute ?_ (W.hs3 _)))
  refine ldK hns4 look2 (ldK hns4 look1 ?_ W.h5 W.h3) W.h5 W.h4 W.hf2
  refine set_plain X₄ (ox := excO C t1) (od := none) ⟨hx4, rfl, rfl, trivial⟩ T.sa ?_
  refine exc_osa X₄ hx4 hcl (show refsVE (.ref C :: bm) = true from hbm) rfl T.noN (fun h₅ tk₅ dx k5 dn dne hx5 hn5 => ?_)
  show wpAny _ _ (execs _ _) _ _ _
  have z1 : s.heap.objs.size < h₄.objs.size := hns4.lt
  exact wpAny_execs_nil (hq h₅ tk₅ dx ⟨fun b o hb z => k5 b o hb (k04 b o hb (k b o z)), ⟨t1, hx5⟩, Nat.le_of_lt (Nat.lt_of_lt_of_le z1 dn), dne, hn5⟩)
theorem err_made {v : Value} {jl : List Expr} {jp p0 p1 p2 p3 p4 q1 q2 q3 q4 : Pos} (T : ErrTxt prog K mg x fld qual st C fI) (W : Words prog mg fld st (.JoinedStr jl jp) p0 p1 p2 p3 p4 q1 q2 q3 q4) (hJ : Texts prog w qual (L2.defScope st) fld v (.JoinedStr jl jp))
    (G : L2.Mod K mg s.heap) (hroom : A.depth + 1 < recursionLimit)
    (hq : ∀ h' tk e d, OwnMade fld s.heap h' e C d v → R (.ok (.ret (.ref e))) { s with heap := h', toks := tk }) :
    codeAny (model prog w) A (.call (.ref C) ⟨[v], []⟩) R s := by
  obtain ⟨nm, q, N, bs, bm, sn, sub, ab, col, dd, k0, k1, k2, k3, k5, hC, hbm⟩ := T.cls
  obtain ⟨hp, g, dr, tk, os⟩ := s
  have X : K.In hp := G.kin
  have k : ∀ b o, hp.get? b = some o → ((hp.push (kdv_tup [v])).push (excO C hp.objs.size)).get? b = some o := fun b o e => Heap.get?_push_of_some _ (Heap.get?_push_of_some _ e)
  have hget : ((hp.push (kdv_tup [v])).push (excO C hp.objs.size)).get? (hp.objs.size + 1) = some (excO C hp.objs.size) := by heap_get
  have hnx : K.lookup (hp.objs.size + 1) = none := by
    cases e : K.lookup (hp.objs.size + 1) with
    | none => rfl
    | some o =>
      have z : hp.get? (hp.objs.size + 1) = some o := X _ _ e
      exact absurd (Nat.lt_of_succ_lt (Heap.lt_size z)) (Nat.lt_irrefl _)
  refine call_own F.excBase_ValueError (fun X => refsVE_contains X bm hbm) (X _ _ hC) (looks_findIn X T.iC) (fun self => bind_fn X self T.tC) (one_size v) ?_
  refine err_init (s := ⟨(hp.push (kdv_tup [v])).push (excO C hp.objs.size), g, dr, tk, os⟩) T W hJ (X.keeps k) (SB.Mod.keeps G k) hget hnx ?_ fun h' tk' dx ⟨k', ⟨t1, hx⟩, dn, dne, hns⟩ => ?_
  · show A.depth + 1 < recursionLimit
    exact hroom
  · have old : ∀ b o, hp.get? b = some o → h'.get? b = some o := fun b o e => k' b o (Nat.ne_of_lt (Nat.lt_succ_of_lt (Heap.lt_size e))) (k b o e)
    have z : hp.objs.size + 1 + 1 ≤ dx := by
      first
        | (simpa only [Heap.size_push] using dn)
        | exact dn
        | (have q := dn; rw [Heap.size_push, Heap.size_push] at q; exact q)
    exact ⟨rfl, hq h' tk' (hp.objs.size + 1) dx ⟨old, Nat.le_succ _, ⟨_, _, hx, rfl, rfl, rfl, rfl⟩, Nat.le_trans (Nat.le_trans (Nat.le_succ _) (Nat.le_succ _)) z, dne, hns⟩⟩
end
end ErrX
end PySem
namespace L2
open PySem PySem.Spec PyProof.Rows
theorem relO_err {fld : Str} {v : V} {v' : Value} (r : RelV v v') (f : Str) : RelO (List.lookup f [(fld, v)]) (if f = fld then some v' else none) := by
  by_cases hw : f = fld
  · subst hw
    rw [if_pos rfl]
    have q : List.lookup f [(f, v)] = some v := by simp [List.lookup]
    rw [q]
    exact r
  · rw [if_neg hw]
    have qw : (f == fld) = false := by simpa using hw
    have q2 : List.lookup f [(fld, v)] = none := by simp [List.lookup, qw]
    rw [q2]
    trivial
section
variable {X : Cx} {C fI : Addr} {x fld qual : Str} {st : Stmt}
/-- Err(e) -/
def tMkErr (C : Addr) (fld : Str) (ok : V → Prop) (ta : TA) : St → Hp → XK → Prop := fun σ H Q => ta σ H fun vs H1 => ∃ v, vs = [v] ∧ ok v ∧ ∀ d, H1 d = none → Q (.ref C) (some d) (upd H1 d (.xd [(fld, v)]))
theorem pmk_err {ok : V → Prop} {a : Expr} {ta : TA} {p pos : Pos} {k : Nat} {jl : List Expr} {jp p0 p1 p2 p3 p4 q1 q2 q3 q4 : Pos} (T : PySem.ErrX.ErrTxt X.prog X.K X.mg x fld qual st C fI) (W : PySem.ErrX.Words X.prog X.mg fld st (.JoinedStr jl jp) p0 p1 p2 p3 p4 q1 q2 q3 q4)
    (hJ : ∀ v u, ok v → RelV v u → PySem.ErrX.Texts X.prog X.w qual (L2.defScope st) fld u (.JoinedStr jl jp)) (hr : Room k X.A) (ha : PA X [a] ta) (hg : Gl X x) (hd : (x == ("__debug__" : Str)) = false)
    (he : starEach (a :: []) X.env = (false, eval a X.env) :: starEach [] X.env := by rfl) (hpl : (backTo pos (starEach [] X.env)).any (·.1) = false := by rfl) :
    PMk X (.Call (.Name x p) [a] [] pos) (tMkErr C fld ok ta) := by
  intro pins s σ H Q I h
  refine wpAny_Call_Name_kw (ld_glob I hg T.gC ?_ hd)
  refine PySem.W.callWith_K (h₀ := X.base) I.ok.mod.kin T.kC (thn (ha.run pos pins s σ H _ I h) fun us s1 hh => ?_) he hpl
  obtain ⟨vs, H1, I1, r1, v, ev, hok, q1⟩ := hh
  subst ev
  refine ⟨I1.kIn, ?_⟩
  cases r1 with
  | cons rv rn =>
    rename_i v' us'
    cases rn
    show wpAny _ _ (call (.ref C) [v']) _ _ _
    have G1 := I1.mod
    obtain ⟨hp, g, dr, tk, os⟩ := s1
    refine wpAny_call (PySem.ErrX.err_made T W (hJ v v' hok rv) (SB.Mod.keeps G1 I1.bk) (by have := hr.dp; omega) fun h' tk' e d M => ?_)
    show MkP X pins σ Q (.ref e) ⟨h', g, dr, tk', os⟩
    obtain ⟨oe, fv, hoe, hc, hd, hdat, h1⟩ := M.obj
    have hns := M.ns
    obtain ⟨G', g1, g2⟩ := restrict h' fun b => decide (b ≠ e)
    have gk : ∀ b, b ≠ e → G'.get? b = h'.get? b := fun b hb => g1 b (decide_eq_true hb)
    have ge : G'.get? e = none := g2 e (by simp)
    have old : ∀ b o, hp.get? b = some o → G'.get? b = some o := fun b o q => (gk b (Nat.ne_of_lt (Nat.lt_of_lt_of_le (Heap.lt_size q) M.new))).trans (M.keep b o q)
    have ob : ObjOk X.prog X.w (upd H1 d (.xd [(fld, v)])) G' d (.xd [(fld, v)]) :=
      ⟨_, hns.at (fun o q => (gk d M.dne).trans q), fun f => relO_err rv f⟩
    have J : Inv X pins σ (upd H1 d (.xd [(fld, v)])) ⟨G', g, dr, tk', os⟩ := I1.laid (t' := tk') old M.dbig ob
    refine ⟨e, oe, fv, ⟨G', g, dr, tk', os⟩, _, .ref C, some d, rfl, J, fun b o q => ?_, ge, hoe, ⟨hc, hd⟩, hdat, h1, ?_, rfl, I1.bare, raises_own T.exC T.tyC, q1 d (I1.hok.fresh M.dbig)⟩
    · by_cases hb : b = e
      · have q' : G'.get? b = some o := q
        rw [hb, ge] at q'; cases q'
      · exact (gk b hb).symm.trans q
    · rw [upd_ne (Ne.symm M.dne)]
      exact I1.hok.fresh M.new
/-- raise Err(e) -/
def tRaiseErr (C : Addr) (fld : Str) (ok : V → Prop) (W : WX) (ta : TA) : TS := fun _ σ H => tMkErr C fld ok ta σ H fun cls d H' => W cls d σ H'
end
end L2
namespace SB
open PySem PySem.Spec PyProof.Rows L2
def clsInit (st : Stmt) : Stmt := match st with
  | .ClassDef _ _ _ body .. => body.getD 0 (.Pass ⟨0, 0, 0, 0⟩)
  | _ => .Pass ⟨0, 0, 0, 0⟩
/-- ints whose text is short -/
def shortI (v : V) : Prop := ∃ i : Int, v = .int i ∧ i.natAbs.log2 < 1920
abbrev sInvI : Stmt := clsInit (top 5)
abbrev Inv0 (P : Program) (K : PySem.W.Frag) (mg : Str → Option Value) (C fI : Addr) : Prop := PySem.ErrX.ErrTxt P K mg "InvalidText" "place" "InvalidText.__init__" sInvI C fI
section
variable {X : Cx} {C fI : Addr}
theorem inv_texts {P : Program} {w : World} (v : V) (u : Value) (h : shortI v) (r : RelV v u) : PySem.ErrX.Texts P w "InvalidText.__init__" (defScope sInvI) "place" u (.JoinedStr [.Constant (.str "the text cannot go on like this (place: ") 0 ⟨16, 27, 16, 67⟩, .FormattedValue (.Name "place" ⟨16, 68, 16, 73⟩) (-1) none ⟨16, 67, 16, 74⟩, .Constant (.str ")") 0 ⟨16, 74, 16, 75⟩] ⟨16, 25, 16, 76⟩) := by
  obtain ⟨i, rfl, hz⟩ := h
  obtain ⟨t, rfl⟩ := r
  intro A E s Q L f cc cd x hn hq
  have hl := PyProof.Rows.int_text_len_1921 hz
  refine wpAny_JoinedStr ?_
  show wpAny _ _ (eval (.Constant (.str "the text cannot go on like this (place: ") 0 ⟨16, 27, 16, 67⟩) _) _ _ _
  refine wpAny_Constant_str ⟨_, _, rfl, by decide +kernel, ?_⟩
  show wpAny _ _ (eval (.FormattedValue (.Name "place" ⟨16, 68, 16, 73⟩) (-1) none ⟨16, 67, 16, 74⟩) _) _ _ _
  refine wpAny_FormattedValue_plain (PySem.ErrX.ldK hn (v := .int i t) (by rfl) ?_)
  have e1 : ∀ a b : Str, (a ++ b).length = a.length + b.length := fun a b => Str.length_append a b
  have z0 : (Str.empty ++ (Str.ofString "the text cannot go on like this (place: ")).length = 40 := by decide +kernel
  have z1 : (Str.ofString ")").length = 1 := by decide +kernel
  have zs : 16777216 = sizeLine := sizeLine_eq.symm
  refine wpAny_formatField_int hz ⟨_, _, rfl, by rw [e1, z0]; omega, ?_⟩
  show wpAny _ _ (eval (.Constant (.str ")") 0 ⟨16, 74, 16, 75⟩) _) _ _ _
  refine wpAny_Constant_str ⟨_, _, rfl, by rw [e1, e1, z0, z1]; omega, ?_⟩
  show _ ∧ _
  exact ⟨by rw [e1, e1, z0, z1]; omega, hq _ _⟩
theorem inv_words {P : Program} {mg : Str → Option Value} (hm : mg "super" = none) (ht : (P.main.scope.names.lookup ("super" : Str)).isSome = false) : PySem.ErrX.Words P mg "place" sInvI (.JoinedStr [.Constant (.str "the text cannot go on like this (place: ") 0 ⟨16, 27, 16, 67⟩, .FormattedValue (.Name "place" ⟨16, 68, 16, 73⟩) (-1) none ⟨16, 67, 16, 74⟩, .Constant (.str ")") 0 ⟨16, 74, 16, 75⟩] ⟨16, 25, 16, 76⟩)
    ⟨16, 8, 16, 13⟩ ⟨16, 8, 16, 15⟩ ⟨16, 8, 16, 24⟩ ⟨16, 8, 16, 77⟩ ⟨16, 8, 16, 77⟩ ⟨17, 8, 17, 12⟩ ⟨17, 8, 17, 18⟩ ⟨17, 21, 17, 26⟩ ⟨17, 8, 17, 26⟩ where
  hb := rfl
  h1 := by decide +kernel
  h2 := by decide +kernel
  h3 := by decide +kernel
  h4 := by decide +kernel
  h5 := rfl
  h6 := by decide +kernel
  h7 := rfl
  h8 := rfl
  h9 := ⟨_, rfl, rfl⟩
  hbind := fun _ _ _ _ _ _ _ _ _ => by first | rfl | with_unfolding_all rfl
  he := fun env => ⟨_, rfl⟩
  hi := fun _ _ _ _ _ => rfl
  hs1 := fun _ => rfl
  hs2 := fun _ => rfl
  hs3 := fun _ => rfl
  htop := ht
  hms := hm
  hf2 := by decide +kernel
  hne := by decide +kernel
theorem ps_raiseInv {a : Expr} {ta : TA} {W : WX} {p pos pos2 : Pos} {k : Nat} (hc : X.calm = true) (T : Inv0 X.prog X.K X.mg C fI) (hm : X.mg "super" = none) (ht : (X.prog.main.scope.names.lookup ("super" : Str)).isSome = false) (hr : Room k X.A) (tk : Takes X W) (ha : PA X [a] ta) (hg : Gl X "InvalidText" := by rfl)
    (he : starEach (a :: []) X.env = (false, eval a X.env) :: starEach [] X.env := by rfl) (hpl : (backTo pos (starEach [] X.env)).any (·.1) = false := by rfl) :
    PS X (.Raise (some (.Call (.Name "InvalidText" p) [a] [] pos)) none pos2) (tRaiseErr C "place" shortI W ta) :=
  ps_raise hc tk (pmk_err (ok := shortI) T (inv_words hm ht) (fun v u h r => inv_texts v u h r) hr ha hg (by decide) he hpl)
end
end SB
/-! KParse -/
set_option Elab.async false
set_option linter.all false
set_option maxRecDepth 100000
set_option maxHeartbeats 2000000
/-! Texts of books, read: a mirror over code points. -/
namespace SB
/-- the digit at a place, -1 without one -/
def digA (L : List Nat) (i : Nat) : Int := match L[i]? with
  | none => -1
  | some c => if 48 ≤ c ∧ c ≤ 57 then (c : Int) - 48 else -1
def skipA (L : List Nat) (i : Nat) : Nat := if h : i < L.length then (if L[i] = 32 then skipA L (i + 1) else i) else i
termination_by L.length - i
def lettersA (L : List Nat) (i : Nat) (n : Int) : Nat → List Int
  | 0 => []
  | m + 1 => if 0 ≤ digA L i ∧ digA L i < n then digA L i :: lettersA L (i + 1) n m else []
theorem lettersA_succ (L : List Nat) (i : Nat) (n : Int) (m : Nat) : lettersA L i n (m + 1) = if 0 ≤ digA L i ∧ digA L i < n then digA L i :: lettersA L (i + 1) n m else [] := rfl
abbrev Res (α : Type) := Except Nat α
def ruleA (L : List Nat) (i : Nat) (n : Int) : Res (Rule × Nat) :=
  let a := lettersA L i n 3
  let g := i + a.length
  if a = [] ∨ L[g]? ≠ some 62 then .error g else
  let b := lettersA L (g + 1) n a.length
  let e := g + 1 + b.length
  if b.length < a.length then .error e else
  if a = b then .error (e - 1) else .ok ((a, b), e)
def nextA (L : List Nat) (i : Nat) : Res Nat := match L[i]? with
  | none => .ok (skipA L i)
  | some c => if c = 32 then .ok (skipA L i) else .error i
def stopA (rs : List Rule) (r : Rule) : Prop := rs.length = 12 ∨ ∃ q, rs.getLast? = some q ∧ ltR q r = false
instance (rs : List Rule) (r : Rule) : Decidable (stopA rs r) := by
  unfold stopA
  cases h : rs.getLast? with
  | none => exact decidable_of_iff (rs.length = 12) ⟨.inl, fun z => z.elim id fun ⟨q, z, _⟩ => by cases z⟩
  | some q => exact decidable_of_iff (rs.length = 12 ∨ ltR q r = false) ⟨fun z => z.imp id fun z => ⟨q, rfl, z⟩, fun z => z.imp id fun ⟨q', z, y⟩ => by cases z; exact y⟩
def bodyA (L : List Nat) (n : Int) (i : Nat) (rs : List Rule) : Res (List Rule) :=
  if h : i < L.length then
    match ruleA L i n with
    | .error p => .error p
    | .ok (r, e) => if stopA rs r then .error i else
      match nextA L e with
      | .error p => .error p
      | .ok j => if i < j then bodyA L n j (rs ++ [r]) else .ok rs
  else .ok rs
termination_by L.length - i
def readA (L : List Nat) : Res Book :=
  let i := skipA L 0
  let n := digA L i
  if ¬ (1 ≤ n ∧ n ≤ 4) then .error i else
  if L[i + 1]? ≠ some 58 then .error (i + 1) else
  match bodyA L n (skipA L (i + 2)) [] with
  | .error p => .error p
  | .ok rs => .ok (n, rs)
/-! ### lemmas -/
theorem skipA_le (L : List Nat) (i : Nat) : i ≤ skipA L i := by
  rw [skipA]
  split
  · split
    · have := skipA_le L (i + 1); omega
    · exact Nat.le_refl _
  · exact Nat.le_refl _
termination_by L.length - i
theorem skipA_lt (L : List Nat) (i : Nat) (h : i ≤ L.length) : skipA L i ≤ L.length := by
  rw [skipA]
  split
  · split
    · exact skipA_lt L (i + 1) (by omega)
    · omega
  · exact h
termination_by L.length - i
theorem skipA_next {L : List Nat} {i : Nat} (h : L[i]? = some 32) : skipA L i = skipA L (i + 1) := by
  obtain ⟨hi, e⟩ := List.getElem?_eq_some_iff.mp h
  rw [skipA, dif_pos hi, if_pos e]
theorem skipA_stop {L : List Nat} {i : Nat} (h : L[i]? ≠ some 32) : skipA L i = i := by
  rw [skipA]
  split
  · rename_i hi
    rw [if_neg (fun e => h (by rw [List.getElem?_eq_getElem hi, e]))]
  · rfl
theorem digA_lt {L : List Nat} {i : Nat} (h : 0 ≤ digA L i) : i < L.length := by
  unfold digA at h
  cases e : L[i]? with
  | none => rw [e] at h; simp at h
  | some c => exact (List.getElem?_eq_some_iff.mp e).1
theorem digA_code {L : List Nat} {i : Nat} (h : 0 ≤ digA L i) : ∃ c, L[i]? = some c ∧ 48 ≤ c ∧ c ≤ 57 ∧ digA L i = (c : Int) - 48 := by
  unfold digA at h ⊢
  cases e : L[i]? with
  | none => rw [e] at h; simp at h
  | some c =>
    rw [e] at h
    by_cases q : 48 ≤ c ∧ c ≤ 57
    · exact ⟨c, rfl, q.1, q.2, if_pos q⟩
    · simp [q] at h
theorem digA_le (L : List Nat) (i : Nat) : digA L i ≤ 9 := by
  unfold digA
  split
  · decide
  · split <;> omega
theorem digA_of {L : List Nat} {i c : Nat} (h : L[i]? = some c) (h1 : 48 ≤ c) (h2 : c ≤ 57) : digA L i = (c : Int) - 48 := by
  unfold digA
  rw [h]
  exact if_pos ⟨h1, h2⟩
theorem lettersA_len (L : List Nat) (n : Int) : ∀ (m i : Nat), (lettersA L i n m).length ≤ m
  | 0, _ => Nat.le_refl _
  | m + 1, i => by
    rw [lettersA]
    split
    · have := lettersA_len L n m (i + 1)
      rw [List.length_cons]; omega
    · exact Nat.zero_le _
theorem lettersA_lets (L : List Nat) (n : Int) : ∀ (m i : Nat), ∀ x ∈ lettersA L i n m, 0 ≤ x ∧ x < n
  | 0, _ => fun x h => absurd h List.not_mem_nil
  | m + 1, i => fun x h => by
    rw [lettersA] at h
    split at h
    · rename_i c
      rcases List.mem_cons.mp h with rfl | h
      · exact c
      · exact lettersA_lets L n m (i + 1) x h
    · exact absurd h List.not_mem_nil
/-- one more letter -/
theorem lettersA_snoc (L : List Nat) (n : Int) : ∀ (m i : Nat), (lettersA L i n m).length = m → 0 ≤ digA L (i + m) → digA L (i + m) < n → lettersA L i n (m + 1) = lettersA L i n m ++ [digA L (i + m)]
  | 0, i, _, h1, h2 => by
    rw [Nat.add_zero] at h1 h2
    rw [lettersA_succ, if_pos ⟨h1, h2⟩, Nat.add_zero]; rfl
  | m + 1, i, h, h1, h2 => by
    have e : i + (m + 1) = i + 1 + m := by omega
    rw [e] at h1 h2 ⊢
    rw [lettersA] at h
    split at h
    · rename_i c
      rw [List.length_cons] at h
      have ih := lettersA_snoc L n m (i + 1) (by omega) h1 h2
      rw [lettersA_succ, if_pos c, ih, lettersA_succ, if_pos c]; rfl
    · simp at h
/-- no more letter -/
theorem lettersA_end (L : List Nat) (n : Int) : ∀ (m i k : Nat), (lettersA L i n m).length = m → ¬ (0 ≤ digA L (i + m) ∧ digA L (i + m) < n) → m ≤ k → lettersA L i n k = lettersA L i n m
  | 0, i, 0, _, _, _ => rfl
  | 0, i, k + 1, _, h, _ => by
    rw [Nat.add_zero] at h
    rw [lettersA_succ, if_neg h]; rfl
  | m + 1, i, 0, _, _, h => by omega
  | m + 1, i, k + 1, h, h1, h2 => by
    have e : i + (m + 1) = i + 1 + m := by omega
    rw [e] at h1
    rw [lettersA] at h
    split at h
    · rename_i c
      rw [List.length_cons] at h
      rw [lettersA_succ, if_pos c, lettersA_end L n m (i + 1) k (by omega) h1 (by omega), lettersA_succ, if_pos c]
    · simp at h
theorem lettersA_in (L : List Nat) (n : Int) : ∀ (m i : Nat), i + (lettersA L i n m).length ≤ L.length ∨ lettersA L i n m = []
  | 0, i => .inr rfl
  | m + 1, i => by
    rw [lettersA]
    split
    · rename_i c
      have h1 := digA_lt c.1
      rcases lettersA_in L n m (i + 1) with z | z
      · rw [List.length_cons]; left; omega
      · rw [z]; left; show i + 1 ≤ _; omega
    · exact .inr rfl
/-- what a read rule is -/
theorem ruleA_ok {L : List Nat} {i e : Nat} {n : Int} {r : Rule} (h : ruleA L i n = .ok (r, e)) :
    1 ≤ r.1.length ∧ r.1.length ≤ 3 ∧ r.2.length = r.1.length ∧ r.1 ≠ r.2 ∧ i + 3 ≤ e ∧ e ≤ L.length ∧ (∀ x ∈ r.1, 0 ≤ x ∧ x < n) ∧ (∀ x ∈ r.2, 0 ≤ x ∧ x < n) := by
  unfold ruleA at h
  simp only at h
  split at h
  · cases h
  · rename_i c1
    split at h
    · cases h
    · rename_i c2
      split at h
      · cases h
      · rename_i c3
        cases h
        have c4 : lettersA L i n 3 ≠ [] := fun z => c1 (.inl z)
        have q1 : 1 ≤ (lettersA L i n 3).length := by
          cases q : lettersA L i n 3 with
          | nil => exact absurd q c4
          | cons => rw [List.length_cons]; omega
        have q2 := lettersA_len L n 3 i
        have q3 := lettersA_len L n (lettersA L i n 3).length (i + (lettersA L i n 3).length + 1)
        refine ⟨q1, q2, by simp only; omega, c3, by omega, ?_, lettersA_lets _ _ _ _, lettersA_lets _ _ _ _⟩
        rcases lettersA_in L n (lettersA L i n 3).length (i + (lettersA L i n 3).length + 1) with z | z
        · exact z
        · rw [z] at c2
          simp at c2
          exact absurd c2 c4
theorem nextA_ok {L : List Nat} {i j : Nat} (h : nextA L i = .ok j) : j = skipA L i := by
  unfold nextA at h
  split at h
  · cases h; rfl
  · split at h
    · cases h; rfl
    · cases h
theorem bodyA_end {L : List Nat} {n : Int} {i : Nat} {rs : List Rule} (h : ¬ i < L.length) : bodyA L n i rs = .ok rs := by rw [bodyA, dif_neg h]
theorem bodyA_bad {L : List Nat} {n : Int} {i p : Nat} {rs : List Rule} (h : i < L.length) (e : ruleA L i n = .error p) : bodyA L n i rs = .error p := by rw [bodyA, dif_pos h, e]
theorem bodyA_stop {L : List Nat} {n : Int} {i e : Nat} {rs : List Rule} {r : Rule} (h : i < L.length) (q : ruleA L i n = .ok (r, e)) (c : stopA rs r) : bodyA L n i rs = .error i := by
  rw [bodyA, dif_pos h, q]
  simp only
  rw [if_pos c]
theorem bodyA_next {L : List Nat} {n : Int} {i e p : Nat} {rs : List Rule} {r : Rule} (h : i < L.length) (q : ruleA L i n = .ok (r, e)) (c : ¬ stopA rs r) (z : nextA L e = .error p) : bodyA L n i rs = .error p := by
  rw [bodyA, dif_pos h, q]
  simp only
  rw [if_neg c, z]
theorem bodyA_go {L : List Nat} {n : Int} {i e j : Nat} {rs : List Rule} {r : Rule} (h : i < L.length) (q : ruleA L i n = .ok (r, e)) (c : ¬ stopA rs r) (z : nextA L e = .ok j) : i < j ∧ j ≤ L.length ∧ bodyA L n i rs = bodyA L n j (rs ++ [r]) := by
  have h1 := ruleA_ok q
  have h2 := nextA_ok z
  have h3 := skipA_le L e
  have h4 := skipA_lt L e h1.2.2.2.2.2.1
  have h5 : i < j := by omega
  refine ⟨h5, by omega, ?_⟩
  rw [bodyA, dif_pos h, q]
  simp only
  rw [if_neg c, z]
  simp only
  rw [if_pos h5]
end SB
/-! KMid -/
set_option Elab.async false
set_option linter.all false
set_option maxRecDepth 100000
set_option maxHeartbeats 2000000
/-! a meeting place behind a statement, an expression, a test -/
namespace SB
open PySem PySem.Spec PyProof.Rows L2
def tMid (t : TS) : TS := fun D σ H => ∃ P : L2.St → Hp → Prop, t { D with nx := P } σ H ∧ ∀ σ' H', P σ' H' → D.nx σ' H'
def tMidE (t : TE) : TE := fun σ H Q => ∃ P : VK, t σ H P ∧ ∀ v H', P v H' → Q v H'
def tMidT (t : TT) : TT := fun σ H Q => ∃ P : Bool → Hp → Prop, t σ H P ∧ ∀ v H', P v H' → Q v H'
section
variable {X : Cx}
theorem ps_mid {st : Stmt} {t : TS} (h : PS X st t) : PS X st (tMid t) := by
  refine ⟨fun pins s σ H D I q => ?_⟩
  obtain ⟨P, q1, q2⟩ := q
  refine thn (h.run pins s σ H { D with nx := P } I q1) fun f s1 r => ?_
  cases f with
  | next =>
    obtain ⟨σ', H', I', r⟩ := r
    exact ⟨σ', H', I', q2 _ _ r⟩
  | ret v => exact r
  | brk => exact r
  | cont => exact r
theorem pe_mid {e : Expr} {t : TE} (h : PE X e t) : PE X e (tMidE t) := by
  refine ⟨fun pins s σ H Q I q => ?_⟩
  obtain ⟨P, q1, q2⟩ := q
  exact thn (h.run pins s σ H P I q1) fun u s1 ⟨v, H', I', r, z⟩ => ⟨v, H', I', r, q2 _ _ z⟩
theorem pt_mid {e : Expr} {t : TT} (h : PT X e t) : PT X e (tMidT t) := by
  refine ⟨fun pins s σ H Q I q => ?_⟩
  obtain ⟨P, q1, q2⟩ := q
  exact thn (h.run pins s σ H P I q1) fun u s1 ⟨H', I', z⟩ => ⟨H', I', q2 _ _ z⟩
theorem pw_mid {e : Expr} {t : TT} (h : PW X e t) : PW X e (tMidT t) := by
  refine ⟨fun wh pins s σ H Q I q => ?_⟩
  obtain ⟨P, q1, q2⟩ := q
  exact thn (h.run wh pins s σ H P I q1) fun u s1 ⟨H', I', z⟩ => ⟨H', I', q2 _ _ z⟩
end
end SB
/-! KScan -/
set_option Elab.async false
set_option linter.all false
set_option maxRecDepth 100000
set_option maxHeartbeats 4000000
namespace SB
open PySem PySem.Spec PyProof.Rows L2
/-! ### texts of one sign, slices of one sign -/
theorem s_space : (Str.ofString " ") = ⟨#[32]⟩ := by decide +kernel
theorem s_colon : (Str.ofString ":") = ⟨#[58]⟩ := by decide +kernel
theorem s_gt : (Str.ofString ">") = ⟨#[62]⟩ := by decide +kernel
theorem s_nil : (Str.ofString "") = ⟨#[]⟩ := by decide +kernel
theorem one_eq (c d : Nat) : decide (V.str ⟨#[c]⟩ = V.str ⟨#[d]⟩) = decide (c = d) := by
  by_cases h : c = d
  · subst h; simp
  · rw [decide_eq_false h]
    refine decide_eq_false fun z => h ?_
    injection z with z
    injection z with z
    simpa using z
theorem cut1 (z : Str) (i : Nat) : cutS z (some (i : Int)) (some ((i : Int) + 1)) = ⟨match z.cps.toList[i]? with | none => #[] | some c => #[c]⟩ := by
  have hl : z.length = z.cps.toList.length := by rw [Array.length_toList]; rfl
  unfold cutS
  rw [two_of, HT.sIx_nat, HT.sIx_nat, hl]
  by_cases h : i < z.cps.toList.length
  · rw [Nat.min_eq_left (by omega), Nat.min_eq_left (by omega), List.getElem?_eq_getElem h, List.drop_eq_getElem_cons h, show i + 1 - i = 1 by omega]
    rfl
  · rw [List.getElem?_eq_none (by omega), Nat.min_eq_right (by omega), Nat.min_eq_right (by omega), Nat.sub_self, List.take_zero]
/-- a slice of one sign is that sign -/
theorem cut1_eq (z : Str) (i d : Nat) : decide (V.str (cutS z (some (i : Int)) (some ((i : Int) + 1))) = V.str ⟨#[d]⟩) = decide (z.cps.toList[i]? = some d) := by
  rw [cut1]
  cases h : z.cps.toList[i]? with
  | none =>
    rw [decide_eq_false (show ¬ (none : Option Nat) = some d by simp)]
    refine decide_eq_false fun z => ?_
    injection z with z
    injection z with z
    simp at z
  | some c => rw [one_eq]; simp
theorem find_digit (c : Nat) : PySem.Txt.find (Str.ofString "0123456789") ⟨#[c]⟩ = if 48 ≤ c ∧ c ≤ 57 then (c : Int) - 48 else -1 := by
  by_cases h : 48 ≤ c ∧ c ≤ 57
  · rw [if_pos h]
    obtain ⟨h1, h2⟩ := h
    have : c = 48 ∨ c = 49 ∨ c = 50 ∨ c = 51 ∨ c = 52 ∨ c = 53 ∨ c = 54 ∨ c = 55 ∨ c = 56 ∨ c = 57 := by omega
    rcases this with rfl | rfl | rfl | rfl | rfl | rfl | rfl | rfl | rfl | rfl <;> decide +kernel
  · rw [if_neg h]
    have q := StrLaws.found_one (Str.ofString "0123456789") c
    have e : (Str.ofString "0123456789").cps.toList = [48, 49, 50, 51, 52, 53, 54, 55, 56, 57] := by decide +kernel
    have n : ¬ c ∈ (Str.ofString "0123456789").cps.toList := by
      rw [e]
      intro z
      simp at z
      omega
    rw [decide_eq_false n] at q
    unfold PySem.Txt.find
    generalize Builtin.Str.occurrences (Str.ofString "0123456789") ⟨#[c]⟩ 0 (Str.ofString "0123456789").length 1 = l at q ⊢
    cases l with
    | nil => rfl
    | cons => simp at q
abbrev codes (z : Str) : List Nat := z.cps.toList
theorem codes_len (z : Str) : z.length = (codes z).length := by rw [Array.length_toList]; rfl
/-- an error that a text has at the place p -/
def Er (C : Addr) (H : Hp) (E : XK) (p : Nat) : Prop := ∀ d H', Gw [] H H' → H' d = some (.xd [(("place" : Str), .int (p : Int))]) → E (.ref C) (some d) H'
theorem Er.up {C : Addr} {H H1 : Hp} {E : XK} {p : Nat} (h : Er C H E p) (g : Gw [] H H1) : Er C H1 E p := fun d H' g' e => h d H' (g.trans g') e
def spDigit : Sp := fun vs H Q _ => ∃ (z : Str) (i : Nat), vs = [.str z, .int (i : Int)] ∧ z.length ≤ 10000 ∧ i ≤ z.length ∧ Q (.int (digA (codes z) i)) H
def spSkip : Sp := fun vs H Q _ => ∃ (z : Str) (i : Nat), vs = [.str z, .int (i : Int)] ∧ z.length ≤ 10000 ∧ i ≤ z.length ∧ Q (.int (skipA (codes z) i : Nat)) H
def spNext (C : Addr) : Sp := fun vs H Q E => ∃ (z : Str) (i : Nat), vs = [.str z, .int (i : Int)] ∧ z.length ≤ 10000 ∧ i ≤ z.length ∧ (match nextA (codes z) i with | .ok j => Q (.int (j : Int)) H | .error p => Er C H E p)
abbrev sNext : Stmt := top 26
abbrev sSkip : Stmt := top 27
abbrev sDigit : Stmt := top 28
theorem short_nat {p : Nat} (h : p ≤ 20000) : shortI (.int (p : Int)) := by
  refine ⟨_, rfl, ?_⟩
  have : ((p : Int)).natAbs = p := by omega
  rw [this]
  have h2 : p.log2 ≤ 15 := by
    by_cases q : p = 0
    · subst q; decide
    · have := (Nat.log2_lt q (k := 16)).mpr (by omega)
      omega
  omega
section
variable {P : Program} {w : World} {K : PySem.W.Frag} {mg : Str → Option Value} {base : Heap}
theorem small_fits {n : Nat} (h : n ≤ 10000) : n ≤ sizeLine := by rw [sizeLine_eq]; omega
theorem scDigit : FnScope ["text", "at"] ["text", "at"] (defScope sDigit) := ⟨rfl, rfl, rfl, by decide +kernel, rfl, by decide +kernel, by decide +kernel⟩
theorem ok_digit {f : Addr} {fd : FuncData} (F : FnP K "digit_at" sDigit f fd) (B : Blt mg) (C : Cst mg) : FnOk P w K mg base CX0 1 f fd ["text", "at"] spDigit := by
  obtain ⟨td, md⟩ := C.digits
  refine okC F scDigit (fun vs H Q E h => ?_) (fun A outer s H vs Q E hr h => ?_)
  · obtain ⟨z, i, rfl, _⟩ := h
    rfl
  obtain ⟨z, i, rfl, hz, hi, hq⟩ := h
  refine ⟨_, pss_cons (ps_if (pt_cmpR op_eq (pv 1) (pe_callB call_len_str rfl B.len PySem.boot_len (pa_cons (pv 0) pa_nil)) (nomark _)) (pss_one (ps_ret (pe_un un_neg pe_int))) pss_nil)
    (pss_one (ps_ret (pe_m1 PySem.F.slot_str_find PySem.F.type_str_find mt_find (pe_glob (v := .str "0123456789") rfl md ⟨_, rfl⟩) (pe_ix ix_str (pv 0) (pv 1) (fun _ _ => rfl))))), ?_⟩
  refine ⟨_, rfl, _, rfl, z, rfl, small_fits hz, rfl, _, rfl, ?_⟩
  have hl := codes_len z
  by_cases c : i = z.length
  · rw [decide_eq_true (show V.int (i : Int) = V.int (z.length : Int) by rw [c])]
    refine iteT ?_
    refine ⟨_, rfl, ?_⟩
    have e : digA (codes z) i = -1 := by unfold digA; rw [List.getElem?_eq_none (by omega)]
    rw [e] at hq
    exact hq
  · rw [decide_eq_false (show ¬ V.int (i : Int) = V.int (z.length : Int) by intro q; injection q with q; omega)]
    refine iteF ?_
    have hlt : i < (codes z).length := by omega
    refine ⟨⟨_, rfl⟩, _, rfl, _, rfl, z, (i : Int), (codes z)[i], rfl, rfl, small_fits hz, atI_nat (List.getElem?_eq_getElem hlt), _, _, rfl, rfl, ?_⟩
    rw [find_digit]
    have e : digA (codes z) i = if 48 ≤ (codes z)[i] ∧ (codes z)[i] ≤ 57 then ((codes z)[i] : Int) - 48 else -1 := by unfold digA; rw [List.getElem?_eq_getElem hlt]
    rw [e] at hq
    exact hq
theorem scSkip : FnScope ["text", "at"] ["text", "at"] (defScope sSkip) := ⟨rfl, rfl, rfl, by decide +kernel, rfl, by decide +kernel, by decide +kernel⟩
theorem ok_skip {f : Addr} {fd : FuncData} (F : FnP K "skip_spaces" sSkip f fd) (B : Blt mg) : FnOk P w K mg base CX0 1 f fd ["text", "at"] spSkip := by
  refine okN F scSkip (fun vs H Q E h => ?_) (fun A outer s H vs Q E hr h => ?_)
  · obtain ⟨z, i, rfl, _⟩ := h
    rfl
  obtain ⟨z, i, rfl, hz, hi, hq⟩ := h
  have hl := codes_len z
  refine ⟨_, pss_cons (ps_while PassesOwn.never (pt_mid (PW.pt (pw_and (pt_cmpR op_lt (pv 1) (pe_callB call_len_str rfl B.len PySem.boot_len (pa_cons (pv 0) pa_nil)) (nomark _)) (pw_and1 (pt_cmpR op_eq (pe_ix ix_str (pv 0) (pv 1) (fun _ _ => rfl)) pe_str (nomark _))))))
      (pss_one (ps_aug (i := 1) scSkip.nd rfl (Or.inl rfl) pe_int ip_add)))
    (pss_one (ps_ret (pv 1))), ?_⟩
  refine while_by (fun σ H' => ∃ j : Nat, σ = [some (.str z), some (.int (j : Int))] ∧ H' = H ∧ j ≤ z.length ∧ skipA (codes z) j = skipA (codes z) i)
    (fun σ _ => match σ with | [_, some (.int j)] => z.length - j.toNat | _ => 0) ⟨i, rfl, rfl, hi, rfl⟩ ?_ (fun σ H Q Q' h ⟨P, q1, q2⟩ => ⟨P, q1, fun v H' p => h _ _ (q2 v H' p)⟩)
  rintro σ H' ⟨j, rfl, rfl, hj, hs⟩
  refine ⟨_, ?_, fun _ _ q => q⟩
  refine ⟨_, rfl, _, rfl, z, rfl, small_fits hz, _, _, rfl, rfl, _, rfl, ?_⟩
  have fin : (codes z)[j]? ≠ some 32 → Q (.int (j : Int)) H' := fun n => by
    have e : skipA (codes z) i = j := by rw [← hs, skipA_stop n]
    rw [e] at hq
    exact hq
  refine ite2 (fun c => ?_) (fun c => ?_)
  case refine_2 =>
    have c' : ¬ (j : Int) < (z.length : Int) := by simpa using c
    refine iteF ?_
    exact ⟨_, rfl, fin (by rw [List.getElem?_eq_none (by omega)]; simp)⟩
  have c' : (j : Int) < (z.length : Int) := by simpa using c
  have hlt : j < (codes z).length := by omega
  refine ⟨_, rfl, _, rfl, z, (j : Int), (codes z)[j], rfl, rfl, small_fits hz, atI_nat (List.getElem?_eq_getElem hlt), rfl, _, rfl, ?_⟩
  rw [s_space, one_eq]
  by_cases e : (codes z)[j] = 32
  · rw [decide_eq_true e]
    refine iteT ?_
    refine ⟨_, rfl, _, _, rfl, rfl, ⟨j + 1, ?_, rfl, by omega, ?_⟩, ?_⟩
    · show [_, some (V.int ((j : Int) + 1))] = _
      rw [two_of]
    · rw [← hs, skipA_next (i := j) (by rw [List.getElem?_eq_getElem hlt, e])]
    · show z.length - ((j : Int) + 1).toNat < z.length - ((j : Int)).toNat
      omega
  · rw [decide_eq_false e]
    refine iteF ?_
    exact ⟨_, rfl, fin (by rw [List.getElem?_eq_getElem hlt]; simpa using e)⟩
theorem scNext : FnScope ["text", "at"] ["text", "at"] (defScope sNext) := ⟨rfl, rfl, rfl, by decide +kernel, rfl, by decide +kernel, by decide +kernel⟩
theorem ok_next {f fS CI fI : Addr} {fd fdS : FuncData} (F : FnP K "next_rule" sNext f fd) (S : At P w K mg base CX0 1 "skip_spaces" ["text", "at"] spSkip fS fdS) (T : Inv0 P K mg CI fI) (B : Blt mg) (ht : (P.main.scope.names.lookup ("super" : Str)).isSome = false) :
    FnOk P w K mg base (L2.CX P w) 3 f fd ["text", "at"] (spNext CI) := by
  refine okC F scNext (fun vs H Q E h => ?_) (fun A outer s H vs Q E hr h => ?_)
  · obtain ⟨z, i, rfl, _⟩ := h
    rfl
  obtain ⟨z, i, rfl, hz, hi, hq⟩ := h
  have hl := codes_len z
  refine ⟨_, pss_cons (ps_if (PW.pt (pw_and (pt_cmpR op_lt (pv 1) (pe_callB call_len_str rfl B.len PySem.boot_len (pa_cons (pv 0) pa_nil)) (nomark _)) (pw_and1 (pt_cmpR op_ne (pe_ix ix_str (pv 0) (pv 1) (fun _ _ => rfl)) pe_str (nomark _)))))
      (pss_one (ps_raiseInv (W := fun cls d _ H => E cls d H) rfl T B.super ht hr (takes_of rfl rfl rfl rfl) (pa_cons (pv 1) pa_nil))) pss_nil)
    (pss_one (ps_ret (pe_call S.ok (hr.mono (by decide)) rfl S.mg_ S.kp S.bd .nil pass0 (pa_cons (pv 0) (pa_cons (pv 1) pa_nil))))), ?_⟩
  refine ⟨_, rfl, _, rfl, z, rfl, small_fits hz, _, _, rfl, rfl, _, rfl, ?_⟩
  have fin : nextA (codes z) i = .ok (skipA (codes z) i) → spSkip [.str z, .int (i : Int)] H Q (fun _ _ _ => False) := fun e => by
    rw [e] at hq
    exact ⟨z, i, rfl, hz, hi, hq⟩
  refine ite2 (fun c => ?_) (fun c => ?_)
  case refine_2 =>
    have c' : ¬ (i : Int) < (z.length : Int) := by simpa using c
    refine iteF ?_
    refine ⟨_, rfl, _, rfl, fin ?_⟩
    unfold nextA
    rw [List.getElem?_eq_none (by omega)]
  have c' : (i : Int) < (z.length : Int) := by simpa using c
  have hlt : i < (codes z).length := by omega
  have hg : (codes z)[i]? = some (codes z)[i] := List.getElem?_eq_getElem hlt
  refine ⟨_, rfl, _, rfl, z, (i : Int), (codes z)[i], rfl, rfl, small_fits hz, atI_nat hg, rfl, _, rfl, ?_⟩
  rw [s_space, one_eq]
  by_cases e : (codes z)[i] = 32
  · rw [decide_eq_true e]
    refine iteF ?_
    refine ⟨_, rfl, _, rfl, fin ?_⟩
    unfold nextA
    rw [hg]
    exact if_pos e
  · rw [decide_eq_false e]
    refine iteT ?_
    have q : nextA (codes z) i = .error i := by
      unfold nextA
      rw [hg]
      exact if_neg e
    rw [q] at hq
    exact ⟨_, rfl, _, rfl, short_nat (by omega), fun d hd => hq d _ (.new hd) upd_same⟩
end
end SB
/-! KLets -/
set_option Elab.async false
set_option linter.all false
set_option maxRecDepth 100000
set_option maxHeartbeats 4000000
namespace SB
open PySem PySem.Spec PyProof.Rows L2
abbrev sRLets : Stmt := top 25
def spRLets (K : PySem.W.Frag) : Sp := fun vs H Q _ => ∃ (z : Str) (i m : Nat) (n : Int), vs = [.str z, .int (i : Int), .int n, .int (m : Int)] ∧ z.length ≤ 10000 ∧ i ≤ z.length ∧ m ≤ 3 ∧
  ∀ v H', Gw [] H H' → Dp K H' v (dSide (lettersA (codes z) i n m)) → Q v H'
section
variable {P : Program} {w : World} {K : PySem.W.Frag} {mg : Str → Option Value} {base : Heap}
theorem scRLets : FnScope ["text", "at", "many", "most", "letters", "letter"] ["text", "at", "many", "most"] (defScope sRLets) := ⟨rfl, rfl, rfl, by decide +kernel, rfl, by decide +kernel, by decide +kernel⟩
theorem ok_rlets {f fD : Addr} {fd fdD : FuncData} (F : FnP K "read_letters" sRLets f fd) (D : At P w K mg base CX0 1 "digit_at" ["text", "at"] spDigit fD fdD) (B : Blt mg) :
    FnOk P w K mg base CX0 2 f fd ["text", "at", "many", "most"] (spRLets K) := by
  refine okN F scRLets (fun vs H Q E h => ?_) (fun A outer s H vs Q E hr h => ?_)
  · obtain ⟨z, i, m, n, rfl, _⟩ := h
    rfl
  obtain ⟨z, i, m, n, rfl, hz, hi, hm, hq⟩ := h
  have hl := codes_len z
  refine ⟨_, pss_cons (ps_set (i := 4) scRLets.nd rfl (Or.inl rfl) (pe_lst pa_nil))
    (pss_cons (ps_mid (ps_while PassesOwn.never (pt_mid (pt_cmpR op_lt (pe_callB call_len_seq rfl B.len PySem.boot_len (pa_cons (pv 4) pa_nil)) (pv 3) (nomark _)))
      (pss_cons (ps_set (i := 5) scRLets.nd rfl (Or.inl rfl) (pe_call D.ok hr rfl D.mg_ D.kp D.bd .nil pass0 (pa_cons (pv 0) (pa_cons (pe_op op_add (pv 1) (pe_callB call_len_seq rfl B.len PySem.boot_len (pa_cons (pv 4) pa_nil))) pa_nil))))
      (pss_cons (ps_if (pt_not (pt_chain op_le op_lt pe_int (pv 5) (pv 2))) (pss_one ps_break) pss_nil)
      (pss_one (ps_expr (pe_bm PySem.F.plainAttrs_list PySem.F.slot_list_append PySem.F.type_list_append mt_append (pv 4) (pa_cons (pv 5) pa_nil))))))))
    (pss_one (ps_ret (pe_callTy call_tuple_of (by rfl) B.tuple boot_tuple (pa_cons (pv 4) pa_nil))))), ?_⟩
  refine ⟨by show 0 ≤ sizeLine; decide, fun l hl0 => ?_⟩
  refine ⟨fun σ H' => ∃ p5, σ = [some (.str z), some (.int (i : Int)), some (.int n), some (.int (m : Int)), some (.ref l), p5] ∧ Gw [] H H' ∧ H' l = some (.lst ((lettersA (codes z) i n m).map V.int)), ?_, ?_⟩
  case refine_2 =>
    rintro σ H' ⟨p5, rfl, g, e⟩
    exact ⟨_, rfl, l, _, rfl, .inl ⟨SqL.of e, fun t ht => hq _ _ (g.trans (.new ht)) (dp_side.mpr ⟨t, rfl, SqT.of upd_same⟩)⟩⟩
  refine while_by (fun σ H' => ∃ (k : Nat) (p5 : Option V), σ = [some (.str z), some (.int (i : Int)), some (.int n), some (.int (m : Int)), some (.ref l), p5] ∧ Gw [] H H' ∧ k ≤ m ∧ (lettersA (codes z) i n k).length = k ∧ H' l = some (.lst ((lettersA (codes z) i n k).map V.int)))
    (fun σ H' => match H' l with | some (.lst xs) => 100 - xs.length | _ => 0) ⟨0, none, rfl, .new hl0, Nat.zero_le _, rfl, upd_same⟩ ?_ (fun σ H Q Q' h ⟨P, q1, q2⟩ => ⟨P, q1, fun v H' p => h _ _ (q2 v H' p)⟩)
  rintro σ H' ⟨k, p5, rfl, g, hk, hlen, e⟩
  refine ⟨_, ?_, fun _ _ q => q⟩
  refine ⟨_, rfl, l, _, rfl, .inl (SqL.of e), _, rfl, _, _, rfl, rfl, _, rfl, ?_⟩
  rw [List.length_map, hlen]
  refine ite2 (fun c => ?_) (fun c => ?_)
  case refine_2 =>
    have c' : ¬ (k : Int) < (m : Int) := by simpa using c
    have ek : k = m := by omega
    subst ek
    exact ⟨p5, rfl, g, e⟩
  have c' : (k : Int) < (m : Int) := by simpa using c
  -- letter = digit_at(text, at + len(letters))
  have hin : i + k ≤ z.length := by
    rcases lettersA_in (codes z) n k i with q | q
    · rw [hlen] at q; omega
    · rw [q] at hlen
      have : k = 0 := hlen.symm
      omega
  refine ⟨_, rfl, _, rfl, _, rfl, l, _, rfl, .inl (SqL.of e), _, _, rfl, rfl, z, i + k, ?_, hz, hin, ?_⟩
  · rw [List.length_map, hlen]
    show [V.str z, V.int ((i : Int) + (k : Int))] = _
    rw [show ((i : Int) + (k : Int)) = ((i + k : Nat) : Int) by omega]
  -- if not 0 <= letter < many: break
  refine ⟨_, rfl, _, _, rfl, rfl, _, rfl, ?_⟩
  have stop_ : ¬ (0 ≤ digA (codes z) (i + k) ∧ digA (codes z) (i + k) < n) → lettersA (codes z) i n k = lettersA (codes z) i n m := fun q => (lettersA_end (codes z) n k i m hlen q hk).symm
  refine ite2 (fun c1 => ?_) (fun c1 => ?_)
  case refine_2 =>
    have c1' : ¬ (0 : Int) ≤ digA (codes z) (i + k) := by simpa using c1
    refine ⟨_, rfl, ?_⟩
    refine iteT ?_
    refine ⟨_, rfl, g, ?_⟩
    rw [← stop_ fun q => c1' q.1]
    exact e
  have c1' : (0 : Int) ≤ digA (codes z) (i + k) := by simpa using c1
  refine ⟨_, rfl, _, _, rfl, rfl, _, rfl, ?_⟩
  by_cases c2 : digA (codes z) (i + k) < n
  case neg =>
    rw [decide_eq_false c2]
    refine iteT ?_
    refine ⟨_, rfl, g, ?_⟩
    rw [← stop_ fun q => c2 q.2]
    exact e
  rw [decide_eq_true c2]
  refine iteF ?_
  -- letters.append(letter)
  have q := lettersA_snoc (codes z) n k i hlen c1' c2
  refine ⟨_, rfl, .inl ⟨rfl, _, SqL.of e⟩, _, rfl, l, _, _, rfl, rfl, e, ?_, ?_⟩
  · rw [List.length_map, hlen]
    exact Nat.lt_of_lt_of_le (show k < 2000 by omega) (by rw [sizeLine_eq]; decide)
  have e' : upd H' l (.lst ((lettersA (codes z) i n k).map V.int ++ [.int (digA (codes z) (i + k))])) l = some (.lst ((lettersA (codes z) i n (k + 1)).map V.int)) := by
    rw [upd_same, q, List.map_append]; rfl
  refine ⟨⟨k + 1, _, rfl, ?_, by omega, by rw [q, List.length_append, hlen]; rfl, e'⟩, ?_⟩
  · have g2 : Gw [l] H (upd H' l (.lst ((lettersA (codes z) i n k).map V.int ++ [.int (digA (codes z) (i + k))]))) := g.more.trans (.set e rfl List.mem_cons_self)
    exact g2.drop hl0
  · show (match upd H' l (.lst ((lettersA (codes z) i n k).map V.int ++ [.int (digA (codes z) (i + k))])) l with | some (.lst xs) => 100 - xs.length | _ => 0) < (match H' l with | some (.lst xs) => 100 - xs.length | _ => 0)
    rw [e', e]
    show 100 - _ < 100 - _
    rw [List.length_map, List.length_map, q, List.length_append, hlen, List.length_cons, List.length_nil]
    omega
end
end SB
/-! KRead -/
set_option Elab.async false
set_option linter.all false
set_option maxRecDepth 100000
set_option maxHeartbeats 4000000
namespace SB
open PySem PySem.Spec PyProof.Rows L2
abbrev sReadBook : Stmt := top 22
abbrev sMany : Stmt := top 23
abbrev sRRule : Stmt := top 24
def spRRule (K : PySem.W.Frag) (C : Addr) : Sp := fun vs H Q E => ∃ (z : Str) (i : Nat) (n : Int), vs = [.str z, .int (i : Int), .int n] ∧ z.length ≤ 10000 ∧ i ≤ z.length ∧
  (match ruleA (codes z) i n with
    | .ok (r, e) => ∀ a x H', Gw [] H H' → SqT K H' a [x, .int (e : Int)] → Dp K H' x (dRule r) → Q (.ref a) H'
    | .error p => Er C H E p)
def manyA (L : List Nat) : Res (Int × Nat) :=
  let i := skipA L 0
  let n := digA L i
  if ¬ (1 ≤ n ∧ n ≤ 4) then .error i else
  if L[i + 1]? ≠ some 58 then .error (i + 1) else .ok (n, i + 2)
def spMany (K : PySem.W.Frag) (C : Addr) : Sp := fun vs H Q E => ∃ (z : Str), vs = [.str z] ∧ z.length ≤ 10000 ∧
  (match manyA (codes z) with
    | .ok (n, i) => ∀ a H', Gw [] H H' → SqT K H' a [.int n, .int (i : Int)] → Q (.ref a) H'
    | .error p => Er C H E p)
def spReadBook (K : PySem.W.Frag) (C : Addr) : Sp := fun vs H Q E => ∃ (z : Str), vs = [.str z] ∧ z.length ≤ 10000 ∧
  (match readA (codes z) with
    | .ok b => ∀ v H', Gw [] H H' → Dp K H' v (dBook b) → Q v H'
    | .error p => Er C H E p)
theorem cast1 (i : Nat) : ((i : Int) + 1) = ((i + 1 : Nat) : Int) := by omega
section
variable {P : Program} {w : World} {K : PySem.W.Frag} {mg : Str → Option Value} {base : Heap}
theorem scMany : FnScope ["text", "at", "many"] ["text"] (defScope sMany) := ⟨rfl, rfl, rfl, by decide +kernel, rfl, by decide +kernel, by decide +kernel⟩
theorem ok_many {f fS fD CI fI : Addr} {fd fdS fdD : FuncData} (F : FnP K "read_many" sMany f fd) (S : At P w K mg base CX0 1 "skip_spaces" ["text", "at"] spSkip fS fdS) (D : At P w K mg base CX0 1 "digit_at" ["text", "at"] spDigit fD fdD)
    (T : Inv0 P K mg CI fI) (B : Blt mg) (C : Cst mg) (ht : (P.main.scope.names.lookup ("super" : Str)).isSome = false) : FnOk P w K mg base (L2.CX P w) 3 f fd ["text"] (spMany K CI) := by
  obtain ⟨t4, m4⟩ := C.letters
  refine okC F scMany (fun vs H Q E h => ?_) (fun A outer s H vs Q E hr h => ?_)
  · obtain ⟨z, rfl, _⟩ := h
    rfl
  obtain ⟨z, rfl, hz, hq⟩ := h
  have hl := codes_len z
  refine ⟨_, pss_cons (ps_set (i := 1) scMany.nd rfl (Or.inl rfl) (pe_call S.ok (hr.mono (by decide)) rfl S.mg_ S.kp S.bd .nil pass0 (pa_cons (pv 0) (pa_cons pe_int pa_nil))))
    (pss_cons (ps_set (i := 2) scMany.nd rfl (Or.inl rfl) (pe_call D.ok (hr.mono (by decide)) rfl D.mg_ D.kp D.bd .nil pass0 (pa_cons (pv 0) (pa_cons (pv 1) pa_nil))))
    (pss_cons (ps_if (pt_not (pt_chain op_le op_le pe_int (pv 2) (pe_glob (v := .int 4) rfl m4 ⟨_, rfl⟩))) (pss_one (ps_raiseInv (W := fun cls d _ H => E cls d H) rfl T B.super ht hr (takes_of rfl rfl rfl rfl) (pa_cons (pv 1) pa_nil))) pss_nil)
    (pss_cons (ps_if (pt_cmpR op_ne (pe_slice sl_str (pv 0) (po_some (pe_op op_add (pv 1) pe_int)) (po_some (pe_op op_add (pv 1) pe_int))) pe_str (nomark _)) (pss_one (ps_raiseInv (W := fun cls d _ H => E cls d H) rfl T B.super ht hr (takes_of rfl rfl rfl rfl) (pa_cons (pe_op op_add (pv 1) pe_int) pa_nil))) pss_nil)
    (pss_one (ps_ret (pe_tup (pa_cons (pv 2) (pa_cons (pe_op op_add (pv 1) pe_int) pa_nil)))))))), ?_⟩
  refine ⟨_, rfl, z, 0, rfl, hz, Nat.zero_le _, ?_⟩
  have h1 := skipA_lt (codes z) 0 (Nat.zero_le _)
  unfold manyA at hq
  simp only at hq
  generalize skipA (codes z) 0 = i at h1 hq ⊢
  refine ⟨_, rfl, _, rfl, z, i, rfl, hz, by omega, ?_⟩
  have h2 : 0 ≤ digA (codes z) i → i < (codes z).length := digA_lt
  generalize digA (codes z) i = n at h2 hq ⊢
  refine ⟨_, rfl, _, _, rfl, rfl, _, rfl, ?_⟩
  have bad : ¬ (1 ≤ n ∧ n ≤ 4) → Er CI H E i := fun c => by
    rw [if_pos c] at hq
    exact hq
  refine ite2 (fun c1 => ?_) (fun c1 => ?_)
  case refine_2 =>
    have c1' : ¬ (1 : Int) ≤ n := by simpa using c1
    refine ⟨_, rfl, ?_⟩
    refine iteT ?_
    exact ⟨_, rfl, _, rfl, short_nat (by omega), fun d hd => bad (fun q => c1' q.1) d _ (.new hd) upd_same⟩
  have c1' : (1 : Int) ≤ n := by simpa using c1
  refine ⟨_, _, rfl, rfl, _, rfl, ?_⟩
  by_cases c2 : n ≤ 4
  case neg =>
    rw [decide_eq_false c2]
    refine iteT ?_
    exact ⟨_, rfl, _, rfl, short_nat (by omega), fun d hd => bad (fun q => c2 q.2) d _ (.new hd) upd_same⟩
  rw [decide_eq_true c2]
  refine iteF ?_
  rw [if_neg (by simp [c1', c2])] at hq
  have h3 := h2 (by omega)
  -- text[at + 1:at + 2] != ':'
  refine ⟨_, rfl, _, rfl, _, _, rfl, rfl, _, rfl, _, rfl, _, _, rfl, rfl, _, rfl, z, rfl, small_fits hz, rfl, _, rfl, ?_⟩
  have e1 : cutS z (some ((i : Int) + 1)) (some ((i : Int) + 2)) = cutS z (some ((i + 1 : Nat) : Int)) (some (((i + 1 : Nat) : Int) + 1)) := by
    rw [show ((i : Int) + 2) = ((i + 1 : Nat) : Int) + 1 by omega, show ((i : Int) + 1) = ((i + 1 : Nat) : Int) by omega]
  rw [e1, s_colon, cut1_eq]
  by_cases c3 : (codes z)[i + 1]? = some 58
  · rw [decide_eq_true c3]
    refine iteF ?_
    rw [if_neg (by simpa using c3)] at hq
    refine ⟨_, rfl, _, rfl, _, _, rfl, rfl, (by show 2 ≤ sizeLine; decide), fun a ha => hq a _ (.new ha) ?_⟩
    rw [show ((i + 2 : Nat) : Int) = (i : Int) + 2 by omega]
    exact SqT.of upd_same
  · rw [decide_eq_false c3]
    refine iteT ?_
    rw [if_pos (by simpa using c3)] at hq
    refine ⟨_, rfl, _, _, rfl, rfl, _, rfl, ?_, fun d hd => hq d _ (.new hd) ?_⟩
    · exact short_nat (p := i + 1) (by omega)
    · exact upd_same
theorem scRRule : FnScope ["text", "at", "many", "left", "sign", "right", "end"] ["text", "at", "many"] (defScope sRRule) := ⟨rfl, rfl, rfl, by decide +kernel, rfl, by decide +kernel, by decide +kernel⟩
theorem ok_rrule {f fL CI fI : Addr} {fd fdL : FuncData} (F : FnP K "read_rule" sRRule f fd) (L : At P w K mg base CX0 2 "read_letters" ["text", "at", "many", "most"] (spRLets K) fL fdL)
    (T : Inv0 P K mg CI fI) (B : Blt mg) (C : Cst mg) (ht : (P.main.scope.names.lookup ("super" : Str)).isSome = false) : FnOk P w K mg base (L2.CX P w) 3 f fd ["text", "at", "many"] (spRRule K CI) := by
  obtain ⟨t3, m3⟩ := C.side
  refine okC F scRRule (fun vs H Q E h => ?_) (fun A outer s H vs Q E hr h => ?_)
  · obtain ⟨z, i, n, rfl, _⟩ := h
    rfl
  obtain ⟨z, i, n, rfl, hz, hi, hq⟩ := h
  have hl := codes_len z
  refine ⟨_, pss_cons (ps_set (i := 3) scRRule.nd rfl (Or.inl rfl) (pe_call L.ok (hr.mono (by decide)) rfl L.mg_ L.kp L.bd .nil pass0 (pa_cons (pv 0) (pa_cons (pv 1) (pa_cons (pv 2) (pa_cons (pe_glob (v := .int 3) rfl m3 ⟨_, rfl⟩) pa_nil))))))
    (pss_cons (ps_set (i := 4) scRRule.nd rfl (Or.inl rfl) (pe_op op_add (pv 1) (pe_callB call_len_seq rfl B.len PySem.boot_len (pa_cons (pv 3) pa_nil))))
    (pss_cons (ps_if (PW.pt (pw_or (pt_not (pt_truth (pv 3) (by intro _; rfl))) (pw_or1 (pt_cmpR op_ne (pe_slice sl_str (pv 0) (po_some (pv 4)) (po_some (pe_op op_add (pv 4) pe_int))) pe_str (nomark _))))) (pss_one (ps_raiseInv (W := fun cls d _ H => E cls d H) rfl T B.super ht hr (takes_of rfl rfl rfl rfl) (pa_cons (pv 4) pa_nil))) pss_nil)
    (pss_cons (ps_set (i := 5) scRRule.nd rfl (Or.inl rfl) (pe_call L.ok (hr.mono (by decide)) rfl L.mg_ L.kp L.bd .nil pass0 (pa_cons (pv 0) (pa_cons (pe_op op_add (pv 4) pe_int) (pa_cons (pv 2) (pa_cons (pe_callB call_len_seq rfl B.len PySem.boot_len (pa_cons (pv 3) pa_nil)) pa_nil))))))
    (pss_cons (ps_set (i := 6) scRRule.nd rfl (Or.inl rfl) (pe_op op_add (pe_op op_add (pv 4) pe_int) (pe_callB call_len_seq rfl B.len PySem.boot_len (pa_cons (pv 5) pa_nil))))
    (pss_cons (ps_if (pt_cmpR op_lt (pe_callB call_len_seq rfl B.len PySem.boot_len (pa_cons (pv 5) pa_nil)) (pe_callB call_len_seq rfl B.len PySem.boot_len (pa_cons (pv 3) pa_nil)) (nomark _)) (pss_one (ps_raiseInv (W := fun cls d _ H => E cls d H) rfl T B.super ht hr (takes_of rfl rfl rfl rfl) (pa_cons (pv 6) pa_nil))) pss_nil)
    (pss_cons (ps_if (pt_cmpR (op_eqS hr.units) (pv 3) (pv 5) (nomark _)) (pss_one (ps_raiseInv (W := fun cls d _ H => E cls d H) rfl T B.super ht hr (takes_of rfl rfl rfl rfl) (pa_cons (pe_op op_sub (pv 6) pe_int) pa_nil))) pss_nil)
    (pss_one (ps_ret (pe_tup (pa_cons (pe_tup (pa_cons (pv 3) (pa_cons (pv 5) pa_nil))) (pa_cons (pv 6) pa_nil))))))))))), ?_⟩
  refine ⟨_, rfl, _, rfl, _, rfl, z, i, 3, n, rfl, hz, hi, Nat.le_refl _, fun x H1 g1 hx => ?_⟩
  unfold ruleA at hq
  simp only at hq
  have hin := lettersA_in (codes z) n 3 i
  have hlen := lettersA_len (codes z) n 3 i
  generalize lettersA (codes z) i n 3 = a at hx hq hin hlen ⊢
  obtain ⟨xa, rfl, hxa⟩ := dp_side.mp hx
  -- sign
  refine ⟨_, rfl, _, rfl, xa, _, rfl, .inr hxa, (i : Int), (a.length : Int), rfl, by rw [List.length_map], ?_⟩
  show gName 4 (V.int ((i + a.length : Nat) : Int)) _ _ _
  have hg : i + a.length ≤ z.length := by
    rcases hin with q | q
    · omega
    · rw [q]; exact hi
  generalize hge : i + a.length = g at hq hg ⊢
  -- if not left or ..
  by_cases c1 : a = []
  · refine ⟨_, rfl, false, .inr (.inl ⟨_, hxa, by rw [c1]; rfl⟩), ?_⟩
    refine iteT ?_
    refine iteT ?_
    rw [if_pos (.inl c1)] at hq
    exact ⟨_, rfl, _, rfl, short_nat (by omega), fun d hd => (hq.up g1) d _ (.new hd) upd_same⟩
  refine ⟨_, rfl, true, .inr (.inl ⟨_, hxa, by cases a with | nil => exact absurd rfl c1 | cons => rfl⟩), ?_⟩
  refine iteF ?_
  refine ⟨_, rfl, _, rfl, _, rfl, _, rfl, _, _, rfl, rfl, _, rfl, z, rfl, small_fits hz, rfl, _, rfl, ?_⟩
  rw [s_gt, cut1_eq]
  by_cases c2 : (codes z)[g]? = some 62
  case neg =>
    rw [decide_eq_false c2]
    refine iteT ?_
    rw [if_pos (.inr c2)] at hq
    exact ⟨_, rfl, _, rfl, short_nat (by omega), fun d hd => (hq.up g1) d _ (.new hd) upd_same⟩
  rw [decide_eq_true c2]
  refine iteF ?_
  rw [if_neg (fun z => z.elim c1 fun y => y c2)] at hq
  have hgl : g < (codes z).length := (List.getElem?_eq_some_iff.mp c2).1
  -- right
  refine ⟨_, rfl, _, rfl, _, _, rfl, rfl, _, rfl, _, rfl, xa, _, rfl, .inr hxa, z, g + 1, a.length, n, ?_, hz, by omega, hlen, fun y H2 g2 hy => ?_⟩
  · rw [List.length_map]; rfl
  have hin2 := lettersA_in (codes z) n a.length (g + 1)
  have hlen2 := lettersA_len (codes z) n a.length (g + 1)
  generalize lettersA (codes z) (g + 1) n a.length = b at hy hq hin2 hlen2 ⊢
  obtain ⟨xb, rfl, hxb⟩ := dp_side.mp hy
  have hxa2 := g2.ext.sqT hxa
  have hx2 : Dp K H2 (.ref xa) (dSide a) := dp_side.mpr ⟨xa, rfl, hxa2⟩
  have g12 := g1.trans g2
  refine ⟨_, rfl, _, _, rfl, rfl, _, rfl, xb, _, rfl, .inr hxb, (g : Int) + 1, (b.length : Int), rfl, by rw [List.length_map], ?_⟩
  show gName 6 (V.int ((g + 1 + b.length : Nat) : Int)) _ _ _
  have he : g + 1 + b.length ≤ z.length := by
    rcases hin2 with q | q
    · omega
    · rw [q]; show g + 1 ≤ _; omega
  generalize hee : g + 1 + b.length = e at hq he ⊢
  -- if len(right) < len(left)
  refine ⟨_, rfl, xb, _, rfl, .inr hxb, _, rfl, xa, _, rfl, .inr hxa2, _, _, rfl, rfl, _, rfl, ?_⟩
  rw [List.length_map, List.length_map]
  refine ite2 (fun c3 => ?_) (fun c3 => ?_)
  · have c3' : b.length < a.length := by
      have q : (b.length : Int) < (a.length : Int) := by simpa using c3
      omega
    rw [if_pos c3'] at hq
    exact ⟨_, rfl, _, rfl, short_nat (by omega), fun d hd => (hq.up g12) d _ (.new hd) upd_same⟩
  have c3' : ¬ b.length < a.length := by
    have q : ¬ (b.length : Int) < (a.length : Int) := by simpa using c3
    omega
  rw [if_neg c3'] at hq
  -- if left == right
  refine ⟨_, rfl, _, rfl, a, b, hx2, hy, _, rfl, ?_⟩
  by_cases c4 : a = b
  · rw [decide_eq_true c4]
    refine iteT ?_
    rw [if_pos c4] at hq
    have ee : (e : Int) - 1 = ((e - 1 : Nat) : Int) := by omega
    refine ⟨_, rfl, _, _, rfl, rfl, _, rfl, ?_, fun d hd => (hq.up g12) d _ (.new hd) ?_⟩
    · show shortI (V.int ((e : Int) - 1))
      rw [ee]; exact short_nat (by omega)
    · rw [upd_same]
      show some (HO.xd [((("place" : Str)), V.int ((e : Int) - 1))]) = _
      rw [ee]
  · rw [decide_eq_false c4]
    refine iteF ?_
    rw [if_neg c4] at hq
    refine ⟨_, rfl, _, rfl, (by show 2 ≤ sizeLine; decide), fun p hp => ⟨_, rfl, (by show 2 ≤ sizeLine; decide), fun q hq' => ?_⟩⟩
    have gp : Gw [] H2 (upd H2 p (.tup [.ref xa, .ref xb])) := .new hp
    have gq := gp.trans (Gw.new (M := []) (o := .tup [.ref p, .int (e : Int)]) hq')
    refine hq q (.ref p) _ (g12.trans gq) (SqT.of upd_same) (dp_rule.mpr ⟨p, _, _, rfl, ?_, Dp.ext gq.ext (still_side _) hx2, Dp.ext gq.ext (still_side _) hy⟩)
    exact (Gw.new (M := []) hq').ext.sqT (SqT.of upd_same)
end
end SB
/-! KReadB -/
set_option Elab.async false
set_option linter.all false
set_option maxRecDepth 100000
set_option maxHeartbeats 4000000
namespace SB
open PySem PySem.Spec PyProof.Rows L2
theorem readA_eq (L : List Nat) : readA L = match manyA L with
    | .error p => .error p
    | .ok (n, i) => match bodyA L n (skipA L i) [] with
      | .error p => .error p
      | .ok rs => .ok (n, rs) := by
  unfold readA manyA
  simp only
  split
  · rfl
  · split <;> rfl
theorem manyA_ok {L : List Nat} {n : Int} {i : Nat} (h : manyA L = .ok (n, i)) : 1 ≤ n ∧ n ≤ 4 ∧ i ≤ L.length := by
  unfold manyA at h
  simp only at h
  split at h
  · cases h
  · rename_i c
    split at h
    · cases h
    · rename_i c2
      have c2' : L[skipA L 0 + 1]? = some 58 := by simpa using c2
      have hl := (List.getElem?_eq_some_iff.mp c2').1
      have c' : 1 ≤ digA L (skipA L 0) ∧ digA L (skipA L 0) ≤ 4 := by
        by_cases q : 1 ≤ digA L (skipA L 0) ∧ digA L (skipA L 0) ≤ 4
        · exact q
        · exact absurd q c
      cases h
      exact ⟨c'.1, c'.2, by omega⟩
theorem dpAll_snoc {K : PySem.W.Frag} {H : Hp} : ∀ {xs : List V} {ds : List PyData} {x : V} {d : PyData}, DpAll K H xs ds → Dp K H x d → DpAll K H (xs ++ [x]) (ds ++ [d])
  | _, _, _, _, .nil, h => .cons h .nil
  | _, _, _, _, .cons h1 h2, h => .cons h1 (dpAll_snoc h2 h)
section
variable {P : Program} {w : World} {K : PySem.W.Frag} {mg : Str → Option Value} {base : Heap}
theorem scReadBook : FnScope ["text", "many", "at", "rules", "rule", "end"] ["text"] (defScope sReadBook) := ⟨rfl, rfl, rfl, by decide +kernel, rfl, by decide +kernel, by decide +kernel⟩
theorem ok_readBook {f fS fM fR fN CI : Addr} {fd fdS fdM fdR fdN : FuncData} (F : FnP K "read_book" sReadBook f fd) (S : At P w K mg base CX0 1 "skip_spaces" ["text", "at"] spSkip fS fdS) (M : At P w K mg base (L2.CX P w) 3 "read_many" ["text"] (spMany K CI) fM fdM)
    (R : At P w K mg base (L2.CX P w) 3 "read_rule" ["text", "at", "many"] (spRRule K CI) fR fdR) (N : At P w K mg base (L2.CX P w) 3 "next_rule" ["text", "at"] (spNext CI) fN fdN)
    {fI : Addr} (T : Inv0 P K mg CI fI) (B : Blt mg) (C : Cst mg) (ht : (P.main.scope.names.lookup ("super" : Str)).isSome = false) : FnOk P w K mg base (L2.CX P w) 4 f fd ["text"] (spReadBook K CI) := by
  obtain ⟨t12, m12⟩ := C.rules
  refine okC F scReadBook (fun vs H Q E h => ?_) (fun A outer s H vs Q E hr h => ?_)
  · obtain ⟨z, rfl, _⟩ := h
    rfl
  obtain ⟨z, rfl, hz, hq⟩ := h
  have hl := codes_len z
  have hr3 : Room 3 (A.deeper (envOfC "read_book" (defScope sReadBook) s.heap.objs.size f fd.code)) := hr
  refine ⟨_, pss_cons (ps_if (pt_not (pt_val (pe_callB call_isi (by rfl) B.isi boot_isinstance (pa_cons (pv 0) (pa_cons (pe_bltn (v := .ty "str") (by rfl) B.str (by decide +kernel) rfl) pa_nil))))) (pss_one ps_never) pss_nil)
    (pss_cons (ps_asg (pe_callS (E := WE (fun cls d _ H => E cls d H)) M.ok hr3 rfl M.mg_ M.kp M.bd (fun σ => passAt (takes_of rfl rfl rfl rfl) σ) (pa_cons (pv 0) pa_nil)) (pg_tup (by rfl) (pgs_cons (pg_name (i := 1) scReadBook.nd rfl (.inl rfl)) (pgs_cons (pg_name (i := 2) scReadBook.nd rfl (.inl rfl)) pgs_nil))))
    (pss_cons (ps_set (i := 2) scReadBook.nd rfl (Or.inl rfl) (pe_call S.ok (hr.mono (by decide)) rfl S.mg_ S.kp S.bd .nil pass0 (pa_cons (pv 0) (pa_cons (pv 2) pa_nil))))
    (pss_cons (ps_set (i := 3) scReadBook.nd rfl (Or.inl rfl) (pe_lst pa_nil))
    (pss_cons (ps_mid (ps_while (passes_of rfl) (pt_mid (pt_cmpR op_lt (pv 2) (pe_callB call_len_str rfl B.len PySem.boot_len (pa_cons (pv 0) pa_nil)) (nomark _)))
      (pss_cons (ps_asg (pe_callS (E := WE (fun cls d _ H => E cls d H)) R.ok hr3 rfl R.mg_ R.kp R.bd (fun σ => passAt (takes_of rfl rfl rfl rfl) σ) (pa_cons (pv 0) (pa_cons (pv 2) (pa_cons (pv 1) pa_nil)))) (pg_tup (by rfl) (pgs_cons (pg_name (i := 4) scReadBook.nd rfl (.inl rfl)) (pgs_cons (pg_name (i := 5) scReadBook.nd rfl (.inl rfl)) pgs_nil))))
      (pss_cons (ps_mid (ps_if (PW.pt (pw_or (pt_cmpR op_eq (pe_callB call_len_seq rfl B.len PySem.boot_len (pa_cons (pv 3) pa_nil)) (pe_glob (v := .int 12) rfl m12 ⟨_, rfl⟩) (nomark _))
          (pw_or1 (PW.pt (pw_and (pt_truth (pv 3) (by intro _; rfl)) (pw_and1 (pt_cmpR (op_leR (units3 hr)) (pv 4) (pe_ix ix_list (pv 3) (pe_un un_neg pe_int) (fun _ _ => rfl)) (nomark _)))))))) (pss_one (ps_raiseInv (W := fun cls d _ H => E cls d H) rfl T B.super ht hr (takes_of rfl rfl rfl rfl) (pa_cons (pv 2) pa_nil))) pss_nil))
      (pss_cons (ps_expr (pe_bm PySem.F.plainAttrs_list PySem.F.slot_list_append PySem.F.type_list_append mt_append (pv 3) (pa_cons (pv 4) pa_nil)))
      (pss_one (ps_set (i := 2) scReadBook.nd rfl (Or.inl rfl) (pe_callS (E := WE (fun cls d _ H => E cls d H)) N.ok hr3 rfl N.mg_ N.kp N.bd (fun σ => passAt (takes_of rfl rfl rfl rfl) σ) (pa_cons (pv 0) (pa_cons (pv 5) pa_nil)))))))))
    ) (pss_one (ps_ret (pe_tup (pa_cons (pv 1) (pa_cons (pe_callTy call_tuple_of (by rfl) B.tuple boot_tuple (pa_cons (pv 3) pa_nil)) pa_nil))))))))), ?_⟩
  refine ⟨_, rfl, .str z, .ty "str", .type "str", .type "str", true, rfl, .ty _, .base (.str z), kit_ty (by decide +kernel), _, rfl, ?_⟩
  refine iteF ?_
  rw [readA_eq] at hq
  refine ⟨_, rfl, z, rfl, hz, ?_⟩
  cases hm : manyA (codes z) with
  | error p => rw [hm] at hq; exact hq
  | ok q =>
  obtain ⟨n, i⟩ := q
  rw [hm] at hq
  simp only at hq ⊢
  obtain ⟨hn1, hn4, hi⟩ := manyA_ok hm
  intro a H1 g1 ha
  refine ⟨a, _, rfl, ha, rfl, _, _, rfl, _, _, rfl, rfl, ?_⟩
  -- at = skip_spaces(text, at)
  refine ⟨_, rfl, _, rfl, z, i, rfl, hz, by omega, ?_⟩
  have hsk := skipA_lt (codes z) i hi
  generalize skipA (codes z) i = j0 at hq hsk ⊢
  -- rules = []
  refine ⟨by show 0 ≤ sizeLine; decide, fun l hl0 => ?_⟩
  refine ⟨fun σ H' => ∃ (rs : List Rule) (xs : List V) (j : Nat) (p4 p5 : Option V), σ = [some (.str z), some (.int n), some (.int (j : Int)), some (.ref l), p4, p5] ∧ Gw [] H H' ∧ H' l = some (.lst xs) ∧ DpAll K H' xs (rs.map dRule) ∧ bodyA (codes z) n j0 [] = .ok rs, ?_, ?_⟩
  case refine_2 =>
    rintro σ H' ⟨rs, xs, j, p4, p5, rfl, g, e, hall, hb⟩
    rw [hb] at hq
    simp only at hq
    refine ⟨_, rfl, _, rfl, l, _, rfl, .inl ⟨SqL.of e, fun t ht => ⟨(by show 2 ≤ sizeLine; decide), fun q hq' => ?_⟩⟩⟩
    have gt : Gw [] H' (upd H' t (.tup xs)) := .new ht
    have gq := gt.trans (Gw.new (M := []) (o := .tup [.int n, .ref t]) hq')
    exact hq (.ref q) _ (g.trans gq) (dp_book.mpr ⟨q, _, rfl, SqT.of upd_same, dp_rules.mpr ⟨t, xs, rfl, (Gw.new (M := []) hq').ext.sqT (SqT.of upd_same), DpAll.ext gq.ext (still_all rs) hall⟩⟩)
  refine while_by (fun σ H' => ∃ (rs : List Rule) (xs : List V) (j : Nat) (p4 p5 : Option V), σ = [some (.str z), some (.int n), some (.int (j : Int)), some (.ref l), p4, p5] ∧ Gw [] H1 H' ∧ H' l = some (.lst xs) ∧ DpAll K H' xs (rs.map dRule) ∧ j ≤ z.length ∧ rs.length ≤ 12 ∧ bodyA (codes z) n j rs = bodyA (codes z) n j0 [])
    (fun σ H' => match σ with | [_, _, some (.int j), _, _, _] => z.length - j.toNat | _ => 0) ⟨[], [], j0, none, none, rfl, .new hl0, upd_same, .nil, by omega, Nat.zero_le _, rfl⟩ ?_ (fun σ H Q Q' h ⟨P, q1, q2⟩ => ⟨P, q1, fun v H' p => h _ _ (q2 v H' p)⟩)
  rintro σ H' ⟨rs, xs, j, p4, p5, rfl, g, e, hall, hj, hlen, hb⟩
  have hxl : xs.length = rs.length := by rw [dpAll_length hall, List.length_map]
  have erH : ∀ {p : Nat}, bodyA (codes z) n j rs = .error p → Er CI H E p := fun {p} q => by
    rw [← hb, q] at hq
    exact hq
  refine ⟨_, ?_, fun _ _ q => q⟩
  refine ⟨_, rfl, _, rfl, z, rfl, small_fits hz, _, _, rfl, rfl, _, rfl, ?_⟩
  refine ite2 (fun c => ?_) (fun c => ?_)
  case refine_2 =>
    have c' : ¬ (j : Int) < (z.length : Int) := by simpa using c
    exact ⟨rs, xs, j, p4, p5, rfl, g1.trans g, e, hall, by rw [← hb, bodyA_end (by omega)]⟩
  have c' : (j : Int) < (z.length : Int) := by simpa using c
  have hlt : j < (codes z).length := by omega
  -- rule, end = read_rule(text, at, many)
  refine ⟨_, rfl, _, rfl, _, rfl, z, j, n, rfl, hz, hj, ?_⟩
  cases hru : ruleA (codes z) j n with
  | error p => exact ((erH (bodyA_bad hlt hru)).up g1).up g
  | ok q =>
  obtain ⟨r, e2⟩ := q
  simp only
  obtain ⟨_, _, _, _, _, he2, _, _⟩ := ruleA_ok hru
  intro a2 x H2 g2 ha2 hx
  refine ⟨a2, _, rfl, ha2, rfl, _, _, rfl, _, _, rfl, rfl, ?_⟩
  have e' : H2 l = some (.lst xs) := g2.ext.lst e List.not_mem_nil
  have hall2 : DpAll K H2 xs (rs.map dRule) := DpAll.ext g2.ext (still_all rs) hall
  have g12 := g.trans g2
  -- if len(rules) == 12 or ..
  refine ⟨fun σ H' => σ = [some (.str z), some (.int n), some (.int (j : Int)), some (.ref l), some x, some (.int (e2 : Int))] ∧ H' = H2 ∧ ¬ stopA rs r, ?_, ?_⟩
  · refine ⟨_, rfl, l, _, rfl, .inl (SqL.of e'), rfl, _, rfl, ?_⟩
    rw [hxl]
    have raise_ : stopA rs r → Er CI H2 E j := fun st => ((erH (bodyA_stop hlt hru st)).up g1).up g12
    by_cases c12 : rs.length = 12
    · rw [decide_eq_true (show V.int (rs.length : Int) = V.int 12 by rw [c12]; rfl)]
      refine iteT ?_
      refine iteT ?_
      exact ⟨_, rfl, _, rfl, short_nat (by omega), fun d hd => raise_ (.inl c12) d _ (.new hd) upd_same⟩
    rw [decide_eq_false (show ¬ V.int (rs.length : Int) = V.int 12 by intro q; injection q with q; omega)]
    refine iteF ?_
    cases hgl : rs.getLast? with
    | none =>
      have hnil : rs = [] := List.getLast?_eq_none_iff.mp hgl
      have xnil : xs = [] := List.eq_nil_of_length_eq_zero (by rw [hxl, hnil]; rfl)
      refine ⟨_, rfl, false, .inl ⟨_, SqL.of e', by rw [xnil]; rfl⟩, ?_⟩
      refine iteF ?_
      refine iteF ?_
      exact ⟨rfl, rfl, fun st => st.elim c12 fun ⟨q, z1, _⟩ => by rw [hgl] at z1; cases z1⟩
    | some q =>
      obtain ⟨rs0, rfl⟩ := List.getLast?_eq_some_iff.mp hgl
      have hx0 : ∃ xs0 x0, xs = xs0 ++ [x0] := by
        have : xs ≠ [] := fun z => by rw [z, List.length_append] at hxl; simp at hxl
        exact ⟨xs.dropLast, xs.getLast this, (List.dropLast_concat_getLast this).symm⟩
      obtain ⟨xs0, x0, rfl⟩ := hx0
      have hd0 : Dp K H2 x0 (dRule q) := by
        have hl0 : xs0.length = rs0.length := by rw [List.length_append, List.length_append] at hxl; simpa using hxl
        obtain ⟨d, hd1, hd2⟩ := dpAll_get (i := xs0.length) hall2 (v := x0) (by simp)
        rw [hl0, List.map_append, List.getElem?_append_right (by rw [List.length_map]; exact Nat.le_refl _), List.length_map, Nat.sub_self] at hd1
        cases hd1
        exact hd2
      refine ⟨_, rfl, true, .inl ⟨_, SqL.of e', by cases xs0 <;> rfl⟩, ?_⟩
      refine iteT ?_
      refine ⟨_, rfl, _, rfl, 1, rfl, l, _, _, x0, rfl, rfl, SqL.of e', atI_last xs0 x0, r, q, hx, hd0, _, rfl, ?_⟩
      cases cq : ltR q r with
      | false =>
        refine iteT ?_
        exact ⟨_, rfl, _, rfl, short_nat (by omega), fun d hd => raise_ (.inr ⟨q, hgl, cq⟩) d _ (.new hd) upd_same⟩
      | true =>
        refine iteF ?_
        exact ⟨rfl, rfl, fun st => st.elim c12 fun ⟨q', z1, z2⟩ => by rw [hgl] at z1; cases z1; rw [cq] at z2; cases z2⟩
  rintro σ H' ⟨rfl, rfl, hst⟩
  -- rules.append(rule)
  refine ⟨_, rfl, .inl ⟨rfl, _, SqL.of e'⟩, _, rfl, l, _, _, rfl, rfl, e', ?_, ?_⟩
  · rw [hxl]
    exact Nat.lt_of_lt_of_le (show rs.length < 2000 by omega) (by rw [sizeLine_eq]; decide)
  have g3 : Gw [l] H' (upd H' l (.lst (xs ++ [x]))) := .set e' rfl List.mem_cons_self
  have g4 : Gw [] H1 (upd H' l (.lst (xs ++ [x]))) := (g12.more.trans g3).drop hl0
  have hall3 : DpAll K (upd H' l (.lst (xs ++ [x]))) (xs ++ [x]) ((rs ++ [r]).map dRule) := by
    rw [List.map_append]
    exact dpAll_snoc (DpAll.ext g3.ext (still_all rs) hall2) (Dp.ext g3.ext (still_rule r) hx)
  -- at = next_rule(text, end)
  refine ⟨_, rfl, _, rfl, z, e2, rfl, hz, by omega, ?_⟩
  cases hne : nextA (codes z) e2 with
  | error p => exact ((erH (bodyA_next hlt hru hst hne)).up g1).up g4
  | ok k =>
  simp only
  obtain ⟨k1, k2, k3⟩ := bodyA_go hlt hru hst hne
  have hnot : rs.length ≠ 12 := fun q => hst (.inl q)
  refine ⟨⟨rs ++ [r], xs ++ [x], k, _, _, rfl, g4, upd_same, hall3, by omega, ?_, by rw [← k3, hb]⟩, ?_⟩
  · rw [List.length_append]
    show rs.length + 1 ≤ 12
    omega
  · show z.length - ((k : Int)).toNat < z.length - ((j : Int)).toNat
    omega
end
end SB
/-! KBooks -/
set_option Elab.async false
set_option linter.all false
set_option maxRecDepth 100000
set_option maxHeartbeats 4000000
namespace SB
open PySem PySem.Spec PyProof.Rows L2
theorem units8 {k : Nat} {A : Around} (r : Room k A) : A.units + 8 < cLine := by have := r.un; omega
theorem units20 {k : Nat} {A : Around} (r : Room k A) : A.units + 20 < cLine := by have := r.un; omega
abbrev sRenamed : Stmt := top 30
abbrev sMirrored : Stmt := top 31
def renB (o : List Int) (b : Book) : Book := (b.1, sortR (b.2.map fun r => (mapS o r.1, mapS o r.2)))
def mirB (b : Book) : Book := (b.1, sortR (b.2.map fun r => (r.1.reverse, r.2.reverse)))
def spRenamed (K : PySem.W.Frag) (T : List Addr) : Sp := fun vs H Q _ => ∃ (v : V) (b : Book) (n : Nat) (oa : Addr) (o : List Int), vs = [v, .ref oa] ∧ Dp K H v (dBook b) ∧ OkB b ∧ b.1 = (n : Int) ∧ SqT K H oa (o.map V.int) ∧ OrdOf n o ∧ Tabs T H ∧ ∀ v H', Ext [] H H' → Tabs T H' → Dp K H' v (dBook (renB o b)) → Q v H'
def spMirrored (K : PySem.W.Frag) (T : List Addr) : Sp := fun vs H Q _ => ∃ (v : V) (b : Book), vs = [v] ∧ Dp K H v (dBook b) ∧ OkB b ∧ Tabs T H ∧ ∀ v H', Ext [] H H' → Tabs T H' → Dp K H' v (dBook (mirB b)) → Q v H'
section
variable {P : Program} {w : World} {K : PySem.W.Frag} {mg : Str → Option Value} {base : Heap} {T : List Addr}
theorem scMirrored : FnScope ["book", "many", "rules", "changed", "left", "right"] ["book"] (defScope sMirrored) := ⟨rfl, rfl, rfl, by decide +kernel, rfl, by decide +kernel, by decide +kernel⟩
theorem ok_mirrored {f fC : Addr} {fd fdC : FuncData} (F : FnP K "mirrored" sMirrored f fd) (Ck : At P w K mg base CX0 6 "check_book" ["book"] (spCheck K T) fC fdC) (B : Blt mg) : FnOk P w K mg base CX0 7 f fd ["book"] (spMirrored K T) := by
  refine okN F scMirrored (fun vs H Q E h => ?_) (fun A outer s H vs Q E hr h => ?_)
  · obtain ⟨v, b, rfl, _⟩ := h
    rfl
  obtain ⟨v, b, rfl, hv, hb, hT0, hq⟩ := h
  refine ⟨_, pss_cons (ps_expr (pe_call Ck.ok hr rfl Ck.mg_ Ck.kp Ck.bd .nil pass0 (pa_cons (pv 0) pa_nil)))
    (pss_cons (ps_asg (pv 0) (pg_tup (by rfl) (pgs_cons (pg_name (i := 1) scMirrored.nd rfl (.inl rfl)) (pgs_cons (pg_name (i := 2) scMirrored.nd rfl (.inl rfl)) pgs_nil))))
    (pss_cons (ps_setLc (i := 3) (own := [("left", 4), ("right", 5)]) (g := gTup K 2 (gCons (gName 4) (gCons (gName 5) gNil))) (te := tTup (tCons (tRevT K (tVar 4)) (tCons (tRevT K (tVar 5)) tNil))) (tt := tYes) rfl scMirrored.nd rfl rfl (sw_true rfl rfl rfl (by decide +kernel)) (pi_tup (pv 2)) (blkOk_by (own := [("left", 4), ("right", 5)]) (N := ["book", "many", "rules", "changed", "left", "right"]) (sc := defScope sMirrored) (by decide +kernel))
        (fun _ _ _ _ _ => pg_tup (by rfl) (pgs_cons (pg_name (i := 4) scMirrored.nd rfl (Or.inl rfl)) (pgs_cons (pg_name (i := 5) scMirrored.nd rfl (Or.inl rfl)) pgs_nil))) (fun _ _ _ _ _ => pts_nil)
        (fun _ _ _ _ _ => pe_tup (pa_cons (pe_revT (pv 4)) (pa_cons (pe_revT (pv 5)) pa_nil))))
    (pss_one (ps_ret (pe_tup (pa_cons (pv 1) (pa_cons (pe_callTy call_tuple_of (by rfl) B.tuple boot_tuple (pa_cons (pe_callB (cr_sortedR (units8 hr)) (by rfl) B.sorted boot_sorted (pa_cons (pv 3) pa_nil)) pa_nil)) pa_nil))))))), ?_⟩
  refine ⟨_, rfl, v, b, rfl, hv, hb, hT0, fun H1 e1 t1 => ?_⟩
  obtain ⟨a, y, rfl, hs, hy⟩ := dp_book.mp (Dp.ext e1 (still_book b) hv)
  obtain ⟨ar, xs, rfl, hsr, hall⟩ := dp_rules.mp hy
  have hl : xs.length = b.2.length := by rw [dpAll_length hall, List.length_map]
  have hb12 := (okB_many hb).2.2
  refine ⟨_, rfl, a, _, rfl, hs, rfl, _, _, rfl, _, _, rfl, rfl, ?_⟩
  refine ⟨_, rfl, ar, rfl, ⟨_, hsr⟩, fun D hD => lc_tup (K := K) (a := ar) (xs := xs) (fun i H2 => ∃ ys, H2 D = some (.lst ys) ∧ ys.length = i ∧ DpAll K H2 ys (((b.2.take i).map fun r : Rule => ((r.1.reverse, r.2.reverse) : Rule)).map dRule) ∧ Gw [D] H1 H2)
    ⟨[], upd_same, rfl, .nil, .new hD⟩ (fun i H2 _ ⟨_, _, _, _, g⟩ => g.ext.sqT hsr) ?_ ?_⟩
  · rintro i x H2 hi ⟨ys, e, hyl, hdy, g⟩
    have hix : i < xs.length := (List.getElem?_eq_some_iff.mp hi).1
    obtain ⟨d, hd1, hd2⟩ := dpAll_get hall hi
    obtain ⟨r, hr1, rfl⟩ : ∃ r, b.2[i]? = some r ∧ d = dRule r := by
      rw [List.getElem?_map] at hd1
      cases q : b.2[i]? with
      | none => rw [q] at hd1; cases hd1
      | some r => rw [q] at hd1; exact ⟨r, rfl, (Option.some.inj hd1).symm⟩
    obtain ⟨ra, x1, x2, rfl, hra, hx1, hx2⟩ := dp_rule.mp (Dp.ext g.ext (still_rule r) hd2)
    obtain ⟨s1, rfl, hs1⟩ := dp_side.mp hx1
    obtain ⟨s2, rfl, hs2⟩ := dp_side.mp hx2
    refine ⟨ra, _, rfl, hra, rfl, _, _, rfl, _, _, rfl, rfl, rfl, yes_of ?_⟩
    refine iteT ?_
    refine ⟨_, rfl, s1, _, rfl, hs1, fun p1 hp1 => ⟨_, rfl, s2, _, rfl, (Gw.new (M := []) hp1).ext.sqT hs2, fun p2 hp2 => ⟨(by show 2 ≤ sizeLine; decide), fun p3 hp3 => ?_⟩⟩⟩
    have g1 : Gw [] H2 (upd H2 p1 (.tup (r.1.map V.int).reverse)) := .new hp1
    have g2 := g1.trans (Gw.new (M := []) (o := .tup (r.2.map V.int).reverse) hp2)
    have g3 := g2.trans (Gw.new (M := []) (o := .tup [.ref p1, .ref p2]) hp3)
    have e3 := g3.ext.lst e List.not_mem_nil
    have hru : Dp K (upd (upd (upd H2 p1 (.tup (r.1.map V.int).reverse)) p2 (.tup (r.2.map V.int).reverse)) p3 (.tup [.ref p1, .ref p2])) (.ref p3) (dRule (r.1.reverse, r.2.reverse)) := by
      refine dp_rule.mpr ⟨p3, _, _, rfl, SqT.of upd_same, dp_side.mpr ⟨p1, rfl, ?_⟩, dp_side.mpr ⟨p2, rfl, ?_⟩⟩
      · rw [List.map_reverse]
        exact ((Gw.new (M := []) hp2).trans (.new hp3)).ext.sqT (SqT.of upd_same)
      · rw [List.map_reverse]
        exact (Gw.new (M := []) hp3).ext.sqT (SqT.of upd_same)
    have gD := (g.trans g3.more).trans (Gw.set (M := [D]) (o := .lst (ys ++ [.ref p3])) e3 rfl List.mem_cons_self)
    have g4 : Gw [D] _ (upd (upd (upd (upd H2 p1 (.tup (r.1.map V.int).reverse)) p2 (.tup (r.2.map V.int).reverse)) p3 (.tup [.ref p1, .ref p2])) D (.lst (ys ++ [.ref p3]))) := Gw.set e3 rfl List.mem_cons_self
    refine ⟨_, e3, lt_line (by omega), _, upd_same, by rw [List.length_append, hyl]; rfl, ?_, gD⟩
    rw [List.take_succ, hr1, List.map_append, List.map_append]
    exact dpAll_snoc (DpAll.ext (g3.more.trans g4).ext (still_all _) hdy) (Dp.ext g4.ext (still_rule _) hru)
  · rintro H2 ⟨ys, e, hyl, hdy, g⟩
    rw [hl, List.take_length] at hdy
    have g0 := g.drop hD
    refine ⟨_, rfl, _, rfl, D, ys, _, rfl, SqL.of e, hdy, fun l zs hl0 hz => ⟨l, _, rfl, .inl ⟨SqL.of upd_same, fun t ht => ⟨(by show 2 ≤ sizeLine; decide), fun q hq' => ?_⟩⟩⟩⟩
    have gl : Gw [] H2 (upd H2 l (.lst zs)) := .new hl0
    have gt := gl.trans (Gw.new (M := []) (o := .tup zs) ht)
    have gq := gt.trans (Gw.new (M := []) (o := .tup [.int b.1, .ref t]) hq')
    have ga := g0.trans gq
    exact hq (.ref q) _ (e1.trans ga.ext) (ga.tab T t1) (dp_book.mpr ⟨q, _, rfl, SqT.of upd_same, dp_rules.mpr ⟨t, zs, rfl, (Gw.new (M := []) hq').ext.sqT (SqT.of upd_same), DpAll.ext gq.ext (still_all _) hz⟩⟩)
theorem rule_lets {n : Int} {r : Rule} (h : ruleB n r = true) : Lets n r.1 ∧ Lets n r.2 := by
  unfold ruleB at h
  obtain ⟨h1, h⟩ := Bool.and_eq_true_iff.mp h
  obtain ⟨h2, _⟩ := Bool.and_eq_true_iff.mp h
  have key : ∀ s : Side, sideB n s = true → Lets n s := fun s hs x hx => by
    unfold sideB at hs
    obtain ⟨_, q2⟩ := Bool.and_eq_true_iff.mp hs
    have z := List.all_eq_true.mp q2 x hx
    unfold letterB at z
    exact of_decide_eq_true z
  exact ⟨key _ h1, key _ h2⟩
theorem scRenamed : FnScope ["book", "order", "many", "rules", "changed", "left", "right"] ["book", "order"] (defScope sRenamed) := ⟨rfl, rfl, rfl, by decide +kernel, rfl, by decide +kernel, by decide +kernel⟩
theorem ok_renamed {f fC fO fS : Addr} {fd fdC fdO fdS : FuncData} (F : FnP K "renamed" sRenamed f fd) (Ck : At P w K mg base CX0 6 "check_book" ["book"] (spCheck K T) fC fdC) (O : At P w K mg base CX0 4 "is_order" ["value", "many"] (spIsOrder K T) fO fdO) (S : At P w K mg base CX0 4 "renamed_side" ["side", "order"] (spRSide K T) fS fdS) (B : Blt mg) : FnOk P w K mg base CX0 7 f fd ["book", "order"] (spRenamed K T) := by
  refine okN F scRenamed (fun vs H Q E h => ?_) (fun A outer s H vs Q E hr h => ?_)
  · obtain ⟨v, b, n, oa, o, rfl, _⟩ := h
    rfl
  obtain ⟨v, b, n, oa, o, rfl, hv, hb, hbn, hoa, ho, hT0, hq⟩ := h
  refine ⟨_, pss_cons (ps_expr (pe_call Ck.ok hr rfl Ck.mg_ Ck.kp Ck.bd .nil pass0 (pa_cons (pv 0) pa_nil)))
    (pss_cons (ps_asg (pv 0) (pg_tup (by rfl) (pgs_cons (pg_name (i := 2) scRenamed.nd rfl (.inl rfl)) (pgs_cons (pg_name (i := 3) scRenamed.nd rfl (.inl rfl)) pgs_nil))))
    (pss_cons (ps_if (pt_not (pt_val (pe_call O.ok (hr.mono (by decide)) rfl O.mg_ O.kp O.bd .nil pass0 (pa_cons (pv 1) (pa_cons (pv 2) pa_nil))))) (pss_one ps_never) pss_nil)
    (pss_cons (ps_setLc (i := 4) (own := [("left", 5), ("right", 6)]) (g := gTup K 2 (gCons (gName 5) (gCons (gName 6) gNil))) (tt := tYes) rfl scRenamed.nd rfl rfl (sw_true rfl rfl rfl (by decide +kernel)) (pi_tup (pv 3)) (blkOk_by (own := [("left", 5), ("right", 6)]) (N := ["book", "order", "many", "rules", "changed", "left", "right"]) (sc := defScope sRenamed) (by decide +kernel))
        (fun _ _ _ _ _ => pg_tup (by rfl) (pgs_cons (pg_name (i := 5) scRenamed.nd rfl (Or.inl rfl)) (pgs_cons (pg_name (i := 6) scRenamed.nd rfl (Or.inl rfl)) pgs_nil))) (fun _ _ _ _ _ => pts_nil)
        (fun _ _ _ _ _ => pe_tup (pa_cons (pe_call S.ok (hr.mono (by decide)) rfl S.mg_ S.kp S.bd .nil pass0 (pa_cons (pv 5) (pa_cons (pv 1) pa_nil))) (pa_cons (pe_call S.ok (hr.mono (by decide)) rfl S.mg_ S.kp S.bd .nil pass0 (pa_cons (pv 6) (pa_cons (pv 1) pa_nil))) pa_nil))))
    (pss_one (ps_ret (pe_tup (pa_cons (pv 2) (pa_cons (pe_callTy call_tuple_of (by rfl) B.tuple boot_tuple (pa_cons (pe_callB (cr_sortedR (units8 hr)) (by rfl) B.sorted boot_sorted (pa_cons (pv 4) pa_nil)) pa_nil)) pa_nil)))))))), ?_⟩
  refine ⟨_, rfl, v, b, rfl, hv, hb, hT0, fun H1 e1 t1 => ?_⟩
  obtain ⟨a, y, rfl, hs, hy⟩ := dp_book.mp (Dp.ext e1 (still_book b) hv)
  obtain ⟨ar, xs, rfl, hsr, hall⟩ := dp_rules.mp hy
  have hl : xs.length = b.2.length := by rw [dpAll_length hall, List.length_map]
  have hb12 := (okB_many hb).2.2
  refine ⟨_, rfl, a, _, rfl, hs, rfl, _, _, rfl, _, _, rfl, rfl, ?_⟩
  obtain ⟨hnd, holen, homem⟩ := ord_nodup ho
  have hb4 := (okB_many hb).2.1
  refine ⟨_, rfl, _, rfl, oa, n, o, ?_, e1.sqT hoa, ho, by omega, t1, fun H2 g2 => ⟨_, rfl, ?_⟩⟩
  · rw [hbn]; rfl
  refine iteF ?_
  have hoa2 := g2.ext.sqT (e1.sqT hoa)
  have hsr2 := g2.ext.sqT hsr
  have t2 := g2.tab T t1
  have e2 := e1.trans g2.ext
  have hall2 : DpAll K H2 xs (b.2.map dRule) := DpAll.ext g2.ext (still_all b.2) hall
  clear hall hsr hs hoa
  refine ⟨_, rfl, ar, rfl, ⟨_, hsr2⟩, fun D hD => lc_tup (K := K) (a := ar) (xs := xs) (fun i H3 => ∃ ys, H3 D = some (.lst ys) ∧ ys.length = i ∧ DpAll K H3 ys (((b.2.take i).map fun r : Rule => ((mapS o r.1, mapS o r.2) : Rule)).map dRule) ∧ Gw [D] H2 H3)
    ⟨[], upd_same, rfl, .nil, .new hD⟩ (fun i H2 _ ⟨_, _, _, _, g⟩ => g.ext.sqT hsr2) ?_ ?_⟩
  · rintro i x H3 hi ⟨ys, e, hyl, hdy, g⟩
    have hix : i < xs.length := (List.getElem?_eq_some_iff.mp hi).1
    obtain ⟨d, hd1, hd2⟩ := dpAll_get hall2 hi
    obtain ⟨r, hr1, rfl⟩ : ∃ r, b.2[i]? = some r ∧ d = dRule r := by
      rw [List.getElem?_map] at hd1
      cases q : b.2[i]? with
      | none => rw [q] at hd1; cases hd1
      | some r => rw [q] at hd1; exact ⟨r, rfl, (Option.some.inj hd1).symm⟩
    obtain ⟨ra, x1, x2, rfl, hra, hx1, hx2⟩ := dp_rule.mp (Dp.ext g.ext (still_rule r) hd2)
    have hlets := rule_lets (hb.rl r (List.mem_of_getElem? hr1))
    rw [hbn, ← holen] at hlets
    refine ⟨ra, _, rfl, hra, rfl, _, _, rfl, _, _, rfl, rfl, rfl, yes_of ?_⟩
    refine iteT ?_
    refine ⟨_, rfl, _, rfl, x1, r.1, oa, o, rfl, hx1, g.ext.sqT hoa2, hlets.1, g.tab T t2, fun v1 H4 g4 hv1 => ⟨_, rfl, _, rfl, x2, r.2, oa, o, rfl, Dp.ext g4.ext (still_side _) hx2, (g.trans g4.more).ext.sqT hoa2, hlets.2, g4.tab T (g.tab T t2), fun v2 H5 g5 hv2 => ⟨(by show 2 ≤ sizeLine; decide), fun p3 hp3 => ?_⟩⟩⟩
    have g6 := (g4.trans g5).trans (Gw.new (M := []) (o := .tup [v1, v2]) hp3)
    have g7 := g5.trans (Gw.new (M := []) (o := .tup [v1, v2]) hp3)
    have e3 := g6.ext.lst e List.not_mem_nil
    have hru : Dp K (upd H5 p3 (.tup [v1, v2])) (.ref p3) (dRule (mapS o r.1, mapS o r.2)) :=
      dp_rule.mpr ⟨p3, _, _, rfl, SqT.of upd_same, Dp.ext g7.ext (still_side _) hv1, Dp.ext (Gw.new (M := []) hp3).ext (still_side _) hv2⟩
    have gset : Gw [D] (upd H5 p3 (.tup [v1, v2])) (upd (upd H5 p3 (.tup [v1, v2])) D (.lst (ys ++ [.ref p3]))) := Gw.set e3 rfl List.mem_cons_self
    refine ⟨_, e3, lt_line (by omega), _, upd_same, by rw [List.length_append, hyl]; rfl, ?_, (g.trans g6.more).trans gset⟩
    rw [List.take_succ, hr1, List.map_append, List.map_append]
    exact dpAll_snoc (DpAll.ext (g6.more.trans gset).ext (still_all _) hdy) (Dp.ext gset.ext (still_rule _) hru)
  · rintro H3 ⟨ys, e, hyl, hdy, g⟩
    rw [hl, List.take_length] at hdy
    have g0 := g.drop hD
    refine ⟨_, rfl, _, rfl, D, ys, _, rfl, SqL.of e, hdy, fun l zs hl0 hz => ⟨l, _, rfl, .inl ⟨SqL.of upd_same, fun t ht => ⟨(by show 2 ≤ sizeLine; decide), fun q hq' => ?_⟩⟩⟩⟩
    have gl : Gw [] H3 (upd H3 l (.lst zs)) := .new hl0
    have gt := gl.trans (Gw.new (M := []) (o := .tup zs) ht)
    have gq := gt.trans (Gw.new (M := []) (o := .tup [.int b.1, .ref t]) hq')
    have ga := g0.trans gq
    exact hq (.ref q) _ (e2.trans ga.ext) (ga.tab T t2) (dp_book.mpr ⟨q, _, rfl, SqT.of upd_same, dp_rules.mpr ⟨t, zs, rfl, (Gw.new (M := []) hq').ext.sqT (SqT.of upd_same), DpAll.ext gq.ext (still_all _) hz⟩⟩)
end
end SB
/-! KSetR -/
set_option Elab.async false
set_option linter.all false
set_option maxRecDepth 100000
set_option maxHeartbeats 2000000
/-! A set of rules: the search along the table, adding, laying anew. Few rules: the mask is 7 or 31. -/
namespace SB
open PySem PySem.Spec PyProof.Rows L2
section
variable (P : Program) (w : World)
abbrev hR (r : Rule) : Int := (nestedKind P w).hash (kRule r)
variable (hf : Rule → Int)
abbrev AtR (h : Heap) (p : Rule × Addr) : Prop := (nestedKind P w).is h (kRule p.1) p.2
abbrev cell (p : Rule × Addr) : Int × Value := (hf p.1, Value.ref p.2)
/-- a question put to a value has this answer and changes nothing -/
def Mute (f : Nat → Value → Sem Bool) (b : Bool) (n : Nat) (z : Shared) (v : Value) : Prop := ∀ (A : Around) (E : Value → Shared → Prop) (Q : Bool → Shared → Prop), Q b z → wpAny (model P w) A (f n v) Q E z
/-- the table's rows and places -/
structure Tb (ks : List (Rule × Addr)) (es : Array (Int × Value)) (t : SetTable) : Prop where
  hes : es.toList = ks.map (cell hf)
  ok : TabOk t (ks.map fun p => hf p.1)
  one : (ks.map (·.1)).Nodup
  val : t.plain = true
  ruled : w.params.followText "set-order" = true ∨ t.led = true
  gap : 5 * ks.length < 3 * t.mask
  small : t.mask = 7 ∨ t.mask = 31
end
section
variable {P : Program} {w : World} {A : Around} {E : Value → Shared → Prop} {z : Shared}
theorem cls_tup {n : Nat} {b : Addr} {o : Obj} {vs : Array Value} {m : Nat} (hg : z.heap.get? b = some o) (hk : o.cls = .type "tuple") (hv : o.data = .seq vs m)
    (all : ∀ v ∈ vs.toList, Mute P w ofAClassStatement false n z v) : Mute P w ofAClassStatement false (n + 1) z (.ref b) := by
  intro A E Q hq
  unfold ofAClassStatement
  refine wpAny_bind (wpAny_typeOf ⟨o, hg, hk⟩ ?_)
  dsimp only
  simp only [show (("tuple" : String) == "tuple") = true from by decide, if_true, Bool.not_true, Bool.false_eq_true, if_false]
  refine wpAny_bind (wpAny_pure ?_)
  try simp only [Bool.not_true, Bool.false_eq_true, if_false]
  refine wpAny_bind (wpAny_seqItems hg hv ?_)
  dsimp only
  rw [← Array.forIn_toList]
  refine wpAny_bind (wpAny_forIn_list _ (fun rest r z' => r.1 = none ∧ z' = z ∧ ∀ v ∈ rest, Mute P w ofAClassStatement false n z v) _ ?_ ?_ _ _ ⟨rfl, rfl, all⟩)
  · rintro v rest r z' ⟨_, rfl, al⟩
    refine wpAny_bind (al v List.mem_cons_self _ _ _ ?_)
    simp only [Bool.false_eq_true, if_false]
    exact wpAny_pure ⟨rfl, rfl, fun u hu => al u (List.mem_cons_of_mem _ hu)⟩
  · rintro ⟨r1, r2⟩ z' ⟨e, rfl, _⟩
    cases e
    exact wpAny_pure hq
theorem hsh_tup {n : Nat} {b : Addr} {o : Obj} {vs : Array Value} {m : Nat} (hg : z.heap.get? b = some o) (hk : o.cls = .type "tuple") (hv : o.data = .seq vs m)
    (all : ∀ v ∈ vs.toList, Mute P w hashByValue true n z v) : Mute P w hashByValue true (n + 1) z (.ref b) := by
  intro A E Q hq
  unfold hashByValue
  refine wpAny_bind (wpAny_specialOf ⟨o, hg, hk⟩ F.slot_tuple_hash.lookup ?_)
  show wpAny _ _ (seqItems? (.ref b) >>= _) _ _ z
  refine wpAny_bind (wpAny_seqItems hg hv ?_)
  show wpAny _ _ (forIn vs _ _ >>= _) _ _ z
  rw [← Array.forIn_toList]
  refine wpAny_bind (wpAny_forIn_list _ (fun rest r z' => r.1 = none ∧ z' = z ∧ ∀ v ∈ rest, Mute P w hashByValue true n z v) _ ?_ ?_ _ _ ⟨rfl, rfl, all⟩)
  · rintro v rest r z' ⟨_, rfl, al⟩
    refine wpAny_bind (al v List.mem_cons_self _ _ _ ?_)
    simp only [Bool.not_true, Bool.false_eq_true, if_false]
    exact wpAny_pure ⟨rfl, rfl, fun u hu => al u (List.mem_cons_of_mem _ hu)⟩
  · rintro ⟨r1, r2⟩ z' ⟨e, rfl, _⟩
    cases e
    exact wpAny_pure hq
theorem nums_num {h : Heap} : ∀ {k : List Int} {us : List Value}, NestedAll h (k.map .num) us → ∀ v ∈ us, ∃ i, NestedIs h (.num i) v
  | [], _, .nil => fun v hv => nomatch hv
  | i :: k, _, .cons a r => fun v hv => by
    rcases List.mem_cons.mp hv with e | e
    · exact ⟨i, by rw [e]; exact a⟩
    · exact nums_num r v e
theorem mute_rule {f : Nat → Value → Sem Bool} {b : Bool} (num : ∀ n i v h, NestedIs h (.num i) v → f n v = pure b)
    (tup : ∀ {n : Nat} {c : Addr} {o : Obj} {vs : Array Value} {m : Nat}, z.heap.get? c = some o → o.cls = .type "tuple" → o.data = .seq vs m → (∀ v ∈ vs.toList, Mute P w f b n z v) → Mute P w f b (n + 1) z (.ref c))
    {p : Rule × Addr} (h : AtR P w z.heap p) : Mute P w f b 8 z (.ref p.2) := by
  obtain ⟨h, _⟩ := h
  have side : ∀ {k : Side} {v : Value}, NestedIs z.heap (kSide k) v → Mute P w f b 7 z v := fun {k v} q => by
    cases q with
    | tup h1 h2 h3 h4 =>
        refine tup h1 h2 h3 fun u hu => ?_
        obtain ⟨i, hi⟩ := nums_num h4 u hu
        intro A E Q hq
        rw [num 6 i u _ hi]
        exact wpAny_pure hq
  cases h with
  | @tup _ o vs m _ h1 h2 h3 h4 =>
    refine tup h1 h2 h3 fun u hu => ?_
    cases e : vs.toList with
    | nil => rw [e] at hu; cases hu
    | cons x xs =>
      rw [e] at hu h4
      cases h4 with
      | cons s1 h5 =>
        cases h5 with
        | cons s2 h6 =>
          cases h6
          rcases List.mem_cons.mp hu with q | q
          · rw [q]; exact side s1
          · rw [List.mem_singleton.mp q]; exact side s2
theorem cls_rule {p : Rule × Addr} (h : AtR P w z.heap p) : Mute P w ofAClassStatement false 8 z (.ref p.2) :=
  mute_rule (fun n i v _ q => by cases q <;> (unfold ofAClassStatement; rfl)) cls_tup h
theorem hsh_rule {p : Rule × Addr} (h : AtR P w z.heap p) : Mute P w hashByValue true 8 z (.ref p.2) :=
  mute_rule (fun n i v _ q => by cases q <;> (unfold hashByValue; rfl)) hsh_tup h
theorem unseen {q : Rule × Addr} (hq : AtR P w z.heap q) : ∀ (ys : List (Rule × Addr)), (∀ p ∈ ys, AtR P w z.heap p) → ∀ {Q : Bool → Shared → Prop}, Q false z →
    wpAny (model P w) A (searchCouldBeSeen (.ref q.2) (ys.map fun p => Value.ref p.2)) Q E z := by
  intro ys hy Q h
  unfold searchCouldBeSeen
  refine wpAny_bind (wpAny_forIn_list _ (fun rest r z' => r.1 = none ∧ z' = z ∧ ∃ l : List (Rule × Addr), rest = l.map (fun p => Value.ref p.2) ∧ ∀ p ∈ l, AtR P w z.heap p) _ ?_ ?_ _ _ ⟨rfl, rfl, ys, rfl, hy⟩)
  · rintro v rest r z' ⟨_, rfl, l, e, al⟩
    cases l with
    | nil => cases e
    | cons p l =>
      rw [List.map_cons] at e
      injection e with e1 e2
      subst e1 e2
      have next : (none : Option Bool) = none ∧ z' = z' ∧ ∃ l2 : List (Rule × Addr), (l.map fun p => Value.ref p.2) = l2.map (fun p => Value.ref p.2) ∧ ∀ p ∈ l2, AtR P w z'.heap p := ⟨rfl, rfl, l, rfl, fun p hp => al p (List.mem_cons_of_mem _ hp)⟩
      have hp := al p List.mem_cons_self
      dsimp only
      split
      · exact wpAny_pure next
      · refine wpAny_bind ((nestedKind P w).quiet hq ?_)
        simp only [Bool.not_true, Bool.false_eq_true, if_false]
        refine wpAny_bind ((nestedKind P w).quiet hp ?_)
        simp only [Bool.not_true, Bool.false_eq_true, if_false]
        refine wpAny_bind (cls_rule hq _ _ _ ?_)
        simp only [Bool.false_eq_true, if_false]
        refine wpAny_bind (cls_rule hp _ _ _ ?_)
        simp only [Bool.false_eq_true, if_false]
        exact wpAny_pure next
  · rintro ⟨r1, r2⟩ z' ⟨e, rfl, _⟩
    cases e
    exact wpAny_pure h
end
section
variable {P : Program} {w : World} {hf : Rule → Int} {ks : List (Rule × Addr)} {es : Array (Int × Value)} {t : SetTable}
theorem Tb.size (T : Tb w hf ks es t) : es.size = ks.length := by
  rw [← Array.length_toList, T.hes, List.length_map]
theorem Tb.msk (T : Tb w hf ks es t) : MaskOk t.mask := by
  rcases T.small with e | e
  · exact .inl e
  · exact .inr (.inl e)
theorem Tb.places (T : Tb w hf ks es t) : t.place.size = ks.length := by
  rw [T.ok.sz, List.length_map]
theorem fits_of {n : Nat} (h1 : t.place.size = n) (h2 : t.dummies = #[]) (h3 : n ≤ t.mask) : t.fits n = true := by
  unfold SetTable.fits SetTable.fill
  rw [h2, h1, beq_self_eq_true, Bool.true_and, decide_eq_true_eq]
  exact h3
theorem Tb.fits (T : Tb w hf ks es t) : t.fits es.size = true :=
  fits_of (by rw [T.places, T.size]) T.ok.dm (by have := T.gap; have := T.size; omega)
theorem Tb.row (T : Tb w hf ks es t) {i : Nat} {p : Rule × Addr} (h : ks[i]? = some p) : es[i]? = some (cell hf p) := by
  rw [← Array.getElem?_toList, T.hes, List.getElem?_map, h, Option.map_some]
end
section
variable {P : Program} {w : World} {A : Around} {E : Value → Shared → Prop} {z : Shared} {hf : Rule → Int} {S : Addr} {ks : List (Rule × Addr)} {es : Array (Int × Value)} {ep : Nat} {t : SetTable}
theorem calm_on (m : Nat) : ∀ (n : Nat) (p : SetTable.Probe), p.dummy = none → (nth m p n).dummy = none
  | 0, _, h => h
  | n + 1, p, h => calm_on m n (adv m p) (by unfold adv; split <;> exact h)
theorem probe_go (t : SetTable) (f : Nat → Int) (h : Int) (p : SetTable.Probe) : t.probe f h p = SetTable.probe.go t f h (10 * SetTable.turns t.mask) p := rfl
/-- the search for a rule, from the c-th place of its way on -/
theorem seek {o : Obj} (hS : z.heap.get? S = some o) (hD : o.data = .set es ep t) (T : Tb w hf ks es t) (hks : ∀ p ∈ ks, AtR P w z.heap p) {q : Rule × Addr} (hq : AtR P w z.heap q) (hu : A.units + 8 < cLine)
    {p0 : SetTable.Probe} (calm : p0.dummy = none) {K : Nat} (hKt : K < 10 * SetTable.turns t.mask) (free : (nth t.mask p0 K).j ∉ t.place.toList) (busy : ∀ c, c < K → (nth t.mask p0 c).j ∈ t.place.toList) {Q : SetFound → Shared → Prop}
    (old : q.1 ∈ ks.map (·.1) → Q (.there none) z) (new : q.1 ∉ ks.map (·.1) → Q (.free ((nth t.mask p0 K).j) false) z) :
    ∀ (f c : Nat) (st : Option SetTable.Probe), c ≤ K → K < f + c → st.getD (t.probeStart (hf q.1)) = nth t.mask p0 c →
      (∀ (i : Nat) p, ks[i]? = some p → p.1 = q.1 → ∃ d, c ≤ d ∧ d < K ∧ t.place.toList[i]? = some ((nth t.mask p0 d).j)) →
      wpAny (model P w) A (setSearchFrom S (.ref q.2) (hf q.1) true f st) Q E z := by
  intro f
  induction f with
  | zero => intro c st h1 h2; exact absurd h2 (by omega)
  | succ f ih =>
    intro c st hc hfu hst left
    rw [setSearchFrom_succ]
    refine wpAny_bind (wpAny_setState_of hS hD T.fits ?_)
    dsimp only
    refine wp_if_neg (by unfold SetTable.gaveWay; rw [mask_odd T.msk]; decide) ?_
    try refine wpAny_bind (wpAny_pure ?_)
    rw [hst]
    have step : ∀ d, nth t.mask (nth t.mask p0 c) d = nth t.mask p0 (c + d) := fun d => (nth_add ..).symm
    have sp := go_spec t T.ok.ris T.ok.dm (fun i => (es[i]?.map (·.1)).getD 0) (hf q.1) (10 * SetTable.turns t.mask) (K - c) (nth t.mask p0 c) (calm_on _ _ _ calm) (by omega)
      (fun d hd => by rw [step]; exact busy _ (by omega)) (by rw [step, Nat.add_sub_cancel' hc]; exact free)
    have code : ∀ (i : Nat) p, ks[i]? = some p → (es[i]?.map (·.1)).getD 0 = hf p.1 := fun i p hp => by rw [T.row hp, Option.map_some, Option.getD_some]
    simp only [step, Nat.add_sub_cancel' hc] at sp
    rcases sp with ⟨d, i, hd, hi, hh, before, go⟩ | ⟨before, go⟩
    · rw [probe_go, go]
      dsimp only
      have hil : i < ks.length := by
        have h1 := (List.getElem?_eq_some_iff.mp hi).1
        rw [Array.length_toList, T.places] at h1
        exact h1
      obtain ⟨p, hp⟩ : ∃ p, ks[i]? = some p := ⟨_, List.getElem?_eq_getElem hil⟩
      have hm : p ∈ ks := List.mem_of_getElem? hp
      have look : wpAny (model P w) A (searchRest S (.ref q.2) (hf q.1) true f es t ((nth t.mask p0 (c + d)).j) i (nth t.mask p0 (c + (d + 1)))) Q E z := by
        unfold searchRest
        rw [T.row hp]
        dsimp only
        refine wpAny_bind (wpAny_holding ((nestedKind P w).eqBool hu (hks p hm) hq ?_))
        refine wpAny_bind (wpAny_setState_of hS hD T.fits ?_)
        dsimp only
        by_cases same : p.1 = q.1
        · rw [show decide (kRule p.1 = kRule q.1) = true from decide_eq_true (by rw [same])]
          refine wp_if_pos rfl (wpAny_pure (old ?_))
          exact List.mem_map.mpr ⟨p, hm, same⟩
        · rw [show decide (kRule p.1 = kRule q.1) = false from decide_eq_false fun e => same (kRule_inj e)]
          refine wp_if_neg (by decide) ?_
          try refine wpAny_bind (wpAny_pure ?_)
          have hsl := slot_live T.ok.ris hi
          rw [sameMem]
          dsimp only
          simp only [if_true, hsl, T.row hp]
          refine wpAny_bind (wpAny_isSame_ref_self (wpAny_bind (wpAny_pure ?_)))
          simp only [if_true]
          refine wp_if_neg (by decide) ?_
          refine ih (c + (d + 1)) (some _) (by omega) (by omega) rfl fun i0 p0 h0 e0 => ?_
          obtain ⟨x, x1, x2, x3⟩ := left i0 p0 h0 e0
          refine ⟨x, ?_, x2, x3⟩
          by_cases lt : x < c + d
          · refine absurd (?_ : (es[i0]?.map (·.1)).getD 0 = hf q.1) (before (x - c) i0 (by omega) (by rw [Nat.add_sub_cancel' x1]; exact x3))
            rw [code i0 p0 h0, e0]
          · by_cases eq : x = c + d
            · rw [eq] at x3
              have s0 := slot_live T.ok.ris x3
              rw [hsl] at s0
              injection s0 with s0
              rw [← s0, hp] at h0
              cases h0
              exact absurd e0 same
            · omega
      by_cases hl : t.led = true
      · refine wp_if_neg (by rw [hl]; decide) ?_
        try refine wpAny_bind (wpAny_pure ?_)
        exact look
      · refine wp_if_pos (by rw [Bool.not_eq_true] at hl; rw [hl]; rfl) ?_
        have some_ : ∃ l : List (Rule × Addr), ((es.filter (·.1 == hf q.1)).toList.map (·.2)) = l.map (fun p => Value.ref p.2) ∧ ∀ p ∈ l, p ∈ ks := by
          refine ⟨ks.filter fun p => hf p.1 == hf q.1, ?_, fun p hp => (List.mem_filter.mp hp).1⟩
          rw [Array.toList_filter, T.hes, List.filter_map, List.map_map]
          rfl
        obtain ⟨l, el, hl2⟩ := some_
        rw [el]
        refine wpAny_bind (unseen hq l (fun p hp => hks p (hl2 p hp)) ?_)
        refine wp_if_neg (by decide) ?_
        try refine wpAny_bind (wpAny_pure ?_)
        exact look
    · rw [probe_go, go]
      dsimp only
      refine wpAny_pure (new fun hm => ?_)
      obtain ⟨p0, h0, e0⟩ := List.mem_map.mp hm
      obtain ⟨i0, h00⟩ := List.mem_iff_getElem?.mp h0
      obtain ⟨x, x1, x2, x3⟩ := left i0 p0 h00 e0
      refine before (x - c) i0 (by omega) (by rw [Nat.add_sub_cancel' x1]; exact x3) ?_
      show (es[i0]?.map (·.1)).getD 0 = _
      rw [code i0 p0 h00, e0]
theorem seek_at {o : Obj} (hS : z.heap.get? S = some o) (hD : o.data = .set es ep t) (T : Tb w hf ks es t) (hks : ∀ p ∈ ks, AtR P w z.heap p) {q : Rule × Addr} (hq : AtR P w z.heap q) (hu : A.units + 8 < cLine) {Q : SetFound → Shared → Prop}
    (old : q.1 ∈ ks.map (·.1) → Q (.there none) z)
    (new : ∀ K, q.1 ∉ ks.map (·.1) → way t.mask (hf q.1) K ∉ t.place.toList → (∀ c, c < K → way t.mask (hf q.1) c ∈ t.place.toList) → Q (.free (way t.mask (hf q.1) K) false) z) :
    wpAny (model P w) A (setSearch S (.ref q.2) (hf q.1) true) Q E z := by
  obtain ⟨K, k1, k2, k3⟩ := T.ok.first (by rw [List.length_map]; have := T.gap; omega) (hf q.1)
  have k4 : K < 100000 := by
    unfold SetTable.turns at k1
    rcases T.small with e | e <;> (rw [e] at k1; omega)
  unfold setSearch
  refine seek (p0 := runAt t.mask (SetTable.bits (hf q.1) % (t.mask + 1)) (SetTable.bits (hf q.1))) hS hD T hks hq hu rfl k1 k2 k3 old (fun n => new K n k2 k3) 100000 0 none (Nat.zero_le _) (by omega) (start_run t _) fun i p hp e => ?_
  have hi : (ks.map fun p => hf p.1)[i]? = some (hf q.1) := by rw [List.getElem?_map, hp, Option.map_some, e]
  obtain ⟨j, hj⟩ : ∃ j, t.place.toList[i]? = some j := ⟨_, List.getElem?_eq_getElem (by rw [Array.length_toList, T.places]; exact (List.getElem?_eq_some_iff.mp hp).1)⟩
  obtain ⟨d, d1, d2⟩ := T.ok.before k2 hi hj
  exact ⟨d, Nat.zero_le _, d1, by rw [hj, ← d2]⟩
end
section
variable {P : Program} {w : World} {A : Around} {E : Value → Shared → Prop} {z : Shared} {hf : Rule → Int} {S : Addr} {ks : List (Rule × Addr)} {es : Array (Int × Value)} {ep : Nat} {t : SetTable}
/-- a rule's tuples stay where a set is written -/
theorem atR_but {h h' : Heap} {p : Rule × Addr} {o : Obj} (x : AtR P w h p) (hS : h.get? S = some o) (hD : o.data = .set es ep t) (b : Heap.SameBut S h h') : AtR P w h' p := by
  refine nestedKind_stays.stays (fun c oc vs n g1 g2 => ?_) x
  refine (b.2 c fun e => ?_).trans g1
  subst e
  rw [hS] at g1
  cases g1
  rw [hD] at g2
  cases g2
theorem atR_keep {h h' : Heap} {p : Rule × Addr} (x : AtR P w h p) (k : ∀ c o, h.get? c = some o → h'.get? c = some o) : AtR P w h' p :=
  nestedKind_stays.stays (fun c oc vs n g1 _ => k c oc g1) x
theorem range_gets {α : Type} (xs : List α) : (List.range xs.length).filterMap (fun i => xs[i]?) = xs := by
  induction xs with
  | nil => rfl
  | cons x xs ih =>
    rw [List.length_cons, List.range_succ_eq_map, List.filterMap_cons]
    simp only [List.getElem?_cons_zero, List.filterMap_map]
    have e : ((fun i => (x :: xs)[i]?) ∘ Nat.succ) = fun i => xs[i]? := funext fun i => by simp
    rw [e, ih]
theorem picks {hs : Array Int} (hh : hs.toList = ks.map fun p => hf p.1) : ∀ l : List Nat, (∀ i ∈ l, i < ks.length) → ((l.filterMap fun i => ks[i]?).map fun p => hf p.1) = l.map fun i => hs.getD i 0
  | [], _ => rfl
  | i :: l, h => by
    have hi := h i List.mem_cons_self
    have e : ks[i]? = some ks[i] := List.getElem?_eq_getElem hi
    have e2 : hs.getD i 0 = hf ks[i].1 := by
      rw [Array.getD_eq_getD_getElem?, ← Array.getElem?_toList, hh, List.getElem?_map, e, Option.map_some, Option.getD_some]
    rw [List.filterMap_cons_some e, List.map_cons, List.map_cons, picks hh l fun j hj => h j (List.mem_cons_of_mem _ hj), e2]
theorem put_at_perm {α : Type} (n : Nat) (x : α) (l : List α) : (l.take n ++ x :: l.drop n).Perm (x :: l) := by
  have h := List.perm_middle (a := x) (l₁ := l.take n) (l₂ := l.drop n)
  rwa [List.take_append_drop] at h
/-- laid anew with mask 31 -/
theorem relay31 {o : Obj} (hS : z.heap.get? S = some o) (hX : o.ExactSet) (hD : o.data = .set es ep t) (hes : es.toList = ks.map (cell hf)) (hpl : t.place.size = ks.length) (hdm : t.dummies = #[]) (hle : ks.length ≤ t.mask)
    (one : (ks.map (·.1)).Nodup) (val : t.plain = true) (ruled : w.params.followText "set-order" = true ∨ t.led = true) (few : ks.length ≤ 18) {n : Nat} (hn : SetTable.sizeAbove n = 32) {Q : Unit → Shared → Prop}
    (go : ∀ h' ks' o' es' ep' t', Heap.SameBut S z.heap h' → h'.get? S = some o' → o'.ExactSet → o'.data = .set es' ep' t' → Tb w hf ks' es' t' → ks'.Perm ks → Q () { z with heap := h' }) :
    wpAny (model P w) A (setRelay S n) Q E z := by
  have hsz : es.size = ks.length := by rw [← Array.length_toList, hes, List.length_map]
  have hh : (es.map (·.1)).toList = ks.map fun p => hf p.1 := by
    rw [Array.toList_map, hes, List.map_map]; rfl
  obtain ⟨t', order, e1, e2, e3, e4, e5, e6, e7⟩ := relaid_ok t (hs := es.map (·.1)) (wanted := n) (M := 31) (by rw [hn]) (.inr (.inl rfl)) (by rw [Array.size_map, hsz]; omega)
  rw [Array.size_map, hsz] at e2
  obtain ⟨ks', hks'⟩ : ∃ l, l = order.toList.filterMap fun i => ks[i]? := ⟨_, rfl⟩
  have pm : ks'.Perm ks := by
    have q := e2.filterMap fun i => ks[i]?
    rw [range_gets] at q
    rw [hks']; exact q
  have hnew : (order.filterMap (es[·]?)).toList = ks'.map (cell hf) := by
    rw [Array.toList_filterMap, hks', List.map_filterMap]
    refine congrArg (fun f => List.filterMap f order.toList) (funext fun i => ?_)
    rw [← Array.getElem?_toList, hes, List.getElem?_map]
  have hnz : (order.filterMap (es[·]?)).size = es.size := by
    rw [← Array.length_toList, hnew, List.length_map, pm.length_eq, hsz]
  have hcodes : (ks'.map fun p => hf p.1) = order.toList.map fun i => (es.map (·.1)).getD i 0 := by
    rw [hks']
    exact picks hh _ fun i hi => List.mem_range.mp (e2.mem_iff.mp hi)
  rw [setRelay_eq]
  refine wpAny_bind (wpAny_setState_of hS hD (fits_of (by rw [hpl, hsz]) hdm (by omega)) ?_)
  dsimp only
  refine wp_if_neg (by rw [hn, sizeLine_eq]; decide) ?_
  try refine wpAny_bind (wpAny_pure ?_)
  rw [e1]
  dsimp only
  refine wpAny_bind ?_
  refine wp_if_neg (by rw [hnz]; simp) ?_
  try refine wpAny_bind (wpAny_pure ?_)
  refine wpAny_pure ?_
  dsimp only
  refine wpAny_storeSet_of hS hD ?_ (by rw [hnz, hsz, sizeLine_eq]; omega)
  refine go _ ks' _ _ (ep + 1) t' (Heap.SameBut.update ..) (store_at hS hD) ⟨hX.1, hX.2.1, hX.2.2⟩ rfl ⟨hnew, by rw [hcodes]; exact e3, (pm.map (·.1)).nodup_iff.mpr one, e6.trans val, by rw [e5]; exact ruled, by rw [pm.length_eq, e4]; omega, .inr e4⟩ pm
/-- a set of few rules at S -/
def Holds (P : Program) (w : World) (hf : Rule → Int) (S : Addr) (h : Heap) (ks : List (Rule × Addr)) : Prop := ∃ o es ep t, h.get? S = some o ∧ o.ExactSet ∧ o.data = .set es ep t ∧ Tb w hf ks es t
/-- adding a rule -/
theorem add_rule (H : Holds P w hf S z.heap ks) (hks : ∀ p ∈ ks, AtR P w z.heap p) {q : Rule × Addr} (hq : AtR P w z.heap q) (hu : A.units + 8 < cLine) (few : ks.length ≤ 16) {Q : Bool → Shared → Prop}
    (go : ∀ b h' ks', Heap.SameBut S z.heap h' → Holds P w hf S h' ks' → (q.1 ∈ ks.map (·.1) → ks' = ks) → (q.1 ∉ ks.map (·.1) → ks'.Perm (q :: ks)) → Q b { z with heap := h' }) :
    wpAny (model P w) A (setAddHashed S (.ref q.2) (hf q.1)) Q E z := by
  obtain ⟨o, es, ep, t, hS, hX, hD, T⟩ := H
  unfold setAddHashed
  refine wpAny_holding ?_
  rw [show (100000 : Nat) = 99999 + 1 from rfl, setAddHashedIn_succ]
  refine wpAny_bind (wpAny_setState_of hS hD T.fits ?_)
  dsimp only
  refine wp_if_neg (by unfold byScan; simp [Value.scannable]) ?_
  try refine wpAny_bind (wpAny_pure ?_)
  refine wpAny_bind (seek_at hS hD T hks hq hu (fun hm => ?_) fun K hm free busy => ?_)
  · dsimp only
    exact wpAny_pure (go false z.heap ks (Heap.SameBut.refl S z.heap) ⟨o, es, ep, t, hS, hX, hD, T⟩ (fun _ => rfl) fun n => absurd hm n)
  dsimp only
  refine wpAny_bind (wpAny_setState_of hS hD T.fits ?_)
  dsimp only
  obtain ⟨q1, q2, q3, q4, q5, q6, q7, q8, q9⟩ := T.ok.put free busy
  generalize t.put (way t.mask (hf q.1) K) = tp at q1 q3 q4 q5 q6 q7 q8 q9 ⊢
  obtain ⟨t1, n1⟩ := tp
  dsimp only at q1 q3 q4 q5 q6 q7 q8 q9 ⊢
  generalize SetTable.below t.place (way t.mask (hf q.1) K) = n at q1 q2 q3
  subst q1
  rw [List.length_map] at q2 q9
  have pm := put_at_perm n1 q ks
  have rows : (SetTable.insertAt es n1 (hf q.1, Value.ref q.2)).toList = (ks.take n1 ++ q :: ks.drop n1).map (cell hf) := by
    rw [SetTable.toList_insertAt, T.hes, List.map_append, List.map_cons, List.map_take, List.map_drop]
  have codes : ((ks.map fun p => hf p.1).take n1 ++ hf q.1 :: (ks.map fun p => hf p.1).drop n1) = (ks.take n1 ++ q :: ks.drop n1).map fun p => hf p.1 := by
    rw [List.map_append, List.map_cons, List.map_take, List.map_drop]
  rw [codes] at q3
  generalize ks.take n1 ++ q :: ks.drop n1 = ks1 at pm rows q3
  have len1 : ks1.length = ks.length + 1 := pm.length_eq
  generalize SetTable.insertAt es n1 (hf q.1, Value.ref q.2) = es1 at rows ⊢
  have size1 : es1.size = ks1.length := by rw [← Array.length_toList, rows, List.length_map]
  have one1 : (ks1.map (·.1)).Nodup := (pm.map (·.1)).nodup_iff.mpr (by rw [List.map_cons]; exact List.nodup_cons.mpr ⟨hm, T.one⟩)
  have val1 : t1.plain = true := q6.trans T.val
  have ruled1 : w.params.followText "set-order" = true ∨ t1.led = true := by rw [q5]; exact T.ruled
  have tail : ∀ z1 : Shared, z1 = { z with heap := z.heap.update S (Obj.putSet es1 t1) } → wpAny (model P w) A (do
      if !false && t1.tooFull then setRelay S (SetTable.grown (es.size + 1))
      return true) Q E z1 := fun z1 ez => by
    subst ez
    have sb : Heap.SameBut S z.heap (z.heap.update S (Obj.putSet es1 t1)) := Heap.SameBut.update ..
    have g1 := store_at (es' := es1) (t' := t1) hS hD
    generalize z.heap.update S (Obj.putSet es1 t1) = h1 at sb g1 ⊢
    have full : t1.tooFull = true ↔ 5 * (ks.length + 1) ≥ 3 * t.mask := by
      unfold SetTable.tooFull
      rw [decide_eq_true_eq, q9, q4]
      omega
    by_cases hf1 : t1.tooFull = true
    · have m7 := full.mp hf1
      have gap := T.gap
      have k4 : t.mask = 7 ∧ ks.length = 4 := by
        rcases T.small with e | e
        · exact ⟨e, by omega⟩
        · omega
      refine wp_if_pos (by rw [hf1]; rfl) ?_
      refine wpAny_bind (relay31 (z := { z with heap := h1 }) (ks := ks1) g1 ⟨hX.1, hX.2.1, hX.2.2⟩ rfl rows (by rw [q3.sz, List.length_map]) q3.dm (by rw [q4]; omega) one1 val1 ruled1 (by omega) (by rw [T.size, k4.2]; exact size_20) ?_)
      intro h' ks' o' es' ep' t' sb' g' x' d' T' pm'
      exact wpAny_pure (go true h' ks' (sb.trans sb') ⟨o', es', ep', t', g', x', d', T'⟩ (fun y => absurd y hm) fun _ => pm'.trans pm)
    · refine wp_if_neg (by rw [Bool.not_eq_true] at hf1; rw [hf1]; decide) ?_
      try refine wpAny_bind (wpAny_pure ?_)
      have nf := mt full.mpr hf1
      exact wpAny_pure (go true h1 ks1 sb ⟨_, es1, ep + 1, t1, g1, ⟨hX.1, hX.2.1, hX.2.2⟩, rfl, ⟨rows, q3, one1, val1, ruled1, by rw [q4]; omega, by rw [q4]; exact T.small⟩⟩ (fun y => absurd y hm) fun _ => pm)
  refine wp_if_pos val1 (wpAny_bind (hsh_rule hq _ _ _ ?_))
  simp only [if_true]
  refine wpAny_bind (wpAny_storeSet_of hS hD ?_ (by rw [size1, sizeLine_eq]; omega))
  exact tail _ rfl
end
end SB
/-! KSetC -/
set_option Elab.async false
set_option linter.all false
set_option maxRecDepth 100000
set_option maxHeartbeats 4000000
/-! set(t) of a tuple of rules, and its sorted list. -/
namespace SB
open PySem PySem.Spec PyProof.Rows L2
/-- what a set has of the first i of src -/
structure Took (src : List (Rule × Addr)) (i : Nat) (ks : List (Rule × Addr)) : Prop where
  sub : ∀ p ∈ ks, p ∈ src
  all : ∀ p ∈ src.take i, p.1 ∈ ks.map (·.1)
  len : ks.length ≤ i
theorem Took.next {src ks ks' : List (Rule × Addr)} {i : Nat} {q : Rule × Addr} (T : Took src i ks) (h : src[i]? = some q) (old : q.1 ∈ ks.map (·.1) → ks' = ks) (new : q.1 ∉ ks.map (·.1) → ks'.Perm (q :: ks)) : Took src (i + 1) ks' := by
  have tk : src.take (i + 1) = src.take i ++ [q] := by rw [List.take_add_one, h]; rfl
  by_cases c : q.1 ∈ ks.map (·.1)
  · rw [old c]
    refine ⟨T.sub, fun p hp => ?_, Nat.le_succ_of_le T.len⟩
    rw [tk] at hp
    rcases List.mem_append.mp hp with x | x
    · exact T.all p x
    · rw [List.mem_singleton.mp x]; exact c
  · have pm := new c
    refine ⟨fun p hp => ?_, fun p hp => ?_, by rw [pm.length_eq]; exact Nat.succ_le_succ T.len⟩
    · rcases List.mem_cons.mp (pm.mem_iff.mp hp) with x | x
      · rw [x]; exact List.mem_of_getElem? h
      · exact T.sub p x
    · refine (pm.map (·.1)).mem_iff.mpr ?_
      rw [List.map_cons]
      rw [tk] at hp
      rcases List.mem_append.mp hp with x | x
      · exact List.mem_cons_of_mem _ (T.all p x)
      · rw [List.mem_singleton.mp x]; exact List.mem_cons_self
section
variable {P : Program} {w : World} {A : Around} {E : Value → Shared → Prop} {z : Shared}
theorem holds_but {S : Addr} {h h' : Heap} {ks : List (Rule × Addr)} {hf : Rule → Int} (x : Holds P w hf S h ks) (k : ∀ o, h.get? S = some o → h'.get? S = some o) : Holds P w hf S h' ks := by
  obtain ⟨o, es, ep, t, g, r⟩ := x
  exact ⟨o, es, ep, t, k o g, r⟩
theorem holds_none {S : Addr} {h : Heap} (g : h.get? S = some { cls := .type "set", dict := none, data := .set #[] 0 (.fresh 0 0 (!w.params.followText "set-order")) }) : Holds P w (hR P w) S h [] :=
  ⟨_, #[], 0, _, g, ⟨rfl, rfl, rfl⟩, rfl, ⟨rfl, ⟨List.Pairwise.nil, rfl, rfl, .inl rfl, fun x hx => (by cases hx), fun i h j hi => (by simp at hi)⟩, List.nodup_nil, rfl, by
    show _ ∨ (!w.params.followText "set-order") = true
    by_cases c : w.params.followText "set-order" = true
    · exact .inl c
    · exact .inr (by rw [Bool.not_eq_true] at c; rw [c]; rfl), (show 5 * 0 < 3 * 7 by decide), .inl rfl⟩⟩
/-- the loop that fills a set -/
theorem fill_loop {src : List (Rule × Addr)} {I S l : Addr} {items : Array Value} (hh : A.in1.handled = none) (hIl : l ≠ I) (hSI : S ≠ I) (hSl : S ≠ l) (hit : items.toList = src.map fun p => Value.ref p.2) (few : src.length ≤ 16) (hu : A.in1.units + 8 < cLine)
    {R : Result → Shared → Prop} {h0 : Heap} (sits : ∀ p ∈ src, AtR P w h0 p) (nS : h0.get? S = none) (nI : h0.get? I = none) {z0 : Shared}
    (fin : ∀ z ks, Moved [S, I] (fun a b => b = a) z0 z → (∀ b o, h0.get? b = some o → z.heap.get? b = some o) → Holds P w (hR P w) S z.heap ks → Took src src.length ks → R (.ok (.ret .none)) z) :
    ∀ (n i : Nat) (z : Shared) (ks : List (Rule × Addr)), n + i = src.length → (z.heap.IsTupleIter I l i ∧ z.heap.IsTuple l items) → Moved [S, I] (fun a b => b = a) z0 z → (∀ b o, h0.get? b = some o → z.heap.get? b = some o) →
      Holds P w (hR P w) S z.heap ks → Took src i ks → codeAny (model P w) A (.builtin "set.update.loop" ⟨[.ref S, .ref I], []⟩) R z := by
  have hlen : items.size = src.length := by rw [← Array.length_toList, hit, List.length_map]
  have W := (Walks.tuple (prog := P) (w := w) hh I l hIl items).toS
  have up : ∀ b ∈ [I], b ∈ [S, I] := fun b hb => List.mem_cons_of_mem _ hb
  have keep : ∀ {z1 z2 : Shared}, Moved [I] (fun a b => b = a) z1 z2 → (∀ b o, h0.get? b = some o → z1.heap.get? b = some o) → ∀ b o, h0.get? b = some o → z2.heap.get? b = some o := fun m k b o e =>
    m.heap b o (fun hb => by rw [List.mem_singleton.mp hb, nI] at e; cases e) (k b o e)
  have tr : ∀ {z1 z2 z3 : Shared}, Moved [S, I] (fun a b => b = a) z1 z2 → Moved [S, I] (fun a b => b = a) z2 z3 → Moved [S, I] (fun a b => b = a) z1 z3 := fun m1 m2 => m1.trans (fun _ _ _ e1 e2 => e2.trans e1) m2
  intro n
  induction n with
  | zero =>
    intro i z ks hi st mv k H T
    have ei : i = items.size := by omega
    subst ei
    refine codeAny_builtin F.entry_set_update_loop ?_
    rw [Around.under_plainId F.plain_set_update_loop _]
    show wpAny _ A.in1 (pyNext (.ref I) >>= _) _ _ z
    refine wpAny_bind (W.done z _ _ st fun z' m => ?_)
    rw [hlen] at T
    exact wpAny_pure (fin z' ks (tr mv (m.mono up)) (keep m k) (holds_but H fun o e => m.heap S o (fun y => hSI (List.mem_singleton.mp y)) e) T)
  | succ n ih =>
    intro i z ks hi st mv k H T
    refine codeAny_builtin F.entry_set_update_loop ?_
    rw [Around.under_plainId F.plain_set_update_loop _]
    show wpAny _ A.in1 (pyNext (.ref I) >>= _) _ _ z
    refine wpAny_bind (W.item i z _ _ (by omega) st fun v z' hv st' m => ?_)
    obtain ⟨q, hq, rfl⟩ : ∃ q, src[i]? = some q ∧ v = Value.ref q.2 := by
      have e : items.toList[i]? = some v := by rw [Array.getElem?_toList]; exact hv
      rw [hit, List.getElem?_map] at e
      cases g : src[i]? with
      | none => rw [g] at e; cases e
      | some q => rw [g] at e; exact ⟨q, rfl, (Option.some.inj e).symm⟩
    have k' := keep m k
    have H' : Holds P w (hR P w) S z'.heap ks := holds_but H fun o e => m.heap S o (fun y => hSI (List.mem_singleton.mp y)) e
    have sit : ∀ p ∈ src, AtR P w z'.heap p := fun p hp => atR_keep (sits p hp) k'
    show wpAny _ A.in1 (holding [Value.ref q.2] (setAdd S (.ref q.2)) >>= _) _ _ z'
    refine wpAny_bind (wpAny_holding ?_)
    unfold setAdd
    refine wpAny_holding (wpAny_bind ((nestedKind P w).pyHash hu (sit q (List.mem_of_getElem? hq)) ?_))
    refine add_rule (z := { z' with toks := z'.toks + (nestedKind P w).draws (kRule q.1) }) (hf := hR P w) H' (fun p hp => sit p (T.sub p hp)) (sit q (List.mem_of_getElem? hq)) hu (by have := T.len; omega) fun b h' ks' sb H2 old new => ?_
    have keepS : ∀ c, c ≠ S → ∀ o, z'.heap.get? c = some o → h'.get? c = some o := fun c hc o e => (sb.2 c hc).trans e
    have m2 : Moved [S, I] (fun a b => b = a) z' { z' with heap := h', toks := z'.toks + (nestedKind P w).draws (kRule q.1) } :=
      ⟨fun c o hc e => keepS c (fun y => hc (by rw [y]; exact List.mem_cons_self)) o e, rfl, rfl, rfl, Nat.le_add_right _ _⟩
    refine wpAny_pure ⟨plainId_quiet F.plain_set_update_loop _, ih (i + 1) _ ks' (by omega) (W.frame _ z' _ _ st' (Nat.le_add_right _ _) fun c hc o e => keepS c (fun y => ?_) o e) (tr (tr mv (m.mono up)) m2) (fun c o e => keepS c (fun y => ?_) o (k' c o e)) H2 (T.next hq old new)⟩
    · rcases List.mem_cons.mp hc with x | x
      · exact hSI (y.symm.trans x)
      · exact hSl (y.symm.trans (List.mem_singleton.mp x))
    · rw [y, nS] at e; cases e
end
section
variable {P : Program} {w : World} {A : Around} {E : Value → Shared → Prop} {z : Shared}
/-- a new set's object -/
abbrev blank (w : World) : Obj := { cls := .type "set", dict := none, data := .set #[] 0 (.fresh 0 0 (!w.params.followText "set-order")) }
/-- what set(..) leaves -/
def Made (P : Program) (w : World) (src : List (Rule × Addr)) (z : Shared) (r : Value) (z' : Shared) : Prop := ∃ h' tk ks, r = .ref z.heap.objs.size ∧ z' = { z with heap := h', toks := tk } ∧ Holds P w (hR P w) z.heap.objs.size h' ks ∧ Took src src.length ks ∧ (∀ b o, z.heap.get? b = some o → h'.get? b = some o)
/-- its filling, from the blank set on -/
theorem fill_all {src : List (Rule × Addr)} {l : Addr} {items : Array Value} (hh : A.in1.handled = none) (hl : z.heap.IsTuple l items) (hit : items.toList = src.map fun p => Value.ref p.2) (few : src.length ≤ 16) (hu : A.in1.units + 8 < cLine) (sits : ∀ p ∈ src, AtR P w z.heap p)
    {R : Result → Shared → Prop} (fin : ∀ z', Made P w src z (.ref z.heap.objs.size) z' → R (.ok (.ret .none)) z') :
    codeAny (model P w) A (.builtin "set.update.loop" ⟨[.ref z.heap.objs.size, .ref (z.heap.objs.size + 1)], []⟩) R
      { z with heap := (z.heap.push (blank w)).push { cls := .type "tuple_iterator", data := .fields #[.ref l, .int 0 0] } } := by
  have out : ∀ b, z.heap.objs.size ≤ b → z.heap.get? b = none := fun b hb => by
    cases g : z.heap.get? b with
    | none => rfl
    | some o => exact absurd (Nat.lt_of_lt_of_le (Heap.lt_size g) hb) (Nat.lt_irrefl _)
  have one : (z.heap.push (blank w)).objs.size = z.heap.objs.size + 1 := Heap.size_push ..
  obtain ⟨ol, hol, hol2⟩ := hl
  have lS := Heap.lt_size hol
  have kp : ∀ b o, z.heap.get? b = some o → ((z.heap.push (blank w)).push { cls := .type "tuple_iterator", data := .fields #[.ref l, .int 0 0] }).get? b = some o := fun b o e => Heap.get?_push_of_some _ (Heap.get?_push_of_some _ e)
  have gS : ((z.heap.push (blank w)).push { cls := .type "tuple_iterator", data := .fields #[.ref l, .int 0 0] }).get? z.heap.objs.size = some (blank w) := Heap.get?_push_of_some _ (Heap.get?_push_size _ rfl)
  have gI : ((z.heap.push (blank w)).push { cls := .type "tuple_iterator", data := .fields #[.ref l, .int 0 0] }).get? (z.heap.objs.size + 1) = some { cls := .type "tuple_iterator", data := .fields #[.ref l, .int 0 0] } := by
    rw [← one]; exact Heap.get?_push_size _ rfl
  refine fill_loop (h0 := z.heap) (z0 := { z with heap := (z.heap.push (blank w)).push { cls := .type "tuple_iterator", data := .fields #[.ref l, .int 0 0] } }) hh (Nat.ne_of_lt (Nat.lt_succ_of_lt lS)) (Nat.ne_of_lt (Nat.lt_succ_self _)) (Nat.ne_of_gt lS) hit few hu sits (out _ (Nat.le_refl _)) (out _ (Nat.le_succ _)) (fun z' ks m k H T => fin z' ?_)
    src.length 0 _ [] rfl ⟨⟨_, gI, rfl, rfl⟩, ⟨ol, kp _ _ hol, hol2⟩⟩ (Moved.refl fun _ => rfl) kp (holds_none gS) ⟨fun p hp => (by cases hp), fun p hp => (by simp at hp), Nat.le_refl _⟩
  exact ⟨z'.heap, z'.toks, ks, rfl, m.eq_with, H, T, k⟩
end
section
variable {P : Program} {w : World} {A : Around} {E : Value → Shared → Prop} {z : Shared}
theorem call_set_rules {src : List (Rule × Addr)} {l : Addr} {items : Array Value} {Q : Value → Shared → Prop} (hh : A.handled = none) (hl : z.heap.IsTuple l items) (hit : items.toList = src.map fun p => Value.ref p.2) (few : src.length ≤ 16) (hu : A.units + 16 < cLine) (sits : ∀ p ∈ src, AtR P w z.heap p)
    (fin : ∀ z', Made P w src z (.ref z.heap.objs.size) z' → Q (.ref z.heap.objs.size) z') :
    wpAny (model P w) A (call (.type "set") [.ref l]) Q E z := by
  obtain ⟨mc, mt, hmro⟩ := F.called_set.mro
  have f1 := F.called_set.made
  have f2 := F.called_set.sub
  have f3 := F.called_set.notType
  have f4 := F.called_set.canCreate
  have f5 := F.typeCall_set_1 (.ref l)
  refine wpAny_call (codeAny_of_tree ?_)
  show wpAny _ _ (callAny (.type "set") _) _ _ z
  refine wpAny_pure ⟨Code.quiet_builtin _ (by decide +kernel), codeAny_builtin F.entry_type_call ?_⟩
  rw [Around.under_plain (weight_type_call_type "set" [.ref l] []) rfl]
  repeat (any_goals (first | assumption | wp_step))
  refine codeAny_mono (code_set_led1 (.ref l) (E := E) (Q₁ := fun v z1 => v = .ref z.heap.objs.size ∧ z1 = { z with heap := z.heap.push (blank w) }) ⟨rfl, rfl⟩) fun r z1 hr => ?_
  rcases r with e | fl
  · exact hr
  cases fl with
  | ret v =>
    obtain ⟨rfl, rfl⟩ := hr
    have ty : Shared.TypeIs { z with heap := z.heap.push (blank w) } (.ref z.heap.objs.size) "set" := ⟨_, Heap.get?_push_size _ rfl, rfl⟩
    have f6 := F.called_set.init.lookup
    have f7 := F.called_set.init.bind (.ref z.heap.objs.size)
    repeat (any_goals (first | assumption | wp_step))
    refine codeAny_mono (codeAny_call_builtin (R := wants (fun r z2 => r = .none ∧ Made P w src z (.ref z.heap.objs.size) z2) E) F.called_set.init.plain F.entry_set_init (check_set_init_1 ty ?_)) fun r2 z2 hr2 => ?_
    · have hl0 := hl
      obtain ⟨⟨oc, od, oda, osl⟩, hol, hcl, nl, hdl⟩ := hl
      simp only at hcl hdl
      subst hcl; subst hdl
      have hol1 : (z.heap.push (blank w)).get? l = some { cls := .type "tuple", dict := od, data := .seq items nl, slots := osl } := Heap.get?_push_of_some _ hol
      have g1 := F.sub_tuple_set
      have g2 := F.sub_tuple_frozenset
      have g3 : (Value.type "tuple" == Value.type "dict") = false := by decide
      have tup1 : (z.heap.push (blank w)).IsTuple l items := ⟨_, hol1, rfl, nl, rfl⟩
      unfold Builtin.«set.__init__» noKeywords Builtin.Frozenset.updateFrom
      generalize hPI : pyIter = PI
      wp_walk
      subst hPI
      refine wpAny_pyIter_tuple tup1 ?_
      refine wpAny_bind (wpAny_runValue ?_)
      rw [show (z.heap.push (blank w)).objs.size = z.heap.objs.size + 1 from Heap.size_push ..]
      refine fill_all (by simp [hh]) hl0 hit few (by simp only [Around.in1_units]; omega) sits fun z' M => ?_
      show wpAny _ _ _ _ _ _
      refine wpAny_pure ?_
      exact wpAny_pure ⟨rfl, M⟩
    · rcases r2 with e | fl2
      · exact hr2
      cases fl2 with
      | ret r =>
        obtain ⟨rfl, M⟩ := hr2
        repeat (any_goals (first | assumption | wp_step))
        exact fin _ M
      | _ => exact hr2.elim
  | _ => exact hr.elim
end
end SB
/-! KSetS -/
set_option Elab.async false
set_option linter.all false
set_option maxRecDepth 100000
set_option maxHeartbeats 2000000
/-! set(t) and sorted(set(t)) in the frame. -/
namespace SB
open PySem PySem.Spec PyProof.Rows L2
open PySem.W (EachIs dataLe dataLt AllAlike Sortable alike)
theorem sortR_same {a b : List Rule} (h : a.Perm b) : sortR a = sortR b :=
  List.Perm.eq_of_pairwise (fun x y _ _ h1 h2 => ltR_tri x y h2 h1) (sortR_up a) (sortR_up b) ((sortR_perm a).trans (h.trans (sortR_perm b).symm))
/-- a list that is a map's but for its order is the map of a list that is but for its order the other -/
theorem perm_map {α β : Type} {f : α → β} : ∀ {vs : List β} {l : List α}, vs.Perm (l.map f) → ∃ l2 : List α, vs = l2.map f ∧ l2.Perm l
  | [], l, h => ⟨[], rfl, by
    have e := List.nil_perm.mp h
    cases l with
    | nil => exact .nil
    | cons a l => cases e⟩
  | v :: vs, l, h => by
    obtain ⟨a, ha, e⟩ := List.mem_map.mp (h.mem_iff.mp List.mem_cons_self)
    obtain ⟨l1, l2, rfl⟩ := List.append_of_mem ha
    have pm : (l1 ++ a :: l2).Perm (a :: (l1 ++ l2)) := List.perm_middle
    have h2 := h.trans (pm.map f)
    rw [List.map_cons, e] at h2
    obtain ⟨l3, e3, p3⟩ := perm_map (List.Perm.cons_inv h2)
    exact ⟨a :: l3, by rw [List.map_cons, e, e3], (p3.cons a).trans pm.symm⟩
section
variable {X : Cx} {pins : List (Addr × Obj)} {σ : L2.St} {H : Hp} {s : Shared}
/-- sorted_end, where the order of what is collected isn't known before -/
theorem sorted_any (I : Inv X pins σ H s) {Q : VK} {x : Value} {ts : List Rule} (hu : X.A.units + 8 < cLine)
    (hc : ∀ (R : List Value → Shared → Prop), (∀ us s1 xs rs, DpAll X.K H xs (rs.map dRule) → Vals xs us → xs.length ≤ sizeLine → sortR rs = ts → (∀ b o, s.heap.get? b = some o → s1.heap.get? b = some o) → s1.gens = s.gens → s1.os = s.os → R us s1) → wpAny (model X.prog X.w) X.A.in1 (collect x) R X.xe s)
    (hq : ∀ (l : Addr) (ys : List V), H l = none → DpAll X.K H ys (ts.map dRule) → Q (.ref l) (upd H l (.lst ys))) : wpAny (model X.prog X.w) X.A (call (.builtin "sorted") [x]) (EP X pins σ Q) X.xe s := by
  refine sorted_col (β := Rule × V) (enc := fun b => dRule b.1) (R := fun u (b : Rule × V) => RelV b.2 u ∧ Dp X.K H b.2 (dRule b.1)) (hc _ fun us s1 xs rs hall rv hz ets k g o => ?_)
  obtain ⟨e1, e2, e3⟩ := each_rules I hall rv
  have I1 : Inv X pins σ H s1 := I.call' (ch := []) o (Un.kept k) (I.hok.kept k) (by rw [g]; exact I.bare) (fun _ z => nomatch z)
  have el : (rs.zip xs).length = xs.length := by
    have q := congrArg List.length e3
    rwa [List.length_map] at q
  refine ⟨rs.zip xs, e1, ?_, alike_rules _, sortable_rules _, by rw [el]; exact hz, fun b _ => by rw [depth_rule]; omega, fun p s2 out c k2 g2 o2 hp hg hS => ?_⟩
  · exact e1.mono fun u b h => reads_rule I1 h.2 h.1
  · obtain ⟨v1, v2⟩ := each_vals hS
    have eS : ((rs.zip xs).mergeSort (dataLe false fun b : Rule × V => dRule b.1)).map (·.1) = ts := by
      rw [sort_map (fun b : Rule × V => b.1), e2, ets]
    rw [eS] at v2
    have hn : H p = none := I1.hok.fresh hp
    have hlen : (((rs.zip xs).mergeSort (dataLe false fun b : Rule × V => dRule b.1)).map (·.2)).length ≤ sizeLine := by
      rw [List.length_map, List.length_mergeSort, el]; exact hz
    have J : Inv X pins σ (upd H p (.lst (((rs.zip xs).mergeSort (dataLe false fun b : Rule × V => dRule b.1)).map (·.2)))) s2 :=
      I1.call' (ch := []) o2 (Un.laid k2 hp hn) (I1.hok.laid k2 hp ⟨hlen, out, c, v1, hg⟩) (by rw [g2]; exact I1.bare) (fun _ z => nomatch z)
    exact ⟨.ref p, _, J, rfl, hq p _ hn v2⟩
/-- the set at a -/
def SetRO (P : Program) (w : World) (a : Addr) (ks : List (Rule × Addr)) : HO := .ext fun h => Holds P w (hR P w) a h ks
theorem setRO_ok {P : Program} {w : World} {h : Heap} {a : Addr} {ks : List (Rule × Addr)} (x : Holds P w (hR P w) a h ks) : ObjOk P w H h a (SetRO P w a ks) := by
  refine ⟨x, ?_, fun h1 h2 y k => holds_but y (k ·)⟩
  obtain ⟨o, _, _, _, g, _⟩ := x
  exact ⟨o, g⟩
theorem src_of : ∀ {vs : List V} {rs : List Rule}, DpAll X.K H vs (rs.map dRule) → ∃ src : List (Rule × Addr), vs = src.map (fun p => V.ref p.2) ∧ src.map (·.1) = rs ∧ Keyed X.K H src
  | [], [], _ => ⟨[], rfl, rfl, fun p hp => nomatch hp⟩
  | v :: vs, r :: rs, h => by
    cases h with
    | cons h1 h2 =>
      obtain ⟨src, rfl, e2, hk⟩ := src_of h2
      obtain ⟨p, x, y, rfl, _⟩ := dp_rule.mp h1
      refine ⟨(r, p) :: src, rfl, by rw [List.map_cons, e2], fun q hq => ?_⟩
      rcases List.mem_cons.mp hq with e | e
      · rw [e]; exact h1
      · exact hk q e
  | [], _ :: _, h => by cases h
  | _ :: _, [], h => by cases h
theorem refs_are : ∀ {src : List (Rule × Addr)} {us : List Value}, Vals (src.map fun p => V.ref p.2) us → us = src.map fun p => Value.ref p.2
  | [], _, .nil => rfl
  | p :: src, _, .cons r t => by
    cases r
    rw [refs_are t, List.map_cons]
/-- set(t), t a tuple of rules -/
def rSetR (P : Program) (w : World) (K : PySem.W.Frag) : List V → Hp → VK → Prop := fun xs H Q => ∃ (l : Addr) (vs : List V) (rs : List Rule), xs = [.ref l] ∧ SqT K H l vs ∧ DpAll K H vs (rs.map dRule) ∧ rs.length ≤ 16 ∧
  ∀ a ks, H a = none → Keyed K H ks → (ks.map (·.1)).Nodup → (∀ r, r ∈ ks.map (·.1) ↔ r ∈ rs) → Q (.ref a) (upd H a (SetRO P w a ks))
theorem cr_setR (hc : X.calm = true) (hu : X.A.units + 64 < cLine) : CallR X (.type "set") (rSetR X.prog X.w X.K) := by
  intro pins s σ H xs us Q I r h
  obtain ⟨l, vs, rs, rfl, hl, hall, few, q⟩ := h
  rw [Vals.ref1 r]
  obtain ⟨src, rfl, rfl, hk⟩ := src_of hall
  obtain ⟨its, rv, pl, hz⟩ := I.tuple hl
  refine call_set_rules (src := src) (I.ok.hd hc) pl (by simpa using refs_are rv) (by rw [List.length_map] at few; exact few) (by omega) (fun p hp => nested_of I (hk p hp)) fun z' M => ?_
  obtain ⟨h', tk, ks, _, rfl, Hs, T, k⟩ := M
  have Hs0 := Hs
  obtain ⟨_, _, _, _, _, _, _, Tb0⟩ := Hs0
  refine ⟨.ref s.heap.objs.size, _, I.laid (a := s.heap.objs.size) (o := SetRO X.prog X.w s.heap.objs.size ks) (t' := tk) k (Nat.le_refl _) (setRO_ok Hs), rfl, q _ ks (I.hok.fresh (Nat.le_refl _)) (fun p hp => hk p (T.sub p hp)) Tb0.one fun r => ⟨fun hr => ?_, fun hr => ?_⟩⟩
  · obtain ⟨p, hp, rfl⟩ := List.mem_map.mp hr
    exact List.mem_map.mpr ⟨p, T.sub p hp, rfl⟩
  · obtain ⟨p, hp, rfl⟩ := List.mem_map.mp hr
    exact T.all p (by rw [List.take_length]; exact hp)
/-- sorted(set) -/
def rSortS (P : Program) (w : World) (K : PySem.W.Frag) : List V → Hp → VK → Prop := fun xs H Q => ∃ (a : Addr) (ks : List (Rule × Addr)), xs = [.ref a] ∧ H a = some (SetRO P w a ks) ∧ Keyed K H ks ∧ ks.length ≤ 16 ∧ rSortOut K H (ks.map (·.1)) Q
theorem cr_sortS (hc : X.calm = true) (hu : X.A.units + 64 < cLine) : CallR X (.builtin "sorted") (rSortS X.prog X.w X.K) := by
  intro pins s σ H xs us Q I r h
  obtain ⟨a, ks, rfl, ha, hk, few, q⟩ := h
  rw [Vals.ref1 r]
  obtain ⟨o, es, ep, t, g, hX, hD, T⟩ := show Holds X.prog X.w (hR X.prog X.w) a s.heap ks from (I.hok a _ ha).1
  refine sorted_any I (ts := sortR (ks.map fun p : Rule × Addr => p.1)) (by omega) (fun R hR => ?_) q
  refine collect_set (A := X.A.in1) (I.ok.hd hc) ⟨o, g, hX.1, hD⟩ T.fits (by unfold scanBound; have := T.size; omega) T.ok.ris T.ruled fun s1 vs k1 hz g1 o1 pm => ?_
  rw [T.hes, List.map_map] at pm
  -- the values, in the set's own order
  obtain ⟨ks', rfl, pm'⟩ : ∃ ks' : List (Rule × Addr), vs = ks'.map (fun p => Value.ref p.2) ∧ ks'.Perm ks := by
    obtain ⟨ks', h1, h2⟩ := perm_map pm
    exact ⟨ks', h1, h2⟩
  refine hR _ s1 (ks'.map fun p => V.ref p.2) (ks'.map (·.1)) (dpAll_keys fun p hp => hk p (pm'.mem_iff.mp hp)) ?_ (by rw [List.length_map, pm'.length_eq, sizeLine_eq]; omega) (sortR_same (pm'.map _)) k1 g1 o1
  clear pm pm'
  induction ks' with
  | nil => exact .nil
  | cons p l ih => exact .cons rfl ih
end
end SB
/-! KJoin -/
set_option Elab.async false
set_option linter.all false
set_option maxRecDepth 100000
set_option maxHeartbeats 4000000
namespace SB
open PySem PySem.Spec PyProof.Rows L2
abbrev sJoined : Stmt := top 32
/-- each once -/
def uniq : List Rule → List Rule
  | [] => []
  | r :: rs => if r ∈ uniq rs then uniq rs else r :: uniq rs
theorem mem_uniq : ∀ {rs : List Rule} {r : Rule}, r ∈ uniq rs ↔ r ∈ rs
  | [], r => Iff.rfl
  | x :: rs, r => by
    have ih := @mem_uniq rs
    unfold uniq
    split
    · rename_i h
      rw [ih, List.mem_cons]
      refine ⟨.inr, fun q => ?_⟩
      rcases q with e | e
      · rw [e]; exact ih.mp h
      · exact e
    · rw [List.mem_cons, List.mem_cons, ih]
theorem nodup_uniq : ∀ rs : List Rule, (uniq rs).Nodup
  | [] => List.nodup_nil
  | x :: rs => by
    have ih := nodup_uniq rs
    unfold uniq
    split
    · exact ih
    · rename_i h
      exact List.nodup_cons.mpr ⟨h, ih⟩
theorem uniq_len : ∀ rs : List Rule, (uniq rs).length ≤ rs.length
  | [] => Nat.le_refl _
  | x :: rs => by
    have ih := uniq_len rs
    unfold uniq
    split
    · rw [List.length_cons]; omega
    · rw [List.length_cons, List.length_cons]; omega
theorem uniq_perm {ks rs : List Rule} (hn : ks.Nodup) (hm : ∀ r, r ∈ ks ↔ r ∈ rs) : ks.Perm (uniq rs) :=
  (List.perm_ext_iff_of_nodup hn (nodup_uniq rs)).mpr fun r => by rw [hm, mem_uniq]
def joinB (b c : Book) : Book := (if c.1 > b.1 then c.1 else b.1, sortR (uniq (b.2 ++ c.2)))
def spJoined (K : PySem.W.Frag) (T : List Addr) : Sp := fun vs H Q _ => ∃ (v u : V) (b c : Book), vs = [v, u] ∧ Dp K H v (dBook b) ∧ OkB b ∧ Dp K H u (dBook c) ∧ OkB c ∧ b.2.length + c.2.length ≤ 12 ∧ Tabs T H ∧ ∀ v H', Ext [] H H' → Tabs T H' → Dp K H' v (dBook (joinB b c)) → Q v H'
/-- t + u of tuples of rules -/
def rCatR (K : PySem.W.Frag) : R2 := fun x y H Q => ∃ (rs ts : List Rule), Dp K H x (dRules rs) ∧ Dp K H y (dRules ts) ∧ rs.length + ts.length ≤ 1000 ∧ ∀ v H', Gw [] H H' → Dp K H' v (dRules (rs ++ ts)) → Q v H'
theorem dpAll_app {K : PySem.W.Frag} {H : Hp} : ∀ {xs ys : List V} {rs ts : List Rule}, DpAll K H xs (rs.map dRule) → DpAll K H ys (ts.map dRule) → DpAll K H (xs ++ ys) ((rs ++ ts).map dRule)
  | [], ys, [], ts, _, h => h
  | x :: xs, ys, r :: rs, ts, h, h2 => by
    cases h with
    | cons a b => exact .cons a (dpAll_app b h2)
  | [], _, _ :: _, _, h, _ => by cases h
  | _ :: _, _, [], _, h, _ => by cases h
theorem op_catR {X : Cx} : OpR X (binaryOp .Add) (rCatR X.K) := by
  intro pins s σ H x y v u Q I rx ry h
  obtain ⟨rs, ts, hx, hy, hz, q⟩ := h
  obtain ⟨a, xs, rfl, ha, h1⟩ := dp_rules.mp hx
  obtain ⟨b, ys, rfl, hb, h2⟩ := dp_rules.mp hy
  have l1 : xs.length = rs.length := by rw [dpAll_length h1, List.length_map]
  have l2 : ys.length = ts.length := by rw [dpAll_length h2, List.length_map]
  refine op_catA pins s σ H _ _ v u Q I rx ry ⟨a, b, xs, ys, rfl, rfl, ha, hb, by rw [sizeLine_eq]; omega, fun e => ?_, fun _ e => ?_, fun _ _ p hp => ?_⟩
  · obtain rfl : rs = [] := List.length_eq_zero_iff.mp (by rw [← l1, e]; rfl)
    exact q _ _ .refl hy
  · obtain rfl : ts = [] := List.length_eq_zero_iff.mp (by rw [← l2, e]; rfl)
    exact q _ _ .refl (by rw [List.append_nil]; exact hx)
  · have g : Gw [] H (upd H p (.tup (xs ++ ys))) := .new hp
    exact q _ _ g (dp_rules.mpr ⟨p, _, rfl, SqT.of upd_same, dpAll_app (DpAll.ext g.ext (still_all _) h1) (DpAll.ext g.ext (still_all _) h2)⟩)
section
variable {P : Program} {w : World} {K : PySem.W.Frag} {mg : Str → Option Value} {base : Heap} {T : List Addr}
theorem scJoined : FnScope ["book", "other", "rules"] ["book", "other"] (defScope sJoined) := ⟨rfl, rfl, rfl, by decide +kernel, rfl, by decide +kernel, by decide +kernel⟩
theorem units64 {k : Nat} {A : Around} (r : Room k A) : A.units + 64 < cLine := by have := r.un; omega
/-- sorted(set(b[1] + c[1])) -/
def tUniq (P : Program) (w : World) (K : PySem.W.Frag) (tb tc : TE) : TE := tCB (rSortS P w K) (tCons (tCB (rSetR P w K) (tCons (tOp (rCatR K) (tOp (rIxT K) tb (tC (.int 1))) (tOp (rIxT K) tc (tC (.int 1)))) tNil)) tNil)
theorem uniq_reads {tb tc : TE} {σ : L2.St} {H : Hp} {Q : VK} {v u : V} {b c : Book} (eb : ∀ Q : VK, Q v H → tb σ H Q) (ec : ∀ Q : VK, Q u H → tc σ H Q) (hv : Dp K H v (dBook b)) (hu : Dp K H u (dBook c)) (hl : b.2.length + c.2.length ≤ 16)
    (q : ∀ l ys H', Gw [] H H' → H' l = some (.lst ys) → DpAll K H' ys ((sortR (uniq (b.2 ++ c.2))).map dRule) → Q (.ref l) H') : tUniq P w K tb tc σ H Q := by
  obtain ⟨a1, y1, rfl, hs1, hy1⟩ := dp_book.mp hv
  obtain ⟨a2, y2, rfl, hs2, hy2⟩ := dp_book.mp hu
  unfold tUniq
  refine eb _ ⟨a1, _, 1, y1, rfl, rfl, hs1, rfl, ec _ ⟨a2, _, 1, y2, rfl, rfl, hs2, rfl, b.2, c.2, hy1, hy2, by omega, fun v1 H1 g1 hv1 => ?_⟩⟩
  obtain ⟨t, vs, rfl, hst, hall⟩ := dp_rules.mp hv1
  refine ⟨t, vs, b.2 ++ c.2, rfl, hst, hall, by rw [List.length_append]; exact hl, fun S ks hS hk hn hm => ?_⟩
  have g2 : Gw [] H1 (upd H1 S (SetRO P w S ks)) := .new hS
  have pm := uniq_perm hn hm
  have kl : ks.length ≤ 16 := by
    have q1 := pm.length_eq
    have q2 := uniq_len (b.2 ++ c.2)
    rw [List.length_map] at q1
    rw [List.length_append] at q2
    omega
  refine ⟨S, ks, rfl, upd_same, fun p hp => Dp.ext g2.ext (still_rule _) (hk p hp), kl, fun l ys hl0 hys => ?_⟩
  have g3 : Gw [] (upd H1 S (SetRO P w S ks)) (upd (upd H1 S (SetRO P w S ks)) l (.lst ys)) := .new hl0
  rw [sortR_same pm] at hys
  exact q l ys _ ((g1.trans g2).trans g3) upd_same (DpAll.ext g3.ext (still_all _) hys)
/-- the same, as it is used: two variables that hold books -/
def tUq (K : PySem.W.Frag) (i j : Nat) : TE := fun σ H Q => ∃ v u b c, tVar i σ H (fun x H' => x = v ∧ H' = H) ∧ tVar j σ H (fun x H' => x = u ∧ H' = H) ∧ Dp K H v (dBook b) ∧ Dp K H u (dBook c) ∧ b.2.length + c.2.length ≤ 16 ∧
  ∀ l ys H', Gw [] H H' → H' l = some (.lst ys) → DpAll K H' ys ((sortR (uniq (b.2 ++ c.2))).map dRule) → Q (.ref l) H'
theorem pe_uq {X : Cx} {e : Expr} {i j : Nat} (h : PE X e (tUniq X.prog X.w X.K (tVar i) (tVar j))) : PE X e (tUq X.K i j) := by
  refine ⟨fun pins s σ H Q I q => ?_⟩
  obtain ⟨v, u, b, c, ⟨v', e1, rfl, _⟩, ⟨u', e2, rfl, _⟩, hv, hu, hl, q⟩ := q
  exact h.run pins s σ H Q I (uniq_reads (fun _ z => ⟨_, e1, z⟩) (fun _ z => ⟨_, e2, z⟩) hv hu hl q)
theorem ok_joined {f fC : Addr} {fd fdC : FuncData} (F : FnP K "joined" sJoined f fd) (Ck : At P w K mg base CX0 6 "check_book" ["book"] (spCheck K T) fC fdC) (B : Blt mg) (C : Cst mg) : FnOk P w K mg base CX0 7 f fd ["book", "other"] (spJoined K T) := by
  obtain ⟨t12, m12⟩ := C.rules
  refine okN F scJoined (fun vs H Q E h => ?_) (fun A outer s H vs Q E hr h => ?_)
  · obtain ⟨v, u, b, c, rfl, _⟩ := h
    rfl
  obtain ⟨v, u, b, c, rfl, hv, hb, hu, hc, hl, hT0, hq⟩ := h
  refine ⟨_, pss_cons (ps_expr (pe_call Ck.ok hr rfl Ck.mg_ Ck.kp Ck.bd .nil pass0 (pa_cons (pv 0) pa_nil)))
    (pss_cons (ps_expr (pe_call Ck.ok hr rfl Ck.mg_ Ck.kp Ck.bd .nil pass0 (pa_cons (pv 1) pa_nil)))
    (pss_cons (ps_set (i := 2) scJoined.nd rfl (Or.inl rfl) (pe_uq (i := 0) (j := 1) (pe_callB (cr_sortS rfl (units64 hr)) (by rfl) B.sorted boot_sorted (pa_cons (pe_callTy (cr_setR rfl (units64 hr)) (by rfl) B.set boot_set (pa_cons (pe_op op_catR (pe_ix ix_tup (pv 0) pe_int (fun _ _ => rfl)) (pe_ix ix_tup (pv 1) pe_int (fun _ _ => rfl))) pa_nil)) pa_nil))))
    (pss_cons (ps_if (pt_cmpR op_gt (pe_callB call_len_seq rfl B.len PySem.boot_len (pa_cons (pv 2) pa_nil)) (pe_glob (v := .int 12) rfl m12 ⟨_, rfl⟩) (nomark _)) (pss_one ps_never) pss_nil)
    (pss_one (ps_ret (pe_tup (pa_cons (pe_callB (call_max2 rfl) (by rfl) B.max (by decide +kernel) (pa_cons (pe_ix ix_tup (pv 0) pe_int (fun _ _ => rfl)) (pa_cons (pe_ix ix_tup (pv 1) pe_int (fun _ _ => rfl)) pa_nil))) (pa_cons (pe_callTy call_tuple_of (by rfl) B.tuple boot_tuple (pa_cons (pv 2) pa_nil)) pa_nil)))))))), ?_⟩
  refine ⟨_, rfl, v, b, rfl, hv, hb, hT0, fun H1 e1 t1 => ?_⟩
  refine ⟨_, rfl, u, c, rfl, Dp.ext e1 (still_book c) hu, hc, t1, fun H2 e2 t2 => ?_⟩
  have e12 := e1.trans e2
  have hv2 := Dp.ext e12 (still_book b) hv
  have hu2 := Dp.ext e12 (still_book c) hu
  refine ⟨v, u, b, c, ⟨_, rfl, rfl, rfl⟩, ⟨_, rfl, rfl, rfl⟩, hv2, hu2, by omega, fun l ys H3 g3 el hys => ?_⟩
  have e123 := e12.trans g3.ext
  have t3 := g3.tab T t2
  have yl : ys.length ≤ 12 := by
    have q1 := dpAll_length hys
    have q2 := uniq_len (b.2 ++ c.2)
    rw [List.length_map, (sortR_perm _).length_eq] at q1
    rw [List.length_append] at q2
    omega
  refine ⟨_, rfl, l, ys, rfl, .inl (SqL.of el), _, _, rfl, rfl, _, rfl, ?_⟩
  rw [decide_eq_false (by omega)]
  refine iteF ?_
  obtain ⟨a1, y1, rfl, hs1, hy1⟩ := dp_book.mp (Dp.ext e123 (still_book b) hv)
  obtain ⟨a2, y2, rfl, hs2, hy2⟩ := dp_book.mp (Dp.ext e123 (still_book c) hu)
  refine ⟨_, rfl, a1, _, 0, _, rfl, rfl, hs1, rfl, _, rfl, a2, _, 0, _, rfl, rfl, hs2, rfl, b.1, c.1, rfl, _, rfl, l, ys, rfl, .inl ⟨SqL.of el, fun t ht => ⟨(by show 2 ≤ sizeLine; decide), fun q hq' => ?_⟩⟩⟩
  have gt : Gw [] H3 (upd H3 t (.tup ys)) := .new ht
  have gq := gt.trans (Gw.new (M := []) (o := .tup [.int (if c.1 > b.1 then c.1 else b.1), .ref t]) hq')
  exact hq (.ref q) _ (e123.trans gq.ext) (gq.tab T t3) (dp_book.mpr ⟨q, _, rfl, SqT.of upd_same, dp_rules.mpr ⟨t, ys, rfl, (Gw.new (M := []) hq').ext.sqT (SqT.of upd_same), DpAll.ext gq.ext (still_all _) hys⟩⟩)
end
end SB
/-! KBookL -/
set_option Elab.async false
set_option linter.all false
set_option maxRecDepth 100000
set_option maxHeartbeats 4000000
namespace SB
open PySem PySem.Spec PyProof.Rows L2
abbrev sBook : Stmt := top 39
def spBook (K : PySem.W.Frag) (T : List Addr) : Sp := fun vs H Q _ => ∃ (r a : Addr) (ns : List Int), vs = [.ref r, .int 4, .int 3] ∧ RowAt H r a ∧ SqL K H a (ns.map V.int) ∧ a ≠ r ∧ Tabs T H ∧
  ∀ (b : Book) (v : V) H', OkB b → 2 ≤ b.1 → b.2.length ≤ 4 → Ext [r] H H' → RowAt H' r a → Tabs T H' → Dp K H' v (dBook b) → Q v H'
theorem sortR_strict {rs : List Rule} (h : rs.Nodup) : (sortR rs).Pairwise fun x y => ltR x y = true := by
  have nd : (sortR rs).Nodup := (sortR_perm rs).symm.nodup h
  refine List.Pairwise.imp₂ (R := fun a b => ltR b a = false) (S := fun a b => a ≠ b) ?_ (sortR_up rs) nd
  intro a b h1 h2
  cases q : ltR a b with
  | true => rfl
  | false => exact absurd (ltR_tri a b q h1) h2
theorem okB_of {n : Int} {rs : List Rule} (h1 : 1 ≤ n) (h2 : n ≤ 4) (hl : rs.length ≤ 12) (hr : ∀ r ∈ rs, ruleB n r = true) (hn : rs.Nodup) : OkB (n, sortR rs) where
  fr := by
    unfold frameB
    rw [decide_eq_true (show 1 ≤ n ∧ n ≤ 4 from ⟨h1, h2⟩), decide_eq_true (by show (sortR rs).length ≤ 12; rw [(sortR_perm rs).length_eq]; exact hl)]; rfl
  rl := fun r hr' => hr r ((sortR_perm rs).mem_iff.mp hr')
  up := sortR_strict hn
theorem ruleB_of {n : Int} {l r : Side} (h1 : 1 ≤ l.length) (h3 : l.length ≤ 3) (he : l.length = r.length) (hl : Lets n l) (hr : Lets n r) (hne : l ≠ r) : ruleB n (l, r) = true := by
  have key : ∀ s : Side, 1 ≤ s.length → s.length ≤ 3 → Lets n s → sideB n s = true := fun s a b c => by
    unfold sideB
    rw [decide_eq_true (show 1 ≤ s.length ∧ s.length ≤ 3 from ⟨a, b⟩), Bool.true_and]
    exact List.all_eq_true.mpr fun x hx => decide_eq_true (c x hx)
  unfold ruleB
  simp only
  rw [key l h1 h3 hl, key r (by omega) (by omega) hr, decide_eq_true he, decide_eq_true hne]; rfl
theorem Ext.drop2 {M : List Addr} {d : Addr} {H H2 H' : Hp} (h : Ext (d :: M) H H') (e : Ext M H H2) (hd : H2 d = none) : Ext M H H' := fun b o q => by
  rcases h b o q with z | z | ⟨z1, z2⟩
  · exact .inl z
  · exact .inr (.inl z)
  · rcases List.mem_cons.mp z2 with y | y
    · subst y
      rcases e b o q with y | y | y
      · rw [hd] at y; cases y
      · exact .inr (.inl y)
      · exact .inr (.inr y)
    · exact .inr (.inr ⟨z1, y⟩)
theorem rulesO_tbl {P : Program} {w : World} {d : Addr} {ks : List (Rule × Addr)} (ps : Array Value) : RulesO P w d ks ≠ .tbl ps := fun z => by
  unfold RulesO at z
  cases z
theorem cut_init {k : List Int} (h : 1 ≤ k.length) : cutI k none (some (-1)) = k.take (k.length - 1) := by
  unfold cutI
  rw [HT.sIx_none, List.drop_zero, Nat.sub_zero]
  have e : HT.sIx k.length k.length (some (-1)) = k.length - 1 := by
    unfold HT.sIx
    simp only
    rw [if_pos (by decide)]
    omega
  rw [e]
theorem cut_last {k : List Int} (h : 1 ≤ k.length) : cutI k (some (-1)) none = k.drop (k.length - 1) := by
  unfold cutI
  rw [HT.sIx_none]
  have e : HT.sIx k.length 0 (some (-1)) = k.length - 1 := by
    unfold HT.sIx
    simp only
    rw [if_pos (by decide)]
    omega
  rw [e, List.take_of_length_le]
  rw [List.length_drop]
  exact Nat.le_refl _
theorem cut_one {k : List Int} (h : 1 ≤ k.length) : cutI k none (some 1) = k.take 1 := by
  unfold cutI
  rw [HT.sIx_none, List.drop_zero, Nat.sub_zero, show (some (1 : Int)) = some (((1 : Nat)) : Int) from rfl, HT.sIx_nat, Nat.min_eq_left h]
theorem cut_tail {k : List Int} (h : 1 ≤ k.length) : cutI k (some 1) none = k.drop 1 := by
  unfold cutI
  rw [HT.sIx_none, show (some (1 : Int)) = some (((1 : Nat)) : Int) from rfl, HT.sIx_nat, Nat.min_eq_left h, List.take_of_length_le]
  rw [List.length_drop]
  exact Nat.le_refl _
theorem lets_app {n : Int} {a b : Side} (ha : Lets n a) (hb : Lets n b) : Lets n (a ++ b) := fun x hx => by
  rcases List.mem_append.mp hx with h | h
  · exact ha x h
  · exact hb x h
theorem lets_take {n : Int} {a : Side} {k : Nat} (h : Lets n a) : Lets n (a.take k) := fun x hx => h x (List.mem_of_mem_take hx)
theorem lets_drop {n : Int} {a : Side} {k : Nat} (h : Lets n a) : Lets n (a.drop k) := fun x hx => h x (List.mem_of_mem_drop hx)
/-- an item of a side's end, found in the order -/
theorem ord_at {n : Nat} {o : List Int} (ho : OrdOf n o) {x : Int} (h : 0 ≤ x ∧ x < n) : ∃ y, atI (o.map V.int) x = some (.int y) := by
  obtain ⟨_, hl, _⟩ := ord_nodup ho
  obtain ⟨k, rfl⟩ : ∃ k : Nat, x = (k : Int) := ⟨x.toNat, by omega⟩
  exact ⟨_, atI_nat (by rw [List.getElem?_map, List.getElem?_eq_getElem (by omega)]; rfl)⟩
theorem side_last {n : Int} {k : Side} (h : 1 ≤ k.length) (hl : Lets n k) : ∃ x, atI (k.map V.int) (-1) = some (.int x) ∧ 0 ≤ x ∧ x < n := by
  have hne : k ≠ [] := fun z => by rw [z] at h; simp at h
  refine ⟨k.getLast hne, ?_, hl _ (List.getLast_mem hne)⟩
  have e := List.dropLast_concat_getLast hne
  have q := atI_last ((k.dropLast).map V.int) (V.int (k.getLast hne))
  have e2 : (k.dropLast).map V.int ++ [V.int (k.getLast hne)] = k.map V.int := by
    conv => rhs; rw [← e]
    rw [List.map_append]; rfl
  rw [e2] at q
  exact q
theorem side_first {n : Int} {k : Side} (h : 1 ≤ k.length) (hl : Lets n k) : ∃ x, atI (k.map V.int) 0 = some (.int x) ∧ 0 ≤ x ∧ x < n := by
  refine ⟨k[0], ?_, hl _ (List.getElem_mem _)⟩
  have q : (k.map V.int)[0]? = some (V.int k[0]) := by rw [List.getElem?_map, List.getElem?_eq_getElem (by omega)]; rfl
  exact atI_nat (j := 0) q
/-- what the tests of a turn may change: the two sides -/
def MidB (K : PySem.W.Frag) (r d l : Addr) (n sz : Nat) (way turn : Int) (H8 : Hp) : L2.St → Hp → Prop := fun σ H' => ∃ (lv rv : V) (k1 k2 : Side), σ = [some (.ref r), some (.int 4), some (.int 3), some (.int (n : Int)), some (.int way), some (.ref d), some (.ref l), some (.int turn), some (.int (sz : Int)), some lv, some rv, none] ∧
  Gw [] H8 H' ∧ Dp K H' lv (dSide k1) ∧ Dp K H' rv (dSide k2) ∧ k1.length = sz ∧ k2.length = sz ∧ Lets n k1 ∧ Lets n k2
section
variable {P : Program} {w : World} {K : PySem.W.Frag} {mg : Str → Option Value} {base : Heap} {T : List Addr}
theorem scBook : FnScope ["row", "most", "long", "many", "way", "rules", "order", "turn", "size", "left", "right", "one"] ["row", "most", "long"] (defScope sBook) := ⟨rfl, rfl, rfl, by decide +kernel, rfl, by decide +kernel, by decide +kernel⟩
theorem ok_book {f fT fO fL : Addr} {fd fdT fdO fdL : FuncData} (F : FnP K "_law_book" sBook f fd) (Tk : At P w K mg base CX0 1 "_law_taken" ["row", "many"] (spTaken K T) fT fdT) (O : At P w K mg base CX0 2 "_law_order" ["row", "many"] (spOrder K T) fO fdO)
    (L : At P w K mg base CX0 2 "_law_letters" ["row", "many", "long"] (spLetters K T) fL fdL) (B : Blt mg) : FnOk P w K mg base CX0 3 f fd ["row", "most", "long"] (spBook K T) := by
  refine okN F scBook (fun vs H Q E h => ?_) (fun A outer s H vs Q E hr h => ?_)
  · obtain ⟨r, a, ns, rfl, _⟩ := h
    rfl
  obtain ⟨r, a, ns, rfl, hrow, hs, har, hT0, hq⟩ := h
  refine ⟨_, pss_cons (ps_par3 (i := 3) (j := 4) (l := 5) rfl scBook.nd rfl rfl rfl (by decide) (by decide) (by decide) rfl rfl rfl
      (pa_cons (pe_op op_add pe_int (pe_call Tk.ok (hr.mono (by decide)) rfl Tk.mg_ Tk.kp Tk.bd .nil pass0 (pa_cons (pv 0) (pa_cons (pe_op op_sub (pv 1) pe_int) pa_nil)))) (pa_cons (pe_call Tk.ok (hr.mono (by decide)) rfl Tk.mg_ Tk.kp Tk.bd .nil pass0 (pa_cons (pv 0) (pa_cons pe_int pa_nil))) (pa_cons pe_dnewR pa_nil))) (by rfl))
    (pss_cons (ps_set (i := 6) scBook.nd rfl (Or.inr rfl) (pe_call O.ok hr rfl O.mg_ O.kp O.bd .nil pass0 (pa_cons (pv 0) (pa_cons (pv 3) pa_nil))))
    (pss_cons (ps_for PassesOwn.never rfl (pi_range1 (by rfl) B.range (pa_cons (pe_op op_add pe_int (pe_call Tk.ok (hr.mono (by decide)) rfl Tk.mg_ Tk.kp Tk.bd .nil pass0 (pa_cons (pv 0) (pa_cons pe_int pa_nil)))) pa_nil)) (pg_name (i := 7) scBook.nd rfl (.inl rfl))
      (pss_cons (ps_set (i := 8) scBook.nd rfl (Or.inl rfl) (pe_mid (pe_op op_add pe_int (pe_call Tk.ok (hr.mono (by decide)) rfl Tk.mg_ Tk.kp Tk.bd .nil pass0 (pa_cons (pv 0) (pa_cons (pv 2) pa_nil))))))
      (pss_cons (ps_par (i := 9) (j := 10) rfl scBook.nd rfl rfl (by decide) rfl rfl (pa_cons (pe_call L.ok hr rfl L.mg_ L.kp L.bd .nil pass0 (pa_cons (pv 0) (pa_cons (pv 3) (pa_cons (pv 8) pa_nil)))) (pa_cons (pe_call L.ok hr rfl L.mg_ L.kp L.bd .nil pass0 (pa_cons (pv 0) (pa_cons (pv 3) (pa_cons (pv 8) pa_nil)))) pa_nil)) (by rfl))
      (pss_cons (ps_mid (ps_if (pt_cmpR op_eq (pv 4) pe_int (nomark _))
          (pss_cons (ps_set (i := 10) scBook.nd rfl (Or.inl rfl) (pe_revT (pv 9)))
          (pss_one (ps_if (pt_cmpR (op_gtS (units3 hr)) (pv 9) (pv 10) (nomark _)) (pss_one (ps_par (i := 9) (j := 10) rfl scBook.nd rfl rfl (by decide) rfl rfl (pa_cons (pv 10) (pa_cons (pv 9) pa_nil)) (by rfl))) pss_nil))) pss_nil))
      (pss_cons (ps_mid (ps_if (PW.pt (pw_and (pt_cmpR op_eq (pv 4) pe_int (nomark _)) (pw_and1 (pt_cmpR op_gt (pe_ix ix_list (pv 6) (pe_ix ix_tup (pv 10) (pe_un un_neg pe_int) (fun _ _ => rfl)) (fun _ _ => rfl)) (pe_ix ix_list (pv 6) (pe_ix ix_tup (pv 9) (pe_un un_neg pe_int) (fun _ _ => rfl)) (fun _ _ => rfl)) (nomark _)))))
          (pss_one (ps_par (i := 9) (j := 10) rfl scBook.nd rfl rfl (by decide) rfl rfl (pa_cons (pe_op op_catS (pe_slice sl_side (pv 9) po_none (po_some (pe_un un_neg pe_int))) (pe_slice sl_side (pv 10) (po_some (pe_un un_neg pe_int)) po_none)) (pa_cons (pe_op op_catS (pe_slice sl_side (pv 10) po_none (po_some (pe_un un_neg pe_int))) (pe_slice sl_side (pv 9) (po_some (pe_un un_neg pe_int)) po_none)) pa_nil)) (by rfl))) pss_nil))
      (pss_cons (ps_mid (ps_if (PW.pt (pw_and (pt_cmpR op_eq (pv 4) pe_int (nomark _)) (pw_and1 (pt_cmpR op_gt (pe_ix ix_list (pv 6) (pe_ix ix_tup (pv 10) pe_int (fun _ _ => rfl)) (fun _ _ => rfl)) (pe_ix ix_list (pv 6) (pe_ix ix_tup (pv 9) pe_int (fun _ _ => rfl)) (fun _ _ => rfl)) (nomark _)))))
          (pss_one (ps_par (i := 9) (j := 10) rfl scBook.nd rfl rfl (by decide) rfl rfl (pa_cons (pe_op op_catS (pe_slice sl_side (pv 10) po_none (po_some pe_int)) (pe_slice sl_side (pv 9) (po_some pe_int) po_none)) (pa_cons (pe_op op_catS (pe_slice sl_side (pv 9) po_none (po_some pe_int)) (pe_slice sl_side (pv 10) (po_some pe_int) po_none)) pa_nil)) (by rfl))) pss_nil))
      (pss_cons (ps_mid (ps_if (PW.pt (pw_and (pt_cmpR op_eq (pv 4) pe_int (nomark _)) (pw_and1 (pt_cmpR op_gt
          (pe_callB (cr_sum rfl) (by rfl) B.sum (by decide +kernel) (pa_cons (pe_lc (own := [("one", 11)]) (g := gName 11) (te := tOp (rIxL K) (tVar 6) (tVar 11)) (tt := tYes) rfl scBook.nd (pi_tup (pv 10)) (blkOk_by (own := [("one", 11)]) (N := ["row", "most", "long", "many", "way", "rules", "order", "turn", "size", "left", "right", "one"]) (sc := defScope sBook) (by decide +kernel))
            (fun _ _ _ _ _ => pg_name (i := 11) scBook.nd rfl (Or.inl rfl)) (fun _ _ _ _ _ => pts_nil) (fun _ _ _ _ _ => pe_ix ix_list (pv 6) (pv 11) (fun _ _ => rfl))) pa_nil))
          (pe_callB (cr_sum rfl) (by rfl) B.sum (by decide +kernel) (pa_cons (pe_lc (own := [("one", 11)]) (g := gName 11) (te := tOp (rIxL K) (tVar 6) (tVar 11)) (tt := tYes) rfl scBook.nd (pi_tup (pv 9)) (blkOk_by (own := [("one", 11)]) (N := ["row", "most", "long", "many", "way", "rules", "order", "turn", "size", "left", "right", "one"]) (sc := defScope sBook) (by decide +kernel))
            (fun _ _ _ _ _ => pg_name (i := 11) scBook.nd rfl (Or.inl rfl)) (fun _ _ _ _ _ => pts_nil) (fun _ _ _ _ _ => pe_ix ix_list (pv 6) (pv 11) (fun _ _ => rfl))) pa_nil)) (nomark _)))))
          (pss_one (ps_par (i := 9) (j := 10) rfl scBook.nd rfl rfl (by decide) rfl rfl (pa_cons (pv 10) (pa_cons (pv 9) pa_nil)) (by rfl))) pss_nil))
      (pss_one (ps_if (pt_cmpR (op_neS hr.units) (pv 9) (pv 10) (nomark _)) (pss_one (ps_asg pe_bl (pg_sub (pv 5) (pe_tup (pa_cons (pv 9) (pa_cons (pv 10) pa_nil))) (set_rules (units20 hr))))) pss_nil)))))))))
    (pss_one (ps_ret (pe_tup (pa_cons (pv 3) (pa_cons (pe_callTy call_tuple_of (by rfl) B.tuple boot_tuple (pa_cons (pe_sortedKeys (units20 hr) rfl (by rfl) B.sorted (pv 5)) pa_nil)) pa_nil))))))), ?_⟩
  -- many, way, rules
  refine ⟨_, rfl, _, rfl, _, _, rfl, rfl, r, a, ns, 3, rfl, by decide, by decide, hrow, hs, har, hT0, fun x H1 x0 x1 e1 R1 t1 => ?_⟩
  refine ⟨_, _, rfl, rfl, _, rfl, r, a, ns, 6, rfl, by decide, by decide, R1, e1.sqL hs (by simpa using har), har, t1, fun way H2 w0 w1 e2 R2 t2 => ?_⟩
  refine fun d hd => ⟨_, _, _, rfl, ?_⟩
  show tSeq _ _ _ [some (.ref r), some (.int 4), some (.int 3), some (.int (2 + x)), some (.int way), some (.ref d), none, none, none, none, none, none] (upd H2 d (RulesO P w d []))
  obtain ⟨n, hn⟩ : ∃ n : Nat, 2 + x = (n : Int) := ⟨(2 + x).toNat, by omega⟩
  rw [hn]
  have hn2 : 2 ≤ n := by omega
  have hn4 : n ≤ 4 := by omega
  have ndr : d ≠ r := R2.ne hd
  have R2' : RowAt (upd H2 d (RulesO P w d [])) r a := R2.keep ndr
  have e2' : Ext [r] H (upd H2 d (RulesO P w d [])) := (e1.trans e2).trans (.new hd)
  have hdH : H2 d = none := hd
  -- order
  refine ⟨_, rfl, _, rfl, r, a, ns, n, rfl, by omega, R2', e2'.sqL hs (by simpa using har), har, t2.new hd, fun o l H3 ho e3 R3 t3 hl0 hlr hl => ?_⟩
  have hd3 : H3 d = some (RulesO P w d []) := e3.keep upd_same (by simpa using ndr) rulesO_tbl
  have nld : l ≠ d := fun z => by rw [z, upd_same] at hl0; cases hl0
  have e3' := e2'.trans e3
  -- for turn in range(1 + ..)
  refine ⟨_, rfl, r, a, ns, 4, rfl, by decide, by decide, R3, e3'.sqL hs (by simpa using har), har, t3, fun c H4 c0 c1 e4 R4 t4 => ?_⟩
  have hd4 : H4 d = some (RulesO P w d []) := e4.keep hd3 (by simpa using ndr) rulesO_tbl
  have hl4 : H4 l = some (.lst (o.map V.int)) := e4.lst hl (by simpa using hlr)
  have e4' := e3'.trans e4
  have nlM : l ∉ [r, d] := by simp [hlr, nld]
  have hsA : ∀ H', Ext [r, d] H2 H' → SqL K H' a (ns.map V.int) := fun H' q => by
    rcases (e1.trans e2).sqL hs (by simpa using har) with (z | ⟨o', z⟩) | z
    · exact .inl (.inl (q.lst z (by simp [har, ne_of_none z hd])))
    · exact .inl (.inr ⟨o', q.frz z⟩)
    · exact .inr z
  have e24 : Ext [r, d] H2 H4 := ((Ext.new (M := [r, d]) hd).trans (e3.mono (by simp))).trans (e4.mono (by simp))
  refine ⟨_, _, rfl, rfl, 1 + c, rfl, by omega, by omega, for_it (walk_range (lo := 0) (n := (1 + c).toNat)) (fun i σ H' => ∃ (ks : List (Rule × Addr)) (p7 p8 p9 p10 : Option V), σ = [some (.ref r), some (.int 4), some (.int 3), some (.int (n : Int)), some (.int way), some (.ref d), some (.ref l), p7, p8, p9, p10, none] ∧
      Ext [r, d] H4 H' ∧ Tabs T H' ∧ RowAt H' r a ∧ H' d = some (RulesO P w d ks) ∧ Keyed K H' ks ∧ ks.length ≤ i ∧ (∀ p ∈ ks, ruleB n p.1 = true) ∧ (ks.map (·.1)).Nodup)
    ⟨[], none, none, none, none, rfl, .refl, t4, R4, hd4, fun p hp => absurd hp List.not_mem_nil, Nat.le_refl _, fun p hp => absurd hp List.not_mem_nil, List.nodup_nil⟩ (fun _ _ _ _ _ => trivial) ?_ ?_⟩
  · rintro i v σ H5' H5 hi ⟨ks, p7, p8, p9, p10, rfl, g5, t5, R5, hd5, hk5, hkl, hkr, hkn⟩ ⟨rfl, rfl⟩
    have hi4 : i < 4 := by omega
    -- size
    refine ⟨fun v H6 => ∃ sz : Nat, v = .int (sz : Int) ∧ 1 ≤ sz ∧ sz ≤ 3 ∧ Ext [r] H5 H6 ∧ RowAt H6 r a ∧ Tabs T H6, ?_, ?_⟩
    · refine ⟨_, rfl, _, rfl, r, a, ns, 3, rfl, by decide, by decide, R5, hsA _ (e24.trans g5), har, t5, fun s1 H6 y0 y1 e6 R6 t6 => ?_⟩
      exact ⟨_, _, rfl, rfl, (1 + s1).toNat, congrArg V.int (show (1 + s1 : Int) = ((1 + s1).toNat : Int) by omega), by omega, by omega, e6, R6, t6⟩
    rintro v6 H6 ⟨sz, rfl, hz1, hz3, e6, R6, t6⟩
    have g6 : Ext [r, d] H4 H6 := g5.trans (e6.mono (by simp))
    -- left, right
    refine ⟨_, rfl, _, rfl, _, rfl, r, a, ns, n, sz, rfl, by omega, by omega, by omega, R6, hsA _ (e24.trans g6), har, t6, fun k1 v1 H7 hk1 hL1 e7 R7 t7 hv1 => ?_⟩
    refine ⟨_, rfl, _, rfl, _, rfl, r, a, ns, n, sz, rfl, by omega, by omega, by omega, R7, hsA _ (e24.trans (g6.trans (e7.mono (by simp)))), har, t7, fun k2 v2 H8 hk2 hL2 e8 R8 t8 hv2 => ?_⟩
    refine ⟨_, _, rfl, ?_⟩
    have hv1' := Dp.ext e8 (still_side _) hv1
    have g58 : Ext [r] H5 H8 := (e6.trans e7).trans e8
    have hd8 : H8 d = some (RulesO P w d ks) := g58.keep hd5 (by simpa using ndr) rulesO_tbl
    have hk8 : Keyed K H8 ks := fun p hp => Dp.ext g58 (still_rule _) (hk5 p hp)
    have g8 : Ext [r, d] H4 H8 := g5.trans (g58.mono (by simp))
    have hl8 : H8 l = some (.lst (o.map V.int)) := g8.lst hl4 nlM
    -- what the tests may change
    have lH : ∀ {H'}, Gw [] H8 H' → H' l = some (.lst (o.map V.int)) := fun {H'} g => g.ext.lst hl8 List.not_mem_nil
    refine ⟨MidB K r d l n sz way (0 + (i : Int)) H8, ?_, ?_⟩
    · -- if way == 0
      refine ⟨_, rfl, rfl, _, rfl, ?_⟩
      refine ite2 (fun _ => ?_) (fun _ => ?_)
      case refine_2 => exact ⟨v1, v2, k1, k2, rfl, .refl, hv1', hv2, hk1, hk2, hL1, hL2⟩
      obtain ⟨a1, rfl, ha1⟩ := dp_side.mp hv1'
      refine ⟨_, rfl, a1, _, rfl, ha1, fun p hp => ?_⟩
      have gp : Gw [] H8 (upd H8 p (.tup (k1.map V.int).reverse)) := .new hp
      have hvp : Dp K (upd H8 p (.tup (k1.map V.int).reverse)) (.ref p) (dSide k1.reverse) := dp_side.mpr ⟨p, rfl, by rw [List.map_reverse]; exact SqT.of upd_same⟩
      have hv1p := Dp.ext gp.ext (still_side _) hv1'
      have hLr : Lets n k1.reverse := fun y hy => hL1 y (List.mem_reverse.mp hy)
      refine ⟨_, rfl, _, rfl, k1, k1.reverse, hv1p, hvp, fun b => ⟨_, rfl, ?_⟩⟩
      refine ite2 (fun _ => ?_) (fun _ => ?_)
      · exact ⟨_, rfl, _, rfl, _, _, rfl, .ref p, .ref a1, k1.reverse, k1, rfl, gp, hvp, hv1p, by rw [List.length_reverse, hk1], hk1, hLr, hL1⟩
      · exact ⟨.ref a1, .ref p, k1, k1.reverse, rfl, gp, hv1p, hvp, hk1, by rw [List.length_reverse, hk1], hL1, hLr⟩
    rintro σ H9 ⟨lv, rv, m1, m2, rfl, g9, hm1, hm2, q1, q2, z1, z2⟩
    refine ⟨MidB K r d l n sz way (0 + (i : Int)) H8, ?_, ?_⟩
    · -- if way == 1 and ..
      refine ⟨_, rfl, rfl, _, rfl, ?_⟩
      refine ite2 (fun _ => ?_) (fun _ => ?_)
      case refine_2 =>
        refine iteF ?_
        exact ⟨lv, rv, m1, m2, rfl, g9, hm1, hm2, q1, q2, z1, z2⟩
      obtain ⟨a1, rfl, ha1⟩ := dp_side.mp hm1
      obtain ⟨a2, rfl, ha2⟩ := dp_side.mp hm2
      obtain ⟨x1, hx1, b1⟩ := side_last (by omega) z1
      obtain ⟨x2, hx2, b2⟩ := side_last (by omega) z2
      obtain ⟨w1', hw1⟩ := ord_at ho b1
      obtain ⟨w2', hw2⟩ := ord_at ho b2
      refine ⟨_, rfl, _, rfl, 1, rfl, a2, _, _, _, rfl, rfl, ha2, hx2, l, _, _, _, rfl, rfl, SqL.of (lH g9), hw2, _, rfl, _, rfl, 1, rfl, a1, _, _, _, rfl, rfl, ha1, hx1, l, _, _, _, rfl, rfl, SqL.of (lH g9), hw1, _, _, rfl, rfl, _, rfl, ?_⟩
      refine ite2 (fun _ => ?_) (fun _ => ?_)
      case refine_2 => exact ⟨_, _, m1, m2, rfl, g9, hm1, hm2, q1, q2, z1, z2⟩
      refine ⟨_, rfl, 1, rfl, _, rfl, m1, hm1, fun u1 H10 h10 hu1 => ⟨_, rfl, 1, rfl, _, rfl, m2, Dp.ext h10.ext (still_side _) hm2, fun u2 H11 h11 hu2 => ?_⟩⟩
      have hu1' := Dp.ext h11.ext (still_side _) hu1
      rw [cut_init (by omega)] at hu1'
      rw [cut_last (by omega)] at hu2
      refine ⟨_, _, hu1', hu2, by rw [List.length_take, List.length_drop]; omega, fun u3 H12 h12 hu3 => ?_⟩
      have hm1' := Dp.ext ((h10.trans h11).trans h12).ext (still_side _) hm1
      have hm2' := Dp.ext ((h10.trans h11).trans h12).ext (still_side _) hm2
      refine ⟨_, rfl, 1, rfl, _, rfl, m2, hm2', fun u4 H13 h13 hu4 => ⟨_, rfl, 1, rfl, _, rfl, m1, Dp.ext h13.ext (still_side _) hm1', fun u5 H14 h14 hu5 => ?_⟩⟩
      have hu4' := Dp.ext h14.ext (still_side _) hu4
      rw [cut_init (by omega)] at hu4'
      rw [cut_last (by omega)] at hu5
      refine ⟨_, _, hu4', hu5, by rw [List.length_take, List.length_drop]; omega, fun u6 H15 h15 hu6 => ⟨_, _, rfl, ?_⟩⟩
      exact ⟨u3, u6, _, _, rfl, (((((g9.trans h10).trans h11).trans h12).trans h13).trans h14).trans h15, Dp.ext ((h13.trans h14).trans h15).ext (still_side _) hu3, hu6,
        by rw [List.length_append, List.length_take, List.length_drop]; omega, by rw [List.length_append, List.length_take, List.length_drop]; omega, lets_app (lets_take z1) (lets_drop z2), lets_app (lets_take z2) (lets_drop z1)⟩
    rintro σ H9 ⟨lv, rv, m1, m2, rfl, g9, hm1, hm2, q1, q2, z1, z2⟩
    refine ⟨MidB K r d l n sz way (0 + (i : Int)) H8, ?_, ?_⟩
    · -- if way == 2 and ..
      refine ⟨_, rfl, rfl, _, rfl, ?_⟩
      refine ite2 (fun _ => ?_) (fun _ => ?_)
      case refine_2 =>
        refine iteF ?_
        exact ⟨lv, rv, m1, m2, rfl, g9, hm1, hm2, q1, q2, z1, z2⟩
      obtain ⟨a1, rfl, ha1⟩ := dp_side.mp hm1
      obtain ⟨a2, rfl, ha2⟩ := dp_side.mp hm2
      obtain ⟨x1, hx1, b1⟩ := side_first (by omega) z1
      obtain ⟨x2, hx2, b2⟩ := side_first (by omega) z2
      obtain ⟨w1', hw1⟩ := ord_at ho b1
      obtain ⟨w2', hw2⟩ := ord_at ho b2
      refine ⟨_, rfl, _, rfl, a2, _, _, _, rfl, rfl, ha2, hx2, l, _, _, _, rfl, rfl, SqL.of (lH g9), hw2, _, rfl, _, rfl, a1, _, _, _, rfl, rfl, ha1, hx1, l, _, _, _, rfl, rfl, SqL.of (lH g9), hw1, _, _, rfl, rfl, _, rfl, ?_⟩
      refine ite2 (fun _ => ?_) (fun _ => ?_)
      case refine_2 => exact ⟨_, _, m1, m2, rfl, g9, hm1, hm2, q1, q2, z1, z2⟩
      refine ⟨_, rfl, _, rfl, m2, hm2, fun u1 H10 h10 hu1 => ⟨_, rfl, _, rfl, m1, Dp.ext h10.ext (still_side _) hm1, fun u2 H11 h11 hu2 => ?_⟩⟩
      have hu1' := Dp.ext h11.ext (still_side _) hu1
      rw [cut_one (by omega)] at hu1'
      rw [cut_tail (by omega)] at hu2
      refine ⟨_, _, hu1', hu2, by rw [List.length_take, List.length_drop]; omega, fun u3 H12 h12 hu3 => ?_⟩
      have hm1' := Dp.ext ((h10.trans h11).trans h12).ext (still_side _) hm1
      have hm2' := Dp.ext ((h10.trans h11).trans h12).ext (still_side _) hm2
      refine ⟨_, rfl, _, rfl, m1, hm1', fun u4 H13 h13 hu4 => ⟨_, rfl, _, rfl, m2, Dp.ext h13.ext (still_side _) hm2', fun u5 H14 h14 hu5 => ?_⟩⟩
      have hu4' := Dp.ext h14.ext (still_side _) hu4
      rw [cut_one (by omega)] at hu4'
      rw [cut_tail (by omega)] at hu5
      refine ⟨_, _, hu4', hu5, by rw [List.length_take, List.length_drop]; omega, fun u6 H15 h15 hu6 => ⟨_, _, rfl, ?_⟩⟩
      exact ⟨u3, u6, _, _, rfl, (((((g9.trans h10).trans h11).trans h12).trans h13).trans h14).trans h15, Dp.ext ((h13.trans h14).trans h15).ext (still_side _) hu3, hu6,
        by rw [List.length_append, List.length_take, List.length_drop]; omega, by rw [List.length_append, List.length_take, List.length_drop]; omega, lets_app (lets_take z2) (lets_drop z1), lets_app (lets_take z1) (lets_drop z2)⟩
    rintro σ H9 ⟨lv, rv, m1, m2, rfl, g9, hm1, hm2, q1, q2, z1, z2⟩
    refine ⟨MidB K r d l n sz way (0 + (i : Int)) H8, ?_, ?_⟩
    · -- if way == 3 and ..
      refine ⟨_, rfl, rfl, _, rfl, ?_⟩
      refine ite2 (fun _ => ?_) (fun _ => ?_)
      case refine_2 =>
        refine iteF ?_
        exact ⟨lv, rv, m1, m2, rfl, g9, hm1, hm2, q1, q2, z1, z2⟩
      obtain ⟨a1, rfl, ha1⟩ := dp_side.mp hm1
      obtain ⟨a2, rfl, ha2⟩ := dp_side.mp hm2
      refine ⟨_, rfl, a2, rfl, ⟨_, ha2⟩, fun D hD => lc_tup (K := K) (a := a2) (xs := m2.map V.int) (fun i H' => ∃ ys : List Int, H' D = some (.lst (ys.map V.int)) ∧ ys.length = i ∧ Gw [D] H9 H') ⟨[], upd_same, rfl, .new hD⟩ (fun i H' _ ⟨_, _, _, g⟩ => g.ext.sqT ha2) ?_ ?_⟩
      · rintro i x H' hi' ⟨ys, ey, hyl, gy⟩
        have hil : i < m2.length := by have := (List.getElem?_eq_some_iff.mp hi').1; rw [List.length_map] at this; exact this
        obtain ⟨y, hy, rfl⟩ : ∃ y, m2[i]? = some y ∧ x = .int y := by
          rw [List.getElem?_map] at hi'
          cases q : m2[i]? with
          | none => rw [q] at hi'; cases hi'
          | some y => rw [q] at hi'; exact ⟨y, rfl, (Option.some.inj hi').symm⟩
        obtain ⟨w', hw⟩ := ord_at ho (z2 y (List.mem_of_getElem? hy))
        have nlD : l ∉ [D] := by
          have := ne_of_none (lH g9) hD
          simp [this]
        refine ⟨rfl, yes_of ?_⟩
        refine iteT ?_
        refine ⟨_, rfl, _, rfl, l, _, _, _, rfl, rfl, SqL.of (gy.ext.lst (lH g9) nlD), hw, _, ey, ?_, ys ++ [w'], ?_, by rw [List.length_append, hyl]; rfl, gy.trans (.set ey rfl List.mem_cons_self)⟩
        · rw [List.length_map]
          exact lt_line (by omega)
        · rw [upd_same, List.map_append]; rfl
      rintro H10 ⟨ys, ey, hyl, gy⟩
      have g10 := g9.trans (gy.drop hD)
      refine ⟨D, ys, rfl, SqL.of ey, _, rfl, a1, rfl, ⟨_, (gy.drop hD).ext.sqT ha1⟩, fun D2 hD2 => lc_tup (K := K) (a := a1) (xs := m1.map V.int) (fun i H' => ∃ ys : List Int, H' D2 = some (.lst (ys.map V.int)) ∧ ys.length = i ∧ Gw [D2] H10 H') ⟨[], upd_same, rfl, .new hD2⟩ (fun i H' _ ⟨_, _, _, g⟩ => g.ext.sqT ((gy.drop hD).ext.sqT ha1)) ?_ ?_⟩
      · rintro i x H' hi' ⟨ys2, ey2, hyl2, gy2⟩
        have hil : i < m1.length := by have := (List.getElem?_eq_some_iff.mp hi').1; rw [List.length_map] at this; exact this
        obtain ⟨y, hy, rfl⟩ : ∃ y, m1[i]? = some y ∧ x = .int y := by
          rw [List.getElem?_map] at hi'
          cases q : m1[i]? with
          | none => rw [q] at hi'; cases hi'
          | some y => rw [q] at hi'; exact ⟨y, rfl, (Option.some.inj hi').symm⟩
        obtain ⟨w', hw⟩ := ord_at ho (z1 y (List.mem_of_getElem? hy))
        have nlD : l ∉ [D2] := by
          have := ne_of_none (lH g10) hD2
          simp [this]
        refine ⟨rfl, yes_of ?_⟩
        refine iteT ?_
        refine ⟨_, rfl, _, rfl, l, _, _, _, rfl, rfl, SqL.of (gy2.ext.lst (lH g10) nlD), hw, _, ey2, ?_, ys2 ++ [w'], ?_, by rw [List.length_append, hyl2]; rfl, gy2.trans (.set ey2 rfl List.mem_cons_self)⟩
        · rw [List.length_map]
          exact lt_line (by omega)
        · rw [upd_same, List.map_append]; rfl
      rintro H11 ⟨ys2, ey2, hyl2, gy2⟩
      have g11 := g10.trans (gy2.drop hD2)
      have gg := (gy.drop hD).trans (gy2.drop hD2)
      have hm1' := Dp.ext gg.ext (still_side _) hm1
      have hm2' := Dp.ext gg.ext (still_side _) hm2
      refine ⟨D2, ys2, rfl, SqL.of ey2, _, _, rfl, rfl, _, rfl, ?_⟩
      refine ite2 (fun _ => ?_) (fun _ => ?_)
      · exact ⟨_, rfl, _, rfl, _, _, rfl, .ref a2, .ref a1, m2, m1, rfl, g11, hm2', hm1', q2, q1, z2, z1⟩
      · exact ⟨.ref a1, .ref a2, m1, m2, rfl, g11, hm1', hm2', q1, q2, z1, z2⟩
    rintro σ H9 ⟨lv, rv, m1, m2, rfl, g9, hm1, hm2, q1, q2, z1, z2⟩
    have e59 : Ext [r] H5 H9 := g58.trans g9.ext.more
    have t9 : Tabs T H9 := g9.tab T t8
    have R9 : RowAt H9 r a := R8.ext g9.ext List.not_mem_nil
    have hd9 : H9 d = some (RulesO P w d ks) := g9.ext.keep hd8 List.not_mem_nil rulesO_tbl
    have hk9 : Keyed K H9 ks := fun p hp => Dp.ext g9.ext (still_rule _) (hk8 p hp)
    have g49 : Ext [r, d] H4 H9 := g8.trans g9.ext.more
    -- if left != right
    refine ⟨_, rfl, _, rfl, m1, m2, hm1, hm2, _, rfl, ?_⟩
    by_cases cne : m1 ≠ m2
    case neg =>
      rw [decide_eq_false cne]
      refine iteF ?_
      exact ⟨ks, _, _, _, _, rfl, g49, t9, R9, hd9, hk9, by omega, hkr, hkn⟩
    rw [decide_eq_true cne]
    refine iteT ?_
    refine ⟨_, rfl, _, rfl, _, rfl, (by show 2 ≤ sizeLine; decide), fun p hp => ?_⟩
    have gp : Gw [] H9 (upd H9 p (.tup [lv, rv])) := .new hp
    have hdp : upd H9 p (.tup [lv, rv]) d = some (RulesO P w d ks) := by rw [upd_ne (ne_of_none hd9 hp)]; exact hd9
    have hkp : Keyed K (upd H9 p (.tup [lv, rv])) ks := fun q hq => Dp.ext gp.ext (still_rule _) (hk9 q hq)
    have hrp : Dp K (upd H9 p (.tup [lv, rv])) (.ref p) (dRule (m1, m2)) := dp_rule.mpr ⟨p, _, _, rfl, SqT.of upd_same, Dp.ext gp.ext (still_side _) hm1, Dp.ext gp.ext (still_side _) hm2⟩
    have npd : p ≠ d := fun z => by rw [z, hd9] at hp; cases hp
    have e10 : Ext [r, d] (upd H9 p (.tup [lv, rv])) (upd (upd H9 p (.tup [lv, rv])) d (RulesO P w d (putR ks (m1, m2) p))) := .set hdp (by unfold RulesO; rfl) (by simp)
    refine ⟨d, p, ks, (m1, m2), rfl, rfl, rfl, hdp, hkp, hrp, by omega, ?_⟩
    refine ⟨putR ks (m1, m2) p, _, _, _, _, rfl, (g49.trans gp.ext.more).trans e10, (gp.tab T t9).set hdp rulesO_tbl, (R9.keep (R9.ne hp)).keep ndr, upd_same, ?_, ?_, ?_, putR_nodup hkn⟩
    · intro q hq
      have hold : Dp K (upd H9 p (.tup [lv, rv])) (.ref q.2) (dRule q.1) := by
        unfold putR at hq
        split at hq
        · exact hkp q hq
        · rcases List.mem_append.mp hq with hq | hq
          · exact hkp q hq
          · rw [List.mem_singleton.mp hq]; exact hrp
      exact Dp.ext e10 (still_rule _) hold
    · unfold putR
      split
      · omega
      · rw [List.length_append]
        show ks.length + 1 ≤ i + 1
        omega
    · intro q hq
      unfold putR at hq
      split at hq
      · exact hkr q hq
      · rcases List.mem_append.mp hq with hq | hq
        · exact hkr q hq
        · rw [List.mem_singleton.mp hq]
          exact ruleB_of (by omega) (by omega) (by omega) z1 z2 cne
  · rintro σ H5 ⟨ks, p7, p8, p9, p10, rfl, g5, t5, R5, hd5, hk5, hkl, hkr, hkn⟩
    have h4 : (1 + c).toNat ≤ 4 := by omega
    refine ⟨_, rfl, _, rfl, d, ks, rfl, hd5, hk5, by omega, fun l2 zs hl2 hz => ⟨l2, _, rfl, .inl ⟨SqL.of upd_same, fun t ht => ⟨(by show 2 ≤ sizeLine; decide), fun q hq' => ?_⟩⟩⟩⟩
    have gl : Gw [] H5 (upd H5 l2 (.lst zs)) := .new hl2
    have gt := gl.trans (Gw.new (M := []) (o := .tup zs) ht)
    have gq := gt.trans (Gw.new (M := []) (o := .tup [.int (n : Int), .ref t]) hq')
    have eH : Ext [d, r] H H5 := ((e1.trans e2).mono (by simp)).trans ((Ext.new (M := [d, r]) hd).trans (((e3.mono (by simp)).trans (e4.mono (by simp))).trans (g5.mono (by simp))))
    refine hq (n, sortR (ks.map (·.1))) (.ref q) _ (okB_of (by omega) (by omega) (by rw [List.length_map]; omega) (fun r' hr' => ?_) hkn) (by show (2 : Int) ≤ n; omega) ?_ ((eH.drop2 (e1.trans e2) hd).trans gq.ext.more) (R5.ext gq.ext List.not_mem_nil) (gq.tab T t5) ?_
    · obtain ⟨p, hp, rfl⟩ := List.mem_map.mp hr'
      exact hkr p hp
    · show (sortR (ks.map (·.1))).length ≤ 4
      rw [(sortR_perm _).length_eq, List.length_map]; omega
    · exact dp_book.mpr ⟨q, _, rfl, SqT.of upd_same, dp_rules.mpr ⟨t, zs, rfl, (Gw.new (M := []) hq').ext.sqT (SqT.of upd_same), DpAll.ext gq.ext (still_all _) hz⟩⟩
end
end SB
/-! KDueM -/
set_option Elab.async false
set_option linter.all false
set_option maxRecDepth 100000
set_option maxHeartbeats 4000000
namespace SB
open PySem PySem.Spec PyProof.Rows L2
/-! what the law's own reader meets, told by the mirror -/
theorem digA_no62 {L : List Nat} {i : Nat} (h : L[i]? = some 62) : digA L i = -1 := by unfold digA; rw [h]; decide
theorem rule_err0 {L : List Nat} {j k : Nat} {n : Int} (h : (lettersA L j n k).length = k) (hk : k ≤ 3) (h1 : ¬ (0 ≤ digA L (j + k) ∧ digA L (j + k) < n) ∨ k = 3) (h2 : k = 0 ∨ L[j + k]? ≠ some 62) : ruleA L j n = .error (j + k) := by
  have e : lettersA L j n 3 = lettersA L j n k := by
    rcases h1 with h1 | h1
    · exact lettersA_end L n k j 3 h h1 hk
    · rw [h1]
  unfold ruleA
  simp only
  rw [e, h, if_pos]
  rcases h2 with h2 | h2
  · left; exact List.eq_nil_of_length_eq_zero (by rw [h, h2])
  · exact .inr h2
theorem left_end {L : List Nat} {j k : Nat} {n : Int} (h : (lettersA L j n k).length = k) (hk : k ≤ 3) (h2 : L[j + k]? = some 62) : lettersA L j n 3 = lettersA L j n k :=
  lettersA_end L n k j 3 h (by rw [digA_no62 h2]; omega) hk
theorem rule_right {L : List Nat} {j : Nat} {n : Int} {a : List Int} (ha : lettersA L j n 3 = a) (hne : a ≠ []) (hg : L[j + a.length]? = some 62) :
    ruleA L j n = if (lettersA L (j + a.length + 1) n a.length).length < a.length then .error (j + a.length + 1 + (lettersA L (j + a.length + 1) n a.length).length) else
      if a = lettersA L (j + a.length + 1) n a.length then .error (j + a.length + 1 + (lettersA L (j + a.length + 1) n a.length).length - 1) else .ok ((a, lettersA L (j + a.length + 1) n a.length), j + a.length + 1 + (lettersA L (j + a.length + 1) n a.length).length) := by
  unfold ruleA
  simp only
  rw [ha, if_neg (fun z => z.elim hne fun y => y hg)]
theorem rule_err1 {L : List Nat} {j k : Nat} {n : Int} {a : List Int} (ha : lettersA L j n 3 = a) (hne : a ≠ []) (hg : L[j + a.length]? = some 62) (h : (lettersA L (j + a.length + 1) n k).length = k) (hk : k < a.length)
    (h1 : ¬ (0 ≤ digA L (j + a.length + 1 + k) ∧ digA L (j + a.length + 1 + k) < n)) : ruleA L j n = .error (j + a.length + 1 + k) := by
  have e : lettersA L (j + a.length + 1) n a.length = lettersA L (j + a.length + 1) n k := lettersA_end L n k _ _ h h1 (by omega)
  rw [rule_right ha hne hg, e, h, if_pos hk]
theorem rule_end {L : List Nat} {j : Nat} {n : Int} {a b : List Int} (ha : lettersA L j n 3 = a) (hne : a ≠ []) (hg : L[j + a.length]? = some 62) (hb : lettersA L (j + a.length + 1) n a.length = b) (h : b.length = a.length) :
    ruleA L j n = if a = b then .error (j + a.length + 1 + b.length - 1) else .ok ((a, b), j + a.length + 1 + b.length) := by
  rw [rule_right ha hne hg, hb, if_neg (by omega)]
/-- the signs of n letters -/
def signs (n : Nat) : List Str := (List.range n).map fun k => ⟨#[48 + k]⟩
theorem sign_text {k : Nat} (h : k < 4) : Str.ofString (toString ((k : Nat) : Int)) = ⟨#[48 + k]⟩ := by
  have : k = 0 ∨ k = 1 ∨ k = 2 ∨ k = 3 := by omega
  rcases this with rfl | rfl | rfl | rfl <;> decide +kernel
theorem sign_int {c : Nat} (h1 : 48 ≤ c) (h2 : c ≤ 57) : PySem.intText? ⟨#[c]⟩ = some ((c : Int) - 48) := by
  have : c = 48 ∨ c = 49 ∨ c = 50 ∨ c = 51 ∨ c = 52 ∨ c = 53 ∨ c = 54 ∨ c = 55 ∨ c = 56 ∨ c = 57 := by omega
  rcases this with rfl | rfl | rfl | rfl | rfl | rfl | rfl | rfl | rfl | rfl <;> decide +kernel
theorem str_one_eq (c d : Nat) : ((⟨#[c]⟩ : Str) == ⟨#[d]⟩) = decide (c = d) := by
  by_cases h : c = d
  · subst h; simp
  · rw [decide_eq_false h]
    refine beq_eq_false_iff_ne.mpr fun z => h ?_
    injection z with z
    simpa using z
theorem digA_cases (L : List Nat) (i : Nat) : (L[i]? = none ∧ digA L i = -1) ∨ ∃ c, L[i]? = some c ∧ ((48 ≤ c ∧ c ≤ 57 ∧ digA L i = (c : Int) - 48) ∨ (¬ (48 ≤ c ∧ c ≤ 57) ∧ digA L i = -1)) := by
  unfold digA
  cases h : L[i]? with
  | none => exact .inl ⟨rfl, rfl⟩
  | some c =>
    refine .inr ⟨c, rfl, ?_⟩
    by_cases q : 48 ≤ c ∧ c ≤ 57
    · exact .inl ⟨q.1, q.2, if_pos q⟩
    · exact .inr ⟨q, if_neg q⟩
theorem cut_none {z : Str} {i : Nat} (h : (codes z)[i]? = none) : cutS z (some (i : Int)) (some ((i : Int) + 1)) = ⟨#[]⟩ := by
  rw [cut1, show z.cps.toList[i]? = none from h]
theorem cut_some {z : Str} {i c : Nat} (h : (codes z)[i]? = some c) : cutS z (some (i : Int)) (some ((i : Int) + 1)) = ⟨#[c]⟩ := by
  rw [cut1, show z.cps.toList[i]? = some c from h]
theorem nil_one (c : Nat) : ((⟨#[c]⟩ : Str) == ⟨#[]⟩) = false := by
  refine beq_eq_false_iff_ne.mpr fun z => ?_
  injection z with z
  simp at z
theorem one_nil (c : Nat) : ((⟨#[]⟩ : Str) == ⟨#[c]⟩) = false := by
  refine beq_eq_false_iff_ne.mpr fun z => ?_
  injection z with z
  simp at z
theorem in_signs (z : Str) (i n : Nat) (hn : n ≤ 4) : inV (.str (cutS z (some (i : Int)) (some ((i : Int) + 1)))) ((signs n).map V.str) = decide (0 ≤ digA (codes z) i ∧ digA (codes z) i < n) := by
  have e : ∀ w : Str, inV (.str w) ((signs n).map V.str) = (List.range n).any fun k => ((⟨#[48 + k]⟩ : Str) == w) := fun w => by
    unfold inV signs
    rw [List.map_map, List.any_map]; rfl
  rw [e]
  rcases digA_cases (codes z) i with ⟨h, hd⟩ | ⟨c, h, hd⟩
  · rw [hd, cut_none h, decide_eq_false (by omega), List.any_eq_false]
    intro k _
    rw [nil_one]; simp
  · rw [cut_some h]
    have q : (List.range n).any (fun k => ((⟨#[48 + k]⟩ : Str) == ⟨#[c]⟩)) = (List.range n).any fun k => decide (48 + k = c) := by
      congr 1
      funext k
      exact str_one_eq _ _
    rw [q]
    by_cases c2 : 48 ≤ c ∧ c < 48 + n
    · have hd' : digA (codes z) i = (c : Int) - 48 := by rcases hd with hd | hd <;> omega
      rw [hd', decide_eq_true (by omega), List.any_eq_true]
      exact ⟨c - 48, List.mem_range.mpr (by omega), decide_eq_true (by omega)⟩
    · rw [decide_eq_false (by rcases hd with hd | hd <;> omega), List.any_eq_false]
      intro k hk
      have := List.mem_range.mp hk
      simp only [decide_eq_true_eq]
      omega
theorem in_four (z : Str) (i : Nat) : inV (.str (cutS z (some (i : Int)) (some ((i : Int) + 1)))) [V.str "1", V.str "2", V.str "3", V.str "4"] = decide (1 ≤ digA (codes z) i ∧ digA (codes z) i ≤ 4) := by
  rw [show ("1" : Str) = ⟨#[49]⟩ by decide +kernel, show ("2" : Str) = ⟨#[50]⟩ by decide +kernel, show ("3" : Str) = ⟨#[51]⟩ by decide +kernel, show ("4" : Str) = ⟨#[52]⟩ by decide +kernel]
  have e : ∀ w : Str, inV (.str w) [V.str ⟨#[49]⟩, V.str ⟨#[50]⟩, V.str ⟨#[51]⟩, V.str ⟨#[52]⟩] = [49, 50, 51, 52].any fun k => ((⟨#[k]⟩ : Str) == w) := fun w => rfl
  rw [e]
  rcases digA_cases (codes z) i with ⟨h, hd⟩ | ⟨c, h, hd⟩
  · rw [hd, cut_none h, decide_eq_false (by omega), List.any_eq_false]
    intro k _
    rw [nil_one]; simp
  · rw [cut_some h]
    have q : ([49, 50, 51, 52].any fun k => ((⟨#[k]⟩ : Str) == ⟨#[c]⟩)) = [49, 50, 51, 52].any fun k => decide (k = c) := by
      congr 1
      funext k
      exact str_one_eq _ _
    rw [q]
    by_cases c2 : 49 ≤ c ∧ c ≤ 52
    · rw [decide_eq_true (by rcases hd with hd | hd <;> omega)]
      have : c = 49 ∨ c = 50 ∨ c = 51 ∨ c = 52 := by omega
      rcases this with rfl | rfl | rfl | rfl <;> decide
    · rw [decide_eq_false (by rcases hd with hd | hd <;> omega), List.any_eq_false]
      intro k hk
      simp only [decide_eq_true_eq]
      have : k = 49 ∨ k = 50 ∨ k = 51 ∨ k = 52 := by simpa using hk
      omega
def gapB (L : List Nat) (i : Nat) : Bool := match L[i]? with
  | none => true
  | some c => decide (c = 32)
theorem next_gap {L : List Nat} {i : Nat} : nextA L i = if gapB L i = true then .ok (skipA L i) else .error i := by
  unfold nextA gapB
  cases h : L[i]? with
  | none => rfl
  | some c => simp
theorem in_gap (z : Str) (i : Nat) : inV (.str (cutS z (some (i : Int)) (some ((i : Int) + 1)))) [V.str "", V.str " "] = gapB (codes z) i := by
  rw [s_nil, s_space]
  have e : ∀ w : Str, inV (.str w) [V.str ⟨#[]⟩, V.str ⟨#[32]⟩] = (((⟨#[]⟩ : Str) == w) || (((⟨#[32]⟩ : Str) == w) || false)) := fun w => rfl
  rw [e]
  unfold gapB
  cases h : (codes z)[i]? with
  | none => rw [cut_none h]; rfl
  | some c =>
    rw [cut_some h, one_nil, str_one_eq]
    simp [eq_comm]
theorem pt_ifExp {X : Cx} {t : TT} {ta tb : TT} {c a b : Expr} {pos : Pos} (hc : PT X c t) (ha : PT X a ta) (hb : PT X b tb) : PT X (.IfExp c a b pos) (fun σ H Q => t σ H fun k H1 => if k = true then ta σ H1 Q else tb σ H1 Q) := by
  refine ⟨fun pins s σ H Q I h => ?_⟩
  show wpAny _ _ (do if ← isTrue c X.env (eval c X.env) then isTrue a X.env (eval a X.env) else isTrue b X.env (eval b X.env)) _ _ _
  refine wpAny_bind (thn (hc.run pins s σ H _ I h) fun d s1 ⟨H1, I1, q1⟩ => ?_)
  cases d with
  | true => exact ha.run pins s1 σ H1 Q I1 q1
  | false => exact hb.run pins s1 σ H1 Q I1 q1
theorem shaped_rulesL {rs : List Rule} : SeqAt.shaped (.list (rs.map dRule)) = true := by
  have h0 : ∀ s : Side, (dSide s).canLay0 = true ∧ (dSide s).depth = 1 := fun s => by
    have q := shaped_side s
    refine ⟨(Bool.and_eq_true_iff.mp q).1, by rw [dSide, PyData.depth, depth_ints]⟩
  have h1 : ∀ r : Rule, (dRule r).canLay0 = true := fun r => by
    rw [dRule, PyData.canLay0, PyData.canLayAll0, PyData.canLayAll0, PyData.canLayAll0, (h0 r.1).1, (h0 r.2).1]; rfl
  have h2 : ∀ rs : List Rule, PyData.canLayAll0 (rs.map dRule) = true ∧ PyData.depthAll (rs.map dRule) ≤ 2 := fun rs => by
    induction rs with
    | nil => exact ⟨rfl, Nat.zero_le _⟩
    | cons r rs ih =>
      rw [List.map_cons, PyData.canLayAll0, PyData.depthAll, h1, ih.1, depth_rule]
      exact ⟨rfl, by omega⟩
  have h3 := h2 rs
  rw [SeqAt.shaped, PyData.canLay0, h3.1, PyData.depth]
  simp only [Bool.true_and]
  exact decide_eq_true (by omega)
end SB
/-! KDue -/
set_option Elab.async false
set_option linter.all false
set_option maxRecDepth 100000
set_option maxHeartbeats 4000000
namespace SB
open PySem PySem.Spec PyProof.Rows L2
theorem ifT {c : Bool} {A B : Prop} (hc : c = true) (h : A) : if c = true then A else B := by
  rw [if_pos hc]
  exact h
theorem ifF {c : Bool} {A B : Prop} (hc : c = false) (h : B) : if c = true then A else B := by
  rw [hc, if_neg Bool.false_ne_true]
  exact h
abbrev sLSkip : Stmt := top 42
abbrev sDue : Stmt := top 43
def dOut : Res Book → PyData
  | .ok b => .tuple [.str "book", dBook b]
  | .error p => .tuple [.str "place", .int (p : Int)]
def LeftA (L : List Nat) (j : Nat) (n : Int) (A : List Int) : Prop := lettersA L j n 3 = A ∧ A ≠ [] ∧ L[j + A.length]? = some 62
def SidesA (L : List Nat) (j : Nat) (n : Int) : Nat → Nat → List Int → List Int → Prop
  | 0, s, A, B => s = j ∧ A = [] ∧ B = []
  | 1, s, A, B => LeftA L j n A ∧ s = j + A.length + 1 ∧ B = []
  | _, s, A, B => LeftA L j n A ∧ lettersA L (j + A.length + 1) n A.length = B ∧ B.length = A.length ∧ s = j + A.length + 1 + B.length
theorem shaped_intsL (k : List Int) : SeqAt.shaped (.list (k.map .int)) = true := by
  have h : ∀ xs : List Int, PyData.canLayAll0 (xs.map .int) = true := fun xs => by
    induction xs with
    | nil => rfl
    | cons x xs ih => rw [List.map_cons, PyData.canLayAll0, ih, PyData.canLay0]; rfl
  rw [SeqAt.shaped, PyData.canLay0, h, PyData.depth, depth_ints]; rfl
theorem flat_signs (n : Nat) : ((signs n).map V.str).all flatV = true := by
  rw [List.all_map]
  exact List.all_eq_true.mpr fun _ _ => rfl
def spDue (K : PySem.W.Frag) : Sp := fun vs H Q _ => ∃ (z : Str), vs = [.str z] ∧ z.length ≤ 10000 ∧ ∀ v H', Gw [] H H' → Dp K H' v (dOut (readA (codes z))) → Q v H'
section
variable {P : Program} {w : World} {K : PySem.W.Frag} {mg : Str → Option Value} {base : Heap}
theorem scLSkip : FnScope ["text", "at", "turn"] ["text", "at"] (defScope sLSkip) := ⟨rfl, rfl, rfl, by decide +kernel, rfl, by decide +kernel, by decide +kernel⟩
theorem ok_lskip {f : Addr} {fd : FuncData} (F : FnP K "_law_skip" sLSkip f fd) (B : Blt mg) : FnOk P w K mg base CX0 1 f fd ["text", "at"] spSkip := by
  refine okN F scLSkip (fun vs H Q E h => ?_) (fun A outer s H vs Q E hr h => ?_)
  · obtain ⟨z, i, rfl, _⟩ := h
    rfl
  obtain ⟨z, i, rfl, hz, hi, hq⟩ := h
  have hl := codes_len z
  refine ⟨_, pss_cons (ps_for PassesOwn.never rfl (pi_range1 (by rfl) B.range (pa_cons (pe_callB call_len_str rfl B.len PySem.boot_len (pa_cons (pv 0) pa_nil)) pa_nil)) (pg_name (i := 2) scLSkip.nd rfl (.inl rfl))
      (pss_one (ps_if (PW.pt (pw_and (pt_cmpR op_lt (pv 1) (pe_callB call_len_str rfl B.len PySem.boot_len (pa_cons (pv 0) pa_nil)) (nomark _)) (pw_and1 (pt_cmpR op_eq (pe_ix ix_str (pv 0) (pv 1) (fun _ _ => rfl)) pe_str (nomark _)))))
        (pss_one (ps_set (i := 1) scLSkip.nd rfl (Or.inl rfl) (pe_op op_add (pv 1) pe_int))) pss_nil)))
    (pss_one (ps_ret (pv 1))), ?_⟩
  refine ⟨_, rfl, z, rfl, small_fits hz, z.length, rfl, by omega, by omega, for_it (walk_range (lo := 0) (n := ((z.length : Nat) : Int).toNat)) (fun m σ H2 => ∃ (j : Nat) (p : Option V), σ = [some (.str z), some (.int (j : Int)), p] ∧ H2 = H ∧ j ≤ z.length ∧ skipA (codes z) j = skipA (codes z) i ∧ (i + m ≤ j ∨ (codes z)[j]? ≠ some 32))
    ⟨i, none, rfl, rfl, hi, rfl, .inl (Nat.le_refl _)⟩ (fun _ _ _ _ _ => trivial) ?_ ?_⟩
  · rintro m v σ H2 H3 hm ⟨j, p, rfl, rfl, hj, hs, hor⟩ ⟨rfl, rfl⟩
    refine ⟨_, rfl, _, rfl, z, rfl, small_fits hz, _, _, rfl, rfl, _, rfl, ?_⟩
    have stay : (codes z)[j]? ≠ some 32 → ∃ (j' : Nat) (p : Option V), [some (V.str z), some (V.int (j : Int)), some (V.int (0 + (m : Int)))] = [some (.str z), some (.int (j' : Int)), p] ∧ H3 = H3 ∧ j' ≤ z.length ∧ skipA (codes z) j' = skipA (codes z) i ∧ (i + (m + 1) ≤ j' ∨ (codes z)[j']? ≠ some 32) := fun n => ⟨j, _, rfl, rfl, hj, hs, .inr n⟩
    refine ite2 (fun c => ?_) (fun c => ?_)
    case refine_2 =>
      have c' : ¬ (j : Int) < (z.length : Int) := by simpa using c
      refine iteF ?_
      exact stay (by rw [List.getElem?_eq_none (by omega)]; simp)
    have c' : (j : Int) < (z.length : Int) := by simpa using c
    have hlt : j < (codes z).length := by omega
    have hg : (codes z)[j]? = some (codes z)[j] := List.getElem?_eq_getElem hlt
    refine ⟨_, rfl, _, rfl, z, (j : Int), (codes z)[j], rfl, rfl, small_fits hz, atI_nat hg, rfl, _, rfl, ?_⟩
    rw [s_space, one_eq]
    by_cases e : (codes z)[j] = 32
    · rw [decide_eq_true e]
      refine iteT ?_
      have hor' : i + m ≤ j := hor.resolve_right fun n => n (by rw [hg, e])
      exact ⟨_, rfl, _, _, rfl, rfl, j + 1, _, rfl, rfl, by omega, by rw [← hs, skipA_next (i := j) (by rw [hg, e])], .inl (by omega)⟩
    · rw [decide_eq_false e]
      refine iteF ?_
      exact stay (by rw [hg]; simpa using e)
  · rintro σ H2 ⟨j, p, rfl, rfl, hj, hs, hor⟩
    refine ⟨_, rfl, ?_⟩
    have n : (codes z)[j]? ≠ some 32 := by
      rcases hor with h | h
      · have : ((z.length : Nat) : Int).toNat = z.length := by omega
        rw [this] at h
        rw [List.getElem?_eq_none (by omega)]; simp
      · exact h
    have e : skipA (codes z) i = j := by rw [← hs, skipA_stop n]
    rw [e] at hq
    exact hq
theorem scDue : FnScope ["text", "at", "rules", "many", "signs", "sides", "spot", "side", "rule", "letter"] ["text"] (defScope sDue) := ⟨rfl, rfl, rfl, by decide +kernel, rfl, by decide +kernel, by decide +kernel⟩
theorem ok_due {f fS : Addr} {fd fdS : FuncData} (F : FnP K "_law_text_due" sDue f fd) (S : At P w K mg base CX0 1 "_law_skip" ["text", "at"] spSkip fS fdS) (B : Blt mg) : FnOk P w K mg base CX0 2 f fd ["text"] (spDue K) := by
  refine okN F scDue (fun vs H Q E h => ?_) (fun A outer s H vs Q E hr h => ?_)
  · obtain ⟨z, rfl, _⟩ := h
    rfl
  obtain ⟨z, rfl, hz, hq⟩ := h
  have hl := codes_len z
  refine ⟨_, pss_cons (ps_par (i := 1) (j := 2) rfl scDue.nd rfl rfl (by decide) rfl rfl (pa_cons (pe_call S.ok hr rfl S.mg_ S.kp S.bd .nil pass0 (pa_cons (pv 0) (pa_cons pe_int pa_nil))) (pa_cons (pe_lst pa_nil) pa_nil)) (by rfl))
    (pss_cons (ps_if (pt_cmpR op_notIn_seq (pe_slice sl_str (pv 0) (po_some (pv 1)) (po_some (pe_op op_add (pv 1) pe_int))) (pe_lst (pa_cons pe_str (pa_cons pe_str (pa_cons pe_str (pa_cons pe_str pa_nil))))) (by rfl)) (pss_one (ps_ret (pe_tup (pa_cons pe_str (pa_cons (pv 1) pa_nil))))) pss_nil)
    (pss_cons (ps_set (i := 3) scDue.nd rfl (Or.inl rfl) (pe_callTy call_int_str (by rfl) B.int (by decide +kernel) (pa_cons (pe_ix ix_str (pv 0) (pv 1) (fun _ _ => rfl)) pa_nil)))
    (pss_cons (ps_setLc (i := 4) (own := [("letter", 9)]) (g := gName 9) (tt := tYes) rfl scDue.nd rfl rfl (sw_true rfl rfl rfl (by decide +kernel)) (pi_range1 (by rfl) B.range (pa_cons (pv 3) pa_nil)) (blkOk_by (own := [("letter", 9)]) (N := ["text", "at", "rules", "many", "signs", "sides", "spot", "side", "rule", "letter"]) (sc := defScope sDue) (by decide +kernel))
      (fun _ _ _ _ _ => pg_name (i := 9) scDue.nd rfl (Or.inl rfl)) (fun _ _ _ _ _ => pts_nil)
      (fun _ _ _ _ _ => pe_callTy call_str_int (by rfl) B.str (by decide +kernel) (pa_cons (pv 9) pa_nil)))
    (pss_cons (ps_if (pt_cmpR op_ne (pe_slice sl_str (pv 0) (po_some (pe_op op_add (pv 1) pe_int)) (po_some (pe_op op_add (pv 1) pe_int))) pe_str (nomark _)) (pss_one (ps_ret (pe_tup (pa_cons pe_str (pa_cons (pe_op op_add (pv 1) pe_int) pa_nil))))) pss_nil)
    (pss_cons (ps_set (i := 1) scDue.nd rfl (Or.inl rfl) (pe_call S.ok hr rfl S.mg_ S.kp S.bd .nil pass0 (pa_cons (pv 0) (pa_cons (pe_op op_add (pv 1) pe_int) pa_nil))))
    (pss_cons (ps_mid (ps_while PassesOwn.never (pt_mid (pt_cmpR op_lt (pv 1) (pe_callB call_len_str rfl B.len PySem.boot_len (pa_cons (pv 0) pa_nil)) (nomark _)))
      (pss_cons (ps_par (i := 5) (j := 6) rfl scDue.nd rfl rfl (by decide) rfl rfl (pa_cons (pe_lst (pa_cons (pe_lst pa_nil) (pa_cons (pe_lst pa_nil) pa_nil))) (pa_cons (pv 1) pa_nil)) (by rfl))
      (pss_cons (ps_mid (ps_for PassesOwn.never rfl (pi_list (pe_lst (pa_cons pe_int (pa_cons pe_int pa_nil)))) (pg_name (i := 7) scDue.nd rfl (.inl rfl))
        (pss_cons (ps_mid (ps_while PassesOwn.never (pt_mid (PW.pt (pw_or (pt_cmpR op_eq (pe_callB call_len_seq rfl B.len PySem.boot_len (pa_cons (pe_ix ix_list (pv 5) (pv 7) (fun _ _ => rfl)) pa_nil)) pe_int (nomark _))
            (pw_or1 (pt_ifExp (pt_cmpR op_eq (pv 7) pe_int (nomark _)) (pt_cmpR op_ne (pe_slice sl_str (pv 0) (po_some (pv 6)) (po_some (pe_op op_add (pv 6) pe_int))) pe_str (nomark _))
              (pt_cmpR op_lt (pe_callB call_len_seq rfl B.len PySem.boot_len (pa_cons (pe_ix ix_list (pv 5) pe_int (fun _ _ => rfl)) pa_nil)) (pe_callB call_len_seq rfl B.len PySem.boot_len (pa_cons (pe_ix ix_list (pv 5) pe_int (fun _ _ => rfl)) pa_nil)) (nomark _)))))))
          (pss_cons (ps_mid (ps_if (PW.pt (pw_or (pt_cmpR op_notIn_seq (pe_slice sl_str (pv 0) (po_some (pv 6)) (po_some (pe_op op_add (pv 6) pe_int))) (pv 4) (by rfl))
              (pw_or1 (PW.pt (pw_and (pt_cmpR op_eq (pe_callB call_len_seq rfl B.len PySem.boot_len (pa_cons (pe_ix ix_list (pv 5) pe_int (fun _ _ => rfl)) pa_nil)) pe_int (nomark _)) (pw_and1 (pt_cmpR op_eq (pv 7) pe_int (nomark _)))))))) (pss_one (ps_ret (pe_tup (pa_cons pe_str (pa_cons (pv 6) pa_nil))))) pss_nil))
          (pss_cons (ps_expr (pe_bm PySem.F.plainAttrs_list PySem.F.slot_list_append PySem.F.type_list_append mt_append (pe_ix ix_list (pv 5) (pv 7) (fun _ _ => rfl)) (pa_cons (pe_callTy call_int_str (by rfl) B.int (by decide +kernel) (pa_cons (pe_ix ix_str (pv 0) (pv 6) (fun _ _ => rfl)) pa_nil)) pa_nil)))
          (pss_one (ps_set (i := 6) scDue.nd rfl (Or.inl rfl) (pe_op op_add (pv 6) pe_int)))))))
        (pss_one (ps_set (i := 6) scDue.nd rfl (Or.inl rfl) (pe_op op_add (pv 6) (pe_ifExp (pt_cmpR op_eq (pv 7) pe_int (nomark _)) pe_int pe_int)))))))
      (pss_cons (ps_if (pt_cmpR (op_eqD hr.units) (pe_ix ix_list (pv 5) pe_int (fun _ _ => rfl)) (pe_ix ix_list (pv 5) pe_int (fun _ _ => rfl)) (nomark _)) (pss_one (ps_ret (pe_tup (pa_cons pe_str (pa_cons (pe_op op_sub (pv 6) pe_int) pa_nil))))) pss_nil)
      (pss_cons (ps_set (i := 8) scDue.nd rfl (Or.inl rfl) (pe_tup (pa_cons (pe_callTy call_tuple_of (by rfl) B.tuple boot_tuple (pa_cons (pe_ix ix_list (pv 5) pe_int (fun _ _ => rfl)) pa_nil)) (pa_cons (pe_callTy call_tuple_of (by rfl) B.tuple boot_tuple (pa_cons (pe_ix ix_list (pv 5) pe_int (fun _ _ => rfl)) pa_nil)) pa_nil))))
      (pss_cons (ps_mid (ps_if (PW.pt (pw_or (pt_cmpR op_eq (pe_callB call_len_seq rfl B.len PySem.boot_len (pa_cons (pv 2) pa_nil)) pe_int (nomark _))
          (pw_or1 (PW.pt (pw_and (pt_cmpR (op_neD hr.units) (pv 2) (pe_lst pa_nil) (nomark _)) (pw_and1 (pt_cmpR (op_leR (units3 hr)) (pv 8) (pe_ix ix_list (pv 2) (pe_un un_neg pe_int) (fun _ _ => rfl)) (nomark _)))))))) (pss_one (ps_ret (pe_tup (pa_cons pe_str (pa_cons (pv 1) pa_nil))))) pss_nil))
      (pss_cons (ps_expr (pe_bm PySem.F.plainAttrs_list PySem.F.slot_list_append PySem.F.type_list_append mt_append (pv 2) (pa_cons (pv 8) pa_nil)))
      (pss_cons (ps_if (pt_cmpR op_notIn_seq (pe_slice sl_str (pv 0) (po_some (pv 6)) (po_some (pe_op op_add (pv 6) pe_int))) (pe_lst (pa_cons pe_str (pa_cons pe_str pa_nil))) (by rfl)) (pss_one (ps_ret (pe_tup (pa_cons pe_str (pa_cons (pv 6) pa_nil))))) pss_nil)
      (pss_one (ps_set (i := 1) scDue.nd rfl (Or.inl rfl) (pe_call S.ok hr rfl S.mg_ S.kp S.bd .nil pass0 (pa_cons (pv 0) (pa_cons (pv 6) pa_nil))))))))))))
    )) (pss_one (ps_ret (pe_tup (pa_cons pe_str (pa_cons (pe_tup (pa_cons (pv 3) (pa_cons (pe_callTy call_tuple_of (by rfl) B.tuple boot_tuple (pa_cons (pv 2) pa_nil)) pa_nil))) pa_nil))))))))))), ?_⟩
  have er : ∀ {H' : Hp} {p : Nat}, Gw [] H H' → readA (codes z) = .error p → ∀ t, H' t = none → Q (.ref t) (upd H' t (.tup [.str "place", .int (p : Int)])) := fun {H' p} g e t ht => by
    refine hq _ _ (g.trans (.new ht)) ?_
    rw [e]
    exact .tup (SqT.of upd_same) (.cons (.str _) (.cons (.int _) .nil))
  have two : 2 ≤ sizeLine := by decide
  -- at, rules
  refine ⟨_, rfl, z, 0, rfl, hz, Nat.zero_le _, by show 0 ≤ sizeLine; decide, fun l hl0 => ⟨_, _, rfl, ?_⟩⟩
  have h1 := skipA_lt (codes z) 0 (Nat.zero_le _)
  have hrd : ∀ o, (let i := skipA (codes z) 0; let n := digA (codes z) i; if ¬ (1 ≤ n ∧ n ≤ 4) then (.error i : Res Book) else if (codes z)[i + 1]? ≠ some 58 then .error (i + 1) else match bodyA (codes z) n (skipA (codes z) (i + 2)) [] with | .error p => .error p | .ok rs => .ok (n, rs)) = o → readA (codes z) = o := fun o e => e
  simp only at hrd
  generalize skipA (codes z) 0 = i at h1 hrd ⊢
  -- if text[at:at + 1] not in ..
  refine ⟨_, rfl, _, rfl, _, rfl, _, rfl, _, _, rfl, rfl, _, rfl, z, rfl, small_fits hz, by show 4 ≤ sizeLine; decide, fun g hg => ⟨g, _, rfl, .inl (SqL.of upd_same), rfl, rfl, _, rfl, ?_⟩⟩
  have gg : Gw [] H (upd (upd H l (.lst [])) g (.lst [.str "1", .str "2", .str "3", .str "4"])) := (Gw.new hl0).trans (.new hg)
  have el : upd (upd H l (.lst [])) g (.lst [.str "1", .str "2", .str "3", .str "4"]) l = some (.lst []) := by rw [upd_ne (ne_of_none upd_same hg), upd_same]
  revert gg el
  generalize upd (upd H l (.lst [])) g (.lst [.str "1", .str "2", .str "3", .str "4"]) = H1
  intro g1 el
  have f4 := in_four z i
  by_cases c : 1 ≤ digA (codes z) i ∧ digA (codes z) i ≤ 4
  case neg =>
    rw [decide_eq_false c] at f4
    refine ifT (show (!inV _ _) = true by rw [f4]; rfl) ?_
    exact ⟨_, rfl, two, fun t ht => er g1 (hrd _ (if_pos c)) t ht⟩
  rw [decide_eq_true c] at f4
  refine ifF (show (!inV _ _) = false by rw [f4]; rfl) ?_
  rw [if_neg (by simpa using c)] at hrd
  obtain ⟨ch, hch, hc1, hc2, hdc⟩ := digA_code (L := codes z) (i := i) (by omega)
  have hi : i < (codes z).length := (List.getElem?_eq_some_iff.mp hch).1
  -- many
  refine ⟨_, rfl, _, rfl, z, (i : Int), ch, rfl, rfl, small_fits hz, atI_nat hch, _, _, rfl, sign_int hc1 hc2, (by show 1 ≤ 640; decide), ?_⟩
  rw [hdc] at hrd c
  obtain ⟨m, hm⟩ : ∃ m : Nat, (ch : Int) - 48 = (m : Int) := ⟨ch - 48, by omega⟩
  rw [hm] at hrd c ⊢
  have hm1 : 1 ≤ m := by omega
  have hm4 : m ≤ 4 := by omega
  -- signs
  refine ⟨_, rfl, m, rfl, by omega, by omega, fun D hD => lc_it (walk_range (lo := 0) (n := ((m : Nat) : Int).toNat)) (fun k H2 => H2 D = some (.lst ((signs k).map V.str)) ∧ Gw [D] H1 H2 ∧ k ≤ m)
    ⟨upd_same, .new hD, Nat.zero_le _⟩ (fun _ _ _ _ => trivial) ?_ ?_⟩
  · rintro k v H2 H3 hk ⟨e2, g2, _⟩ ⟨rfl, rfl⟩
    have hk' : k < m := by omega
    refine ⟨rfl, yes_of ?_⟩
    refine iteT ?_
    refine ⟨_, rfl, _, rfl, ?_, _, e2, ?_, ?_⟩
    · show ((0 : Int) + (k : Int)).natAbs.log2 < 1920
      have : ((0 : Int) + (k : Int)).natAbs = k := by omega
      rw [this]
      have : k = 0 ∨ k = 1 ∨ k = 2 ∨ k = 3 := by omega
      rcases this with rfl | rfl | rfl | rfl <;> decide
    · rw [List.length_map, signs, List.length_map, List.length_range]
      exact Nat.lt_of_lt_of_le (show k < 2000 by omega) (by rw [sizeLine_eq]; decide)
    · refine ⟨?_, g2.trans (.set e2 rfl List.mem_cons_self), by omega⟩
      rw [upd_same]
      have q : Str.ofString (toString ((0 : Int) + (k : Int))) = ⟨#[48 + k]⟩ := by
        rw [show ((0 : Int) + (k : Int)) = ((k : Nat) : Int) by omega]
        exact sign_text (by omega)
      show some (HO.lst ((signs k).map V.str ++ [V.str (Str.ofString (toString ((0 : Int) + (k : Int))))])) = _
      rw [q]
      unfold signs
      rw [List.range_succ, List.map_append, List.map_append]
      rfl
  rintro H2 ⟨e2, g2', _⟩
  have g2 : Gw [] H1 H2 := g2'.drop hD
  have mm : ((m : Nat) : Int).toNat = m := by omega
  rw [mm] at e2
  have g12 := g1.trans g2
  have el2 : H2 l = some (.lst []) := g2.ext.lst el List.not_mem_nil
  have nlD : l ≠ D := fun z => by rw [z, hD] at el; cases el
  -- text[at + 1:at + 2] != ':'
  refine ⟨_, rfl, _, rfl, _, _, rfl, rfl, _, rfl, _, rfl, _, _, rfl, rfl, _, rfl, z, rfl, small_fits hz, rfl, _, rfl, ?_⟩
  have e1 : cutS z (some ((i : Int) + 1)) (some ((i : Int) + 2)) = cutS z (some ((i + 1 : Nat) : Int)) (some (((i + 1 : Nat) : Int) + 1)) := by
    rw [show ((i : Int) + 2) = ((i + 1 : Nat) : Int) + 1 by omega, show ((i : Int) + 1) = ((i + 1 : Nat) : Int) by omega]
  rw [e1, s_colon, cut1_eq]
  by_cases c3 : (codes z)[i + 1]? = some 58
  case neg =>
    rw [decide_eq_false c3]
    refine iteT ?_
    exact ⟨_, rfl, _, _, rfl, rfl, two, fun t ht => er (p := i + 1) g12 (hrd _ (if_pos (by simpa using c3))) t ht⟩
  rw [decide_eq_true c3]
  refine iteF ?_
  rw [if_neg (by simpa using c3)] at hrd
  have hi1 := (List.getElem?_eq_some_iff.mp c3).1
  -- at = _law_skip(text, at + 2)
  refine ⟨_, rfl, _, rfl, _, _, rfl, rfl, z, i + 2, rfl, hz, by omega, ?_⟩
  have hsk := skipA_lt (codes z) (i + 2) (by omega)
  generalize skipA (codes z) (i + 2) = j0 at hrd hsk ⊢
  refine ⟨fun σ H' => ∃ (rs : List Rule) (xs : List V) (j : Nat) (p5 p6 p7 p8 : Option V), σ = [some (.str z), some (.int (j : Int)), some (.ref l), some (.int (m : Int)), some (.ref D), p5, p6, p7, p8, none] ∧ Gw [] H H' ∧ H' l = some (.lst xs) ∧ DpAll K H' xs (rs.map dRule) ∧ bodyA (codes z) m j0 [] = .ok rs, ?_, ?_⟩
  case refine_2 =>
    rintro σ H' ⟨rs, xs, j, p5, p6, p7, p8, rfl, g, e, hall, hb⟩
    have hr' := hrd (.ok ((m : Int), rs)) (by rw [hb])
    refine ⟨_, rfl, _, rfl, l, _, rfl, .inl ⟨SqL.of e, fun t ht => ⟨two, fun q hq' => ⟨two, fun u hu => ?_⟩⟩⟩⟩
    have gt : Gw [] H' (upd H' t (.tup xs)) := .new ht
    have gq := gt.trans (Gw.new (M := []) (o := .tup [.int m, .ref t]) hq')
    have gu := gq.trans (Gw.new (M := []) (o := .tup [.str "book", .ref q]) hu)
    refine hq (.ref u) _ (g.trans gu) ?_
    rw [hr']
    have gu1 := Gw.new (M := []) (o := .tup [.str "book", .ref q]) hu
    refine .tup (SqT.of upd_same) (.cons (.str _) (.cons ?_ .nil))
    exact Dp.ext gu1.ext (still_book _) (dp_book.mpr ⟨q, _, rfl, SqT.of upd_same, dp_rules.mpr ⟨t, xs, rfl, (Gw.new (M := []) hq').ext.sqT (SqT.of upd_same), DpAll.ext gq.ext (still_all rs) hall⟩⟩)
  -- while at < len(text)
  refine while_by (fun σ H' => ∃ (rs : List Rule) (xs : List V) (j : Nat) (p5 p6 p7 p8 : Option V), σ = [some (.str z), some (.int (j : Int)), some (.ref l), some (.int (m : Int)), some (.ref D), p5, p6, p7, p8, none] ∧ Gw [l] H2 H' ∧ H' l = some (.lst xs) ∧ H' D = some (.lst ((signs m).map V.str)) ∧
      DpAll K H' xs (rs.map dRule) ∧ j ≤ z.length ∧ rs.length ≤ 12 ∧ bodyA (codes z) m j rs = bodyA (codes z) m j0 [])
    (fun σ H' => match σ with | [_, some (.int j), _, _, _, _, _, _, _, _] => z.length - j.toNat | _ => 0) ⟨[], [], j0, none, none, none, none, rfl, .refl, el2, e2, .nil, by omega, Nat.zero_le _, rfl⟩ ?_ (fun σ H Q Q' h ⟨P, q1, q2⟩ => ⟨P, q1, fun v H' p => h _ _ (q2 v H' p)⟩)
  rintro σ H' ⟨rs, xs, j, p5, p6, p7, p8, rfl, g, e, eD, hall, hj, hlen, hb⟩
  have hxl : xs.length = rs.length := by rw [dpAll_length hall, List.length_map]
  have gH : Gw [] H H' := (g12.more.trans g).drop hl0
  have erJ : ∀ {H'' : Hp} {p : Nat}, Gw [] H' H'' → bodyA (codes z) m j rs = .error p → ∀ t, H'' t = none → Q (.ref t) (upd H'' t (.tup [.str "place", .int (p : Int)])) := fun {H'' p} g' q t ht => by
    rw [hb] at q
    exact er (gH.trans g') (hrd _ (by rw [q])) t ht
  refine ⟨_, ?_, fun _ _ q => q⟩
  refine ⟨_, rfl, _, rfl, z, rfl, small_fits hz, _, _, rfl, rfl, _, rfl, ?_⟩
  refine ite2 (fun c => ?_) (fun c => ?_)
  case refine_2 =>
    have c' : ¬ (j : Int) < (z.length : Int) := by simpa using c
    refine ⟨rs, xs, j, p5, p6, p7, p8, rfl, gH, e, hall, by rw [← hb, bodyA_end (by omega)]⟩
  have c' : (j : Int) < (z.length : Int) := by simpa using c
  have hlt : j < (codes z).length := by omega
  -- sides, spot = [[], []], at
  refine ⟨by show 0 ≤ sizeLine; decide, fun a0 h0 => ⟨by show 0 ≤ sizeLine; decide, fun a1 h1' => ⟨two, fun sd hsd => ⟨_, rfl, _, _, rfl, ?_⟩⟩⟩⟩
  have n01 : a0 ≠ a1 := ne_of_none upd_same h1'
  have n0s : a0 ≠ sd := ne_of_none (by rw [upd_ne n01, upd_same]) hsd
  have n1s : a1 ≠ sd := ne_of_none upd_same hsd
  have h1 : H' a1 = none := by rw [upd_ne (Ne.symm n01)] at h1'; exact h1'
  have hs0 : H' sd = none := by rw [upd_ne (Ne.symm n1s), upd_ne (Ne.symm n0s)] at hsd; exact hsd
  have g4 : Gw [] H' (upd (upd (upd H' a0 (.lst [])) a1 (.lst [])) sd (.lst [.ref a0, .ref a1])) := ((Gw.new h0).trans (.new h1')).trans (.new hsd)
  have ea0 : upd (upd (upd H' a0 (.lst [])) a1 (.lst [])) sd (.lst [.ref a0, .ref a1]) a0 = some (.lst []) := by rw [upd_ne n0s, upd_ne n01, upd_same]
  have ea1 : upd (upd (upd H' a0 (.lst [])) a1 (.lst [])) sd (.lst [.ref a0, .ref a1]) a1 = some (.lst []) := by rw [upd_ne n1s, upd_same]
  have esd : upd (upd (upd H' a0 (.lst [])) a1 (.lst [])) sd (.lst [.ref a0, .ref a1]) sd = some (.lst [.ref a0, .ref a1]) := upd_same
  revert g4 ea0 ea1 esd
  generalize upd (upd (upd H' a0 (.lst [])) a1 (.lst [])) sd (.lst [.ref a0, .ref a1]) = H4
  intro g4 ea0 ea1 esd
  clear h1' hsd
  have noM : ∀ {H'' : Hp}, Gw [a0, a1] H' H'' → Gw [] H' H'' := fun {H''} g => (g.drop h0).drop h1
  -- for side in [0, 1]
  refine ⟨fun σ H'' => ∃ (spot : Nat) (A B : List Int) (p7 : Option V), σ = [some (.str z), some (.int (j : Int)), some (.ref l), some (.int (m : Int)), some (.ref D), some (.ref sd), some (.int (spot : Int)), p7, p8, none] ∧ Gw [a0, a1] H' H'' ∧
      H'' a0 = some (.lst (A.map V.int)) ∧ H'' a1 = some (.lst (B.map V.int)) ∧ H'' sd = some (.lst [.ref a0, .ref a1]) ∧ SidesA (codes z) j m 2 spot A B, ?_, ?_⟩
  case refine_1 =>
    refine ⟨two, fun q hq' => ⟨q, rfl, ⟨_, SqL.of upd_same⟩, for_list (K := K) (a := q) (xs := [.int 0, .int 1]) (fun i σ H'' => ∃ (spot : Nat) (A B : List Int) (p7 : Option V), σ = [some (.str z), some (.int (j : Int)), some (.ref l), some (.int (m : Int)), some (.ref D), some (.ref sd), some (.int (spot : Int)), p7, p8, none] ∧ Gw [a0, a1] H' H'' ∧
      H'' a0 = some (.lst (A.map V.int)) ∧ H'' a1 = some (.lst (B.map V.int)) ∧ H'' sd = some (.lst [.ref a0, .ref a1]) ∧ H'' D = some (.lst ((signs m).map V.str)) ∧ H'' q = some (.lst [.int 0, .int 1]) ∧ SidesA (codes z) j m i spot A B) ?_ ?_ ?_ ?_⟩⟩
    · refine ⟨j, [], [], p7, rfl, (g4.trans (.new hq')).more, ?_, ?_, ?_, ?_, upd_same, rfl, rfl, rfl⟩
      · rw [upd_ne (ne_of_none ea0 hq')]; exact ea0
      · rw [upd_ne (ne_of_none ea1 hq')]; exact ea1
      · rw [upd_ne (ne_of_none esd hq')]; exact esd
      · have eD4 := g4.ext.lst eD List.not_mem_nil
        rw [upd_ne (ne_of_none eD4 hq')]; exact eD4
    · rintro i σ H'' _ ⟨spot, A, B, p7, _, _, _, _, _, _, eq, _⟩
      exact SqL.of eq
    · have nq0 : a0 ≠ q := ne_of_none ea0 hq'
      have nq1 : a1 ≠ q := ne_of_none ea1 hq'
      have nD0 : D ≠ a0 := fun z => by rw [z, h0] at eD; cases eD
      have nD1 : D ≠ a1 := fun z => by rw [z, h1] at eD; cases eD
      rintro i y σ H'' hi ⟨spot, A, B, p7, rfl, g5, e0, e1, es, eD5, eq, st⟩
      have hi2 : i = 0 ∨ i = 1 := by
        have := (List.getElem?_eq_some_iff.mp hi).1
        simp at this
        omega
      rcases hi2 with rfl | rfl
      · -- the left side
        obtain rfl : V.int 0 = y := Option.some.inj hi
        obtain ⟨rfl, rfl, rfl⟩ := st
        show tSeq _ _ _ _ H''
        refine ⟨fun σ H'' => ∃ A : List Int, σ = [some (.str z), some (.int (spot : Int)), some (.ref l), some (.int (m : Int)), some (.ref D), some (.ref sd), some (.int ((spot + A.length : Nat) : Int)), some (.int 0), p8, none] ∧ Gw [a0, a1] H' H'' ∧
          H'' a0 = some (.lst (A.map V.int)) ∧ H'' a1 = some (.lst []) ∧ H'' sd = some (.lst [.ref a0, .ref a1]) ∧ H'' D = some (.lst ((signs m).map V.str)) ∧ H'' q = some (.lst [.int 0, .int 1]) ∧ LeftA (codes z) spot m A, ?_, ?_⟩
        case refine_2 =>
          rintro σ H'' ⟨A, rfl, g5, e0, e1, es, eD5, eq, st⟩
          refine ⟨_, rfl, _, rfl, rfl, _, rfl, ?_⟩
          refine iteT ?_
          refine ⟨_, _, rfl, rfl, spot + A.length + 1, A, [], _, rfl, g5, e0, e1, es, eD5, eq, st, rfl, rfl⟩
        refine while_by (fun σ H'' => ∃ k : Nat, σ = [some (.str z), some (.int (spot : Int)), some (.ref l), some (.int (m : Int)), some (.ref D), some (.ref sd), some (.int ((spot + k : Nat) : Int)), some (.int 0), p8, none] ∧ Gw [a0, a1] H' H'' ∧
          H'' a0 = some (.lst ((lettersA (codes z) spot m k).map V.int)) ∧ H'' a1 = some (.lst []) ∧ H'' sd = some (.lst [.ref a0, .ref a1]) ∧ H'' D = some (.lst ((signs m).map V.str)) ∧ H'' q = some (.lst [.int 0, .int 1]) ∧ k ≤ 3 ∧ (lettersA (codes z) spot m k).length = k)
          (fun σ H' => match σ with | [_, _, _, _, _, _, some (.int s), _, _, _] => 100 + spot - s.toNat | _ => 0) ⟨0, rfl, g5, e0, e1, es, eD5, eq, Nat.zero_le _, rfl⟩ ?_ (fun σ H Q Q' h ⟨P, q1, q2⟩ => ⟨P, q1, fun v H' p => h _ _ (q2 v H' p)⟩)
        rintro σ H6 ⟨k, rfl, g6, f0, f1, fs, fD, fq, hk, hkl⟩
        have hin : spot + k ≤ z.length := by
          rcases lettersA_in (codes z) m k spot with y | y
          · rw [hkl] at y; omega
          · rw [y] at hkl
            have : k = 0 := hkl.symm
            omega
        refine ⟨fun b H1 => H1 = H6 ∧ (b = true ↔ (k = 0 ∨ (codes z)[spot + k]? ≠ some 62)), ?_, ?_⟩
        · refine ⟨_, rfl, _, rfl, sd, _, 0, .ref a0, rfl, rfl, SqL.of fs, rfl, a0, _, rfl, .inl (SqL.of f0), rfl, _, rfl, ?_⟩
          rw [List.length_map, hkl]
          by_cases c0 : k = 0
          · rw [c0]
            refine iteT ?_
            exact ⟨rfl, fun _ => .inl rfl, fun _ => rfl⟩
          rw [decide_eq_false (show ¬ V.int (k : Int) = V.int 0 by intro y; injection y with y; omega)]
          refine iteF ?_
          refine ⟨_, rfl, rfl, _, rfl, ?_⟩
          refine iteT ?_
          refine ⟨_, rfl, _, rfl, _, rfl, _, rfl, _, _, rfl, rfl, _, rfl, z, rfl, small_fits hz, rfl, _, rfl, ?_⟩
          refine ⟨rfl, ?_⟩
          rw [s_gt, cut1_eq]
          by_cases c6 : (codes z)[spot + k]? = some 62
          · rw [decide_eq_true c6]
            exact ⟨fun y => (by cases y), fun y => y.elim (fun y => absurd y c0) fun y => absurd c6 y⟩
          · rw [decide_eq_false c6]
            exact ⟨fun _ => .inr c6, fun _ => rfl⟩
        rintro b H1 ⟨rfl, hb⟩
        cases b with
        | false =>
          refine iteF ?_
          have hn : ¬ (k = 0 ∨ (codes z)[spot + k]? ≠ some 62) := fun y => by
            have := hb.mpr y
            cases this
          have hk0 : k ≠ 0 := fun y => hn (.inl y)
          have h62 : (codes z)[spot + k]? = some 62 := by
            by_cases y : (codes z)[spot + k]? = some 62
            · exact y
            · exact absurd (.inr y) hn
          refine ⟨lettersA (codes z) spot m k, by rw [hkl], g6, f0, f1, fs, fD, fq, ?_, ?_, by rw [hkl]; exact h62⟩
          · exact left_end hkl hk h62
          · intro y
            rw [y] at hkl
            exact hk0 hkl.symm
        | true =>
          have h2 := hb.mp rfl
          refine iteT ?_
          have er2 : (¬ (0 ≤ digA (codes z) (spot + k) ∧ digA (codes z) (spot + k) < m) ∨ k = 3) → ∀ t, H1 t = none → Q (.ref t) (upd H1 t (.tup [.str "place", .int ((spot + k : Nat) : Int)])) := fun y =>
            erJ (noM g6) (bodyA_bad hlt (rule_err0 hkl hk y h2))
          have fsg := in_signs z (spot + k) m hm4
          refine ⟨fun σ H2 => σ = [some (.str z), some (.int (spot : Int)), some (.ref l), some (.int (m : Int)), some (.ref D), some (.ref sd), some (.int ((spot + k : Nat) : Int)), some (.int 0), p8, none] ∧ H2 = H1 ∧ (0 ≤ digA (codes z) (spot + k) ∧ digA (codes z) (spot + k) < m) ∧ k < 3, ?_, ?_⟩
          · refine ⟨_, rfl, _, rfl, _, rfl, _, rfl, _, _, rfl, rfl, _, rfl, z, rfl, small_fits hz, _, rfl, D, _, rfl, .inl (SqL.of fD), rfl, flat_signs m, _, rfl, ?_⟩
            by_cases cl : 0 ≤ digA (codes z) (spot + k) ∧ digA (codes z) (spot + k) < m
            case neg =>
              rw [decide_eq_false cl] at fsg
              refine ifT (show (!inV _ _) = true by rw [fsg]; rfl) ?_
              refine iteT ?_
              exact ⟨_, rfl, two, fun t ht => er2 (.inl cl) t ht⟩
            rw [decide_eq_true cl] at fsg
            refine ifF (show (!inV _ _) = false by rw [fsg]; rfl) ?_
            refine ⟨_, rfl, sd, _, 0, .ref a0, rfl, rfl, SqL.of fs, rfl, a0, _, rfl, .inl (SqL.of f0), rfl, _, rfl, ?_⟩
            rw [List.length_map, hkl]
            by_cases c3' : k = 3
            · rw [decide_eq_true (show V.int (k : Int) = V.int 3 by rw [c3']; rfl)]
              refine iteT ?_
              refine ⟨_, rfl, rfl, _, rfl, ?_⟩
              refine iteT ?_
              exact ⟨_, rfl, two, fun t ht => er2 (.inr c3') t ht⟩
            rw [decide_eq_false (show ¬ V.int (k : Int) = V.int 3 by intro y; injection y with y; omega)]
            refine iteF ?_
            refine iteF ?_
            exact ⟨rfl, rfl, cl, by omega⟩
          rintro σ H2 ⟨rfl, rfl, cl, c3'⟩
          -- sides[side].append(int(text[spot]))
          obtain ⟨ch2, hch2, hd1, hd2, hd3⟩ := digA_code (L := codes z) (i := spot + k) cl.1
          have q := lettersA_snoc (codes z) m k spot hkl cl.1 cl.2
          refine ⟨_, rfl, _, rfl, sd, _, 0, .ref a0, rfl, rfl, SqL.of fs, rfl, .inl ⟨rfl, _, SqL.of f0⟩, _, rfl, _, rfl, z, ((spot + k : Nat) : Int), ch2, rfl, rfl, small_fits hz, atI_nat hch2, _, _, rfl, sign_int hd1 hd2, (by show 1 ≤ 640; decide), a0, _, _, rfl, rfl, f0, ?_, ?_⟩
          · rw [List.length_map, hkl]
            exact Nat.lt_of_lt_of_le (show k < 2000 by omega) (by rw [sizeLine_eq]; decide)
          have e' : upd H2 a0 (.lst ((lettersA (codes z) spot m k).map V.int ++ [.int ((ch2 : Int) - 48)])) a0 = some (.lst ((lettersA (codes z) spot m (k + 1)).map V.int)) := by
            rw [upd_same, q, List.map_append, hd3]; rfl
          refine ⟨_, rfl, _, _, rfl, rfl, ⟨k + 1, rfl, g6.trans (.set f0 rfl List.mem_cons_self), e', ?_, ?_, ?_, ?_, by omega, by rw [q, List.length_append, hkl]; rfl⟩, ?_⟩
          · rw [upd_ne (Ne.symm n01)]; exact f1
          · rw [upd_ne (Ne.symm n0s)]; exact fs
          · rw [upd_ne nD0]; exact fD
          · rw [upd_ne (Ne.symm nq0)]; exact fq
          · show 100 + spot - (((spot + k : Nat) : Int) + 1).toNat < 100 + spot - (((spot + k : Nat) : Int)).toNat
            omega
      · -- the right side
        obtain rfl : V.int 1 = y := Option.some.inj hi
        obtain ⟨hL, rfl, rfl⟩ := st
        obtain ⟨hLa, hLn, hLg⟩ := id hL
        have hA3 : A.length ≤ 3 := by rw [← hLa]; exact lettersA_len _ _ _ _
        have hA1 : 1 ≤ A.length := by
          cases A with
          | nil => exact absurd rfl hLn
          | cons => rw [List.length_cons]; omega
        have hgl : j + A.length < (codes z).length := (List.getElem?_eq_some_iff.mp hLg).1
        show tSeq _ _ _ _ H''
        refine ⟨fun σ H'' => ∃ B : List Int, σ = [some (.str z), some (.int (j : Int)), some (.ref l), some (.int (m : Int)), some (.ref D), some (.ref sd), some (.int ((j + A.length + 1 + B.length : Nat) : Int)), some (.int 1), p8, none] ∧ Gw [a0, a1] H' H'' ∧
          H'' a0 = some (.lst (A.map V.int)) ∧ H'' a1 = some (.lst (B.map V.int)) ∧ H'' sd = some (.lst [.ref a0, .ref a1]) ∧ H'' D = some (.lst ((signs m).map V.str)) ∧ H'' q = some (.lst [.int 0, .int 1]) ∧ lettersA (codes z) (j + A.length + 1) m A.length = B ∧ B.length = A.length, ?_, ?_⟩
        case refine_2 =>
          rintro σ H'' ⟨B, rfl, g5, e0, e1, es, eD5, eq, hB1, hB2⟩
          refine ⟨_, rfl, _, rfl, rfl, _, rfl, ?_⟩
          refine iteF ?_
          exact ⟨_, _, rfl, rfl, j + A.length + 1 + B.length, A, B, _, rfl, g5, e0, e1, es, eD5, eq, hL, hB1, hB2, rfl⟩
        refine while_by (fun σ H'' => ∃ k : Nat, σ = [some (.str z), some (.int (j : Int)), some (.ref l), some (.int (m : Int)), some (.ref D), some (.ref sd), some (.int ((j + A.length + 1 + k : Nat) : Int)), some (.int 1), p8, none] ∧ Gw [a0, a1] H' H'' ∧
          H'' a0 = some (.lst (A.map V.int)) ∧ H'' a1 = some (.lst ((lettersA (codes z) (j + A.length + 1) m k).map V.int)) ∧ H'' sd = some (.lst [.ref a0, .ref a1]) ∧ H'' D = some (.lst ((signs m).map V.str)) ∧ H'' q = some (.lst [.int 0, .int 1]) ∧ k ≤ A.length ∧ (lettersA (codes z) (j + A.length + 1) m k).length = k)
          (fun σ H' => match σ with | [_, _, _, _, _, _, some (.int s), _, _, _] => 100 + (j + A.length + 1) - s.toNat | _ => 0) ⟨0, rfl, g5, e0, e1, es, eD5, eq, Nat.zero_le _, rfl⟩ ?_ (fun σ H Q Q' h ⟨P, q1, q2⟩ => ⟨P, q1, fun v H' p => h _ _ (q2 v H' p)⟩)
        rintro σ H6 ⟨k, rfl, g6, f0, f1, fs, fD, fq, hk, hkl⟩
        have hin : j + A.length + 1 + k ≤ z.length := by
          rcases lettersA_in (codes z) m k (j + A.length + 1) with y | y
          · rw [hkl] at y; omega
          · rw [y] at hkl
            have : k = 0 := hkl.symm
            omega
        refine ⟨fun b H1 => H1 = H6 ∧ (b = true ↔ k < A.length), ?_, ?_⟩
        · refine ⟨_, rfl, _, rfl, sd, _, 1, .ref a1, rfl, rfl, SqL.of fs, rfl, a1, _, rfl, .inl (SqL.of f1), rfl, _, rfl, ?_⟩
          rw [List.length_map, hkl]
          by_cases c0 : k = 0
          · rw [c0]
            refine iteT ?_
            exact ⟨rfl, fun _ => by omega, fun _ => rfl⟩
          rw [decide_eq_false (show ¬ V.int (k : Int) = V.int 0 by intro y; injection y with y; omega)]
          refine iteF ?_
          refine ⟨_, rfl, rfl, _, rfl, ?_⟩
          refine iteF ?_
          refine ⟨_, rfl, sd, _, 1, .ref a1, rfl, rfl, SqL.of fs, rfl, a1, _, rfl, .inl (SqL.of f1), _, rfl, sd, _, 0, .ref a0, rfl, rfl, SqL.of fs, rfl, a0, _, rfl, .inl (SqL.of f0), _, _, rfl, rfl, _, rfl, rfl, ?_⟩
          rw [List.length_map, List.length_map, hkl]
          by_cases c6 : k < A.length
          · rw [decide_eq_true (show (k : Int) < (A.length : Int) by omega)]
            exact ⟨fun _ => c6, fun _ => rfl⟩
          · rw [decide_eq_false (show ¬ (k : Int) < (A.length : Int) by omega)]
            exact ⟨fun y => (by cases y), fun y => absurd y c6⟩
        rintro b H1 ⟨rfl, hb⟩
        cases b with
        | false =>
          refine iteF ?_
          have hn : ¬ k < A.length := fun y => by
            have := hb.mpr y
            cases this
          have ek : k = A.length := by omega
          subst ek
          exact ⟨lettersA (codes z) (j + A.length + 1) m A.length, by rw [hkl], g6, f0, f1, fs, fD, fq, rfl, hkl⟩
        | true =>
          have h2 := hb.mp rfl
          refine iteT ?_
          have fsg := in_signs z (j + A.length + 1 + k) m hm4
          refine ⟨fun σ H2 => σ = [some (.str z), some (.int (j : Int)), some (.ref l), some (.int (m : Int)), some (.ref D), some (.ref sd), some (.int ((j + A.length + 1 + k : Nat) : Int)), some (.int 1), p8, none] ∧ H2 = H1 ∧ (0 ≤ digA (codes z) (j + A.length + 1 + k) ∧ digA (codes z) (j + A.length + 1 + k) < m), ?_, ?_⟩
          · refine ⟨_, rfl, _, rfl, _, rfl, _, rfl, _, _, rfl, rfl, _, rfl, z, rfl, small_fits hz, _, rfl, D, _, rfl, .inl (SqL.of fD), rfl, flat_signs m, _, rfl, ?_⟩
            by_cases cl : 0 ≤ digA (codes z) (j + A.length + 1 + k) ∧ digA (codes z) (j + A.length + 1 + k) < m
            case neg =>
              rw [decide_eq_false cl] at fsg
              refine ifT (show (!inV _ _) = true by rw [fsg]; rfl) ?_
              refine iteT ?_
              exact ⟨_, rfl, two, fun t ht => erJ (noM g6) (bodyA_bad hlt (rule_err1 hLa hLn hLg hkl h2 cl)) t ht⟩
            rw [decide_eq_true cl] at fsg
            refine ifF (show (!inV _ _) = false by rw [fsg]; rfl) ?_
            refine ⟨_, rfl, sd, _, 0, .ref a0, rfl, rfl, SqL.of fs, rfl, a0, _, rfl, .inl (SqL.of f0), rfl, _, rfl, ?_⟩
            rw [List.length_map]
            by_cases c3' : A.length = 3
            · rw [decide_eq_true (show V.int (A.length : Int) = V.int 3 by rw [c3']; rfl)]
              refine iteT ?_
              refine ⟨_, rfl, rfl, _, rfl, ?_⟩
              refine iteF ?_
              exact ⟨rfl, rfl, cl⟩
            rw [decide_eq_false (show ¬ V.int (A.length : Int) = V.int 3 by intro y; injection y with y; omega)]
            refine iteF ?_
            refine iteF ?_
            exact ⟨rfl, rfl, cl⟩
          rintro σ H2 ⟨rfl, rfl, cl⟩
          -- sides[side].append(int(text[spot]))
          obtain ⟨ch2, hch2, hd1, hd2, hd3⟩ := digA_code (L := codes z) (i := j + A.length + 1 + k) cl.1
          have q := lettersA_snoc (codes z) m k (j + A.length + 1) hkl cl.1 cl.2
          refine ⟨_, rfl, _, rfl, sd, _, 1, .ref a1, rfl, rfl, SqL.of fs, rfl, .inl ⟨rfl, _, SqL.of f1⟩, _, rfl, _, rfl, z, ((j + A.length + 1 + k : Nat) : Int), ch2, rfl, rfl, small_fits hz, atI_nat hch2, _, _, rfl, sign_int hd1 hd2, (by show 1 ≤ 640; decide), a1, _, _, rfl, rfl, f1, ?_, ?_⟩
          · rw [List.length_map, hkl]
            exact Nat.lt_of_lt_of_le (show k < 2000 by omega) (by rw [sizeLine_eq]; decide)
          have e' : upd H2 a1 (.lst ((lettersA (codes z) (j + A.length + 1) m k).map V.int ++ [.int ((ch2 : Int) - 48)])) a1 = some (.lst ((lettersA (codes z) (j + A.length + 1) m (k + 1)).map V.int)) := by
            rw [upd_same, q, List.map_append, hd3]; rfl
          refine ⟨_, rfl, _, _, rfl, rfl, ⟨k + 1, rfl, g6.trans (.set f1 rfl (List.mem_cons_of_mem _ List.mem_cons_self)), ?_, e', ?_, ?_, ?_, by omega, by rw [q, List.length_append, hkl]; rfl⟩, ?_⟩
          · rw [upd_ne n01]; exact f0
          · rw [upd_ne (Ne.symm n1s)]; exact fs
          · rw [upd_ne nD1]; exact fD
          · rw [upd_ne (Ne.symm nq1)]; exact fq
          · show 100 + (j + A.length + 1) - (((j + A.length + 1 + k : Nat) : Int) + 1).toNat < 100 + (j + A.length + 1) - (((j + A.length + 1 + k : Nat) : Int)).toNat
            omega
    · rintro σ H'' ⟨spot, A, B, p7, rfl, g5, e0, e1, es, eD5, eq, st⟩
      exact ⟨spot, A, B, p7, rfl, g5, e0, e1, es, st⟩
  rintro σ H'' ⟨spot, A, B, q7, rfl, g5', e0, e1, es, st⟩
  have g5 := noM g5'
  obtain ⟨⟨hLa, hLn, hLg⟩, hB1, hB2, hsp⟩ := st
  have hru := rule_end hLa hLn hLg hB1 hB2
  have e0' : H' l = some (.lst xs) := e
  have elx : H'' l = some (.lst xs) := g5.ext.lst e List.not_mem_nil
  have eDx : H'' D = some (.lst ((signs m).map V.str)) := g5.ext.lst eD List.not_mem_nil
  have hallx : DpAll K H'' xs (rs.map dRule) := DpAll.ext g5.ext (still_all rs) hall
  rw [← hsp] at hru
  have hsple : spot ≤ z.length := by
    rcases lettersA_in (codes z) m A.length (j + A.length + 1) with y | y
    · rw [hB1] at y; omega
    · rw [hB1] at y
      rw [y] at hB2
      exact absurd (List.eq_nil_of_length_eq_zero hB2.symm) hLn
  have hsp3 : j + 3 ≤ spot := by
    have : 1 ≤ A.length := by
      cases A with
      | nil => exact absurd rfl hLn
      | cons => rw [List.length_cons]; omega
    omega
  -- if sides[0] == sides[1]
  refine ⟨_, rfl, sd, _, 0, .ref a0, rfl, rfl, SqL.of es, rfl, _, rfl, sd, _, 1, .ref a1, rfl, rfl, SqL.of es, rfl, .list (A.map .int), .list (B.map .int), .lst (SqL.of e0) (dp_ints.mpr rfl), .lst (SqL.of e1) (dp_ints.mpr rfl), shaped_intsL A, shaped_intsL B, _, rfl, ?_⟩
  have eqAB : PyData.eqv (.list (A.map .int)) (.list (B.map .int)) = decide (A = B) := by rw [PyData.eqv]; exact eqv_ints A B
  rw [eqAB]
  by_cases cAB : A = B
  · rw [decide_eq_true cAB]
    refine iteT ?_
    rw [if_pos cAB] at hru
    refine ⟨_, rfl, _, _, rfl, rfl, two, fun t ht => ?_⟩
    have q := erJ g5 (bodyA_bad hlt hru) t ht
    have ee : ((spot - 1 : Nat) : Int) = (spot : Int) - 1 := by omega
    rw [ee] at q
    exact q
  rw [decide_eq_false cAB]
  refine iteF ?_
  rw [if_neg cAB] at hru
  -- rule = (tuple(sides[0]), tuple(sides[1]))
  refine ⟨_, rfl, sd, _, 0, .ref a0, rfl, rfl, SqL.of es, rfl, a0, _, rfl, .inl ⟨SqL.of e0, fun u hu => ⟨_, rfl, sd, _, 1, .ref a1, rfl, rfl, (show SqL K (upd H'' u (.tup (A.map V.int))) sd [.ref a0, .ref a1] from SqL.of (by rw [upd_ne (ne_of_none es hu)]; exact es)), rfl, a1, _, rfl, .inl ⟨(show SqL K (upd H'' u (.tup (A.map V.int))) a1 (B.map V.int) from SqL.of (by rw [upd_ne (ne_of_none e1 hu)]; exact e1)), fun v hv => ⟨two, fun r hr' => ?_⟩⟩⟩⟩⟩
  have gu : Gw [] H'' (upd H'' u (.tup (A.map V.int))) := .new hu
  have gv := gu.trans (Gw.new (M := []) (o := .tup (B.map V.int)) hv)
  have gr := gv.trans (Gw.new (M := []) (o := .tup [.ref u, .ref v]) hr')
  have hrule : Dp K (upd (upd (upd H'' u (.tup (A.map V.int))) v (.tup (B.map V.int))) r (.tup [.ref u, .ref v])) (.ref r) (dRule (A, B)) := by
    refine dp_rule.mpr ⟨r, _, _, rfl, SqT.of upd_same, dp_side.mpr ⟨u, rfl, ?_⟩, dp_side.mpr ⟨v, rfl, ?_⟩⟩
    · exact ((Gw.new (M := []) hv).trans (.new hr')).ext.sqT (SqT.of upd_same)
    · exact (Gw.new (M := []) hr').ext.sqT (SqT.of upd_same)
  revert gr hrule
  generalize upd (upd (upd H'' u (.tup (A.map V.int))) v (.tup (B.map V.int))) r (.tup [.ref u, .ref v]) = H5
  intro gr hrule
  have g7 := g5.trans gr
  have el5 := gr.ext.lst elx List.not_mem_nil
  have eD5 := gr.ext.lst eDx List.not_mem_nil
  have hall5 : DpAll K H5 xs (rs.map dRule) := DpAll.ext gr.ext (still_all rs) hallx
  -- if len(rules) == 12 or ..
  refine ⟨fun σ H2 => σ = [some (.str z), some (.int (j : Int)), some (.ref l), some (.int (m : Int)), some (.ref D), some (.ref sd), some (.int (spot : Int)), q7, some (.ref r), none] ∧ Gw [] H5 H2 ∧ ¬ stopA rs (A, B), ?_, ?_⟩
  · refine ⟨_, rfl, l, _, rfl, .inl (SqL.of el5), rfl, _, rfl, ?_⟩
    rw [hxl]
    have raise_ : ∀ {H6 : Hp}, stopA rs (A, B) → Gw [] H5 H6 → ∀ t, H6 t = none → Q (.ref t) (upd H6 t (.tup [.str "place", .int (j : Int)])) := fun {H6} st g6 => erJ (g7.trans g6) (bodyA_stop hlt hru st)
    by_cases c12 : rs.length = 12
    · rw [decide_eq_true (show V.int (rs.length : Int) = V.int 12 by rw [c12]; rfl)]
      refine iteT ?_
      refine iteT ?_
      exact ⟨_, rfl, two, fun t ht => raise_ (.inl c12) .refl t ht⟩
    rw [decide_eq_false (show ¬ V.int (rs.length : Int) = V.int 12 by intro q; injection q with q; omega)]
    refine iteF ?_
    -- rules != []
    refine ⟨_, rfl, by show 0 ≤ sizeLine; decide, fun nl hnl => ⟨.list (rs.map dRule), .list [], .lst (SqL.of ?_) (DpAll.ext (Gw.new (M := []) hnl).ext (still_all rs) hall5), .lst (SqL.of upd_same) .nil, shaped_rulesL, by decide, _, rfl, ?_⟩⟩
    · rw [upd_ne (ne_of_none el5 hnl)]; exact el5
    have gn : Gw [] H5 (upd H5 nl (.lst [])) := .new hnl
    have eln : upd H5 nl (.lst []) l = some (.lst xs) := by rw [upd_ne (ne_of_none el5 hnl)]; exact el5
    have hxn := Dp.ext gn.ext (still_rule (A, B)) hrule
    have halln := DpAll.ext gn.ext (still_all rs) hall5
    have en : PyData.eqv (.list (rs.map dRule)) (.list []) = rs.isEmpty := by rw [PyData.eqv]; cases rs <;> rfl
    rw [en]
    cases hgl : rs.getLast? with
    | none =>
      have hnil : rs = [] := List.getLast?_eq_none_iff.mp hgl
      refine ifF (show (!rs.isEmpty) = false by rw [hnil]; rfl) ?_
      refine iteF ?_
      exact ⟨rfl, gn, fun st => st.elim c12 fun ⟨q, z1, _⟩ => by rw [hgl] at z1; cases z1⟩
    | some q =>
      obtain ⟨rs0, rfl⟩ := List.getLast?_eq_some_iff.mp hgl
      have hx0 : ∃ xs0 x0, xs = xs0 ++ [x0] := by
        have : xs ≠ [] := fun z => by rw [z, List.length_append] at hxl; simp at hxl
        exact ⟨xs.dropLast, xs.getLast this, (List.dropLast_concat_getLast this).symm⟩
      obtain ⟨xs0, x0, rfl⟩ := hx0
      have hd0 : Dp K (upd H5 nl (.lst [])) x0 (dRule q) := by
        have hl0 : xs0.length = rs0.length := by rw [List.length_append, List.length_append] at hxl; simpa using hxl
        obtain ⟨d, hd1, hd2⟩ := dpAll_get (i := xs0.length) halln (v := x0) (by simp)
        rw [hl0, List.map_append, List.getElem?_append_right (by rw [List.length_map]; exact Nat.le_refl _), List.length_map, Nat.sub_self] at hd1
        cases hd1
        exact hd2
      refine ifT (show (!(rs0 ++ [q]).isEmpty) = true by cases rs0 <;> rfl) ?_
      refine ⟨_, rfl, _, rfl, 1, rfl, l, _, _, x0, rfl, rfl, SqL.of eln, atI_last xs0 x0, (A, B), q, hxn, hd0, _, rfl, ?_⟩
      cases cq : ltR q (A, B) with
      | false =>
        refine iteT ?_
        exact ⟨_, rfl, two, fun t ht => raise_ (.inr ⟨q, hgl, cq⟩) gn t ht⟩
      | true =>
        refine iteF ?_
        exact ⟨rfl, gn, fun st => st.elim c12 fun ⟨q', z1, z2⟩ => by rw [hgl] at z1; cases z1; rw [cq] at z2; cases z2⟩
  rintro σ H6 ⟨rfl, g6, hst⟩
  have g8 := g7.trans g6
  have el6 := g6.ext.lst el5 List.not_mem_nil
  have eD6 := g6.ext.lst eD5 List.not_mem_nil
  have hall6 : DpAll K H6 xs (rs.map dRule) := DpAll.ext g6.ext (still_all rs) hall5
  have hru6 := Dp.ext g6.ext (still_rule (A, B)) hrule
  -- rules.append(rule)
  refine ⟨_, rfl, .inl ⟨rfl, _, SqL.of el6⟩, _, rfl, l, _, _, rfl, rfl, el6, ?_, ?_⟩
  · rw [hxl]
    exact Nat.lt_of_lt_of_le (show rs.length < 2000 by omega) (by rw [sizeLine_eq]; decide)
  have g9 : Gw [l] H6 (upd H6 l (.lst (xs ++ [.ref r]))) := .set el6 rfl List.mem_cons_self
  have hall9 : DpAll K (upd H6 l (.lst (xs ++ [.ref r]))) (xs ++ [.ref r]) ((rs ++ [(A, B)]).map dRule) := by
    rw [List.map_append]
    exact dpAll_snoc (DpAll.ext g9.ext (still_all rs) hall6) (Dp.ext g9.ext (still_rule (A, B)) hru6)
  have nDl : D ≠ l := Ne.symm nlD
  have eD9 : upd H6 l (.lst (xs ++ [.ref r])) D = some (.lst ((signs m).map V.str)) := by rw [upd_ne nDl]; exact eD6
  have el9 : upd H6 l (.lst (xs ++ [.ref r])) l = some (.lst (xs ++ [.ref r])) := upd_same
  have g10 : Gw [l] H2 (upd H6 l (.lst (xs ++ [.ref r]))) := (g.trans g8.more).trans g9
  have gH9 : Gw [] H (upd H6 l (.lst (xs ++ [.ref r]))) := (g12.more.trans g10).drop hl0
  revert hall9 eD9 el9 g10 gH9
  generalize upd H6 l (.lst (xs ++ [.ref r])) = H7
  intro hall9 eD9 el9 g10 gH9
  -- if text[spot:spot + 1] not in ['', ' ']
  refine ⟨_, rfl, _, rfl, _, rfl, _, rfl, _, _, rfl, rfl, _, rfl, z, rfl, small_fits hz, two, fun g2' hg2 => ⟨g2', _, rfl, .inl (SqL.of upd_same), rfl, rfl, _, rfl, ?_⟩⟩
  have gg2 : Gw [] H7 (upd H7 g2' (.lst [.str "", .str " "])) := .new hg2
  have elg : upd H7 g2' (.lst [.str "", .str " "]) l = some (.lst (xs ++ [.ref r])) := by rw [upd_ne (ne_of_none el9 hg2)]; exact el9
  have eDg : upd H7 g2' (.lst [.str "", .str " "]) D = some (.lst ((signs m).map V.str)) := by rw [upd_ne (ne_of_none eD9 hg2)]; exact eD9
  have hallg := DpAll.ext gg2.ext (still_all (rs ++ [(A, B)])) hall9
  have fgp := in_gap z spot
  have hne := next_gap (L := codes z) (i := spot)
  cases cg : gapB (codes z) spot with
  | false =>
    rw [cg] at fgp hne
    rw [if_neg Bool.false_ne_true] at hne
    refine ifT (show (!inV _ _) = true by rw [fgp]; rfl) ?_
    refine ⟨_, rfl, two, fun t ht => ?_⟩
    exact er (gH9.trans gg2) (hrd _ (by rw [← hb, bodyA_next hlt hru hst hne])) t ht
  | true =>
  rw [cg] at fgp hne
  rw [if_pos rfl] at hne
  refine ifF (show (!inV _ _) = false by rw [fgp]; rfl) ?_
  -- at = _law_skip(text, spot)
  obtain ⟨k1, k2, k3⟩ := bodyA_go hlt hru hst hne
  have hnot : rs.length ≠ 12 := fun q => hst (.inl q)
  refine ⟨_, rfl, _, rfl, z, spot, rfl, hz, hsple, ⟨rs ++ [(A, B)], xs ++ [.ref r], skipA (codes z) spot, _, _, _, _, rfl, g10.trans gg2.more, elg, eDg, hallg, by omega, ?_, by rw [← k3, hb]⟩, ?_⟩
  · rw [List.length_append]
    show rs.length + 1 ≤ 12
    omega
  · show z.length - ((skipA (codes z) spot : Nat) : Int).toNat < z.length - ((j : Int)).toNat
    omega
end
end SB
/-! KAlike -/
set_option Elab.async false
set_option linter.all false
set_option maxRecDepth 100000
set_option maxHeartbeats 4000000
namespace SB
open PySem PySem.Spec PyProof.Rows L2
abbrev sAlike : Stmt := top 40
mutual
/-- tuples, ints and texts -/
def okD : PyData → Bool
  | .int _ => true
  | .str _ => true
  | .tuple xs => decide (xs.length ≤ 1000) && okDs xs
  | _ => false
def okDs : List PyData → Bool
  | [] => true
  | x :: xs => okD x && okDs xs
end
theorem okDs_get : ∀ {ds : List PyData} {i : Nat} {d : PyData}, okDs ds = true → ds[i]? = some d → okD d = true
  | [], _, _, _, e => by simp at e
  | x :: xs, 0, d, h, e => by
    simp at e; subst e
    exact (Bool.and_eq_true_iff.mp (show (okD x && okDs xs) = true by simpa [okDs] using h)).1
  | x :: xs, i + 1, d, h, e => okDs_get (Bool.and_eq_true_iff.mp (show (okD x && okDs xs) = true by simpa [okDs] using h)).2 (by simpa using e)
theorem depthAll_get : ∀ {ds : List PyData} {i : Nat} {d : PyData}, ds[i]? = some d → d.depth ≤ PyData.depthAll ds
  | [], _, _, e => by simp at e
  | x :: xs, 0, d, e => by
    simp at e; subst e
    rw [PyData.depthAll]; omega
  | x :: xs, i + 1, d, e => by
    have ih := depthAll_get (ds := xs) (i := i) (d := d) (by simpa using e)
    rw [PyData.depthAll]; omega
mutual
theorem still_ok : ∀ {d : PyData}, okD d = true → still d = true
  | .int _, _ => by rw [still] <;> first | rfl | simp
  | .str _, _ => by rw [still] <;> first | rfl | simp
  | .tuple xs, h => by rw [still]; exact still_oks (Bool.and_eq_true_iff.mp (show (decide (xs.length ≤ 1000) && okDs xs) = true by simpa [okD] using h)).2
  | .none, h => by simp [okD] at h
  | .bool _, h => by simp [okD] at h
  | .list _, h => by simp [okD] at h
  | .dict _, h => by simp [okD] at h
theorem still_oks : ∀ {ds : List PyData}, okDs ds = true → stillAll ds = true
  | [], _ => rfl
  | x :: xs, h => by
    have z := Bool.and_eq_true_iff.mp (show (okD x && okDs xs) = true by simpa [okDs] using h)
    rw [stillAll, still_ok z.1, still_oks z.2]; rfl
end
theorem dpAll_at {K : PySem.W.Frag} {H : Hp} : ∀ {ds : List PyData} {vs : List V} {i : Nat} {d : PyData}, DpAll K H vs ds → ds[i]? = some d → ∃ v, vs[i]? = some v ∧ Dp K H v d
  | _, _, _, _, .nil, e => by simp at e
  | _, _, 0, _, .cons h _, e => by simp at e; subst e; exact ⟨_, rfl, h⟩
  | _, _, i + 1, _, .cons _ h, e => by
    obtain ⟨v, h1, h2⟩ := dpAll_at (i := i) h (by simpa using e)
    exact ⟨v, by simpa using h1, h2⟩
theorem kit_no {K : PySem.W.Frag} {t a b : Value} (h1 : PySem.W.kitOne K t a = some false) (h2 : PySem.W.kitOne K t b = some false) : PySem.W.kitAny K t [a, b] = some false :=
  kitAny_cons (b := false) h1 (fun _ => kitAny_cons (b := false) h2 (fun _ => kitAny_nil) fun z => nomatch z) fun z => nomatch z
theorem kit_yes {K : PySem.W.Frag} {t a b : Value} (h1 : PySem.W.kitOne K t a = some true) : PySem.W.kitAny K t [a, b] = some true :=
  kitAny_cons (b := true) h1 (fun z => nomatch z) fun _ => rfl
/-- found and due of the same data -/
def spAlike (K : PySem.W.Frag) (n : Nat) : Sp := fun vs H Q _ => ∃ (x y : V) (d : PyData), vs = [x, y] ∧ Dp K H x d ∧ Dp K H y d ∧ okD d = true ∧ d.depth ≤ n ∧ ∀ H', Gw [] H H' → Q (.bl true) H'
section
variable {P : Program} {w : World} {K : PySem.W.Frag} {mg : Str → Option Value} {base : Heap} {T : List Addr}
theorem scAlike : FnScope ["found", "due", "k"] ["found", "due"] (defScope sAlike) := ⟨rfl, rfl, rfl, by decide +kernel, rfl, by decide +kernel, by decide +kernel⟩
/-- the words of the recursion's call -/
abbrev tAlk (K : PySem.W.Frag) (n : Nat) : TT := tNot (tB (tCall (spAlike K n) [] E0 (tCons (tOp (rIxT K) (tVar 0) (tVar 2)) (tCons (tOp (rIxT K) (tVar 1) (tVar 2)) tNil))))
theorem ok_alike1 {f : Addr} {fd : FuncData} {n : Nat} (F : FnP K "_law_alike" sAlike f fd) (B : Blt mg) (mA : mg "_law_alike" = some (.ref f)) (bd : Binds K fd ["found", "due"] [])
    (ih : FnOk P w K mg base CX0 (n + 1) f fd ["found", "due"] (spAlike K n)) : FnOk P w K mg base CX0 (n + 2) f fd ["found", "due"] (spAlike K (n + 1)) := by
  refine okN F scAlike (fun vs H Q E h => ?_) (fun A outer s H vs Q E hr h => ?_)
  · obtain ⟨x, y, d, rfl, _⟩ := h
    rfl
  obtain ⟨x, y, d, rfl, hx, hy, hd, hdep, hq⟩ := h
  refine ⟨_, pss_cons (ps_if (pt_val (pe_callB call_isiT rfl B.isi boot_isinstance (pa_cons (pv 1) (pa_cons (pe_tup (pa_cons (pe_bltn (v := .ty "tuple") (by rfl) B.tuple boot_tuple rfl) (pa_cons (pe_bltn (v := .ty "list") (by rfl) B.list (by decide +kernel) rfl) pa_nil))) pa_nil))))
      (pss_cons (ps_if (PW.pt (pw_or (pt_not (pt_val (pe_callB call_isiT rfl B.isi boot_isinstance (pa_cons (pv 0) (pa_cons (pe_tup (pa_cons (pe_bltn (v := .ty "tuple") (by rfl) B.tuple boot_tuple rfl) (pa_cons (pe_bltn (v := .ty "list") (by rfl) B.list (by decide +kernel) rfl) pa_nil))) pa_nil)))))
          (pw_or1 (pt_cmpR op_ne (pe_callB call_isi rfl B.isi boot_isinstance (pa_cons (pv 0) (pa_cons (pe_bltn (v := .ty "list") (by rfl) B.list (by decide +kernel) rfl) pa_nil))) (pe_callB call_isi rfl B.isi boot_isinstance (pa_cons (pv 1) (pa_cons (pe_bltn (v := .ty "list") (by rfl) B.list (by decide +kernel) rfl) pa_nil))) (nomark _))))) (pss_one (ps_ret pe_bl)) pss_nil)
      (pss_cons (ps_if (pt_cmpR op_ne (pe_callB call_len_seq rfl B.len PySem.boot_len (pa_cons (pv 0) pa_nil)) (pe_callB call_len_seq rfl B.len PySem.boot_len (pa_cons (pv 1) pa_nil)) (nomark _)) (pss_one (ps_ret pe_bl)) pss_nil)
      (pss_one (ps_ret (pe_cmpR (op_eqD hr.units) (pe_lc (own := [("k", 2)]) (g := gName 2) (te := tVar 2) (tt := tAlk K n) rfl scAlike.nd (pi_range1 (by rfl) B.range (pa_cons (pe_callB call_len_seq rfl B.len PySem.boot_len (pa_cons (pv 1) pa_nil)) pa_nil)) (blkOk_by (own := [("k", 2)]) (N := ["found", "due", "k"]) (sc := defScope sAlike) (by decide +kernel))
          (fun _ _ _ _ _ => pg_name (i := 2) scAlike.nd rfl (Or.inl rfl)) (fun _ _ _ _ _ => pts_one (pt_not (pt_val (pe_call ih hr rfl mA F.kp bd .nil pass0 (pa_cons (pe_ix ix_tup (pv 0) (pv 2) (fun _ _ => rfl)) (pa_cons (pe_ix ix_tup (pv 1) (pv 2) (fun _ _ => rfl)) pa_nil)))))) (fun _ _ _ _ _ => pv 2)) (pe_lst pa_nil) (nomark _)))))) pss_nil)
    (pss_cons (ps_if (PW.pt (pw_or (pt_cmpR op_isN (pv 1) pe_non (nomark _)) (pw_or1 (pt_val (pe_callB call_isi rfl B.isi boot_isinstance (pa_cons (pv 1) (pa_cons (pe_bltn (v := .ty "str") (by rfl) B.str (by decide +kernel) rfl) pa_nil)))))))
      (pss_one (ps_ret (pe_and (pe_cmpR op_eq (pv 0) (pv 1) (nomark _)) (pe_one (pe_cmpR op_eq (pe_callB call_isi rfl B.isi boot_isinstance (pa_cons (pv 0) (pa_cons (pe_bltn (v := .ty "str") (by rfl) B.str (by decide +kernel) rfl) pa_nil))) (pe_callB call_isi rfl B.isi boot_isinstance (pa_cons (pv 1) (pa_cons (pe_bltn (v := .ty "str") (by rfl) B.str (by decide +kernel) rfl) pa_nil))) (nomark _)))))) pss_nil)
    (pss_one (ps_ret (pe_and (pe_callB call_isi rfl B.isi boot_isinstance (pa_cons (pv 0) (pa_cons (pe_bltn (v := .ty "int") (by rfl) B.int boot_int rfl) pa_nil)))
      (pe_and (pe_cmpR op_eq (pe_callB call_isi rfl B.isi boot_isinstance (pa_cons (pv 0) (pa_cons (pe_bltn (v := .ty "bool") (by rfl) B.bool (by decide +kernel) rfl) pa_nil))) (pe_callB call_isi rfl B.isi boot_isinstance (pa_cons (pv 1) (pa_cons (pe_bltn (v := .ty "bool") (by rfl) B.bool (by decide +kernel) rfl) pa_nil))) (nomark _))
        (pe_one (pe_cmpR op_eq (pv 0) (pv 1) (nomark _)))))))), ?_⟩
  have two : 2 ≤ sizeLine := by decide
  have two' : 0 ≤ sizeLine := by decide
  have pr : Paired ClsV [.ty "tuple", .ty "list"] [.type "tuple", .type "list"] := .cons (.ty _) (.cons (.ty _) .nil)
  cases d with
  | int i =>
    cases hx
    cases hy
    refine ⟨_, rfl, two, fun tp htp => ⟨.int i, tp, _, .type "int", _, false, rfl, upd_same, pr, .base (.int i), kit_no (kit_ty (by decide +kernel)) (kit_ty (by decide +kernel)), _, rfl, ?_⟩⟩
    refine iteF ?_
    have g : Gw [] H (upd H tp (.tup [.ty "tuple", .ty "list"])) := .new htp
    refine ⟨_, rfl, rfl, _, rfl, ?_⟩
    refine iteF ?_
    refine ⟨_, rfl, .int i, .ty "str", .type "int", .type "str", false, rfl, .ty _, .base (.int i), kit_ty (by decide +kernel), _, rfl, ?_⟩
    refine iteF ?_
    refine ⟨_, rfl, .int i, .ty "int", .type "int", .type "int", true, rfl, .ty _, .base (.int i), kit_ty (by decide +kernel), _, rfl, ?_⟩
    refine iteT ?_
    refine ⟨_, rfl, .int i, .ty "bool", .type "int", .type "bool", false, rfl, .ty _, .base (.int i), kit_ty (by decide +kernel), _, rfl, .int i, .ty "bool", .type "int", .type "bool", false, rfl, .ty _, .base (.int i), kit_ty (by decide +kernel), rfl, _, rfl, ?_⟩
    refine iteT ?_
    refine ⟨_, rfl, _, rfl, rfl, ?_⟩
    rw [decide_eq_true rfl]
    exact hq _ g
  | str z =>
    cases hx
    cases hy
    refine ⟨_, rfl, two, fun tp htp => ⟨.str z, tp, _, .type "str", _, false, rfl, upd_same, pr, .base (.str z), kit_no (kit_ty (by decide +kernel)) (kit_ty (by decide +kernel)), _, rfl, ?_⟩⟩
    refine iteF ?_
    have g : Gw [] H (upd H tp (.tup [.ty "tuple", .ty "list"])) := .new htp
    refine ⟨_, rfl, rfl, _, rfl, ?_⟩
    refine iteF ?_
    refine ⟨_, rfl, .str z, .ty "str", .type "str", .type "str", true, rfl, .ty _, .base (.str z), kit_ty (by decide +kernel), _, rfl, ?_⟩
    refine iteT ?_
    refine ⟨_, rfl, _, rfl, rfl, _, rfl, ?_⟩
    refine ifT (decide_eq_true rfl) ?_
    refine ⟨_, rfl, .str z, .ty "str", .type "str", .type "str", true, rfl, .ty _, .base (.str z), kit_ty (by decide +kernel), _, rfl, .str z, .ty "str", .type "str", .type "str", true, rfl, .ty _, .base (.str z), kit_ty (by decide +kernel), rfl, ?_⟩
    exact hq _ g
  | tuple ds =>
    obtain ⟨a, xs, rfl, hsx, hax⟩ : ∃ a xs, x = .ref a ∧ SqT K H a xs ∧ DpAll K H xs ds := by
      cases hx with
      | tup h1 h2 => exact ⟨_, _, rfl, h1, h2⟩
    obtain ⟨b, ys, rfl, hsy, hay⟩ : ∃ a xs, y = .ref a ∧ SqT K H a xs ∧ DpAll K H xs ds := by
      cases hy with
      | tup h1 h2 => exact ⟨_, _, rfl, h1, h2⟩
    obtain ⟨hw, hds⟩ := Bool.and_eq_true_iff.mp (show (decide (ds.length ≤ 1000) && okDs ds) = true by simpa [okD] using hd)
    have hw' := of_decide_eq_true hw
    have hdp : PyData.depthAll ds ≤ n := by
      rw [PyData.depth] at hdep
      omega
    have hsd := still_oks hds
    have hlx := dpAll_length hax
    have hly := dpAll_length hay
    have nol : PySem.W.kitOne K (.type "tuple") (.type "list") = some false := kit_ty (by decide +kernel)
    have yes : PySem.W.kitAny K (.type "tuple") [.type "tuple", .type "list"] = some true := kit_yes (kit_ty (by decide +kernel))
    refine ⟨_, rfl, two, fun tp htp => ⟨.ref b, tp, _, .type "tuple", _, true, rfl, upd_same, pr, tyx_tup ((Gw.new (M := []) htp).ext.sqT hsy), yes, _, rfl, ?_⟩⟩
    refine iteT ?_
    have g1 : Gw [] H (upd H tp (.tup [.ty "tuple", .ty "list"])) := .new htp
    refine ⟨_, rfl, two, fun tp2 htp2 => ⟨.ref a, tp2, _, .type "tuple", _, true, rfl, upd_same, pr, tyx_tup ((g1.trans (Gw.new (M := []) htp2)).ext.sqT hsx), yes, _, rfl, ?_⟩⟩
    refine iteF ?_
    have g2 := g1.trans (Gw.new (M := []) (o := .tup [.ty "tuple", .ty "list"]) htp2)
    refine ⟨_, rfl, .ref a, .ty "list", .type "tuple", .type "list", false, rfl, .ty _, tyx_tup (g2.ext.sqT hsx), nol, _, rfl, .ref b, .ty "list", .type "tuple", .type "list", false, rfl, .ty _, tyx_tup (g2.ext.sqT hsy), nol, rfl, _, rfl, ?_⟩
    refine iteF ?_
    have hsx2 := g2.ext.sqT hsx
    have hsy2 := g2.ext.sqT hsy
    have hax2 : DpAll K _ xs ds := DpAll.ext g2.ext hsd hax
    have hay2 : DpAll K _ ys ds := DpAll.ext g2.ext hsd hay
    revert g2 hsx2 hsy2 hax2 hay2
    generalize upd (upd H tp (.tup [.ty "tuple", .ty "list"])) tp2 (.tup [.ty "tuple", .ty "list"]) = H2
    intro g2 hsx2 hsy2 hax2 hay2
    refine ⟨_, rfl, a, _, rfl, .inr hsx2, _, rfl, b, _, rfl, .inr hsy2, rfl, _, rfl, ?_⟩
    rw [hlx, hly, decide_eq_true rfl]
    refine iteF ?_
    refine ⟨_, rfl, b, _, rfl, .inr hsy2, ys.length, rfl, ?_, ?_, fun D hD => lc_it (walk_range (lo := 0) (n := ((ys.length : Nat) : Int).toNat)) (fun i H3 => H3 D = some (.lst []) ∧ Gw [D] H2 H3) ⟨upd_same, .new hD⟩ (fun _ _ _ _ => trivial) ?_ ?_⟩
    · omega
    · omega
    · rintro i v H3 H3' hi ⟨e, g3⟩ ⟨rfl, rfl⟩
      have hil : i < ds.length := by omega
      have hdi : ds[i]? = some ds[i] := List.getElem?_eq_getElem hil
      obtain ⟨vx, ex, hvx⟩ := dpAll_at hax2 hdi
      obtain ⟨vy, ey, hvy⟩ := dpAll_at hay2 hdi
      have hok := okDs_get hds hdi
      have hde := depthAll_get hdi
      have ei : ((0 : Int) + (i : Int)) = ((i : Nat) : Int) := by omega
      refine ⟨rfl, ?_⟩
      refine ⟨_, rfl, _, rfl, a, _, _, vx, rfl, rfl, g3.ext.sqT hsx2, by rw [ei]; exact atI_nat ex, _, rfl, _, rfl, b, _, _, vy, rfl, rfl, g3.ext.sqT hsy2, by rw [ei]; exact atI_nat ey, vx, vy, ds[i], rfl, Dp.ext g3.ext (still_ok hok) hvx, Dp.ext g3.ext (still_ok hok) hvy, hok, by omega, fun H4 g4 => ⟨_, rfl, ?_⟩⟩
      refine iteF ?_
      exact ⟨g4.ext.lst e List.not_mem_nil, g3.trans g4.more⟩
    · rintro H3 ⟨e, g3⟩
      refine ⟨two', fun nl hnl => ⟨.list [], .list [], .lst (SqL.of ?_) .nil, .lst (SqL.of upd_same) .nil, by decide, by decide, ?_⟩⟩
      · rw [upd_ne (ne_of_none e hnl)]; exact e
      · exact hq _ ((g2.trans (g3.drop hD)).trans (.new hnl))
  | none => simp [okD] at hd
  | bool b => simp [okD] at hd
  | list ds => simp [okD] at hd
  | dict ds => simp [okD] at hd
/-- ints and texts alone -/
theorem ok_alike0 {f : Addr} {fd : FuncData} (F : FnP K "_law_alike" sAlike f fd) (B : Blt mg) : FnOk P w K mg base CX0 1 f fd ["found", "due"] (spAlike K 0) := by
  refine okN F scAlike (fun vs H Q E h => ?_) (fun A outer s H vs Q E hr h => ?_)
  · obtain ⟨x, y, d, rfl, _⟩ := h
    rfl
  obtain ⟨x, y, d, rfl, hx, hy, hd, hdep, hq⟩ := h
  refine ⟨_, pss_cons (ps_if (pt_val (pe_callB call_isiT rfl B.isi boot_isinstance (pa_cons (pv 1) (pa_cons (pe_tup (pa_cons (pe_bltn (v := .ty "tuple") (by rfl) B.tuple boot_tuple rfl) (pa_cons (pe_bltn (v := .ty "list") (by rfl) B.list (by decide +kernel) rfl) pa_nil))) pa_nil)))) pss_never pss_nil)
    (pss_cons (ps_if (PW.pt (pw_or (pt_cmpR op_isN (pv 1) pe_non (nomark _)) (pw_or1 (pt_val (pe_callB call_isi rfl B.isi boot_isinstance (pa_cons (pv 1) (pa_cons (pe_bltn (v := .ty "str") (by rfl) B.str (by decide +kernel) rfl) pa_nil)))))))
      (pss_one (ps_ret (pe_and (pe_cmpR op_eq (pv 0) (pv 1) (nomark _)) (pe_one (pe_cmpR op_eq (pe_callB call_isi rfl B.isi boot_isinstance (pa_cons (pv 0) (pa_cons (pe_bltn (v := .ty "str") (by rfl) B.str (by decide +kernel) rfl) pa_nil))) (pe_callB call_isi rfl B.isi boot_isinstance (pa_cons (pv 1) (pa_cons (pe_bltn (v := .ty "str") (by rfl) B.str (by decide +kernel) rfl) pa_nil))) (nomark _)))))) pss_nil)
    (pss_one (ps_ret (pe_and (pe_callB call_isi rfl B.isi boot_isinstance (pa_cons (pv 0) (pa_cons (pe_bltn (v := .ty "int") (by rfl) B.int boot_int rfl) pa_nil)))
      (pe_and (pe_cmpR op_eq (pe_callB call_isi rfl B.isi boot_isinstance (pa_cons (pv 0) (pa_cons (pe_bltn (v := .ty "bool") (by rfl) B.bool (by decide +kernel) rfl) pa_nil))) (pe_callB call_isi rfl B.isi boot_isinstance (pa_cons (pv 1) (pa_cons (pe_bltn (v := .ty "bool") (by rfl) B.bool (by decide +kernel) rfl) pa_nil))) (nomark _))
        (pe_one (pe_cmpR op_eq (pv 0) (pv 1) (nomark _)))))))), ?_⟩
  have two : 2 ≤ sizeLine := by decide
  have two' : 0 ≤ sizeLine := by decide
  have pr : Paired ClsV [.ty "tuple", .ty "list"] [.type "tuple", .type "list"] := .cons (.ty _) (.cons (.ty _) .nil)
  cases d with
  | int i =>
    cases hx
    cases hy
    refine ⟨_, rfl, two, fun tp htp => ⟨.int i, tp, _, .type "int", _, false, rfl, upd_same, pr, .base (.int i), kit_no (kit_ty (by decide +kernel)) (kit_ty (by decide +kernel)), _, rfl, ?_⟩⟩
    refine iteF ?_
    have g : Gw [] H (upd H tp (.tup [.ty "tuple", .ty "list"])) := .new htp
    refine ⟨_, rfl, rfl, _, rfl, ?_⟩
    refine iteF ?_
    refine ⟨_, rfl, .int i, .ty "str", .type "int", .type "str", false, rfl, .ty _, .base (.int i), kit_ty (by decide +kernel), _, rfl, ?_⟩
    refine iteF ?_
    refine ⟨_, rfl, .int i, .ty "int", .type "int", .type "int", true, rfl, .ty _, .base (.int i), kit_ty (by decide +kernel), _, rfl, ?_⟩
    refine iteT ?_
    refine ⟨_, rfl, .int i, .ty "bool", .type "int", .type "bool", false, rfl, .ty _, .base (.int i), kit_ty (by decide +kernel), _, rfl, .int i, .ty "bool", .type "int", .type "bool", false, rfl, .ty _, .base (.int i), kit_ty (by decide +kernel), rfl, _, rfl, ?_⟩
    refine iteT ?_
    refine ⟨_, rfl, _, rfl, rfl, ?_⟩
    rw [decide_eq_true rfl]
    exact hq _ g
  | str z =>
    cases hx
    cases hy
    refine ⟨_, rfl, two, fun tp htp => ⟨.str z, tp, _, .type "str", _, false, rfl, upd_same, pr, .base (.str z), kit_no (kit_ty (by decide +kernel)) (kit_ty (by decide +kernel)), _, rfl, ?_⟩⟩
    refine iteF ?_
    have g : Gw [] H (upd H tp (.tup [.ty "tuple", .ty "list"])) := .new htp
    refine ⟨_, rfl, rfl, _, rfl, ?_⟩
    refine iteF ?_
    refine ⟨_, rfl, .str z, .ty "str", .type "str", .type "str", true, rfl, .ty _, .base (.str z), kit_ty (by decide +kernel), _, rfl, ?_⟩
    refine iteT ?_
    refine ⟨_, rfl, _, rfl, rfl, _, rfl, ?_⟩
    refine ifT (decide_eq_true rfl) ?_
    refine ⟨_, rfl, .str z, .ty "str", .type "str", .type "str", true, rfl, .ty _, .base (.str z), kit_ty (by decide +kernel), _, rfl, .str z, .ty "str", .type "str", .type "str", true, rfl, .ty _, .base (.str z), kit_ty (by decide +kernel), rfl, ?_⟩
    exact hq _ g
  | tuple ds => rw [PyData.depth] at hdep; omega
  | none => simp [okD] at hd
  | bool b => simp [okD] at hd
  | list ds => simp [okD] at hd
  | dict ds => simp [okD] at hd
theorem ok_alike {f : Addr} {fd : FuncData} (F : FnP K "_law_alike" sAlike f fd) (B : Blt mg) (mA : mg "_law_alike" = some (.ref f)) (bd : Binds K fd ["found", "due"] []) : ∀ n, FnOk P w K mg base CX0 (n + 1) f fd ["found", "due"] (spAlike K n)
  | 0 => ok_alike0 F B
  | n + 1 => ok_alike1 F B mA bd (ok_alike F B mA bd n)
end
end SB
/-! KOut -/
set_option Elab.async false
set_option linter.all false
set_option maxRecDepth 100000
set_option maxHeartbeats 2000000
namespace SB
open PySem PySem.Spec PyProof.Rows L2
theorem okDs_ints : ∀ k : List Int, okDs (k.map .int) = true
  | [] => rfl
  | x :: k => by rw [List.map_cons, okDs, okD, okDs_ints k]; rfl
theorem okD_side {s : Side} (h : s.length ≤ 1000) : okD (dSide s) = true := by
  rw [dSide, okD, List.length_map, decide_eq_true h, okDs_ints]; rfl
theorem okD_rule {r : Rule} (h1 : r.1.length ≤ 1000) (h2 : r.2.length ≤ 1000) : okD (dRule r) = true := by
  rw [dRule, okD, okDs, okDs, okDs, okD_side h1, okD_side h2]; rfl
theorem okDs_rules : ∀ {rs : List Rule}, (∀ r ∈ rs, r.1.length ≤ 1000 ∧ r.2.length ≤ 1000) → okDs (rs.map dRule) = true
  | [], _ => rfl
  | r :: rs, h => by
    have h0 := h r List.mem_cons_self
    rw [List.map_cons, okDs, okD_rule h0.1 h0.2, okDs_rules fun q hq => h q (List.mem_cons_of_mem _ hq)]; rfl
/-- a book of some rules, short ones -/
def Few (b : Book) : Prop := b.2.length ≤ 1000 ∧ ∀ r ∈ b.2, r.1.length ≤ 1000 ∧ r.2.length ≤ 1000
theorem okD_book {b : Book} (h : Few b) : okD (dBook b) = true := by
  rw [dBook, okD, okDs, okDs, okDs, okD, dRules, okD, List.length_map, decide_eq_true h.1, okDs_rules h.2]; rfl
theorem depth_sideL (s : Side) : (dSide s).depth = 1 := by rw [dSide, PyData.depth, depth_ints]
theorem depthAll_rules : ∀ rs : List Rule, PyData.depthAll (rs.map dRule) ≤ 2
  | [] => Nat.zero_le _
  | r :: rs => by
    have ih := depthAll_rules rs
    rw [List.map_cons, PyData.depthAll, depth_rule]; omega
theorem depth_book (b : Book) : (dBook b).depth ≤ 4 := by
  have h := depthAll_rules b.2
  rw [dBook, PyData.depth, PyData.depthAll, PyData.depthAll, PyData.depthAll, PyData.depth, dRules, PyData.depth]
  omega
theorem bodyA_few (L : List Nat) (n : Int) (i : Nat) (rs rs' : List Rule) (h : bodyA L n i rs = .ok rs') (h1 : rs.length ≤ 12) (h2 : ∀ r ∈ rs, r.1.length ≤ 1000 ∧ r.2.length ≤ 1000) : rs'.length ≤ 12 ∧ ∀ r ∈ rs', r.1.length ≤ 1000 ∧ r.2.length ≤ 1000 := by
  by_cases hi : i < L.length
  · cases hr : ruleA L i n with
    | error p => rw [bodyA_bad hi hr] at h; cases h
    | ok q =>
      obtain ⟨r, e⟩ := q
      by_cases hs : stopA rs r
      · rw [bodyA_stop hi hr hs] at h; cases h
      · cases hn : nextA L e with
        | error p => rw [bodyA_next hi hr hs hn] at h; cases h
        | ok j =>
          obtain ⟨k1, k2, k3⟩ := bodyA_go hi hr hs hn
          rw [k3] at h
          have hk := ruleA_ok hr
          have n12 : rs.length ≠ 12 := fun z => hs (.inl z)
          refine bodyA_few L n j (rs ++ [r]) rs' h (by rw [List.length_append]; show rs.length + 1 ≤ 12; omega) fun q hq => ?_
          rcases List.mem_append.mp hq with hq | hq
          · exact h2 q hq
          · rw [List.mem_singleton.mp hq]
            exact ⟨by omega, by omega⟩
  · rw [bodyA_end hi] at h
    cases h
    exact ⟨h1, h2⟩
termination_by L.length - i
theorem readA_few {L : List Nat} {b : Book} (h : readA L = .ok b) : Few b := by
  rw [readA_eq] at h
  cases hm : manyA L with
  | error p => rw [hm] at h; cases h
  | ok q =>
    obtain ⟨n, i⟩ := q
    rw [hm] at h
    simp only at h
    cases hb : bodyA L n (skipA L i) [] with
    | error p => rw [hb] at h; cases h
    | ok rs =>
      rw [hb] at h
      cases h
      have q := bodyA_few L n _ [] rs hb (Nat.zero_le _) fun r hr => absurd hr List.not_mem_nil
      exact ⟨by show rs.length ≤ 1000; omega, q.2⟩
theorem okD_out (L : List Nat) : okD (dOut (readA L)) = true := by
  cases h : readA L with
  | error p => rfl
  | ok b =>
    rw [dOut, okD, okDs, okDs, okDs, okD, okD_book (readA_few h)]; rfl
theorem depth_out (L : List Nat) : (dOut (readA L)).depth ≤ 5 := by
  cases h : readA L with
  | error p => rw [dOut, PyData.depth, PyData.depthAll, PyData.depthAll, PyData.depthAll, PyData.depth, PyData.depth]; omega
  | ok b =>
    have q := depth_book b
    rw [dOut, PyData.depth, PyData.depthAll, PyData.depthAll, PyData.depthAll, PyData.depth]; omega
theorem okB_few {b : Book} (h : OkB b) : Few b := by
  obtain ⟨_, h4, h12⟩ := okB_many h
  refine ⟨by omega, fun r hr => ?_⟩
  have q := rule_small h4 (h.rl r hr)
  exact ⟨by omega, by omega⟩
theorem few_sort {n : Int} {rs : List Rule} (h1 : rs.length ≤ 1000) (h2 : ∀ r ∈ rs, r.1.length ≤ 1000 ∧ r.2.length ≤ 1000) : Few (n, sortR rs) :=
  ⟨by show (sortR rs).length ≤ 1000; rw [(sortR_perm rs).length_eq]; exact h1, fun r hr => h2 r ((sortR_perm rs).mem_iff.mp hr)⟩
end SB
/-! KIsi -/
set_option Elab.async false
set_option linter.all false
set_option maxRecDepth 100000
set_option maxHeartbeats 4000000
/-! isinstance of a caught error and its own class. -/
namespace SB
open PySem PySem.Spec PyProof.Rows L2
theorem isi_exact {prog : Program} {w : World} {A : Around} {E : Value → Shared → Prop} {s : Shared} {Q : Value → Shared → Prop} {x C : Addr} {ox : Obj} {od : Option Obj} (I : PySem.W.InstAt s.heap x ox C od) (h : ∀ tk, Q (.bool true) { s with toks := tk }) :
    wpAny (model prog w) A (call (.builtin "isinstance") [.ref x, .ref C]) Q E s := by
  refine call_isinstance (S := fun _ R s => (∃ ox od, PySem.W.InstAt s.heap x ox C od) ∧ ∀ tk, R (.ok (.ret (.bool true))) { s with toks := tk }) (fun prog w A R s hs => isinstance_outer ?_ (fun z => nomatch z)) ⟨⟨_, _, I⟩, h⟩
  obtain ⟨h0, g, d, tt, os⟩ := s
  obtain ⟨⟨ox, od, I⟩, hq⟩ := hs
  unfold Builtin.«isinstance.nested»
  refine wpAny_bind ((I.type (M := model prog w)).at ?_)
  rw [if_pos (beq_self_eq_true _)]
  first
    | exact wpAny_bind (wpAny_rule (hq tt))
    | exact wpAny_bind (wpAny_rule (wpAny_pure (hq tt)))
    | (repeat (any_goals (first | assumption | wp_step)); exact hq tt)
/-- isinstance(error, C), error (at a) of the class C with the dict d -/
def rIsX (a : Addr) (cls : Value) (d : Option Addr) : List V → Hp → VK → Prop := fun xs H Q => ∃ (D dd : Addr) (fs : List (Str × V)), cls = .ref D ∧ d = some dd ∧ xs = [.ref a, .ref D] ∧ H dd = some (.xd fs) ∧ Q (.bl true) H
theorem call_isX {X : Cx} {a : Addr} {cls : Value} {d : Option Addr} {oe : Obj} {pn : List (Addr × Obj)} (hz : Zc cls d oe) (hf : ∃ vs, oe.data = .fields vs) :
    CallR (X.suite a ((a, oe) :: pn)) (.builtin "isinstance") (rIsX a cls d) := by
  intro pins s σ H xs us Q I r h
  obtain ⟨D, dd, fs, rfl, rfl, rfl, hd, q⟩ := h
  obtain ⟨u1, u2, rfl, r1, r2⟩ : ∃ u1 u2, us = [u1, u2] ∧ RelV (.ref a) u1 ∧ RelV (.ref D) u2 := by
    cases r with
    | cons r1 rr =>
      cases rr with
      | cons r2 rr => cases rr; exact ⟨_, _, rfl, r1, r2⟩
  obtain rfl : u1 = Value.ref a := r1
  obtain rfl : u2 = Value.ref D := r2
  obtain ⟨hget, _⟩ := I.pin (a, oe) (List.mem_append.mpr (.inl List.mem_cons_self))
  obtain ⟨vs, hv⟩ := hf
  obtain ⟨mA, hns, _⟩ := (show ObjOk X.prog X.w H s.heap dd (.xd fs) from I.hok dd _ hd)
  obtain ⟨o, es, ep, ho, _⟩ := hns
  have J : PySem.W.InstAt s.heap a oe D (some o) := ⟨hget, hz.1, by unfold PySem.W.notCls; rw [hv] <;> rfl, by rw [hz.2]; exact ho⟩
  exact isi_exact J fun tk => ⟨.bl true, H, I.tok tk, rfl, q⟩
/-- list(text) -/
theorem call_listS {X : Cx} (hc : X.calm = true) : CallR X (.type "list") (fun xs H Q => ∃ z : Str, xs = [.str z] ∧ z.length ≤ sizeLine ∧ ∀ q, H q = none → Q (.ref q) (upd H q (.lst (z.cps.toList.map fun c => V.str ⟨#[c]⟩)))) := by
  intro pins s σ H xs us Q I r h
  obtain ⟨z, rfl, hz, q⟩ := h
  obtain ⟨u, rfl, t, rfl⟩ : ∃ u, us = [u] ∧ ∃ t, u = Value.str z t := by
    cases r with
    | cons r1 rr => cases rr; exact ⟨_, rfl, r1⟩
  have hl : z.cps.toList.length = z.cps.size := Array.length_toList
  refine call_list_str (I.ok.hd hc) z t (fun h' tk acc c' hk e hi => ?_) hz
  refine ⟨.ref s.heap.objs.size, upd H s.heap.objs.size (.lst (z.cps.toList.map fun c => V.str ⟨#[c]⟩)), I.laid hk (Nat.le_refl _) ⟨by rw [List.length_map, hl]; exact hz, acc.toList, c', ?_, by rw [Array.toArray_toList]; exact e⟩, rfl, q _ (I.hok.fresh (Nat.le_refl _))⟩
  refine vals_of_idx _ _ (by rw [List.length_map, hl, Array.length_toList]; exact hi.1) fun j u hj => ?_
  have hh := hi.2 j u (by rw [← Array.getElem?_toList]; exact hj)
  obtain ⟨c, t', hc', rfl⟩ := hh
  refine ⟨.str ⟨#[c]⟩, ?_, ⟨_, rfl⟩⟩
  rw [List.getElem?_map, show z.cps.toList[j]? = some c from by rw [Array.getElem?_toList]; exact hc']
  rfl
end SB
/-! KLawE -/
set_option Elab.async false
set_option linter.all false
set_option maxRecDepth 100000
set_option maxHeartbeats 4000000
/-! The law's own body, from its end. -/
namespace SB
open PySem PySem.Spec PyProof.Rows L2
abbrev sLaw : Stmt := top 44
abbrev NL : List Str := ["script", "row", "book", "other", "left", "right", "rules", "order", "turned", "gap", "text", "texts", "pairs", "wide", "turn", "at", "sign", "told", "error", "one", "rule", "a", "b"]
theorem scLaw : FnScope NL ["script"] (defScope sLaw) := ⟨rfl, rfl, rfl, by decide +kernel, rfl, by decide +kernel, by decide +kernel⟩
/-- the law's frame -/
abbrev XL (P : Program) (w : World) (K : PySem.W.Frag) (mg : Str → Option Value) (base : Heap) (f : Addr) (code : Value) (A : Around) (outer : List Env) (s : Shared) (H : Hp) (E : XK) : Cx := (cxOf CX0 P w K mg base NL "law" (defScope sLaw) f code A outer s H E).nox
/-- what the law calls -/
structure LawEnv (P : Program) (w : World) (K : PySem.W.Frag) (mg : Str → Option Value) (base : Heap) (T : List Addr) : Prop where
  blt : Blt mg
  taken : ∃ g gd, At P w K mg base CX0 1 "_law_taken" ["row", "many"] (spTaken K T) g gd
  order : ∃ g gd, At P w K mg base CX0 2 "_law_order" ["row", "many"] (spOrder K T) g gd
  pick : ∃ g gd, At P w K mg base CX0 2 "_law_pick" ["row", "things"] (spPick K T) g gd
  book : ∃ g gd, At P w K mg base CX0 3 "_law_book" ["row", "most", "long"] (spBook K T) g gd
  alike : ∃ g gd, At P w K mg base CX0 6 "_law_alike" ["found", "due"] (spAlike K 5) g gd
  due : ∃ g gd, At P w K mg base CX0 2 "_law_text_due" ["text"] (spDue K) g gd
  write : ∃ g gd, At P w K mg base CX0 7 "write_book" ["book"] (spWBook K T) g gd
  renamed : ∃ g gd, At P w K mg base CX0 7 "renamed" ["book", "order"] (spRenamed K T) g gd
  mirrored : ∃ g gd, At P w K mg base CX0 7 "mirrored" ["book"] (spMirrored K T) g gd
  joined : ∃ g gd, At P w K mg base CX0 7 "joined" ["book", "other"] (spJoined K T) g gd
  read : ∃ g gd C D, At P w K mg base (L2.CX P w) 4 "read_book" ["text"] (spReadBook K C) g gd ∧ mg "InvalidText" = some (.ref C) ∧ mg "ScatterError" = some (.ref D) ∧ PySem.W.exmOne K (.ref C) (.ref D) = some true ∧ XfC K C ∧ PySem.W.findIn K (.ref C) "place" = some none
section
variable {P : Program} {w : World} {K : PySem.W.Frag} {mg : Str → Option Value} {base : Heap} {T : List Addr} {f : Addr} {code : Value} {A : Around} {outer : List Env} {s : Shared} {H0 : Hp} {E : XK}
/-- ahead of the last loop -/
def MidE (σ : L2.St) (H : Hp) : Prop := ∃ (ta : Addr) (zs : List Str) (q : Fin 17 → Option V), σ = [q 0, q 1, q 2, q 3, q 4, q 5, q 6, q 7, q 8, q 9, q 10, some (.ref ta), q 11, q 12, q 13, q 14, q 15, q 16, none, none, none, none, none] ∧
  H ta = some (.lst (zs.map V.str)) ∧ (∀ z ∈ zs, z.length ≤ 10000) ∧ zs.length ≤ 1000
theorem law_end (hr : Room 7 (A.deeper (envOfC "law" (defScope sLaw) s.heap.objs.size f code))) (L : LawEnv P w K mg base T) :
    ∃ t, PSs (XL P w K mg base f code A outer s H0 E) ((defBody sLaw).drop 18) t ∧ ∀ (D : Ends) σ H, (∀ H', D.rt (.bl true) H') → MidE σ H → t D σ H := by
  obtain ⟨gA, gdA, AL⟩ := L.alike
  obtain ⟨gD, gdD, DU⟩ := L.due
  obtain ⟨gR, gdR, C, S, RB, mC, mS, ex, xf, np⟩ := L.read
  have B := L.blt
  have hr4 : Room 4 (A.deeper (envOfC "law" (defScope sLaw) s.heap.objs.size f code)) := hr.mono (by decide)
  refine ⟨_, pss_cons (ps_for PassesOwn.never rfl (pi_list (pv 11)) (pg_name (i := 10) scLaw.nd rfl (.inl rfl))
      (pss_cons (ps_set (i := 17) scLaw.nd rfl (Or.inl rfl) pe_non)
      (pss_cons (ps_mid (ps_try_as (i := 18) (Wout := fun _ _ _ _ => False)
          (tb := fun W => tSeq (tAsg (tTup (tCons (tC (.str "book")) (tCons (tCallS (spReadBook K C) (WE W) (tCons (tVar 10) tNil)) tNil))) (gName 17)) tNext)
          (ts := fun a cls d => tSeq (tAsg (tIf (tTest (tCB (rIsX a cls d) (tCons (tVar 18) (tCons (tC (.ref C)) tNil)))) (tTup (tCons (tC (.str "place")) (tCons (tXf a cls d C "place" (tVar 18)) tNil))) (tC (.str "other"))) (gName 17)) tNext)
          rfl rfl scLaw.nd rfl rfl ⟨rfl, by decide, .inl mS⟩ takes0
          (fun W pn xe tk _ => pss_one (ps_set (i := 17) scLaw.nd rfl (Or.inl rfl) (pe_tup (pa_cons pe_str (pa_cons (pe_callS (E := WE W) RB.ok hr4 rfl RB.mg_ RB.kp RB.bd (fun σ => passAt tk σ) (pa_cons (pv 10) pa_nil)) pa_nil)))))
          (fun a oe cls d pn hz hf => pss_one (ps_set (i := 17) scLaw.nd rfl (Or.inl rfl) (pe_ifExp (pt_val (pe_callB (call_isX hz hf) (by rfl) B.isi boot_isinstance (pa_cons (pv 18) (pa_cons (pe_glob (v := .ref C) rfl mC rfl) pa_nil)))) (pe_tup (pa_cons pe_str (pa_cons (pe_xf xf np hz hf (pv 18)) pa_nil))) pe_str)))))
      (pss_one (ps_if (pt_not (pt_val (pe_call AL.ok (hr.mono (by decide)) rfl AL.mg_ AL.kp AL.bd .nil pass0 (pa_cons (pv 17) (pa_cons (pe_call DU.ok (hr.mono (by decide)) rfl DU.mg_ DU.kp DU.bd .nil pass0 (pa_cons (pv 10) pa_nil)) pa_nil))))) (pss_one ps_never) pss_nil)))))
    (pss_one (ps_ret pe_bl)), fun D σ H hD hM => ?_⟩
  obtain ⟨ta, zs, q, rfl, hta, hz, hn⟩ := hM
  have two : 2 ≤ sizeLine := by decide
  refine ⟨_, rfl, ta, rfl, ⟨_, SqL.of hta⟩, for_list (K := K) (a := ta) (xs := zs.map V.str) (fun i σ H' => ∃ x10 x17, σ = [q 0, q 1, q 2, q 3, q 4, q 5, q 6, q 7, q 8, q 9, x10, some (.ref ta), q 11, q 12, q 13, q 14, q 15, x17, none, none, none, none, none] ∧ H' ta = some (.lst (zs.map V.str))) ⟨_, _, rfl, hta⟩ (fun i σ H' _ ⟨_, _, _, e⟩ => SqL.of e) ?_ ?_⟩
  · rintro i x σ H1 hi ⟨x10, x17, rfl, e⟩
    obtain ⟨z, hzi, rfl⟩ : ∃ z, zs[i]? = some z ∧ x = .str z := by
      rw [List.getElem?_map] at hi
      cases c : zs[i]? with
      | none => rw [c] at hi; cases hi
      | some z => rw [c] at hi; exact ⟨z, rfl, (Option.some.inj hi).symm⟩
    have hzl := hz z (List.mem_of_getElem? hzi)
    refine ⟨fun σ' H' => ∃ v, σ' = [q 0, q 1, q 2, q 3, q 4, q 5, q 6, q 7, q 8, q 9, some (.str z), some (.ref ta), q 11, q 12, q 13, q 14, q 15, some v, none, none, none, none, none] ∧ Gw [] H1 H' ∧ Dp K H' v (dOut (readA (codes z))), ?_, ?_⟩
    · refine ⟨_, rfl, z, rfl, hzl, ?_⟩
      cases hrd : readA (codes z) with
      | ok b =>
        intro v H2 g2 hv
        refine ⟨two, fun p hp => ?_⟩
        exact ⟨.ref p, rfl, g2.trans (.new hp), .tup (SqT.of upd_same) (.cons (.str _) (.cons (Dp.ext (Gw.new (M := []) hp).ext (still_book b) hv) .nil))⟩
      | error p =>
        intro d H2 g2 hd
        refine ⟨true, ex, fun _ a ha => ?_, fun n => nomatch n⟩
        refine ⟨_, rfl, C, d, _, rfl, rfl, rfl, hd, _, rfl, ?_⟩
        refine ifT rfl ?_
        refine ⟨_, rfl, rfl, rfl, d, _, _, rfl, hd, rfl, two, fun t ht => ?_⟩
        exact ⟨.ref t, rfl, g2.trans (.new ht), .tup (SqT.of upd_same) (.cons (.str _) (.cons (.int _) .nil))⟩
    · rintro σ H2 ⟨v, rfl, g2, hv⟩
      refine ⟨_, rfl, _, rfl, z, rfl, hzl, fun u H3 g3 hu => ?_⟩
      refine ⟨v, u, dOut (readA (codes z)), rfl, Dp.ext g3.ext (still_ok (okD_out _)) hv, hu, okD_out _, depth_out _, fun H4 g4 => ⟨_, rfl, ?_⟩⟩
      refine iteF ?_
      exact ⟨_, _, rfl, ((g2.trans g3).trans g4).ext.lst e List.not_mem_nil⟩
  · rintro σ H1 ⟨x10, x17, rfl, _⟩
    exact hD H1
end
end SB
/-! KLawT -/
set_option Elab.async false
set_option linter.all false
set_option maxRecDepth 100000
set_option maxHeartbeats 4000000
/-! The law's own body: the loop that draws texts. -/
namespace SB
open PySem PySem.Spec PyProof.Rows L2
/-- a list at a stays while a new one at p is written -/
def Off (K : PySem.W.Frag) (a p : Addr) (xs : List V) : Prop := a ≠ p ∨ ∀ H, SqL K H a xs
theorem off_new {K : PySem.W.Frag} {H : Hp} {a p : Addr} {xs : List V} (h : SqL K H a xs) (hp : H p = none) : Off K a p xs := by
  rcases h with (z | ⟨o, z⟩) | z
  · exact .inl (ne_of_none z hp)
  · exact .inl (ne_of_none z hp)
  · exact .inr fun _ => .inr z
theorem sqL_off {K : PySem.W.Frag} {H H' : Hp} {a p : Addr} {xs : List V} (h : SqL K H a xs) (n : Off K a p xs) (e : Ext [p] H H') : SqL K H' a xs := by
  rcases n with n | n
  · exact e.sqL h (by simpa using n)
  · exact n H'
/-- the drawing row, the script -/
structure Drw (K : PySem.W.Frag) (T : List Addr) (r a : Addr) (ns : List Int) (H : Hp) : Prop where
  row : RowAt H r a
  scr : SqL K H a (ns.map V.int)
  ne : a ≠ r
  tab : Tabs T H
theorem Drw.gw {K : PySem.W.Frag} {T : List Addr} {r a : Addr} {ns : List Int} {H H' : Hp} (d : Drw K T r a ns H) (g : Gw [] H H') : Drw K T r a ns H' :=
  ⟨d.row.ext g.ext List.not_mem_nil, g.ext.sqL d.scr List.not_mem_nil, d.ne, g.tab T d.tab⟩
theorem Drw.ext {K : PySem.W.Frag} {T : List Addr} {r a : Addr} {ns : List Int} {H H' : Hp} (d : Drw K T r a ns H) (e : Ext [] H H') (t : Tabs T H') : Drw K T r a ns H' :=
  ⟨d.row.ext e List.not_mem_nil, e.sqL d.scr List.not_mem_nil, d.ne, t⟩
theorem Drw.drawn {K : PySem.W.Frag} {T : List Addr} {r a : Addr} {ns : List Int} {H H' : Hp} (d : Drw K T r a ns H) (e : Ext [r] H H') (R : RowAt H' r a) (t : Tabs T H') : Drw K T r a ns H' :=
  ⟨R, e.sqL d.scr (by simpa using d.ne), d.ne, t⟩
theorem Drw.wrote {K : PySem.W.Frag} {T : List Addr} {r a p : Addr} {ns : List Int} {H H' : Hp} (d : Drw K T r a ns H) (hr : r ≠ p) (n : Off K a p (ns.map V.int)) (g : Gw [p] H H') : Drw K T r a ns H' :=
  ⟨d.row.ext g.ext (by simpa using hr), sqL_off d.scr n g.ext, d.ne, g.tab T d.tab⟩
theorem cutS_len (z : Str) (lo hi : Option Int) : (cutS z lo hi).length ≤ z.length := by
  unfold cutS
  show ((z.cps.toList.drop _).take _).toArray.size ≤ z.cps.size
  rw [List.size_toArray, List.length_take, List.length_drop, Array.length_toList]
  omega
theorem add_len (a b : Str) : (a ++ b).length = a.length + b.length := Str.length_append a b
theorem one_len (c : Nat) : (⟨#[c]⟩ : Str).length = 1 := rfl
/-- a text of at most n signs -/
def Txt (n : Nat) (x : V) : Prop := ∃ z : Str, x = .str z ∧ z.length ≤ n
section
variable {P : Program} {w : World} {K : PySem.W.Frag} {mg : Str → Option Value} {base : Heap} {T : List Addr} {f : Addr} {code : Value} {A : Around} {outer : List Env} {s : Shared} {H0 : Hp} {E : XK}
/-- ahead of the loop that draws texts -/
def MidT (K : PySem.W.Frag) (T : List Addr) (σ : L2.St) (H : Hp) : Prop := ∃ (r a ta : Addr) (ns : List Int) (z : Str) (zs : List Str) (q : Fin 11 → Option V), σ = [q 0, some (.ref r), q 1, q 2, q 3, q 4, q 5, q 6, q 7, q 8, some (.str z), some (.ref ta), q 9, q 10, none, none, none, none, none, none, none, none, none] ∧
  Drw K T r a ns H ∧ r ≠ ta ∧ Off K a ta (ns.map V.int) ∧ z.length ≤ 1000 ∧ H ta = some (.lst (zs.map V.str)) ∧ (∀ z ∈ zs, z.length ≤ 10000) ∧ zs.length ≤ 900
theorem law_turns (hr : Room 7 (A.deeper (envOfC "law" (defScope sLaw) s.heap.objs.size f code))) (L : LawEnv P w K mg base T) :
    ∃ t, PSs (XL P w K mg base f code A outer s H0 E) ((defBody sLaw).drop 17) t ∧ ∀ (D : Ends) σ H, (∀ H', D.rt (.bl true) H') → MidT K T σ H → t D σ H := by
  obtain ⟨tE, hE, rE⟩ := law_end (f := f) (code := code) (A := A) (outer := outer) (s := s) (H0 := H0) (E := E) hr L
  obtain ⟨gT, gdT, TK⟩ := L.taken
  obtain ⟨gP, gdP, PK⟩ := L.pick
  have B := L.blt
  refine ⟨_, pss_cons (ps_mid (ps_for PassesOwn.never rfl (pi_range1 (by rfl) B.range (pa_cons pe_int pa_nil)) (pg_name (i := 14) scLaw.nd rfl (.inl rfl))
      (pss_cons (ps_mid (ps_par (i := 15) (j := 16) rfl scLaw.nd rfl rfl (by decide) rfl rfl
          (pa_cons (pe_call TK.ok (hr.mono (by decide)) rfl TK.mg_ TK.kp TK.bd .nil pass0 (pa_cons (pv 1) (pa_cons (pe_op op_add (pe_callB call_len_str rfl B.len PySem.boot_len (pa_cons (pv 10) pa_nil)) pe_int) pa_nil)))
          (pa_cons (pe_call PK.ok (hr.mono (by decide)) rfl PK.mg_ PK.kp PK.bd .nil pass0 (pa_cons (pv 1) (pa_cons (pe_callTy (call_listS rfl) (by rfl) B.list (by decide +kernel) (pa_cons pe_str pa_nil)) pa_nil))) pa_nil)) (by rfl)))
      (pss_one (ps_expr (pe_bm PySem.F.plainAttrs_list PySem.F.slot_list_append PySem.F.type_list_append mt_append (pv 11) (pa_cons (pe_call PK.ok (hr.mono (by decide)) rfl PK.mg_ PK.kp PK.bd .nil pass0 (pa_cons (pv 1) (pa_cons (pe_mid (pe_lst
          (pa_cons (pv 10)
          (pa_cons (pe_op op_add_str (pe_op op_add_str (pe_slice sl_str (pv 10) po_none (po_some (pv 15))) (pv 16)) (pe_slice sl_str (pv 10) (po_some (pv 15)) po_none))
          (pa_cons (pe_op op_add_str (pe_op op_add_str (pe_slice sl_str (pv 10) po_none (po_some (pv 15))) (pv 16)) (pe_slice sl_str (pv 10) (po_some (pe_op op_add (pv 15) pe_int)) po_none))
          (pa_cons (pe_op op_add_str (pe_slice sl_str (pv 10) po_none (po_some (pv 15))) (pe_slice sl_str (pv 10) (po_some (pe_op op_add (pv 15) pe_int)) po_none)) pa_nil)))))) pa_nil))) pa_nil)))))))
    hE, fun D σ H hD hM => ?_⟩
  obtain ⟨r, a, ta, ns, z, zs, q, rfl, dr, hrt, off, hzl, hta, hz, hn⟩ := hM
  refine ⟨MidE, ?_, fun σ' H' hm => rE D σ' H' hD hm⟩
  refine ⟨5, rfl, by decide, by decide, for_it (walk_range (lo := 0) (n := (5 : Int).toNat)) (fun i σ H' => ∃ zs' x14 x15 x16, σ = [q 0, some (.ref r), q 1, q 2, q 3, q 4, q 5, q 6, q 7, q 8, some (.str z), some (.ref ta), q 9, q 10, x14, x15, x16, none, none, none, none, none, none] ∧ Drw K T r a ns H' ∧ H' ta = some (.lst (zs'.map V.str)) ∧ (∀ z ∈ zs', z.length ≤ 10000) ∧ zs'.length ≤ 900 + i)
    ⟨zs, _, _, _, rfl, dr, hta, hz, hn⟩ (fun _ _ _ _ _ => trivial) ?_ ?_⟩
  · rintro i v σ H1' H1 hi ⟨zs', x14, x15, x16, rfl, d1, e1, z1, n1⟩ ⟨rfl, rfl⟩
    have hi5 : i < 5 := hi
    refine ⟨fun σ' H' => ∃ (x : Int) (c : Str), σ' = [q 0, some (.ref r), q 1, q 2, q 3, q 4, q 5, q 6, q 7, q 8, some (.str z), some (.ref ta), q 9, q 10, some (.int (0 + (i : Int))), some (.int x), some (.str c), none, none, none, none, none, none] ∧ Drw K T r a ns H' ∧ H' ta = some (.lst (zs'.map V.str)) ∧ c.length ≤ 1, ?_, ?_⟩
    · refine ⟨_, rfl, _, rfl, z, rfl, small_line (by omega), _, _, rfl, rfl, r, a, ns, (z.length : Int) + 1, rfl, by omega, by omega, d1.row, d1.scr, d1.ne, d1.tab, fun x H2 x0 x1 g2 R2 t2 => ?_⟩
      have d2 := d1.drawn g2 R2 t2
      have e2 : H2 ta = some (.lst (zs'.map V.str)) := g2.lst e1 (by simpa using hrt.symm)
      refine ⟨_, rfl, _, rfl, small_line (by decide), fun l hl => ?_⟩
      have gl : ∀ o, Gw [] H2 (upd H2 l o) := fun o => .new hl
      refine ⟨r, a, l, ns, _, rfl, SqL.of upd_same, d2.row.ne hl, by decide, by decide, (d2.gw (gl _)).row, (d2.gw (gl _)).scr, d2.ne, (d2.gw (gl _)).tab, fun c H3 hc g3 R3 t3 => ?_⟩
      obtain ⟨k, _, rfl⟩ := List.mem_map.mp hc
      exact ⟨_, _, rfl, x, _, rfl, (d2.gw (gl _)).drawn g3 R3 t3, g3.lst ((gl _).ext.lst e2 List.not_mem_nil) (by simpa using hrt.symm), Nat.le_of_eq (one_len k)⟩
    rintro σ H2 ⟨x, c, rfl, d2, e2, hc⟩
    have cl : ∀ lo hi, (cutS z lo hi).length ≤ 1000 := fun lo hi => Nat.le_trans (cutS_len z lo hi) hzl
    have fz : z.length ≤ sizeLine := small_line (by omega)
    refine ⟨_, rfl, .inl ⟨rfl, _, SqL.of e2⟩, _, rfl, fun v H' => ∃ l xs, v = .ref l ∧ Gw [] H2 H' ∧ H2 l = none ∧ H' l = some (.lst xs) ∧ xs.length = 4 ∧ ∀ x ∈ xs, Txt 3000 x, ?_, ?_⟩
    · refine ⟨_, rfl, ?_⟩
      refine ⟨_, rfl, _, rfl, _, rfl, z, rfl, fz, _, rfl, _, _, rfl, rfl, small_line (by have := cl none (some x); omega), _, rfl, _, rfl, _, rfl, z, rfl, fz, _, _, rfl, rfl, small_line (by have := cl none (some x); have := cl (some x) none; rw [add_len]; omega), ?_⟩
      refine ⟨_, rfl, _, rfl, _, rfl, z, rfl, fz, _, rfl, _, _, rfl, rfl, small_line (by have := cl none (some x); omega), _, rfl, _, rfl, _, _, rfl, rfl, _, rfl, z, rfl, fz, _, _, rfl, rfl, small_line (by have := cl none (some x); have := cl (some (x + 1)) none; rw [add_len]; omega), ?_⟩
      refine ⟨_, rfl, _, rfl, _, rfl, z, rfl, fz, _, rfl, _, rfl, _, _, rfl, rfl, _, rfl, z, rfl, fz, _, _, rfl, rfl, small_line (by have := cl none (some x); have := cl (some (x + 1)) none; omega), ?_⟩
      refine ⟨(by show 4 ≤ sizeLine; decide), fun l hl => ⟨l, _, rfl, .new hl, hl, upd_same, rfl, fun y hy => ?_⟩⟩
      have c1 := cl none (some x)
      have c2 := cl (some x) none
      have c3 := cl (some (x + 1)) none
      rcases List.mem_cons.mp hy with rfl | hy
      · exact ⟨_, rfl, by omega⟩
      rcases List.mem_cons.mp hy with rfl | hy
      · exact ⟨_, rfl, by rw [add_len, add_len]; omega⟩
      rcases List.mem_cons.mp hy with rfl | hy
      · exact ⟨_, rfl, by rw [add_len, add_len]; omega⟩
      rcases List.mem_cons.mp hy with rfl | hy
      · exact ⟨_, rfl, by rw [add_len]; omega⟩
      cases hy
    rintro v H3 ⟨l, xs, rfl, g3, hl, el, xl, hx⟩
    have d3 := d2.gw g3
    refine ⟨r, a, l, ns, xs, rfl, SqL.of el, d2.row.ne hl, by omega, by omega, d3.row, d3.scr, d3.ne, d3.tab, fun y H4 hy g4 R4 t4 => ?_⟩
    obtain ⟨u, rfl, hu⟩ := hx y hy
    have d4 := d3.drawn g4 R4 t4
    have e4 : H4 ta = some (.lst (zs'.map V.str)) := g4.lst (g3.ext.lst e2 List.not_mem_nil) (by simpa using hrt.symm)
    refine ⟨ta, _, _, rfl, rfl, e4, ?_, ?_⟩
    · rw [List.length_map]
      exact lt_line (by omega)
    have gw : Gw [ta] H4 (upd H4 ta (.lst (zs'.map V.str ++ [.str u]))) := .set e4 rfl List.mem_cons_self
    refine ⟨zs' ++ [u], _, _, _, rfl, d4.wrote hrt off gw, by rw [upd_same, List.map_append]; rfl, fun w' hw => ?_, by rw [List.length_append]; show zs'.length + 1 ≤ _; omega⟩
    rcases List.mem_append.mp hw with h | h
    · exact z1 w' h
    · rw [List.mem_singleton.mp h]; omega
  · rintro σ H1 ⟨zs', x14, x15, x16, rfl, d1, e1, z1, n1⟩
    have n1' : zs'.length ≤ 1000 := Nat.le_trans n1 (by decide)
    exact ⟨ta, zs', fun j => [q 0, some (.ref r), q 1, q 2, q 3, q 4, q 5, q 6, q 7, q 8, some (.str z), q 9, q 10, x14, x15, x16, none][j], rfl, e1, z1, n1'⟩
end
end SB
/-! KLawS -/
set_option Elab.async false
set_option linter.all false
set_option maxRecDepth 100000
set_option maxHeartbeats 4000000
/-! The law's own body: the written texts, the pairs, the wide rules. -/
namespace SB
open PySem PySem.Spec PyProof.Rows L2
def okT (n : Nat) : V → Bool
  | .str z => decide (z.length ≤ n)
  | _ => false
theorem strs_of {n : Nat} : ∀ {vs : List V}, vs.all (okT n) = true → ∃ zs : List Str, vs = zs.map V.str ∧ (∀ z ∈ zs, z.length ≤ n) ∧ zs.length = vs.length
  | [], _ => ⟨[], rfl, (fun z hz => by cases hz), rfl⟩
  | v :: vs, h => by
    rw [List.all_cons, Bool.and_eq_true] at h
    obtain ⟨zs, rfl, h1, h2⟩ := strs_of h.2
    have hv := h.1
    cases v with
    | str z =>
      refine ⟨z :: zs, rfl, fun y hy => ?_, by rw [List.length_cons, List.length_cons, h2]⟩
      rcases List.mem_cons.mp hy with e | e
      · rw [e]; exact of_decide_eq_true hv
      · exact h1 y e
    | _ => cases hv
/-- a pair of letters -/
def Pr (K : PySem.W.Frag) (H : Hp) (v : V) : Prop := ∃ (p : Addr) (x y : Int), v = .ref p ∧ SqT K H p [.int x, .int y] ∧ (0 ≤ x ∧ x ≤ 9) ∧ 0 ≤ y ∧ y ≤ 9
theorem Pr.gw {K : PySem.W.Frag} {H H' : Hp} {v : V} {M : List Addr} (h : Pr K H v) (e : Ext M H H') : Pr K H' v := by
  obtain ⟨p, x, y, rfl, h1, h2⟩ := h
  exact ⟨p, x, y, rfl, e.sqT h1, h2⟩
def tPr (K : PySem.W.Frag) (n : Nat) : TA := fun σ H Q => ∀ vs H', Gw [] H H' → vs.length = n → (∀ v ∈ vs, Pr K H' v) → Q vs H'
theorem pa_pr0 {X : Cx} {K : PySem.W.Frag} : PA X [] (tPr K 0) := ⟨fun pos pins s σ H Q I q => pa_nil.run pos pins s σ H Q I (q [] H .refl rfl fun v hv => nomatch hv)⟩
theorem pa_pr {X : Cx} {K : PySem.W.Frag} {es : List Expr} {n : Nat} {x y : Int} {i j : Nat} {p1 p2 p3 : Pos} {c} (hb : (0 ≤ x ∧ x ≤ 9) ∧ 0 ≤ y ∧ y ≤ 9) (h : PA X es (tPr K n)) : PA X (.Tuple [.Constant (.int x) i p1, .Constant (.int y) j p2] c p3 :: es) (tPr K (n + 1)) := by
  refine ⟨fun pos pins s σ H Q I q => (pa_cons (pe_tup (pa_cons pe_int (pa_cons pe_int pa_nil))) h).run pos pins s σ H Q I ⟨(by show 2 ≤ sizeLine; decide), fun p hp => fun vs H' g hl hv => ?_⟩⟩
  have g1 : Gw [] H (upd H p (.tup [.int x, .int y])) := .new hp
  refine q _ _ (g1.trans g) (by rw [List.length_cons, hl]) fun v hm => ?_
  rcases List.mem_cons.mp hm with e | e
  · rw [e]; exact ⟨p, x, y, rfl, g.ext.sqT (SqT.of upd_same), hb⟩
  · exact hv v e
theorem join5 {ws : List Str} (h : ∀ w ∈ ws, w.length ≤ 5) : (ws.map (·.length)).sum ≤ 5 * ws.length := by
  induction ws with
  | nil => exact Nat.le_refl _
  | cons w ws ih =>
    have h1 := h w List.mem_cons_self
    have h2 := ih fun u hu => h u (List.mem_cons_of_mem _ hu)
    rw [List.map_cons, List.sum_cons, List.length_cons]
    omega
/-- the list of texts at ta -/
structure Tx (K : PySem.W.Frag) (T : List Addr) (r a ta : Addr) (ns : List Int) (n : Nat) (H : Hp) : Prop where
  dr : Drw K T r a ns H
  ne : r ≠ ta
  off : Off K a ta (ns.map V.int)
  at_ : ∃ zs : List Str, H ta = some (.lst (zs.map V.str)) ∧ (∀ z ∈ zs, z.length ≤ 1000) ∧ zs.length ≤ n
theorem Tx.gw {K : PySem.W.Frag} {T : List Addr} {r a ta : Addr} {ns : List Int} {n : Nat} {H H' : Hp} (t : Tx K T r a ta ns n H) (g : Gw [] H H') : Tx K T r a ta ns n H' := by
  obtain ⟨zs, h1, h2⟩ := t.at_
  exact ⟨t.dr.gw g, t.ne, t.off, zs, g.ext.lst h1 List.not_mem_nil, h2⟩
/-- texts + [..] -/
theorem Tx.plus {K : PySem.W.Frag} {T : List Addr} {r a p : Addr} {ns : List Int} {n m : Nat} {H : Hp} {zs : List Str} {vs : List V} (d : Drw K T r a ns H) (hz : ∀ z ∈ zs, z.length ≤ 1000) (hn : zs.length ≤ n) (hv : ∃ ys : List Str, vs = ys.map V.str ∧ (∀ z ∈ ys, z.length ≤ 1000) ∧ ys.length = m) (hp : H p = none) :
    Tx K T r a p ns (n + m) (upd H p (.lst (zs.map V.str ++ vs))) := by
  obtain ⟨ys, rfl, h1, h2⟩ := hv
  have g : Gw [] H (upd H p (.lst (zs.map V.str ++ ys.map V.str))) := .new hp
  refine ⟨d.gw g, (d.row.ne hp).symm, off_new d.scr hp, zs ++ ys, by rw [upd_same, List.map_append], fun z hz' => ?_, by rw [List.length_append]; omega⟩
  rcases List.mem_append.mp hz' with h | h
  · exact hz z h
  · exact h1 z h
section
variable {P : Program} {w : World} {K : PySem.W.Frag} {mg : Str → Option Value} {base : Heap} {T : List Addr} {f : Addr} {code : Value} {A : Around} {outer : List Env} {s : Shared} {H0 : Hp} {E : XK}
/-- ahead of texts = [..] -/
def MidS (K : PySem.W.Frag) (T : List Addr) (σ : L2.St) (H : Hp) : Prop := ∃ (r a : Addr) (ns : List Int) (z : Str) (q : Fin 9 → Option V), σ = [q 0, some (.ref r), q 1, q 2, q 3, q 4, q 5, q 6, q 7, q 8, some (.str z), none, none, none, none, none, none, none, none, none, none, none, none] ∧
  Drw K T r a ns H ∧ z.length ≤ 1000
/-- "4: " + " ".join(wide + [..]) -/
def tWj (j : Nat) : TE := fun σ H Q => ∃ (wa : Addr) (ws : List Str), tVar j σ H (fun v H' => v = .ref wa ∧ H' = H) ∧ H wa = some (.lst (ws.map V.str)) ∧ (∀ w ∈ ws, w.length ≤ 5) ∧ ws.length ≤ 11 ∧ ∀ v H', Gw [] H H' → Txt 500 v → Q v H'
theorem pe_wj {X : Cx} {e : Expr} {j : Nat} {cs : List Str} {c4 sp : Str} {t : TA} (ht : ∀ σ H (Q : List V → Hp → Prop), Q (cs.map V.str) H → t σ H Q) (hb : (∀ w ∈ cs, w.length ≤ 5) ∧ cs.length ≤ 2 ∧ c4.length ≤ 5 ∧ sp.length ≤ 1)
    (h : PE X e (tOp (fun x y H Q => ∃ i j, x = .str i ∧ y = .str j ∧ i.length + j.length ≤ sizeLine ∧ Q (.str (i ++ j)) H) (tC (.str c4)) (tM1 (fun x xs H Q => ∃ a p, ∃ ys : List Str, x = .str a ∧ xs = [.ref p] ∧ (SqL X.K H p (ys.map V.str) ∨ SqT X.K H p (ys.map V.str)) ∧
      (ys.map (·.length)).sum + ys.length * a.length ≤ 16777216 ∧ Q (.str (PySem.Txt.join a ys)) H) (tC (.str sp)) (tOp rCat (tVar j) (tLst t))))) : PE X e (tWj j) := by
  refine ⟨fun pins s σ H Q I q => ?_⟩
  obtain ⟨wa, ws, ⟨v, e1, rfl, _⟩, e2, h1, h2, q⟩ := q
  refine h.run pins s σ H Q I ⟨⟨_, rfl⟩, _, e1, ht _ _ _ ⟨?_, fun l hl => ⟨wa, l, ws.map V.str, cs.map V.str, rfl, rfl, ?_, upd_same, ?_, fun p hp => ⟨sp, p, ws ++ cs, rfl, rfl, .inl (SqL.of ?_), ?_, _, _, rfl, rfl, ?_, ?_⟩⟩⟩⟩
  · rw [List.length_map]; exact small_line (by omega)
  · rw [upd_ne (ne_of_none e2 hl)]; exact e2
  · rw [List.length_map, List.length_map]; exact small_line (by omega)
  · rw [upd_same, List.map_append]
  all_goals
    have q1 := join5 (ws := ws ++ cs) (fun u hu => by
      rcases List.mem_append.mp hu with z | z
      · exact h1 u z
      · exact hb.1 u z)
    have q2 := join_len sp (ws ++ cs)
    have q3 : (ws ++ cs).length ≤ 13 := by rw [List.length_append]; omega
    have q4 : (ws ++ cs).length * sp.length ≤ 13 := Nat.le_trans (Nat.mul_le_mul q3 hb.2.2.2) (by decide)
  · omega
  · exact small_line (by omega)
  · exact q _ _ ((Gw.new hl).trans (.new hp)) ⟨_, rfl, by rw [add_len]; omega⟩
theorem law_texts (hr : Room 7 (A.deeper (envOfC "law" (defScope sLaw) s.heap.objs.size f code))) (L : LawEnv P w K mg base T) :
    ∃ t, PSs (XL P w K mg base f code A outer s H0 E) ((defBody sLaw).drop 11) t ∧ ∀ (D : Ends) σ H, (∀ H', D.rt (.bl true) H') → MidS K T σ H → t D σ H := by
  obtain ⟨tT, hT, rT⟩ := law_turns (f := f) (code := code) (A := A) (outer := outer) (s := s) (H0 := H0) (E := E) hr L
  have B := L.blt
  refine ⟨_, pss_cons (ps_mid (ps_set (i := 11) scLaw.nd rfl (Or.inl rfl) (pe_lst (pa_cons pe_str (pa_cons pe_str (pa_cons pe_str (pa_cons pe_str (pa_cons pe_str (pa_cons pe_str (pa_cons pe_str (pa_cons pe_str (pa_cons pe_str (pa_cons pe_str (pa_cons pe_str (pa_cons pe_str pa_nil)))))))))))))))
    (pss_cons (ps_mid (ps_set (i := 11) scLaw.nd rfl (Or.inl rfl) (pe_op op_cat (pv 11) (pe_lst (pa_cons pe_str (pa_cons pe_str (pa_cons pe_str (pa_cons pe_str pa_nil))))))))
    (pss_cons (ps_mid (ps_set (i := 12) scLaw.nd rfl (Or.inl rfl) (pe_lst (pa_pr (K := K) (by decide) (pa_pr (by decide) (pa_pr (by decide) (pa_pr (by decide) (pa_pr (by decide) (pa_pr (by decide) (pa_pr (by decide) (pa_pr (by decide) (pa_pr (by decide) (pa_pr (by decide) (pa_pr (by decide) pa_pr0))))))))))))))
    (pss_cons (ps_mid (ps_setLc (i := 13) (own := [("a", 21), ("b", 22)]) (g := gTup K 2 (gCons (gName 21) (gCons (gName 22) gNil))) (tt := tYes) rfl scLaw.nd rfl rfl (sw_true rfl rfl rfl (by decide +kernel)) (pi_list (pv 12)) (blkOk_by (own := [("a", 21), ("b", 22)]) (N := NL) (sc := defScope sLaw) (by decide +kernel))
        (fun _ _ _ _ _ => pg_tup (by rfl) (pgs_cons (pg_name (i := 21) scLaw.nd rfl (Or.inl rfl)) (pgs_cons (pg_name (i := 22) scLaw.nd rfl (Or.inl rfl)) pgs_nil))) (fun _ _ _ _ _ => pts_nil)
        (fun _ _ _ _ _ => pe_op op_add_str (pe_op op_add_str (pe_op op_add_str (pe_op op_add_str (pe_callTy call_str_int (by rfl) B.str (by decide +kernel) (pa_cons (pv 21) pa_nil)) (pe_callTy call_str_int (by rfl) B.str (by decide +kernel) (pa_cons (pv 22) pa_nil))) pe_str) (pe_callTy call_str_int (by rfl) B.str (by decide +kernel) (pa_cons (pv 22) pa_nil))) (pe_callTy call_str_int (by rfl) B.str (by decide +kernel) (pa_cons (pv 21) pa_nil)))))
    (pss_cons (ps_mid (ps_set (i := 11) scLaw.nd rfl (Or.inl rfl) (pe_op op_cat (pv 11) (pe_lst (pa_cons (pe_wj (j := 13) (cs := ["32>23"]) (fun _ _ _ q => q) (by decide +kernel) (pe_op op_add_str pe_str (pe_join pe_str (pe_op op_cat (pv 13) (pe_lst (pa_cons pe_str pa_nil))))))
        (pa_cons (pe_wj (j := 13) (cs := ["32>23", "33>00"]) (fun _ _ _ q => q) (by decide +kernel) (pe_op op_add_str pe_str (pe_join pe_str (pe_op op_cat (pv 13) (pe_lst (pa_cons pe_str (pa_cons pe_str pa_nil))))))) pa_nil))))))
    (pss_cons (ps_mid (ps_set (i := 11) scLaw.nd rfl (Or.inl rfl) (pe_op op_cat (pv 11) (pe_lst (pa_cons (pe_wj (j := 13) (cs := ["32>23", "33>33"]) (fun _ _ _ q => q) (by decide +kernel) (pe_op op_add_str pe_str (pe_join pe_str (pe_op op_cat (pv 13) (pe_lst (pa_cons pe_str (pa_cons pe_str pa_nil))))))) pa_nil)))))
    hT))))), fun D σ H hD hM => ?_⟩
  obtain ⟨r, a, ns, z, q, rfl, dr, hzl⟩ := hM
  refine ⟨fun σ' H' => ∃ ta, σ' = [q 0, some (.ref r), q 1, q 2, q 3, q 4, q 5, q 6, q 7, q 8, some (.str z), some (.ref ta), none, none, none, none, none, none, none, none, none, none, none] ∧ Tx K T r a ta ns 12 H', ?_, ?_⟩
  · refine ⟨(by show 12 ≤ sizeLine; decide), fun p hp => ⟨p, rfl, ?_⟩⟩
    exact Tx.plus (zs := []) (n := 0) (m := 12) dr (fun z hz => by cases hz) (Nat.le_refl _) (strs_of (by decide +kernel)) hp
  rintro σ H1 ⟨ta, rfl, x1⟩
  refine ⟨fun σ' H' => ∃ ta, σ' = [q 0, some (.ref r), q 1, q 2, q 3, q 4, q 5, q 6, q 7, q 8, some (.str z), some (.ref ta), none, none, none, none, none, none, none, none, none, none, none] ∧ Tx K T r a ta ns 16 H', ?_, ?_⟩
  · obtain ⟨zs, e1, b1, n1⟩ := x1.at_
    refine ⟨_, rfl, (by show 4 ≤ sizeLine; decide), fun l hl => ⟨ta, l, zs.map V.str, _, rfl, rfl, by rw [upd_ne (ne_of_none e1 hl)]; exact e1, upd_same, ?_, fun p hp => ⟨p, rfl, ?_⟩⟩⟩
    · rw [List.length_map]
      exact small_line (show zs.length + 4 ≤ 10000 by omega)
    · exact Tx.plus (n := 12) (m := 4) (x1.dr.gw (.new hl)) b1 n1 (strs_of (by decide +kernel)) hp
  rintro σ H2 ⟨ta, rfl, x2⟩
  refine ⟨fun σ' H' => ∃ la vs, σ' = [q 0, some (.ref r), q 1, q 2, q 3, q 4, q 5, q 6, q 7, q 8, some (.str z), some (.ref ta), some (.ref la), none, none, none, none, none, none, none, none, none, none] ∧ Tx K T r a ta ns 16 H' ∧ H' la = some (.lst vs) ∧ vs.length = 11 ∧ ∀ v ∈ vs, Pr K H' v, ?_, ?_⟩
  · intro vs H' g hl hv
    refine ⟨by rw [hl]; decide, fun p hp => ⟨p, vs, rfl, (x2.gw g).gw (.new hp), upd_same, hl, fun v h => (hv v h).gw (Gw.new (M := []) hp).ext⟩⟩
  rintro σ H3 ⟨la, vs, rfl, x3, el, vl, hv⟩
  refine ⟨fun σ' H' => ∃ (wa : Addr) (ws : List Str), σ' = [q 0, some (.ref r), q 1, q 2, q 3, q 4, q 5, q 6, q 7, q 8, some (.str z), some (.ref ta), some (.ref la), some (.ref wa), none, none, none, none, none, none, none, none, none] ∧ Tx K T r a ta ns 16 H' ∧ H' wa = some (.lst (ws.map V.str)) ∧ ws.length ≤ 11 ∧ ∀ w ∈ ws, w.length ≤ 5, ?_, ?_⟩
  · refine ⟨_, rfl, la, rfl, ⟨_, SqL.of el⟩, fun D' hD' => lc_list (K := K) (a := la) (xs := vs) (fun i H' => ∃ ws : List Str, H' D' = some (.lst (ws.map V.str)) ∧ ws.length = i ∧ (∀ w ∈ ws, w.length ≤ 5) ∧ Gw [D'] H3 H')
      ⟨[], upd_same, rfl, (fun w hw => by cases hw), .new hD'⟩ (fun i H' _ ⟨_, _, _, _, g⟩ => SqL.of (g.ext.lst el (by simpa using ne_of_none el hD'))) ?_ ?_⟩
    · rintro i y H' hi ⟨ws, e, wl, wb, g⟩
      obtain ⟨p, x, y, rfl, hp, hx, hy⟩ := hv y (List.mem_of_getElem? hi)
      have hil : i < vs.length := (List.getElem?_eq_some_iff.mp hi).1
      have lx : (toString x : Str).length = 1 := sgn_one hx.1 hx.2
      have ly : (toString y : Str).length = 1 := sgn_one hy.1 hy.2
      refine ⟨p, _, rfl, g.ext.sqT hp, rfl, _, _, rfl, _, _, rfl, rfl, rfl, yes_of ?_⟩
      refine iteT ?_
      refine ⟨_, rfl, x, rfl, log2_small hx.1 hx.2, _, rfl, y, rfl, log2_small hy.1 hy.2, _, _, rfl, rfl, small_line (by omega), _, _, rfl, rfl, ?_, _, rfl, y, rfl, log2_small hy.1 hy.2, _, _, rfl, rfl, ?_, _, rfl, x, rfl, log2_small hx.1 hx.2, _, _, rfl, rfl, ?_, ?_⟩
      · rw [add_len, s_gt_len]; exact small_line (by omega)
      · rw [add_len, add_len, s_gt_len]; exact small_line (by omega)
      · rw [add_len, add_len, add_len, s_gt_len]; exact small_line (by omega)
      refine ⟨_, e, by rw [List.length_map]; exact lt_line (by omega), ws ++ [_], by rw [upd_same, List.map_append]; rfl, by rw [List.length_append, wl]; rfl, fun w' hw => ?_, g.trans (.set e rfl List.mem_cons_self)⟩
      rcases List.mem_append.mp hw with h | h
      · exact wb w' h
      · rw [List.mem_singleton.mp h, add_len, add_len, add_len, add_len, s_gt_len]; omega
    · rintro H' ⟨ws, e, wl, wb, g⟩
      exact ⟨D', ws, rfl, x3.gw (g.drop hD'), e, by omega, wb⟩
  rintro σ H4 ⟨wa, ws, rfl, x4, ew, wl, wb⟩
  refine ⟨fun σ' H' => ∃ ta, σ' = [q 0, some (.ref r), q 1, q 2, q 3, q 4, q 5, q 6, q 7, q 8, some (.str z), some (.ref ta), some (.ref la), some (.ref wa), none, none, none, none, none, none, none, none, none] ∧ Tx K T r a ta ns 18 H' ∧ H' wa = some (.lst (ws.map V.str)), ?_, ?_⟩
  · obtain ⟨zs, e1, b1, n1⟩ := x4.at_
    refine ⟨_, rfl, wa, ws, ⟨_, rfl, rfl, rfl⟩, ew, wb, wl, fun v1 H5 g5 hv1 => ⟨wa, ws, ⟨_, rfl, rfl, rfl⟩, g5.ext.lst ew List.not_mem_nil, wb, wl, fun v2 H6 g6 hv2 => ⟨(by show 2 ≤ sizeLine; decide), fun l hl => ?_⟩⟩⟩
    have g56 := g5.trans g6
    have e6 := g56.ext.lst e1 List.not_mem_nil
    have ew6 := g56.ext.lst ew List.not_mem_nil
    obtain ⟨y1, rfl, l1⟩ := hv1
    obtain ⟨y2, rfl, l2⟩ := hv2
    refine ⟨ta, l, zs.map V.str, _, rfl, rfl, by rw [upd_ne (ne_of_none e6 hl)]; exact e6, upd_same, ?_, fun p hp => ⟨p, rfl, ?_, ?_⟩⟩
    · rw [List.length_map]
      exact small_line (show zs.length + 2 ≤ 10000 by omega)
    · refine Tx.plus (n := 16) (m := 2) ((x4.gw g56).dr.gw (.new hl)) b1 n1 ⟨[y1, y2], rfl, fun z hz => ?_, rfl⟩ hp
      rcases List.mem_cons.mp hz with rfl | hz
      · omega
      · rw [List.mem_singleton.mp hz]; omega
    · exact ((Gw.new (M := []) hl).trans (.new hp)).ext.lst ew6 List.not_mem_nil
  rintro σ H5 ⟨ta, rfl, x5, ew5⟩
  refine ⟨MidT K T, ?_, fun σ' H' hm => rT D σ' H' hD hm⟩
  obtain ⟨zs, e1, b1, n1⟩ := x5.at_
  refine ⟨_, rfl, wa, ws, ⟨_, rfl, rfl, rfl⟩, ew5, wb, wl, fun v1 H6 g6 hv1 => ⟨(by show 1 ≤ sizeLine; decide), fun l hl => ?_⟩⟩
  have e6 := g6.ext.lst e1 List.not_mem_nil
  obtain ⟨y1, rfl, l1⟩ := hv1
  refine ⟨ta, l, zs.map V.str, _, rfl, rfl, by rw [upd_ne (ne_of_none e6 hl)]; exact e6, upd_same, ?_, fun p hp => ?_⟩
  · rw [List.length_map]
    exact small_line (show zs.length + 1 ≤ 10000 by omega)
  have X6 : Tx K T r a p ns (18 + 1) _ := Tx.plus (n := 18) (m := 1) ((x5.gw g6).dr.gw (.new hl)) b1 n1 ⟨[y1], rfl, (fun z hz => by rw [List.mem_singleton.mp hz]; omega), rfl⟩ hp
  obtain ⟨zs', e', b', n'⟩ := X6.at_
  exact ⟨r, a, p, ns, z, zs', fun j => [q 0, q 1, q 2, q 3, q 4, q 5, q 6, q 7, q 8, some (.ref la), some (.ref wa)][j], rfl, X6.dr, X6.ne, X6.off, hzl, e', fun z hz => Nat.le_trans (b' z hz) (by decide), by omega⟩
end
end SB
/-! KLawG -/
set_option Elab.async false
set_option linter.all false
set_option maxRecDepth 100000
set_option maxHeartbeats 4000000
/-! The law's own body: the gap, the text. -/
namespace SB
open PySem PySem.Spec PyProof.Rows L2
theorem txt_of {n : Nat} {vs : List V} (h : vs.all (okT n) = true) : ∀ v ∈ vs, Txt n v := by
  obtain ⟨zs, rfl, h1, _⟩ := strs_of h
  intro v hv
  obtain ⟨z, hz, rfl⟩ := List.mem_map.mp hv
  exact ⟨z, rfl, h1 z hz⟩
theorem pick_lits {K : PySem.W.Frag} {T : List Addr} {r a : Addr} {ns : List Int} {vs : List V} {H : Hp} {Q : VK} {E : XK} (d : Drw K T r a ns H) (h : vs.all (okT 2) = true) (h1 : 1 ≤ vs.length) (h2 : vs.length ≤ 1000)
    (q : ∀ v H', Txt 2 v → Drw K T r a ns H' → Ext [r] H H' → Q v H') {l : Addr} (hl : H l = none) : spPick K T [.ref r, .ref l] (upd H l (.lst vs)) Q E := by
  have g : Gw [] H (upd H l (.lst vs)) := .new hl
  have d1 := d.gw g
  exact ⟨r, a, l, ns, vs, rfl, SqL.of upd_same, d.row.ne hl, h1, h2, d1.row, d1.scr, d1.ne, d1.tab, fun x H' hx e R t => q x H' (txt_of h x hx) (d1.drawn e R t) (g.ext.more.trans e)⟩
section
variable {P : Program} {w : World} {K : PySem.W.Frag} {mg : Str → Option Value} {base : Heap} {T : List Addr} {f : Addr} {code : Value} {A : Around} {outer : List Env} {s : Shared} {H0 : Hp} {E : XK}
/-- ahead of gap = .. -/
def MidG (K : PySem.W.Frag) (T : List Addr) (σ : L2.St) (H : Hp) : Prop := ∃ (r a ra : Addr) (ns : List Int) (bv : V) (b : Book) (rs : List Str) (q : Fin 6 → Option V), σ = [q 0, some (.ref r), some bv, q 1, q 2, q 3, some (.ref ra), q 4, q 5, none, none, none, none, none, none, none, none, none, none, none, none, none, none] ∧
  Drw K T r a ns H ∧ ra ≠ r ∧ Dp K H bv (dBook b) ∧ (0 ≤ b.1 ∧ b.1 ≤ 9) ∧ H ra = some (.lst (rs.map V.str)) ∧ (∀ x ∈ rs, x.length ≤ 10) ∧ rs.length ≤ 12
theorem join_bound {g : Str} {rs : List Str} (hg : g.length ≤ 2) (h : ∀ x ∈ rs, x.length ≤ 10) (hn : rs.length ≤ 12) : (rs.map (·.length)).sum + rs.length * g.length ≤ 144 := by
  have h1 : (rs.map (·.length)).sum ≤ 10 * rs.length := by
    clear hn
    induction rs with
    | nil => exact Nat.le_refl _
    | cons w ws ih =>
      have h1 := h w List.mem_cons_self
      have h2 := ih fun u hu => h u (List.mem_cons_of_mem _ hu)
      rw [List.map_cons, List.sum_cons, List.length_cons]
      omega
  have h2 : rs.length * g.length ≤ 12 * 2 := Nat.mul_le_mul hn hg
  omega
theorem law_text (hr : Room 7 (A.deeper (envOfC "law" (defScope sLaw) s.heap.objs.size f code))) (L : LawEnv P w K mg base T) :
    ∃ t, PSs (XL P w K mg base f code A outer s H0 E) ((defBody sLaw).drop 9) t ∧ ∀ (D : Ends) σ H, (∀ H', D.rt (.bl true) H') → MidG K T σ H → t D σ H := by
  obtain ⟨tS, hS, rS⟩ := law_texts (f := f) (code := code) (A := A) (outer := outer) (s := s) (H0 := H0) (E := E) hr L
  obtain ⟨gP, gdP, PK⟩ := L.pick
  have B := L.blt
  refine ⟨_, pss_cons (ps_mid (ps_set (i := 9) scLaw.nd rfl (Or.inl rfl) (pe_call PK.ok (hr.mono (by decide)) rfl PK.mg_ PK.kp PK.bd .nil pass0 (pa_cons (pv 1) (pa_cons (pe_lst (pa_cons pe_str (pa_cons pe_str pa_nil))) pa_nil)))))
    (pss_cons (ps_mid (ps_set (i := 10) scLaw.nd rfl (Or.inl rfl) (pe_op op_add_str (pe_op op_add_str (pe_op op_add_str (pe_op op_add_str (pe_op op_add_str
        (pe_mid (pe_call PK.ok (hr.mono (by decide)) rfl PK.mg_ PK.kp PK.bd .nil pass0 (pa_cons (pv 1) (pa_cons (pe_lst (pa_cons pe_str (pa_cons pe_str pa_nil))) pa_nil))))
        (pe_callTy call_str_int (by rfl) B.str (by decide +kernel) (pa_cons (pe_ix ix_tup (pv 2) pe_int (fun _ _ => rfl)) pa_nil)))
        pe_str)
        (pe_mid (pe_call PK.ok (hr.mono (by decide)) rfl PK.mg_ PK.kp PK.bd .nil pass0 (pa_cons (pv 1) (pa_cons (pe_lst (pa_cons pe_str (pa_cons pe_str (pa_cons pe_str pa_nil)))) pa_nil)))))
        (pe_join (pv 9) (pv 6)))
        (pe_mid (pe_call PK.ok (hr.mono (by decide)) rfl PK.mg_ PK.kp PK.bd .nil pass0 (pa_cons (pv 1) (pa_cons (pe_lst (pa_cons pe_str (pa_cons pe_str pa_nil))) pa_nil)))))))
    hS), fun D σ H hD hM => ?_⟩
  obtain ⟨r, a, ra, ns, bv, b, rs, q, rfl, dr, nr, hv, hb, era, hrs, hrn⟩ := hM
  refine ⟨fun σ' H' => ∃ g : Str, σ' = [q 0, some (.ref r), some bv, q 1, q 2, q 3, some (.ref ra), q 4, q 5, some (.str g), none, none, none, none, none, none, none, none, none, none, none, none, none] ∧ g.length ≤ 2 ∧ Drw K T r a ns H' ∧ Ext [r] H H', ?_, ?_⟩
  · refine ⟨_, rfl, (by show 2 ≤ sizeLine; decide), fun l hl => pick_lits (E := E0) dr (by decide +kernel) (by decide) (by decide) (fun v H' hv' d' e' => ?_) hl⟩
    obtain ⟨z, rfl, hz⟩ := hv'
    exact ⟨z, rfl, hz, d', e'⟩
  rintro σ H1 ⟨g, rfl, hg, d1, e1⟩
  refine ⟨MidS K T, ?_, fun σ' H' hm => rS D σ' H' hD hm⟩
  have nr' : ra ∉ [r] := by simpa using nr
  refine ⟨fun v H' => Txt 2 v ∧ Drw K T r a ns H' ∧ Ext [r] H H', ?_, ?_⟩
  · exact ⟨_, rfl, (by show 2 ≤ sizeLine; decide), fun l hl => pick_lits (E := E0) d1 (by decide +kernel) (by decide) (by decide) (fun v H' hv' d' e' => ⟨hv', d', e1.trans e'⟩) hl⟩
  rintro v2 H2 ⟨⟨p1, rfl, l1⟩, d2, e2⟩
  obtain ⟨ba, y, rfl, hs, hy⟩ := dp_book.mp (Dp.ext e2 (still_book b) hv)
  have lb : (toString b.1 : Str).length = 1 := sgn_one hb.1 hb.2
  have lc : (Str.ofString ":").length = 1 := by decide +kernel
  refine ⟨_, rfl, ba, _, 0, _, rfl, rfl, hs, rfl, b.1, rfl, log2_small hb.1 hb.2, _, _, rfl, rfl, small_line (by omega), _, _, rfl, rfl, small_line (by rw [add_len, lc]; omega), ?_⟩
  refine ⟨fun v H' => Txt 2 v ∧ Drw K T r a ns H' ∧ Ext [r] H H', ?_, ?_⟩
  · exact ⟨_, rfl, (by show 3 ≤ sizeLine; decide), fun l hl => pick_lits (E := E0) d2 (by decide +kernel) (by decide) (by decide) (fun v H' hv' d' e' => ⟨hv', d', e2.trans e'⟩) hl⟩
  rintro v3 H3 ⟨⟨p2, rfl, l2⟩, d3, e3⟩
  have jb := join_bound hg hrs hrn
  have jl := join_len g rs
  refine ⟨_, _, rfl, rfl, small_line (by rw [add_len, add_len, lc]; omega), _, rfl, ⟨_, rfl⟩, _, rfl, g, ra, rs, rfl, rfl, .inl (SqL.of (e3.lst era nr')), by omega, _, _, rfl, rfl, small_line (by rw [add_len, add_len, add_len, lc]; omega), ?_⟩
  refine ⟨fun v H' => Txt 2 v ∧ Drw K T r a ns H' ∧ Ext [r] H H', ?_, ?_⟩
  · exact ⟨_, rfl, (by show 2 ≤ sizeLine; decide), fun l hl => pick_lits (E := E0) d3 (by decide +kernel) (by decide) (by decide) (fun v H' hv' d' e' => ⟨hv', d', e3.trans e'⟩) hl⟩
  rintro v4 H4 ⟨⟨p3, rfl, l3⟩, d4, e4⟩
  refine ⟨_, _, rfl, rfl, small_line (by rw [add_len, add_len, add_len, add_len, lc]; omega), ?_⟩
  exact ⟨r, a, ns, _, fun j => [q 0, some (.ref ba), q 1, q 2, q 3, some (.ref ra), q 4, q 5, some (.str g)][j], rfl, d4, by rw [add_len, add_len, add_len, add_len, add_len, lc]; omega⟩
end
end SB
/-! KLawJ -/
set_option Elab.async false
set_option linter.all false
set_option maxRecDepth 100000
set_option maxHeartbeats 4000000
/-! The law's own body: joined, mirrored. -/
namespace SB
open PySem PySem.Spec PyProof.Rows L2
theorem few_join {b c : Book} (h1 : OkB b) (h2 : OkB c) (n : b.2.length + c.2.length ≤ 12) : Few (joinB b c) := by
  have f1 := okB_few h1
  have f2 := okB_few h2
  refine few_sort (by have := uniq_len (b.2 ++ c.2); rw [List.length_append] at this; omega) fun r hr => ?_
  rcases List.mem_append.mp (mem_uniq.mp hr) with h | h
  · exact f1.2 r h
  · exact f2.2 r h
theorem few_mir {b : Book} (h : OkB b) : Few (mirB b) := by
  have f := okB_few h
  refine few_sort (by rw [List.length_map]; exact f.1) fun r hr => ?_
  obtain ⟨r', hr', rfl⟩ := List.mem_map.mp hr
  have q := f.2 r' hr'
  exact ⟨by rw [List.length_reverse]; exact q.1, by rw [List.length_reverse]; exact q.2⟩
section
variable {P : Program} {w : World} {K : PySem.W.Frag} {mg : Str → Option Value} {base : Heap} {T : List Addr} {f : Addr} {code : Value} {A : Around} {outer : List Env} {s : Shared} {H0 : Hp} {E : XK}
/-- the books and their rules' texts -/
structure Bks (K : PySem.W.Frag) (T : List Addr) (r a ra : Addr) (ns : List Int) (bv uv : V) (b c : Book) (rs : List Str) (H : Hp) : Prop where
  dr : Drw K T r a ns H
  nr : ra ≠ r
  hv : Dp K H bv (dBook b)
  hb : OkB b
  hu : Dp K H uv (dBook c)
  hc : OkB c
  b2 : 2 ≤ b.1
  b4 : b.2.length ≤ 4
  c4 : c.2.length ≤ 4
  era : H ra = some (.lst (rs.map V.str))
  rl : ∀ x ∈ rs, x.length ≤ 10
  rn : rs.length ≤ 12
theorem Bks.ext {r a ra : Addr} {ns : List Int} {bv uv : V} {b c : Book} {rs : List Str} {H H' : Hp} (x : Bks K T r a ra ns bv uv b c rs H) (e : Ext [] H H') (t : Tabs T H') : Bks K T r a ra ns bv uv b c rs H' :=
  ⟨x.dr.ext e t, x.nr, Dp.ext e (still_book b) x.hv, x.hb, Dp.ext e (still_book c) x.hu, x.hc, x.b2, x.b4, x.c4, e.lst x.era List.not_mem_nil, x.rl, x.rn⟩
theorem Bks.gw {r a ra : Addr} {ns : List Int} {bv uv : V} {b c : Book} {rs : List Str} {H H' : Hp} (x : Bks K T r a ra ns bv uv b c rs H) (g : Gw [] H H') : Bks K T r a ra ns bv uv b c rs H' := x.ext g.ext (g.tab T x.dr.tab)
/-- ahead of the looks at joined, mirrored -/
def MidJ (K : PySem.W.Frag) (T : List Addr) (σ : L2.St) (H : Hp) : Prop := ∃ (r a ra : Addr) (ns : List Int) (bv uv : V) (b c : Book) (rs : List Str) (q : Fin 5 → Option V), σ = [q 0, some (.ref r), some bv, some uv, q 1, q 2, some (.ref ra), q 3, q 4, none, none, none, none, none, none, none, none, none, none, none, none, none, none] ∧ Bks K T r a ra ns bv uv b c rs H
theorem MidJ.g {σ : L2.St} {H : Hp} (h : MidJ K T σ H) : MidG K T σ H := by
  obtain ⟨r, a, ra, ns, bv, uv, b, c, rs, q, rfl, x⟩ := h
  have q1 := okB_many x.hb
  exact ⟨r, a, ra, ns, bv, b, rs, fun j => [q 0, some uv, q 1, q 2, q 3, q 4][j], rfl, x.dr, x.nr, x.hv, ⟨by omega, by omega⟩, x.era, x.rl, x.rn⟩
theorem law_joined (hr : Room 7 (A.deeper (envOfC "law" (defScope sLaw) s.heap.objs.size f code))) (L : LawEnv P w K mg base T) :
    ∃ t, PSs (XL P w K mg base f code A outer s H0 E) ((defBody sLaw).drop 8) t ∧ ∀ (D : Ends) σ H, (∀ H', D.rt (.bl true) H') → MidJ K T σ H → t D σ H := by
  obtain ⟨tG, hG, rG⟩ := law_text (f := f) (code := code) (A := A) (outer := outer) (s := s) (H0 := H0) (E := E) hr L
  obtain ⟨gA, gdA, AL⟩ := L.alike
  obtain ⟨gJ, gdJ, JN⟩ := L.joined
  have B := L.blt
  refine ⟨_, pss_cons (ps_mid (ps_if (pt_not (pt_val (pe_call AL.ok (hr.mono (by decide)) rfl AL.mg_ AL.kp AL.bd .nil pass0 (pa_cons (pe_call JN.ok hr rfl JN.mg_ JN.kp JN.bd .nil pass0 (pa_cons (pv 2) (pa_cons (pv 3) pa_nil)))
      (pa_cons (pe_tup (pa_cons (pe_callB (call_max2 rfl) (by rfl) B.max (by decide +kernel) (pa_cons (pe_ix ix_tup (pv 2) pe_int (fun _ _ => rfl)) (pa_cons (pe_ix ix_tup (pv 3) pe_int (fun _ _ => rfl)) pa_nil)))
        (pa_cons (pe_callTy call_tuple_of (by rfl) B.tuple boot_tuple (pa_cons (pe_uq (i := 2) (j := 3) (pe_callB (cr_sortS rfl (units64 hr)) (by rfl) B.sorted boot_sorted (pa_cons (pe_callTy (cr_setR rfl (units64 hr)) (by rfl) B.set boot_set (pa_cons (pe_op op_catR (pe_ix ix_tup (pv 2) pe_int (fun _ _ => rfl)) (pe_ix ix_tup (pv 3) pe_int (fun _ _ => rfl))) pa_nil)) pa_nil))) pa_nil)) pa_nil))) pa_nil))))) (pss_one ps_never) pss_nil))
    hG, fun D σ H hD hM => ?_⟩
  refine ⟨MidJ K T, ?_, fun σ' H' hm => rG D σ' H' hD hm.g⟩
  obtain ⟨r, a, ra, ns, bv, uv, b, c, rs, q, rfl, x⟩ := hM
  have n4 := x.b4
  have n5 := x.c4
  refine ⟨_, rfl, _, rfl, bv, uv, b, c, rfl, x.hv, x.hb, x.hu, x.hc, by omega, x.dr.tab, fun v1 H1 e1 t1 hv1 => ?_⟩
  have x1 := x.ext e1 t1
  obtain ⟨a1, y1, rfl, hs1, hy1⟩ := dp_book.mp x1.hv
  obtain ⟨a2, y2, rfl, hs2, hy2⟩ := dp_book.mp x1.hu
  refine ⟨_, rfl, a1, _, 0, _, rfl, rfl, hs1, rfl, _, rfl, a2, _, 0, _, rfl, rfl, hs2, rfl, b.1, c.1, rfl, _, _, b, c, ⟨_, rfl, rfl, rfl⟩, ⟨_, rfl, rfl, rfl⟩, x1.hv, x1.hu, by omega, fun l ys H2 g2 el hys => ?_⟩
  refine ⟨l, ys, rfl, .inl ⟨SqL.of el, fun t ht => ⟨(by show 2 ≤ sizeLine; decide), fun p hp => ?_⟩⟩⟩
  have gt : Gw [] H2 (upd H2 t (.tup ys)) := .new ht
  have gp := gt.trans (Gw.new (M := []) (o := .tup [.int (if c.1 > b.1 then c.1 else b.1), .ref t]) hp)
  refine ⟨v1, .ref p, dBook (joinB b c), rfl, Dp.ext (g2.trans gp).ext (still_book _) hv1, ?_, okD_book (few_join x.hb x.hc (by omega)), Nat.le_trans (depth_book _) (by decide), fun H3 g3 => ⟨_, rfl, ?_⟩⟩
  · exact dp_book.mpr ⟨p, _, rfl, SqT.of upd_same, dp_rules.mpr ⟨t, ys, rfl, (Gw.new (M := []) hp).ext.sqT (SqT.of upd_same), DpAll.ext gp.ext (still_all _) hys⟩⟩
  refine iteF ?_
  exact ⟨r, a, ra, ns, _, _, b, c, rs, q, rfl, x1.gw ((g2.trans gp).trans g3)⟩
end
end SB
/-! KLawM -/
set_option Elab.async false
set_option linter.all false
set_option maxRecDepth 100000
set_option maxHeartbeats 4000000
/-! The law's own body: mirrored. -/
namespace SB
open PySem PySem.Spec PyProof.Rows L2
section
variable {P : Program} {w : World} {K : PySem.W.Frag} {mg : Str → Option Value} {base : Heap} {T : List Addr} {f : Addr} {code : Value} {A : Around} {outer : List Env} {s : Shared} {H0 : Hp} {E : XK}
theorem law_mirrored (hr : Room 7 (A.deeper (envOfC "law" (defScope sLaw) s.heap.objs.size f code))) (L : LawEnv P w K mg base T) :
    ∃ t, PSs (XL P w K mg base f code A outer s H0 E) ((defBody sLaw).drop 7) t ∧ ∀ (D : Ends) σ H, (∀ H', D.rt (.bl true) H') → MidJ K T σ H → t D σ H := by
  obtain ⟨tG, hG, rG⟩ := law_joined (f := f) (code := code) (A := A) (outer := outer) (s := s) (H0 := H0) (E := E) hr L
  obtain ⟨gA, gdA, AL⟩ := L.alike
  obtain ⟨gJ, gdJ, MR⟩ := L.mirrored
  have B := L.blt
  refine ⟨_, pss_cons (ps_mid (ps_if (pt_not (pt_val (pe_call AL.ok (hr.mono (by decide)) rfl AL.mg_ AL.kp AL.bd .nil pass0 (pa_cons (pe_call MR.ok hr rfl MR.mg_ MR.kp MR.bd .nil pass0 (pa_cons (pv 2) pa_nil))
      (pa_cons (pe_tup (pa_cons (pe_ix ix_tup (pv 2) pe_int (fun _ _ => rfl)) (pa_cons (pe_callTy call_tuple_of (by rfl) B.tuple boot_tuple (pa_cons (pe_callB (cr_sortedR (units8 hr)) (by rfl) B.sorted boot_sorted
        (pa_cons (pe_lc (own := [("left", 4), ("right", 5)]) (g := gTup K 2 (gCons (gName 4) (gCons (gName 5) gNil))) (te := tTup (tCons (tRevT K (tVar 4)) (tCons (tRevT K (tVar 5)) tNil))) (tt := tYes) rfl scLaw.nd (pi_tup (pe_ix ix_tup (pv 2) pe_int (fun _ _ => rfl))) (blkOk_by (own := [("left", 4), ("right", 5)]) (N := NL) (sc := defScope sLaw) (by decide +kernel))
          (fun _ _ _ _ _ => pg_tup (by rfl) (pgs_cons (pg_name (i := 4) scLaw.nd rfl (Or.inl rfl)) (pgs_cons (pg_name (i := 5) scLaw.nd rfl (Or.inl rfl)) pgs_nil))) (fun _ _ _ _ _ => pts_nil)
          (fun _ _ _ _ _ => pe_tup (pa_cons (pe_revT (pv 4)) (pa_cons (pe_revT (pv 5)) pa_nil)))) pa_nil)) pa_nil)) pa_nil))) pa_nil))))) (pss_one ps_never) pss_nil))
    hG, fun D σ H hD hM => ?_⟩
  refine ⟨MidJ K T, ?_, fun σ' H' hm => rG D σ' H' hD hm⟩
  obtain ⟨r, a, ra, ns, bv, uv, b, c, rs, q, rfl, x⟩ := hM
  have n4 := x.b4
  refine ⟨_, rfl, bv, b, rfl, x.hv, x.hb, x.dr.tab, fun v1 H1 e1 t1 hv1 => ?_⟩
  have x1 := x.ext e1 t1
  obtain ⟨a1, y1, rfl, hs1, hy1⟩ := dp_book.mp x1.hv
  obtain ⟨ar, xs, rfl, hsr, hall⟩ := dp_rules.mp hy1
  have hl : xs.length = b.2.length := by rw [dpAll_length hall, List.length_map]
  refine ⟨_, rfl, a1, _, 0, _, rfl, rfl, hs1, rfl, _, rfl, a1, _, 1, _, rfl, rfl, hs1, rfl, ar, rfl, ⟨_, hsr⟩, fun D' hD' => lc_tup (K := K) (a := ar) (xs := xs) (fun i H2 => ∃ ys, H2 D' = some (.lst ys) ∧ ys.length = i ∧ DpAll K H2 ys (((b.2.take i).map fun r : Rule => ((r.1.reverse, r.2.reverse) : Rule)).map dRule) ∧ Gw [D'] H1 H2)
    ⟨[], upd_same, rfl, .nil, .new hD'⟩ (fun i H2 _ ⟨_, _, _, _, g⟩ => g.ext.sqT hsr) ?_ ?_⟩
  · rintro i y H2 hi ⟨ys, e, hyl, hdy, g⟩
    have hix : i < xs.length := (List.getElem?_eq_some_iff.mp hi).1
    obtain ⟨d, hd1, hd2⟩ := dpAll_get hall hi
    obtain ⟨u, hu1, rfl⟩ : ∃ r, b.2[i]? = some r ∧ d = dRule r := by
      rw [List.getElem?_map] at hd1
      cases q : b.2[i]? with
      | none => rw [q] at hd1; cases hd1
      | some r => rw [q] at hd1; exact ⟨r, rfl, (Option.some.inj hd1).symm⟩
    obtain ⟨pa, x1', x2', rfl, hra, hx1, hx2⟩ := dp_rule.mp (Dp.ext g.ext (still_rule u) hd2)
    obtain ⟨s1, rfl, hs1'⟩ := dp_side.mp hx1
    obtain ⟨s2, rfl, hs2'⟩ := dp_side.mp hx2
    refine ⟨pa, _, rfl, hra, rfl, _, _, rfl, _, _, rfl, rfl, rfl, yes_of ?_⟩
    refine iteT ?_
    refine ⟨_, rfl, s1, _, rfl, hs1', fun p1 hp1 => ⟨_, rfl, s2, _, rfl, (Gw.new (M := []) hp1).ext.sqT hs2', fun p2 hp2 => ⟨(by show 2 ≤ sizeLine; decide), fun p3 hp3 => ?_⟩⟩⟩
    have g1 : Gw [] H2 (upd H2 p1 (.tup (u.1.map V.int).reverse)) := .new hp1
    have g2 := g1.trans (Gw.new (M := []) (o := .tup (u.2.map V.int).reverse) hp2)
    have g3 := g2.trans (Gw.new (M := []) (o := .tup [.ref p1, .ref p2]) hp3)
    have e3 := g3.ext.lst e List.not_mem_nil
    have hru : Dp K (upd (upd (upd H2 p1 (.tup (u.1.map V.int).reverse)) p2 (.tup (u.2.map V.int).reverse)) p3 (.tup [.ref p1, .ref p2])) (.ref p3) (dRule (u.1.reverse, u.2.reverse)) := by
      refine dp_rule.mpr ⟨p3, _, _, rfl, SqT.of upd_same, dp_side.mpr ⟨p1, rfl, ?_⟩, dp_side.mpr ⟨p2, rfl, ?_⟩⟩
      · rw [List.map_reverse]
        exact ((Gw.new (M := []) hp2).trans (.new hp3)).ext.sqT (SqT.of upd_same)
      · rw [List.map_reverse]
        exact (Gw.new (M := []) hp3).ext.sqT (SqT.of upd_same)
    have g4 : Gw [D'] _ (upd (upd (upd (upd H2 p1 (.tup (u.1.map V.int).reverse)) p2 (.tup (u.2.map V.int).reverse)) p3 (.tup [.ref p1, .ref p2])) D' (.lst (ys ++ [.ref p3]))) := Gw.set e3 rfl List.mem_cons_self
    refine ⟨_, e3, lt_line (by omega), _, upd_same, by rw [List.length_append, hyl]; rfl, ?_, (g.trans g3.more).trans g4⟩
    rw [List.take_succ, hu1, List.map_append, List.map_append]
    exact dpAll_snoc (DpAll.ext (g3.more.trans g4).ext (still_all _) hdy) (Dp.ext g4.ext (still_rule _) hru)
  · rintro H2 ⟨ys, e, hyl, hdy, g⟩
    rw [hl, List.take_length] at hdy
    have g0 := g.drop hD'
    refine ⟨D', ys, _, rfl, SqL.of e, hdy, fun l zs hl0 hz => ⟨l, _, rfl, .inl ⟨SqL.of upd_same, fun t ht => ⟨(by show 2 ≤ sizeLine; decide), fun p hp => ?_⟩⟩⟩⟩
    have gl : Gw [] H2 (upd H2 l (.lst zs)) := .new hl0
    have gt := gl.trans (Gw.new (M := []) (o := .tup zs) ht)
    have gp := gt.trans (Gw.new (M := []) (o := .tup [.int b.1, .ref t]) hp)
    have ga := g0.trans gp
    refine ⟨v1, .ref p, dBook (mirB b), rfl, Dp.ext ga.ext (still_book _) hv1, ?_, okD_book (few_mir x.hb), Nat.le_trans (depth_book _) (by decide), fun H3 g3 => ⟨_, rfl, ?_⟩⟩
    · exact dp_book.mpr ⟨p, _, rfl, SqT.of upd_same, dp_rules.mpr ⟨t, zs, rfl, (Gw.new (M := []) hp).ext.sqT (SqT.of upd_same), DpAll.ext gp.ext (still_all _) hz⟩⟩
    refine iteF ?_
    exact ⟨r, a, ra, ns, _, _, b, c, rs, q, rfl, x1.gw (ga.trans g3)⟩
end
end SB
/-! KLawR -/
set_option Elab.async false
set_option linter.all false
set_option maxRecDepth 100000
set_option maxHeartbeats 4000000
/-! The law's own body: renamed, and what it is held against. -/
namespace SB
open PySem PySem.Spec PyProof.Rows L2
theorem few_ren {b : Book} {o : List Int} (h : OkB b) : Few (renB o b) := by
  have f := okB_few h
  refine few_sort (by rw [List.length_map]; exact f.1) fun r hr => ?_
  obtain ⟨r', hr', rfl⟩ := List.mem_map.mp hr
  have q := f.2 r' hr'
  exact ⟨by unfold mapS; rw [List.length_map]; exact q.1, by unfold mapS; rw [List.length_map]; exact q.2⟩
theorem at_get {o : List Int} {x : Int} (h : 0 ≤ x ∧ x < o.length) : atI (o.map V.int) x = some (.int (o.getD x.toNat 0)) := by
  have e : x = (x.toNat : Int) := by omega
  have hl : x.toNat < o.length := by omega
  rw [e]
  exact atI_nat (by rw [List.getElem?_map, List.getElem?_eq_getElem hl, List.getD_eq_getElem?_getD, show ((x.toNat : Int)).toNat = x.toNat from rfl, List.getElem?_eq_getElem hl]; rfl)
section
variable {P : Program} {w : World} {K : PySem.W.Frag} {mg : Str → Option Value} {base : Heap} {T : List Addr} {f : Addr} {code : Value} {A : Around} {outer : List Env} {s : Shared} {H0 : Hp} {E : XK}
theorem Bks.wrote {r a ra p : Addr} {ns : List Int} {bv uv : V} {b c : Book} {rs : List Str} {H H' : Hp} (x : Bks K T r a ra ns bv uv b c rs H) (h1 : r ≠ p) (h2 : ra ≠ p) (n : Off K a p (ns.map V.int)) (g : Gw [p] H H') : Bks K T r a ra ns bv uv b c rs H' :=
  ⟨x.dr.wrote h1 n g, x.nr, Dp.ext g.ext (still_book b) x.hv, x.hb, Dp.ext g.ext (still_book c) x.hu, x.hc, x.b2, x.b4, x.c4, g.ext.lst x.era (by simpa using h2), x.rl, x.rn⟩
/-- the rules named anew -/
def renR (o : List Int) (rs : List Rule) : List Rule := rs.map fun r => (mapS o r.1, mapS o r.2)
/-- ahead of the look at renamed -/
def MidR (K : PySem.W.Frag) (T : List Addr) (σ : L2.St) (H : Hp) : Prop := ∃ (r a ra oa tl : Addr) (ns o : List Int) (n : Nat) (bv uv : V) (b c : Book) (rs : List Str) (ys : List V) (q : Fin 3 → Option V), σ = [q 0, some (.ref r), some bv, some uv, q 1, q 2, some (.ref ra), some (.ref oa), some (.ref tl), none, none, none, none, none, none, none, none, none, none, none, none, none, none] ∧ Bks K T r a ra ns bv uv b c rs H ∧
  b.1 = (n : Int) ∧ SqT K H oa (o.map V.int) ∧ OrdOf n o ∧ H tl = some (.lst ys) ∧ DpAll K H ys ((renR o b.2).map dRule)
theorem law_renamed (hr : Room 7 (A.deeper (envOfC "law" (defScope sLaw) s.heap.objs.size f code))) (L : LawEnv P w K mg base T) :
    ∃ t, PSs (XL P w K mg base f code A outer s H0 E) ((defBody sLaw).drop 6) t ∧ ∀ (D : Ends) σ H, (∀ H', D.rt (.bl true) H') → MidR K T σ H → t D σ H := by
  obtain ⟨tG, hG, rG⟩ := law_mirrored (f := f) (code := code) (A := A) (outer := outer) (s := s) (H0 := H0) (E := E) hr L
  obtain ⟨gA, gdA, AL⟩ := L.alike
  obtain ⟨gJ, gdJ, RN⟩ := L.renamed
  have B := L.blt
  refine ⟨_, pss_cons (ps_mid (ps_if (pt_not (pt_val (pe_call AL.ok (hr.mono (by decide)) rfl AL.mg_ AL.kp AL.bd .nil pass0 (pa_cons (pe_call RN.ok hr rfl RN.mg_ RN.kp RN.bd .nil pass0 (pa_cons (pv 2) (pa_cons (pv 7) pa_nil)))
      (pa_cons (pe_tup (pa_cons (pe_ix ix_tup (pv 2) pe_int (fun _ _ => rfl)) (pa_cons (pe_callTy call_tuple_of (by rfl) B.tuple boot_tuple (pa_cons (pe_callB (cr_sortedR (units8 hr)) (by rfl) B.sorted boot_sorted (pa_cons (pv 8) pa_nil)) pa_nil)) pa_nil))) pa_nil))))) (pss_one ps_never) pss_nil))
    hG, fun D σ H hD hM => ?_⟩
  refine ⟨MidJ K T, ?_, fun σ' H' hm => rG D σ' H' hD hm⟩
  obtain ⟨r, a, ra, oa, tl, ns, o, n, bv, uv, b, c, rs, ys, q, rfl, x, hn, hoa, ho, etl, hys⟩ := hM
  refine ⟨_, rfl, _, rfl, bv, b, n, oa, o, rfl, x.hv, x.hb, hn, hoa, ho, x.dr.tab, fun v1 H1 e1 t1 hv1 => ?_⟩
  have x1 := x.ext e1 t1
  obtain ⟨a1, y1, rfl, hs1, hy1⟩ := dp_book.mp x1.hv
  refine ⟨_, rfl, a1, _, 0, _, rfl, rfl, hs1, rfl, _, rfl, tl, ys, _, rfl, SqL.of (e1.lst etl List.not_mem_nil), DpAll.ext e1 (still_all _) hys, fun l zs hl0 hz => ⟨l, _, rfl, .inl ⟨SqL.of upd_same, fun t ht => ⟨(by show 2 ≤ sizeLine; decide), fun p hp => ?_⟩⟩⟩⟩
  have gl : Gw [] H1 (upd H1 l (.lst zs)) := .new hl0
  have gt := gl.trans (Gw.new (M := []) (o := .tup zs) ht)
  have gp := gt.trans (Gw.new (M := []) (o := .tup [.int b.1, .ref t]) hp)
  refine ⟨v1, .ref p, dBook (renB o b), rfl, Dp.ext gp.ext (still_book _) hv1, ?_, okD_book (few_ren x.hb), Nat.le_trans (depth_book _) (by decide), fun H3 g3 => ⟨_, rfl, ?_⟩⟩
  · exact dp_book.mpr ⟨p, _, rfl, SqT.of upd_same, dp_rules.mpr ⟨t, zs, rfl, (Gw.new (M := []) hp).ext.sqT (SqT.of upd_same), DpAll.ext gp.ext (still_all _) hz⟩⟩
  refine iteF ?_
  exact ⟨r, a, ra, ns, _, _, b, c, rs, fun j => [q 0, q 1, q 2, some (.ref oa), some (.ref tl)][j], rfl, x1.gw (gp.trans g3)⟩
end
end SB
/-! KLawO -/
set_option Elab.async false
set_option linter.all false
set_option maxRecDepth 100000
set_option maxHeartbeats 4000000
/-! The law's own body: the order, the rules named anew. -/
namespace SB
open PySem PySem.Spec PyProof.Rows L2
section
variable {P : Program} {w : World} {K : PySem.W.Frag} {mg : Str → Option Value} {base : Heap} {T : List Addr} {f : Addr} {code : Value} {A : Around} {outer : List Env} {s : Shared} {H0 : Hp} {E : XK}
/-- ahead of order, turned = .. -/
def MidO (K : PySem.W.Frag) (T : List Addr) (σ : L2.St) (H : Hp) : Prop := ∃ (r a ra : Addr) (ns : List Int) (bv uv : V) (b c : Book) (rs : List Str) (q : Fin 3 → Option V), σ = [q 0, some (.ref r), some bv, some uv, q 1, q 2, some (.ref ra), none, none, none, none, none, none, none, none, none, none, none, none, none, none, none, none] ∧ Bks K T r a ra ns bv uv b c rs H
theorem law_order (hr : Room 7 (A.deeper (envOfC "law" (defScope sLaw) s.heap.objs.size f code))) (L : LawEnv P w K mg base T) :
    ∃ t, PSs (XL P w K mg base f code A outer s H0 E) ((defBody sLaw).drop 4) t ∧ ∀ (D : Ends) σ H, (∀ H', D.rt (.bl true) H') → MidO K T σ H → t D σ H := by
  obtain ⟨tG, hG, rG⟩ := law_renamed (f := f) (code := code) (A := A) (outer := outer) (s := s) (H0 := H0) (E := E) hr L
  obtain ⟨gO, gdO, OD⟩ := L.order
  have B := L.blt
  refine ⟨_, pss_cons (ps_mid (ps_asg (pe_tup (pa_cons (pe_callTy call_tuple_of (by rfl) B.tuple boot_tuple (pa_cons (pe_call OD.ok (hr.mono (by decide)) rfl OD.mg_ OD.kp OD.bd .nil pass0 (pa_cons (pv 1) (pa_cons (pe_ix ix_tup (pv 2) pe_int (fun _ _ => rfl)) pa_nil))) pa_nil)) (pa_cons (pe_lst pa_nil) pa_nil)))
      (pg_tup (by rfl) (pgs_cons (pg_name (i := 7) scLaw.nd rfl (.inr rfl)) (pgs_cons (pg_name (i := 8) scLaw.nd rfl (.inl rfl)) pgs_nil)))))
    (pss_cons (ps_mid (ps_for PassesOwn.never rfl (pi_tup (pe_ix ix_tup (pv 2) pe_int (fun _ _ => rfl))) (pg_tup (by rfl) (pgs_cons (pg_name (i := 4) scLaw.nd rfl (.inl rfl)) (pgs_cons (pg_name (i := 5) scLaw.nd rfl (.inl rfl)) pgs_nil)))
      (pss_one (ps_expr (pe_bm PySem.F.plainAttrs_list PySem.F.slot_list_append PySem.F.type_list_append mt_append (pv 8) (pa_cons (pe_tup
        (pa_cons (pe_mid (pe_callTy call_tuple_of (by rfl) B.tuple boot_tuple (pa_cons (pe_lc (own := [("one", 19)]) (g := gName 19) (te := tOp (rIxT K) (tVar 7) (tVar 19)) (tt := tYes) rfl scLaw.nd (pi_tup (pv 4)) (blkOk_by (own := [("one", 19)]) (N := NL) (sc := defScope sLaw) (by decide +kernel))
            (fun _ _ _ _ _ => pg_name (i := 19) scLaw.nd rfl (Or.inl rfl)) (fun _ _ _ _ _ => pts_nil) (fun _ _ _ _ _ => pe_ix ix_tup (pv 7) (pv 19) (fun _ _ => rfl))) pa_nil)))
        (pa_cons (pe_mid (pe_callTy call_tuple_of (by rfl) B.tuple boot_tuple (pa_cons (pe_lc (own := [("one", 19)]) (g := gName 19) (te := tOp (rIxT K) (tVar 7) (tVar 19)) (tt := tYes) rfl scLaw.nd (pi_tup (pv 5)) (blkOk_by (own := [("one", 19)]) (N := NL) (sc := defScope sLaw) (by decide +kernel))
            (fun _ _ _ _ _ => pg_name (i := 19) scLaw.nd rfl (Or.inl rfl)) (fun _ _ _ _ _ => pts_nil) (fun _ _ _ _ _ => pe_ix ix_tup (pv 7) (pv 19) (fun _ _ => rfl))) pa_nil))) pa_nil))) pa_nil))))))
    hG), fun D σ H hD hM => ?_⟩
  obtain ⟨r, a, ra, ns, bv, uv, b, c, rs, q, rfl, x⟩ := hM
  obtain ⟨n, hn⟩ : ∃ n : Nat, b.1 = (n : Int) := ⟨b.1.toNat, by have := x.b2; omega⟩
  have hb4 := (okB_many x.hb).2.1
  have two : 2 ≤ sizeLine := by decide
  -- order, turned
  refine ⟨fun σ' H' => ∃ oa tl o, σ' = [q 0, some (.ref r), some bv, some uv, q 1, q 2, some (.ref ra), some (.ref oa), some (.ref tl), none, none, none, none, none, none, none, none, none, none, none, none, none, none] ∧ Bks K T r a ra ns bv uv b c rs H' ∧ SqT K H' oa (o.map V.int) ∧ OrdOf n o ∧ H' tl = some (.lst []) ∧ r ≠ tl ∧ ra ≠ tl ∧ Off K a tl (ns.map V.int), ?_, ?_⟩
  · obtain ⟨a1, y1, rfl, hs1, hy1⟩ := dp_book.mp x.hv
    rw [hn] at hs1
    refine ⟨_, rfl, _, rfl, a1, _, 0, _, rfl, rfl, hs1, rfl, r, a, ns, n, rfl, by omega, x.dr.row, x.dr.scr, x.dr.ne, x.dr.tab, fun o l H1 ho e1 R1 t1 hl0 hlr hl => ?_⟩
    have x1 : Bks K T r a ra ns (.ref a1) uv b c rs H1 := ⟨x.dr.drawn e1 R1 t1, x.nr, Dp.ext e1 (still_book b) x.hv, x.hb, Dp.ext e1 (still_book c) x.hu, x.hc, x.b2, x.b4, x.c4, e1.lst x.era (by simpa using x.nr), x.rl, x.rn⟩
    refine ⟨l, _, rfl, .inl ⟨SqL.of hl, fun oa hoa => ⟨(by show 0 ≤ sizeLine; decide), fun tl htl => ⟨two, fun p hp => ?_⟩⟩⟩⟩
    have g1 : Gw [] H1 (upd H1 oa (.tup (o.map V.int))) := .new hoa
    have g2 := g1.trans (Gw.new (M := []) (o := .lst []) htl)
    have g3 := g2.trans (Gw.new (M := []) (o := .tup [.ref oa, .ref tl]) hp)
    have xt := x1.gw g1
    refine ⟨p, _, rfl, SqT.of upd_same, rfl, _, _, rfl, _, _, rfl, rfl, oa, tl, o, rfl, x1.gw g3, ((Gw.new (M := []) htl).trans (.new hp)).ext.sqT (SqT.of upd_same), ho, (Gw.new (M := []) hp).ext.lst upd_same List.not_mem_nil, (xt.dr.row.ne htl).symm, ne_of_none xt.era htl, off_new xt.dr.scr htl⟩
  rintro σ H1 ⟨oa, tl, o, rfl, x1, hoa, ho, etl, nrt, nat, off⟩
  refine ⟨MidR K T, ?_, fun σ' H' hm => rG D σ' H' hD hm⟩
  obtain ⟨hnd, holen, homem⟩ := ord_nodup ho
  obtain ⟨a1, y1, rfl, hs1, hy1⟩ := dp_book.mp x1.hv
  obtain ⟨ar, xs, rfl, hsr, hall⟩ := dp_rules.mp hy1
  have hl : xs.length = b.2.length := by rw [dpAll_length hall, List.length_map]
  have n4 := x1.b4
  refine ⟨_, rfl, a1, _, 1, _, rfl, rfl, hs1, rfl, ar, rfl, ⟨_, hsr⟩, for_it (walk_tup (K := K) (a := ar) (xs := xs)) (fun i σ H' => ∃ (p4 p5 : Option V) (ys : List V), σ = [q 0, some (.ref r), some (.ref a1), some uv, p4, p5, some (.ref ra), some (.ref oa), some (.ref tl), none, none, none, none, none, none, none, none, none, none, none, none, none, none] ∧
      H' tl = some (.lst ys) ∧ ys.length = i ∧ DpAll K H' ys ((renR o (b.2.take i)).map dRule) ∧ Gw [tl] H1 H') ⟨q 1, q 2, [], rfl, etl, rfl, .nil, .refl⟩ (fun i σ H' _ ⟨_, _, _, _, _, _, _, g⟩ => g.ext.sqT hsr) ?_ ?_⟩
  · rintro i y σ H2' H2 hi ⟨p4, p5, ys, rfl, e, hyl, hdy, g⟩ ⟨rfl, hxi⟩
    obtain ⟨d, hd1, hd2⟩ := dpAll_get hall hxi
    obtain ⟨u, hu1, rfl⟩ : ∃ r, b.2[i]? = some r ∧ d = dRule r := by
      rw [List.getElem?_map] at hd1
      cases q : b.2[i]? with
      | none => rw [q] at hd1; cases hd1
      | some r => rw [q] at hd1; exact ⟨r, rfl, (Option.some.inj hd1).symm⟩
    have hlets := rule_lets (x1.hb.rl u (List.mem_of_getElem? hu1))
    rw [hn, ← holen] at hlets
    have f2 := (okB_few x1.hb).2 u (List.mem_of_getElem? hu1)
    obtain ⟨pa, x1', x2', rfl, hra, hx1, hx2⟩ := dp_rule.mp (Dp.ext g.ext (still_rule u) hd2)
    obtain ⟨s1, rfl, hs1'⟩ := dp_side.mp hx1
    obtain ⟨s2, rfl, hs2'⟩ := dp_side.mp hx2
    have hoa2 := g.ext.sqT hoa
    refine ⟨pa, _, rfl, hra, rfl, _, _, rfl, _, _, rfl, rfl, ?_⟩
    refine ⟨_, rfl, .inl ⟨rfl, _, SqL.of e⟩, fun v H' => Gw [] H2 H' ∧ Dp K H' v (dSide (mapS o u.1)), ?_, ?_⟩
    · skip
      refine ⟨_, rfl, s1, rfl, ⟨_, hs1'⟩, fun D' hD' => lc_tup (K := K) (a := s1) (xs := u.1.map V.int) (fun j H' => ∃ zs : List Int, H' D' = some (.lst (zs.map V.int)) ∧ zs = mapS o (u.1.take j) ∧ Gw [D'] H2 H')
        ⟨[], upd_same, rfl, .new hD'⟩ (fun j H' _ ⟨_, _, _, g⟩ => g.ext.sqT hs1') ?_ ?_⟩
      · rintro j y H' hj ⟨zs, ez, rfl, gz⟩
        obtain ⟨t, ht, rfl⟩ : ∃ t, u.1[j]? = some t ∧ y = .int t := by
          rw [List.getElem?_map] at hj
          cases c : u.1[j]? with
          | none => rw [c] at hj; cases hj
          | some t => rw [c] at hj; exact ⟨t, rfl, (Option.some.inj hj).symm⟩
        refine ⟨rfl, yes_of ?_⟩
        refine iteT ?_
        refine ⟨_, rfl, _, rfl, oa, _, _, _, rfl, rfl, gz.ext.sqT hoa2, at_get (hlets.1 t (List.mem_of_getElem? ht)), _, ez, ?_, mapS o (u.1.take (j + 1)), ?_, rfl, gz.trans (.set ez rfl List.mem_cons_self)⟩
        · unfold mapS
          rw [List.length_map, List.length_map, List.length_take]
          exact lt_line (by omega)
        · rw [upd_same, List.take_succ, ht]
          unfold mapS
          rw [List.map_append, List.map_append]; rfl
      · rintro H' ⟨zs, ez, rfl, gz⟩
        rw [List.length_map, List.take_length] at ez
        exact ⟨D', _, rfl, .inl ⟨SqL.of ez, fun t ht => ⟨(gz.drop hD').trans (.new ht), dp_side.mpr ⟨t, rfl, SqT.of upd_same⟩⟩⟩⟩
    rintro v1 H3 ⟨g3, hv1⟩
    have hs2'' := g3.ext.sqT hs2'
    have hoa3 := g3.ext.sqT hoa2
    refine ⟨fun v H' => Gw [] H3 H' ∧ Dp K H' v (dSide (mapS o u.2)), ?_, ?_⟩
    · skip
      refine ⟨_, rfl, s2, rfl, ⟨_, hs2''⟩, fun D' hD' => lc_tup (K := K) (a := s2) (xs := u.2.map V.int) (fun j H' => ∃ zs : List Int, H' D' = some (.lst (zs.map V.int)) ∧ zs = mapS o (u.2.take j) ∧ Gw [D'] H3 H')
        ⟨[], upd_same, rfl, .new hD'⟩ (fun j H' _ ⟨_, _, _, g⟩ => g.ext.sqT hs2'') ?_ ?_⟩
      · rintro j y H' hj ⟨zs, ez, rfl, gz⟩
        obtain ⟨t, ht, rfl⟩ : ∃ t, u.2[j]? = some t ∧ y = .int t := by
          rw [List.getElem?_map] at hj
          cases c : u.2[j]? with
          | none => rw [c] at hj; cases hj
          | some t => rw [c] at hj; exact ⟨t, rfl, (Option.some.inj hj).symm⟩
        refine ⟨rfl, yes_of ?_⟩
        refine iteT ?_
        refine ⟨_, rfl, _, rfl, oa, _, _, _, rfl, rfl, gz.ext.sqT hoa3, at_get (hlets.2 t (List.mem_of_getElem? ht)), _, ez, ?_, mapS o (u.2.take (j + 1)), ?_, rfl, gz.trans (.set ez rfl List.mem_cons_self)⟩
        · unfold mapS
          rw [List.length_map, List.length_map, List.length_take]
          exact lt_line (by omega)
        · rw [upd_same, List.take_succ, ht]
          unfold mapS
          rw [List.map_append, List.map_append]; rfl
      · rintro H' ⟨zs, ez, rfl, gz⟩
        rw [List.length_map, List.take_length] at ez
        exact ⟨D', _, rfl, .inl ⟨SqL.of ez, fun t ht => ⟨(gz.drop hD').trans (.new ht), dp_side.mpr ⟨t, rfl, SqT.of upd_same⟩⟩⟩⟩
    rintro v2 H4 ⟨g4, hv2⟩
    refine ⟨two, fun p hp => ?_⟩
    have gp : Gw [] H4 (upd H4 p (.tup [v1, v2])) := .new hp
    have g5 := (g3.trans g4).trans gp
    have e5 := g5.ext.lst e List.not_mem_nil
    have hru : Dp K (upd H4 p (.tup [v1, v2])) (.ref p) (dRule (mapS o u.1, mapS o u.2)) := dp_rule.mpr ⟨p, _, _, rfl, SqT.of upd_same, Dp.ext (g4.trans gp).ext (still_side _) hv1, Dp.ext gp.ext (still_side _) hv2⟩
    have gs : Gw [tl] (upd H4 p (.tup [v1, v2])) (upd (upd H4 p (.tup [v1, v2])) tl (.lst (ys ++ [.ref p]))) := .set e5 rfl List.mem_cons_self
    have hil : i < b.2.length := (List.getElem?_eq_some_iff.mp hu1).1
    refine ⟨tl, _, _, rfl, rfl, e5, lt_line (by omega), ?_⟩
    refine ⟨_, _, ys ++ [.ref p], rfl, upd_same, by rw [List.length_append, hyl]; rfl, ?_, (g.trans g5.more).trans gs⟩
    unfold renR
    rw [List.take_succ, hu1, List.map_append, List.map_append]
    exact dpAll_snoc (DpAll.ext (g5.more.trans gs).ext (still_all _) hdy) (Dp.ext gs.ext (still_rule _) hru)
  · rintro σ H' ⟨p4, p5, ys, rfl, e, hyl, hdy, g⟩
    rw [hl, List.take_length] at hdy
    exact ⟨r, a, ra, oa, tl, ns, o, n, _, _, b, c, rs, ys, fun j => [q 0, p4, p5][j], rfl, x1.wrote nrt nat off g, hn, g.ext.sqT hoa, ho, e, hdy⟩
end
end SB
/-! KLawA -/
set_option Elab.async false
set_option linter.all false
set_option maxRecDepth 100000
set_option maxHeartbeats 4000000
/-! The law's own body: the drawing row, the books, their text; the law. -/
namespace SB
open PySem PySem.Spec PyProof.Rows L2
/-- a new list is none of the fragment's -/
theorem pe_fresh {X : Cx} {es : List Expr} {t : TA} {pos : Pos} (h : PA X es t) : PE X (.List es pos) (fun σ H Q => t σ H fun xs H1 => xs.length ≤ sizeLine ∧ ∀ p, H1 p = none → X.K.lookup p = none → Q (.ref p) (upd H1 p (.lst xs))) := by
  refine ⟨fun pins z σ H Q I q => wpAny_List_spliced (thn (h.run pos pins z σ H _ I q) fun us z1 ⟨xs, H1, I1, rv, hz, q1⟩ => ⟨rv.length ▸ hz, ?_⟩)⟩
  have no : H1 z1.heap.objs.size = none := I1.hok.fresh (Nat.le_refl _)
  have noK : X.K.lookup z1.heap.objs.size = none := by
    cases e : X.K.lookup z1.heap.objs.size with
    | none => rfl
    | some o => exact absurd (Heap.lt_size (I1.kIn _ o e)) (Nat.lt_irrefl _)
  have lay : Inv X pins σ (upd H1 z1.heap.objs.size (.lst xs)) { z1 with heap := z1.heap.push (seqObj "list" us.toArray 0), toks := z1.toks } :=
    I1.laid (fun b u e => Heap.get?_push_of_some _ e) (Nat.le_refl _) ⟨hz, us, 0, rv, Heap.get?_push_size _ rfl⟩
  exact ⟨.ref z1.heap.objs.size, _, lay, rfl, q1 _ no noK⟩
theorem pe_weak {X : Cx} {e : Expr} {t t' : TE} (h : PE X e t) (k : ∀ σ H Q, t' σ H Q → t σ H Q) : PE X e t' := ⟨fun pins z σ H Q I q => h.run pins z σ H Q I (k σ H Q q)⟩
/-- "".join([str(one) for one in side]), the side in slot i -/
def tSideTxt (K : PySem.W.Frag) (i : Fin 23) : TE := fun σ H Q => ∃ (p : Fin 23 → Option V) (v : V) (k : Side), σ = [p 0, p 1, p 2, p 3, p 4, p 5, p 6, p 7, p 8, p 9, p 10, p 11, p 12, p 13, p 14, p 15, p 16, p 17, p 18, p 19, p 20, p 21, p 22] ∧ p i = some v ∧ Dp K H v (dSide k) ∧ Small k ∧ k.length ≤ 100 ∧
  ∀ H', Gw [] H H' → Q (.str (txtS k)) H'
section
variable {P : Program} {w : World} {K : PySem.W.Frag} {mg : Str → Option Value} {base : Heap} {T : List Addr} {f : Addr} {code : Value} {A : Around} {outer : List Env} {s : Shared} {H0 : Hp} {E : XK}
/-- ahead of the look at the written text -/
def MidW (K : PySem.W.Frag) (T : List Addr) (σ : L2.St) (H : Hp) : Prop := ∃ (r a ra : Addr) (ns : List Int) (bv uv : V) (b c : Book) (q : Fin 3 → Option V), σ = [q 0, some (.ref r), some bv, some uv, q 1, q 2, some (.ref ra), none, none, none, none, none, none, none, none, none, none, none, none, none, none, none, none] ∧ Bks K T r a ra ns bv uv b c (b.2.map txtR) H
theorem law_written (hr : Room 7 (A.deeper (envOfC "law" (defScope sLaw) s.heap.objs.size f code))) (L : LawEnv P w K mg base T) :
    ∃ t, PSs (XL P w K mg base f code A outer s H0 E) ((defBody sLaw).drop 3) t ∧ ∀ (D : Ends) σ H, (∀ H', D.rt (.bl true) H') → MidW K T σ H → t D σ H := by
  obtain ⟨tG, hG, rG⟩ := law_order (f := f) (code := code) (A := A) (outer := outer) (s := s) (H0 := H0) (E := E) hr L
  obtain ⟨gA, gdA, AL⟩ := L.alike
  obtain ⟨gJ, gdJ, WB⟩ := L.write
  have B := L.blt
  refine ⟨_, pss_cons (ps_mid (ps_if (pt_not (pt_val (pe_call AL.ok (hr.mono (by decide)) rfl AL.mg_ AL.kp AL.bd .nil pass0 (pa_cons (pe_call WB.ok hr rfl WB.mg_ WB.kp WB.bd .nil pass0 (pa_cons (pv 2) pa_nil))
      (pa_cons (pe_op op_add_str (pe_op op_add_str (pe_callTy call_str_int (by rfl) B.str (by decide +kernel) (pa_cons (pe_ix ix_tup (pv 2) pe_int (fun _ _ => rfl)) pa_nil)) pe_str)
        (pe_join pe_str (pe_lc (own := [("rule", 20)]) (g := gName 20) (tt := tYes) rfl scLaw.nd (pi_list (pv 6)) (blkOk_by (own := [("rule", 20)]) (N := NL) (sc := defScope sLaw) (by decide +kernel))
          (fun _ _ _ _ _ => pg_name (i := 20) scLaw.nd rfl (Or.inl rfl)) (fun _ _ _ _ _ => pts_nil) (fun _ _ _ _ _ => pe_op op_add_str pe_str (pv 20))))) pa_nil))))) (pss_one ps_never) pss_nil))
    hG, fun D σ H hD hM => ?_⟩
  refine ⟨MidO K T, ?_, fun σ' H' hm => rG D σ' H' hD hm⟩
  obtain ⟨r, a, ra, ns, bv, uv, b, c, q, rfl, x⟩ := hM
  refine ⟨_, rfl, bv, b, rfl, x.hv, x.hb, x.dr.tab, fun H1 e1 t1 => ?_⟩
  have x1 := x.ext e1 t1
  obtain ⟨a1, y1, rfl, hs1, hy1⟩ := dp_book.mp x1.hv
  have q1 := okB_many x.hb
  have lb : (toString b.1 : Str).length = 1 := sgn_one (by omega) (by omega)
  have lc' : (Str.ofString ":").length = 1 := by decide +kernel
  have ls : (Str.ofString " ").length = 1 := by decide +kernel
  have rn := x1.rn
  refine ⟨_, rfl, a1, _, 0, _, rfl, rfl, hs1, rfl, b.1, rfl, log2_small (by omega) (by omega), _, _, rfl, rfl, small_line (by omega), ⟨_, rfl⟩, _, rfl, ra, rfl, ⟨_, SqL.of x1.era⟩, fun D' hD' => lc_list (K := K) (a := ra) (xs := (b.2.map txtR).map V.str) (fun i H' => ∃ ws : List Str, H' D' = some (.lst (ws.map V.str)) ∧ ws = ((b.2.map txtR).take i).map (fun t => Str.ofString " " ++ t) ∧ Gw [D'] H1 H')
    ⟨[], upd_same, rfl, .new hD'⟩ (fun i H' _ ⟨_, _, _, g⟩ => SqL.of (g.ext.lst x1.era (by simpa using ne_of_none x1.era hD'))) ?_ ?_⟩
  · rintro i y H' hi ⟨ws, e, rfl, g⟩
    obtain ⟨z, hz, rfl⟩ : ∃ z, (b.2.map txtR)[i]? = some z ∧ y = .str z := by
      rw [List.getElem?_map] at hi
      cases c : (b.2.map txtR)[i]? with
      | none => rw [c] at hi; cases hi
      | some z => rw [c] at hi; exact ⟨z, rfl, (Option.some.inj hi).symm⟩
    have hzl := x1.rl z (List.mem_of_getElem? hz)
    have hil : i < (b.2.map txtR).length := (List.getElem?_eq_some_iff.mp hz).1
    refine ⟨rfl, yes_of ?_⟩
    refine iteT ?_
    refine ⟨_, rfl, _, _, rfl, rfl, small_line (by rw [ls]; omega), _, e, ?_, ((b.2.map txtR).take (i + 1)).map (fun t => Str.ofString " " ++ t), ?_, rfl, g.trans (.set e rfl List.mem_cons_self)⟩
    · rw [List.length_map, List.length_map, List.length_take]
      exact lt_line (by omega)
    · rw [upd_same, List.take_succ, hz, List.map_append, List.map_append]; rfl
  · rintro H2 ⟨ws, e, rfl, g⟩
    rw [List.length_map, List.take_length] at e
    have bound : ((((b.2.map txtR).map (fun t => Str.ofString " " ++ t)).map (·.length)).sum) ≤ 11 * (b.2.map txtR).length := by
      have hl := x1.rl
      clear e rn hl
      have key : ∀ l : List Str, (∀ t ∈ l, t.length ≤ 10) → ((l.map (fun t => Str.ofString " " ++ t)).map (·.length)).sum ≤ 11 * l.length := by
        intro l
        induction l with
        | nil => intro _; exact Nat.le_refl _
        | cons t l ih =>
          intro h
          have h1 := h t List.mem_cons_self
          have h2 := ih fun u hu => h u (List.mem_cons_of_mem _ hu)
          rw [List.map_cons, List.map_cons, List.sum_cons, List.length_cons, add_len, ls]
          omega
      exact key _ x1.rl
    have jl := join_len (Str.ofString "") ((b.2.map txtR).map (fun t => Str.ofString " " ++ t))
    rw [s_empty_len] at jl
    refine ⟨_, D', (b.2.map txtR).map (fun t => Str.ofString " " ++ t), rfl, rfl, .inl (SqL.of e), ?_, _, _, rfl, rfl, small_line (by rw [add_len, lc']; omega), ?_⟩
    · rw [s_empty_len]; omega
    refine ⟨_, _, .str (txtB b), rfl, .str _, ?_, rfl, Nat.zero_le _, fun H3 g3 => ⟨_, rfl, ?_⟩⟩
    · rw [txtB, join_ahead]; exact .str _
    refine iteF ?_
    exact ⟨r, a, ra, ns, _, _, b, c, _, q, rfl, x1.gw ((g.drop hD').trans g3)⟩
end
end SB
/-! KLawB -/
set_option Elab.async false
set_option linter.all false
set_option maxRecDepth 100000
set_option maxHeartbeats 4000000
/-! The law's own body, from its start. -/
namespace SB
open PySem PySem.Spec PyProof.Rows L2
theorem blkOk_any {N : List Str} {sc sc' scope : Scope} {own : List (Str × Nat)} (h : blkC N sc scope own = true) (nf : (scope.names.all fun y => !(y.2 == .free)) = true) : BlkOk N sc' scope own := by
  have b := blkOk_by h
  refine ⟨b.kind, b.uniq, b.ix, fun y hy e => ?_, b.own⟩
  have q := List.all_eq_true.mp nf y hy
  rw [e] at q
  exact absurd q (by decide)
section
variable {P : Program} {w : World} {K : PySem.W.Frag} {mg : Str → Option Value} {base : Heap} {T : List Addr} {f : Addr} {code : Value} {A : Around} {outer : List Env} {s : Shared} {H0 : Hp} {E : XK}
/-- ahead of rules = .. -/
def MidB0 (K : PySem.W.Frag) (T : List Addr) (σ : L2.St) (H : Hp) : Prop := ∃ (r a : Addr) (ns : List Int) (bv uv : V) (b c : Book) (q : Fin 1 → Option V), σ = [q 0, some (.ref r), some bv, some uv, none, none, none, none, none, none, none, none, none, none, none, none, none, none, none, none, none, none, none] ∧
  Drw K T r a ns H ∧ Dp K H bv (dBook b) ∧ OkB b ∧ Dp K H uv (dBook c) ∧ OkB c ∧ 2 ≤ b.1 ∧ b.2.length ≤ 4 ∧ c.2.length ≤ 4
theorem law_rules (hr : Room 7 (A.deeper (envOfC "law" (defScope sLaw) s.heap.objs.size f code))) (L : LawEnv P w K mg base T) :
    ∃ t, PSs (XL P w K mg base f code A outer s H0 E) ((defBody sLaw).drop 2) t ∧ ∀ (D : Ends) σ H, (∀ H', D.rt (.bl true) H') → MidB0 K T σ H → t D σ H := by
  obtain ⟨tG, hG, rG⟩ := law_written (f := f) (code := code) (A := A) (outer := outer) (s := s) (H0 := H0) (E := E) hr L
  have B := L.blt
  refine ⟨_, pss_cons (ps_mid (ps_setLc (i := 6) (own := [("left", 4), ("right", 5)]) (g := gTup K 2 (gCons (gName 4) (gCons (gName 5) gNil)))
      (te := tOp (fun x y H Q => ∃ i j, x = .str i ∧ y = .str j ∧ i.length + j.length ≤ sizeLine ∧ Q (.str (i ++ j)) H) (tOp (fun x y H Q => ∃ i j, x = .str i ∧ y = .str j ∧ i.length + j.length ≤ sizeLine ∧ Q (.str (i ++ j)) H) (tSideTxt K 4) (tC (.str ">"))) (tSideTxt K 5))
      (tt := tYes) rfl scLaw.nd rfl rfl (sw_true rfl rfl rfl (by decide +kernel)) (pi_tup (pe_ix ix_tup (pv 2) pe_int (fun _ _ => rfl))) (blkOk_by (own := [("left", 4), ("right", 5)]) (N := NL) (sc := defScope sLaw) (by decide +kernel))
      (fun _ _ _ _ _ => pg_tup (by rfl) (pgs_cons (pg_name (i := 4) scLaw.nd rfl (Or.inl rfl)) (pgs_cons (pg_name (i := 5) scLaw.nd rfl (Or.inl rfl)) pgs_nil))) (fun _ _ _ _ _ => pts_nil)
      (fun _ _ _ _ _ => pe_op op_add_str (pe_op op_add_str
        (pe_weak (pe_join pe_str (pe_lc (own := [("one", 19)]) (g := gName 19) (tt := tYes) rfl scLaw.nd (pi_tup (pv 4)) (blkOk_any (own := [("one", 19)]) (N := NL) (sc := defScope sLaw) (by decide +kernel) (by decide +kernel))
          (fun _ _ _ _ _ => pg_name (i := 19) scLaw.nd rfl (Or.inl rfl)) (fun _ _ _ _ _ => pts_nil) (fun _ _ _ _ _ => pe_callTy call_str_int (by rfl) B.str (by decide +kernel) (pa_cons (pv 19) pa_nil)))) (fun σ H Q q => ?side4))
        pe_str)
        (pe_weak (pe_join pe_str (pe_lc (own := [("one", 19)]) (g := gName 19) (tt := tYes) rfl scLaw.nd (pi_tup (pv 5)) (blkOk_any (own := [("one", 19)]) (N := NL) (sc := defScope sLaw) (by decide +kernel) (by decide +kernel))
          (fun _ _ _ _ _ => pg_name (i := 19) scLaw.nd rfl (Or.inl rfl)) (fun _ _ _ _ _ => pts_nil) (fun _ _ _ _ _ => pe_callTy call_str_int (by rfl) B.str (by decide +kernel) (pa_cons (pv 19) pa_nil)))) (fun σ H Q q => ?side5)))))
    hG, fun D σ H hD hM => ?_⟩
  case side4 =>
    obtain ⟨p, v, k, rfl, hp, hv, hk, hkl, q⟩ := q
    obtain ⟨sa, rfl, hsa⟩ := dp_side.mp hv
    refine ⟨⟨_, rfl⟩, .ref sa, (by show some (p 4) = _; rw [hp]), sa, rfl, ⟨_, hsa⟩, fun D' hD' => lc_tup (K := K) (a := sa) (xs := k.map V.int) (fun i H2 => H2 D' = some (.lst (((k.take i).map sgn).map V.str)) ∧ Gw [D'] H H2) ⟨upd_same, .new hD'⟩ (fun i H2 _ ⟨_, g⟩ => g.ext.sqT hsa) ?_ ?_⟩
    · rintro i x H2 hi ⟨e, g⟩
      obtain ⟨y, hy, rfl⟩ : ∃ y, k[i]? = some y ∧ x = .int y := by
        rw [List.getElem?_map] at hi
        cases q : k[i]? with
        | none => rw [q] at hi; cases hi
        | some y => rw [q] at hi; exact ⟨y, rfl, (Option.some.inj hi).symm⟩
      have hil : i < k.length := (List.getElem?_eq_some_iff.mp hy).1
      have hys := hk y (List.mem_of_getElem? hy)
      refine ⟨rfl, yes_of ?_⟩
      refine iteT ?_
      refine ⟨_, rfl, y, rfl, log2_small hys.1 hys.2, _, e, ?_, ?_, g.trans (.set e rfl List.mem_cons_self)⟩
      · rw [List.length_map, List.length_map, List.length_take]
        exact lt_line (by omega)
      · rw [upd_same, List.take_succ, hy, List.map_append, List.map_append]; rfl
    · rintro H2 ⟨e, g⟩
      rw [List.length_map, List.take_length] at e
      refine ⟨_, D', k.map sgn, rfl, rfl, .inl (SqL.of e), ?_, q H2 (g.drop hD')⟩
      rw [sum_sgn hk, List.length_map, s_empty_len]
      omega
  case side5 =>
    obtain ⟨p, v, k, rfl, hp, hv, hk, hkl, q⟩ := q
    obtain ⟨sa, rfl, hsa⟩ := dp_side.mp hv
    refine ⟨⟨_, rfl⟩, .ref sa, (by show some (p 5) = _; rw [hp]), sa, rfl, ⟨_, hsa⟩, fun D' hD' => lc_tup (K := K) (a := sa) (xs := k.map V.int) (fun i H2 => H2 D' = some (.lst (((k.take i).map sgn).map V.str)) ∧ Gw [D'] H H2) ⟨upd_same, .new hD'⟩ (fun i H2 _ ⟨_, g⟩ => g.ext.sqT hsa) ?_ ?_⟩
    · rintro i x H2 hi ⟨e, g⟩
      obtain ⟨y, hy, rfl⟩ : ∃ y, k[i]? = some y ∧ x = .int y := by
        rw [List.getElem?_map] at hi
        cases q : k[i]? with
        | none => rw [q] at hi; cases hi
        | some y => rw [q] at hi; exact ⟨y, rfl, (Option.some.inj hi).symm⟩
      have hil : i < k.length := (List.getElem?_eq_some_iff.mp hy).1
      have hys := hk y (List.mem_of_getElem? hy)
      refine ⟨rfl, yes_of ?_⟩
      refine iteT ?_
      refine ⟨_, rfl, y, rfl, log2_small hys.1 hys.2, _, e, ?_, ?_, g.trans (.set e rfl List.mem_cons_self)⟩
      · rw [List.length_map, List.length_map, List.length_take]
        exact lt_line (by omega)
      · rw [upd_same, List.take_succ, hy, List.map_append, List.map_append]; rfl
    · rintro H2 ⟨e, g⟩
      rw [List.length_map, List.take_length] at e
      refine ⟨_, D', k.map sgn, rfl, rfl, .inl (SqL.of e), ?_, q H2 (g.drop hD')⟩
      rw [sum_sgn hk, List.length_map, s_empty_len]
      omega
  refine ⟨MidW K T, ?_, fun σ' H' hm => rG D σ' H' hD hm⟩
  obtain ⟨r, a, ns, bv, uv, b, c, q, rfl, dr, hv, hb, hu, hc, b2, b4, c4⟩ := hM
  have hb4 := (okB_many hb).2.1
  have e1 : ∀ a b : Str, (a ++ b).length = a.length + b.length := fun a b => Str.length_append a b
  have g1 := s_gt_len
  have hv0 := hv
  obtain ⟨a1, y1, rfl, hs1, hy1⟩ := dp_book.mp hv
  obtain ⟨ar, xs, rfl, hsr, hall⟩ := dp_rules.mp hy1
  have hl : xs.length = b.2.length := by rw [dpAll_length hall, List.length_map]
  refine ⟨_, rfl, a1, _, 1, _, rfl, rfl, hs1, rfl, ar, rfl, ⟨_, hsr⟩, fun D' hD' => lc_tup (K := K) (a := ar) (xs := xs) (fun i H2 => H2 D' = some (.lst (((b.2.take i).map txtR).map V.str)) ∧ Gw [D'] H H2) ⟨upd_same, .new hD'⟩ (fun i H2 _ ⟨_, g⟩ => g.ext.sqT hsr) ?_ ?_⟩
  · rintro i y H2 hi ⟨e, g⟩
    obtain ⟨d, hd1, hd2⟩ := dpAll_get hall hi
    obtain ⟨u, hu1, rfl⟩ : ∃ r, b.2[i]? = some r ∧ d = dRule r := by
      rw [List.getElem?_map] at hd1
      cases q : b.2[i]? with
      | none => rw [q] at hd1; cases hd1
      | some r => rw [q] at hd1; exact ⟨r, rfl, (Option.some.inj hd1).symm⟩
    obtain ⟨pa, v1, v2, rfl, hra, hx1, hx2⟩ := dp_rule.mp (Dp.ext g.ext (still_rule u) hd2)
    obtain ⟨k1, k2, k3, k4⟩ := rule_small hb4 (hb.rl u (List.mem_of_getElem? hu1))
    have l1 := txtS_len k1
    have l2 := txtS_len k2
    have hil : i < b.2.length := (List.getElem?_eq_some_iff.mp hu1).1
    refine ⟨pa, _, rfl, hra, rfl, _, _, rfl, _, _, rfl, rfl, rfl, yes_of ?_⟩
    refine iteT ?_
    refine ⟨fun j => [q 0, some (.ref r), some (.ref a1), some uv, some v1, some v2, none, none, none, none, none, none, none, none, none, none, none, none, none, none, none, none, none][j], v1, u.1, rfl, rfl, hx1, k1, by omega, fun H3 g3 => ⟨_, _, rfl, rfl, small_line (by omega), ?_⟩⟩
    refine ⟨fun j => [q 0, some (.ref r), some (.ref a1), some uv, some v1, some v2, none, none, none, none, none, none, none, none, none, none, none, none, none, none, none, none, none][j], v2, u.2, rfl, rfl, Dp.ext g3.ext (still_side _) hx2, k2, by omega, fun H4 g4 => ⟨_, _, rfl, rfl, small_line (by rw [e1]; omega), ?_⟩⟩
    have e4 := (g3.trans g4).ext.lst e List.not_mem_nil
    refine ⟨_, e4, ?_, ?_, (g.trans (g3.trans g4).more).trans (.set e4 rfl List.mem_cons_self)⟩
    · rw [List.length_map, List.length_map, List.length_take]
      exact lt_line (by omega)
    · rw [upd_same, List.take_succ, hu1, List.map_append, List.map_append]; rfl
  · rintro H2 ⟨e, g⟩
    rw [hl, List.take_length] at e
    have g0 := g.drop hD'
    refine ⟨r, a, D', ns, .ref a1, uv, b, c, fun j => [q 0, none, none][j], rfl, ⟨dr.gw g0, dr.row.ne hD', Dp.ext g0.ext (still_book b) hv0, hb, Dp.ext g0.ext (still_book c) hu, hc, b2, b4, c4, e, fun x hx => ?_, by rw [List.length_map]; omega⟩⟩
    obtain ⟨u, hu1, rfl⟩ := List.mem_map.mp hx
    obtain ⟨k1, k2, k3, k4⟩ := rule_small hb4 (hb.rl u hu1)
    have := txtR_len k1 k2
    omega
end
end SB
/-! KLaw -/
set_option Elab.async false
set_option linter.all false
set_option maxRecDepth 100000
set_option maxHeartbeats 4000000
/-! The law. -/
namespace SB
open PySem PySem.Spec PyProof.Rows L2
def spLaw (K : PySem.W.Frag) (T : List Addr) : Sp := fun vs H Q _ => ∃ (a : Addr) (ns : List Int), vs = [.ref a] ∧ SqL K H a (ns.map V.int) ∧ Tabs T H ∧ ∀ H', Q (.bl true) H'
section
variable {P : Program} {w : World} {K : PySem.W.Frag} {mg : Str → Option Value} {base : Heap} {T : List Addr}
theorem ok_law {f : Addr} {fd : FuncData} (F : FnP K "law" sLaw f fd) (L : LawEnv P w K mg base T) : FnOk P w K mg base CX0 8 f fd ["script"] (spLaw K T) := by
  refine okN F scLaw (fun vs H Q E h => ?_) (fun A outer s H vs Q E hr h => ?_)
  · obtain ⟨a, ns, rfl, _⟩ := h
    rfl
  obtain ⟨tG, hG, rG⟩ := law_rules (f := f) (code := fd.code) (A := A) (outer := outer) (s := s) (H0 := H) (E := E) hr L
  obtain ⟨gB, gdB, BK⟩ := L.book
  obtain ⟨a, ns, rfl, hs, hT0, hq⟩ := h
  refine ⟨_, pss_cons (ps_set (i := 1) scLaw.nd rfl (Or.inl rfl) (pe_fresh (pa_cons (pv 0) (pa_cons pe_int (pa_cons pe_int (pa_cons pe_int pa_nil))))))
    (pss_cons (ps_mid (ps_par (i := 2) (j := 3) rfl scLaw.nd rfl rfl (by decide) rfl rfl (pa_cons (pe_call BK.ok (hr.mono (by decide)) rfl BK.mg_ BK.kp BK.bd .nil pass0 (pa_cons (pv 1) (pa_cons pe_int (pa_cons pe_int pa_nil)))) (pa_cons (pe_call BK.ok (hr.mono (by decide)) rfl BK.mg_ BK.kp BK.bd .nil pass0 (pa_cons (pv 1) (pa_cons pe_int (pa_cons pe_int pa_nil)))) pa_nil)) (by rfl)))
    hG), ?_⟩
  refine ⟨_, rfl, (by show 4 ≤ sizeLine; decide), fun r hr0 hrK => ?_⟩
  have har : a ≠ r := by
    rcases hs with (z | ⟨o, z⟩) | ⟨o, its, n, z, _⟩
    · exact ne_of_none z hr0
    · exact ne_of_none z hr0
    · intro e
      rw [e] at z
      exact nomatch z.symm.trans hrK
  have g0 : Gw [] H (upd H r (.lst [.ref a, .int 0, .int 10401, .int 0])) := .new hr0
  have d0 : Drw K T r a ns (upd H r (.lst [.ref a, .int 0, .int 10401, .int 0])) := ⟨⟨0, 10401, 0, upd_same, by decide, by decide, by decide, by decide⟩, g0.ext.sqL hs List.not_mem_nil, har, g0.tab T hT0⟩
  refine ⟨MidB0 K T, ?_, fun σ' H' hm => rG _ σ' H' (fun H' => hq H') hm⟩
  refine ⟨_, rfl, r, a, ns, rfl, d0.row, d0.scr, d0.ne, d0.tab, fun b bv H1 hb b2 b4 e1 R1 t1 hv => ?_⟩
  have d1 := d0.drawn e1 R1 t1
  refine ⟨_, rfl, r, a, ns, rfl, d1.row, d1.scr, d1.ne, d1.tab, fun c uv H2 hc c2 c4 e2 R2 t2 hu => ?_⟩
  have d2 := d1.drawn e2 R2 t2
  refine ⟨_, _, rfl, ?_⟩
  exact ⟨r, a, ns, bv, uv, b, c, fun j => [some (.ref a)][j], rfl, d2, Dp.ext e2 (still_book b) hv, hb, hu, hc, b2, b4, c4⟩
end
end SB
/-! KHeadA -/
set_option Elab.async false
set_option linter.all false
set_option maxRecDepth 100000
set_option maxHeartbeats 0
namespace SB
open PySem PySem.Spec PyProof.Rows L2
open PySem.W (Frag findIn subIn typeIn keepIn hasDictIn nsIn mroIn codeIn ks_superIn clsIn)
/-! ### what is asked of an own error's class -/
def errAt (K : Frag) (x : Str) : Addr := He.ga K x
def iniAt (K : Frag) (x : Str) : Addr := He.ma K (He.ga K x) "__init__"
abbrev IniW : Type := Option (Str × Str × Arguments × FuncBody × Scope × Addr × Value × Value × Addr × List Str)
/-- the words of the __init__ -/
def iniW (K : Frag) (x : Str) : IniW := match K.lookup (iniAt K x) with
  | some ⟨_, _, .func fd, _⟩ => some (fd.name, fd.qualname, fd.params, fd.body, fd.scope, fd.globals, fd.defaults, fd.kwdefaults, fd.builtins, fd.closure.map (·.1))
  | _ => none
def iniV (qual : Str) (st : Stmt) : IniW := some ("__init__", qual, defArgs st, .stmts (defBody st), defScope st, mainGlobals, .none, .none, builtinsNs, ["__class__"])
/-- its cell holds the class, its code object tells the program's file -/
def iniB (K : Frag) (x qual file : Str) : Bool := match K.lookup (iniAt K x) with
  | some ⟨_, _, .func fd, _⟩ => (match fd.closure, fd.code with
    | [(_, cc)], .ref cda => (match K.lookup cc with
        | some ⟨_, _, .cell (some v), _⟩ => decide (v = .ref (errAt K x))
        | _ => false) && (codeIn K (.ref cda) qual && (match K.lookup cda with
          | some ⟨_, _, .fields vs, _⟩ => (match (vs[2]? : Option Value) with
            | some (Value.str f _) => file == f
            | _ => false)
          | _ => false))
    | _, _ => false)
  | _ => false
def clsB (K : Frag) (C : Addr) : Bool := match K.lookup C with
  | some ⟨.type t, _, .cls cd, sl⟩ => decide (t = "type") && (decide (cd.mro.head? = some (.ref C)) && (decide (sl.size = 6) && (decide (sl[4]? = some (some (.builtin "ValueError.__new__"))) && (!cd.hasDel && (cd.hasDict && PySem.HandSPX.refsVE cd.mro.tail)))))
  | _ => false
theorem clsB_ok {K : Frag} {C : Addr} (h : clsB K C = true) : ∃ nm q N bs bm sn sub ab col dd k0 k1 k2 k3 k5, K.lookup C = some (excClassObj nm q C N bs bm true sn sub ab col dd k0 k1 k2 k3 k5 "ValueError.__new__") ∧ PySem.HandSPX.refsVE bm = true := by
  unfold clsB at h
  cases q : K.lookup C with
  | none => rw [q] at h; cases h
  | some o =>
    rw [q] at h
    obtain ⟨oc, od, dt, sl⟩ := o
    cases oc with
    | type t =>
      cases dt with
      | cls cd =>
        obtain ⟨h1, h2⟩ := Bool.and_eq_true_iff.mp h
        obtain ⟨nm, bs, mro, ns, qn, hd, sn, sb, ab, col, del⟩ := cd
        obtain ⟨g1, g⟩ := Bool.and_eq_true_iff.mp h2
        obtain ⟨g2, g⟩ := Bool.and_eq_true_iff.mp g
        obtain ⟨g3, g⟩ := Bool.and_eq_true_iff.mp g
        obtain ⟨g4, g⟩ := Bool.and_eq_true_iff.mp g
        obtain ⟨g5, g6⟩ := Bool.and_eq_true_iff.mp g
        have e1 : t = "type" := of_decide_eq_true h1
        have e2 : mro.head? = some (.ref C) := of_decide_eq_true g1
        have e3 : sl.size = 6 := of_decide_eq_true g2
        have e4 : sl[4]? = some (some (.builtin "ValueError.__new__")) := of_decide_eq_true g3
        have e5 : del = false := by simpa using g4
        have e6 : hd = true := g5
        obtain ⟨l⟩ := sl
        match l, e3, e4 with
        | [a0, a1, a2, a3, a4, a5], _, e4 =>
          have e7 : a4 = some (.builtin "ValueError.__new__") := by simpa using e4
          match mro, e2, g6 with
          | m :: bm, e2, g6 =>
            have e8 : m = .ref C := by simpa using e2
            subst e1 e5 e6 e7 e8
            exact ⟨nm, qn, ns, bs, bm, sn, sb, ab, col, od, a0, a1, a2, a3, a5, rfl, g6⟩
      | _ => cases h
    | _ => cases dt <;> cases h
def errB (K : Frag) (x fld qual file : Str) : Bool :=
  decide (nsIn K mainGlobals x = some (some (.ref (errAt K x)))) && (clsB K (errAt K x) && (decide (findIn K (.ref (errAt K x)) "__setattr__" = some (some (.builtin "object.__setattr__"))) &&
  (decide (findIn K (.ref (errAt K x)) "__getattribute__" = some (some (.builtin "BaseException.__getattribute__"))) && (decide (findIn K (.ref (errAt K x)) "__getattr__" = some none) &&
  (decide (findIn K (.ref (errAt K x)) fld = some none) && (decide (findIn K (.ref (errAt K x)) "__init__" = some (some (.ref (iniAt K x)))) && (decide (typeIn K (.ref (iniAt K x)) = some (.type "function")) &&
  (keepIn K (.ref (errAt K x)) && (decide (subIn K (.ref (errAt K x)) (.type "BaseException") = some true) && (decide (typeIn K (.ref (errAt K x)) = some (.type "type")) && (hasDictIn K (errAt K x) &&
  (decide (ks_superIn K (errAt K x) (errAt K x) "__init__" = some (some (.builtin "ValueError.__init__"))) && (decide (nsIn K cStatics "thirdparty.any" = some none) && (decide (subIn K (.ref (errAt K x)) (.type "ValueError") = some true) &&
  (decide (mroIn K (errAt K x) (.ref (errAt K x)) = some true) && iniB K x qual file)))))))))))))))
theorem err_ok {P : Program} {K : Frag} {mg : Str → Option Value} {h : Heap} {x fld qual : Str} {st : Stmt} (X : K.In h) (G : h.Ns mainGlobals mg) (hb : errB K x fld qual P.main.file = true) (hw : iniW K x = iniV qual st) :
    PySem.ErrX.ErrTxt P K mg x fld qual st (errAt K x) (iniAt K x) := by
  unfold errB at hb
  obtain ⟨b1, hb⟩ := Bool.and_eq_true_iff.mp hb
  obtain ⟨b2, hb⟩ := Bool.and_eq_true_iff.mp hb
  obtain ⟨b3, hb⟩ := Bool.and_eq_true_iff.mp hb
  obtain ⟨b4, hb⟩ := Bool.and_eq_true_iff.mp hb
  obtain ⟨b5, hb⟩ := Bool.and_eq_true_iff.mp hb
  obtain ⟨b6, hb⟩ := Bool.and_eq_true_iff.mp hb
  obtain ⟨b7, hb⟩ := Bool.and_eq_true_iff.mp hb
  obtain ⟨b8, hb⟩ := Bool.and_eq_true_iff.mp hb
  obtain ⟨b9, hb⟩ := Bool.and_eq_true_iff.mp hb
  obtain ⟨b10, hb⟩ := Bool.and_eq_true_iff.mp hb
  obtain ⟨b11, hb⟩ := Bool.and_eq_true_iff.mp hb
  obtain ⟨b12, hb⟩ := Bool.and_eq_true_iff.mp hb
  obtain ⟨b13, hb⟩ := Bool.and_eq_true_iff.mp hb
  obtain ⟨b14, hb⟩ := Bool.and_eq_true_iff.mp hb
  obtain ⟨b15, hb⟩ := Bool.and_eq_true_iff.mp hb
  obtain ⟨b16, b17⟩ := Bool.and_eq_true_iff.mp hb
  refine ⟨PySem.W.mg_of X G (of_decide_eq_true b1), clsB_ok b2, of_decide_eq_true b3, of_decide_eq_true b4, of_decide_eq_true b5, of_decide_eq_true b6, of_decide_eq_true b7, of_decide_eq_true b8, b9, of_decide_eq_true b10, of_decide_eq_true b11, b12, of_decide_eq_true b13, of_decide_eq_true b14, of_decide_eq_true b15, of_decide_eq_true b16, ?_⟩
  unfold iniB at b17
  unfold iniW iniV at hw
  cases q : K.lookup (iniAt K x) with
  | none => rw [q] at b17; cases b17
  | some o =>
    rw [q] at b17 hw
    obtain ⟨oc, od, dt, osl⟩ := o
    cases dt with
    | func fd =>
      obtain ⟨n1, n2, n3, n4, n5, n6, n7, n8, n9, n10, n11, n12, n13, n14, n15⟩ := fd
      simp only [Option.some.injEq, Prod.mk.injEq] at hw
      obtain ⟨h1, h2, h3, h4, h5, h6, h8, h9, h15, h7⟩ := hw
      subst h1 h2 h3 h4 h5 h6 h8 h9 h15
      simp only at b17
      split at b17
      · rename_i _ _ y cc cda
        obtain ⟨c1, c2⟩ := Bool.and_eq_true_iff.mp b17
        obtain ⟨c3, c4⟩ := Bool.and_eq_true_iff.mp c2
        have ey : y = "__class__" := by simpa using h7
        subst ey
        refine ⟨oc, od, n10, n11, n12, cda, n14, osl, cc, rfl, c3, ?_, ?_⟩
        · cases q2 : K.lookup cda with
          | none => rw [q2] at c4; cases c4
          | some o2 =>
            rw [q2] at c4
            obtain ⟨o2c, o2d, d2, o2s⟩ := o2
            cases d2 with
            | fields vs =>
              simp only at c4
              split at c4
              · rename_i f tf hv
                exact ⟨_, _, vs, _, f, tf, rfl, hv, c4⟩
              · cases c4
            | _ => cases c4
        · cases q2 : K.lookup cc with
          | none => rw [q2] at c1; cases c1
          | some o2 =>
            rw [q2] at c1
            obtain ⟨o2c, o2d, d2, o2s⟩ := o2
            cases d2 with
            | cell v =>
              cases v with
              | none => cases c1
              | some v =>
                have e := of_decide_eq_true c1
                subst e
                exact ⟨_, _, _, rfl⟩
            | _ => cases c1
      · cases b17
    | _ => cases b17
/-! ### the head's look -/
def defD (x : Str) (i : Nat) : He.DefD := ⟨(x, none), x, x, defArgs (top i), defBody (top i), defScope (top i), [], []⟩
def names1 : List PySem.Str := ["ScatterError", "BadBook", "BadOrder", "NotText", "InvalidText", "TooMany", "MOST_LETTERS", "MOST_RULES", "LONGEST_SIDE", "check_book", "is_frame", "is_rule", "is_side", "is_letter", "is_whole", "DIGITS"]
def names2 : List PySem.Str := ["write_book", "write_rule", "write_side", "read_book", "read_many", "read_rule", "read_letters", "next_rule", "skip_spaces", "digit_at", "renamed", "mirrored", "joined", "is_order", "renamed_side"]
def names3 : List PySem.Str := ["_law_taken", "_law_order", "_law_letters", "_law_book", "_law_alike", "_law_pick", "_law_skip", "_law_text_due"]
def names : List PySem.Str := names1 ++ (names2 ++ names3)
def fn1 : List He.DefD := [defD "check_book" 11, defD "is_frame" 12, defD "is_rule" 13, defD "is_side" 14, defD "is_letter" 15, defD "is_whole" 16, defD "write_book" 19, defD "write_rule" 20, defD "write_side" 21, defD "read_book" 22, defD "read_many" 23, defD "read_rule" 24, defD "read_letters" 25, defD "next_rule" 26, defD "skip_spaces" 27, defD "digit_at" 28]
def fn2 : List He.DefD := [defD "renamed" 30, defD "mirrored" 31, defD "joined" 32, defD "is_order" 33, defD "renamed_side" 34, defD "_law_taken" 36, defD "_law_order" 37, defD "_law_letters" 38, defD "_law_book" 39, defD "_law_alike" 40, defD "_law_pick" 41, defD "_law_skip" 42, defD "_law_text_due" 43, defD "law" 44]
def fn : List He.DefD := fn1 ++ fn2
def fa1 : List He.Fa := [.glo "check_book", .glo "is_frame", .glo "is_rule", .glo "is_side", .glo "is_letter", .glo "is_whole", .glo "write_book", .glo "write_rule", .glo "write_side", .glo "read_book", .glo "read_many", .glo "read_rule", .glo "read_letters", .glo "next_rule", .glo "skip_spaces", .glo "digit_at"]
def fa2 : List He.Fa := [.glo "renamed", .glo "mirrored", .glo "joined", .glo "is_order", .glo "renamed_side", .glo "_law_taken", .glo "_law_order", .glo "_law_letters", .glo "_law_book", .glo "_law_alike", .glo "_law_pick", .glo "_law_skip", .glo "_law_text_due", .glo "law"]
def fa3 : List He.Fa := [.free "isinstance", .free "len", .free "all", .free "tuple", .free "list", .free "int", .free "bool", .free "str", .free "set", .free "sorted", .free "max", .free "sum", .free "range", .free "enumerate", .free "super"]
def fa4 : List He.Fa := [.int "MOST_LETTERS" 4, .int "MOST_RULES" 12, .int "LONGEST_SIDE" 3, .str "DIGITS" "0123456789", .exm "InvalidText" "ScatterError" true, .glo "ScatterError"]
def fa : List He.Fa := fa1 ++ (fa2 ++ (fa3 ++ fa4))
def tf : List He.Defn := [("is_side", none), ("is_order", none), ("renamed_side", none)]
abbrev RO : PySem.W.OpenRow := PySem.W.OpenLaw.row PySem.Challenge.rw_scatterbooks_k01_whole_texts
def ex (K : Frag) : Bool := errB K "InvalidText" "place" "InvalidText.__init__" RO.prog.main.file
/-- what K is read off: all that the module's names reach, and the statics -/
def reach (g : Addr → Option Obj) : List Addr := cStatics :: He.asD g 6
def fragY (g : Addr → Option Obj) : Frag := He.frT g (reach g)
abbrev AlY : Type := He.AlT × (Bool × IniW)
def obsY (g : Addr → Option Obj) : AlY := (He.obsT fa fn [] (fragY g), (ex (fragY g) && He.tabsB g tf (fragY g), iniW (fragY g) "InvalidText"))
def valY (w : World) : AlY := (He.valT fn [] w, (true, iniV "InvalidText.__init__" sInvI))
theorem tabs_of {h : Heap} {K : Frag} (hK : ∀ a o, h.get? a = some o → He.emptyTab o = true → K.lookup a = none) (e : He.tabsB h.get? tf K = true) : (∀ p ∈ tf, PySem.W.codeHdIn K (He.cT K p).1 (He.cT K p).2 = true) ∧ (∀ p ∈ tf, K.lookup (He.cT K p).2 = none) ∧ ∀ p ∈ tf, h.get? (He.cT K p).2 = some { cls := .none, data := .fields #[] } := by
  have key : ∀ p ∈ tf, PySem.W.codeHdIn K (He.cT K p).1 (He.cT K p).2 = true ∧ ∃ o, h.get? (He.cT K p).2 = some o ∧ He.emptyTab o = true := fun p hp => by
    obtain ⟨z1, z2⟩ := Bool.and_eq_true_iff.mp (List.all_eq_true.mp e p hp)
    refine ⟨z1, ?_⟩
    cases q : h.get? (He.cT K p).2 with
    | none => rw [q] at z2; cases z2
    | some o => rw [q] at z2; exact ⟨o, rfl, z2⟩
  refine ⟨fun p hp => (key p hp).1, fun p hp => ?_, fun p hp => ?_⟩
  · obtain ⟨_, o, q, z⟩ := key p hp
    exact hK _ o q z
  · obtain ⟨_, o, q, z⟩ := key p hp
    rw [q, He.emptyTab_eq z]
theorem y_of {w : World} {h : Heap} (e : obsY h.get? = valY w) : He.SaysX fa fn [] tf ex w h (fragY h.get?) ∧ iniW (fragY h.get?) "InvalidText" = iniV "InvalidText.__init__" sInvI := by
  unfold obsY valY at e
  obtain ⟨e1, e2⟩ := Prod.mk.inj e
  obtain ⟨e3, e4⟩ := Prod.mk.inj e2
  obtain ⟨e5, e6⟩ := Bool.and_eq_true_iff.mp e3
  obtain ⟨t1, t2, t3⟩ := tabs_of (h := h) (K := fragY h.get?) (fun a o q z => He.frT_none q z) e6
  exact ⟨⟨e1, e5, t1, t2, t3⟩, e4⟩
def hookY : PySem.W.Hook where
  α := AlY
  obs := fun s => obsY s.heap.get?
  val := valY
  says := fun w h => ∃ K : Frag, K.In h ∧ He.SaysX fa fn [] tf ex w h K ∧ iniW K "InvalidText" = iniV "InvalidText.__init__" sInvI
  of := fun _ s e => ⟨fragY s.heap.get?, He.frT_in, y_of e⟩
  keeps := fun _ _ _ ⟨K, hK, c, q⟩ k => ⟨K, PySem.W.Frag.In.keeps hK k, ⟨c.t, c.more, c.hd, c.out, fun p hp => k _ _ (c.empty p hp)⟩, q⟩
def ob (s : PySem.W.SharedT) : AlY := obsY (HandSHeadRun.getT s)
theorem ob_eq (s : PySem.W.SharedT) : ob s = hookY.obs s.abs := by
  have e : HandSHeadRun.getT s = s.abs.heap.get? := funext (HandSHeadRun.getT_eq s)
  unfold ob
  rw [e] <;> rfl
end SB
/-! KHeadB -/
set_option Elab.async false
set_option linter.all false
set_option maxRecDepth 100000
set_option maxHeartbeats 0
namespace SB
open PySem PySem.Spec PyProof.Rows L2
theorem run (w : World) : HandSHeadRun.RunEq RO (PySem.W.view RO.prog [44]) hookY ob 3000 names w := by
  intro os
  kernel_rfl
end SB
/-! KEnd -/
set_option Elab.async false
set_option linter.all false
set_option maxRecDepth 100000
set_option maxHeartbeats 4000000
/-! From the start-up to the law. -/
namespace SB
open PySem PySem.Spec PyProof.Rows L2
theorem code_at {K : PySem.W.Frag} {x : Str} {st : Stmt} {fd : FuncData} (F : FnP K x st (He.fAd K (x, none)) fd) : fd.code = .ref (He.codeOf K (x, none)) := by
  obtain ⟨oc, od, dV, kV, doc, pm, an, cdv, ct, osl, rfl, lk, hcd, _⟩ := F.ex
  obtain ⟨c, rfl⟩ := He.codeIn_ref hcd
  rw [He.codeOf_eq lk rfl]
/-- a def's address, its words, its place in the names, its binding -/
structure Def (K : PySem.W.Frag) (mg : Str → Option Value) (x : Str) (st : Stmt) (f : Addr) (fd : FuncData) : Prop where
  w : FnP K x st f fd
  m : mg x = some (.ref f)
theorem def_of {K : PySem.W.Frag} {h : Heap} {mg : Str → Option Value} (X : K.In h) (G : h.Ns mainGlobals mg) (c : He.SaysD fa fn K) {x : Str} {i : Nat} (h1 : defD x i ∈ fn) (h2 : He.Fa.glo x ∈ fa) : ∃ fd, Def K mg x (top i) (He.fAd K (x, none)) fd := by
  obtain ⟨fd, F⟩ := c.defs h1
  exact ⟨fd, F, He.glo_ok X G (c.facts h2)⟩
theorem Def.at_ {P : Program} {w : World} {K : PySem.W.Frag} {mg : Str → Option Value} {base : Heap} {CX : CXT} {k : Nat} {x : Str} {st : Stmt} {f : Addr} {fd : FuncData} {ps : List Str} {sp : Sp} (D : Def K mg x st f fd) (ok : FnOk P w K mg base CX k f fd ps sp) (b : Binds K fd ps []) : At P w K mg base CX k x ps sp f fd := ⟨ok, D.m, D.w.kp, b⟩
theorem b1 {K : PySem.W.Frag} {x a : Str} {st : Stmt} {f : Addr} {fd : FuncData} (F : FnP K x st f fd) (h : ∀ (kV doc pm : Value) (an : Option Addr) (cdv ct : Value) (u : Value), bindArgs (PySem.W.fnOf x x (defArgs st) (defBody st) (defScope st) .none kV doc pm an cdv ct) ⟨[u], []⟩ = pure [(a, u)]) : Binds K fd [a] [] :=
  F.bindsN fun kV doc pm an cdv ct us hl => match us, hl with | [u], _ => h kV doc pm an cdv ct u
theorem b2 {K : PySem.W.Frag} {x a b : Str} {st : Stmt} {f : Addr} {fd : FuncData} (F : FnP K x st f fd) (h : ∀ (kV doc pm : Value) (an : Option Addr) (cdv ct : Value) (u v : Value), bindArgs (PySem.W.fnOf x x (defArgs st) (defBody st) (defScope st) .none kV doc pm an cdv ct) ⟨[u, v], []⟩ = pure [(a, u), (b, v)]) : Binds K fd [a, b] [] :=
  F.bindsN fun kV doc pm an cdv ct us hl => match us, hl with | [u, v], _ => h kV doc pm an cdv ct u v
theorem b3 {K : PySem.W.Frag} {x a b c : Str} {st : Stmt} {f : Addr} {fd : FuncData} (F : FnP K x st f fd) (h : ∀ (kV doc pm : Value) (an : Option Addr) (cdv ct : Value) (u v z : Value), bindArgs (PySem.W.fnOf x x (defArgs st) (defBody st) (defScope st) .none kV doc pm an cdv ct) ⟨[u, v, z], []⟩ = pure [(a, u), (b, v), (c, z)]) : Binds K fd [a, b, c] [] :=
  F.bindsN fun kV doc pm an cdv ct us hl => match us, hl with | [u, v, z], _ => h kV doc pm an cdv ct u v z
theorem b4 {K : PySem.W.Frag} {x a b c d : Str} {st : Stmt} {f : Addr} {fd : FuncData} (F : FnP K x st f fd) (h : ∀ (kV doc pm : Value) (an : Option Addr) (cdv ct : Value) (u v z y : Value), bindArgs (PySem.W.fnOf x x (defArgs st) (defBody st) (defScope st) .none kV doc pm an cdv ct) ⟨[u, v, z, y], []⟩ = pure [(a, u), (b, v), (c, z), (d, y)]) : Binds K fd [a, b, c, d] [] :=
  F.bindsN fun kV doc pm an cdv ct us hl => match us, hl with | [u, v, z, y], _ => h kV doc pm an cdv ct u v z y
/-- the tables' addresses -/
def tabs (K : PySem.W.Frag) : List Addr := tf.map fun p => (He.cT K p).2
theorem env_of {P : Program} {w : World} {K : PySem.W.Frag} {h base : Heap} {mg : Str → Option Value} (X : K.In h) (G : h.Ns mainGlobals mg) (c : He.SaysD fa fn K) (er : Inv0 P K mg (errAt K "InvalidText") (iniAt K "InvalidText")) (ht : (P.main.scope.names.lookup ("super" : Str)).isSome = false)
    (TB : ∀ p ∈ tf, GxR.TabB base mg (He.cT K p).1 (He.cT K p).2) : LawEnv P w K mg base (tabs K) := by
  have blt : Blt mg := ⟨He.free_ok X G (c.facts (f := .free "isinstance") (by simp [fa, fa3])), He.free_ok X G (c.facts (f := .free "len") (by simp [fa, fa3])), He.free_ok X G (c.facts (f := .free "all") (by simp [fa, fa3])), He.free_ok X G (c.facts (f := .free "tuple") (by simp [fa, fa3])), He.free_ok X G (c.facts (f := .free "list") (by simp [fa, fa3])), He.free_ok X G (c.facts (f := .free "int") (by simp [fa, fa3])), He.free_ok X G (c.facts (f := .free "bool") (by simp [fa, fa3])), He.free_ok X G (c.facts (f := .free "str") (by simp [fa, fa3])), He.free_ok X G (c.facts (f := .free "set") (by simp [fa, fa3])), He.free_ok X G (c.facts (f := .free "sorted") (by simp [fa, fa3])), He.free_ok X G (c.facts (f := .free "max") (by simp [fa, fa3])), He.free_ok X G (c.facts (f := .free "sum") (by simp [fa, fa3])), He.free_ok X G (c.facts (f := .free "range") (by simp [fa, fa3])), He.free_ok X G (c.facts (f := .free "enumerate") (by simp [fa, fa3])), He.free_ok X G (c.facts (f := .free "super") (by simp [fa, fa3]))⟩
  have cst : Cst mg := ⟨He.int_ok X G (c.facts (f := .int "MOST_LETTERS" 4) (by simp [fa, fa4])), He.int_ok X G (c.facts (f := .int "MOST_RULES" 12) (by simp [fa, fa4])), He.int_ok X G (c.facts (f := .int "LONGEST_SIDE" 3) (by simp [fa, fa4])), He.str_ok X G (c.facts (f := .str "DIGITS" "0123456789") (by simp [fa, fa4]))⟩
  obtain ⟨_, D11⟩ := def_of X G c (x := "check_book") (i := 11) (by simp [fn, fn1]) (by simp [fa, fa1])
  obtain ⟨_, D12⟩ := def_of X G c (x := "is_frame") (i := 12) (by simp [fn, fn1]) (by simp [fa, fa1])
  obtain ⟨_, D13⟩ := def_of X G c (x := "is_rule") (i := 13) (by simp [fn, fn1]) (by simp [fa, fa1])
  obtain ⟨_, D14⟩ := def_of X G c (x := "is_side") (i := 14) (by simp [fn, fn1]) (by simp [fa, fa1])
  obtain ⟨_, D15⟩ := def_of X G c (x := "is_letter") (i := 15) (by simp [fn, fn1]) (by simp [fa, fa1])
  obtain ⟨_, D16⟩ := def_of X G c (x := "is_whole") (i := 16) (by simp [fn, fn1]) (by simp [fa, fa1])
  obtain ⟨_, D19⟩ := def_of X G c (x := "write_book") (i := 19) (by simp [fn, fn1]) (by simp [fa, fa1])
  obtain ⟨_, D20⟩ := def_of X G c (x := "write_rule") (i := 20) (by simp [fn, fn1]) (by simp [fa, fa1])
  obtain ⟨_, D21⟩ := def_of X G c (x := "write_side") (i := 21) (by simp [fn, fn1]) (by simp [fa, fa1])
  obtain ⟨_, D22⟩ := def_of X G c (x := "read_book") (i := 22) (by simp [fn, fn1]) (by simp [fa, fa1])
  obtain ⟨_, D23⟩ := def_of X G c (x := "read_many") (i := 23) (by simp [fn, fn1]) (by simp [fa, fa1])
  obtain ⟨_, D24⟩ := def_of X G c (x := "read_rule") (i := 24) (by simp [fn, fn1]) (by simp [fa, fa1])
  obtain ⟨_, D25⟩ := def_of X G c (x := "read_letters") (i := 25) (by simp [fn, fn1]) (by simp [fa, fa1])
  obtain ⟨_, D26⟩ := def_of X G c (x := "next_rule") (i := 26) (by simp [fn, fn1]) (by simp [fa, fa1])
  obtain ⟨_, D27⟩ := def_of X G c (x := "skip_spaces") (i := 27) (by simp [fn, fn1]) (by simp [fa, fa1])
  obtain ⟨_, D28⟩ := def_of X G c (x := "digit_at") (i := 28) (by simp [fn, fn1]) (by simp [fa, fa1])
  obtain ⟨_, D30⟩ := def_of X G c (x := "renamed") (i := 30) (by simp [fn, fn2]) (by simp [fa, fa2])
  obtain ⟨_, D31⟩ := def_of X G c (x := "mirrored") (i := 31) (by simp [fn, fn2]) (by simp [fa, fa2])
  obtain ⟨_, D32⟩ := def_of X G c (x := "joined") (i := 32) (by simp [fn, fn2]) (by simp [fa, fa2])
  obtain ⟨_, D33⟩ := def_of X G c (x := "is_order") (i := 33) (by simp [fn, fn2]) (by simp [fa, fa2])
  obtain ⟨_, D34⟩ := def_of X G c (x := "renamed_side") (i := 34) (by simp [fn, fn2]) (by simp [fa, fa2])
  obtain ⟨_, D36⟩ := def_of X G c (x := "_law_taken") (i := 36) (by simp [fn, fn2]) (by simp [fa, fa2])
  obtain ⟨_, D37⟩ := def_of X G c (x := "_law_order") (i := 37) (by simp [fn, fn2]) (by simp [fa, fa2])
  obtain ⟨_, D38⟩ := def_of X G c (x := "_law_letters") (i := 38) (by simp [fn, fn2]) (by simp [fa, fa2])
  obtain ⟨_, D39⟩ := def_of X G c (x := "_law_book") (i := 39) (by simp [fn, fn2]) (by simp [fa, fa2])
  obtain ⟨_, D40⟩ := def_of X G c (x := "_law_alike") (i := 40) (by simp [fn, fn2]) (by simp [fa, fa2])
  obtain ⟨_, D41⟩ := def_of X G c (x := "_law_pick") (i := 41) (by simp [fn, fn2]) (by simp [fa, fa2])
  obtain ⟨_, D42⟩ := def_of X G c (x := "_law_skip") (i := 42) (by simp [fn, fn2]) (by simp [fa, fa2])
  obtain ⟨_, D43⟩ := def_of X G c (x := "_law_text_due") (i := 43) (by simp [fn, fn2]) (by simp [fa, fa2])
  have A16 : At P w K mg base CX0 1 "is_whole" ["value"] spWhole _ _ := D16.at_ (ok_whole D16.w blt) (b1 D16.w fun _ _ _ _ _ _ _ => rfl)
  have m1 : (He.cT K ("is_side", none)).2 ∈ tabs K := by simp [tabs, tf]
  have m2 : (He.cT K ("is_order", none)).2 ∈ tabs K := by simp [tabs, tf]
  have m3 : (He.cT K ("renamed_side", none)).2 ∈ tabs K := by simp [tabs, tf]
  have A14 : At P w K mg base CX0 4 "is_side" ["value", "many"] (spSide K (tabs K)) _ _ := D14.at_ (ok_side D14.w D15.w D16.w D15.m D16.m blt cst (code_at D14.w) (TB ("is_side", none) (by simp [tf])) m1) (b2 D14.w fun _ _ _ _ _ _ _ _ => rfl)
  have A13 : At P w K mg base CX0 5 "is_rule" ["value", "many"] (spRule K (tabs K)) _ _ := D13.at_ (ok_rule D13.w A14 blt) (b2 D13.w fun _ _ _ _ _ _ _ _ => rfl)
  have A12 : At P w K mg base CX0 2 "is_frame" ["value"] (spFrame K (tabs K)) _ _ := D12.at_ (ok_frame D12.w A16 blt cst) (b1 D12.w fun _ _ _ _ _ _ _ => rfl)
  have A11 : At P w K mg base CX0 6 "check_book" ["book"] (spCheck K (tabs K)) _ _ := D11.at_ (ok_check D11.w A12 A13 blt) (b1 D11.w fun _ _ _ _ _ _ _ => rfl)
  have A21 : At P w K mg base CX0 1 "write_side" ["side"] (spWSide K) _ _ := D21.at_ (ok_wside D21.w blt) (b1 D21.w fun _ _ _ _ _ _ _ => rfl)
  have A20 : At P w K mg base CX0 2 "write_rule" ["rule"] (spWRule K) _ _ := D20.at_ (ok_wrule D20.w A21) (b1 D20.w fun _ _ _ _ _ _ _ => rfl)
  have A28 : At P w K mg base CX0 1 "digit_at" ["text", "at"] spDigit _ _ := D28.at_ (ok_digit D28.w blt cst) (b2 D28.w fun _ _ _ _ _ _ _ _ => rfl)
  have A27 : At P w K mg base CX0 1 "skip_spaces" ["text", "at"] spSkip _ _ := D27.at_ (ok_skip D27.w blt) (b2 D27.w fun _ _ _ _ _ _ _ _ => rfl)
  have A26 : At P w K mg base (L2.CX P w) 3 "next_rule" ["text", "at"] (spNext (errAt K "InvalidText")) _ _ := D26.at_ (ok_next D26.w A27 er blt ht) (b2 D26.w fun _ _ _ _ _ _ _ _ => rfl)
  have A25 : At P w K mg base CX0 2 "read_letters" ["text", "at", "many", "most"] (spRLets K) _ _ := D25.at_ (ok_rlets D25.w A28 blt) (b4 D25.w fun _ _ _ _ _ _ _ _ _ _ => rfl)
  have A24 : At P w K mg base (L2.CX P w) 3 "read_rule" ["text", "at", "many"] (spRRule K (errAt K "InvalidText")) _ _ := D24.at_ (ok_rrule D24.w A25 er blt cst ht) (b3 D24.w fun _ _ _ _ _ _ _ _ _ => rfl)
  have A23 : At P w K mg base (L2.CX P w) 3 "read_many" ["text"] (spMany K (errAt K "InvalidText")) _ _ := D23.at_ (ok_many D23.w A27 A28 er blt cst ht) (b1 D23.w fun _ _ _ _ _ _ _ => rfl)
  have A36 : At P w K mg base CX0 1 "_law_taken" ["row", "many"] (spTaken K (tabs K)) _ _ := D36.at_ (ok_taken D36.w blt) (b2 D36.w fun _ _ _ _ _ _ _ _ => rfl)
  have A37 : At P w K mg base CX0 2 "_law_order" ["row", "many"] (spOrder K (tabs K)) _ _ := D37.at_ (ok_order D37.w A36 blt) (b2 D37.w fun _ _ _ _ _ _ _ _ => rfl)
  have A38 : At P w K mg base CX0 2 "_law_letters" ["row", "many", "long"] (spLetters K (tabs K)) _ _ := D38.at_ (ok_letters D38.w A36 blt) (b3 D38.w fun _ _ _ _ _ _ _ _ _ => rfl)
  have A33 : At P w K mg base CX0 4 "is_order" ["value", "many"] (spIsOrder K (tabs K)) _ _ := D33.at_ (ok_isorder D33.w D15.w D16.w D15.m D16.m blt (code_at D33.w) (TB ("is_order", none) (by simp [tf])) m2) (b2 D33.w fun _ _ _ _ _ _ _ _ => rfl)
  have A34 : At P w K mg base CX0 4 "renamed_side" ["side", "order"] (spRSide K (tabs K)) _ _ := D34.at_ (ok_rside D34.w blt (code_at D34.w) (TB ("renamed_side", none) (by simp [tf])) m3) (b2 D34.w fun _ _ _ _ _ _ _ _ => rfl)
  have A42 : At P w K mg base CX0 1 "_law_skip" ["text", "at"] spSkip _ _ := D42.at_ (ok_lskip D42.w blt) (b2 D42.w fun _ _ _ _ _ _ _ _ => rfl)
  have bA := b2 (a := "found") (b := "due") D40.w fun _ _ _ _ _ _ _ _ => rfl
  exact {
    blt := blt
    taken := ⟨_, _, A36⟩
    order := ⟨_, _, A37⟩
    pick := ⟨_, _, D41.at_ (ok_pick D41.w A36 blt) (b2 D41.w fun _ _ _ _ _ _ _ _ => rfl)⟩
    book := ⟨_, _, D39.at_ (ok_book D39.w A36 A37 A38 blt) (b3 D39.w fun _ _ _ _ _ _ _ _ _ => rfl)⟩
    alike := ⟨_, _, D40.at_ (ok_alike D40.w blt D40.m bA 5) bA⟩
    due := ⟨_, _, D43.at_ (ok_due D43.w A42 blt) (b1 D43.w fun _ _ _ _ _ _ _ => rfl)⟩
    write := ⟨_, _, D19.at_ (ok_wbook D19.w A11 A20) (b1 D19.w fun _ _ _ _ _ _ _ => rfl)⟩
    renamed := ⟨_, _, D30.at_ (ok_renamed D30.w A11 A33 A34 blt) (b2 D30.w fun _ _ _ _ _ _ _ _ => rfl)⟩
    mirrored := ⟨_, _, D31.at_ (ok_mirrored D31.w A11 blt) (b1 D31.w fun _ _ _ _ _ _ _ => rfl)⟩
    joined := ⟨_, _, D32.at_ (ok_joined D32.w A11 blt cst) (b2 D32.w fun _ _ _ _ _ _ _ _ => rfl)⟩
    read := ⟨_, _, errAt K "InvalidText", He.ga K "ScatterError", D22.at_ (ok_readBook D22.w A27 A23 A24 A26 er blt cst ht) (b1 D22.w fun _ _ _ _ _ _ _ => rfl), er.gC, He.glo_ok X G (c.facts (f := .glo "ScatterError") (by simp [fa, fa4])), He.exm_ok (c.facts (f := .exm "InvalidText" "ScatterError" true) (by simp [fa, fa4])), ⟨er.ga, er.gg, er.exC, er.hdC⟩, er.noN⟩ }
end SB
/-! KFin -/
set_option Elab.async false
set_option linter.all false
set_option maxRecDepth 100000
set_option maxHeartbeats 0
open PySem PySem.W PySem.Calls PyProof.Rows
theorem PySem.Challenge.cw_scatterbooks_k01_whole_texts_holds : PySem.Challenge.rw_scatterbooks_k01_whole_texts.Holds := by
  w_on; o_law
  refine HandSHeadRun.head_any (r := OpenLaw.row PySem.Challenge.rw_scatterbooks_k01_whole_texts) (q := view (OpenLaw.row PySem.Challenge.rw_scatterbooks_k01_whole_texts).prog [44]) (H := SB.hookY) (ob := SB.ob) (M := 3000) (loose := SB.names) (d := HandSHeadRun.topDef (OpenLaw.row PySem.Challenge.rw_scatterbooks_k01_whole_texts).prog 44) (kwd := []) SB.ob_eq
    (by kernel_rfl) (fun s => by kernel_rfl) SB.run (by kernel_rfl) (by kernel_rfl) (by kernel_rfl) (by rfl) (by first | assumption | decide +kernel) (by decide +kernel) ⟨rfl, rfl, rfl, rfl, rfl, by decide +kernel⟩ ?hw ?hc
  case hw => w_witness2
  case hc =>
    refine LamX.walk_ofTsE (l := PySem.Challenge.rw_scatterbooks_k01_whole_texts) (n := 63) (k := 8) (x := "script") (CX := fun _ => L2.CX0) rfl (by decide) (by kernel_rfl) ⟨rfl, by decide, by decide⟩ ?F (fun _ _ _ _ _ z => z)
    intro w mg fa h Y G hmg0
    obtain ⟨K, KX, c, hini⟩ := Y
    have hmg : mg ("law" : PySem.Str) = some (.ref fa) := by
      have e : (HandSHeadRun.topDef (OpenLaw.row PySem.Challenge.rw_scatterbooks_k01_whole_texts).prog 44).name = ("law" : PySem.Str) := by kernel_rfl
      rw [← e]
      exact hmg0
    obtain ⟨fd, D⟩ := SB.def_of KX G c.t.d (x := "law") (i := 44) (by simp [SB.fn, SB.fn2]) (by simp [SB.fa, SB.fa2])
    have e := hmg.symm.trans D.m
    injection e with e
    injection e with e
    subst e
    have er := SB.err_ok (P := PySem.Challenge.rw_scatterbooks_k01_whole_texts.prog) KX G c.more hini
    refine ⟨K, KX, fd, SB.tf.map (He.cT K), SB.spLaw K (SB.tabs K), ?_, ?_, ?_, ?_, ?_, ?_⟩
    · intro p hp
      obtain ⟨x, hx, rfl⟩ := List.mem_map.mp hp
      exact c.empty x hx
    · intro p hp
      obtain ⟨x, hx, rfl⟩ := List.mem_map.mp hp
      exact c.out x hx
    · intro p hp
      obtain ⟨x, hx, rfl⟩ := List.mem_map.mp hp
      exact PySem.W.codeHd_of_K KX (c.hd x hx)
    · intro s u
      exact L2.FunD.bindsA (ps := ["script"]) D.w (fun kV doc pm an cdv ct us hl => match us, hl with | [_], _ => rfl) s [u] rfl
    · intro H a ns _ _ hH hS
      refine ⟨a, ns, rfl, hS, fun P hP => ?_, fun _ => rfl⟩
      obtain ⟨x, hx, rfl⟩ := List.mem_map.mp hP
      exact ⟨#[], hH _ (List.mem_map.mpr ⟨x, hx, rfl⟩), trivial⟩
    · intro base KB GB TB
      exact SB.ok_law D.w (SB.env_of KB GB c.t.d er (by decide +kernel) fun p hp => (fun t => ⟨t.code, t.bm, t.gP⟩) (TB _ (List.mem_map.mpr ⟨p, hp, rfl⟩)))
