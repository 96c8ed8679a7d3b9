/-
  Types: which are the same, purely.
  Types: a set of pairs of places, as a map.
-/
import Derived.Test.YthmldhppmpbadaaTp3
import Derived.Test.YthmldhppmpbadaaY4
namespace Go.Proofs.Ythmldhppmpbadaa.Ty
open Go.RowKit hiding Hid
open Go.Proofs.Ythmldhppmpbadaa.Tx Go.Proofs.Ythmldhppmpbadaa.Lx Go.Proofs.Ythmldhppmpbadaa.Tr
set_option linter.unusedVariables false
set_option linter.unusedSimpArgs false

/- A pair, the lower place first. -/
def mmP (a b : Int) : Int × Int := (min a b, max a b)
theorem mmP_comm (a b : Int) : mmP a b = mmP b a := by unfold mmP; rw [Int.min_comm, Int.max_comm]
theorem mmP_self (a : Int) : mmP a a = (a, a) := by unfold mmP; rw [Int.min_self, Int.max_self]
theorem mmP_or (a b : Int) : mmP a b = (a, b) ∨ mmP a b = (b, a) := by
  unfold mmP
  rcases Int.le_total a b with h | h
  · exact .inl (by rw [Int.min_eq_left h, Int.max_eq_right h])
  · exact .inr (by rw [Int.min_eq_right h, Int.max_eq_left h])
/- What two lists of parameters ask for. -/
def askL : List Pm → List Pm → Option (List (Int × Int))
  | [], [] => some []
  | p :: l, q :: m => if p.v = q.v then (askL l m).map ((p.t, q.t) :: ·) else none
  | _, _ => none
def byN (x : Tt) : Bool := x.fm != 9 && x.fm != 11
/- Whether two types at two places may be the same, and what that asks for. -/
def alF (x y : Tt) : Option (List (Int × Int)) :=
  if x.fm = 11 ∧ y.fm = 11 then (askL x.pm y.pm).map (· ++ [(x.rs, y.rs)])
  else if x.nm ≠ [] ∨ y.nm ≠ [] then (if x.md = y.md ∧ x.nm = y.nm ∧ byN x = true ∧ byN y = true then some [] else none)
  else if x.fm ≠ y.fm ∨ x.ln ≠ y.ln then none
  else if x.fm = 7 ∨ x.fm = 8 ∨ x.fm = 10 then some [(x.el, y.el)] else none
def alA (T : List Tt) (a b : Int) : Option (List (Int × Int)) := match T[a.toNat]?, T[b.toNat]? with
  | some x, some y => alF x y
  | _, _ => none
theorem alA_at {T : List Tt} {a b : Nat} {x y : Tt} (hx : T[a]? = some x) (hy : T[b]? = some y) : alA T (a : Int) (b : Int) = alF x y := by
  unfold alA
  rw [Int.toNat_natCast, Int.toNat_natCast, hx, hy]
/- Pairs that are the same if all of them are. -/
def Clo (T : List Tt) (R : Int × Int → Prop) : Prop := ∀ p, R p → p.1 ≠ p.2 → ∃ l, alA T p.1 p.2 = some l ∧ ∀ c ∈ l, R (mmP c.1 c.2)
def SameP (T : List Tt) (a b : Int) : Prop := ∃ R, Clo T R ∧ R (mmP a b)
theorem SameP.symm {T : List Tt} {a b : Int} (h : SameP T a b) : SameP T b a := by
  obtain ⟨R, h1, h2⟩ := h
  exact ⟨R, h1, by rw [mmP_comm]; exact h2⟩
theorem SameP.refl (T : List Tt) (a : Int) : SameP T a a := ⟨fun p => p.1 = p.2, fun p h hn => absurd h hn, by show (mmP a a).1 = (mmP a a).2; rw [mmP_self]⟩
theorem SameP.step {T : List Tt} {a b : Int} (h : SameP T a b) (hn : a ≠ b) : ∃ l, alA T (mmP a b).1 (mmP a b).2 = some l ∧ ∀ c ∈ l, SameP T c.1 c.2 := by
  obtain ⟨R, h1, h2⟩ := h
  obtain ⟨l, e, hc⟩ := h1 _ h2 (by rcases mmP_or a b with e | e <;> rw [e] <;> first | exact hn | exact Ne.symm hn)
  exact ⟨l, e, fun c hm => ⟨R, h1, hc c hm⟩⟩
/- Records are the same only at one place. -/
theorem alF_rec {x y : Tt} (h : x.fm = 9 ∨ y.fm = 9) : alF x y = none := by
  unfold alF
  rw [if_neg (by rintro ⟨h1, h2⟩; rcases h with h | h <;> omega)]
  by_cases hn : x.nm ≠ [] ∨ y.nm ≠ []
  · rw [if_pos hn, if_neg]
    rintro ⟨_, _, h1, h2⟩
    unfold byN at h1 h2
    rcases h with h | h <;> simp [h] at h1 h2
  · rw [if_neg hn]
    by_cases h2 : x.fm ≠ y.fm ∨ x.ln ≠ y.ln
    · rw [if_pos h2]
    · rw [if_neg h2, if_neg]
      have h3 : x.fm = y.fm := Classical.byContradiction fun c => h2 (.inl c)
      rcases h with h | h <;> omega
theorem SameP.rec {T : List Tt} {a b : Nat} {x y : Tt} (h : SameP T (a : Int) (b : Int)) (hx : T[a]? = some x) (hy : T[b]? = some y) (hf : x.fm = 9 ∨ y.fm = 9) : a = b := by
  refine Classical.byContradiction fun c => ?_
  obtain ⟨l, e, _⟩ := h.step (by omega)
  rcases mmP_or (a : Int) (b : Int) with e1 | e1
  · rw [e1] at e
    dsimp only at e
    rw [alA_at hx hy, alF_rec hf] at e
    cases e
  · rw [e1] at e
    dsimp only at e
    rw [alA_at hy hx, alF_rec hf.symm] at e
    cases e
/- What is asked for lies among the parts. -/
theorem askL_parts : ∀ {l m : List Pm} {r : List (Int × Int)}, askL l m = some r → ∀ c ∈ r, c.1 ∈ l.map (·.t) ∧ c.2 ∈ m.map (·.t)
  | [], [], r, h, c, hc => by cases h; cases hc
  | p :: l, q :: m, r, h, c, hc => by
    unfold askL at h
    split at h
    · cases h1 : askL l m with
      | none => rw [h1] at h; cases h
      | some r1 =>
        rw [h1] at h
        cases h
        rcases List.mem_cons.1 hc with rfl | hc
        · exact ⟨.head _, .head _⟩
        · exact ⟨.tail _ (askL_parts h1 c hc).1, .tail _ (askL_parts h1 c hc).2⟩
    · cases h
  | [], _ :: _, r, h, c, hc => by cases h
  | _ :: _, [], r, h, c, hc => by cases h
/- The run: what was asked, what is open of it. -/
structure Run (T : List Tt) (p0 : Int × Int) (A O : List (Int × Int)) : Prop where
  sub : ∀ p ∈ O, p ∈ A
  hd : p0 ∈ A
  all : ∀ R, Clo T R → R p0 → ∀ p ∈ A, R p
  done : ∀ p ∈ A, p ∉ O → p.1 ≠ p.2 → ∃ l, alA T p.1 p.2 = some l ∧ ∀ c ∈ l, mmP c.1 c.2 ∈ A
theorem Run.start (T : List Tt) (p0 : Int × Int) : Run T p0 [p0] [p0] := ⟨fun _ h => h, .head _, fun R _ h p hp => by rw [List.mem_singleton] at hp; subst hp; exact h, fun p h hn => absurd h hn⟩
theorem Run.yes {T : List Tt} {a b : Int} {A : List (Int × Int)} (h : Run T (mmP a b) A []) : SameP T a b := ⟨fun p => p ∈ A, fun p hp hn => h.done p hp (by simp) hn, h.hd⟩
theorem Run.no {T : List Tt} {a b : Int} {A O : List (Int × Int)} (h : Run T (mmP a b) A O) {p : Int × Int} (hp : p ∈ A) (hn : p.1 ≠ p.2) (ha : alA T p.1 p.2 = none) : ¬ SameP T a b := by
  rintro ⟨R, h1, h2⟩
  obtain ⟨l, e, _⟩ := h1 p (h.all R h1 h2 p hp) hn
  rw [ha] at e
  cases e
/- Asked pairs, one behind the other. -/
def askS (A O : List (Int × Int)) (p : Int × Int) : List (Int × Int) × List (Int × Int) := if p ∈ A then (A, O) else (A ++ [p], O ++ [p])
def askAll : List (Int × Int) → List (Int × Int) → List (Int × Int) → List (Int × Int) × List (Int × Int)
  | A, O, [] => (A, O)
  | A, O, c :: l => askAll (askS A O (mmP c.1 c.2)).1 (askS A O (mmP c.1 c.2)).2 l
structure Grew (A O A' O' : List (Int × Int)) (l : List (Int × Int)) : Prop where
  old : ∀ p ∈ A, p ∈ A'
  got : ∀ c ∈ l, mmP c.1 c.2 ∈ A'
  frm : ∀ p ∈ A', p ∈ A ∨ ∃ c ∈ l, p = mmP c.1 c.2
  opn : ∀ p ∈ A', p ∈ A ∨ p ∈ O'
  keep : ∀ p ∈ O, p ∈ O'
  sub : (∀ p ∈ O, p ∈ A) → ∀ p ∈ O', p ∈ A'
theorem askS_grew (A O : List (Int × Int)) (c : Int × Int) : Grew A O (askS A O (mmP c.1 c.2)).1 (askS A O (mmP c.1 c.2)).2 [c] := by
  unfold askS
  by_cases h : mmP c.1 c.2 ∈ A
  · rw [if_pos h]
    exact ⟨fun _ h => h, fun d hd => by rw [List.mem_singleton] at hd; subst hd; exact h, fun p h => .inl h, fun p h => .inl h, fun _ h => h, fun h => h⟩
  · rw [if_neg h]
    refine ⟨fun p h => List.mem_append.2 (.inl h), fun d hd => by rw [List.mem_singleton] at hd; subst hd; exact List.mem_append.2 (.inr (.head _)), fun p h => ?_, fun p h => ?_, fun p h => List.mem_append.2 (.inl h), fun h p hp => ?_⟩
    · rcases List.mem_append.1 h with h | h
      · exact .inl h
      · rw [List.mem_singleton] at h
        exact .inr ⟨c, .head _, h⟩
    · rcases List.mem_append.1 h with h | h
      · exact .inl h
      · exact .inr (List.mem_append.2 (.inr h))
    · rcases List.mem_append.1 hp with hp | hp
      · exact List.mem_append.2 (.inl (h p hp))
      · exact List.mem_append.2 (.inr hp)
theorem askAll_grew : ∀ (l A O : List (Int × Int)), Grew A O (askAll A O l).1 (askAll A O l).2 l
  | [], A, O => ⟨fun _ h => h, fun c h => (by cases h), fun p h => .inl h, fun p h => .inl h, fun _ h => h, fun h => h⟩
  | c :: l, A, O => by
    have g1 := askS_grew A O c
    have g2 := askAll_grew l (askS A O (mmP c.1 c.2)).1 (askS A O (mmP c.1 c.2)).2
    unfold askAll
    refine ⟨fun p h => g2.old _ (g1.old _ h), fun d hd => ?_, fun p h => ?_, fun p h => ?_, fun p h => g2.keep _ (g1.keep _ h), fun h => g2.sub (g1.sub h)⟩
    · rcases List.mem_cons.1 hd with rfl | hd
      · exact g2.old _ (g1.got _ (.head _))
      · exact g2.got _ hd
    · rcases g2.frm p h with h | ⟨d, hd, e⟩
      · rcases g1.frm p h with h | ⟨d, hd, e⟩
        · exact .inl h
        · rw [List.mem_singleton] at hd
          subst hd
          exact .inr ⟨_, .head _, e⟩
      · exact .inr ⟨d, .tail _ hd, e⟩
    · rcases g2.opn p h with h | h
      · rcases g1.opn p h with h | h
        · exact .inl h
        · exact .inr (g2.keep _ h)
      · exact .inr h
/- A pair is taken from the open ones, and what it asks for is asked. -/
theorem Run.next {T : List Tt} {p0 p : Int × Int} {A O : List (Int × Int)} (h : Run T p0 A (O ++ [p])) {l : List (Int × Int)} (hl : p.1 = p.2 ∧ l = [] ∨ p.1 ≠ p.2 ∧ alA T p.1 p.2 = some l) : Run T p0 (askAll A O l).1 (askAll A O l).2 := by
  have g := askAll_grew l A O
  have hpA := h.sub p (List.mem_append.2 (.inr (.head _)))
  refine ⟨g.sub (fun x hx => h.sub x (List.mem_append.2 (.inl hx))), g.old _ h.hd, fun R h1 h2 x hx => ?_, fun x hx hn hne => ?_⟩
  · rcases g.frm x hx with hx | ⟨c, hc, rfl⟩
    · exact h.all R h1 h2 x hx
    · rcases hl with ⟨_, rfl⟩ | ⟨hne, hal⟩
      · cases hc
      · obtain ⟨l', e, hcl⟩ := h1 p (h.all R h1 h2 p hpA) hne
        rw [hal] at e
        cases e
        exact hcl c hc
  · rcases g.opn x hx with hx | hx
    · by_cases hxp : x = p
      · subst hxp
        rcases hl with ⟨he, _⟩ | ⟨_, hal⟩
        · exact absurd he hne
        · exact ⟨l, hal, g.got⟩
      · obtain ⟨l', e, hc⟩ := h.done x hx (fun ho => by
          rcases List.mem_append.1 ho with ho | ho
          · exact hn (g.keep _ ho)
          · rw [List.mem_singleton] at ho
            exact hxp ho) hne
        exact ⟨l', e, fun c hm => g.old _ (hc c hm)⟩
    · exact absurd hx hn
end Go.Proofs.Ythmldhppmpbadaa.Ty
namespace Go.Proofs.Ythmldhppmpbadaa.Ty
open Go.RowKit hiding Hid
open Go.Maps Go.Proofs.Ythmldhppmpbadaa.Tx Go.Proofs.Ythmldhppmpbadaa.Lx Go.Proofs.Ythmldhppmpbadaa.Tr Go.Proofs.Ythmldhppmpbadaa.Mp
set_option linter.unusedVariables false
set_option linter.unusedSimpArgs false
set_option maxRecDepth 100000

abbrev Pk := Int × Int
def pairV (k : Pk) : Value := .agg #[.int .i64 k.1, .int .i64 k.2]
theorem pairV_inj {x y : Pk} (h : pairV x = pairV y) : x = y := by
  obtain ⟨a, b⟩ := x
  obtain ⟨d, e⟩ := y
  simp only [pairV, Value.agg.injEq] at h
  have h0 := congrArg (fun l : Array Value => l[0]?) h
  have h1 := congrArg (fun l : Array Value => l[1]?) h
  simp at h0 h1
  rw [h0, h1]
def i64ok (n : Int) : Prop := -9223372036854775808 ≤ n ∧ n ≤ 9223372036854775807
def pkok (x : Pk) : Prop := i64ok x.1 ∧ i64ok x.2
theorem LKp : Keyed Try.prog 104 := Keyed.of_law (deep_law_laid laidO (m := 2) (by omega) (of_decide_eq_true (by kernel_rfl)) (by kernel_rfl) (by rw [Try.underlying104]))
theorem keyT_p : Try.prog.keyType 104 = true := by kernel_rfl
theorem cells_p : Try.prog.cellsOf 104 = 2 := by kernel_rfl
theorem isK_pr {x : Pk} (h : pkok x) : IsK Try.prog 104 (pairV x) := by
  obtain ⟨n, hn⟩ := types_size
  obtain ⟨h1, h2⟩ := h
  have hw : (Lit.int .i64 x.1).wf = true := by simp only [Lit.wf, Bool.and_eq_true, decide_eq_true_eq]; exact h1
  have hz : (Lit.int .i64 x.2).wf = true := by simp only [Lit.wf, Bool.and_eq_true, decide_eq_true_eq]; exact h2
  have hf : (pairV x).formed Try.prog 104 = true := by simp [pairV, Value.formed, Try.underlying104, cells_p]
  have hl : Try.prog.keyLits (n + 2) 104 [.int .i64 x.1, .int .i64 x.2] = some [.int .i64 x.1, .int .i64 x.2] := by
    simp [Program.keyLits, Try.underlying104, cells_p, cells_i, Try.underlying3, show List.range 2 = [0, 1] from rfl, hw, hz]
  refine ⟨.string (keyBytes [.int .i64 x.1, .int .i64 x.2]), ?_⟩
  unfold keyOf
  rw [Try.underlying104]
  show (if Try.prog.keyType 104 && (pairV x).formed Try.prog 104 then (Try.prog.keyLits (Try.prog.types.size + 1) 104 [.int .i64 x.1, .int .i64 x.2]).map (fun ls => Lit.string (keyBytes ls)) else none) = _
  rw [keyT_p, hf, hn, hl]
  rfl
/- A set of them. -/
structure MapP (w : World) (b : Nat) (E : List Pk) : Prop where
  ok : ∀ k ∈ E, pkok k
  ml : MapL Try.prog 104 w b (E.map (fun k => (pairV k, .agg #[])))
theorem MapP.made (w : World) : MapP (w.alloc (.map #[] 0)) w.heap.size [] := ⟨by simp, MapL.made _ _⟩
theorem stabP (b : Nat) (E : List Pk) : Stab b (fun W => MapP W b E) := fun w w' row hg hne h => ⟨h.ok, h.ml.kept hg hne⟩
theorem MapP.yes {w : World} {b : Nat} {E : List Pk} (h : MapP w b E) {k : Pk} (hk : k ∈ E) : (Instr.lookup 98 (.map (some b)) (pairV k) true).run Try.prog w = .ok (.tuple #[.agg #[], .bool true]) w :=
  h.ml.look_ok LKp Try.underlying98 (zero_0 w) (isK_pr (h.ok k hk)) (v := .agg #[]) (List.mem_map.2 ⟨k, hk, rfl⟩) (fun p hp _ => by
    obtain ⟨q, _, rfl⟩ := List.mem_map.1 hp
    rfl)
theorem MapP.no {w : World} {b : Nat} {E : List Pk} (h : MapP w b E) {k : Pk} (ho : pkok k) (hk : k ∉ E) : (Instr.lookup 98 (.map (some b)) (pairV k) true).run Try.prog w = .ok (.tuple #[.agg #[], .bool false]) w :=
  h.ml.look_no LKp Try.underlying98 (zero_0 w) (isK_pr ho) (fun p hp e => by
    obtain ⟨q, hq, rfl⟩ := List.mem_map.1 hp
    exact hk (by rw [← pairV_inj e]; exact hq))
theorem MapP.put {w : World} {b : Nat} {E : List Pk} (h : MapP w b E) {k : Pk} (ho : pkok k) (hn : E.length < 1000000) : ∃ w', (Instr.mapUpdate 98 (.map (some b)) (pairV k) (.agg #[])).run Try.prog w = .ok () w' ∧ MapP w' b (E ++ [k]) ∧ w.grownBy w' (some b) := by
  obtain ⟨w', h1, h2, h3⟩ := h.ml.update LKp Try.underlying98 (by simpa using hn) (isK_pr ho) (val := .agg #[])
  refine ⟨w', h1, ⟨fun q hq => ?_, ?_⟩, h3⟩
  · rcases List.mem_append.1 hq with hq | hq
    · exact h.ok q hq
    · rw [List.mem_singleton] at hq; subst hq; exact ho
  · rw [List.map_append]
    exact h2
end Go.Proofs.Ythmldhppmpbadaa.Ty
