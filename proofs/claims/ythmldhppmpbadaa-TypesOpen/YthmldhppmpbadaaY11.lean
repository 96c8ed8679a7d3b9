/-
  Types' laws, purely: the order of what extends.
  Types' laws: TypesOrder, walked.
-/
import Derived.Test.YthmldhppmpbadaaTs19
namespace Go.Proofs.Ythmldhppmpbadaa.Ty
open Go.RowKit hiding Hid
open Go.Maps Go.Proofs.Ythmldhppmpbadaa.Tx Go.Proofs.Ythmldhppmpbadaa.Lx Go.Proofs.Ythmldhppmpbadaa.Tr Go.Proofs.Ythmldhppmpbadaa.Mp
set_option linter.unusedVariables false
set_option linter.unusedSimpArgs false

theorem fm9_lt {T : List Tt} {a : Int} (h : fmA T a = 9) : ∃ i : Nat, a = i ∧ i < T.length := by
  obtain ⟨h0, h1, _⟩ := fmA_in (T := T) (a := a) (by rw [h]; decide)
  exact ⟨a.toNat, by omega, by omega⟩
theorem itb_lv {T : List Tt} (G : GoodP T) : ∀ (k n a b : Nat), fmA T (a : Int) = 9 → fmA T (b : Int) = 9 → Lv T n a → itb T k a = b → ∃ m, Lv T m b ∧ m + k = n
  | 0, n, a, b, ha, hb, hl, h => by
    have h' : (a : Int) = b := h
    obtain rfl : a = b := by omega
    exact ⟨n, hl, rfl⟩
  | k + 1, n, a, b, ha, hb, hl, h => by
    have h' : itb T k (bsA T a) = b := h
    rcases bs_next G ha with h0 | h9
    · rw [h0, itb_zero G] at h'
      rw [← h', fm_zero G] at hb
      cases hb
    · obtain ⟨q, hq, _⟩ := bs_plc G ha
      rw [hq] at h9 h'
      obtain ⟨m, hm, hlm⟩ := lv_down G hl hq h9
      obtain ⟨m2, h2, h3⟩ := itb_lv G k m q b h9 hb hlm h'
      exact ⟨m2, h2, by omega⟩
theorem ExR.lev {T : List Tt} (G : GoodP T) {a b n m : Nat} (h : ExR T a b) (ha : Lv T n a) (hb : Lv T m b) : m ≤ n := by
  obtain ⟨h1, h2, k, hk⟩ := h
  obtain ⟨m2, h3, h4⟩ := itb_lv G k n a b h1 h2 ha hk
  obtain rfl := hb.one h3
  omega
theorem ExR.anti {T : List Tt} (G : GoodP T) {a b : Nat} (h : ExR T a b) (h' : ExR T b a) : a = b := by
  obtain ⟨h1, h2, k, hk⟩ := h
  obtain ⟨_, _, j, hj⟩ := h'
  obtain ⟨i, e1, hi⟩ := fm9_lt h1
  obtain rfl : a = i := by omega
  obtain ⟨n, _, hn⟩ := lv_all G hi
  obtain ⟨m, hm, e2⟩ := itb_lv G k n a b h1 h2 hn hk
  obtain ⟨n2, hn2, e3⟩ := itb_lv G j m b a h2 h1 hm hj
  obtain rfl := hn.one hn2
  obtain rfl : k = 0 := by omega
  have : (a : Int) = b := hk
  omega
theorem itb_next (T : List Tt) : ∀ (k : Nat) (a : Int), itb T (k + 1) a = bsA T (itb T k a)
  | 0, a => rfl
  | k + 1, a => itb_next T k (bsA T a)
theorem ExR.base {T : List Tt} (G : GoodP T) {a : Int} {b : Nat} (h : ExR T a b) (hn : bsA T b ≠ 0) : ExR T a (bsA T b) := by
  obtain ⟨h1, h2, k, hk⟩ := h
  rcases bs_next G h2 with h0 | h9
  · exact absurd h0 hn
  · exact ⟨h1, h9, k + 1, by rw [itb_next, hk]⟩
theorem ExA.form {T : List Tt} {a b : Int} (h : ExA T a b) : (fmA T a = 10 ∧ fmA T b = 10) ∨ (fmA T a = 9 ∧ fmA T b = 9) := by
  rcases h with ⟨h1, h2, _⟩ | ⟨h1, h2, _⟩
  · exact .inl ⟨h1, h2⟩
  · exact .inr ⟨h1, h2⟩
theorem ExA.rec {T : List Tt} {a b : Int} (h9 : fmA T a = 9 ∨ fmA T b = 9) : ExA T a b ↔ ExR T a b := by
  constructor
  · rintro (⟨h1, h2, _⟩ | h)
    · rcases h9 with h | h
      · rw [h1] at h; cases h
      · rw [h2] at h; cases h
    · exact h
  · exact .inr
/- What extends is assigned. -/
theorem ExA.asg {T : List Tt} {a b : Int} (h : ExA T a b) : AsgA T a b := by
  refine ⟨?_, .inr (.inl h)⟩
  rcases h.form with ⟨_, h⟩ | ⟨_, h⟩ <;> (rw [h]; decide)
/- Of a record: it extends what extends it just where they are the same. -/
theorem ExA.back {T : List Tt} (G : GoodP T) {a b : Nat} (ha : fmA T (a : Int) = 9) (h : ExA T a b) : ExA T b a ↔ SameP T a b := by
  have h1 := (ExA.rec (.inl ha)).1 h
  constructor
  · intro h'
    have h2 := (ExA.rec (.inr ha)).1 h'
    rw [h1.anti G h2]
    exact SameP.refl _ _
  · intro hs
    obtain rfl := same_rec ha hs h1.2.1
    exact .inr (ExR.refl ha)
theorem ExA.level {T : List Tt} (G : GoodP T) {a b : Nat} (h : ExA T a b) {n m : Nat} (ha : Lv T n (topA T a).toNat) (hb : Lv T m (topA T b).toNat) : m ≤ n := by
  rcases h with ⟨h1, h2, h⟩ | h
  · unfold topA at ha hb
    rw [if_pos h1] at ha
    rw [if_pos h2] at hb
    obtain ⟨i, e1, _⟩ := fm9_lt h.1
    obtain ⟨j, e2, _⟩ := fm9_lt h.2.1
    rw [e1, e2] at h
    rw [e1] at ha
    rw [e2] at hb
    exact h.lev G ha hb
  · unfold topA at ha hb
    rw [if_neg (by rw [h.1]; decide)] at ha
    rw [if_neg (by rw [h.2.1]; decide)] at hb
    exact h.lev G ha hb
theorem ExA.base {T : List Tt} (G : GoodP T) {a b : Nat} (h : ExA T a b) (hb : fmA T (b : Int) = 9) (hn : bsA T b ≠ 0) : ExA T a (bsA T b) :=
  .inr (((ExA.rec (.inr hb)).1 h).base G hn)
end Go.Proofs.Ythmldhppmpbadaa.Ty
namespace Go.Proofs.Ythmldhppmpbadaa.Ty
open Go.RowKit hiding Hid
open Go.Maps Go.Proofs.Ythmldhppmpbadaa.Tx Go.Proofs.Ythmldhppmpbadaa.Lx Go.Proofs.Ythmldhppmpbadaa.Tr Go.Proofs.Ythmldhppmpbadaa.Mp
set_option linter.unusedVariables false
set_option linter.unusedSimpArgs false
set_option maxRecDepth 100000

theorem snd_2 {T : List Tt} (G : GoodP T) {i j : Nat} (hi : i < T.length) (hj : j < T.length) : Snd T [(i : Int), (j : Int)] := ⟨fun c hc => by
  simp only [List.mem_cons, List.not_mem_nil, or_false] at hc
  rcases hc with rfl | rfl
  · exact inT_of hi
  · exact inT_of hj, G⟩
theorem snd_1 {T : List Tt} (G : GoodP T) {i : Nat} (hi : i < T.length) : Snd T [(i : Int)] := ⟨fun c hc => by
  simp only [List.mem_cons, List.not_mem_nil, or_false] at hc
  rw [hc]; exact inT_of hi, G⟩
theorem bq_v {P Q : Prop} {w w' : World} {e : Ending} {s : Bool} (hq : Q) (hs : s = true ↔ P) (h : BQ (Q ∧ P) w e w') : SzO w (.bool s) e w' := by
  obtain ⟨r, h1, h2, h3⟩ := h
  obtain rfl : r = s := by cases r <;> cases s <;> simp_all
  exact ⟨h1, h2⟩
theorem same_v {w : World} {o : Option Addr} {T : List Tt} {cp : Nat} (H : Tab w o T) (hcp : T.length ≤ cp) (G : GoodP T) {i j : Nat} (hi : i < T.length) (hj : j < T.length) {s : Bool} (hs : s = true ↔ SameP T i j) : Calls Try.prog 27 #[.slice o T.length cp, .int .i64 i, .int .i64 j] w (SzO w (.bool s)) :=
  (psame_at cp H hcp i j).mono fun e w' h => bq_v (snd_2 G hi hj) hs h
theorem ext_v {w : World} {o : Option Addr} {T : List Tt} {cp : Nat} (H : Tab w o T) (hcp : T.length ≤ cp) (G : GoodP T) {i j : Nat} (hi : i < T.length) (hj : j < T.length) {s : Bool} (hs : s = true ↔ ExA T i j) : Calls Try.prog 28 #[.slice o T.length cp, .int .i64 i, .int .i64 j] w (SzO w (.bool s)) :=
  (pext_at cp H hcp i j).mono fun e w' h => bq_v (snd_2 G hi hj) hs h
theorem asg_v {w : World} {o : Option Addr} {T : List Tt} {cp : Nat} (H : Tab w o T) (hcp : T.length ≤ cp) (G : GoodP T) {i j : Nat} (hi : i < T.length) (hj : j < T.length) {s : Bool} (hs : s = true ↔ AsgA T i j) : Calls Try.prog 29 #[.slice o T.length cp, .int .i64 i, .int .i64 j] w (SzO w (.bool s)) :=
  (pasg_at cp H hcp i j).mono fun e w' h => bq_v (snd_2 G hi hj) hs h
theorem lev_v {w : World} {o : Option Addr} {T : List Tt} {cp : Nat} (H : Tab w o T) (hcp : T.length ≤ cp) (G : GoodP T) {i n : Nat} (hi : i < T.length) (hl : Lv T n (topA T i).toNat) : Calls Try.prog 54 #[.slice o T.length cp, .int .i64 i] w (SzO w (.int .i64 n)) := by
  obtain ⟨m, h1, _, hc⟩ := plevel_at cp H hcp i
  obtain rfl := (h1 (snd_1 G hi)).2.one hl
  exact hc
theorem same_self {w : World} {o : Option Addr} {T : List Tt} {cp : Nat} (H : Tab w o T) (hcp : T.length ≤ cp) (G : GoodP T) {i : Nat} (hi : i < T.length) : Calls Try.prog 27 #[.slice o T.length cp, .int .i64 i, .int .i64 i] w (SzO w (.bool true)) := same_v H hcp G hi hi ⟨fun _ => SameP.refl _ _, fun _ => rfl⟩
theorem ext_no {w : World} {o : Option Addr} {T : List Tt} {cp : Nat} (H : Tab w o T) (hcp : T.length ≤ cp) (G : GoodP T) {i j : Nat} (hi : i < T.length) (hj : j < T.length) (hn : ¬ ExA T i j) : Calls Try.prog 28 #[.slice o T.length cp, .int .i64 i, .int .i64 j] w (SzO w (.bool false)) := ext_v H hcp G hi hj ⟨(fun e => by cases e), fun h => absurd h hn⟩
theorem ext_yes {w : World} {o : Option Addr} {T : List Tt} {cp : Nat} (H : Tab w o T) (hcp : T.length ≤ cp) (G : GoodP T) {i j : Nat} (hi : i < T.length) (hj : j < T.length) (hn : ExA T i j) : Calls Try.prog 28 #[.slice o T.length cp, .int .i64 i, .int .i64 j] w (SzO w (.bool true)) := ext_v H hcp G hi hj ⟨fun _ => hn, fun _ => rfl⟩
theorem asg_yes {w : World} {o : Option Addr} {T : List Tt} {cp : Nat} (H : Tab w o T) (hcp : T.length ≤ cp) (G : GoodP T) {i j : Nat} (hi : i < T.length) (hj : j < T.length) (hn : AsgA T i j) : Calls Try.prog 29 #[.slice o T.length cp, .int .i64 i, .int .i64 j] w (SzO w (.bool true)) := asg_v H hcp G hi hj ⟨fun _ => hn, fun _ => rfl⟩
theorem top_lv {T : List Tt} (G : GoodP T) {i : Nat} (hi : i < T.length) : ∃ n, n ≤ 4 ∧ Lv T n (topA T i).toNat := by
  unfold topA
  split
  · obtain ⟨q, hq, hl⟩ := el_plc G hi
    rw [hq]
    exact lv_all G hl
  · exact lv_all G hi
theorem bool_of (P : Prop) : ∃ s : Bool, s = true ↔ P := by
  by_cases h : P
  · exact ⟨true, by simp [h]⟩
  · exact ⟨false, by simp [h]⟩
end Go.Proofs.Ythmldhppmpbadaa.Ty
