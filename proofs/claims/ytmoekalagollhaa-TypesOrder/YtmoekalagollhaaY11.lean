/-
  Types' laws, purely: the order of what extends.
  Types' laws: TypesOrder, walked.
  Types' laws: TypesOrder, for every input.
-/
import Derived.Test.YtmoekalagollhaaTs19
namespace Go.Proofs.Ytmoekalagollhaa.Ty
open Go.RowKit hiding Hid
open Go.Maps Go.Proofs.Ytmoekalagollhaa.Tx Go.Proofs.Ytmoekalagollhaa.Lx Go.Proofs.Ytmoekalagollhaa.Tr Go.Proofs.Ytmoekalagollhaa.Mp
set_option linter.unusedVariables false
set_option linter.unusedSimpArgs false

theorem fm9_lt {T : List Tt} {a : Int} (h : fmA T a = 9) : ∃ i : Nat, a = i ∧ i < T.length := by
  obtain ⟨h0, h1, _⟩ := fmA_in (T := T) (a := a) (by rw [h]; decide)
  exact ⟨a.toNat, by omega, by omega⟩
theorem itb_lv {T : List Tt} (G : GoodP T) : ∀ (k n a b : Nat), fmA T (a : Int) = 9 → fmA T (b : Int) = 9 → Lv T n a → itb T k a = b → ∃ m, Lv T m b ∧ m + k = n
  | 0, n, a, b, ha, hb, hl, h => by
    have h' : (a : Int) = b := h
    obtain rfl : a = b := by omega
    exact ⟨n, hl, rfl⟩
  | k + 1, n, a, b, ha, hb, hl, h => by
    have h' : itb T k (bsA T a) = b := h
    rcases bs_next G ha with h0 | h9
    · rw [h0, itb_zero G] at h'
      rw [← h', fm_zero G] at hb
      cases hb
    · obtain ⟨q, hq, _⟩ := bs_plc G ha
      rw [hq] at h9 h'
      obtain ⟨m, hm, hlm⟩ := lv_down G hl hq h9
      obtain ⟨m2, h2, h3⟩ := itb_lv G k m q b h9 hb hlm h'
      exact ⟨m2, h2, by omega⟩
theorem ExR.lev {T : List Tt} (G : GoodP T) {a b n m : Nat} (h : ExR T a b) (ha : Lv T n a) (hb : Lv T m b) : m ≤ n := by
  obtain ⟨h1, h2, k, hk⟩ := h
  obtain ⟨m2, h3, h4⟩ := itb_lv G k n a b h1 h2 ha hk
  obtain rfl := hb.one h3
  omega
theorem ExR.anti {T : List Tt} (G : GoodP T) {a b : Nat} (h : ExR T a b) (h' : ExR T b a) : a = b := by
  obtain ⟨h1, h2, k, hk⟩ := h
  obtain ⟨_, _, j, hj⟩ := h'
  obtain ⟨i, e1, hi⟩ := fm9_lt h1
  obtain rfl : a = i := by omega
  obtain ⟨n, _, hn⟩ := lv_all G hi
  obtain ⟨m, hm, e2⟩ := itb_lv G k n a b h1 h2 hn hk
  obtain ⟨n2, hn2, e3⟩ := itb_lv G j m b a h2 h1 hm hj
  obtain rfl := hn.one hn2
  obtain rfl : k = 0 := by omega
  have : (a : Int) = b := hk
  omega
theorem itb_next (T : List Tt) : ∀ (k : Nat) (a : Int), itb T (k + 1) a = bsA T (itb T k a)
  | 0, a => rfl
  | k + 1, a => itb_next T k (bsA T a)
theorem ExR.base {T : List Tt} (G : GoodP T) {a : Int} {b : Nat} (h : ExR T a b) (hn : bsA T b ≠ 0) : ExR T a (bsA T b) := by
  obtain ⟨h1, h2, k, hk⟩ := h
  rcases bs_next G h2 with h0 | h9
  · exact absurd h0 hn
  · exact ⟨h1, h9, k + 1, by rw [itb_next, hk]⟩
theorem ExA.form {T : List Tt} {a b : Int} (h : ExA T a b) : (fmA T a = 10 ∧ fmA T b = 10) ∨ (fmA T a = 9 ∧ fmA T b = 9) := by
  rcases h with ⟨h1, h2, _⟩ | ⟨h1, h2, _⟩
  · exact .inl ⟨h1, h2⟩
  · exact .inr ⟨h1, h2⟩
theorem ExA.rec {T : List Tt} {a b : Int} (h9 : fmA T a = 9 ∨ fmA T b = 9) : ExA T a b ↔ ExR T a b := by
  constructor
  · rintro (⟨h1, h2, _⟩ | h)
    · rcases h9 with h | h
      · rw [h1] at h; cases h
      · rw [h2] at h; cases h
    · exact h
  · exact .inr
/- What extends is assigned. -/
theorem ExA.asg {T : List Tt} {a b : Int} (h : ExA T a b) : AsgA T a b := by
  refine ⟨?_, .inr (.inl h)⟩
  rcases h.form with ⟨_, h⟩ | ⟨_, h⟩ <;> (rw [h]; decide)
/- Of a record: it extends what extends it just where they are the same. -/
theorem ExA.back {T : List Tt} (G : GoodP T) {a b : Nat} (ha : fmA T (a : Int) = 9) (h : ExA T a b) : ExA T b a ↔ SameP T a b := by
  have h1 := (ExA.rec (.inl ha)).1 h
  constructor
  · intro h'
    have h2 := (ExA.rec (.inr ha)).1 h'
    rw [h1.anti G h2]
    exact SameP.refl _ _
  · intro hs
    obtain rfl := same_rec ha hs h1.2.1
    exact .inr (ExR.refl ha)
theorem ExA.level {T : List Tt} (G : GoodP T) {a b : Nat} (h : ExA T a b) {n m : Nat} (ha : Lv T n (topA T a).toNat) (hb : Lv T m (topA T b).toNat) : m ≤ n := by
  rcases h with ⟨h1, h2, h⟩ | h
  · unfold topA at ha hb
    rw [if_pos h1] at ha
    rw [if_pos h2] at hb
    obtain ⟨i, e1, _⟩ := fm9_lt h.1
    obtain ⟨j, e2, _⟩ := fm9_lt h.2.1
    rw [e1, e2] at h
    rw [e1] at ha
    rw [e2] at hb
    exact h.lev G ha hb
  · unfold topA at ha hb
    rw [if_neg (by rw [h.1]; decide)] at ha
    rw [if_neg (by rw [h.2.1]; decide)] at hb
    exact h.lev G ha hb
theorem ExA.base {T : List Tt} (G : GoodP T) {a b : Nat} (h : ExA T a b) (hb : fmA T (b : Int) = 9) (hn : bsA T b ≠ 0) : ExA T a (bsA T b) :=
  .inr (((ExA.rec (.inr hb)).1 h).base G hn)
end Go.Proofs.Ytmoekalagollhaa.Ty
namespace Go.Proofs.Ytmoekalagollhaa.Ty
open Go.RowKit hiding Hid
open Go.Maps Go.Proofs.Ytmoekalagollhaa.Tx Go.Proofs.Ytmoekalagollhaa.Lx Go.Proofs.Ytmoekalagollhaa.Tr Go.Proofs.Ytmoekalagollhaa.Mp
set_option linter.unusedVariables false
set_option linter.unusedSimpArgs false
set_option maxRecDepth 100000

theorem snd_2 {T : List Tt} (G : GoodP T) {i j : Nat} (hi : i < T.length) (hj : j < T.length) : Snd T [(i : Int), (j : Int)] := ⟨fun c hc => by
  simp only [List.mem_cons, List.not_mem_nil, or_false] at hc
  rcases hc with rfl | rfl
  · exact inT_of hi
  · exact inT_of hj, G⟩
theorem snd_1 {T : List Tt} (G : GoodP T) {i : Nat} (hi : i < T.length) : Snd T [(i : Int)] := ⟨fun c hc => by
  simp only [List.mem_cons, List.not_mem_nil, or_false] at hc
  rw [hc]; exact inT_of hi, G⟩
theorem bq_v {P Q : Prop} {w w' : World} {e : Ending} {s : Bool} (hq : Q) (hs : s = true ↔ P) (h : BQ (Q ∧ P) w e w') : SzO w (.bool s) e w' := by
  obtain ⟨r, h1, h2, h3⟩ := h
  obtain rfl : r = s := by cases r <;> cases s <;> simp_all
  exact ⟨h1, h2⟩
theorem same_v {w : World} {o : Option Addr} {T : List Tt} {cp : Nat} (H : Tab w o T) (hcp : T.length ≤ cp) (G : GoodP T) {i j : Nat} (hi : i < T.length) (hj : j < T.length) {s : Bool} (hs : s = true ↔ SameP T i j) : Calls Try.prog 20 #[.slice o T.length cp, .int .i64 i, .int .i64 j] w (SzO w (.bool s)) :=
  (psame_at cp H hcp i j).mono fun e w' h => bq_v (snd_2 G hi hj) hs h
theorem ext_v {w : World} {o : Option Addr} {T : List Tt} {cp : Nat} (H : Tab w o T) (hcp : T.length ≤ cp) (G : GoodP T) {i j : Nat} (hi : i < T.length) (hj : j < T.length) {s : Bool} (hs : s = true ↔ ExA T i j) : Calls Try.prog 21 #[.slice o T.length cp, .int .i64 i, .int .i64 j] w (SzO w (.bool s)) :=
  (pext_at cp H hcp i j).mono fun e w' h => bq_v (snd_2 G hi hj) hs h
theorem asg_v {w : World} {o : Option Addr} {T : List Tt} {cp : Nat} (H : Tab w o T) (hcp : T.length ≤ cp) (G : GoodP T) {i j : Nat} (hi : i < T.length) (hj : j < T.length) {s : Bool} (hs : s = true ↔ AsgA T i j) : Calls Try.prog 22 #[.slice o T.length cp, .int .i64 i, .int .i64 j] w (SzO w (.bool s)) :=
  (pasg_at cp H hcp i j).mono fun e w' h => bq_v (snd_2 G hi hj) hs h
theorem lev_v {w : World} {o : Option Addr} {T : List Tt} {cp : Nat} (H : Tab w o T) (hcp : T.length ≤ cp) (G : GoodP T) {i n : Nat} (hi : i < T.length) (hl : Lv T n (topA T i).toNat) : Calls Try.prog 23 #[.slice o T.length cp, .int .i64 i] w (SzO w (.int .i64 n)) := by
  obtain ⟨m, h1, _, hc⟩ := plevel_at cp H hcp i
  obtain rfl := (h1 (snd_1 G hi)).2.one hl
  exact hc
theorem same_self {w : World} {o : Option Addr} {T : List Tt} {cp : Nat} (H : Tab w o T) (hcp : T.length ≤ cp) (G : GoodP T) {i : Nat} (hi : i < T.length) : Calls Try.prog 20 #[.slice o T.length cp, .int .i64 i, .int .i64 i] w (SzO w (.bool true)) := same_v H hcp G hi hi ⟨fun _ => SameP.refl _ _, fun _ => rfl⟩
theorem ext_no {w : World} {o : Option Addr} {T : List Tt} {cp : Nat} (H : Tab w o T) (hcp : T.length ≤ cp) (G : GoodP T) {i j : Nat} (hi : i < T.length) (hj : j < T.length) (hn : ¬ ExA T i j) : Calls Try.prog 21 #[.slice o T.length cp, .int .i64 i, .int .i64 j] w (SzO w (.bool false)) := ext_v H hcp G hi hj ⟨(fun e => by cases e), fun h => absurd h hn⟩
theorem ext_yes {w : World} {o : Option Addr} {T : List Tt} {cp : Nat} (H : Tab w o T) (hcp : T.length ≤ cp) (G : GoodP T) {i j : Nat} (hi : i < T.length) (hj : j < T.length) (hn : ExA T i j) : Calls Try.prog 21 #[.slice o T.length cp, .int .i64 i, .int .i64 j] w (SzO w (.bool true)) := ext_v H hcp G hi hj ⟨fun _ => hn, fun _ => rfl⟩
theorem asg_yes {w : World} {o : Option Addr} {T : List Tt} {cp : Nat} (H : Tab w o T) (hcp : T.length ≤ cp) (G : GoodP T) {i j : Nat} (hi : i < T.length) (hj : j < T.length) (hn : AsgA T i j) : Calls Try.prog 22 #[.slice o T.length cp, .int .i64 i, .int .i64 j] w (SzO w (.bool true)) := asg_v H hcp G hi hj ⟨fun _ => hn, fun _ => rfl⟩
theorem top_lv {T : List Tt} (G : GoodP T) {i : Nat} (hi : i < T.length) : ∃ n, n ≤ 4 ∧ Lv T n (topA T i).toNat := by
  unfold topA
  split
  · obtain ⟨q, hq, hl⟩ := el_plc G hi
    rw [hq]
    exact lv_all G hl
  · exact lv_all G hi
theorem bool_of (P : Prop) : ∃ s : Bool, s = true ↔ P := by
  by_cases h : P
  · exact ⟨true, by simp [h]⟩
  · exact ⟨false, by simp [h]⟩
set_option maxHeartbeats 8000000 in
theorem order_few {w : World} {o : Option Addr} {cp : Nat} {l : List La} {T : List Tt} (hT : l.map La.x = T) (H : TabR w o l) (hl : l.length ≤ rch) (hf : Few l) (G : GoodP T) {a b : Nat} (ha : a < T.length) (hb : b < T.length) : Calls Try.prog 4 #[.slice o T.length cp, .int .i64 a, .int .i64 b] w (SzO w (.bool true)) := by
  have HTb := hide (show Tab w o T by have h := hf.tab H; rw [hT] at h; exact h)
  obtain ⟨ad, la, rfl, _⟩ := HTb.out.at (List.getElem?_eq_getElem ha)
  obtain ⟨B, hB⟩ : ∃ B, ad.add (a * 10) = B := ⟨_, rfl⟩
  obtain ⟨B2, hB2⟩ : ∃ B, ad.add (b * 10) = B := ⟨_, rfl⟩
  obtain ⟨x, hx⟩ : ∃ x, fmA T (a : Int) = x := ⟨_, rfl⟩
  obtain ⟨y, hy⟩ : ∃ x, fmA T (b : Int) = x := ⟨_, rfl⟩
  obtain ⟨p, hp⟩ : ∃ x, bsA T (b : Int) = x := ⟨_, rfl⟩
  have HCE := hide (fun (W : World) (hW : w.grownBy W none) => show W.cell? B = some (.int .i64 x) ∧ W.cell? B2 = some (.int .i64 y) ∧ W.cell? ⟨B2.block, B2.off + 5, none⟩ = some (.int .i64 p) from ⟨by rw [← hx]; exact form_cell (HTb.out.kept hW) ha hB, by rw [← hy]; exact form_cell (HTb.out.kept hW) hb hB2, by rw [← hp]; exact base_cell (HTb.out.kept hW) hb hB2⟩)
  have HT := hide H
  have HTe := hide hT
  have HLl := hide hl
  have HFw := hide hf
  have HG := hide G
  have HI := hide ha
  have HJ := hide hb
  have ja : (a : Int) < T.length := by omega
  have jb : (b : Int) < T.length := by omega
  obtain ⟨s, hs⟩ := bool_of (SameP T a b)
  have HS1 := hide hs
  have HS2 := hide (show s = true ↔ SameP T b a from hs.trans ⟨SameP.symm, SameP.symm⟩)
  have HC := hide (Cx.start w (fun _ => False))
  have M1 := True.intro
  have M2 := True.intro
  have M3 := True.intro
  by_cases hF : ExA T a b
  · have HX := hide hF
    have HA := hide hF.asg
    obtain ⟨n, hn4, hn⟩ := top_lv G ha
    obtain ⟨m, hm4, hm⟩ := top_lv G hb
    have hmn := hF.level G hn hm
    have HLA := hide hn
    have HLB := hide hm
    have j1 : ¬ (n : Int) < m := by omega
    obtain ⟨e2, he2⟩ := bool_of (ExA T b a)
    have HE2 := hide he2
    have N1 := True.intro
    have N2 := True.intro
    have N3 := True.intro
    have hback : x = 9 → e2 = s := fun h9 => by
      have h := hF.back G (by rw [hx, h9])
      cases e2 <;> cases s <;> simp_all
    have hbase : y = 9 → p ≠ 0 → ∃ q : Nat, p = q ∧ q < T.length ∧ ExA T a q := fun h9 h0 => by
      have h := hF.base G (by rw [hy, h9]) (by rw [hp]; exact h0)
      obtain ⟨q, hq, hl⟩ := bs_plc G (i := b) (by rw [hy, h9])
      rw [hq] at h
      exact ⟨q, by rw [← hp, hq], hl, h⟩
    clear H hT hl hf G hs hF hx hy hp hn hm hmn hn4 hm4 he2
    by_cases y9 : y = 9 ∧ p ≠ 0
    · obtain ⟨q, rfl, hql, hqe⟩ := hbase y9.1 y9.2
      have HQ := hide hql
      have HQE := hide hqe
      obtain rfl := y9.1
      have p0 : (q : Int) ≠ 0 := y9.2
      clear hbase y9 hql hqe
      by_cases x9 : x = 9
      · obtain rfl := hback x9
        subst x9
        clear hback
        go_enter Try.func4, Try.ntmps4
        go_wp2_with (first | (go_at_call 12; refine (large_T13 cp HTe.out (HT.out.kept HC.out.grown) HLl.out).mono ?_; rintro e w1 ⟨d, rfl, hg, hd⟩; replace HC := hide (HC.out.g hg); clear hg; cases d <;> clear hd) | (go_at_call 13; refine (wakes13 _).mono ?_; rintro e w1 ⟨rfl, hg⟩; replace HC := hide (HC.out.g hg); clear hg) | (go_at_call 16; refine (rgood_at _ (HTb.out.kept HC.out.grown)).mono ?_; rintro e w1 ⟨d, rfl, hg, hd⟩; obtain rfl : d = true := hd.2 HG.out; replace HC := hide (HC.out.g hg); clear hg hd) | (go_at_call 14; refine (copy_T13 cp HTe.out (HT.out.kept HC.out.grown) HFw.out).mono ?_; rintro e w1 ⟨oi, ci, rfl, hg, ht, hci⟩; replace HC := hide (HC.out.g hg); have HTi := hide ht; have HCi := hide hci; obtain ⟨c0, c1, c2⟩ := HCE.out _ HC.out.grown; have b0 := block_lt_of_cell c0; clear b0 hg ht hci) | (go_at_call 20; clear M1; (refine (same_v HTi.out HCi.out HG.out HI.out HJ.out HS1.out).mono ?_; rintro e w1 ⟨rfl, hg⟩; (replace HC := hide (HC.out.g hg); replace HTi := hide (HTi.out.kept hg); replace c0 := hg.cell c0 (by simp); replace c1 := hg.cell c1 (by simp); replace c2 := hg.cell c2 (by simp); clear hg))) | (go_at_call 20; clear M2; (refine (same_v HTi.out HCi.out HG.out HJ.out HI.out HS2.out).mono ?_; rintro e w1 ⟨rfl, hg⟩; (replace HC := hide (HC.out.g hg); replace HTi := hide (HTi.out.kept hg); replace c0 := hg.cell c0 (by simp); replace c1 := hg.cell c1 (by simp); replace c2 := hg.cell c2 (by simp); clear hg))) | (go_at_call 20; clear M3; (refine (same_self HTi.out HCi.out HG.out HI.out).mono ?_; rintro e w1 ⟨rfl, hg⟩; (replace HC := hide (HC.out.g hg); replace HTi := hide (HTi.out.kept hg); replace c0 := hg.cell c0 (by simp); replace c1 := hg.cell c1 (by simp); replace c2 := hg.cell c2 (by simp); clear hg))) | (go_at_call 20; (refine (same_v HTi.out HCi.out HG.out HI.out HJ.out HS1.out).mono ?_; rintro e w1 ⟨rfl, hg⟩; (replace HC := hide (HC.out.g hg); replace HTi := hide (HTi.out.kept hg); replace c0 := hg.cell c0 (by simp); replace c1 := hg.cell c1 (by simp); replace c2 := hg.cell c2 (by simp); clear hg))) | (go_at_call 21; clear N1; (refine (ext_yes HTi.out HCi.out HG.out HI.out HJ.out HX.out).mono ?_; rintro e w1 ⟨rfl, hg⟩; (replace HC := hide (HC.out.g hg); replace HTi := hide (HTi.out.kept hg); replace c0 := hg.cell c0 (by simp); replace c1 := hg.cell c1 (by simp); replace c2 := hg.cell c2 (by simp); clear hg))) | (go_at_call 21; clear N2; (refine (ext_v HTi.out HCi.out HG.out HJ.out HI.out HE2.out).mono ?_; rintro e w1 ⟨rfl, hg⟩; (replace HC := hide (HC.out.g hg); replace HTi := hide (HTi.out.kept hg); replace c0 := hg.cell c0 (by simp); replace c1 := hg.cell c1 (by simp); replace c2 := hg.cell c2 (by simp); clear hg))) | (go_at_call 22; (refine (asg_yes HTi.out HCi.out HG.out HI.out HJ.out HA.out).mono ?_; rintro e w1 ⟨rfl, hg⟩; (replace HC := hide (HC.out.g hg); replace HTi := hide (HTi.out.kept hg); replace c0 := hg.cell c0 (by simp); replace c1 := hg.cell c1 (by simp); replace c2 := hg.cell c2 (by simp); clear hg))) | (go_at_call 23; clear N3; (refine (lev_v HTi.out HCi.out HG.out HI.out HLA.out).mono ?_; rintro e w1 ⟨rfl, hg⟩; (replace HC := hide (HC.out.g hg); replace HTi := hide (HTi.out.kept hg); replace c0 := hg.cell c0 (by simp); replace c1 := hg.cell c1 (by simp); replace c2 := hg.cell c2 (by simp); clear hg))) | (go_at_call 23; (refine (lev_v HTi.out HCi.out HG.out HJ.out HLB.out).mono ?_; rintro e w1 ⟨rfl, hg⟩; (replace HC := hide (HC.out.g hg); replace HTi := hide (HTi.out.kept hg); replace c0 := hg.cell c0 (by simp); replace c1 := hg.cell c1 (by simp); replace c2 := hg.cell c2 (by simp); clear hg))) | (go_at_call 21; (refine (ext_yes HTi.out HCi.out HG.out HI.out HQ.out HQE.out).mono ?_; rintro e w1 ⟨rfl, hg⟩; (replace HC := hide (HC.out.g hg); replace HTi := hide (HTi.out.kept hg); replace c0 := hg.cell c0 (by simp); replace c1 := hg.cell c1 (by simp); replace c2 := hg.cell c2 (by simp); clear hg))))
        all_goals go_ret
        all_goals (exact ⟨rfl, HC.out.grown⟩)
      · clear hback
        have x9' : (x == 9) = false := by simpa using x9
        go_enter Try.func4, Try.ntmps4
        go_wp2_with (first | (go_at_call 12; refine (large_T13 cp HTe.out (HT.out.kept HC.out.grown) HLl.out).mono ?_; rintro e w1 ⟨d, rfl, hg, hd⟩; replace HC := hide (HC.out.g hg); clear hg; cases d <;> clear hd) | (go_at_call 13; refine (wakes13 _).mono ?_; rintro e w1 ⟨rfl, hg⟩; replace HC := hide (HC.out.g hg); clear hg) | (go_at_call 16; refine (rgood_at _ (HTb.out.kept HC.out.grown)).mono ?_; rintro e w1 ⟨d, rfl, hg, hd⟩; obtain rfl : d = true := hd.2 HG.out; replace HC := hide (HC.out.g hg); clear hg hd) | (go_at_call 14; refine (copy_T13 cp HTe.out (HT.out.kept HC.out.grown) HFw.out).mono ?_; rintro e w1 ⟨oi, ci, rfl, hg, ht, hci⟩; replace HC := hide (HC.out.g hg); have HTi := hide ht; have HCi := hide hci; obtain ⟨c0, c1, c2⟩ := HCE.out _ HC.out.grown; have b0 := block_lt_of_cell c0; clear b0 hg ht hci) | (go_at_call 20; clear M1; (refine (same_v HTi.out HCi.out HG.out HI.out HJ.out HS1.out).mono ?_; rintro e w1 ⟨rfl, hg⟩; (replace HC := hide (HC.out.g hg); replace HTi := hide (HTi.out.kept hg); replace c0 := hg.cell c0 (by simp); replace c1 := hg.cell c1 (by simp); replace c2 := hg.cell c2 (by simp); clear hg))) | (go_at_call 20; clear M2; (refine (same_v HTi.out HCi.out HG.out HJ.out HI.out HS2.out).mono ?_; rintro e w1 ⟨rfl, hg⟩; (replace HC := hide (HC.out.g hg); replace HTi := hide (HTi.out.kept hg); replace c0 := hg.cell c0 (by simp); replace c1 := hg.cell c1 (by simp); replace c2 := hg.cell c2 (by simp); clear hg))) | (go_at_call 20; clear M3; (refine (same_self HTi.out HCi.out HG.out HI.out).mono ?_; rintro e w1 ⟨rfl, hg⟩; (replace HC := hide (HC.out.g hg); replace HTi := hide (HTi.out.kept hg); replace c0 := hg.cell c0 (by simp); replace c1 := hg.cell c1 (by simp); replace c2 := hg.cell c2 (by simp); clear hg))) | (go_at_call 20; (refine (same_v HTi.out HCi.out HG.out HI.out HJ.out HS1.out).mono ?_; rintro e w1 ⟨rfl, hg⟩; (replace HC := hide (HC.out.g hg); replace HTi := hide (HTi.out.kept hg); replace c0 := hg.cell c0 (by simp); replace c1 := hg.cell c1 (by simp); replace c2 := hg.cell c2 (by simp); clear hg))) | (go_at_call 21; clear N1; (refine (ext_yes HTi.out HCi.out HG.out HI.out HJ.out HX.out).mono ?_; rintro e w1 ⟨rfl, hg⟩; (replace HC := hide (HC.out.g hg); replace HTi := hide (HTi.out.kept hg); replace c0 := hg.cell c0 (by simp); replace c1 := hg.cell c1 (by simp); replace c2 := hg.cell c2 (by simp); clear hg))) | (go_at_call 21; clear N2; (refine (ext_v HTi.out HCi.out HG.out HJ.out HI.out HE2.out).mono ?_; rintro e w1 ⟨rfl, hg⟩; (replace HC := hide (HC.out.g hg); replace HTi := hide (HTi.out.kept hg); replace c0 := hg.cell c0 (by simp); replace c1 := hg.cell c1 (by simp); replace c2 := hg.cell c2 (by simp); clear hg))) | (go_at_call 22; (refine (asg_yes HTi.out HCi.out HG.out HI.out HJ.out HA.out).mono ?_; rintro e w1 ⟨rfl, hg⟩; (replace HC := hide (HC.out.g hg); replace HTi := hide (HTi.out.kept hg); replace c0 := hg.cell c0 (by simp); replace c1 := hg.cell c1 (by simp); replace c2 := hg.cell c2 (by simp); clear hg))) | (go_at_call 23; clear N3; (refine (lev_v HTi.out HCi.out HG.out HI.out HLA.out).mono ?_; rintro e w1 ⟨rfl, hg⟩; (replace HC := hide (HC.out.g hg); replace HTi := hide (HTi.out.kept hg); replace c0 := hg.cell c0 (by simp); replace c1 := hg.cell c1 (by simp); replace c2 := hg.cell c2 (by simp); clear hg))) | (go_at_call 23; (refine (lev_v HTi.out HCi.out HG.out HJ.out HLB.out).mono ?_; rintro e w1 ⟨rfl, hg⟩; (replace HC := hide (HC.out.g hg); replace HTi := hide (HTi.out.kept hg); replace c0 := hg.cell c0 (by simp); replace c1 := hg.cell c1 (by simp); replace c2 := hg.cell c2 (by simp); clear hg))) | (go_at_call 21; (refine (ext_yes HTi.out HCi.out HG.out HI.out HQ.out HQE.out).mono ?_; rintro e w1 ⟨rfl, hg⟩; (replace HC := hide (HC.out.g hg); replace HTi := hide (HTi.out.kept hg); replace c0 := hg.cell c0 (by simp); replace c1 := hg.cell c1 (by simp); replace c2 := hg.cell c2 (by simp); clear hg))))
        all_goals go_ret
        all_goals (first | exact ⟨rfl, HC.out.grown⟩ | (exfalso; simp_all))
    · clear hbase
      by_cases yy : y = 9
      · obtain rfl : p = 0 := (by by_cases h0 : p = 0 <;> simp_all)
        subst yy
        clear y9
        by_cases x9 : x = 9
        · obtain rfl := hback x9
          subst x9
          clear hback
          go_enter Try.func4, Try.ntmps4
          go_wp2_with (first | (go_at_call 12; refine (large_T13 cp HTe.out (HT.out.kept HC.out.grown) HLl.out).mono ?_; rintro e w1 ⟨d, rfl, hg, hd⟩; replace HC := hide (HC.out.g hg); clear hg; cases d <;> clear hd) | (go_at_call 13; refine (wakes13 _).mono ?_; rintro e w1 ⟨rfl, hg⟩; replace HC := hide (HC.out.g hg); clear hg) | (go_at_call 16; refine (rgood_at _ (HTb.out.kept HC.out.grown)).mono ?_; rintro e w1 ⟨d, rfl, hg, hd⟩; obtain rfl : d = true := hd.2 HG.out; replace HC := hide (HC.out.g hg); clear hg hd) | (go_at_call 14; refine (copy_T13 cp HTe.out (HT.out.kept HC.out.grown) HFw.out).mono ?_; rintro e w1 ⟨oi, ci, rfl, hg, ht, hci⟩; replace HC := hide (HC.out.g hg); have HTi := hide ht; have HCi := hide hci; obtain ⟨c0, c1, c2⟩ := HCE.out _ HC.out.grown; have b0 := block_lt_of_cell c0; clear b0 hg ht hci) | (go_at_call 20; clear M1; (refine (same_v HTi.out HCi.out HG.out HI.out HJ.out HS1.out).mono ?_; rintro e w1 ⟨rfl, hg⟩; (replace HC := hide (HC.out.g hg); replace HTi := hide (HTi.out.kept hg); replace c0 := hg.cell c0 (by simp); replace c1 := hg.cell c1 (by simp); replace c2 := hg.cell c2 (by simp); clear hg))) | (go_at_call 20; clear M2; (refine (same_v HTi.out HCi.out HG.out HJ.out HI.out HS2.out).mono ?_; rintro e w1 ⟨rfl, hg⟩; (replace HC := hide (HC.out.g hg); replace HTi := hide (HTi.out.kept hg); replace c0 := hg.cell c0 (by simp); replace c1 := hg.cell c1 (by simp); replace c2 := hg.cell c2 (by simp); clear hg))) | (go_at_call 20; clear M3; (refine (same_self HTi.out HCi.out HG.out HI.out).mono ?_; rintro e w1 ⟨rfl, hg⟩; (replace HC := hide (HC.out.g hg); replace HTi := hide (HTi.out.kept hg); replace c0 := hg.cell c0 (by simp); replace c1 := hg.cell c1 (by simp); replace c2 := hg.cell c2 (by simp); clear hg))) | (go_at_call 20; (refine (same_v HTi.out HCi.out HG.out HI.out HJ.out HS1.out).mono ?_; rintro e w1 ⟨rfl, hg⟩; (replace HC := hide (HC.out.g hg); replace HTi := hide (HTi.out.kept hg); replace c0 := hg.cell c0 (by simp); replace c1 := hg.cell c1 (by simp); replace c2 := hg.cell c2 (by simp); clear hg))) | (go_at_call 21; clear N1; (refine (ext_yes HTi.out HCi.out HG.out HI.out HJ.out HX.out).mono ?_; rintro e w1 ⟨rfl, hg⟩; (replace HC := hide (HC.out.g hg); replace HTi := hide (HTi.out.kept hg); replace c0 := hg.cell c0 (by simp); replace c1 := hg.cell c1 (by simp); replace c2 := hg.cell c2 (by simp); clear hg))) | (go_at_call 21; clear N2; (refine (ext_v HTi.out HCi.out HG.out HJ.out HI.out HE2.out).mono ?_; rintro e w1 ⟨rfl, hg⟩; (replace HC := hide (HC.out.g hg); replace HTi := hide (HTi.out.kept hg); replace c0 := hg.cell c0 (by simp); replace c1 := hg.cell c1 (by simp); replace c2 := hg.cell c2 (by simp); clear hg))) | (go_at_call 22; (refine (asg_yes HTi.out HCi.out HG.out HI.out HJ.out HA.out).mono ?_; rintro e w1 ⟨rfl, hg⟩; (replace HC := hide (HC.out.g hg); replace HTi := hide (HTi.out.kept hg); replace c0 := hg.cell c0 (by simp); replace c1 := hg.cell c1 (by simp); replace c2 := hg.cell c2 (by simp); clear hg))) | (go_at_call 23; clear N3; (refine (lev_v HTi.out HCi.out HG.out HI.out HLA.out).mono ?_; rintro e w1 ⟨rfl, hg⟩; (replace HC := hide (HC.out.g hg); replace HTi := hide (HTi.out.kept hg); replace c0 := hg.cell c0 (by simp); replace c1 := hg.cell c1 (by simp); replace c2 := hg.cell c2 (by simp); clear hg))) | (go_at_call 23; (refine (lev_v HTi.out HCi.out HG.out HJ.out HLB.out).mono ?_; rintro e w1 ⟨rfl, hg⟩; (replace HC := hide (HC.out.g hg); replace HTi := hide (HTi.out.kept hg); replace c0 := hg.cell c0 (by simp); replace c1 := hg.cell c1 (by simp); replace c2 := hg.cell c2 (by simp); clear hg))))
          all_goals go_ret
          all_goals (first | exact ⟨rfl, HC.out.grown⟩ | (exfalso; simp_all))
        · clear hback
          have x9' : (x == 9) = false := by simpa using x9
          go_enter Try.func4, Try.ntmps4
          go_wp2_with (first | (go_at_call 12; refine (large_T13 cp HTe.out (HT.out.kept HC.out.grown) HLl.out).mono ?_; rintro e w1 ⟨d, rfl, hg, hd⟩; replace HC := hide (HC.out.g hg); clear hg; cases d <;> clear hd) | (go_at_call 13; refine (wakes13 _).mono ?_; rintro e w1 ⟨rfl, hg⟩; replace HC := hide (HC.out.g hg); clear hg) | (go_at_call 16; refine (rgood_at _ (HTb.out.kept HC.out.grown)).mono ?_; rintro e w1 ⟨d, rfl, hg, hd⟩; obtain rfl : d = true := hd.2 HG.out; replace HC := hide (HC.out.g hg); clear hg hd) | (go_at_call 14; refine (copy_T13 cp HTe.out (HT.out.kept HC.out.grown) HFw.out).mono ?_; rintro e w1 ⟨oi, ci, rfl, hg, ht, hci⟩; replace HC := hide (HC.out.g hg); have HTi := hide ht; have HCi := hide hci; obtain ⟨c0, c1, c2⟩ := HCE.out _ HC.out.grown; have b0 := block_lt_of_cell c0; clear b0 hg ht hci) | (go_at_call 20; clear M1; (refine (same_v HTi.out HCi.out HG.out HI.out HJ.out HS1.out).mono ?_; rintro e w1 ⟨rfl, hg⟩; (replace HC := hide (HC.out.g hg); replace HTi := hide (HTi.out.kept hg); replace c0 := hg.cell c0 (by simp); replace c1 := hg.cell c1 (by simp); replace c2 := hg.cell c2 (by simp); clear hg))) | (go_at_call 20; clear M2; (refine (same_v HTi.out HCi.out HG.out HJ.out HI.out HS2.out).mono ?_; rintro e w1 ⟨rfl, hg⟩; (replace HC := hide (HC.out.g hg); replace HTi := hide (HTi.out.kept hg); replace c0 := hg.cell c0 (by simp); replace c1 := hg.cell c1 (by simp); replace c2 := hg.cell c2 (by simp); clear hg))) | (go_at_call 20; clear M3; (refine (same_self HTi.out HCi.out HG.out HI.out).mono ?_; rintro e w1 ⟨rfl, hg⟩; (replace HC := hide (HC.out.g hg); replace HTi := hide (HTi.out.kept hg); replace c0 := hg.cell c0 (by simp); replace c1 := hg.cell c1 (by simp); replace c2 := hg.cell c2 (by simp); clear hg))) | (go_at_call 20; (refine (same_v HTi.out HCi.out HG.out HI.out HJ.out HS1.out).mono ?_; rintro e w1 ⟨rfl, hg⟩; (replace HC := hide (HC.out.g hg); replace HTi := hide (HTi.out.kept hg); replace c0 := hg.cell c0 (by simp); replace c1 := hg.cell c1 (by simp); replace c2 := hg.cell c2 (by simp); clear hg))) | (go_at_call 21; clear N1; (refine (ext_yes HTi.out HCi.out HG.out HI.out HJ.out HX.out).mono ?_; rintro e w1 ⟨rfl, hg⟩; (replace HC := hide (HC.out.g hg); replace HTi := hide (HTi.out.kept hg); replace c0 := hg.cell c0 (by simp); replace c1 := hg.cell c1 (by simp); replace c2 := hg.cell c2 (by simp); clear hg))) | (go_at_call 21; clear N2; (refine (ext_v HTi.out HCi.out HG.out HJ.out HI.out HE2.out).mono ?_; rintro e w1 ⟨rfl, hg⟩; (replace HC := hide (HC.out.g hg); replace HTi := hide (HTi.out.kept hg); replace c0 := hg.cell c0 (by simp); replace c1 := hg.cell c1 (by simp); replace c2 := hg.cell c2 (by simp); clear hg))) | (go_at_call 22; (refine (asg_yes HTi.out HCi.out HG.out HI.out HJ.out HA.out).mono ?_; rintro e w1 ⟨rfl, hg⟩; (replace HC := hide (HC.out.g hg); replace HTi := hide (HTi.out.kept hg); replace c0 := hg.cell c0 (by simp); replace c1 := hg.cell c1 (by simp); replace c2 := hg.cell c2 (by simp); clear hg))) | (go_at_call 23; clear N3; (refine (lev_v HTi.out HCi.out HG.out HI.out HLA.out).mono ?_; rintro e w1 ⟨rfl, hg⟩; (replace HC := hide (HC.out.g hg); replace HTi := hide (HTi.out.kept hg); replace c0 := hg.cell c0 (by simp); replace c1 := hg.cell c1 (by simp); replace c2 := hg.cell c2 (by simp); clear hg))) | (go_at_call 23; (refine (lev_v HTi.out HCi.out HG.out HJ.out HLB.out).mono ?_; rintro e w1 ⟨rfl, hg⟩; (replace HC := hide (HC.out.g hg); replace HTi := hide (HTi.out.kept hg); replace c0 := hg.cell c0 (by simp); replace c1 := hg.cell c1 (by simp); replace c2 := hg.cell c2 (by simp); clear hg))))
          all_goals go_ret
          all_goals (first | exact ⟨rfl, HC.out.grown⟩ | (exfalso; simp_all))
      · clear y9
        by_cases x9 : x = 9
        · obtain rfl := hback x9
          subst x9
          clear hback
          go_enter Try.func4, Try.ntmps4
          go_wp2_with (first | (go_at_call 12; refine (large_T13 cp HTe.out (HT.out.kept HC.out.grown) HLl.out).mono ?_; rintro e w1 ⟨d, rfl, hg, hd⟩; replace HC := hide (HC.out.g hg); clear hg; cases d <;> clear hd) | (go_at_call 13; refine (wakes13 _).mono ?_; rintro e w1 ⟨rfl, hg⟩; replace HC := hide (HC.out.g hg); clear hg) | (go_at_call 16; refine (rgood_at _ (HTb.out.kept HC.out.grown)).mono ?_; rintro e w1 ⟨d, rfl, hg, hd⟩; obtain rfl : d = true := hd.2 HG.out; replace HC := hide (HC.out.g hg); clear hg hd) | (go_at_call 14; refine (copy_T13 cp HTe.out (HT.out.kept HC.out.grown) HFw.out).mono ?_; rintro e w1 ⟨oi, ci, rfl, hg, ht, hci⟩; replace HC := hide (HC.out.g hg); have HTi := hide ht; have HCi := hide hci; obtain ⟨c0, c1, c2⟩ := HCE.out _ HC.out.grown; have b0 := block_lt_of_cell c0; clear b0 hg ht hci) | (go_at_call 20; clear M1; (refine (same_v HTi.out HCi.out HG.out HI.out HJ.out HS1.out).mono ?_; rintro e w1 ⟨rfl, hg⟩; (replace HC := hide (HC.out.g hg); replace HTi := hide (HTi.out.kept hg); replace c0 := hg.cell c0 (by simp); replace c1 := hg.cell c1 (by simp); replace c2 := hg.cell c2 (by simp); clear hg))) | (go_at_call 20; clear M2; (refine (same_v HTi.out HCi.out HG.out HJ.out HI.out HS2.out).mono ?_; rintro e w1 ⟨rfl, hg⟩; (replace HC := hide (HC.out.g hg); replace HTi := hide (HTi.out.kept hg); replace c0 := hg.cell c0 (by simp); replace c1 := hg.cell c1 (by simp); replace c2 := hg.cell c2 (by simp); clear hg))) | (go_at_call 20; clear M3; (refine (same_self HTi.out HCi.out HG.out HI.out).mono ?_; rintro e w1 ⟨rfl, hg⟩; (replace HC := hide (HC.out.g hg); replace HTi := hide (HTi.out.kept hg); replace c0 := hg.cell c0 (by simp); replace c1 := hg.cell c1 (by simp); replace c2 := hg.cell c2 (by simp); clear hg))) | (go_at_call 20; (refine (same_v HTi.out HCi.out HG.out HI.out HJ.out HS1.out).mono ?_; rintro e w1 ⟨rfl, hg⟩; (replace HC := hide (HC.out.g hg); replace HTi := hide (HTi.out.kept hg); replace c0 := hg.cell c0 (by simp); replace c1 := hg.cell c1 (by simp); replace c2 := hg.cell c2 (by simp); clear hg))) | (go_at_call 21; clear N1; (refine (ext_yes HTi.out HCi.out HG.out HI.out HJ.out HX.out).mono ?_; rintro e w1 ⟨rfl, hg⟩; (replace HC := hide (HC.out.g hg); replace HTi := hide (HTi.out.kept hg); replace c0 := hg.cell c0 (by simp); replace c1 := hg.cell c1 (by simp); replace c2 := hg.cell c2 (by simp); clear hg))) | (go_at_call 21; clear N2; (refine (ext_v HTi.out HCi.out HG.out HJ.out HI.out HE2.out).mono ?_; rintro e w1 ⟨rfl, hg⟩; (replace HC := hide (HC.out.g hg); replace HTi := hide (HTi.out.kept hg); replace c0 := hg.cell c0 (by simp); replace c1 := hg.cell c1 (by simp); replace c2 := hg.cell c2 (by simp); clear hg))) | (go_at_call 22; (refine (asg_yes HTi.out HCi.out HG.out HI.out HJ.out HA.out).mono ?_; rintro e w1 ⟨rfl, hg⟩; (replace HC := hide (HC.out.g hg); replace HTi := hide (HTi.out.kept hg); replace c0 := hg.cell c0 (by simp); replace c1 := hg.cell c1 (by simp); replace c2 := hg.cell c2 (by simp); clear hg))) | (go_at_call 23; clear N3; (refine (lev_v HTi.out HCi.out HG.out HI.out HLA.out).mono ?_; rintro e w1 ⟨rfl, hg⟩; (replace HC := hide (HC.out.g hg); replace HTi := hide (HTi.out.kept hg); replace c0 := hg.cell c0 (by simp); replace c1 := hg.cell c1 (by simp); replace c2 := hg.cell c2 (by simp); clear hg))) | (go_at_call 23; (refine (lev_v HTi.out HCi.out HG.out HJ.out HLB.out).mono ?_; rintro e w1 ⟨rfl, hg⟩; (replace HC := hide (HC.out.g hg); replace HTi := hide (HTi.out.kept hg); replace c0 := hg.cell c0 (by simp); replace c1 := hg.cell c1 (by simp); replace c2 := hg.cell c2 (by simp); clear hg))))
          all_goals go_ret
          all_goals (first | exact ⟨rfl, HC.out.grown⟩ | (exfalso; simp_all))
        · clear hback
          have x9' : (x == 9) = false := by simpa using x9
          go_enter Try.func4, Try.ntmps4
          go_wp2_with (first | (go_at_call 12; refine (large_T13 cp HTe.out (HT.out.kept HC.out.grown) HLl.out).mono ?_; rintro e w1 ⟨d, rfl, hg, hd⟩; replace HC := hide (HC.out.g hg); clear hg; cases d <;> clear hd) | (go_at_call 13; refine (wakes13 _).mono ?_; rintro e w1 ⟨rfl, hg⟩; replace HC := hide (HC.out.g hg); clear hg) | (go_at_call 16; refine (rgood_at _ (HTb.out.kept HC.out.grown)).mono ?_; rintro e w1 ⟨d, rfl, hg, hd⟩; obtain rfl : d = true := hd.2 HG.out; replace HC := hide (HC.out.g hg); clear hg hd) | (go_at_call 14; refine (copy_T13 cp HTe.out (HT.out.kept HC.out.grown) HFw.out).mono ?_; rintro e w1 ⟨oi, ci, rfl, hg, ht, hci⟩; replace HC := hide (HC.out.g hg); have HTi := hide ht; have HCi := hide hci; obtain ⟨c0, c1, c2⟩ := HCE.out _ HC.out.grown; have b0 := block_lt_of_cell c0; clear b0 hg ht hci) | (go_at_call 20; clear M1; (refine (same_v HTi.out HCi.out HG.out HI.out HJ.out HS1.out).mono ?_; rintro e w1 ⟨rfl, hg⟩; (replace HC := hide (HC.out.g hg); replace HTi := hide (HTi.out.kept hg); replace c0 := hg.cell c0 (by simp); replace c1 := hg.cell c1 (by simp); replace c2 := hg.cell c2 (by simp); clear hg))) | (go_at_call 20; clear M2; (refine (same_v HTi.out HCi.out HG.out HJ.out HI.out HS2.out).mono ?_; rintro e w1 ⟨rfl, hg⟩; (replace HC := hide (HC.out.g hg); replace HTi := hide (HTi.out.kept hg); replace c0 := hg.cell c0 (by simp); replace c1 := hg.cell c1 (by simp); replace c2 := hg.cell c2 (by simp); clear hg))) | (go_at_call 20; clear M3; (refine (same_self HTi.out HCi.out HG.out HI.out).mono ?_; rintro e w1 ⟨rfl, hg⟩; (replace HC := hide (HC.out.g hg); replace HTi := hide (HTi.out.kept hg); replace c0 := hg.cell c0 (by simp); replace c1 := hg.cell c1 (by simp); replace c2 := hg.cell c2 (by simp); clear hg))) | (go_at_call 20; (refine (same_v HTi.out HCi.out HG.out HI.out HJ.out HS1.out).mono ?_; rintro e w1 ⟨rfl, hg⟩; (replace HC := hide (HC.out.g hg); replace HTi := hide (HTi.out.kept hg); replace c0 := hg.cell c0 (by simp); replace c1 := hg.cell c1 (by simp); replace c2 := hg.cell c2 (by simp); clear hg))) | (go_at_call 21; clear N1; (refine (ext_yes HTi.out HCi.out HG.out HI.out HJ.out HX.out).mono ?_; rintro e w1 ⟨rfl, hg⟩; (replace HC := hide (HC.out.g hg); replace HTi := hide (HTi.out.kept hg); replace c0 := hg.cell c0 (by simp); replace c1 := hg.cell c1 (by simp); replace c2 := hg.cell c2 (by simp); clear hg))) | (go_at_call 21; clear N2; (refine (ext_v HTi.out HCi.out HG.out HJ.out HI.out HE2.out).mono ?_; rintro e w1 ⟨rfl, hg⟩; (replace HC := hide (HC.out.g hg); replace HTi := hide (HTi.out.kept hg); replace c0 := hg.cell c0 (by simp); replace c1 := hg.cell c1 (by simp); replace c2 := hg.cell c2 (by simp); clear hg))) | (go_at_call 22; (refine (asg_yes HTi.out HCi.out HG.out HI.out HJ.out HA.out).mono ?_; rintro e w1 ⟨rfl, hg⟩; (replace HC := hide (HC.out.g hg); replace HTi := hide (HTi.out.kept hg); replace c0 := hg.cell c0 (by simp); replace c1 := hg.cell c1 (by simp); replace c2 := hg.cell c2 (by simp); clear hg))) | (go_at_call 23; clear N3; (refine (lev_v HTi.out HCi.out HG.out HI.out HLA.out).mono ?_; rintro e w1 ⟨rfl, hg⟩; (replace HC := hide (HC.out.g hg); replace HTi := hide (HTi.out.kept hg); replace c0 := hg.cell c0 (by simp); replace c1 := hg.cell c1 (by simp); replace c2 := hg.cell c2 (by simp); clear hg))) | (go_at_call 23; (refine (lev_v HTi.out HCi.out HG.out HJ.out HLB.out).mono ?_; rintro e w1 ⟨rfl, hg⟩; (replace HC := hide (HC.out.g hg); replace HTi := hide (HTi.out.kept hg); replace c0 := hg.cell c0 (by simp); replace c1 := hg.cell c1 (by simp); replace c2 := hg.cell c2 (by simp); clear hg))))
          all_goals go_ret
          all_goals (first | exact ⟨rfl, HC.out.grown⟩ | (exfalso; simp_all))
  · have HX := hide hF
    clear H hT hl hf G hs hF hx hy hp
    go_enter Try.func4, Try.ntmps4
    go_wp2_with (first | (go_at_call 12; refine (large_T13 cp HTe.out (HT.out.kept HC.out.grown) HLl.out).mono ?_; rintro e w1 ⟨d, rfl, hg, hd⟩; replace HC := hide (HC.out.g hg); clear hg; cases d <;> clear hd) | (go_at_call 13; refine (wakes13 _).mono ?_; rintro e w1 ⟨rfl, hg⟩; replace HC := hide (HC.out.g hg); clear hg) | (go_at_call 16; refine (rgood_at _ (HTb.out.kept HC.out.grown)).mono ?_; rintro e w1 ⟨d, rfl, hg, hd⟩; obtain rfl : d = true := hd.2 HG.out; replace HC := hide (HC.out.g hg); clear hg hd) | (go_at_call 14; refine (copy_T13 cp HTe.out (HT.out.kept HC.out.grown) HFw.out).mono ?_; rintro e w1 ⟨oi, ci, rfl, hg, ht, hci⟩; replace HC := hide (HC.out.g hg); have HTi := hide ht; have HCi := hide hci; obtain ⟨c0, c1, c2⟩ := HCE.out _ HC.out.grown; have b0 := block_lt_of_cell c0; clear b0 hg ht hci) | (go_at_call 20; clear M1; (refine (same_v HTi.out HCi.out HG.out HI.out HJ.out HS1.out).mono ?_; rintro e w1 ⟨rfl, hg⟩; (replace HC := hide (HC.out.g hg); replace HTi := hide (HTi.out.kept hg); replace c0 := hg.cell c0 (by simp); replace c1 := hg.cell c1 (by simp); replace c2 := hg.cell c2 (by simp); clear hg))) | (go_at_call 20; clear M2; (refine (same_v HTi.out HCi.out HG.out HJ.out HI.out HS2.out).mono ?_; rintro e w1 ⟨rfl, hg⟩; (replace HC := hide (HC.out.g hg); replace HTi := hide (HTi.out.kept hg); replace c0 := hg.cell c0 (by simp); replace c1 := hg.cell c1 (by simp); replace c2 := hg.cell c2 (by simp); clear hg))) | (go_at_call 20; clear M3; (refine (same_self HTi.out HCi.out HG.out HI.out).mono ?_; rintro e w1 ⟨rfl, hg⟩; (replace HC := hide (HC.out.g hg); replace HTi := hide (HTi.out.kept hg); replace c0 := hg.cell c0 (by simp); replace c1 := hg.cell c1 (by simp); replace c2 := hg.cell c2 (by simp); clear hg))) | (go_at_call 21; (refine (ext_no HTi.out HCi.out HG.out HI.out HJ.out HX.out).mono ?_; rintro e w1 ⟨rfl, hg⟩; (replace HC := hide (HC.out.g hg); replace HTi := hide (HTi.out.kept hg); replace c0 := hg.cell c0 (by simp); replace c1 := hg.cell c1 (by simp); replace c2 := hg.cell c2 (by simp); clear hg))))
    all_goals go_ret
    all_goals (exact ⟨rfl, HC.out.grown⟩)
end Go.Proofs.Ytmoekalagollhaa.Ty
namespace Go.Proofs.Ytmoekalagollhaa.Ty
open Go.RowKit hiding Hid
open Go.Maps Go.Proofs.Ytmoekalagollhaa.Tx Go.Proofs.Ytmoekalagollhaa.Lx Go.Proofs.Ytmoekalagollhaa.Tr Go.Proofs.Ytmoekalagollhaa.Mp
set_option linter.unusedVariables false
set_option linter.unusedSimpArgs false
set_option maxRecDepth 100000

set_option maxHeartbeats 8000000 in
theorem order_walk {w : World} {o : Option Addr} {cp : Nat} {l : List La} (H : TabR w o l) (hl : l.length ≤ rch) (a b : Int) : Calls Try.prog 4 #[.slice o l.length cp, .int .i64 a, .int .i64 b] w (SzO w (.bool true)) := by
  obtain ⟨T, hT⟩ : ∃ T, l.map La.x = T := ⟨_, rfl⟩
  rw [show l.length = T.length by rw [← hT, List.length_map]]
  have HC := hide (Cx.start w (fun _ => False))
  have HT := hide H
  have HTe := hide hT
  have HLl := hide hl
  by_cases hf : Few l
  · have HTb := hide (show Tab w o T by have h := hf.tab H; rw [hT] at h; exact h)
    by_cases G : GoodP T
    · have HG := hide G
      have hlen : (T.length : Int) ≤ 256 := by have := G.loc.hi; omega
      by_cases a0 : a < 0
      · clear H hT hl hf G
        go_enter Try.func4, Try.ntmps4
        go_wp2_with (first | (go_at_call 12; refine (large_T13 cp HTe.out (HT.out.kept HC.out.grown) HLl.out).mono ?_; rintro e w1 ⟨d, rfl, hg, hd⟩; replace HC := hide (HC.out.g hg); clear hg; cases d <;> clear hd) | (go_at_call 13; refine (wakes13 _).mono ?_; rintro e w1 ⟨rfl, hg⟩; replace HC := hide (HC.out.g hg); clear hg) | (go_at_call 16; refine (rgood_at _ (HTb.out.kept HC.out.grown)).mono ?_; rintro e w1 ⟨d, rfl, hg, hd⟩; obtain rfl : d = true := hd.2 HG.out; replace HC := hide (HC.out.g hg); clear hg hd))
        all_goals go_ret
        all_goals (exact ⟨rfl, HC.out.grown⟩)
      by_cases b0 : b < 0
      · clear H hT hl hf G
        go_enter Try.func4, Try.ntmps4
        go_wp2_with (first | (go_at_call 12; refine (large_T13 cp HTe.out (HT.out.kept HC.out.grown) HLl.out).mono ?_; rintro e w1 ⟨d, rfl, hg, hd⟩; replace HC := hide (HC.out.g hg); clear hg; cases d <;> clear hd) | (go_at_call 13; refine (wakes13 _).mono ?_; rintro e w1 ⟨rfl, hg⟩; replace HC := hide (HC.out.g hg); clear hg) | (go_at_call 16; refine (rgood_at _ (HTb.out.kept HC.out.grown)).mono ?_; rintro e w1 ⟨d, rfl, hg, hd⟩; obtain rfl : d = true := hd.2 HG.out; replace HC := hide (HC.out.g hg); clear hg hd))
        all_goals go_ret
        all_goals (exact ⟨rfl, HC.out.grown⟩)
      by_cases a1 : a < T.length
      · by_cases b1 : b < T.length
        · obtain ⟨i, rfl⟩ : ∃ i : Nat, a = i := ⟨a.toNat, by omega⟩
          obtain ⟨j, rfl⟩ : ∃ j : Nat, b = j := ⟨b.toNat, by omega⟩
          exact order_few hT H hl hf G (by omega) (by omega)
        · clear H hT hl hf G
          go_enter Try.func4, Try.ntmps4
          go_wp2_with (first | (go_at_call 12; refine (large_T13 cp HTe.out (HT.out.kept HC.out.grown) HLl.out).mono ?_; rintro e w1 ⟨d, rfl, hg, hd⟩; replace HC := hide (HC.out.g hg); clear hg; cases d <;> clear hd) | (go_at_call 13; refine (wakes13 _).mono ?_; rintro e w1 ⟨rfl, hg⟩; replace HC := hide (HC.out.g hg); clear hg) | (go_at_call 16; refine (rgood_at _ (HTb.out.kept HC.out.grown)).mono ?_; rintro e w1 ⟨d, rfl, hg, hd⟩; obtain rfl : d = true := hd.2 HG.out; replace HC := hide (HC.out.g hg); clear hg hd))
          all_goals go_ret
          all_goals (exact ⟨rfl, HC.out.grown⟩)
      · clear H hT hl hf G
        go_enter Try.func4, Try.ntmps4
        go_wp2_with (first | (go_at_call 12; refine (large_T13 cp HTe.out (HT.out.kept HC.out.grown) HLl.out).mono ?_; rintro e w1 ⟨d, rfl, hg, hd⟩; replace HC := hide (HC.out.g hg); clear hg; cases d <;> clear hd) | (go_at_call 13; refine (wakes13 _).mono ?_; rintro e w1 ⟨rfl, hg⟩; replace HC := hide (HC.out.g hg); clear hg) | (go_at_call 16; refine (rgood_at _ (HTb.out.kept HC.out.grown)).mono ?_; rintro e w1 ⟨d, rfl, hg, hd⟩; obtain rfl : d = true := hd.2 HG.out; replace HC := hide (HC.out.g hg); clear hg hd))
        all_goals go_ret
        all_goals (exact ⟨rfl, HC.out.grown⟩)
    · have HNG := hide G
      clear H hT hl hf G
      go_enter Try.func4, Try.ntmps4
      go_wp2_with (first | (go_at_call 12; refine (large_T13 cp HTe.out (HT.out.kept HC.out.grown) HLl.out).mono ?_; rintro e w1 ⟨d, rfl, hg, hd⟩; replace HC := hide (HC.out.g hg); clear hg; cases d <;> clear hd) | (go_at_call 13; refine (wakes13 _).mono ?_; rintro e w1 ⟨rfl, hg⟩; replace HC := hide (HC.out.g hg); clear hg) | (go_at_call 16; refine (rgood_at _ (HTb.out.kept HC.out.grown)).mono ?_; rintro e w1 ⟨d, rfl, hg, hd⟩; obtain rfl : d = false := (by cases d with | false => rfl | true => exact absurd (hd.1 rfl) HNG.out); replace HC := hide (HC.out.g hg); clear hg hd))
      all_goals go_ret
      all_goals (exact ⟨rfl, HC.out.grown⟩)
  · have HN := hide hf
    clear H hT hl hf
    go_enter Try.func4, Try.ntmps4
    go_wp2_with (first | (go_at_call 12; refine (large_T13 cp HTe.out (HT.out.kept HC.out.grown) HLl.out).mono ?_; rintro e w1 ⟨d, rfl, hg, hd⟩; replace HC := hide (HC.out.g hg); obtain rfl : d = true := (by cases d with | true => rfl | false => exact absurd (hd rfl) HN.out); clear hg hd) | (go_at_call 13; refine (wakes13 _).mono ?_; rintro e w1 ⟨rfl, hg⟩; replace HC := hide (HC.out.g hg); clear hg))
    all_goals go_ret
    all_goals (exact ⟨rfl, HC.out.grown⟩)
end Go.Proofs.Ytmoekalagollhaa.Ty
