/-
  Types: alike.
  Types: alike: types with names.
  Types: alike: types without names.
  Types: alike as one.
  Types: same, purely: what is asked lies within the table, and is asked once.
  Types: same.
-/
import Derived.Test.YthmldhppmpbadaaTs5
namespace Go.Proofs.Ythmldhppmpbadaa.Ty
open Go.RowKit hiding Hid
open Go.Maps Go.Proofs.Ythmldhppmpbadaa.Tx Go.Proofs.Ythmldhppmpbadaa.Lx Go.Proofs.Ythmldhppmpbadaa.Tr Go.Proofs.Ythmldhppmpbadaa.Mp
set_option linter.unusedVariables false
set_option linter.unusedSimpArgs false
set_option maxRecDepth 100000

/- What alike tells, and what it asked. -/
def AlkO (w0 : World) (qb mb : Nat) (L : List Lc) (Fs : List Fk) (As Os : List Pk) (o : Option (List (Int × Int))) (e : Ending) (w' : World) : Prop := ∃ r As' Os' d' c', e = .returned (.bool r) ∧ Qn w0 qb mb L Fs As' Os' d' c' w' ∧ AskR As Os o r As' Os'
/- What is asked of a type that is looked at. -/
structure AlP (w0 : World) (x : La) : Prop where
  lp : Lp w0 x
  pm : x.x.pm.length ≤ 1000
  pt : ∀ p ∈ x.x.pm, i64ok p.t
  rs : i64ok x.x.rs
  el : i64ok x.x.el
theorem box_ten {w0 w : World} {A : Nat → Prop} {X : Option Nat} {L : List Lc} {Rs : List Rw} {Fs : List Fk} (H : Cf w0 A X L Rs Fs w) {la : La} {b : Nat} {t : TypeId} (hm : ⟨b, laC la, t⟩ ∈ L) :
    w.cell? ⟨b, 0, none⟩ = some (.int .i64 la.x.fm) ∧ w.cell? ⟨b, 1, none⟩ = some (.string (bs la.x.md)) ∧ w.cell? ⟨b, 2, none⟩ = some (.string (bs la.x.nm)) ∧ w.cell? ⟨b, 3, none⟩ = some (.int .i64 la.x.ln) ∧ w.cell? ⟨b, 4, none⟩ = some (.int .i64 la.x.el) ∧ w.cell? ⟨b, 5, none⟩ = some (.int .i64 la.x.ba) ∧
    w.cell? ⟨b, 6, none⟩ = some (.slice la.fo la.x.fl.length la.fc) ∧ w.cell? ⟨b, 7, none⟩ = some (.slice la.po la.x.pm.length la.pc) ∧ w.cell? ⟨b, 8, none⟩ = some (.int .i64 la.x.rs) ∧ w.cell? ⟨b, 9, none⟩ = some (.int .i64 la.x.ds) := by
  have h := H.cx.loc _ hm
  refine ⟨?_, ?_, ?_, ?_, ?_, ?_, ?_, ?_, ?_, ?_⟩ <;> (rw [cell_of_row _ _ _ _ _ _ h]; rfl)
theorem nm_e {s : Txt} : ((bs s).toList == []) = s.isEmpty := by rw [bs_toList]; cases s <;> rfl
theorem eq_e {s t : Txt} : ((bs s).toList == (bs t).toList) = (s == t) := by rw [bs_toList, bs_toList]
set_option maxHeartbeats 8000000 in
theorem alike_p {w0 : World} {qb mb : Nat} {L : List Lc} {Fs : List Fk} {As Os : List Pk} {d : Option Addr} {c : Nat} {w : World} (H : Qn w0 qb mb L Fs As Os d c w) (x y : La) (hx : AlP w0 x) (hy : AlP w0 y) (hA : As.length + 2000 < 900000) (hO : Os.length + 2000 < 900000) (h1 : x.x.fm = 11) (h2 : y.x.fm = 11) : Calls Try.prog 86 #[.pointer (some ⟨qb, 0, none⟩), .agg (laC x).toArray, .agg (laC y).toArray] w (AlkO w0 qb mb L Fs As Os (alF x.x y.x)) := by
  have HC := hide H
  have HAx := hide hx
  have HAy := hide hy
  have HAA := hide hA
  have HOO := hide hO
  have M1 : Hid True := hide trivial
  have M2 : Hid True := hide trivial
  have ha1 : (x.x.fm == 11) = true := by simpa using h1
  have ha2 : (y.x.fm == 11) = true := by simpa using h2
  have HAF := hide (show alF x.x y.x = (askL x.x.pm y.x.pm).map (· ++ [(x.x.rs, y.x.rs)]) by unfold alF; rw [if_pos ⟨h1, h2⟩])
  clear H hx hy hA hO h1 h2
  go_enter Try.func86, Try.ntmps86
  (go_upto_region 1 with (first | (refine at_box 48 rfl ?_; clear M1; refine cf_box rfl 48 _ rfl (laC x) rfl HC.out ?_; intro xb w' hn hc; (replace HC := hide hc; clear hc)) | (refine at_box 48 rfl ?_; refine cf_box rfl 48 _ rfl (laC y) rfl HC.out ?_; intro yb w' hn hc; (replace HC := hide hc; clear hc))))
  (obtain ⟨x0, x1, x2, x3, x4, x5, x6, x7, x8, x9⟩ := box_ten HC.out (la := x) (b := xb) (by repeat (first | exact List.Mem.head _ | apply List.Mem.tail)); obtain ⟨y0, y1, y2, y3, y4, y5, y6, y7, y8, y9⟩ := box_ten HC.out (la := y) (b := yb) (by repeat (first | exact List.Mem.head _ | apply List.Mem.tail)); have blx := block_lt_of_cell x0; have bly := block_lt_of_cell y0)
  go_wp2_with (go_at_call 113; refine (alikeP_at (HC.out.permL (up2 _ _ _ _)) x y HAx.out.lp HAy.out.lp HAx.out.pm HAy.out.pm HAx.out.pt HAy.out.pt HAx.out.rs HAy.out.rs HAA.out HOO.out).mono ?_; rintro e w2 ⟨r, As', Os', d', c', rfl, hq, hr⟩; replace HC := hide (hq.permL (up2 _ _ _ _).symm); have HR := hide hr; clear hq hr; (clear x0 x1 x2 x3 x4 x5 x6 x7 x8 x9 y0 y1 y2 y3 y4 y5 y6 y7 y8 y9 blx bly))
  go_ret
  refine ⟨r, As', Os', d', c', rfl, HC.out.drop.drop, ?_⟩
  rw [HAF.out]
  exact HR.out
end Go.Proofs.Ythmldhppmpbadaa.Ty
namespace Go.Proofs.Ythmldhppmpbadaa.Ty
open Go.RowKit hiding Hid
open Go.Maps Go.Proofs.Ythmldhppmpbadaa.Tx Go.Proofs.Ythmldhppmpbadaa.Lx Go.Proofs.Ythmldhppmpbadaa.Tr Go.Proofs.Ythmldhppmpbadaa.Mp
set_option linter.unusedVariables false
set_option linter.unusedSimpArgs false
set_option maxRecDepth 100000

set_option maxHeartbeats 32000000 in
theorem alike_n {w0 : World} {qb mb : Nat} {L : List Lc} {Fs : List Fk} {As Os : List Pk} {d : Option Addr} {c : Nat} {w : World} (H : Qn w0 qb mb L Fs As Os d c w) (x y : La) (hx : AlP w0 x) (hy : AlP w0 y) (hA : As.length + 2000 < 900000) (hO : Os.length + 2000 < 900000) (hf : ¬ (x.x.fm = 11 ∧ y.x.fm = 11)) (hn : x.x.nm ≠ [] ∨ y.x.nm ≠ []) : Calls Try.prog 86 #[.pointer (some ⟨qb, 0, none⟩), .agg (laC x).toArray, .agg (laC y).toArray] w (AlkO w0 qb mb L Fs As Os (alF x.x y.x)) := by
  have HC := hide H
  have HAx := hide hx
  have HAy := hide hy
  have HAA := hide hA
  have HOO := hide hO
  have M1 : Hid True := hide trivial
  have M2 : Hid True := hide trivial
  obtain ⟨m1, hm1⟩ : ∃ b, (x.x.md == y.x.md) = b := ⟨_, rfl⟩
  obtain ⟨m2, hm2⟩ : ∃ b, (x.x.nm == y.x.nm) = b := ⟨_, rfl⟩
  obtain ⟨B1, hB1⟩ : ∃ b, byN x.x = b := ⟨_, rfl⟩
  obtain ⟨B2, hB2⟩ : ∃ b, byN y.x = b := ⟨_, rfl⟩
  have HB1 := hide hB1
  have HB2 := hide hB2
  have HAF := hide (show alF x.x y.x = if (m1 && (m2 && (B1 && B2))) = true then some [] else none by
    unfold alF
    rw [if_neg hf, if_pos hn, ← hm1, ← hm2, ← hB1, ← hB2]
    simp only [Bool.and_eq_true, beq_iff_eq])
  have t1 : ((bs x.x.md).toList == (bs y.x.md).toList) = m1 := by rw [eq_e]; exact hm1
  have t2 : ((bs x.x.nm).toList == (bs y.x.nm).toList) = m2 := by rw [eq_e]; exact hm2
  have hforms : ((x.x.fm == 11) = false) ∨ ((x.x.fm == 11) = true ∧ (y.x.fm == 11) = false) := by
    by_cases h : x.x.fm = 11
    · exact .inr ⟨by simpa using h, by simpa using (fun h2 => hf ⟨h, h2⟩)⟩
    · exact .inl (by simpa using h)
  have hnames : ((bs x.x.nm).toList == []) = false ∨ (((bs x.x.nm).toList == []) = true ∧ ((bs y.x.nm).toList == []) = false) := by
    rw [nm_e, nm_e]
    cases h1 : x.x.nm with
    | cons a b => exact .inl rfl
    | nil => cases h2 : y.x.nm with
      | cons a b => exact .inr ⟨rfl, rfl⟩
      | nil => exact absurd hn (by rw [h1, h2]; simp)
  have hchain : m1 = false ∨ (m1 = true ∧ m2 = false) ∨ (m1 = true ∧ m2 = true ∧ B1 = false) ∨ (m1 = true ∧ m2 = true ∧ B1 = true ∧ B2 = false) ∨ (m1 = true ∧ m2 = true ∧ B1 = true ∧ B2 = true) := by cases m1 <;> cases m2 <;> cases B1 <;> cases B2 <;> simp
  clear H hx hy hA hO hf hn hm1 hm2 hB1 hB2
  rcases hforms with f1 | ⟨f1, f2⟩
  all_goals rcases hnames with n1 | ⟨n1, n2⟩
  all_goals rcases hchain with rfl | ⟨rfl, rfl⟩ | ⟨rfl, rfl, rfl⟩ | ⟨rfl, rfl, rfl, rfl⟩ | ⟨rfl, rfl, rfl, rfl⟩
  all_goals go_enter Try.func86, Try.ntmps86
  all_goals (go_upto_region 1 with (first | (refine at_box 48 rfl ?_; clear M1; refine cf_box rfl 48 _ rfl (laC x) rfl HC.out ?_; intro xb w' hn hc; (replace HC := hide hc; clear hc)) | (refine at_box 48 rfl ?_; refine cf_box rfl 48 _ rfl (laC y) rfl HC.out ?_; intro yb w' hn hc; (replace HC := hide hc; clear hc))))
  all_goals (obtain ⟨x0, x1, x2, x3, x4, x5, x6, x7, x8, x9⟩ := box_ten HC.out (la := x) (b := xb) (by repeat (first | exact List.Mem.head _ | apply List.Mem.tail)); obtain ⟨y0, y1, y2, y3, y4, y5, y6, y7, y8, y9⟩ := box_ten HC.out (la := y) (b := yb) (by repeat (first | exact List.Mem.head _ | apply List.Mem.tail)); have blx := block_lt_of_cell x0; have bly := block_lt_of_cell y0)
  all_goals go_wp2_with (first | (go_at_call 114; clear M2; refine (byName_at _ x).mono ?_; rw [HB1.out]; rintro e w2 ⟨rfl, hg⟩; replace HC := hide (HC.out.g hg); clear hg; (clear x0 x1 x2 x3 x4 x5 x6 x7 x8 x9 y0 y1 y2 y3 y4 y5 y6 y7 y8 y9 blx bly); (obtain ⟨x0, x1, x2, x3, x4, x5, x6, x7, x8, x9⟩ := box_ten HC.out (la := x) (b := xb) (by repeat (first | exact List.Mem.head _ | apply List.Mem.tail)); obtain ⟨y0, y1, y2, y3, y4, y5, y6, y7, y8, y9⟩ := box_ten HC.out (la := y) (b := yb) (by repeat (first | exact List.Mem.head _ | apply List.Mem.tail)); have blx := block_lt_of_cell x0; have bly := block_lt_of_cell y0)) | (go_at_call 114; refine (byName_at _ y).mono ?_; rw [HB2.out]; rintro e w3 ⟨rfl, hg⟩; replace HC := hide (HC.out.g hg); clear hg; (clear x0 x1 x2 x3 x4 x5 x6 x7 x8 x9 y0 y1 y2 y3 y4 y5 y6 y7 y8 y9 blx bly)))
  all_goals go_ret
  all_goals refine ⟨_, As, Os, d, c, rfl, HC.out.drop.drop, ?_⟩
  all_goals rw [HAF.out]
  all_goals (first | exact ⟨fun l hl => (by cases hl), fun _ => rfl⟩ | exact ⟨fun l hl => (by cases hl; exact ⟨rfl, rfl, rfl⟩), fun h => (by cases h)⟩)
end Go.Proofs.Ythmldhppmpbadaa.Ty
namespace Go.Proofs.Ythmldhppmpbadaa.Ty
open Go.RowKit hiding Hid
open Go.Maps Go.Proofs.Ythmldhppmpbadaa.Tx Go.Proofs.Ythmldhppmpbadaa.Lx Go.Proofs.Ythmldhppmpbadaa.Tr Go.Proofs.Ythmldhppmpbadaa.Mp
set_option linter.unusedVariables false
set_option linter.unusedSimpArgs false
set_option maxRecDepth 100000

set_option maxHeartbeats 32000000 in
theorem alike_em {w0 : World} {qb mb : Nat} {L : List Lc} {Fs : List Fk} {As Os : List Pk} {d : Option Addr} {c : Nat} {w : World} (H : Qn w0 qb mb L Fs As Os d c w) (x y : La) (hx : AlP w0 x) (hy : AlP w0 y) (hA : As.length + 2000 < 900000) (hO : Os.length + 2000 < 900000) (hf : ¬ (x.x.fm = 11 ∧ y.x.fm = 11)) (hn : x.x.nm = [] ∧ y.x.nm = []) : Calls Try.prog 86 #[.pointer (some ⟨qb, 0, none⟩), .agg (laC x).toArray, .agg (laC y).toArray] w (AlkO w0 qb mb L Fs As Os (alF x.x y.x)) := by
  have HC := hide H
  have HAx := hide hx
  have HAy := hide hy
  have HAA := hide hA
  have HOO := hide hO
  have M1 : Hid True := hide trivial
  have M2 : Hid True := hide trivial
  have HEx := hide hx.el
  have HEy := hide hy.el
  have HAl := hide (show As.length < 900000 by omega)
  have HOl := hide (show Os.length < 900000 by omega)
  have hforms : ((x.x.fm == 11) = false) ∨ ((x.x.fm == 11) = true ∧ (y.x.fm == 11) = false) := by
    by_cases h : x.x.fm = 11
    · exact .inr ⟨by simpa using h, by simpa using (fun h2 => hf ⟨h, h2⟩)⟩
    · exact .inl (by simpa using h)
  have n1 : ((bs x.x.nm).toList == []) = true := by rw [nm_e, hn.1]; rfl
  have n2 : ((bs y.x.nm).toList == []) = true := by rw [nm_e, hn.2]; rfl
  have h0 : alF x.x y.x = if x.x.fm ≠ y.x.fm ∨ x.x.ln ≠ y.x.ln then none else if x.x.fm = 7 ∨ x.x.fm = 8 ∨ x.x.fm = 10 then some [(x.x.el, y.x.el)] else none := by
    unfold alF
    rw [if_neg hf, if_neg (by rw [hn.1, hn.2]; simp)]
  have hcs : ((x.x.fm == y.x.fm) = false ∧ alF x.x y.x = none) ∨ ((x.x.fm == y.x.fm) = true ∧ (x.x.ln == y.x.ln) = false ∧ alF x.x y.x = none) ∨ ((x.x.fm == y.x.fm) = true ∧ (x.x.ln == y.x.ln) = true ∧ (x.x.fm == 7) = true ∧ alF x.x y.x = some [(x.x.el, y.x.el)]) ∨ ((x.x.fm == y.x.fm) = true ∧ (x.x.ln == y.x.ln) = true ∧ (x.x.fm == 7) = false ∧ (x.x.fm == 8) = true ∧ alF x.x y.x = some [(x.x.el, y.x.el)]) ∨ ((x.x.fm == y.x.fm) = true ∧ (x.x.ln == y.x.ln) = true ∧ (x.x.fm == 7) = false ∧ (x.x.fm == 8) = false ∧ (x.x.fm == 10) = true ∧ alF x.x y.x = some [(x.x.el, y.x.el)]) ∨ ((x.x.fm == y.x.fm) = true ∧ (x.x.ln == y.x.ln) = true ∧ (x.x.fm == 7) = false ∧ (x.x.fm == 8) = false ∧ (x.x.fm == 10) = false ∧ alF x.x y.x = none) := by
    rw [h0]
    by_cases e1 : x.x.fm = y.x.fm
    · by_cases e2 : x.x.ln = y.x.ln
      · rw [if_neg (by simp [e1, e2])]
        by_cases e7 : x.x.fm = 7
        · rw [if_pos (.inl e7)]; simp [e1, e2]; left; rw [← e1]; exact e7
        · by_cases e8 : x.x.fm = 8
          · rw [if_pos (.inr (.inl e8))]; simp [e1, e2]; rw [← e1]; omega
          · by_cases e10 : x.x.fm = 10
            · rw [if_pos (.inr (.inr e10))]; simp [e1, e2]; rw [← e1]; omega
            · rw [if_neg (by simp [e7, e8, e10])]; simp [e1, e2]; rw [← e1]; omega
      · rw [if_pos (.inr e2)]; simp [e1, e2]
    · rw [if_pos (.inl e1)]; simp [e1]
  clear H hx hy hA hO hf hn h0
  obtain ⟨o, ho⟩ : ∃ o, alF x.x y.x = o := ⟨_, rfl⟩
  rw [ho] at hcs ⊢
  clear ho
  rcases hforms with f1 | ⟨f1, f2⟩
  all_goals rcases hcs with ⟨c1, rfl⟩ | ⟨c1, c2, rfl⟩ | ⟨c1, c2, c3, rfl⟩ | ⟨c1, c2, c3, c4, rfl⟩ | ⟨c1, c2, c3, c4, c5, rfl⟩ | ⟨c1, c2, c3, c4, c5, rfl⟩
  all_goals (have b1 : (x.x.fm != y.x.fm) = !(x.x.fm == y.x.fm) := rfl; have b2 : (x.x.ln != y.x.ln) = !(x.x.ln == y.x.ln) := rfl; rw [c1] at b1; (try rw [c2] at b2))
  all_goals go_enter Try.func86, Try.ntmps86
  all_goals (go_upto_region 1 with (first | (refine at_box 48 rfl ?_; clear M1; refine cf_box rfl 48 _ rfl (laC x) rfl HC.out ?_; intro xb w' hn hc; (replace HC := hide hc; clear hc)) | (refine at_box 48 rfl ?_; refine cf_box rfl 48 _ rfl (laC y) rfl HC.out ?_; intro yb w' hn hc; (replace HC := hide hc; clear hc))))
  all_goals (obtain ⟨x0, x1, x2, x3, x4, x5, x6, x7, x8, x9⟩ := box_ten HC.out (la := x) (b := xb) (by repeat (first | exact List.Mem.head _ | apply List.Mem.tail)); obtain ⟨y0, y1, y2, y3, y4, y5, y6, y7, y8, y9⟩ := box_ten HC.out (la := y) (b := yb) (by repeat (first | exact List.Mem.head _ | apply List.Mem.tail)); have blx := block_lt_of_cell x0; have bly := block_lt_of_cell y0)
  all_goals go_wp2_with (first | (go_at_call 85; refine (ask_at (HC.out.permL (up2 _ _ _ _)) x.x.el y.x.el HEx.out HEy.out HAl.out HOl.out).mono ?_; rintro e w2 ⟨rfl, d2, c2, hq⟩; replace HC := hide (hq.permL (up2 _ _ _ _).symm); clear hq; (clear x0 x1 x2 x3 x4 x5 x6 x7 x8 x9 y0 y1 y2 y3 y4 y5 y6 y7 y8 y9 blx bly)))
  all_goals go_ret
  all_goals (first | (refine ⟨false, As, Os, d, c, rfl, HC.out.drop.drop, ?_⟩; exact ⟨fun l hl => (by cases hl), fun _ => rfl⟩) | (refine ⟨true, _, _, d2, c2, rfl, HC.out.drop.drop, ?_⟩; exact ⟨fun l hl => (by cases hl; exact ⟨rfl, rfl, rfl⟩), fun h => (by cases h)⟩))
end Go.Proofs.Ythmldhppmpbadaa.Ty
namespace Go.Proofs.Ythmldhppmpbadaa.Ty
open Go.RowKit hiding Hid
open Go.Maps Go.Proofs.Ythmldhppmpbadaa.Tx Go.Proofs.Ythmldhppmpbadaa.Lx Go.Proofs.Ythmldhppmpbadaa.Tr Go.Proofs.Ythmldhppmpbadaa.Mp
theorem alike_at {w0 : World} {qb mb : Nat} {L : List Lc} {Fs : List Fk} {As Os : List Pk} {d : Option Addr} {c : Nat} {w : World} (H : Qn w0 qb mb L Fs As Os d c w) (x y : La) (hx : AlP w0 x) (hy : AlP w0 y) (hA : As.length + 2000 < 900000) (hO : Os.length + 2000 < 900000) : Calls Try.prog 86 #[.pointer (some ⟨qb, 0, none⟩), .agg (laC x).toArray, .agg (laC y).toArray] w (AlkO w0 qb mb L Fs As Os (alF x.x y.x)) := by
  by_cases hf : x.x.fm = 11 ∧ y.x.fm = 11
  · exact alike_p H x y hx hy hA hO hf.1 hf.2
  · by_cases hn : x.x.nm ≠ [] ∨ y.x.nm ≠ []
    · exact alike_n H x y hx hy hA hO hf hn
    · refine alike_em H x y hx hy hA hO hf ⟨Classical.byContradiction fun h => hn (.inl h), Classical.byContradiction fun h => hn (.inr h)⟩
end Go.Proofs.Ythmldhppmpbadaa.Ty
namespace Go.Proofs.Ythmldhppmpbadaa.Ty
open Go.RowKit hiding Hid
open Go.Proofs.Ythmldhppmpbadaa.Tx Go.Proofs.Ythmldhppmpbadaa.Lx Go.Proofs.Ythmldhppmpbadaa.Tr
set_option linter.unusedVariables false
set_option linter.unusedSimpArgs false

def plc (T : List Tt) (a : Int) : Prop := 0 ≤ a ∧ a < T.length
theorem plc_of {T : List Tt} {a : Int} {p : Int → Bool} (h : p (fmA T a) = true) (h0 : p (-1) = false) : plc T a := by
  have := fmA_in (T := T) (a := a) (fun e => by rw [e, h0] at h; cases h)
  exact ⟨this.1, this.2.1⟩
theorem plc_zero {T : List Tt} (G : GoodP T) : plc T 0 := ⟨Int.le_refl _, by have := G.loc.lo; omega⟩
theorem bare_all {x : Tt} (h : bareB x = true) : x.el = 0 ∧ x.pm = [] ∧ x.rs = 0 := by
  unfold bareB at h
  simp only [Bool.and_eq_true, beq_iff_eq, List.isEmpty_iff] at h
  simp_all
theorem pm_plc {T : List Tt} {p : Pm} (h : pmB T p = true) : plc T p.t := by
  unfold pmB at h
  exact plc_of (p := openF) h (by decide)
structure PlA (T : List Tt) (x : Tt) : Prop where
  el : plc T x.el
  rs : plc T x.rs
  pm : ∀ p ∈ x.pm, plc T p.t
  le : x.pm.length ≤ 64
theorem PlA.of {T : List Tt} (G : GoodP T) {i : Nat} {x : Tt} (hx : T[i]? = some x) : PlA T x := by
  have z := plc_zero G
  by_cases hi : i < 7
  · have h := G.loc.bas i x hi hx
    unfold basicB at h
    simp only [Bool.and_eq_true] at h
    obtain ⟨h1, h2, h3⟩ := bare_all h.2.2.2
    exact ⟨by rw [h1]; exact z, by rw [h3]; exact z, by rw [h2]; simp, by rw [h2]; simp⟩
  · have h := (G.loc.oth i x (by omega) hx).2
    unfold partsB at h
    split at h
    · simp only [Bool.and_eq_true] at h
      obtain ⟨h1, h2, h3⟩ := bare_all h.2
      dsimp only at h1 h2 h3
      exact ⟨plc_of (p := elemF) h.1.2.2 (by decide), by rw [h3]; exact z, by rw [h2]; simp, by rw [h2]; simp⟩
    split at h
    · simp only [Bool.and_eq_true] at h
      obtain ⟨h1, h2, h3⟩ := bare_all h.2
      dsimp only at h1 h2 h3
      exact ⟨plc_of (p := openF) h.1 (by decide), by rw [h3]; exact z, by rw [h2]; simp, by rw [h2]; simp⟩
    split at h
    · simp only [Bool.and_eq_true] at h
      obtain ⟨h1, h2, h3⟩ := bare_all h.2
      dsimp only at h1 h2 h3
      exact ⟨by rw [h1]; exact z, by rw [h3]; exact z, by rw [h2]; simp, by rw [h2]; simp⟩
    split at h
    · simp only [Bool.and_eq_true] at h
      obtain ⟨h1, h2, h3⟩ := bare_all h.2
      dsimp only at h1 h2 h3
      exact ⟨plc_of (p := fun f => f == 9) h.1 (by decide), by rw [h3]; exact z, by rw [h2]; simp, by rw [h2]; simp⟩
    split at h
    · simp only [Bool.and_eq_true] at h
      obtain ⟨h1, h2, h3⟩ := bare_all h.2
      dsimp only at h1 h2 h3
      refine ⟨by rw [h1]; exact z, ?_, fun p hp => ?_, ?_⟩
      · have hr := h.1.2
        unfold resA at hr
        simp only [Bool.or_eq_true, beq_iff_eq] at hr
        rcases hr with hr | hr
        · rw [hr]; exact z
        · exact plc_of (p := plainF) hr (by decide)
      · have hpm := h.1.1
        unfold pmsB at hpm
        simp only [Bool.and_eq_true, decide_eq_true_eq] at hpm
        have hb := List.all_eq_true.1 hpm.2 p hp
        exact pm_plc hb
      · have hpm := h.1.1
        unfold pmsB at hpm
        simp only [Bool.and_eq_true, decide_eq_true_eq] at hpm
        exact hpm.1
    · cases h
/- What is asked for. -/
theorem alF_plc {T : List Tt} (G : GoodP T) {i j : Nat} {x y : Tt} (hx : T[i]? = some x) (hy : T[j]? = some y) {l : List (Int × Int)} (h : alF x y = some l) : ∀ c ∈ l, plc T c.1 ∧ plc T c.2 := by
  have h1 := PlA.of G hx
  have h2 := PlA.of G hy
  unfold alF at h
  split at h
  · cases ha : askL x.pm y.pm with
    | none => rw [ha] at h; cases h
    | some l' =>
      rw [ha] at h
      simp only [Option.map_some, Option.some.injEq] at h
      subst h
      intro c hc
      rcases List.mem_append.1 hc with hc | hc
      · obtain ⟨p1, p2⟩ := askL_parts ha c hc
        obtain ⟨p, hp, e1⟩ := List.mem_map.1 p1
        obtain ⟨q, hq, e2⟩ := List.mem_map.1 p2
        rw [← e1, ← e2]
        exact ⟨h1.pm p hp, h2.pm q hq⟩
      · rw [List.mem_singleton] at hc
        subst hc
        exact ⟨h1.rs, h2.rs⟩
  split at h
  · split at h
    · cases h; intro c hc; cases hc
    · cases h
  split at h
  · cases h
  split at h
  · cases h
    intro c hc
    rw [List.mem_singleton] at hc
    subst hc
    exact ⟨h1.el, h2.el⟩
  · cases h
/- What was asked, once each, and within the table. -/
structure Asd (T : List Tt) (A O : List (Int × Int)) : Prop where
  na : A.Nodup
  no : O.Nodup
  sub : ∀ p ∈ O, p ∈ A
  pl : ∀ p ∈ A, plc T p.1 ∧ plc T p.2
theorem mmP_plc {T : List Tt} {a b : Int} (ha : plc T a) (hb : plc T b) : plc T (mmP a b).1 ∧ plc T (mmP a b).2 := by
  rcases mmP_or a b with e | e <;> rw [e]
  · exact ⟨ha, hb⟩
  · exact ⟨hb, ha⟩
theorem Asd.ask {T : List Tt} {A O : List (Int × Int)} (h : Asd T A O) {p : Int × Int} (hp : plc T p.1 ∧ plc T p.2) : Asd T (askS A O p).1 (askS A O p).2 := by
  unfold askS
  split
  · exact h
  · rename_i hn
    refine ⟨?_, ?_, fun q hq => ?_, fun q hq => ?_⟩
    · rw [List.nodup_append]
      exact ⟨h.na, by simp, fun a ha b hb e => by simp at hb; subst hb; subst e; exact hn ha⟩
    · rw [List.nodup_append]
      exact ⟨h.no, by simp, fun a ha b hb e => by simp at hb; subst hb; subst e; exact hn (h.sub _ ha)⟩
    · rcases List.mem_append.1 hq with hq | hq
      · exact List.mem_append.2 (.inl (h.sub q hq))
      · exact List.mem_append.2 (.inr hq)
    · rcases List.mem_append.1 hq with hq | hq
      · exact h.pl q hq
      · rw [List.mem_singleton] at hq; subst hq; exact hp
theorem Asd.all {T : List Tt} : ∀ {l : List (Int × Int)} {A O : List (Int × Int)}, Asd T A O → (∀ c ∈ l, plc T c.1 ∧ plc T c.2) → Asd T (askAll A O l).1 (askAll A O l).2
  | [], A, O, h, _ => h
  | c :: l, A, O, h, hl => by
    rw [askAll]
    exact Asd.all (h.ask (mmP_plc (hl c (.head _)).1 (hl c (.head _)).2)) (fun d hd => hl d (.tail _ hd))
theorem Asd.pop {T : List Tt} {A O : List (Int × Int)} {p : Int × Int} (h : Asd T A (O ++ [p])) : Asd T A O := ⟨h.na, (List.nodup_append.1 h.no).1, fun q hq => h.sub q (List.mem_append.2 (.inl hq)), h.pl⟩
theorem Asd.leO {T : List Tt} {A O : List (Int × Int)} (h : Asd T A O) : O.length ≤ A.length := h.no.length_le_of_subset h.sub
theorem Asd.leA {T : List Tt} {A O : List (Int × Int)} (h : Asd T A O) (hT : T.length ≤ 256) : A.length ≤ 65536 := by
  have hsub : A ⊆ (List.range 65536).map (fun (k : Nat) => (((k / 256 : Nat) : Int), ((k % 256 : Nat) : Int))) := fun p hp => by
    obtain ⟨⟨h1, h2⟩, h3, h4⟩ := h.pl p hp
    refine List.mem_map.2 ⟨p.1.toNat * 256 + p.2.toNat, List.mem_range.2 (by omega), ?_⟩
    have e1 : (p.1.toNat * 256 + p.2.toNat) / 256 = p.1.toNat := by omega
    have e2 : (p.1.toNat * 256 + p.2.toNat) % 256 = p.2.toNat := by omega
    rw [e1, e2, Int.toNat_of_nonneg h1, Int.toNat_of_nonneg h3]
  have := h.na.length_le_of_subset hsub
  simpa using this
/- How many rounds may be to come. -/
def rnd (A O : List (Int × Int)) : Nat := 2 * (65536 - A.length) + O.length
theorem askS_rnd {A O : List (Int × Int)} {p : Int × Int} (h : (askS A O p).1.length ≤ 65536) : rnd (askS A O p).1 (askS A O p).2 ≤ rnd A O := by
  unfold rnd
  unfold askS at h ⊢
  split
  · exact Nat.le_refl _
  · rename_i hn
    rw [if_neg hn] at h
    simp only [List.length_append, List.length_cons, List.length_nil] at h ⊢
    omega
theorem askAll_rnd {T : List Tt} (hT : T.length ≤ 256) : ∀ {l : List (Int × Int)} {A O : List (Int × Int)}, Asd T A O → (∀ c ∈ l, plc T c.1 ∧ plc T c.2) → rnd (askAll A O l).1 (askAll A O l).2 ≤ rnd A O
  | [], A, O, _, _ => Nat.le_refl _
  | c :: l, A, O, h, hl => by
    rw [askAll]
    have h1 := h.ask (mmP_plc (hl c (.head _)).1 (hl c (.head _)).2)
    exact Nat.le_trans (askAll_rnd hT h1 (fun d hd => hl d (.tail _ hd))) (askS_rnd (h1.leA hT))
theorem plc_i64 {T : List Tt} (hT : T.length ≤ 256) {a : Int} (h : plc T a) : i64ok a := ⟨by have := h.1; omega, by have := h.2; omega⟩
end Go.Proofs.Ythmldhppmpbadaa.Ty
namespace Go.Proofs.Ythmldhppmpbadaa.Ty
open Go.RowKit hiding Hid
open Go.Maps Go.Proofs.Ythmldhppmpbadaa.Tx Go.Proofs.Ythmldhppmpbadaa.Lx Go.Proofs.Ythmldhppmpbadaa.Tr Go.Proofs.Ythmldhppmpbadaa.Mp
set_option linter.unusedVariables false
set_option linter.unusedSimpArgs false
set_option maxRecDepth 100000

theorem tyQU2 : TyS Try.prog 101 2 := tyS_of Try.underlying101 rfl (by kernel_rfl)
theorem zQU2 : (Try.prog.info? 101).bind (fun i => i.zero.map (·.cells)) = some ([.map none, .slice none 0 0] : List Value).toArray := by kernel_rfl
theorem own_cellK {w : World} {B : Nat} {e : TypeId} {k n c : Nat} {ad : Addr} {xs : List Value} (h : w.ownsRow B e k (.slice (some ad) n c) n xs) {i : Nat} {v : Value} (hx : xs[i]? = some v) : w.cell? ⟨ad.block, i, none⟩ = some v := by
  obtain ⟨h1, ⟨e1, _⟩ | ⟨g, cap, cur, e1, e2, e3, e4, e5, e6, e7⟩⟩ := h
  · cases e1
  · injection e1 with e1 _ _
    injection e1 with e1
    subst e1
    simp only
    rw [cell_of_row _ _ _ _ _ _ e3, ← Array.getElem?_toList]
    rw [← e7, List.getElem?_take] at hx
    split at hx
    · exact hx
    · cases hx
theorem pairC_len (p : Pk) : (pairC p).length = 2 := rfl
def SmO (T : List Tt) (a b : Int) (w : World) (e : Ending) (w' : World) : Prop := ∃ r, e = .returned (.bool r) ∧ w.grownBy w' none ∧ (r = true ↔ SameP T a b)
theorem SmO.of {T : List Tt} {a b : Int} {w w' : World} {r : Bool} (h1 : w.grownBy w' none) (h2 : r = true ↔ SameP T a b) : SmO T a b w (.returned (.bool r)) w' := ⟨r, rfl, h1, h2⟩
theorem askS_one (p : Int × Int) : askS [] [] p = ([p], [p]) := by unfold askS; rw [if_neg (by simp)]; rfl
theorem AlP.of {T : List Tt} (G : GoodP T) {w : World} {la : La} (hl : Lp w la) {i : Nat} (hx : T[i]? = some la.x) : AlP w la := by
  have h := PlA.of G hx
  have hi := G.loc.hi
  exact ⟨hl, by have := h.le; omega, fun p hp => plc_i64 hi (h.pm p hp), plc_i64 hi h.rs, plc_i64 hi h.el⟩
theorem last_of {α : Type} : ∀ (l : List α), l ≠ [] → ∃ l' a, l = l' ++ [a]
  | l, h => ⟨l.dropLast, l.getLast h, (List.dropLast_concat_getLast h).symm⟩
set_option maxHeartbeats 16000000 in
theorem same_at {w : World} {o : Option Addr} {T : List Tt} (cp : Nat) (H : Tab w o T) (G : GoodP T) (hcp : T.length ≤ cp) (a b : Int) (ha : plc T a) (hb : plc T b) : Calls Try.prog 56 #[.slice o T.length cp, .int .i64 a, .int .i64 b] w (SmO T a b w) := by
  have hT := G.loc.hi
  have HT := hide H
  have HG := hide G
  have HHi := hide hT
  have HIa := hide (plc_i64 hT ha)
  have HIb := hide (plc_i64 hT hb)
  have HPab := hide (mmP_plc ha hb)
  have k0 : (T.length : Int) ≤ 256 := by omega
  have HC := hide (Cf.of (Cx.start w (fun _ => False)))
  clear H G ha hb hcp hT
  go_enter Try.func56, Try.ntmps56
  go_wp2_with (first | (refine at_mkmap 98 rfl ?_; refine cf_mkmap rfl 98 rfl (fun b W => MapP W b []) MapP.made (fun b => stabP b []) HC.out ?_; intro mb w' hc; (replace HC := hide hc; clear hc)) | (refine at_alloc 101 rfl ?_; refine cf_alloc rfl 101 rfl _ zQU2 HC.out ?_; intro qb w' hn hc; (replace HC := hide hc; clear hc)) | (refine at_store 101 rfl ?_; refine cf_store rfl 101 _ _ rfl rfl rfl tyQU2.sz rfl HC.out (by repeat (first | exact List.Mem.head _ | apply List.Mem.tail)) (by exact PutS.all _ _ rfl) (by repeat (first | exact Upd.here _ _ _ | apply Upd.there)) ?_; intro w' hc; (replace HC := hide hc; clear hc)) | (go_at_call 85; refine (ask_at (As := []) (Os := []) (d := none) (c := 0) (HC.out.nilR 104 2) a b HIa.out HIb.out (by decide) (by decide)).mono ?_; rw [askS_one]; rintro e w2 ⟨rfl, d2, c2, hq⟩; replace HC := hide hq; clear hq))
  have HC1 := HC
  clear HC
  go_loopg [8] (rnd [mmP a b] [mmP a b]) (fun k _ W => ∃ (A O : List Pk) (d : Option Addr) (c : Nat), Hid (k = rnd A O) ∧ Hid (Run T (mmP a b) A O) ∧ Hid (Asd T A O) ∧ Hid (Qn w qb mb [] [] A O d c W))
  case atStart => exact ⟨[mmP a b], [mmP a b], d2, c2, hide rfl, hide (Run.start T _), hide ⟨by simp, by simp, fun p hp => hp, fun p hp => by rw [List.mem_singleton] at hp; subst hp; exact HPab.out⟩, HC1⟩
  case round =>
    clear HC1
    obtain ⟨A, O, d, c, HK, HR, HA, HC⟩ := hrel
    by_cases hO : O = []
    · subst hO
      go_wp2_with (refine at_load 99 rfl ?_; refine wl_load_c rfl 99 _ rfl tcQS rfl HC.out.cx (by repeat (first | exact List.Mem.head _ | apply List.Mem.tail)) (by repeat (first | exact GetS.cons _ (GetS.nil _) | apply GetS.skip)) ?_)
      go_ret
      exact SmO.of HC.out.cx.grown ⟨fun _ => HR.out.yes, fun _ => rfl⟩
    · obtain ⟨O1, p, rfl⟩ := last_of O hO
      clear hO
      have hpp := HA.out.pl p (HA.out.sub p (List.mem_append.2 (.inr (.head _))))
      obtain ⟨p1, p2⟩ := p
      obtain ⟨⟨z1, z2⟩, z3, z4⟩ := hpp
      dsimp only at z1 z2 z3 z4
      obtain ⟨i, rfl⟩ := Int.eq_ofNat_of_zero_le z1
      obtain ⟨j, rfl⟩ := Int.eq_ofNat_of_zero_le z3
      have hi : i < T.length := by omega
      have hj : j < T.length := by omega
      have hle := HA.out.leA HHi.out
      have hlo := HA.out.leO
      rw [List.length_append, List.length_singleton] at hlo
      obtain ⟨n, hn⟩ : ∃ n, O1.length = n := ⟨_, rfl⟩
      obtain ⟨N, hN⟩ : ∃ N, (O1 ++ [((i : Int), (j : Int))]).length = N := ⟨_, rfl⟩
      have hNn : N = n + 1 := by rw [← hN, List.length_append, hn]; rfl
      unfold Qn at HC
      rw [hN] at HC
      obtain ⟨g, rfl, c0, c9⟩ := own_at (HC.out.cx.row _ (.head _)) (by omega)
      have n0 : (N : Int) - 1 = n := by omega
      have n1 : (n : Int) < N := by omega
      have n2 : (N : Int) ≤ 65536 := by omega
      have n3 : (0 : Int) < N := by omega
      have n4 : n ≤ N := by omega
      have n5 : (N : Int) ≤ c := by omega
      have n6 : (c : Int) ≤ 9223372036854775807 := by unfold maxLen at c9; omega
      have n7 : n ≤ c := by omega
      have HNn := hide hNn
      have Hn := hide hn
      have HPc := hide (fun (W : World) (h : W.ownsRow w.heap.size 104 2 (.slice (some ⟨g, 0, none⟩) N c) N ((O1 ++ [((i : Int), (j : Int))]).flatMap pairC)) => show ∀ k u, ([.int .i64 (i : Int), .int .i64 (j : Int)] : List Value)[k]? = some u → W.cell? ((⟨g, n * 2, none⟩ : Addr).add k) = some u from fun k u hu => by
        have h1 := flat_at pairC_len (O1 ++ [((i : Int), (j : Int))]) n ((i : Int), (j : Int)) (by rw [List.getElem?_append_right (by omega), hn]; simp) k u hu
        have h2 := own_cellK h h1
        have e1 : (⟨g, n * 2, none⟩ : Addr).add k = ⟨g, n * 2 + k, none⟩ := by unfold Addr.add; split <;> simp_all
        rw [e1]
        exact h2)
      have HAl := hide (show A.length + 2000 < 900000 by omega)
      have HOl := hide (show O1.length + 2000 < 900000 by omega)
      have HA1 := hide HA.out.pop
      have HMA := hide (HR.out.sub _ (List.mem_append.2 (.inr (.head _))))
      have HK1 := hide (show rnd A O1 < gk by rw [HK.out]; unfold rnd; rw [List.length_append, List.length_singleton]; omega)
      have HTk := hide (show ((O1 ++ [((i : Int), (j : Int))]).flatMap pairC).take (n * 2) = O1.flatMap pairC by
        rw [List.flatMap_append, List.take_append_of_le_length (by rw [flat_lenV pairC_len, hn]; omega), List.take_of_length_le (by rw [flat_lenV pairC_len, hn]; omega)])
      clear hle hlo hn hN hNn z1 z2 z3 z4 c0 c9 HK
      by_cases hij : i = j
      · have e0 : ((i : Int) != (j : Int)) = false := by simp [hij]
        have HIJ := hide hij
        clear hij
        go_upto_region 7 with (first | (refine at_load 99 rfl ?_; refine wl_load_c rfl 99 _ rfl tcQS rfl HC.out.cx (by repeat (first | exact List.Mem.head _ | apply List.Mem.tail)) (by repeat (first | exact GetS.cons _ (GetS.nil _) | apply GetS.skip)) ?_) | (refine at_load 104 rfl ?_; refine wl_run rfl 104 _ rfl rfl (run_load_s tyPr _ [.int .i64 (i : Int), .int .i64 (j : Int)] rfl (HPc.out _ (HC.out.cx.row _ (.head _)))) ?_) | (refine at_alloc 104 rfl ?_; refine cf_alloc rfl 104 rfl _ zPr HC.out ?_; intro pb w' hn hc; (replace HC := hide hc; clear hc)) | (refine at_store 104 rfl ?_; refine cf_store rfl 104 _ _ rfl rfl rfl tyPr.sz rfl HC.out (by repeat (first | exact List.Mem.head _ | apply List.Mem.tail)) (by exact PutS.all _ _ rfl) (by repeat (first | exact Upd.here _ _ _ | apply Upd.there)) ?_; intro w' hc; (replace HC := hide hc; clear hc)) | (refine at_store 99 rfl ?_; refine cf_store (us := [_]) rfl 99 _ _ rfl rfl rfl tcQS.sz rfl HC.out (by repeat (first | exact List.Mem.head _ | apply List.Mem.tail)) (by repeat (first | exact PutS.cons _ _ (PutS.nil _) | apply PutS.skip)) (by repeat (first | exact Upd.here _ _ _ | apply Upd.there)) ?_; intro w' hc; (replace HC := hide hc; clear hc)))
        replace HC := hide (HC.out.cutR (m := n) (by omega) (by simp))
        rw [HTk.out] at HC
        replace HC := hide (HC.out.g (d1_g _)); refine wp_region_inN (fun W => W.cell? ⟨pb, 0, none⟩ = some (.int .i64 (i : Int)) ∧ W.cell? ⟨pb, 1, none⟩ = some (.int .i64 (j : Int))) [18] (Pn.of [(1, 0), (1, 1), (1, 2), (1, 3), (1, 4), (1, 5), (1, 6), (1, 7), (1, 8), (1, 9), (1, 10), (1, 11), (1, 12), (1, 13), (1, 14), (1, 15), (2, 16), (1, 17), (0, 18)] .nil) (by kernel_rfl) (by kernel_rfl) (by kernel_rfl) (by kernel_rfl) (fun _ _ d _ _ h => by cases d <;> exact h) ⟨cfcell HC.out (by repeat (first | exact List.Mem.head _ | apply List.Mem.tail)) (by repeat (first | exact GetS.cons _ (GetS.nil _) | apply GetS.skip)), cfcell HC.out (by repeat (first | exact List.Mem.head _ | apply List.Mem.tail)) (by repeat (first | exact GetS.cons _ (GetS.nil _) | apply GetS.skip))⟩ ?_
        (refine inN_read (v := ?_) rfl (Or.inl ⟨by rfl, ?_⟩) ?_; rotate_left 1; (focus (intro W hSW; clear hSW; go_simp; (try (with_reducible rfl)))); (try simp only [Act.put, List.getElem_toArray, List.getElem_cons_zero, List.getElem_cons_succ, List.setIfInBounds_toArray, List.set_cons_zero, List.set_cons_succ]))
        (refine inN_read rfl (yl_cell tcI rfl rfl rfl (fun W hS => hS.1)) ?_; (try simp only [Act.put, List.getElem_toArray, List.getElem_cons_zero, List.getElem_cons_succ, List.setIfInBounds_toArray, List.set_cons_zero, List.set_cons_succ]))
        (refine inN_read (v := ?_) rfl (Or.inl ⟨by rfl, ?_⟩) ?_; rotate_left 1; (focus (intro W hSW; clear hSW; go_simp; (try (with_reducible rfl)))); (try simp only [Act.put, List.getElem_toArray, List.getElem_cons_zero, List.getElem_cons_succ, List.setIfInBounds_toArray, List.set_cons_zero, List.set_cons_succ]))
        (refine inN_read rfl (yl_cell tcI rfl rfl rfl (fun W hS => hS.2)) ?_; (try simp only [Act.put, List.getElem_toArray, List.getElem_cons_zero, List.getElem_cons_succ, List.setIfInBounds_toArray, List.set_cons_zero, List.set_cons_succ]))
        (refine inN_read (v := ?_) rfl (Or.inl ⟨by rfl, ?_⟩) ?_; rotate_left 1; (focus (intro W hSW; clear hSW; go_simp; (try (with_reducible rfl)))); (try simp only [Act.put, List.getElem_toArray, List.getElem_cons_zero, List.getElem_cons_succ, List.setIfInBounds_toArray, List.set_cons_zero, List.set_cons_succ]))
        (refine inN_read (v := ?_) rfl (Or.inl ⟨by rfl, ?_⟩) ?_; rotate_left 1; (focus (intro W hSW; clear hSW; go_simp; (try (with_reducible rfl)))); (try simp only [Act.put, List.getElem_toArray, List.getElem_cons_zero, List.getElem_cons_succ, List.setIfInBounds_toArray, List.set_cons_zero, List.set_cons_succ]))
        refine inN_read rfl (Or.inr ⟨by rfl, rfl⟩) ?_; (try simp only [Act.put, List.getElem_toArray, List.getElem_cons_zero, List.getElem_cons_succ, List.setIfInBounds_toArray, List.set_cons_zero, List.set_cons_succ])
        refine inN_read rfl (Or.inr ⟨by rfl, rfl⟩) ?_; (try simp only [Act.put, List.getElem_toArray, List.getElem_cons_zero, List.getElem_cons_succ, List.setIfInBounds_toArray, List.set_cons_zero, List.set_cons_succ])
        refine inN_read rfl (Or.inr ⟨by rfl, rfl⟩) ?_; (try simp only [Act.put, List.getElem_toArray, List.getElem_cons_zero, List.getElem_cons_succ, List.setIfInBounds_toArray, List.set_cons_zero, List.set_cons_succ])
        refine inN_read rfl (Or.inr ⟨by rfl, rfl⟩) ?_; (try simp only [Act.put, List.getElem_toArray, List.getElem_cons_zero, List.getElem_cons_succ, List.setIfInBounds_toArray, List.set_cons_zero, List.set_cons_succ])
        refine inN_read rfl (Or.inr ⟨by rfl, rfl⟩) ?_; (try simp only [Act.put, List.getElem_toArray, List.getElem_cons_zero, List.getElem_cons_succ, List.setIfInBounds_toArray, List.set_cons_zero, List.set_cons_succ])
        refine inN_read rfl (Or.inr ⟨by rfl, rfl⟩) ?_; (try simp only [Act.put, List.getElem_toArray, List.getElem_cons_zero, List.getElem_cons_succ, List.setIfInBounds_toArray, List.set_cons_zero, List.set_cons_succ])
        refine inN_read rfl (Or.inr ⟨by rfl, rfl⟩) ?_; (try simp only [Act.put, List.getElem_toArray, List.getElem_cons_zero, List.getElem_cons_succ, List.setIfInBounds_toArray, List.set_cons_zero, List.set_cons_succ])
        refine inN_read rfl (Or.inr ⟨by rfl, rfl⟩) ?_; (try simp only [Act.put, List.getElem_toArray, List.getElem_cons_zero, List.getElem_cons_succ, List.setIfInBounds_toArray, List.set_cons_zero, List.set_cons_succ])
        refine inN_read rfl (Or.inr ⟨by rfl, rfl⟩) ?_; (try simp only [Act.put, List.getElem_toArray, List.getElem_cons_zero, List.getElem_cons_succ, List.setIfInBounds_toArray, List.set_cons_zero, List.set_cons_succ])
        refine inN_read rfl (Or.inr ⟨by rfl, rfl⟩) ?_; (try simp only [Act.put, List.getElem_toArray, List.getElem_cons_zero, List.getElem_cons_succ, List.setIfInBounds_toArray, List.set_cons_zero, List.set_cons_succ])
        refine inN_skip rfl rfl rfl ?_; (try simp only [Act.put, List.getElem_toArray, List.getElem_cons_zero, List.getElem_cons_succ, List.setIfInBounds_toArray, List.set_cons_zero, List.set_cons_succ])
        refine inN_read rfl (Or.inr ⟨by rfl, rfl⟩) ?_; (try simp only [Act.put, List.getElem_toArray, List.getElem_cons_zero, List.getElem_cons_succ, List.setIfInBounds_toArray, List.set_cons_zero, List.set_cons_succ])
        (refine inN_pure (v := ?_) rfl (Or.inl ⟨by rfl, ?_⟩) ?_; rotate_left 1; (focus (intro W hSW; clear hSW; go_simp; (try (with_reducible rfl)))); (try simp only [Act.put, List.getElem_toArray, List.getElem_cons_zero, List.getElem_cons_succ, List.setIfInBounds_toArray, List.set_cons_zero, List.set_cons_succ]))
        refine inN_end ?_
        go_wp2
        go_roundg (rnd A O1)
        case measure => exact HK1.out
        case rel =>
          refine ⟨A, O1, some ⟨g, 0, none⟩, c, hide rfl, hide (HR.out.next (l := []) (.inl ⟨by show (i : Int) = j; rw [HIJ.out], rfl⟩)), HA1, hide ?_⟩
          unfold Qn
          rw [Hn.out]
          exact HC.out.drop
      · have e0 : ((i : Int) != (j : Int)) = true := by simp; omega
        have HIJ := hide (show ((i : Int), (j : Int)).1 ≠ ((i : Int), (j : Int)).2 from fun e => hij (by have : (i : Int) = j := e; omega))
        obtain ⟨ad, x, hox, hxx, hcx, hlx⟩ := HT.out.at (List.getElem?_eq_getElem hi)
        obtain ⟨ad2, y, hoy, hyy, hcy, hly⟩ := HT.out.at (List.getElem?_eq_getElem hj)
        subst hox
        cases hoy
        obtain ⟨Bx, hBx⟩ : ∃ B, ad.add (i * 10) = B := ⟨_, rfl⟩
        obtain ⟨By, hBy⟩ : ∃ B, ad.add (j * 10) = B := ⟨_, rfl⟩
        rw [hBx] at hcx
        rw [hBy] at hcy
        have hX : T[i]? = some x.x := by rw [hxx]; exact List.getElem?_eq_getElem hi
        have hY : T[j]? = some y.x := by rw [hyy]; exact List.getElem?_eq_getElem hj
        have HEX := hide (fun W (hW : w.grownBy W none) k u (hu : (laC x)[k]? = some u) => hW.cell (hcx k u hu) (by simp))
        have HEY := hide (fun W (hW : w.grownBy W none) k u (hu : (laC y)[k]? = some u) => hW.cell (hcy k u hu) (by simp))
        have HAx := hide (AlP.of HG.out hlx hX)
        have HAy := hide (AlP.of HG.out hly hY)
        have HAA := hide (alA_at hX hY)
        have HX := hide hX
        have HY := hide hY
        have i0 : (i : Int) < T.length := by omega
        have j0 : (j : Int) < T.length := by omega
        cases hal : alF x.x y.x with
        | none =>
          have HAF := hide hal
          clear hij hcx hcy hlx hly hxx hyy hX hY hal hi hj
          go_upto_region 7 with (first | (refine at_load 99 rfl ?_; refine wl_load_c rfl 99 _ rfl tcQS rfl HC.out.cx (by repeat (first | exact List.Mem.head _ | apply List.Mem.tail)) (by repeat (first | exact GetS.cons _ (GetS.nil _) | apply GetS.skip)) ?_) | (refine at_load 104 rfl ?_; refine wl_run rfl 104 _ rfl rfl (run_load_s tyPr _ [.int .i64 (i : Int), .int .i64 (j : Int)] rfl (HPc.out _ (HC.out.cx.row _ (.head _)))) ?_) | (refine at_alloc 104 rfl ?_; refine cf_alloc rfl 104 rfl _ zPr HC.out ?_; intro pb w' hn hc; (replace HC := hide hc; clear hc)) | (refine at_store 104 rfl ?_; refine cf_store rfl 104 _ _ rfl rfl rfl tyPr.sz rfl HC.out (by repeat (first | exact List.Mem.head _ | apply List.Mem.tail)) (by exact PutS.all _ _ rfl) (by repeat (first | exact Upd.here _ _ _ | apply Upd.there)) ?_; intro w' hc; (replace HC := hide hc; clear hc)) | (refine at_store 99 rfl ?_; refine cf_store (us := [_]) rfl 99 _ _ rfl rfl rfl tcQS.sz rfl HC.out (by repeat (first | exact List.Mem.head _ | apply List.Mem.tail)) (by repeat (first | exact PutS.cons _ _ (PutS.nil _) | apply PutS.skip)) (by repeat (first | exact Upd.here _ _ _ | apply Upd.there)) ?_; intro w' hc; (replace HC := hide hc; clear hc)))
          replace HC := hide (HC.out.cutR (m := n) (by omega) (by simp))
          rw [HTk.out, ← Hn.out] at HC
          replace HC := hide (HC.out.g (d1_g _)); refine wp_region_inN (fun W => W.cell? ⟨pb, 0, none⟩ = some (.int .i64 (i : Int)) ∧ W.cell? ⟨pb, 1, none⟩ = some (.int .i64 (j : Int)) ∧ (∀ k u, (laC x)[k]? = some u → W.cell? (Bx.add k) = some u) ∧ (∀ k u, (laC y)[k]? = some u → W.cell? (By.add k) = some u)) [18] (Pn.of [(1, 0), (1, 1), (1, 2), (1, 3), (1, 4), (1, 5), (1, 6), (1, 7), (1, 8), (1, 9), (1, 10), (1, 11), (1, 12), (1, 13), (1, 14), (1, 15), (2, 16), (1, 17), (0, 18)] .nil) (by kernel_rfl) (by kernel_rfl) (by kernel_rfl) (by kernel_rfl) (fun _ _ d _ _ h => by cases d <;> exact h) ⟨cfcell HC.out (by repeat (first | exact List.Mem.head _ | apply List.Mem.tail)) (by repeat (first | exact GetS.cons _ (GetS.nil _) | apply GetS.skip)), cfcell HC.out (by repeat (first | exact List.Mem.head _ | apply List.Mem.tail)) (by repeat (first | exact GetS.cons _ (GetS.nil _) | apply GetS.skip)), HEX.out _ HC.out.cx.grown, HEY.out _ HC.out.cx.grown⟩ ?_
          (refine inN_read (v := ?_) rfl (Or.inl ⟨by rfl, ?_⟩) ?_; rotate_left 1; (focus (intro W hSW; clear hSW; go_simp; (try (with_reducible rfl)))); (try simp only [Act.put, List.getElem_toArray, List.getElem_cons_zero, List.getElem_cons_succ, List.setIfInBounds_toArray, List.set_cons_zero, List.set_cons_succ]))
          (refine inN_read rfl (yl_cell tcI rfl rfl rfl (fun W hS => hS.1)) ?_; (try simp only [Act.put, List.getElem_toArray, List.getElem_cons_zero, List.getElem_cons_succ, List.setIfInBounds_toArray, List.set_cons_zero, List.set_cons_succ]))
          (refine inN_read (v := ?_) rfl (Or.inl ⟨by rfl, ?_⟩) ?_; rotate_left 1; (focus (intro W hSW; clear hSW; go_simp; (try (with_reducible rfl)))); (try simp only [Act.put, List.getElem_toArray, List.getElem_cons_zero, List.getElem_cons_succ, List.setIfInBounds_toArray, List.set_cons_zero, List.set_cons_succ]))
          (refine inN_read rfl (yl_cell tcI rfl rfl rfl (fun W hS => hS.2.1)) ?_; (try simp only [Act.put, List.getElem_toArray, List.getElem_cons_zero, List.getElem_cons_succ, List.setIfInBounds_toArray, List.set_cons_zero, List.set_cons_succ]))
          (refine inN_read (v := ?_) rfl (Or.inl ⟨by rfl, ?_⟩) ?_; rotate_left 1; (focus (intro W hSW; clear hSW; go_simp; (try (with_reducible rfl)))); (try simp only [Act.put, List.getElem_toArray, List.getElem_cons_zero, List.getElem_cons_succ, List.setIfInBounds_toArray, List.set_cons_zero, List.set_cons_succ]))
          (refine inN_read (v := ?_) rfl (Or.inl ⟨by rfl, ?_⟩) ?_; rotate_left 1; (focus (intro W hSW; clear hSW; go_simp; (try (with_reducible rfl)))); (try simp only [Act.put, List.getElem_toArray, List.getElem_cons_zero, List.getElem_cons_succ, List.setIfInBounds_toArray, List.set_cons_zero, List.set_cons_succ]))
          (refine inN_read (v := ?_) rfl (Or.inl ⟨by rfl, ?_⟩) ?_; rotate_left 1; (focus (intro W hSW; clear hSW; go_simp; (try (with_reducible rfl)))); (try simp only [Act.put, List.getElem_toArray, List.getElem_cons_zero, List.getElem_cons_succ, List.setIfInBounds_toArray, List.set_cons_zero, List.set_cons_succ]))
          (refine inN_read (v := ?_) rfl (Or.inl ⟨by rfl, ?_⟩) ?_; rotate_left 1; (focus (intro W hSW; clear hSW; go_simp; (try (with_reducible rfl)))); (try simp only [Act.put, List.getElem_toArray, List.getElem_cons_zero, List.getElem_cons_succ, List.setIfInBounds_toArray, List.set_cons_zero, List.set_cons_succ]))
          (refine inN_read rfl (yl_cell tcI rfl rfl rfl (fun W hS => hS.1)) ?_; (try simp only [Act.put, List.getElem_toArray, List.getElem_cons_zero, List.getElem_cons_succ, List.setIfInBounds_toArray, List.set_cons_zero, List.set_cons_succ]))
          (refine inN_read (v := ?_) rfl (Or.inl ⟨by rfl, ?_⟩) ?_; rotate_left 1; (focus (intro W hSW; clear hSW; go_simp; (try (with_reducible rfl)))); (try simp only [Act.put, List.getElem_toArray, List.getElem_cons_zero, List.getElem_cons_succ, List.setIfInBounds_toArray, List.set_cons_zero, List.set_cons_succ]))
          (refine inN_read rfl (yl_load rfl rfl rfl (fun W hS => run_load_s tyT _ (laC x) rfl hS.2.2.1)) ?_; (try simp only [Act.put, List.getElem_toArray, List.getElem_cons_zero, List.getElem_cons_succ, List.setIfInBounds_toArray, List.set_cons_zero, List.set_cons_succ]))
          (refine inN_read (v := ?_) rfl (Or.inl ⟨by rfl, ?_⟩) ?_; rotate_left 1; (focus (intro W hSW; clear hSW; go_simp; (try (with_reducible rfl)))); (try simp only [Act.put, List.getElem_toArray, List.getElem_cons_zero, List.getElem_cons_succ, List.setIfInBounds_toArray, List.set_cons_zero, List.set_cons_succ]))
          (refine inN_read (v := ?_) rfl (Or.inl ⟨by rfl, ?_⟩) ?_; rotate_left 1; (focus (intro W hSW; clear hSW; go_simp; (try (with_reducible rfl)))); (try simp only [Act.put, List.getElem_toArray, List.getElem_cons_zero, List.getElem_cons_succ, List.setIfInBounds_toArray, List.set_cons_zero, List.set_cons_succ]))
          (refine inN_read rfl (yl_cell tcI rfl rfl rfl (fun W hS => hS.2.1)) ?_; (try simp only [Act.put, List.getElem_toArray, List.getElem_cons_zero, List.getElem_cons_succ, List.setIfInBounds_toArray, List.set_cons_zero, List.set_cons_succ]))
          (refine inN_read (v := ?_) rfl (Or.inl ⟨by rfl, ?_⟩) ?_; rotate_left 1; (focus (intro W hSW; clear hSW; go_simp; (try (with_reducible rfl)))); (try simp only [Act.put, List.getElem_toArray, List.getElem_cons_zero, List.getElem_cons_succ, List.setIfInBounds_toArray, List.set_cons_zero, List.set_cons_succ]))
          (refine inN_read rfl (yl_load rfl rfl rfl (fun W hS => run_load_s tyT _ (laC y) rfl hS.2.2.2)) ?_; (try simp only [Act.put, List.getElem_toArray, List.getElem_cons_zero, List.getElem_cons_succ, List.setIfInBounds_toArray, List.set_cons_zero, List.set_cons_succ]))
          refine inN_act rfl rfl (fun K' hK => ?_); go_simp; refine (alike_at (HC.out.swapL) x y HAx.out HAy.out HAl.out HOl.out).mono ?_; rintro e w2 ⟨r, A2, O2, d2, c2, rfl, hq, hr⟩; obtain rfl := hr.2 HAF.out; replace HC := hide (hq.swapL); clear hq; go_simp; refine hK _ _ (.inr (fun _ => ⟨cfcell HC.out (by repeat (first | exact List.Mem.head _ | apply List.Mem.tail)) (by repeat (first | exact GetS.cons _ (GetS.nil _) | apply GetS.skip)), cfcell HC.out (by repeat (first | exact List.Mem.head _ | apply List.Mem.tail)) (by repeat (first | exact GetS.cons _ (GetS.nil _) | apply GetS.skip)), HEX.out _ HC.out.cx.grown, HEY.out _ HC.out.cx.grown⟩)) ?_; clear hK K'; (try simp only [Act.put, List.getElem_toArray, List.getElem_cons_zero, List.getElem_cons_succ, List.setIfInBounds_toArray, List.set_cons_zero, List.set_cons_succ])
          (refine inN_read (v := ?_) rfl (Or.inl ⟨by rfl, ?_⟩) ?_; rotate_left 1; (focus (intro W hSW; clear hSW; go_simp; (try (with_reducible rfl)))); (try simp only [Act.put, List.getElem_toArray, List.getElem_cons_zero, List.getElem_cons_succ, List.setIfInBounds_toArray, List.set_cons_zero, List.set_cons_succ]))
          (refine inN_pure (v := ?_) rfl (Or.inl ⟨by rfl, ?_⟩) ?_; rotate_left 1; (focus (intro W hSW; clear hSW; go_simp; (try (with_reducible rfl)))); (try simp only [Act.put, List.getElem_toArray, List.getElem_cons_zero, List.getElem_cons_succ, List.setIfInBounds_toArray, List.set_cons_zero, List.set_cons_succ]))
          refine inN_end ?_
          go_wp2
          go_ret
          refine SmO.of HC.out.cx.grown ⟨(fun e => by cases e), fun h => absurd h (HR.out.no HMA.out HIJ.out ?_)⟩
          rw [HAA.out, HAF.out]
        | some l =>
          have HAF := hide hal
          have HPl := hide (alF_plc HG.out hX hY hal)
          clear hij hcx hcy hlx hly hxx hyy hX hY hal hi hj
          go_upto_region 7 with (first | (refine at_load 99 rfl ?_; refine wl_load_c rfl 99 _ rfl tcQS rfl HC.out.cx (by repeat (first | exact List.Mem.head _ | apply List.Mem.tail)) (by repeat (first | exact GetS.cons _ (GetS.nil _) | apply GetS.skip)) ?_) | (refine at_load 104 rfl ?_; refine wl_run rfl 104 _ rfl rfl (run_load_s tyPr _ [.int .i64 (i : Int), .int .i64 (j : Int)] rfl (HPc.out _ (HC.out.cx.row _ (.head _)))) ?_) | (refine at_alloc 104 rfl ?_; refine cf_alloc rfl 104 rfl _ zPr HC.out ?_; intro pb w' hn hc; (replace HC := hide hc; clear hc)) | (refine at_store 104 rfl ?_; refine cf_store rfl 104 _ _ rfl rfl rfl tyPr.sz rfl HC.out (by repeat (first | exact List.Mem.head _ | apply List.Mem.tail)) (by exact PutS.all _ _ rfl) (by repeat (first | exact Upd.here _ _ _ | apply Upd.there)) ?_; intro w' hc; (replace HC := hide hc; clear hc)) | (refine at_store 99 rfl ?_; refine cf_store (us := [_]) rfl 99 _ _ rfl rfl rfl tcQS.sz rfl HC.out (by repeat (first | exact List.Mem.head _ | apply List.Mem.tail)) (by repeat (first | exact PutS.cons _ _ (PutS.nil _) | apply PutS.skip)) (by repeat (first | exact Upd.here _ _ _ | apply Upd.there)) ?_; intro w' hc; (replace HC := hide hc; clear hc)))
          replace HC := hide (HC.out.cutR (m := n) (by omega) (by simp))
          rw [HTk.out, ← Hn.out] at HC
          replace HC := hide (HC.out.g (d1_g _)); refine wp_region_inN (fun W => W.cell? ⟨pb, 0, none⟩ = some (.int .i64 (i : Int)) ∧ W.cell? ⟨pb, 1, none⟩ = some (.int .i64 (j : Int)) ∧ (∀ k u, (laC x)[k]? = some u → W.cell? (Bx.add k) = some u) ∧ (∀ k u, (laC y)[k]? = some u → W.cell? (By.add k) = some u)) [18] (Pn.of [(1, 0), (1, 1), (1, 2), (1, 3), (1, 4), (1, 5), (1, 6), (1, 7), (1, 8), (1, 9), (1, 10), (1, 11), (1, 12), (1, 13), (1, 14), (1, 15), (2, 16), (1, 17), (0, 18)] .nil) (by kernel_rfl) (by kernel_rfl) (by kernel_rfl) (by kernel_rfl) (fun _ _ d _ _ h => by cases d <;> exact h) ⟨cfcell HC.out (by repeat (first | exact List.Mem.head _ | apply List.Mem.tail)) (by repeat (first | exact GetS.cons _ (GetS.nil _) | apply GetS.skip)), cfcell HC.out (by repeat (first | exact List.Mem.head _ | apply List.Mem.tail)) (by repeat (first | exact GetS.cons _ (GetS.nil _) | apply GetS.skip)), HEX.out _ HC.out.cx.grown, HEY.out _ HC.out.cx.grown⟩ ?_
          (refine inN_read (v := ?_) rfl (Or.inl ⟨by rfl, ?_⟩) ?_; rotate_left 1; (focus (intro W hSW; clear hSW; go_simp; (try (with_reducible rfl)))); (try simp only [Act.put, List.getElem_toArray, List.getElem_cons_zero, List.getElem_cons_succ, List.setIfInBounds_toArray, List.set_cons_zero, List.set_cons_succ]))
          (refine inN_read rfl (yl_cell tcI rfl rfl rfl (fun W hS => hS.1)) ?_; (try simp only [Act.put, List.getElem_toArray, List.getElem_cons_zero, List.getElem_cons_succ, List.setIfInBounds_toArray, List.set_cons_zero, List.set_cons_succ]))
          (refine inN_read (v := ?_) rfl (Or.inl ⟨by rfl, ?_⟩) ?_; rotate_left 1; (focus (intro W hSW; clear hSW; go_simp; (try (with_reducible rfl)))); (try simp only [Act.put, List.getElem_toArray, List.getElem_cons_zero, List.getElem_cons_succ, List.setIfInBounds_toArray, List.set_cons_zero, List.set_cons_succ]))
          (refine inN_read rfl (yl_cell tcI rfl rfl rfl (fun W hS => hS.2.1)) ?_; (try simp only [Act.put, List.getElem_toArray, List.getElem_cons_zero, List.getElem_cons_succ, List.setIfInBounds_toArray, List.set_cons_zero, List.set_cons_succ]))
          (refine inN_read (v := ?_) rfl (Or.inl ⟨by rfl, ?_⟩) ?_; rotate_left 1; (focus (intro W hSW; clear hSW; go_simp; (try (with_reducible rfl)))); (try simp only [Act.put, List.getElem_toArray, List.getElem_cons_zero, List.getElem_cons_succ, List.setIfInBounds_toArray, List.set_cons_zero, List.set_cons_succ]))
          (refine inN_read (v := ?_) rfl (Or.inl ⟨by rfl, ?_⟩) ?_; rotate_left 1; (focus (intro W hSW; clear hSW; go_simp; (try (with_reducible rfl)))); (try simp only [Act.put, List.getElem_toArray, List.getElem_cons_zero, List.getElem_cons_succ, List.setIfInBounds_toArray, List.set_cons_zero, List.set_cons_succ]))
          (refine inN_read (v := ?_) rfl (Or.inl ⟨by rfl, ?_⟩) ?_; rotate_left 1; (focus (intro W hSW; clear hSW; go_simp; (try (with_reducible rfl)))); (try simp only [Act.put, List.getElem_toArray, List.getElem_cons_zero, List.getElem_cons_succ, List.setIfInBounds_toArray, List.set_cons_zero, List.set_cons_succ]))
          (refine inN_read (v := ?_) rfl (Or.inl ⟨by rfl, ?_⟩) ?_; rotate_left 1; (focus (intro W hSW; clear hSW; go_simp; (try (with_reducible rfl)))); (try simp only [Act.put, List.getElem_toArray, List.getElem_cons_zero, List.getElem_cons_succ, List.setIfInBounds_toArray, List.set_cons_zero, List.set_cons_succ]))
          (refine inN_read rfl (yl_cell tcI rfl rfl rfl (fun W hS => hS.1)) ?_; (try simp only [Act.put, List.getElem_toArray, List.getElem_cons_zero, List.getElem_cons_succ, List.setIfInBounds_toArray, List.set_cons_zero, List.set_cons_succ]))
          (refine inN_read (v := ?_) rfl (Or.inl ⟨by rfl, ?_⟩) ?_; rotate_left 1; (focus (intro W hSW; clear hSW; go_simp; (try (with_reducible rfl)))); (try simp only [Act.put, List.getElem_toArray, List.getElem_cons_zero, List.getElem_cons_succ, List.setIfInBounds_toArray, List.set_cons_zero, List.set_cons_succ]))
          (refine inN_read rfl (yl_load rfl rfl rfl (fun W hS => run_load_s tyT _ (laC x) rfl hS.2.2.1)) ?_; (try simp only [Act.put, List.getElem_toArray, List.getElem_cons_zero, List.getElem_cons_succ, List.setIfInBounds_toArray, List.set_cons_zero, List.set_cons_succ]))
          (refine inN_read (v := ?_) rfl (Or.inl ⟨by rfl, ?_⟩) ?_; rotate_left 1; (focus (intro W hSW; clear hSW; go_simp; (try (with_reducible rfl)))); (try simp only [Act.put, List.getElem_toArray, List.getElem_cons_zero, List.getElem_cons_succ, List.setIfInBounds_toArray, List.set_cons_zero, List.set_cons_succ]))
          (refine inN_read (v := ?_) rfl (Or.inl ⟨by rfl, ?_⟩) ?_; rotate_left 1; (focus (intro W hSW; clear hSW; go_simp; (try (with_reducible rfl)))); (try simp only [Act.put, List.getElem_toArray, List.getElem_cons_zero, List.getElem_cons_succ, List.setIfInBounds_toArray, List.set_cons_zero, List.set_cons_succ]))
          (refine inN_read rfl (yl_cell tcI rfl rfl rfl (fun W hS => hS.2.1)) ?_; (try simp only [Act.put, List.getElem_toArray, List.getElem_cons_zero, List.getElem_cons_succ, List.setIfInBounds_toArray, List.set_cons_zero, List.set_cons_succ]))
          (refine inN_read (v := ?_) rfl (Or.inl ⟨by rfl, ?_⟩) ?_; rotate_left 1; (focus (intro W hSW; clear hSW; go_simp; (try (with_reducible rfl)))); (try simp only [Act.put, List.getElem_toArray, List.getElem_cons_zero, List.getElem_cons_succ, List.setIfInBounds_toArray, List.set_cons_zero, List.set_cons_succ]))
          (refine inN_read rfl (yl_load rfl rfl rfl (fun W hS => run_load_s tyT _ (laC y) rfl hS.2.2.2)) ?_; (try simp only [Act.put, List.getElem_toArray, List.getElem_cons_zero, List.getElem_cons_succ, List.setIfInBounds_toArray, List.set_cons_zero, List.set_cons_succ]))
          refine inN_act rfl rfl (fun K' hK => ?_); go_simp; refine (alike_at (HC.out.swapL) x y HAx.out HAy.out HAl.out HOl.out).mono ?_; rintro e w2 ⟨r, A2, O2, d2, c2, rfl, hq, hr⟩; obtain ⟨rfl, rfl, rfl⟩ := hr.1 l HAF.out; replace HC := hide (hq.swapL); clear hq; go_simp; refine hK _ _ (.inr (fun _ => ⟨cfcell HC.out (by repeat (first | exact List.Mem.head _ | apply List.Mem.tail)) (by repeat (first | exact GetS.cons _ (GetS.nil _) | apply GetS.skip)), cfcell HC.out (by repeat (first | exact List.Mem.head _ | apply List.Mem.tail)) (by repeat (first | exact GetS.cons _ (GetS.nil _) | apply GetS.skip)), HEX.out _ HC.out.cx.grown, HEY.out _ HC.out.cx.grown⟩)) ?_; clear hK K'; (try simp only [Act.put, List.getElem_toArray, List.getElem_cons_zero, List.getElem_cons_succ, List.setIfInBounds_toArray, List.set_cons_zero, List.set_cons_succ])
          (refine inN_read (v := ?_) rfl (Or.inl ⟨by rfl, ?_⟩) ?_; rotate_left 1; (focus (intro W hSW; clear hSW; go_simp; (try (with_reducible rfl)))); (try simp only [Act.put, List.getElem_toArray, List.getElem_cons_zero, List.getElem_cons_succ, List.setIfInBounds_toArray, List.set_cons_zero, List.set_cons_succ]))
          (refine inN_pure (v := ?_) rfl (Or.inl ⟨by rfl, ?_⟩) ?_; rotate_left 1; (focus (intro W hSW; clear hSW; go_simp; (try (with_reducible rfl)))); (try simp only [Act.put, List.getElem_toArray, List.getElem_cons_zero, List.getElem_cons_succ, List.setIfInBounds_toArray, List.set_cons_zero, List.set_cons_succ]))
          refine inN_end ?_
          go_wp2
          have HA2 := hide (HA1.out.all HPl.out)
          go_roundg (rnd (askAll A O1 l).1 (askAll A O1 l).2)
          case measure => exact Nat.lt_of_le_of_lt (askAll_rnd HHi.out HA1.out HPl.out) HK1.out
          case rel =>
            refine ⟨_, _, _, _, hide rfl, hide (HR.out.next (l := l) (.inr ⟨HIJ.out, ?_⟩)), HA2, hide HC.out.drop⟩
            rw [HAA.out, HAF.out]
end Go.Proofs.Ythmldhppmpbadaa.Ty
