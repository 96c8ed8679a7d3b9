/-
  Package types: which lists are tables.
-/
import Derived.Test.YthmldhppmpbadaaTp2
namespace Go.Proofs.Ythmldhppmpbadaa.Ty
open Go.RowKit hiding Hid
open Go.Maps Go.Proofs.Ythmldhppmpbadaa.Tx Go.Proofs.Ythmldhppmpbadaa.Lx Go.Proofs.Ythmldhppmpbadaa.Tr Go.Proofs.Ythmldhppmpbadaa.Mp
set_option linter.unusedVariables false
set_option linter.unusedSimpArgs false
set_option maxRecDepth 100000

def GdO (w : World) (T : List Tt) (e : Ending) (w' : World) : Prop := ∃ d, e = .returned (.bool d) ∧ w.grownBy w' none ∧ (d = true ↔ GoodP T)
theorem gd_no {T : List Tt} (h : ¬ GoodP T) : (false = true) ↔ GoodP T := ⟨(fun e => by cases e), fun g => absurd g h⟩
theorem em_t {s : Txt} (h : s = []) : (bs s).toList = [] := by rw [bs_toList]; exact h
theorem em_f {s : Txt} (h : ¬ s = []) : ¬ (bs s).toList = [] := by rw [bs_toList]; exact h
theorem gd_few {T : List Tt} (h : ¬ (7 ≤ T.length ∧ T.length ≤ 256)) : ¬ GoodP T := fun g => h ⟨g.loc.lo, g.loc.hi⟩
theorem gd_bas {T : List Tt} {i : Nat} {x : Tt} (hx : T[i]? = some x) (hi : i < 7) (h : basicB i x = false) : ¬ GoodP T := fun g => by rw [g.loc.bas i x hi hx] at h; cases h
theorem gd_oth {T : List Tt} {i : Nat} {x : Tt} (hx : T[i]? = some x) (hi : 7 ≤ i) (h : namesB x = false ∨ partsB T x = false) : ¬ GoodP T := fun g => by
  obtain ⟨h1, h2⟩ := g.loc.oth i x hi hx
  rcases h with h | h
  · rw [h1] at h; cases h
  · rw [h2] at h; cases h
set_option maxHeartbeats 16000000 in
theorem good_few {w : World} {o : Option Addr} {T : List Tt} (cp : Nat) (H : Tab w o T) (hf : ¬ (7 ≤ T.length ∧ T.length ≤ 256)) : Calls Try.prog 30 #[.slice o T.length cp] w (GdO w T) := by
  have HC := hide (Cx.start w (fun _ => False))
  have hlen := H.1
  have k0 : (T.length : Int) ≤ 1000000 := by omega
  have HN := hide (gd_few (T := T) hf)
  by_cases h7 : 7 ≤ T.length
  case neg =>
    have k7 : (T.length : Int) < 7 := by omega
    clear H
    go_enter Try.func30, Try.ntmps30
    go_wp2
    (go_ret; exact ⟨false, rfl, HC.out.grown, gd_no HN.out⟩)
  have k7 : ¬ (T.length : Int) < 7 := by omega
  have k8 : (256 : Int) < T.length := by omega
  clear H
  go_enter Try.func30, Try.ntmps30
  go_wp2
  (go_ret; exact ⟨false, rfl, HC.out.grown, gd_no HN.out⟩)
set_option maxHeartbeats 16000000 in
theorem good_bas {w : World} {o : Option Addr} {T : List Tt} (cp : Nat) (H : Tab w o T) (hcp : T.length ≤ cp) (h7 : 7 ≤ T.length) (h256 : T.length ≤ 256) (hb : ∃ (i : Nat) (x : Tt), i < 7 ∧ T[i]? = some x ∧ basicB i x = false) : Calls Try.prog 30 #[.slice o T.length cp] w (GdO w T) := by
  have HT := hide H
  have HC := hide (Cx.start w (fun _ => False))
  have k0 : (T.length : Int) ≤ 1000000 := by omega
  have k7 : ¬ (T.length : Int) < 7 := by omega
  have k8 : ¬ (256 : Int) < T.length := by omega
  have k9 : (T.length : Int) ≤ cp := by omega
  obtain ⟨ad, rfl⟩ : ∃ ad, o = some ad := by
    obtain ⟨ad, _, h, _⟩ := H.at (List.getElem?_eq_getElem (show 0 < T.length by omega))
    exact ⟨ad, h⟩
  clear H
  have HB := hide hb
  clear hb
  go_enter Try.func30, Try.ntmps30
  go_wp2
  go_loopw [18] (fun iv W => ∃ (i : Nat), i ≤ 7 ∧ iv = .int .i64 i ∧ Hid (∀ (k : Nat) x, k < i → T[k]? = some x → basicB k x = true) ∧ Hid (Cx w (fun _ => False) none [] [] [] W)) (fun iv _ => 7 - (intOf iv).toNat)
  case atStart => exact ⟨0, by omega, rfl, hide (fun k x hk => by omega), HC⟩
  case round =>
    clear HC
    obtain ⟨i, hi, rfl, HA, HC⟩ := hrel
    by_cases hlt : i < 7
    case neg =>
      exfalso
      obtain ⟨j, x, h1, h2, h3⟩ := HB.out
      rw [HA.out j x (by omega) h2] at h3
      cases h3
    have j1 : (i : Int) < 7 := by omega
    obtain ⟨x, hx⟩ : ∃ x, T[i]? = some x := ⟨T[i], List.getElem?_eq_getElem (by omega)⟩
    obtain ⟨ad', ⟨⟨fm, md, nm, ln, el, ba, fl, pr, rs, ds⟩, fo, fc, po, pc⟩, e1, rfl, hcl, hla⟩ := HT.out.at hx
    cases e1
    obtain ⟨B, hB⟩ : ∃ B, ad.add (i * 10) = B := ⟨_, rfl⟩
    rw [hB] at hcl
    have HEL := hide (fun W (hW : w.grownBy W none) j u (hu : (laC ⟨⟨fm, md, nm, ln, el, ba, fl, pr, rs, ds⟩, fo, fc, po, pc⟩)[j]? = some u) => hW.cell (hcl j u hu) (by simp))
    unfold laC at HEL
    dsimp only at HEL
    have HX := hide hx
    have HI := hide hlt
    clear hcl hla hx
    by_cases q1 : fm = i
    case neg =>
      have HN := hide (gd_bas HX.out HI.out (by unfold basicB; simp [q1]))
      have p1 : (fm != (i : Int)) = true := by simpa using q1
      clear q1
      go_wp2_with (first | (refine at_load 48 rfl ?_; refine wl_run rfl 48 _ rfl rfl (run_load_s tyT _ [.int .i64 fm, .string (bs md), .string (bs nm), .int .i64 ln, .int .i64 el, .int .i64 ba, .slice fo fl.length fc, .slice po pr.length pc, .int .i64 rs, .int .i64 ds] rfl (HEL.out _ HC.out.grown)) ?_) | (refine at_alloc 48 rfl ?_; refine wl_alloc rfl 48 rfl _ zTy HC.out ?_; intro bt w' hn hc; (replace HC := hide hc; clear hc)) | ((refine at_store 48 rfl ?_; refine wl_store rfl 48 _ _ rfl rfl rfl tyT.sz rfl HC.out (by repeat (first | exact List.Mem.head _ | apply List.Mem.tail)) (by exact PutS.all _ _ rfl) (by repeat (first | exact Upd.here _ _ _ | apply Upd.there)) ?_; intro w' hc; (replace HC := hide hc; clear hc)); (obtain ⟨c0, c1, c2, c3, c4, c5, c6, c7, c8, c9⟩ := ten_f HC.out)))
      (go_ret; exact ⟨false, rfl, HC.out.grown, gd_no HN.out⟩)
    have p1 : (fm != (i : Int)) = false := by simpa using q1
    by_cases q2 : md = []
    case neg =>
      have HN := hide (gd_bas HX.out HI.out (by unfold basicB; simp [q2]))
      have p2 := em_f q2
      clear q1 q2
      go_wp2_with (first | (refine at_load 48 rfl ?_; refine wl_run rfl 48 _ rfl rfl (run_load_s tyT _ [.int .i64 fm, .string (bs md), .string (bs nm), .int .i64 ln, .int .i64 el, .int .i64 ba, .slice fo fl.length fc, .slice po pr.length pc, .int .i64 rs, .int .i64 ds] rfl (HEL.out _ HC.out.grown)) ?_) | (refine at_alloc 48 rfl ?_; refine wl_alloc rfl 48 rfl _ zTy HC.out ?_; intro bt w' hn hc; (replace HC := hide hc; clear hc)) | ((refine at_store 48 rfl ?_; refine wl_store rfl 48 _ _ rfl rfl rfl tyT.sz rfl HC.out (by repeat (first | exact List.Mem.head _ | apply List.Mem.tail)) (by exact PutS.all _ _ rfl) (by repeat (first | exact Upd.here _ _ _ | apply Upd.there)) ?_; intro w' hc; (replace HC := hide hc; clear hc)); (obtain ⟨c0, c1, c2, c3, c4, c5, c6, c7, c8, c9⟩ := ten_f HC.out)))
      (go_ret; exact ⟨false, rfl, HC.out.grown, gd_no HN.out⟩)
    have p2 := em_t q2
    by_cases q3 : nm = []
    case neg =>
      have HN := hide (gd_bas HX.out HI.out (by unfold basicB; simp [q3]))
      have p3 := em_f q3
      clear q1 q2 q3
      go_wp2_with (first | (refine at_load 48 rfl ?_; refine wl_run rfl 48 _ rfl rfl (run_load_s tyT _ [.int .i64 fm, .string (bs md), .string (bs nm), .int .i64 ln, .int .i64 el, .int .i64 ba, .slice fo fl.length fc, .slice po pr.length pc, .int .i64 rs, .int .i64 ds] rfl (HEL.out _ HC.out.grown)) ?_) | (refine at_alloc 48 rfl ?_; refine wl_alloc rfl 48 rfl _ zTy HC.out ?_; intro bt w' hn hc; (replace HC := hide hc; clear hc)) | ((refine at_store 48 rfl ?_; refine wl_store rfl 48 _ _ rfl rfl rfl tyT.sz rfl HC.out (by repeat (first | exact List.Mem.head _ | apply List.Mem.tail)) (by exact PutS.all _ _ rfl) (by repeat (first | exact Upd.here _ _ _ | apply Upd.there)) ?_; intro w' hc; (replace HC := hide hc; clear hc)); (obtain ⟨c0, c1, c2, c3, c4, c5, c6, c7, c8, c9⟩ := ten_f HC.out)))
      (go_ret; exact ⟨false, rfl, HC.out.grown, gd_no HN.out⟩)
    have p3 := em_t q3
    cases q4 : bareB ⟨fm, md, nm, ln, el, ba, fl, pr, rs, ds⟩ with
    | true =>
      have HBs := hide (show basicB i ⟨fm, md, nm, ln, el, ba, fl, pr, rs, ds⟩ = true by unfold basicB; rw [q4]; simp [q1, q2, q3])
      have HBa := hide q4
      clear q1 q2 q3 q4
      go_wp2_with (first | (refine at_load 48 rfl ?_; refine wl_run rfl 48 _ rfl rfl (run_load_s tyT _ [.int .i64 fm, .string (bs md), .string (bs nm), .int .i64 ln, .int .i64 el, .int .i64 ba, .slice fo fl.length fc, .slice po pr.length pc, .int .i64 rs, .int .i64 ds] rfl (HEL.out _ HC.out.grown)) ?_) | (refine at_alloc 48 rfl ?_; refine wl_alloc rfl 48 rfl _ zTy HC.out ?_; intro bt w' hn hc; (replace HC := hide hc; clear hc)) | ((refine at_store 48 rfl ?_; refine wl_store rfl 48 _ _ rfl rfl rfl tyT.sz rfl HC.out (by repeat (first | exact List.Mem.head _ | apply List.Mem.tail)) (by exact PutS.all _ _ rfl) (by repeat (first | exact Upd.here _ _ _ | apply Upd.there)) ?_; intro w' hc; (replace HC := hide hc; clear hc)); (obtain ⟨c0, c1, c2, c3, c4, c5, c6, c7, c8, c9⟩ := ten_f HC.out)) | (go_at_call 59; refine (bare_at (a := ⟨⟨fm, md, nm, ln, el, ba, fl, pr, rs, ds⟩, fo, fc, po, pc⟩)).mono ?_; dsimp only; rw [HBa.out]; rintro e w2 ⟨rfl, hg⟩; (replace HC := hide (HC.out.g hg); (clear c0 c1 c2 c3 c4 c5 c6 c7 c8 c9); (obtain ⟨c0, c1, c2, c3, c4, c5, c6, c7, c8, c9⟩ := ten_f HC.out); clear hg)))
      refine ⟨⟨i + 1, by omega, by go_num, hide (fun k x hk hkx => ?_), hide HC.out.drop⟩, by simp [intOf]; omega⟩
      by_cases e : k = i
      · rw [e] at hkx ⊢
        rw [HX.out] at hkx
        cases hkx
        exact HBs.out
      · exact HA.out k x (by omega) hkx
    | false =>
      have HN := hide (gd_bas HX.out HI.out (by unfold basicB; rw [q4]; simp))
      have HBa := hide q4
      clear q1 q2 q3 q4
      go_wp2_with (first | (refine at_load 48 rfl ?_; refine wl_run rfl 48 _ rfl rfl (run_load_s tyT _ [.int .i64 fm, .string (bs md), .string (bs nm), .int .i64 ln, .int .i64 el, .int .i64 ba, .slice fo fl.length fc, .slice po pr.length pc, .int .i64 rs, .int .i64 ds] rfl (HEL.out _ HC.out.grown)) ?_) | (refine at_alloc 48 rfl ?_; refine wl_alloc rfl 48 rfl _ zTy HC.out ?_; intro bt w' hn hc; (replace HC := hide hc; clear hc)) | ((refine at_store 48 rfl ?_; refine wl_store rfl 48 _ _ rfl rfl rfl tyT.sz rfl HC.out (by repeat (first | exact List.Mem.head _ | apply List.Mem.tail)) (by exact PutS.all _ _ rfl) (by repeat (first | exact Upd.here _ _ _ | apply Upd.there)) ?_; intro w' hc; (replace HC := hide hc; clear hc)); (obtain ⟨c0, c1, c2, c3, c4, c5, c6, c7, c8, c9⟩ := ten_f HC.out)) | (go_at_call 59; refine (bare_at (a := ⟨⟨fm, md, nm, ln, el, ba, fl, pr, rs, ds⟩, fo, fc, po, pc⟩)).mono ?_; dsimp only; rw [HBa.out]; rintro e w2 ⟨rfl, hg⟩; (replace HC := hide (HC.out.g hg); (clear c0 c1 c2 c3 c4 c5 c6 c7 c8 c9); (obtain ⟨c0, c1, c2, c3, c4, c5, c6, c7, c8, c9⟩ := ten_f HC.out); clear hg)))
      (go_ret; exact ⟨false, rfl, HC.out.grown, gd_no HN.out⟩)
end Go.Proofs.Ythmldhppmpbadaa.Ty
