/-
  Package types: which lists are tables.
-/
import Derived.Test.YthmldhppmpbadaaTy15
namespace Go.Proofs.Ythmldhppmpbadaa.Ty
open Go.RowKit hiding Hid
open Go.Maps Go.Proofs.Ythmldhppmpbadaa.Tx Go.Proofs.Ythmldhppmpbadaa.Lx Go.Proofs.Ythmldhppmpbadaa.Tr Go.Proofs.Ythmldhppmpbadaa.Mp
set_option linter.unusedVariables false
set_option linter.unusedSimpArgs false
set_option maxRecDepth 100000

set_option maxHeartbeats 16000000 in
theorem good_fin {w : World} {o : Option Addr} {T : List Tt} (cp : Nat) (H : Tab w o T) (hcp : T.length ≤ cp) (h7 : 7 ≤ T.length) (h256 : T.length ≤ 256) (hb : ∀ (i : Nat) (x : Tt), i < 7 → T[i]? = some x → basicB i x = true) (ho : ∀ (i : Nat) (x : Tt), 7 ≤ i → T[i]? = some x → namesB x = true ∧ partsB T x = true) : Calls Try.prog 30 #[.slice o T.length cp] w (GdO w T) := by
  have HT := hide H
  have HC := hide (Cx.start w (fun _ => False))
  have k0 : (T.length : Int) ≤ 1000000 := by omega
  have k7 : ¬ (T.length : Int) < 7 := by omega
  have k8 : ¬ (256 : Int) < T.length := by omega
  have k9 : (T.length : Int) ≤ cp := by omega
  obtain ⟨ad, rfl⟩ : ∃ ad, o = some ad := by
    obtain ⟨ad, _, h, _⟩ := H.at (List.getElem?_eq_getElem (show 0 < T.length by omega))
    exact ⟨ad, h⟩
  clear H
  have HB := hide hb
  have HLo := hide (show Loc T from ⟨h7, h256, hb, ho⟩)
  clear ho hb
  go_enter Try.func30, Try.ntmps30
  go_wp2
  go_loopw [18] (fun iv W => ∃ (i : Nat), i ≤ 7 ∧ iv = .int .i64 i ∧ Hid (Cx w (fun _ => False) none [] [] [] W)) (fun iv _ => 7 - (intOf iv).toNat)
  case atStart => exact ⟨0, by omega, rfl, HC⟩
  case round =>
    clear HC
    obtain ⟨i, hi, rfl, HC⟩ := hrel
    by_cases hlt : i < 7
    · have j1 : (i : Int) < 7 := by omega
      obtain ⟨x, hx⟩ : ∃ x, T[i]? = some x := ⟨T[i], List.getElem?_eq_getElem (by omega)⟩
      obtain ⟨ad', ⟨⟨fm, md, nm, ln, el, ba, fl, pr, rs, ds⟩, fo, fc, po, pc⟩, e1, rfl, hcl, hla⟩ := HT.out.at hx
      cases e1
      obtain ⟨B, hB⟩ : ∃ B, ad.add (i * 10) = B := ⟨_, rfl⟩
      rw [hB] at hcl
      have HEL := hide (fun W (hW : w.grownBy W none) j u (hu : (laC ⟨⟨fm, md, nm, ln, el, ba, fl, pr, rs, ds⟩, fo, fc, po, pc⟩)[j]? = some u) => hW.cell (hcl j u hu) (by simp))
      unfold laC at HEL
      dsimp only at HEL
      have HX := hide hx
      have HI := hide hlt
      clear hcl hla hx
      have hbs := HB.out i _ HI.out HX.out
      unfold basicB at hbs
      dsimp only at hbs
      rw [Bool.and_eq_true, Bool.and_eq_true, Bool.and_eq_true, beq_iff_eq, beq_iff_eq, beq_iff_eq] at hbs
      obtain ⟨q1, q2, q3, q4⟩ := hbs
      have p1 : (fm != (i : Int)) = false := by simpa using q1
      have p2 := em_t q2
      have p3 := em_t q3
      have HBa := hide q4
      clear q1 q2 q3 q4
      go_wp2_with (first | (refine at_load 48 rfl ?_; refine wl_run rfl 48 _ rfl rfl (run_load_s tyT _ [.int .i64 fm, .string (bs md), .string (bs nm), .int .i64 ln, .int .i64 el, .int .i64 ba, .slice fo fl.length fc, .slice po pr.length pc, .int .i64 rs, .int .i64 ds] rfl (HEL.out _ HC.out.grown)) ?_) | (refine at_alloc 48 rfl ?_; refine wl_alloc rfl 48 rfl _ zTy HC.out ?_; intro bt w' hn hc; (replace HC := hide hc; clear hc)) | ((refine at_store 48 rfl ?_; refine wl_store rfl 48 _ _ rfl rfl rfl tyT.sz rfl HC.out (by repeat (first | exact List.Mem.head _ | apply List.Mem.tail)) (by exact PutS.all _ _ rfl) (by repeat (first | exact Upd.here _ _ _ | apply Upd.there)) ?_; intro w' hc; (replace HC := hide hc; clear hc)); (obtain ⟨c0, c1, c2, c3, c4, c5, c6, c7, c8, c9⟩ := ten_f HC.out)) | (go_at_call 59; refine (bare_at (a := ⟨⟨fm, md, nm, ln, el, ba, fl, pr, rs, ds⟩, fo, fc, po, pc⟩)).mono ?_; dsimp only; rw [HBa.out]; rintro e w2 ⟨rfl, hg⟩; (replace HC := hide (HC.out.g hg); (clear c0 c1 c2 c3 c4 c5 c6 c7 c8 c9); (obtain ⟨c0, c1, c2, c3, c4, c5, c6, c7, c8, c9⟩ := ten_f HC.out); clear hg)))
      exact ⟨⟨i + 1, by omega, by go_num, hide HC.out.drop⟩, by simp [intOf]; omega⟩
    · obtain rfl : i = 7 := by omega
      clear hlt hi
      obtain ⟨n, hn⟩ : ∃ n, T.length = 7 + n := ⟨T.length - 7, by omega⟩
      have HLn := hide hn
      go_wp2
      · have h0 : n = 0 := by omega
        rw [← HLn.out]
        clear hn
        have HLn0 := hide (show T.length = 7 by have := HLn.out; omega)
        clear HLn
        subst h0
        go_loopw [46] (fun iv W => iv = .int .i64 (0 : Nat) ∧ Hid (Cx w (fun _ => False) none [] [] [] W)) (fun iv _ => 0)
        case atStart => exact ⟨rfl, HC⟩
        case round =>
          clear HC
          obtain ⟨rfl, HC⟩ := hrel
          (go_wp2_with (first | (go_at_call 62; refine (none_at _ (HT.out.kept HC.out.grown) HLo.out.inP HLo.out.hi).mono ?_; rintro e w2 ⟨d, rfl, hg, hd⟩; replace HC := hide (HC.out.g hg); clear hg; cases d <;> (first | (have HR := hide (hd.1 rfl); clear hd) | (have HN := hide (fun h => (by cases hd.2 h : False)); clear hd))) | (go_at_call 63; refine (records_at _ (HT.out.kept HC.out.grown) (HLo.out.recPre HR.out)).mono ?_; rintro e w2 ⟨d, rfl, hg, hd⟩; replace HC := hide (HC.out.g hg); have HD := hide hd; clear hg hd)); all_goals (first | (go_ret; exact ⟨false, rfl, HC.out.grown, gd_no (fun g => HN.out g.rank)⟩) | (go_ret; exact ⟨d, rfl, HC.out.grown, ⟨fun e => ⟨HLo.out, HR.out, HD.out.1 e⟩, fun g => HD.out.2 g.rcd⟩⟩)))
      · rw [← HLn.out]
        clear hn
        obtain ⟨a7, ha7⟩ : ∃ a, (⟨ad.block, ad.off + 70, none⟩ : Addr) = a := ⟨_, rfl⟩
        rw [ha7]
        have HA7 := hide ha7
        have kn : (n : Int) ≤ 249 := by have := HLn.out; omega
        clear ha7
        go_loopw [46] (fun iv W => ∃ (k : Nat), k ≤ n ∧ iv = .int .i64 k ∧ Hid (∀ (i : Nat) x, 7 ≤ i → i < 7 + k → T[i]? = some x → namesB x = true ∧ partsB T x = true) ∧ Hid (Cx w (fun _ => False) none [] [] [] W)) (fun iv _ => n - (intOf iv).toNat)
        case atStart => exact ⟨0, by omega, rfl, hide (fun i x h1 h2 => by omega), HC⟩
        case round =>
          clear HC
          obtain ⟨k, hk, rfl, HO, HC⟩ := hrel
          by_cases hlt : k < n
          · have j1 : (k : Int) < n := by omega
            obtain ⟨x, hx⟩ : ∃ x, T[7 + k]? = some x := ⟨T[7 + k]'(by have := HLn.out; omega), List.getElem?_eq_getElem _⟩
            obtain ⟨ad', ⟨⟨fm, md, nm, ln, el, ba, fl, pr, rs, ds⟩, fo, fc, po, pc⟩, e1, rfl, hcl, hla⟩ := HT.out.at hx
            cases e1
            have hadr : ad.add ((7 + k) * 10) = a7.add (k * 10) := by
              rw [← HA7.out, show (7 + k) * 10 = 70 + k * 10 by omega, ← add_add]
              rfl
            rw [hadr] at hcl
            obtain ⟨B, hB⟩ : ∃ B, a7.add (k * 10) = B := ⟨_, rfl⟩
            rw [hB] at hcl
            have HEL := hide (fun W (hW : w.grownBy W none) j u (hu : (laC ⟨⟨fm, md, nm, ln, el, ba, fl, pr, rs, ds⟩, fo, fc, po, pc⟩)[j]? = some u) => hW.cell (hcl j u hu) (by simp))
            unfold laC at HEL
            dsimp only at HEL
            have HX := hide hx
            have HLa := hide hla
            clear hcl hla hx hadr
            have HNm := hide (HLo.out.oth _ _ (by omega) HX.out).1
            have HPa := hide (HLo.out.oth _ _ (by omega) HX.out).2
            go_wp2_with (first | (refine at_load 48 rfl ?_; refine wl_run rfl 48 _ rfl rfl (run_load_s tyT _ [.int .i64 fm, .string (bs md), .string (bs nm), .int .i64 ln, .int .i64 el, .int .i64 ba, .slice fo fl.length fc, .slice po pr.length pc, .int .i64 rs, .int .i64 ds] rfl (HEL.out _ HC.out.grown)) ?_) | (refine at_alloc 48 rfl ?_; refine wl_alloc rfl 48 rfl _ zTy HC.out ?_; intro bt w' hn hc; (replace HC := hide hc; clear hc)) | ((refine at_store 48 rfl ?_; refine wl_store rfl 48 _ _ rfl rfl rfl tyT.sz rfl HC.out (by repeat (first | exact List.Mem.head _ | apply List.Mem.tail)) (by exact PutS.all _ _ rfl) (by repeat (first | exact Upd.here _ _ _ | apply Upd.there)) ?_; intro w' hc; (replace HC := hide hc; clear hc)); (obtain ⟨c0, c1, c2, c3, c4, c5, c6, c7, c8, c9⟩ := ten_f HC.out)) | (go_at_call 60; refine (names_at (a := ⟨⟨fm, md, nm, ln, el, ba, fl, pr, rs, ds⟩, fo, fc, po, pc⟩) HLa.out.sm).mono ?_; dsimp only; rw [HNm.out]; rintro e w2 ⟨rfl, hg⟩; (replace HC := hide (HC.out.g hg); (clear c0 c1 c2 c3 c4 c5 c6 c7 c8 c9); (obtain ⟨c0, c1, c2, c3, c4, c5, c6, c7, c8, c9⟩ := ten_f HC.out); clear hg)) | (go_at_call 61; refine (parts_at (a := ⟨⟨fm, md, nm, ln, el, ba, fl, pr, rs, ds⟩, fo, fc, po, pc⟩) _ (HT.out.kept HC.out.grown) (HLa.out.kept HC.out.grown)).mono ?_; dsimp only; rw [HPa.out]; rintro e w2 ⟨rfl, hg⟩; (replace HC := hide (HC.out.g hg); (clear c0 c1 c2 c3 c4 c5 c6 c7 c8 c9); (obtain ⟨c0, c1, c2, c3, c4, c5, c6, c7, c8, c9⟩ := ten_f HC.out); clear hg)))
            refine ⟨⟨k + 1, by omega, by go_num, hide (fun i x h1 h2 hix => ?_), hide HC.out.drop⟩, by simp [intOf]; omega⟩
            by_cases e : i = 7 + k
            · rw [e, HX.out] at hix
              cases hix
              exact ⟨HNm.out, HPa.out⟩
            · exact HO.out i x h1 (by omega) hix
          · obtain rfl : k = n := by omega
            (go_wp2_with (first | (go_at_call 62; refine (none_at _ (HT.out.kept HC.out.grown) HLo.out.inP HLo.out.hi).mono ?_; rintro e w2 ⟨d, rfl, hg, hd⟩; replace HC := hide (HC.out.g hg); clear hg; cases d <;> (first | (have HR := hide (hd.1 rfl); clear hd) | (have HN := hide (fun h => (by cases hd.2 h : False)); clear hd))) | (go_at_call 63; refine (records_at _ (HT.out.kept HC.out.grown) (HLo.out.recPre HR.out)).mono ?_; rintro e w2 ⟨d, rfl, hg, hd⟩; replace HC := hide (HC.out.g hg); have HD := hide hd; clear hg hd)); all_goals (first | (go_ret; exact ⟨false, rfl, HC.out.grown, gd_no (fun g => HN.out g.rank)⟩) | (go_ret; exact ⟨d, rfl, HC.out.grown, ⟨fun e => ⟨HLo.out, HR.out, HD.out.1 e⟩, fun g => HD.out.2 g.rcd⟩⟩)))
end Go.Proofs.Ythmldhppmpbadaa.Ty
