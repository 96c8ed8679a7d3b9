/-
  Package types: a type's parts.
-/
import Derived.Test.YthmldhppmpbadaaTy6
namespace Go.Proofs.Ythmldhppmpbadaa.Ty
open Go.RowKit hiding Hid
open Go.Proofs.Ythmldhppmpbadaa.Tx Go.Proofs.Ythmldhppmpbadaa.Lx Go.Proofs.Ythmldhppmpbadaa.Tr
set_option linter.unusedVariables false
set_option linter.unusedSimpArgs false
set_option maxRecDepth 100000

def partsB (T : List Tt) (x : Tt) : Bool :=
  if x.fm = 7 then (decide (1 ≤ x.ln) && (decide (x.ln ≤ 4096) && elemF (fmA T x.el))) && bareB { x with ln := 0, el := 0 }
  else if x.fm = 8 then openF (fmA T x.el) && bareB { x with el := 0 }
  else if x.fm = 9 then (baseA T x.ba && (flsB T x.fl && (decide (-1 ≤ x.ds) && decide (x.ds < 64)))) && bareB { x with ba := 0, fl := [], ds := 0 }
  else if x.fm = 10 then (fmA T x.el == 9) && bareB { x with el := 0 }
  else if x.fm = 11 then (pmsB T x.pm && resA T x.rs) && bareB { x with pm := [], rs := 0 }
  else false
theorem ten_f {w0 w : World} {A : Nat → Prop} {X : Option Nat} {L : List Lc} {Rs : List Rw} {Ts : List (List Dt × List Value)} {b : Nat} {u0 u1 u2 u3 u4 u5 u6 u7 u8 u9 : Value} {t : TypeId} (H : Cx w0 A X (⟨b, [u0, u1, u2, u3, u4, u5, u6, u7, u8, u9], t⟩ :: L) Rs Ts w) :
    w.cell? ⟨b, 0, none⟩ = some u0 ∧ w.cell? ⟨b, 1, none⟩ = some u1 ∧ w.cell? ⟨b, 2, none⟩ = some u2 ∧ w.cell? ⟨b, 3, none⟩ = some u3 ∧ w.cell? ⟨b, 4, none⟩ = some u4 ∧ w.cell? ⟨b, 5, none⟩ = some u5 ∧ w.cell? ⟨b, 6, none⟩ = some u6 ∧ w.cell? ⟨b, 7, none⟩ = some u7 ∧ w.cell? ⟨b, 8, none⟩ = some u8 ∧ w.cell? ⟨b, 9, none⟩ = some u9 :=
  ⟨cf H (.head _) 0 _ rfl, cf H (.head _) 1 _ rfl, cf H (.head _) 2 _ rfl, cf H (.head _) 3 _ rfl, cf H (.head _) 4 _ rfl, cf H (.head _) 5 _ rfl, cf H (.head _) 6 _ rfl, cf H (.head _) 7 _ rfl, cf H (.head _) 8 _ rfl, cf H (.head _) 9 _ rfl⟩
set_option maxHeartbeats 4000000 in
theorem parts_at {w : World} {o : Option Addr} {T : List Tt} {a : La} (cp : Nat) (H : Tab w o T) (h : Lp w a) : Calls Try.prog 61 #[.slice o T.length cp, .agg (laC a).toArray] w fun e w' => e = .returned (.bool (partsB T a.x)) ∧ w.grownBy w' none := by
  obtain ⟨⟨fm, md, nm, ln, el, ba, fl, pm, rs, ds⟩, fo, fc, po, pc⟩ := a
  have HP := hide h
  have HC := hide (Cx.start w (fun _ => False))
  have HT := hide H
  clear h H
  unfold laC
  dsimp only
  by_cases f7 : fm = 7
  · subst f7
    by_cases h1 : 1 ≤ ln
    · by_cases h2 : ln ≤ 4096
      · cases hw : elemF (fmA T el) with
        | false =>
          have H2 := hide hw
          have HE := hide (show partsB T ⟨7, md, nm, ln, el, ba, fl, pm, rs, ds⟩ = false by unfold partsB; simp [hw])
          clear hw
          (go_enter Try.func61, Try.ntmps61)
          go_wp2_with (first | ((refine at_box 48 rfl ?_; refine wl_box rfl 48 _ rfl _ rfl HC.out ?_; intro b w' hn hc; (replace HC := hide hc; clear hc)); (obtain ⟨c0, c1, c2, c3, c4, c5, c6, c7, c8, c9⟩ := ten_f HC.out)) | ((refine at_store 3 rfl ?_; refine wl_store (us := [.int .i64 0]) rfl 3 _ _ rfl rfl rfl tcI.sz rfl HC.out (by repeat (first | exact List.Mem.head _ | apply List.Mem.tail)) (by repeat (first | exact PutS.cons _ _ (PutS.nil _) | apply PutS.skip)) (by repeat (first | exact Upd.here _ _ _ | apply Upd.there)) ?_; intro w' hc; (replace HC := hide hc; clear hc)); (clear c0 c1 c2 c3 c4 c5 c6 c7 c8 c9); (obtain ⟨c0, c1, c2, c3, c4, c5, c6, c7, c8, c9⟩ := ten_f HC.out)) | (go_at_call 91; refine (element_at _ _ (HT.out.kept HC.out.grown)).mono ?_; rw [H2.out]; rintro e w' ⟨rfl, hw⟩; replace hw := hw.symm; subst hw))
          (go_ret; exact ⟨by rw [HE.out]; rfl, HC.out.grown⟩)
        | true =>
          have H2 := hide hw
          have HE := hide (show partsB T ⟨7, md, nm, ln, el, ba, fl, pm, rs, ds⟩ = bareB ⟨7, md, nm, 0, 0, ba, fl, pm, rs, ds⟩ by unfold partsB; simp [hw, h1, h2])
          clear hw
          (go_enter Try.func61, Try.ntmps61)
          go_wp2_with (first | ((refine at_box 48 rfl ?_; refine wl_box rfl 48 _ rfl _ rfl HC.out ?_; intro b w' hn hc; (replace HC := hide hc; clear hc)); (obtain ⟨c0, c1, c2, c3, c4, c5, c6, c7, c8, c9⟩ := ten_f HC.out)) | ((refine at_store 3 rfl ?_; refine wl_store (us := [.int .i64 0]) rfl 3 _ _ rfl rfl rfl tcI.sz rfl HC.out (by repeat (first | exact List.Mem.head _ | apply List.Mem.tail)) (by repeat (first | exact PutS.cons _ _ (PutS.nil _) | apply PutS.skip)) (by repeat (first | exact Upd.here _ _ _ | apply Upd.there)) ?_; intro w' hc; (replace HC := hide hc; clear hc)); (clear c0 c1 c2 c3 c4 c5 c6 c7 c8 c9); (obtain ⟨c0, c1, c2, c3, c4, c5, c6, c7, c8, c9⟩ := ten_f HC.out)) | (go_at_call 91; refine (element_at _ _ (HT.out.kept HC.out.grown)).mono ?_; rw [H2.out]; rintro e w' ⟨rfl, hw⟩; replace hw := hw.symm; subst hw) | (go_at_call 59; refine (bare_at (a := ⟨⟨7, md, nm, 0, 0, ba, fl, pm, rs, ds⟩, fo, fc, po, pc⟩)).mono ?_; rintro e w2 ⟨rfl, hg⟩; (replace HC := hide (HC.out.g hg); (clear c0 c1 c2 c3 c4 c5 c6 c7 c8 c9); (obtain ⟨c0, c1, c2, c3, c4, c5, c6, c7, c8, c9⟩ := ten_f HC.out); clear hg)))
          (go_ret; exact ⟨by rw [HE.out]; rfl, HC.out.grown⟩)
      · have HE := hide (show partsB T ⟨7, md, nm, ln, el, ba, fl, pm, rs, ds⟩ = false by unfold partsB; simp [h2])
        (go_enter Try.func61, Try.ntmps61)
        go_wp2_with (first | ((refine at_box 48 rfl ?_; refine wl_box rfl 48 _ rfl _ rfl HC.out ?_; intro b w' hn hc; (replace HC := hide hc; clear hc)); (obtain ⟨c0, c1, c2, c3, c4, c5, c6, c7, c8, c9⟩ := ten_f HC.out)) | ((refine at_store 3 rfl ?_; refine wl_store (us := [.int .i64 0]) rfl 3 _ _ rfl rfl rfl tcI.sz rfl HC.out (by repeat (first | exact List.Mem.head _ | apply List.Mem.tail)) (by repeat (first | exact PutS.cons _ _ (PutS.nil _) | apply PutS.skip)) (by repeat (first | exact Upd.here _ _ _ | apply Upd.there)) ?_; intro w' hc; (replace HC := hide hc; clear hc)); (clear c0 c1 c2 c3 c4 c5 c6 c7 c8 c9); (obtain ⟨c0, c1, c2, c3, c4, c5, c6, c7, c8, c9⟩ := ten_f HC.out)) | (go_at_call 91; refine (element_at _ _ (HT.out.kept HC.out.grown)).mono ?_; rw [H2.out]; rintro e w' ⟨rfl, hw⟩; replace hw := hw.symm; subst hw))
        (go_ret; exact ⟨by rw [HE.out]; rfl, HC.out.grown⟩)
    · have HE := hide (show partsB T ⟨7, md, nm, ln, el, ba, fl, pm, rs, ds⟩ = false by unfold partsB; simp [h1])
      (go_enter Try.func61, Try.ntmps61)
      go_wp2_with (first | ((refine at_box 48 rfl ?_; refine wl_box rfl 48 _ rfl _ rfl HC.out ?_; intro b w' hn hc; (replace HC := hide hc; clear hc)); (obtain ⟨c0, c1, c2, c3, c4, c5, c6, c7, c8, c9⟩ := ten_f HC.out)) | ((refine at_store 3 rfl ?_; refine wl_store (us := [.int .i64 0]) rfl 3 _ _ rfl rfl rfl tcI.sz rfl HC.out (by repeat (first | exact List.Mem.head _ | apply List.Mem.tail)) (by repeat (first | exact PutS.cons _ _ (PutS.nil _) | apply PutS.skip)) (by repeat (first | exact Upd.here _ _ _ | apply Upd.there)) ?_; intro w' hc; (replace HC := hide hc; clear hc)); (clear c0 c1 c2 c3 c4 c5 c6 c7 c8 c9); (obtain ⟨c0, c1, c2, c3, c4, c5, c6, c7, c8, c9⟩ := ten_f HC.out)) | (go_at_call 91; refine (element_at _ _ (HT.out.kept HC.out.grown)).mono ?_; rw [H2.out]; rintro e w' ⟨rfl, hw⟩; replace hw := hw.symm; subst hw))
      (go_ret; exact ⟨by rw [HE.out]; rfl, HC.out.grown⟩)
  by_cases f8 : fm = 8
  · subst f8
    clear f7
    cases hw : openF (fmA T el) with
    | false =>
      have H2 := hide hw
      have HE := hide (show partsB T ⟨8, md, nm, ln, el, ba, fl, pm, rs, ds⟩ = false by unfold partsB; simp [hw])
      clear hw
      (go_enter Try.func61, Try.ntmps61)
      go_wp2_with (first | ((refine at_box 48 rfl ?_; refine wl_box rfl 48 _ rfl _ rfl HC.out ?_; intro b w' hn hc; (replace HC := hide hc; clear hc)); (obtain ⟨c0, c1, c2, c3, c4, c5, c6, c7, c8, c9⟩ := ten_f HC.out)) | ((refine at_store 3 rfl ?_; refine wl_store (us := [.int .i64 0]) rfl 3 _ _ rfl rfl rfl tcI.sz rfl HC.out (by repeat (first | exact List.Mem.head _ | apply List.Mem.tail)) (by repeat (first | exact PutS.cons _ _ (PutS.nil _) | apply PutS.skip)) (by repeat (first | exact Upd.here _ _ _ | apply Upd.there)) ?_; intro w' hc; (replace HC := hide hc; clear hc)); (clear c0 c1 c2 c3 c4 c5 c6 c7 c8 c9); (obtain ⟨c0, c1, c2, c3, c4, c5, c6, c7, c8, c9⟩ := ten_f HC.out)) | (go_at_call 92; refine (open_at _ _ (HT.out.kept HC.out.grown)).mono ?_; rw [H2.out]; rintro e w' ⟨rfl, hw⟩; replace hw := hw.symm; subst hw))
      (go_ret; exact ⟨by rw [HE.out]; rfl, HC.out.grown⟩)
    | true =>
      have H2 := hide hw
      have HE := hide (show partsB T ⟨8, md, nm, ln, el, ba, fl, pm, rs, ds⟩ = bareB ⟨8, md, nm, ln, 0, ba, fl, pm, rs, ds⟩ by unfold partsB; simp [hw])
      clear hw
      (go_enter Try.func61, Try.ntmps61)
      go_wp2_with (first | ((refine at_box 48 rfl ?_; refine wl_box rfl 48 _ rfl _ rfl HC.out ?_; intro b w' hn hc; (replace HC := hide hc; clear hc)); (obtain ⟨c0, c1, c2, c3, c4, c5, c6, c7, c8, c9⟩ := ten_f HC.out)) | ((refine at_store 3 rfl ?_; refine wl_store (us := [.int .i64 0]) rfl 3 _ _ rfl rfl rfl tcI.sz rfl HC.out (by repeat (first | exact List.Mem.head _ | apply List.Mem.tail)) (by repeat (first | exact PutS.cons _ _ (PutS.nil _) | apply PutS.skip)) (by repeat (first | exact Upd.here _ _ _ | apply Upd.there)) ?_; intro w' hc; (replace HC := hide hc; clear hc)); (clear c0 c1 c2 c3 c4 c5 c6 c7 c8 c9); (obtain ⟨c0, c1, c2, c3, c4, c5, c6, c7, c8, c9⟩ := ten_f HC.out)) | (go_at_call 92; refine (open_at _ _ (HT.out.kept HC.out.grown)).mono ?_; rw [H2.out]; rintro e w' ⟨rfl, hw⟩; replace hw := hw.symm; subst hw) | (go_at_call 59; refine (bare_at (a := ⟨⟨8, md, nm, ln, 0, ba, fl, pm, rs, ds⟩, fo, fc, po, pc⟩)).mono ?_; rintro e w2 ⟨rfl, hg⟩; (replace HC := hide (HC.out.g hg); (clear c0 c1 c2 c3 c4 c5 c6 c7 c8 c9); (obtain ⟨c0, c1, c2, c3, c4, c5, c6, c7, c8, c9⟩ := ten_f HC.out); clear hg)))
      (go_ret; exact ⟨by rw [HE.out]; rfl, HC.out.grown⟩)
  by_cases f10 : fm = 10
  · subst f10
    clear f7 f8
    obtain ⟨f, hf⟩ : ∃ f, fmA T el = f := ⟨_, rfl⟩
    have H2 := hide hf
    by_cases h9 : f = 9
    · have HE := hide (show partsB T ⟨10, md, nm, ln, el, ba, fl, pm, rs, ds⟩ = bareB ⟨10, md, nm, ln, 0, ba, fl, pm, rs, ds⟩ by unfold partsB; simp [hf, h9])
      clear hf
      (go_enter Try.func61, Try.ntmps61)
      go_wp2_with (first | ((refine at_box 48 rfl ?_; refine wl_box rfl 48 _ rfl _ rfl HC.out ?_; intro b w' hn hc; (replace HC := hide hc; clear hc)); (obtain ⟨c0, c1, c2, c3, c4, c5, c6, c7, c8, c9⟩ := ten_f HC.out)) | ((refine at_store 3 rfl ?_; refine wl_store (us := [.int .i64 0]) rfl 3 _ _ rfl rfl rfl tcI.sz rfl HC.out (by repeat (first | exact List.Mem.head _ | apply List.Mem.tail)) (by repeat (first | exact PutS.cons _ _ (PutS.nil _) | apply PutS.skip)) (by repeat (first | exact Upd.here _ _ _ | apply Upd.there)) ?_; intro w' hc; (replace HC := hide hc; clear hc)); (clear c0 c1 c2 c3 c4 c5 c6 c7 c8 c9); (obtain ⟨c0, c1, c2, c3, c4, c5, c6, c7, c8, c9⟩ := ten_f HC.out)) | (go_at_call 95; refine (form_at _ _ (HT.out.kept HC.out.grown)).mono ?_; rw [H2.out]; rintro e w' ⟨rfl, hw⟩; replace hw := hw.symm; subst hw) | (go_at_call 59; refine (bare_at (a := ⟨⟨10, md, nm, ln, 0, ba, fl, pm, rs, ds⟩, fo, fc, po, pc⟩)).mono ?_; rintro e w2 ⟨rfl, hg⟩; (replace HC := hide (HC.out.g hg); (clear c0 c1 c2 c3 c4 c5 c6 c7 c8 c9); (obtain ⟨c0, c1, c2, c3, c4, c5, c6, c7, c8, c9⟩ := ten_f HC.out); clear hg)))
      (go_ret; exact ⟨by rw [HE.out]; rfl, HC.out.grown⟩)
    · have HE := hide (show partsB T ⟨10, md, nm, ln, el, ba, fl, pm, rs, ds⟩ = false by unfold partsB; simp [hf, h9])
      clear hf
      (go_enter Try.func61, Try.ntmps61)
      go_wp2_with (first | ((refine at_box 48 rfl ?_; refine wl_box rfl 48 _ rfl _ rfl HC.out ?_; intro b w' hn hc; (replace HC := hide hc; clear hc)); (obtain ⟨c0, c1, c2, c3, c4, c5, c6, c7, c8, c9⟩ := ten_f HC.out)) | ((refine at_store 3 rfl ?_; refine wl_store (us := [.int .i64 0]) rfl 3 _ _ rfl rfl rfl tcI.sz rfl HC.out (by repeat (first | exact List.Mem.head _ | apply List.Mem.tail)) (by repeat (first | exact PutS.cons _ _ (PutS.nil _) | apply PutS.skip)) (by repeat (first | exact Upd.here _ _ _ | apply Upd.there)) ?_; intro w' hc; (replace HC := hide hc; clear hc)); (clear c0 c1 c2 c3 c4 c5 c6 c7 c8 c9); (obtain ⟨c0, c1, c2, c3, c4, c5, c6, c7, c8, c9⟩ := ten_f HC.out)) | (go_at_call 95; refine (form_at _ _ (HT.out.kept HC.out.grown)).mono ?_; rw [H2.out]; rintro e w' ⟨rfl, hw⟩; replace hw := hw.symm; subst hw))
      (go_ret; exact ⟨by rw [HE.out]; rfl, HC.out.grown⟩)
  by_cases f9 : fm = 9
  · subst f9
    clear f7 f8 f10
    cases hb : baseA T ba with
    | false =>
      have H2 := hide hb
      have HE := hide (show partsB T ⟨9, md, nm, ln, el, ba, fl, pm, rs, ds⟩ = false by unfold partsB; simp [hb])
      clear hb
      (go_enter Try.func61, Try.ntmps61)
      go_wp2_with (first | ((refine at_box 48 rfl ?_; refine wl_box rfl 48 _ rfl _ rfl HC.out ?_; intro b w' hn hc; (replace HC := hide hc; clear hc)); (obtain ⟨c0, c1, c2, c3, c4, c5, c6, c7, c8, c9⟩ := ten_f HC.out)) | ((refine at_store 3 rfl ?_; refine wl_store (us := [.int .i64 0]) rfl 3 _ _ rfl rfl rfl tcI.sz rfl HC.out (by repeat (first | exact List.Mem.head _ | apply List.Mem.tail)) (by repeat (first | exact PutS.cons _ _ (PutS.nil _) | apply PutS.skip)) (by repeat (first | exact Upd.here _ _ _ | apply Upd.there)) ?_; intro w' hc; (replace HC := hide hc; clear hc)); (clear c0 c1 c2 c3 c4 c5 c6 c7 c8 c9); (obtain ⟨c0, c1, c2, c3, c4, c5, c6, c7, c8, c9⟩ := ten_f HC.out)) | ((refine at_store 45 rfl ?_; refine wl_store (us := [.slice none 0 0]) rfl 45 _ _ rfl rfl rfl tcLF.sz rfl HC.out (by repeat (first | exact List.Mem.head _ | apply List.Mem.tail)) (by repeat (first | exact PutS.cons _ _ (PutS.nil _) | apply PutS.skip)) (by repeat (first | exact Upd.here _ _ _ | apply Upd.there)) ?_; intro w' hc; (replace HC := hide hc; clear hc)); (clear c0 c1 c2 c3 c4 c5 c6 c7 c8 c9); (obtain ⟨c0, c1, c2, c3, c4, c5, c6, c7, c8, c9⟩ := ten_f HC.out)) | (go_at_call 93; refine (base_at _ _ (HT.out.kept HC.out.grown)).mono ?_; rw [H2.out]; rintro e w' ⟨rfl, hw⟩; replace hw := hw.symm; subst hw))
      (go_ret; exact ⟨by rw [HE.out]; rfl, HC.out.grown⟩)
    | true =>
      have H2 := hide hb
      cases hl : flsB T fl with
      | false =>
        have H3 := hide hl
        have HE := hide (show partsB T ⟨9, md, nm, ln, el, ba, fl, pm, rs, ds⟩ = false by unfold partsB; simp [hb, hl])
        clear hb hl
        (go_enter Try.func61, Try.ntmps61)
        go_wp2_with (first | ((refine at_box 48 rfl ?_; refine wl_box rfl 48 _ rfl _ rfl HC.out ?_; intro b w' hn hc; (replace HC := hide hc; clear hc)); (obtain ⟨c0, c1, c2, c3, c4, c5, c6, c7, c8, c9⟩ := ten_f HC.out)) | ((refine at_store 3 rfl ?_; refine wl_store (us := [.int .i64 0]) rfl 3 _ _ rfl rfl rfl tcI.sz rfl HC.out (by repeat (first | exact List.Mem.head _ | apply List.Mem.tail)) (by repeat (first | exact PutS.cons _ _ (PutS.nil _) | apply PutS.skip)) (by repeat (first | exact Upd.here _ _ _ | apply Upd.there)) ?_; intro w' hc; (replace HC := hide hc; clear hc)); (clear c0 c1 c2 c3 c4 c5 c6 c7 c8 c9); (obtain ⟨c0, c1, c2, c3, c4, c5, c6, c7, c8, c9⟩ := ten_f HC.out)) | ((refine at_store 45 rfl ?_; refine wl_store (us := [.slice none 0 0]) rfl 45 _ _ rfl rfl rfl tcLF.sz rfl HC.out (by repeat (first | exact List.Mem.head _ | apply List.Mem.tail)) (by repeat (first | exact PutS.cons _ _ (PutS.nil _) | apply PutS.skip)) (by repeat (first | exact Upd.here _ _ _ | apply Upd.there)) ?_; intro w' hc; (replace HC := hide hc; clear hc)); (clear c0 c1 c2 c3 c4 c5 c6 c7 c8 c9); (obtain ⟨c0, c1, c2, c3, c4, c5, c6, c7, c8, c9⟩ := ten_f HC.out)) | (go_at_call 93; refine (base_at _ _ (HT.out.kept HC.out.grown)).mono ?_; rw [H2.out]; rintro e w' ⟨rfl, hw⟩; replace hw := hw.symm; subst hw) | (go_at_call 94; refine (fields_at _ _ (HT.out.kept HC.out.grown) (HP.out.fl.kept HC.out.grown) HP.out.sm.fl HP.out.sm.fn).mono ?_; rw [H3.out]; rintro e w2 ⟨rfl, hg⟩; (replace HC := hide (HC.out.g hg); (clear c0 c1 c2 c3 c4 c5 c6 c7 c8 c9); (obtain ⟨c0, c1, c2, c3, c4, c5, c6, c7, c8, c9⟩ := ten_f HC.out); clear hg)))
        (go_ret; exact ⟨by rw [HE.out]; rfl, HC.out.grown⟩)
      | true =>
        have H3 := hide hl
        by_cases h1 : -1 ≤ ds
        · by_cases h2 : ds < 64
          · have HE := hide (show partsB T ⟨9, md, nm, ln, el, ba, fl, pm, rs, ds⟩ = bareB ⟨9, md, nm, ln, el, 0, [], pm, rs, 0⟩ by unfold partsB; simp [hb, hl, h1, h2])
            clear hb hl
            (go_enter Try.func61, Try.ntmps61)
            go_wp2_with (first | ((refine at_box 48 rfl ?_; refine wl_box rfl 48 _ rfl _ rfl HC.out ?_; intro b w' hn hc; (replace HC := hide hc; clear hc)); (obtain ⟨c0, c1, c2, c3, c4, c5, c6, c7, c8, c9⟩ := ten_f HC.out)) | ((refine at_store 3 rfl ?_; refine wl_store (us := [.int .i64 0]) rfl 3 _ _ rfl rfl rfl tcI.sz rfl HC.out (by repeat (first | exact List.Mem.head _ | apply List.Mem.tail)) (by repeat (first | exact PutS.cons _ _ (PutS.nil _) | apply PutS.skip)) (by repeat (first | exact Upd.here _ _ _ | apply Upd.there)) ?_; intro w' hc; (replace HC := hide hc; clear hc)); (clear c0 c1 c2 c3 c4 c5 c6 c7 c8 c9); (obtain ⟨c0, c1, c2, c3, c4, c5, c6, c7, c8, c9⟩ := ten_f HC.out)) | ((refine at_store 45 rfl ?_; refine wl_store (us := [.slice none 0 0]) rfl 45 _ _ rfl rfl rfl tcLF.sz rfl HC.out (by repeat (first | exact List.Mem.head _ | apply List.Mem.tail)) (by repeat (first | exact PutS.cons _ _ (PutS.nil _) | apply PutS.skip)) (by repeat (first | exact Upd.here _ _ _ | apply Upd.there)) ?_; intro w' hc; (replace HC := hide hc; clear hc)); (clear c0 c1 c2 c3 c4 c5 c6 c7 c8 c9); (obtain ⟨c0, c1, c2, c3, c4, c5, c6, c7, c8, c9⟩ := ten_f HC.out)) | (go_at_call 93; refine (base_at _ _ (HT.out.kept HC.out.grown)).mono ?_; rw [H2.out]; rintro e w' ⟨rfl, hw⟩; replace hw := hw.symm; subst hw) | (go_at_call 94; refine (fields_at _ _ (HT.out.kept HC.out.grown) (HP.out.fl.kept HC.out.grown) HP.out.sm.fl HP.out.sm.fn).mono ?_; rw [H3.out]; rintro e w2 ⟨rfl, hg⟩; (replace HC := hide (HC.out.g hg); (clear c0 c1 c2 c3 c4 c5 c6 c7 c8 c9); (obtain ⟨c0, c1, c2, c3, c4, c5, c6, c7, c8, c9⟩ := ten_f HC.out); clear hg)) | (go_at_call 59; refine (bare_at (a := ⟨⟨9, md, nm, ln, el, 0, [], pm, rs, 0⟩, none, 0, po, pc⟩)).mono ?_; rintro e w2 ⟨rfl, hg⟩; (replace HC := hide (HC.out.g hg); (clear c0 c1 c2 c3 c4 c5 c6 c7 c8 c9); (obtain ⟨c0, c1, c2, c3, c4, c5, c6, c7, c8, c9⟩ := ten_f HC.out); clear hg)))
            (go_ret; exact ⟨by rw [HE.out]; rfl, HC.out.grown⟩)
          · have HE := hide (show partsB T ⟨9, md, nm, ln, el, ba, fl, pm, rs, ds⟩ = false by unfold partsB; simp [hb, hl, h1, h2])
            clear hb hl
            (go_enter Try.func61, Try.ntmps61)
            go_wp2_with (first | ((refine at_box 48 rfl ?_; refine wl_box rfl 48 _ rfl _ rfl HC.out ?_; intro b w' hn hc; (replace HC := hide hc; clear hc)); (obtain ⟨c0, c1, c2, c3, c4, c5, c6, c7, c8, c9⟩ := ten_f HC.out)) | ((refine at_store 3 rfl ?_; refine wl_store (us := [.int .i64 0]) rfl 3 _ _ rfl rfl rfl tcI.sz rfl HC.out (by repeat (first | exact List.Mem.head _ | apply List.Mem.tail)) (by repeat (first | exact PutS.cons _ _ (PutS.nil _) | apply PutS.skip)) (by repeat (first | exact Upd.here _ _ _ | apply Upd.there)) ?_; intro w' hc; (replace HC := hide hc; clear hc)); (clear c0 c1 c2 c3 c4 c5 c6 c7 c8 c9); (obtain ⟨c0, c1, c2, c3, c4, c5, c6, c7, c8, c9⟩ := ten_f HC.out)) | ((refine at_store 45 rfl ?_; refine wl_store (us := [.slice none 0 0]) rfl 45 _ _ rfl rfl rfl tcLF.sz rfl HC.out (by repeat (first | exact List.Mem.head _ | apply List.Mem.tail)) (by repeat (first | exact PutS.cons _ _ (PutS.nil _) | apply PutS.skip)) (by repeat (first | exact Upd.here _ _ _ | apply Upd.there)) ?_; intro w' hc; (replace HC := hide hc; clear hc)); (clear c0 c1 c2 c3 c4 c5 c6 c7 c8 c9); (obtain ⟨c0, c1, c2, c3, c4, c5, c6, c7, c8, c9⟩ := ten_f HC.out)) | (go_at_call 93; refine (base_at _ _ (HT.out.kept HC.out.grown)).mono ?_; rw [H2.out]; rintro e w' ⟨rfl, hw⟩; replace hw := hw.symm; subst hw) | (go_at_call 94; refine (fields_at _ _ (HT.out.kept HC.out.grown) (HP.out.fl.kept HC.out.grown) HP.out.sm.fl HP.out.sm.fn).mono ?_; rw [H3.out]; rintro e w2 ⟨rfl, hg⟩; (replace HC := hide (HC.out.g hg); (clear c0 c1 c2 c3 c4 c5 c6 c7 c8 c9); (obtain ⟨c0, c1, c2, c3, c4, c5, c6, c7, c8, c9⟩ := ten_f HC.out); clear hg)))
            (go_ret; exact ⟨by rw [HE.out]; rfl, HC.out.grown⟩)
        · have HE := hide (show partsB T ⟨9, md, nm, ln, el, ba, fl, pm, rs, ds⟩ = false by unfold partsB; simp [hb, hl, h1])
          clear hb hl
          (go_enter Try.func61, Try.ntmps61)
          go_wp2_with (first | ((refine at_box 48 rfl ?_; refine wl_box rfl 48 _ rfl _ rfl HC.out ?_; intro b w' hn hc; (replace HC := hide hc; clear hc)); (obtain ⟨c0, c1, c2, c3, c4, c5, c6, c7, c8, c9⟩ := ten_f HC.out)) | ((refine at_store 3 rfl ?_; refine wl_store (us := [.int .i64 0]) rfl 3 _ _ rfl rfl rfl tcI.sz rfl HC.out (by repeat (first | exact List.Mem.head _ | apply List.Mem.tail)) (by repeat (first | exact PutS.cons _ _ (PutS.nil _) | apply PutS.skip)) (by repeat (first | exact Upd.here _ _ _ | apply Upd.there)) ?_; intro w' hc; (replace HC := hide hc; clear hc)); (clear c0 c1 c2 c3 c4 c5 c6 c7 c8 c9); (obtain ⟨c0, c1, c2, c3, c4, c5, c6, c7, c8, c9⟩ := ten_f HC.out)) | ((refine at_store 45 rfl ?_; refine wl_store (us := [.slice none 0 0]) rfl 45 _ _ rfl rfl rfl tcLF.sz rfl HC.out (by repeat (first | exact List.Mem.head _ | apply List.Mem.tail)) (by repeat (first | exact PutS.cons _ _ (PutS.nil _) | apply PutS.skip)) (by repeat (first | exact Upd.here _ _ _ | apply Upd.there)) ?_; intro w' hc; (replace HC := hide hc; clear hc)); (clear c0 c1 c2 c3 c4 c5 c6 c7 c8 c9); (obtain ⟨c0, c1, c2, c3, c4, c5, c6, c7, c8, c9⟩ := ten_f HC.out)) | (go_at_call 93; refine (base_at _ _ (HT.out.kept HC.out.grown)).mono ?_; rw [H2.out]; rintro e w' ⟨rfl, hw⟩; replace hw := hw.symm; subst hw) | (go_at_call 94; refine (fields_at _ _ (HT.out.kept HC.out.grown) (HP.out.fl.kept HC.out.grown) HP.out.sm.fl HP.out.sm.fn).mono ?_; rw [H3.out]; rintro e w2 ⟨rfl, hg⟩; (replace HC := hide (HC.out.g hg); (clear c0 c1 c2 c3 c4 c5 c6 c7 c8 c9); (obtain ⟨c0, c1, c2, c3, c4, c5, c6, c7, c8, c9⟩ := ten_f HC.out); clear hg)))
          (go_ret; exact ⟨by rw [HE.out]; rfl, HC.out.grown⟩)
  by_cases f11 : fm = 11
  · subst f11
    clear f7 f8 f9 f10
    cases hl : pmsB T pm with
    | false =>
      have H2 := hide hl
      have HE := hide (show partsB T ⟨11, md, nm, ln, el, ba, fl, pm, rs, ds⟩ = false by unfold partsB; simp [hl])
      clear hl
      (go_enter Try.func61, Try.ntmps61)
      go_wp2_with (first | ((refine at_box 48 rfl ?_; refine wl_box rfl 48 _ rfl _ rfl HC.out ?_; intro b w' hn hc; (replace HC := hide hc; clear hc)); (obtain ⟨c0, c1, c2, c3, c4, c5, c6, c7, c8, c9⟩ := ten_f HC.out)) | ((refine at_store 3 rfl ?_; refine wl_store (us := [.int .i64 0]) rfl 3 _ _ rfl rfl rfl tcI.sz rfl HC.out (by repeat (first | exact List.Mem.head _ | apply List.Mem.tail)) (by repeat (first | exact PutS.cons _ _ (PutS.nil _) | apply PutS.skip)) (by repeat (first | exact Upd.here _ _ _ | apply Upd.there)) ?_; intro w' hc; (replace HC := hide hc; clear hc)); (clear c0 c1 c2 c3 c4 c5 c6 c7 c8 c9); (obtain ⟨c0, c1, c2, c3, c4, c5, c6, c7, c8, c9⟩ := ten_f HC.out)) | ((refine at_store 46 rfl ?_; refine wl_store (us := [.slice none 0 0]) rfl 46 _ _ rfl rfl rfl tcLP.sz rfl HC.out (by repeat (first | exact List.Mem.head _ | apply List.Mem.tail)) (by repeat (first | exact PutS.cons _ _ (PutS.nil _) | apply PutS.skip)) (by repeat (first | exact Upd.here _ _ _ | apply Upd.there)) ?_; intro w' hc; (replace HC := hide hc; clear hc)); (clear c0 c1 c2 c3 c4 c5 c6 c7 c8 c9); (obtain ⟨c0, c1, c2, c3, c4, c5, c6, c7, c8, c9⟩ := ten_f HC.out)) | (go_at_call 96; refine (params_at _ _ (HT.out.kept HC.out.grown) (HP.out.pm.kept HC.out.grown) HP.out.sm.pm).mono ?_; rw [H2.out]; rintro e w2 ⟨rfl, hg⟩; (replace HC := hide (HC.out.g hg); (clear c0 c1 c2 c3 c4 c5 c6 c7 c8 c9); (obtain ⟨c0, c1, c2, c3, c4, c5, c6, c7, c8, c9⟩ := ten_f HC.out); clear hg)))
      (go_ret; exact ⟨by rw [HE.out]; rfl, HC.out.grown⟩)
    | true =>
      have H2 := hide hl
      cases hr : resA T rs with
      | false =>
        have H3 := hide hr
        have HE := hide (show partsB T ⟨11, md, nm, ln, el, ba, fl, pm, rs, ds⟩ = false by unfold partsB; simp [hl, hr])
        clear hl hr
        (go_enter Try.func61, Try.ntmps61)
        go_wp2_with (first | ((refine at_box 48 rfl ?_; refine wl_box rfl 48 _ rfl _ rfl HC.out ?_; intro b w' hn hc; (replace HC := hide hc; clear hc)); (obtain ⟨c0, c1, c2, c3, c4, c5, c6, c7, c8, c9⟩ := ten_f HC.out)) | ((refine at_store 3 rfl ?_; refine wl_store (us := [.int .i64 0]) rfl 3 _ _ rfl rfl rfl tcI.sz rfl HC.out (by repeat (first | exact List.Mem.head _ | apply List.Mem.tail)) (by repeat (first | exact PutS.cons _ _ (PutS.nil _) | apply PutS.skip)) (by repeat (first | exact Upd.here _ _ _ | apply Upd.there)) ?_; intro w' hc; (replace HC := hide hc; clear hc)); (clear c0 c1 c2 c3 c4 c5 c6 c7 c8 c9); (obtain ⟨c0, c1, c2, c3, c4, c5, c6, c7, c8, c9⟩ := ten_f HC.out)) | ((refine at_store 46 rfl ?_; refine wl_store (us := [.slice none 0 0]) rfl 46 _ _ rfl rfl rfl tcLP.sz rfl HC.out (by repeat (first | exact List.Mem.head _ | apply List.Mem.tail)) (by repeat (first | exact PutS.cons _ _ (PutS.nil _) | apply PutS.skip)) (by repeat (first | exact Upd.here _ _ _ | apply Upd.there)) ?_; intro w' hc; (replace HC := hide hc; clear hc)); (clear c0 c1 c2 c3 c4 c5 c6 c7 c8 c9); (obtain ⟨c0, c1, c2, c3, c4, c5, c6, c7, c8, c9⟩ := ten_f HC.out)) | (go_at_call 96; refine (params_at _ _ (HT.out.kept HC.out.grown) (HP.out.pm.kept HC.out.grown) HP.out.sm.pm).mono ?_; rw [H2.out]; rintro e w2 ⟨rfl, hg⟩; (replace HC := hide (HC.out.g hg); (clear c0 c1 c2 c3 c4 c5 c6 c7 c8 c9); (obtain ⟨c0, c1, c2, c3, c4, c5, c6, c7, c8, c9⟩ := ten_f HC.out); clear hg)) | (go_at_call 97; refine (result_at _ _ (HT.out.kept HC.out.grown)).mono ?_; rw [H3.out]; rintro e w' ⟨rfl, hw⟩; replace hw := hw.symm; subst hw))
        (go_ret; exact ⟨by rw [HE.out]; rfl, HC.out.grown⟩)
      | true =>
        have H3 := hide hr
        have HE := hide (show partsB T ⟨11, md, nm, ln, el, ba, fl, pm, rs, ds⟩ = bareB ⟨11, md, nm, ln, el, ba, fl, [], 0, ds⟩ by unfold partsB; simp [hl, hr])
        clear hl hr
        (go_enter Try.func61, Try.ntmps61)
        go_wp2_with (first | ((refine at_box 48 rfl ?_; refine wl_box rfl 48 _ rfl _ rfl HC.out ?_; intro b w' hn hc; (replace HC := hide hc; clear hc)); (obtain ⟨c0, c1, c2, c3, c4, c5, c6, c7, c8, c9⟩ := ten_f HC.out)) | ((refine at_store 3 rfl ?_; refine wl_store (us := [.int .i64 0]) rfl 3 _ _ rfl rfl rfl tcI.sz rfl HC.out (by repeat (first | exact List.Mem.head _ | apply List.Mem.tail)) (by repeat (first | exact PutS.cons _ _ (PutS.nil _) | apply PutS.skip)) (by repeat (first | exact Upd.here _ _ _ | apply Upd.there)) ?_; intro w' hc; (replace HC := hide hc; clear hc)); (clear c0 c1 c2 c3 c4 c5 c6 c7 c8 c9); (obtain ⟨c0, c1, c2, c3, c4, c5, c6, c7, c8, c9⟩ := ten_f HC.out)) | ((refine at_store 46 rfl ?_; refine wl_store (us := [.slice none 0 0]) rfl 46 _ _ rfl rfl rfl tcLP.sz rfl HC.out (by repeat (first | exact List.Mem.head _ | apply List.Mem.tail)) (by repeat (first | exact PutS.cons _ _ (PutS.nil _) | apply PutS.skip)) (by repeat (first | exact Upd.here _ _ _ | apply Upd.there)) ?_; intro w' hc; (replace HC := hide hc; clear hc)); (clear c0 c1 c2 c3 c4 c5 c6 c7 c8 c9); (obtain ⟨c0, c1, c2, c3, c4, c5, c6, c7, c8, c9⟩ := ten_f HC.out)) | (go_at_call 96; refine (params_at _ _ (HT.out.kept HC.out.grown) (HP.out.pm.kept HC.out.grown) HP.out.sm.pm).mono ?_; rw [H2.out]; rintro e w2 ⟨rfl, hg⟩; (replace HC := hide (HC.out.g hg); (clear c0 c1 c2 c3 c4 c5 c6 c7 c8 c9); (obtain ⟨c0, c1, c2, c3, c4, c5, c6, c7, c8, c9⟩ := ten_f HC.out); clear hg)) | (go_at_call 97; refine (result_at _ _ (HT.out.kept HC.out.grown)).mono ?_; rw [H3.out]; rintro e w' ⟨rfl, hw⟩; replace hw := hw.symm; subst hw) | (go_at_call 59; refine (bare_at (a := ⟨⟨11, md, nm, ln, el, ba, fl, [], 0, ds⟩, fo, fc, none, 0⟩)).mono ?_; rintro e w2 ⟨rfl, hg⟩; (replace HC := hide (HC.out.g hg); (clear c0 c1 c2 c3 c4 c5 c6 c7 c8 c9); (obtain ⟨c0, c1, c2, c3, c4, c5, c6, c7, c8, c9⟩ := ten_f HC.out); clear hg)))
        (go_ret; exact ⟨by rw [HE.out]; rfl, HC.out.grown⟩)
  have HE := hide (show partsB T ⟨fm, md, nm, ln, el, ba, fl, pm, rs, ds⟩ = false by unfold partsB; simp [f7, f8, f9, f10, f11])
  (go_enter Try.func61, Try.ntmps61)
  go_wp2_with ((refine at_box 48 rfl ?_; refine wl_box rfl 48 _ rfl _ rfl HC.out ?_; intro b w' hn hc; (replace HC := hide hc; clear hc)); (obtain ⟨c0, c1, c2, c3, c4, c5, c6, c7, c8, c9⟩ := ten_f HC.out))
  (go_ret; exact ⟨by rw [HE.out]; rfl, HC.out.grown⟩)
end Go.Proofs.Ythmldhppmpbadaa.Ty
