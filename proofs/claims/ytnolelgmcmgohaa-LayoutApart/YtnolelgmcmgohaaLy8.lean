/-
  Layout: package layout's Vars.
-/
import Derived.Test.YtnolelgmcmgohaaLy7
namespace Go.Proofs.Ytnolelgmcmgohaa.Ty
open Go.RowKit hiding Hid
open Go.Proofs.Ytnolelgmcmgohaa.Tx Go.Proofs.Ytnolelgmcmgohaa.Lx Go.Proofs.Ytnolelgmcmgohaa.Tr
set_option linter.unusedVariables false
set_option linter.unusedSimpArgs false
set_option maxRecDepth 100000

def VrP (T : List Tt) (s : Int → Int) (l : List Int) : Prop := (∀ a ∈ l, inT T.length a = true) ∧ layE s 0 l ≤ 32768
def VrO (w : World) (T : List Tt) (s : Int → Int) (l : List Int) (e : Ending) (w' : World) : Prop := w.grownBy w' none ∧ (VrP T s l → ∃ o c, e = .returned (.tuple #[.slice o l.length c, .int .i64 (up4 (layE s 0 l))]) ∧ Cls w' o ((atsL s 0 l).map (Value.int .i64))) ∧ (¬ VrP T s l → e = .returned (.tuple #[.slice none 0 0, .int .i64 0]))
theorem vr_out {T : List Tt} {s : Int → Int} {l : List Int} {a : Int} (h : a ∈ l) (hi : inT T.length a = false) : ¬ VrP T s l := fun v => by have := v.1 a h; rw [hi] at this; cases this
theorem vr_far {T : List Tt} {s : Int → Int} {l : List Int} {i : Nat} (hs : ∀ a, 0 ≤ s a) (h : 32768 < layE s 0 (l.take i)) : ¬ VrP T s l := fun v => by
  have := layE_take_le hs l i 0
  have := v.2
  omega
set_option maxHeartbeats 16000000 in
theorem pvars_good {w : World} {o lo : Option Addr} {T : List Tt} {l : List Int} (cp lc : Nat) (H : Tab w o T) (hcp : T.length ≤ cp) (G : GoodP T) {s : Int → Int} (hs : Szs T s) (hl : Cls w lo (l.map (Value.int .i64))) (hn : l.length ≤ 1000) : Calls Try.prog 30 #[.slice o T.length cp, .slice lo l.length lc] w (VrO w T s l) := by
  have hlT := H.1
  obtain ⟨r, hB⟩ := G.rb hs
  have HZ := hide (fun (b k : Nat) => size_all (w0 := w) (o := o) (cp := cp) (b := b) hB k)
  have HSs := hide hs
  have HT := hide H
  have HG := hide G
  have HCp := hide hcp
  have HLi := hide hl
  have kl : (l.length : Int) ≤ 1000 := by omega
  have kT : (T.length : Int) ≤ 1000000 := by omega
  have HC := hide (Cx.start w (fun _ => False))
  clear H G hcp hB hs hl
  go_enter Try.func30, Try.ntmps30
  go_wp2_with (first | (go_at_call 15; refine (good_at cp (HT.out.kept HC.out.grown) HCp.out).mono ?_; rintro e w2 ⟨d, rfl, hg, hd⟩; replace HC := hide (HC.out.g hg); obtain rfl : d = true := hd.2 HG.out; clear hg hd) | (refine at_build 60 rfl ?_; refine wl_buildR rfl _ rfl rfl ?_; intro R hR; have HRr := hide hR; clear hR) | (refine at_alloc 60 rfl ?_; refine wl_alloc rfl 60 rfl _ zR HC.out ?_; intro b w' hn hc; (replace HC := hide hc; clear hc)) | (refine at_store 60 rfl ?_; refine wl_store (us := (rkC o T.length cp (List.replicate 256 false) (List.replicate 256 0))) rfl 60 _ _ rfl rfl HRr.out tyR.sz rfl HC.out (by repeat (first | exact List.Mem.head _ | apply List.Mem.tail)) (by exact PutS.all _ _ rfl) (by repeat (first | exact Upd.here _ _ _ | apply Upd.there)) ?_; intro w' hc; (replace HC := hide hc; clear hc)))
  replace HC := hide (HC.out.row_nil 3 1)
  go_loopw [7, 8, 20] (fun pv ev iv W => ∃ (i : Nat) (E : Int) (oc : Option Addr) (cc : Nat) (ks1 : List Bool) (zs1 : List Int), i ≤ l.length ∧ iv = .int .i64 i ∧ ev = .int .i64 E ∧ pv = .slice oc i cc ∧ Hid (E = layE s 0 (l.take i)) ∧ E ≤ 32768 ∧ Hid (∀ a ∈ l.take i, inT T.length a = true) ∧ Hid (Rk w o cp T s b ks1 zs1 W) ∧ Hid (Cx w (fun _ => False) none [⟨b, rkC o T.length cp ks1 zs1, 60⟩] [⟨.slice oc i cc, 3, 1, i, (atsL s 0 (l.take i)).map (Value.int .i64)⟩] [] W)) (fun _ _ iv _ => l.length - (intOf iv).toNat)
  case atStart => exact ⟨0, 0, none, 0, _, _, by omega, rfl, rfl, rfl, hide rfl, by omega, hide (by simp), hide (Rk.begin s HT.out HC.out.grown ((HC.out.old _ (.head _)).resolve_right (by simp)) (HC.out.loc ⟨b, (rkC o T.length cp (List.replicate 256 false) (List.replicate 256 0)), 60⟩ (by repeat (first | exact List.Mem.head _ | apply List.Mem.tail)))), HC⟩
  case round =>
    clear HC
    obtain ⟨i, E, oc, cc, ks1, zs1, hi, rfl, rfl, rfl, HE, hE1, HIa, HS, HC⟩ := hrel
    by_cases hlt : i < l.length
    · have j1 : (i : Int) < l.length := by omega
      obtain ⟨a, ha⟩ : ∃ a, l[i]? = some a := ⟨l[i], List.getElem?_eq_getElem hlt⟩
      obtain ⟨ad, rfl, hc⟩ := HLi.out i (.int .i64 a) (by rw [List.getElem?_map, ha]; rfl)
      have hc' := HC.out.grown.cell hc (by simp)
      have bl := block_lt_of_cell hc'
      have HX := hide ha
      clear ha hc
      cases hin : inT T.length a with
      | false =>
        have HIn := hide hin
        clear hin
        go_wp2_with (first | (go_at_call 48; refine (lwithin_at _ _ _ _ _ (by omega)).mono ?_; rw [HIn.out]; rintro e w' ⟨rfl, hw⟩; replace hw := hw.symm; subst hw))
        refine bodyPost_ret (v := .tuple #[.slice none 0 0, .int .i64 0]) (by simp [results, Try.results30, go_sem]) rfl ?_
        exact ⟨HC.out.grown, fun v => absurd v (vr_out (List.mem_of_getElem? HX.out) HIn.out), fun _ => rfl⟩
      | true =>
        have HIn := hide hin
        unfold inT at hin
        simp only [Bool.and_eq_true, decide_eq_true_eq] at hin
        obtain ⟨q, rfl⟩ := Int.eq_ofNat_of_zero_le hin.1
        have HJ := hide (show q < T.length by omega)
        have hE0 : 0 ≤ E := by rw [HE.out]; exact layE_le HSs.out.lo _ _
        obtain ⟨V1, hV1⟩ : ∃ v, atF E (q : Int) = v := ⟨_, rfl⟩
        obtain ⟨V2, hV2⟩ : ∃ v, V1 + s (q : Int) = v := ⟨_, rfl⟩
        have HN := hide hV1
        have HN2 := hide hV2
        have HNx := hide (show V2 = layE s 0 (l.take (i + 1)) by rw [layE_take 0 HX.out, ← HE.out, hV1, hV2])
        have HIa2 := hide (show ∀ a ∈ l.take (i + 1), inT T.length a = true from fun a ha => by
          rw [List.take_add_one, HX.out] at ha
          rcases List.mem_append.1 ha with ha | ha
          · exact HIa.out a ha
          · simp at ha; subst ha; exact HIn.out)
        have HRow := hide (show (atsL s 0 (l.take i)).map (Value.int .i64) ++ [.int .i64 V1] = (atsL s 0 (l.take (i + 1))).map (Value.int .i64) by rw [atsL_take 0 HX.out, ← HE.out, hV1, List.map_append]; rfl)
        clear hin hV1 hV2
        by_cases hbig : 32768 < V2
        · go_wp2_with (first | (go_at_call 48; refine (lwithin_at _ _ _ _ _ (by omega)).mono ?_; rw [HIn.out]; rintro e w' ⟨rfl, hw⟩; replace hw := hw.symm; subst hw) | (go_at_call 55; refine (lay_at (HZ.out b (r q + 1)) (HS.out.stay (gr_ref _ _) HS.out.blk) HSs.out.lo HSs.out.hi HJ.out (by omega) E hE0 (by omega)).mono ?_; rw [HN.out, HN2.out]; rintro e w2 ⟨ks', zs', rfl, hg, hs⟩; replace HC := hide (HC.out.callL hg (by repeat (first | exact List.Mem.head _ | apply List.Mem.tail)) hs.blk (by repeat (first | exact Upd.here _ _ _ | apply Upd.there))); have HQ := hide hs; clear hg hs))
          refine bodyPost_ret (v := .tuple #[.slice none 0 0, .int .i64 0]) (by simp [results, Try.results30, go_sem]) rfl ?_
          exact ⟨HC.out.grown, fun v => absurd v (vr_far (i := i + 1) HSs.out.lo (by rw [← HNx.out]; exact hbig)), fun _ => rfl⟩
        · go_wp2_with (first | (go_at_call 48; refine (lwithin_at _ _ _ _ _ (by omega)).mono ?_; rw [HIn.out]; rintro e w' ⟨rfl, hw⟩; replace hw := hw.symm; subst hw) | (go_at_call 55; refine (lay_at (HZ.out b (r q + 1)) (HS.out.stay (gr_ref _ _) HS.out.blk) HSs.out.lo HSs.out.hi HJ.out (by omega) E hE0 (by omega)).mono ?_; rw [HN.out, HN2.out]; rintro e w2 ⟨ks', zs', rfl, hg, hs⟩; replace HC := hide (HC.out.callL hg (by repeat (first | exact List.Mem.head _ | apply List.Mem.tail)) hs.blk (by repeat (first | exact Upd.here _ _ _ | apply Upd.there))); have HQ := hide hs; clear hg hs) | (refine at_bs 42 rfl ?_; refine wl_bl rfl 42 _ _ rfl 3 [.int .i64 V1] HC.out (by kernel_rfl) ?_; intro bb w' hn hc; (replace HC := hide hc; clear hc)) | (refine wl_ap rfl _ _ rfl Try.underlying42 infoI (by decide) (by decide) rfl rfl HC.out rfl rfl (by omega) ?_; intro d9 cp9 w' hc; (replace HC := hide hc; clear hc)))
          rw [HRow.out] at HC
          refine ⟨⟨i + 1, V2, d9, cp9, ks', zs', by omega, by go_num, rfl, rfl, HNx, by omega, HIa2, hide ?_, HC⟩, by simp [intOf]; omega⟩
          exact ⟨HT.out, HC.out.grown, HQ.out.new, HC.out.loc ⟨b, rkC (o := _) T.length cp ks' zs', 60⟩ (by repeat (first | exact List.Mem.head _ | apply List.Mem.tail)), HQ.out.kl, HQ.out.zl, HQ.out.ok⟩
    · have HIe := hide (show i = l.length by omega)
      have q1 : ¬ (i : Int) < l.length := by omega
      have hE0 : 0 ≤ E := by rw [HE.out]; exact layE_le HSs.out.lo _ _
      obtain ⟨U, hU⟩ : ∃ u, up4 E = u := ⟨_, rfl⟩
      have HU := hide hU
      clear hlt hU
      go_wp2_with (go_at_call 56; refine (roundUp_at _ _ hE0 (by omega)).mono ?_; rw [HU.out]; rintro e w' ⟨rfl, hw⟩; replace hw := hw.symm; subst hw)
      refine bodyPost_ret (v := .tuple #[.slice oc i cc, .int .i64 U]) (by simp [results, Try.results30, go_sem]) rfl ?_
      have hE := HE.out
      have hr := HC.out.row _ (.head _)
      have hia := HIa.out
      rw [HIe.out, List.take_of_length_le (Nat.le_refl _)] at hE hr hia
      refine ⟨HC.out.grown, fun _ => ⟨oc, cc, by rw [← HU.out, hE, HIe.out], ?_⟩, fun h => absurd ⟨hia, by rw [← hE]; exact hE1⟩ h⟩
      obtain ⟨o9, c9, e9, h9⟩ := row_cls hr
      cases e9
      exact h9
set_option maxHeartbeats 4000000 in
theorem pvars_bad {w : World} {o lo : Option Addr} {T : List Tt} (n cp lc : Nat) (H : Tab w o T) (hcp : T.length ≤ cp) (G : ¬ GoodP T) : Calls Try.prog 30 #[.slice o T.length cp, .slice lo n lc] w (SzO w (.tuple #[.slice none 0 0, .int .i64 0])) := by
  have HT := hide H
  have HNg := hide G
  have HCp := hide hcp
  have HC := hide (Cx.start w (fun _ => False))
  clear H G hcp
  go_enter Try.func30, Try.ntmps30
  go_wp2_with (first | (go_at_call 15; refine (good_at cp (HT.out.kept HC.out.grown) HCp.out).mono ?_; rintro e w2 ⟨d, rfl, hg, hd⟩; replace HC := hide (HC.out.g hg); obtain rfl : d = false := (by cases d; rfl; exact absurd (hd.1 rfl) HNg.out); clear hg hd))
  refine bodyPost_ret (v := .tuple #[.slice none 0 0, .int .i64 0]) (by simp [results, Try.results30, go_sem]) rfl ?_
  exact ⟨rfl, HC.out.grown⟩
end Go.Proofs.Ytnolelgmcmgohaa.Ty
