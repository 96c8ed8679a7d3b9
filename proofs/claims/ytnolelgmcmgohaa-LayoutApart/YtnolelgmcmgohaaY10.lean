/-
  Layout, the document's own (package spinetref14): Size, Vars.
  Layout, the document's own (package spinetref14): Offset.
  Layout, the document's own (package spinetref14): Offset of a record.
-/
import Derived.Test.YtnolelgmcmgohaaLz5
import Derived.Test.YtnolelgmcmgohaaLy8
namespace Go.Proofs.Ytnolelgmcmgohaa.Ty
open Go.RowKit hiding Hid
open Go.Proofs.Ytnolelgmcmgohaa.Tx Go.Proofs.Ytnolelgmcmgohaa.Lx Go.Proofs.Ytnolelgmcmgohaa.Tr
set_option linter.unusedVariables false
set_option linter.unusedSimpArgs false
set_option maxRecDepth 100000

theorem Zk.to {w w1 : World} {o : Option Addr} {cp : Nat} {T : List Tt} {s : Int → Int} {b g : Nat} {M : List Int} {W : World} (h : Zk w1 o cp T s b g M W) (hW : w.grownBy w1 none) : w.heap.size ≤ g := Nat.le_trans hW.size h.ng
set_option maxHeartbeats 8000000 in
theorem rsize_good {w : World} {ad : Addr} {T : List Tt} (cp : Nat) (H : Tab w (some ad) T) (G : GoodP T) {s : Int → Int} (hs : Szs T s) {a : Nat} (ha : a < T.length) : Calls Try.prog 27 #[.slice (some ad) T.length cp, .int .i64 a] w (SzO w (.int .i64 (s a))) := by
  obtain ⟨r, hB⟩ := G.rb hs
  have HZ := hide (fun (W : World) (b g : Nat) => zsize_all (w0 := W) (ad := ad) (cp := cp) (b := b) (g := g) hB G.pkF (G.loc.z0 hs) (r a + 1))
  have HT := hide H
  have HG := hide G
  have HHi := hide G.loc.hi
  have HJ := hide ha
  have k1 : (a : Int) < T.length := by omega
  have kT : (T.length : Int) ≤ 256 := by have := G.loc.hi; omega
  have HC := hide (Cx.start w (fun _ => False))
  clear H G hB hs ha
  go_enter Try.func27, Try.ntmps27
  go_wp2_with (first | (go_at_call 16; refine (rgood_at cp (HT.out.kept HC.out.grown)).mono ?_; rintro e w2 ⟨d, rfl, hg, hd⟩; replace HC := hide (HC.out.g hg); obtain rfl : d = true := hd.2 HG.out; clear hg hd) | (go_at_call 50; refine (newSizer_at cp s (HT.out.kept HC.out.grown) HHi.out).mono ?_; rintro e w3 ⟨b, g, M, rfl, hg, hz⟩; have HGr := hide (gr_then HC.out.grown hg); have HZk := hide hz; clear hg hz) | (go_at_call 51; refine (HZ.out _ b g M _ a HZk.out HJ.out (by omega)).mono ?_; rintro e w4 ⟨M', rfl, hg, hz⟩; have HQ := hide (grown_then HGr.out hg (fun y e => by cases e; exact .inr (HZk.out.to HC.out.grown))); clear hg hz))
  go_ret
  exact ⟨rfl, HQ.out⟩
set_option maxHeartbeats 8000000 in
theorem rsize_bad {w : World} {o : Option Addr} {T : List Tt} (cp : Nat) (H : Tab w o T) {a : Int} (h : ¬ (GoodP T ∧ inT T.length a = true)) : Calls Try.prog 27 #[.slice o T.length cp, .int .i64 a] w (SzO w (.int .i64 0)) := by
  have hl := H.1
  have HT := hide H
  have HC := hide (Cx.start w (fun _ => False))
  have kT : (T.length : Int) ≤ 1000000 := by omega
  by_cases h0 : 0 ≤ a
  case neg =>
    clear H h
    go_enter Try.func27, Try.ntmps27
    go_wp2
    go_ret
    exact ⟨rfl, HC.out.grown⟩
  by_cases h1 : a < T.length
  case neg =>
    clear H h
    go_enter Try.func27, Try.ntmps27
    go_wp2
    go_ret
    exact ⟨rfl, HC.out.grown⟩
  have HNg := hide (show ¬ GoodP T from fun g => h ⟨g, by unfold inT; simp [h0, h1]⟩)
  clear H h
  go_enter Try.func27, Try.ntmps27
  go_wp2_with (first | (go_at_call 16; refine (rgood_at cp (HT.out.kept HC.out.grown)).mono ?_; rintro e w2 ⟨d, rfl, hg, hd⟩; replace HC := hide (HC.out.g hg); obtain rfl : d = false := (by cases d; rfl; exact absurd (hd.1 rfl) HNg.out); clear hg hd))
  go_ret
  exact ⟨rfl, HC.out.grown⟩
theorem layC_far {s : Int → Int} (hs : ∀ a, 0 ≤ s a) {l : List Int} (h : layE s 0 l ≤ 32768) : layC s 0 l = layE s 0 l ∧ atsC s 0 l = atsL s 0 l := ⟨layC_eq hs (by omega), atsC_eq hs (by omega)⟩
theorem layC_over {s : Int → Int} (hs : ∀ a, 0 ≤ s a) {l : List Int} (h : ¬ layE s 0 l ≤ 32768) : 32768 < up4 (layC s 0 l) := by
  have := layC_is hs l 0
  have := up4_le (layC s 0 l)
  omega
theorem up4_within {n : Int} (h : n ≤ 32768) : up4 n ≤ 32768 := by unfold up4; omega
theorem cls_old {w w3 W : World} {o : Option Addr} {xs : List Value} {g : Nat} (h : Cls w o xs) (h3 : w.grownBy w3 none) (hg : w.heap.size ≤ g) (hW : w3.grownBy W (some g)) : Cls W o xs := h.kept (grown_then h3 hW (fun y e => by cases e; exact .inr hg))
set_option maxHeartbeats 16000000 in
theorem rvars_good {w : World} {ad : Addr} {lo : Option Addr} {T : List Tt} {l : List Int} (cp lc : Nat) (H : Tab w (some ad) T) (G : GoodP T) {s : Int → Int} (hs : Szs T s) (hl : Cls w lo (l.map (Value.int .i64))) (hn : l.length ≤ 1000) : Calls Try.prog 31 #[.slice (some ad) T.length cp, .slice lo l.length lc] w (VrO w T s l) := by
  obtain ⟨r, hB⟩ := G.rb hs
  have HZ := hide (fun (W : World) (b g k : Nat) => zsize_all (w0 := W) (ad := ad) (cp := cp) (b := b) (g := g) hB G.pkF (G.loc.z0 hs) k)
  have HPk := hide G.pkF
  have HSs := hide hs
  have HT := hide H
  have HG := hide G
  have HHi := hide G.loc.hi
  have HLi := hide hl
  have HLn := hide hn
  have kl : (l.length : Int) ≤ 1000 := by omega
  have kT : (T.length : Int) ≤ 256 := by have := G.loc.hi; omega
  have HRk := hide (show ∃ K, ∀ a : Int, 0 ≤ a → a < T.length → r a.toNat < K from by
    obtain ⟨K, hK⟩ : ∃ K, ∀ i, i < T.length → r i < K := by
      generalize T.length = n
      induction n with
      | zero => exact ⟨0, fun i h => by omega⟩
      | succ n ih =>
        obtain ⟨K, hK⟩ := ih
        refine ⟨K + r n + 1, fun i h => ?_⟩
        by_cases e : i = n
        · subst e; omega
        · have := hK i (by omega); omega
    exact ⟨K, fun a h0 h1 => hK _ (by omega)⟩)
  have HC := hide (Cx.start w (fun _ => False))
  clear H G hB hs hl hn
  go_enter Try.func31, Try.ntmps31
  go_wp2_with (first | (go_at_call 16; refine (rgood_at cp (HT.out.kept HC.out.grown)).mono ?_; rintro e w2 ⟨d, rfl, hg, hd⟩; replace HC := hide (HC.out.g hg); obtain rfl : d = true := hd.2 HG.out; clear hg hd))
  go_loop [6] (fun iv => ∃ i : Nat, i ≤ l.length ∧ iv = .int .i64 i ∧ Hid (∀ a ∈ l.take i, inT T.length a = true)) (fun iv => l.length - (intOf iv).toNat)
  case atStart => exact ⟨0, by omega, rfl, hide (by simp)⟩
  case round =>
    obtain ⟨i, hi, rfl, HIa⟩ := hrel
    by_cases hlt : i < l.length
    · have j1 : (i : Int) < l.length := by omega
      obtain ⟨a, ha⟩ : ∃ a, l[i]? = some a := ⟨l[i], List.getElem?_eq_getElem hlt⟩
      obtain ⟨p, rfl, hc⟩ := int_at HLi.out ha
      have hc' := HC.out.grown.cell hc (by simp)
      have bl := block_lt_of_cell hc'
      have HX := hide ha
      clear ha hc
      by_cases h0 : 0 ≤ a
      case neg =>
        have HNo := hide (vr_out (s := s) (List.mem_of_getElem? HX.out) (show inT T.length a = false by unfold inT; simp; omega))
        have h0' : a < 0 := by omega
        go_wp2
        refine bodyPost_ret (v := .tuple #[.slice none 0 0, .int .i64 0]) (by simp [results, Try.results31, go_sem]) rfl ?_
        exact ⟨HC.out.grown, fun v => absurd v HNo.out, fun _ => rfl⟩
      by_cases h1 : a < T.length
      case neg =>
        have HNo := hide (vr_out (s := s) (List.mem_of_getElem? HX.out) (show inT T.length a = false by unfold inT; simp; omega))
        go_wp2
        refine bodyPost_ret (v := .tuple #[.slice none 0 0, .int .i64 0]) (by simp [results, Try.results31, go_sem]) rfl ?_
        exact ⟨HC.out.grown, fun v => absurd v HNo.out, fun _ => rfl⟩
      have HIn := hide (show inT T.length a = true by unfold inT; simp [h0, h1])
      go_wp2
      refine ⟨⟨i + 1, by omega, by go_num, hide (fun c hc => ?_)⟩, by simp [intOf]; omega⟩
      rw [List.take_add_one, HX.out] at hc
      rcases List.mem_append.1 hc with hc | hc
      · exact HIa.out c hc
      · simp at hc; subst hc; exact HIn.out
    · have HIe := hide (show i = l.length by omega)
      have q1 : ¬ (i : Int) < l.length := by omega
      have hia := HIa.out
      rw [HIe.out, List.take_of_length_le (Nat.le_refl _)] at hia
      obtain ⟨K, hK⟩ := HRk.out
      have HIn := hide (show ∀ a ∈ l, 0 ≤ a ∧ a < T.length ∧ r a.toNat < K from fun a ha => by
        have := hia a ha
        unfold inT at this
        simp only [Bool.and_eq_true, decide_eq_true_eq] at this
        exact ⟨this.1, this.2, hK a this.1 this.2⟩)
      have HIa2 := hide hia
      have hbd := layC_bd HSs.out.lo l 0 (by decide) (by decide)
      obtain ⟨Z, hZ⟩ : ∃ Z, layC s 0 l = Z := ⟨_, rfl⟩
      rw [hZ] at hbd
      obtain ⟨z0, z1⟩ := hbd
      have HZv := hide hZ
      obtain ⟨U, hU⟩ : ∃ U, up4 Z = U := ⟨_, rfl⟩
      have HU := hide hU
      have u1 := up4_lt Z
      have u0 := up4_le Z
      rw [hU] at u0 u1
      clear hlt hia hK hZ hU
      by_cases hm : 32768 < U
      · go_wp2_with (first | (go_at_call 50; refine (newSizer_at cp s (HT.out.kept HC.out.grown) HHi.out).mono ?_; rintro e w3 ⟨b, g, M, rfl, hg, hz⟩; have HGr := hide (gr_then HC.out.grown hg); have HZk := hide hz; clear hg hz) | (go_at_call 53; refine (laid_n (HZ.out _ b g K) HPk.out HSs.out.lo HSs.out.hi HHi.out HZk.out lc rfl (fun W hW => cls_old HLi.out HGr.out (HZk.out.to HC.out.grown) hW) HLn.out HIn.out 0 Z (by decide) (by decide) HZv.out).mono ?_; rintro e w4 ⟨M', yo, yc, rfl, hg, hz, hcl⟩; have HQ := hide (grown_then HGr.out hg (fun y e => by cases e; exact .inr (HZk.out.to HC.out.grown))); have HY := hide hcl; clear hg hz hcl) | (go_at_call 57; refine (up_at _ _ z0 (by omega)).mono ?_; rw [HU.out]; rintro e w' ⟨rfl, hw⟩; replace hw := hw.symm; subst hw))
        refine bodyPost_ret (v := .tuple #[.slice none 0 0, .int .i64 0]) (by simp [results, Try.results31, go_sem]) rfl ?_
        have hno : ¬ VrP T s l := fun v => by
          have h1 := (layC_far HSs.out.lo v.2).1
          have h2 := up4_within v.2
          rw [← h1, HZv.out, HU.out] at h2
          omega
        exact ⟨HQ.out, fun v => absurd v hno, fun _ => rfl⟩
      · go_wp2_with (first | (go_at_call 50; refine (newSizer_at cp s (HT.out.kept HC.out.grown) HHi.out).mono ?_; rintro e w3 ⟨b, g, M, rfl, hg, hz⟩; have HGr := hide (gr_then HC.out.grown hg); have HZk := hide hz; clear hg hz) | (go_at_call 53; refine (laid_n (HZ.out _ b g K) HPk.out HSs.out.lo HSs.out.hi HHi.out HZk.out lc rfl (fun W hW => cls_old HLi.out HGr.out (HZk.out.to HC.out.grown) hW) HLn.out HIn.out 0 Z (by decide) (by decide) HZv.out).mono ?_; rintro e w4 ⟨M', yo, yc, rfl, hg, hz, hcl⟩; have HQ := hide (grown_then HGr.out hg (fun y e => by cases e; exact .inr (HZk.out.to HC.out.grown))); have HY := hide hcl; clear hg hz hcl) | (go_at_call 57; refine (up_at _ _ z0 (by omega)).mono ?_; rw [HU.out]; rintro e w' ⟨rfl, hw⟩; replace hw := hw.symm; subst hw))
        refine bodyPost_ret (v := .tuple #[.slice yo l.length yc, .int .i64 U]) (by simp [results, Try.results31, go_sem]) rfl ?_
        have hle : layE s 0 l ≤ 32768 := Decidable.byContradiction fun h => by
          have := layC_over HSs.out.lo h
          rw [HZv.out, HU.out] at this
          omega
        have hfa := layC_far HSs.out.lo hle
        have hy := HY.out
        rw [hfa.2] at hy
        exact ⟨HQ.out, fun _ => ⟨yo, yc, by rw [← HU.out, ← HZv.out, hfa.1], hy⟩, fun h => absurd ⟨HIa2.out, hle⟩ h⟩
set_option maxHeartbeats 4000000 in
theorem rvars_bad {w : World} {o lo : Option Addr} {T : List Tt} (n cp lc : Nat) (H : Tab w o T) (G : ¬ GoodP T) : Calls Try.prog 31 #[.slice o T.length cp, .slice lo n lc] w (SzO w (.tuple #[.slice none 0 0, .int .i64 0])) := by
  have HT := hide H
  have HNg := hide G
  have HC := hide (Cx.start w (fun _ => False))
  clear H G
  go_enter Try.func31, Try.ntmps31
  go_wp2_with (first | (go_at_call 16; refine (rgood_at cp (HT.out.kept HC.out.grown)).mono ?_; rintro e w2 ⟨d, rfl, hg, hd⟩; replace HC := hide (HC.out.g hg); obtain rfl : d = false := (by cases d; rfl; exact absurd (hd.1 rfl) HNg.out); clear hg hd))
  refine bodyPost_ret (v := .tuple #[.slice none 0 0, .int .i64 0]) (by simp [results, Try.results31, go_sem]) rfl ?_
  exact ⟨rfl, HC.out.grown⟩
end Go.Proofs.Ytnolelgmcmgohaa.Ty
namespace Go.Proofs.Ytnolelgmcmgohaa.Ty
open Go.RowKit hiding Hid
open Go.Proofs.Ytnolelgmcmgohaa.Tx Go.Proofs.Ytnolelgmcmgohaa.Lx Go.Proofs.Ytnolelgmcmgohaa.Tr
set_option linter.unusedVariables false
set_option linter.unusedSimpArgs false
set_option maxRecDepth 100000

set_option maxHeartbeats 8000000 in
theorem roff_bad {w : World} {o : Option Addr} {T : List Tt} (cp : Nat) (H : Tab w o T) {a : Int} (nm : Txt) (h : ¬ (GoodP T ∧ inT T.length a = true)) : Calls Try.prog 29 #[.slice o T.length cp, .int .i64 a, .string (bs nm)] w (SzO w (ansV none)) := by
  have hl := H.1
  have HT := hide H
  have HRs := hide (fun W (hW : Tab W o T) => rsize_bad cp hW h)
  have HC := hide (Cx.start w (fun _ => False))
  have kT : (T.length : Int) ≤ 1000000 := by omega
  by_cases h0 : 0 ≤ a
  case neg =>
    clear H h
    go_enter Try.func29, Try.ntmps29
    go_wp2_with (first | (go_at_call 27; refine (HRs.out _ (HT.out.kept HC.out.grown)).mono ?_; rintro e w2 ⟨rfl, hg⟩; replace HC := hide (HC.out.g hg); clear hg))
    (refine bodyPost_ret (v := .tuple #[.int .i64 0, .int .i64 0, .bool false]) (by simp [results, Try.results29, go_sem]) rfl ?_)
    exact ⟨rfl, HC.out.grown⟩
  by_cases h1 : a < T.length
  case neg =>
    clear H h
    go_enter Try.func29, Try.ntmps29
    go_wp2_with (first | (go_at_call 27; refine (HRs.out _ (HT.out.kept HC.out.grown)).mono ?_; rintro e w2 ⟨rfl, hg⟩; replace HC := hide (HC.out.g hg); clear hg))
    (refine bodyPost_ret (v := .tuple #[.int .i64 0, .int .i64 0, .bool false]) (by simp [results, Try.results29, go_sem]) rfl ?_)
    exact ⟨rfl, HC.out.grown⟩
  have HNg := hide (show ¬ GoodP T from fun g => h ⟨g, by unfold inT; simp [h0, h1]⟩)
  clear H h
  go_enter Try.func29, Try.ntmps29
  go_wp2_with (first | (go_at_call 27; refine (HRs.out _ (HT.out.kept HC.out.grown)).mono ?_; rintro e w2 ⟨rfl, hg⟩; replace HC := hide (HC.out.g hg); clear hg) | (go_at_call 16; refine (rgood_at cp (HT.out.kept HC.out.grown)).mono ?_; rintro e w2 ⟨d, rfl, hg, hd⟩; replace HC := hide (HC.out.g hg); obtain rfl : d = false := (by cases d; rfl; exact absurd (hd.1 rfl) HNg.out); clear hg hd))
  (refine bodyPost_ret (v := .tuple #[.int .i64 0, .int .i64 0, .bool false]) (by simp [results, Try.results29, go_sem]) rfl ?_)
  exact ⟨rfl, HC.out.grown⟩
set_option maxHeartbeats 8000000 in
theorem roff_big {w : World} {ad : Addr} {T : List Tt} (cp : Nat) (H : Tab w (some ad) T) (G : GoodP T) {s : Int → Int} (hs : Szs T s) {a : Nat} (ha : a < T.length) (nm : Txt) (hb : 32768 < s a) : Calls Try.prog 29 #[.slice (some ad) T.length cp, .int .i64 a, .string (bs nm)] w (SzO w (ansV none)) := by
  have HT := hide H
  have HRs := hide (fun W (hW : Tab W (some ad) T) => rsize_good cp hW G hs ha)
  have HC := hide (Cx.start w (fun _ => False))
  have v1 := hs.hi (a : Int)
  obtain ⟨V, hV⟩ : ∃ V, s (a : Int) = V := ⟨_, rfl⟩
  rw [hV] at HRs hb v1
  clear H G hs hV
  go_enter Try.func29, Try.ntmps29
  go_wp2_with (first | (go_at_call 27; refine (HRs.out _ (HT.out.kept HC.out.grown)).mono ?_; rintro e w2 ⟨rfl, hg⟩; replace HC := hide (HC.out.g hg); clear hg))
  (refine bodyPost_ret (v := .tuple #[.int .i64 0, .int .i64 0, .bool false]) (by simp [results, Try.results29, go_sem]) rfl ?_)
  exact ⟨rfl, HC.out.grown⟩
set_option maxHeartbeats 8000000 in
theorem roff_none {w : World} {ad : Addr} {T : List Tt} (cp : Nat) (H : Tab w (some ad) T) (G : GoodP T) {s : Int → Int} (hs : Szs T s) {a : Nat} (ha : a < T.length) (nm : Txt) (hb : s a ≤ 32768) (hf : fmA T (a : Int) ≠ 9) : Calls Try.prog 29 #[.slice (some ad) T.length cp, .int .i64 a, .string (bs nm)] w (SzO w (ansV none)) := by
  have HT := hide H
  have HG := hide G
  have HRs := hide (fun W (hW : Tab W (some ad) T) => rsize_good cp hW G hs ha)
  have HJ := hide ha
  have HC := hide (Cx.start w (fun _ => False))
  have v1 := hs.lo (a : Int)
  obtain ⟨V, hV⟩ : ∃ V, s (a : Int) = V := ⟨_, rfl⟩
  rw [hV] at HRs hb v1
  have k1 : (a : Int) < T.length := by omega
  have kT : (T.length : Int) ≤ 256 := by have := G.loc.hi; omega
  obtain ⟨B, hB⟩ : ∃ B, ad.add (a * 10) = B := ⟨_, rfl⟩
  have HFc := hide (fun W (hW : w.grownBy W none) => cell_form H hW ha hB)
  obtain ⟨f, hf2⟩ : ∃ f, fmA T (a : Int) = f := ⟨_, rfl⟩
  rw [hf2] at HFc hf
  have nf : (f != 9) = true := by simpa using hf
  clear H G hs hV hf hf2 ha
  go_enter Try.func29, Try.ntmps29
  go_wp2_with (first | (go_at_call 27; refine (HRs.out _ (HT.out.kept HC.out.grown)).mono ?_; rintro e w2 ⟨rfl, hg⟩; replace HC := hide (HC.out.g hg); clear hg) | ((go_at_call 16; refine (rgood_at cp (HT.out.kept HC.out.grown)).mono ?_; rintro e w2 ⟨d, rfl, hg, hd⟩; replace HC := hide (HC.out.g hg); obtain rfl : d = true := hd.2 HG.out; clear hg hd); have f0 := HFc.out _ HC.out.grown; have bl := block_lt_of_cell f0))
  (refine bodyPost_ret (v := .tuple #[.int .i64 0, .int .i64 0, .bool false]) (by simp [results, Try.results29, go_sem]) rfl ?_)
  exact ⟨rfl, HC.out.grown⟩
theorem rec_le {T : List Tt} {s : Int → Int} (hs : Szs T s) {j : Nat} {x : Tt} (hx : T[j]? = some x) (hf : x.fm = 9) (h : s (j : Int) ≤ 32768) : layE s (s x.ba) (flT x) ≤ 32768 ∧ s x.ba ≤ 32768 := by
  have h1 := hs.eq j x hx
  have h2 : szX s x = up4 (layE s (s x.ba) (flT x)) := by
    unfold szX
    rw [if_neg (by omega), if_neg (by omega), if_neg (by omega), if_pos hf]
  rw [h2] at h1
  have h3 := up4_le (layE s (s x.ba) (flT x))
  have h4 := layE_le hs.lo (flT x) (s x.ba)
  unfold capS at h1
  omega
end Go.Proofs.Ytnolelgmcmgohaa.Ty
namespace Go.Proofs.Ytnolelgmcmgohaa.Ty
open Go.RowKit hiding Hid
open Go.Proofs.Ytnolelgmcmgohaa.Tx Go.Proofs.Ytnolelgmcmgohaa.Lx Go.Proofs.Ytnolelgmcmgohaa.Tr
set_option linter.unusedVariables false
set_option linter.unusedSimpArgs false
set_option maxRecDepth 100000

theorem fd_end {T : List Tt} {s : Int → Int} {nm : Txt} {p : Option (Int × Int)} {q : Nat} (h : FdI T s nm p q) {y : Tt} (hy : T[q]? = some y) (hf : y.fm ≠ 9) : p = none := (h y hy).2 hf
set_option maxHeartbeats 16000000 in
theorem roff_good {w : World} {ad : Addr} {T : List Tt} (cp : Nat) (H : Tab w (some ad) T) (G : GoodP T) {s : Int → Int} (hs : Szs T s) {a : Nat} (ha : a < T.length) (nm : Txt) (hnm : nm.length ≤ lim) (hb : s a ≤ 32768) (hf : fmA T (a : Int) = 9) {p : Option (Int × Int)} (hI : FdI T s nm p a) : Calls Try.prog 29 #[.slice (some ad) T.length cp, .int .i64 a, .string (bs nm)] w (SzO w (ansV p)) := by
  obtain ⟨r, hB⟩ := G.rb hs
  have HBd := hide hB
  have HZ := hide (fun (W : World) (b g k : Nat) => zsize_all (w0 := W) (ad := ad) (cp := cp) (b := b) (g := g) hB G.pkF (G.loc.z0 hs) k)
  have HRs := hide (fun W (hW : Tab W (some ad) T) => rsize_good cp hW G hs ha)
  have HPk := hide G.pkF
  have HSs := hide hs
  have HT := hide H
  have HG := hide G
  have HHi := hide G.loc.hi
  have HC := hide (Cx.start w (fun _ => False))
  have v1 := hs.lo (a : Int)
  have HSa := hide hb
  obtain ⟨V, hV⟩ : ∃ V, s (a : Int) = V := ⟨_, rfl⟩
  rw [hV] at HRs hb v1
  have k1 : (a : Int) < T.length := by omega
  have kT : (T.length : Int) ≤ 256 := by have := G.loc.hi; omega
  obtain ⟨B0, hB0⟩ : ∃ B, ad.add (a * 10) = B := ⟨_, rfl⟩
  have HFc := hide (fun W (hW : w.grownBy W none) => cell_form H hW ha hB0)
  rw [hf] at HFc
  have HFa := hide hf
  have HI := hide hI
  have HJa := hide ha
  clear H G hB hs hf ha hI hV
  go_enter Try.func29, Try.ntmps29
  go_wp2_with (first | (go_at_call 27; refine (HRs.out _ (HT.out.kept HC.out.grown)).mono ?_; rintro e w2 ⟨rfl, hg⟩; replace HC := hide (HC.out.g hg); clear hg) | ((go_at_call 16; refine (rgood_at cp (HT.out.kept HC.out.grown)).mono ?_; rintro e w2 ⟨d, rfl, hg, hd⟩; replace HC := hide (HC.out.g hg); obtain rfl : d = true := hd.2 HG.out; clear hg hd); have f0 := HFc.out _ HC.out.grown; have bl := block_lt_of_cell f0) | (go_at_call 50; refine (newSizer_at cp s (HT.out.kept HC.out.grown) HHi.out).mono ?_; rintro e w3 ⟨b, g, M, rfl, hg, hz⟩; have HGr := hide (gr_then HC.out.grown hg); have HZk := hide hz; have HS := hide hz; have HGg := hide (hz.to HC.out.grown); replace HC := hide (hz.cx (fun _ => False)); clear hg hz))
  clear f0 bl hb v1
  go_loopw [1] (fun av W => ∃ (j : Nat) (M1 : List Int), j < T.length ∧ av = .int .i64 j ∧ Hid (fmA T (j : Int) = 9) ∧ Hid (FdI T s nm p j) ∧ Hid (s (j : Int) ≤ 32768) ∧ Hid (Zk _ (some ad) cp T s b g M1 W) ∧ Hid (Cx w3 (fun _ => False) (some g) [⟨g, stC M1, 3⟩] [] [] W)) (fun av _ => r (intOf av).toNat)
  case atStart => exact ⟨a, M, HJa.out, rfl, HFa, HI, HSa, HS, HC⟩
  case round =>
    clear HC HS HI HSa HFa k1 HFc hB0
    obtain ⟨j, M1, hj, rfl, HFj, HI, HSj, HS, HC⟩ := hrel
    have k1 : (j : Int) < T.length := by omega
    obtain ⟨x, hx⟩ : ∃ x, T[j]? = some x := ⟨T[j], List.getElem?_eq_getElem hj⟩
    have hf : x.fm = 9 := by rw [← fmA_at hx]; exact HFj.out
    obtain ⟨hle, hle2⟩ := rec_le HSs.out hx hf HSj.out
    obtain ⟨ad', ⟨⟨fm, md, nm2, ln, el, ba, fl, pm, rs, ds⟩, fo, fc, po, pc⟩, e1, rfl, hcl, hla⟩ := HZk.out.tab.at hx
    cases e1
    dsimp only at hf
    subst hf
    obtain ⟨B, hB2⟩ : ∃ B, ad.add (j * 10) = B := ⟨_, rfl⟩
    rw [hB2] at hcl
    have hp := flsI (ba := ba) (ds := ds) (ln := ln) (el := el) (rs := rs) (md := md) (nm := nm2) (fl := fl) (pm := pm) rfl
    have hba := HBd.out.inp j _ hx ba (by rw [hp]; simp)
    have hbr := HBd.out.rk j _ hx ba (by rw [hp]; simp)
    obtain ⟨q, rfl⟩ := Int.eq_ofNat_of_zero_le hba.1
    rw [Int.toNat_natCast] at hbr
    have HJ := hide (show q < T.length by omega)
    have HRq := hide hbr
    have HIn := hide (show ∀ t : Int, t ∈ fl.map (·.t) → 0 ≤ t ∧ t < T.length ∧ r t.toNat < r j from fun t ht => by
      have h1 := HBd.out.inp j _ hx t (by rw [hp]; exact List.mem_append.2 (.inl ht))
      have h2 := HBd.out.rk j _ hx t (by rw [hp]; exact List.mem_append.2 (.inl ht))
      exact ⟨h1.1, h1.2, h2⟩)
    have H64 := hide (HBd.out.fl j _ hx)
    have HLa := hide hla
    have HX := hide hx
    have e00 := HSs.out.lo (q : Int)
    have e01 := HSs.out.hi (q : Int)
    obtain ⟨E0, hE0⟩ : ∃ V, s (q : Int) = V := ⟨_, rfl⟩
    have HE0 := hide hE0
    have HLq := hide hle2
    unfold flT at hle
    dsimp only at hle hle2
    rw [hE0] at e00 e01 hle
    have HLe := hide hle
    obtain ⟨Z, hZ⟩ : ∃ Z, layC s E0 (fl.map (·.t)) = Z := ⟨_, rfl⟩
    have HZv := hide hZ
    unfold laC at hcl
    dsimp only at hcl
    have HEL := hide (fun W (hW : World.grownBy _ W none) j' u (hu : ([.int .i64 9, .string (bs md), .string (bs nm2), .int .i64 ln, .int .i64 el, .int .i64 (q : Int), .slice fo fl.length fc, .slice po pm.length pc, .int .i64 rs, .int .i64 ds] : List Value)[j']? = some u) => hW.cell (hcl j' u hu) (by simp))
    have k64 : (fl.length : Int) ≤ 64 := by have := H64.out; dsimp only at this; omega
    have HJj := hide hj
    clear hcl hla hx hp hba hbr hle hle2 hE0 hZ hj
    by_cases q0 : q = 0
    · subst q0
      have hE : E0 = 0 := by rw [← HE0.out]; exact HG.out.loc.z0 HSs.out
      subst hE
      (go_wp2_with (first | (refine at_load 32 rfl ?_; refine wl_run rfl 32 _ rfl rfl (run_load_s tyT B _ rfl (HEL.out _ (grown_then HZk.out.gr HC.out.grown (fun y e => by cases e; exact .inr HZk.out.ng)))) ?_) | (refine at_alloc 32 rfl ?_; refine wl_alloc rfl 32 rfl _ zTy HC.out ?_; intro bx w' hn hc; (replace HC := hide hc; clear hc)) | (refine at_store 32 rfl ?_; refine wl_store rfl 32 _ _ rfl rfl rfl tyT.sz rfl HC.out (by repeat (first | exact List.Mem.head _ | apply List.Mem.tail)) (by exact PutS.all _ _ rfl) (by repeat (first | exact Upd.here _ _ _ | apply Upd.there)) ?_; intro w' hc; (replace HC := hide hc; clear hc)) | (refine at_load 3 rfl ?_; refine wl_load_c rfl 3 _ rfl tcI rfl HC.out (by repeat (first | exact List.Mem.head _ | apply List.Mem.tail)) (by repeat (first | exact GetS.cons _ (GetS.nil _) | apply GetS.skip)) ?_) | (refine at_load 32 rfl ?_; refine wl_load_s rfl 32 _ rfl tyT rfl HC.out (by repeat (first | exact List.Mem.head _ | apply List.Mem.tail)) (GetS.all _) rfl ?_) | (go_at_call 54; refine (fields_of (la := ⟨⟨9, md, nm2, ln, el, _, fl, pm, rs, ds⟩, fo, fc, po, pc⟩) (HLa.out.kept (grown_then HZk.out.gr HC.out.grown (fun y e => by cases e; exact .inr HZk.out.ng))) H64.out).mono ?_; rintro e w6 ⟨xo, xc, rfl, hg, hcl, hbl⟩; have HXl := hide (fun W (hW : World.grownBy _ W (some g)) => cls_far hcl hbl (HC.out.lt (p := ⟨g, stC M1, 3⟩) (by repeat (first | exact List.Mem.head _ | apply List.Mem.tail))) hW); replace HC := hide (HC.out.g hg); clear hg hcl hbl) | (go_at_call 53; refine (laid_n (HZ.out _ b g _) HPk.out HSs.out.lo HSs.out.hi HHi.out (HZk.out.next (M' := M1) HC.out.grown (HC.out.loc ⟨g, stC M1, 3⟩ (by repeat (first | exact List.Mem.head _ | apply List.Mem.tail))) HS.out.len HS.out.ok) xc (l := fl.map (·.t)) (List.length_map _).symm HXl.out (by rw [List.length_map]; have := H64.out; omega) HIn.out _ Z e00 (by omega) HZv.out).mono ?_; rintro e w7 ⟨M', yo, yc, rfl, hg, hs, hcl⟩; replace HC := hide (HC.out.callX hg (by repeat (first | exact List.Mem.head _ | apply List.Mem.tail)) hs.blk (by repeat (first | exact Upd.here _ _ _ | apply Upd.there))); replace HS := hide hs; have HY := hide hcl; clear hg hs hcl)))
      obtain ⟨c0, c1, c2, c3, c4, c5, c6, c7, c8, c9⟩ := ten_f HC.out
      go_loop [15] (fun iv => ∃ i : Nat, i ≤ fl.length ∧ iv = .int .i64 i ∧ Hid (∀ f ∈ fl.take i, f.n ≠ nm)) (fun iv => fl.length - (intOf iv).toNat)
      case atStart => exact ⟨0, by omega, rfl, hide (by simp)⟩
      case round =>
        obtain ⟨i, hi, rfl, HNo⟩ := hrel
        by_cases hlt : i < fl.length
        · have j1 : (i : Int) < fl.length := by omega
          obtain ⟨⟨n, xx, t⟩, hxi⟩ : ∃ p, fl[i]? = some p := ⟨fl[i], List.getElem?_eq_getElem hlt⟩
          have ht := fl_t hxi
          obtain ⟨pd, rfl, hel⟩ := HLa.out.fl.el flC_len (by decide) hxi
          obtain ⟨B3, hB3⟩ : ∃ B, pd.add (i * 3) = B := ⟨_, rfl⟩
          rw [hB3] at hel
          obtain ⟨g0, g1, g2⟩ := three_c (fun j' u hu => (grown_then HZk.out.gr HC.out.grown (fun y e => by cases e; exact .inr HZk.out.ng)).cell (hel j' u hu) (by simp))
          dsimp only at g0 g1 g2
          have bl3 := block_lt_of_cell g0
          obtain ⟨V1, hV1⟩ : ∃ v, atF (layE s 0 ((fl.map (·.t)).take i)) t = v := ⟨_, rfl⟩
          have hy := HY.out
          rw [atsC_eq HSs.out.lo (show layE s 0 (fl.map (·.t)) ≤ 32771 by have := HLe.out; omega)] at hy
          obtain ⟨py, rfl, yc1⟩ := int_at hy (atsL_at 0 ht)
          rw [hV1] at yc1
          obtain ⟨A, hA⟩ : ∃ A, py.add i = A := ⟨_, rfl⟩
          rw [hA] at yc1
          have bly := block_lt_of_cell yc1
          have HXi := hide hxi
          have HV1 := hide hV1
          clear hel hxi ht hV1 hy
          by_cases hn : n = nm
          · subst hn
            have HP := hide (show p = some (V1, t) by
              obtain ⟨m, hl, hp⟩ := (HI.out _ HX.out).1 rfl
              have h1 := fndL_hit (s := s) (e := s ((0 : Nat) : Int)) HXi.out rfl HNo.out
              dsimp only at h1
              rw [HE0.out, List.map_take, HV1.out] at h1
              rw [← hp]
              exact fndB_hit HX.out (by dsimp only; rw [HE0.out]; exact h1))
            go_wp2
            go_quiet (fail)
            go_wp2
            refine bodyPost_ret (v := .tuple #[.int .i64 V1, .int .i64 t, .bool true]) (by simp [results, Try.results29, go_sem]) rfl ?_
            exact ⟨by rw [HP.out]; rfl, gr_then (grown_then HGr.out HC.out.grown (fun y e => by cases e; exact .inr HGg.out)) (drewN_g _ nq)⟩
          · have b1 : ((bs n).toList == (bs nm).toList) = false := by rw [bs_toList, bs_toList]; simpa using hn
            have HNo2 := hide (none_more HXi.out HNo.out hn)
            clear hn
            go_wp2
            exact ⟨⟨i + 1, by omega, by go_num, HNo2⟩, by simp [intOf]; omega⟩
        · have HIe := hide (show i = fl.length by omega)
          have qi : ¬ (i : Int) < fl.length := by omega
          clear hlt
          have HNn2 := hide (show fndL s nm (s ((0 : Nat) : Int)) fl = none from fndL_none (fun f hf => HNo.out f (by rw [HIe.out, List.take_of_length_le (Nat.le_refl _)]; exact hf)))
          have HI2 := hide (fdI_next HG.out.recB HG.out.z9 HX.out rfl HI.out HNn2.out)
          dsimp only at HI2
          have HP := hide (show p = none by
            obtain ⟨y, hy⟩ : ∃ y, T[0]? = some y := ⟨T[0]'(by have := HG.out.loc.lo; omega), List.getElem?_eq_getElem _⟩
            exact fd_end HI2.out hy (HG.out.z9 y hy))
          go_wp2
          (refine bodyPost_ret (v := .tuple #[.int .i64 0, .int .i64 0, .bool false]) (by simp [results, Try.results29, go_sem]) rfl ?_)
          exact ⟨by rw [HP.out]; rfl, grown_then HGr.out HC.out.grown (fun y e => by cases e; exact .inr HGg.out)⟩
    · have nq0 : ((q : Int) != 0) = true := by simpa using q0
      have nq1 : ((q : Int) == 0) = false := by simpa using q0
      have HQ0 := hide q0
      clear q0
      (go_wp2_with (first | (refine at_load 32 rfl ?_; refine wl_run rfl 32 _ rfl rfl (run_load_s tyT B _ rfl (HEL.out _ (grown_then HZk.out.gr HC.out.grown (fun y e => by cases e; exact .inr HZk.out.ng)))) ?_) | (refine at_alloc 32 rfl ?_; refine wl_alloc rfl 32 rfl _ zTy HC.out ?_; intro bx w' hn hc; (replace HC := hide hc; clear hc)) | (refine at_store 32 rfl ?_; refine wl_store rfl 32 _ _ rfl rfl rfl tyT.sz rfl HC.out (by repeat (first | exact List.Mem.head _ | apply List.Mem.tail)) (by exact PutS.all _ _ rfl) (by repeat (first | exact Upd.here _ _ _ | apply Upd.there)) ?_; intro w' hc; (replace HC := hide hc; clear hc)) | (refine at_load 3 rfl ?_; refine wl_load_c rfl 3 _ rfl tcI rfl HC.out (by repeat (first | exact List.Mem.head _ | apply List.Mem.tail)) (by repeat (first | exact GetS.cons _ (GetS.nil _) | apply GetS.skip)) ?_) | (refine at_load 32 rfl ?_; refine wl_load_s rfl 32 _ rfl tyT rfl HC.out (by repeat (first | exact List.Mem.head _ | apply List.Mem.tail)) (GetS.all _) rfl ?_) | (go_at_call 51; refine (HZ.out _ b g _ M1 _ q (HZk.out.next (M' := M1) HC.out.grown (HC.out.loc ⟨g, stC M1, 3⟩ (by repeat (first | exact List.Mem.head _ | apply List.Mem.tail))) HS.out.len HS.out.ok) HJ.out (Nat.lt_succ_self _)).mono ?_; rw [HE0.out]; rintro e w5 ⟨M2, rfl, hg, hs⟩; replace HC := hide (HC.out.callX hg (by repeat (first | exact List.Mem.head _ | apply List.Mem.tail)) hs.blk (by repeat (first | exact Upd.here _ _ _ | apply Upd.there))); replace HS := hide hs; clear hg hs) | (go_at_call 54; refine (fields_of (la := ⟨⟨9, md, nm2, ln, el, _, fl, pm, rs, ds⟩, fo, fc, po, pc⟩) (HLa.out.kept (grown_then HZk.out.gr HC.out.grown (fun y e => by cases e; exact .inr HZk.out.ng))) H64.out).mono ?_; rintro e w6 ⟨xo, xc, rfl, hg, hcl, hbl⟩; have HXl := hide (fun W (hW : World.grownBy _ W (some g)) => cls_far hcl hbl (HC.out.lt (p := ⟨g, stC M2, 3⟩) (by repeat (first | exact List.Mem.head _ | apply List.Mem.tail))) hW); replace HC := hide (HC.out.g hg); clear hg hcl hbl) | (go_at_call 53; refine (laid_n (HZ.out _ b g _) HPk.out HSs.out.lo HSs.out.hi HHi.out (HZk.out.next (M' := M2) HC.out.grown (HC.out.loc ⟨g, stC M2, 3⟩ (by repeat (first | exact List.Mem.head _ | apply List.Mem.tail))) HS.out.len HS.out.ok) xc (l := fl.map (·.t)) (List.length_map _).symm HXl.out (by rw [List.length_map]; have := H64.out; omega) HIn.out _ Z e00 (by omega) HZv.out).mono ?_; rintro e w7 ⟨M', yo, yc, rfl, hg, hs, hcl⟩; replace HC := hide (HC.out.callX hg (by repeat (first | exact List.Mem.head _ | apply List.Mem.tail)) hs.blk (by repeat (first | exact Upd.here _ _ _ | apply Upd.there))); replace HS := hide hs; have HY := hide hcl; clear hg hs hcl)))
      obtain ⟨c0, c1, c2, c3, c4, c5, c6, c7, c8, c9⟩ := ten_f HC.out
      go_loop [15] (fun iv => ∃ i : Nat, i ≤ fl.length ∧ iv = .int .i64 i ∧ Hid (∀ f ∈ fl.take i, f.n ≠ nm)) (fun iv => fl.length - (intOf iv).toNat)
      case atStart => exact ⟨0, by omega, rfl, hide (by simp)⟩
      case round =>
        obtain ⟨i, hi, rfl, HNo⟩ := hrel
        by_cases hlt : i < fl.length
        · have j1 : (i : Int) < fl.length := by omega
          obtain ⟨⟨n, xx, t⟩, hxi⟩ : ∃ p, fl[i]? = some p := ⟨fl[i], List.getElem?_eq_getElem hlt⟩
          have ht := fl_t hxi
          obtain ⟨pd, rfl, hel⟩ := HLa.out.fl.el flC_len (by decide) hxi
          obtain ⟨B3, hB3⟩ : ∃ B, pd.add (i * 3) = B := ⟨_, rfl⟩
          rw [hB3] at hel
          obtain ⟨g0, g1, g2⟩ := three_c (fun j' u hu => (grown_then HZk.out.gr HC.out.grown (fun y e => by cases e; exact .inr HZk.out.ng)).cell (hel j' u hu) (by simp))
          dsimp only at g0 g1 g2
          have bl3 := block_lt_of_cell g0
          obtain ⟨V1, hV1⟩ : ∃ v, atF (layE s E0 ((fl.map (·.t)).take i)) t = v := ⟨_, rfl⟩
          have hy := HY.out
          rw [atsC_eq HSs.out.lo (show layE s E0 (fl.map (·.t)) ≤ 32771 by have := HLe.out; omega)] at hy
          obtain ⟨py, rfl, yc1⟩ := int_at hy (atsL_at E0 ht)
          rw [hV1] at yc1
          obtain ⟨A, hA⟩ : ∃ A, py.add i = A := ⟨_, rfl⟩
          rw [hA] at yc1
          have bly := block_lt_of_cell yc1
          have HXi := hide hxi
          have HV1 := hide hV1
          clear hel hxi ht hV1 hy
          by_cases hn : n = nm
          · subst hn
            have HP := hide (show p = some (V1, t) by
              obtain ⟨m, hl, hp⟩ := (HI.out _ HX.out).1 rfl
              have h1 := fndL_hit (s := s) (e := s (q : Int)) HXi.out rfl HNo.out
              dsimp only at h1
              rw [HE0.out, List.map_take, HV1.out] at h1
              rw [← hp]
              exact fndB_hit HX.out (by dsimp only; rw [HE0.out]; exact h1))
            go_wp2
            go_quiet (fail)
            go_wp2
            refine bodyPost_ret (v := .tuple #[.int .i64 V1, .int .i64 t, .bool true]) (by simp [results, Try.results29, go_sem]) rfl ?_
            exact ⟨by rw [HP.out]; rfl, gr_then (grown_then HGr.out HC.out.grown (fun y e => by cases e; exact .inr HGg.out)) (drewN_g _ nq)⟩
          · have b1 : ((bs n).toList == (bs nm).toList) = false := by rw [bs_toList, bs_toList]; simpa using hn
            have HNo2 := hide (none_more HXi.out HNo.out hn)
            clear hn
            go_wp2
            exact ⟨⟨i + 1, by omega, by go_num, HNo2⟩, by simp [intOf]; omega⟩
        · have HIe := hide (show i = fl.length by omega)
          have qi : ¬ (i : Int) < fl.length := by omega
          clear hlt
          have HNn2 := hide (show fndL s nm (s (q : Int)) fl = none from fndL_none (fun f hf => HNo.out f (by rw [HIe.out, List.take_of_length_le (Nat.le_refl _)]; exact hf)))
          have HI2 := hide (fdI_next HG.out.recB HG.out.z9 HX.out rfl HI.out HNn2.out)
          dsimp only at HI2
          rw [Int.toNat_natCast] at HI2
          go_wp2
          refine ⟨⟨q, M', HJ.out, rfl, hide (HG.out.recB _ _ HX.out rfl (by simpa using HQ0.out)), HI2, HLq, HS, hide HC.out.drop⟩, by have := HRq.out; simp [intOf]; omega⟩
end Go.Proofs.Ytnolelgmcmgohaa.Ty
