/-
  Types' laws: TypesOpen, for every input.
-/
import Derived.Test.YthmldhppmpbadaaY13
namespace Go.Proofs.Ythmldhppmpbadaa.Ty
open Go.RowKit hiding Hid
open Go.Maps Go.Proofs.Ythmldhppmpbadaa.Tx Go.Proofs.Ythmldhppmpbadaa.Lx Go.Proofs.Ythmldhppmpbadaa.Tr Go.Proofs.Ythmldhppmpbadaa.Mp
set_option linter.unusedVariables false
set_option linter.unusedSimpArgs false
set_option maxRecDepth 100000

theorem opn_E (L e k : Int) : ∀ x ∈ [aX L e, oX e, oX k], x.fl = [] ∧ x.pm = [] ∧ x.md = [] ∧ x.nm = [] := by
  intro x hx
  simp only [List.mem_cons, List.not_mem_nil, or_false] at hx
  rcases hx with rfl | rfl | rfl <;> exact ⟨rfl, rfl, rfl, rfl⟩
theorem form_U {w : World} {o : Option Addr} {l : List La} {T : List Tt} (hT : l.map La.x = T) (H : TabR w o l) {q : Nat} (hq : q < T.length) : ∃ ad, o = some ad ∧ ∀ W, w.grownBy W none → W.cell? (ad.add (q * 10)) = some (.int .i64 (fmA T (q : Int))) := by
  subst hT
  rw [List.length_map] at hq
  obtain ⟨la, hx⟩ : ∃ x, l[q]? = some x := ⟨l[q], List.getElem?_eq_getElem hq⟩
  obtain ⟨ad, e, hel⟩ := H.row.el laC_len (by decide) hx
  refine ⟨ad, e, fun W hW => ?_⟩
  have h0 := hW.cell (hel 0 _ rfl) (by simp)
  rw [Addr.add_zero'] at h0
  rw [fmA_at (show (l.map La.x)[q]? = some la.x by rw [List.getElem?_map, hx]; rfl)]
  exact h0
theorem not_elem {T : List Tt} (G : GoodP T) {i : Nat} (hi : i < T.length) (h : ¬ elemF (fmA T (i : Int)) = true) : fmA T (i : Int) = 0 ∨ fmA T (i : Int) = 5 ∨ fmA T (i : Int) = 6 ∨ fmA T (i : Int) = 8 := by
  have hx := List.getElem?_eq_getElem hi
  rw [fmA_at hx] at h ⊢
  by_cases h7 : i < 7
  · have := (G.loc.form h7 hx).1
    rw [this] at h ⊢
    have hc : i = 0 ∨ i = 1 ∨ i = 2 ∨ i = 3 ∨ i = 4 ∨ i = 5 ∨ i = 6 := by omega
    rcases hc with rfl | rfl | rfl | rfl | rfl | rfl | rfl <;> first | exact .inl rfl | exact .inr (.inl rfl) | exact .inr (.inr (.inl rfl)) | exact absurd (by decide) h
  · have := parts_fm (G.loc.oth i _ (by omega) hx).2
    rcases this with f | f | f | f | f <;> rw [f] at h ⊢ <;> first | exact .inr (.inr (.inr rfl)) | exact absurd (by decide) h
set_option maxHeartbeats 8000000 in
theorem opn_form {w : World} {o : Option Addr} {cp : Nat} {l : List La} {T : List Tt} (hT : l.map La.x = T) (H : TabR w o l) (hl : l.length ≤ rch) (hf : Few l) (G : GoodP T) (h250 : T.length ≤ 250) {q : Nat} (hq : q < T.length) (n : Int) (hm : fmA T (q : Int) = 0 ∨ fmA T (q : Int) = 5 ∨ fmA T (q : Int) = 6 ∨ fmA T (q : Int) = 8) : Calls Try.prog 10 #[.slice o T.length cp, .int .i64 q, .int .i64 n] w (SzO w (.bool true)) := by
  have HTb := hide (show Tab w o T by have h := hf.tab H; rw [hT] at h; exact h)
  have HT := hide H
  have HTe := hide hT
  have HLl := hide hl
  have HG := hide G
  obtain ⟨ad, rfl, hfc⟩ := form_U hT H hq
  obtain ⟨B, hB⟩ : ∃ B, ad.add (q * 10) = B := ⟨_, rfl⟩
  rw [hB] at hfc
  have HFc := hide hfc
  have j0 : ¬ (250 : Int) < T.length := by omega
  have j1 : (q : Int) < T.length := by omega
  have HC := hide (Cx.start w (fun _ => False))
  clear H hT hl hf G h250 hq hfc
  rcases hm with hm | hm | hm | hm
  all_goals (rw [hm] at HFc; clear hm)
  all_goals (go_enter Try.func10, Try.ntmps10)
  all_goals (go_wp2_with (first | (go_at_call 23; refine (large_T13 cp HTe.out (HT.out.kept HC.out.grown) HLl.out).mono ?_; rintro e w1 ⟨d, rfl, hg, hd⟩; replace HC := hide (HC.out.g hg); clear hg; cases d <;> clear hd) | (go_at_call 25; refine (wakes13 _).mono ?_; rintro e w1 ⟨rfl, hg⟩; replace HC := hide (HC.out.g hg); clear hg) | ((go_at_call 24; refine (rgood_at _ (HTb.out.kept HC.out.grown)).mono ?_; rintro e w1 ⟨d, rfl, hg, hd⟩; obtain rfl : d = true := hd.2 HG.out; replace HC := hide (HC.out.g hg); clear hg hd); have f0 := HFc.out _ HC.out.grown; have bl := block_lt_of_cell f0)))
  all_goals go_ret
  all_goals (exact ⟨rfl, HC.out.grown⟩)
set_option maxHeartbeats 16000000 in
theorem opn_go {w : World} {o : Option Addr} {cp : Nat} {l : List La} {T : List Tt} (hT : l.map La.x = T) (H : TabR w o l) (hl : l.length ≤ rch) (hf : Few l) (G : GoodP T) (h250 : T.length ≤ 250) {q : Nat} (hq : q < T.length) (n : Int) (he : elemF (fmA T (q : Int)) = true) : Calls Try.prog 10 #[.slice o T.length cp, .int .i64 q, .int .i64 n] w (SzO w (.bool true)) := by
  have HTb := hide (show Tab w o T by have h := hf.tab H; rw [hT] at h; exact h)
  have HT := hide H
  have HTe := hide hT
  have HLl := hide hl
  have HG := hide G
  have H25 := hide h250
  obtain ⟨ad, rfl, hfc⟩ := form_U hT H hq
  obtain ⟨B, hB⟩ : ∃ B, ad.add (q * 10) = B := ⟨_, rfl⟩
  rw [hB] at hfc
  obtain ⟨f, hf0⟩ : ∃ f, fmA T (q : Int) = f := ⟨_, rfl⟩
  rw [hf0] at hfc
  have HFc := hide hfc
  have fe : elemF f = true := by rw [← hf0]; exact he
  have n0 : (f == 0) = false := by cases h : (f == 0); rfl; rw [beq_iff_eq] at h; subst h; revert fe; decide
  have n5 : (f == 5) = false := by cases h : (f == 5); rfl; rw [beq_iff_eq] at h; subst h; revert fe; decide
  have n6 : (f == 6) = false := by cases h : (f == 6); rfl; rw [beq_iff_eq] at h; subst h; revert fe; decide
  have n8 : (f == 8) = false := by cases h : (f == 8); rfl; rw [beq_iff_eq] at h; subst h; revert fe; decide
  have j0 : ¬ (250 : Int) < T.length := by omega
  have j1 : (q : Int) < T.length := by omega
  obtain ⟨u, hu⟩ : ∃ u, IntKind.u64.wrap n = u := ⟨_, rfl⟩
  have u0 : 0 ≤ u := by rw [← hu, IntKind.wrap_u64]; omega
  have u1 : u < 18446744073709551616 := by rw [← hu, IntKind.wrap_u64]; omega
  obtain ⟨m, hm⟩ : ∃ m, u % 4096 = m := ⟨_, rfl⟩
  have tm : u.tmod 4096 = m := by rw [Int.tmod_eq_emod_of_nonneg u0]; exact hm
  have m0 : 0 ≤ m := by omega
  have m1 : m < 4096 := by omega
  obtain ⟨Lx, hLx⟩ : ∃ x, 1 + m = x := ⟨_, rfl⟩
  have L0 : 1 ≤ Lx := by omega
  have L1 : Lx ≤ 4096 := by omega
  have G2 := good_opnT G h250 (L := Lx) (e := (q : Int)) L0 L1 he
  have l3 := opn_len T Lx (q : Int)
  have h7 := G2.loc.lo
  obtain ⟨c6, hc6⟩ : ∃ s : Bool, (f == 3) = s := ⟨_, rfl⟩
  have hx6 := opn_six G h250 G2 (plc_at hq)
  rw [hf0] at hx6
  (obtain ⟨hsm, hbd⟩ := few_T hT H hf; have HSm := hide hsm; have HBd := hide hbd; have HFw := hide hf; clear hsm hbd)
  have HN0 := hide (fun (W : World) (o : Option Addr) (cp : Nat) (h : Tab W o (opnT T Lx q)) (hc : (opnT T Lx q).length ≤ cp) => good_v cp h hc G2)
  have HV0 := hide (fun (W : World) (o : Option Addr) (cp : Nat) (h : Tab W o (opnT T Lx q)) (hc : (opnT T Lx q).length ≤ cp) => fit_v (i := T.length) (j := T.length + 1) (v := true) (s := true) h hc G2 (by omega) (by omega) ⟨fun _ => opn_var, fun _ => rfl⟩)
  have HV1 := hide (fun (W : World) (o : Option Addr) (cp : Nat) (h : Tab W o (opnT T Lx q)) (hc : (opnT T Lx q).length ≤ cp) => fit_v (i := T.length) (j := T.length + 1) (v := false) (s := true) h hc G2 (by omega) (by omega) ⟨fun _ => opn_val, fun _ => rfl⟩)
  have HA0 := hide (fun (W : World) (o : Option Addr) (cp : Nat) (h : Tab W o (opnT T Lx q)) (hc : (opnT T Lx q).length ≤ cp) => asg_v (i := T.length) (j := T.length + 1) (s := false) h hc G2 (by omega) (by omega) ⟨(fun e => by cases e), fun h => absurd h opn_nas⟩)
  have HA1 := hide (fun (W : World) (o : Option Addr) (cp : Nat) (h : Tab W o (opnT T Lx q)) (hc : (opnT T Lx q).length ≤ cp) => asg_yes (i := T.length + 1) (j := T.length) h hc G2 (by omega) (by omega) opn_asg)
  have HX0 := hide (fun (W : World) (o : Option Addr) (cp : Nat) (h : Tab W o (opnT T Lx q)) (hc : (opnT T Lx q).length ≤ cp) => fit_v (i := 6) (j := T.length + 1) (v := false) (s := c6) h hc G2 (by omega) (by omega) (by rw [← hc6]; exact beq_iff_eq.trans hx6.1.symm))
  have HX1 := hide (fun (W : World) (o : Option Addr) (cp : Nat) (h : Tab W o (opnT T Lx q)) (hc : (opnT T Lx q).length ≤ cp) => fit_v (i := 6) (j := T.length + 1) (v := true) (s := false) h hc G2 (by omega) (by omega) ⟨(fun e => by cases e), fun h => absurd h hx6.2⟩)
  have HL := hide (fun (i : Nat) (hi : i < T.length + 3) (v s : Bool) (hs : s = true ↔ FitA (opnT T Lx q) i v ((T.length : Int) + 1)) (W : World) (o : Option Addr) (cp : Nat) (h : Tab W o (opnT T Lx q)) (hc : (opnT T Lx q).length ≤ cp) => fit_v (i := i) (j := T.length + 1) (v := v) (s := s) h hc G2 (by omega) (by omega) hs)
  have HTk := hide (fun (i : Nat) (hi : i < T.length + 3) => opn_take (T := T) (L := Lx) (e := (q : Int)) hi)
  rw [opn_len] at HN0 HV0 HV1 HA0 HA1 HX0 HX1
  simp only [opn_len] at HL
  rw [show ((T.length + 1 : Nat) : Int) = (T.length : Int) + 1 by omega] at HV0 HV1 HA0 HA1 HX0 HX1
  simp only [show ((T.length + 1 : Nat) : Int) = (T.length : Int) + 1 by omega] at HL
  have HC := hide (Cx.start w (fun _ => False))
  have M1 := True.intro
  have N1 := True.intro
  have N2 := True.intro
  have N3 := True.intro
  have N4 := True.intro
  clear H hl hT hf G h250 hq hfc he fe hm hf0 G2 l3 h7 hx6
  go_enter Try.func10, Try.ntmps10
  go_wp2_with (first | (go_at_call 23; refine (large_T13 cp HTe.out (HT.out.kept HC.out.grown) HLl.out).mono ?_; rintro e w1 ⟨d, rfl, hg, hd⟩; replace HC := hide (HC.out.g hg); clear hg; cases d <;> clear hd) | (go_at_call 25; refine (wakes13 _).mono ?_; rintro e w1 ⟨rfl, hg⟩; replace HC := hide (HC.out.g hg); clear hg) | ((go_at_call 24; refine (rgood_at _ (HTb.out.kept HC.out.grown)).mono ?_; rintro e w1 ⟨d, rfl, hg, hd⟩; obtain rfl : d = true := hd.2 HG.out; replace HC := hide (HC.out.g hg); clear hg hd); have f0 := HFc.out _ HC.out.grown; have bl := block_lt_of_cell f0) | (go_at_call 26; clear M1; refine (copy_V cp HTe.out (HT.out.kept HC.out.grown) HFw.out).mono ?_; rintro e w1 ⟨oi, ci, xs, rfl, hg, hr, hv⟩; refine Cx.row_u HC.out hg hr hv ?_; intro hc; (replace HC := hide hc; clear hc); clear hg hr hv) | (refine at_bs 24 rfl ?_; refine wl_bl rfl 24 _ _ rfl 48 (laC (lB (aX Lx (q : Int))) ++ laC (lB (oX (q : Int))) ++ laC (lB (oX ((T.length : Int) + 1)))) HC.out (by kernel_rfl) ?_; intro bY w' hn hc; (replace HC := hide hc; clear hc)) | (refine at_call2 (b := .append) rfl ?_; refine wl_apc rfl _ _ rfl Try.underlying24 infoT (by decide) (by decide) rfl rfl HC.out (loc_cls HC.out (.head _)) rfl (fun e => by cases e) rfl (by omega) ?_; intro d9 cp9 w9 hc; (replace HC := hide hc; clear hc); have H9 := HC.out; obtain ⟨ht, hcp⟩ := tab_more (E := [aX Lx q, oX q, oX ((T.length : Int) + 1)]) (by have := H25.out; omega) (by show 3 ≤ 300; decide) HSm.out HBd.out (opn_E _ _ _) H9 (by rw [List.length_append]; rfl) rfl; rw [show T ++ [aX Lx q, oX q, oX ((T.length : Int) + 1)] = opnT T Lx q from rfl] at ht; have HTn := hide ht; have HCn := hide hcp; have HG0 := hide HC.out.grown; replace HC := hide (Cx.start w9 (fun _ => False)); clear ht hcp H9) | (go_at_call 26; refine (copy_N (opn_len T Lx q) cp9 (HTn.out.kept HC.out.grown)).mono ?_; rintro e w1 ⟨oi, ci, rfl, hg, ht, hci⟩; replace HC := hide (HC.out.g hg); have HTi := hide ht; have HCi := hide hci; clear hg ht hci) | (first | (refine wl_unguard rfl rfl ?_) | ((refine at_alloc 55 rfl ?_; refine wl_alloc rfl 55 rfl _ zP HC.out ?_; intro pv w' hn hc; (replace HC := hide hc; clear hc)); clear N4) | (refine at_alloc 55 rfl ?_; refine wl_alloc rfl 55 rfl _ zP HC.out ?_; intro qv w' hn hc; (replace HC := hide hc; clear hc)) | (refine at_store 55 rfl ?_; refine wl_store rfl 55 _ _ rfl rfl rfl tyP.sz rfl HC.out (by repeat (first | exact List.Mem.head _ | apply List.Mem.tail)) (by exact PutS.all _ _ rfl) (by repeat (first | exact Upd.here _ _ _ | apply Upd.there)) ?_; intro w' hc; (replace HC := hide hc; clear hc)) | (refine at_load 55 rfl ?_; refine wl_load_s rfl 55 _ rfl tyP rfl HC.out (by repeat (first | exact List.Mem.head _ | apply List.Mem.tail)) (GetS.all _) rfl ?_)) | (go_at_call 30; refine (HN0.out _ _ _ HTi.out HCi.out).mono ?_; (rintro e w2 ⟨rfl, hg⟩; replace HC := hide (HC.out.g hg); clear hg)) | (go_at_call 31; clear N1; (refine (HV0.out _ _ _ (HTn.out.kept HC.out.grown).tab HCn.out).mono ?_; (rintro e w2 ⟨rfl, hg⟩; replace HC := hide (HC.out.g hg); clear hg))) | (go_at_call 31; clear N2; (refine (HV1.out _ _ _ (HTn.out.kept HC.out.grown).tab HCn.out).mono ?_; (rintro e w2 ⟨rfl, hg⟩; replace HC := hide (HC.out.g hg); clear hg))) | (go_at_call 29; clear N3; (refine (HA0.out _ _ _ (HTn.out.kept HC.out.grown).tab HCn.out).mono ?_; (rintro e w2 ⟨rfl, hg⟩; replace HC := hide (HC.out.g hg); clear hg))) | (go_at_call 29; (refine (HA1.out _ _ _ (HTn.out.kept HC.out.grown).tab HCn.out).mono ?_; (rintro e w2 ⟨rfl, hg⟩; replace HC := hide (HC.out.g hg); clear hg))))
  · go_loopw [12] (fun iv W => ∃ i : Nat, i ≤ T.length + 3 ∧ i ≤ 40 ∧ iv = .int .i64 i ∧ Hid (Cx w9 (fun _ => False) none [⟨qv, [.bool false, .int .i64 ((T.length : Int) + 1)], 55⟩, ⟨pv, [.bool true, .int .i64 ((T.length : Int) + 1)], 55⟩] [] [] W) ) (fun iv _ => 40 - (intOf iv).toNat)
    case atStart => exact ⟨0, by omega, by omega, rfl, HC⟩
    case round =>
      obtain ⟨i, hi3, hi40, rfl, HC⟩ := hrel
      by_cases hlt : i < T.length + 3 ∧ i < 40
      · obtain ⟨h1, h2⟩ := hlt
        have k1 : (i : Int) < T.length + 3 := by omega
        have k2 : (i : Int) < 40 := by omega
        obtain ⟨s1, hs1⟩ := bool_of (FitA (opnT T Lx q) (i : Int) true ((T.length : Int) + 1))
        have N1 := True.intro
        cases s1 with
        | false =>
          have HV := hide (HL.out i h1 true false hs1)
          clear hs1
          go_wp2_with (first | (first | (refine wl_unguard rfl rfl ?_) | ((refine at_alloc 55 rfl ?_; refine wl_alloc rfl 55 rfl _ zP HC.out ?_; intro pv w' hn hc; (replace HC := hide hc; clear hc)); clear N4) | (refine at_alloc 55 rfl ?_; refine wl_alloc rfl 55 rfl _ zP HC.out ?_; intro qv w' hn hc; (replace HC := hide hc; clear hc)) | (refine at_store 55 rfl ?_; refine wl_store rfl 55 _ _ rfl rfl rfl tyP.sz rfl HC.out (by repeat (first | exact List.Mem.head _ | apply List.Mem.tail)) (by exact PutS.all _ _ rfl) (by repeat (first | exact Upd.here _ _ _ | apply Upd.there)) ?_; intro w' hc; (replace HC := hide hc; clear hc)) | (refine at_load 55 rfl ?_; refine wl_load_s rfl 55 _ rfl tyP rfl HC.out (by repeat (first | exact List.Mem.head _ | apply List.Mem.tail)) (GetS.all _) rfl ?_)) | (go_at_call 31; (refine (HV.out _ _ _ (HTn.out.kept HC.out.grown).tab HCn.out).mono ?_; (rintro e w2 ⟨rfl, hg⟩; replace HC := hide (HC.out.g hg); clear hg))))
          exact ⟨⟨i + 1, by omega, by omega, by go_num, HC⟩, by simp [intOf]; omega⟩
        | true =>
          have HV := hide (HL.out i h1 true true hs1)
          have HB := hide (HL.out i h1 false true ⟨fun _ => HTk.out i h1 (hs1.1 rfl), fun _ => rfl⟩)
          clear hs1
          go_wp2_with (first | (first | (refine wl_unguard rfl rfl ?_) | ((refine at_alloc 55 rfl ?_; refine wl_alloc rfl 55 rfl _ zP HC.out ?_; intro pv w' hn hc; (replace HC := hide hc; clear hc)); clear N4) | (refine at_alloc 55 rfl ?_; refine wl_alloc rfl 55 rfl _ zP HC.out ?_; intro qv w' hn hc; (replace HC := hide hc; clear hc)) | (refine at_store 55 rfl ?_; refine wl_store rfl 55 _ _ rfl rfl rfl tyP.sz rfl HC.out (by repeat (first | exact List.Mem.head _ | apply List.Mem.tail)) (by exact PutS.all _ _ rfl) (by repeat (first | exact Upd.here _ _ _ | apply Upd.there)) ?_; intro w' hc; (replace HC := hide hc; clear hc)) | (refine at_load 55 rfl ?_; refine wl_load_s rfl 55 _ rfl tyP rfl HC.out (by repeat (first | exact List.Mem.head _ | apply List.Mem.tail)) (GetS.all _) rfl ?_)) | (go_at_call 31; clear N1; (refine (HV.out _ _ _ (HTn.out.kept HC.out.grown).tab HCn.out).mono ?_; (rintro e w2 ⟨rfl, hg⟩; replace HC := hide (HC.out.g hg); clear hg))) | (go_at_call 31; (refine (HB.out _ _ _ (HTn.out.kept HC.out.grown).tab HCn.out).mono ?_; (rintro e w2 ⟨rfl, hg⟩; replace HC := hide (HC.out.g hg); clear hg))))
          exact ⟨⟨i + 1, by omega, by omega, by go_num, HC⟩, by simp [intOf]; omega⟩
      · have N1 := True.intro
        by_cases h1 : i < T.length + 3
        · have k1 : (i : Int) < T.length + 3 := by omega
          have k2 : ¬ (i : Int) < 40 := by omega
          clear hlt
          go_wp2_with (first | (first | (refine wl_unguard rfl rfl ?_) | ((refine at_alloc 55 rfl ?_; refine wl_alloc rfl 55 rfl _ zP HC.out ?_; intro pv w' hn hc; (replace HC := hide hc; clear hc)); clear N4) | (refine at_alloc 55 rfl ?_; refine wl_alloc rfl 55 rfl _ zP HC.out ?_; intro qv w' hn hc; (replace HC := hide hc; clear hc)) | (refine at_store 55 rfl ?_; refine wl_store rfl 55 _ _ rfl rfl rfl tyP.sz rfl HC.out (by repeat (first | exact List.Mem.head _ | apply List.Mem.tail)) (by exact PutS.all _ _ rfl) (by repeat (first | exact Upd.here _ _ _ | apply Upd.there)) ?_; intro w' hc; (replace HC := hide hc; clear hc)) | (refine at_load 55 rfl ?_; refine wl_load_s rfl 55 _ rfl tyP rfl HC.out (by repeat (first | exact List.Mem.head _ | apply List.Mem.tail)) (GetS.all _) rfl ?_)) | (go_at_call 25; refine (wakes13 _).mono ?_; rintro e w1 ⟨rfl, hg⟩; replace HC := hide (HC.out.g hg); clear hg) | (go_at_call 31; clear N1; (refine (HX0.out _ _ _ (HTn.out.kept HC.out.grown).tab HCn.out).mono ?_; (rintro e w2 ⟨rfl, hg⟩; replace HC := hide (HC.out.g hg); clear hg))) | (go_at_call 31; (refine (HX1.out _ _ _ (HTn.out.kept HC.out.grown).tab HCn.out).mono ?_; (rintro e w2 ⟨rfl, hg⟩; replace HC := hide (HC.out.g hg); clear hg))))
          go_ret
          exact ⟨rfl, gr_then HG0.out HC.out.grown⟩
        · have k1 : ¬ (i : Int) < T.length + 3 := by omega
          clear hlt
          go_wp2_with (first | (first | (refine wl_unguard rfl rfl ?_) | ((refine at_alloc 55 rfl ?_; refine wl_alloc rfl 55 rfl _ zP HC.out ?_; intro pv w' hn hc; (replace HC := hide hc; clear hc)); clear N4) | (refine at_alloc 55 rfl ?_; refine wl_alloc rfl 55 rfl _ zP HC.out ?_; intro qv w' hn hc; (replace HC := hide hc; clear hc)) | (refine at_store 55 rfl ?_; refine wl_store rfl 55 _ _ rfl rfl rfl tyP.sz rfl HC.out (by repeat (first | exact List.Mem.head _ | apply List.Mem.tail)) (by exact PutS.all _ _ rfl) (by repeat (first | exact Upd.here _ _ _ | apply Upd.there)) ?_; intro w' hc; (replace HC := hide hc; clear hc)) | (refine at_load 55 rfl ?_; refine wl_load_s rfl 55 _ rfl tyP rfl HC.out (by repeat (first | exact List.Mem.head _ | apply List.Mem.tail)) (GetS.all _) rfl ?_)) | (go_at_call 25; refine (wakes13 _).mono ?_; rintro e w1 ⟨rfl, hg⟩; replace HC := hide (HC.out.g hg); clear hg) | (go_at_call 31; clear N1; (refine (HX0.out _ _ _ (HTn.out.kept HC.out.grown).tab HCn.out).mono ?_; (rintro e w2 ⟨rfl, hg⟩; replace HC := hide (HC.out.g hg); clear hg))) | (go_at_call 31; (refine (HX1.out _ _ _ (HTn.out.kept HC.out.grown).tab HCn.out).mono ?_; (rintro e w2 ⟨rfl, hg⟩; replace HC := hide (HC.out.g hg); clear hg))))
          go_ret
          exact ⟨rfl, gr_then HG0.out HC.out.grown⟩
  (all_goals go_ret; all_goals (first | exact ⟨rfl, HC.out.grown⟩ | exact ⟨rfl, gr_then HG0.out HC.out.grown⟩))
set_option maxHeartbeats 8000000 in
theorem open_walk {w : World} {o : Option Addr} {cp : Nat} {l : List La} (H : TabR w o l) (hl : l.length ≤ rch) (a b : Int) : Calls Try.prog 10 #[.slice o l.length cp, .int .i64 a, .int .i64 b] w (SzO w (.bool true)) := by
  obtain ⟨T, hT⟩ : ∃ T, l.map La.x = T := ⟨_, rfl⟩
  rw [show l.length = T.length by rw [← hT, List.length_map]]
  have HC := hide (Cx.start w (fun _ => False))
  have HT := hide H
  have HTe := hide hT
  have HLl := hide hl
  by_cases hf : Few l
  · have HTb := hide (show Tab w o T by have h := hf.tab H; rw [hT] at h; exact h)
    by_cases G : GoodP T
    · have HG := hide G
      by_cases h250 : T.length ≤ 250
      · have j0 : ¬ (250 : Int) < T.length := by omega
        by_cases a0 : a < 0
        · clear H hT hl hf G h250
          go_enter Try.func10, Try.ntmps10
          go_wp2_with (first | (go_at_call 23; refine (large_T13 cp HTe.out (HT.out.kept HC.out.grown) HLl.out).mono ?_; rintro e w1 ⟨d, rfl, hg, hd⟩; replace HC := hide (HC.out.g hg); clear hg; cases d <;> clear hd) | (go_at_call 25; refine (wakes13 _).mono ?_; rintro e w1 ⟨rfl, hg⟩; replace HC := hide (HC.out.g hg); clear hg) | (go_at_call 24; refine (rgood_at _ (HTb.out.kept HC.out.grown)).mono ?_; rintro e w1 ⟨d, rfl, hg, hd⟩; obtain rfl : d = true := hd.2 HG.out; replace HC := hide (HC.out.g hg); clear hg hd))
          all_goals go_ret
          all_goals (exact ⟨rfl, HC.out.grown⟩)
        by_cases a1 : a < T.length
        · obtain ⟨i, rfl⟩ : ∃ i : Nat, a = i := ⟨a.toNat, by omega⟩
          by_cases he : elemF (fmA T (i : Int)) = true
          · exact opn_go hT H hl hf G h250 (by omega) b he
          · exact opn_form hT H hl hf G h250 (by omega) b (not_elem G (by omega) he)
        · clear H hT hl hf G h250
          go_enter Try.func10, Try.ntmps10
          go_wp2_with (first | (go_at_call 23; refine (large_T13 cp HTe.out (HT.out.kept HC.out.grown) HLl.out).mono ?_; rintro e w1 ⟨d, rfl, hg, hd⟩; replace HC := hide (HC.out.g hg); clear hg; cases d <;> clear hd) | (go_at_call 25; refine (wakes13 _).mono ?_; rintro e w1 ⟨rfl, hg⟩; replace HC := hide (HC.out.g hg); clear hg) | (go_at_call 24; refine (rgood_at _ (HTb.out.kept HC.out.grown)).mono ?_; rintro e w1 ⟨d, rfl, hg, hd⟩; obtain rfl : d = true := hd.2 HG.out; replace HC := hide (HC.out.g hg); clear hg hd))
          all_goals go_ret
          all_goals (exact ⟨rfl, HC.out.grown⟩)
      · have j0 : (250 : Int) < T.length := by omega
        clear H hT hl hf G h250
        go_enter Try.func10, Try.ntmps10
        go_wp2_with (first | (go_at_call 23; refine (large_T13 cp HTe.out (HT.out.kept HC.out.grown) HLl.out).mono ?_; rintro e w1 ⟨d, rfl, hg, hd⟩; replace HC := hide (HC.out.g hg); clear hg; cases d <;> clear hd) | (go_at_call 25; refine (wakes13 _).mono ?_; rintro e w1 ⟨rfl, hg⟩; replace HC := hide (HC.out.g hg); clear hg) | (go_at_call 24; refine (rgood_at _ (HTb.out.kept HC.out.grown)).mono ?_; rintro e w1 ⟨d, rfl, hg, hd⟩; obtain rfl : d = true := hd.2 HG.out; replace HC := hide (HC.out.g hg); clear hg hd))
        all_goals go_ret
        all_goals (exact ⟨rfl, HC.out.grown⟩)
    · have HNG := hide G
      clear H hT hl hf G
      go_enter Try.func10, Try.ntmps10
      go_wp2_with (first | (go_at_call 23; refine (large_T13 cp HTe.out (HT.out.kept HC.out.grown) HLl.out).mono ?_; rintro e w1 ⟨d, rfl, hg, hd⟩; replace HC := hide (HC.out.g hg); clear hg; cases d <;> clear hd) | (go_at_call 25; refine (wakes13 _).mono ?_; rintro e w1 ⟨rfl, hg⟩; replace HC := hide (HC.out.g hg); clear hg) | (go_at_call 24; refine (rgood_at _ (HTb.out.kept HC.out.grown)).mono ?_; rintro e w1 ⟨d, rfl, hg, hd⟩; obtain rfl : d = false := (by cases d with | false => rfl | true => exact absurd (hd.1 rfl) HNG.out); replace HC := hide (HC.out.g hg); clear hg hd))
      all_goals go_ret
      all_goals (exact ⟨rfl, HC.out.grown⟩)
  · have HN := hide hf
    clear H hT hl hf
    go_enter Try.func10, Try.ntmps10
    go_wp2_with (first | (go_at_call 23; refine (large_T13 cp HTe.out (HT.out.kept HC.out.grown) HLl.out).mono ?_; rintro e w1 ⟨d, rfl, hg, hd⟩; replace HC := hide (HC.out.g hg); obtain rfl : d = true := (by cases d with | true => rfl | false => exact absurd (hd rfl) HN.out); clear hg hd) | (go_at_call 25; refine (wakes13 _).mono ?_; rintro e w1 ⟨rfl, hg⟩; replace HC := hide (HC.out.g hg); clear hg))
    all_goals go_ret
    all_goals (exact ⟨rfl, HC.out.grown⟩)
end Go.Proofs.Ythmldhppmpbadaa.Ty
