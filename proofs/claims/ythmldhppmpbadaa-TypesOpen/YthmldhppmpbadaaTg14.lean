/-
  The document's own tables (package spinetref13): whether a type stands in itself, a record.
-/
import Derived.Test.YthmldhppmpbadaaY6
import Derived.Test.YthmldhppmpbadaaY4
namespace Go.Proofs.Ythmldhppmpbadaa.Ty
open Go.RowKit hiding Hid
open Go.Maps Go.Proofs.Ythmldhppmpbadaa.Tx Go.Proofs.Ythmldhppmpbadaa.Lx Go.Proofs.Ythmldhppmpbadaa.Tr Go.Proofs.Ythmldhppmpbadaa.Mp
set_option linter.unusedVariables false
set_option linter.unusedSimpArgs false
set_option maxRecDepth 100000

section
variable {w0 : World} {o : Option Addr} {cp : Nat} {T : List Tt} {sb : Nat}
theorem two_fl' {w : World} {A : Addr} {f : Fl} (h : ∀ j u, (flC f)[j]? = some u → w.cell? (A.add j) = some u) : w.cell? A = some (.string (bs f.n)) ∧ w.cell? ⟨A.block, A.off + 2, none⟩ = some (.int .i64 f.t) := by
  have h0 := h 0 _ rfl
  have h2 := h 2 _ rfl
  rw [Addr.add_zero'] at h0
  rw [Addr.add_succ'] at h2
  simp only [Nat.zero_add, Nat.reduceAdd] at h2
  exact ⟨h0, h2⟩
set_option maxHeartbeats 8000000 in
theorem round_9z {ad : Addr} {U : List Nat} {M : List Int} {w : World} {a : Nat} {x : Tt} (H : Nw w0 ad cp T sb U M w a x) (hf : x.fm = 9) (hb : x.ba = 0) (hfl : x.fl.length ≤ 1000) : Calls Try.prog 52 #[.slice (some ad) T.length cp, .int .i64 a, .slice (some ⟨sb, 0, none⟩) T.length T.length] w (VisR w0 (some ad) cp T sb M w a) := by
  have HN := hide H
  have ha := (List.getElem?_eq_some_iff.1 H.at').1
  have k1 : (a : Int) < T.length := by omega
  have cM := st_cell H.st (a := a) H.lt
  have bl := block_lt_of_cell cM
  rw [H.z] at cM
  have HC := hide (H.st.cx (fun _ => False))
  have HA := hide H.lt
  obtain ⟨ad', la, e1, rfl, hcl, hp⟩ := H.st.tab.at H.at'
  cases e1
  obtain ⟨B, hB⟩ : ∃ B, ad.add (a * 10) = B := ⟨_, rfl⟩
  rw [hB] at hcl
  have HB0 := hide (ten_of hcl).1
  have HB5 := hide (ten_of hcl).2.2.2.2.2.1
  have HB6 := hide (ten_of hcl).2.2.2.2.2.2.1
  have HP := hide (show partsR la.x = ([] : List Int) ++ la.x.fl.map Fl.t by unfold partsR; rw [if_neg (by simp [hf]), if_pos hf, if_pos hb])
  obtain ⟨n, hn⟩ : ∃ n, n = la.x.fl.length := ⟨_, rfl⟩
  have HLn := hide (show (partsR la.x).length = n by rw [HP.out, hn, List.length_append, List.length_map]; simp)
  have kn : (n : Int) ≤ 1001 := by omega
  have HFl := hide hp.fl
  have HG0 := hide (fun W (hW : w.grownBy W (some sb)) => grown_then HN.out.st.gr hW (fun y e => by cases e; exact .inr HN.out.st.new))
  have kf : (la.x.fl.length : Int) ≤ 1000 := by omega
  clear H hcl hp
  go_enter Try.func52, Try.ntmps52
  go_upto_region 6 with (first | (refine at_store 3 rfl ?_; refine wl_store (us := [.int .i64 1]) rfl 3 _ _ rfl rfl rfl tcI.sz rfl HC.out (by repeat (first | exact List.Mem.head _ | apply List.Mem.tail)) (st_put HA.out 1) (by repeat (first | exact Upd.here _ _ _ | apply Upd.there)) ?_; intro w' hc; (replace HC := hide hc; clear hc)))
  have d0 := (grown_then HN.out.st.gr HC.out.grown (fun y e => by cases e; exact .inr HN.out.st.new)).cell HB0.out (by simp)
  have d5 := (grown_then HN.out.st.gr HC.out.grown (fun y e => by cases e; exact .inr HN.out.st.new)).cell HB5.out (by simp)
  have bl2 := block_lt_of_cell d0
  clear cM bl
  rw [hf] at d0
  rw [hb] at d5
  go_wp2_with fail
  replace HC := hide (HC.out.row_nil 3 1)
  clear d0 d5 bl2
  go_loopw [7, 8] (fun lv iv W => ∃ (i : Nat) (oc : Option Addr) (cc : Nat), i ≤ la.x.fl.length ∧ iv = .int .i64 i ∧ lv = .slice oc (i) cc ∧ Hid (Cx w (fun _ => False) (some sb) [⟨sb, stC (M.set a 1), 3⟩] [⟨.slice oc (i) cc, 3, 1, i, (([] : List Int) ++ (la.x.fl.take i).map Fl.t).map (Value.int .i64)⟩] [] W)) (fun _ iv _ => la.x.fl.length - (intOf iv).toNat)
  case atStart => exact ⟨0, none, 0, by omega, rfl, rfl, hide (by simpa using HC.out)⟩
  case round =>
    clear HC
    obtain ⟨i, oc, cc, hi, rfl, rfl, HC⟩ := hrel
    have hg0 := HG0.out _ HC.out.grown
    have d6 := hg0.cell HB6.out (by simp)
    have bl2 := block_lt_of_cell d6
    by_cases hlt : i < la.x.fl.length
    · have q1 : (i : Int) < la.x.fl.length := by omega
      obtain ⟨⟨nm, x, t⟩, hxi⟩ : ∃ p, la.x.fl[i]? = some p := ⟨la.x.fl[i], List.getElem?_eq_getElem hlt⟩
      obtain ⟨fd, hfo, hel⟩ := HFl.out.el flC_len (by decide) hxi
      obtain ⟨B3, hB3⟩ : ∃ B, fd.add (i * 3) = B := ⟨_, rfl⟩
      rw [hB3] at hel
      have g0 := hg0.cell (two_fl' hel).1 (by simp)
      have g2 := hg0.cell (two_fl' hel).2 (by simp)
      have gl := block_lt_of_cell g0
      have HXi := hide (take_one (f := Fl.t) hxi)
      rw [hfo] at d6
      clear hel hxi hg0 hfo
      go_wp2_with (first | (refine at_bs 69 rfl ?_; refine wl_bl rfl 69 _ _ rfl 3 [.int .i64 t] HC.out (by kernel_rfl) ?_; intro b w' hn hc; (replace HC := hide hc; clear hc)) | (refine wl_ap rfl _ _ rfl Try.underlying69 infoI (by decide) (by decide) rfl rfl HC.out rfl rfl (by omega) ?_; intro d9 cp9 w' hc; (replace HC := hide hc; clear hc)))
      refine ⟨⟨i + 1, _, _, by omega, by go_num, rfl, hide ?_⟩, by simp [intOf]; omega⟩
      rw [HXi.out, ← List.append_assoc, List.map_append]
      exact HC.out
    · obtain rfl : i = la.x.fl.length := by omega
      rw [List.take_of_length_le (Nat.le_refl _), ← HP.out] at HC
      clear hg0
      go_wp2_with fail
      rw [← hn] at HC ⊢
      clear d6 bl2 hn
      go_loopw [9] (fun kv W => ∃ (k : Nat) (M1 : List Int), k ≤ n ∧ kv = .int .i64 k ∧ Hid (OyR T (M.set a 1) M1 ∧ ∀ j ∈ (partsR la.x).take k, mk M1 j.toNat = 2) ∧ Hid (M1.length = T.length) ∧ Hid (Cx w (fun _ => False) (some sb) [⟨sb, stC M1, 3⟩] [⟨.slice oc n cc, 3, 1, n, (partsR la.x).map (Value.int .i64)⟩] [] W)) (fun kv _ => n - (intOf kv).toNat)
      case atStart => exact ⟨0, M.set a 1, by omega, rfl, hide ⟨⟨Lm.refl _, HN.out.dn, HN.out.vm⟩, by simp⟩, hide (by rw [List.length_set]; exact HN.out.st.len), HC⟩
      case round =>
        clear HC
        obtain ⟨k, M1, hk, rfl, HY, HL1, HC⟩ := hrel
        have HA2 := hide (show a < M1.length by rw [HL1.out]; exact (List.getElem?_eq_some_iff.1 HN.out.at').1)
        by_cases hlt : k < n
        · have q1 : (k : Int) < n := by omega
          obtain ⟨t, ht⟩ : ∃ t, (partsR la.x)[k]? = some t := ⟨(partsR la.x)[k]'(by rw [HLn.out]; exact hlt), List.getElem?_eq_getElem _⟩
          obtain ⟨t0, t1⟩ := HN.out.inr a _ HN.out.at' t (List.mem_of_getElem? ht)
          obtain ⟨q, rfl⟩ := Int.eq_ofNat_of_zero_le t0
          have HQ := hide (show q < T.length by omega)
          have HTk := hide ht
          obtain ⟨oc', cc', e2, hcls⟩ := row_cls (HC.out.row _ (.head _))
          cases e2
          obtain ⟨ra, hra, hcr⟩ := hcls k (.int .i64 (q : Int)) (by rw [List.getElem?_map, ht]; rfl)
          subst hra
          have br := block_lt_of_cell hcr
          clear hcls t0 t1 ht
          go_wp2_with (go_at_call 52; refine (HN.out.ok M1 _ q (HN.out.st.next HC.out.grown (HC.out.loc ⟨sb, stC M1, 3⟩ (by repeat (first | exact List.Mem.head _ | apply List.Mem.tail))) HL1.out) HQ.out HY.out.1.vm HY.out.1.dn (HN.out.cov.mono HY.out.1.le)).mono ?_; rintro e w9 ⟨c, M', rfl, hg, hs, hy, hn⟩; have HG := hide hg; have HZ := hide hs; have HC1 := hide (HC.out.callX hg (by repeat (first | exact List.Mem.head _ | apply List.Mem.tail)) hs.blk (by repeat (first | exact Upd.here _ _ _ | apply Upd.there))); cases c <;> (first | (have HW := hide (hy rfl); clear hy hn hg hs) | (have HV := hide (hn rfl); clear hy hn hg hs)))
          · refine ⟨⟨k + 1, M', by omega, by go_num, hide ⟨⟨HY.out.1.le.trans HW.out.1.le, HW.out.1.dn, HW.out.1.vm⟩, fun j hj => ?_⟩, hide HZ.out.len, HC1⟩, by simp [intOf]; omega⟩
            rw [List.take_add_one, HTk.out] at hj
            rcases List.mem_append.1 hj with hj | hj
            · exact HW.out.1.le.two _ (HY.out.2 j hj)
            · simp at hj
              subst hj
              exact HW.out.2
          · go_ret
            exact ⟨true, M', rfl, grown_then HC.out.grown HG.out (fun y e => .inl e), HZ.out, (fun e => by cases e), fun _ => onR_parts HA.out (opR_part (j := (q : Int)) HN.out.at' (List.mem_of_getElem? HTk.out) HY.out.1.le HV.out)⟩
        · obtain rfl : k = n := by omega
          go_wp2_with (first | (refine at_store 3 rfl ?_; refine wl_store (us := [.int .i64 2]) rfl 3 _ _ rfl rfl rfl tcI.sz rfl HC.out (by repeat (first | exact List.Mem.head _ | apply List.Mem.tail)) (st_put HA2.out 2) (by repeat (first | exact Upd.here _ _ _ | apply Upd.there)) ?_; intro w' hc; (replace HC := hide hc; clear hc)))
          go_ret
          refine ⟨false, M1.set a 2, rfl, HC.out.grown, HN.out.st.next HC.out.grown (HC.out.loc ⟨sb, stC (M1.set a 2), 3⟩ (by repeat (first | exact List.Mem.head _ | apply List.Mem.tail))) (by rw [List.length_set]; exact HL1.out), fun _ => ⟨doneR_at HN.out.at' HA.out HA2.out HN.out.z HY.out.1 (fun j hj => HY.out.2 j (by rw [List.take_of_length_le (by rw [HLn.out]; exact Nat.le_refl _)]; exact hj)), ?_⟩, (fun e => by cases e)⟩
          rw [mk_set HA2.out, if_pos rfl]
set_option maxHeartbeats 8000000 in
theorem round_9b {ad : Addr} {U : List Nat} {M : List Int} {w : World} {a : Nat} {x : Tt} (H : Nw w0 ad cp T sb U M w a x) (hf : x.fm = 9) (hb : ¬ x.ba = 0) (hfl : x.fl.length ≤ 1000) : Calls Try.prog 52 #[.slice (some ad) T.length cp, .int .i64 a, .slice (some ⟨sb, 0, none⟩) T.length T.length] w (VisR w0 (some ad) cp T sb M w a) := by
  have HN := hide H
  have ha := (List.getElem?_eq_some_iff.1 H.at').1
  have k1 : (a : Int) < T.length := by omega
  have cM := st_cell H.st (a := a) H.lt
  have bl := block_lt_of_cell cM
  rw [H.z] at cM
  have HC := hide (H.st.cx (fun _ => False))
  have HA := hide H.lt
  obtain ⟨ad', la, e1, rfl, hcl, hp⟩ := H.st.tab.at H.at'
  cases e1
  obtain ⟨B, hB⟩ : ∃ B, ad.add (a * 10) = B := ⟨_, rfl⟩
  rw [hB] at hcl
  have HB0 := hide (ten_of hcl).1
  have HB5 := hide (ten_of hcl).2.2.2.2.2.1
  have HB6 := hide (ten_of hcl).2.2.2.2.2.2.1
  have HP := hide (show partsR la.x = [la.x.ba] ++ la.x.fl.map Fl.t by unfold partsR; rw [if_neg (by simp [hf]), if_pos hf, if_neg hb])
  obtain ⟨n, hn⟩ : ∃ n, n = 1 + la.x.fl.length := ⟨_, rfl⟩
  have HLn := hide (show (partsR la.x).length = n by rw [HP.out, hn, List.length_append, List.length_map]; simp)
  have kn : (n : Int) ≤ 1001 := by omega
  have HFl := hide hp.fl
  have HG0 := hide (fun W (hW : w.grownBy W (some sb)) => grown_then HN.out.st.gr hW (fun y e => by cases e; exact .inr HN.out.st.new))
  have kf : (la.x.fl.length : Int) ≤ 1000 := by omega
  clear H hcl hp
  go_enter Try.func52, Try.ntmps52
  go_upto_region 6 with (first | (refine at_store 3 rfl ?_; refine wl_store (us := [.int .i64 1]) rfl 3 _ _ rfl rfl rfl tcI.sz rfl HC.out (by repeat (first | exact List.Mem.head _ | apply List.Mem.tail)) (st_put HA.out 1) (by repeat (first | exact Upd.here _ _ _ | apply Upd.there)) ?_; intro w' hc; (replace HC := hide hc; clear hc)))
  have d0 := (grown_then HN.out.st.gr HC.out.grown (fun y e => by cases e; exact .inr HN.out.st.new)).cell HB0.out (by simp)
  have d5 := (grown_then HN.out.st.gr HC.out.grown (fun y e => by cases e; exact .inr HN.out.st.new)).cell HB5.out (by simp)
  have bl2 := block_lt_of_cell d0
  clear cM bl
  rw [hf] at d0
  have hbb : (la.x.ba != 0) = true := by simpa using hb
  go_wp2_with (refine at_bs 69 rfl ?_; refine wl_br rfl 69 _ _ rfl 3 1 [.int .i64 la.x.ba] HC.out rfl (by decide) (by kernel_rfl) ?_; intro b0 w' hc; (replace HC := hide hc; clear hc))
  obtain ⟨oc, hoc⟩ : ∃ oc, (some ⟨b0, 0, none⟩ : Option Addr) = oc := ⟨_, rfl⟩
  rw [hoc] at HC ⊢
  obtain ⟨cc, hcc⟩ : ∃ cc, cc = 1 := ⟨_, rfl⟩
  clear d0 d5 bl2
  go_loopw [7, 8] (fun lv iv W => ∃ (i : Nat) (oc : Option Addr) (cc : Nat), i ≤ la.x.fl.length ∧ iv = .int .i64 i ∧ lv = .slice oc (1 + i) cc ∧ Hid (Cx w (fun _ => False) (some sb) [⟨sb, stC (M.set a 1), 3⟩] [⟨.slice oc (1 + i) cc, 3, 1, 1 + i, ([la.x.ba] ++ (la.x.fl.take i).map Fl.t).map (Value.int .i64)⟩] [] W)) (fun _ iv _ => la.x.fl.length - (intOf iv).toNat)
  case atStart => exact ⟨0, oc, 1, by omega, rfl, rfl, hide (by simpa using HC.out)⟩
  case round =>
    clear HC
    obtain ⟨i, oc, cc, hi, rfl, rfl, HC⟩ := hrel
    have hg0 := HG0.out _ HC.out.grown
    have d6 := hg0.cell HB6.out (by simp)
    have bl2 := block_lt_of_cell d6
    by_cases hlt : i < la.x.fl.length
    · have q1 : (i : Int) < la.x.fl.length := by omega
      obtain ⟨⟨nm, x, t⟩, hxi⟩ : ∃ p, la.x.fl[i]? = some p := ⟨la.x.fl[i], List.getElem?_eq_getElem hlt⟩
      obtain ⟨fd, hfo, hel⟩ := HFl.out.el flC_len (by decide) hxi
      obtain ⟨B3, hB3⟩ : ∃ B, fd.add (i * 3) = B := ⟨_, rfl⟩
      rw [hB3] at hel
      have g0 := hg0.cell (two_fl' hel).1 (by simp)
      have g2 := hg0.cell (two_fl' hel).2 (by simp)
      have gl := block_lt_of_cell g0
      have HXi := hide (take_one (f := Fl.t) hxi)
      rw [hfo] at d6
      clear hel hxi hg0 hfo
      go_wp2_with (first | (refine at_bs 69 rfl ?_; refine wl_bl rfl 69 _ _ rfl 3 [.int .i64 t] HC.out (by kernel_rfl) ?_; intro b w' hn hc; (replace HC := hide hc; clear hc)) | (refine wl_ap rfl _ _ rfl Try.underlying69 infoI (by decide) (by decide) rfl rfl HC.out rfl rfl (by omega) ?_; intro d9 cp9 w' hc; (replace HC := hide hc; clear hc)))
      refine ⟨⟨i + 1, _, _, by omega, by go_num, rfl, hide ?_⟩, by simp [intOf]; omega⟩
      rw [HXi.out, ← List.append_assoc, List.map_append]
      exact HC.out
    · obtain rfl : i = la.x.fl.length := by omega
      rw [List.take_of_length_le (Nat.le_refl _), ← HP.out] at HC
      clear hg0
      go_wp2_with fail
      rw [← hn] at HC ⊢
      clear d6 bl2 hn
      go_loopw [9] (fun kv W => ∃ (k : Nat) (M1 : List Int), k ≤ n ∧ kv = .int .i64 k ∧ Hid (OyR T (M.set a 1) M1 ∧ ∀ j ∈ (partsR la.x).take k, mk M1 j.toNat = 2) ∧ Hid (M1.length = T.length) ∧ Hid (Cx w (fun _ => False) (some sb) [⟨sb, stC M1, 3⟩] [⟨.slice oc n cc, 3, 1, n, (partsR la.x).map (Value.int .i64)⟩] [] W)) (fun kv _ => n - (intOf kv).toNat)
      case atStart => exact ⟨0, M.set a 1, by omega, rfl, hide ⟨⟨Lm.refl _, HN.out.dn, HN.out.vm⟩, by simp⟩, hide (by rw [List.length_set]; exact HN.out.st.len), HC⟩
      case round =>
        clear HC
        obtain ⟨k, M1, hk, rfl, HY, HL1, HC⟩ := hrel
        have HA2 := hide (show a < M1.length by rw [HL1.out]; exact (List.getElem?_eq_some_iff.1 HN.out.at').1)
        by_cases hlt : k < n
        · have q1 : (k : Int) < n := by omega
          obtain ⟨t, ht⟩ : ∃ t, (partsR la.x)[k]? = some t := ⟨(partsR la.x)[k]'(by rw [HLn.out]; exact hlt), List.getElem?_eq_getElem _⟩
          obtain ⟨t0, t1⟩ := HN.out.inr a _ HN.out.at' t (List.mem_of_getElem? ht)
          obtain ⟨q, rfl⟩ := Int.eq_ofNat_of_zero_le t0
          have HQ := hide (show q < T.length by omega)
          have HTk := hide ht
          obtain ⟨oc', cc', e2, hcls⟩ := row_cls (HC.out.row _ (.head _))
          cases e2
          obtain ⟨ra, hra, hcr⟩ := hcls k (.int .i64 (q : Int)) (by rw [List.getElem?_map, ht]; rfl)
          subst hra
          have br := block_lt_of_cell hcr
          clear hcls t0 t1 ht
          go_wp2_with (go_at_call 52; refine (HN.out.ok M1 _ q (HN.out.st.next HC.out.grown (HC.out.loc ⟨sb, stC M1, 3⟩ (by repeat (first | exact List.Mem.head _ | apply List.Mem.tail))) HL1.out) HQ.out HY.out.1.vm HY.out.1.dn (HN.out.cov.mono HY.out.1.le)).mono ?_; rintro e w9 ⟨c, M', rfl, hg, hs, hy, hn⟩; have HG := hide hg; have HZ := hide hs; have HC1 := hide (HC.out.callX hg (by repeat (first | exact List.Mem.head _ | apply List.Mem.tail)) hs.blk (by repeat (first | exact Upd.here _ _ _ | apply Upd.there))); cases c <;> (first | (have HW := hide (hy rfl); clear hy hn hg hs) | (have HV := hide (hn rfl); clear hy hn hg hs)))
          · refine ⟨⟨k + 1, M', by omega, by go_num, hide ⟨⟨HY.out.1.le.trans HW.out.1.le, HW.out.1.dn, HW.out.1.vm⟩, fun j hj => ?_⟩, hide HZ.out.len, HC1⟩, by simp [intOf]; omega⟩
            rw [List.take_add_one, HTk.out] at hj
            rcases List.mem_append.1 hj with hj | hj
            · exact HW.out.1.le.two _ (HY.out.2 j hj)
            · simp at hj
              subst hj
              exact HW.out.2
          · go_ret
            exact ⟨true, M', rfl, grown_then HC.out.grown HG.out (fun y e => .inl e), HZ.out, (fun e => by cases e), fun _ => onR_parts HA.out (opR_part (j := (q : Int)) HN.out.at' (List.mem_of_getElem? HTk.out) HY.out.1.le HV.out)⟩
        · obtain rfl : k = n := by omega
          go_wp2_with (first | (refine at_store 3 rfl ?_; refine wl_store (us := [.int .i64 2]) rfl 3 _ _ rfl rfl rfl tcI.sz rfl HC.out (by repeat (first | exact List.Mem.head _ | apply List.Mem.tail)) (st_put HA2.out 2) (by repeat (first | exact Upd.here _ _ _ | apply Upd.there)) ?_; intro w' hc; (replace HC := hide hc; clear hc)))
          go_ret
          refine ⟨false, M1.set a 2, rfl, HC.out.grown, HN.out.st.next HC.out.grown (HC.out.loc ⟨sb, stC (M1.set a 2), 3⟩ (by repeat (first | exact List.Mem.head _ | apply List.Mem.tail))) (by rw [List.length_set]; exact HL1.out), fun _ => ⟨doneR_at HN.out.at' HA.out HA2.out HN.out.z HY.out.1 (fun j hj => HY.out.2 j (by rw [List.take_of_length_le (by rw [HLn.out]; exact Nat.le_refl _)]; exact hj)), ?_⟩, (fun e => by cases e)⟩
          rw [mk_set HA2.out, if_pos rfl]
end
end Go.Proofs.Ythmldhppmpbadaa.Ty
