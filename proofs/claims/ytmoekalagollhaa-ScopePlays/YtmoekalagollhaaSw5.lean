/-
  Scope's laws: ScopeBack, walked.
-/
import Derived.Test.YtmoekalagollhaaScarg
namespace Go.Proofs.Ytmoekalagollhaa.So
open Go.RowKit hiding Hid
open Go.Proofs.Ytmoekalagollhaa.Tx Go.Proofs.Ytmoekalagollhaa.Lx Go.Proofs.Ytmoekalagollhaa.Tr Go.Proofs.Ytmoekalagollhaa.Ty
set_option linter.unusedVariables false
set_option linter.unusedSimpArgs false
set_option maxRecDepth 100000

section
variable {w0 w : World} {b mb : Nat} {M : Sx} {L : List Lc} {Rs : List Rw} {Fs : List Fk}
theorem PS.nilR (H : PS w0 b mb M L Rs Fs w) (e : TypeId) (k : Nat) : PS w0 b mb M L (⟨.slice none 0 0, e, k, 0, []⟩ :: Rs) Fs w := by
  obtain ⟨d, c, VM, h1, h2⟩ := H
  refine ⟨d, c, VM, h1, ?_⟩
  have h3 := h2.nilR e k
  exact h3.permR (List.perm_middle (l₁ := ⟨.slice d VM.length c, 54, 1, VM.length, (VM.map Prod.fst).reverse⟩ :: VM.map rowP) (l₂ := Rs)).symm
theorem PS.two {r1 r2 : Rw} (H : PS w0 b mb M L (r1 :: r2 :: Rs) Fs w) : ∃ L' R' F', Cf w0 (fun _ => False) none L' (r1 :: r2 :: R') F' w ∧ ∀ r1' r2' w', Cf w0 (fun _ => False) none L' (r1' :: r2' :: R') F' w' → PS w0 b mb M L (r1' :: r2' :: Rs) Fs w' := by
  obtain ⟨d, c, VM, h1, h2⟩ := H
  have pm : ∀ r1 r2 : Rw, ((⟨.slice d VM.length c, 54, 1, VM.length, (VM.map Prod.fst).reverse⟩ :: VM.map rowP) ++ (r1 :: r2 :: Rs)).Perm (r1 :: r2 :: ((⟨.slice d VM.length c, 54, 1, VM.length, (VM.map Prod.fst).reverse⟩ :: VM.map rowP) ++ Rs)) := fun r1 r2 =>
    (List.perm_middle (l₁ := ⟨.slice d VM.length c, 54, 1, VM.length, (VM.map Prod.fst).reverse⟩ :: VM.map rowP) (l₂ := r2 :: Rs)).trans ((List.perm_middle (l₁ := ⟨.slice d VM.length c, 54, 1, VM.length, (VM.map Prod.fst).reverse⟩ :: VM.map rowP) (l₂ := Rs)).cons _)
  exact ⟨_, _, _, h2.permR (pm r1 r2), fun r1' r2' w' h => ⟨d, c, VM, h1, h.permR (pm r1' r2').symm⟩⟩
theorem PS.cf (H : PS w0 b mb M L Rs Fs w) : ∃ L' R' F', Cf w0 (fun _ => False) none L' R' F' w ∧ ∀ r ∈ Rs, r ∈ R' := by
  obtain ⟨d, c, VM, h1, h2⟩ := H
  exact ⟨_, _, _, h2, fun r hr => .tail _ (List.mem_append_right _ hr)⟩
theorem PS.own (H : PS w0 b mb M L Rs Fs w) {r : Rw} (h : r ∈ Rs) : w.ownsRow w0.heap.size r.e r.k r.v r.n r.xs := by
  obtain ⟨_, _, _, h2, h3⟩ := H.cf
  exact h2.cx.row r (h3 r h)
end
def fN : Option (Int × Nat) → Int
  | none => 0
  | some p => p.1
def fL : Option (Int × Nat) → Nat
  | none => 0
  | some p => p.2
def fB2 : Option (Int × Nat) → Bool
  | none => false
  | some _ => true
theorem fndV_eq (o : Option (Int × Nat)) : fndV o = .tuple #[.int .i64 (fN o), .int .i64 (fL o : Int), .bool (fB2 o)] := by cases o <;> rfl
theorem tx_at {l : List Nm} {i : Nat} {s : Nm} (h : l[i]? = some s) : (l.flatMap txC)[i]? = some (.string (bs s)) := by
  have e : l.flatMap txC = l.map (fun s => .string (bs s)) := by
    clear h
    induction l with
    | nil => rfl
    | cons a l ih => rw [List.flatMap_cons, List.map_cons, ih]; rfl
  rw [e, List.getElem?_map, h]
  rfl
theorem take_all {l : List Nm} {i : Nat} {s : Nm} {p : Nm → Prop} (h : ∀ s ∈ l.take i, p s) (hs : l[i]? = some s) (h1 : p s) : ∀ s ∈ l.take (i + 1), p s := fun t ht => by
  rw [List.take_add_one, hs] at ht
  rcases List.mem_append.1 ht with ht | ht
  · exact h t ht
  · simp at ht; subst ht; exact h1
theorem take_map {l : List Nm} {i : Nat} {s : Nm} (f : Nm → Value) (hs : l[i]? = some s) : (l.take i).map f ++ [f s] = (l.take (i + 1)).map f := by
  rw [List.take_add_one, hs, List.map_append]
  rfl
set_option maxHeartbeats 32000000 in
theorem back_walk (w : World) (o0 : Option Addr) (c0 : Nat) (l0 : List Nm) (S0 : Cls w o0 (l0.flatMap txC)) (N0 : ∀ s ∈ l0, s.length ≤ maxLen) (m0 : l0.length ≤ maxLen) (o1 : Option Addr) (c1 : Nat) (l1 : List Nm) (S1 : Cls w o1 (l1.flatMap txC)) (N1 : ∀ s ∈ l1, s.length ≤ maxLen) (m1 : l1.length ≤ maxLen) : Calls Try.prog 8 #[.slice o0 l0.length c0, .slice o1 l1.length c1] w (okW w) := by
  have HS0 := hide S0
  have HS1 := hide S1
  have HN0 := hide N0
  have HN1 := hide N1
  have k0 : (l0.length : Int) ≤ 9223372036854775807 := by unfold maxLen at m0; omega
  have k1 : (l1.length : Int) ≤ 9223372036854775807 := by unfold maxLen at m1; omega
  have HC := hide (Cf.of (Cx.start w (fun _ => False)))
  clear S0 S1 N0 N1 m0 m1
  by_cases hA : 100 < l0.length
  · have a0 : (100 : Int) < l0.length := by omega
    clear hA
    go_enter Try.func8, Try.ntmps8
    go_wp2_with (first | (go_at_call 25; refine (new_at HC.out).mono ?_; rintro e w1 ⟨b, mb, rfl, h⟩; have HP := hide h; clear h; clear HC) | (go_at_call 41; refine (wakes_at _).mono ?_; rintro e w9 ⟨rfl, hg⟩; have HG9 := hide (gr_then HP.out.grown hg); clear hg))
    go_ret
    exact ⟨rfl, HG9.out⟩
  by_cases hB : 100 < l1.length
  · have a0 : ¬ (100 : Int) < l0.length := by omega
    have b0 : (100 : Int) < l1.length := by omega
    clear hA hB
    go_enter Try.func8, Try.ntmps8
    go_wp2_with (first | (go_at_call 25; refine (new_at HC.out).mono ?_; rintro e w1 ⟨b, mb, rfl, h⟩; have HP := hide h; clear h; clear HC) | (go_at_call 41; refine (wakes_at _).mono ?_; rintro e w9 ⟨rfl, hg⟩; have HG9 := hide (gr_then HP.out.grown hg); clear hg))
    go_ret
    exact ⟨rfl, HG9.out⟩
  have a0 : ¬ (100 : Int) < l0.length := by omega
  have b0 : ¬ (100 : Int) < l1.length := by omega
  have HA := hide (show l0.length ≤ 100 by omega)
  have HB := hide (show l1.length ≤ 100 by omega)
  clear hA hB
  go_enter Try.func8, Try.ntmps8
  go_wp2_with (go_at_call 25; refine (new_at HC.out).mono ?_; rintro e w1 ⟨b, mb, rfl, h⟩; have HP := hide h; clear h; clear HC)
  have HP1 := HP
  clear HP
  go_loopw [8] (fun iv W => ∃ (i : Nat) (T : Lv1), i ≤ l0.length ∧ iv = .int .i64 i ∧ Hid (∀ s ∈ l0.take i, s.length ≤ 5000) ∧ Hid (GdL T) ∧ Hid (PS w b mb [T] [] [] [] W)) (fun iv _ => l0.length - (intOf iv).toNat)
  case atStart => exact ⟨0, [], Nat.zero_le _, rfl, hide (by simp), hide gd_nil, HP1⟩
  case round =>
    clear HP1
    obtain ⟨i, T, hi, rfl, H5, HT, HP⟩ := hrel
    by_cases hlt : i < l0.length
    · have q1 : (i : Int) < l0.length := by omega
      (obtain ⟨s, hs⟩ : ∃ s, l0[i]? = some s := ⟨l0[i], List.getElem?_eq_getElem hlt⟩; obtain ⟨ad, e9, hc⟩ := HS0.out i _ (tx_at hs); have hs1 : (s.length : Int) ≤ 9223372036854775807 := (by have h9 := HN0.out s (List.mem_of_getElem? hs); unfold maxLen at h9; omega); have hsz := bs_size s)
      subst e9
      have hc' := HP.out.grown.cell hc (by simp)
      have bl := block_lt_of_cell hc'
      by_cases h5 : 5000 < s.length
      · have h6 : (5000 : Int) < s.length := by omega
        clear hc hs h5
        go_wp2_with (go_at_call 41; refine (wakes_at _).mono ?_; rintro e w9 ⟨rfl, hg⟩; have HG9 := hide (gr_then HP.out.grown hg); clear hg)
        go_ret
        exact ⟨rfl, HG9.out⟩
      · have h6 : ¬ (5000 : Int) < s.length := by omega
        have HSl := hide (show s.length ≤ 5000 by omega)
        have H5' := hide (take_all H5.out hs HSl.out)
        have HG1 := hide (show Gd [T] from gd_cons.2 ⟨HT.out, fun l hl => by cases hl⟩)
        clear hc hs h5
        go_wp2_with (go_at_call 31; refine (declare_at HP.out HG1.out (by simp) s HSl.out (i : Int)).mono ?_; rintro e w2 ⟨rfl, h⟩; replace HP := hide h; clear h)
        exact ⟨⟨i + 1, _, by omega, by go_num, H5', hide (decL_gd HT.out s (i : Int)), HP⟩, by simp [intOf]; omega⟩
    · obtain rfl : i = l0.length := by omega
      have HAll := hide (show ∀ s ∈ l0, s.length ≤ 5000 from by have h := H5.out; rwa [List.take_length] at h)
      clear hlt hi H5
      go_wp2
      have HGm := hide (show Gd [T] from gd_cons.2 ⟨HT.out, fun l hl => by cases hl⟩)
      have HP1 := hide ((HP.out.nilR 3 1).nilR 3 1)
      clear HP
      go_loopw [6, 7, 9] (fun wv lv iv W => ∃ (i : Nat) (dw dl : Option Addr) (cw cl : Nat), i ≤ l0.length ∧ wv = .slice dw i cw ∧ lv = .slice dl i cl ∧ iv = .int .i64 i ∧ Hid (PS w b mb [T] [] [⟨.slice dw i cw, 3, 1, i, (l0.take i).map (fun s => .int .i64 (fN (fndS [T] s)))⟩, ⟨.slice dl i cl, 3, 1, i, (l0.take i).map (fun s => .int .i64 (fL (fndS [T] s) : Int))⟩] [] W)) (fun _ _ iv _ => l0.length - (intOf iv).toNat)
      case atStart => exact ⟨0, none, none, 0, 0, Nat.zero_le _, rfl, rfl, rfl, HP1⟩
      case round =>
        clear HP1
        obtain ⟨i, dw, dl, cw, cl, hi, rfl, rfl, rfl, HP⟩ := hrel
        by_cases hlt : i < l0.length
        · have q1 : (i : Int) < l0.length := by omega
          (obtain ⟨s, hs⟩ : ∃ s, l0[i]? = some s := ⟨l0[i], List.getElem?_eq_getElem hlt⟩; obtain ⟨ad, e9, hc⟩ := HS0.out i _ (tx_at hs); have hs1 : (s.length : Int) ≤ 9223372036854775807 := (by have h9 := HN0.out s (List.mem_of_getElem? hs); unfold maxLen at h9; omega); have hsz := bs_size s)
          subst e9
          have hc' := HP.out.grown.cell hc (by simp)
          have bl := block_lt_of_cell hc'
          have HSl := hide (HAll.out s (List.mem_of_getElem? hs))
          have HTk := hide (take_map (fun s => .int .i64 (fN (fndS [T] s))) hs)
          have HTl := hide (take_map (fun s => .int .i64 (fL (fndS [T] s) : Int)) hs)
          obtain ⟨o, ho⟩ : ∃ o, fndS [T] s = o := ⟨_, rfl⟩
          rw [ho] at HTk HTl
          have HOo := hide ho
          have HIi := hide (show i ≤ 900000 by have := HA.out; omega)
          have M1 : Hid True := hide trivial
          have M2 : Hid True := hide trivial
          have M3 : Hid True := hide trivial
          have M4 : Hid True := hide trivial
          clear hc hs ho
          go_upto_region 15 with (go_at_call 34; refine (find_at HP.out HGm.out (by simp) s HSl.out).mono ?_; rw [fndV_eq, HOo.out]; rintro e w' ⟨rfl, hw⟩; replace hw := hw.symm; subst hw)
          obtain ⟨L', R', F', hcf, hb⟩ := HP.out.two
          have HC := hide hcf
          have HBk := hide hb
          clear hcf hb HP hc' bl
          go_wp2_with (first | (refine at_call2 (b := .append) rfl ?_; clear M1; refine wl_op rfl (fun K' hK => ?_); refine cfo_ap (v := .slice dw i cw) _ _ rfl Try.underlying57 infoINT (by decide) (by decide) rfl rfl HC.out rfl rfl HIi.out ?_; intro d8 c8 w' hg hc; clear hg; (replace HC := hide hc; clear hc); refine hK _ _ ?_; clear hK K'; replace HC := hide HC.out.swapR) | (refine at_call2 (b := .append) rfl ?_; clear M2; refine wl_op rfl (fun K' hK => ?_); refine cfo_ap (v := .slice dl i cl) _ _ rfl Try.underlying57 infoINT (by decide) (by decide) rfl rfl HC.out rfl rfl HIi.out ?_; intro d9 c9 w' hg hc; clear hg; (replace HC := hide hc; clear hc); refine hK _ _ ?_; clear hK K'; replace HC := hide HC.out.swapR) | (refine at_bs 57 rfl ?_; clear M3; refine wl_op rfl (fun K' hK => ?_); refine cfo_bl 57 1 _ rfl 3 [.int .i64 (fN o)] HC.out (by kernel_rfl) ?_; intro b7 w' hn hg hc; clear hg hn; (replace HC := hide hc; clear hc); refine hK _ _ ?_; clear hK K') | (refine at_bs 57 rfl ?_; clear M4; refine wl_op rfl (fun K' hK => ?_); refine cfo_bl 57 1 _ rfl 3 [.int .i64 (fL o : Int)] HC.out (by kernel_rfl) ?_; intro b7 w' hn hg hc; clear hg hn; (replace HC := hide hc; clear hc); refine hK _ _ ?_; clear hK K'))
          refine ⟨⟨i + 1, d8, d9, c8, c9, by omega, rfl, rfl, by go_num, hide ?_⟩, by simp [intOf]; omega⟩
          rw [← HTk.out, ← HTl.out]
          exact HBk.out _ _ _ HC.out
        · obtain rfl : i = l0.length := by omega
          clear hlt hi
          rw [List.take_length] at HP
          have HT6 := hide (show T.length ≤ 256 from HT.out.le)
          go_wp2_with (first | (go_at_call 39; refine (here_at HP.out HT6.out (by decide)).mono ?_; rintro e w5 ⟨d5, c5, rfl, h⟩; replace HP := hide h; clear h) | (go_at_call 27; refine (open_at HP.out (by simp)).mono ?_; rintro e w3 ⟨rfl, h⟩; replace HP := hide (show PS w b mb [[], T] [] _ [] w3 from h); clear h))
          have HP1 := HP
          clear HP
          go_loopw [14] (fun iv W => ∃ (i : Nat) (U : Lv1), i ≤ l1.length ∧ iv = .int .i64 i ∧ Hid (GdL U) ∧ Hid (PS w b mb [U, T] [] [⟨.slice d5 T.length c5, 9, 1, T.length, nmC T⟩, ⟨.slice dw l0.length cw, 3, 1, l0.length, l0.map (fun s => .int .i64 (fN (fndS [T] s)))⟩, ⟨.slice dl l0.length cl, 3, 1, l0.length, l0.map (fun s => .int .i64 (fL (fndS [T] s) : Int))⟩] [] W)) (fun iv _ => l1.length - (intOf iv).toNat)
          case atStart => exact ⟨0, [], Nat.zero_le _, rfl, hide gd_nil, HP1⟩
          case round =>
            clear HP1
            obtain ⟨i, U, hi, rfl, HU, HP⟩ := hrel
            by_cases hlt : i < l1.length
            · have q1 : (i : Int) < l1.length := by omega
              (obtain ⟨s, hs⟩ : ∃ s, l1[i]? = some s := ⟨l1[i], List.getElem?_eq_getElem hlt⟩; obtain ⟨ad, e9, hc⟩ := HS1.out i _ (tx_at hs); have hs1 : (s.length : Int) ≤ 9223372036854775807 := (by have h9 := HN1.out s (List.mem_of_getElem? hs); unfold maxLen at h9; omega); have hsz := bs_size s)
              subst e9
              have hc' := HP.out.grown.cell hc (by simp)
              have bl := block_lt_of_cell hc'
              have i1 : (i : Int) ≤ 100 := by have := HB.out; omega
              by_cases h5 : 5000 < s.length
              · have h6 : (5000 : Int) < s.length := by omega
                clear hc hs h5
                go_wp2_with (go_at_call 41; refine (wakes_at _).mono ?_; rintro e w9 ⟨rfl, hg⟩; have HG9 := hide (gr_then HP.out.grown hg); clear hg)
                go_ret
                exact ⟨rfl, HG9.out⟩
              · have h6 : ¬ (5000 : Int) < s.length := by omega
                have HSl := hide (show s.length ≤ 5000 by omega)
                have HG1 := hide (show Gd [U, T] from gd_cons.2 ⟨HU.out, HGm.out⟩)
                clear hc hs h5
                go_wp2_with (go_at_call 31; refine (declare_at HP.out HG1.out (by simp) s HSl.out (-(i : Int))).mono ?_; rintro e w2 ⟨rfl, h⟩; replace HP := hide h; clear h)
                exact ⟨⟨i + 1, _, by omega, by go_num, hide (decL_gd HU.out s (-(i : Int))), HP⟩, by simp [intOf]; omega⟩
            · obtain rfl : i = l1.length := by omega
              have HG1 := hide (show Gd [U, T] from gd_cons.2 ⟨HU.out, HGm.out⟩)
              clear hlt hi
              have M1 : Hid True := hide trivial
              go_wp2_with (first | (go_at_call 29; refine (close_at HP.out HG1.out (by simp)).mono ?_; rintro e w6 ⟨rfl, h⟩; replace HP := hide (show PS w b mb [T] [] _ [] w6 from h); clear h) | (go_at_call 36; refine (depth_at HP.out (by simp)).mono ?_; rintro e w' ⟨rfl, hw⟩; replace hw := hw.symm; subst hw) | (go_at_call 39; refine (here_at HP.out HT6.out (by decide)).mono ?_; rintro e w5 ⟨d6, c6, rfl, h⟩; replace HP := hide h; clear h) | (go_at_call 38; obtain ⟨L', R', F', h1, h2⟩ := HP.out.cf; refine (texts_at h1 (h2 _ (.head _)) (h2 _ (.tail _ (.head _))) HT6.out).mono ?_; rintro e w7 ⟨rfl, hg⟩; clear h1 h2; replace HP := hide (HP.out.grow hg); clear hg))
              have HP1 := HP
              clear HP
              go_loopw [15] (fun iv W => ∃ i : Nat, i ≤ l0.length ∧ iv = .int .i64 i ∧ Hid (PS w b mb [T] [] [⟨.slice d6 T.length c6, 9, 1, T.length, nmC T⟩, ⟨.slice d5 T.length c5, 9, 1, T.length, nmC T⟩, ⟨.slice dw l0.length cw, 3, 1, l0.length, l0.map (fun s => .int .i64 (fN (fndS [T] s)))⟩, ⟨.slice dl l0.length cl, 3, 1, l0.length, l0.map (fun s => .int .i64 (fL (fndS [T] s) : Int))⟩] [] W)) (fun iv _ => l0.length - (intOf iv).toNat)
              case atStart => exact ⟨0, Nat.zero_le _, rfl, HP1⟩
              case round =>
                clear HP1
                obtain ⟨i, hi, rfl, HP⟩ := hrel
                by_cases hlt : i < l0.length
                · have q1 : (i : Int) < l0.length := by omega
                  (obtain ⟨s, hs⟩ : ∃ s, l0[i]? = some s := ⟨l0[i], List.getElem?_eq_getElem hlt⟩; obtain ⟨ad, e9, hc⟩ := HS0.out i _ (tx_at hs); have hs1 : (s.length : Int) ≤ 9223372036854775807 := (by have h9 := HN0.out s (List.mem_of_getElem? hs); unfold maxLen at h9; omega); have hsz := bs_size s)
                  subst e9
                  have hc' := HP.out.grown.cell hc (by simp)
                  have bl := block_lt_of_cell hc'
                  have HSl := hide (HAll.out s (List.mem_of_getElem? hs))
                  have r1 := HP.out.own (.tail _ (.tail _ (.head _)))
                  have r2 := HP.out.own (.tail _ (.tail _ (.tail _ (.head _))))
                  simp only at r1 r2
                  obtain ⟨gw, rfl, w1, w2⟩ := own_at r1 (by omega)
                  obtain ⟨gl, rfl, w3, w4⟩ := own_at r2 (by omega)
                  have c1 := own_cell r1 (i := i) (v := .int .i64 (fN (fndS [T] s))) (by rw [List.getElem?_map, hs]; rfl)
                  have c2 := own_cell r2 (i := i) (v := .int .i64 (fL (fndS [T] s) : Int)) (by rw [List.getElem?_map, hs]; rfl)
                  simp only at c1 c2
                  have u1 : (cw : Int) ≤ 9223372036854775807 := by unfold maxLen at w2; omega
                  have u2 : (cl : Int) ≤ 9223372036854775807 := by unfold maxLen at w4; omega
                  have b1 := block_lt_of_cell c1
                  have b2 := block_lt_of_cell c2
                  obtain ⟨o, ho⟩ : ∃ o, fndS [T] s = o := ⟨_, rfl⟩
                  rw [ho] at c1 c2
                  have HOo := hide ho
                  obtain ⟨v1, hv1⟩ : ∃ v, fN o = v := ⟨_, rfl⟩
                  obtain ⟨v2, hv2⟩ : ∃ v : Int, (fL o : Int) = v := ⟨_, rfl⟩
                  rw [hv1] at c1
                  rw [hv2] at c2
                  have HV1 := hide hv1
                  have HV2 := hide hv2
                  clear hc hs ho r1 r2 w1 w2 w3 w4 hv1 hv2
                  go_wp2_with (go_at_call 34; refine (find_at HP.out HGm.out (by simp) s HSl.out).mono ?_; rw [fndV_eq, HOo.out, HV1.out, HV2.out]; rintro e w' ⟨rfl, hw⟩; replace hw := hw.symm; subst hw)
                  exact ⟨⟨i + 1, by omega, by go_num, HP⟩, by simp [intOf]; omega⟩
                · obtain rfl : i = l0.length := by omega
                  clear hlt hi
                  go_wp2_with (go_at_call 41; refine (wakes_at _).mono ?_; rintro e w9 ⟨rfl, hg⟩; have HG9 := hide (gr_then HP.out.grown hg); clear hg)
                  go_ret
                  exact ⟨rfl, HG9.out⟩
end Go.Proofs.Ytmoekalagollhaa.So
