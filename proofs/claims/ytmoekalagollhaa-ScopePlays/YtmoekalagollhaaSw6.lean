/-
  Scope's laws: ScopePlays, walked: both scopes side by side.
-/
import Derived.Test.YtmoekalagollhaaSw5
namespace Go.Proofs.Ytmoekalagollhaa.So
open Go.RowKit hiding Hid
open Go.Proofs.Ytmoekalagollhaa.Tx Go.Proofs.Ytmoekalagollhaa.Lx Go.Proofs.Ytmoekalagollhaa.Tr Go.Proofs.Ytmoekalagollhaa.Ty
set_option linter.unusedVariables false
set_option linter.unusedSimpArgs false
set_option maxRecDepth 100000

theorem tySTP : TyS Try.prog 44 3 := tyS_of Try.underlying44 rfl (by kernel_rfl)
theorem zSTP : (Try.prog.info? 44).bind (fun i => i.zero.map (·.cells)) = some ([.int .i64 0, .string ⟨#[]⟩, .int .i64 0] : List Value).toArray := by kernel_rfl
/- Both scopes. -/
def TW (w0 : World) (b mb q : Nat) (M N : Sx) (L : List Lc) (Rs : List Rw) (w : World) : Prop := ∃ dn cn df cf VQ, modQ VQ = N ∧ PS w0 b mb M (⟨q, [.slice dn N.length cn, .slice df N.length cf], 77⟩ :: L) (⟨.slice dn N.length cn, 54, 1, N.length, fstQ VQ⟩ :: ⟨.slice df N.length cf, 57, 1, N.length, sndQ VQ⟩ :: (rowsQ VQ ++ Rs)) [] w
theorem pmA (p : Rw) (A : List Rw) (r1 r2 : Rw) (B C : List Rw) : (p :: (A ++ (r1 :: r2 :: (B ++ C)))).Perm (r1 :: r2 :: (B ++ (p :: (A ++ C)))) := by
  have := List.perm_append_comm_assoc (p :: A) (r1 :: r2 :: B) C
  simpa using this
theorem pmB (p : Rw) (A : List Rw) (r r1 r2 : Rw) (B C : List Rw) : (p :: (A ++ (r :: r1 :: r2 :: (B ++ C)))).Perm (r1 :: r2 :: (B ++ (p :: (A ++ (r :: C))))) := by
  have := List.perm_append_comm_assoc (p :: (A ++ [r])) (r1 :: r2 :: B) C
  simpa using this
section
variable {w0 w : World} {b mb q : Nat} {M N : Sx} {L : List Lc} {Rs : List Rw}
theorem TW.ps (H : TW w0 b mb q M N L Rs w) : ∃ L1 R1, PS w0 b mb M L1 R1 [] w ∧ ∀ M' w', PS w0 b mb M' L1 R1 [] w' → TW w0 b mb q M' N L Rs w' := by
  obtain ⟨dn, cn, df, cf, VQ, h1, h2⟩ := H
  exact ⟨_, _, h2, fun M' w' h => ⟨dn, cn, df, cf, VQ, h1, h⟩⟩
theorem TW.qs (H : TW w0 b mb q M N L Rs w) : ∃ L1 R1 F1, QS w0 q N L1 R1 F1 w ∧ ∀ N' w', QS w0 q N' L1 R1 F1 w' → TW w0 b mb q M N' L Rs w' := by
  obtain ⟨dn, cn, df, cf, VQ, h1, d, c, VM, h3, h2⟩ := H
  have h4 := h2.swapL.permR (pmA _ _ _ _ _ _)
  refine ⟨⟨b, [.map (some mb), .slice d VM.length c], 74⟩ :: L, ⟨.slice d VM.length c, 54, 1, VM.length, (VM.map Prod.fst).reverse⟩ :: (VM.map rowP ++ Rs), [⟨mb, fun W => FM W mb (ents (VM.map Prod.snd))⟩], ⟨dn, cn, df, cf, VQ, h1, h4⟩, ?_⟩
  rintro N' w' ⟨dn', cn', df', cf', VQ', h5, h6⟩
  exact ⟨dn', cn', df', cf', VQ', h5, d, c, VM, h3, h6.swapL.permR (pmA _ _ _ _ _ _).symm⟩
theorem TW.grow {w' : World} (H : TW w0 b mb q M N L Rs w) (hg : w.grownBy w' none) : TW w0 b mb q M N L Rs w' := by
  obtain ⟨dn, cn, df, cf, VQ, h1, h2⟩ := H
  exact ⟨dn, cn, df, cf, VQ, h1, h2.grow hg⟩
theorem TW.grown (H : TW w0 b mb q M N L Rs w) : w0.grownBy w none := by
  obtain ⟨dn, cn, df, cf, VQ, h1, h2⟩ := H
  exact h2.grown
/- A variable more. -/
theorem TW.loc (H : TW w0 b mb q M N [] Rs w) : ∃ L1 R1 F1, Cf w0 (fun _ => False) none L1 R1 F1 w ∧ ∀ p w', Cf w0 (fun _ => False) none (p :: L1) R1 F1 w' → TW w0 b mb q M N [p] Rs w' := by
  obtain ⟨dn, cn, df, cf, VQ, h1, d, c, VM, h3, h2⟩ := H
  exact ⟨_, _, _, h2, fun p w' h => ⟨dn, cn, df, cf, VQ, h1, d, c, VM, h3, h.permL ((List.perm_middle (l₁ := [_, _]) (a := p) (l₂ := [])).symm)⟩⟩
theorem TW.cell {p : Lc} (H : TW w0 b mb q M N L Rs w) (hm : p ∈ L) {off : Nat} {u : Value} (hg : GetS off [u] p.cs) : w.cell? ⟨p.b, off, none⟩ = some u := by
  obtain ⟨dn, cn, df, cf, VQ, h1, d, c, VM, h3, h2⟩ := H
  exact cf_cell h2 (b := p.b) (cs := p.cs) (t := p.t) (.tail _ (.tail _ hm)) hg
theorem TW.drop {p : Lc} (H : TW w0 b mb q M N [p] Rs w) : TW w0 b mb q M N [] Rs w := by
  obtain ⟨dn, cn, df, cf, VQ, h1, d, c, VM, h3, h2⟩ := H
  exact ⟨dn, cn, df, cf, VQ, h1, d, c, VM, h3, (h2.permL (List.perm_middle (l₁ := [_, _]) (a := p) (l₂ := []))).drop⟩
end
theorem rnew_tw {w0 w : World} {b mb : Nat} {M : Sx} (H : PS w0 b mb M [] [] [] w) : Calls Try.prog 26 #[] w (fun e w' => ∃ q, e = .returned (.pointer (some ⟨q, 0, none⟩)) ∧ TW w0 b mb q M [[]] [] [] w') := by
  obtain ⟨d, c, VM, hM, hcf⟩ := H
  refine (rnew_at hcf).mono ?_
  rintro e w1 ⟨q, rfl, dn, cn, df, cf, V, h1, h2⟩
  exact ⟨q, rfl, dn, cn, df, cf, V, h1, d, c, VM, hM, h2.swapL.permR (pmA _ _ _ _ _ _).symm⟩
/- Both tell the innermost names, in two rows that are alike. -/
theorem here_tw {w0 w : World} {b mb q : Nat} {l : Lv1} {r : Sx} (H : TW w0 b mb q (l :: r) (l :: r) [] [] w) (hl : l.length ≤ 256) (hr : r.length < 64) : Calls Try.prog 39 #[.pointer (some ⟨b, 0, none⟩)] w (fun e w' => ∃ d' c' L1 R1 F1, e = .returned (.slice d' l.length c') ∧ QS w0 q (l :: r) L1 R1 F1 w' ∧ ⟨.slice d' l.length c', 9, 1, l.length, nmC l⟩ ∈ R1) := by
  obtain ⟨dn, cn, df, cf, VQ, hV, h⟩ := H
  refine (here_at h hl hr).mono ?_
  rintro e w' ⟨d', c', rfl, d, c, VM, hM, hcf⟩
  have h4 := hcf.swapL.permR (pmB _ _ _ _ _ _ _)
  have h5 : QS w0 q (l :: r) (⟨b, [.map (some mb), .slice d VM.length c], 74⟩ :: []) (⟨.slice d VM.length c, 54, 1, VM.length, (VM.map Prod.fst).reverse⟩ :: (VM.map rowP ++ [⟨.slice d' l.length c', 9, 1, l.length, nmC l⟩])) [⟨mb, fun W => FM W mb (ents (VM.map Prod.snd))⟩] w' := ⟨dn, cn, df, cf, VQ, hV, h4⟩
  exact ⟨d', c', _, _, _, rfl, h5, by simp⟩
theorem QS.cf {w0 w : World} {q : Nat} {M : Sx} {L : List Lc} {Rs : List Rw} {Fs : List Fk} (H : QS w0 q M L Rs Fs w) : ∃ L' R', Cf w0 (fun _ => False) none L' R' Fs w ∧ ∀ r ∈ Rs, r ∈ R' := by
  obtain ⟨dn, cn, df, cf, V, h1, h2⟩ := H
  exact ⟨_, _, h2, fun r hr => .tail _ (.tail _ (List.mem_append_right _ hr))⟩
/- What holds of the levels all along. -/
structure GM (M : Sx) : Prop where
  gd : Gd M
  ne : M ≠ []
  le : M.length ≤ 64
def opnM (M : Sx) : Sx := if M.length = 64 then M else [] :: M
def opnE (M : Sx) : Int := if M.length = 64 then 4 else 0
theorem GM.start : GM [[]] := ⟨gd0, by simp, by simp⟩
theorem GM.opn {M : Sx} (h : GM M) : GM (opnM M) := by
  unfold opnM
  split
  · exact h
  · rename_i h1
    exact ⟨gd_cons.2 ⟨gd_nil, h.gd⟩, by simp, by have := h.le; simp; omega⟩
theorem GM.cls {M : Sx} (h : GM M) : GM (clsM M) := by
  match M, h with
  | [], h => exact absurd rfl h.ne
  | [l], h => exact h
  | l :: l' :: r, h => exact ⟨(gd_cons.1 h.gd).2, by simp [clsM], by have := h.le; simp [clsM] at this ⊢; omega⟩
theorem GM.dec {l : Lv1} {r : Sx} (h : GM (l :: r)) (s : Nm) (n : Int) : GM (decL l s n :: r) := ⟨decL_gd' h.gd s n, by simp, h.le⟩
theorem GM.low {l : Lv1} {r : Sx} (h : GM (l :: r)) : r.length < 64 := by have := h.le; simp at this; omega
theorem GM.top {l : Lv1} {r : Sx} (h : GM (l :: r)) : l.length ≤ 256 := (gd_cons.1 h.gd).1.le
set_option maxHeartbeats 64000000 in
theorem plays_walk (w : World) (o0 : Option Addr) (c0 : Nat) (l0 : List Sp3) (S0 : Cls w o0 (l0.flatMap spC)) (N0 : ∀ x ∈ l0, x.ok) (m0 : l0.length ≤ maxLen) : Calls Try.prog 7 #[.slice o0 l0.length c0] w (okW w) := by
  have HS0 := hide S0
  have HN0 := hide N0
  have k0 : (l0.length : Int) ≤ 9223372036854775807 := by unfold maxLen at m0; omega
  have HC := hide (Cf.of (Cx.start w (fun _ => False)))
  clear S0 N0 m0
  go_enter Try.func7, Try.ntmps7
  go_wp2_with (first | (go_at_call 25; refine (new_at HC.out).mono ?_; rintro e w1 ⟨b, mb, rfl, h⟩; have HPs := hide h; clear h HC) | (go_at_call 26; refine (rnew_tw HPs.out).mono ?_; rintro e w2 ⟨q, rfl, h⟩; have HP := hide h; clear h HPs))
  have HP1 := HP
  clear HP
  go_loopw [5] (fun iv W => ∃ (i : Nat) (M : Sx), i ≤ l0.length ∧ i ≤ 200 ∧ iv = .int .i64 i ∧ Hid (GM M) ∧ Hid (TW w b mb q M M [] [] W)) (fun iv _ => l0.length - (intOf iv).toNat)
  case atStart => exact ⟨0, [[]], Nat.zero_le _, by omega, rfl, hide GM.start, HP1⟩
  case round =>
    clear HP1
    obtain ⟨i, M, hi, hi2, rfl, HG, HP⟩ := hrel
    by_cases hgo : i < l0.length ∧ i < 200
    case neg =>
      match M, HG, HP with
      | [], HG, HP => exact absurd rfl HG.out.ne
      | l :: r, HG, HP =>
      have q1 : ¬ (i : Int) < l0.length ∨ ((i : Int) < l0.length ∧ ¬ (i : Int) < 200) := by omega
      have HGt := hide HG.out.top
      have HGl := hide HG.out.low
      clear hgo HG hi hi2
      rcases q1 with q1 | ⟨q1, q2⟩
      · (go_wp2_with (first | (go_at_call 39; refine (here_tw HP.out HGt.out HGl.out).mono ?_; rintro e w5 ⟨d5, c5, L1, R1, F1, rfl, h1, h2⟩; have HQs := hide h1; have HQm := hide h2; clear h1 h2) | (go_at_call 40; refine (rhere_at HQs.out HGt.out HGl.out).mono ?_; rintro e w6 ⟨d6, c6, rfl, h1⟩; have HQ2 := hide h1; clear h1) | (go_at_call 38; obtain ⟨L2, R2, h1, h2⟩ := HQ2.out.cf; refine (texts_at h1 (h2 _ (.tail _ HQm.out)) (h2 _ (.head _)) HGt.out).mono ?_; rintro e w7 ⟨rfl, hg⟩; have HG8 := hide (gr_then h1.cx.grown hg); clear hg h1 h2) | (go_at_call 41; refine (wakes_at _).mono ?_; rintro e w9 ⟨rfl, hg⟩; have HG9 := hide (gr_then HG8.out hg); clear hg)))
        go_ret
        exact ⟨rfl, HG9.out⟩
      · (go_wp2_with (first | (go_at_call 39; refine (here_tw HP.out HGt.out HGl.out).mono ?_; rintro e w5 ⟨d5, c5, L1, R1, F1, rfl, h1, h2⟩; have HQs := hide h1; have HQm := hide h2; clear h1 h2) | (go_at_call 40; refine (rhere_at HQs.out HGt.out HGl.out).mono ?_; rintro e w6 ⟨d6, c6, rfl, h1⟩; have HQ2 := hide h1; clear h1) | (go_at_call 38; obtain ⟨L2, R2, h1, h2⟩ := HQ2.out.cf; refine (texts_at h1 (h2 _ (.tail _ HQm.out)) (h2 _ (.head _)) HGt.out).mono ?_; rintro e w7 ⟨rfl, hg⟩; have HG8 := hide (gr_then h1.cx.grown hg); clear hg h1 h2) | (go_at_call 41; refine (wakes_at _).mono ?_; rintro e w9 ⟨rfl, hg⟩; have HG9 := hide (gr_then HG8.out hg); clear hg)))
        go_ret
        exact ⟨rfl, HG9.out⟩
    have q1 : (i : Int) < l0.length := by omega
    have q2 : (i : Int) < 200 := by omega
    obtain ⟨x, hx⟩ : ∃ x, l0[i]? = some x := ⟨l0[i]'hgo.1, List.getElem?_eq_getElem hgo.1⟩
    obtain ⟨ad, e9, hel⟩ := HS0.out.el spC_len (by decide) hx
    subst e9
    obtain ⟨B, hB⟩ : ∃ B, ad.add (i * 3) = B := ⟨_, rfl⟩
    rw [hB] at hel
    have hok := HN0.out x (List.mem_of_getElem? hx)
    obtain ⟨kk, s, nn⟩ := x
    have HEL := hide (fun W (hW : w.grownBy W none) j u (hu : ([.int .i64 kk, .string (bs s), .int .i64 nn] : List Value)[j]? = some u) => hW.cell (hel j u hu) (by simp))
    have hs9 : s.length ≤ maxLen := hok.s
    have hs1 : (s.length : Int) ≤ 9223372036854775807 := by unfold maxLen at hs9; omega
    have hsz := bs_size s
    have HI2 := hide (show i < l0.length ∧ i < 200 from hgo)
    have j1 : i < l0.length := hgo.1
    obtain ⟨x, hxe⟩ : ∃ x : Sp3, (⟨kk, s, nn⟩ : Sp3) = x := ⟨_, rfl⟩
    have hxc : spC x = [.int .i64 kk, .string (bs s), .int .i64 nn] := by rw [← hxe]; rfl
    obtain ⟨L1, R1, F1, hcf, hb⟩ := HP.out.loc
    have HC := hide hcf
    have HB := hide hb
    clear hcf hb hx hel hok hs9 hgo HP hxe hi2
    go_upto_region 8 with (first | (refine at_load 44 rfl ?_; refine wl_run rfl 44 _ rfl rfl (run_load_s tySTP _ [.int .i64 kk, .string (bs s), .int .i64 nn] rfl (HEL.out _ HC.out.cx.grown)) ?_) | (refine at_alloc 44 rfl ?_; refine cf_alloc rfl 44 rfl _ zSTP HC.out ?_; intro xb w' hn hc; (replace HC := hide hc; clear hc)) | (refine at_store 44 rfl ?_; refine cf_store rfl 44 _ _ rfl rfl rfl tySTP.sz rfl HC.out (by repeat (first | exact List.Mem.head _ | apply List.Mem.tail)) (by exact PutS.all _ _ rfl) (by repeat (first | exact Upd.here _ _ _ | apply Upd.there)) ?_; intro w' hc; (replace HC := hide hc; clear hc)))

    have HP := hide (HB.out _ _ HC.out)
    clear HB HC
    by_cases h5 : 5000 < s.length
    · have h6 : (5000 : Int) < s.length := by omega
      clear h5
      go_wp2_with (refine at_load 9 rfl ?_; refine wl_cell rfl 9 _ rfl tcSTR rfl (HP.out.cell (.head _) (by repeat (first | exact GetS.cons _ (GetS.nil _) | apply GetS.skip))) ?_)
      exact ⟨⟨i + 1, _, by omega, by have := HI2.out; omega, by go_num, HG, hide HP.out.drop⟩, by simp [intOf]; omega⟩
    have h6 : ¬ (5000 : Int) < s.length := by omega
    have HSl := hide (show s.length ≤ 5000 by omega)
    clear h5
    by_cases e0 : kk = 0
    · have t0 : (kk == 0) = true := by simpa using e0
      have HG2 := hide HG.out.opn
      obtain ⟨E, hE⟩ : ∃ E, (if M.length = 64 then (4 : Int) else 0) = E := ⟨_, rfl⟩
      have HE := hide hE
      obtain ⟨M2, hM2⟩ : ∃ M2, opnM M = M2 := ⟨_, rfl⟩
      rw [hM2] at HG2
      have HM2 := hide hM2
      (obtain ⟨ff, hff⟩ : ∃ o, fndS M2 s = o := ⟨_, rfl⟩; obtain ⟨v1, hv1⟩ : ∃ v, fN ff = v := ⟨_, rfl⟩; obtain ⟨v2, hv2⟩ : ∃ v : Int, (fL ff : Int) = v := ⟨_, rfl⟩; obtain ⟨dd, hdd⟩ : ∃ d, ((M2).length : Int) - 1 = d := ⟨_, rfl⟩; have HF := hide hff; have HF1 := hide hv1; have HF2 := hide hv2; have HDp := hide hdd; clear hff hv1 hv2 hdd)
      clear e0 hE hM2
      go_wp2_with (first | (go_at_call 27; obtain ⟨L1, R1, h1, h2⟩ := HP.out.ps; refine (open_at h1 HG.out.le).mono ?_; rw [HE.out]; rintro e w2 ⟨rfl, h⟩; replace HP := hide (h2 M2 _ (by rw [← HM2.out]; exact h)); clear h h1 h2) | (go_at_call 28; obtain ⟨L1, R1, F1, h1, h2⟩ := HP.out.qs; refine (ropen_at h1 HG.out.le).mono ?_; rw [HE.out]; rintro e w2 ⟨rfl, h⟩; replace HP := hide (h2 M2 _ (by rw [← HM2.out]; exact h)); clear h h1 h2) | (go_at_call 34; obtain ⟨L1, R1, h1, h2⟩ := HP.out.ps; refine (find_at h1 HG2.out.gd HG2.out.le s HSl.out).mono ?_; rw [fndV_eq, HF.out, HF1.out, HF2.out]; rintro e w' ⟨rfl, hw⟩; replace hw := hw.symm; subst hw; clear h1 h2) | (go_at_call 35; obtain ⟨L1, R1, F1, h1, h2⟩ := HP.out.qs; refine (rfind_at h1 HG2.out.gd HG2.out.le s).mono ?_; rw [fndV_eq, HF.out, HF1.out, HF2.out]; rintro e w' ⟨rfl, hw⟩; replace hw := hw.symm; subst hw; clear h1 h2) | (go_at_call 36; obtain ⟨L1, R1, h1, h2⟩ := HP.out.ps; refine (depth_at h1 HG2.out.le).mono ?_; rw [HDp.out]; rintro e w' ⟨rfl, hw⟩; replace hw := hw.symm; subst hw; clear h1 h2) | (go_at_call 37; obtain ⟨L1, R1, F1, h1, h2⟩ := HP.out.qs; refine (rdepth_at h1 HG2.out.le).mono ?_; rw [HDp.out]; rintro e w' ⟨rfl, hw⟩; replace hw := hw.symm; subst hw; clear h1 h2) | (refine at_load 9 rfl ?_; refine wl_cell rfl 9 _ rfl tcSTR rfl (HP.out.cell (.head _) (by repeat (first | exact GetS.cons _ (GetS.nil _) | apply GetS.skip))) ?_) | (refine at_load 3 rfl ?_; refine wl_cell rfl 3 _ rfl tcINT rfl (HP.out.cell (.head _) (by repeat (first | exact GetS.cons _ (GetS.nil _) | apply GetS.skip))) ?_))
      (exact ⟨⟨i + 1, _, by omega, by have := HI2.out; omega, by go_num, HG2, hide HP.out.drop⟩, by simp [intOf]; omega⟩)
    have t0 : (kk == 0) = false := by simpa using e0
    match M, HG, HP with
    | [], HG, HP => exact absurd rfl HG.out.ne
    | l :: r, HG, HP =>
    by_cases e1 : kk = 1
    · have t1 : (kk == 1) = true := by simpa using e1
      obtain ⟨M2, hM2⟩ : ∃ M2, clsM (l :: r) = M2 := ⟨_, rfl⟩
      have HG2 := hide (show GM M2 by rw [← hM2]; exact HG.out.cls)
      obtain ⟨D, hD⟩ : ∃ D, decide (r ≠ []) = D := ⟨_, rfl⟩
      have HD := hide hD
      have HM2 := hide hM2
      (obtain ⟨ff, hff⟩ : ∃ o, fndS M2 s = o := ⟨_, rfl⟩; obtain ⟨v1, hv1⟩ : ∃ v, fN ff = v := ⟨_, rfl⟩; obtain ⟨v2, hv2⟩ : ∃ v : Int, (fL ff : Int) = v := ⟨_, rfl⟩; obtain ⟨dd, hdd⟩ : ∃ d, ((M2).length : Int) - 1 = d := ⟨_, rfl⟩; have HF := hide hff; have HF1 := hide hv1; have HF2 := hide hv2; have HDp := hide hdd; clear hff hv1 hv2 hdd)
      clear e0 e1 hD hM2
      go_wp2_with (first | (go_at_call 29; obtain ⟨L1, R1, h1, h2⟩ := HP.out.ps; refine (close_at h1 HG.out.gd HG.out.low).mono ?_; rw [HD.out, HM2.out]; rintro e w2 ⟨rfl, h⟩; replace HP := hide (h2 _ _ h); clear h h1 h2) | (go_at_call 30; obtain ⟨L1, R1, F1, h1, h2⟩ := HP.out.qs; refine (rclose_at h1 HG.out.low).mono ?_; rw [HD.out, HM2.out]; rintro e w2 ⟨rfl, h⟩; replace HP := hide (h2 _ _ h); clear h h1 h2) | (go_at_call 34; obtain ⟨L1, R1, h1, h2⟩ := HP.out.ps; refine (find_at h1 HG2.out.gd HG2.out.le s HSl.out).mono ?_; rw [fndV_eq, HF.out, HF1.out, HF2.out]; rintro e w' ⟨rfl, hw⟩; replace hw := hw.symm; subst hw; clear h1 h2) | (go_at_call 35; obtain ⟨L1, R1, F1, h1, h2⟩ := HP.out.qs; refine (rfind_at h1 HG2.out.gd HG2.out.le s).mono ?_; rw [fndV_eq, HF.out, HF1.out, HF2.out]; rintro e w' ⟨rfl, hw⟩; replace hw := hw.symm; subst hw; clear h1 h2) | (go_at_call 36; obtain ⟨L1, R1, h1, h2⟩ := HP.out.ps; refine (depth_at h1 HG2.out.le).mono ?_; rw [HDp.out]; rintro e w' ⟨rfl, hw⟩; replace hw := hw.symm; subst hw; clear h1 h2) | (go_at_call 37; obtain ⟨L1, R1, F1, h1, h2⟩ := HP.out.qs; refine (rdepth_at h1 HG2.out.le).mono ?_; rw [HDp.out]; rintro e w' ⟨rfl, hw⟩; replace hw := hw.symm; subst hw; clear h1 h2) | (refine at_load 9 rfl ?_; refine wl_cell rfl 9 _ rfl tcSTR rfl (HP.out.cell (.head _) (by repeat (first | exact GetS.cons _ (GetS.nil _) | apply GetS.skip))) ?_) | (refine at_load 3 rfl ?_; refine wl_cell rfl 3 _ rfl tcINT rfl (HP.out.cell (.head _) (by repeat (first | exact GetS.cons _ (GetS.nil _) | apply GetS.skip))) ?_))
      (exact ⟨⟨i + 1, _, by omega, by have := HI2.out; omega, by go_num, HG2, hide HP.out.drop⟩, by simp [intOf]; omega⟩)
    have t1 : (kk == 1) = false := by simpa using e1
    by_cases e2 : kk = 2
    · have t2 : (kk == 2) = true := by simpa using e2
      obtain ⟨E, hE⟩ : ∃ E, decE l s = E := ⟨_, rfl⟩
      have HE := hide hE
      obtain ⟨M2, hM2⟩ : ∃ M2, decL l s nn :: r = M2 := ⟨_, rfl⟩
      have HG2 := hide (show GM M2 by rw [← hM2]; exact HG.out.dec s nn)
      have HM2 := hide hM2
      (obtain ⟨ff, hff⟩ : ∃ o, fndS M2 s = o := ⟨_, rfl⟩; obtain ⟨v1, hv1⟩ : ∃ v, fN ff = v := ⟨_, rfl⟩; obtain ⟨v2, hv2⟩ : ∃ v : Int, (fL ff : Int) = v := ⟨_, rfl⟩; obtain ⟨dd, hdd⟩ : ∃ d, ((M2).length : Int) - 1 = d := ⟨_, rfl⟩; have HF := hide hff; have HF1 := hide hv1; have HF2 := hide hv2; have HDp := hide hdd; clear hff hv1 hv2 hdd)
      clear e0 e1 e2 hE hM2
      go_upto_region 17 with (first | (refine at_load 9 rfl ?_; refine wl_cell rfl 9 _ rfl tcSTR rfl (HP.out.cell (.head _) (by repeat (first | exact GetS.cons _ (GetS.nil _) | apply GetS.skip))) ?_) | (refine at_load 3 rfl ?_; refine wl_cell rfl 3 _ rfl tcINT rfl (HP.out.cell (.head _) (by repeat (first | exact GetS.cons _ (GetS.nil _) | apply GetS.skip))) ?_))
      replace HP := hide (HP.out.grow (d1_g _)); refine wp_region_inN (fun W => W.cell? ⟨xb, 1, none⟩ = some (.string (bs s)) ∧ W.cell? ⟨xb, 2, none⟩ = some (.int .i64 nn)) [12] (Pn.of [(1, 0), (1, 1), (1, 2), (1, 3), (1, 4), (1, 6), (1, 7), (1, 8), (1, 9), (1, 10), (2, 5), (2, 11), (0, 12)] .nil) (by kernel_rfl) (by kernel_rfl) (by kernel_rfl) (by kernel_rfl) (fun _ _ d _ _ h => by cases d <;> exact h) ⟨HP.out.cell (.head _) (by repeat (first | exact GetS.cons _ (GetS.nil _) | apply GetS.skip)), HP.out.cell (.head _) (by repeat (first | exact GetS.cons _ (GetS.nil _) | apply GetS.skip))⟩ ?_
      (refine inN_read (v := ?_) rfl (Or.inl ⟨by rfl, ?_⟩) ?_; rotate_left 1; (focus (intro W hSW; clear hSW; go_simp; (try (with_reducible rfl)))); (try simp only [Act.put, List.getElem_toArray, List.getElem_cons_zero, List.getElem_cons_succ, List.setIfInBounds_toArray, List.set_cons_zero, List.set_cons_succ]))
      (refine inN_read (v := ?_) rfl (Or.inl ⟨by rfl, ?_⟩) ?_; rotate_left 1; (focus (intro W hSW; clear hSW; go_simp; (try (with_reducible rfl)))); (try simp only [Act.put, List.getElem_toArray, List.getElem_cons_zero, List.getElem_cons_succ, List.setIfInBounds_toArray, List.set_cons_zero, List.set_cons_succ]))
      (refine inN_read rfl (yl_cell tcSTR rfl rfl rfl (fun W hS => hS.1)) ?_; (try simp only [Act.put, List.getElem_toArray, List.getElem_cons_zero, List.getElem_cons_succ, List.setIfInBounds_toArray, List.set_cons_zero, List.set_cons_succ]))
      (refine inN_read (v := ?_) rfl (Or.inl ⟨by rfl, ?_⟩) ?_; rotate_left 1; (focus (intro W hSW; clear hSW; go_simp; (try (with_reducible rfl)))); (try simp only [Act.put, List.getElem_toArray, List.getElem_cons_zero, List.getElem_cons_succ, List.setIfInBounds_toArray, List.set_cons_zero, List.set_cons_succ]))
      (refine inN_read rfl (yl_cell tcINT rfl rfl rfl (fun W hS => hS.2)) ?_; (try simp only [Act.put, List.getElem_toArray, List.getElem_cons_zero, List.getElem_cons_succ, List.setIfInBounds_toArray, List.set_cons_zero, List.set_cons_succ]))
      (refine inN_read (v := ?_) rfl (Or.inl ⟨by rfl, ?_⟩) ?_; rotate_left 1; (focus (intro W hSW; clear hSW; go_simp; (try (with_reducible rfl)))); (try simp only [Act.put, List.getElem_toArray, List.getElem_cons_zero, List.getElem_cons_succ, List.setIfInBounds_toArray, List.set_cons_zero, List.set_cons_succ]))
      (refine inN_read (v := ?_) rfl (Or.inl ⟨by rfl, ?_⟩) ?_; rotate_left 1; (focus (intro W hSW; clear hSW; go_simp; (try (with_reducible rfl)))); (try simp only [Act.put, List.getElem_toArray, List.getElem_cons_zero, List.getElem_cons_succ, List.setIfInBounds_toArray, List.set_cons_zero, List.set_cons_succ]))
      (refine inN_read rfl (yl_cell tcSTR rfl rfl rfl (fun W hS => hS.1)) ?_; (try simp only [Act.put, List.getElem_toArray, List.getElem_cons_zero, List.getElem_cons_succ, List.setIfInBounds_toArray, List.set_cons_zero, List.set_cons_succ]))
      (refine inN_read (v := ?_) rfl (Or.inl ⟨by rfl, ?_⟩) ?_; rotate_left 1; (focus (intro W hSW; clear hSW; go_simp; (try (with_reducible rfl)))); (try simp only [Act.put, List.getElem_toArray, List.getElem_cons_zero, List.getElem_cons_succ, List.setIfInBounds_toArray, List.set_cons_zero, List.set_cons_succ]))
      (refine inN_read rfl (yl_cell tcINT rfl rfl rfl (fun W hS => hS.2)) ?_; (try simp only [Act.put, List.getElem_toArray, List.getElem_cons_zero, List.getElem_cons_succ, List.setIfInBounds_toArray, List.set_cons_zero, List.set_cons_succ]))
      refine inN_act rfl rfl (fun K' hK => ?_); go_simp; (obtain ⟨L1, R1, h1, h2⟩ := HP.out.ps; refine (declare_at h1 HG.out.gd HG.out.low s HSl.out nn).mono ?_; rw [HE.out]; rintro e w2 ⟨rfl, h⟩; replace HP := hide (h2 _ _ h); clear h h1 h2); go_simp; refine hK _ _ (.inr (fun _ => ⟨HP.out.cell (.head _) (by repeat (first | exact GetS.cons _ (GetS.nil _) | apply GetS.skip)), HP.out.cell (.head _) (by repeat (first | exact GetS.cons _ (GetS.nil _) | apply GetS.skip))⟩)) ?_; clear hK K'; (try simp only [Act.put, List.getElem_toArray, List.getElem_cons_zero, List.getElem_cons_succ, List.setIfInBounds_toArray, List.set_cons_zero, List.set_cons_succ])
      refine inN_act rfl rfl (fun K' hK => ?_); go_simp; (obtain ⟨L1, R1, F1, h1, h2⟩ := HP.out.qs; refine (rdeclare_at h1 HG.out.gd HG.out.low s HSl.out nn).mono ?_; rw [HE.out]; rintro e w2 ⟨rfl, h⟩; replace HP := hide (h2 _ _ h); clear h h1 h2); go_simp; refine hK _ _ (.inr (fun _ => ⟨HP.out.cell (.head _) (by repeat (first | exact GetS.cons _ (GetS.nil _) | apply GetS.skip)), HP.out.cell (.head _) (by repeat (first | exact GetS.cons _ (GetS.nil _) | apply GetS.skip))⟩)) ?_; clear hK K'; (try simp only [Act.put, List.getElem_toArray, List.getElem_cons_zero, List.getElem_cons_succ, List.setIfInBounds_toArray, List.set_cons_zero, List.set_cons_succ])
      (refine inN_pure (v := ?_) rfl (Or.inl ⟨by rfl, ?_⟩) ?_; rotate_left 1; (focus (intro W hSW; clear hSW; go_simp; (try (with_reducible rfl)))); (try simp only [Act.put, List.getElem_toArray, List.getElem_cons_zero, List.getElem_cons_succ, List.setIfInBounds_toArray, List.set_cons_zero, List.set_cons_succ]))
      refine inN_end ?_
      rw [HM2.out] at HP
      go_wp2_with (first | (go_at_call 34; obtain ⟨L1, R1, h1, h2⟩ := HP.out.ps; refine (find_at h1 HG2.out.gd HG2.out.le s HSl.out).mono ?_; rw [fndV_eq, HF.out, HF1.out, HF2.out]; rintro e w' ⟨rfl, hw⟩; replace hw := hw.symm; subst hw; clear h1 h2) | (go_at_call 35; obtain ⟨L1, R1, F1, h1, h2⟩ := HP.out.qs; refine (rfind_at h1 HG2.out.gd HG2.out.le s).mono ?_; rw [fndV_eq, HF.out, HF1.out, HF2.out]; rintro e w' ⟨rfl, hw⟩; replace hw := hw.symm; subst hw; clear h1 h2) | (go_at_call 36; obtain ⟨L1, R1, h1, h2⟩ := HP.out.ps; refine (depth_at h1 HG2.out.le).mono ?_; rw [HDp.out]; rintro e w' ⟨rfl, hw⟩; replace hw := hw.symm; subst hw; clear h1 h2) | (go_at_call 37; obtain ⟨L1, R1, F1, h1, h2⟩ := HP.out.qs; refine (rdepth_at h1 HG2.out.le).mono ?_; rw [HDp.out]; rintro e w' ⟨rfl, hw⟩; replace hw := hw.symm; subst hw; clear h1 h2) | (refine at_load 9 rfl ?_; refine wl_cell rfl 9 _ rfl tcSTR rfl (HP.out.cell (.head _) (by repeat (first | exact GetS.cons _ (GetS.nil _) | apply GetS.skip))) ?_) | (refine at_load 3 rfl ?_; refine wl_cell rfl 3 _ rfl tcINT rfl (HP.out.cell (.head _) (by repeat (first | exact GetS.cons _ (GetS.nil _) | apply GetS.skip))) ?_))
      (exact ⟨⟨i + 1, _, by omega, by have := HI2.out; omega, by go_num, HG2, hide HP.out.drop⟩, by simp [intOf]; omega⟩)
    have t2 : (kk == 2) = false := by simpa using e2
    by_cases e4 : kk = 4
    · have t4 : (kk == 4) = true := by simpa using e4
      clear e0 e1 e2 e4
      go_wp2_with (first | (refine at_load 9 rfl ?_; refine wl_cell rfl 9 _ rfl tcSTR rfl (HP.out.cell (.head _) (by repeat (first | exact GetS.cons _ (GetS.nil _) | apply GetS.skip))) ?_) | (refine at_load 3 rfl ?_; refine wl_cell rfl 3 _ rfl tcINT rfl (HP.out.cell (.head _) (by repeat (first | exact GetS.cons _ (GetS.nil _) | apply GetS.skip))) ?_))
      have HGr := hide (show Gd r ∧ r.length < 64 from ⟨(gd_cons.1 HG.out.gd).2, HG.out.low⟩)
      have HG1 := HG
      have HP1 := HP
      clear HG HP
      go_loopw [7] (fun jv W => ∃ (j : Nat) (l : Lv1), j ≤ 260 ∧ jv = .int .i64 j ∧ Hid (GM (l :: r)) ∧ Hid (TW w b mb q (l :: r) (l :: r) [⟨xb, [.int .i64 kk, .string (bs s), .int .i64 nn], 44⟩] [] W)) (fun jv _ => 260 - (intOf jv).toNat)
      case atStart => exact ⟨0, l, by omega, rfl, HG1, HP1⟩
      case round =>
        clear HG1 HP1
        obtain ⟨j, l, hj, rfl, HG, HP⟩ := hrel
        by_cases hlt : (j : Int) < nn ∧ j < 260
        · have j2 : (j : Int) < nn := hlt.1
          have j3 : (j : Int) < 260 := by omega
          have HJ := hide (show j < 300 by omega)
          have HSm := hide (show (mdN j).length ≤ 5000 by rw [mdN_len]; decide)
          obtain ⟨E, hE⟩ : ∃ E, decE l (mdN j) = E := ⟨_, rfl⟩
          have HE := hide hE
          have M1 : Hid True := hide trivial
          have HJ2 := hide hlt.2
          clear hE hlt
          go_wp2_with (first | (go_at_call 33; refine (made_at j HJ.out _).mono ?_; rintro e w4 ⟨rfl, hg⟩; replace HP := hide (HP.out.grow hg); clear hg) | (go_at_call 31; obtain ⟨L1, R1, h1, h2⟩ := HP.out.ps; refine (declare_at h1 HG.out.gd HG.out.low (mdN j) HSm.out (j : Int)).mono ?_; rw [HE.out]; rintro e w2 ⟨rfl, h⟩; replace HP := hide (h2 _ _ h); clear h h1 h2) | (go_at_call 32; obtain ⟨L1, R1, F1, h1, h2⟩ := HP.out.qs; refine (rdeclare_at h1 HG.out.gd HG.out.low (mdN j) HSm.out (j : Int)).mono ?_; rw [HE.out]; rintro e w2 ⟨rfl, h⟩; replace HP := hide (h2 _ _ h); clear h h1 h2) | (refine at_load 3 rfl ?_; refine wl_cell rfl 3 _ rfl tcINT rfl (HP.out.cell (.head _) (by repeat (first | exact GetS.cons _ (GetS.nil _) | apply GetS.skip))) ?_))
          exact ⟨⟨j + 1, _, by have := HJ2.out; omega, by go_num, hide (HG.out.dec (mdN j) (j : Int)), HP⟩, by have := HJ2.out; simp [intOf]; omega⟩
        · have hor : ¬ (j : Int) < nn ∨ ((j : Int) < nn ∧ ¬ (j : Int) < 260) := by omega
          have HG2 := HG
          (obtain ⟨ff, hff⟩ : ∃ o, fndS (l :: r) s = o := ⟨_, rfl⟩; obtain ⟨v1, hv1⟩ : ∃ v, fN ff = v := ⟨_, rfl⟩; obtain ⟨v2, hv2⟩ : ∃ v : Int, (fL ff : Int) = v := ⟨_, rfl⟩; obtain ⟨dd, hdd⟩ : ∃ d, (((l :: r)).length : Int) - 1 = d := ⟨_, rfl⟩; have HF := hide hff; have HF1 := hide hv1; have HF2 := hide hv2; have HDp := hide hdd; clear hff hv1 hv2 hdd)
          clear hlt hj
          rcases hor with q5 | ⟨q5, q6⟩
          · go_wp2_with (first | (go_at_call 34; obtain ⟨L1, R1, h1, h2⟩ := HP.out.ps; refine (find_at h1 HG2.out.gd HG2.out.le s HSl.out).mono ?_; rw [fndV_eq, HF.out, HF1.out, HF2.out]; rintro e w' ⟨rfl, hw⟩; replace hw := hw.symm; subst hw; clear h1 h2) | (go_at_call 35; obtain ⟨L1, R1, F1, h1, h2⟩ := HP.out.qs; refine (rfind_at h1 HG2.out.gd HG2.out.le s).mono ?_; rw [fndV_eq, HF.out, HF1.out, HF2.out]; rintro e w' ⟨rfl, hw⟩; replace hw := hw.symm; subst hw; clear h1 h2) | (go_at_call 36; obtain ⟨L1, R1, h1, h2⟩ := HP.out.ps; refine (depth_at h1 HG2.out.le).mono ?_; rw [HDp.out]; rintro e w' ⟨rfl, hw⟩; replace hw := hw.symm; subst hw; clear h1 h2) | (go_at_call 37; obtain ⟨L1, R1, F1, h1, h2⟩ := HP.out.qs; refine (rdepth_at h1 HG2.out.le).mono ?_; rw [HDp.out]; rintro e w' ⟨rfl, hw⟩; replace hw := hw.symm; subst hw; clear h1 h2) | (refine at_load 9 rfl ?_; refine wl_cell rfl 9 _ rfl tcSTR rfl (HP.out.cell (.head _) (by repeat (first | exact GetS.cons _ (GetS.nil _) | apply GetS.skip))) ?_) | (refine at_load 3 rfl ?_; refine wl_cell rfl 3 _ rfl tcINT rfl (HP.out.cell (.head _) (by repeat (first | exact GetS.cons _ (GetS.nil _) | apply GetS.skip))) ?_))
            (exact ⟨⟨i + 1, _, by omega, by have := HI2.out; omega, by go_num, HG2, hide HP.out.drop⟩, by simp [intOf]; omega⟩)
          · go_wp2_with (first | (go_at_call 34; obtain ⟨L1, R1, h1, h2⟩ := HP.out.ps; refine (find_at h1 HG2.out.gd HG2.out.le s HSl.out).mono ?_; rw [fndV_eq, HF.out, HF1.out, HF2.out]; rintro e w' ⟨rfl, hw⟩; replace hw := hw.symm; subst hw; clear h1 h2) | (go_at_call 35; obtain ⟨L1, R1, F1, h1, h2⟩ := HP.out.qs; refine (rfind_at h1 HG2.out.gd HG2.out.le s).mono ?_; rw [fndV_eq, HF.out, HF1.out, HF2.out]; rintro e w' ⟨rfl, hw⟩; replace hw := hw.symm; subst hw; clear h1 h2) | (go_at_call 36; obtain ⟨L1, R1, h1, h2⟩ := HP.out.ps; refine (depth_at h1 HG2.out.le).mono ?_; rw [HDp.out]; rintro e w' ⟨rfl, hw⟩; replace hw := hw.symm; subst hw; clear h1 h2) | (go_at_call 37; obtain ⟨L1, R1, F1, h1, h2⟩ := HP.out.qs; refine (rdepth_at h1 HG2.out.le).mono ?_; rw [HDp.out]; rintro e w' ⟨rfl, hw⟩; replace hw := hw.symm; subst hw; clear h1 h2) | (refine at_load 9 rfl ?_; refine wl_cell rfl 9 _ rfl tcSTR rfl (HP.out.cell (.head _) (by repeat (first | exact GetS.cons _ (GetS.nil _) | apply GetS.skip))) ?_) | (refine at_load 3 rfl ?_; refine wl_cell rfl 3 _ rfl tcINT rfl (HP.out.cell (.head _) (by repeat (first | exact GetS.cons _ (GetS.nil _) | apply GetS.skip))) ?_))
            (exact ⟨⟨i + 1, _, by omega, by have := HI2.out; omega, by go_num, HG2, hide HP.out.drop⟩, by simp [intOf]; omega⟩)
    · have t4 : (kk == 4) = false := by simpa using e4
      have HG2 := HG
      (obtain ⟨ff, hff⟩ : ∃ o, fndS (l :: r) s = o := ⟨_, rfl⟩; obtain ⟨v1, hv1⟩ : ∃ v, fN ff = v := ⟨_, rfl⟩; obtain ⟨v2, hv2⟩ : ∃ v : Int, (fL ff : Int) = v := ⟨_, rfl⟩; obtain ⟨dd, hdd⟩ : ∃ d, (((l :: r)).length : Int) - 1 = d := ⟨_, rfl⟩; have HF := hide hff; have HF1 := hide hv1; have HF2 := hide hv2; have HDp := hide hdd; clear hff hv1 hv2 hdd)
      clear e0 e1 e2 e4
      go_wp2_with (first | (go_at_call 34; obtain ⟨L1, R1, h1, h2⟩ := HP.out.ps; refine (find_at h1 HG2.out.gd HG2.out.le s HSl.out).mono ?_; rw [fndV_eq, HF.out, HF1.out, HF2.out]; rintro e w' ⟨rfl, hw⟩; replace hw := hw.symm; subst hw; clear h1 h2) | (go_at_call 35; obtain ⟨L1, R1, F1, h1, h2⟩ := HP.out.qs; refine (rfind_at h1 HG2.out.gd HG2.out.le s).mono ?_; rw [fndV_eq, HF.out, HF1.out, HF2.out]; rintro e w' ⟨rfl, hw⟩; replace hw := hw.symm; subst hw; clear h1 h2) | (go_at_call 36; obtain ⟨L1, R1, h1, h2⟩ := HP.out.ps; refine (depth_at h1 HG2.out.le).mono ?_; rw [HDp.out]; rintro e w' ⟨rfl, hw⟩; replace hw := hw.symm; subst hw; clear h1 h2) | (go_at_call 37; obtain ⟨L1, R1, F1, h1, h2⟩ := HP.out.qs; refine (rdepth_at h1 HG2.out.le).mono ?_; rw [HDp.out]; rintro e w' ⟨rfl, hw⟩; replace hw := hw.symm; subst hw; clear h1 h2) | (refine at_load 9 rfl ?_; refine wl_cell rfl 9 _ rfl tcSTR rfl (HP.out.cell (.head _) (by repeat (first | exact GetS.cons _ (GetS.nil _) | apply GetS.skip))) ?_) | (refine at_load 3 rfl ?_; refine wl_cell rfl 3 _ rfl tcINT rfl (HP.out.cell (.head _) (by repeat (first | exact GetS.cons _ (GetS.nil _) | apply GetS.skip))) ?_))
      (exact ⟨⟨i + 1, _, by omega, by have := HI2.out; omega, by go_num, HG2, hide HP.out.drop⟩, by simp [intOf]; omega⟩)
end Go.Proofs.Ytmoekalagollhaa.So
