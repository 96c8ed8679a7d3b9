/-
  Layout: fields apart from one another, purely.
  Layout's laws: LayoutApart, where nothing is asked, and where a record is too large.
  Layout's laws: LayoutApart, walked.
  Layout's laws: LayoutApart, for every input.
-/
import Derived.Test.YtnolelgmcmgohaaY10
import Derived.Test.YtnolelgmcmgohaaY12
namespace Go.Proofs.Ytnolelgmcmgohaa.Ty
open Go.RowKit hiding Hid
open Go.Proofs.Ytnolelgmcmgohaa.Tx Go.Proofs.Ytnolelgmcmgohaa.Lx Go.Proofs.Ytnolelgmcmgohaa.Tr
set_option linter.unusedVariables false
set_option linter.unusedSimpArgs false

/- A record among the bases of another (or it itself). -/
structure Chn (T : List Tt) (s : Int → Int) (na a nj j : Nat) : Prop where
  lv : Lv T nj j
  nd : (nmsL T nj j).Nodup
  eq : ∀ nm ∈ nmsL T nj j, fndB T s nm na a = fndB T s nm nj j
  le : s (j : Int) ≤ 32768
theorem nms_one {T : List Tt} : ∀ {n j : Nat} {x : Tt}, T[j]? = some x → ∃ R, nmsL T n j = x.fl.map (·.n) ++ R
  | 0, j, x, h => ⟨[], by rw [nmsL, nmA_at h, List.append_nil]⟩
  | n + 1, j, x, h => ⟨nmsL T n (baA T j), by rw [nmsL, nmA_at h]⟩
theorem Chn.start {T : List Tt} {s : Int → Int} (g : GoodP T) {a : Nat} {x : Tt} (hx : T[a]? = some x) (hf : x.fm = 9) (h : s (a : Int) ≤ 32768) : ∃ n, Lv T n a ∧ Chn T s n a n a := by
  obtain ⟨_, n, _, hl, hd⟩ := g.rcd a x hx hf
  exact ⟨n, hl, hl, hd, fun _ _ => rfl, h⟩
theorem Chn.next {T : List Tt} {s : Int → Int} (hs : Szs T s) {na a nj j : Nat} (h : Chn T s na a nj j) {x : Tt} (hx : T[j]? = some x) (hf : x.fm = 9) (h0 : x.ba ≠ 0) : ∃ m, Chn T s na a m x.ba.toNat ∧ 0 ≤ x.ba := by
  obtain ⟨hl, hd, he, hle⟩ := h
  cases nj with
  | zero =>
    obtain ⟨y, hy, e⟩ := hl
    rw [hx] at hy
    cases hy
    exact absurd e h0
  | succ m =>
    obtain ⟨y, hy, _, hp, hl2⟩ := hl
    rw [hx] at hy
    cases hy
    rw [nmsL, nmA_at hx, baA_at hx] at hd he
    have hd' := List.nodup_append.1 hd
    refine ⟨m, ⟨hl2, hd'.2.1, fun nm hn => ?_, ?_⟩, hp⟩
    · rw [he nm (List.mem_append.2 (.inr hn))]
      refine fndB_go hx (fndL_none (fun f hf e => ?_))
      exact hd'.2.2 f.n (List.mem_map.2 ⟨f, hf, rfl⟩) nm hn e
    · have := (rec_le hs hx hf hle).2
      rw [Int.toNat_of_nonneg hp]
      exact this
/- Where the i-th field lies. -/
def posF (s : Int → Int) (x : Tt) (i : Nat) (t : Int) : Int := atF (layE s (s x.ba) ((flT x).take i)) t
theorem Chn.field {T : List Tt} {s : Int → Int} {na a nj j : Nat} (h : Chn T s na a nj j) {x : Tt} (hx : T[j]? = some x) {i : Nat} {f : Fl} (hi : x.fl[i]? = some f) : fndB T s f.n nj j = some (posF s x i f.t, f.t) ∧ fndB T s f.n na a = some (posF s x i f.t, f.t) := by
  obtain ⟨R, hR⟩ := nms_one (n := nj) hx
  have hd := h.nd
  rw [hR] at hd
  have hd1 := (List.nodup_append.1 hd).1
  have hne : ∀ g ∈ x.fl.take i, g.n ≠ f.n := fun g hg e => by
    rw [rest_one (f := fun f : Fl => f.n) hi] at hd1
    exact nodup_not (List.mem_map.2 ⟨g, hg, e⟩) hd1
  have h1 := fndL_hit (s := s) (e := s x.ba) hi rfl hne
  have h2 : fndB T s f.n nj j = some (posF s x i f.t, f.t) := by
    rw [fndB_hit hx h1]
    unfold posF flT
    rw [List.map_take]
  exact ⟨h2, by rw [h.eq f.n (by rw [hR]; exact List.mem_append.2 (.inl (List.mem_map.2 ⟨f, List.mem_of_getElem? hi, rfl⟩)))]; exact h2⟩
theorem szs_12 {T : List Tt} (g : GoodP T) {s : Int → Int} (hs : Szs T s) {t : Int} (ht : packF t = true) : s t = 1 := by
  have h7 := g.loc.lo
  unfold packF at ht
  simp only [Bool.or_eq_true, beq_iff_eq] at ht
  have one : ∀ i : Nat, i = 2 ∨ i = 3 → s (i : Int) = 1 := fun i hi => by
    obtain ⟨x, hx⟩ : ∃ x, T[i]? = some x := ⟨T[i]'(by omega), List.getElem?_eq_getElem _⟩
    have hf := (g.loc.form (by omega) hx).1
    rw [hs.eq i x hx]
    unfold szX
    rw [if_neg (by omega), if_pos (by omega)]
    rfl
  rcases ht with rfl | rfl
  · exact one 2 (.inl rfl)
  · exact one 3 (.inr rfl)
theorem up4_mod (n : Int) : up4 n % 4 = 0 := by unfold up4; omega
/- The i-th field's bytes: behind those ahead of it, within the record, on a word's boundary. -/
theorem pos_bd {T : List Tt} (g : GoodP T) {s : Int → Int} (hs : Szs T s) {j : Nat} {x : Tt} (hx : T[j]? = some x) (hf : x.fm = 9) (hle : s (j : Int) ≤ 32768) {i : Nat} {t : Int} (hi : (flT x)[i]? = some t) :
    layE s (s x.ba) ((flT x).take i) ≤ posF s x i t ∧ s x.ba ≤ layE s (s x.ba) ((flT x).take i) ∧ posF s x i t + s t = layE s (s x.ba) ((flT x).take (i + 1)) ∧ posF s x i t + s t ≤ s (j : Int) ∧ (1 < s t → posF s x i t % 4 = 0) := by
  have h1 := layE_take (s := s) (s x.ba) hi
  have h2 := layE_take_le hs.lo (flT x) (i + 1) (s x.ba)
  have h3 := layE_le hs.lo ((flT x).take i) (s x.ba)
  have h4 := hs.eq j x hx
  have h5 : szX s x = up4 (layE s (s x.ba) (flT x)) := by
    unfold szX
    rw [if_neg (by omega), if_neg (by omega), if_neg (by omega), if_pos hf]
  rw [h5] at h4
  have h6 := up4_le (layE s (s x.ba) (flT x))
  have h7 : s (j : Int) = up4 (layE s (s x.ba) (flT x)) := by unfold capS at h4; omega
  unfold posF
  refine ⟨atF_le _ _, h3, h1.symm, by omega, fun h => ?_⟩
  cases hp : packF t with
  | true => have := szs_12 g hs hp; omega
  | false => unfold atF; rw [hp]; exact up4_mod _
theorem rec_mod {T : List Tt} {s : Int → Int} (hs : Szs T s) {j : Nat} {x : Tt} (hx : T[j]? = some x) (hf : x.fm = 9) (hle : s (j : Int) ≤ 32768) : s (j : Int) % 4 = 0 := by
  have h4 := hs.eq j x hx
  have h5 : szX s x = up4 (layE s (s x.ba) (flT x)) := by
    unfold szX
    rw [if_neg (by omega), if_neg (by omega), if_neg (by omega), if_pos hf]
  rw [h5] at h4
  have h7 : s (j : Int) = up4 (layE s (s x.ba) (flT x)) := by unfold capS at h4; omega
  rw [h7]
  exact up4_mod _
theorem base_le {T : List Tt} {s : Int → Int} (hs : Szs T s) {j : Nat} {x : Tt} (hx : T[j]? = some x) (hf : x.fm = 9) (hle : s (j : Int) ≤ 32768) : s x.ba ≤ s (j : Int) := by
  have h4 := hs.eq j x hx
  have h5 : szX s x = up4 (layE s (s x.ba) (flT x)) := by
    unfold szX
    rw [if_neg (by omega), if_neg (by omega), if_neg (by omega), if_pos hf]
  rw [h5] at h4
  have h6 := up4_le (layE s (s x.ba) (flT x))
  have h3 := layE_le hs.lo (flT x) (s x.ba)
  unfold capS at h4
  omega
/- What is used, so far: nothing in the base's bytes, nothing behind the fields that were gone through. -/
def Free (U : List Int) (lo E hi : Int) : Prop := ∀ k : Nat, ((k : Int) < lo ∨ (E ≤ k ∧ (k : Int) < hi)) → mk U k = 0
theorem Free.less {U : List Int} {lo E hi lo' hi' : Int} (h : Free U lo E hi) (h1 : hi' ≤ lo) (h2 : lo' ≤ hi') : Free U lo' lo' hi' := fun k hk => h k (.inl (by omega))
theorem fd_of {T : List Tt} {s : Int → Int} {nm : Txt} {n j : Nat} {x : Tt} (hl : Lv T n j) (hx : T[j]? = some x) (hf : x.fm = 9) : FdI T s nm (fndB T s nm n j) j := fun y hy => by
  rw [hx] at hy
  cases hy
  exact ⟨fun _ => ⟨n, hl, rfl⟩, fun h => absurd hf h⟩
end Go.Proofs.Ytnolelgmcmgohaa.Ty
namespace Go.Proofs.Ytnolelgmcmgohaa.Ty
open Go.RowKit hiding Hid
open Go.Proofs.Ytnolelgmcmgohaa.Tx Go.Proofs.Ytnolelgmcmgohaa.Lx Go.Proofs.Ytnolelgmcmgohaa.Tr
set_option linter.unusedVariables false
set_option linter.unusedSimpArgs false
set_option maxRecDepth 100000

set_option maxHeartbeats 8000000 in
theorem lap_none {w : World} {o : Option Addr} {cp : Nat} {l : List La} (H : TabR w o l) (hl : l.length ≤ rch) (e : Int) (h : ¬ (GoodP (l.map La.x) ∧ inT l.length e = true)) : Calls Try.prog 10 #[.slice o l.length cp, .int .i64 e] w (SzO w (.bool true)) := by
  have hlen : l.length = (l.map La.x).length := (List.length_map _).symm
  rw [hlen] at h
  (obtain ⟨T, hT⟩ : ∃ T, l.map La.x = T := ⟨_, rfl⟩; rw [show l.length = T.length by rw [← hT, List.length_map]]; have HT := hide H; have HTe := hide hT; have HLl := hide hl; have HC := hide (Cx.start w (fun _ => False)); have kT : (T.length : Int) ≤ 140737488351232 := by (have : T.length = l.length := by rw [← hT, List.length_map]); unfold rch at hl; omega)
  rw [hT] at h
  clear hlen
  by_cases G : GoodP T
  case neg =>
    have HNg := hide G
    clear H hl hT h G
    go_enter Try.func10, Try.ntmps10
    go_wp2_with (first | (go_at_call 12; refine (large_T cp HTe.out (HT.out.kept HC.out.grown) HLl.out).mono ?_; rintro e w1 ⟨d, rfl, hg, hd⟩; replace HC := hide (HC.out.g hg); clear hg; cases d <;> (first | (have HFw := hide (hd rfl); clear hd) | clear hd)) | (go_at_call 25; refine (wakes14 _).mono ?_; rintro e w1 ⟨rfl, hg⟩; replace HC := hide (HC.out.g hg); clear hg) | (go_at_call 16; refine (rgood_at cp (by have h := HFw.out.tab HT.out; rw [HTe.out] at h; exact h.kept HC.out.grown)).mono ?_; rintro e w2 ⟨d, rfl, hg, hd⟩; replace HC := hide (HC.out.g hg); obtain rfl : d = false := (by cases d; rfl; exact absurd (hd.1 rfl) HNg.out); clear hg hd))
    all_goals go_ret
    all_goals (exact ⟨rfl, HC.out.grown⟩)
  have HG := hide G
  by_cases e0 : e < 0
  · clear H hl hT h G
    go_enter Try.func10, Try.ntmps10
    go_wp2_with (first | (go_at_call 12; refine (large_T cp HTe.out (HT.out.kept HC.out.grown) HLl.out).mono ?_; rintro e w1 ⟨d, rfl, hg, hd⟩; replace HC := hide (HC.out.g hg); clear hg; cases d <;> (first | (have HFw := hide (hd rfl); clear hd) | clear hd)) | (go_at_call 25; refine (wakes14 _).mono ?_; rintro e w1 ⟨rfl, hg⟩; replace HC := hide (HC.out.g hg); clear hg) | (go_at_call 16; refine (rgood_at cp (by have h := HFw.out.tab HT.out; rw [HTe.out] at h; exact h.kept HC.out.grown)).mono ?_; rintro e w2 ⟨d, rfl, hg, hd⟩; replace HC := hide (HC.out.g hg); obtain rfl : d = true := hd.2 HG.out; clear hg hd))
    all_goals go_ret
    all_goals (exact ⟨rfl, HC.out.grown⟩)
  have e1 : ¬ e < T.length := fun h1 => h ⟨G, by unfold inT; simp; omega⟩
  clear H hl hT h G
  go_enter Try.func10, Try.ntmps10
  go_wp2_with (first | (go_at_call 12; refine (large_T cp HTe.out (HT.out.kept HC.out.grown) HLl.out).mono ?_; rintro e w1 ⟨d, rfl, hg, hd⟩; replace HC := hide (HC.out.g hg); clear hg; cases d <;> (first | (have HFw := hide (hd rfl); clear hd) | clear hd)) | (go_at_call 25; refine (wakes14 _).mono ?_; rintro e w1 ⟨rfl, hg⟩; replace HC := hide (HC.out.g hg); clear hg) | (go_at_call 16; refine (rgood_at cp (by have h := HFw.out.tab HT.out; rw [HTe.out] at h; exact h.kept HC.out.grown)).mono ?_; rintro e w2 ⟨d, rfl, hg, hd⟩; replace HC := hide (HC.out.g hg); obtain rfl : d = true := hd.2 HG.out; clear hg hd))
  all_goals go_ret
  all_goals (exact ⟨rfl, HC.out.grown⟩)
set_option maxHeartbeats 8000000 in
/- No record. -/
theorem lap_form {w : World} {o : Option Addr} {cp : Nat} {l : List La} (H : TabR w o l) (hl : l.length ≤ rch) (q : Nat) (G0 : GoodP (l.map La.x)) (hq : q < l.length) (hf : fmA (l.map La.x) (q : Int) ≠ 9) : Calls Try.prog 10 #[.slice o l.length cp, .int .i64 q] w (SzO w (.bool true)) := by
  have hlen : l.length = (l.map La.x).length := (List.length_map _).symm
  rw [hlen] at hq
  (obtain ⟨T, hT⟩ : ∃ T, l.map La.x = T := ⟨_, rfl⟩; rw [show l.length = T.length by rw [← hT, List.length_map]]; have HT := hide H; have HTe := hide hT; have HLl := hide hl; have HC := hide (Cx.start w (fun _ => False)); have kT : (T.length : Int) ≤ 140737488351232 := by (have : T.length = l.length := by rw [← hT, List.length_map]); unfold rch at hl; omega)
  rw [hT] at G0 hq hf
  have HG := hide G0
  obtain ⟨ad, rfl, hfc⟩ := form_R hT H hq
  obtain ⟨B, hB⟩ : ∃ B, ad.add (q * 10) = B := ⟨_, rfl⟩
  rw [hB] at hfc
  obtain ⟨f, hf2⟩ : ∃ f, fmA T (q : Int) = f := ⟨_, rfl⟩
  rw [hf2] at hfc hf
  have HFc := hide hfc
  have n9 : (f == 9) = false := by simpa using hf
  have n9b : (f != 9) = true := by simpa using hf
  have j1 : (q : Int) < T.length := by omega
  clear H hl hT G0 hq hlen hfc hf hf2
  go_enter Try.func10, Try.ntmps10
  go_wp2_with (first | (go_at_call 12; refine (large_T cp HTe.out (HT.out.kept HC.out.grown) HLl.out).mono ?_; rintro e w1 ⟨d, rfl, hg, hd⟩; replace HC := hide (HC.out.g hg); clear hg; cases d <;> (first | (have HFw := hide (hd rfl); clear hd) | clear hd)) | (go_at_call 25; refine (wakes14 _).mono ?_; rintro e w1 ⟨rfl, hg⟩; replace HC := hide (HC.out.g hg); clear hg) | ((go_at_call 16; refine (rgood_at cp (by have h := HFw.out.tab HT.out; rw [HTe.out] at h; exact h.kept HC.out.grown)).mono ?_; rintro e w2 ⟨d, rfl, hg, hd⟩; replace HC := hide (HC.out.g hg); obtain rfl : d = true := hd.2 HG.out; clear hg hd); have f0 := HFc.out _ HC.out.grown; have bl := block_lt_of_cell f0))
  all_goals go_ret
  all_goals (exact ⟨rfl, HC.out.grown⟩)
set_option maxHeartbeats 8000000 in
theorem lap_big {w : World} {o : Option Addr} {cp : Nat} {l : List La} (H : TabR w o l) (hl : l.length ≤ rch) (q : Nat) (G0 : GoodP (l.map La.x)) (hq : q < l.length) (hf : fmA (l.map La.x) (q : Int) = 9) {s : Int → Int} (hs : Szs (l.map La.x) s) (hb : 32768 < s (q : Int)) : Calls Try.prog 10 #[.slice o l.length cp, .int .i64 q] w (SzO w (.bool true)) := by
  have hlen : l.length = (l.map La.x).length := (List.length_map _).symm
  rw [hlen] at hq
  (obtain ⟨T, hT⟩ : ∃ T, l.map La.x = T := ⟨_, rfl⟩; rw [show l.length = T.length by rw [← hT, List.length_map]]; have HT := hide H; have HTe := hide hT; have HLl := hide hl; have HC := hide (Cx.start w (fun _ => False)); have kT : (T.length : Int) ≤ 140737488351232 := by (have : T.length = l.length := by rw [← hT, List.length_map]); unfold rch at hl; omega)
  rw [hT] at G0 hq hf hs
  have HG := hide G0
  obtain ⟨ad, rfl, hfc⟩ := form_R hT H hq
  obtain ⟨B, hB⟩ : ∃ B, ad.add (q * 10) = B := ⟨_, rfl⟩
  rw [hB, hf] at hfc
  have HFc := hide hfc
  have j1 : (q : Int) < T.length := by omega
  have HSz := hide hs
  have HQ := hide hq
  have HZv := hide (show s (q : Int) = 32769 by have := hs.hi (q : Int); omega)
  clear H hl hT G0 hq hlen hfc hf hs hb
  go_enter Try.func10, Try.ntmps10
  go_wp2_with (first | (go_at_call 12; refine (large_T cp HTe.out (HT.out.kept HC.out.grown) HLl.out).mono ?_; rintro e w1 ⟨d, rfl, hg, hd⟩; replace HC := hide (HC.out.g hg); clear hg; cases d <;> (first | (have HFw := hide (hd rfl); clear hd) | clear hd)) | (go_at_call 25; refine (wakes14 _).mono ?_; rintro e w1 ⟨rfl, hg⟩; replace HC := hide (HC.out.g hg); clear hg) | ((go_at_call 16; refine (rgood_at cp (by have h := HFw.out.tab HT.out; rw [HTe.out] at h; exact h.kept HC.out.grown)).mono ?_; rintro e w2 ⟨d, rfl, hg, hd⟩; replace HC := hide (HC.out.g hg); obtain rfl : d = true := hd.2 HG.out; clear hg hd); have f0 := HFc.out _ HC.out.grown; have bl := block_lt_of_cell f0) | (go_at_call 14; refine (copy_T cp HTe.out (HT.out.kept HC.out.grown) HFw.out).mono ?_; rintro e wc ⟨oi, ci, rfl, hg, ht, hci⟩; replace HC := hide (HC.out.g hg); have HTi := hide ht; have HCi := hide hci; clear hg ht hci) | (go_at_call 26; refine (psize_good ci (HTi.out) HCi.out HG.out HSz.out HQ.out).mono ?_; rw [HZv.out]; rintro e w3 ⟨rfl, hg⟩; replace HC := hide (HC.out.g hg); clear hg))
  all_goals go_ret
  all_goals (exact ⟨rfl, HC.out.grown⟩)
end Go.Proofs.Ytnolelgmcmgohaa.Ty
namespace Go.Proofs.Ytnolelgmcmgohaa.Ty
open Go.RowKit hiding Hid
open Go.Proofs.Ytnolelgmcmgohaa.Tx Go.Proofs.Ytnolelgmcmgohaa.Lx Go.Proofs.Ytnolelgmcmgohaa.Tr
set_option linter.unusedVariables false
set_option linter.unusedSimpArgs false
set_option maxRecDepth 100000

theorem lap_cell {wc W : World} {ub : Nat} {U : List Int} {k : Nat} {v : Int} (H : Cx wc (fun _ => False) none [⟨ub, stC U, 3⟩] [] [] W) (hk : k < U.length) (hv : Ty.mk U k = v) : W.cell? ⟨ub, k, none⟩ = some (.int .i64 v) := by
  rw [cell_of_row _ _ _ _ _ _ (H.loc ⟨ub, stC U, 3⟩ (.head _)), ← hv]
  simpa using st_get hk
theorem mk_rep (z i : Nat) : Ty.mk (List.replicate z 0) i = 0 := by unfold Ty.mk; rw [List.getElem?_replicate]; split <;> rfl
theorem mk_set1 {U : List Int} {k : Nat} (h : k < U.length) : Ty.mk (U.set k 1) k = 1 := by unfold Ty.mk; simp [h]
theorem mk_set2 {U : List Int} {k i : Nat} (h : i ≠ k) : Ty.mk (U.set k 1) i = Ty.mk U i := by unfold Ty.mk; rw [List.getElem?_set_ne (Ne.symm h)]
theorem Free.put {U : List Int} {lo hi : Int} {k : Nat} (h : Free U lo k hi) (h1 : lo ≤ k) (hk : k < U.length) : Free (U.set k 1) lo (k + 1 : Nat) hi := fun i hi2 => by
  rw [mk_set2 (by omega)]
  exact h i (by omega)
set_option maxHeartbeats 32000000 in
theorem lap_go {w : World} {o : Option Addr} {cp : Nat} {l : List La} (H : TabR w o l) (hl : l.length ≤ rch) (q : Nat) (G0 : GoodP (l.map La.x)) (hq : q < l.length) (hf : fmA (l.map La.x) (q : Int) = 9) {s : Int → Int} (hs : Szs (l.map La.x) s) (hb : s (q : Int) ≤ 32768) : Calls Try.prog 10 #[.slice o l.length cp, .int .i64 q] w (SzO w (.bool true)) := by
  have hlen : l.length = (l.map La.x).length := (List.length_map _).symm
  rw [hlen] at hq
  (obtain ⟨T, hT⟩ : ∃ T, l.map La.x = T := ⟨_, rfl⟩; rw [show l.length = T.length by rw [← hT, List.length_map]]; have HT := hide H; have HTe := hide hT; have HLl := hide hl; have HC := hide (Cx.start w (fun _ => False)); have kT : (T.length : Int) ≤ 140737488351232 := by (have : T.length = l.length := by rw [← hT, List.length_map]); unfold rch at hl; omega)
  rw [hT] at G0 hq hf hs
  have HG := hide G0
  obtain ⟨ad, rfl, hfc⟩ := form_R hT H hq
  obtain ⟨B, hB⟩ : ∃ B, ad.add (q * 10) = B := ⟨_, rfl⟩
  rw [hB, hf] at hfc
  have HFc := hide hfc
  have j1 : (q : Int) < T.length := by omega
  have T0 : 0 < T.length := by omega
  obtain ⟨xq, hxq, hfq⟩ : ∃ x, T[q]? = some x ∧ x.fm = 9 := by
    obtain ⟨x, hx⟩ : ∃ x, T[q]? = some x := ⟨T[q], List.getElem?_eq_getElem hq⟩
    exact ⟨x, hx, by rw [fmA_at hx] at hf; exact hf⟩
  obtain ⟨na, hla, hch⟩ := Chn.start G0 hxq hfq hb
  have hmod := rec_mod hs hxq hfq hb
  obtain ⟨z, hz⟩ := Int.eq_ofNat_of_zero_le (hs.lo (q : Int))
  rw [hz] at hmod
  have z0 : z ≤ 32768 := by omega
  have z1 : (z : Int) ≤ 32768 := by omega
  have z2 : ¬ (32768 : Int) < z := by omega
  have zm : (z : Int).tmod 4 = 0 := by rw [Int.tmod_eq_emod_of_nonneg (by omega)]; exact hmod
  have HSz := hide hs
  have HQ := hide hq
  have HBq := hide hb
  have HZv := hide hz
  have HLa := hide hla
  have HXq := hide (And.intro hxq hfq)
  have HCh := hide hch
  have HF9 := hide hf
  have HSj := hide (show s (q : Int) ≤ z by omega)
  have HSq := hide (show s (q : Int) = z by omega)
  obtain ⟨ti, tz, t1, t2, t3, t4, t5⟩ := mkI
  have HM := hide (And.intro t1 (And.intro t2 (And.intro t3 (And.intro t4 t5))))
  clear H hl hT G0 hlen hfc hf hs hb hla hxq hfq hch hmod hz t1 t2 t3 t4 t5
  go_enter Try.func10, Try.ntmps10
  go_wp2_with (first | (go_at_call 12; refine (large_T cp HTe.out (HT.out.kept HC.out.grown) HLl.out).mono ?_; rintro e w1 ⟨d, rfl, hg, hd⟩; replace HC := hide (HC.out.g hg); clear hg; cases d <;> (first | (have HFw := hide (hd rfl); clear hd) | clear hd)) | (go_at_call 25; refine (wakes14 _).mono ?_; rintro e w1 ⟨rfl, hg⟩; replace HC := hide (HC.out.g hg); clear hg) | ((go_at_call 16; refine (rgood_at cp (by have h := HFw.out.tab HT.out; rw [HTe.out] at h; exact h.kept HC.out.grown)).mono ?_; rintro e w2 ⟨d, rfl, hg, hd⟩; replace HC := hide (HC.out.g hg); obtain rfl : d = true := hd.2 HG.out; clear hg hd); have f0 := HFc.out _ HC.out.grown; have bl := block_lt_of_cell f0) | (go_at_call 14; refine (copy_T cp HTe.out (HT.out.kept HC.out.grown) HFw.out).mono ?_; rintro e wc ⟨oi, ci, rfl, hg, ht, hci⟩; replace HC := hide (HC.out.g hg); have HTi := hide ht; have HCi := hide hci; have HG0 := hide HC.out.grown; replace HC := hide (Cx.start wc (fun _ => False)); obtain ⟨ai, rfl⟩ := HTi.out.some T0; clear hg ht hci f0 bl) | (go_at_call 26; refine (psize_good ci (HTi.out.kept HC.out.grown) HCi.out HG.out HSz.out HQ.out).mono ?_; rw [HZv.out]; rintro e w3 ⟨rfl, hg⟩; replace HC := hide (HC.out.g hg); clear hg) | (refine at_mks 42 rfl ?_; refine wl_mks rfl 42 _ _ rfl Try.underlying42 HM.out.1 HM.out.2.1 z rfl rfl (by rw [HM.out.2.2.2.1]; omega) (by rw [HM.out.2.2.1]; omega) (by omega) (stC (List.replicate z 0)) (by rw [HM.out.2.2.1]; exact made_0 HM.out.2.2.2.2 _) HC.out ?_; intro ub w' hn hc; (replace HC := hide hc; clear hc)))
  all_goals (try (go_ret; exact ⟨rfl, HC.out.grown⟩))
  clear HFc
  go_loopw [8, 9] (fun bv dv W => ∃ (j dp nj : Nat) (U : List Int), dp ≤ 10 ∧ j < T.length ∧ bv = .int .i64 j ∧ dv = .int .i64 dp ∧ Hid (Chn T s na q nj j) ∧ Hid (fmA T (j : Int) = 9) ∧ Hid (s (j : Int) ≤ z) ∧ Hid (U.length = z) ∧ Hid (Free U (s (j : Int)) (s (j : Int)) (s (j : Int))) ∧ Hid (Cx wc (fun _ => False) none [⟨ub, stC U, 3⟩] [] [] W)) (fun _ dv _ => 10 - (intOf dv).toNat)
  case atStart => exact ⟨q, 0, na, List.replicate z 0, by omega, hq, rfl, rfl, HCh, HF9, HSj, hide List.length_replicate, hide (fun k _ => mk_rep z k), HC⟩
  case round =>
    clear HC HCh HF9 HSj
    obtain ⟨j, dp, nj, U, hdp, hj, rfl, rfl, HCh, HF9, HSj, HUl, HFr, HC⟩ := hrel
    by_cases hd : dp < 10
    case neg =>
      have d1 : ¬ (dp : Int) < 10 := by omega
      clear hd
      go_wp2_with (go_at_call 25; refine (wakes14 _).mono ?_; rintro e w1 ⟨rfl, hg⟩; replace HC := hide (HC.out.g hg); clear hg)
      all_goals go_ret
      all_goals (exact ⟨rfl, gr_then HG0.out HC.out.grown⟩)
    have d1 : (dp : Int) < 10 := by omega
    obtain ⟨la, hla⟩ : ∃ x, l[j]? = some x := ⟨l[j]'(by rw [← HTe.out, List.length_map] at hj; exact hj), List.getElem?_eq_getElem _⟩
    have hx : T[j]? = some la.x := by rw [← HTe.out, List.getElem?_map, hla]; rfl
    have h9 : la.x.fm = 9 := by have := HF9.out; rw [fmA_at hx] at this; exact this
    obtain ⟨ad', e1, hcl⟩ := HT.out.row.el laC_len (by decide) hla
    cases e1
    have hrp := HT.out.parts la (List.mem_of_getElem? hla)
    have hrf := hrp.fl
    have hfn := hrp.fn
    obtain ⟨B, hB2⟩ : ∃ B, ad.add (j * 10) = B := ⟨_, rfl⟩
    rw [hB2] at hcl
    have HB := hide (fun W (hW : wc.grownBy W none) => by
      have h := ten_of (cells_on (ad := ad) hcl (gr_then HG0.out hW))
      exact And.intro h.2.2.2.2.2.1 h.2.2.2.2.2.2.1)
    have hbl := base_le HSz.out hx h9 (by have := HSj.out; omega)
    have h64 := (HG.out.loc.recPre HG.out.rank).fl j _ hx
    have hin := HG.out.loc.inP j _ hx
    have hsb := HSz.out.lo la.x.ba
    obtain ⟨⟨fm, md, nm, ln, el, ba, fl, pm, rs, ds⟩, fo, fc, po, pc⟩ := la
    dsimp only at h9 hrf hfn HB hbl h64 hin hsb
    subst h9
    rw [flsI rfl] at hin
    have HX := hide hx
    have HIn := hide hin
    have HO := hide hrf
    have HFn := hide hfn
    have jT : (j : Int) < T.length := by omega
    have k0 : (fl.length : Int) ≤ 64 := by omega
    have HBl := hide hbl
    have HFr0 := hide (show Free U (s ba) (s ba) (s (j : Int)) from fun k hk => HFr.out k (.inl (by omega)))
    clear hla hx hcl hrp hrf hfn hbl h64 hin HFr hsb
    go_wp2
    go_loopw [10] (fun iv W => ∃ (i : Nat) (U : List Int), i ≤ fl.length ∧ iv = .int .i64 i ∧ Hid (U.length = z) ∧ Hid (Free U (s ba) (layE s (s ba) ((fl.map (·.t)).take i)) (s (j : Int))) ∧ Hid (Cx wc (fun _ => False) none [⟨ub, stC U, 3⟩] [] [] W)) (fun iv _ => fl.length - (intOf iv).toNat)
    case atStart => exact ⟨0, U, by omega, rfl, HUl, HFr0, HC⟩
    case round =>
      clear HC HUl HFr0
      obtain ⟨i, U1, hi, rfl, HUl, HFr, HC⟩ := hrel
      (obtain ⟨c5, c6⟩ := HB.out _ HC.out.grown; have bl := block_lt_of_cell c5)
      by_cases hlt : i < fl.length
      case neg =>
        have q1 : ¬ (i : Int) < fl.length := by omega
        have HFe := hide (show Free U1 (s ba) (s ba) (s ba) from HFr.out.less (Int.le_refl _) (Int.le_refl _))
        clear hlt HFr
        by_cases b0 : ba = 0
        · subst b0
          go_wp2_with (go_at_call 25; refine (wakes14 _).mono ?_; rintro e w1 ⟨rfl, hg⟩; replace HC := hide (HC.out.g hg); clear hg)
          all_goals go_ret
          all_goals (exact ⟨rfl, gr_then HG0.out HC.out.grown⟩)
        · obtain ⟨m, hm, hp⟩ := HCh.out.next HSz.out HX.out rfl b0
          have hf9 : fmA T ba = 9 := HG.out.recB _ _ HX.out rfl b0
          obtain ⟨q2, rfl⟩ := Int.eq_ofNat_of_zero_le hp
          have hq2 : q2 < T.length := by
            have := (HIn.out (q2 : Int) (by simp)).2
            omega
          have b1 : ((q2 : Int) == 0) = false := by simpa using b0
          dsimp only at hm
          rw [Int.toNat_natCast] at hm
          have HM2 := hide hm
          have HF2 := hide hf9
          have HQ2 := hide hq2
          obtain ⟨E0, hE0⟩ : ∃ x, s (q2 : Int) = x := ⟨_, rfl⟩
          have e0 : ¬ (z : Int) < E0 := by have := HSj.out; have := HBl.out; omega
          have HE0 := hide hE0
          have HSk := hide (show s (q2 : Int) ≤ z by omega)
          clear b0 hm hp hf9 hq2 hE0
          go_wp2_with ((go_at_call 26; refine (psize_good ci (HTi.out.kept HC.out.grown) HCi.out HG.out HSz.out HQ2.out).mono ?_; rw [HE0.out]; rintro e w3 ⟨rfl, hg⟩; replace HC := hide (HC.out.g hg); clear hg); clear c5 c6 bl; (obtain ⟨c5, c6⟩ := HB.out _ HC.out.grown; have bl := block_lt_of_cell c5))
          exact ⟨⟨q2, dp + 1, m, U1, by omega, HQ2.out, rfl, by go_num, HM2, HF2, HSk, HUl, HFe, HC⟩, by simp [intOf]; omega⟩
      have q1 : (i : Int) < fl.length := by omega
      obtain ⟨⟨n, xx, t⟩, hxi⟩ : ∃ p, fl[i]? = some p := ⟨fl[i], List.getElem?_eq_getElem hlt⟩
      have ht := fl_t hxi
      obtain ⟨t0, t1⟩ := HIn.out t (List.mem_append.2 (.inl (List.mem_of_getElem? ht)))
      obtain ⟨t, rfl⟩ := Int.eq_ofNat_of_zero_le t0
      have HJ := hide (show t < T.length by omega)
      obtain ⟨pd, rfl, hel⟩ := HO.out.el flC_len (by decide) hxi
      obtain ⟨B3, hB3⟩ : ∃ B, pd.add (i * 3) = B := ⟨_, rfl⟩
      rw [hB3] at hel
      have HD := hide (fun W (hW : wc.grownBy W none) => And.intro (show W.cell? B3 = some (.string (bs n)) by
        have h0 := (gr_then HG0.out hW).cell (hel 0 _ rfl) (by simp)
        rw [Addr.add_zero'] at h0
        exact h0) (show W.cell? ⟨B3.block, B3.off + 2, none⟩ = some (.int .i64 (t : Int)) from (gr_then HG0.out hW).cell (hel 2 _ rfl) (by simp)))
      have HNl := hide (HFn.out _ (List.mem_of_getElem? hxi))
      obtain ⟨f1, f2⟩ := HCh.out.field HX.out hxi
      obtain ⟨p1, p2, p3, p4, p5⟩ := pos_bd HG.out HSz.out HX.out rfl HCh.out.le (i := i) (t := (t : Int)) ht
      have s0 := HSz.out.lo (t : Int)
      have s1 := HSz.out.lo ba
      dsimp only at f1 f2 p1 p2 p3 p4 p5
      obtain ⟨PI, hPI⟩ : ∃ x, posF s ⟨9, md, nm, ln, el, ba, fl, pm, rs, ds⟩ i (t : Int) = x := ⟨_, rfl⟩
      rw [hPI] at f1 f2 p1 p3 p4 p5
      obtain ⟨P, rfl⟩ := Int.eq_ofNat_of_zero_le (show 0 ≤ PI by omega)
      obtain ⟨v, hv⟩ := Int.eq_ofNat_of_zero_le s0
      rw [hv] at p3 p4 p5
      have HV := hide hv
      have p6 : (P : Int) + v ≤ z := by have := HSj.out; omega
      have p7 : ¬ (z : Int) < P + v := by omega
      have HO1 := hide (show FdI T s n (some ((P : Int), (t : Int))) q by rw [← f2]; exact fd_of HLa.out HXq.out.1 HXq.out.2)
      have HO2 := hide (show FdI T s n (some ((P : Int), (t : Int))) j by rw [← f1]; exact fd_of HCh.out.lv HX.out rfl)
      have hcase : ((1 : Int) < v ∧ (P : Int).tmod 4 = 0) ∨ ¬ (1 : Int) < v := by
        by_cases h : (1 : Int) < v
        · exact .inl ⟨h, by rw [Int.tmod_eq_emod_of_nonneg (by omega)]; exact p5 h⟩
        · exact .inr h
      have HP3 := hide (show (P : Int) + v = layE s (s ba) ((fl.map (·.t)).take (i + 1)) from p3)
      have HFk := hide (show Free U1 (s ba) (P : Int) (s (j : Int)) from fun k hk => HFr.out k (by (have := p1); unfold flT at this; dsimp only at this; omega))
      have HLo := hide (show s ba ≤ (P : Int) by omega)
      have HHi := hide (show (P : Int) + v ≤ s (j : Int) by omega)
      have HLej := hide HCh.out.le
      have HJj := hide hj
      clear hxi ht t0 t1 hel f1 f2 p1 p2 p3 p4 p5 hPI hv s0 s1 HFr
      (obtain ⟨d0, d2⟩ := HD.out _ HC.out.grown; have bl3 := block_lt_of_cell d0)
      rcases hcase with ⟨v1, v2⟩ | v1
      all_goals (have M1 := True.intro)
      all_goals (go_wp2_with (first | (clear M1; (go_at_call 28; refine (poff_good ci (HTi.out.kept HC.out.grown) HCi.out HG.out HSz.out HQ.out n HNl.out HBq.out HO1.out).mono ?_; unfold ansV; dsimp only; rintro e w3 ⟨rfl, hg⟩; replace HC := hide (HC.out.g hg); clear hg; clear c5 c6 bl d0 d2 bl3; (obtain ⟨c5, c6⟩ := HB.out _ HC.out.grown; have bl := block_lt_of_cell c5); (obtain ⟨d0, d2⟩ := HD.out _ HC.out.grown; have bl3 := block_lt_of_cell d0))) | (go_at_call 28; refine (poff_good ci (HTi.out.kept HC.out.grown) HCi.out HG.out HSz.out HJj.out n HNl.out HLej.out HO2.out).mono ?_; unfold ansV; dsimp only; rintro e w3 ⟨rfl, hg⟩; replace HC := hide (HC.out.g hg); clear hg; clear c5 c6 bl d0 d2 bl3; (obtain ⟨c5, c6⟩ := HB.out _ HC.out.grown; have bl := block_lt_of_cell c5); (obtain ⟨d0, d2⟩ := HD.out _ HC.out.grown; have bl3 := block_lt_of_cell d0)) | ((go_at_call 26; refine (psize_good ci (HTi.out.kept HC.out.grown) HCi.out HG.out HSz.out HJ.out).mono ?_; rw [HV.out]; rintro e w3 ⟨rfl, hg⟩; replace HC := hide (HC.out.g hg); clear hg); clear c5 c6 bl d0 d2 bl3; (obtain ⟨c5, c6⟩ := HB.out _ HC.out.grown; have bl := block_lt_of_cell c5); (obtain ⟨d0, d2⟩ := HD.out _ HC.out.grown; have bl3 := block_lt_of_cell d0))))
      all_goals (go_loopw [18] (fun kv W => ∃ (k : Nat) (U : List Int), P ≤ k ∧ k ≤ P + v ∧ kv = .int .i64 k ∧ Hid (U.length = z) ∧ Hid (Free U (s ba) (k : Int) (s (j : Int))) ∧ Hid (Cx wc (fun _ => False) none [⟨ub, stC U, 3⟩] [] [] W)) (fun kv _ => P + v - (intOf kv).toNat))
      all_goals (first | exact ⟨P, U1, Nat.le_refl _, by omega, rfl, HUl, HFk, HC⟩ | skip)
      all_goals
        clear HC HUl c5 c6 bl d0 d2 bl3
        obtain ⟨k, U2, hk1, hk2, rfl, HUl, HFr, HC⟩ := hrel
        by_cases hk : k < P + v
        · have w1 : (k : Int) < P + v := by omega
          have HLt := hide (show k < U2.length by rw [HUl.out]; omega)
          have HM0 := hide (show Ty.mk U2 k = 0 from HFr.out k (.inr ⟨Int.le_refl _, by have := HHi.out; omega⟩))
          have HLs := hide (show k < (U2.set k 1).length by rw [List.length_set]; exact HLt.out)
          have HMs := hide (mk_set1 HLt.out)
          have u0 := lap_cell HC.out HLt.out HM0.out
          have bl0 := block_lt_of_cell u0
          have kz : (k : Int) < z := by omega
          clear hk
          go_wp2_with (refine at_store 3 rfl ?_; refine wl_store (us := [.int .i64 1]) rfl 3 _ _ rfl rfl rfl tcI.sz rfl HC.out (by repeat (first | exact List.Mem.head _ | apply List.Mem.tail)) (st_put HLt.out 1) (by repeat (first | exact Upd.here _ _ _ | apply Upd.there)) ?_; intro w' hc; (replace HC := hide hc; clear hc); clear u0; have u0 := lap_cell HC.out HLs.out HMs.out; have bl0 := block_lt_of_cell u0)
          exact ⟨⟨k + 1, U2.set k 1, by omega, by omega, by go_num, hide (by rw [List.length_set]; exact HUl.out), hide (HFr.out.put (by have := HLo.out; omega) HLt.out), HC⟩, by simp [intOf]; omega⟩
        · have w1 : ¬ (k : Int) < P + v := by omega
          have HKe := hide (show (k : Int) = P + v by omega)
          clear hk
          go_wp2
          exact ⟨⟨i + 1, U2, by omega, by go_num, HUl, hide (by rw [← HP3.out, ← HKe.out]; exact HFr.out), HC⟩, by simp [intOf]; omega⟩
end Go.Proofs.Ytnolelgmcmgohaa.Ty
namespace Go.Proofs.Ytnolelgmcmgohaa.Ty
open Go.RowKit hiding Hid
open Go.Proofs.Ytnolelgmcmgohaa.Tx Go.Proofs.Ytnolelgmcmgohaa.Lx Go.Proofs.Ytnolelgmcmgohaa.Tr
set_option linter.unusedVariables false
set_option linter.unusedSimpArgs false

theorem lap_walk {w : World} {o : Option Addr} {cp : Nat} {l : List La} (H : TabR w o l) (hl : l.length ≤ rch) (a : Int) : Calls Try.prog 10 #[.slice o l.length cp, .int .i64 a] w (SzO w (.bool true)) := by
  by_cases h : GoodP (l.map La.x) ∧ inT l.length a = true
  case neg => exact lap_none H hl a h
  obtain ⟨G, hi⟩ := h
  obtain ⟨q, rfl, hq⟩ := in_nat hi
  by_cases hf : fmA (l.map La.x) (q : Int) = 9
  case neg => exact lap_form H hl q G hq hf
  obtain ⟨s, hs⟩ := szs_of G
  by_cases hb : s (q : Int) ≤ 32768
  · exact lap_go H hl q G hq hf hs hb
  · exact lap_big H hl q G hq hf hs (by omega)
end Go.Proofs.Ytnolelgmcmgohaa.Ty
