/-
  Tables as they are handed over; which are too large (package spinetlaw13).
-/
import Derived.Test.YthmldhppmpbadaaTg27
import Derived.Laws.BitsLemmas
namespace Go.Proofs.Ythmldhppmpbadaa.Ty
open Go.RowKit hiding Hid
open Go.Maps Go.Proofs.Ythmldhppmpbadaa.Tx Go.Proofs.Ythmldhppmpbadaa.Lx Go.Proofs.Ythmldhppmpbadaa.Tr Go.Proofs.Ythmldhppmpbadaa.Mp
set_option linter.unusedVariables false
set_option linter.unusedSimpArgs false
set_option maxRecDepth 100000

theorem wr_in {x : Int} (h0 : -9223372036854775808 ≤ x) (h1 : x ≤ 9223372036854775807) : IntKind.i64.wrap x = x := by rw [IntKind.wrap_i64]; omega
def rch : Nat := 140737488351232
structure Rp (w : World) (a : La) : Prop where
  fl : Cls w a.fo (a.x.fl.flatMap flC)
  pm : Cls w a.po (a.x.pm.flatMap pmC)
  nl : Nl a
  lf : a.x.fl.length ≤ rch
  lp : a.x.pm.length ≤ rch
  lm : a.x.md.length ≤ rch
  ln : a.x.nm.length ≤ rch
  fn : ∀ f ∈ a.x.fl, f.n.length ≤ lim
structure TabR (w : World) (o : Option Addr) (l : List La) : Prop where
  row : Cls w o (l.flatMap laC)
  parts : ∀ a ∈ l, Rp w a
theorem TabR.kept {w w' : World} {o : Option Addr} {l : List La} (h : TabR w o l) (hg : w.grownBy w' none) : TabR w' o l := ⟨h.row.kept hg, fun a ha => have k := h.parts a ha; ⟨k.fl.kept hg, k.pm.kept hg, k.nl, k.lf, k.lp, k.lm, k.ln, k.fn⟩⟩
def bigN (x : Tt) : Int := x.fl.length + x.pm.length + (x.nm.length : Int) / 50 + (x.md.length : Int) / 50
def sumN (l : List La) : Int := (l.map (fun a => bigN a.x)).foldr (· + ·) 0
theorem bigN_nn (x : Tt) : 0 ≤ bigN x := by unfold bigN; omega
theorem sum_app (a b : List La) : sumN (a ++ b) = sumN a + sumN b := by
  induction a with
  | nil => simp [sumN]
  | cons x a ih => unfold sumN at ih ⊢; simp only [List.cons_append, List.map_cons, List.foldr_cons]; rw [ih]; omega
theorem sum_nn (a : List La) : 0 ≤ sumN a := by
  induction a with
  | nil => simp [sumN]
  | cons x a ih => unfold sumN at ih ⊢; simp only [List.map_cons, List.foldr_cons]; have := bigN_nn x.x; omega
theorem sum_take {l : List La} {i : Nat} {a : La} (h : l[i]? = some a) : sumN (l.take (i + 1)) = sumN (l.take i) + bigN a.x := by
  rw [List.take_add_one, h, Option.toList_some, sum_app]
  simp [sumN]
theorem sum_mem {l : List La} {a : La} (h : a ∈ l) : bigN a.x ≤ sumN l := by
  obtain ⟨b, c, rfl⟩ := List.append_of_mem h
  rw [sum_app]
  have h1 := sum_nn b
  have h2 := sum_nn c
  have : sumN (a :: c) = bigN a.x + sumN c := by simp [sumN]
  omega
/- A table that is not too large. -/
structure Few (l : List La) : Prop where
  le : l.length ≤ 300
  sum : sumN l ≤ 3000
theorem Few.small {w : World} {o : Option Addr} {l : List La} (h : Few l) (H : TabR w o l) : TabL w o l ∧ (∀ a ∈ l, Nl a) ∧ (∀ a ∈ l, a.x.fl.length ≤ 900000 ∧ a.x.pm.length ≤ 900000) := by
  have hb : ∀ a ∈ l, a.x.fl.length ≤ 3000 ∧ a.x.pm.length ≤ 3000 := fun a ha => by
    have := sum_mem ha
    have := h.sum
    unfold bigN at *
    omega
  refine ⟨⟨H.row, fun a ha => ⟨(H.parts a ha).fl, (H.parts a ha).pm, ⟨?_, ?_, ?_, ?_, (H.parts a ha).fn⟩⟩⟩, fun a ha => (H.parts a ha).nl, fun a ha => ?_⟩
  · have := (H.parts a ha).lm; unfold rch at this; unfold lim; omega
  · have := (H.parts a ha).ln; unfold rch at this; unfold lim; omega
  · have := (hb a ha).1; omega
  · have := (hb a ha).2; omega
  · have := hb a ha; omega
theorem Few.tab {w : World} {o : Option Addr} {l : List La} (h : Few l) (H : TabR w o l) : Tab w o (l.map La.x) := ⟨by rw [List.length_map]; have := h.le; omega, l, rfl, (h.small H).1⟩
theorem four_c {w : World} {A : Addr} {a : La} (h : ∀ j u, (laC a)[j]? = some u → w.cell? (A.add j) = some u) : w.cell? ⟨A.block, A.off + 1, none⟩ = some (.string (bs a.x.md)) ∧ w.cell? ⟨A.block, A.off + 2, none⟩ = some (.string (bs a.x.nm)) ∧ w.cell? ⟨A.block, A.off + 6, none⟩ = some (.slice a.fo a.x.fl.length a.fc) ∧ w.cell? ⟨A.block, A.off + 7, none⟩ = some (.slice a.po a.x.pm.length a.pc) := by
  obtain ⟨_, c1, c2, _, _, _, c6, c7, _, _⟩ := ten_of h
  exact ⟨c1, c2, c6, c7⟩
def LgO (w : World) (l : List La) (e : Ending) (w' : World) : Prop := ∃ d, e = .returned (.bool d) ∧ w.grownBy w' none ∧ (d = false → Few l)
set_option maxHeartbeats 8000000 in
theorem large_at {w : World} {o : Option Addr} {l : List La} (cp : Nat) (H : TabR w o l) (hl : l.length ≤ rch) : Calls Try.prog 23 #[.slice o l.length cp] w (LgO w l) := by
  have HT := hide H
  have kl : (l.length : Int) ≤ 140737488351232 := by unfold rch at hl; omega
  clear H hl
  by_cases h300 : 300 < l.length
  · have j0 : (300 : Int) < l.length := by omega
    clear h300
    go_enter Try.func23, Try.ntmps23
    go_wp2
    go_ret
    exact ⟨true, rfl, grown_refl w _, fun e => by cases e⟩
  have j0 : ¬ (300 : Int) < l.length := by omega
  have HL := hide (show l.length ≤ 300 by omega)
  clear h300
  go_enter Try.func23, Try.ntmps23
  go_wp2
  go_loopw [3, 4] (fun nv iv W => ∃ (i : Nat) (n : Int), i ≤ l.length ∧ iv = .int .i64 i ∧ nv = .int .i64 n ∧ 0 ≤ n ∧ n ≤ 3000 ∧ Hid (n = sumN (l.take i)) ∧ Hid (w.grownBy W none)) (fun _ iv _ => l.length - (intOf iv).toNat)
  case atStart => exact ⟨0, 0, by omega, rfl, rfl, by omega, by omega, hide (by simp [sumN]), hide (grown_refl w _)⟩
  case round =>
    obtain ⟨i, n, hi, rfl, rfl, hn0, hn1, HS, HG⟩ := hrel
    by_cases hlt : i < l.length
    · have j1 : (i : Int) < l.length := by omega
      obtain ⟨la, hx⟩ : ∃ x, l[i]? = some x := ⟨l[i], List.getElem?_eq_getElem hlt⟩
      have hr := HT.out.parts la (List.mem_of_getElem? hx)
      obtain ⟨ad, rfl, hel⟩ := HT.out.row.el laC_len (by decide) hx
      obtain ⟨B, hB⟩ : ∃ B, ad.add (i * 10) = B := ⟨_, rfl⟩
      rw [hB] at hel
      obtain ⟨c1, c2, c6, c7⟩ := four_c (fun j u hu => HG.out.cell (hel j u hu) (by simp))
      have bl := block_lt_of_cell c1
      have p1 := hr.lf
      have p2 := hr.lp
      have p3 := hr.lm
      have p4 := hr.ln
      have HX := hide hx
      have z1 := bs_size la.x.nm
      have z2 := bs_size la.x.md
      clear hx hr hel
      obtain ⟨F, hF⟩ : ∃ n, la.x.fl.length = n := ⟨_, rfl⟩
      obtain ⟨G, hG⟩ : ∃ n, la.x.pm.length = n := ⟨_, rfl⟩
      obtain ⟨M, hM⟩ : ∃ n, la.x.md.length = n := ⟨_, rfl⟩
      obtain ⟨N, hN⟩ : ∃ n, la.x.nm.length = n := ⟨_, rfl⟩
      rw [hF] at c6 p1
      rw [hG] at c7 p2
      rw [hM] at p3 z2
      rw [hN] at p4 z1
      unfold rch at p1 p2 p3 p4
      have HE := hide (show bigN la.x = F + G + (N : Int) / 50 + (M : Int) / 50 by unfold bigN; rw [hF, hG, hM, hN])
      clear hF hG hM hN
      obtain ⟨Q, hQ⟩ : ∃ q, (N : Int) / 50 = q := ⟨_, rfl⟩
      obtain ⟨R, hR⟩ : ∃ q, (M : Int) / 50 = q := ⟨_, rfl⟩
      rw [hQ, hR] at HE
      have t1 : (N : Int).tdiv 50 = Q := by rw [Int.tdiv_eq_ediv_of_nonneg (by omega)]; exact hQ
      have t2 : (M : Int).tdiv 50 = R := by rw [Int.tdiv_eq_ediv_of_nonneg (by omega)]; exact hR
      have b1 : 0 ≤ Q ∧ Q ≤ N := by omega
      have b2 : 0 ≤ R ∧ R ≤ M := by omega
      clear hQ hR
      obtain ⟨b11, b12⟩ := b1
      obtain ⟨b21, b22⟩ := b2
      obtain ⟨S1, hS1⟩ : ∃ s, (F : Int) + G = s := ⟨_, rfl⟩
      obtain ⟨S2, hS2⟩ : ∃ s, S1 + Q = s := ⟨_, rfl⟩
      obtain ⟨S3, hS3⟩ : ∃ s, S2 + R = s := ⟨_, rfl⟩
      obtain ⟨S4, hS4⟩ : ∃ s, n + S3 = s := ⟨_, rfl⟩
      have w1 : IntKind.i64.wrap ((F : Int) + G) = S1 := by rw [hS1]; exact wr_in (by omega) (by omega)
      have w2 : IntKind.i64.wrap (S1 + Q) = S2 := by rw [hS2]; exact wr_in (by omega) (by omega)
      have w3 : IntKind.i64.wrap (S2 + R) = S3 := by rw [hS3]; exact wr_in (by omega) (by omega)
      have w4 : IntKind.i64.wrap (n + S3) = S4 := by rw [hS4]; exact wr_in (by omega) (by omega)
      have HS4 := hide (show S4 = n + bigN la.x by rw [HE.out]; omega)
      have b4 : 0 ≤ S4 := by omega
      clear hS1 hS2 hS3 hS4
      by_cases h3 : 3000 < S4
      · go_wp2
        go_quiet (fail)
        go_wp2
        go_ret
        exact ⟨true, rfl, gr_then HG.out (drewN_g _ nq), fun e => by cases e⟩
      · go_wp2
        go_quiet (fail)
        go_wp2
        exact ⟨⟨i + 1, S4, by omega, by go_num, rfl, by omega, by omega, hide (by rw [HS4.out, sum_take HX.out, HS.out]), hide (gr_then HG.out (drewN_g _ nq))⟩, by simp [intOf]; omega⟩
    · have HI := hide (show i = l.length by omega)
      have q1 : ¬ (i : Int) < l.length := by omega
      clear hlt
      go_wp2
      go_ret
      refine ⟨false, rfl, HG.out, fun _ => ⟨HL.out, ?_⟩⟩
      have := HS.out
      rw [HI.out, List.take_of_length_le (Nat.le_refl _)] at this
      omega
end Go.Proofs.Ythmldhppmpbadaa.Ty
